import PyProof.Rows.All
import Wide.All
import OpenK.AllK
import Wide.FinOn
import Lean
import PyProof.EqAt
import PyProof.EqKinds
import PyProof.TupleCall
import PyProof.ReprRoads
import PyProof.EqLayable
import PyProof.NeData
import PyProof.Rows.TupDisplay
import PySem.Challenge.RW_landsentered_k15_shapes_within_shapes
set_option Elab.async false
set_option linter.all false
set_option maxRecDepth 100000
set_option compiler.extract_closed false
set_option bootstrap.genMatcherCode false
theorem qI {p:Prop}:p=p:=propext Iff.rfl
theorem zz0 (h:True:=by first | exact .inl rfl | exact .inr rfl | assumption):True:=h
theorem zz1 (h:True:=by decide):True:=h
theorem zz2 (h:True:=by intro _; rfl):True:=h
theorem zz3 (h:True:=by rfl):True:=h
theorem zz4 (h:True:=by with_unfolding_all rfl):True:=h
theorem zz5 (h:True:=by first | exact Or.inl rfl | exact Or.inr (Or.inl rfl) | exact Or.inr (Or.inr rfl)):True:=h
theorem zz6 (h:True:=by first | exact N3 _ | rfl):True:=h
theorem zz7 (h:True:=by intro _ _; rfl):True:=h
theorem zz8 (h:True:=by first | exact Or.inl rfl | exact Or.inr rfl):True:=h
theorem zz9 (h:True:=by intro _ _; with_unfolding_all rfl):True:=h
theorem zz10 (h:True:=by first | decide | lia):True:=h
theorem zz11 (h:True:=by exact rfl):True:=h
theorem zz12 (h:True:=by decide +kernel):True:=h
local macro_rules | `(tactic| walk_at "k")=>`(tactic| decide +kernel)
local macro_rules | `(tactic| walk_at "s")=>`(tactic| exact ⟨rfl,rfl,rfl,by walk_at "k",rfl,by walk_at "k",by walk_at "k"⟩)
local macro_rules | `(tactic| walk_at "w")=>`(tactic| (first | decide | lia))
abbrev Fk:=PySem.W.Frag
namespace L2
open PySem PySem.Spec PyProof.Rows
abbrev Key:=Sum Int Str
noncomputable def BP:Key->Value->Bool
 | .inl k,v=>Value.isInt k v
 | .inr x,v=>Value.isStrOf x v
noncomputable def ZgG (w:World):Key->Int
 | .inl k=>hashInt k
 | .inr x=>hashStr w x
theorem ZN:∀ {k:Key} {v:Value},BP k v = true->(∃ i t,k = Sum.inl i /\ v = Value.int i t) \/ (∃ x t,k = Sum.inr x /\ v = Value.str x t)
 | .inl i,v,h=>by
  obtain ⟨t,e⟩:=Value.isInt_shape (k:=i) (v:=v) h;exact .inl ⟨i,t,rfl,e⟩
 | .inr x,v,h=>by
  obtain ⟨t,e⟩:=Value.isStrOf_shape (x:=x) (v:=v) h;exact .inr ⟨x,t,rfl,e⟩
theorem FJ (i:Int) (t:Tok):BP (.inl i) (.int i t) = true:=by simp [BP,Value.isInt]
theorem Cm (x:Str) (t:Tok):BP (.inr x) (.str x t) = true:=by simp [BP,Value.isStrOf]
theorem ZaS (a b:Int):decide ((Sum.inl a:Key) = Sum.inl b) = (a == b):=by
 by_cases e:a = b
 ·subst e; simp
 ·have h:¬ (Sum.inl a:Key) = Sum.inl b:=λ q=>e (Sum.inl.inj q);rw [decide_eq_false h];exact (beq_eq_false_iff_ne.mpr e).symm
theorem TF (a b:Str):decide ((Sum.inr a:Key) = Sum.inr b) = decide (a = b):=by
 by_cases e:a = b
 ·subst e; simp
 ·have h:¬ (Sum.inr a:Key) = Sum.inr b:=λ q=>e (Sum.inr.inj q);rw [decide_eq_false h,decide_eq_false e]
theorem ZaT (a:Int) (b:Str):decide ((Sum.inl a:Key) = Sum.inr b) = false:=decide_eq_false (λ q=>nomatch q)
theorem Tz (a:Str) (b:Int):decide ((Sum.inr a:Key) = Sum.inl b) = false:=decide_eq_false (λ q=>nomatch q)
noncomputable def ZW (prog:Program) (w:World):PySem.KeyKind prog w Key where
 is:=BP
 hash:=ZgG w
 inj:=λ v a b ha hb=>by
  rcases ZN ha with ⟨i,t,rfl,rfl⟩ | ⟨x,t,rfl,rfl⟩
  ·rcases ZN hb with ⟨j,u,rfl,e⟩ | ⟨y,u,rfl,e⟩
   ·injection e with e1 _; rw [e1]
   ·exact nomatch e
  ·rcases ZN hb with ⟨j,u,rfl,e⟩ | ⟨y,u,rfl,e⟩
   ·exact nomatch e
   ·injection e with e1 _; rw [e1]
 byValue:=λ k v h=>by
  rcases ZN h with ⟨i,t,rfl,rfl⟩ | ⟨x,t,rfl,rfl⟩ <;> rfl
 pyHash:=λ hv h=>by
  rcases ZN hv with ⟨i,t,rfl,rfl⟩ | ⟨x,t,rfl,rfl⟩
  ·exact wpAny_pyHash_int h
  ·exact wpAny_pyHash_str h
 eqBool:=λ hu hv h=>by
  rcases ZN hu with ⟨i,t,rfl,rfl⟩ | ⟨x,t,rfl,rfl⟩
  ·rcases ZN hv with ⟨j,u,rfl,rfl⟩ | ⟨y,u,rfl,rfl⟩
   ·rw [ZaS] at h; exact wpAny_eqBool_int h
   ·rw [ZaT] at h; exact SeqAt.EqAt.int_str i t y u _ _ _ _ h
  ·rcases ZN hv with ⟨j,u,rfl,rfl⟩ | ⟨y,u,rfl,rfl⟩
   ·rw [Tz] at h; exact SeqAt.EqAt.str_int x t j u _ _ _ _ h
   ·rw [TF] at h; exact wpAny_eqBool_str h
 «strs» := λ k x t v h=>by
  rcases ZN h with ⟨i,u,rfl,e⟩ | ⟨y,u,rfl,e⟩
  ·exact nomatch e
  ·injection e with e1 _
   subst e1;cases v <;> rfl
theorem Ux (prog:Program) (w:World) (i:Int) (t:Tok):(ZW prog w).is (.inl i) (.int i t) = true:=FJ i t
theorem W6 (prog:Program) (w:World) (x:Str) (t:Tok):(ZW prog w).is (.inr x) (.str x t) = true:=Cm x t
inductive V where
 | non | bl (b:Bool) | int (i:Int) | str (x:Str) | byt (b:Array UInt8) | flt (b:UInt64) | ref (a:Addr) | ty (n:String)
 deriving DecidableEq
def RelV:V->Value->Prop
 | .non,u=>u = Value.none
 | .bl b,u=>u = Value.bool b
 | .int i,u=>∃ t,u = Value.int i t
 | .str x,u=>∃ t,u = Value.str x t
 | .byt b,u=>∃ t,u = Value.bytes b t
 | .flt b,u=>∃ t,u = Value.float b t
 | .ref a,u=>u = Value.ref a
 | .ty n,u=>u = Value.type n
abbrev Vals:List V->List Value->Prop:=Paired RelV
theorem Vals.length {xs:List V} {us:List Value} (r:Vals xs us):xs.length = us.length:=Paired.length r
theorem Vals.get:∀ {xs:List V} {us:List Value} {i:Nat} {x:V},Vals xs us->xs[i]? = some x->∃ u,us[i]? = some u /\ RelV x u
 | _,_,_,_,.nil,e=>by simp at e
 | _,_,0,_,.cons r _,e=>by simp at e; subst e; exact ⟨_,rfl,r⟩
 | _,_,i + 1,x,.cons _ t,e=>by
  obtain ⟨u,h1,h2⟩:=Vals.get (i:=i) (x:=x) t (by simpa using e);exact ⟨u,by simpa using h1,h2⟩
theorem Vals.set {x:V} {u:Value} (r:RelV x u):∀ {xs:List V} {us:List Value} (i:Nat),Vals xs us->Vals (xs.set i x) (us.set i u)
 | _,_,_,.nil=>.nil
 | _,_,0,.cons _ t=>.cons r t
 | _,_,i + 1,.cons q t=>.cons q (Vals.set r i t)
theorem Vals.append:∀ {xs ys:List V} {us ws:List Value},Vals xs us->Vals ys ws->Vals (xs ++ ys) (us ++ ws)
 | _,_,_,_,.nil,s=>s
 | _,_,_,_,.cons r t,s=>.cons r (Vals.append t s)
theorem Vals.take:∀ {xs:List V} {us:List Value} (n:Nat),Vals xs us->Vals (xs.take n) (us.take n)
 | _,_,0,_=>.nil
 | _,_,_ + 1,.nil=>.nil
 | _,_,n + 1,.cons r t=>.cons r (Vals.take n t)
theorem Vals.drop:∀ {xs:List V} {us:List Value} (n:Nat),Vals xs us->Vals (xs.drop n) (us.drop n)
 | _,_,0,r=>r
 | _,_,_ + 1,.nil=>.nil
 | _,_,n + 1,.cons _ t=>Vals.drop n t
theorem Vals.none_of:∀ {xs:List V} {us:List Value} {i:Nat},Vals xs us->xs[i]? = none->us[i]? = none:=λ {xs us i} r e=>by
 have h1:=r.length;have h2:xs.length <= i:=List.getElem?_eq_none_iff.mp e;exact List.getElem?_eq_none_iff.mpr (by lia)
def ZaU:Option V->Option Value->Prop
 | some v,some u=>RelV v u
 | none,none=>True
 | _,_=>False
def KV {κ:Type}:List (κ × V)->List (κ × Value)->Prop:=Paired λ (p:κ × V) (q:κ × Value)=>p.1 = q.1 /\ RelV p.2 q.2
noncomputable def kV:Key->V
 | .inl i=>.int i
 | .inr x=>.str x
inductive HO where
  | lst (xs:List V)
  | tup (xs:List V)
  | dK (kvs:List (Key × V)) | dT (kvs:List (List Key × V))
  | set (S:Int->Bool) (n:Nat)
  | ins (C dx:Addr) (fs:List (Str × V))
  | own (x:Addr)
  | xd (fs:List (Str × V))
  | met (f x:Addr)
  | rng (lo hi:Int)
  | frz (o:Obj) (u:HO)
  | tbl (ps:Array Value)
  | ext (φ:Heap->Prop)
abbrev Hp:=Addr->Option HO
noncomputable def upd (H:Hp) (a:Addr) (o:HO):Hp:=λ b=>if b = a then some o else H b
theorem Z4 {H:Hp} {a:Addr} {o:HO}:upd H a o a = some o:=by unfold upd; rw [if_pos rfl]
theorem ZH {H:Hp} {a b:Addr} {o:HO} (h:b ≠ a):upd H a o b = H b:=by unfold upd; rw [if_neg h]
theorem Zd7 {H:Hp} {a b:Addr} {o u:HO} (h:H a = some o) (h':H b = some u) (d:o ≠ u):a ≠ b:=by
 intro e; subst e; rw [h] at h'; exact d (Option.some.inj h')
theorem Zx {H:Hp} {a b:Addr} {o:HO} (h:H a = some o) (h':H b = none):a ≠ b:=by
 intro e; subst e; rw [h] at h'; cases h'
section
variable (P:Program) (w:World)
def Qd (H:Hp) (h:Heap) (a:Addr):HO->Prop
 | .lst xs=>xs.length <= sizeLine /\ ∃ (its:List Value) (n:Nat),Vals xs its /\ h.get? a = some { cls:=.type "list",data:=.seq its.toArray n }
 | .tup xs=>xs.length <= sizeLine /\ ∃ its:List Value,Vals xs its /\ IsTup h a its.toArray
 | .dK kvs=>kvs.length <= sizeLine /\ (a == sysModules) = false /\ ∃ vs,KV kvs vs /\ h.DictOf (ZW P w) a vs
 | .dT kvs=>kvs.length <= sizeLine /\ (a == sysModules) = false /\ ∃ xs:List (List Key × Addr × Value),
   Paired (λ (p:List Key × V) (q:List Key × Addr × Value)=>p.1 = q.1 /\ H q.2.1 = some (.tup (p.1.map kV)) /\ RelV p.2 q.2.2) kvs xs /\
   ∃ o es ep,h.get? a = some o /\ o.ExactDict /\ o.data = .dict es ep /\ es.toList = xs.map (entryOfKey (tupleKind (ZW P w))) /\ (xs.map (·.1)).Nodup
 | .set S n=>h.SetOf (intKind P w) a S n
 | .ins C dx fs=>H dx = some (.own a) /\ fs.length <= 1000 /\ dx ≠ a /\ h.get? a = some (PySem.W.instObj C dx) /\
   ∃ mA,h.Ns1 dx mA /\ (∀ f,ZaU (fs.lookup f) (mA f)) /\ PySem.Within mA (fs.map (·.1))
 | .own _=>∃ o,h.get? a = some o
 | .xd fs=>∃ mA,h.Ns1 a mA /\ ∀ f,ZaU (fs.lookup f) (mA f)
 | .rng lo hi=>∃ t u v,h.get? a = some { cls:=.type "range",data:=.fields #[.int lo t,.int hi u,.int 1 v] }
 | .frz o u=>h.get? a = some o /\ Qd H h a u
 | .tbl ps=>h.get? a = some { cls:=.none,data:=.fields ps }
 | .met f x=>h.get? a = some (PySem.W.methodObj (.ref f) (.ref x))
 | .ext φ=>φ h /\ (∃ o,h.get? a = some o) /\ ∀ h1 h2:Heap,φ h1->(∀ o,h1.get? a = some o->h2.get? a = some o)->φ h2
def HOk (H:Hp) (h:Heap):Prop:=∀ a o,H a = some o->Qd P w H h a o
end
section
variable {P:Program} {w:World} {H H':Hp} {h h':Heap} {a:Addr} {o:HO}
theorem Qd.lt (x:Qd P w H h a o):a < h.objs.size:=by
 cases o with
 | lst xs=>obtain ⟨_,_,_,_,e⟩:=x; exact Heap.lt_size e
 | tup xs=>obtain ⟨_,_,_,p⟩:=x; exact p.lt
 | dK kvs=>obtain ⟨_,_,_,_,o,_,_,e,_⟩:=x; exact Heap.lt_size e
 | dT kvs=>obtain ⟨_,_,_,_,o,_,_,e,_⟩:=x; exact Heap.lt_size e
 | set S n=>obtain ⟨o,_,_,_,e,_⟩:=x; exact Heap.lt_size e
 | ins C dx fs=>obtain ⟨_,_,_,e,_⟩:=x; exact Heap.lt_size e
 | own y=>obtain ⟨_,e⟩:=x; exact Heap.lt_size e
 | xd fs=>obtain ⟨_,⟨_,_,_,e,_⟩,_⟩:=x; exact Heap.lt_size e
 | rng lo hi=>obtain ⟨_,_,_,e⟩:=x; exact Heap.lt_size e
 | frz ob u=>obtain ⟨e,_⟩:=x; exact Heap.lt_size e
 | tbl ps=>exact Heap.lt_size (show h.get? a = some _ from x)
 | met f y=>exact Heap.lt_size (show h.get? a = some _ from x)
 | ext φ=>obtain ⟨_,⟨_,e⟩,_⟩:=x; exact Heap.lt_size e
theorem Paired.NY {α β:Type} {F G:α->β->Prop}:∀ {l₁:List α} {l₂:List β},Paired F l₁ l₂->(∀ a b,F a b->G a b)->Paired G l₁ l₂
 | _,_,.nil,_=>.nil
 | _,_,.cons r t,f=>.cons (f _ _ r) (Paired.NY t f)
theorem Qd.OS (x:Qd P w H h a o) (k:∀ b u,(b = a \/ H b = some (.own a))->h.get? b = some u->h'.get? b = some u)
  (ho:∀ b,H b = some (.own a)->H' b = some (.own a)) (ht:∀ b xs,H b = some (.tup xs)->H' b = some (.tup xs)):Qd P w H' h' a o:=by
 induction o with
 | lst xs=>obtain ⟨z,its,n,r,e⟩:=x; exact ⟨z,its,n,r,k _ _ (.inl rfl) e⟩
 | tup xs=>obtain ⟨z,its,r,ob,e,c⟩:=x; exact ⟨z,its,r,ob,k _ _ (.inl rfl) e,c⟩
 | dK kvs=>obtain ⟨z,y,vs,r,ob,es,ep,e,c⟩:=x; exact ⟨z,y,vs,r,ob,es,ep,k _ _ (.inl rfl) e,c⟩
 | dT kvs=>
  obtain ⟨z,y,xs,r,ob,es,ep,e,c⟩:=x;exact ⟨z,y,xs,Paired.NY r λ p q z=>⟨z.1,ht _ _ z.2.1,z.2.2⟩,ob,es,ep,k _ _ (.inl rfl) e,c⟩
 | set S n=>obtain ⟨ob,es,ep,t,e,c⟩:=x; exact ⟨ob,es,ep,t,k _ _ (.inl rfl) e,c⟩
 | ins C dx fs=>
  obtain ⟨d,z,ne,e,mA,⟨od,es,ep,e2,c⟩,r⟩:=x;exact ⟨ho _ d,z,ne,k _ _ (.inl rfl) e,mA,⟨od,es,ep,k _ _ (.inr d) e2,c⟩,r⟩
 | own y=>obtain ⟨ob,e⟩:=x; exact ⟨ob,k _ _ (.inl rfl) e⟩
 | xd fs=>obtain ⟨mA,⟨od,es,ep,e,c⟩,r⟩:=x; exact ⟨mA,⟨od,es,ep,k _ _ (.inl rfl) e,c⟩,r⟩
 | rng lo hi=>obtain ⟨t,u,v,e⟩:=x; exact ⟨t,u,v,k _ _ (.inl rfl) e⟩
 | frz ob u ih=>obtain ⟨e,q⟩:=x; exact ⟨k _ _ (.inl rfl) e,ih q⟩
 | tbl ps=>
  have e:h.get? a = some { cls:=.none,data:=.fields ps }:=x;show h'.get? a = some { cls:=.none,data:=.fields ps };exact k a _ (.inl rfl) e
 | met f y=>
  have e:h.get? a = some (PySem.W.methodObj (.ref f) (.ref y)):=x;show h'.get? a = some (PySem.W.methodObj (.ref f) (.ref y));exact k a _ (.inl rfl) e
 | ext φ=>obtain ⟨p,⟨o,e⟩,st⟩:=x; exact ⟨st _ _ p λ o q=>k _ _ (.inl rfl) q,⟨o,k _ _ (.inl rfl) e⟩,st⟩
theorem HOk.lt (x:HOk P w H h) (e:H a = some o):a < h.objs.size:=(x a o e).lt
theorem HOk.fresh (x:HOk P w H h) (e:h.objs.size <= a):H a = none:=by
 cases q:H a with
 | none=>rfl
 | some u=>exact absurd (Nat.lt_of_lt_of_le (x.lt q) e) (Nat.lt_irrefl _)
theorem HOk.kept (x:HOk P w H h) (k:∀ b u,h.get? b = some u->h'.get? b = some u):HOk P w H h':=λ a o e=>
 (x a o e).OS (λ b u _ q=>k b u q) (λ _ q=>q) λ _ _ q=>q
theorem HOk.laid (x:HOk P w H h) (k:∀ b u,h.get? b = some u->h'.get? b = some u) (hp:h.objs.size <= a) (new:Qd P w (upd H a o) h' a o):HOk P w (upd H a o) h':=λ b u e=>by
 have hn:=x.fresh hp
 by_cases hb:b = a
 ·subst hb; rw [Z4] at e; cases e; exact new
 ·rw [ZH hb] at e;exact (x b u e).OS (λ c v _ q=>k c v q) (λ c q=>by rw [ZH (Zx q hn)]; exact q) λ c xs q=>by rw [ZH (Zx q hn)]; exact q
end
def Rd (H:Hp) (a:Addr) (u:HO):Prop:=H a = some u \/ ∃ o,H a = some (.frz o u)
theorem Rd.of {H:Hp} {a:Addr} {u:HO} (h:H a = some u):Rd H a u:=.inl h
theorem Rd.ok {P:Program} {w:World} {H:Hp} {h:Heap} {a:Addr} {u:HO} (r:Rd H a u) (x:HOk P w H h):Qd P w H h a u:=by
 rcases r with r | ⟨o,r⟩
 ·exact x a u r
 ·obtain ⟨_,q⟩:=x a _ r;exact q
def Mut:Option HO->Prop
 | some (.lst _)=>True
 | some (.dK _)=>True
 | some (.dT _)=>True
 | some (.set _ _)=>True
 | some (.ins _ _ _)=>True
 | some (.ext _)=>True
 | _=>False
section
variable {P:Program} {w:World} {H:Hp} {h h':Heap} {x e:Addr} {o':HO}
theorem HOk.write (ok:HOk P w H h) (mu:Mut (H x)) (he:e = x \/ H e = some (.own x)) (k:∀ b u,b ≠ e->h.get? b = some u->h'.get? b = some u) (heo:∃ u,h'.get? e = some u)
  (new:Qd P w (upd H x o') h' x o'):HOk P w (upd H x o') h':=λ b u q=>by
 have nown:∀ c y,H c = some (.own y)->c ≠ x:=λ c y r z=>by subst z; rw [r] at mu; exact mu
 have ntup:∀ c xs,H c = some (.tup xs)->c ≠ x:=λ c xs r z=>by subst z; rw [r] at mu; exact mu
 by_cases hb:b = x
 ·subst hb; rw [Z4] at q; cases q; exact new
 ·rw [ZH hb] at q
  by_cases hbe:b = e
  ·have q':H b = some (.own x):=by
    rcases he with z | z
    ·exact absurd (hbe.trans z) hb
    ·rw [hbe]; exact z
   rw [q] at q'; cases q';obtain ⟨v,hv⟩:=heo;exact ⟨v,by rw [hbe]; exact hv⟩
  ·refine (ok b u q).OS (λ c v hc r=>k c v ?_ r) (λ c r=>by rw [ZH (nown c b r)]; exact r) λ c xs r=>by rw [ZH (ntup c xs r)]; exact r
   rcases hc with rfl | hc
   ·exact hbe
   ·rintro rfl
    rcases he with z | z
    ·exact nown c b hc z
    ·rw [hc] at z; cases z; exact hb rfl
end
structure Un (fs ex:List Addr) (H H':Hp) (h h':Heap):Prop where
 keep:∀ b o,h.get? b = some o->H b = none->b ∉ fs->b ∉ ex->h'.get? b = some o
 slot:∀ b o,h.get? b = some o->H b = none->b ∈ fs->b ∉ ex->∃ sl,h'.get? b = some { o with slots:=sl }
 free:∀ b o,h.get? b = some o->H b = none->b ∉ ex->H' b = none
 there:∀ b o,h.get? b = some o->b ∉ ex->∃ o',h'.get? b = some o'
 tups:∀ b xs,H b = some (.tup xs)->H' b = some (.tup xs)
 frzs:∀ b o u,H b = some (.frz o u)->H' b = some (.frz o u)
 tbls:∀ b ps,H b = some (.tbl ps)->∃ more,H' b = some (.tbl (ps ++ more))
section
variable {fs fs' ex ex':List Addr} {H H1 H2:Hp} {h h1 h2 h':Heap} {a x e:Addr} {o:HO}
theorem Un.any (u:Un fs ex H H1 h h1) {b:Addr} {ob:Obj} (q:h.get? b = some ob) (n:H b = none) (hx:b ∉ ex):∃ sl,h1.get? b = some { ob with slots:=sl }:=by
 by_cases hb:b ∈ fs
 ·exact u.slot b ob q n hb hx
 ·exact ⟨ob.slots,u.keep b ob q n hb hx⟩
theorem Un.trans (a:Un fs ex H H1 h h1) (b:Un fs ex H1 H2 h1 h2):Un fs ex H H2 h h2 where
 keep:=λ c ob q n hc hx=>b.keep c ob (a.keep c ob q n hc hx) (a.free c ob q n hx) hc hx
 slot:=λ c ob q n hc hx=>by
  obtain ⟨sl,e1⟩:=a.slot c ob q n hc hx;obtain ⟨sl',e2⟩:=b.slot c _ e1 (a.free c ob q n hx) hc hx;exact ⟨sl',e2⟩
 free:=λ c ob q n hx=>by
  obtain ⟨o',e1⟩:=a.there c ob q hx;exact b.free c o' e1 (a.free c ob q n hx) hx
 there:=λ c ob q hx=>by
  obtain ⟨o',e1⟩:=a.there c ob q hx;exact b.there c o' e1 hx
 tups:=λ c xs q=>b.tups c xs (a.tups c xs q)
 frzs:=λ c ob xs q=>b.frzs c ob xs (a.frzs c ob xs q)
 tbls:=λ c ps q=>by
  obtain ⟨m1,e1⟩:=a.tbls c ps q;obtain ⟨m2,e2⟩:=b.tbls c _ e1;exact ⟨m1 ++ m2,by rw [e2,Array.append_assoc]⟩
theorem Un.kept (k:∀ b u,h.get? b = some u->h'.get? b = some u):Un fs ex H H h h':=
 ⟨λ b ob q _ _ _=>k b ob q,λ b ob q _ _ _=>⟨ob.slots,k b ob q⟩,λ _ _ _ n _=>n,λ b ob q _=>⟨ob,k b ob q⟩,λ _ _ q=>q,λ _ _ _ q=>q,λ _ ps q=>⟨#[],by rw [q]; simp⟩⟩
theorem Un.refl:Un fs ex H H h h:=Un.kept λ _ _ q=>q
theorem Un.laid (k:∀ b u,h.get? b = some u->h'.get? b = some u) (hp:h.objs.size <= a) (hn:H a = none):Un fs ex H (upd H a o) h h' where
 keep:=λ b u q _ _ _=>k b u q
 slot:=λ b u q _ _ _=>⟨u.slots,k b u q⟩
 free:=λ b u q n _=>by rw [ZH (Nat.ne_of_lt (Nat.lt_of_lt_of_le (Heap.lt_size q) hp))]; exact n
 there:=λ b u q _=>⟨u,k b u q⟩
 tups:=λ b xs q=>by rw [ZH (Zx q hn)]; exact q
 frzs:=λ b u xs q=>by rw [ZH (Zx q hn)]; exact q
 tbls:=λ b ps q=>⟨#[],by rw [ZH (Zx q hn),q]; simp⟩
theorem Un.write (mu:Mut (H x)) (he:e = x \/ H e = some (.own x)) (k:∀ b u,b ≠ e->h.get? b = some u->h'.get? b = some u) (heo:∃ u,h'.get? e = some u):Un fs ex H (upd H x o) h h':=by
 have hx:∀ b,H b = none->b ≠ x:=λ b n z=>by subst z; rw [n] at mu; exact mu
 have hb:∀ b,H b = none->b ≠ e:=λ b n z=>by
  subst z
  rcases he with r | r
  ·exact hx b n r
  ·rw [n] at r; cases r
 have hm:∀ b u,H b = some u->¬ Mut (some u)->b ≠ x:=λ b u q nm z=>by subst z; rw [q] at mu; exact nm mu
 refine ⟨λ b u q n _ _=>k b u (hb b n) q,λ b u q n _ _=>⟨u.slots,k b u (hb b n) q⟩,λ b u q n _=>by rw [ZH (hx b n)]; exact n,λ b u q _=>?_,
  λ b xs q=>by rw [ZH (hm b _ q λ z=>z)]; exact q,λ b u xs q=>by rw [ZH (hm b _ q λ z=>z)]; exact q,λ b ps q=>⟨#[],by rw [ZH (hm b _ q λ z=>z),q]; simp⟩⟩
 by_cases hbe:b = e
 ·subst hbe; exact heo
 ·exact ⟨u,k b u hbe q⟩
end
noncomputable def trk (h:Heap) (H:Hp):List Addr:=(List.range h.objs.size).filter λ a=>(H a).isSome
noncomputable def MG (h:Heap) (H:Hp):Heap:=PySem.W.hideAll h (trk h H)
theorem FA (h:Heap) (H:Hp):(MG h H).objs.size = h.objs.size:=PySem.W.hideAll_size _ _
theorem HJ {h:Heap} {H:Hp} {b:Addr} {o:Obj} (e:h.get? b = some o) (n:H b = none):(MG h H).get? b = some o:=
 PySem.W.hideAll_get _ e λ hm=>by
  have q:(H b).isSome = true:=(List.mem_filter.mp hm).2;rw [n] at q; simp at q
theorem R3 {h:Heap} {H:Hp} {b:Addr} {o:Obj} (e:(MG h H).get? b = some o):h.get? b = some o /\ H b = none:=by
 have e':h.get? b = some o:=PySem.W.of_hideAll (trk h H) e;refine ⟨e',?_⟩;cases q:H b with
 | none=>rfl
 | some x=>
  have hm:b ∈ trk h H:=List.mem_filter.mpr ⟨List.mem_range.mpr (Heap.lt_size e'),by simp [q]⟩;have z:(MG h H).get? b = none:=PySem.W.hideAll_none (trk h H) hm;rw [z] at e; cases e
noncomputable def Rg (g h:Heap) (L:Addr):List (Addr × Obj):=(List.range h.objs.size).filterMap λ a=>if a = L \/ (g.get? a).isSome = true then none else (h.get? a).map λ o=>(a,o)
noncomputable def rest (g h:Heap) (L d:Addr):List (Addr × Obj):=(Rg g h L).filter λ p=>decide (p.1 ≠ d)
structure Mod (K:Fk) (mg:Str->Option Value) (base:Heap):Prop where
 kin:K.In base
 glob:base.Ns mainGlobals mg
 blt:∃ mb,base.Ns builtinsNs mb /\ ∀ x:Str,x ≠ "__name__" -> mb x = bootBuiltins x
 nolimit:base.NoLimit
structure Cx where
 prog:Program
 w:World
 K:Fk
 mg:Str->Option Value
 base:Heap
 A:Around
 N:List Str
 s₀:Shared
 H₀:Hp
 env:Env
 outer:List Env
 stack:List Env
 ex:List Addr
 fn:Str->Bool
 calm:Bool
 pn:List (Addr × Obj)
 xe:Value->Shared->Prop
noncomputable def frs (l:List Env):List Addr:=l.filterMap (·.frame)
noncomputable abbrev Cx.fs (X:Cx):List Addr:=frs X.outer
def Vis (sc:Scope) (x:Str):Prop:=sc.names.lookup x = some .local \/ sc.names.lookup x = some .cell \/ sc.names.lookup x = some .free
def Loc (sc:Scope) (x:Str):Prop:=sc.names.lookup x = some .local \/ sc.names.lookup x = some .cell
def Look (env:Env) (h:Heap) (m:Str->Option Value) (x:Str) (u:Value):Prop:=
 (env.kindOf x = some .local /\ m x = some u) \/ ((env.kindOf x = some .cell \/ env.kindOf x = some .free) /\ ∃ c,env.cells.lookup x = some c /\ h.IsCell c (some u))
structure Cx.Ok (X:Cx):Prop where
 mod:Mod X.K X.mg X.base
 kind:X.env.scope.kind = .function
 glob:X.env.globals = mainGlobals
 blt:X.env.builtins = builtinsNs
 above:X.s₀.heap.objs.size <= X.env.locals
 inj:∀ x y c,X.env.cells.lookup x = some c->X.env.cells.lookup y = some c->x = y
 has:∀ x,(X.env.kindOf x = some .cell \/ X.env.kindOf x = some .free)->∃ c,X.env.cells.lookup x = some c
 cab:∀ x c,X.fn x = true->X.env.cells.lookup x = some c->X.s₀.heap.objs.size <= c
 hd:X.calm = true->X.A.handled = none
 frames:X.A.frames = some X.stack
 stk:X.stack = X.outer \/ (X.stack = X.env :: X.outer /\ X.env.frame = some X.env.locals)
 exf:∀ b ∈ X.ex,b ≠ X.env.locals /\ ∀ x c,X.env.cells.lookup x = some c->c ≠ b
 bs:∀ b o,X.base.get? b = some o->X.s₀.heap.get? b = some o /\ X.H₀ b = none
 bsz:X.base.objs.size <= X.s₀.heap.objs.size
 noex:∀ b o,X.base.get? b = some o->b ∉ X.ex
 exfs:∀ b ∈ X.ex,b ∉ X.fs
 Cd:X.s₀.heap.FunFrames X.base X.outer
 frf:∀ b ∈ X.fs,X.H₀ b = none
structure Inv (X:Cx) (pins:List (Addr × Obj)) (Z:List (Option V)) (H:Hp) (s:Shared):Prop where
 ok:X.Ok
 os:s.os = X.s₀.os
 bare:AllBare s.gens
 base:Un X.fs X.ex X.H₀ H X.s₀.heap s.heap
 loc:∃ m,s.heap.Ns X.env.locals m /\ ∀ (i:Nat) (x:Str) (v:V),X.N[i]? = some x->Z[i]? = some (some v)->Vis X.env.scope x->∃ u,RelV v u /\ Look X.env s.heap m x u
 cell:∀ x c,X.env.cells.lookup x = some c->∃ v,s.heap.IsCell c v
 free:H X.env.locals = none
 freeC:∀ x c,X.env.cells.lookup x = some c->H c = none
 pin:∀ p ∈ X.pn ++ pins,s.heap.get? p.1 = some p.2 /\ H p.1 = none /\ p.1 ≠ X.env.locals /\ p.1 ∉ X.fs /\ ∀ v,p.2.data ≠ .cell v
 hok:HOk X.prog X.w H s.heap
 len:Z.length = X.N.length
section
variable {X:Cx} {pins:List (Addr × Obj)} {Z:List (Option V)} {H H':Hp} {s:Shared} {h':Heap}
theorem Cx.Ok.Zgx (ok:X.Ok) {b:Addr} {o:Obj} (e:X.base.get? b = some o):b ∉ X.fs:=λ hb=>by
 have:=(ok.Cd.mem hb).1;rw [e] at this; cases this
theorem Inv.bs (I:Inv X pins Z H s):∀ b o,X.base.get? b = some o->s.heap.get? b = some o /\ H b = none:=λ b o e=>
 ⟨I.base.keep b o (I.ok.bs b o e).1 (I.ok.bs b o e).2 (I.ok.Zgx e) (I.ok.noex b o e),I.base.free b o (I.ok.bs b o e).1 (I.ok.bs b o e).2 (I.ok.noex b o e)⟩
theorem Inv.bk (I:Inv X pins Z H s):∀ b o,X.base.get? b = some o->s.heap.get? b = some o:=λ b o e=>(I.bs b o e).1
theorem Inv.mod (I:Inv X pins Z H s):Mod X.K X.mg X.base:=I.ok.mod
theorem Inv.kIn (I:Inv X pins Z H s):X.K.In s.heap:=I.ok.mod.kin.keeps I.bk
theorem Inv.lt (I:Inv X pins Z H s):X.env.locals < s.heap.objs.size:=let ⟨_,hn,_⟩:=I.loc; hn.lt
theorem Inv.sz (I:Inv X pins Z H s):X.s₀.heap.objs.size <= s.heap.objs.size:=Nat.le_trans I.ok.above (Nat.le_of_lt I.lt)
theorem Inv.Zgj (I:Inv X pins Z H s) {a:Addr} (h:s.heap.objs.size <= a):a ∉ X.fs:=λ hb=>by
 obtain ⟨_,o,ho,_⟩:=I.ok.Cd.mem hb;exact absurd (Nat.lt_of_lt_of_le (Heap.lt_size ho) (Nat.le_trans I.sz h)) (Nat.lt_irrefl _)
theorem Inv.cne (I:Inv X pins Z H s):∀ x c,X.env.cells.lookup x = some c->c ≠ X.env.locals:=λ x c e z=>by
 obtain ⟨v,o,ho,hd⟩:=I.cell x c e;obtain ⟨m,⟨o',es,ep,ho',hd',_⟩,_⟩:=I.loc;rw [z,ho'] at ho; cases ho; rw [hd'] at hd; cases hd
theorem Inv.Cd (I:Inv X pins Z H s):s.heap.FunFrames X.base X.outer:=by
 have all:∀ (l:List Env),(∀ b ∈ frs l,b ∈ X.fs)->X.s₀.heap.FunFrames X.base l->s.heap.FunFrames X.base l:=by
  intro l
  induction l with
  | nil=>intro _ _; trivial
  | cons env r ih=>
   intro hs hl;obtain ⟨hk,⟨L,o,hf,hn,ho,hd⟩,hr⟩:=hl;have hL:L ∈ X.fs:=hs L (by unfold frs; rw [List.filterMap_cons,hf]; exact List.mem_cons_self);obtain ⟨sl,e⟩:=I.base.slot L o ho (I.ok.frf L hL) hL λ z=>I.ok.exfs L z hL;exact ⟨hk,⟨L,_,hf,hn,e,hd⟩,ih (λ b hb=>hs b (by unfold frs; rw [List.filterMap_cons,hf]; exact List.mem_cons_of_mem _ hb)) hr⟩
 exact all X.outer (λ _ hb=>hb) I.ok.Cd
theorem Inv.stack (I:Inv X pins Z H s):s.heap.FunFrames X.base X.stack:=by
 rcases I.ok.stk with e | ⟨e,hf⟩
 ·rw [e]; exact I.Cd
 ·rw [e];obtain ⟨m,hn,_⟩:=I.loc;refine .cons (by rw [I.ok.kind]; decide) hf hn ?_ I.Cd;exact Heap.get?_none_of_le (Nat.le_trans I.ok.bsz I.ok.above)
theorem Inv.Eu (I:Inv X pins Z H s):∀ b ∈ frs X.stack,b ∈ X.env.locals :: X.fs:=λ b hb=>by
 rcases I.ok.stk with e | ⟨e,hf⟩
 ·rw [e] at hb; exact List.mem_cons_of_mem _ hb
 ·rw [e] at hb;unfold frs at hb;rw [List.filterMap_cons,hf] at hb;exact hb
theorem Inv.Cg (I:Inv X pins Z H s):∀ b ∈ frs X.stack,H b = none:=λ b hb=>by
 rcases List.mem_cons.mp (I.Eu b hb) with e | hb
 ·rw [e]; exact I.free
 ·obtain ⟨_,o,ho,_⟩:=I.ok.Cd.mem hb;exact I.base.free b o ho (I.ok.frf b hb) λ z=>I.ok.exfs b z hb
theorem Inv.step {g':Array GenState} {t':Nat} {d':Drawn} {ch:List Addr} (I:Inv X pins Z H s)
  (hch:∀ b ∈ ch,(b ∈ X.ex \/ X.s₀.heap.objs.size <= b) /\ b ≠ X.env.locals /\ (∀ x c,X.env.cells.lookup x = some c->c ≠ b) /\ ∀ p ∈ X.pn ++ pins,p.1 ≠ b)
  (keep:∀ b o,b ≠ X.env.locals->b ∉ X.fs->b ∉ ch->s.heap.get? b = some o->H b = none->h'.get? b = some o)
  (slot:∀ b o,b ≠ X.env.locals->b ∈ X.fs->b ∉ ch->s.heap.get? b = some o->H b = none->∃ sl,h'.get? b = some { o with slots:=sl }) (free:∀ b o,b ∉ ch->s.heap.get? b = some o->H b = none->H' b = none)
  (there:∀ b o,b ∉ ch->s.heap.get? b = some o->∃ o',h'.get? b = some o')
  (tups:∀ b xs,H b = some (.tup xs)->H' b = some (.tup xs)) (frzs:∀ b o u,H b = some (.frz o u)->H' b = some (.frz o u)) (tbls:∀ b ps,H b = some (.tbl ps)->∃ more,H' b = some (.tbl (ps ++ more)))
  (ns:∀ m,s.heap.Ns X.env.locals m->h'.Ns X.env.locals m) (hok:HOk X.prog X.w H' h') (hg:AllBare g') :
  Inv X pins Z H' { s with heap:=h',gens:=g',drawn:=d',toks:=t' }:=by
 have neL:∀ b o,X.s₀.heap.get? b = some o->b ≠ X.env.locals:=λ b o e=>Nat.ne_of_lt (Nat.lt_of_lt_of_le (Heap.lt_size e) I.ok.above);have neC:∀ b o,X.s₀.heap.get? b = some o->b ∉ X.ex->b ∉ ch:=λ b o e hx hb=>by
  rcases (hch b hb).1 with z | z
  ·exact hx z
  ·exact absurd (Nat.lt_of_lt_of_le (Heap.lt_size e) z) (Nat.lt_irrefl _)
 have cellK:∀ x c,X.env.cells.lookup x = some c->∀ v,s.heap.IsCell c v->h'.IsCell c v:=λ x c e v ⟨o,ho,hd⟩=>by
  have nch:c ∉ ch:=λ z=>(hch c z).2.2.1 x c e rfl
  by_cases hc:c ∈ X.fs
  ·obtain ⟨sl,q⟩:=slot c o (I.cne x c e) hc nch ho (I.freeC x c e);exact ⟨_,q,hd⟩
  ·exact ⟨o,keep c o (I.cne x c e) hc nch ho (I.freeC x c e),hd⟩
 refine ⟨I.ok,I.os,hg,⟨λ b o e n hb hx=>?_,λ b o e n hb hx=>?_,λ b o e n hx=>?_,λ b o e hx=>?_,λ b xs e=>tups b xs (I.base.tups b xs e),λ b o xs e=>frzs b o xs (I.base.frzs b o xs e),λ b ps e=>?_⟩,?_,λ x c e=>?_,?_,λ x c e=>?_,λ p hp=>?_,hok,I.len⟩
 ·exact keep b o (neL b o e) hb (neC b o e hx) (I.base.keep b o e n hb hx) (I.base.free b o e n hx)
 ·obtain ⟨sl,e1⟩:=I.base.slot b o e n hb hx;obtain ⟨sl',e2⟩:=slot b _ (neL b o e) hb (neC b o e hx) e1 (I.base.free b o e n hx);exact ⟨sl',e2⟩
 ·obtain ⟨o',e1⟩:=I.base.there b o e hx;exact free b o' (neC b o e hx) e1 (I.base.free b o e n hx)
 ·obtain ⟨o',e1⟩:=I.base.there b o e hx;exact there b o' (neC b o e hx) e1
 ·obtain ⟨m1,e1⟩:=I.base.tbls b ps e;obtain ⟨m2,e2⟩:=tbls b _ e1;exact ⟨m1 ++ m2,by rw [e2,Array.append_assoc]⟩
 ·obtain ⟨m,hn,hl⟩:=I.loc;refine ⟨m,ns m hn,λ i x v e1 e2 e3=>?_⟩;obtain ⟨u,r,l⟩:=hl i x v e1 e2 e3;refine ⟨u,r,?_⟩
  rcases l with l | ⟨k,c,e,z⟩
  ·exact .inl l
  ·exact .inr ⟨k,c,e,cellK x c e _ z⟩
 ·obtain ⟨v,z⟩:=I.cell x c e;exact ⟨v,cellK x c e v z⟩
 ·obtain ⟨m,⟨o,_,_,ho,_⟩,_⟩:=I.loc;exact free _ o (λ z=>(hch _ z).2.1 rfl) ho I.free
 ·obtain ⟨v,o,ho,hd⟩:=I.cell x c e;exact free c o (λ z=>(hch c z).2.2.1 x c e rfl) ho (I.freeC x c e)
 ·obtain ⟨e,n,ne,nf,d⟩:=I.pin p hp;have nch:p.1 ∉ ch:=λ z=>(hch p.1 z).2.2.2 p hp rfl;exact ⟨keep p.1 p.2 ne nf nch e n,free p.1 p.2 nch e n,ne,nf,d⟩
theorem Inv.un {t':Nat} (I:Inv X pins Z H s) (u:Un X.fs [] H H' s.heap h') (hok:HOk X.prog X.w H' h'):Inv X pins Z H' { s with heap:=h',toks:=t' }:=by
 obtain ⟨m,⟨o,es,ep,ho,r⟩,_⟩:=id I.loc;obtain ⟨sl,hL⟩:=u.any ho I.free (by simp)
 exact I.step (g':=s.gens) (d':=s.drawn) (ch:=[]) (λ _ z=>nomatch z) (λ b o _ hb _ e n=>u.keep b o e n hb (by simp)) (λ b o _ hb _ e n=>u.slot b o e n hb (by simp)) (λ b o _ e n=>u.free b o e n (by simp)) (λ b o _ e=>u.there b o e (by simp)) u.tups u.frzs u.tbls (λ m' hm=>by
  obtain ⟨o',es',ep',ho',r'⟩:=hm;rw [ho] at ho'; cases ho'
  exact ⟨_,es',ep',hL,r'⟩) hok I.bare
theorem Inv.call {g':Array GenState} {t':Nat} {d':Drawn} {ch:List Addr} (I:Inv X pins Z H s) (u:Un (frs X.stack) ch H H' s.heap h') (hok:HOk X.prog X.w H' h') (hg:AllBare g')
  (hch:∀ b ∈ ch,(b ∈ X.ex \/ X.s₀.heap.objs.size <= b) /\ b ≠ X.env.locals /\ (∀ x c,X.env.cells.lookup x = some c->c ≠ b) /\ ∀ p ∈ X.pn ++ pins,p.1 ≠ b) :
  Inv X pins Z H' { s with heap:=h',gens:=g',drawn:=d',toks:=t' }:=by
 obtain ⟨m,⟨o,es,ep,ho,r⟩,_⟩:=id I.loc;obtain ⟨sl,hL⟩:=u.any ho I.free λ z=>(hch _ z).2.1 rfl
 exact I.step (ch:=ch) hch (λ b o hL hb hc e n=>u.keep b o e n (λ z=>(List.mem_cons.mp (I.Eu b z)).elim hL hb) hc) (λ b o _ _ hc e n=>u.any e n hc) (λ b o hc e n=>u.free b o e n hc) (λ b o hc e=>u.there b o e hc) u.tups u.frzs u.tbls (λ m' hm=>by
  obtain ⟨o',es',ep',ho',r'⟩:=hm;rw [ho] at ho'; cases ho'
  exact ⟨_,es',ep',hL,r'⟩) hok hg
theorem Inv.turned {t':Nat} {it:Addr} (I:Inv X pins Z H s) (k:∀ b o,b ≠ it->s.heap.get? b = some o->h'.get? b = some o) (hn:H it = none) (hL:it ≠ X.env.locals)
  (h1:it ∈ X.ex \/ X.s₀.heap.objs.size <= it) (h2:∀ x c,X.env.cells.lookup x = some c->c ≠ it) (h3:∀ p ∈ X.pn ++ pins,p.1 ≠ it):Inv X pins Z H { s with heap:=h',toks:=t' }:=by
 have nit:∀ b u,H b = some u->b ≠ it:=λ b u e z=>by rw [z,hn] at e; cases e
 refine I.step (g':=s.gens) (d':=s.drawn) (ch:=[it]) (λ b hb=>?_) (λ b o _ _ hc e _=>k b o (λ z=>hc (by simp [z])) e) (λ b o _ _ hc e _=>⟨o.slots,k b o (λ z=>hc (by simp [z])) e⟩) (λ _ _ _ _ n=>n)
  (λ b o hc e=>⟨o,k b o (λ z=>hc (by simp [z])) e⟩) (λ _ _ e=>e) (λ _ _ _ e=>e) (λ b ps e=>⟨#[],by rw [e]; simp⟩) (λ m hm=>?_) (λ b u e=>?_) I.bare
 ·have e:b = it:=by simpa using hb
  subst e;exact ⟨h1,hL,h2,h3⟩
 ·obtain ⟨o,es,ep,ho,r⟩:=hm;exact ⟨o,es,ep,k _ o (Ne.symm hL) ho,r⟩
 ·refine (I.hok b u e).OS (λ c v hc q=>k c v ?_ q) (λ _ q=>q) λ _ _ q=>q
  rcases hc with z | z
  ·rw [z]; exact nit b u e
  ·exact nit c _ z
theorem Inv.tok (I:Inv X pins Z H s) (t:Nat):Inv X pins Z H { s with toks:=t }:=I.un (h':=s.heap) (t':=t) Un.refl I.hok
theorem Inv.kept {t':Nat} (I:Inv X pins Z H s) (k:∀ b u,s.heap.get? b = some u->h'.get? b = some u):Inv X pins Z H { s with heap:=h',toks:=t' }:=I.un (Un.kept k) (I.hok.kept k)
theorem Inv.laid {a:Addr} {o:HO} {t':Nat} (I:Inv X pins Z H s) (k:∀ b u,s.heap.get? b = some u->h'.get? b = some u) (hp:s.heap.objs.size <= a) (new:Qd X.prog X.w (upd H a o) h' a o) :
  Inv X pins Z (upd H a o) { s with heap:=h',toks:=t' }:=I.un (Un.laid k hp (I.hok.fresh hp)) (I.hok.laid k hp new)
theorem Inv.write {x e:Addr} {o:HO} {t':Nat} (I:Inv X pins Z H s) (mu:Mut (H x)) (he:e = x \/ H e = some (.own x)) (k:∀ b u,b ≠ e->s.heap.get? b = some u->h'.get? b = some u) (heo:∃ u,h'.get? e = some u)
  (new:Qd X.prog X.w (upd H x o) h' x o):Inv X pins Z (upd H x o) { s with heap:=h',toks:=t' }:=I.un (Un.write mu he k heo) (I.hok.write mu he k heo new)
theorem Inv.YI {pins':List (Addr × Obj)} (I:Inv X pins Z H s) (h:∀ p ∈ pins',s.heap.get? p.1 = some p.2 /\ H p.1 = none /\ p.1 ≠ X.env.locals /\ p.1 ∉ X.fs /\ ∀ v,p.2.data ≠ .cell v):Inv X pins' Z H s:=
 ⟨I.ok,I.os,I.bare,I.base,I.loc,I.cell,I.free,I.freeC,λ p hp=>(List.mem_append.mp hp).elim (λ z=>I.pin p (List.mem_append_left _ z)) (h p),I.hok,I.len⟩
theorem GU {N:List Str} (hN:N.Nodup) {i j:Nat} {x:Str} (a:N[i]? = some x) (b:N[j]? = some x):i = j:=by
 obtain ⟨h1,e1⟩:=List.getElem?_eq_some_iff.mp a;obtain ⟨h2,e2⟩:=List.getElem?_eq_some_iff.mp b;exact (List.getElem_inj hN).mp (e1.trans e2.symm)
theorem Ce {M:Model} {A:Around} {E:Value->Shared->Prop} {i:Nat} {x:Str} {v:V} {u:Value} {Q:Unit->Shared->Prop} (I:Inv X pins Z H s) (hN:X.N.Nodup) (hi:X.N[i]? = some x) (hx:Loc X.env.scope x) (r:RelV v u)
  (h:∀ s',Inv X pins (Z.set i (some v)) H s'->(∃ a,Heap.SameBut a s.heap s'.heap /\ (a = X.env.locals \/ X.env.cells.lookup x = some a))->Q () s') (hf:autoParam (X.fn x = true \/ X.env.scope.names.lookup x = some .local) zz0._auto_1):wpAny M A (storeName X.env x u) Q E s:=by
 obtain ⟨m,hn,hl⟩:=id I.loc;have hcls:(X.env.scope.kind == .class || (X.env.scope.kind == .module && X.env.locals != X.env.globals)) = false:=by rw [I.ok.kind]; rfl
 have hiσ:i < Z.length:=by rw [I.len]; exact (List.getElem?_eq_some_iff.mp hi).1
 have cne:=I.cne;have tracked:∀ {a:Addr} {h':Heap},(∃ o,s.heap.get? a = some o /\ H a = none)->Heap.SameBut a s.heap h'->HOk X.prog X.w H h':=λ {a h'} ha hs b ob e=>by
  obtain ⟨_,_,hfree⟩:=ha;refine (I.hok b ob e).OS (λ c w' hc q=>(hs.2 c ?_).trans q) (λ _ q=>q) λ _ _ q=>q;rintro rfl
  rcases hc with rfl | hc
  ·rw [hfree] at e; cases e
  ·rw [hfree] at hc; cases hc
 rcases hx with hk | hk
 ·refine wpAny_storeName_local hk hn (λ h' hn' hs=>?_) hcls;obtain ⟨oL,_,_,hoL,_⟩:=id hn;refine h _ ⟨I.ok,I.os,I.bare,⟨λ b o e n hb hx=>?_,λ b o e n hb hx=>?_,I.base.free,λ b o e hx=>?_,I.base.tups,I.base.frzs,I.base.tbls⟩,⟨_,hn',λ j y v' e1 e2 e3=>?_⟩,λ y c e=>?_,I.free,I.freeC,λ p hp=>?_,tracked ⟨oL,hoL,I.free⟩ hs,by simpa using I.len⟩ ⟨_,hs,.inl rfl⟩
  ·exact (hs.2 b (Nat.ne_of_lt (Nat.lt_of_lt_of_le (Heap.lt_size e) I.ok.above))).trans (I.base.keep b o e n hb hx)
  ·obtain ⟨sl,e1⟩:=I.base.slot b o e n hb hx;exact ⟨sl,(hs.2 b (Nat.ne_of_lt (Nat.lt_of_lt_of_le (Heap.lt_size e) I.ok.above))).trans e1⟩
  ·obtain ⟨o',e1⟩:=I.base.there b o e hx;exact ⟨o',(hs.2 b (Nat.ne_of_lt (Nat.lt_of_lt_of_le (Heap.lt_size e) I.ok.above))).trans e1⟩
  ·by_cases hj:j = i
   ·subst hj;rw [hi] at e1; cases e1;rw [List.getElem?_set_self hiσ] at e2;cases e2;exact ⟨u,r,.inl ⟨hk,by simp⟩⟩
   ·rw [List.getElem?_set_ne (Ne.symm hj)] at e2;obtain ⟨u',r',q⟩:=hl j y v' e1 e2 e3;refine ⟨u',r',?_⟩
    rcases q with ⟨k,e⟩ | ⟨k,c,e,z⟩
    ·refine .inl ⟨k,?_⟩;have:y ≠ x:=λ e=>hj (GU hN e1 (e ▸ hi));simp [this,e]
    ·exact .inr ⟨k,c,e,z.sameBut hs (cne y c e)⟩
  ·obtain ⟨w',z⟩:=I.cell y c e;exact ⟨w',z.sameBut hs (cne y c e)⟩
  ·obtain ⟨e,n,ne,nf,d⟩:=I.pin p hp;exact ⟨(hs.2 p.1 ne).trans e,n,ne,nf,d⟩
 ·have hfn:X.fn x = true:=by
   rcases hf with z | z
   ·exact z
   ·rw [z] at hk; cases hk
  obtain ⟨c,hc⟩:=I.ok.has x (.inl hk);obtain ⟨w',z⟩:=I.cell x c hc;refine wpAny_storeName_cell I.ok.kind hk hc z (λ h' hc' hs=>?_);obtain ⟨oc,hoc,hocd⟩:=id z;refine h { s with heap:=h' } ⟨I.ok,I.os,I.bare,⟨λ b o e n hb hx=>?_,λ b o e n hb hx=>?_,I.base.free,λ b o e hx=>?_,I.base.tups,I.base.frzs,I.base.tbls⟩,⟨m,hn.sameBut hs (Ne.symm (cne x c hc)),λ j y v' e1 e2 e3=>?_⟩,λ y c' e=>?_,I.free,I.freeC,λ p hp=>?_,tracked ⟨oc,hoc,I.freeC x c hc⟩ hs,by simpa using I.len⟩ ⟨c,hs,.inr hc⟩
  ·exact (hs.2 b (Nat.ne_of_lt (Nat.lt_of_lt_of_le (Heap.lt_size e) (I.ok.cab x c hfn hc)))).trans (I.base.keep b o e n hb hx)
  ·obtain ⟨sl,e1⟩:=I.base.slot b o e n hb hx;exact ⟨sl,(hs.2 b (Nat.ne_of_lt (Nat.lt_of_lt_of_le (Heap.lt_size e) (I.ok.cab x c hfn hc)))).trans e1⟩
  ·obtain ⟨o',e1⟩:=I.base.there b o e hx;exact ⟨o',(hs.2 b (Nat.ne_of_lt (Nat.lt_of_lt_of_le (Heap.lt_size e) (I.ok.cab x c hfn hc)))).trans e1⟩
  ·by_cases hj:j = i
   ·subst hj;rw [hi] at e1; cases e1;rw [List.getElem?_set_self hiσ] at e2;cases e2;exact ⟨u,r,.inr ⟨.inl hk,c,hc,hc'⟩⟩
   ·rw [List.getElem?_set_ne (Ne.symm hj)] at e2;obtain ⟨u',r',q⟩:=hl j y v' e1 e2 e3;refine ⟨u',r',?_⟩
    rcases q with q | ⟨k,c',e,z'⟩
    ·exact .inl q
    ·refine .inr ⟨k,c',e,z'.sameBut hs ?_⟩;rintro rfl;exact hj (GU hN e1 (I.ok.inj _ _ _ e hc ▸ hi))
  ·by_cases hcc:c' = c
   ·subst hcc; exact ⟨_,hc'⟩
   ·obtain ⟨w2,z2⟩:=I.cell y c' e;exact ⟨w2,z2.sameBut hs hcc⟩
  ·obtain ⟨e,n,ne,nf,d⟩:=I.pin p hp;refine ⟨(hs.2 p.1 ?_).trans e,n,ne,nf,d⟩;intro q;rw [q,hoc] at e;have q':oc = p.2:=Option.some.inj e;exact d w' (by rw [<- q']; exact hocd)
theorem Gi {M:Model} {A:Around} {E:Value->Shared->Prop} {i:Nat} {x:Str} {v:V} {u:Value} {Q:Unit->Shared->Prop} (I:Inv X pins Z H s) (hN:X.N.Nodup) (hi:X.N[i]? = some x) (hx:Loc X.env.scope x) (r:RelV v u)
  (h:∀ s',Inv X pins (Z.set i (some v)) H s'->Q () s') (hf:autoParam (X.fn x = true \/ X.env.scope.names.lookup x = some .local) zz0._auto_1):wpAny M A (storeName X.env x u) Q E s:=
 Ce I hN hi hx r (λ s' I' _=>h s' I') hf
theorem Inv.Rp {s':Shared} {ch:List Addr} (I:Inv X pins Z H s) (ho:s'.os = s.os) (u:Un (frs X.stack) ch H H' s.heap s'.heap) (hok:HOk X.prog X.w H' s'.heap) (hg:AllBare s'.gens)
  (hch:∀ b ∈ ch,(b ∈ X.ex \/ X.s₀.heap.objs.size <= b) /\ b ≠ X.env.locals /\ (∀ x c,X.env.cells.lookup x = some c->c ≠ b) /\ ∀ p ∈ X.pn ++ pins,p.1 ≠ b):Inv X pins Z H' s':=by
 obtain ⟨h',g',d',t',o'⟩:=s';have e:o' = s.os:=ho;subst e;exact I.call (g':=g') (t':=t') (d':=d') u hok hg hch
end
abbrev XK:=Value->Option Addr->Hp->Prop
abbrev St:=List (Option V)
abbrev VK:=V->Hp->Prop
abbrev TE:=St->Hp->VK->Prop
abbrev TT:=St->Hp->(Bool->Hp->Prop)->Prop
abbrev TA:=St->Hp->(List V->Hp->Prop)->Prop
structure Ends where
 nx:St->Hp->Prop
 rt:VK
 bk:St->Hp->Prop:=λ _ _=>False
 ct:St->Hp->Prop:=λ _ _=>False
abbrev TS:=Ends->St->Hp->Prop
def EP (X:Cx) (pins:List (Addr × Obj)) (Z:St) (Q:VK) (u:Value) (s':Shared):Prop:=∃ v H',Inv X pins Z H' s' /\ RelV v u /\ Q v H'
def TP (X:Cx) (pins:List (Addr × Obj)) (Z:St) (Q:Bool->Hp->Prop) (b:Bool) (s':Shared):Prop:=∃ H',Inv X pins Z H' s' /\ Q b H'
def AP (X:Cx) (pins:List (Addr × Obj)) (Z:St) (Q:List V->Hp->Prop) (us:List Value) (s':Shared):Prop:=∃ vs H',Inv X pins Z H' s' /\ Vals vs us /\ Q vs H'
def SP (X:Cx) (pins:List (Addr × Obj)) (D:Ends) (f:Flow) (s':Shared):Prop:=
 match f with
 | .next=>∃ σ' H',Inv X pins σ' H' s' /\ D.nx σ' H'
 | .brk=>∃ σ' H',Inv X pins σ' H' s' /\ D.bk σ' H'
 | .cont=>∃ σ' H',Inv X pins σ' H' s' /\ D.ct σ' H'
 | .ret u=>∃ v σ' H',Inv X pins σ' H' s' /\ RelV v u /\ D.rt v H'
def PE (X:Cx) (e:Expr) (t:TE):Prop:=
 ∀ (pins:List (Addr × Obj)) (s:Shared) (Z:St) (H:Hp) (Q:VK),Inv X pins Z H s->t Z H Q->wpAny (model X.prog X.w) X.A (eval e X.env) (EP X pins Z Q) X.xe s
def PT (X:Cx) (e:Expr) (t:TT):Prop:=
 ∀ (pins:List (Addr × Obj)) (s:Shared) (Z:St) (H:Hp) (Q:Bool->Hp->Prop),Inv X pins Z H s->t Z H Q->wpAny (model X.prog X.w) X.A (isTrue e X.env (eval e X.env)) (TP X pins Z Q) X.xe s
def PW (X:Cx) (e:Expr) (t:TT):Prop:=
 ∀ (whole:Sem Value) (pins:List (Addr × Obj)) (s:Shared) (Z:St) (H:Hp) (Q:Bool->Hp->Prop),Inv X pins Z H s->t Z H Q->wpAny (model X.prog X.w) X.A (isTrue e X.env whole) (TP X pins Z Q) X.xe s
theorem PW.pt {X:Cx} {e:Expr} {t:TT} (h:PW X e t):PT X e t:=h _
def PA (X:Cx) (es:List Expr) (t:TA):Prop:=
 ∀ (pos:Pos) (pins:List (Addr × Obj)) (s:Shared) (Z:St) (H:Hp) (Q:List V->Hp->Prop),Inv X pins Z H s->t Z H Q->wpAny (model X.prog X.w) X.A (spliced (backTo pos (starEach es X.env))) (AP X pins Z Q) X.xe s
def PS (X:Cx) (st:Stmt) (t:TS):Prop:=
 ∀ (pins:List (Addr × Obj)) (s:Shared) (Z:St) (H:Hp) (D:Ends),Inv X pins Z H s->t D Z H->wpAny (model X.prog X.w) X.A (exec st X.env) (SP X pins D) X.xe s
def PSs (X:Cx) (st:List Stmt) (t:TS):Prop:=
 ∀ (pins:List (Addr × Obj)) (s:Shared) (Z:St) (H:Hp) (D:Ends),Inv X pins Z H s->t D Z H->wpAny (model X.prog X.w) X.A (execs st X.env) (SP X pins D) X.xe s
theorem thn {α:Type} {t:Sem α} {Q Q':α->Shared->Prop} {M:Model} {A:Around} {E:Value->Shared->Prop} {s:Shared} (h:wpAny M A t Q E s) (hQ:∀ a s,Q a s->Q' a s):wpAny M A t Q' E s:=wpAny_mono h hQ λ _ _ x=>x
section
variable {X:Cx}
def Zgg (i:Nat):TE:=λ Z H Q=>∃ v,Z[i]? = some (some v) /\ Q v H
def tC (v:V):TE:=λ _ H Q=>Q v H
theorem ZaB {i:Nat} {x:Str} {pos:Pos} (hN:X.N[i]? = some x) (hv:Vis X.env.scope x) (hd:autoParam ((x == ("__debug__" : Str)) = false) zz1._auto_1) (hcd:autoParam ((x == ("__classdict__" : Str)) = false) zz1._auto_1):PE X (.Name x pos) (Zgg i):=by
 intro pins s Z H Q I h;obtain ⟨v,e,h⟩:=h;obtain ⟨m,hn,hl⟩:=I.loc;obtain ⟨u,r,l⟩:=hl i x v hN e hv;have fin:EP X pins Z Q u s:=⟨v,H,I,r,h⟩
 rcases l with ⟨hk,hm⟩ | ⟨hk,c,hc,hcell⟩
 ·exact wpAny_Name (wpAny_loadName_local I.ok.kind hk hn hm fin) hd
 ·rcases hk with hk | hk
  ·exact wpAny_Name (wpAny_loadName_cell I.ok.kind hk hc hcell fin) hd
  ·exact wpAny_Name (wpAny_loadName_free I.ok.kind hk hc hcell fin hcd) hd
theorem Zco {i j pos}:PE X (.Constant (.int i) j pos) (tC (.int i)):=λ _ _ _ H _ I h=>wpAny_Constant_int ⟨.int i,H,I.tok _,⟨_,rfl⟩,h⟩
theorem Zey {b j pos}:PE X (.Constant (.bool b) j pos) (tC (.bl b)):=λ _ _ _ H _ I h=>Constant_bool ⟨.bl b,H,I,rfl,h⟩
theorem Ov {j pos}:PE X (.Constant .none j pos) (tC .non):=λ _ _ _ H _ I h=>Constant_none ⟨.non,H,I,rfl,h⟩
theorem Th {x j pos}:PE X (.Constant (.str x) j pos) (tC (.str x)):=λ _ _ _ H _ I h=>Calls.Constant_str ⟨.str x,H,I.tok _,⟨_,rfl⟩,h⟩
def Gl (X:Cx) (x:Str):Prop:=X.env.kindOf x = some .globalImplicit
theorem O4 {E:Value->Shared->Prop} {pins:List (Addr × Obj)} {s:Shared} {Z:St} {H:Hp} {x:Str} {u:Value} {pos:Pos} {Q:Value->Shared->Prop} (I:Inv X pins Z H s) (hg:Gl X x) (hm:X.mg x = some u) (h:Q u s)
  (hd:autoParam ((x == ("__debug__" : Str)) = false) zz1._auto_1):wpAny (model X.prog X.w) X.A (eval (.Name x pos) X.env) Q E s:=
 Calls.Name_function_global I.ok.kind hg (Calls.loadGlobal_global (by rw [I.ok.glob]; exact I.mod.glob.keeps I.bk) hm h) hd
theorem JU {E:Value->Shared->Prop} {pins:List (Addr × Obj)} {s:Shared} {Z:St} {H:Hp} {x:Str} {u:Value} {pos:Pos} {Q:Value->Shared->Prop} (I:Inv X pins Z H s) (hg:Gl X x) (hm:X.mg x = none) (hv:bootBuiltins x = some u) (h:Q u s)
  (hn:autoParam (x ≠ "__name__") zz1._auto_1) (hd:autoParam ((x == ("__debug__" : Str)) = false) zz1._auto_1):wpAny (model X.prog X.w) X.A (eval (.Name x pos) X.env) Q E s:=by
 obtain ⟨mb,h1,h2⟩:=I.mod.blt;exact Calls.Name_function_global I.ok.kind hg (Calls.loadGlobal_builtin (by rw [I.ok.glob]; exact I.mod.glob.keeps I.bk) hm (by rw [I.ok.blt]; exact h1.keeps I.bk) ((h2 x hn).trans hv) h) hd
theorem OP {x:Str} {v:V} {u:Value} {pos:Pos} (hg:Gl X x) (hm:X.mg x = none) (hv:bootBuiltins x = some u) (r:RelV v u) (hn:autoParam (x ≠ "__name__") zz1._auto_1) (hd:autoParam ((x == ("__debug__" : Str)) = false) zz1._auto_1):PE X (.Name x pos) (tC v):=
 λ _ _ _ H _ I h=>JU I hg hm hv ⟨v,H,I,r,h⟩ hn hd
variable {a b:Expr} {ta tb:TE} {pos:Pos}
def tB (t:TE):TT:=λ Z H Q=>t Z H λ x H1=>∃ c,x = .bl c /\ Q c H1
theorem Tq {e:Expr} {t:TE} (h:PE X e t) (he:autoParam (∀ whole,isTrue e X.env whole = (do let v <- whole; standAt e.pos; holding [v] (truthy v))) zz2._auto_1):PT X e (tB t):=by
 intro pins s Z H Q I hw;refine isTrue_plain (thn (h pins s Z H _ I hw) λ v s1 ⟨x,H1,I1,r1,q1⟩=>?_) (he _);obtain ⟨d,rfl,q⟩:=q1;cases r1;exact wpAny_truthy_bool ⟨H1,I1,q⟩
variable {tA tB':TT} {rest:List Expr}
def ZgH (t u:TT):TT:=λ Z H Q=>t Z H λ c H1=>if c = true then u Z H1 Q else Q false H1
def tOr (t u:TT):TT:=λ Z H Q=>t Z H λ c H1=>if c = true then Q true H1 else u Z H1 Q
def ZgS (t:TT):TT:=λ Z H Q=>t Z H λ c H1=>Q (!c) H1
theorem Pl (ha:PT X a tA):PW X (.BoolOp .And [a] pos) tA:=by
 intro wh pins s Z H Q I h;refine isTrue_and (thn (ha pins s Z H Q I h) λ c s1 e=>?_);cases c with
 | true=>exact isTrue_and_nil e
 | false=>exact e
theorem Zb1 (ha:PT X a tA):PW X (.BoolOp .Or [a] pos) tA:=by
 intro wh pins s Z H Q I h;refine isTrue_or (thn (ha pins s Z H Q I h) λ c s1 e=>?_);cases c with
 | false=>exact isTrue_or_nil e
 | true=>exact e
theorem Zao (ha:PT X a tA) (hb:PW X (.BoolOp .And (b :: rest) pos) tB'):PW X (.BoolOp .And (a :: b :: rest) pos) (ZgH tA tB'):=by
 intro wh pins s Z H Q I h;refine isTrue_and (thn (ha pins s Z H _ I h) λ c s1 ⟨H1,I1,q1⟩=>?_);cases c with
 | true=>exact hb wh pins s1 Z H1 Q I1 q1
 | false=>exact ⟨H1,I1,q1⟩
theorem Zeg (ha:PT X a tA) (hb:PW X (.BoolOp .Or (b :: rest) pos) tB'):PW X (.BoolOp .Or (a :: b :: rest) pos) (tOr tA tB'):=by
 intro wh pins s Z H Q I h;refine isTrue_or (thn (ha pins s Z H _ I h) λ c s1 ⟨H1,I1,q1⟩=>?_);cases c with
 | true=>exact ⟨H1,I1,q1⟩
 | false=>exact hb wh pins s1 Z H1 Q I1 q1
theorem TR (ha:PT X a tA):PT X (.UnaryOp .Not a pos) (ZgS tA):=by
 intro pins s Z H Q I h;exact isTrue_not (ha pins s Z H (λ c H1=>Q (!c) H1) I h)
def Zd3 (ta tb:TE):TE:=λ Z H Q=>ta Z H λ x H1=>∃ c,x = .bl c /\ if c = true then tb Z H1 Q else Q (.bl false) H1
def Zgi (ta tb:TE):TE:=λ Z H Q=>ta Z H λ x H1=>∃ c,x = .bl c /\ if c = true then Q (.bl true) H1 else tb Z H1 Q
def Zd6 (ta:TE):TE:=λ Z H Q=>ta Z H λ x H1=>∃ c,x = .bl c /\ Q (.bl (!c)) H1
theorem Ts {op} {t:TE} (h:PE X a t):PE X (.BoolOp op [a] pos) t:=λ pins s Z H Q I hw=>BoolOp_one (h pins s Z H Q I hw)
theorem Zbr (ha:PE X a ta) (hb:PE X (.BoolOp .And (b :: rest) pos) tb):PE X (.BoolOp .And (a :: b :: rest) pos) (Zd3 ta tb):=by
 intro pins s Z H Q I h;refine BoolOp_and (thn (ha pins s Z H _ I h) λ v s1 ⟨x,H1,I1,r1,q1⟩=>?_);obtain ⟨c,rfl,q1⟩:=q1;cases r1;refine wpAny_truthy_bool ?_;cases c with
 | true=>exact hb pins s1 Z H1 Q I1 q1
 | false=>exact ⟨.bl false,H1,I1,rfl,q1⟩
theorem Ze5 (ha:PE X a ta) (hb:PE X (.BoolOp .Or (b :: rest) pos) tb):PE X (.BoolOp .Or (a :: b :: rest) pos) (Zgi ta tb):=by
 intro pins s Z H Q I h;refine BoolOp_or (thn (ha pins s Z H _ I h) λ v s1 ⟨x,H1,I1,r1,q1⟩=>?_);obtain ⟨c,rfl,q1⟩:=q1;cases r1;refine wpAny_truthy_bool ?_;cases c with
 | false=>exact hb pins s1 Z H1 Q I1 q1
 | true=>exact ⟨.bl true,H1,I1,rfl,q1⟩
theorem Zcn (ha:PE X a ta):PE X (.UnaryOp .Not a pos) (Zd6 ta):=by
 intro pins s Z H Q I h;refine UnaryOp_ (thn (ha pins s Z H _ I h) λ v s1 ⟨x,H1,I1,r1,q1⟩=>?_);obtain ⟨c,rfl,q1⟩:=q1;cases r1;exact not_of (wpAny_truthy_bool ⟨.bl (!c),H1,I1,rfl,q1⟩)
def tIf (t:TT) (ta tb:TE):TE:=λ Z H Q=>t Z H λ c H1=>if c = true then ta Z H1 Q else tb Z H1 Q
theorem Lz {c:Expr} (hc:PT X c tA) (ha:PE X a ta) (hb:PE X b tb):PE X (.IfExp c a b pos) (tIf tA ta tb):=by
 intro pins s Z H Q I h;refine wpAny_IfExp (thn (hc pins s Z H _ I h) λ d s1 ⟨H1,I1,q1⟩=>?_);cases d with
 | true=>exact ha pins s1 Z H1 Q I1 q1
 | false=>exact hb pins s1 Z H1 Q I1 q1
end
end L2
open PySem PySem.Spec PyProof.Rows L2
variable {H H':Hp} {K:Fk} {i n j m ep base:Nat} {a p l f it S q:Addr} {x qual:Str} {pos p2 pos':Pos} {h h':Heap} {s:Shared} {ds:List PyData} {w:World} {P:Program} {xs vs:List V} {d:PyData} {pins:List (Addr × Obj)} {tg e iter elt:Expr} {v y:V} {Q:Value->Shared->Prop} {Z:L2.St} {u:Value} {N:List Str} {kvs:List (List Key × V)} {X:Cx} {scope:Scope} {fd:FuncData} {us:List Value} {ix:List (Option Nat)} {ox oy:Int} {es ifs:List Expr} {A:Around} {mg:Str->Option Value} {items:Array Value} {st:Stmt} {ks:List (List Key)} {env:Env} {ns:List Int}
namespace L2
def SqL (K:Fk) (H:Hp) (a:Addr) (xs:List V):Prop:=
 Rd H a (.lst xs) \/
  ∃ (o:Obj) (its:Array Value) (n:Nat),K.lookup a = some o /\ o.cls = .type "list" /\ o.dict = none /\ o.data = .seq its n /\ its.size <= sizeLine /\ Vals xs its.toList
def SqT (K:Fk) (H:Hp) (a:Addr) (xs:List V):Prop:=
 Rd H a (.tup xs) \/
  ∃ (o:Obj) (its:Array Value) (n:Nat),K.lookup a = some o /\ o.cls = .type "tuple" /\ o.data = .seq its n /\ its.size <= sizeLine /\ Vals xs its.toList
noncomputable def ZgK:Value->Option V
 | .none=>some .non
 | .bool b=>some (.bl b)
 | .int i _=>some (.int i)
 | .str x _=>some (.str x)
 | .bytes b _=>some (.byt b)
 | .float b _=>some (.flt b)
 | .ref a=>some (.ref a)
 | .type n=>some (.ty n)
 | _=>none
theorem RelV.abs {x:V} (r:RelV x u):ZgK u = some x:=by
 cases x with
 | non=>cases r; rfl
 | bl _=>cases r; rfl
 | int _=>obtain ⟨t,rfl⟩:=r; rfl
 | str _=>obtain ⟨t,rfl⟩:=r; rfl
 | byt _=>obtain ⟨t,rfl⟩:=r; rfl
 | flt _=>obtain ⟨t,rfl⟩:=r; rfl
 | ref _=>cases r; rfl
 | ty _=>cases r; rfl
theorem RelV.inj {x:V} (r:RelV x u) (q:RelV y u):x = y:=Option.some.inj (r.abs.symm.trans q.abs)
theorem Vals.inj:∀ {xs ys:List V} {us:List Value},Vals xs us->Vals ys us->xs = ys
 | _,_,_,.nil,.nil=>rfl
 | _,_,_,.cons r t,.cons r' t'=>by rw [r.inj r',Vals.inj t t']
section
variable {ys:List V}
theorem SqL.of (h:H a = some (.lst xs)):SqL K H a xs:=.inl (.inl h)
theorem SqT.of (h:H a = some (.tup xs)):SqT K H a xs:=.inl (.inl h)
theorem Inv.list (I:Inv X pins Z H s) (h:SqL X.K H a xs):∃ its:List Value,Vals xs its /\ PlainL s.heap a its.toArray /\ xs.length <= sizeLine:=by
 rcases h with h | ⟨o,its,n,hk,hc,hd,hs,hz,r⟩
 ·obtain ⟨z,its,n,r,e⟩:=h.ok I.hok;exact ⟨its,r,⟨_,n,e,rfl,rfl,rfl⟩,z⟩
 ·refine ⟨its.toList,r,⟨o,n,I.kIn a o hk,hc,hd,by simpa using hs⟩,?_⟩;have e:=r.length;simp only [Array.length_toList] at e;lia
theorem Inv.tuple (I:Inv X pins Z H s) (h:SqT X.K H a xs):∃ its:List Value,Vals xs its /\ IsTup s.heap a its.toArray /\ xs.length <= sizeLine:=by
 rcases h with h | ⟨o,its,n,hk,hc,hs,hz,r⟩
 ·obtain ⟨z,its,r,p⟩:=h.ok I.hok;exact ⟨its,r,p,z⟩
 ·refine ⟨its.toList,r,⟨o,I.kIn a o hk,hc,n,by simpa using hs⟩,?_⟩;have e:=r.length;simp only [Array.length_toList] at e;lia
theorem Inv.U4 (I:Inv X pins Z H s) (h:SqL X.K H a xs) (h':SqL X.K H a ys):xs = ys:=by
 obtain ⟨its,r,⟨o,n,e,_,_,d⟩,_⟩:=I.list h;obtain ⟨its',r',⟨o',n',e',_,_,d'⟩,_⟩:=I.list h';rw [e] at e'; cases e';rw [d] at d'
 injection d' with d1 _
 have:its = its':=by simpa using congrArg Array.toList d1
 subst this;exact r.inj r'
theorem Inv.Wl (I:Inv X pins Z H s) (h:SqT X.K H a xs) (h':SqT X.K H a ys):xs = ys:=by
 obtain ⟨its,r,⟨o,e,_,n,d⟩,_⟩:=I.tuple h;obtain ⟨its',r',⟨o',e',_,n',d'⟩,_⟩:=I.tuple h';rw [e] at e'; cases e';rw [d] at d'
 injection d' with d1 _
 have:its = its':=by simpa using congrArg Array.toList d1
 subst this;exact r.inj r'
end
noncomputable abbrev Cx.FX (X:Cx) (E:Value->Shared->Prop):Cx:={ X with xe:=E }
noncomputable abbrev Cx.nox (X:Cx):Cx:=X.FX λ _ _=>False
theorem Cx.Ok.FX (ok:X.Ok) (E:Value->Shared->Prop):(X.FX E).Ok:=
 ⟨ok.mod,ok.kind,ok.glob,ok.blt,ok.above,ok.inj,ok.has,ok.cab,ok.hd,ok.frames,ok.stk,ok.exf,ok.bs,ok.bsz,ok.noex,ok.exfs,ok.Cd,ok.frf⟩
theorem Cx.Ok.VJ {E:Value->Shared->Prop} (ok:(X.FX E).Ok):X.Ok:=
 ⟨ok.mod,ok.kind,ok.glob,ok.blt,ok.above,ok.inj,ok.has,ok.cab,ok.hd,ok.frames,ok.stk,ok.exf,ok.bs,ok.bsz,ok.noex,ok.exfs,ok.Cd,ok.frf⟩
section
variable {E:Value->Shared->Prop}
theorem Inv.FX (I:Inv X pins Z H s) (E:Value->Shared->Prop):Inv (X.FX E) pins Z H s:=⟨I.ok.FX E,I.os,I.bare,I.base,I.loc,I.cell,I.free,I.freeC,I.pin,I.hok,I.len⟩
theorem Inv.VJ (I:Inv (X.FX E) pins Z H s):Inv X pins Z H s:=⟨I.ok.VJ,I.os,I.bare,I.base,I.loc,I.cell,I.free,I.freeC,I.pin,I.hok,I.len⟩
theorem SP.VJ {D:Ends} {f:Flow} {s':Shared} (h:SP (X.FX E) pins D f s'):SP X pins D f s':=by
 cases f with
 | next=>obtain ⟨σ',H',I,q⟩:=h; exact ⟨σ',H',I.VJ,q⟩
 | brk=>obtain ⟨σ',H',I,q⟩:=h; exact ⟨σ',H',I.VJ,q⟩
 | cont=>obtain ⟨σ',H',I,q⟩:=h; exact ⟨σ',H',I.VJ,q⟩
 | ret u=>obtain ⟨v,σ',H',I,r,q⟩:=h; exact ⟨v,σ',H',I.VJ,r,q⟩
theorem PSs.nox {st:List Stmt} {t:TS} (h:PSs X.nox st t):PSs X st t:=λ pins s Z H D I hw=>
 wpAny_mono (h pins s Z H D (I.FX _) hw) (λ _ _ q=>q.VJ) λ _ _ z=>False.elim z
end
section
variable {rest:List Stmt} {t u:TS} {te:TE}
def ZdR:TS:=λ D Z H=>D.nx Z H
def Zgn (t u:TS):TS:=λ D Z H=>t { D with nx:=u D } Z H
theorem R8:PSs X [] ZdR:=λ _ _ Z H _ I h=>wpAny_execs_nil ⟨Z,H,I,h⟩
theorem Ml (h1:PS X st t) (h2:PSs X rest u):PSs X (st :: rest) (Zgn t u):=by
 intro pins s Z H D I h;refine wpAny_execs_cons (thn (h1 pins s Z H { D with nx:=u D } I h) λ f s1 q=>?_);cases f with
 | next=>
  obtain ⟨σ',H',I',q⟩:=q;exact h2 pins s1 σ' H' D I' q
 | ret v=>exact q
 | brk=>exact q
 | cont=>exact q
theorem Ru (h1:PS X st t):PSs X [st] t:=by
 intro pins s Z H D I h;refine wpAny_execs_cons (thn (h1 pins s Z H D I h) λ f s1 q=>?_);cases f with
 | next=>exact wpAny_execs_nil q
 | ret v=>exact q
 | brk=>exact q
 | cont=>exact q
theorem Inv.quiet (I:Inv X pins Z H s):interactive X.env = false:=by simp [interactive,I.ok.kind]
def ZdW (te:TE):TS:=λ D Z H=>te Z H λ _ H1=>D.nx Z H1
theorem Sh (he:PE X e te) (hs:autoParam (swapsWith e none pos.line X.env = pure false) zz3._auto_1):PS X (.Expr e pos) (ZdW te):=by
 intro pins s Z H D I h;exact wpAny_Expr_any (thn (he pins s Z H _ I h) λ v s1 ⟨x,H1,I1,r1,q1⟩=>⟨Z,H1,I1,q1⟩) I.quiet hs
def Zgh (te:TE):TS:=λ D Z H=>te Z H D.rt
theorem ZcY (he:PE X e te):PS X (.Return (some e) pos) (Zgh te):=by
 intro pins s Z H D I h;exact wpAny_Return_some (thn (he pins s Z H _ I h) λ v s1 ⟨x,H1,I1,r1,q1⟩=>⟨x,Z,H1,I1,r1,q1⟩)
def Zgm (c:TT) (t u:TS):TS:=λ D Z H=>c Z H λ b H1=>if b = true then t D Z H1 else u D Z H1
theorem Ze0 {c:Expr} {a b:List Stmt} {tc:TT} (hc:PT X c tc) (ha:PSs X a t) (hb:PSs X b u):PS X (.If c a b pos) (Zgm tc t u):=by
 intro pins s Z H D I h;refine wpAny_If (thn (hc pins s Z H _ I h) λ d s1 ⟨H1,I1,q1⟩=>?_);cases d with
 | true=>exact ha pins s1 Z H1 D I1 q1
 | false=>exact hb pins s1 Z H1 D I1 q1
end
abbrev TG:=V->St->Hp->(St->Hp->Prop)->Prop
abbrev TGs:=List V->St->Hp->(St->Hp->Prop)->Prop
def PG (X:Cx) (target:Expr) (t:TG):Prop:=
 ∀ (pins:List (Addr × Obj)) (s:Shared) (Z:St) (H:Hp) (v:V) (u:Value) (Q:St->Hp->Prop),Inv X pins Z H s->RelV v u->t v Z H Q ->
  wpAny (model X.prog X.w) X.A (assign target X.env u) (λ _ s'=>∃ σ' H',Inv X pins σ' H' s' /\ Q σ' H') X.xe s
def PGs (X:Cx) (ts:List Expr) (t:TGs):Prop:=
 ∀ (pins:List (Addr × Obj)) (s:Shared) (Z:St) (H:Hp) (vs:List V) (us:List Value) (Q:St->Hp->Prop),Inv X pins Z H s->Vals vs us->t vs Z H Q ->
  wpAny (model X.prog X.w) X.A (assignInOrder ((assignEach ts X.env).map (·.2)) us) (λ _ s'=>∃ σ' H',Inv X pins σ' H' s' /\ Q σ' H') X.xe s
abbrev Zfg:=V->V->V->Hp->(Hp->Prop)->Prop
def Zf0 (X:Cx) (t:Zfg):Prop:=
 ∀ (pins:List (Addr × Obj)) (s:Shared) (Z:St) (H:Hp) (o i v:V) (ov iv u:Value) (Q:Hp->Prop),Inv X pins Z H s->RelV o ov->RelV i iv->RelV v u->t o i v H Q ->
  wpAny (model X.prog X.w) X.A (setItem ov iv u) (λ _ s'=>∃ H',Inv X pins Z H' s' /\ Q H') X.xe s
def Zae (i:Nat):TG:=λ v Z H Q=>Q (Z.set i (some v)) H
theorem Co (hN:X.N.Nodup) (hi:X.N[i]? = some x) (hx:Loc X.env.scope x) (hf:autoParam (X.fn x = true \/ X.env.scope.names.lookup x = some .local) zz0._auto_1):PG X (.Name x pos) (Zae i):=by
 intro pins s Z H v u Q I r h;exact wpAny_assign_Name (Gi I hN hi hx r (λ s' I'=>⟨_,H,I',h⟩) hf)
def Zgc:TGs:=λ vs Z H Q=>vs = [] /\ Q Z H
def ZdT (t:TG) (u:TGs):TGs:=λ vs Z H Q=>∃ v r,vs = v :: r /\ t v Z H λ σ' H'=>u r σ' H' Q
theorem OM:PGs X [] Zgc:=by
 intro pins s Z H vs us Q I r h;obtain ⟨e,h⟩:=h;subst e;cases r;exact assignInOrder_nil ⟨Z,H,I,h⟩
theorem HK {t:TG} {u:TGs} (h1:PG X e t) (h2:PGs X es u)
  (hs:autoParam ((assignEach (e :: es) X.env).map (·.2) = assign e X.env :: (assignEach es X.env).map (·.2)) zz3._auto_1):PGs X (e :: es) (ZdT t u):=by
 intro pins s Z H vs us Q I r h;obtain ⟨v,vr,e1,h⟩:=h;subst e1;cases r with
 | cons r rr=>
  rw [hs];refine assignInOrder_cons (thn (h1 pins s Z H _ _ _ I r h) λ _ s1 ⟨σ1,H1,I1,q1⟩=>?_);exact h2 pins s1 σ1 H1 _ _ Q I1 rr q1
def ZgA (K:Fk) (n:Nat) (t:TGs):TG:=λ v Z H Q=>∃ a xs,v = .ref a /\ SqT K H a xs /\ xs.length = n /\ t xs Z H Q
theorem TX {k:Nat} {t:TGs} {n:Nat} (hc:X.calm = true) (h:PGs X es t)
  (hn:autoParam ((assignEach es X.env).length = n) zz3._auto_1) (hst:autoParam ((assignEach es X.env).findIdx? (·.1) = none) zz3._auto_1):PG X (.Tuple es k pos) (ZgA X.K n t):=by
 intro pins s Z H v u Q I r hw;obtain ⟨a,xs,e1,hq,hl,hw⟩:=hw;subst e1;cases r;obtain ⟨its,rv,ht,hz⟩:=I.tuple hq;refine assign_Tuple_tuple (I.ok.hd hc) ht (by simp [hn,<- hl,rv.length]) hst λ h' hx=>?_;have I1:Inv X pins Z H { s with heap:=h' }:=I.kept (t':=s.toks) λ b o e=>hx b o (Nat.ne_of_lt (Heap.lt_size e)) e;exact h pins _ Z H xs _ Q I1 (by simpa using rv) hw
def Zgd (to ti:TE) (t:Zfg):TG:=λ v Z H Q=>to Z H λ o H1=>ti Z H1 λ i H2=>t o i v H2 λ H3=>Q Z H3
theorem Zbw {o i:Expr} {to ti:TE} {t:Zfg} (ho:PE X o to) (hi:PE X i ti) (hs:Zf0 X t)
  (ha:∀ v,assign (.Subscript o i pos) X.env v = (do
   let ov <- holding [v] (eval o X.env)
   let iv <- holding [v,ov] (eval i X.env)
   standAt pos
   holding [v,ov,iv] (setItem ov iv v)
   release [v,ov,iv] []):=by intro _; rfl):PG X (.Subscript o i pos) (Zgd to ti t):=by
 intro pins s Z H v u Q I r h;rw [ha];refine wpAny_bind (wpAny_holding (thn (ho pins s Z H _ I h) λ ov s1 ⟨x,H1,I1,r1,q1⟩=>?_));refine wpAny_bind (wpAny_holding (thn (hi pins s1 Z H1 _ I1 q1) λ iv s2 ⟨y,H2,I2,r2,q2⟩=>?_));refine wpAny_bind (wpAny_standAt (wpAny_bind (wpAny_holding (thn (hs pins s2 Z H2 x y v ov iv u _ I2 r1 r2 r q2) λ _ s3 ⟨H3,I3,q3⟩=>?_))));exact wpAny_release ⟨Z,H3,I3,q3⟩
def Zf2 (te:TE) (g:TG):TS:=λ D Z H=>te Z H λ x H1=>g x Z H1 D.nx
theorem Ti {te:TE} {g:TG} (he:PE X e te) (hg:PG X tg g) (hs:autoParam (swapsWithSole [tg] e pos.line X.env = pure false) zz3._auto_1) (hw:autoParam (swappedStores [tg] e X.env = pure none) zz3._auto_1)
  (h1:autoParam ((assignEach [tg] X.env).map (·.2) = [assign tg X.env]) zz3._auto_1):PS X (.Assign [tg] e pos) (Zf2 te g):=by
 intro pins s Z H D I h;refine wpAny_Assign_stores (thn (he pins s Z H _ I h) λ v s1 ⟨x,H1,I1,r1,q1⟩=>?_) hs hw;rw [h1];exact thn (hg pins s1 Z H1 x v _ I1 r1 q1) λ _ s2 q=>q
theorem ZcO {te:TE} (hN:X.N.Nodup) (hi:X.N[i]? = some x) (hx:Loc X.env.scope x) (he:PE X e te) (hs:autoParam (swapsWith e (some (.Name x pos')) pos.line X.env = pure false) zz3._auto_1) (hf:autoParam (X.fn x = true \/ X.env.scope.names.lookup x = some .local) zz0._auto_1) :
  PS X (.Assign [.Name x pos'] e pos) (Zf2 te (Zae i)):=by
 intro pins s Z H D I h;refine wpAny_Assign_Name (thn (he pins s Z H _ I h) λ v s1 ⟨y,H1,I1,r1,q1⟩=>?_) hs;exact Gi I1 hN hi hx r1 (λ s2 I2=>⟨_,H1,I2,q1⟩) hf
def Zcf (c:TT) (tb:TS):TS:=λ D Z H=>∃ W:Nat->St->Hp->Prop,(∃ m,W m Z H) /\ ∀ m Z H,W m Z H ->
 c Z H λ b H1=>if b = true then ∃ N:St->Hp->Prop,(∀ σ' H',N σ' H'->∃ m',m' < m /\ W m' σ' H') /\ tb { D with nx:=N,ct:=N,bk:=D.nx } Z H1 else D.nx Z H1
theorem HE {c:Expr} {body:List Stmt} {tc:TT} {tb:TS} (hp:PassesOwn (model X.prog X.w) X.A X.env X.xe) (hc:PT X c tc) (hb:PSs X body tb):PS X (.While c body [] pos) (Zcf tc tb):=by
 intro pins s Z H D I h;obtain ⟨W,⟨m0,w0⟩,turn⟩:=h;refine wpAny_While (codeAny_whileLoop (λ n s'=>∃ σ' H',Inv X pins σ' H' s' /\ W n σ' H') ?_ m0 ⟨Z,H,I,w0⟩);rintro n s1 ⟨σ1,H1,I1,w1⟩;refine wpAny_passesOwn hp (thn (hc pins s1 σ1 H1 _ I1 (turn n σ1 H1 w1)) λ b s2 ⟨H2,I2,q2⟩=>?_);cases b with
 | true=>
  obtain ⟨N,hN,q2⟩:=q2;rw [if_pos rfl];refine wpAny_passesOwn hp (thn (hb pins s2 σ1 H2 _ I2 q2) λ f s3 q3=>?_);cases f with
  | next=>
   obtain ⟨σ3,H3,I3,n3⟩:=q3;obtain ⟨m',hm,w3⟩:=hN σ3 H3 n3;exact ⟨m',hm,σ3,H3,I3,w3⟩
  | cont=>
   obtain ⟨σ3,H3,I3,n3⟩:=q3;obtain ⟨m',hm,w3⟩:=hN σ3 H3 n3;exact ⟨m',hm,σ3,H3,I3,w3⟩
  | brk=>exact q3
  | ret v=>exact q3
 | false=>
  rw [if_neg Bool.false_ne_true];exact wpAny_execs_nil ⟨σ1,H2,I2,q2⟩
structure It where
 go:Nat->Hp->Prop
 yld:Nat->Hp->V->Hp->Prop
 stop:Nat->Hp->Prop
def BE (X:Cx) (pins:List (Addr × Obj)) (H:Hp) (b:Addr):Prop:=
 H b = none /\ b ≠ X.env.locals /\ b ∉ X.fs /\ (b ∈ X.ex \/ X.s₀.heap.objs.size <= b) /\ (∀ x c,X.env.cells.lookup x = some c->c ≠ b) /\ ∀ p ∈ X.pn ++ pins,p.1 ≠ b
theorem Inv.S9 {b:Addr} (I:Inv X pins Z H s) (hb:s.heap.objs.size <= b) (hn:H' b = none):BE X pins H' b:=by
 refine ⟨hn,Nat.ne_of_gt (Nat.lt_of_lt_of_le I.lt hb),I.Zgj hb,.inr (Nat.le_trans I.sz hb),λ x c e z=>?_,λ p hp z=>?_⟩
 ·obtain ⟨v,q⟩:=I.cell x c e;exact absurd (Nat.lt_of_lt_of_le q.lt (by rw [z]; exact hb)) (Nat.lt_irrefl _)
 ·exact absurd (Nat.lt_of_lt_of_le (Heap.lt_size (I.pin p hp).1) (by rw [z]; exact hb)) (Nat.lt_irrefl _)
structure Turn (P:Program) (w:World) (K:Fk) (tg:Expr) (J:It) (fp:List Addr) (it:Addr) (tn:Nat->Heap->Prop):Prop where
 mem:it ∈ fp
 obj:∀ i h,tn i h->∀ b ∈ fp,∃ o,h.get? b = some o /\ ∀ v,o.data ≠ .cell v
 keep:∀ i h h',tn i h->(∀ b ∈ fp,∀ o,h.get? b = some o->h'.get? b = some o)->tn i h'
 item:∀ (X:Cx),X.prog = P->X.w = w->X.K = K->X.calm = true->∀ (i:Nat) (pins:List (Addr × Obj)) (s:Shared) (Z:St) (H:Hp) (E:Value->Shared->Prop),Inv X pins Z H s->(∀ b ∈ fp,BE X pins H b)->tn i s.heap->J.go i H ->
  wpAny (model P w) X.A (pyNext (.ref it)) (λ r s1=>∃ u,r = some u /\
   wpAny (model P w) X.A (letOwnedTupleGo tg (.ref it) u) (λ _ s2=>∃ x H',Inv X pins Z H' s2 /\ RelV x u /\ J.yld i H x H' /\ tn (i + 1) s2.heap /\ ∀ b ∈ fp,H' b = none) E s1) E s
 done:∀ (X:Cx),X.prog = P->X.w = w->X.K = K->X.calm = true->∀ (i:Nat) (pins:List (Addr × Obj)) (s:Shared) (Z:St) (H:Hp) (E:Value->Shared->Prop),Inv X pins Z H s->(∀ b ∈ fp,BE X pins H b)->tn i s.heap->J.stop i H ->
  wpAny (model P w) X.A (pyNext (.ref it)) (λ r s1=>r = none /\ Inv X pins Z H s1) E s
 self:∀ (A:Around) (i:Nat) (s:Shared) (Q:Value->Shared->Prop) (E:Value->Shared->Prop),tn i s.heap->Q (.ref it) s->wpAny (model P w) A (pyIter (.ref it)) Q E s
abbrev TI:=St->Hp->(It->Hp->Prop)->Prop
def PIE (X:Cx) (pins:List (Addr × Obj)) (Z:St) (tg:Expr) (R:It->Hp->Prop) (itv:Value) (s2:Shared):Prop:=
 ∃ (it:Addr) (fp:List Addr) (tn:Nat->Heap->Prop) (J:It) (H':Hp),itv = .ref it /\ Inv X pins Z H' s2 /\ Turn X.prog X.w X.K tg J fp it tn /\ tn 0 s2.heap /\ (∀ b ∈ fp,BE X pins H' b) /\ R J H'
def PI (X:Cx) (tg iter:Expr) (wi:TI):Prop:=
 ∀ (pins:List (Addr × Obj)) (s:Shared) (Z:St) (H:Hp) (R:It->Hp->Prop),Inv X pins Z H s->wi Z H R ->
  wpAny (model X.prog X.w) X.A (eval iter X.env) (λ v s1=>wpAny (model X.prog X.w) X.A (pyIter v) (PIE X pins Z tg R) X.xe s1) X.xe s
theorem Lj {M:Model} {A:Around} {E:Value->Shared->Prop} {tg:Expr} {u:Value} {o:Obj} {n:String} {vs:Array Value} {Q:Unit->Shared->Prop} (ho:s.heap.get? it = some o) (hc:o.cls = .type n) (hd:o.data = .fields vs)
    (hn:["enumerate", "zip", "dict_itemiterator", "dict_reverseitemiterator", "odict_iterator", "itertools.zip_longest", "itertools.pairwise"].contains n = false) (hQ:Q () s):wpAny M A (letOwnedTupleGo tg (.ref it) u) Q E s:=by
  unfold letOwnedTupleGo;cases tg <;> first
    | exact wpAny_pure hQ
    | (cases u <;> first
        | exact wpAny_pure hQ
        | (refine wpAny_bind (wpAny_load ho ?_)
           rw [hc,hd];show wpAny M A (if (["enumerate", "zip", "dict_itemiterator", "dict_reverseitemiterator", "odict_iterator", "itertools.zip_longest", "itertools.pairwise"].contains n && vs[0]? == some (rawInt _)) = true then _ else _) Q E s;rw [if_neg (by intro h; rw [hn,Bool.false_and] at h; cases h)]
           exact wpAny_pure hQ))
noncomputable def Itl (K:Fk) (a:Addr):It:=
 ⟨λ i H=>∃ xs x,SqL K H a xs /\ xs[i]? = some x,λ i H x H'=>H' = H /\ ∀ xs,SqL K H a xs->xs[i]? = some x,λ i H=>∃ xs,SqL K H a xs /\ xs.length <= i⟩
noncomputable def Itt (K:Fk) (a:Addr):It:=
 ⟨λ i H=>∃ xs x,SqT K H a xs /\ xs[i]? = some x,λ i H x H'=>H' = H /\ ∀ xs,SqT K H a xs->xs[i]? = some x,λ i H=>∃ xs,SqT K H a xs /\ xs.length <= i⟩
noncomputable def Itr (lo:Int) (n:Nat):It:=⟨λ i _=>i < n,λ i H x H'=>H' = H /\ x = .int (lo + i),λ i _=>n <= i⟩
theorem Ea (a it:Addr):Turn P w K tg (Itl K a) [it] it (λ i h=>h.IsListIter it a i) where
 mem:=by simp
 obj:=λ i h st b hb=>by
  have e:b = it:=by simpa using hb
  subst e;obtain ⟨o,e,c,d⟩:=st;exact ⟨o,e,λ v z=>by rw [d] at z; cases z⟩
 keep:=λ i h h' st k=>st.at λ o e=>k it (by simp) o e
 item:=by
  intro X hP hw hK hc i pins s Z H E I hf st hg;subst hP hw hK;obtain ⟨xs,x,hq,hx⟩:=hg;obtain ⟨its,rv,p,hz⟩:=I.list hq;obtain ⟨u,hu,ru⟩:=rv.get hx;obtain ⟨f0,f1,f2,f3,f4,f5⟩:=hf it (by simp);refine wpAny_pyNext_list_item st p.isList (x:=u) (by simpa using hu) λ h' st' sb=>?_;have I1:Inv X pins Z H { s with heap:=h' }:=I.turned (t':=s.toks) (λ b o hb e=>(sb.2 b hb).trans e) f0 f1 f3 f4 f5;obtain ⟨o,e,c,d⟩:=id st';exact ⟨u,rfl,Lj (s:={ s with heap:=h' }) e c d (by decide) ⟨x,H,I1,ru,⟨rfl,λ ys hy=>by rw [I.U4 hy hq]; exact hx⟩,st',λ b hb=>(hf b hb).1⟩⟩
 done:=by
  intro X hP hw hK hc i pins s Z H E I hf st hg;subst hP hw hK;obtain ⟨xs,hq,hx⟩:=hg;obtain ⟨its,rv,p,hz⟩:=I.list hq;obtain ⟨f0,f1,f2,f3,f4,f5⟩:=hf it (by simp);have hl:=rv.length;exact wpAny_pyNext_list_end (I.ok.hd hc) st p.isList (by simp; lia) λ h' eb=>⟨rfl,I.turned (t':=s.toks) (λ b o hb e=>eb b o hb e) f0 f1 f3 f4 f5⟩
 self:=λ _ _ _ _ _ st h=>wpAny_pyIter_listiter st h
theorem Bm (a it:Addr):Turn P w K tg (Itt K a) [it] it (λ i h=>h.IsTupleIter it a i) where
 mem:=by simp
 obj:=λ i h st b hb=>by
  have e:b = it:=by simpa using hb
  subst e;obtain ⟨o,e,c,d⟩:=st;exact ⟨o,e,λ v z=>by rw [d] at z; cases z⟩
 keep:=λ i h h' st k=>st.at λ o e=>k it (by simp) o e
 item:=by
  intro X hP hw hK hc i pins s Z H E I hf st hg;subst hP hw hK;obtain ⟨xs,x,hq,hx⟩:=hg;obtain ⟨its,rv,p,hz⟩:=I.tuple hq;obtain ⟨u,hu,ru⟩:=rv.get hx;obtain ⟨f0,f1,f2,f3,f4,f5⟩:=hf it (by simp);refine wpAny_pyNext_tuple_item st (show s.heap.IsTuple a its.toArray from p) (x:=u) (by simpa using hu) λ h' st' sb=>?_;have I1:Inv X pins Z H { s with heap:=h' }:=I.turned (t':=s.toks) (λ b o hb e=>(sb.2 b hb).trans e) f0 f1 f3 f4 f5;obtain ⟨o,e,c,d⟩:=id st';exact ⟨u,rfl,Lj (s:={ s with heap:=h' }) e c d (by decide) ⟨x,H,I1,ru,⟨rfl,λ ys hy=>by rw [I.Wl hy hq]; exact hx⟩,st',λ b hb=>(hf b hb).1⟩⟩
 done:=by
  intro X hP hw hK hc i pins s Z H E I hf st hg;subst hP hw hK;obtain ⟨xs,hq,hx⟩:=hg;obtain ⟨its,rv,p,hz⟩:=I.tuple hq;obtain ⟨f0,f1,f2,f3,f4,f5⟩:=hf it (by simp);have hl:=rv.length;exact wpAny_pyNext_tuple_end (I.ok.hd hc) st (show s.heap.IsTuple a its.toArray from p) (by simp; lia) λ h' eb=>⟨rfl,I.turned (t':=s.toks) (λ b o hb e=>eb b o hb e) f0 f1 f3 f4 f5⟩
 self:=λ _ _ _ _ _ st h=>wpAny_pyIter_tupleiter st h
theorem Bz (it:Addr) (lo:Int) (n:Nat):Turn P w K tg (Itr lo n) [it] it (λ i h=>IsRangeIter h it (lo + (i:Nat) * 1) ((n:Int) - (i:Nat)) 1) where
 mem:=by simp
 obj:=λ i h st b hb=>by
  have e:b = it:=by simpa using hb
  subst e
  exact ⟨_,st,λ v z=>by
   have z':Data.fields _ = Data.cell v:=z
   cases z'⟩
 keep:=λ i h h' st k=>k it (by simp) _ st
 item:=by
  intro X hP hw hK hc i pins s Z H E I hf st hg;subst hP hw hK;obtain ⟨f0,f1,f2,f3,f4,f5⟩:=hf it (by simp);have W:=Walks.range (prog:=X.prog) (w:=X.w) (I.ok.hd hc) it lo 1 n;refine W.item i s _ _ hg st λ v h' tk hv st' kk=>?_;obtain ⟨t,rfl⟩:=hv;have I1:Inv X pins Z H { s with heap:=h',toks:=tk }:=I.turned (λ b o hb e=>kk b o (by simpa using hb) e) f0 f1 f3 f4 f5;refine ⟨_,rfl,Lj (s:={ s with heap:=h',toks:=tk }) (n := "range_iterator") st' rfl rfl (by decide) ⟨.int (lo + i),H,I1,⟨t,?_⟩,⟨rfl,rfl⟩,st',λ b hb=>(hf b hb).1⟩⟩;rw [Int.mul_one]
 done:=by
  intro X hP hw hK hc i pins s Z H E I hf st hg;subst hP hw hK;obtain ⟨f0,f1,f2,f3,f4,f5⟩:=hf it (by simp);exact wpAny_pyNext_range_end (I.ok.hd hc) st (by have:n <= i:=hg; lia) λ h' eb=>⟨rfl,I.turned (t':=s.toks) (λ b o hb e=>eb b o hb e) f0 f1 f3 f4 f5⟩
 self:=λ _ _ _ _ _ st h=>wpAny_pyIter_rangeiter st h
def Ze8 (K:Fk) (tl:TE):TI:=λ Z H R=>tl Z H λ x H1=>∃ a,x = .ref a /\ (∃ xs,SqL K H1 a xs) /\ R (Itl K a) H1
def ZgI (K:Fk) (tl:TE):TI:=λ Z H R=>tl Z H λ x H1=>∃ a,x = .ref a /\ (∃ xs,SqT K H1 a xs) /\ R (Itt K a) H1
theorem Fn {l:Expr} {tl:TE} (hl:PE X l tl):PI X tg l (Ze8 X.K tl):=by
 intro pins s Z H R I h;refine thn (hl pins s Z H _ I h) λ v s1 ⟨x,H1,I1,r1,q1⟩=>?_;obtain ⟨a,e,⟨xs,hq⟩,q⟩:=q1;subst e;cases r1;obtain ⟨its,rv,p,hz⟩:=I1.list hq;refine wpAny_pyIter_list p.isList ?_;refine ⟨s1.heap.objs.size,[s1.heap.objs.size],_,_,H1,rfl,I1.kept (t':=s1.toks) λ b o e=>Heap.get?_push_of_some _ e,Ea a _,⟨_,Heap.get?_push_size _ rfl,rfl,rfl⟩,λ b hb=>?_,q⟩;have e:b = s1.heap.objs.size:=by simpa using hb
 subst e;exact I1.S9 (Nat.le_refl _) (I1.hok.fresh (Nat.le_refl _))
theorem NZ {l:Expr} {tl:TE} (hl:PE X l tl):PI X tg l (ZgI X.K tl):=by
 intro pins s Z H R I h;refine thn (hl pins s Z H _ I h) λ v s1 ⟨x,H1,I1,r1,q1⟩=>?_;obtain ⟨a,e,⟨xs,hq⟩,q⟩:=q1;subst e;cases r1;obtain ⟨its,rv,p,hz⟩:=I1.tuple hq;refine wpAny_pyIter_tuple (show s1.heap.IsTuple a its.toArray from p) ?_;refine ⟨s1.heap.objs.size,[s1.heap.objs.size],_,_,H1,rfl,I1.kept (t':=s1.toks) λ b o e=>Heap.get?_push_of_some _ e,Bm a _,⟨_,Heap.get?_push_size _ rfl,rfl,rfl⟩,λ b hb=>?_,q⟩;have e:b = s1.heap.objs.size:=by simpa using hb
 subst e;exact I1.S9 (Nat.le_refl _) (I1.hok.fresh (Nat.le_refl _))
theorem Gw {R:It->Hp->Prop} {E:Value->Shared->Prop} {lo hi:Int} {t u v:Tok} {tk:Nat} (I:Inv X pins Z H s) (h1:-(2 ^ 62) <= lo) (h2:lo < 2 ^ 62) (h3:-(2 ^ 62) <= hi) (h4:hi < 2 ^ 62)
  (q:R (Itr lo (hi - lo).toNat) H):wpAny (model X.prog X.w) X.A (pyIter (.ref s.heap.objs.size)) (PIE X pins Z tg R) E { s with heap:=s.heap.push { cls:=.type "range",data:=.fields #[.int lo t,.int hi u,.int 1 v] },toks:=tk }:=by
 refine wpAny_pyIter_range (IsRange.new ..) (small_one h1 h2 h3 h4) ?_;have I1:Inv X pins Z H { s with heap:=s.heap.push { cls:=.type "range",data:=.fields #[.int lo t,.int hi u,.int 1 v] },toks:=tk }:=I.kept λ b o e=>Heap.get?_push_of_some _ e
 refine ⟨(s.heap.push { cls:=.type "range",data:=.fields #[.int lo t,.int hi u,.int 1 v] }).objs.size,[(s.heap.push { cls:=.type "range",data:=.fields #[.int lo t,.int hi u,.int 1 v] }).objs.size],_,_,H,rfl,
  I1.kept (t':=tk) λ b o e=>Heap.get?_push_of_some _ e,Bz _ lo (hi - lo).toNat,?_,λ b hb=>?_,q⟩
 ·have e1:lo + ((0:Nat):Int) * 1 = lo:=by simp
  have e2:(((hi - lo).toNat:Nat):Int) - ((0:Nat):Int) = Builtin.Range.rangeSize lo hi 1:=by rw [rangeSize_one]; split <;> lia
  show IsRangeIter _ _ (lo + ((0:Nat):Int) * 1) ((((hi - lo).toNat:Nat):Int) - ((0:Nat):Int)) 1;rw [e1,e2];exact Heap.get?_push_size _ rfl
 ·have e:b = (s.heap.push { cls:=.type "range",data:=.fields #[.int lo t,.int hi u,.int 1 v] }).objs.size:=by simpa using hb
  subst e;exact I1.S9 (Nat.le_refl _) (I1.hok.fresh (Nat.le_refl _))
def Zep (ta:TA):TI:=λ Z H R=>ta Z H λ vs H1=>∃ j:Int,vs = [.int j] /\ -(2 ^ 62) <= j /\ j < 2 ^ 62 /\ R (Itr 0 j.toNat) H1
def ZdU (ta:TA):TI:=λ Z H R=>ta Z H λ vs H1=>∃ i j:Int,vs = [.int i,.int j] /\ (-(2 ^ 62) <= i /\ i < 2 ^ 62 /\ -(2 ^ 62) <= j /\ j < 2 ^ 62) /\ R (Itr i (j - i).toNat) H1
theorem K2 {a:Expr} {ta:TA} {p:Pos} (hg:Gl X "range") (hm:X.mg "range" = none) (ha:PA X [a] ta) (hs:autoParam (starEach [a] X.env = [(false,eval a X.env)]) zz3._auto_1):PI X tg (.Call (.Name "range" p) [a] [] pos) (Zep ta):=by
 intro pins s Z H R I h;refine Call_ (JU I hg hm boot_range (PyProof.Rows.callWith_type1 (thn (ha pos pins s Z H _ I h) λ us s1 ⟨vs,H1,I1,r1,q1⟩=>?_) hs rfl));obtain ⟨j,e,q1,q2,q⟩:=q1;subst e;cases r1 with
 | cons r rr=>
  cases rr;obtain ⟨t,rfl⟩:=r;exact call_range_1 (Gw I1 (by lia) (by lia) q1 q2 (by simpa using q))
theorem Cq {a b:Expr} {ta:TA} {p pos:Pos} (hg:Gl X "range") (hm:X.mg "range" = none) (ha:PA X [a,b] ta) (hs:autoParam (starEach [a,b] X.env = [(false,eval a X.env),(false,eval b X.env)]) zz3._auto_1) (hs2:autoParam (starEach [b] X.env = [(false,eval b X.env)]) zz3._auto_1) :
  PI X tg (.Call (.Name "range" p) [a,b] [] pos) (ZdU ta):=by
 intro pins s Z H R I h;refine Call_ (JU I hg hm boot_range (PyProof.Rows.callWith_type1 (thn (ha pos pins s Z H _ I h) λ us s1 ⟨vs,H1,I1,r1,q1⟩=>?_) (by rw [hs,hs2]) (by rw [hs2]; rfl)));obtain ⟨i,j,e,⟨q1,q2,q3,q4⟩,q⟩:=q1;subst e;cases r1 with
 | cons r rr=>
  cases rr with
  | cons r' rr=>
   cases rr;obtain ⟨t,rfl⟩:=r;obtain ⟨t',rfl⟩:=r';exact call_range_2 (Gw I1 q1 q2 q3 q4 q)
def Zgz (wi:TI) (g:TG) (tb:TS):TS:=λ D Z H=>wi Z H λ J H1=>∃ W:Nat->Nat->St->Hp->Prop,(∃ m,W 0 m Z H1) /\ ∀ i m Z H,W i m Z H ->
 (J.stop i H /\ D.nx Z H) \/ (J.go i H /\ ∃ N:St->Hp->Prop,(∀ σ' H',N σ' H'->∃ m',m' < m /\ W (i + 1) m' σ' H') /\ ∀ x H',J.yld i H x H'->g x Z H' λ σ2 H2=>tb { D with nx:=N,ct:=N,bk:=D.nx } σ2 H2)
noncomputable def Wd (fp:List Addr) (h:Heap):List (Addr × Obj):=fp.filterMap λ b=>(h.get? b).map λ o=>(b,o)
theorem JD {fp:List Addr} {b:Addr} {o:Obj} (hb:b ∈ fp) (e:h.get? b = some o):(b,o) ∈ Wd fp h:=List.mem_filterMap.mpr ⟨b,hb,by rw [e]; rfl⟩
theorem EV {fp:List Addr} {p:Addr × Obj} (hp:p ∈ Wd fp h):p.1 ∈ fp /\ h.get? p.1 = some p.2:=by
 obtain ⟨b,hb,e⟩:=List.mem_filterMap.mp hp;cases q:h.get? b with
 | none=>rw [q] at e; cases e
 | some o=>
  rw [q] at e;have e':(b,o) = p:=Option.some.inj e;subst e';exact ⟨hb,q⟩
theorem Inv.pinned {fp:List Addr} (I:Inv X pins Z H s) (hf:∀ b ∈ fp,BE X pins H b) (ho:∀ b ∈ fp,∃ o,s.heap.get? b = some o /\ ∀ v,o.data ≠ .cell v):Inv X (pins ++ Wd fp s.heap) Z H s:=
 I.YI λ p hp=>(List.mem_append.mp hp).elim (λ z=>I.pin p (List.mem_append_right _ z)) λ z=>by
  obtain ⟨hb,e⟩:=EV z;obtain ⟨f0,f1,f2,_⟩:=hf p.1 hb;obtain ⟨o,e',d⟩:=ho p.1 hb;rw [e] at e'; cases e';exact ⟨e,f0,f1,f2,d⟩
theorem Inv.X5 {pl:List (Addr × Obj)} (I:Inv X (pins ++ pl) Z H s):Inv X pins Z H s:=I.YI λ p hp=>I.pin p (List.mem_append_right _ (List.mem_append_left _ hp))
theorem Ws {body:List Stmt} {wi:TI} {g:TG} {tb:TS} {pos:Pos} (hp:PassesOwn (model X.prog X.w) X.A X.env X.xe) (hc:X.calm = true) (hi:PI X tg iter wi) (hg:PG X tg g) (hb:PSs X body tb)
  (hs:autoParam (∀ x,foldedSetIterable iter X.env x = pure x) zz2._auto_1):PS X (.For tg iter body [] pos) (Zgz wi g tb):=by
 intro pins s Z H D I h;refine wpAny_For (thn (hi pins s Z H _ I h) λ v s1 h1=>thn h1 λ itv s2 h2=>?_) hs;obtain ⟨it,fp,tn,J,H2,e,I2,T,st2,f2,W,⟨m0,w0⟩,turn⟩:=h2;subst e;have stat:∀ {H':Hp},(∀ b ∈ fp,H' b = none)->∀ b ∈ fp,BE X pins H' b:=λ hn b hb=>⟨hn b hb,(f2 b hb).2⟩;refine codeAny_forLoop_any (λ n s'=>∃ i σ' H',Inv X pins σ' H' s' /\ tn i s'.heap /\ (∀ b ∈ fp,H' b = none) /\ W i n σ' H') ?_ m0 ⟨0,Z,H2,I2,st2,λ b hb=>(f2 b hb).1,w0⟩;rintro n s3 ⟨i,σ3,H3,I3,st3,fr3,w3⟩
 rcases turn i n σ3 H3 w3 with ⟨stop,qn⟩ | ⟨go,N,hN,step⟩
 ·refine wpAny_passesOwn hp (thn (T.done X rfl rfl rfl hc i pins s3 σ3 H3 X.xe I3 (stat fr3) st3 stop) λ r s4 ⟨hr,I4⟩=>?_);subst hr;exact wpAny_execs_nil ⟨σ3,H3,I4,qn⟩
 ·refine wpAny_passesOwn hp (thn (T.item X rfl rfl rfl hc i pins s3 σ3 H3 X.xe I3 (stat fr3) st3 go) λ r s4 ⟨u,hr,h4⟩=>?_);subst hr;refine wpAny_passesOwn hp (thn h4 λ _ s5 ⟨x,H5,I5,r5,y5,st5,fr5⟩=>?_);have I5':=I5.pinned (stat fr5) (T.obj _ _ st5);refine wpAny_passesOwn hp (thn (hg _ s5 σ3 H5 x u _ I5' r5 (step x H5 y5)) λ _ s6 ⟨σ6,H6,I6,q6⟩=>?_);refine wpAny_passesOwn hp (thn (hb _ s6 σ6 H6 _ I6 q6) λ f s7 q7=>?_);have again:∀ {σ7:St} {H7:Hp},Inv X (pins ++ Wd fp s5.heap) σ7 H7 s7->N σ7 H7->∃ m,m < n /\ ∃ i σ' H',Inv X pins σ' H' s7 /\ tn i s7.heap /\ (∀ b ∈ fp,H' b = none) /\ W i m σ' H':=λ {σ7 H7} I7 n7=>by
   obtain ⟨m',hm,w7⟩:=hN σ7 H7 n7;refine ⟨m',hm,i + 1,σ7,H7,I7.X5,T.keep _ _ _ st5 λ b hb o e=>(I7.pin (b,o) (List.mem_append_right _ (List.mem_append_right _ (JD hb e)))).1,λ b hb=>?_,w7⟩;obtain ⟨o,e,d⟩:=T.obj _ _ st5 b hb;exact (I7.pin (b,o) (List.mem_append_right _ (List.mem_append_right _ (JD hb e)))).2.1
  cases f with
  | next=>obtain ⟨σ7,H7,I7,n7⟩:=q7; exact again I7 n7
  | cont=>obtain ⟨σ7,H7,I7,n7⟩:=q7; exact again I7 n7
  | brk=>obtain ⟨σ7,H7,I7,q7⟩:=q7; exact ⟨σ7,H7,I7.X5,q7⟩
  | ret v=>obtain ⟨x7,σ7,H7,I7,r7,q7⟩:=q7; exact ⟨x7,σ7,H7,I7.X5,r7,q7⟩
theorem F6 {g:TG} {tb:TS} {D:Ends} (Pv:Nat->St->Hp->Prop) (h0:Pv 0 Z H) (hl:∀ i Z H,i <= xs.length->Pv i Z H->SqL K H a xs)
  (hs:∀ i x Z H,xs[i]? = some x->Pv i Z H->g x Z H λ σ2 H2=>tb { D with nx:=Pv (i + 1),ct:=Pv (i + 1),bk:=D.nx } σ2 H2) (hd:∀ Z H,Pv xs.length Z H->D.nx Z H) :
  ∃ W:Nat->Nat->St->Hp->Prop,(∃ m,W 0 m Z H) /\ ∀ i m Z H,W i m Z H ->
   ((Itl K a).stop i H /\ D.nx Z H) \/ ((Itl K a).go i H /\ ∃ N:St->Hp->Prop,(∀ σ' H',N σ' H'->∃ m',m' < m /\ W (i + 1) m' σ' H') /\ ∀ x H',(Itl K a).yld i H x H'->g x Z H' λ σ2 H2=>tb { D with nx:=N,ct:=N,bk:=D.nx } σ2 H2):=by
 refine ⟨λ i m Z H=>m = xs.length - i /\ i <= xs.length /\ Pv i Z H,⟨xs.length,by simp,Nat.zero_le _,h0⟩,?_⟩;rintro i m Z H ⟨rfl,hi,p⟩;have q:=hl i Z H hi p
 by_cases hlt:i < xs.length
 ·refine .inr ⟨⟨xs,xs[i],q,by simp [hlt]⟩,Pv (i + 1),λ σ' H' p'=>⟨xs.length - (i + 1),by lia,rfl,hlt,p'⟩,λ x H' y=>?_⟩;obtain ⟨e,y⟩:=y;subst e;exact hs i x Z _ (y xs q) p
 ·have e:i = xs.length:=by lia
  subst e;exact .inl ⟨⟨xs,q,Nat.le_refl _⟩,hd Z H p⟩
theorem O3 {g:TG} {tb:TS} {D:Ends} (Pv:Nat->St->Hp->Prop) (h0:Pv 0 Z H) (hl:∀ i Z H,i <= xs.length->Pv i Z H->SqT K H a xs)
  (hs:∀ i x Z H,xs[i]? = some x->Pv i Z H->g x Z H λ σ2 H2=>tb { D with nx:=Pv (i + 1),ct:=Pv (i + 1),bk:=D.nx } σ2 H2) (hd:∀ Z H,Pv xs.length Z H->D.nx Z H) :
  ∃ W:Nat->Nat->St->Hp->Prop,(∃ m,W 0 m Z H) /\ ∀ i m Z H,W i m Z H ->
   ((Itt K a).stop i H /\ D.nx Z H) \/ ((Itt K a).go i H /\ ∃ N:St->Hp->Prop,(∀ σ' H',N σ' H'->∃ m',m' < m /\ W (i + 1) m' σ' H') /\ ∀ x H',(Itt K a).yld i H x H'->g x Z H' λ σ2 H2=>tb { D with nx:=N,ct:=N,bk:=D.nx } σ2 H2):=by
 refine ⟨λ i m Z H=>m = xs.length - i /\ i <= xs.length /\ Pv i Z H,⟨xs.length,by simp,Nat.zero_le _,h0⟩,?_⟩;rintro i m Z H ⟨rfl,hi,p⟩;have q:=hl i Z H hi p
 by_cases hlt:i < xs.length
 ·refine .inr ⟨⟨xs,xs[i],q,by simp [hlt]⟩,Pv (i + 1),λ σ' H' p'=>⟨xs.length - (i + 1),by lia,rfl,hlt,p'⟩,λ x H' y=>?_⟩;obtain ⟨e,y⟩:=y;subst e;exact hs i x Z _ (y xs q) p
 ·have e:i = xs.length:=by lia
  subst e;exact .inl ⟨⟨xs,q,Nat.le_refl _⟩,hd Z H p⟩
theorem D3 {lo:Int} {n:Nat} {g:TG} {tb:TS} {D:Ends} (Pv:Nat->St->Hp->Prop) (h0:Pv 0 Z H)
  (hs:∀ i Z H,i < n->Pv i Z H->g (.int (lo + i)) Z H λ σ2 H2=>tb { D with nx:=Pv (i + 1),ct:=Pv (i + 1),bk:=D.nx } σ2 H2) (hd:∀ Z H,Pv n Z H->D.nx Z H) :
  ∃ W:Nat->Nat->St->Hp->Prop,(∃ m,W 0 m Z H) /\ ∀ i m Z H,W i m Z H ->
   ((Itr lo n).stop i H /\ D.nx Z H) \/ ((Itr lo n).go i H /\ ∃ N:St->Hp->Prop,(∀ σ' H',N σ' H'->∃ m',m' < m /\ W (i + 1) m' σ' H') /\ ∀ x H',(Itr lo n).yld i H x H'->g x Z H' λ σ2 H2=>tb { D with nx:=N,ct:=N,bk:=D.nx } σ2 H2):=by
 refine ⟨λ i m Z H=>m = n - i /\ i <= n /\ Pv i Z H,⟨n,by simp,Nat.zero_le _,h0⟩,?_⟩;rintro i m Z H ⟨rfl,hi,p⟩
 by_cases hlt:i < n
 ·refine .inr ⟨hlt,Pv (i + 1),λ σ' H' p'=>⟨n - (i + 1),by lia,rfl,hlt,p'⟩,λ x H' y=>?_⟩;obtain ⟨e,y⟩:=y;subst e y;exact hs i Z _ hlt p
 ·have e:i = n:=by lia
  subst e;exact .inl ⟨Nat.le_refl _,hd Z H p⟩
abbrev R2:=V->V->Hp->VK->Prop
def OpR (X:Cx) (f:Value->Value->Sem Value) (r:R2):Prop:=
 ∀ (pins:List (Addr × Obj)) (s:Shared) (Z:St) (H:Hp) (x y:V) (v u:Value) (Q:VK),Inv X pins Z H s->RelV x v->RelV y u->r x y H Q ->
  wpAny (model X.prog X.w) X.A (f v u) (EP X pins Z Q) X.xe s
def UnR (X:Cx) (f:Value->Sem Value) (r:V->Hp->VK->Prop):Prop:=
 ∀ (pins:List (Addr × Obj)) (s:Shared) (Z:St) (H:Hp) (x:V) (v:Value) (Q:VK),Inv X pins Z H s->RelV x v->r x H Q ->
  wpAny (model X.prog X.w) X.A (f v) (EP X pins Z Q) X.xe s
def Q3 (X:Cx) (f:Value) (r:List V->Hp->VK->Prop):Prop:=
 ∀ (pins:List (Addr × Obj)) (s:Shared) (Z:St) (H:Hp) (xs:List V) (us:List Value) (Q:VK),Inv X pins Z H s->Vals xs us->r xs H Q ->
  wpAny (model X.prog X.w) X.A (call f us) (EP X pins Z Q) X.xe s
def Zgl (X:Cx) (r:V->Hp->(Bool->Hp->Prop)->Prop):Prop:=
 ∀ (pins:List (Addr × Obj)) (s:Shared) (Z:St) (H:Hp) (x:V) (v:Value) (Q:Bool->Hp->Prop),Inv X pins Z H s->RelV x v->r x H Q ->
  wpAny (model X.prog X.w) X.A (truthy v) (TP X pins Z Q) X.xe s
def tOp (r:R2) (ta tb:TE):TE:=λ Z H Q=>ta Z H λ x H1=>tb Z H1 λ y H2=>r x y H2 Q
def tUn (r:V->Hp->VK->Prop) (ta:TE):TE:=λ Z H Q=>ta Z H λ x H1=>r x H1 Q
def rI (C:Int->Int->Prop) (g:Int->Int->V):R2:=λ x y H Q=>∃ i j,x = .int i /\ y = .int j /\ C i j /\ Q (g i j) H
def rI0 (g:Int->Int->V):R2:=λ x y H Q=>∃ i j,x = .int i /\ y = .int j /\ Q (g i j) H
def rU (g:Int->V):V->Hp->VK->Prop:=λ x H Q=>∃ i,x = .int i /\ Q (g i) H
section
variable {a b c:Expr} {ta tb tc:TE}
theorem Ze2 (ha:PE X a ta) (hb:PE X b tb) {R:V->V->Hp->Prop} (I:Inv X pins Z H s)
  (h:ta Z H λ x H1=>tb Z H1 λ y H2=>R x y H2) {Q:Value->Shared->Prop} {f:Value->Value->Sem Value}
  (hf:∀ v u s2 x y H2,Inv X pins Z H2 s2->RelV x v->RelV y u->R x y H2->wpAny (model X.prog X.w) X.A (f v u) Q X.xe s2) :
  wpAny (model X.prog X.w) X.A (eval a X.env) (λ v s₁=>wpAny (model X.prog X.w) X.A (eval b X.env) (λ u s₂=>wpAny (model X.prog X.w) X.A (f v u) Q X.xe s₂) X.xe s₁) X.xe s:=by
 refine thn (ha pins s Z H _ I h) λ v s1 ⟨x,H1,I1,r1,q1⟩=>?_;refine thn (hb pins s1 Z H1 _ I1 q1) λ u s2 ⟨y,H2,I2,r2,q2⟩=>?_;exact hf v u s2 x y H2 I2 r1 r2 q2
theorem ZeF {op:Operator} {r:R2} (ho:OpR X (binaryOp op) r) (ha:PE X a ta) (hb:PE X b tb):PE X (.BinOp a op b pos) (tOp r ta tb):=by
 intro pins s Z H Q I h;exact wpAny_BinOp (Ze2 ha hb I h λ v u s2 x y H2 I2 rx ry q=>ho pins s2 Z H2 x y v u Q I2 rx ry q)
theorem Zem {op:UnaryOp} {r:V->Hp->VK->Prop} (ho:UnR X (unaryOp op) r) (ha:PE X a ta):PE X (.UnaryOp op a pos) (tUn r ta):=by
 intro pins s Z H Q I h;exact UnaryOp_ (thn (ha pins s Z H _ I h) λ v s1 ⟨x,H1,I1,r1,q1⟩=>ho pins s1 Z H1 x v Q I1 r1 q1)
theorem opI {f:Value->Value->Sem Value} {C:Int->Int->Prop} {g:Int->Int->Int}
  (rule:∀ (i j:Int) (t u:Tok) (s:Shared) (Q:Value->Shared->Prop) (E:Value->Shared->Prop),C i j->Q (.int (g i j) s.toks) { s with toks:=s.toks + 1 }->wpAny (model X.prog X.w) X.A (f (.int i t) (.int j u)) Q E s) :
  OpR X f (rI C λ i j=>.int (g i j)):=by
 intro pins s Z H x y v u Q I rx ry h;obtain ⟨i,j,rfl,rfl,hc,q⟩:=h;obtain ⟨t,rfl⟩:=rx;obtain ⟨t',rfl⟩:=ry;exact rule i j t t' s _ _ hc ⟨.int (g i j),H,I.tok _,⟨_,rfl⟩,q⟩
theorem Zfs {f:Value->Value->Sem Value} {g:Int->Int->Int}
  (rule:∀ (i j:Int) (t u:Tok) (s:Shared) (Q:Value->Shared->Prop) (E:Value->Shared->Prop),Q (.int (g i j) s.toks) { s with toks:=s.toks + 1 }->wpAny (model X.prog X.w) X.A (f (.int i t) (.int j u)) Q E s) :
  OpR X f (rI0 λ i j=>.int (g i j)):=by
 intro pins s Z H x y v u Q I rx ry h;obtain ⟨i,j,rfl,rfl,q⟩:=h;obtain ⟨t,rfl⟩:=rx;obtain ⟨t',rfl⟩:=ry;exact rule i j t t' s _ _ ⟨.int (g i j),H,I.tok _,⟨_,rfl⟩,q⟩
theorem Zc6 {f:Value->Value->Sem Value} {g:Int->Int->Bool}
  (rule:∀ (i j:Int) (t u:Tok) (s:Shared) (Q:Value->Shared->Prop) (E:Value->Shared->Prop),Q (.bool (g i j)) s->wpAny (model X.prog X.w) X.A (f (.int i t) (.int j u)) Q E s) :
  OpR X f (rI0 λ i j=>.bl (g i j)):=by
 intro pins s Z H x y v u Q I rx ry h;obtain ⟨i,j,rfl,rfl,q⟩:=h;obtain ⟨t,rfl⟩:=rx;obtain ⟨t',rfl⟩:=ry;exact rule i j t t' s _ _ ⟨.bl (g i j),H,I,rfl,q⟩
def ZeQ (i j:Int):Prop:=0 < j /\ j < 1073741824
def Za8 (i j:Int):Prop:=0 <= j /\ j <= 1000000 /\ i.natAbs < 2 ^ 64
def Oy (i j:Int):Prop:=(-(2 ^ 64) < i /\ i < 2 ^ 64) \/ (-(2 ^ 64) < j /\ j < 2 ^ 64)
theorem Oy.ok {i j:Int} (h:Oy i j):IntMulOk i j:=by
 rcases h with ⟨h1,h2⟩ | ⟨h1,h2⟩
 ·exact .of_left (intBits_le_64 h1 h2)
 ·exact .of_right (intBits_le_64 h1 h2)
theorem TV:OpR X (binaryOp .Add) (rI0 λ i j=>.int (i + j)):=Zfs λ _ _ _ _ _ _ _ q=>add_int q
theorem Zbi:OpR X (binaryOp .Sub) (rI0 λ i j=>.int (i - j)):=Zfs λ _ _ _ _ _ _ _ q=>sub_int q
theorem Zcv:OpR X (binaryOp .Mult) (rI Oy λ i j=>.int (i * j)):=opI λ _ _ _ _ _ _ _ hc q=>mul_int q hc.ok
theorem OR:OpR X (binaryOp .FloorDiv) (rI ZeQ λ i j=>.int (i / j)):=opI λ i j _ _ _ _ _ hc q=>by
 have h1:(0:Int) < j:=hc.1;have h2:j < 1073741824:=hc.2;exact floordiv_int (by lia) (by rw [Int.fdiv_eq_ediv_of_nonneg i (by lia)]; exact q) (.inl (PyProof.noPylong_small (by lia)))
theorem ZcU:OpR X (binaryOp .Mod) (rI (λ _ j=>0 < j) λ i j=>.int (i % j)):=opI λ i j _ _ _ _ _ hc q=>by
 have h1:(0:Int) < j:=hc;exact mod_int' (by lia) (by rw [Int.fmod_eq_emod_of_nonneg i (by lia)]; exact q)
theorem Tu:OpR X (binaryOp .Pow) (rI Za8 λ i j=>.int (i ^ j.toNat)):=opI λ _ _ _ _ _ _ _ hc q=>pow_int_small hc.1 hc.2.1 hc.2.2 q
theorem unI {f:Value->Sem Value} {g:Int->Int}
  (rule:∀ (i:Int) (t:Tok) (s:Shared) (Q:Value->Shared->Prop) (E:Value->Shared->Prop),Q (.int (g i) s.toks) { s with toks:=s.toks + 1 }->wpAny (model X.prog X.w) X.A (f (.int i t)) Q E s) :
  UnR X f (rU λ i=>.int (g i)):=by
 intro pins s Z H x v Q I rx h;obtain ⟨i,rfl,q⟩:=h;obtain ⟨t,rfl⟩:=rx;exact rule i t s _ _ ⟨.int (g i),H,I.tok _,⟨_,rfl⟩,q⟩
theorem Td:UnR X (unaryOp .USub) (rU λ i=>.int (-i)):=unI λ _ _ _ _ _ q=>neg_int q
end
noncomputable def ZfA:V->V->Bool
 | .non,.non=>true | .non,.int _=>true | .int _,.non=>true | .non,.bl _=>true | .bl _,.non=>true | .non,.str _=>true | .str _,.non=>true
 | .int _,.int _=>true | .bl _,.bl _=>true | .str _,.str _=>true | .byt _,.byt _=>true
 | .int _,.str _=>true | .str _,.int _=>true | .bl _,.str _=>true | .str _,.bl _=>true
 | _,_=>false
def rEq:R2:=λ x y H Q=>ZfA x y = true /\ Q (.bl (decide (x = y))) H
def rNe:R2:=λ x y H Q=>ZfA x y = true /\ Q (.bl (!decide (x = y))) H
theorem Dy {i j:Int}:decide (V.int i = V.int j) = (i == j):=by
 rw [Bool.eq_iff_iff];simp
theorem Oe {i j:Bool}:decide (V.bl i = V.bl j) = (i == j):=by
 rw [Bool.eq_iff_iff];simp
theorem Kd {i j:Str}:decide (V.str i = V.str j) = (i == j):=by
 rw [Bool.eq_iff_iff];simp
theorem Dm {i j:Array UInt8}:decide (V.byt i = V.byt j) = (i.toList == j.toList):=by
 rw [Bool.eq_iff_iff];cases i;cases j;simp
section
variable {a b c:Expr} {ta tb tc:TE}
theorem ZK {Q:VK} {k k':Bool} (I:Inv X pins Z H s) (q:Q (.bl k) H) (e:k = k'):EP X pins Z Q (.bool k') s:=by
 subst e;exact ⟨.bl k,H,I,rfl,q⟩
theorem ZeE:OpR X (compareOp .Eq) rEq:=by
 intro pins s Z H x y v u Q I rx ry h;obtain ⟨hs,q⟩:=h;cases x with
 | non=>
  cases rx;cases y with
  | non=>cases ry; exact PySem.EqNone.eq_none_none (ZK I q (by simp))
  | bl j=>cases ry; exact PySem.EqNone.eq_none_bool (ZK I q (by simp))
  | int j=>obtain ⟨t',rfl⟩:=ry; exact PySem.EqNone.eq_none_int (ZK I q (by simp))
  | str j=>obtain ⟨t',rfl⟩:=ry; exact PySem.EqNone.eq_none_str (ZK I q (by simp))
  | _=>exact absurd (show false = true from hs) Bool.false_ne_true
 | bl i=>
  cases rx;cases y with
  | non=>cases ry; exact PySem.EqNone.eq_bool_none (ZK I q (by simp))
  | bl j=>cases ry; exact eq_bool (ZK I q Oe)
  | str j=>obtain ⟨t',rfl⟩:=ry; exact PySem.EqMixed.eq_bool_str (ZK I q (by simp))
  | _=>exact absurd (show false = true from hs) Bool.false_ne_true
 | int i=>
  obtain ⟨t,rfl⟩:=rx;cases y with
  | non=>cases ry; exact PySem.EqNone.eq_int_none (ZK I q (by simp))
  | int j=>obtain ⟨t',rfl⟩:=ry; exact eq_int (ZK I q Dy)
  | str j=>obtain ⟨t',rfl⟩:=ry; exact PySem.EqMixed.eq_int_str (ZK I q (by simp))
  | _=>exact absurd (show false = true from hs) Bool.false_ne_true
 | str i=>
  obtain ⟨t,rfl⟩:=rx;cases y with
  | non=>cases ry; exact PySem.EqNone.eq_str_none (ZK I q (by simp))
  | bl j=>cases ry; exact PySem.EqMixed.eq_str_bool (ZK I q (by simp))
  | int j=>obtain ⟨t',rfl⟩:=ry; exact PySem.EqMixed.eq_str_int (ZK I q (by simp))
  | str j=>obtain ⟨t',rfl⟩:=ry; exact eq_str (ZK I q Kd)
  | _=>exact absurd (show false = true from hs) Bool.false_ne_true
 | byt i=>
  obtain ⟨t,rfl⟩:=rx;cases y with
  | byt j=>obtain ⟨t',rfl⟩:=ry; exact PySem.W.eq_bytes (ZK I q Dm)
  | _=>exact absurd (show false = true from hs) Bool.false_ne_true
 | _=>cases y <;> exact absurd (show false = true from hs) Bool.false_ne_true
theorem ZeC:OpR X (compareOp .NotEq) rNe:=by
 intro pins s Z H x y v u Q I rx ry h;obtain ⟨hs,q⟩:=h;cases x with
 | non=>
  cases rx;cases y with
  | non=>cases ry; exact PySem.EqNone.ne_none_none (ZK I q (by simp))
  | bl j=>cases ry; exact PySem.EqNone.ne_none_bool (ZK I q (by simp))
  | int j=>obtain ⟨t',rfl⟩:=ry; exact PySem.EqNone.ne_none_int (ZK I q (by simp))
  | str j=>obtain ⟨t',rfl⟩:=ry; exact PySem.EqNone.ne_none_str (ZK I q (by simp))
  | _=>exact absurd (show false = true from hs) Bool.false_ne_true
 | bl i=>
  cases rx;cases y with
  | non=>cases ry; exact PySem.EqNone.ne_bool_none (ZK I q (by simp))
  | bl j=>cases ry; exact ne_bool (ZK I q (congrArg not Oe))
  | str j=>obtain ⟨t',rfl⟩:=ry; exact PySem.EqMixed.ne_bool_str (ZK I q (by simp))
  | _=>exact absurd (show false = true from hs) Bool.false_ne_true
 | int i=>
  obtain ⟨t,rfl⟩:=rx;cases y with
  | non=>cases ry; exact PySem.EqNone.ne_int_none (ZK I q (by simp))
  | int j=>obtain ⟨t',rfl⟩:=ry; exact ne_int (ZK I q (congrArg not Dy))
  | str j=>obtain ⟨t',rfl⟩:=ry; exact PySem.EqMixed.ne_int_str (ZK I q (by simp))
  | _=>exact absurd (show false = true from hs) Bool.false_ne_true
 | str i=>
  obtain ⟨t,rfl⟩:=rx;cases y with
  | non=>cases ry; exact PySem.EqNone.ne_str_none (ZK I q (by simp))
  | bl j=>cases ry; exact PySem.EqMixed.ne_str_bool (ZK I q (by simp))
  | int j=>obtain ⟨t',rfl⟩:=ry; exact PySem.EqMixed.ne_str_int (ZK I q (by simp))
  | str j=>obtain ⟨t',rfl⟩:=ry; exact ne_str (ZK I q (congrArg not Kd))
  | _=>exact absurd (show false = true from hs) Bool.false_ne_true
 | byt i=>
  obtain ⟨t,rfl⟩:=rx;cases y with
  | byt j=>obtain ⟨t',rfl⟩:=ry; exact PySem.W.ne_bytes (ZK I q (congrArg not Dm))
  | _=>exact absurd (show false = true from hs) Bool.false_ne_true
 | _=>cases y <;> exact absurd (show false = true from hs) Bool.false_ne_true
theorem ZeS:OpR X (compareOp .Lt) (rI0 λ i j=>.bl (decide (i < j))):=Zc6 λ _ _ _ _ _ _ _ q=>lt_int q
theorem Zeu:OpR X (compareOp .LtE) (rI0 λ i j=>.bl (decide (i <= j))):=Zc6 λ _ _ _ _ _ _ _ q=>le_int q
theorem Zew:OpR X (compareOp .Gt) (rI0 λ i j=>.bl (decide (j < i))):=Zc6 λ _ _ _ _ _ _ _ q=>gt_int q
theorem ZeY:OpR X (compareOp .GtE) (rI0 λ i j=>.bl (decide (j <= i))):=Zc6 λ _ _ _ _ _ _ _ q=>ge_int q
theorem OZ:OpR X (compareOp .IsNot) (λ x y H Q=>y = .non /\ Q (.bl (!decide (x = .non))) H):=by
 intro pins s Z H x y v u Q I rx ry h;obtain ⟨rfl,q⟩:=h;cases ry;refine isnot_none_gen (ZK I q ?_);cases x <;> first
  | (cases rx; rfl)
  | (obtain ⟨t,rfl⟩:=rx; rfl)
theorem OpR.or {f:Value->Value->Sem Value} {r r':R2} (h:OpR X f r) (h':OpR X f r'):OpR X f (λ x y H Q=>r x y H Q \/ r' x y H Q):=by
 intro pins s Z H x y v u Q I rx ry q
 rcases q with q | q
 ·exact h pins s Z H x y v u Q I rx ry q
 ·exact h' pins s Z H x y v u Q I rx ry q
theorem N3 (b:Expr) {op:CmpOp} (h:autoParam (op ≠ .In) zz1._auto_1) (h2:autoParam (op ≠ .NotIn) zz1._auto_1):behindInMarks op b = false:=by
 have e1:(op == CmpOp.In) = false:=by cases op <;> first | rfl | exact absurd rfl h
 have e2:(op == CmpOp.NotIn) = false:=by cases op <;> first | rfl | exact absurd rfl h2
 cases b <;> simp [behindInMarks,e1,e2]
theorem SA {op:CmpOp} {r:R2} (ho:OpR X (compareOp op) r) (ha:PE X a ta) (hb:PE X b tb) (hm:behindInMarks op b = false):PE X (.Compare a [op] [b] pos) (tOp r ta tb):=by
 intro pins s Z H Q I h;exact wpAny_Compare1 (Ze2 ha hb I h λ v u s2 x y H2 I2 rx ry q=>ho pins s2 Z H2 x y v u Q I2 rx ry q) hm
def ZbO (t:TE):TT:=λ Z H Q=>t Z H λ x H'=>∃ k,x = .bl k /\ Q k H'
theorem P7 {op:CmpOp} {r:R2} (ho:OpR X (compareOp op) r) (ha:PE X a ta) (hb:PE X b tb) (hm:behindInMarks op b = false):PT X (.Compare a [op] [b] pos) (ZbO (tOp r ta tb)):=by
 intro pins s Z H Q I h
 refine wpAny_isTrue_Compare1 (thn (ha pins s Z H _ I h) λ v s1 ⟨x,H1,I1,r1,q1⟩=>thn (hb pins s1 Z H1 _ I1 q1) λ u s2 ⟨y,H2,I2,r2,q2⟩=>
  thn (ho pins s2 Z H2 x y v u _ I2 r1 r2 q2) λ c s3 ⟨z,H3,I3,r3,k,e,q3⟩=>?_) hm
 subst e;cases r3;exact wpAny_truthy_bool ⟨H3,I3,q3⟩
def Om (r r':R2) (ta tb tc:TE):TE:=λ Z H Q=>ta Z H λ x H1=>tb Z H1 λ y H2=>r x y H2 λ z H3=>∃ k,z = .bl k /\
 (if k = true then tc Z H3 λ w' H4=>r' y w' H4 Q else Q (.bl false) H3)
theorem LI {op op':CmpOp} {r r':R2} (ho:OpR X (compareOp op) r) (ho':OpR X (compareOp op') r') (ha:PE X a ta) (hb:PE X b tb) (hc:PE X c tc)
  (hm:autoParam (lastMarks [op,op'] [b,c] = false) zz4._auto_1):PT X (.Compare a [op,op'] [b,c] pos) (ZbO (Om r r' ta tb tc)):=by
 intro pins s Z H Q I h
 refine isTrue_chain (thn (ha pins s Z H _ I h) λ v s1 ⟨x,H1,I1,r1,q1⟩=>test_link (thn (hb pins s1 Z H1 _ I1 q1) λ u s2 ⟨y,H2,I2,r2,q2⟩=>
  thn (ho pins s2 Z H2 x y v u _ I2 r1 r2 q2) λ d s3 ⟨z,H3,I3,r3,k,e,q3⟩=>?_)) hm
 subst e;cases r3;refine wpAny_truthy_bool ?_;cases k with
 | false=>
  obtain ⟨k',e',q'⟩:=q3;cases e';exact ite_ff ⟨H3,I3,q'⟩
 | true=>
  refine ite_tt (test_last (thn (hc pins s3 Z H3 _ I3 q3) λ w' s4 ⟨z',H4,I4,r4,q4⟩=>thn (ho' pins s4 Z H4 y z' u w' _ I4 r2 r4 q4) λ d' s5 ⟨z2,H5,I5,r5,k2,e2,q5⟩=>?_));subst e2;cases r5;exact wpAny_truthy_bool ⟨H5,I5,q5⟩
def Zf7 (K:Fk) (x:V) (H:Hp) (k:Bool):Prop:=
 match x with
 | .non=>k = false
 | .bl b=>k = b
 | .int i=>k = (i != 0)
 | .str y=>y.length <= sizeLine /\ k = ((y.length:Int) != 0)
 | .byt y=>y.size <= sizeLine /\ k = ((y.size:Int) != 0)
 | .ref p=>(∃ xs,SqL K H p xs /\ k = !xs.isEmpty) \/ (∃ xs,SqT K H p xs /\ k = !xs.isEmpty) \/ ∃ kvs,H p = some (.dK kvs) /\ k = !kvs.isEmpty
 | _=>False
theorem Bc {κ:Type} {kvs:List (κ × V)} {vs:List (κ × Value)} (r:KV kvs vs):(!vs.isEmpty) = !kvs.isEmpty:=by
 cases r <;> rfl
theorem Xb {its:List Value} (r:Vals xs its):(!its.toArray.isEmpty) = !xs.isEmpty:=by
 cases r <;> simp
theorem Xk:(sizeLine:Nat) < 2 ^ 63:=by rw [sizeLine_eq]; decide
theorem Zak:Zgl X (λ x H Q=>∃ k,Zf7 X.K x H k /\ Q k H):=by
 intro pins s Z H x v Q I rx h;obtain ⟨k,e,q⟩:=h;have hl:=Xk;have hs:sizeLine = 16777216:=sizeLine_eq;cases x with
 | non=>
  cases rx;have e':k = false:=e;subst e';exact truthy_none ⟨H,I,q⟩
 | bl b=>
  cases rx;have e':k = b:=e;subst e';exact wpAny_truthy_bool ⟨H,I,q⟩
 | int i=>
  obtain ⟨t,rfl⟩:=rx;have e':k = (i != 0):=e;subst e';exact PySem.P.truthy_int ⟨H,I,q⟩
 | str y=>
  obtain ⟨t,rfl⟩:=rx;obtain ⟨hy,e'⟩:y.length <= sizeLine /\ k = ((y.length:Int) != 0):=e;subst e';exact PySem.P.truthy_str (by lia) ⟨H,I.tok _,q⟩
 | byt y=>
  obtain ⟨t,rfl⟩:=rx;obtain ⟨hy,e'⟩:y.size <= sizeLine /\ k = ((y.size:Int) != 0):=e;subst e';exact PySem.W.truthy_bytes (by lia) ⟨H,I.tok _,q⟩
 | ref p=>
  cases rx;have e':(∃ xs,SqL X.K H p xs /\ k = !xs.isEmpty) \/ (∃ xs,SqT X.K H p xs /\ k = !xs.isEmpty) \/ ∃ kvs,H p = some (.dK kvs) /\ k = !kvs.isEmpty:=e
  rcases e' with ⟨xs,hx,e'⟩ | ⟨xs,hx,e'⟩ | ⟨kvs,hx,e'⟩
  ·subst e';obtain ⟨its,r,pl,hz⟩:=I.list hx;have hlen:=r.length;exact wpAny_truthy_list pl.isList (by simp only [List.size_toArray]; lia) ⟨H,I.tok _,by rw [Xb r]; exact q⟩
  ·subst e';obtain ⟨its,r,pl,hz⟩:=I.tuple hx;have hlen:=r.length;exact truthy_tuple pl (by simp only [List.size_toArray]; lia) ⟨H,I.tok _,by rw [Xb r]; exact q⟩
  ·subst e';obtain ⟨hz,hS,vs,r,m⟩:kvs.length <= sizeLine /\ (p == sysModules) = false /\ ∃ vs,KV kvs vs /\ s.heap.DictOf (ZW X.prog X.w) p vs:=I.hok p _ hx;have hlen:kvs.length = vs.length:=Paired.length r;exact wpAny_truthy_dict hS m (by lia) ⟨H,I.tok _,by rw [Bc r]; exact q⟩
 | _=>exact (show False from e).elim
theorem LJ (ha:PE X a ta) (he:∀ whole,isTrue a X.env whole = (do let v <- whole; standAt a.pos; holding [v] (truthy v))) :
  PT X a (λ Z H Q=>ta Z H λ x H'=>∃ k,Zf7 X.K x H' k /\ Q k H'):=by
 intro pins s Z H Q I h;exact isTrue_plain (thn (ha pins s Z H _ I h) λ v s1 ⟨x,H1,I1,r1,q1⟩=>Zak pins s1 Z H1 x v Q I1 r1 q1) (he _)
theorem vals1 {x:V} (r:Vals [x] us):∃ u,us = [u] /\ RelV x u:=by
 cases r with
 | cons r1 r2=>cases r2; exact ⟨_,rfl,r1⟩
theorem vals2 {x:V} (r:Vals [x,y] us):∃ u w',us = [u,w'] /\ RelV x u /\ RelV y w':=by
 cases r with
 | cons r1 r2=>
  cases r2 with
  | cons r3 r4=>cases r4; exact ⟨_,_,rfl,r1,r3⟩
theorem L7:Q3 X (.builtin "abs") (λ xs H Q=>∃ i,xs = [.int i] /\ Q (.int (if i < 0 then -i else i)) H):=by
 intro pins s Z H xs us Q I r h;obtain ⟨i,rfl,q⟩:=h;obtain ⟨u,rfl,t,rfl⟩:=vals1 r;exact call_abs_int λ u tk=>⟨.int (if i < 0 then -i else i),H,I.tok _,⟨_,rfl⟩,q⟩
theorem FN (hc:X.calm = true):Q3 X (.builtin "max") (λ xs H Q=>∃ i j,xs = [.int i,.int j] /\ Q (.int (if j > i then j else i)) H):=by
 intro pins s Z H xs us Q I r h;obtain ⟨i,j,rfl,q⟩:=h;obtain ⟨u,w',rfl,⟨t,rfl⟩,⟨t',rfl⟩⟩:=vals2 r;refine max_two_ints (I.ok.hd hc) λ h' tk k=>⟨_,H,I.kept k,?_,q⟩
 by_cases hj:j > i
 ·rw [if_pos hj,if_pos hj]; exact ⟨_,rfl⟩
 ·rw [if_neg hj,if_neg hj]; exact ⟨_,rfl⟩
theorem CQ (hc:X.calm = true):Q3 X (.builtin "min") (λ xs H Q=>∃ i j,xs = [.int i,.int j] /\ Q (.int (if j < i then j else i)) H):=by
 intro pins s Z H xs us Q I r h;obtain ⟨i,j,rfl,q⟩:=h;obtain ⟨u,w',rfl,⟨t,rfl⟩,⟨t',rfl⟩⟩:=vals2 r;refine min_two_ints (I.ok.hd hc) λ h' tk k=>⟨_,H,I.kept k,?_,q⟩
 by_cases hj:j < i
 ·rw [if_pos hj,if_pos hj]; exact ⟨_,rfl⟩
 ·rw [if_neg hj,if_neg hj]; exact ⟨_,rfl⟩
theorem EC:Q3 X (.type "int") (λ xs H Q=>(∃ i,xs = [.int i] /\ Q (.int i) H) \/ ∃ k,xs = [.bl k] /\ Q (.int (if k then 1 else 0)) H):=by
 intro pins s Z H xs us Q I r h
 rcases h with ⟨i,rfl,q⟩ | ⟨k,rfl,q⟩
 ·obtain ⟨u,rfl,t,rfl⟩:=vals1 r;exact call_int_int ⟨.int i,H,I,⟨_,rfl⟩,q⟩
 ·obtain ⟨u,rfl,r1⟩:=vals1 r;cases r1;exact call_int_bool ⟨.int (if k then 1 else 0),H,I.tok _,⟨_,rfl⟩,q⟩
end
structure ZfV (h:Heap) (x dx C:Addr) (mA:Str->Option Value):Prop where
 obj:h.get? x = some (PySem.W.instObj C dx)
 ns:h.Ns1 dx mA
 ne:dx ≠ x
section
variable {prog:Program} {E:Value->Shared->Prop} {x dx C:Addr} {mA:Str->Option Value} {name:Str} {v:Value}
end
section
variable {C dx:Addr} {fs fs':List (Str × V)}
end
structure Cls (K:Fk) (C:Addr):Prop where
 pg:PySem.W.plainGet K C Str.empty = true
 hd:PySem.W.hasDictIn K C = true
 po:PySem.W.plainOver K C = true
 sa:PySem.W.findIn K (.ref C) "__setattr__" = some (some (.builtin "object.__setattr__"))
theorem Cls.get {C:Addr} (c:Cls K C) (f:Str):PySem.W.plainGet K C f = true:=c.pg
structure Con (K:Fk) (C:Addr) (f:Str) (v:V) (u:Value):Prop where
 at_:PySem.W.findIn K (.ref C) f = some (some u)
 rel:RelV v u
 get:PySem.W.specialIn K u "__get__" = some none
 cp:PySem.W.copiedNames.contains f = false
structure Meth (K:Fk) (C:Addr) (m:Str) (f:Addr):Prop where
 at_:PySem.W.findIn K (.ref C) m = some (some (.ref f))
 fn:PySem.W.isFn K (.ref f) = true
 kp:PySem.W.keepIn K (.ref f) = true
section
variable {C dx:Addr} {fs:List (Str × V)} {f:Str} {E:Value->Shared->Prop}
end
section
variable {o value:Expr} {f:Str} {tpos:Pos} {ta tv:TE}
end
section
variable {E:Value->Shared->Prop} {c:Value} {b:Bool}
inductive Fo (K:Fk) (H:Hp):V->Value->Prop where
 | non:Fo K H .non (.type "NoneType")
 | bl (x:Bool):Fo K H (.bl x) (.type "bool")
 | int (i:Int):Fo K H (.int i) (.type "int")
 | str (x:Str):Fo K H (.str x) (.type "str")
 | flt (x:UInt64):Fo K H (.flt x) (.type "float")
 | lst {a:Addr} {xs:List V} (e:H a = some (.lst xs)):Fo K H (.ref a) (.type "list")
 | frz {a:Addr} {o:Obj} {xs:List V} (e:H a = some (.frz o (.lst xs))):Fo K H (.ref a) (.type "list")
 | tup {a:Addr} {xs:List V} (e:H a = some (.tup xs)):Fo K H (.ref a) (.type "tuple")
 | dK {a:Addr} {kvs:List (Key × V)} (e:H a = some (.dK kvs)):Fo K H (.ref a) (.type "dict")
 | dT {a:Addr} {kvs:List (List Key × V)} (e:H a = some (.dT kvs)):Fo K H (.ref a) (.type "dict")
 | ins {a C dx:Addr} {fs:List (Str × V)} (e:H a = some (.ins C dx fs)) (cl:Cls K C) (ha:PySem.W.findIn K (.ref C) "__class__" = some (some (.builtin "object.__class__")))
   (hn:PySem.W.specialIn K (.builtin "object.__class__") "__get__" = some (some (.builtin "getset_descriptor.__get__"))) (htk:PySem.W.takesIn K (.builtin "object.__class__") = some true)
   (hm:PySem.W.mroIn K C (.type "object") = some true):Fo K H (.ref a) (.ref C)
end
structure JJ (k:Nat) (A:Around):Prop where
 hd:A.handled = none
 dp:A.depth + 3 * k + 5 < recursionLimit
 un:A.units + 16 * k + 200 < cLine
 gd:A.guards = some []
theorem JJ.mono {k:Nat} (r:JJ k A) (h:j <= k):JJ j A:=⟨r.hd,by have:=r.dp; lia,by have:=r.un; lia,r.gd⟩
theorem JJ.deeper {k:Nat} (r:JJ (k + 1) A) (env:Env):JJ k (A.deeper env):=
 ⟨r.hd,by have:=r.dp; show A.depth + 1 + 3 * k + 5 < _; lia,by have:=r.un; show A.units + 3 + 16 * k + 200 < _; lia,r.gd⟩
theorem JJ.depth {k:Nat} (r:JJ k A):A.depth < recursionLimit:=by have:=r.dp; lia
theorem JJ.units {k:Nat} (r:JJ k A):A.units + 64 < cLine:=by have:=r.un; lia
def ZgL:TA:=λ _ H Q=>Q [] H
def ZeX (ta:TE) (tr:TA):TA:=λ Z H Q=>ta Z H λ x H1=>tr Z H1 λ xs H2=>Q (x :: xs) H2
section
variable {te:TE} {t:TA}
theorem DC:PA X [] ZgL:=λ _ _ _ _ H Q I h=>Calls.spliced_nil ⟨[],H,I,.nil,h⟩
theorem W5 (ha:PE X e te) (hr:PA X es t) (hs:autoParam (starEach (e :: es) X.env = (false,eval e X.env) :: starEach es X.env) zz3._auto_1):PA X (e :: es) (ZeX te t):=by
 intro pos pins s Z H Q I h;rw [hs];show wpAny _ _ (spliced ((false,eval e X.env) :: backTo pos (starEach es X.env))) _ _ s;refine Calls.spliced_cons (thn (ha pins s Z H _ I h) λ u s1 ⟨x,H1,I1,r1,q1⟩=>?_);exact thn (hr pos pins s1 Z H1 _ I1 q1) λ us s2 ⟨xs,H2,I2,r2,q2⟩=>⟨x :: xs,H2,I2,.cons r1 r2,q2⟩
def ZgO (t:TA):TE:=λ Z H Q=>t Z H λ xs H1=>xs.length <= sizeLine /\ ∀ p,H1 p = none->Q (.ref p) (upd H1 p (.tup xs))
def Zgu (t:TA):TE:=λ Z H Q=>t Z H λ xs H1=>xs.length <= sizeLine /\ ∀ p,H1 p = none->Q (.ref p) (upd H1 p (.lst xs))
theorem Ci {x1} (h:PA X es t):PE X (.Tuple es x1 pos) (ZgO t):=by
 intro pins s Z H Q I hq;refine wpAny_Tuple_spliced (thn (h pos pins s Z H _ I hq) λ us s1 ⟨xs,H1,I1,r,z,q⟩=>⟨by rw [<- r.length]; exact z,?_⟩);have hf:H1 s1.heap.objs.size = none:=I1.hok.fresh (Nat.le_refl _);refine ⟨.ref s1.heap.objs.size,upd H1 s1.heap.objs.size (.tup xs),I1.laid (t':=s1.toks) (λ b u e=>Heap.get?_push_of_some _ e) (Nat.le_refl _) ?_,rfl,q _ hf⟩;exact ⟨z,us,r,⟨_,Heap.get?_push_size _ rfl,rfl,_,rfl⟩⟩
theorem Ck (h:PA X es t):PE X (.List es pos) (Zgu t):=by
 intro pins s Z H Q I hq;refine wpAny_List_spliced (thn (h pos pins s Z H _ I hq) λ us s1 ⟨xs,H1,I1,r,z,q⟩=>⟨by rw [<- r.length]; exact z,?_⟩);have hf:H1 s1.heap.objs.size = none:=I1.hok.fresh (Nat.le_refl _);refine ⟨.ref s1.heap.objs.size,upd H1 s1.heap.objs.size (.lst xs),I1.laid (t':=s1.toks) (λ b u e=>Heap.get?_push_of_some _ e) (Nat.le_refl _) ?_,rfl,q _ hf⟩;exact ⟨z,us,0,r,Heap.get?_push_size _ rfl⟩
end
abbrev Sp:=List V->Hp->VK->XK->Prop
abbrev CXT:=List Env->Hp->Shared->XK->Value->Shared->Prop
structure Zdr (P:Program) (w:World) (K:Fk) (mg:Str->Option Value) (base:Heap) (A:Around) (outer:List Env) (s:Shared) (H:Hp):Prop where
 frames:A.frames = some outer
 mod:Mod K mg base
 bs:∀ b o,base.get? b = some o->s.heap.get? b = some o /\ H b = none
 bsz:base.objs.size <= s.heap.objs.size
 Cd:s.heap.FunFrames base outer
 frf:∀ b ∈ frs outer,H b = none
 hok:HOk P w H s.heap
 bare:AllBare s.gens
def CE (outer:List Env) (P:Program) (w:World) (H:Hp) (s:Shared) (Q:VK) (u:Value) (s':Shared):Prop:=
 ∃ v H',s'.os = s.os /\ AllBare s'.gens /\ Un (frs outer) [] H H' s.heap s'.heap /\ HOk P w H' s'.heap /\ RelV v u /\ Q v H'
def CR (CX:CXT) (outer:List Env) (P:Program) (w:World) (H:Hp) (s:Shared) (Q:VK) (E:XK) (r:Result) (s':Shared):Prop:=
 match r with
 | .ok (.ret u)=>CE outer P w H s Q u s'
 | .ok _=>False
 | .error e=>CX outer H s E e s'
structure Qn (P:Program) (w:World) (K:Fk) (mg:Str->Option Value) (base:Heap) (CX:CXT) (k:Nat) (f:Addr) (fd:FuncData) (ps:List Str) (sp:Sp):Prop where
 len:∀ vs H Q E,sp vs H Q E->vs.length = ps.length
 run:∀ (A:Around) (outer:List Env) (s:Shared) (H:Hp) (args:Args) (us:List Value) (vs:List V) (Q:VK) (E:XK),JJ k A->Zdr P w K mg base A outer s H->BindsTo s fd args (ps.zip us)->Vals vs us->sp vs H Q E ->
  codeAny (model P w) A (.call (.ref f) args) (CR CX outer P w H s Q E) s
theorem Qn.imp {base:Heap} {CX:CXT} {k:Nat} {ps:List Str} {sp sp':Sp} (F:Qn P w K mg base CX k f fd ps sp)
  (h:∀ vs H Q E,sp' vs H Q E->sp vs H Q E):Qn P w K mg base CX k f fd ps sp':=
 ⟨λ vs H Q E q=>F.len vs H Q E (h _ _ _ _ q),λ A outer s H args us vs Q E hr he hb hv hs=>F.run A outer s H args us vs Q E hr he hb hv (h _ _ _ _ hs)⟩
section
variable {s':Shared}
theorem Inv.ZgB (I:Inv X pins Z H s):Zdr X.prog X.w X.K X.mg X.base X.A X.stack s H:=
 ⟨I.ok.frames,I.ok.mod,I.bs,Nat.le_trans I.ok.bsz I.sz,I.stack,I.Cg,I.hok,I.bare⟩
theorem Inv.after {Q:VK} (I:Inv X pins Z H s) (h:CE X.stack X.prog X.w H s Q u s'):EP X pins Z Q u s':=by
 obtain ⟨v,H',os,bare,un,hok,r,q⟩:=h;obtain ⟨hh,g,d,t,os'⟩:=s';obtain rfl:os' = s.os:=os;exact ⟨v,H',I.call (h':=hh) (g':=g) (d':=d) (t':=t) (ch:=[]) un hok bare (λ b z=>absurd z (by simp)),r,q⟩
end
def Zfc (sp:Sp) (dvs:List V) (E:XK) (t:TA):TE:=λ Z H Q=>t Z H λ vs H1=>sp (vs ++ dvs) H1 Q E
def Binds (K:Fk) (fd:FuncData) (ps:List Str) (ds:List Value):Prop:=
 ∀ (s:Shared) (us:List Value),K.In s.heap->(us ++ ds).length = ps.length->BindsTo s fd ⟨us,[]⟩ (ps.zip (us ++ ds))
theorem Binds.all {ps:List Str} (h:∀ us:List Value,us.length = ps.length->bindArgs fd ⟨us,[]⟩ = pure (ps.zip us)):Binds K fd ps []:=λ s us _ hl=>by
 rw [List.append_nil] at hl ⊢;exact .of_eq (h us hl)
def Passes (CX:CXT) (X:Cx) (E:XK):Prop:=∀ (pins:List (Addr × Obj)) (Z:St) (H:Hp) (s:Shared) (e:Value) (s':Shared),Inv X pins Z H s->CX X.stack H s E e s'->X.xe e s'
section
variable {CX:CXT} {k:Nat} {C:Addr} {ps:List Str} {sp:Sp} {dvs:List V} {ds:List Value} {E:XK} {m:Str} {p apos:Pos} {o:Expr} {ta:TE} {t:TA}
theorem T3 {pins:List (Addr × Obj)} {Z:St} {H:Hp} {s:Shared} {Q:VK} {us:List Value} {vs:List V} (F:Qn X.prog X.w X.K X.mg X.base CX k f fd ps sp) (hr:JJ k X.A) (hb:Binds X.K fd ps ds) (hd:Vals dvs ds) (hx:Passes CX X E)
  (I:Inv X pins Z H s) (r:Vals vs us) (h:sp (vs ++ dvs) H Q E):wpAny (model X.prog X.w) X.A (call (.ref f) us) (EP X pins Z Q) X.xe s:=by
 have r2:Vals (vs ++ dvs) (us ++ ds):=r.append hd;have hl:(us ++ ds).length = ps.length:=by rw [<- r2.length]; exact F.len _ _ _ _ h
 refine wpAny_call (codeAny_mono (F.run X.A X.stack s H ⟨us,[]⟩ (us ++ ds) (vs ++ dvs) Q E hr I.ZgB (hb s us I.kIn hl) r2 h) λ r s' hq=>?_);cases r with
 | error e=>exact hx pins Z H s e s' I hq
 | ok fl=>
  cases fl with
  | ret u=>exact I.after hq
  | next=>exact False.elim hq
  | brk=>exact False.elim hq
  | cont=>exact False.elim hq
theorem RJ (F:Qn X.prog X.w X.K X.mg X.base CX k f fd ps sp) (hr:JJ k X.A) (hg:Gl X x) (hm:X.mg x = some (.ref f)) (hk:PySem.W.keepIn X.K (.ref f) = true) (hb:Binds X.K fd ps ds) (hd:Vals dvs ds) (hx:Passes CX X E)
  (ha:PA X (e :: es) t) (hdb:autoParam ((x == ("__debug__" : Str)) = false) zz1._auto_1) (he:autoParam (starEach (e :: es) X.env = (false,eval e X.env) :: starEach es X.env) zz3._auto_1) (hpl:autoParam ((backTo pos (starEach es X.env)).any (·.1) = false) zz3._auto_1) :
  PE X (.Call (.Name x p) (e :: es) [] pos) (Zfc sp dvs E t):=by
 intro pins s Z H Q I h;refine wpAny_Call_Name_kw (O4 I hg hm ?_ hdb);refine PySem.W.callWith_K (h₀:=X.base) I.ok.mod.kin hk (thn (ha pos pins s Z H _ I h) λ us s1 ⟨vs,H1,I1,r,q⟩=>⟨I1.kIn,?_⟩) he hpl;exact T3 F hr hb hd hx I1 r q
structure Mk (K:Fk) (C f:Addr):Prop where
 makes:PySem.W.makesIn K C = true
 init:PySem.W.findIn K (.ref C) "__init__" = some (some (.ref f))
 fn:PySem.W.isFn K (.ref f) = true
 kp:PySem.W.keepIn K (.ref C) = true
end
section
variable {CX:CXT} {k:Nat} {C:Addr} {ps ks:List Str} {sp:Sp} {E:XK} {m:Str} {p apos kpos:Pos} {o:Expr} {kws:List Keyword} {te ta:TE} {t tk:TA} {nm:Option Str}
structure ZfR (K:Fk) (fd:FuncData) (ps ks:List Str) (g:List Value->List Value->List Value) (gV:List V->List V->List V):Prop where
 to:∀ (s:Shared) (us ws:List Value),K.In s.heap->(g us ws).length = ps.length->BindsTo s fd ⟨us,ks.zip ws⟩ (ps.zip (g us ws))
 rel:∀ {vs:List V} {us:List Value} {zs:List V} {ws:List Value},Vals vs us->Vals zs ws->Vals (gV vs zs) (g us ws)
variable {g:List Value->List Value->List Value} {gV:List V->List V->List V}
end
structure Zp (N P:List Str) (sc:Scope):Prop where
 kind:sc.kind = .function
 co:sc.isCoroutine = false
 gen:sc.isGenerator = false
 nd:N.Nodup
 pre:N.take P.length = P
 par:∀ x ∈ P,sc.names.lookup x = some .local \/ sc.names.lookup x = some .cell
 nofree:∀ y ∈ sc.names,y.2 ≠ .free
theorem KS {kindOf:Str->Option NameKind}:∀ {binds:List (Str × Value)} {m:Str->Option Value},(∀ v,(x,v) ∉ binds)->bindL kindOf binds m x = m x
 | [],_,_=>rfl
 | (n,v) :: r,m,h=>by
  unfold bindL;rw [KS λ w hw=>h w (List.mem_cons_of_mem _ hw)]
  split
  ·have:x ≠ n:=by rintro rfl; exact h v List.mem_cons_self
   simp [this]
  ·rfl
theorem KO {kindOf:Str->Option NameKind}:∀ {binds:List (Str × Value)} {m:Str->Option Value},(∀ v,(x,v) ∉ binds)->bindC kindOf binds m x = m x
 | [],_,_=>rfl
 | (n,v) :: r,m,h=>by
  unfold bindC;rw [KO λ w hw=>h w (List.mem_cons_of_mem _ hw)]
  split
  ·rfl
  ·have:x ≠ n:=by rintro rfl; exact h v List.mem_cons_self
   simp [this]
theorem KU {kindOf:Str->Option NameKind} {v:Value}:∀ {P:List Str} {vs:List Value} {i:Nat} {m:Str->Option Value},P.Nodup->P[i]? = some x->vs[i]? = some v->kindOf x = some .local ->
  bindL kindOf (P.zip vs) m x = some v
 | [],_,_,_,_,h,_,_=>by simp at h
 | _ :: _,[],_,_,_,_,h,_=>by simp at h
 | p :: P,w :: vs,0,m,nd,h1,h2,hk=>by
  simp at h1 h2; subst h1; subst h2;show bindL kindOf ((p,w) :: P.zip vs) m p = _;unfold bindL;rw [KS λ v hv=>(List.nodup_cons.mp nd).1 (List.of_mem_zip hv).1,if_pos hk];simp
 | p :: P,w :: vs,i + 1,m,nd,h1,h2,hk=>by
  show bindL kindOf ((p,w) :: P.zip vs) m x = _;unfold bindL;exact KU (i:=i) (List.nodup_cons.mp nd).2 (by simpa using h1) (by simpa using h2) hk
theorem KY {kindOf:Str->Option NameKind} {v:Value}:∀ {P:List Str} {vs:List Value} {i:Nat} {m:Str->Option Value},P.Nodup->P[i]? = some x->vs[i]? = some v->kindOf x ≠ some .local ->
  bindC kindOf (P.zip vs) m x = some v
 | [],_,_,_,_,h,_,_=>by simp at h
 | _ :: _,[],_,_,_,_,h,_=>by simp at h
 | p :: P,w :: vs,0,m,nd,h1,h2,hk=>by
  simp at h1 h2; subst h1; subst h2;show bindC kindOf ((p,w) :: P.zip vs) m p = _;unfold bindC;rw [KO λ v hv=>(List.nodup_cons.mp nd).1 (List.of_mem_zip hv).1,if_neg hk];simp
 | p :: P,w :: vs,i + 1,m,nd,h1,h2,hk=>by
  show bindC kindOf ((p,w) :: P.zip vs) m x = _;unfold bindC;exact KY (i:=i) (List.nodup_cons.mp nd).2 (by simpa using h1) (by simpa using h2) hk
noncomputable def start (N:List Str) (vs:List V):St:=vs.map some ++ List.replicate (N.length - vs.length) none
noncomputable def Ot (CX:CXT) (P:Program) (w:World) (K:Fk) (mg:Str->Option Value) (base:Heap) (N:List Str) (qual:Str) (scope:Scope) (f:Addr) (cd:Value) (A:Around) (outer:List Env) (s:Shared) (H:Hp) (E:XK):Cx where
 prog:=P
 w:=w
 K:=K
 mg:=mg
 base:=base
 A:=A.deeper (envOfC qual scope s.heap.objs.size f cd)
 N:=N
 s₀:=s
 H₀:=H
 env:=envOfC qual scope s.heap.objs.size f cd
 outer:=outer
 stack:=envOfC qual scope s.heap.objs.size f cd :: outer
 ex:=[]
 calm:=true
 fn:=λ _=>true
 pn:=[]
 xe:=λ e s'=>wpAny (model P w) (A.deeper (envOfC qual scope s.heap.objs.size f cd)) (leaving (envOfC qual scope s.heap.objs.size f cd) e) (λ _ s''=>CX outer H s E e s'') (λ e' s''=>CX outer H s E e' s'') s'
theorem UU {sc:Scope} (h:sc.names.lookup x = some .cell):∃ c,(cellsFrom n sc.names []).lookup x = some c:=by
 have q:=PySem.W.cellsFrom_some sc.names n [] (.inl h);exact Option.isSome_iff_exists.mp q
theorem Ef {CX:CXT} {P:Program} {w:World} {K:Fk} {mg:Str->Option Value} {base:Heap} {N ps:List Str} {qual:Str} {scope:Scope} {f:Addr} {cd:Value} {A:Around} {outer:List Env} {s s1:Shared} {H:Hp} {E:XK} {us:List Value} {vs:List V}
  (S:Zp N ps scope) (hd:A.handled = none) (e0:Zdr P w K mg base A outer s H) (hl:vs.length = ps.length) (r:Vals vs us)
  (x:InCallC s s.heap.objs.size (bindL (envOfC qual scope s.heap.objs.size f cd).kindOf (ps.zip us) λ _=>none) (cellsFrom (s.heap.objs.size + 1) scope.names []) (bindC (envOfC qual scope s.heap.objs.size f cd).kindOf (ps.zip us) λ _=>none) s1) :
  Inv (Ot CX P w K mg base N qual scope f cd A outer s H E) [] (start N vs) H s1:=by
 have hpl:ps.length <= N.length:=by have:=congrArg List.length S.pre; rw [List.length_take] at this; lia
 obtain ⟨h1,tk,rfl,hk⟩:=x.done;have noA:∀ b:Addr,b ∉ (Ot CX P w K mg base N qual scope f cd A outer s H E).ex:=λ b z=>absurd (show b ∈ ([]:List Addr) from z) (by simp)
 refine ⟨⟨e0.mod,S.kind,rfl,rfl,Nat.le_refl _,λ y z c h1 h2=>?_,λ y hy=>?_,λ y c _ h=>?_,λ _=>hd,Around.frames_deeper e0.frames,.inr ⟨rfl,rfl⟩,λ b z=>absurd z (noA b),e0.bs,e0.bsz,λ b _ _=>noA b,λ b z=>absurd z (noA b),e0.Cd,e0.frf⟩,
  rfl,e0.bare,Un.kept hk,⟨_,x.toInCall.ns,λ i y v h1 h2 h3=>?_⟩,λ y c h=>⟨_,x.cell y c h⟩,e0.hok.fresh (Nat.le_refl _),λ y c h=>?_,λ p hp=>absurd (show p ∈ ([]:List (Addr × Obj)) from hp) (by simp),e0.hok.kept hk,?_⟩
 ·exact name_of_addr x.apart (PySem.mem_of_lookup h1) (PySem.mem_of_lookup h2)
 ·have hy:scope.names.lookup y = some .cell \/ scope.names.lookup y = some .free:=hy
  rcases hy with hy | hy
  ·exact UU hy
  ·exact absurd rfl (S.nofree _ (PySem.mem_of_lookup hy))
 ·exact Nat.le_of_lt (x.above y c (PySem.mem_of_lookup h))
 ·have hi:i < vs.length:=by
   unfold start at h2
   by_cases hi:i < vs.length
   ·exact hi
   ·rw [List.getElem?_append_right (by simpa using hi)] at h2;rw [List.getElem?_replicate] at h2
    split at h2 <;> cases h2
  have ha:vs[i]? = some v:=by
   unfold start at h2;rw [List.getElem?_append_left (by simpa using hi),List.getElem?_map] at h2;cases e:vs[i]? with
   | none=>rw [e] at h2; cases h2
   | some a=>rw [e] at h2; cases h2; rfl
  obtain ⟨u,hu,rv⟩:=r.get ha;have hp:ps[i]? = some y:=by
   rw [<- S.pre,List.getElem?_take_of_lt (by lia)]; exact h1
  have ndP:ps.Nodup:=by rw [<- S.pre]; exact S.nd.sublist (List.take_sublist _ _)
  refine ⟨u,rv,?_⟩
  rcases S.par y (List.mem_of_getElem? hp) with k | k
  ·exact .inl ⟨k,KU ndP hp hu k⟩
  ·obtain ⟨c,e⟩:=UU (n:=s.heap.objs.size + 1) k;refine .inr ⟨.inl k,c,e,?_⟩;have q:=x.cell y c e;rw [KY ndP hp hu (by show scope.names.lookup y ≠ _; rw [k]; decide)] at q;exact q
 ·exact e0.hok.fresh (Nat.le_of_lt (x.above y c (PySem.mem_of_lookup h)))
 ·unfold start;show _ = N.length;rw [List.length_append,List.length_map,List.length_replicate];lia
theorem ZdX {CX:CXT} {P:Program} {w:World} {K:Fk} {mg:Str->Option Value} {base:Heap} {k:Nat} {f:Addr} {name qual:Str} {params:Arguments} {body:List Stmt} {scope:Scope} {dV kV doc pm cdv ct oc:Value} {an od:Option Addr}
  {osl:Array (Option Value)} {N ps:List Str} {sp:Sp} (lk:K.lookup f = some ⟨oc,od,.func (PySem.W.fnOf name qual params body scope dV kV doc pm an cdv ct),osl⟩) (hcd:PySem.W.codeIn K cdv qual = true) (S:Zp N ps scope)
  (len:∀ vs H Q E,sp vs H Q E->vs.length = ps.length)
  (hbody:∀ (A:Around) (outer:List Env) (s:Shared) (H:Hp) (vs:List V) (Q:VK) (E:XK),JJ k (A.deeper (envOfC qual scope s.heap.objs.size f cdv))->sp vs H Q E ->
   ∃ t,PSs (Ot CX P w K mg base N qual scope f cdv A outer s H E) body t /\ t { nx:=λ _ H'=>Q .non H',rt:=Q } (start N vs) H) :
  Qn P w K mg base CX (k + 1) f (PySem.W.fnOf name qual params body scope dV kV doc pm an cdv ct) ps sp:=by
 refine ⟨len,λ A outer s H args us vs Q E hr e0 hb r hsp=>?_⟩;have hl:=len _ _ _ _ hsp;have KX:K.In s.heap:=e0.mod.kin.keeps λ b o e=>(e0.bs b o e).1;have lim:s.heap.NoLimit:=e0.mod.nolimit.keeps λ b o e=>(e0.bs b o e).1;have hkind:∀ y ∈ ps.zip us,scope.names.lookup y.1 = some .local \/ (scope.names.lookup y.1 = some .cell /\ ((cellsFrom (s.heap.objs.size + 1) scope.names []).lookup y.1).isSome = true):=λ ⟨n,v⟩ hy=>by
  rcases S.par n (List.of_mem_zip hy).1 with q | q
  ·exact .inl q
  ·exact .inr ⟨q,PySem.W.cellsFrom_some _ _ _ (.inl q)⟩
 refine codeAny_call_function hr.depth (KX _ _ lk) rfl S.co S.gen rfl (PySem.W.codeRec_of KX hcd) (hb _ _ _ _ ?_);refine wpAny_newFunctionEnv_cells S.kind hkind λ env he s1 x=>?_;subst he;refine ⟨lim.keeps x.toInCall.keep,codeAny_func ?_⟩;obtain ⟨t,ht,hq⟩:=hbody A outer s H vs Q E (hr.deeper _) hsp;have I:Inv (Ot CX P w K mg base N qual scope f cdv A outer s H E) [] (start N vs) H s1:=Ef S hr.hd e0 hl r x;refine wpAny_mono (ht [] s1 (start N vs) H _ I hq) (λ fl s' hs=>?_) λ e s' hs=>hs;have fin:∀ {σ':St} {H':Hp} {v:V} {u:Value},Inv (Ot CX P w K mg base N qual scope f cdv A outer s H E) [] σ' H' s'->RelV v u->Q v H'->CE outer P w H s Q u s':=
  λ {σ' H' v u} J rv q=>⟨v,H',J.os,J.bare,J.base,J.hok,rv,q⟩
 cases fl with
 | ret u=>
  obtain ⟨v,σ',H',J,rv,q⟩:=hs;exact fin J rv q
 | next=>
  obtain ⟨σ',H',J,q⟩:=hs;exact fin (v:=V.non) (u:=Value.none) J rfl q
 | brk=>
  obtain ⟨_,_,_,q⟩:=hs;exact False.elim q
 | cont=>
  obtain ⟨_,_,_,q⟩:=hs;exact False.elim q
section
variable {p:Pos} {t:TA} {id T:String} {r:List V->Hp->VK->Prop}
def tCB (r:List V->Hp->VK->Prop) (t:TA):TE:=λ Z H Q=>t Z H λ vs H1=>r vs H1 Q
theorem Hl (hc:Q3 X (.builtin id) r) (hg:Gl X x) (hm:X.mg x = none) (hv:bootBuiltins x = some (.builtin id)) (ha:PA X (e :: es) t) (hn:autoParam (x ≠ "__name__") zz1._auto_1) (hdb:autoParam ((x == ("__debug__" : Str)) = false) zz1._auto_1)
  (he:autoParam (starEach (e :: es) X.env = (false,eval e X.env) :: starEach es X.env) zz3._auto_1) (hpl:autoParam ((backTo pos (starEach es X.env)).any (·.1) = false) zz3._auto_1):PE X (.Call (.Name x p) (e :: es) [] pos) (tCB r t):=by
 intro pins s Z H Q I h;refine wpAny_Call_Name_kw (JU I hg hm hv ?_ hn hdb);exact PyProof.Rows.callWith_builtin1 (thn (ha pos pins s Z H _ I h) λ us s1 ⟨vs,H1,I1,r1,q1⟩=>hc pins s1 Z H1 vs us Q I1 r1 q1) he hpl
theorem El (hc:Q3 X (.type T) r) (hg:Gl X x) (hm:X.mg x = none) (hv:bootBuiltins x = some (.type T)) (ha:PA X (e :: es) t) (hn:autoParam (x ≠ "__name__") zz1._auto_1) (hdb:autoParam ((x == ("__debug__" : Str)) = false) zz1._auto_1)
  (he:autoParam (starEach (e :: es) X.env = (false,eval e X.env) :: starEach es X.env) zz3._auto_1) (hpl:autoParam ((backTo pos (starEach es X.env)).any (·.1) = false) zz3._auto_1):PE X (.Call (.Name x p) (e :: es) [] pos) (tCB r t):=by
 intro pins s Z H Q I h;refine wpAny_Call_Name_kw (JU I hg hm hv ?_ hn hdb);exact PyProof.Rows.callWith_type1 (thn (ha pos pins s Z H _ I h) λ us s1 ⟨vs,H1,I1,r1,q1⟩=>hc pins s1 Z H1 vs us Q I1 r1 q1) he hpl
end
end L2
namespace HT
section
open PySem.SeqAt
open PySem.AutoSeq1 (wpAny_loadPart')
open PySem.MeetsSeq PySem.MeetsSeq2 PySem.MeetsSeq3
end
section
variable {prog:Program} {E:Value->Shared->Prop}
noncomputable def sIx (n d:Nat):Option Int->Nat
 | none=>d
 | some v=>if v < 0 then (v + (n:Int)).toNat else min v.toNat n
theorem Ya (n d:Nat):sIx n d none = d:=rfl
theorem Yr (n d k:Nat):sIx n d (some (k:Int)) = min k n:=by
 show (if (k:Int) < 0 then ((k:Int) + (n:Int)).toNat else min (k:Int).toNat n) = min k n;rw [if_neg (by lia),Int.toNat_natCast]
theorem ZcM (n d:Nat) (hd:d <= n) (o:Option Int):sIx n d o <= n:=by
 cases o with
 | none=>exact hd
 | some v=>
  show (if v < 0 then (v + (n:Int)).toNat else min v.toNat n) <= n
  by_cases hv:v < 0
  ·rw [if_pos hv]; lia
  ·rw [if_neg hv]; exact Nat.min_le_right _ _
theorem Dw (v:Int) (n d:Nat):(if v < 0 then max (v + (n:Int)) 0 else min v (n:Int)) = ((sIx n d (some v):Nat):Int):=by
 show (if v < 0 then max (v + (n:Int)) 0 else min v (n:Int)) = (((if v < 0 then (v + (n:Int)).toNat else min v.toNat n):Nat):Int)
 by_cases hv:v < 0
 ·simp only [if_pos hv]; lia
 ·simp only [if_neg hv]; lia
theorem BU (lo hi:Option Int) (n:Nat):Builtin.Slice.sliceAdjust lo hi 1 (n:Int) = (((sIx n 0 lo:Nat):Int),((sIx n n hi:Nat):Int)):=by
 have h1:¬ ((1:Int) < 0):=by lia
 unfold Builtin.Slice.sliceAdjust;simp only [h1,if_false];refine Prod.ext ?_ ?_
 ·cases lo with
  | none=>rfl
  | some v=>exact Dw v n 0
 ·cases hi with
  | none=>rfl
  | some v=>exact Dw v n n
theorem BH (i j:Nat):Builtin.Slice.slicePlaces (i:Int) (j:Int) 1 = j - i:=by
 unfold Builtin.Slice.slicePlaces;have h1:(1:Int) > 0:=by lia
 simp only [h1,if_true,Int.ediv_one]
 split <;> lia
theorem Xg {v:Value} {o:Option Int} {Q:Option Int->Shared->Prop} (p:IsPart v o) (h:Q o s):wpAny (model prog w) A (Builtin.Slice.slicePartIndex v) Q E s:=by
 cases p with
 | none=>exact slicePart_none h
 | int i t=>exact slicePart_int h
theorem VZ {sl:Addr} {vl vu:Value} {lo hi:Option Int} {n:Nat} {Q:Int × Int × Nat->Shared->Prop} (hs:s.heap.IsSliceOf sl vl vu .none) (pl:IsPart vl lo) (pu:IsPart vu hi)
  (h:Q (((sIx n 0 lo:Nat):Int),1,sIx n n hi - sIx n 0 lo) s):wpAny (model prog w) A (Builtin.Slice.sliceApplied (.ref sl) (pure (n:Int))) Q E s:=by
 obtain ⟨os,hos,hcs,hds⟩:=id hs;unfold Builtin.Slice.sliceApplied Builtin.Slice.sliceFields;refine wpAny_bind (wpAny_bind (wpAny_field hos hds (x:=vl) rfl (wpAny_bind (wpAny_field hos hds (x:=vu) rfl (wpAny_bind (wpAny_field hos hds (x:=.none) rfl (wpAny_pure ?_)))))));refine wpAny_bind (slicePart_none ?_);show wpAny _ _ (if ((1:Int) == 0) = true then _ else _) _ _ s;rw [if_neg (by decide)];refine wpAny_bind (Xg pl (wpAny_bind (Xg pu (wpAny_bind (wpAny_pure ?_)))));show wpAny _ _ (match Builtin.Slice.sliceAdjust lo hi 1 (n:Int) with | (lo,hi)=>pure (lo,(1:Int),Builtin.Slice.slicePlaces lo hi 1)) _ _ s;rw [BU lo hi n];show wpAny _ _ (pure (((sIx n 0 lo:Nat):Int),(1:Int),Builtin.Slice.slicePlaces ((sIx n 0 lo:Nat):Int) ((sIx n n hi:Nat):Int) 1)) _ _ s;rw [BH];exact wpAny_pure h
theorem Hg (xs:Array Value) (i k:Nat):((List.range k).filterMap λ (m:Nat)=>xs[((i:Int) + (m:Int) * 1).toNat]?).toArray = ((xs.toList.drop i).take k).toArray:=by
 have e:(λ (m:Nat)=>xs[((i:Int) + (m:Int) * 1).toNat]?) = λ m=>xs[i + m]?:=by
  funext m
  have:((i:Int) + (m:Int) * 1).toNat = i + m:=by lia
  rw [this]
 rw [e];have:=pick_run xs i k;rw [List.filterMap_map] at this;have e2:((λ x=>xs[x]?) ∘ λ x=>i + x) = λ m=>xs[i + m]?:=rfl;rw [e2] at this;rw [this]
theorem Vt {t sl:Addr} {vl vu:Value} {lo hi:Option Int} {Q:Value->Shared->Prop} (ht:IsTup s.heap t items) (hs:s.heap.IsSliceOf sl vl vu .none) (pl:IsPart vl lo) (pu:IsPart vu hi)
  (hw:¬ (sIx items.size 0 lo = 0 /\ sIx items.size items.size hi = items.size))
  (h:Q (.ref s.heap.objs.size) { s with heap:=s.heap.push { cls:=.type "tuple",data:=.seq ((items.toList.drop (sIx items.size 0 lo)).take (sIx items.size items.size hi - sIx items.size 0 lo)).toArray } })
  (hsz:items.size <= sizeLine):wpAny (model prog w) A (getItem (.ref t) (.ref sl)) Q E s:=by
 have htake:sizeOk (.seq ((items.toList.drop (sIx items.size 0 lo)).take (sIx items.size items.size hi - sIx items.size 0 lo)).toArray):=by
  show ((items.toList.drop (sIx items.size 0 lo)).take (sIx items.size items.size hi - sIx items.size 0 lo)).toArray.size <= sizeLine;rw [List.size_toArray,List.length_take,List.length_drop,Array.length_toList];lia
 have hj:sIx items.size items.size hi <= items.size:=ZcM _ _ (Nat.le_refl _) hi;obtain ⟨os,hos,hcs,hds⟩:=id hs;have hTs:s.TypeIs (.ref sl) "slice" := ⟨os,hos,hcs⟩
 unfold getItem
 try with_reducible refine wpAny_holding ?_
 first | refine wpAny_bind (wpAny_pure ?_) | skip
 refine wpAny_bind (wpAny_sequenceKey ht.typeIs (by decide) ?_)
 refine wpAny_bind (wpAny_callSpecial?_slot (name:=Str.ofString "__getitem__") ht.typeIs PyProof.Rows.slot_tuple_getitem
  (wpAny_call_entry PyProof.Rows.slot_tuple_getitem ht.typeIs entry_tuple_getitem ?_ (args_tuple_getitem _ _)))
 show wpAny _ _ (Builtin.Tuple.tupleItemsOf (.ref t) >>= _) _ _ s;refine wpAny_bind (tupleItemsOf_ ht ?_);refine wpAny_bind (wpAny_typeOf hTs ?_);rw [if_pos (by decide)];refine wpAny_bind (VZ hs pl pu ?_);have hno:¬ ((((sIx items.size 0 lo:Nat):Int) == 0 && (1:Int) == 1 && (sIx items.size items.size hi - sIx items.size 0 lo) == items.size) = true):=by
  intro q;rw [Bool.and_eq_true,Bool.and_eq_true] at q;have q1:((sIx items.size 0 lo:Nat):Int) = 0:=eq_of_beq q.1.1;have q2:sIx items.size items.size hi - sIx items.size 0 lo = items.size:=eq_of_beq q.2;exact hw ⟨by lia,by lia⟩
 show wpAny _ _ (if (((sIx items.size 0 lo:Nat):Int) == 0 && (1:Int) == 1 && (sIx items.size items.size hi - sIx items.size 0 lo) == items.size) = true then _ else _) _ _ s;rw [if_neg hno,Hg]
 first
  | exact wpAny_bind (m:=Builtin.Tuple.tupleExact _) (wpAny_newObj_type (wpAny_pure ⟨_,rfl,wpAny_pure h⟩) htake)
  | exact wpAny_bind (m:=Builtin.Tuple.tupleExact _) (wpAny_newObj_type (wpAny_bind (wpAny_pure (wpAny_pure ⟨_,rfl,wpAny_pure h⟩))) htake)
  | exact wpAny_bind (wpAny_bind (m:=Builtin.Tuple.tupleExact _) (wpAny_newObj_type (wpAny_pure (wpAny_pure ⟨_,rfl,wpAny_pure h⟩)) htake))
  | exact wpAny_bind (wpAny_bind (m:=Builtin.Tuple.tupleExact _) (wpAny_newObj_type (wpAny_pure ⟨_,rfl,wpAny_pure h⟩) htake))
end
end HT
namespace L2
abbrev TO:=St->Hp->(Option Int->Hp->Prop)->Prop
def PO (X:Cx) (e:Option Expr) (t:TO):Prop:=
 ∀ (pins:List (Addr × Obj)) (s:Shared) (Z:St) (H:Hp) (Q:Option Int->Hp->Prop),Inv X pins Z H s->t Z H Q ->
  wpAny (model X.prog X.w) X.A (evalPart e X.env) (λ u s'=>∃ o H',Inv X pins Z H' s' /\ IsPart u o /\ Q o H') X.xe s
def PU:TO:=λ _ H Q=>Q none H
def ZeT (t:TE):TO:=λ Z H Q=>t Z H λ x H1=>∃ i,x = .int i /\ Q (some i) H1
theorem intsAre_of:∀ {us:List Value},Vals (ns.map V.int) us->IntsAre us ns:=by
 induction ns with
 | nil=>intro us r; rw [List.map_nil] at r; cases r; exact .nil
 | cons n ns ih=>
  intro us r;rw [List.map_cons] at r;cases r with
  | cons r1 r2=>
   obtain ⟨t,e⟩:=r1;subst e;exact .cons n t (ih r2)
section
variable {te:TE} {lo hi:Option Expr} {tl th:TO}
theorem O0:PO X none PU:=by
 intro pins s Z H Q I h;rw [evalPart_none];exact wpAny_pure ⟨none,H,I,.none,h⟩
theorem RP (h:PE X e te):PO X (some e) (ZeT te):=by
 intro pins s Z H Q I hw;rw [evalPart_some];refine thn (h pins s Z H _ I hw) λ u s1 ⟨x,H1,I1,r1,q1⟩=>?_;obtain ⟨i,rfl,q⟩:=q1;obtain ⟨t,rfl⟩:=r1;exact ⟨some i,H1,I1,.int i t,q⟩
def SlR (X:Cx) (r:V->Option Int->Option Int->Hp->VK->Prop):Prop:=
 ∀ (pins:List (Addr × Obj)) (s:Shared) (Z:St) (H:Hp) (x:V) (v vl vu:Value) (lo hi:Option Int) (sl:Addr) (Q:VK),Inv X pins Z H s->RelV x v->s.heap.IsSliceOf sl vl vu .none->IsPart vl lo->IsPart vu hi->r x lo hi H Q ->
  ∃ T id,typeLookup (.type T) "__getitem__" = pure (some (.builtin id)) /\ s.TypeIs v T /\ wpAny (model X.prog X.w) X.A (getItem v (.ref sl)) (EP X pins Z Q) X.xe s
theorem SlR.or {r r':V->Option Int->Option Int->Hp->VK->Prop} (h:SlR X r) (h':SlR X r'):SlR X (λ x lo hi H Q=>r x lo hi H Q \/ r' x lo hi H Q):=by
 intro pins s Z H x v vl vu lo hi sl Q I rx hs pl pu q
 rcases q with q | q
 ·exact h pins s Z H x v vl vu lo hi sl Q I rx hs pl pu q
 ·exact h' pins s Z H x v vl vu lo hi sl Q I rx hs pl pu q
def tSl (r:V->Option Int->Option Int->Hp->VK->Prop) (te:TE) (tl th:TO):TE:=λ Z H Q=>te Z H λ x H1=>tl Z H1 λ l H2=>th Z H2 λ u H3=>r x l u H3 Q
theorem Gm {r:V->Option Int->Option Int->Hp->VK->Prop} (hr:SlR X r) (he:PE X e te) (hl:PO X lo tl) (hu:PO X hi th):PE X (.Subscript e (.Slice lo hi none p2) pos) (tSl r te tl th):=by
 intro pins s Z H Q I h;refine Subscript_ (thn (he pins s Z H _ I h) λ v s1 ⟨x,H1,I1,r1,q1⟩=>?_);refine wpAny_Slice (thn (hl pins s1 Z H1 _ I1 q1) λ vl s2 ⟨l,H2,I2,pl,q2⟩=>thn (hu pins s2 Z H2 _ I2 q2) λ vu s3 ⟨u,H3,I3,pu,q3⟩=>?_);rw [evalPart_none];refine wpAny_pure ?_;have I4:Inv X pins Z H3 { s3 with heap:=s3.heap.push { cls:=.type "slice",data:=.fields #[vl,vu,.none] } }:=I3.kept (t':=s3.toks) λ b ob q=>Heap.get?_push_of_some _ q;obtain ⟨T,id,hT,ht,hg⟩:=hr pins { s3 with heap:=s3.heap.push { cls:=.type "slice",data:=.fields #[vl,vu,.none] } } Z H3 x v vl vu l u s3.heap.objs.size Q I4 r1 (Heap.IsSliceOf.new ..) pl pu q3;show wpAny (model X.prog X.w) X.A (subscriptTail e (.Slice lo hi none p2) v (.ref s3.heap.objs.size)) (EP X pins Z Q) X.xe { s3 with heap:=s3.heap.push { cls:=.type "slice",data:=.fields #[vl,vu,.none] } };exact tail_any (ops:=[.ref s3.heap.objs.size,v]) ht hT hg (by with_unfolding_all rfl)
noncomputable def Oz (xs:List V) (lo hi:Option Int):List V:=(xs.drop (HT.sIx xs.length 0 lo)).take (HT.sIx xs.length xs.length hi - HT.sIx xs.length 0 lo)
theorem YV (xs:List V) (lo hi:Option Int):(Oz xs lo hi).length <= xs.length:=by
 unfold Oz;rw [List.length_take,List.length_drop];lia
def Zgy (K:Fk):V->Option Int->Option Int->Hp->VK->Prop:=λ x lo hi H Q=>∃ a xs,x = .ref a /\ SqT K H a xs /\
 ¬ (HT.sIx xs.length 0 lo = 0 /\ HT.sIx xs.length xs.length hi = xs.length) /\ ∀ p,H p = none->Q (.ref p) (upd H p (.tup (Oz xs lo hi)))
theorem Zcw:SlR X (Zgy X.K):=by
 intro pins s Z H x v vl vu lo hi sl Q I rx hs pl pu h;obtain ⟨a,xs,rfl,hx,hw,q⟩:=h;cases rx;obtain ⟨its,r,ht,hz⟩:=I.tuple hx;have hlen:its.toArray.size = xs.length:=by rw [List.size_toArray]; exact r.length.symm
 refine ⟨"tuple",_,PyProof.Rows.slot_tuple_getitem.lookup,ht.typeIs,?_⟩;refine HT.Vt ht hs pl pu (by rw [hlen]; exact hw) ?_ (by rw [hlen]; exact hz);rw [hlen];refine ⟨.ref s.heap.objs.size,_,I.laid (t':=s.toks) (o:=.tup (Oz xs lo hi)) (λ b ob q=>Heap.get?_push_of_some _ q) (Nat.le_refl _) ?_,rfl,q _ (I.hok.fresh (Nat.le_refl _))⟩;exact ⟨Nat.le_trans (YV xs lo hi) hz,_,(r.drop (HT.sIx xs.length 0 lo)).take (HT.sIx xs.length xs.length hi - HT.sIx xs.length 0 lo),IsTup.new _ _⟩
end
noncomputable def ixN (n:Nat) (i:Int):Option Nat:=if 0 <= i then (if i < n then some i.toNat else none) else if -(n:Int) <= i then some (i + n).toNat else none
noncomputable def atI {α:Type} (xs:List α) (i:Int):Option α:=(ixN xs.length i).bind λ j=>xs[j]?
theorem Es {i:Int} (h:ixN n i = some j):seqIndex? i n = some j /\ j < n /\ -(n:Int) <= i /\ i < n:=by
 unfold ixN at h
 by_cases h0:0 <= i
 ·rw [if_pos h0] at h
  by_cases h1:i < n
  ·rw [if_pos h1] at h;have e:i.toNat = j:=Option.some.inj h;exact ⟨by rw [seqIndex_of h0 h1,e],by lia,by lia,h1⟩
  ·rw [if_neg h1] at h; cases h
 ·rw [if_neg h0] at h
  by_cases h1:-(n:Int) <= i
  ·rw [if_pos h1] at h;have e:(i + n).toNat = j:=Option.some.inj h;exact ⟨by rw [seqIndex_neg (by lia) h1,e],by lia,h1,by lia⟩
  ·rw [if_neg h1] at h; cases h
theorem UL {α:Type} {xs:List α} {i:Int} {v:α} (h:atI xs i = some v):∃ j,seqIndex? i xs.length = some j /\ xs[j]? = some v /\ j < xs.length /\ -(xs.length:Int) <= i /\ i < xs.length:=by
 unfold atI at h;cases e:ixN xs.length i with
 | none=>rw [e] at h; cases h
 | some j=>
  rw [e] at h;obtain ⟨h1,h2,h3,h4⟩:=Es e;exact ⟨j,h1,h,h2,h3,h4⟩
theorem Vm {α:Type} {xs:List α} {j:Nat} {v:α} (h:xs[j]? = some v):atI xs (j:Int) = some v:=by
 have hj:j < xs.length:=(List.getElem?_eq_some_iff.mp h).1;have e:ixN xs.length (j:Int) = some j:=by
  unfold ixN;rw [if_pos (by lia),if_pos (by lia)]; simp
 unfold atI; rw [e]; exact h
def XI (b:Expr):Prop:=∀ o i,subscripted b false o i = operate [o,i] (getItem o i)
def IxR (X:Cx) (r:R2):Prop:=
 ∀ (value slice:Expr) (pins:List (Addr × Obj)) (s:Shared) (Z:St) (H:Hp) (x y:V) (v u:Value) (Q:VK),Inv X pins Z H s->RelV x v->RelV y u->r x y H Q ->
  subscripted slice false v u = operate [v,u] (getItem v u)->wpAny (model X.prog X.w) X.A (subscriptTail value slice v u) (EP X pins Z Q) X.xe s
def MtR (X:Cx) (id:String) (r:V->List V->Hp->VK->Prop):Prop:=
 ∀ (pins:List (Addr × Obj)) (s:Shared) (Z:St) (H:Hp) (x:V) (xs:List V) (v:Value) (us:List Value) (Q:VK),Inv X pins Z H s->RelV x v->Vals xs us->r x xs H Q ->
  wpAny (model X.prog X.w) X.A (call (.builtin id) (v :: us)) (EP X pins Z Q) X.xe s
section
variable {a b:Expr} {ta tb:TE}
theorem IxR.or {r r':R2} (h:IxR X r) (h':IxR X r'):IxR X (λ x y H Q=>r x y H Q \/ r' x y H Q):=by
 intro value slice pins s Z H x y v u Q I rx ry q hs
 rcases q with q | q
 ·exact h value slice pins s Z H x y v u Q I rx ry q hs
 ·exact h' value slice pins s Z H x y v u Q I rx ry q hs
theorem MtR.or {id:String} {r r':V->List V->Hp->VK->Prop} (h:MtR X id r) (h':MtR X id r'):MtR X id (λ x xs H Q=>r x xs H Q \/ r' x xs H Q):=by
 intro pins s Z H x xs v us Q I rx rs q
 rcases q with q | q
 ·exact h pins s Z H x xs v us Q I rx rs q
 ·exact h' pins s Z H x xs v us Q I rx rs q
theorem Rn {r:R2} (hr:IxR X r) (ha:PE X a ta) (hb:PE X b tb) (hs:XI b):PE X (.Subscript a b pos) (tOp r ta tb):=by
 intro pins s Z H Q I h;exact Subscript_ (Ze2 ha hb I h λ v u s2 x y H2 I2 rx ry q=>hr a b pins s2 Z H2 x y v u Q I2 rx ry q (hs _ _))
def Zfr (K:Fk):R2:=λ x y H Q=>∃ p xs i v,x = .ref p /\ y = .int i /\ SqL K H p xs /\ atI xs i = some v /\ Q v H
def ZfZ (K:Fk):R2:=λ x y H Q=>∃ p xs i v,x = .ref p /\ y = .int i /\ SqT K H p xs /\ atI xs i = some v /\ Q v H
def Zf9:R2:=λ x y H Q=>∃ z i c,x = .str z /\ y = .int i /\ z.length <= sizeLine /\ atI z.cps.toList i = some c /\ Q (.str ⟨#[c]⟩) H
theorem Rf:IxR X (Zfr X.K):=by
 intro value slice pins s Z H x y v u Q I rx ry h hs;obtain ⟨p,xs,i,z,rfl,rfl,hq,he,q⟩:=h;cases rx;obtain ⟨t,rfl⟩:=ry;obtain ⟨its,r,pl,hz⟩:=I.list hq;obtain ⟨j,h1,h2,h3,h4,h5⟩:=UL he;obtain ⟨w,ew,rw'⟩:=r.get h2;have hl:=r.length;have hn:=Xk;have fin:EP X pins Z Q w s:=⟨z,H,I,rw',q⟩
 by_cases h0:0 <= i
 ·have hj:i.toNat = j:=by
   rw [seqIndex_of h0 h5] at h1;exact Option.some.inj h1
  exact item_listR pl.isList h0 (by lia) (by rw [hj]; simpa using ew) fin hs
 ·have hj:(i + (its.toArray.size:Int)).toNat = j:=by
   rw [seqIndex_neg (by lia) h4] at h1;rw [List.size_toArray,<- hl];exact Option.some.inj h1
  exact subscriptTail_builtinR (x:=w) pl.isList.typeIs slot_list_getitem.lookup
   (wpAny_getItem_list_neg (Q:=λ r s'=>r = w /\ EP X pins Z Q r s') pl.isList (by lia) (by rw [List.size_toArray] <;> lia) (by lia) (by rw [hj]; simpa using ew) ⟨rfl,fin⟩) hs
theorem Zad:IxR X (ZfZ X.K):=by
 intro value slice pins s Z H x y v u Q I rx ry h hs;obtain ⟨p,xs,i,z,rfl,rfl,hq,he,q⟩:=h;cases rx;obtain ⟨t,rfl⟩:=ry;obtain ⟨its,r,pl,hz⟩:=I.tuple hq;obtain ⟨j,h1,h2,h3,h4,h5⟩:=UL he;obtain ⟨w,ew,rw'⟩:=r.get h2;have hl:=r.length;have hn:=Xk;have fin:EP X pins Z Q w s:=⟨z,H,I,rw',q⟩
 exact subscriptTail_builtinR (x:=w) pl.typeIs slot_tuple_getitem.lookup
  (getItem_tuple (j:=j) (Q:=λ r s'=>r = w /\ EP X pins Z Q r s') pl (by lia) (by lia) (by rw [List.size_toArray,<- hl]; exact h1) (by simpa using ew) ⟨rfl,fin⟩) hs
theorem T6:IxR X Zf9:=by
 intro value slice pins s Z H x y v u Q I rx ry h hs;obtain ⟨z,i,c,rfl,rfl,hz,he,q⟩:=h;obtain ⟨t,rfl⟩:=rx;obtain ⟨t',rfl⟩:=ry;obtain ⟨j,h1,h2,h3,h4,h5⟩:=UL he;have hl:z.cps.toList.length = z.length:=by simp [Str.length]
 rw [hl] at h1 h4 h5;have hn:=Xk
 exact tail_any (typeIs_str s z t) slot_str_getitem.lookup (getItem_str (c:=c) (by
  have e1:decide (i < -(2 ^ 63:Int)) = false:=decide_eq_false (by lia);have e2:decide (i ≥ 2 ^ 63) = false:=decide_eq_false (by lia)
  rw [e1,e2,Bool.or_false]) (by rw [h1]; simpa using h2) ⟨.str ⟨#[c]⟩,H,I.tok _,⟨_,rfl⟩,q⟩) hs
def rIx (K:Fk):R2:=λ x y H Q=>Zfr K x y H Q \/ ZfZ K x y H Q \/ Zf9 x y H Q
theorem Dl:IxR X (rIx X.K):=Rf.or (Zad.or T6)
theorem BO (its:List Value) (n j:Nat) (u:Value):Obj.mapSeq (·.setIfInBounds j u) { cls:=.type "list",data:=.seq its.toArray n } = { cls:=.type "list",data:=.seq (its.set j u).toArray n }:=by
 simp [Obj.mapSeq]
theorem Inv.lst (I:Inv X pins Z H s) (h:H p = some (.lst xs)) :
  ∃ (its:List Value) (n:Nat),Vals xs its /\ s.heap.get? p = some { cls:=.type "list",data:=.seq its.toArray n } /\ xs.length <= sizeLine:=by
 obtain ⟨z,its,n,r,e⟩:=I.hok p _ h;exact ⟨its,n,r,e,z⟩
theorem Inv.ZbD {ys:List V} {its its':List Value} {n n':Nat} {f:Obj->Obj} (I:Inv X pins Z H s) (h:H p = some (.lst xs))
  (ho:s.heap.get? p = some { cls:=.type "list",data:=.seq its.toArray n }) (hf:f { cls:=.type "list",data:=.seq its.toArray n } = { cls:=.type "list",data:=.seq its'.toArray n' }) (r:Vals ys its') (hz:ys.length <= sizeLine) (t:Nat) :
  Inv X pins Z (upd H p (.lst ys)) { s with heap:=s.heap.update p f,toks:=t }:=by
 have e:(s.heap.update p f).get? p = some { cls:=.type "list",data:=.seq its'.toArray n' }:=by
  rw [Heap.get?_update_self f ho (by rw [hf] <;> rfl),hf]
 refine I.write (x:=p) (e:=p) (by rw [h]; trivial) (.inl rfl) (λ b u hb q=>(Heap.get?_update_other _ _ (Ne.symm hb)).trans q) ⟨_,e⟩ ?_;exact ⟨hz,its',n',r,e⟩
def Zfb:V->V->V->Hp->(Hp->Prop)->Prop:=λ o i v H Q=>∃ p xs k j,o = .ref p /\ i = .int k /\ H p = some (.lst xs) /\ ixN xs.length k = some j /\ Q (upd H p (.lst (xs.set j v)))
theorem set_list:Zf0 X Zfb:=by
 intro pins s Z H o i v ov iv u Q I ro ri rv h;obtain ⟨p,xs,k,j,rfl,rfl,hp,hj,q⟩:=h;cases ro;obtain ⟨t,rfl⟩:=ri;obtain ⟨its,n,r,ho,hz⟩:=I.lst hp;obtain ⟨h1,h2,h3,h4⟩:=Es hj;have hl:=r.length;have hn:=Xk;have I':Inv X pins Z (upd H p (.lst (xs.set j v))) { s with heap:=s.heap.update p (Obj.mapSeq (·.setIfInBounds j u)) }:=
  I.ZbD hp ho (BO its n j u) (r.set rv j) (by rw [List.length_set]; exact hz) s.toks
 by_cases h0:0 <= k
 ·have hk:k.toNat = j:=by
   rw [seqIndex_of h0 h4] at h1;exact Option.some.inj h1
  exact PySem.W.ki_setAt ho h0 (by lia) (by rw [List.size_toArray,<- hl]; exact h4) (by rw [hk]; exact ⟨_,I',q⟩)
 ·have hk:(k + (its.toArray.size:Int)).toNat = j:=by
   rw [seqIndex_neg (by lia) h3] at h1;rw [List.size_toArray,<- hl];exact Option.some.inj h1
  exact PySem.W.ki_setBack ho (by lia) (by rw [List.size_toArray,<- hl]; exact h3) (by lia) (by rw [hk]; exact ⟨_,I',q⟩)
theorem Wv (lo hi:Option Int) (n:Nat):(sliceBounds lo hi none n).1 = ((HT.sIx n 0 lo:Nat):Int) /\ (sliceBounds lo hi none n).2.1 = ((HT.sIx n n hi:Nat):Int) /\ (sliceBounds lo hi none n).2.2 = 1:=by
 refine ⟨?_,?_,rfl⟩
 ·cases lo with
  | none=>simp [sliceBounds,HT.sIx]
  | some i=>
   simp only [sliceBounds,HT.sIx,Option.getD_none,show (1:Int) > 0 by decide,if_true]
   by_cases h:i < 0
   ·simp only [h,if_true] <;> lia
   ·simp only [h,if_false] <;> lia
 ·cases hi with
  | none=>simp [sliceBounds,HT.sIx]
  | some i=>
   simp only [sliceBounds,HT.sIx,Option.getD_none,show (1:Int) > 0 by decide,if_true]
   by_cases h:i < 0
   ·simp only [h,if_true] <;> lia
   ·simp only [h,if_false] <;> lia
theorem XE (its:List Value) (lo hi:Option Int):slicePick its.toArray lo hi none = ((its.drop (HT.sIx its.length 0 lo)).take (HT.sIx its.length its.length hi - HT.sIx its.length 0 lo)).toArray:=by
 obtain ⟨h1,h2,h3⟩:=Wv lo hi its.toArray.size;unfold slicePick;rw [h1,h2,h3];simp only [sliceRange_one,pick_run,List.size_toArray] <;> rfl
def ZgJ (K:Fk):V->Option Int->Option Int->Hp->VK->Prop:=λ x lo hi H Q=>∃ a xs,x = .ref a /\ SqL K H a xs /\ ∀ p,H p = none->Q (.ref p) (upd H p (.lst (Oz xs lo hi)))
theorem Pk:SlR X (ZgJ X.K):=by
 intro pins s Z H x v vl vu lo hi sl Q I rx hs pl pu h;obtain ⟨a,xs,rfl,hx,q⟩:=h;cases rx;obtain ⟨its,r,ht,hz⟩:=I.list hx;have hlen:=r.length;refine ⟨"list",_,slot_list_getitem.lookup,ht.isList.typeIs,?_⟩;refine wpAny_getItem_list_slice ht.isList hs pl pu .none (by simp) ?_ (by rw [List.size_toArray] <;> lia);rw [XE,<- hlen];refine ⟨.ref s.heap.objs.size,_,I.laid (t':=s.toks) (o:=.lst (Oz xs lo hi)) (λ b ob q=>Heap.get?_push_of_some _ q) (Nat.le_refl _) ?_,rfl,q _ (I.hok.fresh (Nat.le_refl _))⟩;exact ⟨Nat.le_trans (YV xs lo hi) hz,_,0,(r.drop (HT.sIx xs.length 0 lo)).take (HT.sIx xs.length xs.length hi - HT.sIx xs.length 0 lo),Heap.get?_push_size _ rfl⟩
theorem KN:Q3 X (.builtin "len") (λ xs H Q=>∃ p ys,xs = [.ref p] /\ (SqL X.K H p ys \/ SqT X.K H p ys) /\ Q (.int ys.length) H):=by
 intro pins s Z H xs us Q I r h;obtain ⟨p,ys,rfl,hq,q⟩:=h;obtain ⟨u,rfl,rx⟩:=vals1 r;cases rx;have hn:=Xk
 rcases hq with hq | hq
 ·obtain ⟨its,r',pl,hz⟩:=I.list hq;have hlen:=r'.length;exact Calls.call_len_list pl.isList (by simp only [List.size_toArray] <;> lia) ⟨.int ys.length,H,I.tok _,⟨s.toks + 1,by rw [List.size_toArray,hlen]⟩,q⟩
 ·obtain ⟨its,r',pl,hz⟩:=I.tuple hq;have hlen:=r'.length;exact len_tuple pl (by simp only [List.size_toArray] <;> lia) ⟨.int ys.length,H,I.tok _,⟨s.toks + 1,by rw [List.size_toArray,hlen]⟩,q⟩
theorem Q3.or {f:Value} {r r':List V->Hp->VK->Prop} (h:Q3 X f r) (h':Q3 X f r'):Q3 X f (λ xs H Q=>r xs H Q \/ r' xs H Q):=by
 intro pins s Z H xs us Q I rs q
 rcases q with q | q
 ·exact h pins s Z H xs us Q I rs q
 ·exact h' pins s Z H xs us Q I rs q
theorem XO:Q3 X (.type "tuple") (λ xs H Q=>∃ p ys,xs = [.ref p] /\ ((SqL X.K H p ys /\ ∀ l,H l = none->Q (.ref l) (upd H l (.tup ys))) \/ (SqT X.K H p ys /\ Q (.ref p) H))):=by
 intro pins s Z H xs us Q I r h;obtain ⟨p,ys,rfl,h⟩:=h;obtain ⟨u,rfl,rx⟩:=vals1 r;cases rx
 rcases h with ⟨hq,q⟩ | ⟨hq,q⟩
 ·obtain ⟨its,r',pl,hz⟩:=I.list hq;have hlen:=r'.length;refine call_tuple_list pl.isList (λ h' kp=>?_) (by simp only [List.size_toArray] <;> lia);have I1:Inv X pins Z H { s with heap:=h' }:=I.kept (t':=s.toks) kp;have I2:Inv X pins Z (upd H h'.objs.size (.tup ys)) { s with heap:=h'.push { cls:=.type "tuple",data:=.seq its.toArray } }:=
   I1.laid (t':=s.toks) (λ b o e=>Heap.get?_push_of_some _ e) (Nat.le_refl _) (show Qd X.prog X.w _ _ _ (.tup ys) from ⟨hz,its,r',IsTup.new _ _⟩)
  exact ⟨.ref h'.objs.size,_,I2,rfl,q _ (I1.hok.fresh (Nat.le_refl _))⟩
 ·obtain ⟨its,r',pl,hz⟩:=I.tuple hq;exact call_tuple_same pl ⟨.ref p,H,I,rfl,q⟩
def tyV (K:Fk) (T:String) (x:V) (H:Hp):Prop:=match x with
 | .str _=>T = "str"
 | .int _=>T = "int"
 | .ref p=>(T = "list" /\ ∃ xs,SqL K H p xs) \/ (T = "tuple" /\ ∃ o,K.lookup p = some o /\ o.cls = .type "tuple" /\ o.dict = none) \/
   (T = "dict" /\ ((∃ kvs,H p = some (.dK kvs)) \/ ∃ kvs,H p = some (.dT kvs))) \/ (T = "set" /\ ∃ S n,H p = some (.set S n))
 | _=>False
theorem Nv {T:String} {x:V} {v:Value} (I:Inv X pins Z H s) (r:RelV x v) (ty:tyV X.K T x H) :
  s.TypeIs v T /\ ∀ a,v = .ref a->∃ ob,s.heap.get? a = some ob /\ ob.dict = none:=by
 cases x with
 | str z=>
  obtain ⟨t,rfl⟩:=r;cases (show T = "str" from ty);exact ⟨typeIs_str s z t,λ _ e=>nomatch e⟩
 | int i=>
  obtain ⟨t,rfl⟩:=r;cases (show T = "int" from ty);exact ⟨typeIs_int s i t,λ _ e=>nomatch e⟩
 | ref p=>
  cases r
  rcases ty with ⟨rfl,xs,hq⟩ | ⟨rfl,o,hk,hc,hd⟩ | ⟨rfl,hk⟩ | ⟨rfl,S,n,hk⟩
  ·obtain ⟨its,_,pl,_⟩:=I.list hq;refine ⟨pl.isList.typeIs,λ a e=>?_⟩;cases e;obtain ⟨o,n,e,c,hd,_⟩:=pl;exact ⟨o,e,hd⟩
  ·refine ⟨⟨o,I.kIn p o hk,hc⟩,λ a e=>?_⟩;cases e;exact ⟨o,I.kIn _ o hk,hd⟩
  ·have z:∃ o,s.heap.get? p = some o /\ o.ExactDict:=by
    rcases hk with ⟨kvs,hk⟩ | ⟨kvs,hk⟩
    ·obtain ⟨_,_,_,_,o,_,_,e,ex,_⟩:=I.hok p _ hk;exact ⟨o,e,ex⟩
    ·obtain ⟨_,_,_,_,o,_,_,e,ex,_⟩:=I.hok p _ hk;exact ⟨o,e,ex⟩
   obtain ⟨o,e,ex⟩:=z;refine ⟨⟨o,e,ex.1⟩,λ a e2=>?_⟩;cases e2;exact ⟨o,e,ex.2.1⟩
  ·obtain ⟨o,_,_,_,e,ex,_⟩:=I.hok p _ hk;refine ⟨⟨o,e,ex.1⟩,λ a e2=>?_⟩;cases e2;exact ⟨o,e,ex.2.1⟩
 | _=>exact False.elim ty
def Zgr (K:Fk) (T:String) (r:V->List V->Hp->VK->Prop) (to:TE):TE:=λ Z H Q=>to Z H λ x H1=>tyV K T x H1 /\ r x [] H1 Q
def tBM (K:Fk) (T:String) (r:V->List V->Hp->VK->Prop) (to:TE) (t:TA):TE:=λ Z H Q=>to Z H λ x H1=>tyV K T x H1 /\ t Z H1 λ xs H2=>r x xs H2 Q
variable {o:Expr} {to:TE} {t:TA} {name:Str} {apos cpos:Pos} {T id:String} {r:V->List V->Hp->VK->Prop}
theorem MT (pa:PlainAttrs T) (slot:Slot T name id) (hty:typeOf (.builtin id) = pure (.type "method_descriptor")) (hm:MtR X id r) (ho:PE X o to)
  (hbase:autoParam (attributeBase o name X.env (eval o X.env) = eval o X.env) zz3._auto_1) (hline:autoParam ((apos.endLine == cpos.line) = true) zz3._auto_1):PE X (.Call (.Attribute o name apos) [] [] cpos) (Zgr X.K T r to):=by
 intro pins s Z H Q I h;refine wpAny_Call_method0_late hbase hline (thn (ho pins s Z H _ I h) λ v s1 ⟨x,H1,I1,r1,ty,q1⟩=>?_);obtain ⟨h1,h2⟩:=Nv I1 r1 ty;exact ⟨T,id,pa,slot,hty,h1,h2,Calls.callWith_builtin rfl (PySem.evalArgs_none (hm pins s1 Z H1 x [] v [] Q I1 r1 .nil q1))⟩
theorem ZcS (pa:PlainAttrs T) (slot:Slot T name id) (hty:typeOf (.builtin id) = pure (.type "method_descriptor")) (hm:MtR X id r) (ho:PE X o to) (ha:PA X (e :: es) t)
  (hbase:autoParam (attributeBase o name X.env (eval o X.env) = eval o X.env) zz3._auto_1)
  (hfew:((backTo cpos (starEach (e :: es) X.env)).all (λ x=>!x.1) && (backToKw cpos (keywordEach [] X.env)).all (λ x=>x.1.isSome)
   && decide ((e :: es).length + ([]:List Keyword).length + (if ([]:List Keyword).isEmpty then 0 else 1) < 30)) = true:=by rfl)
  (hline:autoParam ((apos.endLine == cpos.line) = true) zz3._auto_1) (hs:autoParam (starEach (e :: es) X.env = (false,eval e X.env) :: starEach es X.env) zz3._auto_1) (hplain:autoParam ((backTo cpos (starEach es X.env)).any (·.1) = false) zz3._auto_1) :
  PE X (.Call (.Attribute o name apos) (e :: es) [] cpos) (tBM X.K T r to t):=by
 intro pins s Z H Q I h;refine wpAny_Call_method_late hbase hfew hline rfl (thn (ho pins s Z H _ I h) λ v s1 ⟨x,H1,I1,r1,ty,q1⟩=>?_);obtain ⟨h1,h2⟩:=Nv I1 r1 ty;refine ⟨T,id,pa,slot,hty,h1,h2,?_⟩;have hA:=ha cpos pins s1 Z H1 _ I1 q1;rw [hs] at hA ⊢;refine Calls.callWith_builtin (by show (false || (backTo cpos (starEach es X.env)).any (·.1)) = false; rw [hplain] <;> rfl) (Calls.evalArgs_plain ?_);exact thn hA λ us s2 ⟨vs,H2,I2,r2,q2⟩=>hm pins s2 Z H2 x vs v us Q I2 r1 r2 q2
end
def MtM (X:Cx) (id:String) (r:V->List V->Hp->VK->Prop):Prop:=
 ∀ (pins:List (Addr × Obj)) (s:Shared) (Z:St) (H:Hp) (x:V) (xs:List V) (v:Value) (us:List Value) (Q:VK),Inv X pins Z H s->RelV x v->Vals xs us->r x xs H Q ->
  wpAny (model X.prog X.w) X.A (call (.builtin id) (v :: us)) (EP X pins Z Q) X.xe s
theorem Vals.one {x:V} (h:Vals [x] us):∃ u,us = [u] /\ RelV x u:=by
 cases h with | cons r t=>cases t; exact ⟨_,rfl,r⟩
theorem Vals.two {x:V} (h:Vals [x,y] us):∃ u v,us = [u,v] /\ RelV x u /\ RelV y v:=by
 cases h with | cons r t=>cases t with | cons q t=>cases t; exact ⟨_,_,rfl,r,q⟩
theorem Vals.zero:∀ {us:List Value},Vals [] us->us = []
 | _,.nil=>rfl
theorem Vals.dropLast (h:Vals xs us):Vals xs.dropLast us.dropLast:=by
 induction h with
 | nil=>exact .nil
 | cons r t ih=>
  cases t with
  | nil=>exact .nil
  | cons q t'=>exact .cons r ih
theorem Vals.reverse (h:Vals xs us):Vals xs.reverse us.reverse:=by
 induction h with
 | nil=>exact .nil
 | cons r t ih=>rw [List.reverse_cons,List.reverse_cons]; exact Vals.append ih (.cons r .nil)
theorem Bb {α:Type} (l:List α):l.eraseIdx (l.length - 1) = l.dropLast:=by
 induction l with
 | nil=>rfl
 | cons a r ih=>
  cases r with
  | nil=>rfl
  | cons b r=>
   have e:(a :: b :: r).length - 1 = ((b :: r).length - 1) + 1:=by
    have h1:(a :: b :: r).length = r.length + 2:=rfl;have h2:(b :: r).length = r.length + 1:=rfl;lia
   rw [e,List.eraseIdx_cons_succ,ih]
   all_goals rfl
section
variable {b:Addr} {ys zs:List V}
theorem Inv.Zdc {its its':List Value} {n:Nat} {f:Array Value->Array Value} {t':Nat} (I:Inv X pins Z H s) (hH:H l = some (.lst xs))
  (e:s.heap.get? l = some { cls:=.type "list",data:=.seq its.toArray n }) (hf:f its.toArray = its'.toArray) (hv:Vals ys its') (hz:ys.length <= sizeLine) :
  Inv X pins Z (upd H l (.lst ys)) { s with heap:=s.heap.update l (Obj.mapSeq f),toks:=t' }:=by
 have q:=PySem.IsL.update e f;rw [hf] at q;refine I.write (x:=l) (e:=l) (by rw [hH]; exact trivial) (.inl rfl) (λ b' u hb hu=>(Heap.get?_update_other s.heap (Obj.mapSeq f) (Ne.symm hb)).trans hu) ⟨_,q⟩ ?_;exact ⟨hz,its',_,hv,q⟩
theorem Inv.Zge {its:List Value} {t':Nat} (I:Inv X pins Z H s) (hv:Vals ys its) (hz:ys.length <= sizeLine) :
  Inv X pins Z (upd H s.heap.objs.size (.lst ys)) { s with heap:=s.heap.push { cls:=.type "list",data:=.seq its.toArray },toks:=t' }:=
 I.laid (λ _ _ q=>Heap.get?_push_of_some _ q) (Nat.le_refl _) ⟨hz,its,0,hv,Heap.get?_push_size _ rfl⟩
theorem Inv.fresh (I:Inv X pins Z H s):H s.heap.objs.size = none:=I.hok.fresh (Nat.le_refl _)
theorem Inv.Zca (I:Inv X pins Z H s) (hH:H l = some (.lst xs)):xs.length <= sizeLine /\ ∃ (its:List Value) (n:Nat),Vals xs its /\ xs.length = its.length /\ s.heap.get? l = some { cls:=.type "list",data:=.seq its.toArray n }:=by
 obtain ⟨z,its,n,r,e⟩:=I.hok l _ hH;exact ⟨z,its,n,r,r.length,e⟩
theorem Lu (h:n <= sizeLine):Builtin.List.listTooLong n = false:=by
 unfold Builtin.List.listTooLong;exact decide_eq_false (by lia)
end
def Pr:V->List V->Hp->VK->Prop:=λ x vs H Q=>∃ l xs y,x = .ref l /\ vs = [y] /\ H l = some (.lst xs) /\ xs.length < sizeLine /\ Q .non (upd H l (.lst (xs ++ [y])))
theorem CZ:MtM X "list.append" Pr:=by
 intro pins s Z H x vs v us Q I rx rv h;obtain ⟨l,xs,y,rfl,rfl,hH,hz,q⟩:=h;cases rx;obtain ⟨u,rfl,ru⟩:=rv.one;obtain ⟨z,its,n,r,hl,e⟩:=I.Zca hH;refine call_meets F.slot_list_append ⟨_,e,rfl⟩ F.entry_list_append (F.args_list_append_2 _ _) (PySem.list_append l its.toArray n u (by rw [List.size_toArray]; lia)) ⟨e,?_⟩;refine ⟨.non,_,I.Zdc (its':=its ++ [u]) hH e (by simp) (r.append (.cons ru .nil)) ?_,rfl,q⟩;rw [List.length_append,List.length_singleton];lia
def Sz:V->List V->Hp->VK->Prop:=λ x vs H Q=>∃ l b xs zs,x = .ref l /\ vs = [.ref b] /\ H l = some (.lst xs) /\ H b = some (.lst zs) /\ xs.length + zs.length <= sizeLine /\ Q .non (upd H l (.lst (xs ++ zs)))
theorem C6:MtM X "list.extend" Sz:=by
 intro pins s Z H x vs v us Q I rx rv h;obtain ⟨l,b,xs,zs,rfl,rfl,hH,hB,hz,q⟩:=h;cases rx;obtain ⟨u,rfl,ru⟩:=rv.one;cases ru;obtain ⟨z,its,n,r,hl,e⟩:=I.Zca hH;obtain ⟨z2,its2,n2,r2,hl2,e2⟩:=I.Zca hB;have hsz:its.toArray.size + its2.toArray.size <= sizeLine:=by rw [List.size_toArray,List.size_toArray]; lia
 have hlong:¬ (!its.toArray.isEmpty && Builtin.List.listTooLong (its.toArray.size + its2.toArray.size)) = true:=by
  rw [Lu hsz,Bool.and_false];exact Bool.false_ne_true
 refine call_meets F.slot_list_extend ⟨_,e,rfl⟩ F.entry_list_extend (F.args_list_extend_2 _ _)
  (AutoSeq1.list_extend_list_list_0 l its.toArray n b its2.toArray n2 hlong (by rw [List.size_toArray]; lia) (by lia)) ⟨e,e2,?_⟩
 refine ⟨.non,_,I.Zdc (its':=its ++ its2) hH e (by simp) (r.append r2) ?_,rfl,q⟩;rw [List.length_append];lia
def Zgo:V->List V->Hp->VK->Prop:=λ x vs H Q=>∃ l xs y,x = .ref l /\ vs = [] /\ H l = some (.lst xs) /\ xs[xs.length - 1]? = some y /\ Q y (upd H l (.lst xs.dropLast))
theorem Zbn:MtM X "list.pop" Zgo:=by
 intro pins s Z H x vs v us Q I rx rv h;obtain ⟨l,xs,y,rfl,rfl,hH,hy,q⟩:=h;cases rx;have hus:=rv.zero;subst hus;obtain ⟨z,its,n,r,hl,e⟩:=I.Zca hH;obtain ⟨u,hu,ru⟩:=r.get hy;have hy':its.toArray[its.toArray.size - 1]? = some u:=by
  show its.toArray[its.length - 1]? = some u;rw [<- Array.getElem?_toList,<- hl];exact hu
 refine call_meets F.slot_list_pop ⟨_,e,rfl⟩ F.entry_list_pop (F.args_list_pop_1 _) (MeetsSeq.list_pop_last l its.toArray n u hy' (by rw [List.size_toArray]; lia)) ⟨e,?_⟩;refine ⟨y,_,I.Zdc (its':=its.dropLast) hH e ?_ r.dropLast ?_,ru,q⟩
 ·show its.toArray.eraseIdxIfInBounds (its.toArray.size - 1) = its.dropLast.toArray;rw [List.size_toArray,List.eraseIdxIfInBounds_toArray,Bb]
 ·rw [List.length_dropLast];lia
def LN:V->List V->Hp->VK->Prop:=λ x vs H Q=>∃ l xs,x = .ref l /\ vs = [] /\ H l = some (.lst xs) /\ Q .non (upd H l (.lst xs.reverse))
theorem Br:MtM X "list.reverse" LN:=by
 intro pins s Z H x vs v us Q I rx rv h;obtain ⟨l,xs,rfl,rfl,hH,q⟩:=h;cases rx;have hus:=rv.zero;subst hus;obtain ⟨z,its,n,r,hl,e⟩:=I.Zca hH;refine call_meets F.slot_list_reverse ⟨_,e,rfl⟩ F.entry_list_reverse (F.args_list_reverse_1 _) (AutoSeq1.list_reverse_list_0 l its.toArray n (by rw [List.size_toArray]; lia)) ⟨e,?_⟩;refine ⟨.non,_,I.Zdc (its':=its.reverse) hH e (by simp) r.reverse ?_,rfl,q⟩;rw [List.length_reverse];lia
section
variable {prog:Program} {E:Value->Shared->Prop}
end
section
variable {κ:Type} [DecidableEq κ]
noncomputable def Bh (kvs:List (κ × V)) (k:κ):Option V:=(kvs.find? λ kv=>decide (kv.1 = k)).map (·.2)
noncomputable def putK (kvs:List (κ × V)) (k:κ) (v:V):List (κ × V):=
 if (kvs.any λ kv=>decide (kv.1 = k)) = true then kvs.map (λ kv=>if kv.1 = k then (kv.1,v) else kv) else kvs ++ [(k,v)]
noncomputable def ZbC (kvs:List (κ × V)) (k:κ):List (κ × V):=kvs.filter λ kv=>decide (kv.1 ≠ k)
theorem Ge {p:κ × V} {r:List (κ × V)} {k:κ} (e:p.1 = k):Bh (p :: r) k = some p.2:=by simp [Bh,List.find?_cons,e]
theorem GC {p:κ × V} {r:List (κ × V)} {k:κ} (e:¬ p.1 = k):Bh (p :: r) k = Bh r k:=by simp [Bh,List.find?_cons,e]
theorem V8 (k:κ):∀ kvs:List (κ × V),(kvs.any λ kv=>decide (kv.1 = k)) = (Bh kvs k).isSome
 | []=>rfl
 | p :: r=>by
  rw [List.any_cons]
  by_cases e:p.1 = k
  ·simp only [Ge e,decide_eq_true e,Bool.true_or,Option.isSome_some]
  ·rw [GC e,decide_eq_false e,Bool.false_or]; exact V8 k r
theorem Yg (kvs:List (κ × V)) (k:κ) (v:V):(putK kvs k v).length <= kvs.length + 1:=by
 unfold putK
 split
 ·rw [List.length_map]; lia
 ·rw [List.length_append,List.length_cons,List.length_nil]; lia
theorem ZaU.KG {o:Option V} {u:Option Value} (r:ZaU o u):o.isSome = u.isSome:=by
 cases o with
 | none=>cases u with
  | none=>rfl
  | some _=>exact (show False from r).elim
 | some _=>cases u with
  | none=>exact (show False from r).elim
  | some _=>rfl
theorem KV.any {kvs:List (κ × V)} {vs:List (κ × Value)} (r:KV kvs vs) (k:κ):(kvs.any λ kv=>decide (kv.1 = k)) = vs.any λ kv=>decide (kv.1 = k):=by
 unfold KV at r
 induction r with
 | nil=>rfl
 | cons h t ih=>rw [List.any_cons,List.any_cons,ih,h.1]
theorem KV.Zfi {kvs:List (κ × V)} {vs:List (κ × Value)} (r:KV kvs vs) (k:κ) (ry:RelV y u) :
  KV (kvs.map λ kv=>if kv.1 = k then (kv.1,y) else kv) (vs.map λ kv=>if kv.1 = k then (kv.1,u) else kv):=by
 unfold KV at r ⊢
 induction r with
 | nil=>exact .nil
 | @cons p q ps qs h t ih=>
  rw [List.map_cons,List.map_cons];refine .cons ?_ ih;obtain ⟨h1,h2⟩:=h
  by_cases e:p.1 = k
  ·rw [if_pos e,if_pos (h1.symm.trans e)]; exact ⟨h1,ry⟩
  ·rw [if_neg e,if_neg (λ z=>e (h1.trans z))]; exact ⟨h1,h2⟩
theorem KV.put {kvs:List (κ × V)} {vs:List (κ × Value)} (r:KV kvs vs) (k:κ) (ry:RelV y u):KV (putK kvs k y) (stored vs k u):=by
 unfold putK stored;rw [r.any k]
 by_cases e:(vs.any λ kv=>decide (kv.1 = k)) = true
 ·rw [if_pos e,if_pos e]; exact r.Zfi k ry
 ·rw [if_neg e,if_neg e]; exact Paired.snoc r ⟨rfl,ry⟩
theorem KV.drop {kvs:List (κ × V)} {vs:List (κ × Value)} (r:KV kvs vs) (k:κ):KV (ZbC kvs k) (without vs k):=by
 unfold KV at r ⊢;unfold ZbC without
 induction r with
 | nil=>exact .nil
 | @cons p q ps qs h t ih=>
  obtain ⟨h1,h2⟩:=h;rw [List.filter_cons,List.filter_cons]
  by_cases e:p.1 = k
  ·have a:¬ decide (p.1 ≠ k) = true:=by simp [e]
   have b:¬ decide (q.1 ≠ k) = true:=by simp [h1.symm.trans e]
   rw [if_neg a,if_neg b]; exact ih
  ·have e':¬ q.1 = k:=λ z=>e (h1.trans z);have a:decide (p.1 ≠ k) = true:=by simp [e]
   have b:decide (q.1 ≠ k) = true:=by simp [e']
   rw [if_pos a,if_pos b]; exact .cons ⟨h1,h2⟩ ih
theorem KV.length {kvs:List (κ × V)} {vs:List (κ × Value)} (r:KV kvs vs):kvs.length = vs.length:=Paired.length r
end
theorem Zcq {k:Key} (r:RelV (kV k) u):(ZW P w).is k u = true:=by
 cases k with
 | inl i=>obtain ⟨t,e⟩:=(show ∃ t,u = Value.int i t from r); subst e; exact Ux P w i t
 | inr x=>obtain ⟨t,e⟩:=(show ∃ t,u = Value.str x t from r); subst e; exact W6 P w x t
theorem YA:∀ {ks:List Key} {us:List Value},Vals (ks.map kV) us->ItemsAre (ZW P w) ks us
 | [],_,r=>by rw [List.map_nil] at r; cases r; exact .nil
 | k :: ks,_,r=>by
  rw [List.map_cons] at r;cases r with
  | cons h t=>exact .cons (Zcq h) (YA t)
abbrev KT (H:Hp):List (List Key × V)->List (List Key × Addr × Value)->Prop:=Paired λ p q=>p.1 = q.1 /\ H q.2.1 = some (.tup (p.1.map kV)) /\ RelV p.2 q.2.2
theorem KT.val {xs:List (List Key × Addr × Value)} (r:KT H kvs xs) (k:List Key):ZaU (Bh kvs k) ((atKey xs k).map (·.2)):=by
 induction r with
 | nil=>exact True.intro
 | @cons p q ps qs h t ih=>
  obtain ⟨h1,_,h2⟩:=h
  by_cases e:p.1 = k
  ·have e':q.1 = k:=h1.symm.trans e;have b:atKey (q :: qs) k = some q.2:=by simp [atKey,List.find?_cons,e']
   rw [Ge e,b]; exact h2
  ·have e':¬ q.1 = k:=λ z=>e (h1.trans z);have b:atKey (q :: qs) k = atKey qs k:=by simp [atKey,List.find?_cons,e']
   rw [GC e,b]; exact ih
theorem KT.Zfi {xs:List (List Key × Addr × Value)} (r:KT H kvs xs) (k:List Key) (ry:RelV y u) :
  KT H (kvs.map λ kv=>if kv.1 = k then (kv.1,y) else kv) (xs.map (putAt k u)):=by
 induction r with
 | nil=>exact .nil
 | @cons p q ps qs h t ih=>
  rw [List.map_cons,List.map_cons];refine .cons ?_ ih;obtain ⟨h1,h2,h3⟩:=h;unfold putAt
  by_cases e:p.1 = k
  ·rw [if_pos e,if_pos (h1.symm.trans e)]; exact ⟨h1,h2,ry⟩
  ·rw [if_neg e,if_neg (λ z=>e (h1.trans z))]; exact ⟨h1,h2,h3⟩
theorem KT.put {xs:List (List Key × Addr × Value)} (r:KT H kvs xs) (k:List Key) {b:Addr} (hb:H b = some (.tup (k.map kV))) (ry:RelV y u) :
  KT H (putK kvs k y) (storedH xs k b u):=by
 have e:(kvs.any λ kv=>decide (kv.1 = k)) = (atKey xs k).isSome:=by
  rw [V8,(r.val k).KG,Option.isSome_map]
 unfold putK storedH;rw [e]
 by_cases q:(atKey xs k).isSome = true
 ·rw [if_pos q,if_pos q]; exact r.Zfi k ry
 ·rw [if_neg q,if_neg q]; exact Paired.snoc r ⟨rfl,hb,ry⟩
theorem KT.keeps {xs:List (List Key × Addr × Value)} (r:KT H kvs xs) (ht:∀ b ys,H b = some (.tup ys)->H' b = some (.tup ys)):KT H' kvs xs:=
 Paired.NY r λ _ _ z=>⟨z.1,ht _ _ z.2.1,z.2.2⟩
theorem Sa {u:HO} (ok:HOk P w H h) (e:Rd H a u):Qd P w H h a u:=e.ok ok
theorem ZeO {kvs:List (Key × V)} (ok:HOk P w H h) (e:Rd H a (.dK kvs)):kvs.length <= sizeLine /\ (a == sysModules) = false /\ ∃ vs,KV kvs vs /\ h.DictOf (ZW P w) a vs:=
 show Qd P w H h a (.dK kvs) from Sa ok e
theorem Ze6 {kvs:List (Key × V)} (ok:HOk P w H h) (e:H a = some (.dK kvs)):kvs.length <= sizeLine /\ (a == sysModules) = false /\ ∃ vs,KV kvs vs /\ h.DictOf (ZW P w) a vs:=ZeO ok (.inl e)
theorem Nx {ks:List Key} (ok:HOk P w H h) (e:H a = some (.tup (ks.map kV))):(tupleKind (ZW P w)).is h ks a:=by
 obtain ⟨_,its,r,o,h1,h2,n,h3⟩:=(show Qd P w H h a (.tup (ks.map kV)) from ok a _ e)
 exact ⟨o,its.toArray,n,h1,h2,h3,by simpa using YA r⟩
theorem TJ (ok:HOk P w H h) (e:Rd H a (.dT kvs)):kvs.length <= sizeLine /\ (a == sysModules) = false /\
  ∃ xs,KT H kvs xs /\ h.DictOfH (tupleKind (ZW P w)) a xs:=by
 obtain ⟨z,y,xs,r,o,es,ep,h1,h2,h3,h4,h5⟩:=(show Qd P w H h a (.dT kvs) from Sa ok e)
 refine ⟨z,y,xs,r,o,es,ep,h1,h2,h3,h4,λ x hx=>?_,h5⟩;have all:∀ {l:List (List Key × V)} {m:List (List Key × Addr × Value)},KT H l m->∀ x ∈ m,(tupleKind (ZW P w)).is h x.1 x.2.1:=by
  intro l m q
  induction q with
  | nil=>intro x hx; exact nomatch hx
  | @cons p q ps qs hq t ih=>
   intro x hx
   rcases List.mem_cons.mp hx with e | hx
   ·subst e;exact Nx ok (by rw [<- hq.1]; exact hq.2.1)
   ·exact ih x hx
 exact all r x hx
theorem ZeP (ok:HOk P w H h) (e:H a = some (.dT kvs)):kvs.length <= sizeLine /\ (a == sysModules) = false /\
  ∃ xs,KT H kvs xs /\ h.DictOfH (tupleKind (ZW P w)) a xs:=TJ ok (.inl e)
def Zc8 (H:Hp) (a:Addr) (y:V) (r:Option V):Prop:=
 (∃ kvs k,Rd H a (.dK kvs) /\ y = kV k /\ r = Bh kvs k) \/ ∃ kvs k b,Rd H a (.dT kvs) /\ y = .ref b /\ H b = some (.tup (k.map kV)) /\ r = Bh kvs k
def RZ (H:Hp) (a:Addr) (y v:V) (H':Hp):Prop:=
 (∃ kvs k,H a = some (.dK kvs) /\ y = kV k /\ kvs.length < sizeLine /\ H' = upd H a (.dK (putK kvs k v))) \/
 ∃ kvs k b,H a = some (.dT kvs) /\ y = .ref b /\ H b = some (.tup (k.map kV)) /\ kvs.length < sizeLine /\ H' = upd H a (.dT (putK kvs k v))
theorem Zc8.k {kvs:List (Key × V)} {k:Key} (e:H a = some (.dK kvs)):Zc8 H a (kV k) (Bh kvs k):=.inl ⟨kvs,k,.inl e,rfl,rfl⟩
theorem Zc8.t {b:Addr} {k:List Key} (e:H a = some (.dT kvs)) (eb:H b = some (.tup (k.map kV))):Zc8 H a (.ref b) (Bh kvs k):=.inr ⟨kvs,k,b,.inl e,rfl,eb,rfl⟩
theorem RZ.k {kvs:List (Key × V)} {k:Key} (e:H a = some (.dK kvs)) (hl:kvs.length < sizeLine):RZ H a (kV k) v (upd H a (.dK (putK kvs k v))):=.inl ⟨kvs,k,e,rfl,hl,rfl⟩
theorem RZ.t {b:Addr} {k:List Key} {v:V} (e:H a = some (.dT kvs)) (eb:H b = some (.tup (k.map kV))) (hl:kvs.length < sizeLine) :
  RZ H a (.ref b) v (upd H a (.dT (putK kvs k v))):=.inr ⟨kvs,k,b,e,rfl,eb,hl,rfl⟩
section
variable {r:Value} {o:Option V} {E:Value->Shared->Prop}
theorem Inv.big (I:Inv X pins Z H s):sysModules < s.heap.objs.size:=by
 have h:mainGlobals < s.heap.objs.size:=(I.mod.glob.keeps I.bk).lt;exact Nat.lt_trans (by decide) h
theorem Dp {t':Nat} {ob:HO} (I:Inv X pins Z H s) (mu:Mut (H a)) (hs:Heap.SameBut a s.heap h') (he:∃ q,h'.get? a = some q) (new:Qd X.prog X.w (upd H a ob) h' a ob) :
  Inv X pins Z (upd H a ob) { s with heap:=h',toks:=t' }:=
 I.write (x:=a) (e:=a) mu (.inl rfl) (λ b q hb z=>(hs.2 b hb).trans z) he new
theorem ZbK {H':Hp} {kvs:List (Key × V)} {vs:List (Key × Value)} (z:kvs.length <= sizeLine) (hd:(a == sysModules) = false) (rel:KV kvs vs) (dd:h'.DictOf (ZW P w) a vs) :
  Qd P w H' h' a (.dK kvs):=⟨z,hd,vs,rel,dd⟩
theorem Cr {Q:Unit->Shared->Prop} (hu:A.units + 1 < cLine) (I:Inv X pins Z H s) (g:RZ H a y v H') (ry:RelV y u) (rv:RelV v r) (h:∀ s',Inv X pins Z H' s'->Q () s') :
  wpAny (model X.prog X.w) A (setItem (.ref a) u r) Q E s:=by
 rcases g with ⟨kvs,k,e,ey,l,eH⟩ | ⟨kvs,k,b,e,ey,eb,l,eH⟩
 ·subst ey eH;obtain ⟨z,hd,vs,rel,dd⟩:=Ze6 I.hok e;have hz:vs.length <= sizeLine:=by rw [<- rel.length]; exact z
  have hl:(putK kvs k v).length <= sizeLine:=by have:=Yg kvs k v; lia
  refine wpAny_setItem_pairs (hsz:=hz) (Zcq ry) dd λ h' dd' hs=>h _ ?_;have he:∃ q,h'.get? a = some q:=let ⟨q,_,_,hq,_⟩:=dd'; ⟨q,hq⟩;exact Dp I (by rw [e]; exact True.intro) hs he (ZbK hl hd (rel.put k rv) dd')
 ·subst ey eH;cases (show u = Value.ref b from ry);obtain ⟨z,hd,xs,rel,dd⟩:=ZeP I.hok e;have hz:xs.length <= sizeLine:=by rw [<- Paired.length rel]; exact z
  have hl:(putK kvs k v).length <= sizeLine:=by have:=Yg kvs k v; lia
  refine wpAny_setItem_heap (hsz:=hz) (tupleKind_room_in1 hu) (Nx I.hok eb) dd λ h' dd' hs=>h _ ?_;obtain ⟨q,es,ep,hq,h2,h3,h4,_,h5⟩:=dd';refine Dp I (by rw [e]; exact True.intro) hs ⟨q,hq⟩ ⟨hl,hd,_,(rel.put k eb rv).keeps λ c ys ec=>?_,q,es,ep,hq,h2,h3,h4,h5⟩;rw [ZH (Zd7 ec e (λ z=>nomatch z))];exact ec
end
section
variable {kvs:List (Key × V)} {k:Key} {E:Value->Shared->Prop}
end
def Zee (td ty tv:TE):TS:=λ D Z H=>tv Z H λ v H1=>td Z H1 λ x H2=>ty Z H2 λ y H3=>∃ a H4,x = .ref a /\ RZ H3 a y v H4 /\ D.nx Z H4
section
variable {o i value:Expr} {tpos:Pos} {td ty tv:TE}
theorem R7 (hu:X.A.units + 1 < cLine) (ho:PE X o td) (hi:PE X i ty) (hv:PE X value tv) (hs:swapsWith value (some (.Subscript o i pos')) pos.line X.env = pure false) :
  PS X (.Assign [.Subscript o i pos'] value pos) (Zee td ty tv):=by
 intro pins s Z H D I h;refine wpAny_Assign_Subscript (thn (hv pins s Z H _ I h) λ r s1 ⟨v,H1,I1,rv,q1⟩=>thn (ho pins s1 Z H1 _ I1 q1) λ u s2 ⟨x,H2,I2,rx,q2⟩=>thn (hi pins s2 Z H2 _ I2 q2) λ iv s3 ⟨y,H3,I3,ry,a,H4,ex,g,q3⟩=>?_) hs;subst ex;obtain rfl:u = Value.ref a:=rx;exact Cr hu I3 g ry rv λ s4 I4=>⟨Z,H4,I4,q3⟩
end
theorem Mm (h:Heap) (hb:sysModules < h.objs.size):Qd P w H (h.push { cls:=.type "dict",data:=.dict #[] }) h.objs.size (.dT []):=
 ⟨Nat.zero_le _,beq_eq_false_iff_ne.mpr (Ne.symm (Nat.ne_of_lt hb)),[],.nil,_,#[],0,Heap.get?_push_size _ rfl,⟨rfl,rfl,rfl⟩,rfl,rfl,List.nodup_nil⟩
def Zbt:TE:=λ _ H Q=>∀ p,H p = none->Q (.ref p) (upd H p (.dT []))
theorem LW:PE X (.Dict [] [] pos) Zbt:=λ pins s Z H Q I h=>
 wpAny_Dict_empty ⟨.ref s.heap.objs.size,_,I.laid (a:=s.heap.objs.size) (o:=.dT []) (t':=s.toks) (λ _ _ q=>Heap.get?_push_of_some _ q) (Nat.le_refl _) (Mm s.heap I.big),rfl,h _ (I.hok.fresh (Nat.le_refl _))⟩
structure M1 (X:Cx) (o:Expr) (m:Str) (apos:Pos) (e:Expr) (cpos:Pos):Prop where
 base:attributeBase o m X.env (eval o X.env) = eval o X.env
 few:((backTo cpos (starEach [e] X.env)).all (λ x=>!x.1) && (backToKw cpos (keywordEach [] X.env)).all (λ x=>x.1.isSome)
  && decide (([e]:List Expr).length + ([]:List Keyword).length + (if ([]:List Keyword).isEmpty then 0 else 1) < 30)) = true
 line:(apos.endLine == cpos.line) = true
 trees:backTo cpos (starEach [e] X.env) = [(false,eval e X.env)]
structure M2 (X:Cx) (o:Expr) (m:Str) (apos:Pos) (e f:Expr) (cpos:Pos):Prop where
 base:attributeBase o m X.env (eval o X.env) = eval o X.env
 few:((backTo cpos (starEach [e,f] X.env)).all (λ x=>!x.1) && (backToKw cpos (keywordEach [] X.env)).all (λ x=>x.1.isSome)
  && decide (([e,f]:List Expr).length + ([]:List Keyword).length + (if ([]:List Keyword).isEmpty then 0 else 1) < 30)) = true
 line:(apos.endLine == cpos.line) = true
 trees:backTo cpos (starEach [e,f] X.env) = [(false,eval e X.env),(false,eval f X.env)]
section
variable {d:V} {r:Value} {o:Option V} {E:Value->Shared->Prop}
end
section
variable {o f:Expr} {apos cpos:Pos} {td ty tx:TE}
end
section
variable {kvs:List (Key × V)} {E:Value->Shared->Prop}
end
section
variable {E:Value->Shared->Prop}
end
end L2
namespace Att
open PySem.W PySem.Calls
theorem Yn {P:Params}:∀ (ns:List Int) (vs:List Value),WellAll P h vs (ns.map WData.int)->IntsAre vs ns:=by
 intro ns
 induction ns with
 | nil=>
  intro vs w;rw [List.map_nil] at w;cases w;exact .nil
 | cons n ns ih=>
  intro vs w;rw [List.map_cons] at w;cases w with
  | cons a b=>
   cases a;exact .cons _ _ (ih _ b)
theorem D0 {l:OpenLaw} (hn:l.most = some n) {P:Params} {h:Heap} {args:List WData} {vals:List Value}
  (hpre:l.row.toRowW.claim.pre args = true) (hwl:WellAll P h vals args) :
  ∃ a vs ns,vals = [Value.ref a] /\ args = [WData.list (ns.map WData.int)] /\ h.get? a = some { cls:=.type "list",data:=.seq vs.toArray } /\ IntsAre vs ns /\ ns.length <= n:=by
 have hsh:WShape.hasAll [] args [.list .int] = true:=(pre_splitW hpre).1;have hc:l.pre.holds [] { args:=args } = true:=(pre_splitW hpre).2;obtain ⟨d,r,rfl,h1,h2⟩:=hasAllW_cons hsh;obtain rfl:=hasAllW_nil h2;obtain ⟨xs,rfl,h3⟩:=hasW_list h1;obtain ⟨ns,rfl⟩:=items_int h3;have hlen:ns.length <= n:=by
  unfold OpenLaw.pre at hc;have h4:(WTm.not (.lt (.lit (.int (n:Int))) (.len (.arg 0)))).holds [] { args:=[.list (ns.map .int)] } = true:=by
   have h4:=(holds_andW hc).1;rw [hn] at h4;exact h4
  have h5:=condW_of h4 (w_not (w_lt w_lit (w_len_list (w_arg rfl))));rw [List.length_map] at h5;refine Nat.le_of_not_lt λ q=>?_;have q':(n:Int) < ((ns.length:Nat):Int):=by lia
  first
   | (rw [decide_eq_true q'] at h5; exact absurd h5 (by decide))
   | (simp at h5; lia)
 cases hwl with
 | cons w1 w2=>
  cases w2;cases w1 with
  | list ho hall=>exact ⟨_,_,ns,rfl,rfl,ho,Yn ns _ hall,hlen⟩
theorem Fq (l:OpenLaw) (args:List WData):l.row.toRowW.claim.post args (.bool true) args = true:=
 postW_of (r:=l.row.toRowW) (X:=(true == true))
  (show WShape.has [] (.bool true) .bool = true by first | rfl | decide | simp [WShape.has,WShape.arms,WShape.armsAll])
  (show (WTm.eq .res (.lit (.bool true))).value [] { args:=args,res:=some (.bool true),after:=args } = some (.bool (true == true)) from w_eq_bool (w_res rfl) w_lit) rfl
theorem Ud {l:OpenLaw} {n:Nat} {q:Program} {loose:List Str} {XP:(Str->Option Value)->Heap->Prop} {YP:World->Heap->Prop} {d:DefRec}
  (hn:l.most = some n) (hdf:d.params.defaults = [])
  (call:∀ (w:World) (s₀ s₁:Shared) (mg mb:Str->Option Value) (fa:Addr) (o:Obj) (pm cd doc:Value) (a:Addr) (vs:List Value) (ns:List Int),
   Ground q loose [] XP w s₀ mg mb s₁.heap->YP w s₁.heap ->
   s₁.heap.get? fa = some o->o.data = .func (docDef d.name d.params d.body d.scope pm cd doc)->s₁.heap.CodeRec cd d.name->mg d.name = some (.ref fa) ->
   s₁.heap.get? a = some { cls:=.type "list",data:=.seq vs.toArray }->IntsAre vs ns->ns.length <= n->s₁.gens = #[] ->
   codeAny (model l.prog w) callerA (.call (.ref fa) ⟨[.ref a],[]⟩) (λ r s'=>r = .ok (.ret (.bool true)) /\ OldK s₁.heap s'.heap /\ s'.os = s₁.os /\ AllBare s'.gens) s₁) :
  WalkO q loose XP YP l.row.toRowW d [] (λ f vs=>PySem.call f vs):=by
 intro w s₀ s₁ mg mb G Y fa o pm cd doc dV kV ho hd hcd hD hmg hg args vals as hpre hlay hrd hwl hlo;obtain rfl:dV = .none:=Dflts.none hD hdf;obtain rfl:kV = .none:=Dflts.noKw hD;obtain ⟨a,vs,ns,rfl,rfl,hobj,hints,hlen⟩:=D0 hn hpre hwl;refine enter_call (codeAny_mono (call w s₀ s₁ mg mb fa o pm cd doc a vs ns G Y ho (fd_plain hd) hcd hmg hobj hints hlen hg) λ r s' hq=>?_);obtain ⟨rfl,h2,h3,h4⟩:=hq;exact ⟨.inl ⟨.bool true,.bool true,[],rfl,λ _=>rfl,.bool true,Fq l _,λ _=>⟨List.Pairwise.nil,λ _ hm=>(nomatch hm)⟩⟩,h2,h3,h4⟩
section
variable {prog:Program} {E:Value->Shared->Prop} {K:Frag}
end
end Att
namespace L2
theorem Y1:∀ {vs:List Value} {ns:List Int},IntsAre vs ns->Vals (ns.map V.int) vs
 | _,_,.nil=>.nil
 | _,_,.cons n t h=>.cons ⟨t,rfl⟩ (Y1 h)
def Zdv (H:Hp):Prop:=∀ b,H b = none \/ ∃ o xs,H b = some (.frz o (.lst xs))
theorem HN {P:Program} {w:World} {K:Fk} {mg mb:Str->Option Value} {CX:CXT} {k:Nat} {fa a:Addr} {fd:FuncData} {x:Str} {sp:Sp} {s₁:Shared} {vs:List Value} {ns:List Int}
  (KX:K.In s₁.heap) (hns:s₁.heap.Ns mainGlobals mg) (hb:s₁.heap.Ns builtinsNs mb) (hbb:∀ x:Str,x ≠ "__name__" -> mb x = bootBuiltins x) (hlim:s₁.heap.NoLimit) (hg:s₁.gens = #[])
  (ha:s₁.heap.get? a = some { cls:=.type "list",data:=.seq vs.toArray }) (hi:IntsAre vs ns) (hl:ns.length <= sizeLine) (hr:JJ k callerA)
  (F:∀ base:Heap,K.In base->base.Ns mainGlobals mg->Qn P w K mg base CX k fa fd [x] sp) (hbind:∀ (s:Shared) (u:Value),BindsTo s fd ⟨[u],[]⟩ [(x,u)])
  (hsp:∀ H:Hp,Zdv H->SqL K H a (ns.map V.int)->sp [.ref a] H (λ v _=>v = .bl true) λ _ _ _=>False)
  (hCX:∀ H e s',CX [] H s₁ (λ _ _ _=>False) e s'->False) :
  codeAny (model P w) callerA (.call (.ref fa) ⟨[.ref a],[]⟩) (λ r s'=>r = .ok (.ret (.bool true)) /\ OldK s₁.heap s'.heap /\ s'.os = s₁.os /\ AllBare s'.gens) s₁:=by
 have rv:=Y1 hi;have lenV:=hi.length;have core:∀ H:Hp,Zdv H->SqL K H a (ns.map V.int)->HOk P w H s₁.heap->(∀ b,H b ≠ none->b = a)->(H a ≠ none->K.lookup a = none) ->
   codeAny (model P w) callerA (.call (.ref fa) ⟨[.ref a],[]⟩) (λ r s'=>r = .ok (.ret (.bool true)) /\ OldK s₁.heap s'.heap /\ s'.os = s₁.os /\ AllBare s'.gens) s₁:=by
  intro H hO hS hok hA hK;have base_of:∀ {b:Addr} {o:Obj},s₁.heap.get? b = some o->H b = none->(MG s₁.heap H).get? b = some o:=λ e n=>HJ e n;have noA:∀ {b:Addr} {o:Obj} {es:Array DictEntry} {ep:Nat},s₁.heap.get? b = some o->o.data = .dict es ep->H b = none:=λ {b o es ep} e d=>by
   cases q:H b with
   | none=>rfl
   | some u=>
    have e':b = a:=hA b (by rw [q]; simp);subst e';rw [ha] at e; cases e;have d':Data.seq vs.toArray _ = Data.dict es ep:=d;cases d'
  have nsK:∀ {b:Addr} {m:Str->Option Value},s₁.heap.Ns b m->(MG s₁.heap H).Ns b m:=λ {b m} ⟨o,es,ep,e,d,r⟩=>⟨o,es,ep,base_of e (noA e d),d,r⟩
  have hKb:K.In (MG s₁.heap H):=λ b o e=>base_of (KX b o e) (by
   cases q:H b with
   | none=>rfl
   | some u=>
    have e':b = a:=hA b (by rw [q]; simp);subst e'
    rw [hK (by rw [q]; simp)] at e; cases e)
  have hM:Mod K mg (MG s₁.heap H):=⟨hKb,nsK hns,⟨mb,nsK hb,hbb⟩,let ⟨mc,h1,h2⟩:=hlim; ⟨mc,nsK h1,h2⟩⟩
  have e0:Zdr P w K mg (MG s₁.heap H) callerA [] s₁ H:=⟨rfl,hM,λ b o e=>R3 e,Nat.le_of_eq (FA _ _),trivial,λ b hb=>absurd (show b ∈ ([]:List Addr) from hb) (by simp),hok,.of_eq hg⟩
  refine codeAny_mono ((F _ hKb (nsK hns)).run callerA [] s₁ H ⟨[.ref a],[]⟩ [.ref a] [.ref a] _ _ hr e0 (hbind s₁ (.ref a)) (.cons rfl .nil) (hsp H hO hS)) λ r s' h=>?_;cases r with
  | error e=>exact (hCX H e s' h).elim
  | ok fl=>
   cases fl with
   | next=>exact False.elim h
   | brk=>exact False.elim h
   | cont=>exact False.elim h
   | ret u=>
    obtain ⟨v,H',os,bare,un,hok',r',q⟩:=h;have q':v = .bl true:=q;subst q';obtain rfl:u = Value.bool true:=r';refine ⟨rfl,OldK.of_keep λ b o e=>?_,os,bare⟩;cases q:H b with
    | none=>exact un.keep b o e q (by intro z; exact absurd (show b ∈ ([]:List Addr) from z) (by simp)) (by simp)
    | some u=>
     rcases hO b with z | ⟨ob,xs,z⟩
     ·rw [q] at z; cases z
     ·have z2:=un.frzs b ob _ z;obtain ⟨e1,_⟩:=hok b _ z;obtain ⟨e2,_⟩:=hok' b _ z2;rw [e] at e1; cases e1;exact e2
 cases hk:K.lookup a with
 | some o=>
  have e:=KX a o hk;rw [ha] at e;cases e;refine core (λ _=>none) (λ _=>.inl rfl) (.inr ⟨_,vs.toArray,_,hk,rfl,rfl,rfl,by rw [List.size_toArray,lenV]; exact hl,by simpa using rv⟩) (λ b u z=>by have z':(none:Option HO) = some u:=z; cases z') (λ b z=>absurd rfl z) λ z=>absurd rfl z
 | none=>
  refine core (λ b=>if b = a then some (.frz { cls:=.type "list",data:=.seq vs.toArray } (.lst (ns.map V.int))) else none) (λ b=>?_) (.inl (.inr ⟨{ cls:=.type "list",data:=.seq vs.toArray },if_pos rfl⟩)) (λ b u z=>?_) (λ b z=>?_) λ _=>hk
  ·by_cases hb:b = a
   ·exact .inr ⟨_,_,if_pos hb⟩
   ·exact .inl (if_neg hb)
  ·by_cases hb:b = a
   ·have z':=(if_pos hb).symm.trans z;cases z';subst hb;exact ⟨ha,by rw [List.length_map]; exact hl,vs,_,rv,ha⟩
   ·have z':=(if_neg hb).symm.trans z;cases z'
  ·by_cases hb:b = a
   ·exact hb
   ·exact absurd (if_neg hb) z
theorem Sn {l:PySem.W.OpenLaw} {n k:Nat} {q:Program} {loose:List Str} {XP:(Str->Option Value)->Heap->Prop} {YP:World->Heap->Prop} {d:DefRec} {K:Params->Fk} {CX:World->CXT} {sp:World->Sp} {x:Str}
  (hn:l.most = some n) (hn2:n <= sizeLine) (hdf:d.params.defaults = []) (hr:JJ k callerA)
  (hY:∀ (w:World) (h:Heap),YP w h->(K w.params).In h)
  (F:∀ (w:World) (mg:Str->Option Value) (fa:Addr) (h:Heap),(K w.params).In h->h.Ns mainGlobals mg->mg d.name = some (.ref fa) ->
   ∃ fd:FuncData,(∀ (s:Shared) (u:Value),BindsTo s fd ⟨[u],[]⟩ [(x,u)]) /\
    ∀ base:Heap,(K w.params).In base->base.Ns mainGlobals mg->Qn l.prog w (K w.params) mg base (CX w) k fa fd [x] (sp w))
  (hsp:∀ (w:World) (H:Hp) (a:Addr) (ns:List Int),ns.length <= n->Zdv H->SqL (K w.params) H a (ns.map V.int)->sp w [.ref a] H (λ v _=>v = .bl true) λ _ _ _=>False)
  (hCX:∀ (w:World) (H:Hp) (s:Shared) (e:Value) (s':Shared),CX w [] H s (λ _ _ _=>False) e s'->False) :
  PySem.W.WalkO q loose XP YP l.row.toRowW d [] (λ f vs=>PySem.call f vs):=by
 refine Att.Ud hn hdf λ w s₀ s₁ mg mb fa o pm cd doc a vs ns G Y ho hd hcd hmg hobj hints hlen hg=>?_;have KX:=hY w _ Y;obtain ⟨fd,hb,hF⟩:=F w mg fa _ KX G.T.g hmg;exact HN KX G.T.g G.T.b G.T.builtins G.T.nolimit hg hobj hints (Nat.le_trans hlen hn2) hr hF hb (λ H hO hS=>hsp w H a ns hlen hO hS) λ H e s'=>hCX w H s₁ e s'
noncomputable def JS (s:Stmt):Arguments:=match s with
 | .FunctionDef _ a _ _ _ _ _ _ _ _=>a
 | _=>{ posonlyargs:=[],args:=[],vararg:=none,kwonlyargs:=[],kw_defaults:=[],kwarg:=none,defaults:=[] }
noncomputable def QR (s:Stmt):List Stmt:=match s with
 | .FunctionDef _ _ b _ _ _ _ _ _ _=>b
 | _=>[]
noncomputable def Zh (s:Stmt):Scope:=match s with
 | .FunctionDef _ _ _ _ _ _ sc _ _ _=>sc
 | _=>{ kind:=.function,names:=[],isGenerator:=false,isCoroutine:=false }
abbrev CX0:CXT:=λ _ _ _ _ _ _=>False
abbrev E0:XK:=λ _ _ _=>False
theorem ZeG:Passes CX0 X E0:=λ _ _ _ _ _ _ _ h=>h.elim
structure Fun (K:Fk) (x qual:Str) (st:Stmt) (f:Addr) (fd:FuncData):Prop where
 ex:∃ (oc:Value) (od:Option Addr) (kV doc pm:Value) (an:Option Addr) (cdv ct:Value) (osl:Array (Option Value)),
  fd = PySem.W.fnOf x qual (JS st) (QR st) (Zh st) .none kV doc pm an cdv ct /\ K.lookup f = some ⟨oc,od,.func fd,osl⟩ /\ PySem.W.codeIn K cdv qual = true
 kp:PySem.W.keepIn K (.ref f) = true
section
variable {base:Heap}
theorem Fun.ok {ps:List Str} {k:Nat} {sp:Sp} (F:Fun K x qual st f fd) (S:Zp N ps (Zh st)) (len:∀ vs H Q E,sp vs H Q E->vs.length = ps.length)
  (hbody:∀ (cdv:Value) (A:Around) (outer:List Env) (s:Shared) (H:Hp) (vs:List V) (Q:VK) (E:XK),JJ k (A.deeper (envOfC qual (Zh st) s.heap.objs.size f cdv))->sp vs H Q E ->
   ∃ t,PSs (Ot CX0 P w K mg base N qual (Zh st) f cdv A outer s H E).nox (QR st) t /\ t { nx:=λ _ H'=>Q .non H',rt:=Q } (start N vs) H):Qn P w K mg base CX0 (k + 1) f fd ps sp:=by
 obtain ⟨oc,od,kV,doc,pm,an,cdv,ct,osl,rfl,lk,hcd⟩:=F.ex;refine ZdX lk hcd S len λ A outer s H vs Q E hr hsp=>?_;obtain ⟨t,h,q⟩:=hbody cdv A outer s H vs Q E hr hsp;exact ⟨t,h.nox,q⟩
theorem Fun.binds {ps:List Str} (F:Fun K x qual st f fd)
  (h:∀ (kV doc pm:Value) (an:Option Addr) (cdv ct:Value) (us:List Value),us.length = ps.length->bindArgs (PySem.W.fnOf x qual (JS st) (QR st) (Zh st) .none kV doc pm an cdv ct) ⟨us,[]⟩ = pure (ps.zip us)):Binds K fd ps []:=by
 obtain ⟨oc,od,kV,doc,pm,an,cdv,ct,osl,rfl,lk,hcd⟩:=F.ex;exact .all (h kV doc pm an cdv ct)
theorem TN {oc:Value} {od an:Option Addr} {osl:Array (Option Value)} {kV doc pm cdv ct:Value} (l:K.lookup f = some ⟨oc,od,.func (PySem.W.fnOf x qual (JS st) (QR st) (Zh st) .none kV doc pm an cdv ct),osl⟩)
  (c:PySem.W.codeIn K cdv qual = true) (k:PySem.W.keepIn K (.ref f) = true):Fun K x qual st f (PySem.W.fnOf x qual (JS st) (QR st) (Zh st) .none kV doc pm an cdv ct):=⟨⟨oc,od,kV,doc,pm,an,cdv,ct,osl,rfl,l,c⟩,k⟩
end
def S5 (H H':Hp):Prop:=∀ b o,H b = some o->H' b = some o
theorem S5.refl (H:Hp):S5 H H:=λ _ _ h=>h
theorem S5.trans {H1 H2:Hp} (a:S5 H H1) (b:S5 H1 H2):S5 H H2:=λ c o h=>b c o (a c o h)
end L2
namespace DL
inductive DV where
 | dat (d:PyData)
 | own (a:Addr)
 | ty (n:String)
  | mix (xs:List DV)
inductive OO where
 | lst (ds:List PyData)
  | dct (ks:List (List Key))
  | dtv (kvs:List (List Key × PyData))
  | dkv (kvs:List (Key × PyData))
  | dko (kvs:List (Key × DV))
  | fdk (o:Obj) (kvs:List (Key × PyData))
  | lsv (n:Nat) (xs:List DV)
  | ext (φ:Heap->Prop)
  | gst (N₀:Addr->Prop) (H₀:Hp)
  | fdc (o:Obj) (ks:List (List Key))
 | fdt (o:Obj) (ps:List (List Key × PyData))
abbrev Mp:=Addr->Option OO
noncomputable def ZD (M:Mp) (a:Addr) (o:OO):Mp:=λ b=>if b = a then some o else M b
noncomputable def Vl (M:Mp) (a:Addr):Mp:=λ b=>if b = a then none else M b
theorem Zu {M:Mp} {o:OO}:ZD M a o a = some o:=by unfold ZD; rw [if_pos rfl]
theorem Zz {M:Mp} {b:Addr} {o:OO} (h:b ≠ a):ZD M a o b = M b:=by unfold ZD; rw [if_neg h]
theorem Dz {M:Mp} {o u:OO}:ZD (ZD M a o) a u = ZD M a u:=by
 funext b; unfold ZD; split <;> rfl
theorem Vk {M:Mp}:Vl M a a = none:=by unfold Vl; rw [if_pos rfl]
theorem WQ {M:Mp} {b:Addr} (h:b ≠ a):Vl M a b = M b:=by unfold Vl; rw [if_neg h]
noncomputable def kD:Key->PyData
 | .inl i=>.int i
 | .inr x=>.str x
def KTu (K:Fk) (a:Addr) (xs:List V):Prop:=
 ∃ (o:Obj) (its:Array Value) (n:Nat),K.lookup a = some o /\ o.cls = .type "tuple" /\ o.data = .seq its n /\ its.size <= sizeLine /\ Vals xs its.toList
def KLs (K:Fk) (a:Addr) (xs:List V):Prop:=
 ∃ (o:Obj) (its:Array Value) (n:Nat),K.lookup a = some o /\ o.cls = .type "list" /\ o.dict = none /\ o.data = .seq its n /\ its.size <= sizeLine /\ Vals xs its.toList
def TupAt (K:Fk) (M:Mp) (H:Hp) (a:Addr) (xs:List V):Prop:=(M a = none /\ Rd H a (.tup xs)) \/ KTu K a xs
def LstAt (K:Fk) (M:Mp) (H:Hp) (a:Addr) (xs:List V):Prop:=(M a = none /\ Rd H a (.lst xs)) \/ KLs K a xs
theorem TupAt.sq {M:Mp} (h:TupAt K M H a xs):SqT K H a xs:=by
 rcases h with ⟨_,h⟩ | h
 ·exact .inl h
 ·exact .inr h
theorem LstAt.sq {M:Mp} (h:LstAt K M H a xs):SqL K H a xs:=by
 rcases h with ⟨_,h⟩ | h
 ·exact .inl h
 ·exact .inr h
mutual
inductive Dt (K:Fk) (M:Mp) (H:Hp):V->PyData->Prop
 | non:Dt K M H .non .none
 | bl (b:Bool):Dt K M H (.bl b) (.bool b)
 | int (i:Int):Dt K M H (.int i) (.int i)
 | str (x:Str):Dt K M H (.str x) (.str x)
 | tup {a:Addr} {xs:List V} {ds:List PyData}:TupAt K M H a xs->Dts K M H xs ds->Dt K M H (.ref a) (.tuple ds)
 | lst {a:Addr} {xs:List V} {ds:List PyData}:LstAt K M H a xs->Dts K M H xs ds->Dt K M H (.ref a) (.list ds)
 | dK {a:Addr} {kvs:List (Key × V)} {ds:List PyData}:M a = none->H a = some (.dK kvs)->Dts K M H (kvs.map (·.2)) ds->Dt K M H (.ref a) (.dict ((kvs.map λ kv=>kD kv.1).zip ds))
 | dT {a:Addr} {kvs:List (List Key × V)} {ds:List PyData}:M a = none->H a = some (.dT kvs)->Dts K M H (kvs.map (·.2)) ds->kvs ≠ []->Dt K M H (.ref a) (.dict ((kvs.map λ kv=>PyData.tuple (kv.1.map kD)).zip ds))
 | dX {a b:Addr} {φ:Heap->Prop} {v:V} {dk d:PyData}:M a = none->H a = some (.ext φ)->(a == sysModules) = false ->
   (∀ h,φ h->∃ o es n u,h.get? a = some o /\ o.cls = .type "dict" /\ o.data = .dict es n /\ es.toList.map (·.key) = [.ref b] /\ es.toList.map (·.val) = [u] /\ RelV v u)->Dt K M H (.ref b) dk->Dt K M H v d->Dt K M H (.ref a) (.dict [(dk,d)])
inductive Dts (K:Fk) (M:Mp) (H:Hp):List V->List PyData->Prop
 | nil:Dts K M H [] []
 | cons {x:V} {xs:List V} {d:PyData} {ds:List PyData}:Dt K M H x d->Dts K M H xs ds->Dts K M H (x :: xs) (d :: ds)
end
structure Step (M:Mp) (H:Hp) (M':Mp) (H':Hp):Prop where
 keep:∀ b o,M b = none->H b = some o->H' b = some o
 free:∀ b o,M b = none->H b = some o->M' b = none
theorem Step.refl {M:Mp}:Step M H M H:=⟨λ _ _ _ h=>h,λ _ _ h _=>h⟩
theorem Step.trans {M M1 M2:Mp} {H1 H2:Hp} (a:Step M H M1 H1) (b:Step M1 H1 M2 H2):Step M H M2 H2:=
 ⟨λ c o h1 h2=>b.keep c o (a.free c o h1 h2) (a.keep c o h1 h2),λ c o h1 h2=>b.free c o (a.free c o h1 h2) (a.keep c o h1 h2)⟩
section
variable {M M':Mp}
theorem B5 {u:HO} (st:Step M H M' H') (hm:M a = none) (h:Rd H a u):M' a = none /\ Rd H' a u:=by
 rcases h with h | ⟨o,h⟩
 ·exact ⟨st.free _ _ hm h,.inl (st.keep _ _ hm h)⟩
 ·exact ⟨st.free _ _ hm h,.inr ⟨o,st.keep _ _ hm h⟩⟩
theorem TupAt.step (h:TupAt K M H a xs) (st:Step M H M' H'):TupAt K M' H' a xs:=by
 rcases h with ⟨h1,h2⟩ | h
 ·exact .inl (B5 st h1 h2)
 ·exact .inr h
theorem LstAt.step (h:LstAt K M H a xs) (st:Step M H M' H'):LstAt K M' H' a xs:=by
 rcases h with ⟨h1,h2⟩ | h
 ·exact .inl (B5 st h1 h2)
 ·exact .inr h
mutual
theorem Dt.step (st:Step M H M' H'):∀ {v:V} {d:PyData},Dt K M H v d->Dt K M' H' v d
 | _,_,.non=>.non
 | _,_,.bl b=>.bl b
 | _,_,.int i=>.int i
 | _,_,.str x=>.str x
 | _,_,.tup h1 h2=>.tup (h1.step st) (Dts.step st h2)
 | _,_,.lst h1 h2=>.lst (h1.step st) (Dts.step st h2)
 | _,_,.dK h0 h1 h2=>.dK (st.free _ _ h0 h1) (st.keep _ _ h0 h1) (Dts.step st h2)
 | _,_,.dT h0 h1 h2 h3=>.dT (st.free _ _ h0 h1) (st.keep _ _ h0 h1) (Dts.step st h2) h3
 | _,_,.dX h0 h1 h2 h3 h4 h5=>.dX (st.free _ _ h0 h1) (st.keep _ _ h0 h1) h2 h3 (Dt.step st h4) (Dt.step st h5)
theorem Dts.step (st:Step M H M' H'):∀ {vs:List V} {ds:List PyData},Dts K M H vs ds->Dts K M' H' vs ds
 | _,_,.nil=>.nil
 | _,_,.cons h1 h2=>.cons (Dt.step st h1) (Dts.step st h2)
end
theorem Dts.length:∀ {vs:List V} {ds:List PyData},Dts K M H vs ds->vs.length = ds.length
 | _,_,.nil=>rfl
 | _,_,.cons _ h=>by rw [List.length_cons,List.length_cons,Dts.length h]
theorem Dts.get:∀ {vs:List V} {ds:List PyData} {i:Nat} {d:PyData},Dts K M H vs ds->ds[i]? = some d->∃ v,vs[i]? = some v /\ Dt K M H v d
 | _,_,_,_,.nil,e=>by simp at e
 | _,_,0,_,.cons h _,e=>by simp at e; subst e; exact ⟨_,rfl,h⟩
 | _,_,i + 1,d,.cons _ h,e=>by
  obtain ⟨v,h1,h2⟩:=Dts.get (i:=i) (d:=d) h (by simpa using e);exact ⟨v,by simpa using h1,h2⟩
theorem Dts.O2:∀ {vs:List V} {ds:List PyData} {i:Nat} {v:V},Dts K M H vs ds->vs[i]? = some v->∃ d,ds[i]? = some d /\ Dt K M H v d
 | _,_,_,_,.nil,e=>by simp at e
 | _,_,0,_,.cons h _,e=>by simp at e; subst e; exact ⟨_,rfl,h⟩
 | _,_,i + 1,v,.cons _ h,e=>by
  obtain ⟨d,h1,h2⟩:=Dts.O2 (i:=i) (v:=v) h (by simpa using e);exact ⟨d,by simpa using h1,h2⟩
theorem Dts.append:∀ {vs ws:List V} {ds es:List PyData},Dts K M H vs ds->Dts K M H ws es->Dts K M H (vs ++ ws) (ds ++ es)
 | _,_,_,_,.nil,h=>h
 | _,_,_,_,.cons h1 h2,h=>.cons h1 (Dts.append h2 h)
theorem Dts.take:∀ {vs:List V} {ds:List PyData} (n:Nat),Dts K M H vs ds->Dts K M H (vs.take n) (ds.take n)
 | _,_,0,_=>.nil
 | _,_,_ + 1,.nil=>.nil
 | _,_,n + 1,.cons h1 h2=>.cons h1 (Dts.take n h2)
theorem Dts.drop:∀ {vs:List V} {ds:List PyData} (n:Nat),Dts K M H vs ds->Dts K M H (vs.drop n) (ds.drop n)
 | _,_,0,h=>h
 | _,_,_ + 1,.nil=>.nil
 | _,_,n + 1,.cons _ h2=>Dts.drop n h2
theorem Dts.set (h:Dt K M H v d):∀ {vs:List V} {ds:List PyData} (i:Nat),Dts K M H vs ds->Dts K M H (vs.set i v) (ds.set i d)
 | _,_,_,.nil=>.nil
 | _,_,0,.cons _ t=>.cons h t
 | _,_,i + 1,.cons q t=>.cons q (Dts.set h i t)
theorem Dts.ints:∀ (ns:List Int),Dts K M H (ns.map V.int) (ns.map PyData.int)
 | []=>.nil
 | n :: ns=>.cons (.int n) (Dts.ints ns)
theorem Vq:∀ {vs:List V} {ns:List Int},Dts K M H vs (ns.map PyData.int)->vs = ns.map V.int
 | vs,[],h=>by
  rw [List.map_nil] at h;cases h;rfl
 | vs,n :: ns,h=>by
  rw [List.map_cons] at h;cases h with
  | cons h1 h2=>
   cases h1;rw [Vq h2,List.map_cons]
mutual
inductive Mx (K:Fk) (M:Mp) (H:Hp):V->List DV->Prop
 | mk {a:Addr} {vs:List V} {xs:List DV}:M a = none->H a = some (.tup vs)->Mxs K M H vs xs->Mx K M H (.ref a) xs
inductive Mxs (K:Fk) (M:Mp) (H:Hp):List V->List DV->Prop
 | nil:Mxs K M H [] []
 | dat {v:V} {d:PyData} {vs:List V} {xs:List DV}:Dt K M H v d->Mxs K M H vs xs->Mxs K M H (v :: vs) (.dat d :: xs)
 | own {b:Addr} {vs:List V} {xs:List DV}:Mxs K M H vs xs->Mxs K M H (.ref b :: vs) (.own b :: xs)
 | mix {v:V} {ys:List DV} {vs:List V} {xs:List DV}:Mx K M H v ys->Mxs K M H vs xs->Mxs K M H (v :: vs) (.mix ys :: xs)
end
mutual
theorem Mx.step (st:Step M H M' H'):∀ {v:V} {xs:List DV},Mx K M H v xs->Mx K M' H' v xs
 | _,_,.mk h1 h2 h3=>.mk (st.free _ _ h1 h2) (st.keep _ _ h1 h2) (Mxs.step st h3)
theorem Mxs.step (st:Step M H M' H'):∀ {vs:List V} {xs:List DV},Mxs K M H vs xs->Mxs K M' H' vs xs
 | _,_,.nil=>.nil
 | _,_,.dat h1 h2=>.dat (Dt.step st h1) (Mxs.step st h2)
 | _,_,.own h2=>.own (Mxs.step st h2)
 | _,_,.mix h1 h2=>.mix (Mx.step st h1) (Mxs.step st h2)
end
def VR0 (K:Fk) (M:Mp) (H:Hp) (v:V):DV->Prop
 | .dat d=>Dt K M H v d
 | .own b=>v = .ref b
 | .ty _=>False
 | .mix xs=>Mx K M H v xs
theorem VR0.step {x:DV} (h:VR0 K M H v x) (st:Step M H M' H'):VR0 K M' H' v x:=by
 cases x with
 | dat d=>exact Dt.step st h
 | own b=>exact h
 | ty n=>exact h
 | mix xs=>exact Mx.step st h
def OOk (K:Fk) (M:Mp) (H:Hp) (a:Addr):OO->Prop
 | .lst ds=>∃ vs,H a = some (.lst vs) /\ Dts K M H vs ds
 | .dct ks=>∃ kvs,H a = some (.dT kvs) /\ kvs.map (·.1) = ks
 | .dtv ps=>∃ kvs,H a = some (.dT kvs) /\ kvs.map (·.1) = ps.map (·.1) /\ Dts K M H (kvs.map (·.2)) (ps.map (·.2))
 | .dkv ps=>∃ kvs,H a = some (.dK kvs) /\ kvs.map (·.1) = ps.map (·.1) /\ Dts K M H (kvs.map (·.2)) (ps.map (·.2))
 | .dko ps=>∃ kvs,H a = some (.dK kvs) /\ Paired (λ (p:Key × V) (q:Key × DV)=>p.1 = q.1 /\ VR0 K M H p.2 q.2) kvs ps
 | .fdk o ps=>∃ kvs,H a = some (.frz o (.dK kvs)) /\ kvs.map (·.1) = ps.map (·.1) /\ Dts K M H (kvs.map (·.2)) (ps.map (·.2))
 | .lsv _ xs=>∃ vs,H a = some (.lst vs) /\ Paired (VR0 K M H) vs xs
 | .ext φ=>H a = some (.ext φ)
 | .gst N₀ H₀=>(∃ vs,H a = some (.lst vs) /\ H₀ a = some (.lst vs)) /\ ∀ b o,N₀ b->H₀ b = some o->H b = some o /\ M b = none
 | .fdc o ks=>∃ kvs,H a = some (.frz o (.dT kvs)) /\ kvs.map (·.1) = ks
 | .fdt o ps=>∃ kvs,H a = some (.frz o (.dT kvs)) /\ kvs.map (·.1) = ps.map (·.1) /\ Dts K M H (kvs.map (·.2)) (ps.map (·.2))
theorem OOk.step {o:OO} (h:OOk K M H a o) (st:Step M H M' H') (e:∀ u,H a = some u->H' a = some u):OOk K M' H' a o:=by
 cases o with
 | lst ds=>obtain ⟨vs,e1,e2⟩:=h; exact ⟨vs,e _ e1,e2.step st⟩
 | dct ks=>obtain ⟨vs,e1,e2⟩:=h; exact ⟨vs,e _ e1,e2⟩
 | dtv ps=>obtain ⟨vs,e1,e2,e3⟩:=h; exact ⟨vs,e _ e1,e2,e3.step st⟩
 | dkv ps=>obtain ⟨vs,e1,e2,e3⟩:=h; exact ⟨vs,e _ e1,e2,e3.step st⟩
 | dko ps=>obtain ⟨vs,e1,e2⟩:=h; exact ⟨vs,e _ e1,Paired.NY e2 λ _ _ z=>⟨z.1,z.2.step st⟩⟩
 | fdk o ps=>obtain ⟨vs,e1,e2,e3⟩:=h; exact ⟨vs,e _ e1,e2,e3.step st⟩
 | lsv n xs=>obtain ⟨vs,e1,e2⟩:=h; exact ⟨vs,e _ e1,Paired.NY e2 λ _ _ z=>z.step st⟩
 | ext φ=>exact e _ h
 | gst N₀ H₀=>obtain ⟨⟨u,e1,e2⟩,k⟩:=h; exact ⟨⟨u,e _ e1,e2⟩,λ b o n q=>⟨st.keep b o (k b o n q).2 (k b o n q).1,st.free b o (k b o n q).2 (k b o n q).1⟩⟩
 | fdc o ks=>obtain ⟨vs,e1,e2⟩:=h; exact ⟨vs,e _ e1,e2⟩
 | fdt o ps=>obtain ⟨vs,e1,e2,e3⟩:=h; exact ⟨vs,e _ e1,e2,e3.step st⟩
theorem OOk.some {o:OO} (h:OOk K M H a o):∃ u,H a = some u:=by
 cases o with
 | lst ds=>obtain ⟨vs,e1,_⟩:=h; exact ⟨_,e1⟩
 | dct ks=>obtain ⟨vs,e1,_⟩:=h; exact ⟨_,e1⟩
 | dtv ps=>obtain ⟨vs,e1,_⟩:=h; exact ⟨_,e1⟩
 | dkv ps=>obtain ⟨vs,e1,_⟩:=h; exact ⟨_,e1⟩
 | dko ps=>obtain ⟨vs,e1,_⟩:=h; exact ⟨_,e1⟩
 | fdk o ps=>obtain ⟨vs,e1,_⟩:=h; exact ⟨_,e1⟩
 | lsv n xs=>obtain ⟨vs,e1,_⟩:=h; exact ⟨_,e1⟩
 | ext φ=>exact ⟨_,h⟩
 | gst N₀ H₀=>obtain ⟨⟨u,e1,_⟩,_⟩:=h; exact ⟨_,e1⟩
 | fdc o ks=>obtain ⟨vs,e1,_⟩:=h; exact ⟨_,e1⟩
 | fdt o ps=>obtain ⟨vs,e1,_⟩:=h; exact ⟨_,e1⟩
structure ZE (K:Fk) (M:Mp) (H:Hp):Prop where
 ok:∀ a o,M a = some o->OOk K M H a o
theorem ZE.ls (r:ZE K M H) (a:Addr) (ds:List PyData) (h:M a = some (.lst ds)):∃ vs,H a = some (.lst vs) /\ Dts K M H vs ds:=r.ok a _ h
theorem ZE.dc (r:ZE K M H) (a:Addr) (ks:List (List Key)) (h:M a = some (.dct ks)):∃ kvs,H a = some (.dT kvs) /\ kvs.map (·.1) = ks:=r.ok a _ h
theorem ZE.tracked (r:ZE K M H) (h:H a = none):M a = none:=by
 cases q:M a with
 | none=>rfl
 | some o=>
  obtain ⟨u,e⟩:=(r.ok a o q).some;rw [h] at e;cases e
theorem Step.new {o:HO} (h:H p = none):Step M H M (upd H p o):=
 ⟨λ b u _ e=>by rw [ZH (Zx e h)]; exact e,λ _ _ h _=>h⟩
theorem ZE.step_same (r:ZE K M H) (st:Step M H M H') (hk:∀ a u,M a ≠ none->H a = some u->H' a = some u):ZE K M H':=
 ⟨λ a o e=>(r.ok a o e).step st λ u hu=>hk a u (by rw [e]; simp) hu⟩
theorem ZE.new (r:ZE K M H) {o:HO} (h:H p = none):ZE K M (upd H p o):=
 r.step_same (Step.new h) λ a vs _ e=>by rw [ZH (Zx e h)]; exact e
theorem Step.Ja {o:HO} {q:OO} (h:H p = none):Step M H (ZD M p q) (upd H p o):=
 ⟨λ b u _ e=>by rw [ZH (Zx e h)]; exact e,λ b u hm e=>by rw [Zz (Zx e h)]; exact hm⟩
theorem Step.Yd {o:HO} {q q':OO} (h:M p = some q):Step M H (ZD M p q') (upd H p o):=by
 have ne:∀ b,M b = none->b ≠ p:=λ b hb e=>by rw [e,h] at hb; cases hb
 exact ⟨λ b u hb e=>by rw [ZH (ne b hb)]; exact e,λ b u hb e=>by rw [Zz (ne b hb)]; exact hb⟩
theorem ZE.U1 (r:ZE K M H) {u:HO} {o:OO} (st:Step M H (ZD M p o) (upd H p u)) (h:OOk K (ZD M p o) (upd H p u) p o):ZE K (ZD M p o) (upd H p u):=by
 refine ⟨λ a q e=>?_⟩
 by_cases ha:a = p
 ·subst ha;rw [Zu] at e;cases e;exact h
 ·rw [Zz ha] at e;exact (r.ok a q e).step st λ v hv=>by rw [ZH ha]; exact hv
theorem ZE.Vb (r:ZE K M H) (st:Step M H (ZD M p (.lst ds)) (upd H p (.lst vs))) (hv:Dts K M H vs ds) :
  ZE K (ZD M p (.lst ds)) (upd H p (.lst vs)):=r.U1 st ⟨vs,Z4,hv.step st⟩
theorem ZE.MY (r:ZE K M H) (st:Step M H (ZD M p (.dct ks)) (upd H p (.dT kvs))) (hv:kvs.map (·.1) = ks) :
  ZE K (ZD M p (.dct ks)) (upd H p (.dT kvs)):=r.U1 st ⟨kvs,Z4,hv⟩
theorem Step.frz:Step M H (Vl M p) H:=
 ⟨λ _ _ _ h=>h,λ b o hb _=>by unfold Vl; split <;> first | rfl | exact hb⟩
theorem ZE.frz (r:ZE K M H):ZE K (Vl M p) H:=by
 refine ⟨λ a o e=>?_⟩;have hne:a ≠ p:=λ z=>by rw [z,Vk] at e; cases e
 rw [WQ hne] at e;exact (r.ok a o e).step Step.frz λ _ h=>h
def Z3 (K:Fk) (M:Mp) (H:Hp) (v:V):DV->Prop
 | .dat d=>Dt K M H v d
 | .own a=>v = .ref a
 | .ty n=>v = .ty n
 | .mix xs=>Mx K M H v xs
theorem Z3.step {x:DV} (h:Z3 K M H v x) (st:Step M H M' H'):Z3 K M' H' v x:=by
 cases x with
 | dat d=>exact Dt.step st h
 | own a=>exact h
 | ty n=>exact h
 | mix xs=>exact Mx.step st h
abbrev JP (K:Fk) (M:Mp) (H:Hp):List V->List DV->Prop:=Paired (Z3 K M H)
theorem JP.step {xs:List DV} (h:JP K M H vs xs) (st:Step M H M' H'):JP K M' H' vs xs:=Paired.NY h λ _ _ q=>Z3.step q st
theorem JP.ZdI:∀ {vs:List V} {ds:List PyData},JP K M H vs (ds.map DV.dat)->Dts K M H vs ds
 | vs,[],h=>by rw [List.map_nil] at h; cases h; exact .nil
 | vs,d :: ds,h=>by
  rw [List.map_cons] at h;cases h with
  | cons h1 h2=>exact .cons h1 (JP.ZdI h2)
def onV (o:Option (Option DV)) (P:DV->Prop):Prop:=match o with | some (some x)=>P x | _=>False
theorem OF {o:Option (Option DV)} {P:DV->Prop} (h:onV o P):∃ x,o = some (some x) /\ P x:=by
 unfold onV at h
 split at h
 ·exact ⟨_,rfl,h⟩
 ·exact h.elim
def onI (x:DV) (P:Int->Prop):Prop:=match x with | .dat (.int i)=>P i | _=>False
theorem ZA {x:DV} {P:Int->Prop} (h:onI x P):∃ i,x = .dat (.int i) /\ P i:=by
 unfold onI at h
 split at h
 ·exact ⟨_,rfl,h⟩
 ·exact h.elim
def onB (x:DV) (P:Bool->Prop):Prop:=match x with | .dat (.bool i)=>P i | _=>False
theorem VN {x:DV} {P:Bool->Prop} (h:onB x P):∃ i,x = .dat (.bool i) /\ P i:=by
 unfold onB at h
 split at h
 ·exact ⟨_,rfl,h⟩
 ·exact h.elim
def onS (x:DV) (P:Str->Prop):Prop:=match x with | .dat (.str i)=>P i | _=>False
def onT (x:DV) (P:List PyData->Prop):Prop:=match x with | .dat (.tuple i)=>P i | _=>False
theorem Xv {x:DV} {P:List PyData->Prop} (h:onT x P):∃ i,x = .dat (.tuple i) /\ P i:=by
 unfold onT at h
 split at h
 ·exact ⟨_,rfl,h⟩
 ·exact h.elim
def onL (x:DV) (P:List PyData->Prop):Prop:=match x with | .dat (.list i)=>P i | _=>False
theorem Kr {x:DV} {P:List PyData->Prop} (h:onL x P):∃ i,x = .dat (.list i) /\ P i:=by
 unfold onL at h
 split at h
 ·exact ⟨_,rfl,h⟩
 ·exact h.elim
def onD (x:DV) (P:PyData->Prop):Prop:=match x with | .dat i=>P i | _=>False
theorem Qr {x:DV} {P:PyData->Prop} (h:onD x P):∃ i,x = .dat i /\ P i:=by
 unfold onD at h
 split at h
 ·exact ⟨_,rfl,h⟩
 ·exact h.elim
def onO (x:DV) (P:Addr->Prop):Prop:=match x with | .own i=>P i | _=>False
theorem Z9 {x:DV} {P:Addr->Prop} (h:onO x P):∃ i,x = .own i /\ P i:=by
 unfold onO at h
 split at h
 ·exact ⟨_,rfl,h⟩
 ·exact h.elim
def Vr (o:Option OO) (P:List PyData->Prop):Prop:=match o with | some (.lst ds)=>P ds | _=>False
theorem QK {o:Option OO} {P:List PyData->Prop} (h:Vr o P):∃ ds,o = some (.lst ds) /\ P ds:=by
 unfold Vr at h
 split at h
 ·exact ⟨_,rfl,h⟩
 ·exact h.elim
def Mj (o:Option OO) (P:List (List Key)->Prop):Prop:=match o with | some (.dct ks)=>P ks | _=>False
theorem O6 {o:Option OO} {P:List (List Key)->Prop} (h:Mj o P):∃ ks,o = some (.dct ks) /\ P ks:=by
 unfold Mj at h
 split at h
 ·exact ⟨_,rfl,h⟩
 ·exact h.elim
def onQ (x:DV) (M:Mp) (P:List PyData->Prop):Prop:=match x with | .dat (.tuple ds)=>P ds | .dat (.list ds)=>P ds | .own l=>Vr (M l) P | _=>False
theorem Gj {x:DV} {M:Mp} {P:List PyData->Prop} (h:onQ x M P):∃ ds,(x = .dat (.tuple ds) \/ x = .dat (.list ds) \/ ∃ l,x = .own l /\ M l = some (.lst ds)) /\ P ds:=by
 unfold onQ at h
 split at h
 ·exact ⟨_,.inl rfl,h⟩
 ·exact ⟨_,.inr (.inl rfl),h⟩
 ·replace h:=QK h;obtain ⟨ds,e,h⟩:=h;exact ⟨ds,.inr (.inr ⟨_,rfl,e⟩),h⟩
 ·exact h.elim
def onK (x:DV) (M:Mp) (P:List PyData->Prop):Prop:=match x with | .dat (.list ds)=>P ds | .own l=>Vr (M l) P | _=>False
theorem YJ {x:DV} {M:Mp} {P:List PyData->Prop} (h:onK x M P):∃ ds,(x = .dat (.list ds) \/ ∃ l,x = .own l /\ M l = some (.lst ds)) /\ P ds:=by
 unfold onK at h
 split at h
 ·exact ⟨_,.inl rfl,h⟩
 ·replace h:=QK h;obtain ⟨ds,e,h⟩:=h;exact ⟨ds,.inr ⟨_,rfl,e⟩,h⟩
 ·exact h.elim
def on1 (xs:List DV) (P:DV->Prop):Prop:=match xs with | [x]=>P x | _=>False
theorem ZZ {xs:List DV} {P:DV->Prop} (h:on1 xs P):∃ x,xs = [x] /\ P x:=by
 unfold on1 at h
 split at h
 ·exact ⟨_,rfl,h⟩
 ·exact h.elim
def on2 (xs:List DV) (P:DV->DV->Prop):Prop:=match xs with | [x,y]=>P x y | _=>False
theorem Zv {xs:List DV} {P:DV->DV->Prop} (h:on2 xs P):∃ x y,xs = [x,y] /\ P x y:=by
 unfold on2 at h
 split at h
 ·exact ⟨_,_,rfl,h⟩
 ·exact h.elim
def on3 (xs:List DV) (P:DV->DV->DV->Prop):Prop:=match xs with | [x,y,z]=>P x y z | _=>False
theorem Z0 {xs:List DV} {P:DV->DV->DV->Prop} (h:on3 xs P):∃ x y z,xs = [x,y,z] /\ P x y z:=by
 unfold on3 at h
 split at h
 ·exact ⟨_,_,_,rfl,h⟩
 ·exact h.elim
def on4 (xs:List DV) (P:DV->DV->DV->DV->Prop):Prop:=match xs with | [x0,x1,x2,x3]=>P x0 x1 x2 x3 | _=>False
theorem NV {xs:List DV} {P:DV->DV->DV->DV->Prop} (h:on4 xs P):∃ x0 x1 x2 x3,xs = [x0,x1,x2,x3] /\ P x0 x1 x2 x3:=by
 unfold on4 at h
 split at h
 ·exact ⟨_,_,_,_,rfl,h⟩
 ·exact h.elim
def on5 (xs:List DV) (P:DV->DV->DV->DV->DV->Prop):Prop:=match xs with | [x0,x1,x2,x3,x4]=>P x0 x1 x2 x3 x4 | _=>False
def on6 (xs:List DV) (P:DV->DV->DV->DV->DV->DV->Prop):Prop:=match xs with | [x0,x1,x2,x3,x4,x5]=>P x0 x1 x2 x3 x4 x5 | _=>False
noncomputable def LV:List DV->Option (List PyData)
 | []=>some []
 | .dat d :: r=>match LV r with | some ds=>some (d :: ds) | none=>none
 | _ :: _=>none
theorem UT:∀ {xs:List DV} {ds:List PyData},LV xs = some ds->xs = ds.map DV.dat
 | [],_,h=>by cases h; rfl
 | .dat d :: r,ds,h=>by
  rw [LV] at h
  split at h
  ·rename_i es e;cases h;rw [List.map_cons,<- UT e]
  ·cases h
 | .own _ :: _,_,h=>by cases h
 | .ty _ :: _,_,h=>by cases h
 | .mix _ :: _,_,h=>by cases h
def Y7 (xs:List DV) (P:List PyData->Prop):Prop:=match Nat.ble xs.length 100 with
 | true=>(match LV xs with | some ds=>P ds | none=>False)
 | false=>False
theorem UJ {xs:List DV} {P:List PyData->Prop} (h:Y7 xs P):∃ ds,xs = ds.map DV.dat /\ ds.length <= 100 /\ P ds:=by
 unfold Y7 at h
 split at h
 ·rename_i e
  split at h
  ·rename_i ds e2;have e3:=UT e2;refine ⟨ds,e3,?_,h⟩;have e4:=Nat.le_of_ble_eq_true e
   rwa [e3,List.length_map] at e4
  ·exact h.elim
 ·exact h.elim
abbrev DSt:=List (Option DV)
structure Qy (K:Fk) (M:Mp) (H:Hp) (Z:L2.St) (U:DSt):Prop where
 len:Z.length = U.length
 at':∀ (i:Nat) (x:DV),U[i]? = some (some x)->∃ v,Z[i]? = some (some v) /\ Z3 K M H v x
theorem Qy.step {Z:L2.St} {U:DSt} (h:Qy K M H Z U) (st:Step M H M' H'):Qy K M' H' Z U:=
 ⟨h.len,λ i x e=>let ⟨v,e1,e2⟩:=h.at' i x e; ⟨v,e1,e2.step st⟩⟩
theorem Qy.set {Z:L2.St} {U:DSt} {x:DV} (h:Qy K M H Z U) (r:Z3 K M H v x):Qy K M H (Z.set i (some v)) (U.set i (some x)):=by
 refine ⟨by rw [List.length_set,List.length_set,h.len],λ j y e=>?_⟩
 by_cases hj:i = j
 ·subst hj
  by_cases hl:i < U.length
  ·rw [List.getElem?_set_self hl] at e;cases e;exact ⟨v,List.getElem?_set_self (by rw [h.len]; exact hl),r⟩
  ·rw [List.getElem?_eq_none (by rw [List.length_set]; lia)] at e;cases e
 ·rw [List.getElem?_set_ne hj] at e;rw [List.getElem?_set_ne hj];exact h.at' j y e
noncomputable def VX (N:List Str) (xs:List DV):DSt:=xs.map some ++ List.replicate (N.length - xs.length) none
theorem Paired.ZdP {α β:Type} {F:α->β->Prop}:∀ {l:List α} {m:List β} {i:Nat} {b:β},Paired F l m->m[i]? = some b->∃ a,l[i]? = some a /\ F a b
 | _,_,_,_,.nil,e=>by simp at e
 | _,_,0,_,.cons h _,e=>by simp at e; subst e; exact ⟨_,rfl,h⟩
 | _,_,i + 1,b,.cons _ h,e=>by
  obtain ⟨a,h1,h2⟩:=Paired.ZdP (i:=i) (b:=b) h (by simpa using e);exact ⟨a,by simpa using h1,h2⟩
theorem Qy.start {xs:List DV} (h:JP K M H vs xs):Qy K M H (start N vs) (VX N xs):=by
 have hl:vs.length = xs.length:=Paired.length h;refine ⟨by unfold L2.start VX; simp [hl],λ i x e=>?_⟩;unfold VX at e;unfold L2.start
 by_cases hi:i < xs.length
 ·rw [List.getElem?_append_left (by simpa using hi),List.getElem?_map] at e;cases q:xs[i]? with
  | none=>rw [q] at e; cases e
  | some y=>
   rw [q] at e;cases e;obtain ⟨v,h1,h2⟩:=Paired.ZdP h q;exact ⟨v,by rw [List.getElem?_append_left (by simpa [hl] using hi),List.getElem?_map,h1]; rfl,h2⟩
 ·rw [List.getElem?_append_right (by simpa using hi),List.getElem?_replicate] at e
  split at e <;> cases e
end
abbrev DK:=DV->Mp->Prop
abbrev DTE:=DSt->Mp->DK->Prop
abbrev DTT:=DSt->Mp->(Bool->Mp->Prop)->Prop
abbrev DTA:=DSt->Mp->(List DV->Mp->Prop)->Prop
structure Qc where
 nx:DSt->Mp->Prop
 rt:DK
 bk:DSt->Mp->Prop:=λ _ _=>False
 ct:DSt->Mp->Prop:=λ _ _=>False
abbrev DTS:=Qc->DSt->Mp->Prop
def Rch (K:Fk) (M:Mp) (H:Hp) (Φ:DK) (Q:VK):Prop:=∀ v H' x M',ZE K M' H'->Step M H M' H'->Z3 K M' H' v x->Φ x M'->Q v H'
theorem Rch.step {M M':Mp} {Φ:DK} {Q:VK} (h:Rch K M H Φ Q) (st:Step M H M' H'):Rch K M' H' Φ Q:=λ v H2 x M2 r s2 q f=>h v H2 x M2 r (st.trans s2) q f
theorem Rch.dat {M M':Mp} {Φ:DK} {Q:VK} (h:Rch K M H Φ Q) (r:ZE K M' H') (st:Step M H M' H') (hd:Dt K M' H' v d) (f:Φ (.dat d) M'):Q v H':=h v H' (.dat d) M' r st hd f
def DE (X:Cx) (e:Expr) (τ:DTE):Prop:=∃ t,PE X e t /\ ∀ Z H U M Φ Q,ZE X.K M H->Qy X.K M H Z U->τ U M Φ->Rch X.K M H Φ Q->t Z H Q
def DT (X:Cx) (e:Expr) (τ:DTT):Prop:=∃ t,PT X e t /\ ∀ Z H U M Φ (Q:Bool->Hp->Prop),ZE X.K M H->Qy X.K M H Z U->τ U M Φ ->
 (∀ b H' M',ZE X.K M' H'->Step M H M' H'->Φ b M'->Q b H')->t Z H Q
def DW (X:Cx) (e:Expr) (τ:DTT):Prop:=∃ t,PW X e t /\ ∀ Z H U M Φ (Q:Bool->Hp->Prop),ZE X.K M H->Qy X.K M H Z U->τ U M Φ ->
 (∀ b H' M',ZE X.K M' H'->Step M H M' H'->Φ b M'->Q b H')->t Z H Q
def DA (X:Cx) (es:List Expr) (τ:DTA):Prop:=∃ t,PA X es t /\ ∀ Z H U M Φ (Q:List V->Hp->Prop),ZE X.K M H->Qy X.K M H Z U->τ U M Φ ->
 (∀ vs H' xs M',ZE X.K M' H'->Step M H M' H'->JP X.K M' H' vs xs->Φ xs M'->Q vs H')->t Z H Q
structure Yv (K:Fk) (M:Mp) (H:Hp) (D:Qc) (E:Ends):Prop where
 nx:∀ σ' H' Δ' M',ZE K M' H'->Step M H M' H'->Qy K M' H' σ' Δ'->D.nx Δ' M'->E.nx σ' H'
 rt:Rch K M H D.rt E.rt
 bk:∀ σ' H' Δ' M',ZE K M' H'->Step M H M' H'->Qy K M' H' σ' Δ'->D.bk Δ' M'->E.bk σ' H'
 ct:∀ σ' H' Δ' M',ZE K M' H'->Step M H M' H'->Qy K M' H' σ' Δ'->D.ct Δ' M'->E.ct σ' H'
theorem Yv.step {M M':Mp} {D:Qc} {E:Ends} (h:Yv K M H D E) (st:Step M H M' H'):Yv K M' H' D E:=
 ⟨λ a b c d r s=>h.nx a b c d r (st.trans s),h.rt.step st,λ a b c d r s=>h.bk a b c d r (st.trans s),λ a b c d r s=>h.ct a b c d r (st.trans s)⟩
def DS (X:Cx) (st:Stmt) (τ:DTS):Prop:=∃ t,PS X st t /\ ∀ Z H U M D E,ZE X.K M H->Qy X.K M H Z U->τ D U M->Yv X.K M H D E->t E Z H
def DSs (X:Cx) (st:List Stmt) (τ:DTS):Prop:=∃ t,PSs X st t /\ ∀ Z H U M D E,ZE X.K M H->Qy X.K M H Z U->τ D U M->Yv X.K M H D E->t E Z H
section
variable {a b c:Expr} {ta tb tc:DTE}
def Zf4 (i:Nat):DTE:=λ U M Φ=>onV U[i]? λ x=>Φ x M
def dC (d:PyData):DTE:=λ _ M Φ=>Φ (.dat d) M
theorem Zb (i:Nat) {pos:Pos} (hN:autoParam (X.N[i]? = some x) zz3._auto_1) (hv:autoParam (Vis X.env.scope x) zz5._auto_1) (hd:autoParam ((x == ("__debug__" : Str)) = false) zz1._auto_1)
  (hcd:autoParam ((x == ("__classdict__" : Str)) = false) zz1._auto_1):DE X (.Name x pos) (Zf4 i):=by
 refine ⟨_,ZaB hN hv hd hcd,λ Z H U M Φ Q r e h k=>?_⟩;replace h:=OF h;obtain ⟨x,e1,h⟩:=h;obtain ⟨v,e2,q⟩:=e.at' i x e1;exact ⟨v,e2,k v H x M r Step.refl q h⟩
theorem V6 (h:PE X e (tC v)) (q:∀ M H,Dt X.K M H v d):DE X e (dC d):=
 ⟨_,h,λ _ H _ M _ _ r _ h k=>k v H (.dat d) M r Step.refl (q M H) h⟩
theorem Zc {i j pos}:DE X (.Constant (.int i) j pos) (dC (.int i)):=V6 Zco λ _ _=>.int i
theorem QC {b j pos}:DE X (.Constant (.bool b) j pos) (dC (.bool b)):=V6 Zey λ _ _=>.bl b
theorem NS {j pos}:DE X (.Constant .none j pos) (dC .none):=V6 Ov λ _ _=>.non
theorem QP {x j pos}:DE X (.Constant (.str x) j pos) (dC (.str x)):=V6 Th λ _ _=>.str x
def dTy (n:String):DTE:=λ _ M Φ=>Φ (.ty n) M
theorem Ug {n:String} (hg:Gl X x) (hm:X.mg x = none) (hv:bootBuiltins x = some (.type n)) (hn:autoParam (x ≠ "__name__") zz1._auto_1) (hdb:autoParam ((x == ("__debug__" : Str)) = false) zz1._auto_1):DE X (.Name x pos) (dTy n):=
 ⟨_,OP (v:=.ty n) hg hm hv rfl hn hdb,λ _ H _ M _ _ r _ h k=>k (.ty n) H (.ty n) M r Step.refl rfl h⟩
end
end DL
open DL
variable {M M':Mp} {te:DTE} {o:OO} {tc:DTT} {U:DSt} {r:Int} {ta:DTA}
namespace DL
theorem Z3.bool {b:Bool} (h:Z3 K M H v (.dat (.bool b))):v = .bl b:=by cases (show Dt K M H v (.bool b) from h); rfl
theorem Z3.int {i:Int} (h:Z3 K M H v (.dat (.int i))):v = .int i:=by cases (show Dt K M H v (.int i) from h); rfl
theorem Z3.str (h:Z3 K M H v (.dat (.str x))):v = .str x:=by cases (show Dt K M H v (.str x) from h); rfl
theorem Z3.tup (h:Z3 K M H v (.dat (.tuple ds))):∃ a xs,v = .ref a /\ TupAt K M H a xs /\ Dts K M H xs ds:=by
 cases (show Dt K M H v (.tuple ds) from h) with
 | tup h1 h2=>exact ⟨_,_,rfl,h1,h2⟩
theorem Z3.lst (h:Z3 K M H v (.dat (.list ds))):∃ a xs,v = .ref a /\ LstAt K M H a xs /\ Dts K M H xs ds:=by
 cases (show Dt K M H v (.list ds) from h) with
 | lst h1 h2=>exact ⟨_,_,rfl,h1,h2⟩
theorem Dt.Wq (r:ZE K M H) (hp:H p = none) (h:Dts K M H xs ds):Dt K M (upd H p (.tup xs)) (.ref p) (.tuple ds):=
 .tup (.inl ⟨r.tracked hp,.inl Z4⟩) (h.step (Step.new hp))
theorem Dt.VW (r:ZE K M H) (hp:H p = none) (h:Dts K M H xs ds):Dt K M (upd H p (.lst xs)) (.ref p) (.list ds):=
 .lst (.inl ⟨r.tracked hp,.inl Z4⟩) (h.step (Step.new hp))
def Snd (K:Fk) (t:TE) (τ:DTE):Prop:=∀ Z H U M Φ Q,ZE K M H->Qy K M H Z U->τ U M Φ->Rch K M H Φ Q->t Z H Q
theorem Snd.bin {ta tb:TE} {τa τb:DTE} (qa:Snd K ta τa) (qb:Snd K tb τb) {Z:L2.St} {S:DV->DV->Mp->Prop} {R:V->V->Hp->Prop} (r:ZE K M H) (e:Qy K M H Z U)
  (h:τa U M λ x M1=>τb U M1 λ y M2=>S x y M2)
  (k:∀ v u H2 x y M2,ZE K M2 H2->Step M H M2 H2->Z3 K M2 H2 v x->Z3 K M2 H2 u y->S x y M2->R v u H2):ta Z H λ v H1=>tb Z H1 λ u H2=>R v u H2:=
 qa Z H U M _ _ r e h λ v H1 x M1 r1 st rv hx=>qb Z H1 U M1 _ _ r1 (e.step st) hx λ u H2 y M2 r2 st2 ru hy=>k v u H2 x y M2 r2 (st.trans st2) (rv.step st2) ru hy
abbrev D2:=DV->DV->Mp->DK->Prop
def OpD (X:Cx) (f:Value->Value->Sem Value) (δ:D2):Prop:=∃ r:R2,OpR X f r /\ ∀ v u H x y M Φ Q,ZE X.K M H->Z3 X.K M H v x->Z3 X.K M H u y->δ x y M Φ->Rch X.K M H Φ Q->r v u H Q
def dOp (δ:D2) (ta tb:DTE):DTE:=λ U M Φ=>ta U M λ x M1=>tb U M1 λ y M2=>δ x y M2 Φ
section
variable {a b c:Expr} {ta tb tc:DTE} {op op':CmpOp} {δ δ':D2}
theorem Snd.opn {ta' tb':TE} {r:R2} (ha:Snd X.K ta' ta) (hb:Snd X.K tb' tb) (q:∀ v u H x y M Φ Q,ZE X.K M H->Z3 X.K M H v x->Z3 X.K M H u y->δ x y M Φ->Rch X.K M H Φ Q->r v u H Q):Snd X.K (tOp r ta' tb') (dOp δ ta tb):=
 λ _ _ _ _ _ _ dr e h k=>Snd.bin ha hb dr e h λ v u H2 x y M2 r2 st rv ru hs=>q v u H2 x y M2 _ _ r2 rv ru hs (k.step st)
theorem Zo {bop:Operator} (ho:OpD X (binaryOp bop) δ) (ha:DE X a ta) (hb:DE X b tb):DE X (.BinOp a bop b pos) (dOp δ ta tb):=by
 obtain ⟨ta',pa,qa⟩:=ha;obtain ⟨tb',pb,qb⟩:=hb;obtain ⟨r,hr,q⟩:=ho;exact ⟨_,ZeF hr pa pb,Snd.opn qa qb q⟩
theorem JH (ho:OpD X (compareOp op) δ) (ha:DE X a ta) (hb:DE X b tb) (hm:autoParam (behindInMarks op b = false) zz6._auto_1):DE X (.Compare a [op] [b] pos) (dOp δ ta tb):=by
 obtain ⟨ta',pa,qa⟩:=ha;obtain ⟨tb',pb,qb⟩:=hb;obtain ⟨r,hr,q⟩:=ho;exact ⟨_,SA hr pa pb hm,Snd.opn qa qb q⟩
def dB (t:DTE):DTT:=λ U M Φ=>t U M λ x M1=>onB x λ c=>Φ c M1
theorem Snd.test {t:TE} {τ:DTE} (h:Snd X.K t τ) {Z:L2.St} {Φ:Bool->Mp->Prop} {Q:Bool->Hp->Prop} (r:ZE X.K M H) (e:Qy X.K M H Z U) (hw:dB τ U M Φ)
  (k:∀ b H' M',ZE X.K M' H'->Step M H M' H'->Φ b M'->Q b H'):t Z H λ x H1=>∃ c,x = .bl c /\ Q c H1:=by
 refine h Z H U M _ _ r e hw λ v H1 x M1 r1 st rv hx=>?_;replace hx:=VN hx;obtain ⟨c,rfl,hx⟩:=hx;exact ⟨c,rv.bool,k c H1 M1 r1 st hx⟩
theorem Zw (ho:OpD X (compareOp op) δ) (ha:DE X a ta) (hb:DE X b tb) (hm:autoParam (behindInMarks op b = false) zz6._auto_1):DT X (.Compare a [op] [b] pos) (dB (dOp δ ta tb)):=by
 obtain ⟨ta',pa,qa⟩:=ha;obtain ⟨tb',pb,qb⟩:=hb;obtain ⟨r,hr,q⟩:=ho;exact ⟨_,P7 hr pa pb hm,λ _ _ _ _ _ _ dr e h k=>Snd.test (Snd.opn qa qb q) dr e h k⟩
theorem Qj {τ:DTE} (h:DE X e τ) (he:autoParam (∀ whole,isTrue e X.env whole = (do let v <- whole; standAt e.pos; holding [v] (truthy v))) zz2._auto_1):DT X e (dB τ):=by
 obtain ⟨t,p,q⟩:=h;exact ⟨_,Tq p he,λ _ _ _ _ _ _ dr e h k=>Snd.test q dr e h k⟩
def Fh (δ δ':D2) (ta tb tc:DTE):DTE:=λ U M Φ=>ta U M λ x M1=>tb U M1 λ y M2=>δ x y M2 λ z M3=>onB z λ k=>(if k = true then tc U M3 λ w' M4=>δ' y w' M4 Φ else Φ (.dat (.bool false)) M3)
theorem Snd.chain {ta' tb' tc':TE} {r r':R2} (ha:Snd X.K ta' ta) (hb:Snd X.K tb' tb) (hc:Snd X.K tc' tc) (q:∀ v u H x y M Φ Q,ZE X.K M H->Z3 X.K M H v x->Z3 X.K M H u y->δ x y M Φ->Rch X.K M H Φ Q->r v u H Q)
  (q':∀ v u H x y M Φ Q,ZE X.K M H->Z3 X.K M H v x->Z3 X.K M H u y->δ' x y M Φ->Rch X.K M H Φ Q->r' v u H Q):Snd X.K (Om r r' ta' tb' tc') (Fh δ δ' ta tb tc):=by
 intro Z H U M Φ Q dr e h k;refine Snd.bin ha hb dr e h λ v u H2 x y M2 r2 st rv ru hs=>?_;refine q v u H2 x y M2 _ _ r2 rv ru hs λ z H3 zd M3 r3 st3 rz hz=>?_;replace hz:=VN hz;obtain ⟨kb,rfl,hz⟩:=hz;refine ⟨kb,rz.bool,?_⟩;cases kb with
 | true=>
  have hz':tc U M3 λ w' M4=>δ' y w' M4 Φ:=by simpa using hz
  rw [if_pos rfl];refine hc Z H3 U M3 _ _ r3 (e.step (st.trans st3)) hz' λ w' H4 wd M4 r4 st4 rw4 hw4=>?_;exact q' u w' H4 y wd M4 _ _ r4 (ru.step (st3.trans st4)) rw4 hw4 (k.step (st.trans (st3.trans st4)))
 | false=>
  have hz':Φ (.dat (.bool false)) M3:=by simpa using hz
  rw [if_neg Bool.false_ne_true];exact k.dat r3 (st.trans st3) (Dt.bl false) hz'
theorem XU (ho:OpD X (compareOp op) δ) (ho':OpD X (compareOp op') δ') (ha:DE X a ta) (hb:DE X b tb) (hc:DE X c tc) (hm:autoParam (lastMarks [op,op'] [b,c] = false) zz4._auto_1) :
  DT X (.Compare a [op,op'] [b,c] pos) (dB (Fh δ δ' ta tb tc)):=by
 obtain ⟨ta',pa,qa⟩:=ha;obtain ⟨tb',pb,qb⟩:=hb;obtain ⟨tc',pc,qc⟩:=hc;obtain ⟨r,hr,q⟩:=ho;obtain ⟨r',hr',q'⟩:=ho';exact ⟨_,LI hr hr' pa pb pc hm,λ _ _ _ _ _ _ dr e h k=>Snd.test (Snd.chain qa qb qc q q') dr e h k⟩
variable {tA tB':DTT} {rest:List Expr}
def Zfp (t u:DTT):DTT:=λ U M Φ=>t U M λ c M1=>if c = true then u U M1 Φ else Φ false M1
def dOr (t u:DTT):DTT:=λ U M Φ=>t U M λ c M1=>if c = true then Φ true M1 else u U M1 Φ
def Zgb (t:DTT):DTT:=λ U M Φ=>t U M λ c M1=>Φ (!c) M1
theorem DW.dt {τ:DTT} (h:DW X e τ):DT X e τ:=by
 obtain ⟨t,p,q⟩:=h;exact ⟨t,p.pt,q⟩
theorem XW (ha:DT X a tA):DW X (.BoolOp .And [a] pos) tA:=by
 obtain ⟨t,p,q⟩:=ha;exact ⟨t,Pl p,q⟩
theorem JK (ha:DT X a tA):DW X (.BoolOp .Or [a] pos) tA:=by
 obtain ⟨t,p,q⟩:=ha;exact ⟨t,Zb1 p,q⟩
theorem K0 (ha:DT X a tA) (hb:DW X (.BoolOp .And (b :: rest) pos) tB'):DW X (.BoolOp .And (a :: b :: rest) pos) (Zfp tA tB'):=by
 obtain ⟨t,p,q⟩:=ha;obtain ⟨u,p2,q2⟩:=hb;refine ⟨_,Zao p p2,λ Z H U M Φ Q r e h k=>?_⟩;refine q Z H U M _ _ r e h λ c H1 M1 r1 st hc=>?_;cases c with
 | true=>rw [if_pos rfl]; exact q2 Z H1 U M1 Φ Q r1 (e.step st) (by simpa using hc) λ b H2 M2 r2 st2 hb=>k b H2 M2 r2 (st.trans st2) hb
 | false=>rw [if_neg Bool.false_ne_true]; exact k false H1 M1 r1 st (by simpa using hc)
theorem Ve (ha:DT X a tA) (hb:DW X (.BoolOp .Or (b :: rest) pos) tB'):DW X (.BoolOp .Or (a :: b :: rest) pos) (dOr tA tB'):=by
 obtain ⟨t,p,q⟩:=ha;obtain ⟨u,p2,q2⟩:=hb;refine ⟨_,Zeg p p2,λ Z H U M Φ Q r e h k=>?_⟩;refine q Z H U M _ _ r e h λ c H1 M1 r1 st hc=>?_;cases c with
 | false=>rw [if_neg Bool.false_ne_true]; exact q2 Z H1 U M1 Φ Q r1 (e.step st) (by simpa using hc) λ b H2 M2 r2 st2 hb=>k b H2 M2 r2 (st.trans st2) hb
 | true=>rw [if_pos rfl]; exact k true H1 M1 r1 st (by simpa using hc)
theorem Qi (ha:DT X a tA):DT X (.UnaryOp .Not a pos) (Zgb tA):=by
 obtain ⟨t,p,q⟩:=ha;exact ⟨_,TR p,λ Z H U M Φ Q r e h k=>q Z H U M _ _ r e h λ c H1 M1 r1 st hc=>k _ H1 M1 r1 st hc⟩
def Zaw (ta tb:DTE):DTE:=λ U M Φ=>ta U M λ x M1=>onB x λ c=>if c = true then tb U M1 Φ else Φ (.dat (.bool false)) M1
def ZfS (ta tb:DTE):DTE:=λ U M Φ=>ta U M λ x M1=>onB x λ c=>if c = true then Φ (.dat (.bool true)) M1 else tb U M1 Φ
def Zbh (ta:DTE):DTE:=λ U M Φ=>ta U M λ x M1=>onB x λ c=>Φ (.dat (.bool (!c))) M1
theorem YC {bop} (h:DE X a ta):DE X (.BoolOp bop [a] pos) ta:=by
 obtain ⟨t,p,q⟩:=h;exact ⟨t,Ts p,q⟩
theorem XA (ha:DE X a ta) (hb:DE X (.BoolOp .And (b :: rest) pos) tb):DE X (.BoolOp .And (a :: b :: rest) pos) (Zaw ta tb):=by
 obtain ⟨t,p,q⟩:=ha;obtain ⟨u,p2,q2⟩:=hb;refine ⟨_,Zbr p p2,λ Z H U M Φ Q r e h k=>?_⟩;refine q Z H U M _ _ r e h λ v H1 x M1 r1 st rv hx=>?_;replace hx:=VN hx;obtain ⟨c,rfl,hx⟩:=hx;refine ⟨c,rv.bool,?_⟩;cases c with
 | true=>rw [if_pos rfl]; exact q2 Z H1 U M1 Φ Q r1 (e.step st) (by simpa using hx) (k.step st)
 | false=>rw [if_neg Bool.false_ne_true]; exact k.dat r1 st (Dt.bl false) (by simpa using hx)
theorem ZeJ (ha:DE X a ta) (hb:DE X (.BoolOp .Or (b :: rest) pos) tb):DE X (.BoolOp .Or (a :: b :: rest) pos) (ZfS ta tb):=by
 obtain ⟨t,p,q⟩:=ha;obtain ⟨u,p2,q2⟩:=hb;refine ⟨_,Ze5 p p2,λ Z H U M Φ Q r e h k=>?_⟩;refine q Z H U M _ _ r e h λ v H1 x M1 r1 st rv hx=>?_;replace hx:=VN hx;obtain ⟨c,rfl,hx⟩:=hx;refine ⟨c,rv.bool,?_⟩;cases c with
 | false=>rw [if_neg Bool.false_ne_true]; exact q2 Z H1 U M1 Φ Q r1 (e.step st) (by simpa using hx) (k.step st)
 | true=>rw [if_pos rfl]; exact k.dat r1 st (Dt.bl true) (by simpa using hx)
theorem ZcE (ha:DE X a ta):DE X (.UnaryOp .Not a pos) (Zbh ta):=by
 obtain ⟨t,p,q⟩:=ha;refine ⟨_,Zcn p,λ Z H U M Φ Q r e h k=>?_⟩;refine q Z H U M _ _ r e h λ v H1 x M1 r1 st rv hx=>?_;replace hx:=VN hx;obtain ⟨c,rfl,hx⟩:=hx;exact ⟨c,rv.bool,k.dat r1 st (Dt.bl (!c)) hx⟩
def dIf (t:DTT) (ta tb:DTE):DTE:=λ U M Φ=>t U M λ c M1=>if c = true then ta U M1 Φ else tb U M1 Φ
theorem MB (hc:DT X c tA) (ha:DE X a ta) (hb:DE X b tb):DE X (.IfExp c a b pos) (dIf tA ta tb):=by
 obtain ⟨t,p,q⟩:=hc;obtain ⟨u,p2,q2⟩:=ha;obtain ⟨w,p3,q3⟩:=hb;refine ⟨_,Lz p p2 p3,λ Z H U M Φ Q r e h k=>?_⟩;refine q Z H U M _ _ r e h λ c H1 M1 r1 st hc=>?_;cases c with
 | true=>rw [if_pos rfl]; exact q2 Z H1 U M1 Φ Q r1 (e.step st) (by simpa using hc) (k.step st)
 | false=>rw [if_neg Bool.false_ne_true]; exact q3 Z H1 U M1 Φ Q r1 (e.step st) (by simpa using hc) (k.step st)
def Zf8 (g:Int->Int) (ta:DTE):DTE:=λ U M Φ=>ta U M λ x M1=>onI x λ i=>Φ (.dat (.int (g i))) M1
theorem Cf (ha:DE X a ta):DE X (.UnaryOp .USub a pos) (Zf8 (λ i=>-i) ta):=by
 obtain ⟨t,p,q⟩:=ha;refine ⟨_,Zem Td p,λ Z H U M Φ Q r e h k=>?_⟩;refine q Z H U M _ _ r e h λ v H1 x M1 r1 st rv hx=>?_;replace hx:=ZA hx;obtain ⟨i,rfl,hx⟩:=hx;exact ⟨i,rv.int,k.dat r1 st (Dt.int (-i)) hx⟩
def δI (C:Int->Int->Prop) (g:Int->Int->PyData):D2:=λ x y M Φ=>onI x λ i=>onI y λ j=>C i j /\ Φ (.dat (g i j)) M
def δI0 (g:Int->Int->PyData):D2:=λ x y M Φ=>onI x λ i=>onI y λ j=>Φ (.dat (g i j)) M
theorem ZaK {f:Value->Value->Sem Value} {C:Int->Int->Prop} {g:Int->Int->Int} (h:OpR X f (rI C λ i j=>.int (g i j))):OpD X f (δI C λ i j=>.int (g i j)):=
 ⟨_,h,λ v u H x y M Φ Q r rv ru h k=>by
  replace h:=ZA h;obtain ⟨i,e1,h⟩:=h;replace h:=ZA h;obtain ⟨j,e2,hc,q⟩:=h;subst e1 e2
  exact ⟨i,j,rv.int,ru.int,hc,k.dat r Step.refl (Dt.int _) q⟩⟩
theorem ZaA {f:Value->Value->Sem Value} {g:Int->Int->Int} (h:OpR X f (rI0 λ i j=>.int (g i j))):OpD X f (δI0 λ i j=>.int (g i j)):=
 ⟨_,h,λ v u H x y M Φ Q r rv ru h k=>by
  replace h:=ZA h;obtain ⟨i,e1,h⟩:=h;replace h:=ZA h;obtain ⟨j,e2,q⟩:=h;subst e1 e2
  exact ⟨i,j,rv.int,ru.int,k.dat r Step.refl (Dt.int _) q⟩⟩
theorem Mw {f:Value->Value->Sem Value} {g:Int->Int->Bool} (h:OpR X f (rI0 λ i j=>.bl (g i j))):OpD X f (δI0 λ i j=>.bool (g i j)):=
 ⟨_,h,λ v u H x y M Φ Q r rv ru h k=>by
  replace h:=ZA h;obtain ⟨i,e1,h⟩:=h;replace h:=ZA h;obtain ⟨j,e2,q⟩:=h;subst e1 e2
  exact ⟨i,j,rv.int,ru.int,k.dat r Step.refl (Dt.bl _) q⟩⟩
theorem Zy:OpD X (binaryOp .Add) (δI0 λ i j=>.int (i + j)):=ZaA TV
theorem Qz:OpD X (binaryOp .Sub) (δI0 λ i j=>.int (i - j)):=ZaA Zbi
theorem Q7:OpD X (binaryOp .Mult) (δI Oy λ i j=>.int (i * j)):=ZaK Zcv
theorem Df:OpD X (binaryOp .FloorDiv) (δI ZeQ λ i j=>.int (i / j)):=ZaK OR
theorem Vf:OpD X (binaryOp .Mod) (δI (λ _ j=>0 < j) λ i j=>.int (i % j)):=ZaK ZcU
theorem Gg:OpD X (binaryOp .Pow) (δI Za8 λ i j=>.int (i ^ j.toNat)):=ZaK Tu
theorem Y4:OpD X (compareOp .Lt) (δI0 λ i j=>.bool (decide (i < j))):=Mw ZeS
theorem W7:OpD X (compareOp .LtE) (δI0 λ i j=>.bool (decide (i <= j))):=Mw Zeu
theorem Ds:OpD X (compareOp .Gt) (δI0 λ i j=>.bool (decide (j < i))):=Mw Zew
theorem Tn:OpD X (compareOp .GtE) (δI0 λ i j=>.bool (decide (j <= i))):=Mw ZeY
def δB (g:Bool->Bool->Bool):D2:=λ x y M Φ=>onB x λ c=>onB y λ d=>Φ (.dat (.bool (g c d))) M
def Zby:D2:=λ x y M Φ=>onT x λ ds=>onT y λ es=>ds ≠ [] /\ ds.length + es.length <= sizeLine /\ Φ (.dat (.tuple (ds ++ es))) M
theorem GV:OpR X (binaryOp .Add) (λ x y H Q=>∃ l b xs zs,x = .ref l /\ y = .ref b /\ SqL X.K H l xs /\ SqL X.K H b zs /\ xs.length + zs.length <= sizeLine /\ ∀ p,H p = none->Q (.ref p) (upd H p (.lst (xs ++ zs)))):=by
 intro pins s Z H x y v u Q I rx ry h;obtain ⟨l,b,xs,zs,rfl,rfl,hl,hb,hz,q⟩:=h;cases rx;cases ry;obtain ⟨its,r1,p1,_⟩:=I.list hl;obtain ⟨its2,r2,p2,_⟩:=I.list hb;obtain ⟨⟨cls,dd,data,sl⟩,ho,hc,n,hd⟩:=p1.isList;obtain ⟨⟨cls2,dd2,data2,sl2⟩,ho2,hc2,n2,hd2⟩:=p2.isList;simp only at hc hd hc2 hd2;subst hc hd hc2 hd2;have e:its.toArray ++ its2.toArray = (its ++ its2).toArray:=by simp
 have hsz:its.toArray.size + its2.toArray.size <= sizeLine:=by rw [List.size_toArray,List.size_toArray,<- r1.length,<- r2.length]; exact hz
 refine concat_meets ⟨_,ho,rfl⟩ ⟨_,ho2,rfl⟩ noFill_list_add seq_list_add PySem.F.slot_list_add PySem.F.entry_list_add (PySem.F.args_list_add_2 _ _) (list_addW l b its.toArray its2.toArray n n2 dd dd2 sl sl2 hsz) ⟨ho,ho2,?_⟩;rw [e];exact ⟨.ref _,_,I.Zge (t':=s.toks) (r1.append r2) (by rw [List.length_append]; exact hz),rfl,q _ I.fresh⟩
def ZcC:D2:=λ x y M Φ=>onL x λ ds=>onL y λ es=>ds.length + es.length <= sizeLine /\ Φ (.dat (.list (ds ++ es))) M
def OU:D2:=λ x y M Φ=>onL x λ ds=>onL y λ es=>ds.length + es.length <= sizeLine /\ ∀ p,M p = none->Φ (.own p) (ZD M p (.lst (ds ++ es)))
end
def ZfK:DTA:=λ _ M Φ=>Φ [] M
def Zch (ta:DTE) (tr:DTA):DTA:=λ U M Φ=>ta U M λ x M1=>tr U M1 λ xs M2=>Φ (x :: xs) M2
section
variable {t:DTA}
theorem Zd:DA X [] ZfK:=⟨_,DC,λ _ H _ M _ _ r _ h k=>k [] H [] M r Step.refl .nil h⟩
theorem Za (ha:DE X e te) (hr:DA X es t) (hs:autoParam (starEach (e :: es) X.env = (false,eval e X.env) :: starEach es X.env) zz3._auto_1):DA X (e :: es) (Zch te t):=by
 obtain ⟨u,p,q⟩:=ha;obtain ⟨w,p2,q2⟩:=hr;refine ⟨_,W5 p p2 hs,λ Z H U M Φ Q r e h k=>?_⟩;refine q Z H U M _ _ r e h λ v H1 x M1 r1 st rv hx=>?_;exact q2 Z H1 U M1 _ _ r1 (e.step st) hx λ vs H2 xs M2 r2 st2 rvs hxs=>k (v :: vs) H2 (x :: xs) M2 r2 (st.trans st2) (.cons (rv.step st2) rvs) hxs
def Zfl (t:DTA):DTE:=λ U M Φ=>t U M λ xs M1=>Y7 xs λ ds=>Φ (.dat (.tuple ds)) M1
def ZfY (t:DTA):DTE:=λ U M Φ=>t U M λ xs M1=>Y7 xs λ ds=>Φ (.dat (.list ds)) M1
def Zan (t:DTA):DTE:=λ U M Φ=>t U M λ xs M1=>Y7 xs λ ds=>∀ p,M1 p = none->Φ (.own p) (ZD M1 p (.lst ds))
theorem Zm {x1} (h:DA X es t):DE X (.Tuple es x1 pos) (Zfl t):=by
 obtain ⟨u,p,q⟩:=h;refine ⟨_,Ci p,λ Z H U M Φ Q r e h k=>?_⟩;refine q Z H U M _ _ r e h λ vs H1 xs M1 r1 st rv hx=>?_;replace hx:=UJ hx;obtain ⟨ds,rfl,hz',hx⟩:=hx;have hz:ds.length <= sizeLine:=by rw [sizeLine_eq]; lia
 have hd:=rv.ZdI;refine ⟨by rw [hd.length]; exact hz,λ p hp=>?_⟩;exact k.dat (r1.new hp) (st.trans (Step.new hp)) (Dt.Wq r1 hp hd) hx
theorem Qe (h:DA X es t):DE X (.List es pos) (ZfY t):=by
 obtain ⟨u,p,q⟩:=h;refine ⟨_,Ck p,λ Z H U M Φ Q r e h k=>?_⟩;refine q Z H U M _ _ r e h λ vs H1 xs M1 r1 st rv hx=>?_;replace hx:=UJ hx;obtain ⟨ds,rfl,hz',hx⟩:=hx;have hz:ds.length <= sizeLine:=by rw [sizeLine_eq]; lia
 have hd:=rv.ZdI;refine ⟨by rw [hd.length]; exact hz,λ p hp=>?_⟩;exact k.dat (r1.new hp) (st.trans (Step.new hp)) (Dt.VW r1 hp hd) hx
theorem Qs (h:DA X es t):DE X (.List es pos) (Zan t):=by
 obtain ⟨u,p,q⟩:=h;refine ⟨_,Ck p,λ Z H U M Φ Q r e h k=>?_⟩;refine q Z H U M _ _ r e h λ vs H1 xs M1 r1 st rv hx=>?_;replace hx:=UJ hx;obtain ⟨ds,rfl,hz',hx⟩:=hx;have hz:ds.length <= sizeLine:=by rw [sizeLine_eq]; lia
 have hd:=rv.ZdI;refine ⟨by rw [hd.length]; exact hz,λ p hp=>?_⟩;exact k _ _ (.own p) _ (r1.Vb (Step.Ja hp) hd) (st.trans (Step.Ja hp)) rfl (hx p (r1.tracked hp))
def ZfM (t:DTE):DTE:=λ U M Φ=>t U M λ x M1=>onO x λ l=>Vr (M1 l) λ ds=>Φ (.dat (.list ds)) (Vl M1 l)
theorem Fc (h:DE X e te):DE X e (ZfM te):=by
 obtain ⟨u,p,q⟩:=h;refine ⟨u,p,λ Z H U M Φ Q r e h k=>?_⟩;refine q Z H U M _ _ r e h λ v H1 x M1 r1 st rv hx=>?_;replace hx:=Z9 hx;obtain ⟨l,rfl,hx⟩:=hx;replace hx:=QK hx;obtain ⟨ds,hm,hx⟩:=hx;obtain ⟨vs,e1,e2⟩:=r1.ls l ds hm;cases (show v = .ref l from rv);exact k.dat r1.frz (st.trans Step.frz) (Dt.lst (.inl ⟨Vk,.inl e1⟩) (e2.step Step.frz)) hx
def BM:List PyData->Nat->(PyData->Prop)->Prop
 | [],_,_=>False
 | d :: _,0,P=>P d
 | _ :: r,n + 1,P=>BM r n P
def Y5 (ds:List PyData) (i:Int) (P:PyData->Prop):Prop:=match i with
 | Int.ofNat n=>BM ds n P
 | Int.negSucc n=>BM ds.reverse n P
theorem X6:∀ {ds:List PyData} {n:Nat} {P:PyData->Prop},BM ds n P->∃ d,ds[n]? = some d /\ P d
 | [],_,_,h=>h.elim
 | d :: _,0,_,h=>⟨d,rfl,h⟩
 | _ :: r,n + 1,_,h=>by
  obtain ⟨d,e,hp⟩:=X6 (ds:=r) (n:=n) h;exact ⟨d,by rw [List.getElem?_cons_succ]; exact e,hp⟩
theorem XX:∀ {ds:List PyData} {n:Nat} {P:PyData->Prop} {d:PyData},ds[n]? = some d->P d->BM ds n P
 | [],_,_,_,e,_=>by simp at e
 | d :: _,0,_,_,e,h=>by simp at e; subst e; exact h
 | _ :: r,n + 1,_,_,e,h=>XX (ds:=r) (n:=n) (by rw [List.getElem?_cons_succ] at e; exact e) h
theorem P9 {i:Int} {P:PyData->Prop} (h:Y5 ds i P):∃ d,atI ds i = some d /\ P d:=by
 unfold Y5 at h
 split at h
 ·rename_i n;replace h:=X6 h;obtain ⟨d,e,hp⟩:=h;exact ⟨d,Vm e,hp⟩
 ·rename_i n;replace h:=X6 h;obtain ⟨d,e,hp⟩:=h;refine ⟨d,?_,hp⟩;have hl:=(List.getElem?_eq_some_iff.mp e).1;rw [List.length_reverse] at hl;rw [List.getElem?_reverse hl] at e;unfold L2.atI ixN;have e1:¬ (0 <= Int.negSucc n):=by lia
  rw [if_neg e1];have e2:-(ds.length:Int) <= Int.negSucc n:=by lia
  rw [if_pos e2];have e3:(Int.negSucc n + (ds.length:Int)).toNat = ds.length - 1 - n:=by lia
  simp only [e3];exact e
theorem Q5 {i:Int} {P:PyData->Prop} (e:atI ds i = some d) (h:P d):Y5 ds i P:=by
 unfold L2.atI at e;cases i with
 | ofNat n=>
  have hh:ixN ds.length (Int.ofNat n) = if n < ds.length then some n else none:=by
   unfold ixN;rw [if_pos (show (0:Int) <= Int.ofNat n from Int.natCast_nonneg n)]
   by_cases hn:n < ds.length
   ·rw [if_pos hn,if_pos (show Int.ofNat n < _ by show ((n:Nat):Int) < _; lia)];rfl
   ·rw [if_neg hn,if_neg (show ¬ Int.ofNat n < _ by show ¬ ((n:Nat):Int) < _; lia)]
  rw [hh] at e
  split at e
  ·exact XX (by exact e) h
  ·cases e
 | negSucc n=>
  unfold ixN at e;rw [if_neg (by lia)] at e
  by_cases hn:-(ds.length:Int) <= Int.negSucc n
  ·rw [if_pos hn] at e;have e3:(Int.negSucc n + (ds.length:Int)).toNat = ds.length - 1 - n:=by lia
   simp only [e3] at e;refine XX (d:=d) ?_ h;rw [List.getElem?_reverse (by lia)];exact e
  ·rw [if_neg hn] at e;cases e
theorem B8 (l:List PyData) (a:PyData) (P:PyData->Prop):Y5 (l ++ [a]) (-1) P = P a:=by
 show BM (l ++ [a]).reverse 0 P = P a;rw [List.reverse_append];rfl
def δIx:D2:=λ x y M Φ=>onQ x M λ ds=>onI y λ i=>Y5 ds i λ d=>Φ (.dat d) M
theorem Dts.atI {i:Int} (h:Dts K M H vs ds) (e:L2.atI ds i = some d):∃ v,L2.atI vs i = some v /\ Dt K M H v d:=by
 unfold L2.atI at e ⊢;rw [h.length];cases q:ixN ds.length i with
 | none=>rw [q] at e; cases e
 | some j=>
  rw [q] at e;exact h.get e
theorem Zf {a b:Expr} {ta tb:DTE} (ha:DE X a ta) (hb:DE X b tb) (hs:autoParam (XI b) zz7._auto_1):DE X (.Subscript a b pos) (dOp δIx ta tb):=by
 obtain ⟨ta',pa,qa⟩:=ha;obtain ⟨tb',pb,qb⟩:=hb;refine ⟨_,Rn Dl pa pb hs,Snd.opn qa qb λ v u H x y M Φ Q r rv ru h k=>?_⟩;replace h:=Gj h;obtain ⟨ds,hx,h⟩:=h;replace h:=ZA h;obtain ⟨i,rfl,h⟩:=h;replace h:=P9 h;obtain ⟨d,hd,q⟩:=h;cases ru.int
 rcases hx with rfl | rfl | ⟨l,rfl,hm⟩
 ·obtain ⟨p,xs,rfl,h1,h2⟩:=rv.tup;obtain ⟨w',e1,e2⟩:=h2.atI hd;exact .inr (.inl ⟨p,xs,i,w',rfl,rfl,h1.sq,e1,k.dat r Step.refl e2 q⟩)
 ·obtain ⟨p,xs,rfl,h1,h2⟩:=rv.lst;obtain ⟨w',e1,e2⟩:=h2.atI hd;exact .inl ⟨p,xs,i,w',rfl,rfl,h1.sq,e1,k.dat r Step.refl e2 q⟩
 ·cases (show v = .ref l from rv);obtain ⟨vs,g1,g2⟩:=r.ls l ds hm;obtain ⟨w',e1,e2⟩:=g2.atI hd;exact .inl ⟨l,vs,i,w',rfl,rfl,SqL.of g1,e1,k.dat r Step.refl e2 q⟩
end
abbrev D1:=List DV->Mp->DK->Prop
def JM (X:Cx) (f:Value) (δ:D1):Prop:=∃ r,Q3 X f r /\ ∀ vs H xs M Φ Q,ZE X.K M H->JP X.K M H vs xs->δ xs M Φ->Rch X.K M H Φ Q->r vs H Q
def dCB (δ:D1) (t:DTA):DTE:=λ U M Φ=>t U M λ xs M1=>δ xs M1 Φ
section
variable {t:DTA} {p:Pos} {id:String} {δ:D1}
theorem Zi (hc:JM X (.builtin id) δ) (hg:Gl X x) (hm:X.mg x = none) (hv:bootBuiltins x = some (.builtin id)) (ha:DA X (e :: es) t) (hn:autoParam (x ≠ "__name__") zz1._auto_1) (hdb:autoParam ((x == ("__debug__" : Str)) = false) zz1._auto_1)
  (he:autoParam (starEach (e :: es) X.env = (false,eval e X.env) :: starEach es X.env) zz3._auto_1) (hpl:autoParam ((backTo pos (starEach es X.env)).any (·.1) = false) zz3._auto_1):DE X (.Call (.Name x p) (e :: es) [] pos) (dCB δ t):=by
 obtain ⟨u,p,q⟩:=ha;obtain ⟨r,hr,qr⟩:=hc;refine ⟨_,Hl hr hg hm hv p hn hdb he hpl,λ Z H U M Φ Q r e h k=>?_⟩;exact q Z H U M _ _ r e h λ vs H1 xs M1 r1 st rv hx=>qr vs H1 xs M1 _ _ r1 rv hx (k.step st)
theorem Vc (hc:JM X (.type id) δ) (hg:Gl X x) (hm:X.mg x = none) (hv:bootBuiltins x = some (.type id)) (ha:DA X (e :: es) t) (hn:autoParam (x ≠ "__name__") zz1._auto_1) (hdb:autoParam ((x == ("__debug__" : Str)) = false) zz1._auto_1)
  (he:autoParam (starEach (e :: es) X.env = (false,eval e X.env) :: starEach es X.env) zz3._auto_1) (hpl:autoParam ((backTo pos (starEach es X.env)).any (·.1) = false) zz3._auto_1):DE X (.Call (.Name x p) (e :: es) [] pos) (dCB δ t):=by
 obtain ⟨u,p,q⟩:=ha;obtain ⟨r,hr,qr⟩:=hc;refine ⟨_,El hr hg hm hv p hn hdb he hpl,λ Z H U M Φ Q r e h k=>?_⟩;exact q Z H U M _ _ r e h λ vs H1 xs M1 r1 st rv hx=>qr vs H1 xs M1 _ _ r1 rv hx (k.step st)
theorem Paired.one {α β:Type} {F:α->β->Prop} {l:List α} {b:β} (h:Paired F l [b]):∃ a,l = [a] /\ F a b:=by
 cases h with
 | cons h1 h2=>cases h2; exact ⟨_,rfl,h1⟩
theorem Paired.two {α β:Type} {F:α->β->Prop} {l:List α} {b c:β} (h:Paired F l [b,c]):∃ a a',l = [a,a'] /\ F a b /\ F a' c:=by
 cases h with
 | cons h1 h2=>
  obtain ⟨a,rfl,h3⟩:=Paired.one h2;exact ⟨_,a,rfl,h1,h3⟩
def Zcm:D1:=λ xs M Φ=>on1 xs λ x=>onQ x M λ ds=>Φ (.dat (.int ds.length)) M
theorem Qa:JM X (.builtin "len") Zcm:=by
 refine ⟨_,KN,λ vs H xs M Φ Q r rv h k=>?_⟩;replace h:=ZZ h;obtain ⟨x,rfl,h⟩:=h;replace h:=Gj h;obtain ⟨ds,hx,q⟩:=h;have fin:Q (.int ds.length) H:=k.dat r Step.refl (Dt.int _) q
 rcases hx with rfl | rfl | ⟨l,rfl,hm⟩
 ·obtain ⟨v,rfl,h1⟩:=Paired.one rv;obtain ⟨p,ys,rfl,g1,g2⟩:=Z3.tup h1;exact ⟨p,ys,rfl,.inr g1.sq,by rw [g2.length]; exact fin⟩
 ·obtain ⟨v,rfl,h1⟩:=Paired.one rv;obtain ⟨p,ys,rfl,g1,g2⟩:=Z3.lst h1;exact ⟨p,ys,rfl,.inl g1.sq,by rw [g2.length]; exact fin⟩
 ·obtain ⟨v,rfl,h1⟩:=Paired.one rv;cases (show v = .ref l from h1);obtain ⟨ws,g1,g2⟩:=r.ls l ds hm;exact ⟨l,ws,rfl,.inl (SqL.of g1),by rw [g2.length]; exact fin⟩
def TH:D1:=λ xs M Φ=>on1 xs λ x=>onS x λ z=>z.length <= sizeLine /\ Φ (.dat (.int z.length)) M
def Zb7:D1:=λ xs M Φ=>on1 xs λ x=>onI x λ i=>i.natAbs.log2 < 1920 /\ Φ (.dat (.str (toString i))) M
def Zcc:D1:=λ xs M Φ=>on1 xs λ x=>onI x λ i=>Φ (.dat (.int (if i < 0 then -i else i))) M
theorem NF:JM X (.builtin "abs") Zcc:=by
 refine ⟨_,L7,λ vs H xs M Φ Q r rv h k=>?_⟩;replace h:=ZZ h;obtain ⟨x,rfl,h⟩:=h;replace h:=ZA h;obtain ⟨i,rfl,q⟩:=h;obtain ⟨v,rfl,h1⟩:=Paired.one rv;exact ⟨i,by rw [Z3.int h1],k.dat r Step.refl (Dt.int _) q⟩
def δ2I (g:Int->Int->Int):D1:=λ xs M Φ=>on2 xs λ x y=>onI x λ i=>onI y λ j=>Φ (.dat (.int (g i j))) M
theorem Vs (hc:X.calm = true):JM X (.builtin "max") (δ2I λ i j=>max i j):=by
 refine ⟨_,FN hc,λ vs H xs M Φ Q r rv h k=>?_⟩;replace h:=Zv h;obtain ⟨x,y,rfl,h⟩:=h;replace h:=ZA h;obtain ⟨i,rfl,h⟩:=h;replace h:=ZA h;obtain ⟨j,rfl,q⟩:=h;obtain ⟨v,u,rfl,h1,h2⟩:=Paired.two rv;have e:(if j > i then j else i) = max i j:=by rw [Int.max_def]; split <;> split <;> lia
 exact ⟨i,j,by rw [Z3.int h1,Z3.int h2],by rw [e]; exact k.dat r Step.refl (Dt.int _) q⟩
theorem JQ (hc:X.calm = true):JM X (.builtin "min") (δ2I λ i j=>min i j):=by
 refine ⟨_,CQ hc,λ vs H xs M Φ Q r rv h k=>?_⟩;replace h:=Zv h;obtain ⟨x,y,rfl,h⟩:=h;replace h:=ZA h;obtain ⟨i,rfl,h⟩:=h;replace h:=ZA h;obtain ⟨j,rfl,q⟩:=h;obtain ⟨v,u,rfl,h1,h2⟩:=Paired.two rv;have e:(if j < i then j else i) = min i j:=by rw [Int.min_def]; split <;> split <;> lia
 exact ⟨i,j,by rw [Z3.int h1,Z3.int h2],by rw [e]; exact k.dat r Step.refl (Dt.int _) q⟩
def H0:D1:=λ xs M Φ=>on1 xs λ x=>onQ x M λ ds=>Φ (.dat (.list ds)) M
end
mutual
noncomputable def QA:PyData->Bool
 | .none | .bool _ | .int _ | .str _=>false
 | .list _=>true
 | .tuple xs=>Z2 xs
 | .dict kvs=>Jw kvs
noncomputable def Z2:List PyData->Bool
 | []=>false
 | x :: xs=>QA x || Z2 xs
noncomputable def Jw:List (PyData × PyData)->Bool
 | []=>false
 | (k,v) :: r=>QA k || QA v || Jw r
end
theorem Js:∀ (ks ds:List PyData),ks.length = ds.length->Jw (ks.zip ds) = false->Z2 ds = false
 | [],[],_,_=>by simp [Z2]
 | k :: ks,d :: ds,h,e=>by
  rw [List.zip_cons_cons,Jw] at e;have e':(QA k = false /\ QA d = false) /\ Jw (ks.zip ds) = false:=by simpa using e
  rw [Z2,e'.1.2,Js ks ds (by simpa using h) e'.2]; rfl
 | [],_ :: _,h,_=>by simp at h
 | _ :: _,[],h,_=>by simp at h
section
variable {Z:L2.St}
theorem Wn:∀ {es:List DictEntry} {kvs:List (Key × Value)},Pairs (ZW P w) es kvs->ReadsAll h (es.map (·.key)) (kvs.map λ kv=>kD kv.1) []
 | _,_,.nil=>.nil
 | _,_,.cons (e:=e) (kv:=kv) h1 _ h3=>by
  rw [List.map_cons,List.map_cons];have hk:Reads h e.key (kD kv.1) []:=by
   rcases ZN (k:=kv.1) (v:=e.key) h1 with ⟨i,t,e1,e2⟩ | ⟨x,t,e1,e2⟩
   ·rw [e1,e2]; exact .int i t
   ·rw [e1,e2]; exact .str x t
  exact .cons (as:=[]) (bs:=[]) hk (Wn h3)
theorem Xz:∀ {es:List DictEntry} {kvs:List (Key × Value)},Pairs (ZW P w) es kvs->es.map (·.val) = kvs.map (·.2)
 | _,_,.nil=>rfl
 | _,_,.cons h1 h2 h3=>by rw [List.map_cons,List.map_cons,h2,Xz h3]
theorem KV.vals {kvs:List (Key × V)} {vs:List (Key × Value)} (r:KV kvs vs):Vals (kvs.map (·.2)) (vs.map (·.2)) /\ (kvs.map λ kv=>kD kv.1) = vs.map λ kv=>kD kv.1:=by
 unfold KV at r
 induction r with
 | nil=>exact ⟨.nil,rfl⟩
 | cons h _ ih=>exact ⟨.cons h.2 ih.1,by rw [List.map_cons,List.map_cons,h.1,ih.2]⟩
theorem WX:∀ {ks:List Key} {us:List Value},Vals (ks.map kV) us->ReadsAll h us (ks.map kD) []
 | [],_,r=>by rw [List.map_nil] at r; cases r; exact .nil
 | k :: ks,_,r=>by
  rw [List.map_cons] at r;cases r with
  | cons r1 r2=>
   rw [List.map_cons];refine .cons (as:=[]) (bs:=[]) ?_ (WX r2);cases k with
   | inl i=>obtain ⟨t,rfl⟩:=r1; exact .int i t
   | inr x=>obtain ⟨t,rfl⟩:=r1; exact .str x t
theorem KT.read (I:Inv X pins Z H s) {xs:List (List Key × Addr × Value)} (r:KT H kvs xs) :
  ReadsAll s.heap (xs.map λ x=>Value.ref x.2.1) (kvs.map λ kv=>PyData.tuple (kv.1.map kD)) [] /\ Vals (kvs.map (·.2)) (xs.map λ x=>x.2.2):=by
 induction r with
 | nil=>exact ⟨.nil,.nil⟩
 | @cons p q ps qs h _ ih=>
  obtain ⟨its,r,⟨o,ho,hc,n,hd⟩,_⟩:=I.tuple (SqT.of (K:=X.K) h.2.1);rw [List.map_cons,List.map_cons,List.map_cons,List.map_cons];exact ⟨.cons (as:=[]) (bs:=[]) (.tuple ho hc hd (by simpa using WX r)) ih.1,.cons h.2.2 ih.2⟩
mutual
theorem Dt.reads (I:Inv X pins Z H s):∀ {v:V} {d:PyData},Dt X.K M H v d->∀ {u:Value},RelV v u->∃ as,Reads s.heap u d as /\ (QA d = false->sysModules ∉ as)
 | _,_,.non,_,r=>by cases r; exact ⟨[],.none,λ _ h=>nomatch h⟩
 | _,_,.bl b,_,r=>by cases r; exact ⟨[],.bool b,λ _ h=>nomatch h⟩
 | _,_,.int i,_,r=>by obtain ⟨t,rfl⟩:=r; exact ⟨[],.int i t,λ _ h=>nomatch h⟩
 | _,_,.str x,_,r=>by obtain ⟨t,rfl⟩:=r; exact ⟨[],.str x t,λ _ h=>nomatch h⟩
 | _,_,.tup h1 h2,_,r=>by
  cases r;obtain ⟨its,rv,⟨o,ho,hc,n,hd⟩,_⟩:=I.tuple h1.sq;obtain ⟨as,ra,hs⟩:=Dts.reads I h2 rv;exact ⟨as,.tuple ho hc hd (by simpa using ra),λ h=>hs (by simpa [QA] using h)⟩
 | _,_,.lst h1 h2,_,r=>by
  cases r;obtain ⟨its,rv,⟨o,n,ho,hc,_,hd⟩,_⟩:=I.list h1.sq;obtain ⟨as,ra,hs⟩:=Dts.reads I h2 rv;exact ⟨_,.list ho hc hd (by simpa using ra),λ h=>by simp [QA] at h⟩
 | _,_,.dK (a:=a) (kvs:=kvs) (ds:=ds) h0 h1 h2,_,r=>by
  cases r;obtain ⟨_,hsys,vs,rel,o,es,ep,ho,hc,hd,_,hp,_⟩:=(show Qd X.prog X.w H s.heap a (.dK kvs) from I.hok a _ h1)
  obtain ⟨rv,hk⟩:=KV.vals rel;obtain ⟨bs,rb,hs⟩:=Dts.reads I h2 rv;have hl:(kvs.map λ kv=>kD kv.1).length = ds.length:=by rw [List.length_map,<- h2.length,List.length_map]
  refine ⟨a :: [] ++ bs,.dict (as:=[]) ho hc.1 hd ?_ ?_,λ h=>?_⟩
  ·rw [List.map_fst_zip (Nat.le_of_eq hl),hk];exact Wn hp
  ·rw [List.map_snd_zip (Nat.le_of_eq hl.symm),Xz hp];exact rb
  ·have h':Z2 ds = false:=Js _ _ hl (by rw [QA] at h; exact h);intro hm
   rcases List.mem_cons.mp hm with e | hm
   ·rw [<- e] at hsys;simp at hsys
   ·exact hs h' hm
 | _,_,.dT (a:=a) (kvs:=kvs) (ds:=ds) h0 h1 h2 _,_,r=>by
  cases r;obtain ⟨_,hsys,xs,rel,o,es,ep,ho,hc,hd,he,_⟩:=(show Qd X.prog X.w H s.heap a (.dT kvs) from I.hok a _ h1)
  obtain ⟨rk,rv⟩:=KT.read I rel;obtain ⟨bs,rb,hs⟩:=Dts.reads I h2 rv;have hl:(kvs.map λ kv=>PyData.tuple (kv.1.map kD)).length = ds.length:=by rw [List.length_map,<- h2.length,List.length_map]
  refine ⟨a :: [] ++ bs,.dict (as:=[]) ho hc.1 hd ?_ ?_,λ h=>?_⟩
  ·rw [List.map_fst_zip (Nat.le_of_eq hl),he,List.map_map];exact rk
  ·rw [List.map_snd_zip (Nat.le_of_eq hl.symm),he,List.map_map];exact rb
  ·have h':Z2 ds = false:=Js _ _ hl (by rw [QA] at h; exact h);intro hm
   rcases List.mem_cons.mp hm with e | hm
   ·rw [<- e] at hsys;simp at hsys
   ·exact hs h' hm
 | _,_,.dX (a:=a) (dk:=dk) (d:=d) h0 h1 hsys h3 h4 h5,_,r=>by
  cases r;obtain ⟨hφ,_⟩:=(show Qd X.prog X.w H s.heap a (.ext _) from I.hok a _ h1)
  obtain ⟨o,es,n,u,ho,hc,hd,ek,ev,ru⟩:=h3 s.heap hφ;obtain ⟨as,ra,ha⟩:=Dt.reads I h4 (u:=.ref _) rfl;obtain ⟨bs,rb,hb⟩:=Dt.reads I h5 ru;refine ⟨a :: (as ++ []) ++ (bs ++ []),.dict ho hc hd ?_ ?_,λ h=>?_⟩
  ·rw [ek]; exact .cons ra .nil
  ·rw [ev]; exact .cons rb .nil
  ·have h':QA dk = false /\ QA d = false:=by simpa [QA,Jw] using h
   intro hm;rw [List.append_nil,List.append_nil,List.cons_append] at hm
   rcases List.mem_cons.mp hm with e | hm
   ·rw [<- e] at hsys;simp at hsys
   ·rcases List.mem_append.mp hm with hm | hm
    ·exact ha h'.1 hm
    ·exact hb h'.2 hm
theorem Dts.reads (I:Inv X pins Z H s):∀ {vs:List V} {ds:List PyData},Dts X.K M H vs ds->∀ {us:List Value},Vals vs us->∃ as,ReadsAll s.heap us ds as /\ (Z2 ds = false->sysModules ∉ as)
 | _,_,.nil,_,r=>by cases r; exact ⟨[],.nil,λ _ h=>nomatch h⟩
 | _,_,.cons (d:=d) (ds:=ds) h1 h2,_,r=>by
  cases r with
  | cons r1 r2=>
   obtain ⟨as,ra,ha⟩:=Dt.reads I h1 r1;obtain ⟨bs,rb,hb⟩:=Dts.reads I h2 r2;refine ⟨as ++ bs,.cons ra rb,λ h hm=>?_⟩;have h':QA d = false /\ Z2 ds = false:=by simpa [Z2] using h
   rcases List.mem_append.mp hm with hm | hm
   ·exact ha h'.1 hm
   ·exact hb h'.2 hm
end
end
structure Shw (d:PyData):Prop where
 s:d.showable = true
 m:(d.hasDict && QA d) = false
 dp:d.depth <= 64
 z:d.shown.length <= sizeLine
def ZcZ:D1:=λ xs M Φ=>on1 xs λ x=>onD x λ d=>Shw d /\ Φ (.dat (.str d.shown)) M
noncomputable def tyN:PyData->String
 | .none => "NoneType"
 | .bool _ => "bool"
 | .int _ => "int"
 | .str _ => "str"
 | .list _ => "list"
 | .tuple _ => "tuple"
 | .dict _ => "dict"
theorem ED:Q3 X (.builtin "isinstance") (λ xs H Q=>∃ v d M T b,xs = [v,.ty T] /\ Dt X.K M H v d /\ PySem.W.kitOne X.K (.type (tyN d)) (.type T) = some b /\ Q (.bl b) H):=by
 intro pins s Z H xs us Q I r h;obtain ⟨v,d,M,T,b,rfl,hd,e,q⟩:=h;obtain ⟨u,w',rfl,ru,rt⟩:=vals2 r;cases (show w' = Value.type T from rt);have fin:∀ tk,EP X pins Z Q (.bool b) { s with toks:=tk }:=λ tk=>⟨.bl b,H,I.tok tk,rfl,q⟩;cases hd with
 | non=>cases ru; exact PySem.W.kia_one PySem.W.kitx_none I.kIn True.intro e (λ z=>nomatch z) fin
 | bl y=>cases ru; exact PySem.W.kia_one PySem.W.kitx_bool I.kIn True.intro e (λ z=>nomatch z) fin
 | int i=>obtain ⟨t,rfl⟩:=ru; exact PySem.W.kia_one PySem.W.kitx_int I.kIn True.intro e (λ z=>nomatch z) fin
 | str y=>obtain ⟨t,rfl⟩:=ru; exact PySem.W.kia_one PySem.W.kitx_str I.kIn True.intro e (λ z=>nomatch z) fin
 | tup h1 _=>
  cases ru;obtain ⟨_,_,⟨o,ho,hc,_⟩,_⟩:=I.tuple h1.sq;exact PySem.W.kia_one PySem.W.kitx_tuple I.kIn ⟨o,ho,hc⟩ e (λ z=>nomatch z) fin
 | lst h1 _=>
  cases ru;obtain ⟨_,_,⟨o,n,ho,hc,_⟩,_⟩:=I.list h1.sq;exact PySem.W.kia_one PySem.W.kitx_list I.kIn ⟨o,ho,hc⟩ e (λ z=>nomatch z) fin
 | dK _ h1 _=>
  cases ru;obtain ⟨_,_,vs,_,p⟩:=(show Qd X.prog X.w H s.heap _ (.dK _) from I.hok _ _ h1)
  obtain ⟨o,es,ep,g1,g2,_⟩:=p;exact PySem.W.kia_one PySem.W.kitx_dict I.kIn ⟨o,g1,g2.1⟩ e (λ z=>nomatch z) fin
 | dT _ h1 _ _=>
  cases ru;obtain ⟨_,_,xs,_,o,es,ep,g1,g2,_⟩:=(show Qd X.prog X.w H s.heap _ (.dT _) from I.hok _ _ h1)
  exact PySem.W.kia_one PySem.W.kitx_dict I.kIn ⟨o,g1,g2.1⟩ e (λ z=>nomatch z) fin
 | dX _ h1 _ h3 _ _=>
  cases ru;obtain ⟨hφ,_⟩:=(show Qd X.prog X.w H s.heap _ (.ext _) from I.hok _ _ h1)
  obtain ⟨o,es,n,u,ho,hc,_⟩:=h3 s.heap hφ;exact PySem.W.kia_one PySem.W.kitx_dict I.kIn ⟨o,ho,hc⟩ e (λ z=>nomatch z) fin
noncomputable def ZG (T:String) (d:PyData):Bool:=tyN d == T || (T == "int" && tyN d == "bool")
theorem SN (K:Fk) (d:PyData):PySem.W.kitOne K (.type (tyN d)) (.type "int") = some (ZG "int" d):=by cases d <;> rfl
theorem Gv (K:Fk) (d:PyData):PySem.W.kitOne K (.type (tyN d)) (.type "bool") = some (ZG "bool" d):=by cases d <;> rfl
theorem kit_tuple (K:Fk) (d:PyData):PySem.W.kitOne K (.type (tyN d)) (.type "tuple") = some (ZG "tuple" d):=by cases d <;> rfl
theorem LR (K:Fk) (d:PyData):PySem.W.kitOne K (.type (tyN d)) (.type "list") = some (ZG "list" d):=by cases d <;> rfl
def OJ (T:String):D1:=λ xs M Φ=>match xs with | [.dat d,.ty t]=>t = T /\ Φ (.dat (.bool (ZG T d))) M | _=>False
theorem YS {T:String} (ht:∀ d,PySem.W.kitOne X.K (.type (tyN d)) (.type T) = some (ZG T d)):JM X (.builtin "isinstance") (OJ T):=by
 refine ⟨_,ED,λ vs H xs M Φ Q r rv h k=>?_⟩;replace h:∃ d,xs = [.dat d,.ty T] /\ Φ (.dat (.bool (ZG T d))) M:=by
  unfold OJ at h
  split at h
  ·exact ⟨_,by rw [h.1],h.2⟩
  ·exact h.elim
 obtain ⟨d,rfl,q⟩:=h;obtain ⟨v,u,rfl,h1,h2⟩:=Paired.two rv;cases (show u = .ty T from h2);exact ⟨v,d,M,T,_,rfl,h1,ht d,k.dat r Step.refl (Dt.bl _) q⟩
theorem Zac (hu:X.A.units + 64 < cLine):OpR X (compareOp .Eq) (λ x y H Q=>∃ M d e,Dt X.K M H x d /\ Dt X.K M H y e /\ d.canLay0 = true /\ e.canLay0 = true /\ min d.depth e.depth <= 64 /\ Q (.bl (PyData.eqv d e)) H):=by
 intro pins s Z H x y v u Q I rx ry h;obtain ⟨M,d,e,h1,h2,c1,c2,hdp,q⟩:=h;obtain ⟨as,ra,_⟩:=h1.reads I rx;obtain ⟨bs,rb,_⟩:=h2.reads I ry;exact PySem.SeqAt.compareEq_reads ra rb c1 c2 (by lia) ⟨.bl _,H,I,rfl,q⟩
theorem Tw (hu:X.A.units + 64 < cLine):OpR X (compareOp .NotEq) (λ x y H Q=>∃ M d e,Dt X.K M H x d /\ Dt X.K M H y e /\ d.canLay0 = true /\ e.canLay0 = true /\ min d.depth e.depth <= 64 /\ Q (.bl (!PyData.eqv d e)) H):=by
 intro pins s Z H x y v u Q I rx ry h;obtain ⟨M,d,e,h1,h2,c1,c2,hdp,q⟩:=h;obtain ⟨as,ra,_⟩:=h1.reads I rx;obtain ⟨bs,rb,_⟩:=h2.reads I ry;exact PySem.SeqAt.compareNe_reads ra rb c1 c2 (by lia) ⟨.bl _,H,I,rfl,q⟩
noncomputable def Ol (d e:PyData):Bool:=d.canLay0 && e.canLay0 && Nat.ble (min d.depth e.depth) 64
def eqD:PyData->PyData->(Bool->Prop)->Prop
 | .int i,.int j,P=>P (decide (i = j))
 | .str s,.str t,P=>P (decide (s = t))
 | .bool a,.bool b,P=>P (a == b)
 | d,e,P=>Ol d e = true /\ P (PyData.eqv d e)
theorem Ou {e:PyData} {P:Bool->Prop} (h:Ol d e = true) (p:P (PyData.eqv d e)):eqD d e P:=by
 unfold eqD
 split
 ·simp only [PyData.eqv] at p;rw [show decide (_ = _) = (_ == _) from (Bool.beq_eq_decide_eq _ _).symm] at *;exact p
 ·simp only [PyData.eqv] at p;rw [show decide (_ = _) = (_ == _) from (Bool.beq_eq_decide_eq _ _).symm] at *;exact p
 ·simp only [PyData.eqv] at p;exact p
 ·exact ⟨h,p⟩
theorem NM {e:PyData} {P:Bool->Prop} (h:eqD d e P):(d.canLay0 = true /\ e.canLay0 = true /\ min d.depth e.depth <= 64 /\ P (PyData.eqv d e)) \/ ∃ s t,d = .str s /\ e = .str t /\ P (decide (s = t)):=by
 unfold eqD at h
 split at h
 ·refine .inl ⟨by simp [PyData.canLay0],by simp [PyData.canLay0],by simp [PyData.depth],?_⟩;simp only [PyData.eqv];rw [Bool.beq_eq_decide_eq];exact h
 ·exact .inr ⟨_,_,rfl,rfl,h⟩
 ·refine .inl ⟨by simp [PyData.canLay0],by simp [PyData.canLay0],by simp [PyData.depth],?_⟩;simp only [PyData.eqv];exact h
 ·have h1:=h.1;unfold Ol at h1;simp only [Bool.and_eq_true] at h1;exact .inl ⟨h1.1.1,h1.1.2,Nat.le_of_ble_eq_true h1.2,h.2⟩
theorem Zay {f:Value->Value->Sem Value} {r1 r2:R2} (h1:OpR X f r1) (h2:OpR X f r2):OpR X f (λ x y H Q=>r1 x y H Q \/ r2 x y H Q):=
 λ pins s Z H x y v u Q I rx ry h=>h.elim (h1 pins s Z H x y v u Q I rx ry) (h2 pins s Z H x y v u Q I rx ry)
def δEq:D2:=λ x y M Φ=>onD x λ d=>onD y λ e=>eqD d e λ b=>Φ (.dat (.bool b)) M
def δNe:D2:=λ x y M Φ=>onD x λ d=>onD y λ e=>eqD d e λ b=>Φ (.dat (.bool (!b))) M
theorem QY {k:Nat} (hr:JJ k X.A):OpD X (compareOp .Eq) δEq:=
 ⟨_,Zay (Zac hr.units) ZeE,λ v u H x y M Φ Q r rv ru h k=>by
  obtain ⟨d,e1,h⟩:=Qr h;obtain ⟨e,e2,h⟩:=Qr h;subst e1 e2
  rcases NM h with ⟨c1,c2,hdp,q⟩ | ⟨s,t,rfl,rfl,q⟩
  ·exact .inl ⟨M,d,e,rv,ru,c1,c2,hdp,k.dat r Step.refl (Dt.bl _) q⟩
  ·have q':Q (.bl (decide (s = t))) H:=k.dat r Step.refl (Dt.bl _) q;refine .inr ⟨by rw [rv.str,ru.str]; rfl,?_⟩;rw [rv.str,ru.str,Kd,Bool.beq_eq_decide_eq]
   exact q'⟩
theorem Ul {k:Nat} (hr:JJ k X.A):OpD X (compareOp .NotEq) δNe:=
 ⟨_,Zay (Tw hr.units) ZeC,λ v u H x y M Φ Q r rv ru h k=>by
  obtain ⟨d,e1,h⟩:=Qr h;obtain ⟨e,e2,h⟩:=Qr h;subst e1 e2
  rcases NM h with ⟨c1,c2,hdp,q⟩ | ⟨s,t,rfl,rfl,q⟩
  ·exact .inl ⟨M,d,e,rv,ru,c1,c2,hdp,k.dat r Step.refl (Dt.bl _) q⟩
  ·have q':Q (.bl (!decide (s = t))) H:=k.dat r Step.refl (Dt.bl _) q;refine .inr ⟨by rw [rv.str,ru.str]; rfl,?_⟩;rw [rv.str,ru.str,Kd,Bool.beq_eq_decide_eq]
   exact q'⟩
def ZeL:D2:=λ x y M Φ=>onS x λ s=>onS y λ t=>Φ (.dat (.bool (!decide (s = t)))) M
def ZdZ:D2:=λ x y M Φ=>onS x λ s=>onS y λ t=>Φ (.dat (.bool (decide (s = t)))) M
abbrev DTO:=DSt->Mp->(Option Int->Mp->Prop)->Prop
def DO (X:Cx) (e:Option Expr) (τ:DTO):Prop:=∃ t,PO X e t /\ ∀ Z H U M Φ (Q:Option Int->Hp->Prop),ZE X.K M H->Qy X.K M H Z U->τ U M Φ->(∀ o H' M',ZE X.K M' H'->Step M H M' H'->Φ o M'->Q o H')->t Z H Q
def FP:DTO:=λ _ M Φ=>Φ none M
def ZcL (t:DTE):DTO:=λ U M Φ=>t U M λ x M1=>onI x λ i=>Φ (some i) M1
theorem X4:DO X none FP:=⟨_,O0,λ _ H _ M _ _ r _ h k=>k none H M r Step.refl h⟩
theorem Jp (h:DE X e te):DO X (some e) (ZcL te):=by
 obtain ⟨t,p,q⟩:=h;refine ⟨_,RP p,λ Z H U M Φ Q r e h k=>?_⟩;refine q Z H U M _ _ r e h λ v H1 x M1 r1 st rv hx=>?_;replace hx:=ZA hx;obtain ⟨i,rfl,hx⟩:=hx;exact ⟨i,rv.int,k _ H1 M1 r1 st hx⟩
noncomputable def cutD (xs:List PyData) (lo hi:Option Int):List PyData:=(xs.drop (HT.sIx xs.length 0 lo)).take (HT.sIx xs.length xs.length hi - HT.sIx xs.length 0 lo)
theorem Dts.cut (h:Dts K M H vs ds) (lo hi:Option Int):Dts K M H (Oz vs lo hi) (cutD ds lo hi):=by
 unfold Oz cutD;rw [h.length];exact (h.drop _).take _
def ZfN (te:DTE) (tl th:DTO):DTE:=λ U M Φ=>te U M λ x M1=>tl U M1 λ l M2=>th U M2 λ u M3=>onT x λ ds=>¬ (HT.sIx ds.length 0 l = 0 /\ HT.sIx ds.length ds.length u = ds.length) /\ Φ (.dat (.tuple (cutD ds l u))) M3
theorem CK {lo hi:Option Expr} {tl th:DTO} (he:DE X e te) (hl:DO X lo tl) (hu:DO X hi th):DE X (.Subscript e (.Slice lo hi none p2) pos) (ZfN te tl th):=by
 obtain ⟨t1,p1,q1⟩:=he;obtain ⟨t2,p2,q2⟩:=hl;obtain ⟨t3,p3,q3⟩:=hu;refine ⟨_,Gm Zcw p1 p2 p3,λ Z H U M Φ Q r e h k=>?_⟩;refine q1 Z H U M _ _ r e h λ v H1 x M1 r1 st rv hx=>?_;refine q2 Z H1 U M1 _ _ r1 (e.step st) hx λ l H2 M2 r2 st2 hl=>?_;refine q3 Z H2 U M2 _ _ r2 (e.step (st.trans st2)) hl λ u H3 M3 r3 st3 hu=>?_;replace hu:=Xv hu;obtain ⟨ds,rfl,hw,hu⟩:=hu;obtain ⟨a,xs,rfl,h1,h2⟩:=(rv.step (st2.trans st3)).tup;refine ⟨a,xs,rfl,h1.sq,by rw [h2.length]; exact hw,λ p hp=>?_⟩;exact k.dat (r3.new hp) ((st.trans (st2.trans st3)).trans (Step.new hp)) (Dt.Wq r3 hp (h2.cut l u)) hu
end DL
namespace DL
def ZaY:DTS:=λ D U M=>D.nx U M
def ZdE (t u:DTS):DTS:=λ D U M=>t { D with nx:=u D } U M
section
variable {rest:List Stmt} {t u:DTS}
theorem Zs:DSs X [] ZaY:=⟨_,R8,λ Z H U M D E r e h k=>k.nx Z H U M r Step.refl e h⟩
theorem Ze (h1:DS X st t) (h2:DSs X rest u):DSs X (st :: rest) (ZdE t u):=by
 obtain ⟨t1,p1,q1⟩:=h1;obtain ⟨t2,p2,q2⟩:=h2;refine ⟨_,Ml p1 p2,λ Z H U M D E r e h k=>?_⟩;refine q1 Z H U M { D with nx:=u D } { E with nx:=t2 E } r e h ⟨λ σ' H' Δ' M' r' st' e' hn=>?_,k.rt,k.bk,k.ct⟩;exact q2 σ' H' Δ' M' D E r' e' hn (k.step st')
theorem Zg (h1:DS X st t):DSs X [st] t:=by
 obtain ⟨t1,p1,q1⟩:=h1;exact ⟨_,Ru p1,q1⟩
def Zbg:DTS:=λ D U M=>D.bk U M
def Ze1:DTS:=λ D U M=>D.ct U M
def ZcW (te:DTE):DTS:=λ D U M=>te U M λ _ M1=>D.nx U M1
theorem Q1 (he:DE X e te) (hs:autoParam (swapsWith e none pos.line X.env = pure false) zz3._auto_1):DS X (.Expr e pos) (ZcW te):=by
 obtain ⟨t,p,q⟩:=he;refine ⟨_,Sh p hs,λ Z H U M D E r e h k=>?_⟩;exact q Z H U M _ _ r e h λ v H1 x M1 r1 st rv hx=>k.nx Z H1 U M1 r1 st (e.step st) hx
def Zfj (te:DTE):DTS:=λ D U M=>te U M D.rt
theorem Zl (he:DE X e te):DS X (.Return (some e) pos) (Zfj te):=by
 obtain ⟨t,p,q⟩:=he;exact ⟨_,ZcY p,λ Z H U M D E r e h k=>q Z H U M _ _ r e h k.rt⟩
def Zfe:DTS:=λ D _ M=>D.rt (.dat .none) M
def Zde (c:DTT) (t u:DTS):DTS:=λ D U M=>c U M λ b M1=>if b = true then t D U M1 else u D U M1
theorem ZS {c:Expr} {a b:List Stmt} (hc:DT X c tc) (ha:DSs X a t) (hb:DSs X b u):DS X (.If c a b pos) (Zde tc t u):=by
 obtain ⟨t0,p0,q0⟩:=hc;obtain ⟨t1,p1,q1⟩:=ha;obtain ⟨t2,p2,q2⟩:=hb;refine ⟨_,Ze0 p0 p1 p2,λ Z H U M D E r e h k=>?_⟩;refine q0 Z H U M _ _ r e h λ c H1 M1 r1 st hc=>?_;cases c with
 | true=>rw [if_pos rfl]; exact q1 Z H1 U M1 D E r1 (e.step st) (by simpa using hc) (k.step st)
 | false=>rw [if_neg Bool.false_ne_true]; exact q2 Z H1 U M1 D E r1 (e.step st) (by simpa using hc) (k.step st)
abbrev DTG:=DV->DSt->Mp->(DSt->Mp->Prop)->Prop
abbrev BY:=List DV->DSt->Mp->(DSt->Mp->Prop)->Prop
def DG (X:Cx) (tg:Expr) (τ:DTG):Prop:=∃ t,PG X tg t /\ ∀ v Z H x U M Φ (Q:L2.St->Hp->Prop),ZE X.K M H->Qy X.K M H Z U->Z3 X.K M H v x->τ x U M Φ ->
 (∀ σ' H' Δ' M',ZE X.K M' H'->Step M H M' H'->Qy X.K M' H' σ' Δ'->Φ Δ' M'->Q σ' H')->t v Z H Q
def DGs (X:Cx) (ts:List Expr) (τ:BY):Prop:=∃ t,PGs X ts t /\ ∀ vs Z H xs U M Φ (Q:L2.St->Hp->Prop),ZE X.K M H->Qy X.K M H Z U->JP X.K M H vs xs->τ xs U M Φ ->
 (∀ σ' H' Δ' M',ZE X.K M' H'->Step M H M' H'->Qy X.K M' H' σ' Δ'->Φ Δ' M'->Q σ' H')->t vs Z H Q
def VV (i:Nat):DTG:=λ x U M Φ=>Φ (U.set i (some x)) M
theorem Zk (i:Nat) (hN:X.N.Nodup) (hi:autoParam (X.N[i]? = some x) zz3._auto_1) (hx:autoParam (Loc X.env.scope x) zz8._auto_1) (hf:autoParam (X.fn x = true \/ X.env.scope.names.lookup x = some .local) zz0._auto_1) :
  DG X (.Name x pos) (VV i):=
 ⟨_,Co hN hi hx hf,λ v Z H x U M Φ Q r e rv h k=>k _ H _ M r Step.refl (e.set rv) h⟩
def Rl:BY:=λ xs U M Φ=>match xs with | []=>Φ U M | _=>False
def Gd (t:DTG) (u:BY):BY:=λ xs U M Φ=>match xs with | x :: r=>t x U M λ Δ' M'=>u r Δ' M' Φ | []=>False
theorem Z6:DGs X [] Rl:=⟨_,OM,λ vs Z H xs U M Φ Q r e rv h k=>by
 cases xs with
 | cons x r=>exact h.elim
 | nil=>
 have h2:Φ U M:=h;cases rv
 exact ⟨rfl,k Z H U M r Step.refl e h2⟩⟩
theorem Zr {t:DTG} {u:BY} (h1:DG X e t) (h2:DGs X es u)
  (hs:autoParam ((assignEach (e :: es) X.env).map (·.2) = assign e X.env :: (assignEach es X.env).map (·.2)) zz3._auto_1):DGs X (e :: es) (Gd t u):=by
 obtain ⟨t1,p1,q1⟩:=h1;obtain ⟨t2,p2,q2⟩:=h2;refine ⟨_,HK p1 p2 hs,λ vs Z H xs U M Φ Q r e rv h k=>?_⟩;obtain ⟨x,xr,e1,h⟩:∃ x xr,xs = x :: xr /\ t x U M λ Δ' M'=>u xr Δ' M' Φ:=by
  cases xs with
  | nil=>exact h.elim
  | cons x xr=>exact ⟨x,xr,rfl,h⟩
 subst e1;cases rv with
 | cons ra rr=>
  refine ⟨_,_,rfl,q1 _ Z H x U M _ _ r e ra h λ σ' H' Δ' M' r' st e' h'=>?_⟩;exact q2 _ σ' H' xr Δ' M' Φ Q r' e' (JP.step rr st) h' λ σ2 H2 Δ2 M2 r2 st2 e2 hΦ=>k σ2 H2 Δ2 M2 r2 (st.trans st2) e2 hΦ
def FV:Nat->List PyData->(List DV->Prop)->Prop
 | 0,[],P=>P []
 | n + 1,d :: r,P=>FV n r λ xs=>P (.dat d :: xs)
 | 0,_ :: _,_=>False
 | _ + 1,[],_=>False
theorem UC:∀ {n:Nat} {ds:List PyData} {P:List DV->Prop},FV n ds P->ds.length = n /\ P (ds.map DV.dat)
 | 0,[],_,h=>⟨rfl,h⟩
 | n + 1,d :: r,P,h=>by
  obtain ⟨a,b⟩:=UC (n:=n) (ds:=r) h;exact ⟨by rw [List.length_cons,a],b⟩
 | 0,_ :: _,_,h=>h.elim
 | _ + 1,[],_,h=>h.elim
def ZaP (n:Nat) (t:BY):DTG:=λ x U M Φ=>onT x λ ds=>FV n ds λ xs=>t xs U M Φ
theorem Dts.Pc:∀ {vs:List V} {ds:List PyData},Dts K M H vs ds->JP K M H vs (ds.map DV.dat)
 | _,_,.nil=>.nil
 | _,_,.cons h1 h2=>.cons h1 (Dts.Pc h2)
theorem QO {k:Nat} {t:BY} (hc:X.calm = true) (h:DGs X es t) (hn:autoParam ((assignEach es X.env).length = n) zz3._auto_1) (hst:autoParam ((assignEach es X.env).findIdx? (·.1) = none) zz3._auto_1):DG X (.Tuple es k pos) (ZaP n t):=by
 obtain ⟨t1,p1,q1⟩:=h;refine ⟨_,TX hc p1 hn hst,λ v Z H x U M Φ Q r e rv h k=>?_⟩;replace h:=Xv h;obtain ⟨ds,rfl,h⟩:=h;replace h:=UC h;obtain ⟨hl,h⟩:=h;obtain ⟨a,xs,rfl,h1,h2⟩:=rv.tup;exact ⟨a,xs,rfl,h1.sq,by rw [h2.length]; exact hl,q1 xs Z H _ U M Φ Q r e h2.Pc h k⟩
def Zb9 (to ti:DTE):DTG:=λ x U M Φ=>to U M λ o M1=>ti U M1 λ i M2=>onO o λ l=>onI i λ k=>onD x λ d=>Vr (M2 l) λ ds=>∃ j,ixN ds.length k = some j /\ Φ U (ZD M2 l (.lst (ds.set j d)))
theorem Oa {o i:Expr} {to ti:DTE} (ho:DE X o to) (hi:DE X i ti)
  (ha:∀ v,assign (.Subscript o i pos) X.env v = (do
   let ov <- holding [v] (eval o X.env)
   let iv <- holding [v,ov] (eval i X.env)
   standAt pos
   holding [v,ov,iv] (setItem ov iv v)
   release [v,ov,iv] []):=by intro _; rfl):DG X (.Subscript o i pos) (Zb9 to ti):=by
 obtain ⟨t1,p1,q1⟩:=ho;obtain ⟨t2,p2,q2⟩:=hi;refine ⟨_,Zbw p1 p2 set_list ha,λ v Z H x U M Φ Q r e rv h k=>?_⟩;refine Snd.bin q1 q2 r e h λ w1 w2 H2 o' i' M2 r2 st ro ri hs=>?_;replace hs:=Z9 hs;obtain ⟨l,rfl,hs⟩:=hs;replace hs:=ZA hs;obtain ⟨kk,rfl,hs⟩:=hs;replace hs:=Qr hs;obtain ⟨d,rfl,hs⟩:=hs;replace hs:=QK hs;obtain ⟨ds,hm,j,hj,hΦ⟩:=hs;obtain ⟨vs,g1,g2⟩:=r2.ls l ds hm;cases (show w1 = .ref l from ro);have rv2:Dt X.K M2 H2 v d:=Dt.step st rv;have st2:Step M2 H2 (ZD M2 l (.lst (ds.set j d))) (upd H2 l (.lst (vs.set j v))):=Step.Yd hm;refine ⟨l,vs,kk,j,rfl,ri.int,g1,by rw [g2.length]; exact hj,?_⟩;exact k Z _ U _ (r2.Vb st2 (g2.set rv2 j)) (st.trans st2) (e.step (st.trans st2)) hΦ
def S2 (te:DTE) (g:DTG):DTS:=λ D U M=>te U M λ x M1=>g x U M1 D.nx
theorem Jh {g:DTG} (he:DE X e te) (hg:DG X tg g) (hs:autoParam (swapsWithSole [tg] e pos.line X.env = pure false) zz3._auto_1) (hw:autoParam (swappedStores [tg] e X.env = pure none) zz3._auto_1)
  (h1:autoParam ((assignEach [tg] X.env).map (·.2) = [assign tg X.env]) zz3._auto_1):DS X (.Assign [tg] e pos) (S2 te g):=by
 obtain ⟨t1,p1,q1⟩:=he;obtain ⟨t2,p2,q2⟩:=hg;refine ⟨_,Ti p1 p2 hs hw h1,λ Z H U M D E r e h k=>?_⟩;refine q1 Z H U M _ _ r e h λ v H1 x M1 r1 st rv hx=>?_;exact q2 v Z H1 x U M1 _ _ r1 (e.step st) rv hx λ σ' H' Δ' M' r' st' e' hn=>k.nx σ' H' Δ' M' r' (st.trans st') e' hn
theorem Zq (i:Nat) (hN:X.N.Nodup) (he:DE X e te) (hi:autoParam (X.N[i]? = some x) zz3._auto_1) (hx:autoParam (Loc X.env.scope x) zz8._auto_1) (hs:autoParam (swapsWith e (some (.Name x pos')) pos.line X.env = pure false) zz3._auto_1)
  (hf:autoParam (X.fn x = true \/ X.env.scope.names.lookup x = some .local) zz0._auto_1):DS X (.Assign [.Name x pos'] e pos) (S2 te (VV i)):=by
 obtain ⟨t1,p1,q1⟩:=he;refine ⟨_,ZcO hN hi hx p1 hs hf,λ Z H U M D E r e h k=>?_⟩;refine q1 Z H U M _ _ r e h λ v H1 x M1 r1 st rv hx=>?_;exact k.nx _ H1 _ M1 r1 st ((e.step st).set rv) hx
def CU (to te:DTE):DTE:=λ U M Φ=>to U M λ x M1=>onO x λ l=>Vr (M1 l) λ _=>te U M1 λ y M2=>onD y λ d=>Vr (M2 l) λ ds=>ds.length < sizeLine /\ Φ (.dat .none) (ZD M2 l (.lst (ds ++ [d])))
theorem QX {o:Expr} {to:DTE} {apos cpos:Pos} (ho:DE X o to) (he:DE X e te) (hbase:autoParam (attributeBase o "append" X.env (eval o X.env) = eval o X.env) zz3._auto_1)
  (hfew:((backTo cpos (starEach [e] X.env)).all (λ x=>!x.1) && (backToKw cpos (keywordEach [] X.env)).all (λ x=>x.1.isSome)
   && decide ([e].length + ([]:List Keyword).length + (if ([]:List Keyword).isEmpty then 0 else 1) < 30)) = true:=by rfl)
  (hline:autoParam ((apos.endLine == cpos.line) = true) zz3._auto_1) (hs:autoParam (starEach [e] X.env = (false,eval e X.env) :: starEach [] X.env) zz3._auto_1) (hplain:autoParam ((backTo cpos (starEach [] X.env)).any (·.1) = false) zz3._auto_1) :
  DE X (.Call (.Attribute o "append" apos) [e] [] cpos) (CU to te):=by
 obtain ⟨t1,p1,q1⟩:=ho;obtain ⟨t2,p2,q2⟩:=he;refine ⟨_,ZcS PySem.F.plainAttrs_list PySem.F.slot_list_append PySem.F.type_list_append CZ p1 (W5 p2 DC hs) hbase hfew hline hs hplain,λ Z H U M Φ Q r e h k=>?_⟩;refine q1 Z H U M _ _ r e h λ v H1 x M1 r1 st rv hx=>?_;replace hx:=Z9 hx;obtain ⟨l,rfl,hx⟩:=hx;replace hx:=QK hx;obtain ⟨oo,ho,hx⟩:=hx;cases (show v = .ref l from rv);have ty:tyV X.K "list" (.ref l) H1:=by
  obtain ⟨vs,g1,_⟩:=r1.ls l oo ho;exact .inl ⟨rfl,vs,SqL.of g1⟩
 refine ⟨ty,q2 Z H1 U M1 _ _ r1 (e.step st) hx λ w H2 y M2 r2 st2 rw2 hy=>?_⟩;replace hy:=Qr hy;obtain ⟨d,rfl,hy⟩:=hy;replace hy:=QK hy;obtain ⟨ds,hm,hz,hy⟩:=hy;obtain ⟨vs,g1,g2⟩:=r2.ls l ds hm;have st3:Step M2 H2 (ZD M2 l (.lst (ds ++ [d]))) (upd H2 l (.lst (vs ++ [w]))):=Step.Yd hm;refine ⟨l,vs,w,rfl,rfl,g1,by rw [g2.length]; exact hz,?_⟩;exact k.dat (r2.Vb st3 (g2.append (.cons rw2 .nil))) (st.trans (st2.trans st3)) Dt.non hy
end
section
variable {body:List Stmt} {g:DTG} {tb:DTS}
def WW (g:DTG) (tb:DTS) (D:Qc) (ds:List PyData) (U:DSt) (M:Mp):Prop:=
 ∃ J:Nat->DSt->Mp->Prop,J 0 U M /\ (∀ i d U M,ds[i]? = some d->J i U M->g (.dat d) U M λ Δ2 M2=>tb { D with nx:=J (i + 1),ct:=J (i + 1),bk:=D.nx } Δ2 M2) /\ ∀ U M,J ds.length U M->D.nx U M
def ZcB (te:DTE) (g:DTG) (tb:DTS):DTS:=λ D U M=>te U M λ x M1=>onL x λ ds=>WW g tb D ds U M1
def TU (te:DTE) (g:DTG) (tb:DTS):DTS:=λ D U M=>te U M λ x M1=>onT x λ ds=>WW g tb D ds U M1
theorem Ut (he:DE X iter te) (hg:DG X tg g) (hb:DSs X body tb) (hp:PassesOwn (model X.prog X.w) X.A X.env X.xe) (hc:X.calm = true) (hs:autoParam (∀ x,foldedSetIterable iter X.env x = pure x) zz2._auto_1) :
  DS X (.For tg iter body [] pos) (ZcB te g tb):=by
 obtain ⟨t1,p1,q1⟩:=he;obtain ⟨t2,p2,q2⟩:=hg;obtain ⟨t3,p3,q3⟩:=hb;refine ⟨_,Ws hp hc (Fn p1) p2 p3 hs,λ Z H U M D E r e h k=>?_⟩;refine q1 Z H U M _ _ r e h λ v H1 x M1 r1 st rv hx=>?_;replace hx:=Kr hx;obtain ⟨ds,rfl,J,j0,jt,jd⟩:=hx;obtain ⟨a,xs,rfl,h1,h2⟩:=rv.lst
 refine ⟨a,rfl,⟨xs,h1.sq⟩,F6 (xs:=xs) (λ i Z H=>∃ U M,ZE X.K M H /\ Step M1 H1 M H /\ Qy X.K M H Z U /\ J i U M) ⟨U,M1,r1,Step.refl,e.step st,j0⟩
  (λ i Z H _ ⟨U,M,_,st',_,_⟩=>(h1.step st').sq) (λ i y Z H hi ⟨U,M,r',st',e',j⟩=>?_) (λ Z H ⟨U,M,r',st',e',j⟩=>?_)⟩
 ·obtain ⟨d,hd,hy⟩:=h2.O2 hi;refine q2 y Z H (.dat d) U M _ _ r' e' (Dt.step st' hy) (jt i d U M hd j) λ σ2 H2 Δ2 M2 r2 st2 e2 hb2=>?_;refine q3 σ2 H2 Δ2 M2 _ _ r2 e2 hb2 ?_;have s12:Step M1 H1 M2 H2:=st'.trans st2
  exact ⟨λ σ' H' Δ' M' a b c d=>⟨Δ',M',a,s12.trans b,c,d⟩,k.rt.step (st.trans s12),λ σ' H' Δ' M' a b c d=>k.nx σ' H' Δ' M' a ((st.trans s12).trans b) c d,
   λ σ' H' Δ' M' a b c d=>⟨Δ',M',a,s12.trans b,c,d⟩⟩
 ·rw [h2.length] at j;exact k.nx Z H U M r' (st.trans st') e' (jd U M j)
theorem WH (he:DE X iter te) (hg:DG X tg g) (hb:DSs X body tb) (hp:PassesOwn (model X.prog X.w) X.A X.env X.xe) (hc:X.calm = true) (hs:autoParam (∀ x,foldedSetIterable iter X.env x = pure x) zz2._auto_1) :
  DS X (.For tg iter body [] pos) (TU te g tb):=by
 obtain ⟨t1,p1,q1⟩:=he;obtain ⟨t2,p2,q2⟩:=hg;obtain ⟨t3,p3,q3⟩:=hb;refine ⟨_,Ws hp hc (NZ p1) p2 p3 hs,λ Z H U M D E r e h k=>?_⟩;refine q1 Z H U M _ _ r e h λ v H1 x M1 r1 st rv hx=>?_;replace hx:=Xv hx;obtain ⟨ds,rfl,J,j0,jt,jd⟩:=hx;obtain ⟨a,xs,rfl,h1,h2⟩:=rv.tup
 refine ⟨a,rfl,⟨xs,h1.sq⟩,O3 (xs:=xs) (λ i Z H=>∃ U M,ZE X.K M H /\ Step M1 H1 M H /\ Qy X.K M H Z U /\ J i U M) ⟨U,M1,r1,Step.refl,e.step st,j0⟩
  (λ i Z H _ ⟨U,M,_,st',_,_⟩=>(h1.step st').sq) (λ i y Z H hi ⟨U,M,r',st',e',j⟩=>?_) (λ Z H ⟨U,M,r',st',e',j⟩=>?_)⟩
 ·obtain ⟨d,hd,hy⟩:=h2.O2 hi;refine q2 y Z H (.dat d) U M _ _ r' e' (Dt.step st' hy) (jt i d U M hd j) λ σ2 H2 Δ2 M2 r2 st2 e2 hb2=>?_;refine q3 σ2 H2 Δ2 M2 _ _ r2 e2 hb2 ?_;have s12:Step M1 H1 M2 H2:=st'.trans st2
  exact ⟨λ σ' H' Δ' M' a b c d=>⟨Δ',M',a,s12.trans b,c,d⟩,k.rt.step (st.trans s12),λ σ' H' Δ' M' a b c d=>k.nx σ' H' Δ' M' a ((st.trans s12).trans b) c d,
   λ σ' H' Δ' M' a b c d=>⟨Δ',M',a,s12.trans b,c,d⟩⟩
 ·rw [h2.length] at j;exact k.nx Z H U M r' (st.trans st') e' (jd U M j)
def KJ (g:DTG) (tb:DTS) (D:Qc) (lo:Int) (n:Nat) (U:DSt) (M:Mp):Prop:=
 ∃ J:Nat->DSt->Mp->Prop,J 0 U M /\ (∀ i U M,i < n->J i U M->g (.dat (.int (lo + i))) U M λ Δ2 M2=>tb { D with nx:=J (i + 1),ct:=J (i + 1),bk:=D.nx } Δ2 M2) /\ ∀ U M,J n U M->D.nx U M
theorem Nt {g':TG} {tb':TS} {lo:Int} {n:Nat} (q2:∀ v Z H x U M Φ (Q:L2.St->Hp->Prop),ZE X.K M H->Qy X.K M H Z U->Z3 X.K M H v x->g x U M Φ ->
  (∀ σ' H' Δ' M',ZE X.K M' H'->Step M H M' H'->Qy X.K M' H' σ' Δ'->Φ Δ' M'->Q σ' H')->g' v Z H Q)
  (q3:∀ Z H U M D E,ZE X.K M H->Qy X.K M H Z U->tb D U M->Yv X.K M H D E->tb' E Z H) {D:Qc} {E:Ends} {Z:L2.St} {H:Hp} {U:DSt} {M:Mp} (r:ZE X.K M H) (e:Qy X.K M H Z U) (h:KJ g tb D lo n U M) (k:Yv X.K M H D E) :
  ∃ W:Nat->Nat->L2.St->Hp->Prop,(∃ m,W 0 m Z H) /\ ∀ i m Z H,W i m Z H ->
   ((Itr lo n).stop i H /\ E.nx Z H) \/ ((Itr lo n).go i H /\ ∃ N:L2.St->Hp->Prop,(∀ σ' H',N σ' H'->∃ m',m' < m /\ W (i + 1) m' σ' H') /\ ∀ x H',(Itr lo n).yld i H x H'->g' x Z H' λ σ2 H2=>tb' { E with nx:=N,ct:=N,bk:=E.nx } σ2 H2):=by
 obtain ⟨J,j0,jt,jd⟩:=h;refine D3 (λ i σ' H'=>∃ Δ' M',ZE X.K M' H' /\ Step M H M' H' /\ Qy X.K M' H' σ' Δ' /\ J i Δ' M') ⟨U,M,r,Step.refl,e,j0⟩ (λ i σ1 H1 hi ⟨Δ1,M1,r',st',e',j⟩=>?_) (λ σ1 H1 ⟨Δ1,M1,r',st',e',j⟩=>?_)
 ·refine q2 _ σ1 H1 (.dat (.int (lo + i))) Δ1 M1 _ _ r' e' (Dt.int _) (jt i Δ1 M1 hi j) λ σ2 H2 Δ2 M2 r2 st2 e2 hb2=>?_;refine q3 σ2 H2 Δ2 M2 _ _ r2 e2 hb2 ?_;have s12:Step M H M2 H2:=st'.trans st2
  exact ⟨λ σ' H' Δ' M' a b c d=>⟨Δ',M',a,s12.trans b,c,d⟩,k.rt.step s12,λ σ' H' Δ' M' a b c d=>k.nx σ' H' Δ' M' a (s12.trans b) c d,
   λ σ' H' Δ' M' a b c d=>⟨Δ',M',a,s12.trans b,c,d⟩⟩
 ·exact k.nx σ1 H1 Δ1 M1 r' st' e' (jd Δ1 M1 j)
def InR (j:Int):Prop:=-(2 ^ 62) <= j /\ j < 2 ^ 62
def N2 (ta:DTA) (g:DTG) (tb:DTS):DTS:=λ D U M=>ta U M λ xs M1=>on1 xs λ x=>onI x λ j=>InR j /\ KJ g tb D 0 j.toNat U M1
theorem JW {a:Expr} {p p2:Pos} (hg0:Gl X "range") (hm:X.mg "range" = none) (ha:DA X [a] ta) (hg:DG X tg g) (hb:DSs X body tb) (hp:PassesOwn (model X.prog X.w) X.A X.env X.xe) (hc:X.calm = true)
  (hs:autoParam (starEach [a] X.env = [(false,eval a X.env)]) zz3._auto_1) (hs2:autoParam (∀ x,foldedSetIterable (.Call (.Name "range" p) [a] [] p2) X.env x = pure x) zz2._auto_1):DS X (.For tg (.Call (.Name "range" p) [a] [] p2) body [] pos) (N2 ta g tb):=by
 obtain ⟨t1,p1,q1⟩:=ha;obtain ⟨t2,p2,q2⟩:=hg;obtain ⟨t3,p3,q3⟩:=hb;refine ⟨_,Ws hp hc (K2 hg0 hm p1 hs) p2 p3 hs2,λ Z H U M D E r e h k=>?_⟩;refine q1 Z H U M _ _ r e h λ vs H1 xs M1 r1 st rv hx=>?_;replace hx:=ZZ hx;obtain ⟨x,rfl,hx⟩:=hx;replace hx:=ZA hx;obtain ⟨j,rfl,⟨h1,h2⟩,hx⟩:=hx;obtain ⟨v,rfl,hv⟩:=Paired.one rv;exact ⟨j,by rw [Z3.int hv],h1,h2,Nt q2 q3 r1 (e.step st) hx (k.step st)⟩
def NQ (ta:DTA) (g:DTG) (tb:DTS):DTS:=λ D U M=>ta U M λ xs M1=>on2 xs λ x y=>onI x λ i=>onI y λ j=>(InR i /\ InR j) /\ KJ g tb D i (j - i).toNat U M1
end
abbrev DSp:=List DV->Mp->DK->Prop
def lift (K:Fk) (S:DSp):Sp:=λ vs H Q _=>∃ xs M Φ,ZE K M H /\ JP K M H vs xs /\ S xs M Φ /\ Rch K M H Φ Q
def Pf (S:DSp) (t:DTA):DTE:=λ U M Φ=>t U M λ xs M1=>S xs M1 Φ
section
variable {CX:CXT} {k:Nat} {ps:List Str} {S:DSp} {E:XK} {p:Pos} {t:DTA}
theorem Py (F:Qn X.prog X.w X.K X.mg X.base CX k f fd ps (lift X.K S)) (hr:JJ k X.A) (hg:Gl X x) (hm:X.mg x = some (.ref f)) (hk:PySem.W.keepIn X.K (.ref f) = true) (hb:Binds X.K fd ps []) (hx:Passes CX X E)
  (ha:DA X (e :: es) t) (hdb:autoParam ((x == ("__debug__" : Str)) = false) zz1._auto_1) (he:autoParam (starEach (e :: es) X.env = (false,eval e X.env) :: starEach es X.env) zz3._auto_1) (hpl:autoParam ((backTo pos (starEach es X.env)).any (·.1) = false) zz3._auto_1) :
  DE X (.Call (.Name x p) (e :: es) [] pos) (Pf S t):=by
 obtain ⟨t1,p1,q1⟩:=ha;refine ⟨_,RJ F hr hg hm hk hb .nil hx p1 hdb he hpl,λ Z H U M Φ Q r e h k=>?_⟩;refine q1 Z H U M _ _ r e h λ vs H1 xs M1 r1 st rv hx=>?_;show lift X.K S (vs ++ []) H1 Q E;rw [List.append_nil];exact ⟨xs,M1,Φ,r1,rv,hx,k.step st⟩
end
section
variable {base:Heap}
theorem okD {ps:List Str} {k:Nat} {S:DSp} (F:Fun K x qual st f fd) (Sc:Zp N ps (Zh st)) (len:∀ xs M Φ,S xs M Φ->xs.length = ps.length)
  (hbody:∀ (cdv:Value) (A:Around) (outer:List Env) (s:Shared) (H:Hp) (E:XK),JJ k (A.deeper (envOfC qual (Zh st) s.heap.objs.size f cdv)) ->
   ∃ τ,DSs (Ot CX0 P w K mg base N qual (Zh st) f cdv A outer s H E).nox (QR st) τ /\ ∀ xs M Φ,S xs M Φ->τ { nx:=λ _ M'=>Φ (.dat .none) M',rt:=Φ } (VX N xs) M):Qn P w K mg base CX0 (k + 1) f fd ps (lift K S):=by
 refine F.ok Sc (λ vs H Q E h=>?_) λ cdv A outer s H vs Q E hr h=>?_
 ·obtain ⟨xs,M,Φ,_,rv,hs,_⟩:=h;rw [Paired.length rv];exact len xs M Φ hs
 ·obtain ⟨xs,M,Φ,r,rv,hs,kk⟩:=h;obtain ⟨τ,⟨t,p,q⟩,hτ⟩:=hbody cdv A outer s H E hr;refine ⟨t,p,q (start N vs) H (VX N xs) M _ _ r (Qy.start rv) (hτ xs M Φ hs) ⟨λ σ' H' Δ' M' r' st' e' hn=>?_,kk,λ _ _ _ _ _ _ _ h=>h.elim,λ _ _ _ _ _ _ _ h=>h.elim⟩⟩;exact kk.dat r' st' Dt.non hn
end
section
variable {k v:Expr}
def Zab:DTE:=λ _ M Φ=>Φ (.dat (.dict [])) M
def Wc (x:DV) (P:Key->Prop):Prop:=match x with | .dat (.int i)=>P (.inl i) | .dat (.str s)=>P (.inr s) | _=>False
noncomputable def F9:List PyData->Option (List Key)
 | []=>some []
 | .int i :: r=>(F9 r).map (.inl i :: ·)
 | .str s :: r=>(F9 r).map (.inr s :: ·)
 | _ :: _=>none
def ZeW (ds:List PyData) (P:List Key->Prop):Prop:=match F9 ds with | some ks=>P ks | none=>False
def ZcV (tk tv:DTE):DTE:=λ U M Φ=>tk U M λ x M1=>tv U M1 λ y M2=>Wc x λ k=>onD y λ d=>Φ (.dat (.dict [(kD k,d)])) M2
def Za6 (tk tv tk' tv':DTE):DTE:=λ U M Φ=>tk U M λ x M1=>tv U M1 λ y M2=>tk' U M2 λ x' M3=>tv' U M3 λ y' M4=>Wc x λ k=>onD y λ d=>Wc x' λ k'=>onD y' λ d'=>k ≠ k' /\ Φ (.dat (.dict [(kD k,d),(kD k',d')])) M4
def Ro (tk tv:DTE):DTE:=λ U M Φ=>tk U M λ x M1=>tv U M1 λ y M2=>onT x λ ds=>ZeW ds λ ks=>onD y λ d=>Φ (.dat (.dict [(.tuple (ks.map kD),d)])) M2
theorem SqT.new {o:HO} (h:SqT K H a xs) (hp:H p = none):SqT K (upd H p o) a xs:=by
 rcases h with (h | ⟨ob,h⟩) | h
 ·exact .inl (.inl (by rw [ZH (Zx h hp)]; exact h))
 ·exact .inl (.inr ⟨ob,by rw [ZH (Zx h hp)]; exact h⟩)
 ·exact .inr h
end
mutual
noncomputable def cost:PyData->Nat
 | .none=>4
 | .bool _=>5
 | .int _=>1921
 | .str x=>(reprText x).length
 | .list xs=>VD xs + 2
 | .tuple xs=>VD xs + 3
 | .dict kvs=>KZ kvs + 2
noncomputable def VD:List PyData->Nat
 | []=>0
 | x :: xs=>cost x + 2 + VD xs
noncomputable def KZ:List (PyData × PyData)->Nat
 | []=>0
 | (k,v) :: r=>cost k + 2 + cost v + 2 + KZ r
end
theorem YZ:∀ (ts:List Str) (k:Nat) (acc:Str),(textFrom k acc ts).length <= acc.length + piled ts
 | [],k,acc=>Nat.le_add_right _ _
 | t :: r,k,acc=>by
  have h:=YZ r (k + 1) (acc ++ (if k > 0 then ", " else "" : String) ++ t);have e:(acc ++ (if k > 0 then ", " else "" : String) ++ t).length = acc.length + (if k > 0 then 2 else 0) + t.length:=by
   rw [strLen_append,strLen_append]
   split <;> rfl
  have d1:(if k > 0 then 2 else 0:Nat) <= 2:=by split <;> lia
  rw [e] at h;rw [piled_cons];show (textFrom (k + 1) _ r).length <= _;lia
theorem B2 (ts:List Str):(Str.join ", " ts).length <= piled ts:=by
 by_cases h:ts = []
 ·subst h; exact Nat.le_of_eq rfl
 ·have:=join_length_add ts h;lia
mutual
theorem JA:∀ d:PyData,d.showable = true->d.shown.length <= cost d
 | .none,_=>by simp only [PyData.shown,cost]; exact Nat.le_of_eq rfl
 | .bool b,_=>by
  simp only [PyData.shown,cost];cases b
  ·exact Nat.le_of_eq rfl
  ·exact (by decide:4 <= 5)
 | .int i,h=>by
  simp only [PyData.shown,cost];exact int_text_len_1921 (by simpa [PyData.showable] using h)
 | .str x,_=>by simp only [PyData.shown,cost]; exact Nat.le_refl _
 | .list xs,h=>by
  have h1:=QZ xs (by simpa [PyData.showable] using h);have h2:=YZ (PyData.shownAll xs) 0 "[";have e1:((("[" : String):Str)).length = 1:=rfl;have e2:((("]" : String):Str)).length = 1:=rfl;simp only [PyData.shown,cost];unfold listText;rw [strLen_append,e2];rw [e1] at h2;lia
 | .tuple xs,h=>by
  have h1:=QZ xs (by simpa [PyData.showable] using h);have h2:=B2 (PyData.shownAll xs);have e1:((("(" : String):Str)).length = 1:=rfl;have e3:(((if (PyData.shownAll xs).length == 1 then ",)" else ")" : String):Str)).length <= 2:=by split <;> decide
  simp only [PyData.shown,cost];unfold tupleText;rw [strLen_append,strLen_append,e1];lia
 | .dict kvs,h=>by
  have h1:=VM kvs (by simpa [PyData.showable] using h);have h2:=B2 (PyData.shownKv kvs);have e:(dictText (PyData.shownKv kvs)).length = 1 + (Str.join ", " (PyData.shownKv kvs)).length + 1:=by
   unfold dictText;rw [strLen_append,strLen_append]; rfl
  simp only [PyData.shown,cost];lia
theorem QZ:∀ xs:List PyData,PyData.showableAll xs = true->piled (PyData.shownAll xs) <= VD xs
 | [],_=>by simp only [PyData.shownAll,VD]; exact Nat.le_of_eq rfl
 | x :: xs,h=>by
  have h':x.showable = true /\ PyData.showableAll xs = true:=by simpa [PyData.showableAll] using h
  have h1:=JA x h'.1;have h2:=QZ xs h'.2;simp only [PyData.shownAll,VD];rw [piled_cons];lia
theorem VM:∀ kvs:List (PyData × PyData),PyData.showableKv kvs = true->piled (PyData.shownKv kvs) <= KZ kvs
 | [],_=>by simp only [PyData.shownKv,KZ]; exact Nat.le_of_eq rfl
 | (k,v) :: r,h=>by
  have h':(k.showable = true /\ v.showable = true) /\ PyData.showableKv r = true:=by simpa [PyData.showableKv] using h
  have h1:=JA k h'.1.1;have h2:=JA v h'.1.2;have h3:=VM r h'.2;have e:((k.shown ++ ": " ++ v.shown:Str)).length = k.shown.length + 2 + v.shown.length:=by rw [strLen_append,strLen_append]; rfl
  simp only [PyData.shownKv,KZ];rw [piled_cons,e];lia
end
theorem Shw.of (s:d.showable = true) (m:(d.hasDict && QA d) = false) (dp:d.depth <= 64) (z:cost d <= 1000000):Shw d:=
 ⟨s,m,dp,Nat.le_trans (JA d s) (Nat.le_trans z (by rw [sizeLine_eq]; decide))⟩
structure Own (K:Fk) (mg:Str->Option Value) (x:Str) (st:Stmt) (ps:List Str) (f:Addr) (fd:FuncData):Prop where
 F:Fun K x x st f fd
 m:mg x = some (.ref f)
 b:Binds K fd ps []
def FH:DSp:=λ xs M Φ=>∃ ns:List Int,xs = [.dat (.list (ns.map PyData.int))] /\ ns.length <= 63 /\ ∀ M',Φ (.dat (.bool true)) M'
theorem EH (hl:ns.length <= 63) (_:Zdv H) (hS:SqL K H a (ns.map V.int)):lift K FH [.ref a] H (λ v _=>v = .bl true) λ _ _ _=>False:=by
 refine ⟨[.dat (.list (ns.map PyData.int))],λ _=>none,λ x _=>x = .dat (.bool true),(show ZE K (λ _=>none) H from ⟨λ b o e=>(by cases e)⟩),Paired.cons (Dt.lst ?_ (Dts.ints ns)) Paired.nil,⟨ns,rfl,hl,λ _=>rfl⟩,λ v H' x M' _ _ rv hx=>?_⟩
 ·rcases hS with h | h
  ·exact .inl ⟨rfl,h⟩
  ·exact .inr h
 ·subst hx;exact rv.bool
theorem Fl {α:Type} {l:List α} {i:Int} (h0:0 <= i) (h1:i < l.length):∃ d,atI l i = some d /\ d ∈ l:=by
 have hl:i.toNat < l.length:=by lia
 refine ⟨l[i.toNat],?_,List.getElem_mem hl⟩;have q:atI l ((i.toNat:Nat):Int) = some l[i.toNat]:=Vm (by simp [hl]);rw [show ((i.toNat:Nat):Int) = i by lia] at q;exact q
theorem Tr:ixN 3 0 = some 0:=rfl
theorem Zaf:ixN 3 2 = some 2:=rfl
theorem P5 {j:Int} (h0:0 <= j) (h1:j < ns.length):∃ c:Int,atI (ns.map PyData.int) j = some (.int c):=by
 obtain ⟨d,e,hm⟩:=Fl (l:=ns.map PyData.int) h0 (by rw [List.length_map]; exact h1);obtain ⟨c,_,rfl⟩:=List.mem_map.mp hm;exact ⟨c,e⟩
theorem BC (x:Int) {m:Int} (h:0 < m):0 <= x % m /\ x % m < m:=⟨Int.emod_nonneg _ (by lia),Int.emod_lt_of_pos _ h⟩
def sp1 (f:PyData->Bool):DSp:=λ xs M Φ=>∃ d,xs = [.dat d] /\ Φ (.dat (.bool (f d))) M
theorem Zc2 (k:Int) (h:0 <= k /\ k <= 1000000):Za8 10 k:=⟨h.1,h.2,by decide⟩
theorem YW (h:M a = none):Vl (ZD M a o) a = M:=by
 funext b
 unfold Vl ZD
 split
 ·rename_i e; rw [e,h]
 ·rfl
theorem Zj {p:Prop} [Decidable p] {A B:Prop} (h1:p->A) (h2:¬ p->B):if decide p = true then A else B:=by
 by_cases h:p
 ·rw [decide_eq_true h,if_pos rfl]; exact h1 h
 ·rw [decide_eq_false h,if_neg Bool.false_ne_true]; exact h2 h
noncomputable def FT (env:Env):List (Str × NameKind)->List (Str × Addr)->List (Str × Addr)
 | [],cs=>cs
 | (n,k) :: r,cs=>FT env r (if (k == NameKind.free) = true then (n,(env.cells.lookup n).getD 0) :: cs else cs)
theorem Xd {env:Env} (f:Str × NameKind->List (Str × Addr)->Sem (ForInStep (List (Str × Addr)))):∀ (l:List (Str × NameKind)) (cs:List (Str × Addr)),
  (∀ y ∈ l,∀ cs,f y cs = pure (.yield (if (y.2 == NameKind.free) = true then (y.1,(env.cells.lookup y.1).getD 0) :: cs else cs)))->forIn l cs f = pure (FT env l cs)
 | [],cs,_=>by rw [List.forIn_nil]; rfl
 | (n,k) :: r,cs,h=>by
  rw [List.forIn_cons,h _ List.mem_cons_self,pure_bind];exact Xd f r _ λ y hy=>h y (List.mem_cons_of_mem _ hy)
theorem Yx (h:∀ y ∈ scope.names,y.2 = .free->∃ c,env.cells.lookup y.1 = some c):closureFor scope env = pure (FT env scope.names []):=by
 simp only [closureFor]
 rw [Xd (env:=env) _ scope.names [] (λ y hy cs=>by
  obtain ⟨n,k⟩:=y
  by_cases hk:k = .free
  ·subst hk;obtain ⟨c,e⟩:=h _ hy rfl;have e':env.cells.lookup n = some c:=e;simp only [beq_self_eq_true,if_true,cellOf,e',Option.getD_some,pure_bind]
  ·have:(k == NameKind.free) = false:=by simpa using hk
   simp only [this,Bool.false_eq_true,if_false])]
 rfl
theorem U7:∀ {l:List (Str × NameKind)} {cs:List (Str × Addr)} {x:Str} {c:Addr},(x,c) ∈ FT env l cs->(x,c) ∈ cs \/ ((x,NameKind.free) ∈ l /\ c = (env.cells.lookup x).getD 0)
 | [],_,_,_,h=>.inl h
 | (n,k) :: r,cs,x,c,h=>by
  rcases U7 (l:=r) h with h | ⟨h1,h2⟩
  ·by_cases hk:k = .free
   ·subst hk;rw [if_pos (by simp)] at h
    rcases List.mem_cons.mp h with h | h
    ·cases h;exact .inr ⟨List.mem_cons_self,rfl⟩
    ·exact .inl h
   ·have:(k == NameKind.free) = false:=by simpa using hk
    rw [if_neg (by rw [this]; exact Bool.false_ne_true)] at h;exact .inl h
  ·exact .inr ⟨List.mem_cons_of_mem _ h1,h2⟩
theorem Gh:∀ {l:List (Str × NameKind)} {cs:List (Str × Addr)} {x:Str},((x,NameKind.free) ∈ l \/ ∃ c,(x,c) ∈ cs)->∃ c,(x,c) ∈ FT env l cs
 | [],_,_,h=>h.elim (λ z=>nomatch z) id
 | (n,k) :: r,cs,x,h=>by
  refine Gh (l:=r) ?_
  rcases h with h | ⟨c,h⟩
  ·rcases List.mem_cons.mp h with h | h
   ·cases h;exact .inr ⟨_,by rw [if_pos (by simp)]; exact List.mem_cons_self⟩
   ·exact .inl h
  ·refine .inr ⟨c,?_⟩
   split
   ·exact List.mem_cons_of_mem _ h
   ·exact h
theorem YG {β:Type}:∀ {l:List (Str × β)} {x:Str} {c:β},(x,c) ∈ l->∃ c',l.lookup x = some c'
 | [],_,_,h=>nomatch h
 | (n,d) :: r,x,c,h=>by
  rw [List.lookup_cons];cases e:x == n with
  | true=>exact ⟨d,rfl⟩
  | false=>
   rcases List.mem_cons.mp h with h | h
   ·cases h;simp at e
   ·exact YG h
theorem Qo {names:List (Str × NameKind)} (hf:∀ y ∈ names,y.2 = .free->∃ c,env.cells.lookup y.1 = some c) {c:Addr} (h:(FT env names []).lookup x = some c) :
  env.cells.lookup x = some c /\ (x,NameKind.free) ∈ names:=by
 rcases U7 (PySem.mem_of_lookup h) with h | ⟨h1,h2⟩
 ·exact nomatch h
 ·obtain ⟨c',e⟩:=hf _ h1 rfl;have e':env.cells.lookup x = some c':=e;rw [e',Option.getD_some] at h2;subst h2;exact ⟨e',h1⟩
theorem GS {names:List (Str × NameKind)} (hf:∀ y ∈ names,y.2 = .free->∃ c,env.cells.lookup y.1 = some c) (h:(x,NameKind.free) ∈ names):∃ c,(FT env names []).lookup x = some c /\ env.cells.lookup x = some c:=by
 obtain ⟨c,hm⟩:=Gh (env:=env) (cs:=[]) (.inl h);obtain ⟨c',e⟩:=YG hm;exact ⟨c',e,(Qo hf e).1⟩
noncomputable def ZL (X:Cx) (scope:Scope) (C:Addr) (N:List Str) (ex:List Addr) (s:Shared) (H:Hp):Cx:=
 { X with N:=N,s₀:=s,H₀:=H,env:=compEnvC scope (FT X.env scope.names []) C X.env,outer:=X.stack,ex:=ex,fn:=λ _=>false,pn:=[],xe:=λ _ _=>False }
noncomputable def Jk (ix:List (Option Nat)) (Z:L2.St):L2.St:=ix.map λ o=>o.bind λ i=>(Z[i]?).join
noncomputable def By (ix:List (Option Nat)) (U:DSt):DSt:=ix.map λ o=>o.bind λ i=>(U[i]?).join
structure JF (X:Cx) (scope:Scope) (N:List Str) (ix:List (Option Nat)):Prop where
 kind:scope.kind = .function
 cellF:∀ y ∈ scope.names,y.2 ≠ .cell
 names:∀ y ∈ scope.names,y.2 = .local->scope.names.lookup y.1 = some .local
 free:∀ y ∈ scope.names,y.2 = .free->X.env.kindOf y.1 = some .cell
 len:N.length = ix.length
 cap:∀ (j:Nat) (x:Str) (i:Nat),N[j]? = some x->ix[j]? = some (some i)->X.N[i]? = some x /\ (x,NameKind.free) ∈ scope.names /\ (relabel scope X.env).names.lookup x = some .cell
theorem ET {Z:L2.St} (h:(Jk ix Z)[j]? = some (some v)):∃ i,ix[j]? = some (some i) /\ Z[i]? = some (some v):=by
 unfold Jk at h;rw [List.getElem?_map] at h;cases e:ix[j]? with
 | none=>rw [e] at h; cases h
 | some o=>
  rw [e] at h;cases o with
  | none=>simp at h
  | some i=>
   refine ⟨i,rfl,?_⟩;have h':(Z[i]?).join = some v:=by simpa using h
   cases q:Z[i]? with
   | none=>rw [q] at h'; cases h'
   | some o'=>rw [q] at h'; exact congrArg some h'
theorem Qy.cap {Z:L2.St} (h:Qy K M H Z U) (ix:List (Option Nat)):Qy K M H (Jk ix Z) (By ix U):=by
 refine ⟨by unfold Jk By; rw [List.length_map,List.length_map],λ j x e=>?_⟩;unfold By at e;rw [List.getElem?_map] at e;cases q:ix[j]? with
 | none=>rw [q] at e; cases e
 | some o=>
  rw [q] at e;cases o with
  | none=>simp at e
  | some i=>
   have e':(U[i]?).join = some x:=by simpa using e
   have e2:U[i]? = some (some x):=by
    cases q2:U[i]? with
    | none=>rw [q2] at e'; cases e'
    | some o'=>rw [q2] at e'; exact congrArg some e'
   obtain ⟨v,hv,rv⟩:=h.at' i x e2;refine ⟨v,?_,rv⟩;unfold Jk;rw [List.getElem?_map,q];simp [hv]
section
variable {Z:L2.St} {H2:Hp} {s2:Shared} {C:Addr} {fp:List Addr}
theorem ZaL (ok:JF X scope N ix) (I2:Inv X pins Z H2 s2):∀ y ∈ scope.names,y.2 = .free->∃ c,X.env.cells.lookup y.1 = some c:=λ y hy hk=>I2.ok.has y.1 (.inl (ok.free y hy hk))
theorem Bq (ok:JF X scope N ix) (I2:Inv X pins Z H2 s2) (f2:∀ b ∈ fp,BE X pins H2 b) (ex:∀ b ∈ fp,∃ o,s2.heap.get? b = some o) (hC:s2.heap.objs.size <= C):(ZL X scope C N fp s2 H2).Ok:=by
 have hf:=ZaL ok I2
 refine ⟨I2.ok.mod,ok.kind,I2.ok.glob,I2.ok.blt,hC,λ x y c h1 h2=>I2.ok.inj x y c (Qo hf h1).1 (Qo hf h2).1,λ x hx=>?_,λ x c h=>absurd h Bool.false_ne_true,I2.ok.hd,I2.ok.frames,.inl rfl,λ b hb=>?_,λ b o e=>I2.bs b o e,Nat.le_trans I2.ok.bsz I2.sz,
  λ b o e hb=>?_,λ b hb z=>?_,I2.stack,I2.Cg⟩
 ·have hx':(relabel scope X.env).names.lookup x = some .cell \/ (relabel scope X.env).names.lookup x = some .free:=hx;have key:(x,NameKind.free) ∈ scope.names:=by
   have go:∀ k',(relabel scope X.env).names.lookup x = some k'->(k' = .cell \/ k' = .free)->(x,NameKind.free) ∈ scope.names:=λ k' e hk=>by
    have hm:=PySem.mem_of_lookup e;obtain ⟨⟨n,k⟩,hn,q⟩:=List.mem_map.mp hm
    by_cases hr:(k == NameKind.free && X.env.scope.kind == .function && X.env.kindOf n == some .cell) = true
    ·have q':(n,NameKind.cell) = (x,k'):=by rw [<- q]; simp [hr]
     cases q';have:k = .free:=by simp only [Bool.and_eq_true] at hr; simpa using hr.1.1
     subst this;exact hn
    ·have q':(n,k) = (x,k'):=by rw [<- q]; simp [hr]
     cases q'
     rcases hk with rfl | rfl
     ·exact absurd rfl (ok.cellF _ hn)
     ·exact hn
   rcases hx' with h | h
   ·exact go _ h (.inl rfl)
   ·exact go _ h (.inr rfl)
  obtain ⟨c,h1,_⟩:=GS hf key;exact ⟨c,h1⟩
 ·obtain ⟨o,e⟩:=ex b hb;exact ⟨Nat.ne_of_lt (Nat.lt_of_lt_of_le (Heap.lt_size e) hC),λ x c h=>(f2 b hb).2.2.2.2.1 x c (Qo hf h).1⟩
 ·rcases (f2 b hb).2.2.2.1 with z | z
  ·exact I2.ok.noex b o e z
  ·exact absurd (Nat.lt_of_lt_of_le (Heap.lt_size e) (Nat.le_trans I2.ok.bsz z)) (Nat.lt_irrefl _)
 ·rcases List.mem_cons.mp (I2.Eu b z) with z | z
  ·exact (f2 b hb).2.1 z
  ·exact (f2 b hb).2.2.1 z
theorem GX (ok:JF X scope N ix) (I2:Inv X pins Z H2 s2) (f2:∀ b ∈ fp,BE X pins H2 b) {m:Str->Option Value} (u:Un (frs X.stack) fp H2 H s2.heap s.heap) :
  ∀ (i:Nat) (x:Str) (v:V),N[i]? = some x->(Jk ix Z)[i]? = some (some v)->∃ w,RelV v w /\ Look (ZL X scope C N fp s2 H2).env s.heap m x w:=λ j x v hN hv=>by
 obtain ⟨i,hi,hs⟩:=ET hv;obtain ⟨hx,hm,hr⟩:=ok.cap j x i hN hi;have hk:X.env.kindOf x = some .cell:=ok.free _ hm rfl;obtain ⟨m0,_,hl⟩:=I2.loc;obtain ⟨w,r,l⟩:=hl i x v hx hs (.inr (.inl hk));refine ⟨w,r,.inr ⟨.inl hr,?_⟩⟩
 rcases l with ⟨z,_⟩ | ⟨_,c,e,hc⟩
 ·rw [hk] at z; cases z
 ·obtain ⟨c',h1,h2⟩:=GS (ZaL ok I2) hm;rw [e] at h2;cases h2;refine ⟨c,h1,?_⟩;obtain ⟨o,ho,hd⟩:=hc;obtain ⟨sl,q⟩:=u.any ho (I2.freeC x c e) λ z=>(f2 c z).2.2.2.2.1 x c e rfl;exact ⟨_,q,hd⟩
end
section
variable {prog:Program} {R:Result->Shared->Prop}
theorem Wf {elt target iter:Expr} {ifs:List Expr} {scope:Scope} {pos:Pos} {it acc:Value} {env:Env} (I:Nat->Shared->Prop)
  (turn:∀ n s,I n s->wpAny (model prog w) A (pyNext it) (λ r s₁=>match r with
   | none=>R (.ok .next) s₁
   | some v=>wpAny (model prog w) A (letOwnedTupleGo target it v) (λ _ s₁'=>wpAny (model prog w) A (assign target env v) (λ _ s₂=>
     wpAny (model prog w) A (forIn ifs true λ c r=>if r = true then do let ok <- isTrue c env (eval c env); pure (ForInStep.yield ok) else pure (ForInStep.yield r)) (λ ok s₃=>
      if ok = true then wpAny (model prog w) A (eval elt env) (λ x s₄=>
       wpAny (model prog w) A (call (.builtin "list.append") [acc,x]) (λ _ s₅=>∃ m,m < n /\ I m s₅) (λ _ _=>False) s₄) (λ _ _=>False) s₃
      else ∃ m,m < n /\ I m s₃) (λ _ _=>False) s₂) (λ _ _=>False) s₁') (λ _ _=>False) s₁) (λ _ _=>False) s)
  (n:Nat) (h:I n s):codeAny (model prog w) A (.compLoop (.ListComp elt [⟨target,iter,ifs,0⟩] scope pos) 0 it acc env) R s:=by
 refine codeAny_loop rfl I (λ n s hI=>?_) n h;show wpAny _ A ((compTurn (.ListComp elt [⟨target,iter,ifs,0⟩] scope pos) 0 it acc env).onRaise (λ x=>do noteFrame x env; theTreesLotGoes x)) _ _ s;refine wpAny_noted ?_;rw [compTurn_list];refine wpAny_bind (wpAny_standAt (wpAny_bind (wpAny_mono (turn n s hI) (λ r s₁ h₁=>?_) λ _ _ h'=>h'.elim)));cases r with
 | none=>exact wpAny_pure h₁
 | some v=>
  refine wpAny_bind (wpAny_mono h₁ (λ _ s₁' h₁'=>?_) λ _ _ h'=>h'.elim);refine wpAny_bind (wpAny_mono h₁' (λ _ s₂ h₂=>wpAny_bind (wpAny_mono h₂ (λ ok s₃ h₃=>?_) λ _ _ h'=>h'.elim)) λ _ _ h'=>h'.elim);cases ok with
  | false=>exact wpAny_pure ⟨rfl,h₃⟩
  | true=>
   exact wpAny_bind (wpAny_bind (wpAny_mono h₃ (λ x s₄ h₄=>wpAny_bind (wpAny_mono h₄ (λ _ s₅ h₅=>wpAny_pure (wpAny_pure ⟨rfl,h₅⟩)) λ _ _ h'=>h'.elim)) λ _ _ h'=>h'.elim))
end
def Yl (K:Fk) (J:It) (ds:List PyData) (M:Mp) (H:Hp):Prop:=∀ M2 H2,Step M H M2 H2->∀ i,
 (i < ds.length->J.go i H2 /\ ∀ x H',J.yld i H2 x H'->ZE K M2 H2->ZE K M2 H' /\ Step M2 H2 M2 H' /\ ∃ d,ds[i]? = some d /\ Dt K M2 H' x d) /\ (ds.length <= i->J.stop i H2)
abbrev V7:=DSt->Mp->(List PyData->Mp->Prop)->Prop
def DI (X:Cx) (tg iter:Expr) (src:V7):Prop:=∃ wi,PI X tg iter wi /\ ∀ Z H U M Ψ (R:It->Hp->Prop),ZE X.K M H->Qy X.K M H Z U->src U M Ψ ->
 (∀ J H' M' ds,ZE X.K M' H'->Step M H M' H'->Yl X.K J ds M' H'->Ψ ds M'->R J H')->wi Z H R
def Zf3 (te:DTE):V7:=λ U M Ψ=>te U M λ x M1=>onL x λ ds=>Ψ ds M1
def ZfJ (te:DTE):V7:=λ U M Ψ=>te U M λ x M1=>onT x λ ds=>Ψ ds M1
theorem QS (he:DE X iter te):DI X tg iter (Zf3 te):=by
 obtain ⟨t,p,q⟩:=he;refine ⟨_,Fn p,λ Z H U M Ψ R dr er h k=>?_⟩;refine q Z H U M _ _ dr er h λ v H1 x M1 r1 st rv hx=>?_;replace hx:=Kr hx;obtain ⟨ds,rfl,hΨ⟩:=hx;obtain ⟨a,xs,rfl,h1,h2⟩:=rv.lst;refine ⟨a,rfl,⟨xs,h1.sq⟩,k _ H1 M1 ds r1 st (λ M2 H2 st2 i=>⟨λ hi=>?_,λ hi=>?_⟩) hΨ⟩
 ·have hx:i < xs.length:=by rw [h2.length]; exact hi
  refine ⟨⟨xs,xs[i],(h1.step st2).sq,by simp [hx]⟩,λ x H' y=>?_⟩;obtain ⟨e,y⟩:=y;obtain ⟨d,hd,hy⟩:=(h2.step st2).O2 (y xs (h1.step st2).sq);subst e;exact λ r=>⟨r,Step.refl,d,hd,hy⟩
 ·exact ⟨xs,(h1.step st2).sq,by rw [h2.length]; exact hi⟩
theorem Zcg (he:DE X iter te):DI X tg iter (ZfJ te):=by
 obtain ⟨t,p,q⟩:=he;refine ⟨_,NZ p,λ Z H U M Ψ R dr er h k=>?_⟩;refine q Z H U M _ _ dr er h λ v H1 x M1 r1 st rv hx=>?_;replace hx:=Xv hx;obtain ⟨ds,rfl,hΨ⟩:=hx;obtain ⟨a,xs,rfl,h1,h2⟩:=rv.tup;refine ⟨a,rfl,⟨xs,h1.sq⟩,k _ H1 M1 ds r1 st (λ M2 H2 st2 i=>⟨λ hi=>?_,λ hi=>?_⟩) hΨ⟩
 ·have hx:i < xs.length:=by rw [h2.length]; exact hi
  refine ⟨⟨xs,xs[i],(h1.step st2).sq,by simp [hx]⟩,λ x H' y=>?_⟩;obtain ⟨e,y⟩:=y;obtain ⟨d,hd,hy⟩:=(h2.step st2).O2 (y xs (h1.step st2).sq);subst e;exact λ r=>⟨r,Step.refl,d,hd,hy⟩
 ·exact ⟨xs,(h1.step st2).sq,by rw [h2.length]; exact hi⟩
noncomputable def XY (lo:Int) (n:Nat):List PyData:=(List.range n).map λ (i:Nat)=>PyData.int (lo + (i:Int))
theorem Hu (lo:Int) (n:Nat):(XY lo n).length = n:=by unfold XY; rw [List.length_map,List.length_range]
theorem MI {lo:Int} (h:i < n):(XY lo n)[i]? = some (.int (lo + (i:Int))):=by
 unfold XY;rw [List.getElem?_map,List.getElem?_range h];rfl
theorem FY (lo:Int) (n:Nat):Yl K (Itr lo n) (XY lo n) M H:=λ M2 H2 st2 i=>by
 rw [Hu];refine ⟨λ hi=>⟨hi,λ x H' y=>?_⟩,λ hi=>hi⟩;obtain ⟨e,y⟩:=y;subst y e;exact λ r=>⟨r,Step.refl,_,MI hi,Dt.int _⟩
def ZaW (ta:DTA):V7:=λ U M Ψ=>ta U M λ xs M1=>on1 xs λ x=>onI x λ j=>InR j /\ Ψ (XY 0 j.toNat) M1
theorem FQ {a:Expr} {p:Pos} (hg0:Gl X "range") (hm:X.mg "range" = none) (ha:DA X [a] ta) (hs:autoParam (starEach [a] X.env = [(false,eval a X.env)]) zz3._auto_1):DI X tg (.Call (.Name "range" p) [a] [] p2) (ZaW ta):=by
 obtain ⟨t1,p1,q1⟩:=ha;refine ⟨_,K2 hg0 hm p1 hs,λ Z H U M Ψ R dr er h k=>?_⟩;refine q1 Z H U M _ _ dr er h λ vs H1 xs M1 r1 st rv hx=>?_;replace hx:=ZZ hx;obtain ⟨x,rfl,hx⟩:=hx;replace hx:=ZA hx;obtain ⟨j,rfl,⟨h1,h2⟩,hΨ⟩:=hx;obtain ⟨v,rfl,hv⟩:=Paired.one rv;exact ⟨j,by rw [Z3.int hv],h1,h2,k _ H1 M1 _ r1 st (FY 0 j.toNat) hΨ⟩
def ZeD (ta:DTA):V7:=λ U M Ψ=>ta U M λ xs M1=>on2 xs λ x y=>onI x λ i=>onI y λ j=>(InR i /\ InR j) /\ Ψ (XY i (j - i).toNat) M1
def W0 (ow:Bool) (Φ:DK) (acc:List PyData) (M:Mp):Prop:=match ow with | true=>∀ p,M p = none->Φ (.own p) (ZD M p (.lst acc)) | false=>Φ (.dat (.list acc)) M
def BK (ow:Bool) (src:V7) (ix:List (Option Nat)) (g:DTG) (tc:DTT) (te:DTE):DTE:=λ U M Φ=>src U M λ ds M1=>ds.length <= sizeLine /\ ∃ J:Nat->List PyData->Mp->Prop,J 0 [] M1 /\
 (∀ i d acc M',ds[i]? = some d->J i acc M'->g (.dat d) (By ix U) M' λ Δ2 M2=>tc Δ2 M2 λ b M3=>if b = true then te Δ2 M3 λ y M4=>onD y λ e=>J (i + 1) (acc ++ [e]) M4 else J (i + 1) acc M3) /\
 ∀ acc M',J ds.length acc M'->W0 ow Φ acc M'
def DTs (X:Cx) (ifs:List Expr) (τ:DTT):Prop:=∀ (pins:List (Addr × Obj)) (s:Shared) (Z:L2.St) (H:Hp) (U:DSt) (M:Mp) (Φ:Bool->Mp->Prop),L2.Inv X pins Z H s->ZE X.K M H->Qy X.K M H Z U->τ U M Φ ->
 wpAny (model X.prog X.w) X.A (forIn ifs true λ c r=>if r = true then do let ok <- isTrue c X.env (eval c X.env); pure (ForInStep.yield ok) else pure (ForInStep.yield r))
  (λ b s'=>∃ H' M',L2.Inv X pins Z H' s' /\ ZE X.K M' H' /\ Step M H M' H' /\ Φ b M') X.xe s
def Zfu:DTT:=λ _ M Φ=>Φ true M
theorem Q2:DTs X [] Zfu:=λ pins s Z H U M Φ I dr er h=>wpAny_tests_nil ⟨H,M,I,dr,Step.refl,h⟩
theorem X3 {c:Expr} {τ:DTT} (hc:DT X c τ):DTs X [c] τ:=λ pins s Z H U M Φ I dr er h=>by
 obtain ⟨t,p,q⟩:=hc;refine wpAny_tests_one (thn (p pins s Z H (λ b H'=>∃ M',ZE X.K M' H' /\ Step M H M' H' /\ Φ b M') I (q Z H U M Φ _ dr er h λ b H' M' a c d=>⟨M',a,c,d⟩)) λ b s' h=>?_);obtain ⟨H',I',M',a,c,d⟩:=h;exact ⟨H',M',I',a,c,d⟩
def YlG (K:Fk) (J:It) (ds:List PyData) (G:Mp->Prop) (M:Mp) (H:Hp):Prop:=∀ M2 H2,Step M H M2 H2->ZE K M2 H2->G M2->∀ i,
 (i < ds.length->J.go i H2 /\ ∀ x H',J.yld i H2 x H'->ZE K M2 H2->ZE K M2 H' /\ Step M2 H2 M2 H' /\ ∃ d,ds[i]? = some d /\ Dt K M2 H' x d) /\ (ds.length <= i->J.stop i H2)
abbrev K6:=DSt->Mp->(List PyData->(Mp->Prop)->Mp->Prop)->Prop
def DIG (X:Cx) (tg iter:Expr) (src:K6):Prop:=∃ wi,PI X tg iter wi /\ ∀ Z H U M Ψ (R:It->Hp->Prop),ZE X.K M H->Qy X.K M H Z U->src U M Ψ ->
 (∀ J H' M' ds G,ZE X.K M' H'->Step M H M' H'->YlG X.K J ds G M' H'->Ψ ds G M'->R J H')->wi Z H R
section
set_option maxHeartbeats 2000000
abbrev L1 (ds:List PyData) (G:Mp->Prop) (M1:Mp) (U:DSt) (ix:List (Option Nat)) (g:DTG) (tc:DTT) (te:DTE) (ψ:List PyData->Mp->Prop):Prop:=ds.length <= sizeLine /\ ∃ J:Nat->List PyData->Mp->Prop,(∀ i acc M',J i acc M'->G M') /\ J 0 [] M1 /\
 (∀ i d acc M',ds[i]? = some d->J i acc M'->g (.dat d) (By ix U) M' λ Δ2 M2=>tc Δ2 M2 λ b M3=>if b = true then te Δ2 M3 λ y M4=>onD y λ e=>J (i + 1) (acc ++ [e]) M4 else J (i + 1) acc M3) /\ ∀ acc M',J ds.length acc M'->ψ acc M'
theorem Xj {elt:Expr} {ifs:List Expr} {pos ps:Pos} {src:K6} {g:DTG} {tc:DTT} {te:DTE} {use:Option (Value->Sem Unit)} {QQ:Value->Shared->Prop} {ψ:List PyData->Mp->Prop} (ok:JF X scope N ix) (hi:DIG X tg iter src)
  (hg:∀ C ex s H,DG (ZL X scope C N ex s H) tg g) (ht:∀ C ex s H,DTs (ZL X scope C N ex s H) ifs tc) (he:∀ C ex s H,DE (ZL X scope C N ex s H) elt te) (hc:X.calm = true)
  (hs:∀ x,foldedSetIterable iter X.env x = pure x) {Z:L2.St} {H:Hp} {U:DSt} {M:Mp} {pins:List (Addr × Obj)} {s:Shared} (dr:ZE X.K M H) (er:Qy X.K M H Z U) (h:src U M λ ds G M1=>L1 ds G M1 U ix g tc te ψ) (I:L2.Inv X pins Z H s)
  (hfin:∀ (s4:Shared) (C D:Addr) (H':Hp) (M':Mp) (vs:List V) (acc:List PyData),L2.Inv X pins Z (upd H' D (.lst vs)) s4->H' D = none->ZE X.K M' H'->Step M H M' H'->Dts X.K M' H' vs acc->ψ acc M'->(∃ m,s4.heap.Ns C m)->BE X pins (upd H' D (.lst vs)) C ->
   compPost (model X.prog X.w) X.A X.xe use QQ (.ref D) C (.ok .next) s4) :
  wpAny (model X.prog X.w) X.A (comprehension (.ListComp elt [⟨tg,iter,ifs,0⟩] scope pos) scope X.env ps (newList []) false (eval iter X.env) use) QQ X.xe s:=by
 obtain ⟨wi,pi,qi⟩:=hi;refine wpAny_comprehension_free (use:=use) (cl:=FT X.env scope.names []) rfl hs (Yx (ZaL ok I)) ok.kind ok.names ?_;show wpAny _ _ (eval iter X.env) _ _ s
 refine thn (pi pins s Z H (λ J H'=>∃ M' ds G,ZE X.K M' H' /\ Step M H M' H' /\ YlG X.K J ds G M' H' /\ ds.length <= sizeLine /\ ∃ W:Nat->List PyData->Mp->Prop,(∀ i acc M',W i acc M'->G M') /\ W 0 [] M' /\
   (∀ i d acc M',ds[i]? = some d->W i acc M'->g (.dat d) (By ix U) M' λ Δ2 M2=>tc Δ2 M2 λ b M3=>if b = true then te Δ2 M3 λ y M4=>onD y λ e=>W (i + 1) (acc ++ [e]) M4 else W (i + 1) acc M3) /\
   ∀ acc M',W ds.length acc M'->ψ acc M') I (qi Z H U M _ _ dr er h λ J H' M' ds G a b c d=>⟨M',ds,G,a,b,c,d⟩)) λ x s1 h1=>thn h1 λ itv s2 h2=>?_
 obtain ⟨it,fp,tn,J,H2,e,I2,T,st2,f2,M1,ds,G,dr1,stp,yl,hz,W,wg,w0,wt,wd⟩:=h2;subst e;have exo:∀ b ∈ fp,∃ o,s2.heap.get? b = some o:=λ b hb=>let ⟨o,q,_⟩:=T.obj 0 _ st2 b hb; ⟨o,q⟩;refine wpAny_newObj_type (wpAny_newFunctionEnv ok.cellF (by intro y hy; simp at hy) (λ h₁ hns₁ hsb₁=>?_) ok.kind);dsimp only at hns₁ hsb₁ ⊢;generalize hH2:s2.heap.push { cls:=.type "list",dict:=none,data:=.seq ([]:List Value).toArray } = HH at hns₁ hsb₁ ⊢;have hC:HH.objs.size = s2.heap.objs.size + 1:=by rw [<- hH2,Heap.size_push]
 have hDC:s2.heap.objs.size ≠ HH.objs.size:=by rw [hC]; exact Nat.ne_of_lt (Nat.lt_succ_self _)
 have hCle:s2.heap.objs.size <= HH.objs.size:=by rw [hC]; exact Nat.le_succ _
 have below:∀ b,b < s2.heap.objs.size->b ≠ HH.objs.size /\ b ≠ s2.heap.objs.size:=λ b hb=>⟨by rw [hC]; exact Nat.ne_of_lt (Nat.lt_succ_of_lt hb),Nat.ne_of_lt hb⟩;have old:∀ b o,s2.heap.get? b = some o->h₁.get? b = some o:=λ b o e=>hsb₁.extBut b o (below b (Heap.lt_size e)).1 (Heap.get?_push_of_some _ (hH2 ▸ Heap.get?_push_of_some _ e));have hacc:h₁.get? s2.heap.objs.size = some { cls:=.type "list",data:=.seq ([]:List Value).toArray }:=hsb₁.extBut _ _ hDC (Heap.get?_push_of_some _ (hH2 ▸ Heap.get?_push_size _ rfl));generalize hCC:HH.objs.size = C at *;generalize hDD:s2.heap.objs.size = D at hDC hacc below hCle;have hDs:s2.heap.objs.size <= D:=Nat.le_of_eq hDD;have hCs:s2.heap.objs.size <= C:=by rw [hDD]; exact hCle
 have fD:∀ b ∈ fp,b ≠ D /\ b ≠ C:=λ b hb=>by
  obtain ⟨o,q⟩:=exo b hb;exact ⟨(below b (by rw [<- hDD]; exact Heap.lt_size q)).2,(below b (by rw [<- hDD]; exact Heap.lt_size q)).1⟩
 have okY:(ZL X scope C N fp s2 H2).Ok:=Bq ok I2 f2 exo hCs;have fsD:∀ b ∈ frs X.stack,b < s2.heap.objs.size:=λ b hb=>by
  obtain ⟨_,o,ho,_⟩:=I2.stack.mem hb;exact Heap.lt_size ho
 have cellD:∀ x c,(ZL X scope C N fp s2 H2).env.cells.lookup x = some c->c < s2.heap.objs.size /\ H2 c = none:=λ x c e=>by
  have e':=(Qo (ZaL ok I2) e).1;obtain ⟨v,q⟩:=I2.cell x c e';exact ⟨q.lt,I2.freeC x c e'⟩
 have fpY:∀ {H':Hp} {ps:List (Addr × Obj)},(∀ b ∈ fp,H' b = none)->(∀ p ∈ ps,p.1 = D)->∀ b ∈ fp,BE (ZL X scope C N fp s2 H2) ps H' b:=λ {H' ps} hn hp b hb=>
  ⟨hn b hb,(fD b hb).2,okY.exfs b hb,.inl hb,(okY.exf b hb).2,λ p hp' z=>by
   have q:p ∈ ps:=hp';rw [hp p q] at z
   exact (fD b hb).1 z.symm⟩
 have Yp:∀ (o:Obj),∀ p ∈ [(D,o)],p.1 = D:=λ o p hp=>by
  have q:p = (D,o):=by simpa using hp
  rw [q]
 have reloc:∀ {ps:List (Addr × Obj)} {σ':L2.St} {H':Hp} {s':Shared} {o:Obj},L2.Inv (ZL X scope C N fp s2 H2) ps σ' H' s'->s'.heap.get? D = some o->H' D = none->(∀ v,o.data ≠ .cell v) ->
   L2.Inv (ZL X scope C N fp s2 H2) [(D,o)] (Jk ix Z) H' s':=λ {ps σ' H' s' o} J' hD hn hd=>by
  obtain ⟨m,hm,_⟩:=J'.loc;refine ⟨J'.ok,J'.os,J'.bare,J'.base,⟨m,hm,λ i x v a b _=>GX ok I2 f2 J'.base i x v a b⟩,J'.cell,J'.free,J'.freeC,λ p hp=>?_,J'.hok,?_⟩
  ·have q:p = (D,o):=by
    have z:p ∈ ([]:List (Addr × Obj)) ++ [(D,o)]:=hp
    simpa using z
   subst q;exact ⟨hD,hn,hDC,λ z=>absurd (fsD D z) (Nat.not_lt.mpr hDs),hd⟩
  ·show (Jk ix Z).length = N.length;unfold Jk;rw [List.length_map,ok.len]
 have start:L2.Inv (ZL X scope C N fp s2 H2) [(D,{ cls:=.type "list",data:=.seq ([]:List Value).toArray })] (Jk ix Z) H2 { s2 with heap:=h₁,toks:=s2.toks + ([]:List (Str × Value)).length }:=by
  refine ⟨okY,rfl,I2.bare,Un.kept old,⟨_,hns₁,λ i x v a b _=>GX ok I2 f2 (Un.kept old) i x v a b⟩,λ x c e=>?_,I2.hok.fresh hCs,λ x c e=>(cellD x c e).2,λ p hp=>?_,I2.hok.kept old,?_⟩
  ·obtain ⟨v,o,ho,hd⟩:=I2.cell x c (Qo (ZaL ok I2) e).1;exact ⟨v,o,old c o ho,hd⟩
  ·have q:p = (D,{ cls:=.type "list",data:=.seq ([]:List Value).toArray }):=by
    have z:p ∈ ([]:List (Addr × Obj)) ++ [(D,{ cls:=.type "list",data:=.seq ([]:List Value).toArray })]:=hp
    simpa using z
   subst q;exact ⟨hacc,I2.hok.fresh hDs,hDC,λ z=>absurd (fsD D z) (Nat.not_lt.mpr hDs),λ v z=>nomatch z⟩
  ·show (Jk ix Z).length = N.length;unfold Jk;rw [List.length_map,ok.len]
 have loop:∀ s₃:Shared,s₃ = { s2 with heap:=h₁,toks:=s2.toks + ([]:List (Str × Value)).length } ->
   codeAny (model X.prog X.w) X.A (.compLoop (.ListComp elt [⟨tg,iter,ifs,0⟩] scope pos) 0 (.ref it) (.ref D) (compEnvC scope (FT X.env scope.names []) C X.env)) (compPost (model X.prog X.w) X.A X.xe use QQ (.ref D) C) s₃:=by
  rintro s₃ rfl
  refine Wf (λ n s'=>∃ (i:Nat) (acc:List PyData) (vs:List V) (its:List Value) (nn:Nat) (H':Hp) (M':Mp),L2.Inv (ZL X scope C N fp s2 H2) [(D,{ cls:=.type "list",data:=.seq its.toArray nn })] (Jk ix Z) H' s' /\
   tn i s'.heap /\ (∀ b ∈ fp,H' b = none) /\ ZE X.K M' H' /\ Step M1 H2 M' H' /\ Vals vs its /\ Dts X.K M' H' vs acc /\ W i acc M' /\ i <= ds.length /\ acc.length <= i /\ n = ds.length - i) ?_ ds.length
   ⟨0,[],[],[],0,H2,M1,start,T.keep _ _ _ st2 (λ b _ o e=>old b o e),λ b hb=>(f2 b hb).1,dr1,Step.refl,.nil,.nil,w0,Nat.zero_le _,Nat.le_refl _,rfl⟩
  rintro n s' ⟨i,acc,vs,its,nn,H',M',IY,ti,fr,dr',stp',rv,rd,wi',hil,hal,rfl⟩;have pinD:=IY.pin (D,{ cls:=.type "list",data:=.seq its.toArray nn }) (by simp);have fok:=fpY (ps:=[(D,{ cls:=.type "list",data:=.seq its.toArray nn })]) fr (Yp _);obtain ⟨ygo,ystop⟩:=yl M' H' stp' dr' (wg i acc M' wi') i
  by_cases hlt:i < ds.length
  ·obtain ⟨jgo,jyl⟩:=ygo hlt;refine thn (T.item (ZL X scope C N fp s2 H2) rfl rfl rfl hc i _ s' (Jk ix Z) H' (λ _ _=>False) IY fok ti jgo) λ r s4 ⟨u,hr,h4⟩=>?_;subst hr;refine thn h4 λ _ s5 ⟨x,H5,I5,r5,y5,st5,fr5⟩=>?_;obtain ⟨dr5,stp5,d,hd,hxd⟩:=jyl x H5 y5 dr';replace dr':=dr5;replace stp':=stp'.trans stp5;replace rd:=rd.step stp5;have I5':=I5.pinned (fpY (ps:=[(D,{ cls:=.type "list",data:=.seq its.toArray nn })]) fr5 (Yp _)) (T.obj _ _ st5);obtain ⟨tg',pg,qg⟩:=hg C fp s2 H2
   refine thn (pg _ s5 (Jk ix Z) H5 x u (λ σ6 H6=>∃ Δ6 M6,ZE X.K M6 H6 /\ Step M' H5 M6 H6 /\ Qy X.K M6 H6 σ6 Δ6 /\ tc Δ6 M6 λ b M3=>if b = true then te Δ6 M3 λ y M4=>onD y λ e=>W (i + 1) (acc ++ [e]) M4 else W (i + 1) acc M3) I5' r5
    (qg x (Jk ix Z) H5 (.dat d) (By ix U) M' _ _ dr' ((er.step (stp.trans stp')).cap ix) hxd (wt i d acc M' hd wi') λ σ6 H6 Δ6 M6 a b c d=>⟨Δ6,M6,a,b,c,d⟩)) λ _ s6 ⟨σ6,H6,I6,Δ6,M6,dr6,stp6,er6,q6⟩=>?_
   refine thn (ht C fp s2 H2 _ s6 σ6 H6 Δ6 M6 _ I6 dr6 er6 q6) λ b s7 ⟨H7,M7,I7,dr7,stp7,q7⟩=>?_;have keepD:∀ {σz:L2.St} {Hz:Hp} {sz:Shared},L2.Inv (ZL X scope C N fp s2 H2) ([(D,{ cls:=.type "list",data:=.seq its.toArray nn })] ++ Wd fp s5.heap) σz Hz sz ->
     sz.heap.get? D = some { cls:=.type "list",data:=.seq its.toArray nn } /\ Hz D = none /\ tn (i + 1) sz.heap /\ ∀ b ∈ fp,Hz b = none:=λ {σz Hz sz} Iz=>by
    have a:=Iz.pin (D,{ cls:=.type "list",data:=.seq its.toArray nn }) (by simp);refine ⟨a.1,a.2.1,T.keep _ _ _ st5 λ b hb o e=>(Iz.pin (b,o) (List.mem_append_right _ (List.mem_append_right _ (JD hb e)))).1,λ b hb=>?_⟩;obtain ⟨o,e,_⟩:=T.obj _ _ st5 b hb;exact (Iz.pin (b,o) (List.mem_append_right _ (List.mem_append_right _ (JD hb e)))).2.1
   cases b with
   | false=>
    have q7':W (i + 1) acc M7:=by simpa using q7
    obtain ⟨a1,a2,a3,a4⟩:=keepD I7;have st17:Step M' H5 M7 H7:=stp6.trans stp7;exact ⟨ds.length - (i + 1),by omega,i + 1,acc,vs,its,nn,H7,M7,reloc I7 a1 a2 (λ v z=>nomatch z),a3,a4,dr7,stp'.trans st17,rv,rd.step st17,q7',hlt,by omega,rfl⟩
   | true=>
    have q7':te Δ6 M7 λ y M4=>onD y λ e=>W (i + 1) (acc ++ [e]) M4:=by simpa using q7
    obtain ⟨te',pe',qe'⟩:=he C fp s2 H2
    refine thn (pe' _ s7 σ6 H7 (λ v H8=>∃ e M8,ZE X.K M8 H8 /\ Step M7 H7 M8 H8 /\ Dt X.K M8 H8 v e /\ W (i + 1) (acc ++ [e]) M8) I7 (qe' σ6 H7 Δ6 M7 _ _ dr7 (er6.step stp7) q7' λ v H8 x8 M8 a b c d=>by
     replace d:=Qr d;obtain ⟨e,rfl,w8⟩:=d
     exact ⟨e,M8,a,b,c,w8⟩)) λ y s8 ⟨v,H8,I8,r8,e,M8,dr8,stp8,dv8,w8⟩=>?_
    obtain ⟨a1,a2,a3,a4⟩:=keepD I8;have st18:Step M' H5 M8 H8:=stp6.trans (stp7.trans stp8);have lv:=rv.length;have ld:=rd.length;refine call_meets PySem.F.slot_list_append ⟨_,a1,rfl⟩ PySem.F.entry_list_append (PySem.F.args_list_append_2 _ _) (PySem.list_append D its.toArray nn y (by rw [List.size_toArray]; omega)) ⟨a1,?_⟩;have q:=PySem.IsL.update a1 (·.push y);have I8':L2.Inv (ZL X scope C N fp s2 H2) [] σ6 H8 s8:=I8.YI λ p hp=>nomatch hp;have I9:=I8'.turned (it:=D) (h':=s8.heap.update D (Obj.mapSeq (·.push y))) (t':=s8.toks) (λ b o hb hu=>(Heap.get?_update_other s8.heap (Obj.mapSeq (·.push y)) (Ne.symm hb)).trans hu) a2 hDC (.inr hDs)
     (λ x c e z=>absurd (z ▸ (cellD x c e).1) (Nat.not_lt.mpr hDs)) (λ p hp=>by have z:p ∈ ([]:List (Addr × Obj)) ++ []:=hp; simp at z)
    have ea:(its.toArray.push y) = (its ++ [y]).toArray:=by simp
    rw [ea] at q
    refine ⟨ds.length - (i + 1),by omega,i + 1,acc ++ [e],vs ++ [v],its ++ [y],_,H8,M8,reloc I9 q a2 (λ v z=>nomatch z),T.keep _ _ _ a3 (λ b hb o e=>(Heap.get?_update_other s8.heap (Obj.mapSeq (·.push y)) (Ne.symm (fD b hb).1)).trans e),a4,dr8,stp'.trans st18,
     rv.append (.cons r8 .nil),(rd.step st18).append (.cons dv8 .nil),w8,hlt,by rw [List.length_append,List.length_singleton]; omega,rfl⟩
  ·have hie:i = ds.length:=by omega
   refine thn (T.done (ZL X scope C N fp s2 H2) rfl rfl rfl hc i _ s' (Jk ix Z) H' (λ _ _=>False) IY fok ti (ystop (by omega))) λ r s4 ⟨hr,I4⟩=>?_;subst hr;obtain ⟨m4,hm4,_⟩:=I4.loc;have pD:=I4.pin (D,{ cls:=.type "list",data:=.seq its.toArray nn }) (by simp);have hCn:H' C = none:=I4.free;have hDn:H' D = none:=pD.2.1;have hok4:HOk X.prog X.w (upd H' D (.lst vs)) s4.heap:=λ b u e=>by
    by_cases hb:b = D
    ·subst hb;rw [Z4] at e;cases e;exact ⟨by have:=rv.length; have:=rd.length; omega,its,nn,rv,pD.1⟩
    ·rw [ZH hb] at e;refine (I4.hok b u e).OS (λ c v hc' q=>q) (λ c q=>?_) λ c xs q=>?_
     ·rw [ZH (Zx q pD.2.1)]; exact q
     ·rw [ZH (Zx q pD.2.1)]; exact q
   have bu:Un (frs X.stack) fp H2 H' s2.heap s4.heap:=I4.base;have un4:Un (frs X.stack) fp H2 (upd H' D (.lst vs)) s2.heap s4.heap:=by
    have nD:∀ b o,s2.heap.get? b = some o->b ≠ D /\ b ≠ C:=λ b o e=>⟨λ z=>absurd (z ▸ Heap.lt_size e) (Nat.not_lt.mpr hDs),λ z=>absurd (z ▸ Heap.lt_size e) (Nat.not_lt.mpr hCs)⟩;refine ⟨λ b o e n hb hx=>bu.keep b o e n hb hx,λ b o e n hb hx=>bu.slot b o e n hb hx,λ b o e n hx=>by rw [ZH (nD b o e).1]; exact bu.free b o e n hx,λ b o e hx=>bu.there b o e hx,λ b xs e=>?_,λ b o xs e=>?_,λ b ps e=>?_⟩
    ·have q:=bu.tups b xs e;rw [ZH (Zx q pD.2.1)]; exact q
    ·have q:=bu.frzs b o xs e;rw [ZH (Zx q pD.2.1)]; exact q
    ·obtain ⟨mo,q⟩:=bu.tbls b ps e;exact ⟨mo,by rw [ZH (Zx q pD.2.1)]; exact q⟩
   have os4:s4.os = s2.os:=I4.os;have IX:L2.Inv X pins Z (upd H' D (.lst vs)) s4:=I2.Rp (s':=s4) os4 un4 hok4 I4.bare λ b hb=>⟨(f2 b hb).2.2.2.1,(f2 b hb).2.1,(f2 b hb).2.2.2.2.1,(f2 b hb).2.2.2.2.2⟩;subst hie;exact hfin s4 C D H' M' vs acc IX hDn dr' (stp.trans stp') rd (wd acc M' wi') ⟨m4,hm4⟩ (I2.S9 hCs (by rw [ZH (Ne.symm hDC)]; exact hCn))
 have hst₁:tn 0 h₁:=T.keep _ _ _ st2 λ b _ o e=>old b o e;exact codeAny_compStart_list (loop _ rfl) (T.self _ 0 _ _ _ hst₁ (loop _ rfl))
theorem Zbk {C:Addr} {m:Str->Option Value} (n:h.Ns C m) (k:∀ o,h.get? C = some o->h'.get? C = some o):h'.Ns C m:=by
 obtain ⟨o,es,ep,ho,r⟩:=n;exact ⟨o,es,ep,k o ho,r⟩
theorem gone {Z:L2.St} {C:Addr} (I:L2.Inv X pins Z H s) (f:BE X pins H C) (hsb:Heap.SameBut C s.heap h'):L2.Inv X pins Z H { s with heap:=h' }:=
 I.turned (t':=s.toks) (λ b o hb e=>hsb.extBut b o hb e) f.1 f.2.1 f.2.2.2.1 f.2.2.2.2.1 f.2.2.2.2.2
theorem ZcN {ow:Bool} {Φ:DK} {Q:VK} {D:Addr} {acc:List PyData} (dr':ZE X.K M' H') (st:Step M H M' H') (rd:Dts X.K M' H' vs acc) (hDn:H' D = none) (fin:W0 ow Φ acc M') (k:Rch X.K M H Φ Q):Q (.ref D) (upd H' D (.lst vs)):=by
 cases ow with
 | true=>
  have fin':∀ p,M' p = none->Φ (.own p) (ZD M' p (.lst acc)):=by simpa [W0] using fin
  exact k _ _ (.own D) _ (dr'.Vb (Step.Ja hDn) rd) (st.trans (Step.Ja hDn)) rfl (fin' D (dr'.tracked hDn))
 | false=>
  have fin':Φ (.dat (.list acc)) M':=by simpa [W0] using fin
  exact k.dat (dr'.new hDn) (st.trans (Step.new hDn)) (Dt.VW dr' hDn rd) fin'
def Kt (ow:Bool) (src:K6) (ix:List (Option Nat)) (g:DTG) (tc:DTT) (te:DTE):DTE:=λ U M Φ=>src U M λ ds G M1=>ds.length <= sizeLine /\ ∃ J:Nat->List PyData->Mp->Prop,(∀ i acc M',J i acc M'->G M') /\ J 0 [] M1 /\
 (∀ i d acc M',ds[i]? = some d->J i acc M'->g (.dat d) (By ix U) M' λ Δ2 M2=>tc Δ2 M2 λ b M3=>if b = true then te Δ2 M3 λ y M4=>onD y λ e=>J (i + 1) (acc ++ [e]) M4 else J (i + 1) acc M3) /\ ∀ acc M',J ds.length acc M'->W0 ow Φ acc M'
theorem Mi:type_of% @Kt.eq_1:=λ _ _ _ _ _ _ _ _ _=>qI
theorem Lr (ow:Bool) {elt:Expr} {ifs:List Expr} {pos:Pos} {src:K6} {g:DTG} {tc:DTT} {te:DTE} (ok:JF X scope N ix) (hi:DIG X tg iter src)
  (hg:∀ C ex s H,DG (ZL X scope C N ex s H) tg g) (ht:∀ C ex s H,DTs (ZL X scope C N ex s H) ifs tc) (he:∀ C ex s H,DE (ZL X scope C N ex s H) elt te) (hc:X.calm = true)
  (hs:autoParam (∀ x,foldedSetIterable iter X.env x = pure x) zz2._auto_1):DE X (.ListComp elt [⟨tg,iter,ifs,0⟩] scope pos) (Kt ow src ix g tc te):=by
 refine ⟨λ Z H Q=>∀ pins s,L2.Inv X pins Z H s->wpAny (model X.prog X.w) X.A (eval (.ListComp elt [⟨tg,iter,ifs,0⟩] scope pos) X.env) (EP X pins Z Q) X.xe s,λ pins s Z H Q I h=>h pins s I,λ Z H U M Φ Q dr er h k pins s I=>?_⟩;rw [eval_ListComp];refine Xj (ψ:=W0 ow Φ) ok hi hg ht he hc hs dr er h I λ s4 C D H' M' vs acc IX hDn dr' st rd fin hm f=>?_;obtain ⟨m,hm⟩:=hm;exact ⟨m,hm,λ h' hsb=>⟨.ref D,_,gone IX f hsb,rfl,ZcN dr' st rd hDn fin k⟩⟩
theorem UQ (i:Nat) (ow:Bool) {x:Str} {pos' spos:Pos} (hN:X.N.Nodup) {elt:Expr} {ifs:List Expr} {pos:Pos} {src:K6} {g:DTG} {tc:DTT} {te:DTE} (ok:JF X scope N ix) (hi:DIG X tg iter src)
  (hg:∀ C ex s H,DG (ZL X scope C N ex s H) tg g) (ht:∀ C ex s H,DTs (ZL X scope C N ex s H) ifs tc) (he:∀ C ex s H,DE (ZL X scope C N ex s H) elt te) (hc:X.calm = true)
  (hs:autoParam (∀ x,foldedSetIterable iter X.env x = pure x) zz2._auto_1) (hin:autoParam (X.N[i]? = some x) zz3._auto_1) (hx:autoParam (Loc X.env.scope x) zz8._auto_1)
  (hsw:autoParam (swapsWith (.ListComp elt [⟨tg,iter,ifs,0⟩] scope pos) (some (.Name x pos')) spos.line X.env = pure true) zz3._auto_1)
  (hf:autoParam (X.fn x = true \/ X.env.scope.names.lookup x = some .local) zz0._auto_1) :
  DS X (.Assign [.Name x pos'] (.ListComp elt [⟨tg,iter,ifs,0⟩] scope pos) spos) (S2 (Kt ow src ix g tc te) (VV i)):=by
 refine ⟨λ E Z H=>∀ pins s,L2.Inv X pins Z H s->wpAny (model X.prog X.w) X.A (exec (.Assign [.Name x pos'] (.ListComp elt [⟨tg,iter,ifs,0⟩] scope pos) spos) X.env) (SP X pins E) X.xe s,λ pins s Z H E I h=>h pins s I,λ Z H U M D E dr er h k pins s I=>?_⟩;rw [exec_Assign_Name_used _ _ _ _ hsw];refine wpAny_bind (wpAny_standAt (wpAny_bind ?_));show wpAny _ _ (do let _ <- comprehension (.ListComp elt [⟨tg,iter,ifs,0⟩] scope pos) scope X.env _ (newList []) false (eval iter X.env) (some (assign (.Name x pos') X.env))) _ _ s
 refine wpAny_bind (wpAny_mono (Xj (QQ:=λ _ s'=>SP X pins E .next s') (use:=some (assign (.Name x pos') X.env)) (ψ:=W0 ow λ y M1=>D.nx (U.set i (some y)) M1) ok hi hg ht he hc hs dr er h I λ s4 C DD H' M' vs acc IX hDn dr' st rd fin hm f=>?_)
  (λ _ s' hq=>wpAny_pure (wpAny_pure hq)) λ _ _ e=>e)
 obtain ⟨m,hm⟩:=hm;have hm0:=hm;obtain ⟨oC,es,ep,hoC,hr1,hr2⟩:=hm0;have IP:L2.Inv X (pins ++ [(C,oC)]) Z (upd H' DD (.lst vs)) s4:=IX.YI λ p hp=>by
  rcases List.mem_append.mp hp with hp | hp
  ·exact IX.pin p (List.mem_append_right _ hp)
  ·rw [List.mem_singleton.mp hp];exact ⟨hoC,f.1,f.2.1,f.2.2.1,λ v z=>nomatch (hr1.symm.trans z)⟩
 have nxt:∀ Q':L2.St->Hp->Prop,(Q' (Z.set i (some (.ref DD))) (upd H' DD (.lst vs)))->wpAny (model X.prog X.w) X.A (assign (.Name x pos') X.env (.ref DD)) (λ _ s'=>∃ σ' H',L2.Inv X (pins ++ [(C,oC)]) σ' H' s' /\ Q' σ' H') X.xe s4:=λ Q' hq=>
  Co (pos:=pos') hN hin hx hf _ s4 Z _ (.ref DD) (.ref DD) Q' IP rfl hq
 have kq:E.nx (Z.set i (some (.ref DD))) (upd H' DD (.lst vs)):=by
  cases ow with
  | true=>
   have fin':∀ p,M' p = none->D.nx (U.set i (some (.own p))) (ZD M' p (.lst acc)):=by simpa [W0] using fin
   have st2:Step M H (ZD M' DD (.lst acc)) (upd H' DD (.lst vs)):=st.trans (Step.Ja hDn);exact k.nx _ _ _ _ (dr'.Vb (Step.Ja hDn) rd) st2 ((er.step st2).set (v:=.ref DD) (x:=.own DD) rfl) (fin' DD (dr'.tracked hDn))
  | false=>
   have fin':D.nx (U.set i (some (.dat (.list acc)))) M':=by simpa [W0] using fin
   have st2:Step M H M' (upd H' DD (.lst vs)):=st.trans (Step.new hDn);exact k.nx _ _ _ _ (dr'.new hDn) st2 ((er.step st2).set (v:=.ref DD) (x:=.dat (.list acc)) (Dt.VW dr' hDn rd)) fin'
 show wpAny _ _ (assign (.Name x pos') X.env (.ref DD)) _ _ s4;refine thn (nxt (λ σ' H'=>σ' = Z.set i (some (.ref DD)) /\ E.nx σ' H') ⟨rfl,kq⟩) λ _ s5 ⟨σ5,H5,I5,_,q5⟩=>?_;have p5:=I5.pin (C,oC) (by simp);refine ⟨m,Zbk hm λ o ho=>?_,λ h' hsb=>⟨σ5,H5,?_,q5⟩⟩
 ·rw [hoC] at ho;cases ho;exact p5.1
 ·have I6:L2.Inv X pins σ5 H5 s5:=I5.YI λ p hp=>I5.pin p (List.mem_append_right _ (List.mem_append_left _ hp));exact gone I6 ⟨p5.2.1,f.2⟩ hsb
def toG (src:V7):K6:=λ U M Ψ=>src U M λ ds M1=>Ψ ds (λ _=>True) M1
theorem DI.toG {src:V7} (h:DI X tg iter src):DIG X tg iter (toG src):=by
 obtain ⟨wi,p,q⟩:=h;exact ⟨wi,p,λ Z H U M Ψ R dr er hs k=>q Z H U M _ R dr er hs λ J H' M' ds a b c d=>k J H' M' ds _ a b (λ M2 H2 st _ _=>c M2 H2 st) d⟩
theorem EG (ow:Bool) (src:V7) (ix:List (Option Nat)) (g:DTG) (tc:DTT) (te:DTE):BK ow src ix g tc te = Kt ow (toG src) ix g tc te:=by
 funext U M Φ
 unfold BK Kt toG;simp only [implies_true,true_and]
theorem Jd (ow:Bool) {elt:Expr} {ifs:List Expr} {pos:Pos} {src:V7} {g:DTG} {tc:DTT} {te:DTE} (ok:JF X scope N ix) (hi:DI X tg iter src)
  (hg:∀ C ex s H,DG (ZL X scope C N ex s H) tg g) (ht:∀ C ex s H,DTs (ZL X scope C N ex s H) ifs tc) (he:∀ C ex s H,DE (ZL X scope C N ex s H) elt te) (hc:X.calm = true)
  (hs:autoParam (∀ x,foldedSetIterable iter X.env x = pure x) zz2._auto_1):DE X (.ListComp elt [⟨tg,iter,ifs,0⟩] scope pos) (BK ow src ix g tc te):=by
 rw [EG];exact Lr ow ok hi.toG hg ht he hc hs
theorem WI (i:Nat) (ow:Bool) {x:Str} {pos' spos:Pos} (hN:X.N.Nodup) {elt:Expr} {ifs:List Expr} {pos:Pos} {src:V7} {g:DTG} {tc:DTT} {te:DTE} (ok:JF X scope N ix) (hi:DI X tg iter src)
  (hg:∀ C ex s H,DG (ZL X scope C N ex s H) tg g) (ht:∀ C ex s H,DTs (ZL X scope C N ex s H) ifs tc) (he:∀ C ex s H,DE (ZL X scope C N ex s H) elt te) (hc:X.calm = true)
  (hs:autoParam (∀ x,foldedSetIterable iter X.env x = pure x) zz2._auto_1) (hin:autoParam (X.N[i]? = some x) zz3._auto_1) (hx:autoParam (Loc X.env.scope x) zz8._auto_1)
  (hsw:autoParam (swapsWith (.ListComp elt [⟨tg,iter,ifs,0⟩] scope pos) (some (.Name x pos')) spos.line X.env = pure true) zz3._auto_1)
  (hf:autoParam (X.fn x = true \/ X.env.scope.names.lookup x = some .local) zz0._auto_1) :
  DS X (.Assign [.Name x pos'] (.ListComp elt [⟨tg,iter,ifs,0⟩] scope pos) spos) (S2 (BK ow src ix g tc te) (VV i)):=by
 rw [EG];exact UQ i ow hN ok hi.toG hg ht he hc hs hin hx hsw hf
end
def Q9 (xs:List DV) (M:Mp) (ns:List Int):Prop:=xs = [.dat (.list (ns.map PyData.int))] \/ ∃ l,xs = [.own l] /\ M l = some (.lst (ns.map PyData.int))
theorem Q9.sq {xs:List DV} (h:Q9 xs M ns) (r:ZE X.K M H) (rv:JP X.K M H vs xs):∃ p,vs = [.ref p] /\ SqL X.K H p (ns.map V.int):=by
 rcases h with rfl | ⟨l,rfl,hm⟩
 ·obtain ⟨v,rfl,h1⟩:=Paired.one rv;obtain ⟨p,ys,rfl,g1,g2⟩:=Z3.lst h1;rw [Vq g2] at g1;exact ⟨p,rfl,g1.sq⟩
 ·obtain ⟨v,rfl,h1⟩:=Paired.one rv;cases (show v = .ref l from h1);obtain ⟨ws,g1,g2⟩:=r.ls l _ hm;rw [Vq g2] at g1;exact ⟨l,rfl,SqL.of g1⟩
def Rc:D1:=λ xs M Φ=>∃ ns:List Int,Q9 xs M ns /\ ns.length < 64 /\ ∀ ns':List Int,ns'.Perm ns->ns'.Pairwise (· <= ·)->Φ (.dat (.list (ns'.map PyData.int))) M
theorem Dq (hc:X.calm = true):Q3 X (.builtin "min") (λ xs H Q=>∃ (p:Addr) (ns:List Int),xs = [.ref p] /\ SqL X.K H p (ns.map V.int) /\ 0 < ns.length /\ ∀ m ∈ ns,(∀ a ∈ ns,m <= a)->Q (.int m) H):=by
 intro pins s Z H xs us Q I r h;obtain ⟨p,ns,rfl,hq,h0,q⟩:=h;obtain ⟨u,rfl,rx⟩:=vals1 r;cases rx;obtain ⟨its,rv,pl,hz⟩:=I.list hq;have hi:IntsAre its ns:=intsAre_of rv;obtain ⟨xs,e⟩:=hi.allInts.items;have hns:ns = xs.toList.map (·.1):=by rw [<- hi.numsOf,<- nums_intItems,<- e]
 have hsz:0 < xs.size:=by
  have h3:=h0; rw [hns,List.length_map,Array.length_toList] at h3; exact h3
 have hl:=pl.isList;rw [e] at hl;refine min_intList (I.ok.hd hc) hl hsz λ v h' tk hv hk=>?_;obtain ⟨t,rfl⟩:=intItems_at hv;obtain ⟨h1,h2⟩:=argBest_lt (numAt xs) (xs.size - 1);refine ⟨.int _,H,I.kept hk,⟨t,rfl⟩,q _ ?_ λ a ha=>?_⟩
 ·rw [hns,numAt_eq]; exact getD_mem (by rw [List.length_map,Array.length_toList]; lia)
 ·rw [hns] at ha;obtain ⟨j,hj,rfl⟩:=mem_getD ha;rw [List.length_map,Array.length_toList] at hj;rw [<- numAt_eq]; exact h2 j (by lia)
theorem FO (hc:X.calm = true):Q3 X (.builtin "max") (λ xs H Q=>∃ (p:Addr) (ns:List Int),xs = [.ref p] /\ SqL X.K H p (ns.map V.int) /\ 0 < ns.length /\ ∀ m ∈ ns,(∀ a ∈ ns,a <= m)->Q (.int m) H):=by
 intro pins s Z H xs us Q I r h;obtain ⟨p,ns,rfl,hq,h0,q⟩:=h;obtain ⟨u,rfl,rx⟩:=vals1 r;cases rx;obtain ⟨its,rv,pl,hz⟩:=I.list hq;have hi:IntsAre its ns:=intsAre_of rv;obtain ⟨xs,e⟩:=hi.allInts.items;have hns:ns = xs.toList.map (·.1):=by rw [<- hi.numsOf,<- nums_intItems,<- e]
 have hsz:0 < xs.size:=by
  have h3:=h0; rw [hns,List.length_map,Array.length_toList] at h3; exact h3
 have hl:=pl.isList;rw [e] at hl;refine max_intList (I.ok.hd hc) hl hsz λ v h' tk hv hk=>?_;obtain ⟨t,rfl⟩:=intItems_at hv;obtain ⟨h1,h2⟩:=argBest_gt (numAt xs) (xs.size - 1);refine ⟨.int _,H,I.kept hk,⟨t,rfl⟩,q _ ?_ λ a ha=>?_⟩
 ·rw [hns,numAt_eq]; exact getD_mem (by rw [List.length_map,Array.length_toList]; omega)
 ·rw [hns] at ha;obtain ⟨j,hj,rfl⟩:=mem_getD ha;rw [List.length_map,Array.length_toList] at hj;rw [<- numAt_eq]; exact h2 j (by omega)
def OC:D1:=λ xs M Φ=>∃ ns:List Int,Q9 xs M ns /\ 0 < ns.length /\ ∀ m ∈ ns,(∀ a ∈ ns,m <= a)->Φ (.dat (.int m)) M
def Od:D1:=λ xs M Φ=>∃ ns:List Int,Q9 xs M ns /\ 0 < ns.length /\ ∀ m ∈ ns,(∀ a ∈ ns,a <= m)->Φ (.dat (.int m)) M
theorem Rx (hc:X.calm = true):JM X (.builtin "min") OC:=by
 refine ⟨_,Dq hc,λ vs H xs M Φ Q r rv h k=>?_⟩;obtain ⟨ns,hx,h0,q⟩:=h;obtain ⟨p,rfl,hs⟩:=hx.sq r rv;exact ⟨p,ns,rfl,hs,h0,λ m a b=>k.dat r Step.refl (Dt.int m) (q m a b)⟩
theorem O1 (hc:X.calm = true):JM X (.builtin "max") Od:=by
 refine ⟨_,FO hc,λ vs H xs M Φ Q r rv h k=>?_⟩;obtain ⟨ns,hx,h0,q⟩:=h;obtain ⟨p,rfl,hs⟩:=hx.sq r rv;exact ⟨p,ns,rfl,hs,h0,λ m a b=>k.dat r Step.refl (Dt.int m) (q m a b)⟩
theorem Paired.three {α β:Type} {F:α->β->Prop} {l:List α} {b c d:β} (h:Paired F l [b,c,d]):∃ a a' a'',l = [a,a',a''] /\ F a b /\ F a' c /\ F a'' d:=by
 cases h with
 | cons h1 h2=>
  obtain ⟨a,a',rfl,h3,h4⟩:=Paired.two h2;exact ⟨_,a,a',rfl,h1,h3,h4⟩
def δ3I (g:Int->Int->Int->Int):D1:=λ xs M Φ=>on3 xs λ x y z=>onI x λ i=>onI y λ j=>onI z λ l=>Φ (.dat (.int (g i j l))) M
theorem Dk (hc:X.calm = true):Q3 X (.builtin "max") (λ xs H Q=>∃ i j l,xs = [.int i,.int j,.int l] /\ Q (.int (max i (max j l))) H):=by
 intro pins s Z H xs us Q I r h;obtain ⟨i,j,l,rfl,q⟩:=h;obtain ⟨u,hu⟩:∃ u,us = u:=⟨us,rfl⟩
 cases r with
 | cons r1 r2=>
  obtain ⟨u2,u3,rfl,r3,r4⟩:=vals2 r2;obtain ⟨t1,rfl⟩:=r1;obtain ⟨t2,rfl⟩:=r3;obtain ⟨t3,rfl⟩:=r4;refine max_three_ints (I.ok.hd hc) λ h' tk k=>⟨.int (max i (max j l)),H,I.kept k,?_,q⟩
  by_cases c1:j > i
  ·rw [if_pos c1]
   by_cases c2:l > j
   ·rw [if_pos c2]; exact ⟨t3,by rw [show max i (max j l) = l by lia]⟩
   ·rw [if_neg c2]; exact ⟨t2,by rw [show max i (max j l) = j by lia]⟩
  ·rw [if_neg c1]
   by_cases c2:l > i
   ·rw [if_pos c2]; exact ⟨t3,by rw [show max i (max j l) = l by lia]⟩
   ·rw [if_neg c2]; exact ⟨t1,by rw [show max i (max j l) = i by lia]⟩
theorem PC (hc:X.calm = true):JM X (.builtin "max") (δ3I λ i j l=>max i (max j l)):=by
 refine ⟨_,Dk hc,λ vs H xs M Φ Q r rv h k=>?_⟩;replace h:=Z0 h;obtain ⟨x,y,z,rfl,h⟩:=h;replace h:=ZA h;obtain ⟨i,rfl,h⟩:=h;replace h:=ZA h;obtain ⟨j,rfl,h⟩:=h;replace h:=ZA h;obtain ⟨l,rfl,q⟩:=h;obtain ⟨v,u,w',rfl,h1,h2,h3⟩:=Paired.three rv;exact ⟨i,j,l,by rw [Z3.int h1,Z3.int h2,Z3.int h3],k.dat r Step.refl (Dt.int _) q⟩
def CC:D1:=λ xs M Φ=>on1 xs λ x=>onQ x M λ ds=>Φ (.dat (.tuple ds)) M
theorem Vw:JM X (.type "tuple") CC:=by
 refine ⟨_,XO,λ vs H xs M Φ Q r rv h k=>?_⟩;replace h:=ZZ h;obtain ⟨x,rfl,h⟩:=h;replace h:=Gj h;obtain ⟨ds,hx,q⟩:=h;have hx':x = .dat (.list ds) \/ x = .dat (.tuple ds) \/ ∃ l,x = .own l /\ M l = some (.lst ds):=by
  rcases hx with a | a | a
  ·exact .inr (.inl a)
  ·exact .inl a
  ·exact .inr (.inr a)
 rcases hx' with rfl | rfl | ⟨l,rfl,hm⟩
 ·obtain ⟨v,rfl,h1⟩:=Paired.one rv;obtain ⟨p,ys,rfl,g1,g2⟩:=Z3.lst h1;exact ⟨p,ys,rfl,.inl ⟨g1.sq,λ l hl=>k.dat (r.new hl) (Step.new hl) (Dt.Wq r hl g2) q⟩⟩
 ·obtain ⟨v,rfl,h1⟩:=Paired.one rv;obtain ⟨p,ys,rfl,g1,g2⟩:=Z3.tup h1;exact ⟨p,ys,rfl,.inr ⟨g1.sq,k.dat r Step.refl (Dt.tup g1 g2) q⟩⟩
 ·obtain ⟨v,rfl,h1⟩:=Paired.one rv;cases (show v = .ref l from h1);obtain ⟨ws,g1,g2⟩:=r.ls l _ hm;exact ⟨l,ws,rfl,.inl ⟨SqL.of g1,λ l hl=>k.dat (r.new hl) (Step.new hl) (Dt.Wq r hl g2) q⟩⟩
def onW (x:DV) (P:List PyData->Prop):Prop:=match x with | .dat (.tuple ds)=>P ds | .dat (.list ds)=>P ds | _=>False
theorem Za0 {x:DV} {P:List PyData->Prop} (h:onW x P):∃ ds,(x = .dat (.list ds) \/ x = .dat (.tuple ds)) /\ P ds:=by
 unfold onW at h
 split at h
 ·exact ⟨_,.inr rfl,h⟩
 ·exact ⟨_,.inl rfl,h⟩
 ·exact h.elim
noncomputable def okIn (d:PyData) (ds:List PyData):Bool:=d.canLay0 && PyData.canLayAll0 ds && Nat.ble d.depth 64
theorem RA (h:okIn d ds = true):d.canLay0 = true /\ PyData.canLayAll0 ds = true /\ d.depth <= 64:=by
 unfold okIn at h;simp only [Bool.and_eq_true] at h;exact ⟨h.1.1,h.1.2,Nat.le_of_ble_eq_true h.2⟩
def δIn:D2:=λ x y M Φ=>onD x λ d=>onW y λ ds=>okIn d ds = true /\ Φ (.dat (.bool (ds.any λ e=>PyData.eqv e d))) M
def CB (to te:DTE):DTE:=λ U M Φ=>to U M λ x M1=>onO x λ l=>Vr (M1 l) λ _=>te U M1 λ y M2=>onO y λ b=>Vr (M2 l) λ ds=>Vr (M2 b) λ es=>b ≠ l /\ ds.length + es.length <= sizeLine /\ Φ (.dat .none) (Vl (ZD M2 l (.lst (ds ++ es))) b)
theorem Kv {o:Expr} {to:DTE} {apos cpos:Pos} (ho:DE X o to) (he:DE X e te) (hbase:autoParam (attributeBase o "extend" X.env (eval o X.env) = eval o X.env) zz3._auto_1)
  (hfew:((backTo cpos (starEach [e] X.env)).all (λ x=>!x.1) && (backToKw cpos (keywordEach [] X.env)).all (λ x=>x.1.isSome)
   && decide ([e].length + ([]:List Keyword).length + (if ([]:List Keyword).isEmpty then 0 else 1) < 30)) = true:=by rfl)
  (hline:autoParam ((apos.endLine == cpos.line) = true) zz3._auto_1) (hs:autoParam (starEach [e] X.env = (false,eval e X.env) :: starEach [] X.env) zz3._auto_1) (hplain:autoParam ((backTo cpos (starEach [] X.env)).any (·.1) = false) zz3._auto_1) :
  DE X (.Call (.Attribute o "extend" apos) [e] [] cpos) (CB to te):=by
 obtain ⟨t1,p1,q1⟩:=ho;obtain ⟨t2,p2,q2⟩:=he;refine ⟨_,ZcS PySem.F.plainAttrs_list PySem.F.slot_list_extend PySem.F.type_list_extend C6 p1 (W5 p2 DC hs) hbase hfew hline hs hplain,λ Z H U M Φ Q r e h k=>?_⟩;refine q1 Z H U M _ _ r e h λ v H1 x M1 r1 st rv hx=>?_;replace hx:=Z9 hx;obtain ⟨l,rfl,hx⟩:=hx;replace hx:=QK hx;obtain ⟨oo,ho,hx⟩:=hx;cases (show v = .ref l from rv);have ty:tyV X.K "list" (.ref l) H1:=by
  obtain ⟨vs,g1,_⟩:=r1.ls l oo ho;exact .inl ⟨rfl,vs,SqL.of g1⟩
 refine ⟨ty,q2 Z H1 U M1 _ _ r1 (e.step st) hx λ w H2 y M2 r2 st2 rw2 hy=>?_⟩;replace hy:=Z9 hy;obtain ⟨b,rfl,hy⟩:=hy;replace hy:=QK hy;obtain ⟨ds,hm,hy⟩:=hy;replace hy:=QK hy;obtain ⟨es,hb,hne,hz,hy⟩:=hy;cases (show w = .ref b from rw2);obtain ⟨vs,g1,g2⟩:=r2.ls l ds hm;obtain ⟨ws,g3,g4⟩:=r2.ls b es hb;have st3:Step M2 H2 (ZD M2 l (.lst (ds ++ es))) (upd H2 l (.lst (vs ++ ws))):=Step.Yd hm;refine ⟨l,b,vs,ws,rfl,rfl,g1,g3,by rw [g2.length,g4.length]; exact hz,?_⟩;exact k.dat (r2.Vb st3 (g2.append g4)).frz (st.trans (st2.trans (st3.trans Step.frz))) Dt.non hy
theorem GN {a b:Expr} {body:List Stmt} {g:DTG} {tb:DTS} {pos:Pos} {p p2:Pos} (hg0:Gl X "range") (hm:X.mg "range" = none) (ha:DA X [a,b] ta) (hg:DG X tg g) (hb:DSs X body tb) (hp:PassesOwn (model X.prog X.w) X.A X.env X.xe) (hc:X.calm = true)
  (hs:autoParam (starEach [a,b] X.env = [(false,eval a X.env),(false,eval b X.env)]) zz3._auto_1) (hs':autoParam (starEach [b] X.env = [(false,eval b X.env)]) zz3._auto_1) (hs2:autoParam (∀ x,foldedSetIterable (.Call (.Name "range" p) [a,b] [] p2) X.env x = pure x) zz2._auto_1) :
  DS X (.For tg (.Call (.Name "range" p) [a,b] [] p2) body [] pos) (NQ ta g tb):=by
 obtain ⟨t1,p1,q1⟩:=ha;obtain ⟨t2,p2,q2⟩:=hg;obtain ⟨t3,p3,q3⟩:=hb;refine ⟨_,Ws hp hc (Cq hg0 hm p1 hs hs') p2 p3 hs2,λ Z H U M D E r e h k=>?_⟩;refine q1 Z H U M _ _ r e h λ vs H1 xs M1 r1 st rv hx=>?_;replace hx:=Zv hx;obtain ⟨xx,yy,rfl,hx⟩:=hx;replace hx:=ZA hx;obtain ⟨i,rfl,hx⟩:=hx;replace hx:=ZA hx;obtain ⟨j,rfl,⟨⟨a1,a2⟩,a3,a4⟩,hx⟩:=hx;have h1:-(2 ^ 62) <= i /\ i < 2 ^ 62 /\ -(2 ^ 62) <= j /\ j < 2 ^ 62:=⟨a1,a2,a3,a4⟩
 obtain ⟨v,u,rfl,hv,hu⟩:=Paired.two rv;exact ⟨i,j,by rw [Z3.int hv,Z3.int hu],h1,Nt q2 q3 r1 (e.step st) hx (k.step st)⟩
def Zfo (te:DTE) (tl th:DTO):DTE:=λ U M Φ=>te U M λ x M1=>tl U M1 λ l M2=>th U M2 λ u M3=>onL x λ ds=>Φ (.dat (.list (cutD ds l u))) M3
theorem Jq {lo hi:Option Expr} {tl th:DTO} (he:DE X e te) (hl:DO X lo tl) (hu:DO X hi th):DE X (.Subscript e (.Slice lo hi none p2) pos) (Zfo te tl th):=by
 obtain ⟨t1,p1,q1⟩:=he;obtain ⟨t2,p2,q2⟩:=hl;obtain ⟨t3,p3,q3⟩:=hu;refine ⟨_,Gm Pk p1 p2 p3,λ Z H U M Φ Q r e h k=>?_⟩;refine q1 Z H U M _ _ r e h λ v H1 x M1 r1 st rv hx=>?_;refine q2 Z H1 U M1 _ _ r1 (e.step st) hx λ l H2 M2 r2 st2 hl=>?_;refine q3 Z H2 U M2 _ _ r2 (e.step (st.trans st2)) hl λ u H3 M3 r3 st3 hu=>?_;replace hu:=Kr hu;obtain ⟨ds,rfl,hu⟩:=hu;obtain ⟨a,xs,rfl,h1,h2⟩:=(rv.step (st2.trans st3)).lst;refine ⟨a,xs,rfl,h1.sq,λ p hp=>?_⟩;exact k.dat (r3.new hp) ((st.trans (st2.trans st3)).trans (Step.new hp)) (Dt.VW r3 hp (h2.cut l u)) hu
noncomputable def MM (scope sc:Scope):List (Str × NameKind):=scope.names.map λ (n,k)=>if (k == .free && sc.kind == .function && sc.names.lookup n == some .cell) then (n,.cell) else (n,k)
noncomputable def Zb3 (sc:Scope) (XN:List Str) (scope:Scope) (N:List Str) (ix:List (Option Nat)) (j:Nat):Bool:=
 match N[j]?,ix[j]? with
 | some x,some (some i)=>decide (XN[i]? = some x) && (decide ((x,NameKind.free) ∈ scope.names) && decide ((MM scope sc).lookup x = some .cell))
 | _,_=>true
theorem ZO {sc:Scope} {XN:List Str} {scope:Scope} {N:List Str} {ix:List (Option Nat)} (hsc:X.env.scope = sc) (hN:X.N = XN)
  (h:scope.kind = .function /\ (∀ y ∈ scope.names,y.2 ≠ .cell) /\ (∀ y ∈ scope.names,y.2 = .local->scope.names.lookup y.1 = some .local) /\ (∀ y ∈ scope.names,y.2 = .free->sc.names.lookup y.1 = some .cell) /\ N.length = ix.length /\
   ∀ j ∈ List.range N.length,Zb3 sc XN scope N ix j = true):JF X scope N ix:=by
 obtain ⟨h1,h2,h3,h4,h5,h6⟩:=h;subst hsc hN;refine ⟨h1,h2,h3,h4,h5,λ j x i hx hi=>?_⟩;have hj:j < N.length:=(List.getElem?_eq_some_iff.mp hx).1;have q:=h6 j (List.mem_range.mpr hj);unfold Zb3 at q;rw [hx,hi] at q;simp only [Bool.and_eq_true,decide_eq_true_eq] at q;exact ⟨q.1,q.2.1,q.2.2⟩
theorem C9 {b:Addr} {o2 o3:OO} (h:ZD M p o b = none):Vl (ZD (ZD (ZD M p o) b o2) p o3) b = ZD M p o3:=by
 have hne:b ≠ p:=λ e=>by rw [e,Zu] at h; cases h
 rw [Zz hne] at h
 funext c
 unfold Vl ZD
 by_cases h1:c = b
 ·rw [if_pos h1,if_neg (by rw [h1]; exact hne),h1,h]
 ·rw [if_neg h1]
  by_cases h2:c = p
  ·rw [if_pos h2,if_pos h2]
  ·rw [if_neg h2,if_neg h1,if_neg h2,if_neg h2]
theorem fresh_ne {b:Addr} (h:ZD M p o b = none):b ≠ p:=λ e=>by rw [e,Zu] at h; cases h
theorem take_snoc {α β:Type} {l:List α} {i:Nat} {a:α} (f:α->β) (h:l[i]? = some a):(l.take i).map f ++ [f a] = (l.take (i + 1)).map f:=by
 rw [List.take_add_one,h,List.map_append];rfl
theorem D9 {α β:Type} {l:List α} {i:Nat} {a:α} (f:α->List β) (h:l[i]? = some a):(l.take i).flatMap f ++ f a = (l.take (i + 1)).flatMap f:=by
 rw [List.take_add_one,h,List.flatMap_append];simp
theorem Z5 {α β:Type} {l:List α} {f:α->β} {i:Nat} {b:β} (h:(l.map f)[i]? = some b):∃ a,l[i]? = some a /\ f a = b:=by
 rw [List.getElem?_map] at h;cases q:l[i]? with
 | none=>rw [q] at h; cases h
 | some a=>rw [q] at h; exact ⟨a,rfl,by simpa using h⟩
theorem V3 {α β:Type} (f:α->List β) (n:Nat):∀ l:List α,(∀ a ∈ l,(f a).length <= n)->(l.flatMap f).length <= l.length * n
 | [],_=>by simp
 | a :: l,h=>by
  have h1:=h a List.mem_cons_self;have h2:=V3 f n l λ b hb=>h b (List.mem_cons_of_mem _ hb);rw [List.flatMap_cons,List.length_append,List.length_cons,Nat.succ_mul];lia
def gc (Φ:DK):DK:=λ x M=>∃ ps:List Addr,Φ x (ps.foldl Vl M)
theorem Zaz {Φ:DK} {Q:VK} (k:Rch K M H Φ Q) {x:DV}:∀ (ps:List Addr) (M':Mp),ZE K M' H'->Step M H M' H'->Z3 K M' H' v x->Φ x (ps.foldl Vl M')->Q v H'
 | [],M',r,st,rv,f=>k v H' x M' r st rv f
 | p :: ps,M',r,st,rv,f=>Zaz k ps (Vl M' p) r.frz (st.trans Step.frz) (rv.step Step.frz) f
theorem Nw {Φ:DK} {Q:VK} (k:Rch K M H Φ Q):Rch K M H (gc Φ) Q:=λ _ _ _ M' r st rv ⟨ps,f⟩=>Zaz k ps M' r st rv f
theorem okG {P:Program} {w:World} {mg:Str->Option Value} {base:Heap} {ps:List Str} {k:Nat} {S:DSp} (F:Fun K x qual st f fd) (Sc:Zp N ps (Zh st)) (len:∀ xs M Φ,S xs M Φ->xs.length = ps.length)
  (hbody:∀ (cdv:Value) (A:Around) (outer:List Env) (s:Shared) (H:Hp) (E:XK),JJ k (A.deeper (envOfC qual (Zh st) s.heap.objs.size f cdv)) ->
   ∃ τ,DSs (Ot CX0 P w K mg base N qual (Zh st) f cdv A outer s H E).nox (QR st) τ /\ ∀ xs M Φ,S xs M Φ->τ { nx:=λ _ M'=>gc Φ (.dat .none) M',rt:=gc Φ } (VX N xs) M):Qn P w K mg base CX0 (k + 1) f fd ps (lift K S):=by
 refine F.ok Sc (λ vs H Q E h=>?_) λ cdv A outer s H vs Q E hr h=>?_
 ·obtain ⟨xs,M,Φ,_,rv,hs,_⟩:=h;rw [Paired.length rv];exact len xs M Φ hs
 ·obtain ⟨xs,M,Φ,r,rv,hs,kk⟩:=h;obtain ⟨τ,⟨t,p,q⟩,hτ⟩:=hbody cdv A outer s H E hr;refine ⟨t,p,q (start N vs) H (VX N xs) M _ _ r (Qy.start rv) (hτ xs M Φ hs) ⟨λ σ' H' Δ' M' r' st' e' hn=>?_,Nw kk,λ _ _ _ _ _ _ _ h=>h.elim,λ _ _ _ _ _ _ _ h=>h.elim⟩⟩;exact (Nw kk).dat r' st' Dt.non hn
theorem Te {Φ:DK} {x:DV} (hp:M p = none) (h:Φ x M):gc Φ x (ZD M p o):=⟨[p],by
 show Φ x (Vl (ZD M p o) p)
 rw [YW hp]; exact h⟩
theorem Zff {Φ:DK} {x:DV} (h:Φ x M):gc Φ x M:=⟨[],h⟩
theorem GD {k:Nat} (h:n < 2 ^ k) (hk:0 < k):n.log2 < k:=by
 by_cases h0:n = 0
 ·subst h0; simpa using hk
 ·exact (Nat.log2_lt h0).mpr h
def Mid (i:Int):Prop:=-(10 ^ 70) <= i /\ i <= 10 ^ 70
theorem Mid.show {i:Int} (h:Mid i):(PyData.int i).showable = true:=by
 have h1:i.natAbs.log2 < 240:=GD (by unfold Mid at h; omega) (by decide);simp only [PyData.showable,decide_eq_true_eq];omega
def T8:D1:=λ xs M Φ=>∃ ns:List Int,Q9 xs M ns /\ Φ (.dat (.int ns.sum)) M
def Tj:D1:=λ xs M Φ=>∃ bs:List Bool,xs = [.dat (.list (bs.map PyData.bool))] /\ Φ (.dat (.bool (bs.all id))) M
def Za2:D1:=λ xs M Φ=>∃ bs:List Bool,xs = [.dat (.list (bs.map PyData.bool))] /\ Φ (.dat (.bool (bs.any id))) M
def Nn:D1:=λ xs M Φ=>on1 xs λ x=>onB x λ b=>Φ (.dat (.int (if b = true then 1 else 0))) M
theorem Zau:JM X (.type "int") Nn:=by
 refine ⟨_,EC,λ vs H xs M Φ Q r rv h k=>?_⟩;replace h:=ZZ h;obtain ⟨x,rfl,h⟩:=h;replace h:=VN h;obtain ⟨b,rfl,q⟩:=h;obtain ⟨v,rfl,h1⟩:=Paired.one rv;cases (show v = .bl b from Z3.bool h1);exact .inr ⟨b,rfl,k.dat r Step.refl (Dt.int _) q⟩
def Zgp (i j:Nat) (ta:DTA):DTS:=λ D U M=>ta U M λ xs M1=>on2 xs λ x y=>D.nx ((U.set i (some x)).set j (some y)) M1
def Fv (x:DV) (M:Mp) (ds:List PyData):Prop:=x = .dat (.list ds) \/ ∃ l,x = .own l /\ M l = some (.lst ds)
theorem Fv.sq {x:DV} (h:Fv x M ds) (r:ZE X.K M H) (rv:Z3 X.K M H v x):∃ p ys,v = .ref p /\ SqL X.K H p ys /\ Dts X.K M H ys ds:=by
 rcases h with rfl | ⟨l,rfl,hm⟩
 ·obtain ⟨p,ys,rfl,g1,g2⟩:=Z3.lst rv;exact ⟨p,ys,rfl,g1.sq,g2⟩
 ·cases (show v = .ref l from rv);obtain ⟨ws,g1,g2⟩:=r.ls l _ hm;exact ⟨l,ws,rfl,SqL.of g1,g2⟩
def N6:D2:=λ x y M Φ=>onK x M λ ds=>onK y M λ es=>ds.length + es.length <= sizeLine /\ Φ (.dat (.list (ds ++ es))) M
theorem VE:OpD X (binaryOp .Add) N6:=by
 refine ⟨_,GV,λ v u H x y M Φ Q r rv ru h k=>?_⟩;replace h:=YJ h;obtain ⟨ds,hx,h⟩:=h;replace h:=YJ h;obtain ⟨es,hy,hz,q⟩:=h;replace hx:Fv x M ds:=hx;replace hy:Fv y M es:=hy;obtain ⟨a,xs,rfl,h1,h2⟩:=hx.sq r rv;obtain ⟨b,ys,rfl,h3,h4⟩:=hy.sq r ru;exact ⟨a,b,xs,ys,rfl,rfl,h1,h3,by rw [h2.length,h4.length]; exact hz,λ p hp=>k.dat (r.new hp) (Step.new hp) (Dt.VW r hp (h2.append h4)) q⟩
def Zgk (te:DTE) (tl th:DTO):DTE:=λ U M Φ=>te U M λ x M1=>tl U M1 λ l M2=>th U M2 λ u M3=>onK x M3 λ ds=>Φ (.dat (.list (cutD ds l u))) M3
def RY (ta:DTA):DTE:=λ U M Φ=>ta U M λ xs M1=>on2 xs λ x y=>onI x λ i=>onI y λ j=>(InR i /\ InR j) /\ (j - i).toNat <= 16777216 /\ Φ (.dat (.list (XY i (j - i).toNat))) M1
def ZgN (i:Nat) (te:DTE) (f:Int->Int->Int):DTS:=λ D U M=>onV U[i]? λ z=>onI z λ a=>te U M λ x M1=>onI x λ b=>D.nx (U.set i (some (.dat (.int (f a b))))) M1
def RW (h:Heap) (v:Value) (q:Int × Int):Prop:=∃ a o n t u,v = .ref a /\ h.get? a = some o /\ o.cls = .type "tuple" /\ o.data = .seq #[.int q.1 t,.int q.2 u] n
theorem RW.keep {v:Value} {q:Int × Int} (p:RW h v q) (k:∀ b o,h.get? b = some o->h'.get? b = some o):RW h' v q:=by
 obtain ⟨a,o,n,t,u,e,g,c,d⟩:=p;exact ⟨a,o,n,t,u,e,k _ _ g,c,d⟩
noncomputable def ltP (p q:Int × Int):Bool:=if p.1 = q.1 then decide (p.2 < q.2) else decide (p.1 < q.1)
theorem get_none {b:Addr} (hb:h.objs.size <= b):h.get? b = none:=by
 cases q:h.get? b with
 | none=>rfl
 | some o=>exact absurd (Heap.lt_size q) (Nat.not_lt.mpr hb)
theorem DU (p:Int × Int):ltP p p = false:=by unfold ltP; rw [if_pos rfl]; exact decide_eq_false (by lia)
theorem ZbM {p q r:Int × Int} (h1:ltP r q = false) (h2:ltP p q = true):ltP r p = false:=by
 unfold ltP at *
 split at h1 <;> split at h2 <;> split <;> simp only [decide_eq_false_iff_not,decide_eq_true_eq] at * <;> lia
theorem Vv (f:Nat->Int × Int):∀ k,argBest (λ i j=>ltP (f i) (f j)) k <= k /\ ∀ j,j <= k->ltP (f j) (f (argBest (λ i j=>ltP (f i) (f j)) k)) = false
 | 0=>⟨Nat.le_refl _,λ j hj=>by rw [show j = 0 by lia]; exact DU _⟩
 | k + 1=>by
  have ih:=Vv f k;unfold argBest
  split
  ·rename_i c;refine ⟨Nat.le_refl _,λ j hj=>?_⟩
   by_cases e:j = k + 1
   ·rw [e]; exact DU _
   ·exact ZbM (ih.2 j (by lia)) c
  ·rename_i c;refine ⟨by lia,λ j hj=>?_⟩
   by_cases e:j = k + 1
   ·rw [e]; exact Bool.of_not_eq_true c
   ·exact ih.2 j (by lia)
theorem sub_tt:isSubtype (.type "tuple") (.type "tuple") = pure true:=by rw [isSubtype_type]; kernel_rfl
section
variable {prog:Program} {E:Value->Shared->Prop}
theorem NR {M:Model} {o:Obj} {items n} {Q:Array Value->Shared->Prop} (ho:s.heap.get? a = some o) (hd:o.data = .seq items n) (h:Q items s):wpAny M A (Builtin.Tuple.tupleItemsOf (.ref a)) Q E s:=by
 unfold Builtin.Tuple.tupleItemsOf;exact wpAny_bind (wpAny_seqItems ho hd (wpAny_pure h))
theorem Ka {p q:Int × Int} {b:Addr} {oa ob:Obj} {na nb:Nat} {t1 t2 u1 u2:Tok} {P:Fin->Shared->Prop} (ha:s.heap.get? a = some oa) (da:oa.data = .seq #[.int p.1 t1,.int p.2 t2] na)
  (hb:s.heap.get? b = some ob) (cb:ob.cls = .type "tuple") (db:ob.data = .seq #[.int q.1 u1,.int q.2 u2] nb) (h:P (.done (.ret (.bool (ltP p q)))) s) :
  wpAny (model prog w) A (Builtin.«tuple.__lt__» ⟨[.ref a,.ref b],[]⟩) P E s:=by
 have hT:s.TypeIs (.ref b) "tuple" := ⟨ob,hb,cb⟩
 show wpAny _ _ (isInstance (.ref b) (.type "tuple") >>= _) _ _ s;refine wpAny_bind (wpAny_isInstance hT sub_tt ?_);simp only [Bool.not_true,Bool.false_eq_true,if_false];refine wpAny_bind (NR ha da (wpAny_bind (NR hb db (wpAny_bind ?_))));show wpAny _ _ (forIn [(Value.int p.1 t1,Value.int q.1 u1),(Value.int p.2 t2,Value.int q.2 u2)] _ _) _ _ s;rw [List.forIn_cons];refine wpAny_bind (wpAny_bind (wpAny_eqBool_int ?_));unfold ltP at h
 by_cases e1:p.1 = q.1
 ·rw [if_pos e1] at h;rw [show (p.1 == q.1) = true from beq_iff_eq.mpr e1];simp only [Bool.not_true,Bool.false_eq_true,if_false];refine wpAny_pure ?_;show wpAny _ _ (forIn [(Value.int p.2 t2,Value.int q.2 u2)] (none,()) _) _ _ s;rw [List.forIn_cons];refine wpAny_bind (wpAny_bind (wpAny_eqBool_int ?_))
  by_cases e2:p.2 = q.2
  ·rw [show (p.2 == q.2) = true from beq_iff_eq.mpr e2];simp only [Bool.not_true,Bool.false_eq_true,if_false];refine wpAny_pure ?_;show wpAny _ _ (forIn [] (none,()) _) _ _ s;rw [List.forIn_nil];refine wpAny_pure ?_;rw [decide_eq_false (by lia)] at h;exact wpAny_pure h
  ·rw [show (p.2 == q.2) = false from beq_eq_false_iff_ne.mpr e2];simp only [Bool.not_false,if_true];exact wpAny_bind (wpAny_rule (wpAny_bind (wpAny_lt_int (wpAny_bind (wpAny_pure (wpAny_pure (wpAny_pure (wpAny_pure h))))))))
 ·rw [if_neg e1] at h;rw [show (p.1 == q.1) = false from beq_eq_false_iff_ne.mpr e1];simp only [Bool.not_false,if_true];exact wpAny_bind (wpAny_rule (wpAny_bind (wpAny_lt_int (wpAny_bind (wpAny_pure (wpAny_pure (wpAny_pure (wpAny_pure h))))))))
theorem U6 {p q:Int × Int} {v:Value} (hu:A.units < cLine) (hv:RW s.heap v p) (hw:RW s.heap u q) (h:Q (.bool (ltP p q)) s):wpAny (model prog w) A (richCompare .Lt v u) Q E s:=by
 obtain ⟨a,oa,na,t1,t2,rfl,ha,ca,da⟩:=hv;obtain ⟨b,ob,nb,u1,u2,rfl,hb,cb,db⟩:=hw;have hTa:s.TypeIs (.ref a) "tuple" := ⟨oa,ha,ca⟩
 have hTb:s.TypeIs (.ref b) "tuple" := ⟨ob,hb,cb⟩
 exact wpAny_richCompare_same_room (op:=.Lt) hTa hTb F.slot_tuple_lt (wpAny_call_entry F.slot_tuple_lt hTa F.entry_tuple_lt (Ka ha da hb cb db ⟨_,rfl,(λ z=>nomatch z),h⟩) (F.args_tuple_lt_2 _ _)) hu
end
section
variable {prog:Program} {R:Result->Shared->Prop} {I:Addr} {fp wr:List Addr} {P:Nat->Value->Prop} {St:Nat->Heap->Prop}
def Rw (prog:Program) (w:World) (A:Around) (h0:Heap) (P:Nat->Value->Prop) (bt:Nat->Nat->Bool):Prop:=
 ∀ i j x y (s:Shared) (Q:Value->Shared->Prop) (E:Value->Shared->Prop),(∀ b o,h0.get? b = some o->s.heap.get? b = some o)->P i x->P j y->Q (.bool (bt i j)) s->wpAny (model prog w) A (richCompare .Lt x y) Q E s
theorem QI:(toString "min" ++ toString ".loop" : String) = "min.loop" := by decide
theorem YX {kw:List (Str × Value)} {h0:Heap} {bt:Nat->Nat->Bool} (C:Rw prog w A.in1 h0 P bt) (W:Walks prog w A.in1 I fp wr n P St) (hSf:S ∉ fp) (nS:h0.get? S = none) (nw:∀ b ∈ wr,h0.get? b = none) :
  ∀ (k j:Nat) (s:Shared) (best:Value) (c:Nat),n - (j + 1) = k->j + 1 <= n->(∀ b o,h0.get? b = some o->s.heap.get? b = some o)->St (j + 1) s.heap->P (argBest bt j) best->s.heap.get? S = some { cls:=.type "list",dict:=none,data:=.seq #[best,best] c,slots:=#[] } ->
   (∀ v h' tk,P (argBest bt (n - 1)) v->(∀ b o,h0.get? b = some o->h'.get? b = some o)->R (.ok (.ret v)) { s with heap:=h',toks:=tk }) ->
   codeAny (model prog w) A (.builtin "min.loop" ⟨[.ref I,.none,.ref S],kw⟩) R s:=by
 have hSw:S ∉ wr:=λ z=>hSf (W.sub _ z);have old:∀ {b:Addr} {o:Obj},h0.get? b = some o->b ∉ wr /\ b ≠ S:=λ {b o} e=>⟨λ z=>(by rw [nw b z] at e; cases e),λ z=>(by rw [z,nS] at e; cases e)⟩;intro k
 induction k with
 | zero=>
  intro j s best c hk hj h0s hst hPb hS hR;obtain rfl:j + 1 = n:=by omega
  refine codeAny_builtin F.entry_min_loop ?_;rw [Around.under_plainId F.plain_min_loop _];show wpAny _ A.in1 (seqItems? (.ref S) >>= _) _ _ s;refine wpAny_bind (wpAny_seqItems hS rfl ?_);show wpAny _ A.in1 (tryCatch (pyNext (.ref I)) _ >>= _) _ _ s;refine wpAny_bind (wpAny_tryCatch (W.done s _ _ hst λ h' tk keep=>?_));have hS':=keep S _ hSw hS;show wpAny _ A.in1 (updateSeq S (λ _=>#[]) >>= _) _ _ _;refine wpAny_bind (wpAny_updateSeq hS' rfl (wpAny_bind (wpAny_letGo (wpAny_pure ?_))));exact hR best _ tk hPb λ b o e=>(Heap.get?_update_other _ _ (Ne.symm (old e).2)).trans (keep b o (old e).1 (h0s b o e))
 | succ k ih=>
  intro j s best c hk hj h0s hst hPb hS hR;have hlt:j + 1 < n:=by omega
  refine codeAny_builtin F.entry_min_loop ?_;rw [Around.under_plainId F.plain_min_loop _];show wpAny _ A.in1 (seqItems? (.ref S) >>= _) _ _ s;refine wpAny_bind (wpAny_seqItems hS rfl ?_);show wpAny _ A.in1 (tryCatch (pyNext (.ref I)) _ >>= _) _ _ s;refine wpAny_bind (wpAny_tryCatch (W.item (j + 1) s _ _ hlt hst λ v h' tk hP hst' keep=>?_));have hS':=keep S _ hSw hS;have h0':∀ b o,h0.get? b = some o->h'.get? b = some o:=λ b o e=>keep b o (old e).1 (h0s b o e);show wpAny _ A.in1 (tryCatch (holding [v,v] (richCompare .Lt v best >>= _)) _ >>= _) _ _ _;refine wpAny_bind (wpAny_tryCatch (wpAny_holding (wpAny_bind (C (j + 1) (argBest bt j) v best _ _ _ h0' hP hPb ?_))));refine wpAny_bind (wpAny_holding (wpAny_truthy_bool (wpAny_bind (wpAny_letGo (wpAny_pure ?_)))));cases q:bt (j + 1) (argBest bt j) with
  | true=>
   simp only [if_true];refine wpAny_bind (wpAny_updateSeq hS' rfl (wpAny_bind (wpAny_letGo ?_)));rw [QI];refine wpAny_pure ⟨plainId_quiet F.plain_min_loop _,ih (j + 1) _ v _ (by omega) hlt (λ b o e=>(Heap.get?_update_other _ _ (Ne.symm (old e).2)).trans (h0' b o e)) (W.frame _ _ _ hst' λ b m o e=>?_) (by simp only [argBest,q,if_true]; exact hP) (Heap.get?_update_self _ hS' rfl) λ v' h'' tk'' hP' hk''=>hR v' h'' tk'' hP' hk''⟩;exact (Heap.get?_update_other _ _ (λ z:S = b=>hSf (by rw [z]; exact m))).trans e
  | false=>
   simp only [Bool.false_eq_true,if_false];refine wpAny_bind (wpAny_letGo ?_);rw [QI];exact wpAny_pure ⟨plainId_quiet F.plain_min_loop _,ih (j + 1) _ best c (by omega) hlt h0' hst' (by simp only [argBest,q,Bool.false_eq_true,if_false]; exact hPb) hS' λ v' h'' tk'' hP' hk''=>hR v' h'' tk'' hP' hk''⟩
end
section
variable {prog:Program} {E:Value->Shared->Prop}
theorem Bl {x:Value} {Q:Value->Shared->Prop} {h0:Heap}
  (h:wpAny (model prog w) A.in1 (pyIter x) (λ it s2=>∃ I fp wr n P St bt,it = .ref I /\ Walks prog w A.in1 I fp wr n P St /\ St 0 s2.heap /\ (∀ b ∈ fp,b < s2.heap.objs.size) /\ (∀ b ∈ wr,h0.get? b = none) /\ (∀ b o,h0.get? b = some o->s2.heap.get? b = some o) /\ h0.get? s2.heap.objs.size = none /\ 0 < n /\ Rw prog w A.in1 h0 P bt /\
   ∀ v h' tk,P (argBest bt (n - 1)) v->(∀ b o,h0.get? b = some o->h'.get? b = some o)->Q v { s2 with heap:=h',toks:=tk }) E s):wpAny (model prog w) A (call (.builtin "min") [x]) Q E s:=by
 refine call_function_tree F.kind_min F.plain_min F.entry_min (F.args_min1 _) ?_;show wpAny _ A.in1 (Builtin.Builtins.bindParams "min" ["key", "default"] 0 ⟨[],[]⟩ >>= _) _ _ s;refine wpAny_bind (wpAny_of_eq (show Builtin.Builtins.bindParams "min" ["key", "default"] 0 ⟨[],[]⟩ = pure [none,none] from rfl) (wpAny_bind (wpAny_pure ?_)));refine wpAny_bind (wpAny_mono h (λ it s2 h2=>?_) λ _ _ z=>z);obtain ⟨I,fp,wr,n,P,St,bt,rfl,W,hst,hfp,nw,h0s,nS,hn,C,hQ⟩:=h2;refine wpAny_bind (wpAny_newObj_type ?_);have hSf:s2.heap.objs.size ∉ fp:=λ z=>Nat.lt_irrefl _ (hfp _ z);have hSw:s2.heap.objs.size ∉ wr:=λ z=>hSf (W.sub _ z);have old:∀ {b:Addr} {o:Obj},h0.get? b = some o->b ∉ wr /\ b ≠ s2.heap.objs.size:=λ {b o} e=>⟨λ z=>(by rw [nw b z] at e; cases e),λ z=>(by rw [z,nS] at e; cases e)⟩;rw [QI];refine wpAny_pure ⟨plainId_quiet F.plain_min_loop _,?_⟩;refine codeAny_builtin F.entry_min_loop ?_;rw [Around.under_plainId F.plain_min_loop _];show wpAny _ A.in1 (seqItems? (.ref s2.heap.objs.size) >>= _) _ _ _;refine wpAny_bind (wpAny_seqItems (Heap.get?_push_size _ rfl) rfl ?_);show wpAny _ A.in1 (tryCatch (pyNext (.ref I)) _ >>= _) _ _ _;refine wpAny_bind (wpAny_tryCatch (W.item 0 _ _ _ hn (W.frame _ _ _ hst λ b _ o e=>Heap.get?_push_of_some _ e) λ v h' tk hP hst' keep=>?_));have hS':=keep s2.heap.objs.size _ hSw (Heap.get?_push_size _ rfl);show wpAny _ A.in1 (updateSeq s2.heap.objs.size (λ _=>#[v,v]) >>= _) _ _ _;refine wpAny_bind (wpAny_updateSeq hS' rfl ?_);rw [QI];refine wpAny_pure ⟨plainId_quiet F.plain_min_loop _,YX C W hSf nS nw _ 0 _ v _ rfl hn (λ b o e=>(Heap.get?_update_other _ _ (Ne.symm (old e).2)).trans (keep b o (old e).1 (Heap.get?_push_of_some _ (h0s b o e)))) (W.frame _ _ _ hst' λ b m o e=>?_) hP (Heap.get?_update_self _ hS' rfl) λ v' h'' tk'' hP' hk''=>hQ v' h'' tk'' hP' hk''⟩;exact (Heap.get?_update_other _ _ (λ z:s2.heap.objs.size = b=>hSf (by rw [z]; exact m))).trans e
theorem WM {its:Array Value} {qs:List (Int × Int)} {Q:Value->Shared->Prop} (hh:A.handled = none) (hu:A.in1.units < cLine) (hl:s.heap.IsList l its) (hz:its.size = qs.length) (hne:0 < qs.length)
  (hq:∀ i v,its[i]? = some v->RW s.heap v (qs.getD i (0,0)))
  (h:∀ i v h' tk,its[i]? = some v->i < qs.length->(∀ j,j < qs.length->ltP (qs.getD j (0,0)) (qs.getD i (0,0)) = false)->(∀ b o,s.heap.get? b = some o->h'.get? b = some o)->Q v { s with heap:=h',toks:=tk }) :
  wpAny (model prog w) A (call (.builtin "min") [.ref l]) Q E s:=by
 have hlt:l < s.heap.objs.size:=by obtain ⟨_,e,_⟩:=hl; exact Heap.lt_size e
 refine Bl (h0:=s.heap) (wpAny_pyIter_list hl ?_);refine ⟨s.heap.objs.size,[s.heap.objs.size,l],[s.heap.objs.size],its.size,_,_,λ i j=>ltP (qs.getD i (0,0)) (qs.getD j (0,0)),rfl,Walks.list (A:=A.in1) hh _ l (Nat.ne_of_lt hlt) its,⟨⟨_,Heap.get?_push_size _ rfl,rfl,rfl⟩,hl.push _⟩,λ b hb=>?_,λ b hb=>?_,λ b o e=>Heap.get?_push_of_some _ e,?_,by lia,λ i j x y s' Q' E' old hx hy hQ=>?_,λ v h' tk hP keep=>?_⟩
 ·show b < (s.heap.push _).objs.size;rw [Heap.size_push]
  rcases List.mem_cons.mp hb with rfl | hb
  ·exact Nat.lt_succ_self _
  ·rw [List.mem_singleton.mp hb];exact Nat.lt_succ_of_lt hlt
 ·rw [List.mem_singleton.mp hb];exact get_none (Nat.le_refl _)
 ·show s.heap.get? (s.heap.push _).objs.size = none;rw [Heap.size_push];exact get_none (Nat.le_succ _)
 ·exact U6 hu ((hq i x hx).keep old) ((hq j y hy).keep old) hQ
 ·have b:=Vv (λ i=>qs.getD i (0,0)) (its.size - 1);exact h _ v h' tk hP (by lia) (λ j hj=>b.2 j (by lia)) keep
end
def TC (i j:Int):Prop:=0 < j /\ j.natAbs.log2 < 9000
theorem Lw:OpR X (binaryOp .FloorDiv) (rI TC λ i j=>.int (i / j)):=opI λ i j _ _ _ _ _ hc q=>by
 have h1:(0:Int) < j:=hc.1;exact floordiv_int (by lia) (by rw [Int.fdiv_eq_ediv_of_nonneg i (by lia)]; exact q) (.inl (PyProof.noPylong_of_log2 hc.2))
theorem HR:OpD X (binaryOp .FloorDiv) (δI TC λ i j=>.int (i / j)):=ZaK Lw
theorem Vals.back (r:Vals xs us) (e:us[i]? = some u):∃ x,xs[i]? = some x /\ RelV x u:=by
 cases q:xs[i]? with
 | none=>rw [r.none_of q] at e; cases e
 | some x=>
  obtain ⟨u',e',h⟩:=r.get q;rw [e] at e';cases e';exact ⟨x,rfl,h⟩
theorem DQ (hc:X.calm = true) (hu:X.A.in1.units < cLine):Q3 X (.builtin "min") (λ xs H Q=>∃ (p:Addr) (vs:List V) (qs:List (Int × Int)),xs = [.ref p] /\ SqL X.K H p vs /\ vs.length = qs.length /\ (∀ (i:Nat) (q:Int × Int),qs[i]? = some q->∃ a:Addr,vs[i]? = some (V.ref a) /\ SqT X.K H a [.int q.1,.int q.2]) /\ 0 < qs.length /\
  ∀ (i:Nat) (q:Int × Int) (v:V),qs[i]? = some q->vs[i]? = some v->(∀ r ∈ qs,ltP r q = false)->Q v H):=by
 intro pins s Z H xs us Q I r h;obtain ⟨p,vs,qs,rfl,hq,hz,hp,h0,q⟩:=h;obtain ⟨u,rfl,rx⟩:=vals1 r;cases rx;obtain ⟨its,rv,pl,_⟩:=I.list hq;have hlen:=rv.length;have get:∀ i,i < qs.length->qs[i]? = some (qs.getD i (0,0)):=λ i hi=>by rw [List.getElem?_eq_getElem hi,List.getD_eq_getElem?_getD,List.getElem?_eq_getElem hi]; rfl
 refine WM (I.ok.hd hc) hu pl.isList (by rw [List.size_toArray,<- hlen]; exact hz) h0 (λ i v hv=>?_) λ i v h' tk hv hi hm hk=>?_
 ·have hv':its[i]? = some v:=by simpa using hv
  have hi:i < qs.length:=by
   have:=(List.getElem?_eq_some_iff.mp hv').1;lia
  obtain ⟨a,e,sq⟩:=hp i _ (get i hi);obtain ⟨w',e',rl⟩:=rv.get e;rw [hv'] at e';cases e';cases (show v = .ref a from rl);obtain ⟨jts,rt,⟨o,eo,co,n,d⟩,_⟩:=I.tuple sq;obtain ⟨x1,x2,rfl,⟨t1,rfl⟩,⟨t2,rfl⟩⟩:=Vals.two rt;exact ⟨a,o,n,t1,t2,rfl,eo,co,d⟩
 ·have hv':its[i]? = some v:=by simpa using hv
  obtain ⟨x,e,rl⟩:=Vals.back rv hv';refine ⟨x,H,I.kept hk,rl,q i _ x (get i hi) e λ r hr=>?_⟩;obtain ⟨j,hj,rfl⟩:=List.getElem_of_mem hr;have:=hm j hj
  rwa [List.getD_eq_getElem?_getD,List.getElem?_eq_getElem hj] at this
noncomputable def prD (q:Int × Int):PyData:=.tuple [.int q.1,.int q.2]
def Nf:D1:=λ xs M Φ=>∃ qs:List (Int × Int),xs = [.dat (.list (qs.map prD))] /\ 0 < qs.length /\ ∀ q ∈ qs,(∀ r ∈ qs,ltP r q = false)->Φ (.dat (prD q)) M
theorem CY {k:Nat} (hr:JJ k X.A) (hc:X.calm = true):JM X (.builtin "min") Nf:=by
 refine ⟨_,DQ hc (by have:=hr.un; show X.A.units + 1 < _; lia),λ vs H xs M Φ Q r rv h k=>?_⟩;obtain ⟨qs,rfl,h0,q⟩:=h;obtain ⟨v,rfl,h1⟩:=Paired.one rv;obtain ⟨p,ys,rfl,g1,g2⟩:=Z3.lst h1;refine ⟨p,ys,qs,rfl,g1.sq,by rw [g2.length,List.length_map],λ i q' e=>?_,h0,λ i q' v e ev hm=>?_⟩
 ·obtain ⟨v,ev,d⟩:=g2.get (i:=i) (d:=prD q') (by rw [List.getElem?_map,e]; rfl);cases d with
  | tup t1 t2=>
   cases t2 with
   | cons a b=>
    cases a;cases b with
    | cons a b=>
     cases a;cases b;exact ⟨_,ev,t1.sq⟩
 ·obtain ⟨v',ev',d⟩:=g2.get (i:=i) (d:=prD q') (by rw [List.getElem?_map,e]; rfl);rw [ev] at ev';cases ev';exact k.dat r Step.refl d (q q' (List.mem_of_getElem? e) hm)
noncomputable def BR {α:Type} [DecidableEq α] (ks:List α) (k:α):Bool:=decide (k ∈ ks)
theorem QD {α:Type} [DecidableEq α] {ks:List α} {k:α}:BR ks k = true ↔ k ∈ ks:=by
 unfold BR;rw [decide_eq_true_eq]
theorem Ky {α:Type} [DecidableEq α] (kvs:List (α × V)) (k:α):(Bh kvs k).isSome = decide (k ∈ kvs.map (·.1)):=by
 rw [<- V8,Bool.eq_iff_iff,List.any_eq_true,decide_eq_true_eq,List.mem_map];constructor
 ·rintro ⟨x,hx,e⟩;exact ⟨x,hx,of_decide_eq_true e⟩
 ·rintro ⟨x,hx,e⟩;exact ⟨x,hx,decide_eq_true e⟩
noncomputable def B0 {α:Type} [DecidableEq α] (ks:List α) (k:α):List α:=if k ∈ ks then ks else ks ++ [k]
theorem D6 {α:Type} [DecidableEq α] (kvs:List (α × V)) (k:α) (v:V):(putK kvs k v).map (·.1) = B0 (kvs.map (·.1)) k:=by
 have e:=Ky kvs k;rw [<- V8] at e;unfold putK B0;rw [e]
 by_cases h:k ∈ kvs.map (·.1)
 ·rw [decide_eq_true h,if_pos rfl,if_pos h,List.map_map];refine List.map_congr_left λ x _=>?_;show (if x.1 = k then (x.1,v) else x).1 = x.1
  split <;> rfl
 ·rw [decide_eq_false h,if_neg Bool.false_ne_true,if_neg h,List.map_append];rfl
theorem L4 {α:Type} [DecidableEq α] {ks:List α} {k x:α}:x ∈ B0 ks k ↔ x ∈ ks \/ x = k:=by
 unfold B0
 split
 ·rename_i h;constructor
  ·exact .inl
  ·rintro (z | rfl)
   ·exact z
   ·exact h
 ·rw [List.mem_append,List.mem_singleton]
theorem Hq {α:Type} [DecidableEq α] (ks:List α) (k:α):(B0 ks k).length <= ks.length + 1:=by
 unfold B0
 split
 ·lia
 ·rw [List.length_append,List.length_singleton];exact Nat.le_refl _
def Cy:DTE:=λ _ M Φ=>∀ p,M p = none->Φ (.own p) (ZD M p (.dct []))
theorem EZ:DE X (.Dict [] [] pos) Cy:=
 ⟨_,LW,λ _ _ _ _ _ _ r _ h k p hp=>k _ _ (.own p) _ (r.MY (Step.Ja hp) rfl) (Step.Ja hp) rfl (h p (r.tracked hp))⟩
noncomputable def kP (i j:Int):List Key:=[.inl i,.inl j]
def Zcs (td:DTE) (ta:DTA) (tv:DTE):DTS:=λ D U M=>tv U M λ x M1=>td U M1 λ y M2=>ta U M2 λ zs M3=>onD x λ _=>onO y λ l=>on2 zs λ p q=>onI p λ i=>onI q λ j=>Mj (M3 l) λ ks=>ks.length < sizeLine /\ D.nx U (ZD M3 l (.dct (B0 ks (kP i j))))
theorem Rb {k:Nat} {o value:Expr} {td tv:DTE} {kt} {pt pos' pos:Pos} (hr:JJ k X.A) (ho:DE X o td) (hi:DA X es ta) (hv:DE X value tv)
  (hs:autoParam (swapsWith value (some (.Subscript o (.Tuple es kt pt) pos')) pos.line X.env = pure false) zz3._auto_1):DS X (.Assign [.Subscript o (.Tuple es kt pt) pos'] value pos) (Zcs td ta tv):=by
 obtain ⟨t1,p1,q1⟩:=hv;obtain ⟨t2,p2,q2⟩:=ho;obtain ⟨t3,p3,q3⟩:=hi;refine ⟨_,R7 (by have:=hr.un; lia) p2 (Ci p3) p1 hs,λ Z H U M D E r e h k=>?_⟩;refine q1 Z H U M _ _ r e h λ v H1 x M1 r1 st1 rv hx=>?_;refine q2 Z H1 U M1 _ _ r1 (e.step st1) hx λ w H2 y M2 r2 st2 rw2 hy=>?_;refine q3 Z H2 U M2 _ _ r2 (e.step (st1.trans st2)) hy λ vs H3 zs M3 r3 st3 rvs hz=>?_;replace hz:=Qr hz;obtain ⟨d,rfl,hz⟩:=hz;replace hz:=Z9 hz;obtain ⟨l,rfl,hz⟩:=hz;replace hz:=Zv hz;obtain ⟨zi,zj,rfl,hz⟩:=hz;replace hz:=ZA hz;obtain ⟨i,rfl,hz⟩:=hz;replace hz:=ZA hz;obtain ⟨j,rfl,hz⟩:=hz;replace hz:=O6 hz;obtain ⟨ks,hm,hl,hn⟩:=hz;obtain ⟨a,b,rfl,ha,hb⟩:=Paired.two rvs;cases (show a = .int i from Z3.int ha);cases (show b = .int j from Z3.int hb);cases (show w = .ref l from rw2);refine ⟨by rw [sizeLine_eq]; show 2 <= 16777216; decide,λ p hp=>?_⟩;obtain ⟨kvs,g1,g2⟩:=r3.dc l ks hm;have hne:l ≠ p:=Zx g1 hp;have g1':upd H3 p (.tup [.int i,.int j]) l = some (.dT kvs):=by rw [ZH hne]; exact g1
 refine ⟨l,_,rfl,RZ.t (k:=kP i j) g1' Z4 (by rw [<- g2,List.length_map] at hl; exact hl),?_⟩;have r4:ZE X.K M3 (upd H3 p (.tup [.int i,.int j])):=r3.new hp;have st4:Step M3 H3 M3 (upd H3 p (.tup [.int i,.int j])):=Step.new hp;have st5:Step M3 (upd H3 p (.tup [.int i,.int j])) (ZD M3 l (.dct (B0 ks (kP i j)))) (upd (upd H3 p (.tup [.int i,.int j])) l (.dT (putK kvs (kP i j) v))):=Step.Yd hm;have stA:=st1.trans (st2.trans (st3.trans (st4.trans st5)));exact k.nx _ _ _ _ (r4.MY st5 (by rw [D6,g2])) stA (e.step stA) hn
theorem Zap {Z:L2.St} {b:Addr} {ks:List Key} (I:L2.Inv X pins Z H s) (h:SqT X.K H b (ks.map kV)):(tupleKind (ZW X.prog X.w)).is s.heap ks b:=by
 obtain ⟨its,r,⟨o,e,c,n,d⟩,_⟩:=I.tuple h;exact ⟨o,its.toArray,n,e,c,d,by simpa using YA r⟩
def onP (x:DV) (P:Int->Int->Prop):Prop:=match x with | .dat (.tuple [.int i,.int j])=>P i j | _=>False
theorem E7 {x:DV} {P:Int->Int->Prop} (h:onP x P):∃ i j,x = .dat (.tuple [.int i,.int j]) /\ P i j:=by
 unfold onP at h
 split at h
 ·exact ⟨_,_,rfl,h⟩
 ·exact h.elim
def Zen:D2:=λ x y M Φ=>onP x λ i j=>onO y λ l=>Mj (M l) λ ks=>Φ (.dat (.bool (BR ks (kP i j)))) M
theorem US {α β:Type} {f g:α->Option β}:∀ {l:List α},(∀ k ∈ l,f k = g k)->l.filterMap f = l.filterMap g
 | [],_=>rfl
 | a :: l,h=>by
  have h1:=h a List.mem_cons_self;have h2:=US (l:=l) λ k hk=>h k (List.mem_cons_of_mem _ hk);cases e:f a with
  | none=>rw [List.filterMap_cons_none e,List.filterMap_cons_none (by rw [<- h1]; exact e),h2]
  | some b=>rw [List.filterMap_cons_some e,List.filterMap_cons_some (by rw [<- h1]; exact e),h2]
section
variable {prog:Program} {E:Value->Shared->Prop}
end
def Zfh (te ts:DTE):DTE:=λ U M Φ=>te U M λ x M1=>ts U M1 λ y M2=>onT x λ ds=>onI y λ i=>i = -1 /\ Φ (.dat (.tuple ds.reverse)) M2
theorem Dts.reverse:∀ {vs:List V} {ds:List PyData},Dts K M H vs ds->Dts K M H vs.reverse ds.reverse
 | _,_,.nil=>.nil
 | _,_,.cons h1 h2=>by
  rw [List.reverse_cons,List.reverse_cons];exact (Dts.reverse h2).append (.cons h1 .nil)
section
variable {prog:Program} {E:Value->Shared->Prop}
end
def Zer (te:DTE) (tl th:DTO):DTE:=λ U M Φ=>te U M λ x M1=>tl U M1 λ l M2=>th U M2 λ u M3=>onT x λ ds=>Φ (.dat (.tuple (cutD ds l u))) M3
def Zdn (x:DV) (M:Mp) (Φ:DK):Prop:=match x with | .dat (.list ds)=>Φ (.dat (.list ds)) M | .own l=>Vr (M l) λ ds=>Φ (.dat (.list ds)) (Vl M l) | _=>False
def Zej (t:DTE):DTE:=λ U M Φ=>t U M λ x M1=>Zdn x M1 Φ
theorem PZ {s:Stmt} {τ τ':DTS} (h:DS X s τ) (k:∀ D U M,τ' D U M->τ D U M):DS X s τ':=by
 obtain ⟨t,p,q⟩:=h;exact ⟨t,p,λ Z H U M D E a b c d=>q Z H U M D E a b (k _ _ _ c) d⟩
def Zd5 (src:V7):V7:=λ U M Ψ=>∃ Ψ',src U M Ψ' /\ ∀ ds M1,Ψ' ds M1->Ψ ds M1
theorem DI.mono {src:V7} (h:DI X tg iter src):DI X tg iter (Zd5 src):=by
 obtain ⟨wi,p,q⟩:=h;exact ⟨wi,p,λ Z H U M Ψ R dr er ⟨Ψ',h1,h2⟩ k=>q Z H U M Ψ' R dr er h1 λ J H' M' ds a b c d=>k J H' M' ds a b c (h2 _ _ d)⟩
def Qt (g:DTG) (tc:DTT) (te:DTE) (Δc:DSt) (fin:List PyData->Mp->Prop):List PyData->List PyData->Mp->Prop
 | [],acc,M=>fin acc M
 | d :: ds,acc,M=>g (.dat d) Δc M λ Δ2 M2=>tc Δ2 M2 λ b M3=>if b = true then te Δ2 M3 λ y M4=>onD y λ e=>Qt g tc te Δc fin ds (acc ++ [e]) M4 else Qt g tc te Δc fin ds acc M3
theorem ES (g:DTG) (tc:DTT) (te:DTE) (Δc:DSt) (fin:List PyData->Mp->Prop) (acc:List PyData) (M:Mp):Qt g tc te Δc fin [] acc M = fin acc M:=by rw [Qt]
theorem Fp (g:DTG) (tc:DTT) (te:DTE) (Δc:DSt) (fin:List PyData->Mp->Prop) (d:PyData) (ds acc:List PyData) (M:Mp):Qt g tc te Δc fin (d :: ds) acc M =
  g (.dat d) Δc M λ Δ2 M2=>tc Δ2 M2 λ b M3=>if b = true then te Δ2 M3 λ y M4=>onD y λ e=>Qt g tc te Δc fin ds (acc ++ [e]) M4 else Qt g tc te Δc fin ds acc M3:=by rw [Qt]
theorem Hv {g:DTG} {Δc:DSt} {fin:List PyData->Mp->Prop} (h:Qt g tc te Δc fin ds [] M):∃ J:Nat->List PyData->Mp->Prop,J 0 [] M /\
 (∀ i d acc M',ds[i]? = some d->J i acc M'->g (.dat d) Δc M' λ Δ2 M2=>tc Δ2 M2 λ b M3=>if b = true then te Δ2 M3 λ y M4=>onD y λ e=>J (i + 1) (acc ++ [e]) M4 else J (i + 1) acc M3) /\
 ∀ acc M',J ds.length acc M'->fin acc M':=by
 refine ⟨λ i acc M'=>Qt g tc te Δc fin (ds.drop i) acc M',by simpa using h,λ i d acc M' e k=>?_,λ acc M' k=>?_⟩
 ·have ed:ds.drop i = d :: ds.drop (i + 1):=by
   obtain ⟨hi,e'⟩:=List.getElem?_eq_some_iff.mp e;rw [<- e',List.drop_eq_getElem_cons hi]
  dsimp only at k;rw [ed] at k;exact k
 ·dsimp only at k;rw [List.drop_length] at k;exact k
def CN (ow:Bool) (src:V7) (ix:List (Option Nat)) (g:DTG) (tc:DTT) (te:DTE):DTE:=λ U M Φ=>src U M λ ds M1=>ds.length <= sizeLine /\ Qt g tc te (By ix U) (W0 ow Φ) ds [] M1
theorem H9 {ow:Bool} {src:V7} {g:DTG} (U:DSt) (M:Mp) (Φ:DK) (h:CN ow src ix g tc te U M Φ):BK ow (Zd5 src) ix g tc te U M Φ:=
 ⟨_,h,λ _ _ ⟨a,b⟩=>⟨a,Hv b⟩⟩
theorem G7 (i:Nat) (ow:Bool) {x:Str} {pos' spos:Pos} (hN:X.N.Nodup) {elt:Expr} {ifs:List Expr} {pos:Pos} {src:V7} {g:DTG} {tc:DTT} {te:DTE} (ok:JF X scope N ix) (hi:DI X tg iter src)
  (hg:∀ C ex s H,DG (ZL X scope C N ex s H) tg g) (ht:∀ C ex s H,DTs (ZL X scope C N ex s H) ifs tc) (he:∀ C ex s H,DE (ZL X scope C N ex s H) elt te) (hc:X.calm = true)
  (hs:autoParam (∀ x,foldedSetIterable iter X.env x = pure x) zz2._auto_1) (hin:autoParam (X.N[i]? = some x) zz3._auto_1) (hx:autoParam (Loc X.env.scope x) zz8._auto_1)
  (hsw:autoParam (swapsWith (.ListComp elt [⟨tg,iter,ifs,0⟩] scope pos) (some (.Name x pos')) spos.line X.env = pure true) zz3._auto_1)
  (hf:autoParam (X.fn x = true \/ X.env.scope.names.lookup x = some .local) zz0._auto_1) :
  DS X (.Assign [.Name x pos'] (.ListComp elt [⟨tg,iter,ifs,0⟩] scope pos) spos) (S2 (CN ow src ix g tc te) (VV i)):=
 PZ (WI i ow hN ok hi.mono hg ht he hc hs hin hx hsw hf) λ D U M h=>H9 U M _ h
def JG (g:DTG) (tb:DTS) (D:Qc):List PyData->DSt->Mp->Prop
 | [],U,M=>D.nx U M
 | d :: ds,U,M=>g (.dat d) U M λ Δ2 M2=>tb { D with nx:=JG g tb D ds,ct:=JG g tb D ds,bk:=D.nx } Δ2 M2
theorem LX (g:DTG) (tb:DTS) (D:Qc) (U:DSt) (M:Mp):JG g tb D [] U M = D.nx U M:=by rw [JG]
theorem Mf (g:DTG) (tb:DTS) (D:Qc) (d:PyData) (ds:List PyData) (U:DSt) (M:Mp):JG g tb D (d :: ds) U M = g (.dat d) U M λ Δ2 M2=>tb { D with nx:=JG g tb D ds,ct:=JG g tb D ds,bk:=D.nx } Δ2 M2:=by rw [JG]
theorem ZcA {g:DTG} {tb:DTS} {D:Qc} (h:JG g tb D ds U M):WW g tb D ds U M:=by
 refine ⟨λ i=>JG g tb D (ds.drop i),by simpa using h,λ i d U M e k=>?_,λ U M k=>?_⟩
 ·have ed:ds.drop i = d :: ds.drop (i + 1):=by
   obtain ⟨hi,e'⟩:=List.getElem?_eq_some_iff.mp e;rw [<- e',List.drop_eq_getElem_cons hi]
  dsimp only at k;rw [ed] at k;exact k
 ·dsimp only at k;rw [List.drop_length] at k;exact k
theorem GY (lo:Int) (n:Nat):XY lo (n + 1) = .int lo :: XY (lo + 1) n:=by
 unfold XY;rw [List.range_succ_eq_map,List.map_cons,List.map_map]
 congr 1
 ·simp
 ·refine List.map_congr_left λ i _=>?_;show PyData.int _ = PyData.int _
  congr 1
  simp;lia
theorem ZcJ (lo:Int):XY lo 1 = [.int lo]:=by rw [GY]; rfl
theorem ND (lo:Int):XY lo 2 = [.int lo,.int (lo + 1)]:=by rw [GY,ZcJ]
theorem HC {A B:DTS} {D:Qc} (h:∀ R,R = B->ZdE A R D U M):ZdE A B D U M:=h B rfl
theorem Pw {l:List Int} (h0:0 <= r) (h1:r < l.length):∃ w ∈ l,atI (l.map PyData.int) r = some (.int w):=by
 obtain ⟨d,e,hm⟩:=Fl (l:=l.map PyData.int) h0 (by rw [List.length_map]; exact h1);obtain ⟨w,hw,rfl⟩:=List.mem_map.mp hm;exact ⟨w,hw,e⟩
theorem Y9 (l:List PyData):ZG "tuple" (.tuple l) = true:=rfl
theorem Wk (l:List PyData):ZG "list" (.list l) = true:=rfl
theorem ZdS (i j:Int):(PyData.int i).eqv (.int j) = decide (i = j):=by
 simp only [PyData.eqv]
 first | rfl | exact Bool.beq_eq_decide_eq _ _ | (rw [Bool.eq_iff_iff]; simp)
theorem Rz (x y:List PyData):(PyData.list x).eqv (.list y) = PyData.eqvAll x y:=by simp only [PyData.eqv]
def NI (tc:DTT) (tb:DTS):DTS:=λ D U M=>∃ J:Nat->DSt->Mp->Prop,(∃ m,J m U M) /\ ∀ n U M,J n U M->tc U M λ b M1=>
 if b = true then tb { D with nx:=λ Δ' M'=>∃ m,m < n /\ J m Δ' M',ct:=λ Δ' M'=>∃ m,m < n /\ J m Δ' M',bk:=D.nx } U M1 else D.nx U M1
theorem LC {c:Expr} {body:List Stmt} {tb:DTS} (hc:DT X c tc) (hb:DSs X body tb) (hp:PassesOwn (model X.prog X.w) X.A X.env X.xe):DS X (.While c body [] pos) (NI tc tb):=by
 obtain ⟨t1,p1,q1⟩:=hc;obtain ⟨t2,p2,q2⟩:=hb;refine ⟨_,HE hp p1 p2,λ Z H U M D E r e h k=>?_⟩;obtain ⟨J,⟨m0,j0⟩,jt⟩:=h;refine ⟨λ n σ' H'=>∃ Δ' M',ZE X.K M' H' /\ Step M H M' H' /\ Qy X.K M' H' σ' Δ' /\ J n Δ' M',⟨m0,U,M,r,Step.refl,e,j0⟩,?_⟩;rintro n σ1 H1 ⟨Δ1,M1,r1,st1,e1,j1⟩;refine q1 σ1 H1 Δ1 M1 _ _ r1 e1 (jt n Δ1 M1 j1) λ b H2 M2 r2 st2 hb2=>?_;cases b with
 | true=>
  rw [if_pos rfl] at hb2 ⊢;refine ⟨λ σ' H'=>∃ m',m' < n /\ ∃ Δ' M',ZE X.K M' H' /\ Step M H M' H' /\ Qy X.K M' H' σ' Δ' /\ J m' Δ' M',λ σ' H' h=>h,?_⟩;have s12:=st1.trans st2;refine q2 σ1 H2 Δ1 M2 _ _ r2 (e1.step st2) hb2 ⟨λ σ' H' Δ' M' a b c d=>?_,k.rt.step s12,λ σ' H' Δ' M' a b c d=>k.nx σ' H' Δ' M' a (s12.trans b) c d,λ σ' H' Δ' M' a b c d=>?_⟩
  ·obtain ⟨m,hm,j⟩:=d;exact ⟨m,hm,Δ',M',a,s12.trans b,c,j⟩
  ·obtain ⟨m,hm,j⟩:=d;exact ⟨m,hm,Δ',M',a,s12.trans b,c,j⟩
 | false=>
  rw [if_neg Bool.false_ne_true] at hb2 ⊢;exact k.nx σ1 H2 Δ1 M2 r2 (st1.trans st2) (e1.step st2) hb2
def Zf1 (to:DTE):DTE:=λ U M Φ=>to U M λ x M1=>onO x λ l=>∃ ds d,M1 l = some (.lst (ds ++ [d])) /\ Φ (.dat d) (ZD M1 l (.lst ds))
theorem Dts.snoc_inv:∀ {vs:List V} {ds:List PyData} {d:PyData},Dts K M H vs (ds ++ [d])->∃ ws v,vs = ws ++ [v] /\ Dts K M H ws ds /\ Dt K M H v d
 | vs,[],d,h=>by
  cases h with
  | cons a b=>cases b; exact ⟨[],_,rfl,.nil,a⟩
 | vs,e :: ds,d,h=>by
  cases h with
  | cons a b=>
   obtain ⟨ws,v,rfl,h1,h2⟩:=Dts.snoc_inv b;exact ⟨_ :: ws,v,rfl,.cons a h1,h2⟩
theorem ZcX {o:Expr} {to:DTE} {apos cpos:Pos} (ho:DE X o to) (hbase:autoParam (attributeBase o "pop" X.env (eval o X.env) = eval o X.env) zz3._auto_1) (hline:autoParam ((apos.endLine == cpos.line) = true) zz3._auto_1) :
  DE X (.Call (.Attribute o "pop" apos) [] [] cpos) (Zf1 to):=by
 obtain ⟨t1,p1,q1⟩:=ho;refine ⟨_,MT PySem.F.plainAttrs_list PySem.F.slot_list_pop PySem.F.type_list_pop Zbn p1 hbase hline,λ Z H U M Φ Q r e h k=>?_⟩;refine q1 Z H U M _ _ r e h λ v H1 x M1 r1 st rv hx=>?_;replace hx:=Z9 hx;obtain ⟨l,rfl,ds,d,hm,hx⟩:=hx;cases (show v = .ref l from rv);obtain ⟨vs,g1,g2⟩:=r1.ls l _ hm;obtain ⟨ws,v,rfl,h1,h2⟩:=Dts.snoc_inv g2;refine ⟨.inl ⟨rfl,_,SqL.of g1⟩,l,_,v,rfl,rfl,g1,by simp,?_⟩;rw [List.dropLast_concat];have st2:Step M1 H1 (ZD M1 l (.lst ds)) (upd H1 l (.lst ws)):=Step.Yd hm;exact k.dat (r1.Vb st2 h1) (st.trans st2) (h2.step st2) hx
noncomputable def isNone:PyData->Bool
 | .none=>true
 | _=>false
theorem Ra (h:Dt K M H v d):decide (v = .non) = isNone d:=by
 cases h <;> rfl
def onN (x:DV) (P:Prop):Prop:=match x with | .dat .none=>P | _=>False
theorem Zck {x:DV} {P:Prop} (h:onN x P):x = .dat .none /\ P:=by
 unfold onN at h
 split at h
 ·exact ⟨rfl,h⟩
 ·exact h.elim
def ZcG (b:Bool):D2:=λ x y M Φ=>onD x λ d=>onN y <| Φ (.dat (.bool (isNone d != b))) M
theorem SD:OpD X (compareOp .IsNot) (ZcG true):=by
 refine ⟨_,OZ,λ v u H x y M Φ Q r rv ru h k=>?_⟩;replace h:=Qr h;obtain ⟨d,rfl,h⟩:=h;replace h:=Zck h;obtain ⟨rfl,q⟩:=h;cases (show Dt X.K M H u .none from ru);refine ⟨rfl,?_⟩;rw [Ra rv];rw [show (!isNone d) = (isNone d != true) by cases isNone d <;> rfl];exact k.dat r Step.refl (Dt.bl _) q
theorem isNone_none:isNone .none = true:=rfl
theorem K4 (b:List PyData):isNone (.tuple b) = false:=rfl
theorem Ez (hu:X.A.units + 66 < cLine):OpR X (compareOp .NotIn) (λ x y H Q=>∃ M d ds,Dt X.K M H x d /\ (Dt X.K M H y (.list ds) \/ Dt X.K M H y (.tuple ds)) /\ d.canLay0 = true /\ PyData.canLayAll0 ds = true /\ d.depth <= 64 /\ Q (.bl (!(ds.any λ e=>PyData.eqv e d))) H):=by
 intro pins s Z H x y v u Q I rx ry h;obtain ⟨M,d,ds,h1,h2,c1,c2,hdp,q⟩:=h;obtain ⟨as,ra,_⟩:=h1.reads I rx
 rcases h2 with h2 | h2
 ·obtain ⟨bs,rb,_⟩:=h2.reads I ry;exact PySem.SeqAt.notIn_list_reads rb ra c2 c1 (by have:=Nat.min_le_right (PyData.depthAll ds) d.depth; lia) ⟨.bl _,H,I,rfl,q⟩
 ·obtain ⟨bs,rb,_⟩:=h2.reads I ry;exact PySem.SeqAt.notIn_tuple_reads rb ra c2 c1 (by have:=Nat.min_le_right (PyData.depthAll ds) d.depth; lia) ⟨.bl _,H,I,rfl,q⟩
def Ei:D2:=λ x y M Φ=>onD x λ d=>onW y λ ds=>okIn d ds = true /\ Φ (.dat (.bool (!(ds.any λ e=>PyData.eqv e d)))) M
theorem GH {k:Nat} (hr:JJ k X.A):OpD X (compareOp .NotIn) Ei:=
 ⟨_,Ez (by have:=hr.un; lia),λ v u H x y M Φ Q r rv ru h k=>by
  obtain ⟨d,e1,h⟩:=Qr h;obtain ⟨ds,e2,ho,q⟩:=Za0 h;obtain ⟨c1,c2,hdp⟩:=RA ho;subst e1;refine ⟨M,d,ds,rv,?_,c1,c2,hdp,k.dat r Step.refl (Dt.bl _) q⟩
  rcases e2 with rfl | rfl
  ·exact .inl ru
  ·exact .inr ru⟩
def Hm:D2:=λ x y M Φ=>onP x λ i j=>onO y λ l=>Mj (M l) λ ks=>Φ (.dat (.bool (!BR ks (kP i j)))) M
section
variable {prog:Program} {E:Value->Shared->Prop}
theorem X7 (a v:Value):argsOk "min" ⟨[a],[(Str.ofString "default",v)]⟩:=by unfold argsOk; kernel_rfl
theorem WJ {x d:Value} {Q:Value->Shared->Prop} {h0:Heap}
  (h:wpAny (model prog w) A.in1 (pyIter x) (λ it s2=>∃ I fp wr n P St bt,it = .ref I /\ Walks prog w A.in1 I fp wr n P St /\ St 0 s2.heap /\ (∀ b ∈ fp,b < s2.heap.objs.size) /\ (∀ b ∈ wr,h0.get? b = none) /\ (∀ b o,h0.get? b = some o->s2.heap.get? b = some o) /\ h0.get? s2.heap.objs.size = none /\ Rw prog w A.in1 h0 P bt /\
   (n = 0->∀ h' tk,(∀ b o,h0.get? b = some o->h'.get? b = some o)->Q d { s2 with heap:=h',toks:=tk }) /\
   (0 < n->∀ v h' tk,P (argBest bt (n - 1)) v->(∀ b o,h0.get? b = some o->h'.get? b = some o)->Q v { s2 with heap:=h',toks:=tk })) E s):wpAny (model prog w) A (call (.builtin "min") [x] [(Str.ofString "default",d)]) Q E s:=by
 refine kmk_tree F.kind_min F.plain_min F.entry_min (X7 _ _) ?_;show wpAny _ A.in1 (Builtin.Builtins.bindParams "min" ["key", "default"] 0 ⟨[],[(Str.ofString "default",d)]⟩ >>= _) _ _ s;refine wpAny_bind (wpAny_of_eq (show Builtin.Builtins.bindParams "min" ["key", "default"] 0 ⟨[],[(Str.ofString "default",d)]⟩ = pure [none,some d] from rfl) (wpAny_bind (wpAny_pure ?_)));refine wpAny_bind (wpAny_mono h (λ it s2 h2=>?_) λ _ _ z=>z);obtain ⟨I,fp,wr,n,P,St,bt,rfl,W,hst,hfp,nw,h0s,nS,C,hQ0,hQ⟩:=h2;refine wpAny_bind (wpAny_newObj_type ?_);have hSf:s2.heap.objs.size ∉ fp:=λ z=>Nat.lt_irrefl _ (hfp _ z);have hSw:s2.heap.objs.size ∉ wr:=λ z=>hSf (W.sub _ z);have old:∀ {b:Addr} {o:Obj},h0.get? b = some o->b ∉ wr /\ b ≠ s2.heap.objs.size:=λ {b o} e=>⟨λ z=>(by rw [nw b z] at e; cases e),λ z=>(by rw [z,nS] at e; cases e)⟩;rw [QI];refine wpAny_pure ⟨plainId_quiet F.plain_min_loop _,?_⟩;refine codeAny_builtin F.entry_min_loop ?_;rw [Around.under_plainId F.plain_min_loop _];show wpAny _ A.in1 (seqItems? (.ref s2.heap.objs.size) >>= _) _ _ _;refine wpAny_bind (wpAny_seqItems (Heap.get?_push_size _ rfl) rfl ?_);show wpAny _ A.in1 (tryCatch (pyNext (.ref I)) _ >>= _) _ _ _
 by_cases hn:0 < n
 ·refine wpAny_bind (wpAny_tryCatch (W.item 0 _ _ _ hn (W.frame _ _ _ hst λ b _ o e=>Heap.get?_push_of_some _ e) λ v h' tk hP hst' keep=>?_));have hS':=keep s2.heap.objs.size _ hSw (Heap.get?_push_size _ rfl);show wpAny _ A.in1 (updateSeq s2.heap.objs.size (λ _=>#[v,v]) >>= _) _ _ _;refine wpAny_bind (wpAny_updateSeq hS' rfl ?_);rw [QI];refine wpAny_pure ⟨plainId_quiet F.plain_min_loop _,YX C W hSf nS nw _ 0 _ v _ rfl hn (λ b o e=>(Heap.get?_update_other _ _ (Ne.symm (old e).2)).trans (keep b o (old e).1 (Heap.get?_push_of_some _ (h0s b o e)))) (W.frame _ _ _ hst' λ b m o e=>?_) hP (Heap.get?_update_self _ hS' rfl) λ v' h'' tk'' hP' hk''=>hQ hn v' h'' tk'' hP' hk''⟩;exact (Heap.get?_update_other _ _ (λ z:s2.heap.objs.size = b=>hSf (by rw [z]; exact m))).trans e
 ·obtain rfl:n = 0:=by lia
  refine wpAny_bind (wpAny_tryCatch (W.done _ _ _ (W.frame _ _ _ hst λ b _ o e=>Heap.get?_push_of_some _ e) λ h' tk keep=>?_));refine wpAny_bind (wpAny_rule (wpAny_pure ?_));exact hQ0 rfl h' tk λ b o e=>keep b o (old e).1 (Heap.get?_push_of_some _ (h0s b o e))
end
theorem HS (x:DV) (P:DV->Prop):onV (some (some x)) P = P x:=qI
theorem L3 (i:Int) (P:Int->Prop):onI (.dat (.int i)) P = P i:=qI
theorem LM (i:Bool) (P:Bool->Prop):onB (.dat (.bool i)) P = P i:=qI
theorem MJ (i:List PyData) (P:List PyData->Prop):onT (.dat (.tuple i)) P = P i:=qI
theorem HB (i:List PyData) (P:List PyData->Prop):onL (.dat (.list i)) P = P i:=qI
theorem MO (i:PyData) (P:PyData->Prop):onD (.dat i) P = P i:=qI
theorem F0 (i:Addr) (P:Addr->Prop):onO (.own i) P = P i:=qI
theorem Eg (ds:List PyData) (P:List PyData->Prop):Vr (some (.lst ds)) P = P ds:=qI
theorem Fx (ks:List (List Key)) (P:List (List Key)->Prop):Mj (some (.dct ks)) P = P ks:=qI
theorem O7 (ds:List PyData) (M:Mp) (P:List PyData->Prop):onQ (.dat (.tuple ds)) M P = P ds:=qI
theorem SE (ds:List PyData) (M:Mp) (P:List PyData->Prop):onQ (.dat (.list ds)) M P = P ds:=qI
theorem Sx (l:Addr) (M:Mp) (P:List PyData->Prop):onQ (.own l) M P = Vr (M l) P:=qI
theorem PQ (ds:List PyData) (M:Mp) (P:List PyData->Prop):onK (.dat (.list ds)) M P = P ds:=qI
theorem Sk (l:Addr) (M:Mp) (P:List PyData->Prop):onK (.own l) M P = Vr (M l) P:=qI
theorem Hc (x:DV) (P:DV->Prop):on1 [x] P = P x:=qI
theorem Hs (x y:DV) (P:DV->DV->Prop):on2 [x,y] P = P x y:=qI
theorem LB (x y z:DV) (P:DV->DV->DV->Prop):on3 [x,y,z] P = P x y z:=qI
theorem MS (x0 x1 x2 x3:DV) (P:DV->DV->DV->DV->Prop):on4 [x0,x1,x2,x3] P = P x0 x1 x2 x3:=qI
theorem HY (P:List PyData->Prop):Y7 [] P = P []:=qI
theorem MC (a0:PyData) (P:List PyData->Prop):Y7 [.dat a0] P = P [a0]:=qI
theorem Lb (a0 a1:PyData) (P:List PyData->Prop):Y7 [.dat a0,.dat a1] P = P [a0,a1]:=qI
theorem HW (a0 a1 a2:PyData) (P:List PyData->Prop):Y7 [.dat a0,.dat a1,.dat a2] P = P [a0,a1,a2]:=qI
theorem Lx (a0 a1 a2 a3:PyData) (P:List PyData->Prop):Y7 [.dat a0,.dat a1,.dat a2,.dat a3] P = P [a0,a1,a2,a3]:=qI
theorem Ma (a0 a1 a2 a3 a4:PyData) (P:List PyData->Prop):Y7 [.dat a0,.dat a1,.dat a2,.dat a3,.dat a4] P = P [a0,a1,a2,a3,a4]:=qI
theorem F2 (a0 a1 a2 a3 a4 a5:PyData) (P:List PyData->Prop):Y7 [.dat a0,.dat a1,.dat a2,.dat a3,.dat a4,.dat a5] P = P [a0,a1,a2,a3,a4,a5]:=qI
theorem ZaX:type_of% @Zf4.eq_1:=λ _ _ _ _=>qI
theorem ZgD:type_of% @dC.eq_1:=λ _ _ _ _=>qI
theorem ZeV:type_of% @dTy.eq_1:=λ _ _ _ _=>qI
theorem ZeA:type_of% @dOp.eq_1:=λ _ _ _ _ _ _=>qI
theorem Zgs:type_of% @dB.eq_1:=λ _ _ _ _=>qI
theorem La:type_of% @Fh.eq_1:=λ _ _ _ _ _ _ _ _=>qI
theorem ZcH:type_of% @Zfp.eq_1:=λ _ _ _ _ _=>qI
theorem Zeh:type_of% @dOr.eq_1:=λ _ _ _ _ _=>qI
theorem Zbc:type_of% @Zgb.eq_1:=λ _ _ _ _=>qI
theorem PR:type_of% @Zaw.eq_1:=λ _ _ _ _ _=>qI
theorem Zcp:type_of% @ZfS.eq_1:=λ _ _ _ _ _=>qI
theorem Rk:type_of% @Zbh.eq_1:=λ _ _ _ _=>qI
theorem Zd1:type_of% @dIf.eq_1:=λ _ _ _ _ _ _=>qI
theorem ZaV:type_of% @Zf8.eq_1:=λ _ _ _ _ _=>qI
theorem Zet:type_of% @δI.eq_1:=λ _ _ _ _ _ _=>qI
theorem Zbb:type_of% @δI0.eq_1:=λ _ _ _ _ _=>qI
theorem Ze9:type_of% @δB.eq_1:=λ _ _ _ _ _=>qI
theorem Tv  (z0:DSt) (M:Mp) (Φ:List DV->Mp->Prop):ZfK z0 M Φ = (Φ [] M):=qI
theorem OV:type_of% @Zch.eq_1:=λ _ _ _ _ _=>qI
theorem ZaN:type_of% @Zfl.eq_1:=λ _ _ _ _=>qI
theorem ZbV:type_of% @ZfY.eq_1:=λ _ _ _ _=>qI
theorem RX:type_of% @Zan.eq_1:=λ _ _ _ _=>qI
theorem Tg:type_of% @ZfM.eq_1:=λ _ _ _ _=>qI
theorem Mo (a:PyData) (l:List PyData) (P:PyData->Prop):Y5 (a :: l) 0 P = P a:=qI
theorem MR (a b:PyData) (l:List PyData) (P:PyData->Prop):Y5 (a :: b :: l) 1 P = P b:=qI
theorem Mz (a b c:PyData) (l:List PyData) (P:PyData->Prop):Y5 (a :: b :: c :: l) 2 P = P c:=qI
theorem HX (a b c d:PyData) (l:List PyData) (P:PyData->Prop):Y5 (a :: b :: c :: d :: l) 3 P = P d:=qI
theorem HP (a b c d e:PyData) (l:List PyData) (P:PyData->Prop):Y5 (a :: b :: c :: d :: e :: l) 4 P = P e:=qI
theorem Zar  (x:DV) (y:DV) (M:Mp) (Φ:DK):δIx x y M Φ = (onQ x M λ ds=>onI y λ i=>Y5 ds i λ d=>Φ (.dat d) M):=qI
theorem ZeZ:type_of% @dCB.eq_1:=λ _ _ _ _ _=>qI
theorem Si  (xs:List DV) (M:Mp) (Φ:DK):Zcm xs M Φ = (on1 xs λ x=>onQ x M λ ds=>Φ (.dat (.int ds.length)) M):=qI
theorem RF  (xs:List DV) (M:Mp) (Φ:DK):Zcc xs M Φ = (on1 xs λ x=>onI x λ i=>Φ (.dat (.int (if i < 0 then -i else i))) M):=qI
theorem Zcr:type_of% @δ2I.eq_1:=λ _ _ _ _=>qI
theorem Be (T:String) (d:PyData) (t:String) (M:Mp) (Φ:DK):OJ T [.dat d,.ty t] M Φ = (t = T /\ Φ (.dat (.bool (ZG T d))) M):=qI
theorem HL (i j:Int) (P:Bool->Prop):eqD (.int i) (.int j) P = P (decide (i = j)):=qI
theorem HQ (i j:Str) (P:Bool->Prop):eqD (.str i) (.str j) P = P (decide (i = j)):=qI
theorem LG (i j:Bool) (P:Bool->Prop):eqD (.bool i) (.bool j) P = P (i == j):=qI
theorem T2  (x:DV) (y:DV) (M:Mp) (Φ:DK):δEq x y M Φ = (onD x λ d=>onD y λ e=>eqD d e λ b=>Φ (.dat (.bool b)) M):=qI
theorem Zcb  (x:DV) (y:DV) (M:Mp) (Φ:DK):δNe x y M Φ = (onD x λ d=>onD y λ e=>eqD d e λ b=>Φ (.dat (.bool (!b))) M):=qI
theorem Eh  (z0:DSt) (M:Mp) (Φ:Option Int->Mp->Prop):FP z0 M Φ = (Φ none M):=qI
theorem Sy:type_of% @ZcL.eq_1:=λ _ _ _ _=>qI
theorem Zal:type_of% @ZfN.eq_1:=λ _ _ _ _ _ _=>qI
theorem Pz  (D:Qc) (U:DSt) (M:Mp):ZaY D U M = (D.nx U M):=qI
theorem ZbI:type_of% @ZdE.eq_1:=λ _ _ _ _ _=>qI
theorem RG:type_of% @ZcW.eq_1:=λ _ _ _ _=>qI
theorem Zbz:type_of% @Zfj.eq_1:=λ _ _ _ _=>qI
theorem Zam:type_of% @Zde.eq_1:=λ _ _ _ _ _ _=>qI
theorem Vj:type_of% @VV.eq_1:=λ _ _ _ _ _=>qI
theorem Bf (U:DSt) (M:Mp) (Φ:DSt->Mp->Prop):Rl [] U M Φ = Φ U M:=qI
theorem WU (t:DTG) (u:BY) (x:DV) (r:List DV) (U:DSt) (M:Mp) (Φ:DSt->Mp->Prop):Gd t u (x :: r) U M Φ = t x U M λ Δ' M'=>u r Δ' M' Φ:=qI
theorem Ly (P:List DV->Prop):FV 0 [] P = P []:=qI
theorem Lf (n:Nat) (d:PyData) (r:List PyData) (P:List DV->Prop):FV (n + 1) (d :: r) P = FV n r λ xs=>P (.dat d :: xs):=qI
theorem RR:type_of% @ZaP.eq_1:=λ _ _ _ _ _ _=>qI
theorem Pe:type_of% @Zb9.eq_1:=λ _ _ _ _ _ _=>qI
theorem ZbR:type_of% @S2.eq_1:=λ _ _ _ _ _=>qI
theorem DR:type_of% @CU.eq_1:=λ _ _ _ _ _=>qI
theorem PF:type_of% @ZcB.eq_1:=λ _ _ _ _ _ _=>qI
theorem P4:type_of% @TU.eq_1:=λ _ _ _ _ _ _=>qI
theorem Lg:type_of% @N2.eq_1:=λ _ _ _ _ _ _=>qI
theorem LZ:type_of% @NQ.eq_1:=λ _ _ _ _ _ _=>qI
theorem RQ:type_of% @Pf.eq_1:=λ _ _ _ _ _=>qI
theorem Zba:type_of% @Zf3.eq_1:=λ _ _ _ _=>qI
theorem TM:type_of% @ZfJ.eq_1:=λ _ _ _ _=>qI
theorem OW:type_of% @ZaW.eq_1:=λ _ _ _ _=>qI
theorem Hf (Φ:DK) (acc:List PyData) (M:Mp):W0 true Φ acc M = ∀ p,M p = none->Φ (.own p) (ZD M p (.lst acc)):=qI
theorem HG (Φ:DK) (acc:List PyData) (M:Mp):W0 false Φ acc M = Φ (.dat (.list acc)) M:=qI
theorem R6:type_of% @BK.eq_1:=λ _ _ _ _ _ _ _ _ _=>qI
theorem Tf  (z0:DSt) (M:Mp) (Φ:Bool->Mp->Prop):Zfu z0 M Φ = (Φ true M):=qI
theorem Lv  (xs:List DV) (M:Mp) (Φ:DK):OC xs M Φ = (∃ ns:List Int,Q9 xs M ns /\ 0 < ns.length /\ ∀ m ∈ ns,(∀ a ∈ ns,m <= a)->Φ (.dat (.int m)) M):=qI
theorem LP  (xs:List DV) (M:Mp) (Φ:DK):Od xs M Φ = (∃ ns:List Int,Q9 xs M ns /\ 0 < ns.length /\ ∀ m ∈ ns,(∀ a ∈ ns,a <= m)->Φ (.dat (.int m)) M):=qI
theorem ZaE:type_of% @δ3I.eq_1:=λ _ _ _ _=>qI
theorem CM  (xs:List DV) (M:Mp) (Φ:DK):CC xs M Φ = (on1 xs λ x=>onQ x M λ ds=>Φ (.dat (.tuple ds)) M):=qI
theorem RV (ds:List PyData) (P:List PyData->Prop):onW (.dat (.tuple ds)) P = P ds:=qI
theorem CD:type_of% @CB.eq_1:=λ _ _ _ _ _=>qI
theorem ZcF:type_of% @Zfo.eq_1:=λ _ _ _ _ _ _=>qI
theorem LF  (xs:List DV) (M:Mp) (Φ:DK):Nn xs M Φ = (on1 xs λ x=>onB x λ b=>Φ (.dat (.int (if b = true then 1 else 0))) M):=qI
theorem Mh  (x:DV) (y:DV) (M:Mp) (Φ:DK):N6 x y M Φ = (onK x M λ ds=>onK y M λ es=>ds.length + es.length <= sizeLine /\ Φ (.dat (.list (ds ++ es))) M):=qI
theorem U0  (xs:List DV) (M:Mp) (Φ:DK):Nf xs M Φ = (∃ qs:List (Int × Int),xs = [.dat (.list (qs.map prD))] /\ 0 < qs.length /\ ∀ q ∈ qs,(∀ r ∈ qs,ltP r q = false)->Φ (.dat (prD q)) M):=qI
theorem FE  (z0:DSt) (M:Mp) (Φ:DK):Cy z0 M Φ = (∀ p,M p = none->Φ (.own p) (ZD M p (.dct []))):=qI
theorem Sd:type_of% @Zcs.eq_1:=λ _ _ _ _ _ _=>qI
theorem LY (i j:Int) (P:Int->Int->Prop):onP (.dat (.tuple [.int i,.int j])) P = P i j:=qI
theorem LH:type_of% @CN.eq_1:=λ _ _ _ _ _ _ _ _ _=>qI
theorem F5:type_of% @NI.eq_1:=λ _ _ _ _ _=>qI
theorem Zci:type_of% @Zf1.eq_1:=λ _ _ _ _=>qI
theorem L8 (P:Prop):onN (.dat .none) P = P:=qI
theorem PK:type_of% @ZcG.eq_1:=λ _ _ _ _ _=>qI
theorem Ee  (x:DV) (y:DV) (M:Mp) (Φ:DK):Ei x y M Φ = (onD x λ d=>onW y λ ds=>okIn d ds = true /\ Φ (.dat (.bool (!(ds.any λ e=>PyData.eqv e d)))) M):=qI
section
variable {prog:Program} {E:Value->Shared->Prop}
theorem K1 {its:Array Value} {qs:List (Int × Int)} {d:Value} {Q:Value->Shared->Prop} (hh:A.handled = none) (hu:A.in1.units < cLine) (hl:s.heap.IsList l its) (hz:its.size = qs.length)
  (hq:∀ i v,its[i]? = some v->RW s.heap v (qs.getD i (0,0))) (h0:qs = []->∀ h' tk,(∀ b o,s.heap.get? b = some o->h'.get? b = some o)->Q d { s with heap:=h',toks:=tk })
  (h:∀ i v h' tk,its[i]? = some v->i < qs.length->(∀ j,j < qs.length->ltP (qs.getD j (0,0)) (qs.getD i (0,0)) = false)->(∀ b o,s.heap.get? b = some o->h'.get? b = some o)->Q v { s with heap:=h',toks:=tk }) :
  wpAny (model prog w) A (call (.builtin "min") [.ref l] [(Str.ofString "default",d)]) Q E s:=by
 have hlt:l < s.heap.objs.size:=by obtain ⟨_,e,_⟩:=hl; exact Heap.lt_size e
 refine WJ (h0:=s.heap) (wpAny_pyIter_list hl ?_);refine ⟨s.heap.objs.size,[s.heap.objs.size,l],[s.heap.objs.size],its.size,_,_,λ i j=>ltP (qs.getD i (0,0)) (qs.getD j (0,0)),rfl,Walks.list (A:=A.in1) hh _ l (Nat.ne_of_lt hlt) its,⟨⟨_,Heap.get?_push_size _ rfl,rfl,rfl⟩,hl.push _⟩,λ b hb=>?_,λ b hb=>?_,λ b o e=>Heap.get?_push_of_some _ e,?_,λ i j x y s' Q' E' old hx hy hQ=>?_,λ hn h' tk keep=>?_,λ hn v h' tk hP keep=>?_⟩
 ·show b < (s.heap.push _).objs.size;rw [Heap.size_push]
  rcases List.mem_cons.mp hb with rfl | hb
  ·exact Nat.lt_succ_self _
  ·rw [List.mem_singleton.mp hb];exact Nat.lt_succ_of_lt hlt
 ·rw [List.mem_singleton.mp hb];exact get_none (Nat.le_refl _)
 ·show s.heap.get? (s.heap.push _).objs.size = none;rw [Heap.size_push];exact get_none (Nat.le_succ _)
 ·exact U6 hu ((hq i x hx).keep old) ((hq j y hy).keep old) hQ
 ·exact h0 (List.length_eq_zero_iff.mp (by lia)) h' tk keep
 ·have b:=Vv (λ i=>qs.getD i (0,0)) (its.size - 1);exact h _ v h' tk hP (by lia) (λ j hj=>b.2 j (by lia)) keep
end
section
variable {p kp kpos:Pos} {a:Expr} {t:TA} {kj}
def Zeo (K:Fk):List V->Hp->VK->Prop:=λ xs H Q=>∃ (p:Addr) (vs:List V) (qs:List (Int × Int)),xs = [.ref p] /\ SqL K H p vs /\ vs.length = qs.length /\ (∀ (i:Nat) (q:Int × Int),qs[i]? = some q->∃ a:Addr,vs[i]? = some (V.ref a) /\ SqT K H a [.int q.1,.int q.2]) /\
 (qs = []->Q .non H) /\ ∀ (i:Nat) (q:Int × Int) (v:V),qs[i]? = some q->vs[i]? = some v->(∀ r ∈ qs,ltP r q = false)->Q v H
theorem SK (hc:X.calm = true) (hu:X.A.in1.units < cLine) (hg:Gl X x) (hm:X.mg x = none) (hv:bootBuiltins x = some (.builtin "min")) (ha:PA X [a] t) (hn:autoParam (x ≠ "__name__") zz1._auto_1) (hdb:autoParam ((x == ("__debug__" : Str)) = false) zz1._auto_1)
  (he:autoParam (∀ pos,backTo pos (starEach [a] X.env) = (false,eval a X.env) :: backTo pos (starEach [] X.env)) zz2._auto_1) (hpl:autoParam (∀ pos,(backTo pos (starEach [a] X.env)).any (·.1) = false) zz2._auto_1) :
  PE X (.Call (.Name x p) [a] [⟨some (Str.ofString "default"),.Constant .none kj kpos,kp⟩] pos) (λ Z H Q=>t Z H λ xs H1=>Zeo X.K xs H1 Q):=by
 intro pins s Z H Q I h;refine wpAny_Call_Name_kw (JU I hg hm hv ?_ hn hdb);refine callWith_kw (thn (ha pos pins s Z H _ I h) λ us s1 ⟨vs,H1,I1,r1,q1⟩=>?_) (he pos) (hpl pos);refine kws_cons (thn ((Ov (X:=X)) pins s1 Z H1 (λ v H'=>v = .non /\ H' = H1) I1 ⟨rfl,rfl⟩) λ u s2 ⟨v,H2,I2,r2,e1,e2⟩=>kws_nil ?_);subst e1 e2;obtain rfl:u = Value.none:=r2;obtain ⟨p',ws,qs,rfl,hq,hz,hp,q0,q⟩:=q1;obtain ⟨u,rfl,rx⟩:=vals1 r1;cases rx;obtain ⟨its,rv,pl,_⟩:=I2.list hq;have hlen:=rv.length;have get:∀ i,i < qs.length->qs[i]? = some (qs.getD i (0,0)):=λ i hi=>by rw [List.getElem?_eq_getElem hi,List.getD_eq_getElem?_getD,List.getElem?_eq_getElem hi]; rfl
 refine K1 (I2.ok.hd hc) hu pl.isList (by rw [List.size_toArray,<- hlen]; exact hz) (λ i v hv=>?_) (λ e h' tk hk=>⟨.non,H2,I2.kept hk,rfl,q0 e⟩) λ i v h' tk hv hi hm hk=>?_
 ·have hv':its[i]? = some v:=by simpa using hv
  have hi:i < qs.length:=by
   have:=(List.getElem?_eq_some_iff.mp hv').1;lia
  obtain ⟨a,e,sq⟩:=hp i _ (get i hi);obtain ⟨w',e',rl⟩:=rv.get e;rw [hv'] at e';cases e';cases (show v = .ref a from rl);obtain ⟨jts,rt,⟨o,eo,co,n,d⟩,_⟩:=I2.tuple sq;obtain ⟨x1,x2,rfl,⟨t1,rfl⟩,⟨t2,rfl⟩⟩:=Vals.two rt;exact ⟨a,o,n,t1,t2,rfl,eo,co,d⟩
 ·have hv':its[i]? = some v:=by simpa using hv
  obtain ⟨x,e,rl⟩:=Vals.back rv hv';refine ⟨x,H2,I2.kept hk,rl,q i _ x (get i hi) e λ r hr=>?_⟩;obtain ⟨j,hj,rfl⟩:=List.getElem_of_mem hr;have:=hm j hj
  rwa [List.getD_eq_getElem?_getD,List.getElem?_eq_getElem hj] at this
def Zcx (ta:DTA):DTE:=λ U M Φ=>ta U M λ xs M1=>on1 xs λ x=>∃ qs:List (Int × Int),Fv x M1 (qs.map prD) /\ (qs = []->Φ (.dat .none) M1) /\ ∀ q ∈ qs,(∀ r ∈ qs,ltP r q = false)->Φ (.dat (prD q)) M1
theorem Pb:type_of% @Zcx.eq_1:=λ _ _ _ _=>qI
theorem PV {k:Nat} (hr:JJ k X.A) (hc:X.calm = true) (hg:Gl X x) (hm:X.mg x = none) (hv:bootBuiltins x = some (.builtin "min")) (ha:DA X [a] ta) (hn:autoParam (x ≠ "__name__") zz1._auto_1) (hdb:autoParam ((x == ("__debug__" : Str)) = false) zz1._auto_1)
  (he:autoParam (∀ pos,backTo pos (starEach [a] X.env) = (false,eval a X.env) :: backTo pos (starEach [] X.env)) zz2._auto_1) (hpl:autoParam (∀ pos,(backTo pos (starEach [a] X.env)).any (·.1) = false) zz2._auto_1) :
  DE X (.Call (.Name x p) [a] [⟨some (Str.ofString "default"),.Constant .none kj kpos,kp⟩] pos) (Zcx ta):=by
 obtain ⟨t1,p1,q1⟩:=ha;refine ⟨_,SK hc (by have:=hr.un; show X.A.units + 1 < _; lia) hg hm hv p1 hn hdb he hpl,λ Z H U M Φ Q r e h k=>?_⟩;refine q1 Z H U M _ _ r e h λ vs H1 xs M1 r1 st rv hx=>?_;replace hx:=ZZ hx;obtain ⟨x,rfl,qs,hls,q0,q⟩:=hx;obtain ⟨v,rfl,h1⟩:=Paired.one rv;obtain ⟨p,ys,rfl,g1,g2⟩:=hls.sq r1 h1;refine ⟨p,ys,qs,rfl,g1,by rw [g2.length,List.length_map],λ i q' e=>?_,λ e=>k.dat r1 st Dt.non (q0 e),λ i q' v e ev hm=>?_⟩
 ·obtain ⟨v,ev,d⟩:=g2.get (i:=i) (d:=prD q') (by rw [List.getElem?_map,e]; rfl);cases d with
  | tup t1 t2=>
   cases t2 with
   | cons a b=>
    cases a;cases b with
    | cons a b=>
     cases a;cases b;exact ⟨_,ev,t1.sq⟩
 ·obtain ⟨v',ev',d⟩:=g2.get (i:=i) (d:=prD q') (by rw [List.getElem?_map,e]; rfl);rw [ev] at ev';cases ev';exact k.dat r1 st d (q q' (List.mem_of_getElem? e) hm)
end
section
variable {a b:Expr} {ta tb:DTE}
end
end DL
namespace DL
open PySem.W
section
variable {lt:Nat->Nat->Bool}
def Le (lt:Nat->Nat->Bool) (a b:Nat):Prop:=lt b a = false
structure Ord (lt:Nat->Nat->Bool):Prop where
 asym:∀ a b,lt a b = true->lt b a = false
 tran:∀ a b c,Le lt a b->Le lt b c->Le lt a c
theorem Ord.refl (o:Ord lt) (a:Nat):Le lt a a:=by
 unfold Le;cases h:lt a a with
 | false=>rfl
 | true=>have:=o.asym a a h; rw [h] at this; cases this
noncomputable abbrev at' (p:Array Nat) (k:Nat):Nat:=p.getD k 0
def Pm (n:Nat) (p:Array Nat):Prop:=p.Perm (List.range n).toArray
theorem Pm.size {p:Array Nat} (h:Pm n p):p.size = n:=by
 have:=h.size_eq
 simpa using this
theorem Pm.below {p:Array Nat} (h:Pm n p) {k:Nat} (hk:k < n):at' p k < n:=by
 have hs:k < p.size:=by rw [h.size]; exact hk
 have e:at' p k = p[k]:=by simp [at',hs]
 have m1:p[k] ∈ p:=Array.getElem_mem hs;have m2:=h.mem_iff.mp m1;rw [e]
 simpa using m2
theorem Pm.rev {p:Array Nat} (h:Pm n p) (i j:Nat):Pm n (kas_rev p i j):=(mirror_perm _ _ _ _).trans h
theorem Pm.bub {p:Array Nat} (h:Pm n p) (i j:Nat):Pm n (bubble p i j):=(bubble_perm _ _ _).trans h
theorem Xf {p:Array Nat} (hj:j <= p.size) (k:Nat):at' (kas_rev p i j) k = if i <= k /\ k < j then at' p (i + j - 1 - k) else at' p k:=by
 have hm:=getElem?_mirror (i:=i) hj ((j - i) / 2) (by lia) k;have e:∀ (q:Array Nat) (k:Nat),at' q k = q[k]?.getD 0:=λ q k=>by simp [at',Array.getD_eq_getD_getElem?]
 rw [e,e,e];unfold kas_rev;rw [hm]
 by_cases c:i <= k /\ k < j
 ·rw [if_pos c]
  by_cases c2:(i <= k /\ k < i + (j - i) / 2) \/ (j - (j - i) / 2 <= k /\ k < j)
  ·rw [if_pos c2]
  ·rw [if_neg c2]
   congr 2
   lia
 ·rw [if_neg c,if_neg (by lia)]
theorem Ex {p:Array Nat} {k l:Nat} (hk:k < p.size) (hl:l <= k) (x:Nat):at' (bubble p k (k - l)) x = if x = l then at' p k else if l < x /\ x <= k then at' p (x - 1) else at' p x:=by
 have hm:=getElem?_bubble hk (k - l) (by lia) x;have e:∀ (q:Array Nat) (k:Nat),at' q k = q[k]?.getD 0:=λ q k=>by simp [at',Array.getD_eq_getD_getElem?]
 rw [show k - (k - l) = l by lia] at hm;rw [e,hm,e,e,e]
 split
 ·rfl
 ·split <;> rfl
end
section
variable {prog:Program} {E:Value->Shared->Prop} {lt:Nat->Nat->Bool}
noncomputable abbrev Up (vs:List Value) (q:Array Nat):Array Value:=List.toArray (q.toList.map λ i=>vs.getD i Value.none)
theorem Ca (vs:List Value):Up vs (List.range vs.length).toArray = vs.toArray:=by
 apply Array.toList_inj.mp;show (List.range vs.length).map (λ i=>vs.getD i Value.none) = vs;apply List.ext_getElem?;intro i;rw [List.getElem?_map]
 by_cases h:i < vs.length
 ·rw [List.getElem?_range h,List.getElem?_eq_getElem h];simp [h]
 ·rw [List.getElem?_eq_none (by simpa using h),List.getElem?_eq_none (by simpa using h)];rfl
end
theorem map_range {α:Type} (l:List α) (d:α):(List.range l.length).map (λ i=>l.getD i d) = l:=by
 apply List.ext_getElem?;intro i;rw [List.getElem?_map]
 by_cases h:i < l.length
 ·rw [List.getElem?_range h,List.getElem?_eq_getElem h];simp [h]
 ·rw [List.getElem?_eq_none (by simpa using h),List.getElem?_eq_none (by simpa using h)];rfl
theorem FC (its:List Value):slicePick its.toArray none none (some (-1)) = its.reverse.toArray:=by
  have hr:sliceRange ((its.length:Int) - 1) (-1) (-1) = (List.range its.length).map λ (k:Nat)=>its.length - 1 - k:=by
    unfold sliceRange
    have hc:(if (-1:Int) > 0 then (if (its.length:Int) - 1 < -1 then (-1 - ((its.length:Int) - 1) + -1 - 1) / -1 else 0)
                     else (if (its.length:Int) - 1 > -1 then ((its.length:Int) - 1 - -1 - -1 - 1) / (- -1) else 0)).toNat = its.length:=by
      rw [if_neg (by decide)]
      split
      · rw [show -(-1:Int) = 1 from rfl,Int.ediv_one]
        lia
      · lia
    dsimp only;rw [hc];refine List.map_congr_left λ k _=>?_;lia
  unfold slicePick;show ((sliceRange ((its.toArray.size:Int) - 1) (-1) (-1)).filterMap (its.toArray[·]?)).toArray = _;rw [List.size_toArray,hr,List.filterMap_map]
  congr 1
  have h1:((List.range its.length).filterMap ((λ (x:Nat)=>its.toArray[x]?) ∘ λ (k:Nat)=>its.length - 1 - k)) = (List.range its.length).filterMap (λ (k:Nat)=>some ((its.reverse[k]?).getD .none)):=by
    refine US λ k hk=>?_;have hk:=List.mem_range.mp hk;show its.toArray[its.length - 1 - k]? = _;rw [List.getElem?_toArray,List.getElem?_reverse hk,List.getElem?_eq_getElem (by lia)];rfl
  rw [h1];have h2:(λ (k:Nat)=>some ((its.reverse[k]?).getD Value.none)) = some ∘ λ (k:Nat)=>(its.reverse[k]?).getD Value.none:=rfl;rw [h2,List.filterMap_eq_map];refine List.ext_getElem (by simp) λ i a b=>?_;rw [List.getElem_map,List.getElem_range,List.getElem?_eq_getElem b];rfl
theorem RC {st:Expr} {te ts:TE} (he:PE X e te) (hs:PE X st ts) {ops:Value->Value->List Value} (hsub:∀ v u,subscripted (.Slice none none (some st) p2) false v u = operate (ops v u) (getItem v u)):PE X (.Subscript e (.Slice none none (some st) p2) pos)
  (λ Z H Q=>te Z H λ x H1=>ts Z H1 λ y H2=>∃ a xs,x = .ref a /\ y = .int (-1) /\ SqL X.K H2 a xs /\ ∀ p,H2 p = none->Q (.ref p) (upd H2 p (.lst xs.reverse))):=by
 intro pins s Z H Q I h;refine Subscript_ (thn (he pins s Z H _ I h) λ v s1 ⟨x,H1,I1,r1,q1⟩=>?_);refine wpAny_Slice ?_;rw [evalPart_none];refine wpAny_pure (wpAny_pure ?_);rw [evalPart_some];refine thn (hs pins s1 Z H1 _ I1 q1) λ u s2 ⟨y,H2,I2,ry,a,xs,ex,ey,hq,q2⟩=>?_;subst ex ey;cases (show v = .ref a from r1);obtain ⟨tk,rfl⟩:=ry;have I4:Inv X pins Z H2 { s2 with heap:=s2.heap.push { cls:=.type "slice",data:=.fields #[.none,.none,.int (-1) tk] } }:=I2.kept (t':=s2.toks) λ b ob q=>Heap.get?_push_of_some _ q;obtain ⟨its,r,ht,hz⟩:=I4.list hq;have hlen:=r.length;refine tail_any (ops:=ops (.ref a) (.ref s2.heap.objs.size)) ht.isList.typeIs slot_list_getitem.lookup (wpAny_getItem_list_slice ht.isList (Heap.IsSliceOf.new ..) .none .none (.int (-1) tk) (by decide) ?_ (by rw [List.size_toArray] <;> lia)) (hsub _ _);rw [FC];refine ⟨.ref _,_,I4.laid (t':=_) (o:=.lst xs.reverse) (λ b ob q=>Heap.get?_push_of_some _ q) (Nat.le_refl _) ?_,rfl,q2 _ (I4.hok.fresh (Nat.le_refl _))⟩;exact ⟨by rw [List.length_reverse]; exact hz,_,0,r.reverse,Heap.get?_push_size _ rfl⟩
def ZaI (te ts:DTE):DTE:=λ U M Φ=>te U M λ x M1=>ts U M1 λ y M2=>onK x M2 λ ds=>onI y λ i=>i = -1 /\ Φ (.dat (.list ds.reverse)) M2
theorem Sf {st:Expr} {ts:DTE} (he:DE X e te) (hs:DE X st ts) {ops:Value->Value->List Value} (hsub:autoParam (∀ v u,subscripted (.Slice none none (some st) p2) false v u = operate (ops v u) (getItem v u)) zz9._auto_1):DE X (.Subscript e (.Slice none none (some st) p2) pos) (ZaI te ts):=by
 obtain ⟨t1,p1,q1⟩:=he;obtain ⟨t2,p2,q2⟩:=hs;refine ⟨_,RC p1 p2 hsub,λ Z H U M Φ Q r e h k=>?_⟩;refine q1 Z H U M _ _ r e h λ v H1 x M1 r1 st rv hx=>?_;refine q2 Z H1 U M1 _ _ r1 (e.step st) hx λ u H2 y M2 r2 st2 ru hy=>?_;replace hy:=YJ hy;obtain ⟨ds,hd,hy⟩:=hy;replace hd:Fv x M2 ds:=hd;replace hy:=ZA hy;obtain ⟨ii,rfl,rfl,hy⟩:=hy;obtain ⟨a,xs,rfl,h1,h2⟩:=hd.sq r2 (rv.step st2);exact ⟨a,xs,rfl,Z3.int ru,h1,λ p hp=>k.dat (r2.new hp) ((st.trans st2).trans (Step.new hp)) (Dt.VW r2 hp h2.reverse) hy⟩
theorem Sw:type_of% @ZaI.eq_1:=λ _ _ _ _ _=>qI
section
variable {prog:Program} {E:Value->Shared->Prop}
theorem VG {x:Value} {Q:Value->Shared->Prop} (hit:s.heap.IsTupleIter it l i) (hl:s.heap.IsTuple l items) (hx:items[i]? = some x)
  (hQ:∀ h',h'.IsTupleIter it l (i + 1)->Heap.SameBut it s.heap h'->Q x { s with heap:=h' }):wpAny (model prog w) A (Builtin.SmallTypes.nextOf (.ref it)) Q E s:=by
 obtain ⟨o,ho,hc,hd⟩:=id hit;obtain ⟨ol,hol,_,nl,hdl⟩:=hl;unfold Builtin.SmallTypes.nextOf;refine wpAny_bind (wpAny_callSpecial?_slot (name:=Str.ofString "__next__") hit.typeIs F.slot_tuple_iterator_next (wpAny_call_entry F.slot_tuple_iterator_next hit.typeIs F.entry_tuple_iterator_next ?_ (F.args_tuple_iterator_next_1 _)));show wpAny _ _ (field (.ref it) 0 >>= _) _ _ s;refine wpAny_bind (wpAny_field ho hd (x:=.ref l) rfl ?_);show wpAny _ _ (if (Value.ref l == Value.none) = true then _ else _) _ _ s;rw [if_neg (show ¬ ((Value.ref l == Value.none) = true) from Bool.false_ne_true)];show wpAny _ _ (field (.ref it) 1 >>= _) _ _ s;refine wpAny_bind (wpAny_field ho hd (x:=.int i 0) rfl ?_);show wpAny _ _ (seqItems? (.ref l) >>= _) _ _ s;refine wpAny_bind (wpAny_seqItems hol hdl ?_);simp only [Int.toNat_natCast,hx];refine wpAny_bind (wpAny_setField ho hd (by simp) (wpAny_pure ⟨x,rfl,wpAny_pure (hQ _ ?_ (Heap.SameBut.update ..))⟩));exact ⟨_,Heap.get?_update_self _ ho (Obj.isFreed_of_fields (Obj.data_mapFields hd _)),(Obj.cls_mapFields ..).trans hc,by rw [Obj.data_mapFields hd]; simp [rawInt]⟩
theorem V2 {Q:Value->Shared->Prop} (hh:A.handled = none) (hit:s.heap.IsTupleIter it l i) (hl:s.heap.IsTuple l items) (hx:items[i]? = none)
  (hE:∀ h' e,Heap.ExtBut it s.heap h'->(∃ o,h'.get? e = some o /\ o.cls = .type "StopIteration")->E (.ref e) { s with heap:=h' }):wpAny (model prog w) A (Builtin.SmallTypes.nextOf (.ref it)) Q E s:=by
 obtain ⟨o,ho,hc,hd⟩:=id hit;obtain ⟨ol,hol,_,nl,hdl⟩:=hl;unfold Builtin.SmallTypes.nextOf;refine wpAny_bind (wpAny_callSpecial?_slot (name:=Str.ofString "__next__") hit.typeIs F.slot_tuple_iterator_next (wpAny_call_entry F.slot_tuple_iterator_next hit.typeIs F.entry_tuple_iterator_next ?_ (F.args_tuple_iterator_next_1 _)));show wpAny _ _ (field (.ref it) 0 >>= _) _ _ s;refine wpAny_bind (wpAny_field ho hd (x:=.ref l) rfl ?_);show wpAny _ _ (if (Value.ref l == Value.none) = true then _ else _) _ _ s;rw [if_neg (show ¬ ((Value.ref l == Value.none) = true) from Bool.false_ne_true)];show wpAny _ _ (field (.ref it) 1 >>= _) _ _ s;refine wpAny_bind (wpAny_field ho hd (x:=.int i 0) rfl ?_);show wpAny _ _ (seqItems? (.ref l) >>= _) _ _ s;refine wpAny_bind (wpAny_seqItems hol hdl ?_);simp only [Int.toNat_natCast,hx];refine wpAny_bind (wpAny_rule (wpAny_bind (wpAny_setField ho hd (by simp) ?_)));show wpAny _ _ (newExc (.type "StopIteration") [] >>= _) _ _ _;refine wpAny_bind ?_;simp only [newExc,newTuple];refine wpAny_bind (wpAny_newObj_type ?_ (by size_fits));refine wpAny_bind (m:=firstArgMember _ _) (wpAny_of_eq (a:=Value.none) (by first | rfl | (simp only [firstArgMember]; rfl)) ?_);refine wpAny_newObj_type ?_ (by size_fits);simp only [raiseNew];refine wpAny_bind (wpAny_handled ?_)
 first | rw [show A.in1.handled = none from hh] | rw [hh]
 refine wpAny_bind (wpAny_pure (wpAny_throw ?_));exact hE _ _ (((Heap.SameBut.update ..).extBut.push _).push _) ⟨_,Heap.get?_push_size _ rfl,rfl⟩
end
section
variable {prog:Program} {E:Value->Shared->Prop}
end
section
variable {Z:L2.St}
theorem Gq {t':Nat} {ch:List Addr} (I:L2.Inv X pins Z H s) (k:∀ b o,b ∉ ch->s.heap.get? b = some o->h'.get? b = some o) (f:∀ b ∈ ch,BE X pins H b):L2.Inv X pins Z H { s with heap:=h',toks:=t' }:=by
 have nit:∀ b u,H b = some u->b ∉ ch:=λ b u e z=>by rw [(f b z).1] at e; cases e
 refine I.step (g':=s.gens) (d':=s.drawn) (ch:=ch) (λ b hb=>?_) (λ b o _ _ hc e _=>k b o hc e) (λ b o _ _ hc e _=>⟨o.slots,k b o hc e⟩) (λ _ _ _ _ n=>n)
  (λ b o hc e=>⟨o,k b o hc e⟩) (λ _ _ e=>e) (λ _ _ _ e=>e) (λ b ps e=>⟨#[],by rw [e]; simp⟩) (λ m hm=>?_) (λ b u e=>?_) I.bare
 ·obtain ⟨_,f1,_,f3,f4,f5⟩:=f b hb;exact ⟨f3,f1,f4,f5⟩
 ·obtain ⟨o,es,ep,ho,r⟩:=hm;exact ⟨o,es,ep,k _ o (λ z=>(f _ z).2.1 rfl) ho,r⟩
 ·refine (I.hok b u e).OS (λ c v hc q=>k c v ?_ q) (λ _ q=>q) λ _ _ q=>q
  rcases hc with z | z
  ·rw [z]; exact nit b u e
  ·exact nit c _ z
end
theorem ZbW {base:Heap} {k:Nat} {ps:List Str} {S:DSp} (h:∀ xs M Φ,¬ S xs M Φ):Qn P w K mg base CX0 k f fd ps (lift K S):=
 ⟨λ vs H Q E z=>by obtain ⟨xs,M,Φ,_,_,z,_⟩:=z; exact absurd z (h _ _ _),λ A outer s H args us vs Q E _ _ _ _ z=>by obtain ⟨xs,M,Φ,_,_,z,_⟩:=z; exact absurd z (h _ _ _)⟩
section
variable {prog:Program} {E:Value->Shared->Prop}
theorem KC {t:Addr} (hne:t ≠ it):∀ (n i:Nat) (s:Shared) (Q:List Value->Shared->Prop),s.heap.IsListIter it t i->s.heap.IsList t items->i + n <= items.size ->
  (∀ h',h'.IsListIter it t (i + n)->Heap.SameBut it s.heap h'->Q ((items.toList.drop i).take n) { s with heap:=h' })->wpAny (model prog w) A (draw (.ref it) n) Q E s
 | 0,i,s,Q,hit,_,_,hQ=>by
  show wpAny _ _ (pure []) Q E s;exact wpAny_pure (by simpa using hQ s.heap hit (Heap.SameBut.refl ..))
 | n + 1,i,s,Q,hit,ht,hle,hQ=>by
  have hlt:i < items.size:=by lia
  show wpAny _ _ (pyNext (.ref it) >>= _) Q E s;refine wpAny_bind (wpAny_pyNext_list_item hit ht (x:=items[i]) (by simp [hlt]) λ h₁ hit₁ hs₁=>?_);refine wpAny_bind (wpAny_holding (KC hne n (i + 1) _ _ hit₁ (ht.extBut hs₁.extBut hne) (by lia) λ h₂ hit₂ hs₂=>wpAny_pure ?_));have hd:items.toList.drop i = items[i] :: items.toList.drop (i + 1):=by simp [List.drop_eq_getElem_cons,hlt]
  have:=hQ h₂ (by rw [show i + (n + 1) = i + 1 + n by lia]; exact hit₂) (hs₁.trans hs₂);rw [hd,List.take_succ_cons] at this;exact this
theorem V0 {t:Addr} {Q:List Value->Shared->Prop} (hh:A.handled = none) (ht:s.heap.IsList t items)
  (hQ:∀ h',Heap.ExtBut s.heap.objs.size s.heap h'->Q items.toList { s with heap:=h' }):wpAny (model prog w) A (unpackItems (.ref t) items.size none) Q E s:=by
 have hlt:t ≠ s.heap.objs.size:=by obtain ⟨o,ho,_⟩:=ht; exact Nat.ne_of_lt (Heap.lt_size ho)
 unfold unpackItems;refine wpAny_bind ?_
 ·unfold notIterableAtAll;refine wpAny_bind (wpAny_specialOf ht.typeIs F.slot_list_iter.lookup ?_);refine wpAny_pure ?_;simp only [Bool.false_eq_true,if_false];refine wpAny_bind (wpAny_holding (wpAny_pyIter_list ht ?_));refine wpAny_bind (wpAny_holding (KC hlt items.size 0 _ _ ⟨_,Heap.get?_push_size _ rfl,rfl,rfl⟩ (ht.push _) (by lia) λ h₁ hit₁ hs₁=>?_));have hall:List.take items.size (List.drop 0 items.toList) = items.toList:=by
   rw [List.drop_zero]; exact List.take_of_length_le (by simp)
  rw [hall];rw [if_neg (by simp)];have ht₁:h₁.IsList t items:=(ht.push _).extBut hs₁.extBut hlt;refine wpAny_bind (wpAny_holding (wpAny_pyNext_list_end hh hit₁ ht₁ (by simp) λ h₂ he₂=>?_));simp only [Option.isSome_none,Bool.false_eq_true,if_false];refine wpAny_pure (hQ h₂ λ b o hb e=>he₂ b o hb (hs₁.extBut b o hb (Heap.get?_push_of_some _ e)))
theorem VF {env:Env} {elts:List Expr} {x1} {pos:Pos} {t:Addr} {Q:Unit->Shared->Prop} (hh:A.handled = none) (ht:s.heap.IsList t items)
  (hn:(assignEach elts env).length = items.size) (hstar:(assignEach elts env).findIdx? (·.1) = none)
  (h:∀ h',Heap.ExtBut s.heap.objs.size s.heap h'->wpAny (model prog w) A (assignInOrder ((assignEach elts env).map (·.2)) items.toList) Q E { s with heap:=h' }) :
  wpAny (model prog w) A (assign (.Tuple elts x1 pos) env (.ref t)) Q E s:=by
 rw [assign_Tuple];refine wpAny_bind (wpAny_standAt ?_);unfold unpack;rw [hn,hstar];exact wpAny_bind (wpAny_holding (V0 hh ht h))
end
theorem ZcD {k:Nat} {t:TGs} {n:Nat} (hc:X.calm = true) (h:PGs X es t)
  (hn:autoParam ((assignEach es X.env).length = n) zz3._auto_1) (hst:autoParam ((assignEach es X.env).findIdx? (·.1) = none) zz3._auto_1):PG X (.Tuple es k pos) (λ v Z H Q=>∃ a xs,v = .ref a /\ SqL X.K H a xs /\ xs.length = n /\ t xs Z H Q):=by
 intro pins s Z H v u Q I r hw;obtain ⟨a,xs,e1,hq,hl,hw⟩:=hw;subst e1;cases r;obtain ⟨its,rv,ht,hz⟩:=I.list hq;refine VF (I.ok.hd hc) ht.isList (by simp [hn,<- hl,rv.length]) hst λ h' hx=>?_;have I1:L2.Inv X pins Z H { s with heap:=h' }:=I.kept (t':=s.toks) λ b o e=>hx b o (Nat.ne_of_lt (Heap.lt_size e)) e;exact h pins _ Z H xs _ Q I1 (by simpa using rv) hw
def T1 (n:Nat) (t:BY):DTG:=λ x U M Φ=>onL x λ ds=>FV n ds λ xs=>t xs U M Φ
theorem Zax {k:Nat} {t:BY} (hc:X.calm = true) (h:DGs X es t) (hn:autoParam ((assignEach es X.env).length = n) zz3._auto_1) (hst:autoParam ((assignEach es X.env).findIdx? (·.1) = none) zz3._auto_1):DG X (.Tuple es k pos) (T1 n t):=by
 obtain ⟨t1,p1,q1⟩:=h;refine ⟨_,ZcD hc p1 hn hst,λ v Z H x U M Φ Q r e rv h k=>?_⟩;replace h:=Kr h;obtain ⟨ds,rfl,h⟩:=h;replace h:=UC h;obtain ⟨hl,h⟩:=h;obtain ⟨a,xs,rfl,h1,h2⟩:=rv.lst;exact ⟨a,xs,rfl,h1.sq,by rw [h2.length]; exact hl,q1 xs Z H _ U M Φ Q r e h2.Pc h k⟩
theorem OT:type_of% @T1.eq_1:=λ _ _ _ _ _ _=>qI
theorem F7 (hu:X.A.units < cLine):OpR X (compareOp .NotEq) (λ x y H Q=>∃ a b xs,x = .ref a /\ y = .ref b /\ SqL X.K H a xs /\ SqL X.K H b [] /\ Q (.bl (!xs.isEmpty)) H):=by
 intro pins s Z H x y v u Q I rx ry h;obtain ⟨a,b,xs,rfl,rfl,h1,h2,q⟩:=h;cases rx;cases ry;obtain ⟨its,r,p,_⟩:=I.list h1;obtain ⟨jts,r2,p2,_⟩:=I.list h2;cases r2;have hl:=r.length;cases xs with
 | nil=>
  have e:its.toArray.size = ([]:List Value).toArray.size:=by rw [List.size_toArray,List.size_toArray]; exact hl.symm
  refine PySem.SeqAt.RcNeAt.lists (e:=λ _=>true) p.isList p2.isList e hu (λ j h1 h2=>absurd h2 (Nat.not_lt_zero _)) _ _ _ _ ⟨.bl _,H,I,?_,q⟩;show Value.bool (!(List.range its.toArray.size).all λ _=>true) = _;rw [e];rfl
 | cons x xs=>
  refine PySem.SeqAt.RcNeAt.lists_lengths p.isList p2.isList ?_ hu _ _ _ _ ⟨.bl _,H,I,rfl,q⟩;rw [List.size_toArray,<- hl];rfl
def Ff:D2:=λ x y M Φ=>onK x M λ ds=>onK y M λ es=>es = [] /\ Φ (.dat (.bool (!ds.isEmpty))) M
theorem MK {k:Nat} (hr:JJ k X.A):OpD X (compareOp .NotEq) Ff:=by
 refine ⟨_,F7 (by have:=hr.un; lia),λ v u H x y M Φ Q r rv ru h k=>?_⟩;replace h:=YJ h;obtain ⟨ds,hx,h⟩:=h;replace h:=YJ h;obtain ⟨es,hy,rfl,q⟩:=h;replace hx:Fv x M ds:=hx;replace hy:Fv y M []:=hy;obtain ⟨a,xs,rfl,h1,h2⟩:=hx.sq r rv;obtain ⟨b,ys,rfl,h3,h4⟩:=hy.sq r ru;cases h4;refine ⟨a,b,xs,rfl,rfl,h1,h3,?_⟩;have e:xs.isEmpty = ds.isEmpty:=by cases h2 <;> rfl
 rw [e];exact k.dat r Step.refl (Dt.bl _) q
def EE:D2:=λ x y M Φ=>onK x M λ ds=>onK y M λ es=>ds.length + es.length <= sizeLine /\ ∀ p,M p = none->Φ (.own p) (ZD M p (.lst (ds ++ es)))
theorem Mt:OpD X (binaryOp .Add) EE:=by
 refine ⟨_,GV,λ v u H x y M Φ Q r rv ru h k=>?_⟩;replace h:=YJ h;obtain ⟨ds,hx,h⟩:=h;replace h:=YJ h;obtain ⟨es,hy,hz,q⟩:=h;replace hx:Fv x M ds:=hx;replace hy:Fv y M es:=hy;obtain ⟨a,xs,rfl,h1,h2⟩:=hx.sq r rv;obtain ⟨b,ys,rfl,h3,h4⟩:=hy.sq r ru;refine ⟨a,b,xs,ys,rfl,rfl,h1,h3,by rw [h2.length,h4.length]; exact hz,λ p hp=>?_⟩;exact k _ _ (.own p) _ (r.Vb (Step.Ja hp) (h2.append h4)) (Step.Ja hp) rfl (q p (r.tracked hp))
def Pd:D1:=λ xs M Φ=>on1 xs λ x=>onI x λ i=>Φ (.dat (.bool (i != 0))) M
theorem E2:type_of% @Ff.eq_1:=λ _ _ _ _=>qI
theorem EL:type_of% @EE.eq_1:=λ _ _ _ _=>qI
noncomputable def isS (h:PyData) (s:Str):Bool:=match h with | .str t=>decide (t = s) | _=>false
theorem Ek {h:PyData} {s:Str} {P:Bool->Prop} (hl:h.canLay0 = true) (hs:(PyData.str s).canLay0 = true) (p:P (isS h s)):eqD h (.str s) P:=by
 cases h with
 | str t=>exact p
 | dict _=>simp [PyData.canLay0] at hl
 | _=>
  refine ⟨?_,?_⟩
  ·unfold Ol;rw [hl,hs];simp [PyData.depth]
  ·simp only [PyData.eqv];exact p
end DL
namespace DL
open PySem.W PySem.SeqAt PySem.MeetsSeq
theorem Qv (l:Addr) (es:Array DictEntry) (n:Nat) (dd:Option Addr) (sl:Array (Option Value)) (b:Str) (u:Tok) :
  Meets (Builtin.«dict.__eq__» ⟨[.ref l,.str b u],[]⟩) (λ _ R s=>s.heap.get? l = some { cls:=.type "dict",dict:=dd,data:=.dict es n,slots:=sl } /\ R (.ok (.ret .notImplemented)) s):=
 .of_wp λ prog w A R s h=>by
  obtain ⟨hp,g,d,tk,os⟩:=s; obtain ⟨hl,h⟩:=h;have f1:=F.sub_str_dict
  wp_walk using wpAny_loadPart' hl
  exact ⟨_,rfl,h⟩
theorem Qw (b:Str) (u:Tok) (l:Addr) (c:Value) (es:Array DictEntry) (n:Nat) (dd:Option Addr) (sl:Array (Option Value)) :
  Meets (Builtin.«str.__eq__» ⟨[.str b u,.ref l],[]⟩) (λ _ R s=>s.heap.get? l = some { cls:=c,dict:=dd,data:=.dict es n,slots:=sl } /\ R (.ok (.ret .notImplemented)) s):=
 .of_wp λ prog w A R s h=>by obtain ⟨hp,g,d,tk,os⟩:=s; obtain ⟨hl,h⟩:=h; wp_walk using wpAny_loadPart' hl,wpAny_load hl; exact ⟨_,rfl,h⟩
def Zdb (h:Heap) (l:Addr):Prop:=∃ (o:Obj) (es:Array DictEntry) (n:Nat),h.get? l = some o /\ o.cls = .type "dict" /\ o.data = .dict es n
theorem WN (b:Str) (u:Tok) (hl:Zdb s.heap l) (hu:A.units < cLine):RcAt A s (.str b u) (.ref l) false:=λ prog w E Q h=>by
 obtain ⟨⟨cls,dd,data,sl⟩,es,n,ho,hc,hd⟩:=hl;simp only at hc hd;subst hc hd;exact rc_eq_decline_or (k:=false) (typeIs_str s b u) ⟨_,ho,rfl⟩ (by decide) F.sub_dict_str F.slot_str_eq F.slot_dict_eq_refl
  (λ _ hq=>call_meets F.slot_str_eq (typeIs_str s b u) F.entry_str_eq (F.args_str_eq_2 _ _) (Qw b u l (.type "dict") es n dd sl) ⟨ho,hq⟩)
  (λ _ hq=>call_meets F.slot_dict_eq_refl ⟨_,ho,rfl⟩ F.entry_dict_eq (F.args_dict_eq_2 _ _) (Qv l es n dd sl b u) ⟨ho,hq⟩)
  (λ _ hq=>wpAny_of_eq (rfl:isSame (.str b u) (.ref l) = pure false) hq) (.inr hu) h
theorem Uw (b:Str) (u:Tok) (hl:Zdb s.heap l) (hu:A.units < cLine):EqAt A s (.str b u) (.ref l) false:=λ prog w E Q h=>by
 unfold eqBool;refine wpAny_holding ?_;refine wpAny_ite_split (λ hab=>absurd (eq_of_beq hab) nofun) (λ _=>?_);exact wpAny_bind (WN b u hl hu prog w E _ (wpAny_truthy_bool h))
inductive Bs (h:Heap) (b:Bool) (t:Str):Value->Prop
 | non:b = false->Bs h b t .none
 | bl (k:Bool):b = false->Bs h b t (.bool k)
 | int (i:Int) (u:Tok):b = false->Bs h b t (.int i u)
 | str (x:Str) (u:Tok):b = decide (x = t)->Bs h b t (.str x u)
 | tup {a:Addr} {items:Array Value}:h.IsTuple a items->b = false->Bs h b t (.ref a)
 | lst {a:Addr} {items:Array Value}:h.IsList a items->b = false->Bs h b t (.ref a)
 | dic {a:Addr}:Zdb h a->b = false->Bs h b t (.ref a)
theorem Bs.eq {b:Bool} {t:Str} {v:Value} (u:Tok) (h:Bs s.heap b t v) (hu:A.units < cLine):EqAt A s (.str t u) v b:=by
 cases h with
 | non e=>rw [e]; exact EqAt.str_none t u
 | bl k e=>rw [e]; exact EqAt.str_bool t u k
 | int i w e=>rw [e]; exact EqAt.str_int t u i w
 | str x w e=>
  have e2:b = (t == x):=by rw [e,Bool.beq_eq_decide_eq,decide_eq_decide]; exact eq_comm
  rw [e2];exact EqAt.str_str t u x w
 | tup p e=>rw [e]; exact EqAt.str_tuple t u p hu
 | lst p e=>rw [e]; exact EqAt.str_list t u p hu
 | dic p e=>rw [e]; exact Uw t u p hu
end DL
namespace DL
open PySem.W
end DL
namespace DL
open PySem.W PySem.SeqAt PySem.MeetsSeq
end DL
namespace DL
open PySem.W
theorem zn {p q:Nat} (h:p ≠ q):n + p ≠ n + q:=λ e=>h (Nat.add_left_cancel e)
theorem zn0 {p:Nat} (h:p ≠ 0):n + p ≠ n:=λ e=>h (by lia)
theorem boot_zip:bootBuiltins "zip" = some (.type "zip"):=by walk_at "k"
noncomputable def Nu (as bs:List PyData):List PyData:=List.zipWith (λ a b=>.tuple [a,b]) as bs
theorem MQ {as bs:List PyData} {a b:PyData} (h:as[i]? = some a) (k:bs[i]? = some b):(Nu as bs)[i]? = some (.tuple [a,b]):=by
 unfold Nu;rw [List.getElem?_zipWith,h,k]
def Rsg (l:List Nat):Prop:=l.Pairwise (· < ·)
theorem Rsg.lt {l:List Nat} (h:Rsg l) {u v:Nat} (hi:l[i]? = some u) (hj:l[j]? = some v) (hij:i < j):u < v:=by
 obtain ⟨h1,rfl⟩:=List.getElem?_eq_some_iff.mp hi;obtain ⟨h2,rfl⟩:=List.getElem?_eq_some_iff.mp hj;exact (List.pairwise_iff_getElem.mp h) i j h1 h2 hij
def Spl (l:List Nat) (j r:Nat):Prop:=(∀ k v,k < r->l[k]? = some v->v < j) /\ (∀ k v,r <= k->l[k]? = some v->j <= v) /\ r <= l.length
theorem Ko {xs:Array Nat} (h:Rsg xs.toList) (j:Nat):∀ fuel lo hi,hi - lo <= fuel->lo <= hi->hi <= xs.size->(∀ k v,k < lo->xs.toList[k]? = some v->v < j)->(∀ k v,hi <= k->xs.toList[k]? = some v->j <= v)->Spl xs.toList j (SetTable.below.go xs j fuel lo hi)
 | 0,lo,hi,hf,hl,hs,h1,h2=>by
  have e:hi = lo:=by lia
  subst e;exact ⟨h1,h2,by rw [Array.length_toList]; exact hs⟩
 | fuel + 1,lo,hi,hf,hl,hs,h1,h2=>by
  unfold SetTable.below.go
  by_cases hlt:lo < hi
  ·rw [if_pos hlt];dsimp only;have hm:(lo + hi) / 2 < xs.size:=by lia
   have hg:xs.toList[(lo + hi) / 2]? = some (xs.getD ((lo + hi) / 2) j):=by
    rw [Array.getElem?_toList,Array.getElem?_eq_getElem hm];simp [Array.getD,hm]
   by_cases hc:xs.getD ((lo + hi) / 2) j < j
   ·rw [if_pos hc];refine Ko h j fuel _ _ (by lia) (by lia) hs (λ k v hk hv=>?_) h2
    by_cases e:k = (lo + hi) / 2
    ·rw [e,hg] at hv;cases hv;exact hc
    ·exact Nat.lt_trans (h.lt hv hg (by lia)) hc
   ·rw [if_neg hc];refine Ko h j fuel _ _ (by lia) (by lia) (by lia) h1 (λ k v hk hv=>?_)
    by_cases e:k = (lo + hi) / 2
    ·rw [e,hg] at hv;cases hv;lia
    ·have:=h.lt hg hv (by lia);lia
  ·rw [if_neg hlt];have e:hi = lo:=by lia
   subst e;exact ⟨h1,h2,by rw [Array.length_toList]; exact hs⟩
theorem Yt {xs:Array Nat} (h:Rsg xs.toList) (j:Nat):Spl xs.toList j (SetTable.below xs j):=by
 unfold SetTable.below;exact Ko h j _ _ _ (by lia) (by lia) (Nat.le_refl _) (λ k v hk=>absurd hk (by lia)) λ k v hk hv=>by
  have:=(List.getElem?_eq_some_iff.mp hv).1;rw [Array.length_toList] at this;lia
theorem BJ {xs:Array Nat} (h:Rsg xs.toList) (hn:xs[SetTable.below xs j]? ≠ some j):Rsg (SetTable.insertAt xs (SetTable.below xs j) j).toList:=by
 obtain ⟨h1,h2,h3⟩:=Yt h j;rw [SetTable.toList_insertAt];have hd:∀ v ∈ xs.toList.drop (SetTable.below xs j),j < v:=λ v hv=>by
  obtain ⟨k,hk⟩:=List.mem_iff_getElem?.mp hv;rw [List.getElem?_drop] at hk;have l1:=h2 _ v (Nat.le_add_right _ k) hk
  by_cases e:k = 0
  ·rw [e,Nat.add_zero,Array.getElem?_toList] at hk
   rcases Nat.lt_or_eq_of_le l1 with z | z
   ·exact z
   ·rw [<- z] at hk;exact absurd hk hn
  ·have hb:=(List.getElem?_eq_some_iff.mp hk).1;have:=h.lt (List.getElem?_eq_getElem (show SetTable.below xs j < xs.toList.length by lia)) hk (by lia);have:=h2 _ _ (Nat.le_refl _) (List.getElem?_eq_getElem (show SetTable.below xs j < xs.toList.length by lia));lia
 have ht:∀ u ∈ xs.toList.take (SetTable.below xs j),u < j:=λ u hu=>by
  obtain ⟨k,hk⟩:=List.mem_iff_getElem?.mp hu;rw [List.getElem?_take] at hk
  split at hk
  ·exact h1 k u (by assumption) hk
  ·cases hk
 refine List.pairwise_append.mpr ⟨h.sublist (List.take_sublist _ _),List.pairwise_cons.mpr ⟨hd,h.sublist (List.drop_sublist _ _)⟩,λ u hu v hv=>?_⟩
 rcases List.mem_cons.mp hv with rfl | hv
 ·exact ht u hu
 ·exact Nat.lt_trans (ht u hu) (hd v hv)
structure TOk (bt:Bool) (t:SetTable):Prop where
 led:t.led = !bt
 dm:t.dummies = #[]
 up:t.plain = true->Rsg t.place.toList
theorem PD {t:SetTable} (h:t.dummies = #[]) (j:Nat):t.slot j ≠ .dummy:=by
 unfold SetTable.slot SetTable.has;rw [h];dsimp only
 split
 ·exact λ e=>nomatch e
 ·simp
theorem YU {t:SetTable} {f:Nat->Int} {h:Int} (hd:t.dummies = #[]):∀ (fuel:Nat) (p:SetTable.Probe),p.dummy = none->∀ j d,SetTable.probe.go t f h fuel p = some (.empty j d)->d = none /\ t.slot j = .empty
 | 0,p,_,j,d,e=>by unfold SetTable.probe.go at e; cases e
 | fuel + 1,p,hp,j,d,e=>by
  unfold SetTable.probe.go at e;cases q:t.slot p.j with
  | empty=>
   rw [q] at e;cases e;exact ⟨hp,q⟩
  | dummy=>exact absurd q (PD hd _)
  | live i=>
   rw [q] at e;dsimp only at e
   split at e
   ·cases e
   ·refine YU hd fuel _ ?_ j d e;unfold SetTable.advance
    split
    ·exact hp
    ·exact hp
theorem LL {t:SetTable} {h:Int} {b:Bool} (hd:t.dummies = #[]) (e:t.freeSlot h = some (j,b)):t.place[SetTable.below t.place j]? ≠ some j:=by
 unfold SetTable.freeSlot at e
 split at e
 ·rename_i j' d' q;unfold SetTable.probe at q;obtain ⟨rfl,hs⟩:=YU hd _ _ rfl _ _ q;simp only [Option.getD_none,Option.isSome_none,Option.some.injEq,Prod.mk.injEq] at e;obtain ⟨rfl,_⟩:=e;unfold SetTable.slot at hs;dsimp only at hs;intro z;rw [if_pos (by rw [z]; simp)] at hs;cases hs
 ·cases e
theorem TOk.ME {bt:Bool} {t:SetTable} (h:TOk bt t) (n:Nat):TOk bt (t.standIn n):=⟨h.led,rfl,λ e=>by simp [SetTable.standIn] at e⟩
theorem TOk.new {bt:Bool} {t:SetTable} (h:TOk bt t) (es:Array (Int × Value)) (k:Int) (x:Value):TOk bt (layNew t es k x).2.1:=by
 unfold layNew
 split
 ·rename_i sl wd e;have hn:=LL h.dm e;have hp:TOk bt (t.put sl).1:=by
   unfold SetTable.put;refine ⟨h.led,?_,λ e=>BJ (h.up e) hn⟩;show (if SetTable.has t.dummies sl = true then _ else t.dummies) = #[];rw [h.dm]
   split
   ·simp [SetTable.eraseAt]
   ·rfl
  dsimp only;unfold SetTable.orStandIn
  split
  ·exact hp
  ·exact hp.ME _
 ·exact h.ME _
theorem SG (f:Nat->Option Nat) (n:Nat):Rsg ((((List.range n).filterMap λ j=>(f j).map (j,·)).map (·.1))):=by
 have h:(((List.range n).filterMap λ j=>(f j).map (j,·)).map (·.1)).Sublist (List.range n):=by
  induction (List.range n) with
  | nil=>exact .slnil
  | cons a l ih=>
   rw [List.filterMap_cons];cases f a with
   | none=>exact ih.cons a
   | some v=>exact ih.cons₂ a
 exact List.pairwise_lt_range.sublist h
theorem TOk.re {bt:Bool} {t:SetTable} (h:TOk bt t) (es:Array (Int × Value)) (n:Nat):TOk bt (relayAll t es n).2.1:=by
 unfold relayAll
 split
 ·rename_i t' order e;dsimp only
  split
  ·unfold SetTable.relaid SetTable.laid at e;cases q:SetTable.layClean (SetTable.sizeAbove n - 1) (es.map (·.1)) with
   | none=>rw [q] at e; cases e
   | some ow=>
    rw [q] at e;simp only [Option.pure_def,Option.bind_eq_bind,Option.bind_some,Option.some.injEq,Prod.mk.injEq] at e;obtain ⟨rfl,_⟩:=e;exact ⟨h.led,rfl,λ _=>by simpa using SG (λ j=>ow.getD j none) _⟩
  ·exact h.ME _
 ·exact h.ME _
noncomputable def C1:Value->Int
 | .int i _=>i
 | _=>0
abbrev BW:=Array (Int × Value)
noncomputable def Yk (es:BW):List Int:=es.toList.map λ e=>C1 e.2
structure Zdq (P:Program) (w:World) (o:Obj) (es:BW) (t:SetTable):Prop where
 ex:o.ExactSet
 dt:∃ ep,o.data = .set es ep t
 el:ElemsOf (intKind P w) es.toList
 bd:es.size < scanBound
 ft:t.fits es.size = true
 ok:TOk (w.params.followText "set-order") t
 nd:(Yk es).Nodup
def SI (P:Program) (w:World) (h:Heap) (a:Addr) (ks:List Int):Prop:=∃ o es t,h.get? a = some o /\ Zdq P w o es t /\ ks = Yk es
section
variable {E:Value->Shared->Prop}
theorem GQ {es:List (Int × Value)} (h:ElemsOf (intKind P w) es) {e:Int × Value} (he:e ∈ es):∃ t,e.2 = .int (C1 e.2) t:=by
 obtain ⟨⟨k,hk,_⟩,_⟩:=h e he;obtain ⟨t,q⟩:=Value.isInt_shape (k:=k) (v:=e.2) hk;rw [q];exact ⟨t,rfl⟩
theorem SI.size {ks:List Int} (hS:SI P w h a ks):ks.length < scanBound:=by
 obtain ⟨o,es,t,_,so,rfl⟩:=hS;unfold Yk;rw [List.length_map,Array.length_toList];exact so.bd
theorem SI.same {ks:List Int} (hS:SI P w h a ks) (k:∀ o,h.get? a = some o->h'.get? a = some o):SI P w h' a ks:=by
 obtain ⟨o,es,t,g,r⟩:=hS;exact ⟨o,es,t,k o g,r⟩
theorem stored {o:Obj} {es es':BW} {t t':SetTable} (g:s.heap.get? a = some o) (so:Zdq P w o es t) (el:ElemsOf (intKind P w) es'.toList) (bd:es'.size < scanBound) (ft:t'.fits es'.size = true) (ok:TOk (w.params.followText "set-order") t') (nd:(Yk es').Nodup) :
  ∃ o',(s.heap.update a (Obj.putSet es' t')).get? a = some o' /\ Zdq P w o' es' t':=by
 obtain ⟨ep,hd⟩:=so.dt;have e:=putSet_of es' t' hd;have q:=Heap.get?_update_self (Obj.putSet es' t') g (by rw [e]; rfl);rw [e] at q;exact ⟨_,q,so.ex,⟨_,rfl⟩,el,bd,ft,ok,nd⟩
theorem M9 {o:Obj} {es es':BW} {t t':SetTable} {Q:Unit->Shared->Prop} (g:s.heap.get? a = some o) (so:Zdq P w o es t) (bd:es'.size < scanBound) (h:Q () { s with heap:=s.heap.update a (Obj.putSet es' t') }):wpAny (model P w) A (storeSet a es' t') Q E s:=by
 obtain ⟨ep,hd⟩:=so.dt;exact wpAny_storeSet_of g hd h (fits_of_scanBound bd)
theorem So {k:Int} {tok:Tok} {ks:List Int} {Q:Bool->Shared->Prop} (hS:SI P w s.heap a ks) (room:ks.length + 1 < scanBound)
  (h:∀ h' ks' b,Heap.SameBut a s.heap h'->SI P w h' a ks'->(∀ z,z ∈ ks' ↔ z ∈ ks \/ z = k)->ks'.length <= ks.length + 1->Q b { s with heap:=h' }) :
  wpAny (model P w) A (setAddHashed a (.int k tok) ((intKind P w).hash k)) Q E s:=by
 obtain ⟨o,es,t,g,so,rfl⟩:=hS;obtain ⟨ep,hd⟩:=so.dt;have len:(Yk es).length = es.size:=by unfold Yk; rw [List.length_map,Array.length_toList]
 have key:(intKind P w).is k (.int k tok) = true:=intKind_is _ _ _ _;have gv:∀ (b:Bool) {s₁:Shared} {Q':Unit->Shared->Prop},Q' () s₁->wpAny (model P w) A (match b with | true=>rule "set.scan.the-table-gave-way" | false=>pure ()) Q' E s₁:=
  λ b s₁ Q' hq=>match b with | false=>wpAny_pure hq | true=>wpAny_rule hq
 unfold setAddHashed setAddHashedIn;refine wpAny_holding (wpAny_bind (wpAny_setState_of g hd so.ft ?_)); dsimp only;rw [byScan_of (knd:=intKind P w) (x:=.int k tok) rfl so.bd so.el]; simp only [↓reduceIte]; unfold setAddByScan;refine wpAny_bind (wpAny_bind (wpAny_rule (wpAny_bind (wpAny_setScan_of key g hd so.ft so.el ?_))));cases hr:List.findIdx? (λ e=>(intKind P w).is k e.2) es.toList with
 | some j=>
  obtain ⟨hj,hpj,_⟩:=List.findIdx?_eq_some_iff_getElem.mp hr;have hin:k ∈ Yk es:=by
   obtain ⟨t',q⟩:=Value.isInt_shape (k:=k) hpj;exact List.mem_map.mpr ⟨es.toList[j],List.getElem_mem hj,by rw [q]; rfl⟩
  refine wpAny_pure (wpAny_pure ?_);exact h s.heap (Yk es) false (Heap.SameBut.refl a s.heap) ⟨o,es,t,g,so,rfl⟩ (λ z=>⟨.inl,λ q=>q.elim id λ e=>e ▸ hin⟩) (Nat.le_succ _)
 | none=>
  have hno:k ∉ Yk es:=λ hm=>by
   obtain ⟨e,he,q⟩:=List.mem_map.mp hm;obtain ⟨t',q'⟩:=GQ so.el he;have:=List.findIdx?_eq_none_iff.mp hr e he;rw [q',q] at this;exact absurd (intKind_is P w k t') (by rw [this]; exact Bool.false_ne_true)
  have pm:=layNew_perm t es ((intKind P w).hash k) (.int k tok);have ft:=layNew_fits t es ((intKind P w).hash k) (.int k tok);have tk:=so.ok.new es ((intKind P w).hash k) (.int k tok);dsimp only;generalize layNew t es ((intKind P w).hash k) (.int k tok) = L at pm ft tk ⊢;obtain ⟨e1,t1,wd,gave⟩:=L; dsimp only at pm ft tk ⊢; rw [Array.toList_push] at pm;have el1:ElemsOf (intKind P w) e1.toList:=(so.el.push key rfl).perm pm;have pk:(Yk e1).Perm (Yk es ++ [k]):=by
   have:=pm.map λ e:Int × Value=>C1 e.2;rw [List.map_append] at this;exact this
  have sz1:e1.size = es.size + 1:=by rw [<- Array.length_toList,pm.length_eq,List.length_append,Array.length_toList]; rfl
  have bd1:e1.size < scanBound:=by lia
  have nd1:(Yk e1).Nodup:=pk.nodup_iff.mpr (List.nodup_append.mpr ⟨so.nd,List.nodup_cons.mpr ⟨(λ q=>nomatch q),List.nodup_nil⟩,λ x hx y hy e=>hno (by rw [List.mem_singleton.mp hy] at e; rw [<- e]; exact hx)⟩);have mem1:∀ z,z ∈ Yk e1 ↔ z ∈ Yk es \/ z = k:=λ z=>by rw [pk.mem_iff,List.mem_append,List.mem_singleton]
  have fin:∀ (t2:SetTable),t2.fits e1.size = true->TOk (w.params.followText "set-order") t2->wpAny (model P w) A (do
     storeSet a e1 t2
     if (!wd && t2.tooFull) = true then do
       (match (relayAll t2 e1 (SetTable.grown e1.size)).2.2 with | true=>rule "set.scan.the-table-gave-way" | false=>pure ())
       storeSet a (relayAll t2 e1 (SetTable.grown e1.size)).1 (relayAll t2 e1 (SetTable.grown e1.size)).2.1
       pure (some true)
      else pure (some true)) (λ r s'=>∃ h' ks',s' = { s with heap:=h' } /\ r = some true /\ Heap.SameBut a s.heap h' /\ SI P w h' a ks' /\ (∀ z,z ∈ ks' ↔ z ∈ Yk es \/ z = k) /\ ks'.length <= (Yk es).length + 1) E s:=λ t2 ft2 tk2=>by
   obtain ⟨o1,g1,so1⟩:=stored (s:=s) g so el1 bd1 ft2 tk2 nd1;refine wpAny_bind (M9 g so bd1 ?_);have sb1:=Heap.SameBut.update s.heap a (Obj.putSet e1 t2);have ln1:(Yk e1).length <= (Yk es).length + 1:=by rw [pk.length_eq,List.length_append]; exact Nat.le_refl _
   split
   ·have pm2:=relayAll_perm t2 e1 (SetTable.grown e1.size);have ft3:=relayAll_fits t2 e1 (SetTable.grown e1.size);have tk3:=tk2.re e1 (SetTable.grown e1.size);generalize relayAll t2 e1 (SetTable.grown e1.size) = L at pm2 ft3 tk3 ⊢;obtain ⟨e2,t3,gave2⟩:=L; dsimp only at pm2 ft3 tk3 ⊢;have pk2:(Yk e2).Perm (Yk e1):=pm2.map _;have sz2:e2.size = e1.size:=by rw [<- Array.length_toList,pm2.length_eq,Array.length_toList]
    have bd2:e2.size < scanBound:=by lia
    obtain ⟨o2,g2,so2⟩:=stored (s:={ s with heap:=s.heap.update a (Obj.putSet e1 t2) }) g1 so1 (el1.perm pm2) bd2 ft3 tk3 (pk2.nodup_iff.mpr nd1);refine wpAny_bind (gv _ (wpAny_bind (M9 (s:={ s with heap:=s.heap.update a (Obj.putSet e1 t2) }) g1 so1 bd2 (wpAny_pure ?_))));exact ⟨_,_,rfl,rfl,sb1.trans (Heap.SameBut.update _ a _),⟨o2,e2,t3,g2,so2,rfl⟩,λ z=>(pk2.mem_iff).trans (mem1 z),by rw [pk2.length_eq]; exact ln1⟩
   ·exact wpAny_pure ⟨_,_,rfl,rfl,sb1,⟨o1,e1,t2,g1,so1,rfl⟩,mem1,ln1⟩
  refine wpAny_bind (gv _ ?_)
  split
  ·rw [hashByValue_scannable 8 (x:=.int k tok) rfl];refine wpAny_bind (wpAny_pure ?_);rw [show plainKind (Value.int k tok) = true from rfl]; simp only [↓reduceIte];exact wpAny_mono (fin t1 ft tk) (λ r s' ⟨h',ks',e1,e2,sb,hs,hm,hl⟩=>by subst e1 e2; exact wpAny_pure (h h' ks' true sb hs hm hl)) λ _ _ q=>q
  ·refine wpAny_bind (wpAny_pure ?_); simp only [↓reduceIte];exact wpAny_mono (fin t1 ft tk) (λ r s' ⟨h',ks',e1,e2,sb,hs,hm,hl⟩=>by subst e1 e2; exact wpAny_pure (h h' ks' true sb hs hm hl)) λ _ _ q=>q
end
section
variable {R:Result->Shared->Prop} {I:Addr} {fp wr:List Addr} {G:Array GenState->Array GenState->Prop} {Pv:Nat->Value->Prop} {St:Nat->Shared->Prop}
theorem LS (W:WalksS P w A.in1 I fp wr G n Pv St) (S:Addr) (hSf:S ∉ fp) (val:Nat->Int) (hval:∀ i v,Pv i v->∃ t,v = .int (val i) t) (hb:n + 1 < scanBound) :
  ∀ (k i:Nat) (s:Shared) (ks:List Int),n - i = k->i <= n->St i s->SI P w s.heap S ks->ks.length <= i->(∀ z,z ∈ ks ↔ ∃ j,j < i /\ z = val j) ->
   (∀ s' ks',Moved (S :: wr) G s s'->SI P w s'.heap S ks'->(∀ z,z ∈ ks' ↔ ∃ j,j < n /\ z = val j)->ks'.length <= n->R (.ok (.ret .none)) s') ->
   codeAny (model P w) A (.builtin "set.update.loop" ⟨[.ref S,.ref I],[]⟩) R s:=by
 have hSw:S ∉ wr:=λ h=>hSf (W.sub _ h);have up:∀ b,b ∈ wr->b ∈ S :: wr:=λ _ h=>List.mem_cons_of_mem _ h;intro k
 induction k with
 | zero=>
  intro i s ks hk hi hst hS hl hm hR;obtain rfl:i = n:=by lia
  refine codeAny_builtin PyProof.Rows.F.entry_set_update_loop ?_; rw [Around.under_plainId PyProof.Rows.F.plain_set_update_loop _];refine wpAny_bind (W.done s _ _ hst λ s' mv=>wpAny_pure ?_);exact hR s' ks (mv.mono up) (hS.same λ o e=>mv.heap S o hSw e) hm hl
 | succ k ih=>
  intro i s ks hk hi hst hS hl hm hR;have hlt:i < n:=by lia
  refine codeAny_builtin PyProof.Rows.F.entry_set_update_loop ?_; rw [Around.under_plainId PyProof.Rows.F.plain_set_update_loop _];refine wpAny_bind (W.item i s _ _ hlt hst λ v s' hP hst' mv=>?_);obtain ⟨t,rfl⟩:=hval i v hP;have hS':SI P w s'.heap S ks:=hS.same λ o e=>mv.heap S o hSw e;refine wpAny_bind (wpAny_holding ?_); unfold setAdd;refine wpAny_holding (wpAny_bind ((intKind P w).pyHash (k:=val i) (intKind_is _ _ _ _) ?_));refine So (s:={ s' with toks:=s'.toks + 1 }) hS' (by lia) λ h' ks' b sb hS2 hm2 hl2=>?_;refine wpAny_pure ⟨plainId_quiet PyProof.Rows.F.plain_set_update_loop _,ih (i + 1) _ ks' (by lia) hlt (W.frame _ s' _ _ hst' (Nat.le_succ _) λ b hb o e=>?_) hS2 (by lia) (λ z=>?_) λ s'' ks'' mv'' hS'' hm'' hl''=>?_⟩
  ·exact (sb.2 b λ h:b = S=>hSf (by rw [<- h]; exact hb)).trans e
  ·rw [hm2,hm];constructor
   ·rintro (⟨j,hj,e⟩ | e)
    ·exact ⟨j,by lia,e⟩
    ·exact ⟨i,by lia,e⟩
   ·rintro ⟨j,hj,e⟩
    by_cases ej:j = i
    ·exact .inr (by rw [e,ej])
    ·exact .inl ⟨j,by lia,e⟩
  ·exact hR s'' ks'' (Moved.trans W.gtrans ((mv.mono up).then_heap (Nat.le_succ _) λ b o hb e=>(sb.2 b λ h:b = S=>hb (by rw [h]; exact List.mem_cons_self)).trans e) mv'') hS'' hm'' hl''
end
section
variable {E:Value->Shared->Prop}
noncomputable def Jt (w:World):Obj:={ cls:=.type "set",dict:=none,data:=.set #[] 0 (.fresh 0 0 (!w.params.followText "set-order")) }
theorem He (g:h.get? a = some (Jt w)):SI P w h a []:=
 ⟨_,#[],_,g,⟨⟨rfl,rfl,rfl⟩,⟨0,rfl⟩,λ e he=>by simp at he,by decide,rfl,⟨rfl,rfl,λ _=>List.Pairwise.nil⟩,by simp [Yk]⟩,rfl⟩
theorem T7 (a:Value) {Q₁:Value->Shared->Prop} (h:Q₁ (.ref s.heap.objs.size) { s with heap:=s.heap.push (Jt w) }) :
  codeAny (model P w) A (.call (.builtin "set.__new__") ⟨[.type "set",a],[]⟩) (wants Q₁ E) s:=by
 refine codeAny_of_tree ?_;refine wpAny_bind (m:=checkBuiltinCall "set.__new__" ⟨[.type "set",a],[]⟩) (wpAny_of_eq (PySem.F.newCall_set_1 a) (wpAny_pure ⟨plainId_quiet PySem.F.plain_set_new _,codeAny_builtin PySem.F.entry_set_new ?_⟩));rw [Around.under_plainId PySem.F.plain_set_new _]; unfold Builtin.«set.__new__» Builtin.Frozenset.newClass;have hsub:=sub_set_self;obtain ⟨hp,g,d,tk,os⟩:=s; dsimp only; wp_walk;refine wpAny_askSetting (wpAny_pure ?_); dsimp only; simp only [newObj];exact wpAny_bind (wpAny_alloc (wpAny_pure (wpAny_pure h)))
theorem getD_mem (hn:ns.length = n) (z:Int):(∃ j,j < n /\ z = ns.getD j 0) ↔ z ∈ ns:=by
 subst hn;constructor
 ·rintro ⟨j,hj,rfl⟩;rw [List.getD_eq_getElem?_getD,List.getElem?_eq_getElem hj];exact List.getElem_mem hj
 ·intro hz;obtain ⟨j,hj,e⟩:=List.mem_iff_getElem.mp hz;exact ⟨j,hj,by rw [List.getD_eq_getElem?_getD,List.getElem?_eq_getElem hj]; exact e.symm⟩
set_option maxHeartbeats 4000000 in
theorem set_list {Q:Value->Shared->Prop} (hh:A.handled = none) (hl:s.heap.IsList l items) (hi:IntsAre items.toList ns) (hb:items.size + 1 < scanBound)
  (h:∀ (h':Heap) (tk:Nat) (ks:List Int),SI P w h' s.heap.objs.size ks->(∀ z,z ∈ ks ↔ z ∈ ns)->ks.length <= ns.length->(∀ b o,b < s.heap.objs.size->s.heap.get? b = some o->h'.get? b = some o)->Q (.ref s.heap.objs.size) { s with heap:=h',toks:=tk }) :
  wpAny (model P w) A (call (.type "set") [.ref l]) Q E s:=by
 obtain ⟨c,tl,hmro⟩:=PySem.F.called_set.mro;have ln:ns.length = items.size:=by rw [<- IntsAre.length hi,Array.length_toList]
 have hmade:=PySem.F.called_set.made; have hsub:=PySem.F.called_set.sub;refine wpAny_call (codeAny_of_tree ?_); show wpAny _ _ (callAny (.type "set") _) _ _ _;refine wpAny_pure ⟨Code.quiet_builtin _ (by walk_at "k"),codeAny_builtin PySem.F.entry_type_call ?_⟩;rw [Around.under_plain (weight_type_call_type "set" [.ref l] []) rfl];have h1:=PySem.F.called_set.notType; have h2:=PySem.F.called_set.canCreate; have hct:=PySem.F.typeCall_set_1 (.ref l)
 repeat (any_goals (first | assumption | wp_step))
 refine codeAny_mono (T7 (P:=P) (w:=w) (.ref l) (E:=E) (Q₁:=λ obj s₁=>obj = .ref s.heap.objs.size /\ s₁ = { s with heap:=s.heap.push (Jt w) }) ⟨rfl,rfl⟩) λ r s₁ hr=>?_;cases r with
 | error e=>exact hr
 | ok fl=>
  cases fl with
  | ret obj=>
   obtain ⟨rfl,rfl⟩:=hr;have hS:(s.heap.push (Jt w)).get? s.heap.objs.size = some (Jt w):=Heap.get?_push_size _ rfl;have hT:Shared.TypeIs { s with heap:=s.heap.push (Jt w) } (.ref s.heap.objs.size) "set" := ⟨_,hS,rfl⟩
   have hli:=PySem.F.called_set.init.lookup; have hbi:=PySem.F.called_set.init.bind (.ref s.heap.objs.size)
   repeat (any_goals (first | assumption | wp_step))
   refine codeAny_mono (codeAny_call_builtin (R:=wants (λ r s₂=>r = .none /\ ∃ h' tk ks,s₂ = { s with heap:=h',toks:=tk } /\ SI P w h' s.heap.objs.size ks /\ (∀ z,z ∈ ks ↔ z ∈ ns) /\ ks.length <= ns.length /\ (∀ b o,b < s.heap.objs.size->s.heap.get? b = some o->h'.get? b = some o)) E)
    PySem.F.called_set.init.plain PySem.F.entry_set_init (check_set_init_1 hT ?_)) λ r₂ s₂ hr₂=>?_
   ·obtain ⟨ol,hol,hcl,nl,hdl⟩:=hl;obtain ⟨ocls,odict,odata,oslots⟩:=ol;simp only at hcl hdl;subst hcl; subst hdl;have hol':(s.heap.push (Jt w)).get? l = some { cls:=.type "list",dict:=odict,data:=.seq items nl,slots:=oslots }:=Heap.get?_push_of_some _ hol;have hsls:=PySem.F.sub_list_set; have hslf:=PySem.F.sub_list_frozenset; have hne:(Value.type "list" == Value.type "dict") = false:=by decide
    have hl1:(s.heap.push (Jt w)).IsList l items:=⟨_,hol',rfl,nl,rfl⟩
    unfold Builtin.«set.__init__» noKeywords Builtin.Frozenset.updateFrom;generalize hPI:pyIter = PI; wp_walk; subst hPI;refine wpAny_pyIter_list hl1 (wpAny_bind (wpAny_runValue ?_));have lS:l < s.heap.objs.size:=Heap.lt_size hol;have nI:l ≠ (s.heap.push (Jt w)).objs.size:=by rw [Heap.size_push]; exact Nat.ne_of_lt (Nat.lt_succ_of_lt lS)
    have nS:s.heap.objs.size ∉ [(s.heap.push (Jt w)).objs.size,l]:=by
     rw [Heap.size_push]; simp only [List.mem_cons,List.not_mem_nil,or_false,not_or]; exact ⟨Nat.ne_of_lt (Nat.lt_succ_self _),Nat.ne_of_gt lS⟩
    refine LS (P:=P) (w:=w) ((Walks.list (show A.in1.in1.in1.handled = none by simp [hh]) _ l nI items).toS) s.heap.objs.size nS (λ i=>ns.getD i 0) (λ i v hv=>IntsAre.int_at hi i v (by rw [Array.getElem?_toList]; exact hv)) hb (items.size - 0) 0 _ [] (by lia) (Nat.zero_le _)
     ⟨⟨_,Heap.get?_push_size _ rfl,rfl,rfl⟩,(hl1.push _)⟩ (He (Heap.get?_push_of_some _ hS)) (Nat.le_refl _) (λ z=>⟨λ q=>(nomatch q),λ ⟨j,hj,_⟩=>by lia⟩) ?_
    intro s' ks mv hS' hm hlk;obtain ⟨h',g',d',tk',os'⟩:=s';have eg:g' = s.gens:=mv.gens;have ed:d' = s.drawn:=mv.drawn;have eo:os' = s.os:=mv.os;subst eg ed eo;refine wpAny_pure (wpAny_pure ⟨rfl,h',tk',ks,rfl,hS',λ z=>(hm z).trans (getD_mem ln z),by rw [ln]; exact hlk,λ b o hb e=>?_⟩);have b2:b ≠ (s.heap.push (Jt w)).objs.size:=by rw [Heap.size_push]; exact Nat.ne_of_lt (Nat.lt_succ_of_lt hb)
    exact mv.heap b o (by simp only [List.mem_cons,List.not_mem_nil,or_false,not_or]; exact ⟨Nat.ne_of_lt hb,b2⟩) (Heap.get?_push_of_some _ (Heap.get?_push_of_some _ e))
   ·cases r₂ with
    | error e=>exact hr₂
    | ok fl₂=>
     cases fl₂ with
     | ret r=>
      obtain ⟨rfl,h',tk,ks,rfl,q1,q2,q3,q4⟩:=hr₂
      repeat (any_goals (first | assumption | wp_step))
      exact h _ _ ks q1 q2 q3 q4
     | _=>exact hr₂.elim
  | _=>exact hr.elim
end
section
variable {E:Value->Shared->Prop}
theorem Fe {src:Source} {Q:Nat->Shared->Prop} (hn:n ≠ 0) (h:∀ r,r < n->Q r { s with drawn:=s.drawn.bump src }):wpAny (model P w) A (choose src n) Q E s:=λ _ _ _=>⟨hn,h _ (Nat.mod_lt _ (Nat.pos_of_ne_zero hn))⟩
theorem Vp {α:Type}:∀ (l:List α) (r:Nat) (h:r < l.length),(l[r] :: l.eraseIdx r).Perm l
 | a :: l,0,_=>.refl _
 | a :: l,r + 1,h=>by
  rw [List.getElem_cons_succ,List.eraseIdx_cons_succ];exact (List.Perm.swap a _ _).trans ((Vp l r (Nat.lt_of_succ_lt_succ h)).cons a)
theorem DX {α:Type}:∀ (n:Nat) (xs:List α) (s:Shared) (Q:List α->Shared->Prop),xs.length = n->(∀ ys d,ys.Perm xs->Q ys { s with drawn:=d })->wpAny (model P w) A (drawOrder n xs) Q E s
 | 0,xs,s,Q,hl,h=>by
  cases xs with
  | nil=>exact wpAny_pure (h [] s.drawn (.refl _))
  | cons a l=>cases hl
 | n + 1,[],s,Q,hl,h=>by cases hl
 | n + 1,a :: l,s,Q,hl,h=>by
  unfold drawOrder;refine wpAny_bind (Fe (by simp) λ r hr=>?_);rw [List.getElem?_eq_getElem hr]; dsimp only;refine wpAny_bind (DX n _ _ _ (by rw [List.length_eraseIdx,if_pos hr]; simpa using hl) λ ys d hp=>wpAny_pure ?_);exact h _ d ((hp.cons _).trans (Vp _ _ hr))
theorem Ft {α:Type} (next:Nat->Nat):∀ (fuel k:Nat) (left:List α) (out:Array α),left.length = fuel->(pickOrder.go next fuel k left out).toList.Perm (out.toList ++ left)
 | 0,k,left,out,hl=>by
  rw [List.length_eq_zero_iff.mp hl,List.append_nil];unfold pickOrder.go;exact .refl _
 | fuel + 1,k,left,out,hl=>by
  have hr:next k % left.length < left.length:=Nat.mod_lt _ (by lia);unfold pickOrder.go;rw [List.getElem?_eq_getElem hr]; dsimp only;refine (Ft next fuel (k + 1) _ _ (by rw [List.length_eraseIdx,if_pos hr,hl]; rfl)).trans ?_;rw [Array.toList_push,List.append_assoc];exact (List.Perm.refl _).append (Vp _ _ hr)
theorem J1 {α:Type} (next:Nat->Nat) (xs:Array α):(pickOrder next xs).toList.Perm xs.toList:=by
 unfold pickOrder;have:=Ft next xs.size 0 xs.toList #[] (by rw [Array.length_toList])
 simpa using this
abbrev Jg (h:Heap) (it:Addr) (first:Value) (i:Nat) (S:Addr) (n ep:Nat):Prop:=
 h.get? it = some { cls:=.type "set_iterator",dict:=none,data:=.fields #[first,rawInt i,.ref S,rawInt n,rawInt ep],slots:=#[] }
def Md (w:World) (h:Heap) (first:Value) (i:Nat) (S:Addr) (es:BW) (ep:Nat) (t:SetTable) (L:List Value):Prop:=
 (w.params.followText "set-order" = true /\ first = rawInt 0 /\ L = (pickOrder (w.params.setOrder S ep) es).toList.map (·.2)) \/
 (w.params.followText "set-order" = false /\ ∃ (T:Addr) (ps:List Nat),first = .ref T /\ IsTup h T (ps.map λ p:Nat=>rawInt (p:Int)).toArray /\ ps.Perm (List.range es.size) /\ L = ps.map λ p=>(es.getD p (0,.none)).2) \/
 (w.params.followText "set-order" = false /\ first = rawInt (if i = 0 then 0 else t.place.getD (i - 1) 0 + 1) /\ Rsg t.place.toList /\ t.led = true /\ (t.plain = true \/ es.size <= 1) /\ L = es.toList.map (·.2))
theorem ZcP {first x:Value} {z:Int} {Q:PySem.Fin->Shared->Prop} (hit:Jg s.heap it first i S n ep) (hQ:∀ h',Jg h' it (rawInt z) (i + 1) S n ep->Heap.SameBut it s.heap h'->Q (.done (.ret x)) { s with heap:=h' }) :
  wpAny (model P w) A (do setField (.ref it) 0 (rawInt z); setField (.ref it) 1 (rawInt ((i:Int) + 1)); ret x) Q E s:=by
 refine wpAny_bind (wpAny_setField_rec hit (by simp) λ h1 g1 s1=>?_);refine wpAny_bind (wpAny_setField_rec (s:={ s with heap:=h1 }) g1 (by simp) λ h2 g2 s2=>wpAny_pure ?_);exact hQ h2 g2 (s1.trans s2)
theorem Zef {first x:Value} {Q:PySem.Fin->Shared->Prop} (hit:Jg s.heap it first i S n ep) (hQ:∀ h',Jg h' it first (i + 1) S n ep->Heap.SameBut it s.heap h'->Q (.done (.ret x)) { s with heap:=h' }) :
  wpAny (model P w) A (do setField (.ref it) 1 (rawInt ((i:Int) + 1)); ret x) Q E s:=
 wpAny_bind (wpAny_setField_rec hit (by simp) λ h1 g1 s1=>wpAny_pure (hQ h1 g1 s1))
theorem D5 {o:Obj} {es:BW} {t:SetTable} {Q:BW->Shared->Prop} (ho:s.heap.get? S = some o) (hd:o.data = .set es ep t) (hf:t.fits es.size = true) (bt:w.params.followText "set-order" = true) (h:Q (pickOrder (w.params.setOrder S ep) es) s):wpAny (model P w) A (setWalk S) Q E s:=by
 unfold setWalk setsByText;refine wpAny_bind (wpAny_setState_of ho hd hf ?_); dsimp only;refine wpAny_bind (wpAny_bind (wpAny_askSetting (wpAny_pure ?_)));rw [if_pos (show (model P w).w.params.followText "set-order" = true from bt)];exact wpAny_bind (wpAny_askSetting (wpAny_pure h))
theorem below_at {xs:Array Nat} (h:Rsg xs.toList) (hi:i < xs.size):SetTable.below xs (if i = 0 then 0 else xs.getD (i - 1) 0 + 1) = i:=by
 have sp:=Yt h (if i = 0 then 0 else xs.getD (i - 1) 0 + 1);generalize SetTable.below xs (if i = 0 then 0 else xs.getD (i - 1) 0 + 1) = r at sp;obtain ⟨s1,s2,s3⟩:=sp;rw [Array.length_toList] at s3;have at':∀ k,k < xs.size->xs.toList[k]? = some (xs.getD k 0):=λ k hk=>by rw [Array.getElem?_toList,Array.getElem?_eq_getElem hk]; simp [Array.getD,hk]
 by_cases e:i = 0
 ·subst e;rw [if_pos rfl] at s1
  by_cases hr:r = 0
  ·exact hr
  ·exact absurd (s1 0 _ (by omega) (at' 0 (by omega))) (Nat.not_lt_zero _)
 ·rw [if_neg e] at s1 s2;have h1:¬ r <= i - 1:=λ z=>by
   have:=s2 _ _ z (at' (i - 1) (by omega));omega
  have h2:¬ i < r:=λ z=>by
   have a:=s1 i _ z (at' i hi);have b:=h.lt (at' (i - 1) (by omega)) (at' i hi) (by omega);omega
  omega
theorem Rh {first:Value} {o:Obj} {es:BW} {t:SetTable} {L:List Value} {Q:Fin->Shared->Prop} (hit:Jg s.heap it first i S n ep) (ho:s.heap.get? S = some o) (hd:o.data = .set es ep t) (hf:t.fits es.size = true) (hn:es.size = n)
  (md:Md w s.heap first i S es ep t L) (hi:i < n)
  (hQ:∀ h' v first',L[i]? = some v->Jg h' it first' (i + 1) S n ep->Heap.SameBut it s.heap h'->(∀ h'',(∀ b o,s.heap.get? b = some o->b ≠ it->h''.get? b = some o)->Md w h'' first' (i + 1) S es ep t L)->(∀ T',first' = .ref T'->first = .ref T')->Q (.done (.ret v)) { s with heap:=h' }) :
  wpAny (model P w) A (Builtin.«set_iterator.__next__» ⟨[.ref it],[]⟩) Q E s:=by
 subst hn;show wpAny _ _ (fieldsOf (.ref it) >>= _) _ _ _;refine wpAny_bind (wpAny_fieldsOf hit rfl ?_);refine wpAny_bind (wpAny_setEntries_of ho hd hf ?_);rw [if_neg (by simp)]; dsimp only
 rcases md with ⟨bt,rfl,rfl⟩ | ⟨bt,T,ps,rfl,hT,hp,rfl⟩ | ⟨bt,rfl,up,led,pl,rfl⟩
 ·show wpAny _ _ (setNext S 0 ((i:Int)).toNat ((ep:Int)).toNat >>= _) _ _ _;rw [Int.toNat_natCast,Int.toNat_natCast];unfold setNext setsByText;refine wpAny_bind (wpAny_bind (wpAny_setState_of ho hd hf ?_)); dsimp only;refine wpAny_bind (wpAny_bind (wpAny_askSetting (wpAny_pure ?_)));rw [if_pos (show (model P w).w.params.followText "set-order" = true from bt),if_neg (by simp)];refine wpAny_bind (D5 ho hd hf bt (wpAny_pure ?_));have lp:(pickOrder (w.params.setOrder S ep) es).size = es.size:=by rw [<- Array.length_toList,(J1 _ es).length_eq,Array.length_toList]
  rw [Array.getElem?_eq_getElem (by rw [lp]; exact hi)];refine ZcP (z:=((0:Nat):Int)) hit λ h' g sb=>hQ h' _ _ ?_ g sb (λ h'' _=>.inl ⟨bt,rfl,rfl⟩) λ T' e=>nomatch e;rw [List.getElem?_map,Array.getElem?_toList,Array.getElem?_eq_getElem (by rw [lp]; exact hi)];rfl
 ·show wpAny _ _ (seqItems? (.ref T) >>= _) _ _ _;obtain ⟨oT,gT,cT,nT,dT⟩:=hT;have lp:ps.length = es.size:=by rw [hp.length_eq,List.length_range]
  refine wpAny_bind (wpAny_seqItems gT dT ?_); dsimp only;have ip:i < ps.length:=by lia
  have pe:ps[i] < es.size:=List.mem_range.mp (hp.mem_iff.mp (List.getElem_mem ip));rw [Int.toNat_natCast,List.getElem?_toArray,List.getElem?_map,List.getElem?_eq_getElem ip];show wpAny _ _ (setNextDrawn S ((ps[i]:Int)).toNat ((ep:Int)).toNat >>= _) _ _ _;rw [Int.toNat_natCast,Int.toNat_natCast]; unfold setNextDrawn;refine wpAny_bind (wpAny_bind (wpAny_setState_of ho hd hf ?_)); dsimp only;rw [if_neg (by simp),Array.getElem?_eq_getElem pe]; dsimp only;refine wpAny_pure (Zef hit λ h' g sb=>hQ h' _ _ ?_ g sb (λ h'' kk=>.inr (.inl ⟨bt,T,ps,rfl,⟨oT,kk T oT gT ?_,cT,nT,dT⟩,hp,rfl⟩)) λ T' e=>e)
  ·rw [List.getElem?_map,List.getElem?_eq_getElem ip];simp [Array.getD,pe]
  ·intro e;rw [e,hit] at gT;cases gT;exact absurd (Value.type.inj cT) (by decide)
 ·have sz:t.place.size = es.size:=by
   unfold SetTable.fits at hf;rw [Bool.and_eq_true] at hf;exact eq_of_beq hf.1
  show wpAny _ _ (setNext S ((if i = 0 then (0:Int) else (t.place.getD (i - 1) 0:Int) + 1)).toNat ((i:Int)).toNat ((ep:Int)).toNat >>= _) _ _ _;have ez:(if i = 0 then (0:Int) else (t.place.getD (i - 1) 0:Int) + 1).toNat = (if i = 0 then 0 else t.place.getD (i - 1) 0 + 1):=by split <;> lia
  rw [ez,Int.toNat_natCast,Int.toNat_natCast];unfold setNext setsByText;refine wpAny_bind (wpAny_bind (wpAny_setState_of ho hd hf ?_)); dsimp only;refine wpAny_bind (wpAny_bind (wpAny_askSetting (wpAny_pure ?_)));rw [if_neg (show ¬ (model P w).w.params.followText "set-order" = true by rw [show (model P w).w.params.followText "set-order" = false from bt]; exact Bool.false_ne_true)];have nd:(!t.plain && decide (es.size > 1)) = false:=by
   rcases pl with pl | pl
   ·rw [pl]; rfl
   ·rw [decide_eq_false (by lia),Bool.and_false]
  show wpAny _ _ (if (!t.plain && decide (es.size > 1)) = true then _ else _) _ _ _;rw [nd,if_neg Bool.false_ne_true];show wpAny _ _ ((if (!t.led && !es.isEmpty) = true then unsupported "set:maker-not-led" else pure ()) >>= _) _ _ _;rw [led]; simp only [Bool.not_true,Bool.false_and,Bool.false_eq_true,if_false];refine wpAny_bind (wpAny_pure (wpAny_pure ?_));rw [below_at up (by rw [sz]; exact hi),Array.getElem?_eq_getElem hi,Array.getElem?_eq_getElem (by rw [sz]; exact hi)]; dsimp only;refine ZcP (z:=((t.place[i]'(by rw [sz]; exact hi) + 1:Nat):Int)) hit λ h' g sb=>hQ h' _ _ ?_ g sb (λ h'' _=>.inr (.inr ⟨bt,?_,up,led,pl,rfl⟩)) λ T' e=>nomatch e
  ·rw [List.getElem?_map,Array.getElem?_toList,Array.getElem?_eq_getElem hi];rfl
  ·rw [if_neg (Nat.succ_ne_zero i)];simp [Array.getD,sz,hi]
end
theorem QL:Slot "set_iterator" "__next__" "set_iterator.__next__" := .of (owner := "set_iterator") (n := "__next__") (by rw [typeLookup_type,builtinLookup_eq_fast]; kernel_rfl) (by walk_at "k") (by walk_at "k") (by walk_at "k") (by first | exact .inl (by walk_at "k") | exact .inr (by walk_at "k")) (by rw [isSubtype_type]; kernel_rfl)
theorem KH:entryFor table "set_iterator.__next__" = some Builtin.«set_iterator.__next__» := entryFor_of_tree (by kernel_rfl)
theorem GG (a:Value):argsOk "set_iterator.__next__" ⟨[a],[]⟩:=by unfold argsOk; kernel_rfl
theorem Wm:Slot "set_iterator" "__iter__" "set_iterator.__iter__" := .of (owner := "set_iterator") (n := "__iter__") (by rw [typeLookup_type,builtinLookup_eq_fast]; kernel_rfl) (by walk_at "k") (by walk_at "k") (by walk_at "k") (by first | exact .inl (by walk_at "k") | exact .inr (by walk_at "k")) (by rw [isSubtype_type]; kernel_rfl)
theorem Bx:entryFor table "set_iterator.__iter__" = some Builtin.«dict_keyiterator.__iter__» :=
 entryFor_alias (id' := "dict_keyiterator.__iter__") (by kernel_rfl) (by first | rfl | decide +kernel | (unfold String.splitOn; simp +decide [String.splitOnAux])) (by walk_at "k") (by kernel_rfl)
theorem CP (a:Value):argsOk "set_iterator.__iter__" ⟨[a],[]⟩:=by unfold argsOk; kernel_rfl
theorem W8:entryFor table "set.__iter__" = some Builtin.«frozenset.__iter__» :=
 entryFor_alias (id' := "frozenset.__iter__") (by kernel_rfl) (by first | rfl | decide +kernel | (unfold String.splitOn; simp +decide [String.splitOnAux])) (by walk_at "k") (by kernel_rfl)
section
variable {E:Value->Shared->Prop}
theorem Cz {α:Type} {Q:α->Shared->Prop} (hh:A.handled = none) (hE:∀ h' e,(∀ b o,s.heap.get? b = some o->h'.get? b = some o)->(∃ o,h'.get? e = some o /\ o.cls = .type "StopIteration")->E (.ref e) { s with heap:=h' }) :
  wpAny (model P w) A (newExc (.type "StopIteration") [] >>= λ e=>(raiseNew e:Sem α)) Q E s:=by
 refine wpAny_bind ?_;simp only [newExc,newTuple];refine wpAny_bind (wpAny_newObj_type ?_ (by size_fits));refine wpAny_bind (m:=firstArgMember _ _) (wpAny_of_eq (a:=Value.none) (by first | rfl | (simp only [firstArgMember]; rfl)) ?_);refine wpAny_newObj_type ?_ (by size_fits);simp only [raiseNew];refine wpAny_bind (wpAny_handled ?_);rw [hh];refine wpAny_bind (wpAny_pure (wpAny_throw ?_));exact hE _ _ (λ b o q=>Heap.get?_push_of_some _ (Heap.get?_push_of_some _ q)) ⟨_,Heap.get?_push_size _ rfl,rfl⟩
theorem Zbq {first:Value} {o:Obj} {es:BW} {t:SetTable} {L:List Value} {Q:PySem.Fin->Shared->Prop} (hh:A.handled = none) (hit:Jg s.heap it first n S n ep) (ho:s.heap.get? S = some o) (hd:o.data = .set es ep t) (hf:t.fits es.size = true) (hn:es.size = n)
  (md:Md w s.heap first n S es ep t L) (hE:∀ h' e,(∀ b o,b ≠ it->s.heap.get? b = some o->h'.get? b = some o)->(∃ o,h'.get? e = some o /\ o.cls = .type "StopIteration")->E (.ref e) { s with heap:=h' }) :
  wpAny (model P w) A (Builtin.«set_iterator.__next__» ⟨[.ref it],[]⟩) Q E s:=by
 subst hn;have fin:wpAny (model P w) A (do setField (.ref it) 2 .none; raiseNew (<- newExc (.type "StopIteration") []):Sem PySem.Fin) Q E s:=
  wpAny_bind (wpAny_setField_rec hit (by simp) λ h1 g1 s1=>Cz (s:={ s with heap:=h1 }) hh λ h' e k x=>hE h' e (λ b o hb q=>k b o ((s1.2 b hb).trans q)) x)
 show wpAny _ _ (fieldsOf (.ref it) >>= _) _ _ _;refine wpAny_bind (wpAny_fieldsOf hit rfl (wpAny_bind (wpAny_setEntries_of ho hd hf ?_)));rw [if_neg (by simp)]; dsimp only
 rcases md with ⟨bt,rfl,rfl⟩ | ⟨bt,T,ps,rfl,hT,hp,rfl⟩ | ⟨bt,rfl,up,led,pl,rfl⟩
 ·show wpAny _ _ (setNext S 0 ((es.size:Int)).toNat ((ep:Int)).toNat >>= _) _ _ _;rw [Int.toNat_natCast,Int.toNat_natCast]; unfold setNext setsByText;refine wpAny_bind (wpAny_bind (wpAny_setState_of ho hd hf (wpAny_bind (wpAny_bind (wpAny_askSetting (wpAny_pure ?_))))));rw [if_pos (show (model P w).w.params.followText "set-order" = true from bt),if_neg (by simp)];refine wpAny_bind (D5 ho hd hf bt (wpAny_pure ?_));have lp:(pickOrder (w.params.setOrder S ep) es).size = es.size:=by rw [<- Array.length_toList,(J1 _ es).length_eq,Array.length_toList]
  rw [Array.getElem?_eq_none (by rw [lp]; exact Nat.le_refl _)];exact fin
 ·show wpAny _ _ (seqItems? (.ref T) >>= _) _ _ _;obtain ⟨oT,gT,cT,nT,dT⟩:=hT;have lp:ps.length = es.size:=by rw [hp.length_eq,List.length_range]
  refine wpAny_bind (wpAny_seqItems gT dT ?_); dsimp only;rw [Int.toNat_natCast,List.getElem?_toArray,List.getElem?_map,List.getElem?_eq_none (by lia)]; dsimp only [Option.map_none];refine wpAny_bind (wpAny_setField_rec hit (by simp) λ h0 g0 s0=>?_);exact wpAny_bind (wpAny_setField_rec (s:={ s with heap:=h0 }) g0 (by simp) λ h1 g1 s1=>Cz (s:={ s with heap:=h1 }) hh λ h' e k x=>hE h' e (λ b o hb q=>k b o ((s1.2 b hb).trans ((s0.2 b hb).trans q))) x)
 ·have sz:t.place.size = es.size:=by
   unfold SetTable.fits at hf;rw [Bool.and_eq_true] at hf;exact eq_of_beq hf.1
  show wpAny _ _ (setNext S ((if es.size = 0 then (0:Int) else (t.place.getD (es.size - 1) 0:Int) + 1)).toNat ((es.size:Int)).toNat ((ep:Int)).toNat >>= _) _ _ _;rw [Int.toNat_natCast,Int.toNat_natCast]; unfold setNext setsByText;refine wpAny_bind (wpAny_bind (wpAny_setState_of ho hd hf (wpAny_bind (wpAny_bind (wpAny_askSetting (wpAny_pure ?_))))));rw [if_neg (show ¬ (model P w).w.params.followText "set-order" = true by rw [show (model P w).w.params.followText "set-order" = false from bt]; exact Bool.false_ne_true)];have nd:(!t.plain && decide (es.size > 1)) = false:=by
   rcases pl with pl | pl
   ·rw [pl]; rfl
   ·rw [decide_eq_false (by lia),Bool.and_false]
  show wpAny _ _ (if (!t.plain && decide (es.size > 1)) = true then _ else _) _ _ _;rw [nd,if_neg Bool.false_ne_true];show wpAny _ _ ((if (!t.led && !es.isEmpty) = true then unsupported "set:maker-not-led" else pure ()) >>= _) _ _ _;rw [led]; simp only [Bool.not_true,Bool.false_and,Bool.false_eq_true,if_false];refine wpAny_bind (wpAny_pure (wpAny_pure ?_));have bl:SetTable.below t.place ((if es.size = 0 then (0:Int) else (t.place.getD (es.size - 1) 0:Int) + 1)).toNat = es.size:=by
   obtain ⟨s1,s2,s3⟩:=Yt up ((if es.size = 0 then (0:Int) else (t.place.getD (es.size - 1) 0:Int) + 1)).toNat;rw [Array.length_toList,sz] at s3
   by_cases e:es.size = 0
   ·lia
   ·rw [if_neg e] at s1 s2 s3 ⊢
    by_cases hr:SetTable.below t.place ((t.place.getD (es.size - 1) 0:Int) + 1).toNat <= es.size - 1
    ·have:=s2 _ _ hr (show t.place.toList[es.size - 1]? = some (t.place.getD (es.size - 1) 0) by rw [Array.getElem?_toList,Array.getElem?_eq_getElem (by lia)]; simp [Array.getD,sz]; lia);lia
    ·lia
  rw [bl,Array.getElem?_eq_none (Nat.le_refl _)];exact fin
def Zbe (w:World) (it S T:Addr) (es:BW) (ep:Nat) (t:SetTable) (L:List Value) (i:Nat) (h:Heap):Prop:=
 ∃ first o,Jg h it first i S es.size ep /\ h.get? S = some o /\ o.data = .set es ep t /\ t.fits es.size = true /\ Md w h first i S es ep t L /\ ∀ T',first = .ref T'->T' = T
theorem Md.keep {first:Value} {es:BW} {t:SetTable} {L:List Value} (md:Md w h first i S es ep t L) (k:∀ T,first = .ref T->∀ o,h.get? T = some o->h'.get? T = some o):Md w h' first i S es ep t L:=by
 rcases md with md | ⟨bt,T,ps,e,⟨o,g,r⟩,r'⟩ | md
 ·exact .inl md
 ·exact .inr (.inl ⟨bt,T,ps,e,⟨o,k T e o g,r⟩,r'⟩)
 ·exact .inr (.inr md)
theorem Dc {es:BW} {t:SetTable} {L:List Value} (hh:A.handled = none) (it S T:Addr) (hS:S ≠ it) (hT:T ≠ it):Walks P w A it [it,S,T] [it] es.size (λ i v=>L[i]? = some v) (Zbe w it S T es ep t L) where
 sub:=λ b hb=>by simp at hb; simp [hb]
 frame:=λ i h h' st hk=>by
  obtain ⟨first,o,g1,g2,d,f,md,hf⟩:=st;exact ⟨first,o,hk it (by simp) _ g1,hk S (by simp) _ g2,d,f,md.keep λ T' e o q=>hk T' (by rw [hf T' e]; simp) o q,hf⟩
 item:=λ i s Q E hi st hQ=>by
  obtain ⟨first,o,g1,g2,d,f,md,hf⟩:=st;have hTy:s.TypeIs (.ref it) "set_iterator" := ⟨_,g1,rfl⟩
  unfold pyNext;refine wpAny_bind (wpAny_attempt (wpAny_callSpecial?_slot (name:=Str.ofString "__next__") hTy QL (wpAny_call_entry QL hTy KH (Rh g1 g2 d f rfl md hi λ h' v first' hv g' sb mk fr=>⟨v,rfl,wpAny_pure ?_⟩) (GG _))));exact hQ v h' s.toks hv ⟨first',o,g',(sb.2 S hS).trans g2,d,f,mk h' λ b o q hb=>(sb.2 b hb).trans q,λ T' e=>hf T' (fr T' e)⟩ λ b o hb q=>(sb.2 b λ e=>hb (by simp [e])).trans q
 done:=λ s Q E st hQ=>by
  obtain ⟨first,o,g1,g2,d,f,md,hf⟩:=st;have hTy:s.TypeIs (.ref it) "set_iterator" := ⟨_,g1,rfl⟩
  unfold pyNext;refine wpAny_bind (wpAny_attempt (wpAny_callSpecial?_slot (name:=Str.ofString "__next__") hTy QL (wpAny_call_entry QL hTy KH (Zbq (by first | exact hh | simp [hh]) g1 g2 d f rfl md λ h' e k x=>?_) (GG _))));obtain ⟨oe,ge,ce⟩:=x;refine wpAny_bind (wpAny_isInstance (T := "StopIteration") (b:=true) ⟨oe,ge,ce⟩ isSubtype_stop (wpAny_pure ?_));exact hQ h' s.toks λ b o hb q=>k b o (λ e=>hb (by simp [e])) q
 self:=λ i s Q E st hQ=>by
  obtain ⟨first,o,g1,_⟩:=st;have hTy:s.TypeIs (.ref it) "set_iterator" := ⟨_,g1,rfl⟩
  refine wpAny_pyIter_slot hTy Wm (wpAny_call_entry Wm hTy Bx ?_ (CP _));exact wpAny_pure ⟨_,rfl, "set_iterator",_,hTy,QL.lookup,hQ⟩
theorem P8 {ks:List Int} {Q:Value->Shared->Prop} (hS:SI P w s.heap S ks)
  (hQ:∀ it T es ep t L h' d,Zbe w it S T es ep t L 0 h'->S ≠ it->T ≠ it->s.heap.objs.size <= it->(T = S \/ s.heap.objs.size <= T)->(L.map C1).Perm ks->(∀ v ∈ L,∃ t,v = .int (C1 v) t)->es.size = ks.length->(∀ b o,s.heap.get? b = some o->h'.get? b = some o)->Q (.ref it) { s with heap:=h',drawn:=d }) :
  wpAny (model P w) A (pyIter (.ref S)) Q E s:=by
 obtain ⟨o,es,t,g,so,rfl⟩:=hS;obtain ⟨ep,hd⟩:=so.dt;have hTy:s.TypeIs (.ref S) "set" := ⟨o,g,so.ex.1⟩
 have all:∀ v ∈ es.toList.map (·.2),∃ t,v = .int (C1 v) t:=λ v hv=>by
  obtain ⟨e,he,rfl⟩:=List.mem_map.mp hv;exact GQ so.el he
 have len:es.size = (Yk es).length:=by unfold Yk; rw [List.length_map,Array.length_toList]
 have lt:S < s.heap.objs.size:=Heap.lt_size g;refine wpAny_pyIter_slot hTy PySem.F.slot_set_iter (wpAny_call_entry PySem.F.slot_set_iter hTy W8 ?_ (PySem.F.args_set_iter_1 _));show wpAny _ _ (Builtin.Frozenset.sizeOf S >>= _) _ _ _;unfold Builtin.Frozenset.sizeOf;refine wpAny_bind (wpAny_bind (wpAny_setEntries_of g hd so.ft (wpAny_pure ?_)));unfold setDrawn setsByText;refine wpAny_bind (wpAny_bind (wpAny_setState_of g hd so.ft ?_)); dsimp only;refine wpAny_bind (wpAny_bind (wpAny_askSetting (wpAny_pure (wpAny_pure ?_))))
 have fin:∀ (first:Value) (s₁:Shared),s₁.heap.get? S = some o->wpAny (model P w) A.in1 (do
    let e <- setEpoch S
    let it <- newFields "set_iterator" [first,rawInt 0,Value.ref S,rawInt (es.size:Int),rawInt (e:Int)]
    ret it) (λ fin s'=>∃ v,fin = PySem.Fin.done (Flow.ret v) /\ v = .ref s₁.heap.objs.size /\ s' = { s₁ with heap:=s₁.heap.push { cls:=.type "set_iterator",dict:=none,data:=.fields #[first,rawInt 0,.ref S,rawInt es.size,rawInt ep],slots:=#[] } }) E s₁:=λ first s₁ g₁=>by
  refine wpAny_bind (wpAny_setEpoch_of g₁ hd so.ft ?_);unfold newFields;refine wpAny_bind (wpAny_newObj_type ?_ (by size_fits));exact wpAny_pure ⟨_,rfl,rfl,rfl⟩
 have nx:∀ (s':Shared) (it:Addr) (first:Value),s'.heap.get? it = some { cls:=.type "set_iterator",dict:=none,data:=.fields #[first,rawInt 0,.ref S,rawInt es.size,rawInt ep],slots:=#[] }->s'.TypeIs (.ref it) "set_iterator" := λ _ _ _ q=>⟨_,q,rfl⟩;show wpAny _ _ (if (!w.params.followText "set-order" && (!t.plain && decide (es.size > 1))) = true then _ else _) _ _ _;cases bt:w.params.followText "set-order" with
 | true=>
  simp only [Bool.not_true,Bool.false_and,Bool.false_eq_true,if_false];refine wpAny_bind (wpAny_pure (wpAny_mono (fin (rawInt 0) s g) (λ r s' ⟨v,e1,e2,e3⟩=>?_) λ _ _ q=>q));subst e1 e2 e3;have gi:(s.heap.push { cls:=.type "set_iterator",dict:=none,data:=.fields #[rawInt 0,rawInt 0,.ref S,rawInt es.size,rawInt ep],slots:=#[] }).get? s.heap.objs.size = some _:=Heap.get?_push_size _ rfl;refine ⟨_,rfl, "set_iterator",_,nx _ _ _ gi,QL.lookup,hQ _ S es ep t _ _ s.drawn ⟨_,o,gi,Heap.get?_push_of_some _ g,hd,so.ft,.inl ⟨bt,rfl,rfl⟩,λ T' e=>nomatch e⟩ (Nat.ne_of_lt lt) (Nat.ne_of_lt lt) (Nat.le_refl _) (.inl rfl) ?_ ?_ len λ b o q=>Heap.get?_push_of_some _ q⟩
  ·rw [List.map_map];exact (J1 _ es).map _
  ·intro v hv;exact all v (((J1 _ es).map _).mem_iff.mp hv)
 | false=>
  cases dr:(!t.plain && decide (es.size > 1)) with
  | false=>
   simp only [Bool.not_false,Bool.true_and,Bool.false_eq_true,if_false];refine wpAny_bind (wpAny_pure (wpAny_mono (fin (rawInt 0) s g) (λ r s' ⟨v,e1,e2,e3⟩=>?_) λ _ _ q=>q));subst e1 e2 e3;have gi:(s.heap.push { cls:=.type "set_iterator",dict:=none,data:=.fields #[rawInt 0,rawInt 0,.ref S,rawInt es.size,rawInt ep],slots:=#[] }).get? s.heap.objs.size = some _:=Heap.get?_push_size _ rfl;have pl:t.plain = true \/ es.size <= 1:=by
    cases hp:t.plain with
    | true=>exact .inl rfl
    | false=>
     rw [hp] at dr;have:=of_decide_eq_false (show decide (es.size > 1) = false from dr);exact .inr (by lia)
   have up:Rsg t.place.toList:=by
    rcases pl with pl | pl
    ·exact so.ok.up pl
    ·have sz:t.place.toList.length <= 1:=by
      have hf:=so.ft;unfold SetTable.fits at hf;rw [Bool.and_eq_true] at hf;rw [Array.length_toList,eq_of_beq hf.1];exact pl
     match t.place.toList,sz with
     | [],_=>exact List.Pairwise.nil
     | [a],_=>exact List.pairwise_singleton _ _
   refine ⟨_,rfl, "set_iterator",_,nx _ _ _ gi,QL.lookup,hQ _ S es ep t _ _ s.drawn ⟨_,o,gi,Heap.get?_push_of_some _ g,hd,so.ft,.inr (.inr ⟨bt,rfl,up,by rw [so.ok.led,bt]; rfl,pl,rfl⟩),λ T' e=>nomatch e⟩ (Nat.ne_of_lt lt) (Nat.ne_of_lt lt) (Nat.le_refl _) (.inl rfl) ?_ all len λ b o q=>Heap.get?_push_of_some _ q⟩;rw [List.map_map];exact .refl _
  | true=>
   simp only [Bool.not_false,Bool.true_and,if_true];refine wpAny_bind (DX _ _ _ _ List.length_range λ ps d hp=>?_);have lp:ps.length = es.size:=by rw [hp.length_eq,List.length_range]
   refine wpAny_bind (wpAny_newTuple ?_ (by rw [List.length_map,lp]; exact fits_of_scanBound so.bd));refine wpAny_mono (fin (.ref s.heap.objs.size) _ (Heap.get?_push_of_some _ g)) (λ r s' ⟨v,e1,e2,e3⟩=>?_) λ _ _ q=>q;subst e1 e2 e3;have sz:(s.heap.push { cls:=.type "tuple",data:=.seq (ps.map λ p:Nat=>rawInt (p:Int)).toArray }).objs.size = s.heap.objs.size + 1:=Heap.size_push ..;have gT:(s.heap.push { cls:=.type "tuple",data:=.seq (ps.map λ p:Nat=>rawInt (p:Int)).toArray }).get? s.heap.objs.size = some _:=Heap.get?_push_size _ rfl;have gi:((s.heap.push { cls:=.type "tuple",data:=.seq (ps.map λ p:Nat=>rawInt (p:Int)).toArray }).push { cls:=.type "set_iterator",dict:=none,data:=.fields #[.ref s.heap.objs.size,rawInt 0,.ref S,rawInt es.size,rawInt ep],slots:=#[] }).get? (s.heap.push { cls:=.type "tuple",data:=.seq (ps.map λ p:Nat=>rawInt (p:Int)).toArray }).objs.size = some _:=Heap.get?_push_size _ rfl;have pm:(ps.map λ p=>(es.getD p (0,Value.none)).2).Perm (es.toList.map (·.2)):=by
    refine (hp.map _).trans (.of_eq ?_);refine List.ext_getElem (by simp) λ i h1 h2=>?_;have hi:i < es.size:=by simpa using h1
    simp [Array.getD,hi]
   refine ⟨_,rfl, "set_iterator",_,nx _ _ _ gi,QL.lookup,hQ _ s.heap.objs.size es ep t _ _ d ⟨_,o,gi,Heap.get?_push_of_some _ (Heap.get?_push_of_some _ g),hd,so.ft,.inr (.inl ⟨bt,s.heap.objs.size,ps,rfl,⟨_,Heap.get?_push_of_some _ gT,rfl,_,rfl⟩,hp,rfl⟩),λ T' e=>by cases e; rfl⟩ ?_ ?_ ?_ (.inr (Nat.le_refl _)) ?_ ?_ len λ b o q=>Heap.get?_push_of_some _ (Heap.get?_push_of_some _ q)⟩
   ·intro e;rw [sz] at e;exact absurd e (Nat.ne_of_lt (Nat.lt_succ_of_lt lt))
   ·intro e;rw [sz] at e;exact absurd e (Nat.ne_of_lt (Nat.lt_succ_self _))
   ·rw [sz];exact Nat.le_succ _
   ·have:=pm.map C1;rw [List.map_map (f:=λ x:Int × Value=>x.2)] at this;exact this
   ·intro v hv;exact all v (pm.mem_iff.mp hv)
end
theorem SO:Slot "set" "__len__" "set.__len__" := .of (owner := "set") (n := "__len__") (by rw [typeLookup_type,builtinLookup_eq_fast]; kernel_rfl) (by walk_at "k") (by walk_at "k") (by walk_at "k") (by first | exact .inl (by walk_at "k") | exact .inr (by walk_at "k")) (by rw [isSubtype_type]; kernel_rfl)
theorem EN:∀ L:List Value,(∀ v ∈ L,∃ t,v = .int (C1 v) t)->IntsAre L (L.map C1)
 | [],_=>.nil
 | v :: L,h=>by
  obtain ⟨t,e⟩:=h v List.mem_cons_self;have:=EN L λ x hx=>h x (List.mem_cons_of_mem _ hx);rw [List.map_cons,e];exact .cons _ t this
section
variable {E:Value->Shared->Prop}
theorem Uh {ks:List Int} {Q:List Value->Shared->Prop} (hh:A.handled = none) (hS:SI P w s.heap S ks)
  (hQ:∀ (vs:List Value) (s':Shared),IntsAre vs (vs.map C1)->(vs.map C1).Perm ks->s'.gens = s.gens->s'.os = s.os->s.toks <= s'.toks->(∀ b o,s.heap.get? b = some o->s'.heap.get? b = some o)->Q vs s') :
  wpAny (model P w) A (collect (.ref S)) Q E s:=by
 have hz:=hS.size;obtain ⟨o,es0,t0,g,so,e0⟩:=id hS;have lt:S < s.heap.objs.size:=Heap.lt_size g;unfold collect;refine wpAny_bind (wpAny_runValue (codeAny_builtin PySem.F.entry_proto_collect ?_)); rw [Around.under_plainId PySem.F.plain_proto_collect _];show wpAny _ A.in1 (newList [] >>= λ l=>again (.builtin "list.__iadd__" ⟨[l,.ref S],[]⟩)) _ _ s;refine wpAny_bind (wpAny_newObj_type (wpAny_pure ⟨plainId_quiet PySem.F.plain_list_iadd _,codeAny_builtin PySem.F.entry_list_iadd ?_⟩)); rw [Around.under_plainId PySem.F.plain_list_iadd _];show wpAny _ A.in1 (Builtin.List.listExtendWith (.ref s.heap.objs.size) (.ref S) (.ref s.heap.objs.size)) _ _ _;have hS1:SI P w (s.heap.push { cls:=.type "list",data:=.seq ([]:List Value).toArray }) S ks:=hS.same λ o q=>Heap.get?_push_of_some _ q;have hTy:Shared.TypeIs { s with heap:=s.heap.push { cls:=.type "list",data:=.seq ([]:List Value).toArray } } (.ref S) "set" := ⟨o,Heap.get?_push_of_some _ g,so.ex.1⟩
 unfold Builtin.List.listExtendWith;refine wpAny_bind (wpAny_typeOf hTy ?_);have h1:Builtin.List.listSameRef (.ref s.heap.objs.size) (.ref S) = false:=by simp [Builtin.List.listSameRef]; exact λ e=>absurd e (Nat.ne_of_gt lt)
 simp only [h1,show (Value.type "set" == Value.type "list") = false by decide,show (Value.type "set" == Value.type "tuple") = false by decide,Bool.or_false,Bool.false_eq_true,if_false];refine wpAny_bind (P8 hS1 λ it T es ep t L h2 d st nS nT lit lT pL hL len k2=>?_);have hTy2:Shared.TypeIs { s with heap:=h2,drawn:=d } (.ref S) "set" := ⟨o,k2 S o (Heap.get?_push_of_some _ g),so.ex.1⟩
 refine wpAny_bind (wpAny_holding ?_);unfold Builtin.List.listLengthHint;refine wpAny_bind (wpAny_specialOf hTy2 SO.lookup ?_)
 (generalize hid:("set.__len__" : String) = id0; (fail_if_success (clear hid id0)); wp_delta; rw [show splitId id0 = some ("set", "__len__") from by subst hid; decide +kernel]; subst hid)
 refine wpAny_bind (wpAny_isInstance (b:=true) hTy2 sub_set_self ?_);rw [if_neg (by decide)]; dsimp only;rw [if_pos (by walk_at "k")];refine wpAny_bind (wpAny_typeOf hTy2 (wpAny_pure ?_));rw [if_pos (by walk_at "k")];have gN:h2.get? s.heap.objs.size = some { cls:=.type "list",data:=.seq ([]:List Value).toArray }:=k2 _ _ (Heap.get?_push_size _ rfl);have szp:(s.heap.push { cls:=.type "list",data:=.seq ([]:List Value).toArray }).objs.size = s.heap.objs.size + 1:=size_push' _ _;have nN:s.heap.objs.size ∉ [it,S,T]:=λ hm=>by
  rw [show (Shared.heap { s with heap:=s.heap.push { cls:=.type "list",data:=.seq ([]:List Value).toArray } }).objs.size = s.heap.objs.size + 1 from szp] at lit lT;simp at hm
  rcases hm with e | e | e
  ·lia
  ·exact absurd e (Nat.ne_of_gt lt)
  ·rcases lT with q | q
   ·exact absurd (e.trans q) (Nat.ne_of_gt lt)
   ·lia
 have W:=(Dc (P:=P) (w:=w) (A:=A.in1) (es:=es) (ep:=ep) (t:=t) (L:=L) hh it S T nS nT)
 have g2:=Heap.get?_update_self (Obj.mapSeq (·.push Value.none)) gN rfl;have g3:=Heap.get?_update_self (Obj.mapSeq (·.pop)) g2 rfl;have oth:∀ b o,b ≠ s.heap.objs.size->h2.get? b = some o->((h2.update s.heap.objs.size (Obj.mapSeq (·.push Value.none))).update s.heap.objs.size (Obj.mapSeq (·.pop))).get? b = some o:=
  λ b o hb e=>(Heap.get?_update_other _ _ (Ne.symm hb)).trans ((Heap.get?_update_other _ _ (Ne.symm hb)).trans e)
 refine wpAny_bind (wpAny_rule (wpAny_bind ?_));show wpAny _ A.in1 (updateSeq s.heap.objs.size (·.push .none) >>= λ _=>updateSeq s.heap.objs.size (·.pop)) _ _ _;refine wpAny_bind (wpAny_updateSeq gN rfl (wpAny_updateSeq g2 rfl ?_));have lL:L.length = es.size:=by rw [len,<- pL.length_eq,List.length_map]
 refine wpAny_pure ⟨plainId_quiet PySem.F.plain_extend_loop _,codeAny_extend_loopS W.toS (by rw [len]; exact Nat.le_trans (Nat.le_of_lt hz) (by decide)) _ nN _ es.size 0 _ _ _ rfl (Nat.zero_le _) (W.frame 0 h2 _ st λ b hb o e=>oth b o (λ q=>nN (q ▸ hb)) e) g3 (ItemsOf.nil _) λ s' acc c hm hS' hacc=>?_⟩;have eL:acc.toList = L:=by
  refine List.ext_getElem? λ j=>?_
  by_cases hj:j < acc.size
  ·rw [Array.getElem?_toList,Array.getElem?_eq_getElem hj];exact (hacc.2 j _ (Array.getElem?_eq_getElem hj)).symm
  ·rw [List.getElem?_eq_none (by rw [Array.length_toList]; lia),List.getElem?_eq_none (by rw [lL,<- hacc.1]; lia)]
 show wpAny _ A (load s.heap.objs.size >>= _) _ _ s';refine wpAny_bind (wpAny_load hS' (wpAny_pure ?_));rw [eL];refine hQ L s' (EN L hL) pL hm.gens hm.os hm.toks λ b o q=>?_;have bl:b < s.heap.objs.size:=Heap.lt_size q;refine hm.heap b o (λ hb=>?_) (oth b o (Nat.ne_of_lt bl) (k2 b o (Heap.get?_push_of_some _ q)));rw [show (Shared.heap { s with heap:=s.heap.push { cls:=.type "list",data:=.seq ([]:List Value).toArray } }).objs.size = s.heap.objs.size + 1 from szp] at lit
 rcases List.mem_cons.mp hb with e | e
 ·exact absurd e (Nat.ne_of_lt bl)
 ·rw [List.mem_singleton.mp e] at bl; exact absurd (Nat.lt_of_lt_of_le bl (Nat.le_of_succ_le lit)) (Nat.lt_irrefl _)
end
theorem SI.nodup {ks:List Int} (q:SI P w h a ks):ks.Nodup:=by
 obtain ⟨o,es,t,_,so,rfl⟩:=q;exact so.nd
theorem UO {vs:List Value} {out:Array Value} {b:Addr} {o:Obj} (q:h.get? b = some o):(sortedHeap (h.push (seqObj "list" vs.toArray 0)) h.objs.size vs out).get? b = some o:=by
 have bl:b < h.objs.size:=Heap.lt_size q;unfold sortedHeap;exact (Heap.get?_update_other _ _ (Nat.ne_of_gt bl)).trans (Heap.get?_push_of_some _ (Heap.get?_push_of_some _ ((Heap.get?_update_other _ _ (Nat.ne_of_gt bl)).trans (Heap.get?_push_of_some _ q))))
theorem Dn (h:Heap) (vs:List Value) (out:Array Value):∃ e,(sortedHeap (h.push (seqObj "list" vs.toArray 0)) h.objs.size vs out).get? h.objs.size = some (seqObj "list" out e):=by
 unfold sortedHeap;have h1:(h.push (seqObj "list" vs.toArray 0)).get? h.objs.size = some (seqObj "list" vs.toArray 0):=Heap.get?_push_size _ rfl;exact ⟨_,get?_update_seq (Heap.get?_push_of_some _ (Heap.get?_push_of_some _ (get?_update_seq h1 (λ _=>#[])))) (λ _=>out)⟩
section
variable {E:Value->Shared->Prop}
theorem BF {ks:List Int} {Q:Value->Shared->Prop} (hh:A.handled = none) (hS:SI P w s.heap S ks) (h64:ks.length < 64)
  (h:∀ (out:Array Value) (ns:List Int) (s1:Shared) (h':Heap) (e:Nat),IntsAre out.toList ns->ns.Perm ks->ns.Pairwise (· <= ·)->s1.gens = s.gens->s1.os = s.os->(∀ b o,s.heap.get? b = some o->s1.heap.get? b = some o)->(∀ b o,s1.heap.get? b = some o->h'.get? b = some o)->h'.get? s1.heap.objs.size = some (seqObj "list" out e)->Q (.ref s1.heap.objs.size) { s1 with heap:=h' }) :
  wpAny (model P w) A (call (.builtin "sorted") [.ref S]) Q E s:=by
 refine Calls.call_function_entry kind_sorted plain_sorted entry_sorted (args_sorted1 _) ?_; unfold Builtin.«sorted»;refine wpAny_bind (m:=checkCount "sorted" 1 1 _) (wpAny_pure (wpAny_bind (Uh (by exact hh) hS λ vs s1 a1 a2 a3 a4 a5 a6=>wpAny_bind (wpAny_newList ?_ (by have:=a2.length_eq; rw [List.length_map] at this; rw [sizeLine_eq]; lia)))));have hoL:(s1.heap.push (seqObj "list" vs.toArray 0)).get? s1.heap.objs.size = some (seqObj "list" vs.toArray 0):=Heap.get?_push_size _ rfl;have hl:vs.length < 64:=by have:=a2.length_eq; rw [List.length_map] at this; lia
 show wpAny _ _ _ _ _ { s1 with heap:=s1.heap.push (seqObj "list" vs.toArray 0) };refine wpAny_bind (wpAny_holding (wpAny_call_entry slot_list_sort ⟨_,hoL,rfl⟩ entry_list_sort (list_sort_tree hoL a1 hl λ out ns' b1 b2 b3=>⟨_,rfl,?_⟩) (args_list_sort _)));obtain ⟨e,he⟩:=Dn s1.heap vs out;exact wpAny_pure ⟨_,rfl,h out ns' s1 _ e b1 (b2.trans a2) b3 a3 a4 a6 (λ b o q=>UO q) he⟩
end
section
variable {t:TA} {p pos2:Pos}
def tSS (X:Cx) (t:TA):TE:=λ Z H Q=>t Z H λ xs H1=>∃ (l:Addr) (ns:List Int),xs = [.ref l] /\ SqL X.K H1 l (ns.map V.int) /\ ns.length < 64 /\ ∀ ks:List Int,ks.Pairwise (· <= ·)->ks.Nodup->(∀ z,z ∈ ks ↔ z ∈ ns)->∀ l,H1 l = none->Q (.ref l) (upd H1 l (.lst (ks.map V.int)))
theorem KD (hc:X.calm = true) (hg:Gl X "sorted") (hm:X.mg "sorted" = none) (hg2:Gl X "set") (hm2:X.mg "set" = none) (ha:PA X [e] t) (he:autoParam (starEach [e] X.env = [(false,eval e X.env)]) zz3._auto_1) :
  PE X (.Call (.Name "sorted" p) [.Call (.Name "set" p2) [e] [] pos2] [] pos) (tSS X t):=by
 intro pins s Z H Q I h;refine wpAny_Call_Name_kw (JU I hg hm (u:=.builtin "sorted") (by rfl) ?_ (by decide) (by decide));refine PyProof.Rows.callWith_builtin1 ?_ (by rfl) (by rfl);refine Calls.spliced_cons (wpAny_Call_Name_kw (JU I hg2 hm2 (u:=.type "set") (by rfl) ?_ (by decide) (by decide)));refine PyProof.Rows.callWith_type1 (thn (ha pos2 pins s Z H _ I h) λ us s1 ⟨vs,H1,I1,r1,q1⟩=>?_) he (by rfl);obtain ⟨l,ns,rfl,hq,h64,q⟩:=q1;obtain ⟨u,rfl,rx⟩:=vals1 r1;cases rx;obtain ⟨its,rv,pl,hz⟩:=I1.list hq;have hi:IntsAre its ns:=intsAre_of rv;have hlen:its.length < 64:=by have:=rv.length; rw [List.length_map] at this; lia
 refine set_list (I1.ok.hd hc) pl.isList (by simpa using hi) (by simpa using Nat.lt_trans (Nat.succ_lt_succ hlen) (by decide)) λ h' tk ks a1 a2 a3 a4=>?_;have k1:∀ b o,s1.heap.get? b = some o->h'.get? b = some o:=λ b o q=>a4 b o (Heap.lt_size q) q;refine Calls.spliced_nil ?_;refine BF (s:={ s1 with heap:=h',toks:=tk }) (I1.ok.hd hc) a1 (by lia) λ out ns' s2 h2 e b1 b2 b3 b4 b5 b6 b7 b8=>?_;have I2:=I1.kept (t':=tk) k1;have I3:Inv X pins Z H1 s2:=I2.Rp (ch:=[]) b5 (Un.kept b6) (I2.hok.kept b6) (by rw [b4]; exact I2.bare) (λ _ z=>nomatch z);have hn:H1 s2.heap.objs.size = none:=I3.hok.fresh (Nat.le_refl _);refine ⟨.ref s2.heap.objs.size,_,I3.laid (t':=s2.toks) (a:=s2.heap.objs.size) (o:=.lst (ns'.map V.int)) b7 (Nat.le_refl _) ⟨?_,out.toList,e,Y1 b1,b8⟩,rfl,q ns' b3 ?_ (λ z=>(b2.mem_iff).trans (a2 z)) _ hn⟩
 ·rw [List.length_map,b2.length_eq,sizeLine_eq];lia
 ·exact b2.nodup_iff.mpr (SI.nodup a1)
def dSS (t:DTA):DTE:=λ U M Φ=>t U M λ xs M1=>∃ ns:List Int,Q9 xs M1 ns /\ ns.length < 64 /\ ∀ ks:List Int,ks.Pairwise (· <= ·)->ks.Nodup->(∀ z,z ∈ ks ↔ z ∈ ns)->Φ (.dat (.list (ks.map PyData.int))) M1
theorem Zez:type_of% @dSS.eq_1:=λ _ _ _ _=>qI
theorem Wb {t:DTA} (hg:Gl X "sorted") (hm:X.mg "sorted" = none) (hg2:Gl X "set") (hm2:X.mg "set" = none) (ha:DA X [e] t) (hc:autoParam (X.calm = true) zz3._auto_1) (he:autoParam (starEach [e] X.env = [(false,eval e X.env)]) zz3._auto_1) :
  DE X (.Call (.Name "sorted" p) [.Call (.Name "set" p2) [e] [] pos2] [] pos) (dSS t):=by
 obtain ⟨u,pa,q⟩:=ha;refine ⟨_,KD hc hg hm hg2 hm2 pa he,λ Z H U M Φ Q r e h k=>?_⟩;refine q Z H U M _ _ r e h λ vs H1 xs M1 r1 st rv hx=>?_;obtain ⟨ns,hx,h64,q⟩:=hx;obtain ⟨p,rfl,hs⟩:=hx.sq r1 rv;exact ⟨p,ns,rfl,hs,h64,λ ks a b c l hl=>(k.step st).dat (r1.new hl) (Step.new hl) (Dt.VW r1 hl (Dts.ints ks)) (q ks a b c)⟩
end
end DL
namespace DL
def Zfm (τ:DTE):DTT:=λ U M Φ=>τ U M λ x M1=>onQ x M1 λ ds=>Φ (!ds.isEmpty) M1
theorem Zb4:type_of% @Zfm.eq_1:=λ _ _ _ _=>qI
theorem YQ (h:Dts K M H vs ds):(!vs.isEmpty) = !ds.isEmpty:=by
 have:=Dts.length h;cases vs <;> cases ds <;> simp at this ⊢
theorem NL {τ:DTE} (h:DE X e τ) (he:autoParam (∀ whole,isTrue e X.env whole = (do let v <- whole; standAt e.pos; holding [v] (truthy v))) zz2._auto_1):DT X e (Zfm τ):=by
 obtain ⟨t,p,q⟩:=h;refine ⟨_,LJ p he,λ Z H U M Φ Q dr e h k=>?_⟩;refine q Z H U M _ _ dr e h λ v H1 x M1 r1 st rv hx=>?_;replace hx:=Gj hx;obtain ⟨ds,hx,hq⟩:=hx;refine ⟨!ds.isEmpty,?_,k _ _ _ r1 st hq⟩
 rcases hx with rfl | rfl | ⟨l,rfl,hm⟩
 ·obtain ⟨p,xs,rfl,h1,h2⟩:=rv.tup;exact .inr (.inl ⟨xs,h1.sq,(YQ h2).symm⟩)
 ·obtain ⟨p,xs,rfl,h1,h2⟩:=rv.lst;exact .inl ⟨xs,h1.sq,(YQ h2).symm⟩
 ·cases (show v = .ref l from rv);obtain ⟨vs,g1,g2⟩:=r1.ls l ds hm;exact .inl ⟨vs,SqL.of g1,(YQ g2).symm⟩
end DL
namespace DL
open PySem.W
structure Gives (it l:Addr) (xs:Array Value) (st:Nat->Heap->Prop):Prop where
 frame:∀ {i:Nat} {h h':Heap},st i h->(∀ b,b = it \/ b = l->∀ o,h.get? b = some o->h'.get? b = some o)->st i h'
 live:∀ {i:Nat} {h:Heap},st i h->∃ o,h.get? it = some o
 item:∀ {prog:Program} {w:World} {A:Around} {E:Value->Shared->Prop} {s:Shared} {Q:Value->Shared->Prop} {i:Nat} {x:Value},st i s.heap->xs[i]? = some x ->
  (∀ h',st (i + 1) h'->Heap.SameBut it s.heap h'->Q x { s with heap:=h' })->wpAny (model prog w) A (Builtin.SmallTypes.nextOf (.ref it)) Q E s
 done:∀ {prog:Program} {w:World} {A:Around} {E:Value->Shared->Prop} {s:Shared} {Q:Value->Shared->Prop} {i:Nat},A.handled = none->st i s.heap->xs[i]? = none ->
  (∀ h' e,Heap.ExtBut it s.heap h'->(∃ o,h'.get? e = some o /\ o.cls = .type "StopIteration")->E (.ref e) { s with heap:=h' })->wpAny (model prog w) A (Builtin.SmallTypes.nextOf (.ref it)) Q E s
theorem Xs (hne:l ≠ it) (xs:Array Value):Gives it l xs λ i h=>h.IsListIter it l i /\ h.IsList l xs where
 frame:=λ st k=>⟨st.1.at λ o e=>k it (.inl rfl) o e,let ⟨o,ho,r⟩:=st.2; ⟨o,k l (.inr rfl) o ho,r⟩⟩
 live:=λ st=>let ⟨o,ho,_⟩:=st.1; ⟨o,ho⟩
 item:=λ st hx hQ=>wpAny_nextOf_list_item st.1 st.2 hx λ h' a b=>hQ h' ⟨a,st.2.extBut b.extBut hne⟩ b
 done:=λ hh st hx hE=>wpAny_nextOf_list_end hh st.1 st.2 hx hE
theorem WD (hne:l ≠ it) (xs:Array Value):Gives it l xs λ i h=>h.IsTupleIter it l i /\ h.IsTuple l xs where
 frame:=λ st k=>⟨let ⟨o,ho,r⟩:=st.1; ⟨o,k it (.inl rfl) o ho,r⟩,let ⟨o,ho,r⟩:=st.2; ⟨o,k l (.inr rfl) o ho,r⟩⟩
 live:=λ st=>let ⟨o,ho,_⟩:=st.1; ⟨o,ho⟩
 item:=λ st hx hQ=>VG st.1 st.2 hx λ h' a b=>hQ h' ⟨a,st.2.extBut b.extBut hne⟩ b
 done:=λ hh st hx hE=>V2 hh st.1 st.2 hx hE
theorem QW {b c:Addr} (hb:b = p \/ b = l) (h1:p ≠ c) (h2:l ≠ c):b ≠ c:=hb.elim (λ e=>e ▸ h1) λ e=>e ▸ h2
def Zb8 (a b c d:Addr) (h h':Heap):Prop:=∀ x o,x ≠ a->x ≠ b->x ≠ c->x ≠ d->h.get? x = some o->h'.get? x = some o
section
variable {prog:Program} {E:Value->Shared->Prop} {z TI TO m:Addr} {xs ys:Array Value} {f g:Nat->Heap->Prop}
theorem Ed {x y a b:Value} {Q:Value->Shared->Prop} (D:ZipApart z TI TO p q l m) (G1:Gives p l xs f) (G2:Gives q m ys g) (hz:IsZip s.heap z TI TO .none) (hI:IsPair s.heap TI (.ref p) (.ref q)) (hO:IsPair s.heap TO a b)
  (h1:f i s.heap) (h2:g j s.heap) (hx:xs[i]? = some x) (hy:ys[j]? = some y)
  (hQ:∀ h',IsZip h' z TI TO (rawInt s.heap.objs.size)->IsPair h' TO x y->f (i + 1) h'->g (j + 1) h'->IsPair h' s.heap.objs.size x y->h'.objs.size = s.heap.objs.size + 1->Zb8 z TO p q s.heap h'->Q (.ref s.heap.objs.size) { s with heap:=h' }) :
  wpAny (model prog w) A (Builtin.«zip.__next__» ⟨[.ref z],[]⟩) (λ r s'=>∃ v,r = .done (.ret v) /\ Q v s') E s:=by
 show wpAny _ _ (field (.ref z) 2 >>= _) _ _ s;refine wpAny_bind (wpAny_field hz rfl (x:=.bool false) rfl (show wpAny _ _ (field (.ref z) 3 >>= _) _ _ s from wpAny_bind (wpAny_field hz rfl (x:=.ref TI) rfl (wpAny_bind (wpAny_seqItems hI rfl ?_)))));show wpAny _ _ (Builtin.SmallTypes.ownedTupleIsFree (.ref z) >>= _) _ _ s;unfold Builtin.SmallTypes.ownedTupleIsFree;refine wpAny_bind (wpAny_bind (wpAny_field hz rfl (x:=.none) rfl (wpAny_pure ?_)));simp only [if_true];refine wpAny_bind (wpAny_rule (wpAny_bind (wpAny_field hz rfl (x:=.ref TO) rfl (wpAny_bind (wpAny_setField_rec hz (by simp) λ ha za sa=>wpAny_bind ?_)))));replace za:IsZip ha z TI TO .ellipsis:=za;simp only [List.zipIdx_cons,List.forIn_cons,List.zipIdx_nil,List.forIn_nil];have fa:f i ha:=G1.frame h1 λ b hb o e=>sa.extBut b o (QW hb D.i1z D.l1z) e;refine wpAny_bind (wpAny_bind (wpAny_onRaise (show wpAny _ _ (Builtin.SmallTypes.nextOf (.ref p) >>= _) _ _ _ from wpAny_bind (G1.item fa hx λ hb fb sb=>wpAny_pure ?_))));have ob:IsPair hb TO a b:=sb.extBut _ _ D.TOi1 (sa.extBut _ _ D.TOz hO);refine wpAny_bind (wpAny_seqItems ob rfl (wpAny_bind (wpAny_updateSeq_pair ob λ hc oc sc=>wpAny_bind (wpAny_letGo (wpAny_pure ?_)))));replace oc:IsPair hc TO x b:=oc;have gc:g j hc:=G2.frame h2 λ b hb o e=>by
  have n1:b ≠ z:=QW hb D.i2z D.l2z;have n2:b ≠ p:=QW hb D.i12.symm D.l2i1;have n3:b ≠ TO:=QW hb D.TOi2.symm D.l2TO;exact sc.extBut b o n3 (sb.extBut b o n2 (sa.extBut b o n1 e))
 refine wpAny_bind (wpAny_bind (wpAny_onRaise (show wpAny _ _ (Builtin.SmallTypes.nextOf (.ref q) >>= _) _ _ _ from wpAny_bind (G2.item gc hy λ hd gd sd=>wpAny_pure ?_))));have od:IsPair hd TO x b:=sd.extBut _ _ D.TOi2 oc;refine wpAny_bind (wpAny_seqItems od rfl (wpAny_bind (wpAny_updateSeq_pair od λ he oe se=>wpAny_bind (wpAny_letGo (wpAny_pure (wpAny_pure ?_))))));replace oe:IsPair he TO x y:=oe;refine wpAny_bind (wpAny_seqItems oe rfl (wpAny_bind (wpAny_newTuple ?_)));have size:he.objs.size = s.heap.objs.size:=by rw [se.1,sd.1,sc.1,sb.1,sa.1]
 have ze:IsZip he z TI TO .ellipsis:=se.extBut _ _ D.TOz.symm (sd.extBut _ _ D.i2z.symm (sc.extBut _ _ D.TOz.symm (sb.extBut _ _ D.i1z.symm za)));have all:Zb8 z TO p q s.heap he:=λ c o c1 c2 c3 c4 e=>se.extBut _ _ c2 (sd.extBut _ _ c4 (sc.extBut _ _ c2 (sb.extBut _ _ c3 (sa.extBut _ _ c1 e))));have fe:f (i + 1) he:=G1.frame fb λ b hb o e=>by
  have n3:b ≠ TO:=QW hb D.TOi1.symm D.l1TO;have n4:b ≠ q:=QW hb D.i12 D.l1i2;exact se.extBut b o n3 (sd.extBut b o n4 (sc.extBut b o n3 e))
 have ge:g (j + 1) he:=G2.frame gd λ b hb o e=>se.extBut b o (QW hb D.TOi2.symm D.l2TO) e;have zlt:z < he.objs.size:=Heap.lt_size ze;show wpAny _ _ (Builtin.SmallTypes.ownedTupleHandOut (.ref z) (.ref he.objs.size) >>= _) _ _ _;unfold Builtin.SmallTypes.ownedTupleHandOut;have zf:IsZip (he.push { cls:=.type "tuple",data:=.seq #[x,y] }) z TI TO .ellipsis:=Heap.get?_push_of_some _ ze;refine wpAny_bind (wpAny_bind (wpAny_setField_rec zf (by simp) λ hg zg sg=>?_));replace zg:IsZip hg z TI TO (rawInt he.objs.size):=zg;refine wpAny_setField_rec zg (by simp) λ hk zk sk=>wpAny_pure ⟨_,rfl,?_⟩;replace zk:IsZip hk z TI TO (rawInt he.objs.size):=zk;have up:∀ c o,c ≠ z->he.get? c = some o->hk.get? c = some o:=λ c o c1 e=>sk.extBut _ _ c1 (sg.extBut _ _ c1 (Heap.get?_push_of_some _ e));have new:IsPair hk he.objs.size x y:=sk.extBut _ _ (Nat.ne_of_gt zlt) (sg.extBut _ _ (Nat.ne_of_gt zlt) (Heap.get?_push_size _ rfl));have one:hk.objs.size = he.objs.size + 1:=by rw [sk.1,sg.1,Heap.size_push]
 rw [size] at zk new one;show Q (.ref he.objs.size) _;rw [size];exact hQ hk zk (up _ _ D.TOz oe) (G1.frame fe λ b hb o e=>up b o (QW hb D.i1z D.l1z) e) (G2.frame ge λ b hb o e=>up b o (QW hb D.i2z D.l2z) e) new one λ c o c1 c2 c3 c4 e=>up c o c1 (all c o c1 c2 c3 c4 e)
theorem MP {a b:Value} {Q:Fin->Shared->Prop} (hh:A.handled = none) (D:ZipApart z TI TO p q l m) (G1:Gives p l xs f) (G2:Gives q m ys g) (hz:IsZip s.heap z TI TO .none) (hI:IsPair s.heap TI (.ref p) (.ref q)) (hO:IsPair s.heap TO a b)
  (h1:f i s.heap) (h2:g j s.heap) (hx:xs[i]? = none \/ ys[j]? = none)
  (hE:∀ h' e,Zb8 z TO p q s.heap h'->(∃ o,h'.get? e = some o /\ o.cls = .type "StopIteration")->E (.ref e) { s with heap:=h' }) :
  wpAny (model prog w) A (Builtin.«zip.__next__» ⟨[.ref z],[]⟩) Q E s:=by
 show wpAny _ _ (field (.ref z) 2 >>= _) _ _ s;refine wpAny_bind (wpAny_field hz rfl (x:=.bool false) rfl (show wpAny _ _ (field (.ref z) 3 >>= _) _ _ s from wpAny_bind (wpAny_field hz rfl (x:=.ref TI) rfl (wpAny_bind (wpAny_seqItems hI rfl ?_)))));show wpAny _ _ (Builtin.SmallTypes.ownedTupleIsFree (.ref z) >>= _) _ _ s;unfold Builtin.SmallTypes.ownedTupleIsFree;refine wpAny_bind (wpAny_bind (wpAny_field hz rfl (x:=.none) rfl (wpAny_pure ?_)));simp only [if_true];refine wpAny_bind (wpAny_rule (wpAny_bind (wpAny_field hz rfl (x:=.ref TO) rfl (wpAny_bind (wpAny_setField_rec hz (by simp) λ ha za sa=>wpAny_bind ?_)))));replace za:IsZip ha z TI TO .ellipsis:=za;simp only [List.zipIdx_cons,List.forIn_cons,List.zipIdx_nil,List.forIn_nil];have fa:f i ha:=G1.frame h1 λ b hb o e=>sa.extBut b o (QW hb D.i1z D.l1z) e;have stop:∀ (hv hw:Heap) (e:Addr),IsZip hv z TI TO .ellipsis->(∃ o,hv.get? e = some o /\ o.cls = .type "StopIteration")->Heap.SameBut z hv hw->∃ o,hw.get? e = some o /\ o.cls = .type "StopIteration" := λ hv hw e zv ⟨o,ho,hc⟩ k=>
  ⟨o,k.extBut _ _ (λ x=>by subst x; rw [zv] at ho; cases ho; simp at hc) ho,hc⟩
 cases qx:xs[i]? with
 | none=>
  refine wpAny_bind (wpAny_bind (wpAny_onRaise (show wpAny _ _ (Builtin.SmallTypes.nextOf (.ref p) >>= _) _ _ _ from wpAny_bind (G1.done hh fa qx λ hb e sb he=>?_))));have zb:IsZip hb z TI TO .ellipsis:=sb _ _ D.i1z.symm za;exact wpAny_setField_rec zb (by simp) λ hc _ sc=>hE hc e (λ c o c1 _ c3 _ x=>sc.extBut _ _ c1 (sb _ _ c3 (sa.extBut _ _ c1 x))) (stop hb hc e zb he sc)
 | some x=>
  have hy:ys[j]? = none:=by
   rcases hx with hx | hx
   ·rw [qx] at hx; cases hx
   ·exact hx
  refine wpAny_bind (wpAny_bind (wpAny_onRaise (show wpAny _ _ (Builtin.SmallTypes.nextOf (.ref p) >>= _) _ _ _ from wpAny_bind (G1.item fa qx λ hb fb sb=>wpAny_pure ?_))));have ob:IsPair hb TO a b:=sb.extBut _ _ D.TOi1 (sa.extBut _ _ D.TOz hO);refine wpAny_bind (wpAny_seqItems ob rfl (wpAny_bind (wpAny_updateSeq_pair ob λ hc oc sc=>wpAny_bind (wpAny_letGo (wpAny_pure ?_)))));have gc:g j hc:=G2.frame h2 λ b hb o e=>sc.extBut b o (QW hb D.TOi2.symm D.l2TO) (sb.extBut b o (QW hb D.i12.symm D.l2i1) (sa.extBut b o (QW hb D.i2z D.l2z) e));refine wpAny_bind (wpAny_bind (wpAny_onRaise (show wpAny _ _ (Builtin.SmallTypes.nextOf (.ref q) >>= _) _ _ _ from wpAny_bind (G2.done hh gc hy λ hd e sd he=>?_))));have zd:IsZip hd z TI TO .ellipsis:=sd _ _ D.i2z.symm (sc.extBut _ _ D.TOz.symm (sb.extBut _ _ D.i1z.symm za));exact wpAny_setField_rec zd (by simp) λ hk _ sk=>hE hk e (λ c o c1 c2 c3 c4 x=>sk.extBut _ _ c1 (sd _ _ c4 (sc.extBut _ _ c2 (sb.extBut _ _ c3 (sa.extBut _ _ c1 x))))) (stop hd hk e zd he sk)
theorem V1 {x y a b:Value} {Q:Option Value->Shared->Prop} (D:ZipApart z TI TO p q l m) (G1:Gives p l xs f) (G2:Gives q m ys g) (hz:IsZip s.heap z TI TO .none) (hI:IsPair s.heap TI (.ref p) (.ref q)) (hO:IsPair s.heap TO a b)
  (h1:f i s.heap) (h2:g j s.heap) (hx:xs[i]? = some x) (hy:ys[j]? = some y)
  (hQ:∀ h',IsZip h' z TI TO (rawInt s.heap.objs.size)->IsPair h' TO x y->f (i + 1) h'->g (j + 1) h'->IsPair h' s.heap.objs.size x y->h'.objs.size = s.heap.objs.size + 1->Zb8 z TO p q s.heap h'->Q (some (.ref s.heap.objs.size)) { s with heap:=h' }) :
  wpAny (model prog w) A (pyNext (.ref z)) Q E s:=by
 have ty:s.TypeIs (.ref z) "zip" := ⟨_,hz,rfl⟩
 unfold pyNext;refine wpAny_bind (wpAny_attempt (wpAny_callSpecial?_slot (name:=Str.ofString "__next__") ty F.slot_zip_next (wpAny_call_entry F.slot_zip_next ty F.entry_zip_next ?_ (F.args_zip_next_1 _))));exact Ed D G1 G2 hz hI hO h1 h2 hx hy λ h' a1 a2 a3 a4 a5 a6 a7=>wpAny_pure (hQ h' a1 a2 a3 a4 a5 a6 a7)
theorem Yc {a b:Value} {Q:Option Value->Shared->Prop} (hh:A.handled = none) (D:ZipApart z TI TO p q l m) (G1:Gives p l xs f) (G2:Gives q m ys g) (hz:IsZip s.heap z TI TO .none) (hI:IsPair s.heap TI (.ref p) (.ref q)) (hO:IsPair s.heap TO a b)
  (h1:f i s.heap) (h2:g j s.heap) (hx:xs[i]? = none \/ ys[j]? = none) (hQ:∀ h',Zb8 z TO p q s.heap h'->Q none { s with heap:=h' }):wpAny (model prog w) A (pyNext (.ref z)) Q E s:=by
 have ty:s.TypeIs (.ref z) "zip" := ⟨_,hz,rfl⟩
 unfold pyNext;refine wpAny_bind (wpAny_attempt (wpAny_callSpecial?_slot (name:=Str.ofString "__next__") ty F.slot_zip_next (wpAny_call_entry F.slot_zip_next ty F.entry_zip_next ?_ (F.args_zip_next_1 _))));refine MP hh D G1 G2 hz hI hO h1 h2 hx λ h' e k ⟨o,ho,hc⟩=>?_;exact wpAny_bind (wpAny_isInstance (T := "StopIteration") (b:=true) ⟨o,ho,hc⟩ isSubtype_stop (wpAny_pure (hQ _ k)))
end
noncomputable abbrev zt1 (h:Heap) (l:Addr):Heap:=h.push { cls:=.type "tuple_iterator",data:=.fields #[.ref l,.int 0 0] }
noncomputable abbrev zt2 (h:Heap) (l m:Addr):Heap:=(zt1 h l).push { cls:=.type "list_iterator",data:=.fields #[.ref m,.int 0 0] }
noncomputable abbrev zt3 (h:Heap) (l m:Addr):Heap:=(zt2 h l m).push { cls:=.type "tuple",data:=.seq #[.ref h.objs.size,.ref (zt1 h l).objs.size] }
noncomputable abbrev zt4 (h:Heap) (l m:Addr):Heap:=(zt3 h l m).push { cls:=.type "tuple",data:=.seq #[.none,.none] }
noncomputable abbrev zt5 (h:Heap) (l m:Addr):Heap:=(zt4 h l m).push { cls:=.type "zip",data:=.fields #[.none,.bool false,.bool false,.ref (zt2 h l m).objs.size,.ref (zt3 h l m).objs.size] }
theorem G9 (l m:Addr) (xs ys:Array Value):Meets (Builtin.«zip.__new__» ⟨[.type "zip",.ref l,.ref m],[]⟩) (λ _ R s=>s.heap.IsTuple l xs /\ s.heap.IsList m ys /\ R (.ok (.ret (.ref (zt4 s.heap l m).objs.size))) { s with heap:=zt5 s.heap l m }):=
 .of_wp λ prog w A R s h=>by
  obtain ⟨hp,g,d,tk,os⟩:=s;obtain ⟨hl,hm,h⟩:=h;have hsub:=sub_zip;have tl:Heap.IsTuple (Shared.heap ⟨hp,g,d,tk,os⟩) l xs:=hl;have tm:Heap.IsList (Shared.heap ⟨hp.push { cls:=.type "tuple_iterator",data:=.fields #[.ref l,.int 0 0] },g,d,tk,os⟩) m ys:=Heap.IsList.push hm _
  wp_walk using wpAny_pyIter_tuple tl,wpAny_pyIter_list tm
  exact ⟨_,rfl,h⟩
section
variable {prog:Program} {E:Value->Shared->Prop}
theorem Cu {m:Addr} {xs ys:Array Value} {Q:Value->Shared->Prop} (hl:s.heap.IsTuple l xs) (hm:s.heap.IsList m ys)
  (h:∀ (h':Heap) (n:Nat),n = s.heap.objs.size->IsZip h' (n + 4) (n + 2) (n + 3) .none->IsPair h' (n + 2) (.ref n) (.ref (n + 1))->IsPair h' (n + 3) .none .none->h'.IsTupleIter n l 0->h'.IsListIter (n + 1) m 0 ->
   (∀ c o,s.heap.get? c = some o->h'.get? c = some o)->Q (.ref (n + 4)) { s with heap:=h' }):wpAny (model prog w) A (call (.type "zip") [.ref l,.ref m]) Q E s:=by
 refine callType_new F.called_zip (by decide) (F.typeCall_zip_2 _ _) (F.newCall_zip_2 _ _) (λ obj=>F.args_object_init_3 obj _ _) F.entry_zip_new (G9 l m xs ys) ⟨hl,hm,?_⟩;have a1:(zt1 s.heap l).objs.size = s.heap.objs.size + 1:=Heap.size_push ..;have a2:(zt2 s.heap l m).objs.size = s.heap.objs.size + 2:=by rw [Heap.size_push,a1]
 have a3:(zt3 s.heap l m).objs.size = s.heap.objs.size + 3:=by rw [Heap.size_push,a2]
 have a4:(zt4 s.heap l m).objs.size = s.heap.objs.size + 4:=by rw [Heap.size_push,a3]
 have up:∀ c o,(zt2 s.heap l m).get? c = some o->(zt5 s.heap l m).get? c = some o:=λ c o e=>Heap.get?_push_of_some _ (Heap.get?_push_of_some _ (Heap.get?_push_of_some _ e));have b5:(zt5 s.heap l m).get? (zt4 s.heap l m).objs.size = some _:=Heap.get?_push_size _ rfl;have b4:(zt5 s.heap l m).get? (zt3 s.heap l m).objs.size = some _:=Heap.get?_push_of_some _ (Heap.get?_push_size _ rfl);have b3:(zt5 s.heap l m).get? (zt2 s.heap l m).objs.size = some _:=Heap.get?_push_of_some _ (Heap.get?_push_of_some _ (Heap.get?_push_size _ rfl));have b2:(zt5 s.heap l m).get? (zt1 s.heap l).objs.size = some _:=up _ _ (Heap.get?_push_size _ rfl);have b1:(zt5 s.heap l m).get? s.heap.objs.size = some _:=up _ _ (Heap.get?_push_of_some _ (Heap.get?_push_size _ rfl));show _ /\ _;rw [a2,a3,a4] at b5;rw [a1,a2] at b3;rw [a3] at b4;rw [a1] at b2;rw [a4];exact ⟨⟨_,b5,rfl⟩,h _ _ rfl b5 b3 b4 ⟨_,b1,rfl,rfl⟩ ⟨_,b2,rfl,rfl⟩ λ c o x=>up c o (Heap.get?_push_of_some _ (Heap.get?_push_of_some _ x))⟩
end
noncomputable def Zf6 (K:Fk) (a b:Addr):It:=
  ⟨λ i H=>∃ xs ys x y,SqT K H a xs /\ xs[i]? = some x /\ SqL K H b ys /\ ys[i]? = some y,
   λ i H v H'=>∃ T x y,(∀ xs,SqT K H a xs->xs[i]? = some x) /\ (∀ ys,SqL K H b ys->ys[i]? = some y) /\ H T = none /\ v = .ref T /\ H' = upd H T (.tup [x,y]),
   λ i H=>∃ xs ys,SqT K H a xs /\ SqL K H b ys /\ (xs.length <= i \/ ys.length <= i)⟩
def ZgM (a b:Addr) (n:Nat) (i:Nat) (h:Heap):Prop:=
 IsZip h (n + 4) (n + 2) (n + 3) .none /\ IsPair h (n + 2) (.ref n) (.ref (n + 1)) /\ (∃ u v,IsPair h (n + 3) u v) /\ h.IsTupleIter n a i /\ h.IsListIter (n + 1) b i
theorem Gn {a b:Nat} (ha:a < n) (hb:b < n):ZipApart (n + 4) (n + 2) (n + 3) n (n + 1) a b:=by
 constructor <;> (intro e; change (_:Nat) = _ at e; lia)
theorem E8 {elts:List Expr} {x1:Nat} {b:Addr} (ha:a < n) (hb:b < n):Turn P w K (.Tuple elts x1 pos) (Zf6 K a b) [n + 4,n + 2,n + 3,n,n + 1] (n + 4) (ZgM a b n) where
 mem:=by simp
 obj:=λ i h st c hc=>by
  obtain ⟨hz,h2,⟨u,v,h3⟩,⟨o0,h0,_,d0⟩,⟨o1,h1,_,d1⟩⟩:=st;simp only [List.mem_cons,List.not_mem_nil,or_false] at hc
  rcases hc with rfl | rfl | rfl | rfl | rfl
  ·exact ⟨_,hz,λ v z=>nomatch z⟩
  ·exact ⟨_,h2,λ v z=>nomatch z⟩
  ·exact ⟨_,h3,λ v z=>nomatch z⟩
  ·exact ⟨_,h0,λ v z=>by rw [d0] at z; cases z⟩
  ·exact ⟨_,h1,λ v z=>by rw [d1] at z; cases z⟩
 keep:=λ i h h' st k=>by
  obtain ⟨hz,h2,⟨u,v,h3⟩,⟨o0,h0,r0⟩,h1⟩:=st;exact ⟨k _ (by simp) _ hz,k _ (by simp) _ h2,⟨u,v,k _ (by simp) _ h3⟩,⟨o0,k _ (by simp) _ h0,r0⟩,h1.at λ o e=>k _ (by simp) o e⟩
 item:=by
  intro X hP hw hK hc i pins s Z H E I hf st hg;subst hP hw hK;obtain ⟨xs,ys,x,y,hq,hx,hr,hy⟩:=hg;obtain ⟨its,rv,p,hz⟩:=I.tuple hq;obtain ⟨jts,rw',p',hz'⟩:=I.list hr;obtain ⟨u,hu,ru⟩:=rv.get hx;obtain ⟨v,hv,rv2⟩:=rw'.get hy;have hA:s.heap.IsTuple a its.toArray:=p;have hB:s.heap.IsList b jts.toArray:=p'.isList;obtain ⟨tz,t2,⟨c,d,t3⟩,t0,t1⟩:=st;have D:=Gn ha hb;refine V1 D (WD D.l1i1 its.toArray) (Xs D.l2i2 jts.toArray) tz t2 t3 ⟨t0,hA⟩ ⟨t1,hB⟩ (x:=u) (y:=v) (by simpa using hu) (by simpa using hv) λ h' z1 z2 z3 z4 z5 z6 z7=>⟨_,rfl,?_⟩;refine wpAny_letOwnedTupleGo_zip z1 λ h2 hz2 hs2=>?_;have zl:n + 4 < s.heap.objs.size:=Heap.lt_size tz;have hTn:H s.heap.objs.size = none:=I.hok.fresh (Nat.le_refl _);have g2:h2.get? s.heap.objs.size = some { cls:=.type "tuple",data:=.seq #[u,v] }:=(hs2.2 _ (Nat.ne_of_gt zl)).trans z5;have IA:L2.Inv X pins Z (upd H s.heap.objs.size (.tup [x,y])) { s with heap:=s.heap.push { cls:=.type "tuple",data:=.seq #[u,v] },toks:=s.toks }:=
   I.laid (t':=s.toks) (o:=.tup [x,y]) (λ b ob q=>Heap.get?_push_of_some _ q) (Nat.le_refl _) ⟨by rw [sizeLine_eq]; exact (by decide:2 <= 16777216),[u,v],.cons ru (.cons rv2 .nil),IsTup.new _ _⟩
  have fN:∀ c ∈ [n + 4,n + 2,n + 3,n,n + 1],BE X pins (upd H s.heap.objs.size (.tup [x,y])) c:=λ c hc=>by
   have f:=hf c hc;refine ⟨?_,f.2⟩;have hlt:c < s.heap.objs.size:=by
    simp only [List.mem_cons,List.not_mem_nil,or_false] at hc
    rcases hc with rfl | rfl | rfl | rfl | rfl <;> lia
   rw [ZH (Nat.ne_of_lt hlt)];exact f.1
  have I2:L2.Inv X pins Z (upd H s.heap.objs.size (.tup [x,y])) { s with heap:=h2,toks:=s.toks }:=Gq (s:={ s with heap:=s.heap.push { cls:=.type "tuple",data:=.seq #[u,v] },toks:=s.toks }) (t':=s.toks) (ch:=[n + 4,n + 2,n + 3,n,n + 1]) IA (λ c o hc q=>by
   have q':(s.heap.push { cls:=.type "tuple",data:=.seq #[u,v] }).get? c = some o:=q;have n4:c ≠ n + 4:=λ z=>hc (by simp [z])
   by_cases hT:c = s.heap.objs.size
   ·rw [hT,Heap.get?_push_size _ rfl] at q';rw [hT,g2];exact q'
   ·have q2:s.heap.get? c = some o:=by
     rw [<- q'];exact (Heap.get?_push_ne _ _ _ hT).symm
    exact (hs2.2 c n4).trans (z7 c o n4 (λ z=>hc (by simp [z])) (λ z=>hc (by simp [z])) (λ z=>hc (by simp [z])) q2)) fN
  refine ⟨.ref s.heap.objs.size,_,I2,rfl,⟨_,x,y,λ zs hy=>by rw [I.Wl hy hq]; exact hx,λ zs hx=>by rw [I.U4 hx hr]; exact hy,hTn,rfl,rfl⟩,?_,λ b hb=>(fN b hb).1⟩;have e2:h'.get? (n + 2) = _:=z7 (n + 2) _ (zn (by decide)) (zn (by decide)) (zn0 (by decide)) (zn (by decide)) t2;obtain ⟨o0,y0,r0⟩:=z3.1;exact ⟨hz2,(hs2.2 _ (zn (by decide))).trans e2,⟨u,v,(hs2.2 _ (zn (by decide))).trans z2⟩,⟨o0,(hs2.2 _ (zn0 (by decide)).symm).trans y0,r0⟩,z4.1.at λ o e=>(hs2.2 _ (zn (by decide))).trans e⟩
 done:=by
  intro X hP hw hK hc i pins s Z H E I hf st hg;subst hP hw hK;obtain ⟨xs,ys,hq,hr,hl⟩:=hg;obtain ⟨its,rv,p,hz⟩:=I.tuple hq;obtain ⟨jts,rw',p',hz'⟩:=I.list hr;have hA:s.heap.IsTuple a its.toArray:=p;have hB:s.heap.IsList b jts.toArray:=p'.isList;obtain ⟨tz,t2,⟨c,d,t3⟩,t0,t1⟩:=st;have D:=Gn ha hb;have l1:=rv.length;have l2:=rw'.length;refine Yc (show X.A.handled = none from I.ok.hd hc) D (WD D.l1i1 its.toArray) (Xs D.l2i2 jts.toArray) tz t2 t3 ⟨t0,hA⟩ ⟨t1,hB⟩ (hl.imp (λ h=>by simp; lia) λ h=>by simp; lia) λ h' hk=>?_;exact ⟨rfl,Gq (t':=s.toks) (ch:=[n + 4,n + 2,n + 3,n,n + 1]) I (λ c o hb q=>hk c o (λ z=>hb (by simp [z])) (λ z=>hb (by simp [z])) (λ z=>hb (by simp [z])) (λ z=>hb (by simp [z])) q) λ b hb=>hf b hb⟩
 self:=λ _ _ _ _ _ st h=>wpAny_pyIter_zip st.1 h
def ZdQ (K:Fk) (ta:TA):TI:=λ Z H R=>ta Z H λ vs H1=>∃ a b,vs = [.ref a,.ref b] /\ (∃ xs,SqT K H1 a xs) /\ (∃ ys,SqL K H1 b ys) /\ R (Zf6 K a b) H1
theorem SR {a b:Expr} {elts:List Expr} {x1:Nat} {tp:Pos} {ta:TA} {p:Pos} (hg:Gl X "zip") (hm:X.mg "zip" = none) (ha:PA X [a,b] ta) (hs:autoParam (starEach [a,b] X.env = [(false,eval a X.env),(false,eval b X.env)]) zz3._auto_1) (hs2:autoParam (starEach [b] X.env = [(false,eval b X.env)]) zz3._auto_1):PI X (.Tuple elts x1 tp) (.Call (.Name "zip" p) [a,b] [] pos) (ZdQ X.K ta):=by
 intro pins s Z H R I h;refine Call_ (JU I hg hm boot_zip (PyProof.Rows.callWith_type1 (thn (ha pos pins s Z H _ I h) λ us s1 ⟨vs,H1,I1,r1,q1⟩=>?_) (by rw [hs,hs2]) (by rw [hs2]; rfl)));obtain ⟨l,m,e,⟨xs,hq⟩,⟨ys,hr⟩,q⟩:=q1;subst e;cases r1 with
 | cons r rr=>
  cases rr with
  | cons r' rr=>
   cases rr;cases r;cases r';obtain ⟨its,rv,pt,hz⟩:=I1.tuple hq;obtain ⟨jts,rw',pt',hz'⟩:=I1.list hr;have hA:s1.heap.IsTuple l its.toArray:=pt;refine Cu hA pt'.isList λ h' n en z1 z2 z3 z4 z5 hk=>?_;have I2:L2.Inv X pins Z H1 { s1 with heap:=h' }:=I1.kept (t':=s1.toks) hk;refine wpAny_pyIter_zip z1 ?_;refine ⟨n + 4,[n + 4,n + 2,n + 3,n,n + 1],_,_,H1,rfl,I2,E8 (a:=l) (b:=m) (n:=n) ?_ ?_,⟨z1,z2,⟨_,_,z3⟩,z4,z5⟩,λ c hc=>?_,q⟩
   ·obtain ⟨o,ho,_⟩:=hA;rw [en];exact Heap.lt_size ho
   ·obtain ⟨o,ho,_⟩:=pt'.isList;rw [en];exact Heap.lt_size ho
   ·have hle:s1.heap.objs.size <= c:=by
     simp only [List.mem_cons,List.not_mem_nil,or_false] at hc
     rcases hc with rfl | rfl | rfl | rfl | rfl <;> lia
    exact I1.S9 hle (I1.hok.fresh hle)
def Zbx (ta:DTA):V7:=λ U M Ψ=>ta U M λ xs M1=>on2 xs λ x y=>onT x λ as=>onL y λ bs=>Ψ (Nu as bs) M1
theorem RH:type_of% @Zbx.eq_1:=λ _ _ _ _=>qI
theorem Pu {a b:Expr} {elts:List Expr} {x1:Nat} {tp:Pos} {p p2:Pos} (hg0:Gl X "zip") (hm:X.mg "zip" = none) (ha:DA X [a,b] ta) (hs:autoParam (starEach [a,b] X.env = [(false,eval a X.env),(false,eval b X.env)]) zz3._auto_1) (hs2:autoParam (starEach [b] X.env = [(false,eval b X.env)]) zz3._auto_1) :
  DI X (.Tuple elts x1 tp) (.Call (.Name "zip" p) [a,b] [] p2) (Zbx ta):=by
 obtain ⟨t1,p1,q1⟩:=ha;refine ⟨_,SR hg0 hm p1 hs hs2,λ Z H U M Ψ R dr er h k=>?_⟩;refine q1 Z H U M _ _ dr er h λ vs H1 xs M1 r1 st rv hx=>?_;replace hx:=Zv hx;obtain ⟨x,y,rfl,hx⟩:=hx;replace hx:=Xv hx;obtain ⟨as,rfl,hx⟩:=hx;replace hx:=Kr hx;obtain ⟨bs,rfl,hΨ⟩:=hx;obtain ⟨v,u,rfl,hv,hu⟩:=Paired.two rv;obtain ⟨a,ys,rfl,h1,h2⟩:=hv.tup;obtain ⟨b,zs,rfl,h3,h4⟩:=hu.lst;have el:(Nu as bs).length = min as.length bs.length:=by unfold Nu; rw [List.length_zipWith]
 refine ⟨a,b,rfl,⟨ys,h1.sq⟩,⟨zs,h3.sq⟩,k _ H1 M1 _ r1 st (λ M2 H2 st2 i=>⟨λ hi=>?_,λ hi=>?_⟩) hΨ⟩
 ·rw [el] at hi;have hx:i < ys.length:=by rw [h2.length]; lia
  have hy:i < zs.length:=by rw [h4.length]; lia
  refine ⟨⟨ys,zs,ys[i],zs[i],(h1.step st2).sq,by simp [hx],(h3.step st2).sq,by simp [hy]⟩,λ y H' z=>?_⟩;obtain ⟨T,u,v,hu,hv,hT,rfl,rfl⟩:=z;intro r;obtain ⟨d,hd,hy⟩:=(h2.step st2).O2 (hu ys (h1.step st2).sq);obtain ⟨d',hd',hy'⟩:=(h4.step st2).O2 (hv zs (h3.step st2).sq);exact ⟨r.new hT,Step.new hT,_,MQ hd hd',Dt.Wq r hT (.cons hy (.cons hy' .nil))⟩
 ·rw [el] at hi;exact ⟨ys,zs,(h1.step st2).sq,(h3.step st2).sq,by rw [h2.length,h4.length]; lia⟩
section
variable {g:DTG} {tb:DTS} {body:List Stmt}
def Zaj (src:V7) (g:DTG) (tb:DTS):DTS:=λ D U M=>src U M λ ds M1=>WW g tb D ds U M1
theorem SM:type_of% @Zaj.eq_1:=λ _ _ _ _ _ _=>qI
theorem OG {src:V7} (hi:DI X tg iter src) (hg:DG X tg g) (hb:DSs X body tb) (hp:PassesOwn (model X.prog X.w) X.A X.env X.xe) (hc:X.calm = true) (hs:autoParam (∀ x,foldedSetIterable iter X.env x = pure x) zz2._auto_1) :
  DS X (.For tg iter body [] pos) (Zaj src g tb):=by
 obtain ⟨wi,p1,q1⟩:=hi;obtain ⟨t2,p2,q2⟩:=hg;obtain ⟨t3,p3,q3⟩:=hb;refine ⟨_,Ws hp hc p1 p2 p3 hs,λ Z H U M D E r e h k=>?_⟩;refine q1 Z H U M _ _ r e h λ J H1 M1 ds r1 st yl hx=>?_;obtain ⟨I,j0,jt,jd⟩:=hx;refine ⟨λ i m Z H=>(∃ U M,ZE X.K M H /\ Step M1 H1 M H /\ Qy X.K M H Z U /\ I i U M) /\ i + m = ds.length,⟨ds.length,⟨U,M1,r1,Step.refl,e.step st,j0⟩,Nat.zero_add _⟩,λ i m Z H hW=>?_⟩;obtain ⟨⟨U,M,r',st',e',j⟩,hm⟩:=hW
 by_cases hi:i < ds.length
 ·obtain ⟨go,yd⟩:=(yl M H st' i).1 hi;refine .inr ⟨go,λ σ' H'=>∃ Δ' M',ZE X.K M' H' /\ Step M1 H1 M' H' /\ Qy X.K M' H' σ' Δ' /\ I (i + 1) Δ' M',λ σ' H' h=>⟨m - 1,by lia,h,by lia⟩,λ x H' hy=>?_⟩;obtain ⟨r2,st2,d,hd,hv⟩:=yd x H' hy r';refine q2 x Z H' (.dat d) U M _ _ r2 (e'.step st2) hv (jt i d U M hd j) λ σ3 H3 Δ3 M3 r3 st3 e3 hb3=>?_;refine q3 σ3 H3 Δ3 M3 _ _ r3 e3 hb3 ?_;have s12:Step M1 H1 M3 H3:=(st'.trans st2).trans st3
  exact ⟨λ σ' H' Δ' M' a b c d=>⟨Δ',M',a,s12.trans b,c,d⟩,k.rt.step (st.trans s12),λ σ' H' Δ' M' a b c d=>k.nx σ' H' Δ' M' a ((st.trans s12).trans b) c d,
   λ σ' H' Δ' M' a b c d=>⟨Δ',M',a,s12.trans b,c,d⟩⟩
 ·have ei:i = ds.length:=by lia
  refine .inl ⟨(yl M H st' i).2 (by lia),?_⟩;rw [ei] at j;exact k.nx Z H U M r' (st.trans st') e' (jd U M j)
end
end DL
namespace DL
structure Zes (X:Cx) (scope:Scope) (k:Str) (N:List Str) (ix:List (Option Nat)):Prop where
 kind:scope.kind = .function
 cf:∀ n cl,cellsFrom n scope.names cl = (k,n) :: cl
 pc:∀ h,pushCells h scope.names = h.push { cls:=.type "cell",data:=.cell none }
 cellK:∀ y ∈ scope.names,y.2 = .cell->y.1 = k
 nk:∀ y ∈ scope.names,y.2 = .free->y.1 ≠ k
 names:∀ y ∈ scope.names,y.2 = .local->scope.names.lookup y.1 = some .local
 free:∀ y ∈ scope.names,y.2 = .free->X.env.kindOf y.1 = some .cell
 len:N.length = ix.length
 cap:∀ (j:Nat) (x:Str) (i:Nat),N[j]? = some x->ix[j]? = some (some i)->X.N[i]? = some x /\ (x,NameKind.free) ∈ scope.names /\ (relabel scope X.env).names.lookup x = some .cell
section
variable {Z:L2.St} {H2:Hp} {s2:Shared} {k:Str} {C:Addr} {fp:List Addr}
end
end DL
namespace DL
open PySem.W
theorem VR0.rel {x:DV} (h:VR0 K M H v x):Z3 K M H v x:=by
 cases x with
 | dat d=>exact h
 | own b=>exact h
 | ty n=>exact h.elim
 | mix xs=>exact h
theorem Z3.zero {x:DV} (h:Z3 K M H v x) (n:∀ t,x ≠ .ty t):VR0 K M H v x:=by
 cases x with
 | dat d=>exact h
 | own b=>exact h
 | ty t=>exact absurd rfl (n t)
 | mix xs=>exact h
section
variable {o i value:Expr} {td ti tv:DTE}
def OK (x:DV) (P:Prop):Prop:=match x with | .ty _=>False | _=>P
theorem Ln (d:PyData) (P:Prop):OK (.dat d) P = P:=qI
theorem MF (a:Addr) (P:Prop):OK (.own a) P = P:=qI
theorem OQ {x:DV} {P:Prop} (h:OK x P):(∀ t,x ≠ .ty t) /\ P:=by
 cases x with
 | dat d=>exact ⟨λ t e=>(by cases e),h⟩
 | own a=>exact ⟨λ t e=>(by cases e),h⟩
 | ty t=>exact h.elim
 | mix xs=>exact ⟨λ t e=>(by cases e),h⟩
end
section
open PySem.SeqAt
open PySem.AutoSeq1 (wpAny_loadPart')
open PySem.MeetsSeq PySem.MeetsSeq2 PySem.MeetsSeq3
variable {prog:Program} {E:Value->Shared->Prop}
end
theorem Step.all:Step M H (λ _=>none) H:=⟨λ _ _ _ h=>h,λ _ _ _ _=>rfl⟩
end DL
namespace DL
end DL
namespace DL
open PySem.W
section
variable {l:Expr} {tl:TE}
end
theorem TK (k:Key):Dt K M H (kV k) (kD k):=by
 cases k with
 | inl i=>exact Dt.int i
 | inr x=>exact Dt.str x
section
variable {g:DTG} {tb:DTS} {body:List Stmt}
end
section
variable {o i:Expr} {td ti:DTE}
end
end DL
namespace DL
open PySem.W Builtin Builtin.Str
section
variable {a b:Expr} {rest:List Expr} {ta tb:DTE}
end
def Gu (to:DTE):DTE:=λ U M Φ=>to U M λ x M1=>onO x λ l=>Vr (M1 l) λ ds=>Φ (.dat .none) (ZD M1 l (.lst ds.reverse))
theorem BQ:type_of% @Gu.eq_1:=λ _ _ _ _=>qI
theorem Dts.rev:∀ {vs:List V} {ds:List PyData},Dts K M H vs ds->Dts K M H vs.reverse ds.reverse
 | _,_,.nil=>.nil
 | _,_,.cons h1 h2=>by
  rw [List.reverse_cons,List.reverse_cons];exact (Dts.rev h2).append (.cons h1 .nil)
theorem BG {o:Expr} {to:DTE} {apos cpos:Pos} (ho:DE X o to) (hbase:autoParam (attributeBase o "reverse" X.env (eval o X.env) = eval o X.env) zz3._auto_1) (hline:autoParam ((apos.endLine == cpos.line) = true) zz3._auto_1) :
  DE X (.Call (.Attribute o "reverse" apos) [] [] cpos) (Gu to):=by
 obtain ⟨t1,p1,q1⟩:=ho;refine ⟨_,MT PySem.F.plainAttrs_list PySem.F.slot_list_reverse PySem.F.type_list_reverse Br p1 hbase hline,λ Z H U M Φ Q r e h k=>?_⟩;refine q1 Z H U M _ _ r e h λ v H1 x M1 r1 st rv hx=>?_;replace hx:=Z9 hx;obtain ⟨l,rfl,hx⟩:=hx;replace hx:=QK hx;obtain ⟨ds,hm,hx⟩:=hx;cases (show v = .ref l from rv);obtain ⟨vs,g1,g2⟩:=r1.ls l _ hm;refine ⟨.inl ⟨rfl,_,SqL.of g1⟩,l,_,rfl,rfl,g1,?_⟩;have st2:Step M1 H1 (ZD M1 l (.lst ds.reverse)) (upd H1 l (.lst vs.reverse)):=Step.Yd hm;exact k.dat (r1.Vb st2 g2.rev) (st.trans st2) Dt.non hx
end DL
namespace DL
open PySem.W
theorem Paired.atI {α β:Type} {F:α->β->Prop} {l:List α} {m:List β} {i:Int} {b:β} (h:Paired F l m) (e:L2.atI m i = some b):∃ a,L2.atI l i = some a /\ F a b:=by
 unfold L2.atI at e ⊢;rw [Paired.length h];cases q:ixN m.length i with
 | none=>rw [q] at e; cases e
 | some j=>
  rw [q] at e;exact Paired.ZdP h e
theorem Paired.app {α β:Type} {F:α->β->Prop}:∀ {l l':List α} {m m':List β},Paired F l m->Paired F l' m'->Paired F (l ++ l') (m ++ m')
 | _,_,_,_,.nil,h=>h
 | _,_,_,_,.cons h1 h2,h=>.cons h1 (Paired.app h2 h)
theorem Paired.rev {α β:Type} {F:α->β->Prop}:∀ {l:List α} {m:List β},Paired F l m->Paired F l.reverse m.reverse
 | _,_,.nil=>.nil
 | _,_,.cons h1 h2=>by
  rw [List.reverse_cons,List.reverse_cons];exact Paired.app (Paired.rev h2) (.cons h1 .nil)
theorem ZE.lv (r:ZE K M H) {xs:List DV} (h:M a = some (.lsv n xs)):∃ vs,H a = some (.lst vs) /\ Paired (VR0 K M H) vs xs:=r.ok a _ h
theorem ZE.ZdM (r:ZE K M H) {xs:List DV} (st:Step M H (ZD M p (.lsv n xs)) (upd H p (.lst vs))) (h:Paired (VR0 K M H) vs xs):ZE K (ZD M p (.lsv n xs)) (upd H p (.lst vs)):=
 r.U1 st ⟨vs,Z4,Paired.NY h λ _ _ z=>z.step st⟩
theorem Mxs.of:∀ {vs:List V} {xs:List DV},Paired (VR0 K M H) vs xs->Mxs K M H vs xs
 | _,_,.nil=>.nil
 | _,.dat d :: _,.cons h1 h2=>.dat h1 (Mxs.of h2)
 | _,.own b :: _,.cons h1 h2=>by
  cases (show _ = V.ref b from h1);exact .own (Mxs.of h2)
 | _,.mix ys :: _,.cons h1 h2=>.mix h1 (Mxs.of h2)
 | _,.ty t :: _,.cons h1 h2=>h1.elim
theorem Mxs.vr:∀ {vs:List V} {xs:List DV},Mxs K M H vs xs->Paired (VR0 K M H) vs xs
 | _,_,.nil=>.nil
 | _,_,.dat h1 h2=>.cons h1 (Mxs.vr h2)
 | _,_,.own h2=>.cons rfl (Mxs.vr h2)
 | _,_,.mix h1 h2=>.cons h1 (Mxs.vr h2)
mutual
inductive AsD (M:Mp):DV->PyData->Prop
 | dat (d:PyData):AsD M (.dat d) d
 | lsv {a:Addr} {n:Nat} {xs:List DV} {ds:List PyData}:M a = some (.lsv n xs)->FU M xs ds->AsD M (.own a) (.list ds)
 | mix {xs:List DV} {ds:List PyData}:FU M xs ds->AsD M (.mix xs) (.tuple ds)
 | lst {a:Addr} {ds:List PyData}:M a = some (.lst ds)->AsD M (.own a) (.list ds)
 | dkv {a:Addr} {ps:List (Key × PyData)}:M a = some (.dkv ps)->AsD M (.own a) (.dict (ps.map λ q=>(kD q.1,q.2)))
inductive FU (M:Mp):List DV->List PyData->Prop
 | nil:FU M [] []
 | cons {x:DV} {xs:List DV} {d:PyData} {ds:List PyData}:AsD M x d->FU M xs ds->FU M (x :: xs) (d :: ds)
end
theorem Zai (r:ZE K M H) {ps:List (Key × PyData)} (hm:M a = some (.dkv ps)):Dt K (λ _=>none) H (.ref a) (.dict (ps.map λ q=>(kD q.1,q.2))):=by
 obtain ⟨kvs,g1,g2,g3⟩:=(show OOk K M H a (.dkv ps) from r.ok a _ hm)
 have e:(kvs.map λ kv=>kD kv.1) = ps.map λ q=>kD q.1:=by
  have:=congrArg (List.map kD) g2
  rwa [List.map_map,List.map_map] at this
 have z:=Dt.dK (K:=K) (M:=λ _=>none) (H:=H) (a:=a) rfl g1 (g3.step Step.all);rw [e,List.zip_map'] at z;exact z
mutual
theorem AsD.dt (r:ZE K M H):∀ {x:DV} {d:PyData},AsD M x d->∀ {v:V},VR0 K M H v x->Dt K (λ _=>none) H v d
 | _,_,.dat _,_,h=>Dt.step Step.all h
 | _,_,.lsv hm hs,_,h=>by
  cases (show _ = V.ref _ from h);exact .lst (.inl ⟨rfl,.inl (r.lv hm).choose_spec.1⟩) (FU.dt r hs (r.lv hm).choose_spec.2)
 | _,_,.mix hs,_,h=>by
  cases (show Mx K M H _ _ from h) with
  | mk h1 h2 h3=>exact .tup (.inl ⟨rfl,.inl h2⟩) (FU.dt r hs h3.vr)
 | _,_,.lst hm,_,h=>by
  cases (show _ = V.ref _ from h);exact .lst (.inl ⟨rfl,.inl (r.ls _ _ hm).choose_spec.1⟩) ((r.ls _ _ hm).choose_spec.2.step Step.all)
 | _,_,.dkv hm,_,h=>by
  cases (show _ = V.ref _ from h);exact Zai r hm
theorem FU.dt (r:ZE K M H):∀ {xs:List DV} {ds:List PyData},FU M xs ds->∀ {vs:List V},Paired (VR0 K M H) vs xs->Dts K (λ _=>none) H vs ds
 | _,_,.nil,_,h=>by cases h; exact .nil
 | _,_,.cons h1 h2,_,h=>by
  cases h with
  | cons a b=>exact .cons (AsD.dt r h1 a) (FU.dt r h2 b)
end
mutual
noncomputable def VC:PyData->Bool
 | .none=>true
 | .bool _=>true
 | .int _=>true
 | .str _=>true
 | .tuple ds=>K5 ds
 | _=>false
noncomputable def K5:List PyData->Bool
 | []=>true
 | d :: ds=>VC d && K5 ds
end
theorem Ew (r:ZE K M H) (h:Rd H a (.tup xs)):M a = none:=by
 cases q:M a with
 | none=>rfl
 | some o=>
  have g:=r.ok a o q;exfalso;have no:∀ u,H a = some u->(∀ ys,u ≠ .tup ys)->(∀ o ys,u ≠ .frz o (.tup ys))->False:=λ u e n1 n2=>by
   rcases h with h | ⟨o,h⟩
   ·rw [h] at e; cases e; exact n1 _ rfl
   ·rw [h] at e; cases e; exact n2 _ _ rfl
  cases o with
  | lst ds=>obtain ⟨vs,e,_⟩:=g; exact no _ e (λ _ z=>nomatch z) (λ _ _ z=>nomatch z)
  | dct ks=>obtain ⟨vs,e,_⟩:=g; exact no _ e (λ _ z=>nomatch z) (λ _ _ z=>nomatch z)
  | dtv ps=>obtain ⟨vs,e,_⟩:=g; exact no _ e (λ _ z=>nomatch z) (λ _ _ z=>nomatch z)
  | dkv ps=>obtain ⟨vs,e,_⟩:=g; exact no _ e (λ _ z=>nomatch z) (λ _ _ z=>nomatch z)
  | dko ps=>obtain ⟨vs,e,_⟩:=g; exact no _ e (λ _ z=>nomatch z) (λ _ _ z=>nomatch z)
  | fdk o ps=>obtain ⟨vs,e,_⟩:=g; exact no _ e (λ _ z=>nomatch z) (λ _ _ z=>(by cases z))
  | lsv n xs=>obtain ⟨vs,e,_⟩:=g; exact no _ e (λ _ z=>nomatch z) (λ _ _ z=>nomatch z)
  | ext φ=>exact no _ g (λ _ z=>nomatch z) (λ _ _ z=>nomatch z)
  | gst N₀ H₀=>obtain ⟨⟨vs,e,_⟩,_⟩:=g; exact no _ e (λ _ z=>nomatch z) (λ _ _ z=>nomatch z)
  | fdc o ks=>obtain ⟨vs,e,_⟩:=g; exact no _ e (λ _ z=>nomatch z) (λ _ _ z=>(by cases z))
  | fdt o ps=>obtain ⟨vs,e,_⟩:=g; exact no _ e (λ _ z=>nomatch z) (λ _ _ z=>(by cases z))
theorem Lm (r:ZE K M H) (h:TupAt K M' H a xs):TupAt K M H a xs:=by
 rcases h with ⟨_,h⟩ | h
 ·exact .inl ⟨Ew r h,h⟩
 ·exact .inr h
mutual
theorem Dt.back (r:ZE K M H):∀ {v:V} {d:PyData},Dt K M' H v d->VC d = true->Dt K M H v d
 | _,_,.non,_=>.non
 | _,_,.bl b,_=>.bl b
 | _,_,.int i,_=>.int i
 | _,_,.str x,_=>.str x
 | _,_,.tup h1 h2,l=>.tup (Lm r h1) (Dts.back r h2 (by rw [VC] at l; exact l))
 | _,_,.lst _ _,l=>by simp [VC] at l
 | _,_,.dK _ _ _,l=>by simp [VC] at l
 | _,_,.dT _ _ _ _,l=>by simp [VC] at l
 | _,_,.dX _ _ _ _ _ _,l=>by simp [VC] at l
theorem Dts.back (r:ZE K M H):∀ {vs:List V} {ds:List PyData},Dts K M' H vs ds->K5 ds = true->Dts K M H vs ds
 | _,_,.nil,_=>.nil
 | _,_,.cons h1 h2,l=>.cons (Dt.back r h1 (by rw [K5,Bool.and_eq_true] at l; exact l.1)) (Dts.back r h2 (by rw [K5,Bool.and_eq_true] at l; exact l.2))
end
noncomputable def Qx:DSt->DSt
 | []=>[]
 | _ :: r=>none :: Qx r
noncomputable def Yp:Nat->DV->DSt->DSt
 | _,_,[]=>[]
 | 0,x,_ :: r=>some x :: Qx r
 | n + 1,x,_ :: r=>none :: Yp n x r
theorem WC:Qx [] = []:=by rw [Qx]
theorem X1 (y:Option DV) (r:DSt):Qx (y :: r) = none :: Qx r:=by rw [Qx]
theorem Xp:∀ (U:DSt),(Qx U).length = U.length
 | []=>rfl
 | _ :: r=>by rw [Qx,List.length_cons,List.length_cons,Xp r]
theorem Xx:∀ (U:DSt) (j:Nat) (y:DV),(Qx U)[j]? ≠ some (some y)
 | [],j,y,h=>by simp [Qx] at h
 | _ :: r,0,y,h=>by simp [Qx] at h
 | _ :: r,j + 1,y,h=>by rw [Qx,List.getElem?_cons_succ] at h; exact Xx r j y h
section
variable {o i:Expr} {to ti:DTE} {t:DTA}
def Zat (o:Option OO) (P:Nat->List DV->Prop):Prop:=match o with | some (.lsv n xs)=>P n xs | _=>False
theorem J8 (n:Nat) (xs:List DV) (P:Nat->List DV->Prop):Zat (some (.lsv n xs)) P = P n xs:=qI
theorem SJ {o:Option OO} {P:Nat->List DV->Prop} (h:Zat o P):∃ n xs,o = some (.lsv n xs) /\ P n xs:=by
 unfold Zat at h
 split at h
 ·exact ⟨_,_,rfl,h⟩
 ·exact h.elim
def ZgF (n:Nat) (te:DTE):DTE:=λ U M Φ=>onV U[n]? λ x=>∃ d,AsD M x d /\ te (Yp n (.dat d) U) (λ _=>none) λ y _=>onD y λ c=>VC c = true /\ Φ (.dat c) M
theorem Z3.ZeR {x:DV} (h:Z3 K M H v x) (a:AsD M x d):VR0 K M H v x:=h.zero λ t e=>by subst e; cases a
def ZfT (to ti:DTE):DTE:=λ U M Φ=>to U M λ x M1=>ti U M1 λ y M2=>onO x λ l=>onI y λ i=>Zat (M2 l) λ _ xs=>∃ z,L2.atI xs i = some z /\ Φ z M2
theorem ZbJ:type_of% @ZfT.eq_1:=λ _ _ _ _ _=>qI
theorem Xn (ho:DE X o to) (hi:DE X i ti) (hs:autoParam (XI i) zz7._auto_1):DE X (.Subscript o i pos') (ZfT to ti):=by
 obtain ⟨u,p,q⟩:=ho;obtain ⟨u2,p2,q2⟩:=hi;refine ⟨_,Rn Dl p p2 hs,λ Z H U M Φ Q r e h k=>?_⟩;refine q Z H U M _ _ r e h λ v H1 x M1 r1 st rv hx=>?_;refine q2 Z H1 U M1 _ _ r1 (e.step st) hx λ w H2 y M2 r2 st2 rw2 hy=>?_;replace hy:=Z9 hy;obtain ⟨l,rfl,hy⟩:=hy;replace hy:=ZA hy;obtain ⟨j,rfl,hy⟩:=hy;replace hy:=SJ hy;obtain ⟨n,xs,hm,z,hz,hΦ⟩:=hy;cases (show v = .ref l from rv);cases rw2.int;obtain ⟨vs,g1,g2⟩:=r2.lv hm;obtain ⟨v',e1,e2⟩:=Paired.atI g2 hz;exact .inl ⟨l,vs,j,v',rfl,rfl,SqL.of g1,e1,k _ _ z _ r2 (st.trans st2) e2.rel hΦ⟩
def FW:List DV->Prop->Prop
 | [],P=>P
 | x :: r,P=>OK x (FW r P)
theorem Bd (P:Prop):FW [] P = P:=qI
theorem WK (x:DV) (r:List DV) (P:Prop):FW (x :: r) P = OK x (FW r P):=qI
theorem Um {K:Fk} {M:Mp} {H:Hp}:∀ {xs:List DV} {P:Prop},FW xs P->(∀ {vs:List V},JP K M H vs xs->Paired (VR0 K M H) vs xs) /\ P
 | [],P,h=>⟨λ q=>by cases q; exact .nil,h⟩
 | x :: r,P,h=>by
  obtain ⟨n,h2⟩:=OQ (show OK x (FW r P) from h);obtain ⟨h3,h4⟩:=Um (K:=K) (M:=M) (H:=H) h2;refine ⟨λ q=>?_,h4⟩;cases q with
  | cons a b=>exact .cons (Z3.zero a n) (h3 b)
def Za1 (n:Nat) (t:DTA):DTE:=λ U M Φ=>t U M λ xs M1=>FW xs (Nat.ble xs.length 100 = true /\ ∀ p,M1 p = none->Φ (.own p) (ZD M1 p (.lsv n xs)))
theorem R0:type_of% @Za1.eq_1:=λ _ _ _ _ _=>qI
theorem Sl (n:Nat) (h:DA X es t):DE X (.List es pos) (Za1 n t):=by
 obtain ⟨u,p,q⟩:=h;refine ⟨_,Ck p,λ Z H U M Φ Q r e h k=>?_⟩;refine q Z H U M _ _ r e h λ vs H1 xs M1 r1 st rv hx=>?_;obtain ⟨hz,hl,hx⟩:=Um (K:=X.K) (M:=M1) (H:=H1) hx;have hlen:vs.length = xs.length:=Paired.length rv;have hl':=Nat.le_of_ble_eq_true hl;refine ⟨by rw [hlen,sizeLine_eq]; lia,λ a ha=>?_⟩;exact k _ _ (.own a) _ (r1.ZdM (Step.Ja ha) (hz rv)) (st.trans (Step.Ja ha)) rfl (hx a (r1.tracked ha))
end
section
variable {g:DTG} {tb:DTS} {body:List Stmt}
end
section
variable {o f:Expr} {td tf:DTE} {p apos cpos:Pos}
end
def Fz (te:DTE) (U:DSt) (M:Mp) (Φ:DK):List Nat->DSt->Prop
 | [],Δ0=>te Δ0 (λ _=>none) λ y _=>onD y λ c=>VC c = true /\ Φ (.dat c) M
 | n :: ns,Δ0=>onV U[n]? λ x=>∃ d,AsD M x d /\ Fz te U M Φ ns (Δ0.set n (some (.dat d)))
theorem Za5 (te:DTE) (U:DSt) (M:Mp) (Φ:DK) (Δ0:DSt):Fz te U M Φ [] Δ0 = (te Δ0 (λ _=>none) λ y _=>onD y λ c=>VC c = true /\ Φ (.dat c) M):=by rw [Fz]
theorem Za4 (te:DTE) (U:DSt) (M:Mp) (Φ:DK) (n:Nat) (ns:List Nat) (Δ0:DSt):Fz te U M Φ (n :: ns) Δ0 = (onV U[n]? λ x=>∃ d,AsD M x d /\ Fz te U M Φ ns (Δ0.set n (some (.dat d)))):=by rw [Fz]
def ZbH (ns:List Nat) (te:DTE):DTE:=λ U M Φ=>Fz te U M Φ ns (Qx U)
theorem Su (ns:List Nat) (te:DTE) (U:DSt) (M:Mp) (Φ:DK):ZbH ns te U M Φ = Fz te U M Φ ns (Qx U):=qI
theorem Qy.putD {Z:L2.St} (e:Qy K M H Z U) (hv:Z[n]? = some (some v)) (hd:Dt K M H v d):Qy K M H Z (U.set n (some (.dat d))):=⟨by rw [List.length_set]; exact e.len,λ j y z=>by
 by_cases q:n = j
 ·subst q
  by_cases hl:n < U.length
  ·rw [List.getElem?_set_self hl] at z;cases z;exact ⟨v,hv,hd⟩
  ·rw [List.getElem?_eq_none (by rw [List.length_set]; lia)] at z;cases z
 ·rw [List.getElem?_set_ne q] at z
  exact e.at' j y z⟩
theorem RB (ns:List Nat) (h:DE X e te):DE X e (ZbH ns te):=by
 obtain ⟨u,p,q⟩:=h;refine ⟨u,p,λ Z H U M Φ Q r er h k=>?_⟩;have r0:ZE X.K (λ _=>none) H:=⟨λ a o z=>nomatch z⟩
 have go:∀ (ns:List Nat) (Δ0:DSt),Qy X.K (λ _=>none) H Z Δ0->Fz te U M Φ ns Δ0->u Z H Q:=λ ns=>by
  induction ns with
  | nil=>
   intro Δ0 e0 h;rw [Fz] at h;refine q Z H _ _ _ _ r0 e0 h λ w H' y M' r' st' rw' hy=>?_;replace hy:=Qr hy;obtain ⟨c,rfl,lf,f⟩:=hy;have st:Step M H M H':=⟨λ b o _ z=>st'.keep b o rfl z,λ b o z _=>z⟩
   have r2:ZE X.K M H':=r.step_same st λ a u _ z=>st'.keep a u rfl z;exact k _ _ (.dat c) M r2 st (Dt.back r2 rw' lf) f
  | cons n ns ih=>
   intro Δ0 e0 h;rw [Fz] at h;replace h:=OF h;obtain ⟨x,ex,d,hd,h⟩:=h;obtain ⟨v,ev,rv⟩:=er.at' n x ex;exact ih _ (e0.putD ev (AsD.dt r hd (rv.ZeR hd))) h
 exact go ns _ ⟨by rw [Xp]; exact er.len,λ j y z=>absurd z (Xx U j y)⟩ h
section
variable {prog:Program} {E:Value->Shared->Prop} {κ:SortKind} {f:Nat->Keyed} {lt:Nat->Nat->Bool} {st:SortSt}
def Ans (prog:Program) (w:World) (A:Around) (s:Shared) (κ:SortKind) (f:Nat->Keyed) (lt:Nat->Nat->Bool) (n:Nat):Prop:=
 ∀ i j,i < n->j < n->∀ C:Bool->Shared->Prop,C (lt i j) s->wpAny (model prog w) A (keyLt' κ (f i).1 (f j).1) C (λ _ _=>False) s
theorem K9 (h:Ans prog w A s κ f lt n) (hk:kindOf st = κ) (hi:i < n) (hj:j < n) {Q:Option Bool->SortSt->Prop} (q:Q (some (lt i j)) st):wpS (model prog w) A E s (lt' (f i) (f j)) Q st:=by
 rw [lt'_eq];refine wpS_bind (wpS_get ?_);rw [hk];refine wpS_bind (wpS_lift (wpAny_attempt (wpAny_mono (h i j hi hj (λ b s'=>b = lt i j /\ s' = s) ⟨rfl,rfl⟩) (λ b s' z=>?_) λ _ _ z=>z.elim)));obtain ⟨rfl,rfl⟩:=z;exact ⟨rfl,wpS_pure q⟩
theorem ZI {arr:Array Keyed} {p:Array Nat} (e:arr = p.map f) (hi:i < p.size) {Q:Keyed->SortSt->Prop} (q:Q (f (at' p i)) st):wpS (model prog w) A E s (elem' arr i) Q st:=by
 rw [elem'_eq,e];have:(p.map f)[i]? = some (f (at' p i)):=by simp [at',hi]
 rw [this];exact wpS_pure q
theorem Zn {α:Type} {c:Prop} {dc:Decidable c} {x y:StateT SortSt Sem α} {Q:α->SortSt->Prop} (h1:c->wpS (model prog w) A E s x Q st) (h2:¬ c->wpS (model prog w) A E s y Q st):wpS (model prog w) A E s (if c then x else y) Q st:=by
 split
 ·exact h1 ‹_›
 ·exact h2 ‹_›
theorem Ha {γ:Type} {X:Nat->Nat->StateT SortSt Sem γ} {Q:γ->SortSt->Prop} (R:Nat->Nat->Prop) {goal:Prop} (k:(∀ x y,R x y->wpS (model prog w) A E s (X x y) Q st)->goal) (h:∀ x y,R x y->wpS (model prog w) A E s (X x y) Q st):goal:=k h
noncomputable def RT:Bool->Keyed->Array Keyed->Nat->Nat->Nat->StateT SortSt Sem (Option Nat):=sortPriv% PySem.Builtin.gallop
noncomputable def byd (lt:Nat->Nat->Bool) (left:Bool) (k:Nat) (p:Array Nat) (base i:Nat):Bool:=if left then lt (at' p (base + i)) k else !lt k (at' p (base + i))
theorem Ke (h:Ans prog w A s κ f lt n) (hk:kindOf st = κ) {left:Bool} {k:Nat} {p:Array Nat} {arr:Array Keyed} (ea:arr = p.map f) (kn:k < n) (pn:∀ i,i < p.size->at' p i < n) (hi:base + i < p.size) {Q:Option Bool->SortSt->Prop} (q:Q (some (byd lt left k p base i)) st) :
  wpS (model prog w) A E s (do let x <- elem' arr (base + i); if left = true then lt' x (f k) else do let r <- lt' (f k) x; pure (r.map (!·))) Q st:=by
 refine wpS_bind (ZI ea hi ?_);unfold byd at q;cases left with
 | true=>rw [if_pos rfl] at q ⊢; exact K9 h hk (pn _ hi) kn q
 | false=>rw [if_neg Bool.false_ne_true] at q ⊢; exact wpS_bind (K9 h hk kn (pn _ hi) (wpS_pure q))
theorem QF (h:Ans prog w A s κ f lt n) (hk:kindOf st = κ) {left:Bool} {k:Nat} {p:Array Nat} {arr:Array Keyed} (ea:arr = p.map f) {hint:Nat} (kn:k < n) (pn:∀ i,i < p.size->at' p i < n) (hb:base + m <= p.size) (hh:hint < m)
  (mono:∀ i j,i <= j->j < m->byd lt left k p base j = true->byd lt left k p base i = true) {Q:Option Nat->SortSt->Prop}
  (q:∀ r,r <= m->(∀ i,i < r->byd lt left k p base i = true)->(∀ i,r <= i->i < m->byd lt left k p base i = false)->Q (some r) st):wpS (model prog w) A E s (RT left (f k) arr base m hint) Q st:=by
 have anti:∀ i j,i <= j->j < m->byd lt left k p base i = false->byd lt left k p base j = false:=λ i j h1 h2 h3=>by
  cases e:byd lt left k p base j with
  | false=>rfl
  | true=>rw [mono i j h1 h2 e] at h3; cases h3
 refine wpS_bind (Ke h hk ea kn pn (by lia) ?_);apply Ha (st:=st) λ lo hi=>lo <= hi /\ hi <= m /\ (∀ i,i < lo->byd lt left k p base i = true) /\ ∀ i,hi <= i->i < m->byd lt left k p base i = false
 ·intro go;dsimp only;cases hr:byd lt left k p base hint with
  | true=>
   rw [if_pos rfl]
   refine wpS_bind (wpS_mono (wpS_forRange (I:=λ x c st'=>st = st' /\ ∃ la ofs,c = (none,la,ofs) /\ x < ofs /\ la < ofs /\ hint + la < m /\ byd lt left k p base (hint + la) = true)
    (Q:=λ c st'=>st = st' /\ ∃ la ofs,c = (none,la,ofs) /\ la < ofs /\ hint + la < m /\ byd lt left k p base (hint + la) = true /\ (m - hint <= ofs \/ (hint + ofs < m /\ byd lt left k p base (hint + ofs) = false))) ?_ ?_ ⟨rfl,0,1,rfl,Nat.one_pos,Nat.one_pos,hh,hr⟩) ?_)
   ·rintro x _ _ _ hx ⟨rfl,la,ofs,rfl,h1,h2,h3,h4⟩
    by_cases g:ofs ≥ m - hint
    ·dsimp only;rw [if_pos g];exact wpS_pure ⟨rfl,la,ofs,rfl,h2,h3,h4,.inl g⟩
    ·have l:hint + ofs < m:=by lia
     dsimp only;rw [if_neg g];refine wpS_bind (Ke h hk ea kn pn (by lia) ?_);dsimp only;cases hm:byd lt left k p base (hint + ofs) with
     | false=>exact wpS_pure ⟨rfl,la,ofs,rfl,h2,h3,h4,.inr ⟨l,hm⟩⟩
     | true=>exact wpS_pure ⟨rfl,ofs,2 * ofs + 1,rfl,by lia,by lia,l,hm⟩
   ·rintro _ _ ⟨rfl,la,ofs,rfl,h1,h2,h3,h4⟩;exact ⟨rfl,la,ofs,rfl,h2,h3,h4,.inl (by lia)⟩
   ·rintro _ _ ⟨rfl,la,ofs,rfl,h2,h3,h4,h5⟩;have z1:hint + la + 1 <= hint + min ofs (m - hint):=by lia
    have z2:hint + min ofs (m - hint) <= m:=by lia
    have z3:∀ i,i < hint + la + 1->byd lt left k p base i = true:=λ i hi=>mono _ _ (Nat.le_of_lt_succ hi) h3 h4;have z4:∀ i,hint + min ofs (m - hint) <= i->i < m->byd lt left k p base i = false:=λ i h6 h7=>by
     rcases h5 with z | ⟨z1,z2⟩
     ·lia
     ·exact anti (hint + ofs) i (by lia) h7 z2
    dsimp only;generalize hint + la + 1 = lo at z1 z3 ⊢;generalize hint + min ofs (m - hint) = hi at z1 z2 z4 ⊢;exact go lo hi ⟨z1,z2,z3,z4⟩
  | false=>
   rw [if_neg Bool.false_ne_true]
   refine wpS_bind (wpS_mono (wpS_forRange (I:=λ x c st'=>st = st' /\ ∃ la ofs,c = (none,la,ofs) /\ x < ofs /\ la < ofs /\ la <= hint /\ byd lt left k p base (hint - la) = false)
    (Q:=λ c st'=>st = st' /\ ∃ la ofs,c = (none,la,ofs) /\ la < ofs /\ la <= hint /\ byd lt left k p base (hint - la) = false /\ (hint + 1 <= ofs \/ (ofs <= hint /\ byd lt left k p base (hint - ofs) = true))) ?_ ?_ ⟨rfl,0,1,rfl,Nat.one_pos,Nat.one_pos,Nat.zero_le _,hr⟩) ?_)
   ·rintro x _ _ _ hx ⟨rfl,la,ofs,rfl,h1,h2,h3,h4⟩
    by_cases g:ofs ≥ hint + 1
    ·dsimp only;rw [if_pos g];exact wpS_pure ⟨rfl,la,ofs,rfl,h2,h3,h4,.inl g⟩
    ·have l:ofs <= hint:=by lia
     dsimp only;rw [if_neg g];refine wpS_bind (Ke h hk ea kn pn (by lia) ?_);dsimp only;cases hm:byd lt left k p base (hint - ofs) with
     | true=>exact wpS_pure ⟨rfl,la,ofs,rfl,h2,h3,h4,.inr ⟨l,hm⟩⟩
     | false=>exact wpS_pure ⟨rfl,ofs,2 * ofs + 1,rfl,by lia,by lia,l,hm⟩
   ·rintro _ _ ⟨rfl,la,ofs,rfl,h1,h2,h3,h4⟩;exact ⟨rfl,la,ofs,rfl,h2,h3,h4,.inl (by lia)⟩
   ·rintro _ _ ⟨rfl,la,ofs,rfl,h2,h3,h4,h5⟩;refine go _ _ ⟨?_,?_,λ i hi=>?_,λ i h6 h7=>anti _ _ h6 h7 h4⟩
    ·show hint + 1 - min ofs (hint + 1) <= hint - la;lia
    ·show hint - la <= m;lia
    ·have hi:i < hint + 1 - min ofs (hint + 1):=hi
     rcases h5 with z | ⟨z1,z2⟩
     ·lia
     ·exact mono i (hint - ofs) (by lia) (by lia) z2
 rintro lo hi ⟨g1,g2,g4,g5⟩
 refine wpS_bind (wpS_mono (wpS_forRange (I:=λ x c st'=>st = st' /\ ∃ lo hi,c = (none,lo,hi) /\ lo <= hi /\ hi <= m /\ hi - lo + x <= m /\ (∀ i,i < lo->byd lt left k p base i = true) /\ (∀ i,hi <= i->i < m->byd lt left k p base i = false))
  (Q:=λ c st'=>st = st' /\ ∃ lo hi,c = (none,lo,hi) /\ hi <= lo /\ hi <= m /\ (∀ i,i < lo->byd lt left k p base i = true) /\ (∀ i,hi <= i->i < m->byd lt left k p base i = false)) ?_ ?_ ⟨rfl,lo,hi,rfl,g1,g2,by lia,g4,g5⟩) ?_)
 ·rintro x _ _ _ hx ⟨rfl,lo,hi,rfl,g1,g2,g3,g4,g5⟩;refine Zn (λ g=>wpS_pure ⟨rfl,lo,hi,rfl,g,g2,g4,g5⟩) λ g=>?_;have g6:lo < hi:=Nat.lt_of_not_le g;have l1:lo + (hi - lo) / 2 < hi:=by lia
  have l2:=Nat.lt_of_lt_of_le l1 g2;refine wpS_bind (Ke h hk ea kn pn (by lia) ?_);dsimp only;cases hm:byd lt left k p base (lo + (hi - lo) / 2) with
  | true=>exact wpS_pure ⟨rfl,_,_,rfl,l1,g2,by lia,λ i hi=>mono _ _ (Nat.le_of_lt_succ hi) l2 hm,g5⟩
  | false=>exact wpS_pure ⟨rfl,_,_,rfl,Nat.le_add_right _ _,Nat.le_of_lt l2,by lia,g4,λ i h6 h7=>anti _ _ h6 h7 hm⟩
 ·rintro _ _ ⟨rfl,lo,hi,rfl,g1,g2,g3,g4,g5⟩;exact ⟨rfl,lo,hi,rfl,by lia,g2,g4,g5⟩
 ·rintro _ _ ⟨rfl,lo,hi,rfl,g2,g3,g4,g5⟩;exact wpS_pure (q hi g3 (λ i hi=>g4 i (Nat.lt_of_lt_of_le hi g2)) g5)
end
section
variable {lt:Nat->Nat->Bool}
structure Mg (lt:Nat->Nat->Bool) (po ra rb tot:List Nat):Prop where
 perm:(po ++ (ra ++ rb)).Perm tot
 up:po.Pairwise (Le lt)
 lo:∀ x ∈ po,∀ y,y ∈ ra \/ y ∈ rb->Le lt x y
variable {po ra rb tot:List Nat} {x:Nat}
theorem Mg.swap (h:Mg lt po ra rb tot):Mg lt po rb ra tot:=⟨(List.Perm.append_left po List.perm_append_comm).trans h.perm,h.up,λ x hx y hy=>h.lo x hx y hy.symm⟩
theorem Mg.take (o:Ord lt) (h:Mg lt po (x :: ra) rb tot) (ha:(x :: ra).Pairwise (Le lt)) (hb:rb.Pairwise (Le lt)) (hx:∀ z l,rb = z :: l->Le lt x z):Mg lt (po ++ [x]) ra rb tot:=by
 refine ⟨?_,?_,λ y hy z hz=>?_⟩
 ·have e:po ++ [x] ++ (ra ++ rb) = po ++ (x :: ra ++ rb):=by simp
  rw [e];exact h.perm
 ·rw [List.pairwise_append];refine ⟨h.up,List.pairwise_singleton _ _,λ a ha' b hb'=>?_⟩;rw [List.mem_singleton.mp hb'];exact h.lo a ha' x (.inl (.head _))
 ·rcases List.mem_append.mp hy with hy | hy
  ·exact h.lo y hy z (hz.imp (λ q=>.tail _ q) id)
  ·rw [List.mem_singleton.mp hy]
   rcases hz with hz | hz
   ·exact List.rel_of_pairwise_cons ha hz
   ·cases rb with
    | nil=>cases hz
    | cons c l=>
     have h1:=hx c l rfl
     rcases List.mem_cons.mp hz with rfl | hz
     ·exact h1
     ·exact o.tran _ _ _ h1 (List.rel_of_pairwise_cons hb hz)
theorem Mg.fin (h:Mg lt po ra [] tot) (ha:ra.Pairwise (Le lt)):(po ++ ra).Perm tot /\ (po ++ ra).Pairwise (Le lt):=by
 refine ⟨?_,?_⟩
 ·have:=h.perm
  rwa [List.append_nil] at this
 ·rw [List.pairwise_append];exact ⟨h.up,ha,λ a h1 b h2=>h.lo a h1 b (.inl h2)⟩
theorem Mg.last (h:Mg lt po [x] rb tot) (hb:rb.Pairwise (Le lt)) (hx:∀ y ∈ rb,Le lt y x):(po ++ rb ++ [x]).Perm tot /\ (po ++ rb ++ [x]).Pairwise (Le lt):=by
 refine ⟨?_,?_⟩
 ·rw [List.append_assoc];exact (List.Perm.append_left po List.perm_append_comm).trans h.perm
 ·rw [List.pairwise_append,List.pairwise_append];refine ⟨⟨h.up,hb,λ a h1 b h2=>h.lo a h1 b (.inr h2)⟩,List.pairwise_singleton _ _,λ a h1 b h2=>?_⟩;rw [List.mem_singleton.mp h2]
  rcases List.mem_append.mp h1 with h1 | h1
  ·exact h.lo a h1 x (.inl (.head _))
  ·exact hx a h1
theorem JR {p:Array Nat} (h:i < p.size):p.toList.drop i = at' p i :: p.toList.drop (i + 1):=by
 rw [List.drop_eq_getElem_cons (by simpa using h)];simp [at',h]
theorem PB (o:Ord lt) {p:Array Nat} (hp:p.toList.Pairwise (Le lt)) (hij:i <= j) (hj:j < p.size):Le lt (at' p i) (at' p j):=by
 by_cases e:i = j
 ·rw [e];exact o.refl _
 ·have:=List.pairwise_iff_getElem.mp hp i j (by simp; lia) (by simpa using hj) (by lia);have h1:i < p.size:=by lia
  simpa [at',h1,hj] using this
end
section
variable {f:Nat->Keyed} {lt:Nat->Nat->Bool} {pa pb:Array Nat} {out:Array Keyed} {ia ib k:Nat}
def ML (f:Nat->Keyed) (lt:Nat->Nat->Bool) (pa pb:Array Nat) (out:Array Keyed) (ia ib:Nat):Prop:=∃ po:Array Nat,out = po.map f /\ Mg lt po.toList (pa.toList.drop ia) (pb.toList.drop ib) (pa.toList ++ pb.toList)
def Mgd (f:Nat->Keyed) (lt:Nat->Nat->Bool) (pa pb:Array Nat) (r:Array Keyed):Prop:=∃ q:Array Nat,r = q.map f /\ q.toList.Perm (pa.toList ++ pb.toList) /\ q.toList.Pairwise (Le lt)
theorem GB {p:Array Nat} {a:Array Keyed} (e:a = p.map f) (i j:Nat):a.extract i j = (p.extract i j).map f:=by
 rw [e];simp
theorem ML.BN (o:Ord lt) (h:ML f lt pa pb out ia ib) (sa:pa.toList.Pairwise (Le lt)) (sb:pb.toList.Pairwise (Le lt)) (hi:ia < pa.size) (hx:ib < pb.size->Le lt (at' pa ia) (at' pb ib)):ML f lt pa pb (out.push (f (at' pa ia))) (ia + 1) ib:=by
 obtain ⟨po,rfl,g⟩:=h;rw [JR hi] at g;refine ⟨po.push (at' pa ia),by simp,?_⟩;rw [Array.toList_push];refine g.take o (by rw [<- JR hi]; exact sa.drop) sb.drop λ z l e=>?_
 by_cases hb:ib < pb.size
 ·rw [JR hb] at e;cases e;exact hx hb
 ·rw [List.drop_eq_nil_of_le (by simpa using hb)] at e;cases e
theorem ML.Bu (o:Ord lt) (h:ML f lt pa pb out ia ib) (sa:pa.toList.Pairwise (Le lt)) (sb:pb.toList.Pairwise (Le lt)) (hi:ib < pb.size) (hx:ia < pa.size->Le lt (at' pb ib) (at' pa ia)):ML f lt pa pb (out.push (f (at' pb ib))) ia (ib + 1):=by
 obtain ⟨po,rfl,g⟩:=h;rw [JR hi] at g;refine ⟨po.push (at' pb ib),by simp,?_⟩;rw [Array.toList_push];refine (g.swap.take o (by rw [<- JR hi]; exact sb.drop) sa.drop λ z l e=>?_).swap
 by_cases hb:ia < pa.size
 ·rw [JR hb] at e;cases e;exact hx hb
 ·rw [List.drop_eq_nil_of_le (by simpa using hb)] at e;cases e
theorem GR {p:Array Nat} {a:Array Keyed} (e:a = p.map f) {k:Nat} (h:i + k < p.size) (out:Array Keyed):out ++ a.extract i (i + (k + 1)) = (out ++ a.extract i (i + k)).push (f (at' p (i + k))):=by
 subst e;apply Array.toList_inj.mp;simp only [Array.toList_append,Array.toList_push,Array.toList_extract,Array.toList_map,List.append_assoc,List.extract_eq_take_drop]
 congr 1
 rw [show i + (k + 1) - i = k + 1 by lia,show i + k - i = k by lia,List.take_succ]
 congr 1
 simp [at',h]
theorem ML.C4 (o:Ord lt) {a:Array Keyed} (ea:a = pa.map f) (h:ML f lt pa pb out ia ib) (sa:pa.toList.Pairwise (Le lt)) (sb:pb.toList.Pairwise (Le lt)) (hx:∀ i,i < k->ib < pb.size->Le lt (at' pa (ia + i)) (at' pb ib)):ia + k <= pa.size->ML f lt pa pb (out ++ a.extract ia (ia + k)) (ia + k) ib:=by
 induction k with
 | zero=>intro _; rw [show a.extract ia (ia + 0) = #[] by apply Array.toList_inj.mp; simp [List.extract_eq_take_drop],Array.append_empty]; exact h
 | succ k ih=>
  intro hk;rw [GR ea (by lia)];exact (ih (λ i hi=>hx i (by lia)) (by lia)).BN o sa sb (by lia) (hx k (by lia))
theorem ML.EW (o:Ord lt) {b:Array Keyed} (eb:b = pb.map f) (h:ML f lt pa pb out ia ib) (sa:pa.toList.Pairwise (Le lt)) (sb:pb.toList.Pairwise (Le lt)) (hx:∀ i,i < k->ia < pa.size->Le lt (at' pb (ib + i)) (at' pa ia)):ib + k <= pb.size->ML f lt pa pb (out ++ b.extract ib (ib + k)) ia (ib + k):=by
 induction k with
 | zero=>intro _; rw [show b.extract ib (ib + 0) = #[] by apply Array.toList_inj.mp; simp [List.extract_eq_take_drop],Array.append_empty]; exact h
 | succ k ih=>
  intro hk;rw [GR eb (by lia)];exact (ih (λ i hi=>hx i (by lia)) (by lia)).Bu o sa sb (by lia) (hx k (by lia))
theorem Ki {p:Array Nat} {a:Array Keyed} (e:a = p.map f) (i:Nat):a.extract i a.size = (p.extract i p.size).map f /\ (p.extract i p.size).toList = p.toList.drop i:=by
 subst e;refine ⟨by simp,?_⟩;rw [Array.toList_extract,List.extract_eq_take_drop,List.take_of_length_le (by simp)]
theorem ML.done {a b:Array Keyed} (ea:a = pa.map f) (eb:b = pb.map f) (h:ML f lt pa pb out ia ib) (sa:pa.toList.Pairwise (Le lt)) (sb:pb.toList.Pairwise (Le lt)) (he:pb.size <= ib \/ pa.size <= ia):Mgd f lt pa pb (out ++ a.extract ia a.size ++ b.extract ib b.size):=by
 obtain ⟨po,rfl,g⟩:=h;obtain ⟨e1,e2⟩:=Ki ea ia;obtain ⟨e3,e4⟩:=Ki eb ib;refine ⟨po ++ pa.extract ia pa.size ++ pb.extract ib pb.size,by rw [e1,e3,Array.map_append,Array.map_append],?_⟩;rw [Array.toList_append,Array.toList_append,e2,e4]
 rcases he with he | he
 ·rw [List.drop_eq_nil_of_le (show pb.toList.length <= ib by simpa using he)] at g ⊢;rw [List.append_nil];exact g.fin sa.drop
 ·rw [List.drop_eq_nil_of_le (show pa.toList.length <= ia by simpa using he)] at g ⊢;rw [List.append_nil];exact g.swap.fin sb.drop
theorem ML.last {a b:Array Keyed} (ea:a = pa.map f) (eb:b = pb.map f) (h:ML f lt pa pb out ia ib) (sb:pb.toList.Pairwise (Le lt)) (hi:ia + 1 = pa.size) (hx:∀ y ∈ pb.toList,Le lt y (at' pa ia)):Mgd f lt pa pb (out ++ b.extract ib b.size ++ a.extract ia a.size):=by
 obtain ⟨po,rfl,g⟩:=h;obtain ⟨e1,e2⟩:=Ki ea ia;obtain ⟨e3,e4⟩:=Ki eb ib;refine ⟨po ++ pb.extract ib pb.size ++ pa.extract ia pa.size,by rw [e1,e3,Array.map_append,Array.map_append],?_⟩;have e5:pa.toList.drop ia = [at' pa ia]:=by rw [JR (by lia),List.drop_eq_nil_of_le (show pa.toList.length <= ia + 1 by simp; lia)]
 rw [Array.toList_append,Array.toList_append,e2,e4,e5];rw [e5] at g;exact g.last sb.drop λ y hy=>hx y (List.mem_of_mem_drop hy)
end
section
variable {prog:Program} {E:Value->Shared->Prop} {κ:SortKind} {f:Nat->Keyed} {lt:Nat->Nat->Bool} {st:SortSt}
structure Sm (st st':SortSt):Prop where
 kd:kindOf st' = kindOf st
 ar:arrOf st' = arrOf st
 pd:pendingOf st' = pendingOf st
 fl:failedOf st' = failedOf st
theorem Sm.refl {st:SortSt}:Sm st st:=⟨rfl,rfl,rfl,rfl⟩
theorem Sm.trans {a b c:SortSt} (h:Sm a b) (k:Sm b c):Sm a c:=⟨k.kd.trans h.kd,k.ar.trans h.ar,k.pd.trans h.pd,k.fl.trans h.fl⟩
noncomputable def ZbG:Nat->StateT SortSt Sem Unit:=sortPriv% PySem.Builtin.setMinGallop
theorem Xt {g:Nat} {Q:Unit->SortSt->Prop} (q:∀ st',Sm st st'->Q () st'):wpS (model prog w) A E s (ZbG g) Q st:=wpS_modify (q _ ⟨rfl,rfl,rfl,rfl⟩)
theorem G0 {γ:Type} {X:Nat->StateT SortSt Sem γ} {Q:γ->SortSt->Prop} {goal:Prop} (k:(∀ m st',Sm st st'->wpS (model prog w) A E s (X m) Q st')->goal) (h:∀ m st',Sm st st'->wpS (model prog w) A E s (X m) Q st'):goal:=k h
theorem V5 {γ:Type} {X:Array Keyed->Nat->StateT SortSt Sem γ} {Q:γ->SortSt->Prop} (R:Array Keyed->Nat->Prop) {goal:Prop} (k:(∀ o i,R o i->wpS (model prog w) A E s (X o i) Q st)->goal) (h:∀ o i,R o i->wpS (model prog w) A E s (X o i) Q st):goal:=k h
noncomputable def HM:Array Keyed->Array Keyed->StateT SortSt Sem (Array Keyed):=sortPriv% PySem.Builtin.mergeLo
variable {pa pb:Array Nat}
theorem Zas (o:Ord lt) (sa:pa.toList.Pairwise (Le lt)) {k:Nat} (hb:base + m <= pa.size):∀ i j,i <= j->j < m->byd lt false k pa base j = true->byd lt false k pa base i = true:=λ i j h1 h2 h3=>by
 unfold byd at h3 ⊢;rw [if_neg (by decide)] at h3 ⊢;have e:Le lt (at' pa (base + j)) k:=by simpa [Le] using h3
 have:=o.tran _ _ _ (PB o sa (i:=base + i) (j:=base + j) (Nat.add_le_add_left h1 _) (Nat.lt_of_lt_of_le (Nat.add_lt_add_left h2 _) hb)) e
 simpa [Le] using this
theorem ZaQ (o:Ord lt) (sb:pb.toList.Pairwise (Le lt)) {k:Nat} (hb:base + m <= pb.size):∀ i j,i <= j->j < m->byd lt true k pb base j = true->byd lt true k pb base i = true:=λ i j h1 h2 h3=>by
 unfold byd at h3 ⊢;rw [if_pos (by rfl)] at h3 ⊢;cases e:lt (at' pb (base + i)) k with
 | true=>rfl
 | false=>
  have e1:Le lt k (at' pb (base + i)):=e;have:=o.tran _ _ _ e1 (PB o sb (i:=base + i) (j:=base + j) (Nat.add_le_add_left h1 _) (Nat.lt_of_lt_of_le (Nat.add_lt_add_left h2 _) hb));rw [show lt (at' pb (base + j)) k = false from this] at h3;cases h3
theorem Sj {k:Nat} {p:Array Nat} (o:Ord lt) (h:byd lt true k p base i = true):Le lt (at' p (base + i)) k:=o.asym _ _ (by simpa [byd] using h)
theorem We {k:Nat} {p:Array Nat} (h:byd lt true k p base i = false):Le lt k (at' p (base + i)):=by simpa [byd,Le] using h
theorem C7 {k:Nat} {p:Array Nat} (h:byd lt false k p base i = true):Le lt (at' p (base + i)) k:=by simpa [byd,Le] using h
theorem B9 {k:Nat} {p:Array Nat} (o:Ord lt) (h:byd lt false k p base i = false):Le lt k (at' p (base + i)):=o.asym _ _ (by simpa [byd] using h)
theorem Le.not {x y:Nat} (h:¬ lt x y = true):Le lt y x:=by simpa [Le] using h
theorem E6 (e:m = n) (h:i < n) (c:¬ (i + 1 == m) = true):i + 1 < n:=Nat.lt_of_le_of_ne h λ z=>c (beq_iff_eq.mpr (z.trans e.symm))
structure Mc (prog:Program) (w:World) (A:Around) (s:Shared) (κ:SortKind) (f:Nat->Keyed) (lt:Nat->Nat->Bool) (n:Nat) (pa pb:Array Nat) (a b:Array Keyed):Prop where
 h:Ans prog w A s κ f lt n
 o:Ord lt
 ea:a = pa.map f
 eb:b = pb.map f
 an:∀ i,i < pa.size->at' pa i < n
 bn:∀ i,i < pb.size->at' pb i < n
 sa:pa.toList.Pairwise (Le lt)
 sb:pb.toList.Pairwise (Le lt)
 a1:0 < pa.size
 b1:0 < pb.size
variable {a b out:Array Keyed} {ia ib z:Nat} {γ:Type} {X Y:Keyed->StateT SortSt Sem γ} {Q:γ->SortSt->Prop}
theorem Mc.za (M:Mc prog w A s κ f lt n pa pb a b):a.size = pa.size:=by rw [M.ea]; exact Array.size_map
theorem Mc.zb (M:Mc prog w A s κ f lt n pa pb a b):b.size = pb.size:=by rw [M.eb]; exact Array.size_map
def LoI (f:Nat->Keyed) (lt:Nat->Nat->Bool) (pa pb:Array Nat) (z:Nat) (out:Array Keyed) (ia ib:Nat):Prop:=ML f lt pa pb out ia ib /\ (ia + 1 < pa.size /\ ib < pb.size) /\ z <= ia + ib
theorem LoI.no {z:Nat} (h:LoI f lt pa pb z out ia ib):z < pa.size + pb.size:=Nat.lt_of_le_of_lt h.2.2 (Nat.add_lt_add (Nat.lt_of_succ_lt h.2.1.1) h.2.1.2)
theorem LoI.le {z z':Nat} (h:LoI f lt pa pb z out ia ib) (e:z' <= z):LoI f lt pa pb z' out ia ib:=⟨h.1,h.2.1,Nat.le_trans e h.2.2⟩
theorem Mc.Tp (M:Mc prog w A s κ f lt n pa pb a b) (i:LoI f lt pa pb z out ia ib) (hx:Le lt (at' pb ib) (at' pa ia)) (hX:Mgd f lt pa pb (out.push (f (at' pb ib)) ++ a.extract ia a.size ++ b.extract (ib + 1) b.size)->wpS (model prog w) A E s (X (f (at' pb ib))) Q st)
  (hY:LoI f lt pa pb (z + 1) (out.push (f (at' pb ib))) ia (ib + 1)->wpS (model prog w) A E s (Y (f (at' pb ib))) Q st):wpS (model prog w) A E s (elem' b ib >>= λ x=>if (ib + 1 == b.size) = true then X x else Y x) Q st:=by
 have m:=i.1.Bu M.o M.sa M.sb i.2.1.2 λ _=>hx;exact wpS_bind (ZI M.eb i.2.1.2 (Zn (λ c=>hX (m.done M.ea M.eb M.sa M.sb (.inl (by rw [beq_iff_eq.mp c,M.zb]; exact Nat.le_refl _)))) λ c=>hY ⟨m,⟨i.2.1.1,E6 M.zb i.2.1.2 c⟩,Nat.succ_le_succ i.2.2⟩))
theorem Mc.Zbp (M:Mc prog w A s κ f lt n pa pb a b) (hl:∀ y ∈ pb.toList,Le lt y (at' pa (pa.size - 1))) (i:LoI f lt pa pb z out ia ib) (hx:Le lt (at' pa ia) (at' pb ib)) (hX:Mgd f lt pa pb (out.push (f (at' pa ia)) ++ b.extract ib b.size ++ a.extract (ia + 1) a.size)->wpS (model prog w) A E s (X (f (at' pa ia))) Q st)
  (hY:LoI f lt pa pb (z + 1) (out.push (f (at' pa ia))) (ia + 1) ib->wpS (model prog w) A E s (Y (f (at' pa ia))) Q st):wpS (model prog w) A E s (elem' a ia >>= λ x=>if (ia + 1 + 1 == a.size) = true then X x else Y x) Q st:=by
 have l:=Nat.lt_of_succ_lt i.2.1.1;have m:=i.1.BN M.o M.sa M.sb l λ _=>hx;refine wpS_bind (ZI M.ea l (Zn (λ c=>hX ?_) λ c=>hY ⟨m,⟨E6 M.za i.2.1.1 c,i.2.1.2⟩,by rw [Nat.add_right_comm]; exact Nat.succ_le_succ i.2.2⟩));have c:=(beq_iff_eq.mp c).trans M.za;exact m.last M.ea M.eb M.sb c (by rw [show ia + 1 = pa.size - 1 from Nat.eq_sub_of_add_eq c]; exact hl)
set_option maxHeartbeats 4000000 in
theorem W2 (M:Mc prog w A s κ f lt n pa pb a b) (hk:kindOf st = κ) (hf:Le lt (at' pb 0) (at' pa 0)) (hl:∀ y ∈ pb.toList,Le lt y (at' pa (pa.size - 1))) {Q:Array Keyed->SortSt->Prop} (q:∀ r st',Sm st st'->Mgd f lt pa pb r->Q r st'):wpS (model prog w) A E s (HM a b) Q st:=by
 have m0:ML f lt pa pb #[f (at' pb 0)] 0 1:=ML.Bu (out:=#[]) (ia:=0) (ib:=0) M.o ⟨#[],by simp,⟨by simp,by simp,λ x hx=>nomatch hx⟩⟩ M.sa M.sb M.b1 λ _=>hf;have za:=M.za;have zb:=M.zb;have zz:∀ {x:Nat} {o:Array Keyed} {i j:Nat},¬ LoI f lt pa pb (x + max 0 (a.size + b.size)) o i j:=λ h=>absurd (h.le (Nat.le_add_left _ _)).no (by lia);refine wpS_bind (wpS_lift (wpAny_rule ⟨rfl,wpS_bind (ZI M.eb M.b1 (Zn (λ c=>wpS_pure (q _ _ Sm.refl (m0.done M.ea M.eb M.sa M.sb (.inl (by rw [beq_iff_eq.mp c,zb]; exact Nat.le_refl _))))) λ c=>Zn (λ c2=>?_) λ c2=>wpS_bind (wpS_get (wpS_bind (wpS_mono (wpS_forRange (I:=λ x c st'=>Sm st st' /\ c.1 = none /\ LoI f lt pa pb (0 + x) c.2.1 c.2.2.1 c.2.2.2.1) (Q:=λ c st'=>Sm st st' /\ ∃ r,c.1 = some r /\ Mgd f lt pa pb r) ?_ ?_ ⟨Sm.refl,rfl,m0,⟨E6 za M.a1 c2,E6 zb M.b1 c⟩,Nat.zero_le _⟩) ?_)))))⟩))
 ·have c:=(beq_iff_eq.mp c2).trans za;exact wpS_pure (q _ _ Sm.refl (m0.last M.ea M.eb M.sb c (by rw [show 0 = pa.size - 1 from Nat.eq_sub_of_add_eq c]; exact hl)))
 ·rintro x c st1 _ hx ⟨hs,e1,i1⟩
  refine wpS_bind (wpS_mono (wpS_forRange (I:=λ y c st'=>st1 = st' /\ c.1 = none /\ LoI f lt pa pb (x + y) c.2.1 c.2.2.1 c.2.2.2.1)
   (Q:=λ c st'=>st1 = st' /\ ((∃ r,c.1 = some r /\ Mgd f lt pa pb r) \/ (c.1 = none /\ LoI f lt pa pb x c.2.1 c.2.2.1 c.2.2.2.1))) ?_ ?_ ⟨rfl,rfl,i1.le (by lia)⟩) ?_)
  ·rintro y c _ _ hy ⟨rfl,e2,i2⟩;have l:=Nat.lt_of_succ_lt i2.2.1.1;refine wpS_bind (ZI M.eb i2.2.1.2 (wpS_bind (ZI M.ea l (wpS_bind (K9 M.h (hs.kd.trans hk) (M.bn _ i2.2.1.2) (M.an _ l) (Zn (λ hw=>M.Tp i2 (M.o.asym _ _ hw) (λ m=>wpS_pure ⟨rfl,.inl ⟨_,rfl,m⟩⟩) λ i3=>?_) λ hw=>M.Zbp hl i2 (Le.not hw) (λ m=>wpS_pure ⟨rfl,.inl ⟨_,rfl,m⟩⟩) λ i3=>?_))))))
   all_goals exact Zn (λ _=>wpS_pure ⟨rfl,.inr ⟨rfl,i3.le (Nat.le_add_right x (y + 1))⟩⟩) λ _=>wpS_pure ⟨rfl,rfl,i3⟩
  ·rintro c _ ⟨rfl,e2,i2⟩;exact (zz i2).elim
  ·rintro ⟨c1,c⟩ _ ⟨rfl,⟨r,e2,hr⟩ | ⟨e2,i2⟩⟩
   ·cases (show c1 = _ from e2);exact wpS_pure ⟨hs,r,rfl,hr⟩
   ·cases (show c1 = _ from e2)
    refine wpS_bind (wpS_lift (wpAny_rule ⟨rfl,wpS_bind (wpS_mono (wpS_forRange (I:=λ y c st'=>Sm st st' /\ c.1 = none /\ LoI f lt pa pb (x + y) c.2.1 c.2.2.1 c.2.2.2.1)
     (Q:=λ c st'=>Sm st st' /\ ((∃ r,c.1 = some r /\ Mgd f lt pa pb r) \/ (c.1 = none /\ LoI f lt pa pb (0 + (x + 1)) c.2.1 c.2.2.1 c.2.2.2.1))) ?_ ?_ ⟨hs,rfl,i2⟩) ?_)⟩))
    ·rintro y ⟨_,out,ka,kb,mg2,ac,bc⟩ st2 _ hy ⟨hs2,e2,m2,⟨g1,g2⟩,g3⟩;dsimp only at m2 g1 g2 g3 ⊢;clear i2 hs e2 i1 e1;apply G0 (st:=st2)
     ·intro go;refine Zn (λ _=>wpS_bind (Xt λ st3 hs3=>?_)) λ _=>wpS_bind (Xt λ st3 hs3=>?_)
      ·generalize mg2 - 1 = m;exact go m st3 hs3
      ·exact go mg2 st3 hs3
     intro mg3 st3 hs3;have hk3:=hs3.kd.trans (hs2.kd.trans hk);have hs4:=hs2.trans hs3;refine wpS_bind (ZI M.eb g2 (wpS_bind (QF M.h hk3 M.ea (M.bn _ g2) M.an (by lia) (by lia) (Zas M.o M.sa (by lia)) λ k k1 k2 k3=>?_)));have m4:=m2.C4 (k:=k) M.o M.ea M.sa M.sb (λ i hi _=>C7 (k2 i hi)) (by lia);have aft:ka + k < pa.size->Le lt (at' pb kb) (at' pa (ka + k)):=λ z=>B9 M.o (k3 k (Nat.le_refl _) (by lia));apply V5 (st:=st3) (λ o i=>LoI f lt pa pb (x + y) o i kb /\ Le lt (at' pb kb) (at' pa i))
     ·intro go;refine Zn (λ c3=>Zn (λ c4=>?_) λ c4=>Zn (λ c5=>?_) λ c5=>?_) λ c3=>?_
      ·have c:=(beq_iff_eq.mp c4).trans za;exact wpS_pure ⟨hs4,.inl ⟨_,rfl,m4.last M.ea M.eb M.sb c (by rw [show ka + k = pa.size - 1 from Nat.eq_sub_of_add_eq c]; exact hl)⟩⟩
      ·exact wpS_pure ⟨hs4,.inl ⟨_,rfl,m4.done M.ea M.eb M.sa M.sb (.inr (by rw [beq_iff_eq.mp c5,za]; exact Nat.le_refl _))⟩⟩
      ·have c5:ka + k < pa.size:=Nat.lt_of_le_of_ne (by lia) λ z=>c5 (beq_iff_eq.mpr (z.trans za.symm));have aT:=aft c5;have iT:LoI f lt pa pb (x + y) (out ++ a.extract ka (ka + k)) (ka + k) kb:=⟨m4,⟨E6 za c5 c4,g2⟩,Nat.le_trans g3 (Nat.add_le_add_right (Nat.le_add_right ka k) kb)⟩
       generalize out ++ a.extract ka (ka + k) = o2 at iT ⊢;generalize ka + k = i2 at iT aT ⊢;exact go o2 i2 ⟨iT,aT⟩
      ·cases Nat.eq_zero_of_not_pos c3;exact go out ka ⟨⟨m2,⟨g1,g2⟩,g3⟩,aft (Nat.lt_of_succ_lt g1)⟩
     clear m2 g1 g2 g3 k1 k2 k3 m4 aft;rintro o2 k4 ⟨iT,aT⟩;refine M.Tp iT aT (λ m=>wpS_pure ⟨hs4,.inl ⟨_,rfl,m⟩⟩) λ ⟨m5,⟨g1,g2⟩,g3⟩=>wpS_bind (ZI M.ea (Nat.lt_of_succ_lt g1) (wpS_bind (QF M.h hk3 M.eb (M.an _ (Nat.lt_of_succ_lt g1)) M.bn (by lia) (by lia) (ZaQ M.o M.sb (by lia)) λ j j1 j2 j3=>?_)));have m6:=m5.EW (k:=j) M.o M.eb M.sa M.sb (λ i hi _=>Sj M.o (j2 i hi)) (by lia);have b6:=λ z:kb + 1 + j < pb.size=>We (j3 j (Nat.le_refl _) (by lia));apply V5 (st:=st3) (λ o i=>LoI f lt pa pb (x + y + 1) o k4 i /\ Le lt (at' pa k4) (at' pb i))
     ·intro go;refine Zn (λ c3=>Zn (λ c4=>?_) λ c4=>?_) λ c3=>?_
      ·exact wpS_pure ⟨hs4,.inl ⟨_,rfl,m6.done M.ea M.eb M.sa M.sb (.inl (by rw [beq_iff_eq.mp c4,zb]; exact Nat.le_refl _))⟩⟩
      ·have c5:kb + 1 + j < pb.size:=Nat.lt_of_le_of_ne (by lia) λ z=>c4 (beq_iff_eq.mpr (z.trans zb.symm));have aT:=b6 c5;have iT:LoI f lt pa pb (x + y + 1) (o2.push (f (at' pb kb)) ++ b.extract (kb + 1) (kb + 1 + j)) k4 (kb + 1 + j):=⟨m6,⟨g1,c5⟩,Nat.le_trans g3 (Nat.add_le_add_left (Nat.le_add_right (kb + 1) j) k4)⟩
       generalize o2.push (f (at' pb kb)) ++ b.extract (kb + 1) (kb + 1 + j) = o3 at iT ⊢;generalize kb + 1 + j = i2 at iT aT ⊢;exact go o3 i2 ⟨iT,aT⟩
      ·cases Nat.eq_zero_of_not_pos c3;exact go _ _ ⟨⟨m5,⟨g1,g2⟩,g3⟩,b6 g2⟩
     rintro o3 j4 ⟨i6,a6⟩;exact M.Zbp hl i6 a6 (λ m=>wpS_pure ⟨hs4,.inl ⟨_,rfl,m⟩⟩) λ i7=>Zn (λ _=>wpS_pure ⟨hs4,.inr ⟨rfl,i7.le (by lia)⟩⟩) λ _=>wpS_pure ⟨hs4,rfl,i7.le (Nat.le_succ _)⟩
    ·rintro c _ ⟨_,e2,i2⟩;exact (zz i2).elim
    ·rintro ⟨c1,c⟩ st2 ⟨hs2,⟨r,e2,hr⟩ | ⟨e2,i2⟩⟩
     ·cases (show c1 = _ from e2);exact wpS_pure ⟨hs2,r,rfl,hr⟩
     ·cases (show c1 = _ from e2);exact wpS_bind (Xt λ st3 hs3=>wpS_pure ⟨hs2.trans hs3,rfl,i2⟩)
 ·rintro c st1 ⟨hs,e1,i1⟩;exact (zz i1).elim
 ·rintro ⟨c1,c⟩ st1 ⟨hs,r,e1,hr⟩;cases (show c1 = _ from e1);exact wpS_pure (q r st1 hs hr)
end
noncomputable def flp (lt:Nat->Nat->Bool) (x y:Nat):Bool:=lt y x
theorem Ord.flp {lt:Nat->Nat->Bool} (o:Ord lt):Ord (flp lt):=⟨λ a b h=>o.asym b a h,λ a b c h1 h2=>o.tran c b a h2 h1⟩
section
variable {f:Nat->Keyed} {lt:Nat->Nat->Bool} {pa pb:Array Nat} {out:Array Keyed} {na nb k:Nat}
theorem YO {l:List Nat} (h:l.Pairwise (Le lt)):l.reverse.Pairwise (Le (flp lt)):=by
 rw [List.pairwise_reverse];exact h
theorem Fb {l:List Nat} (h:l.Pairwise (Le (flp lt))):l.reverse.Pairwise (Le lt):=by
 rw [List.pairwise_reverse];exact h
theorem YH {p:Array Nat} (h:i < p.size):(p.toList.take (i + 1)).reverse = at' p i :: (p.toList.take i).reverse:=by
 rw [List.take_succ];simp [at',h]
def MH (f:Nat->Keyed) (lt:Nat->Nat->Bool) (pa pb:Array Nat) (out:Array Keyed) (na nb:Nat):Prop:=∃ po:Array Nat,out = po.map f /\ Mg (flp lt) po.toList (pa.toList.take na).reverse (pb.toList.take nb).reverse (pa.toList ++ pb.toList)
theorem MH.BN (o:Ord lt) (h:MH f lt pa pb out (na + 1) nb) (sa:pa.toList.Pairwise (Le lt)) (sb:pb.toList.Pairwise (Le lt)) (hi:na < pa.size) (hz:nb <= pb.size) (hx:0 < nb->Le lt (at' pb (nb - 1)) (at' pa na)):MH f lt pa pb (out.push (f (at' pa na))) na nb:=by
 obtain ⟨po,rfl,g⟩:=h;rw [YH hi] at g;refine ⟨po.push (at' pa na),by simp,?_⟩;rw [Array.toList_push];refine g.take o.flp (by rw [<- YH hi]; exact YO sa.take) (YO sb.take) λ z l e=>?_;cases nb with
 | zero=>cases e
 | succ nb=>
  rw [YH (by lia)] at e;cases e;exact hx (by lia)
theorem MH.Bu (o:Ord lt) (h:MH f lt pa pb out na (nb + 1)) (sa:pa.toList.Pairwise (Le lt)) (sb:pb.toList.Pairwise (Le lt)) (hi:nb < pb.size) (hz:na <= pa.size) (hx:0 < na->Le lt (at' pa (na - 1)) (at' pb nb)):MH f lt pa pb (out.push (f (at' pb nb))) na nb:=by
 obtain ⟨po,rfl,g⟩:=h;rw [YH hi] at g;refine ⟨po.push (at' pb nb),by simp,?_⟩;rw [Array.toList_push];refine (g.swap.take o.flp (by rw [<- YH hi]; exact YO sb.take) (YO sa.take) λ z l e=>?_).swap;cases na with
 | zero=>cases e
 | succ na=>
  rw [YH (by lia)] at e;cases e;exact hx (by lia)
theorem MH.Zds (o:Ord lt) (h:MH f lt pa pb out na nb) (sa:pa.toList.Pairwise (Le lt)) (sb:pb.toList.Pairwise (Le lt)) (h0:1 <= na) (hi:na <= pa.size) (hz:nb <= pb.size) (hx:0 < nb->Le lt (at' pb (nb - 1)) (at' pa (na - 1))):MH f lt pa pb (out.push (f (at' pa (na - 1)))) (na - 1) nb:=by
 obtain ⟨z,rfl⟩:∃ z,na = z + 1:=⟨na - 1,by lia⟩
 exact h.BN o sa sb (by lia) hz hx
theorem MH.Zdg (o:Ord lt) (h:MH f lt pa pb out na nb) (sa:pa.toList.Pairwise (Le lt)) (sb:pb.toList.Pairwise (Le lt)) (h0:1 <= nb) (hi:nb <= pb.size) (hz:na <= pa.size) (hx:0 < na->Le lt (at' pa (na - 1)) (at' pb (nb - 1))):MH f lt pa pb (out.push (f (at' pb (nb - 1)))) na (nb - 1):=by
 obtain ⟨z,rfl⟩:∃ z,nb = z + 1:=⟨nb - 1,by lia⟩
 exact h.Bu o sa sb (by lia) hz hx
theorem C3 {p:Array Nat} {a:Array Keyed} (e:a = p.map f) {k:Nat} (h:i + k < p.size + 1) (hk:0 < k) (out:Array Keyed):out ++ (a.extract i (i + k)).reverse = (out ++ (a.extract (i + 1) (i + k)).reverse).push (f (at' p i)):=by
 subst e;apply Array.toList_inj.mp;simp only [Array.toList_append,Array.toList_push,Array.toList_extract,Array.toList_map,Array.toList_reverse,List.append_assoc,List.extract_eq_take_drop]
 congr 1
 rw [show i + k - i = (i + k - (i + 1)) + 1 by lia,List.drop_eq_getElem_cons (show i < (List.map f p.toList).length by simp; lia),List.take_succ_cons,List.reverse_cons];have h1:i < p.size:=by lia
 simp [at',h1]
theorem GF {a:Array Keyed} (out:Array Keyed):out ++ (a.extract i i).reverse = out:=by
 apply Array.toList_inj.mp;simp [List.extract_eq_take_drop]
theorem MH.C4 (o:Ord lt) {a:Array Keyed} (ea:a = pa.map f) (sa:pa.toList.Pairwise (Le lt)) (sb:pb.toList.Pairwise (Le lt)) (hz:nb <= pb.size) {r:Nat} (h:MH f lt pa pb out (r + k) nb):(∀ i,r <= i->i < r + k->0 < nb->Le lt (at' pb (nb - 1)) (at' pa i))->r + k <= pa.size->MH f lt pa pb (out ++ (a.extract r (r + k)).reverse) r nb:=by
 induction k generalizing r with
 | zero=>intro _ _; rw [Nat.add_zero,GF]; exact h
 | succ k ih=>
  intro hx hk;rw [C3 ea (by lia) (by lia)];refine MH.BN o ?_ sa sb (by lia) hz (hx r (by lia) (by lia));have:=ih (r:=r + 1) (by rw [show r + 1 + k = r + (k + 1) by lia]; exact h) (λ i h1 h2=>hx i (by lia) (by lia)) (by lia)
  rwa [show r + 1 + k = r + (k + 1) by lia] at this
theorem MH.EW (o:Ord lt) {b:Array Keyed} (eb:b = pb.map f) (sa:pa.toList.Pairwise (Le lt)) (sb:pb.toList.Pairwise (Le lt)) (hz:na <= pa.size) {r:Nat} (h:MH f lt pa pb out na (r + k)):(∀ i,r <= i->i < r + k->0 < na->Le lt (at' pa (na - 1)) (at' pb i))->r + k <= pb.size->MH f lt pa pb (out ++ (b.extract r (r + k)).reverse) na r:=by
 induction k generalizing r with
 | zero=>intro _ _; rw [Nat.add_zero,GF]; exact h
 | succ k ih=>
  intro hx hk;rw [C3 eb (by lia) (by lia)];refine MH.Bu o ?_ sa sb (by lia) hz (hx r (by lia) (by lia));have:=ih (r:=r + 1) (by rw [show r + 1 + k = r + (k + 1) by lia]; exact h) (λ i h1 h2=>hx i (by lia) (by lia)) (by lia)
  rwa [show r + 1 + k = r + (k + 1) by lia] at this
theorem MH.bA (o:Ord lt) {a:Array Keyed} (ea:a = pa.map f) (h:MH f lt pa pb out na nb) (sa:pa.toList.Pairwise (Le lt)) (sb:pb.toList.Pairwise (Le lt)) (hz:nb <= pb.size) {r:Nat} (hr:r <= na) (hn:na <= pa.size) (hx:∀ i,r <= i->i < na->0 < nb->Le lt (at' pb (nb - 1)) (at' pa i)):MH f lt pa pb (out ++ (a.extract r na).reverse) r nb:=by
 obtain ⟨k,rfl⟩:∃ k,na = r + k:=⟨na - r,by lia⟩
 exact MH.C4 o ea sa sb hz h hx hn
theorem MH.bB (o:Ord lt) {b:Array Keyed} (eb:b = pb.map f) (h:MH f lt pa pb out na nb) (sa:pa.toList.Pairwise (Le lt)) (sb:pb.toList.Pairwise (Le lt)) (hz:na <= pa.size) {r:Nat} (hr:r <= nb) (hn:nb <= pb.size) (hx:∀ i,r <= i->i < nb->0 < na->Le lt (at' pa (na - 1)) (at' pb i)):MH f lt pa pb (out ++ (b.extract r nb).reverse) na r:=by
 obtain ⟨k,rfl⟩:∃ k,nb = r + k:=⟨nb - r,by lia⟩
 exact MH.EW o eb sa sb hz h hx hn
theorem Kl {p:Array Nat} {a:Array Keyed} (e:a = p.map f) (i:Nat):a.extract 0 i = (p.extract 0 i).map f /\ (p.extract 0 i).toList = p.toList.take i:=by
 subst e;refine ⟨by simp,?_⟩;rw [Array.toList_extract,List.extract_eq_take_drop];simp
theorem MH.done {a b:Array Keyed} (ea:a = pa.map f) (eb:b = pb.map f) (h:MH f lt pa pb out na nb) (sa:pa.toList.Pairwise (Le lt)) (sb:pb.toList.Pairwise (Le lt)) (he:na = 0 \/ nb = 0):Mgd f lt pa pb (a.extract 0 na ++ b.extract 0 nb ++ out.reverse):=by
 obtain ⟨po,rfl,g⟩:=h;obtain ⟨e1,e2⟩:=Kl ea na;obtain ⟨e3,e4⟩:=Kl eb nb;refine ⟨pa.extract 0 na ++ pb.extract 0 nb ++ po.reverse,by rw [e1,e3,Array.map_append,Array.map_append,Array.map_reverse],?_⟩;rw [Array.toList_append,Array.toList_append,e2,e4,Array.toList_reverse]
 rcases he with rfl | rfl
 ·have k:=g.swap.fin (YO sb.take);have e:List.take 0 pa.toList ++ List.take nb pb.toList ++ po.toList.reverse = (po.toList ++ (List.take nb pb.toList).reverse).reverse:=by simp
  rw [e];exact ⟨(List.reverse_perm _).trans k.1,Fb k.2⟩
 ·have k:=g.fin (YO sa.take);have e:List.take na pa.toList ++ List.take 0 pb.toList ++ po.toList.reverse = (po.toList ++ (List.take na pa.toList).reverse).reverse:=by simp
  rw [e];exact ⟨(List.reverse_perm _).trans k.1,Fb k.2⟩
theorem MH.first {a b:Array Keyed} (ea:a = pa.map f) (eb:b = pb.map f) (h:MH f lt pa pb out na 1) (sa:pa.toList.Pairwise (Le lt)) (b1:0 < pb.size) (hx:∀ y ∈ pa.toList,Le lt (at' pb 0) y):Mgd f lt pa pb (b.extract 0 1 ++ a.extract 0 na ++ out.reverse):=by
 obtain ⟨po,rfl,g⟩:=h;obtain ⟨e1,e2⟩:=Kl ea na;obtain ⟨e3,e4⟩:=Kl eb 1;refine ⟨pb.extract 0 1 ++ pa.extract 0 na ++ po.reverse,by rw [e1,e3,Array.map_append,Array.map_append,Array.map_reverse],?_⟩;rw [Array.toList_append,Array.toList_append,e2,e4,Array.toList_reverse];have e5:(pb.toList.take 1).reverse = [at' pb 0]:=by rw [YH b1]; simp
 rw [e5] at g;have k:=g.swap.last (YO sa.take) λ y hy=>hx y (List.mem_of_mem_take (List.mem_reverse.mp hy));have e:List.take 1 pb.toList ++ List.take na pa.toList ++ po.toList.reverse = (po.toList ++ (List.take na pa.toList).reverse ++ [at' pb 0]).reverse:=by
  rw [<- e5];simp
 rw [e];exact ⟨(List.reverse_perm _).trans k.1,Fb k.2⟩
end
section
variable {prog:Program} {E:Value->Shared->Prop} {κ:SortKind} {f:Nat->Keyed} {lt:Nat->Nat->Bool} {st:SortSt} {pa pb:Array Nat}
noncomputable def Hy:Array Keyed->Array Keyed->StateT SortSt Sem (Array Keyed):=sortPriv% PySem.Builtin.mergeHi
variable {a b out:Array Keyed} {na nb z:Nat} {γ:Type} {X Y:Keyed->StateT SortSt Sem γ} {Q:γ->SortSt->Prop}
def HiI (f:Nat->Keyed) (lt:Nat->Nat->Bool) (pa pb:Array Nat) (z:Nat) (out:Array Keyed) (na nb:Nat):Prop:=MH f lt pa pb out na nb /\ ((1 <= na /\ na <= pa.size) /\ 2 <= nb /\ nb <= pb.size) /\ z + (na + nb) <= pa.size + pb.size
theorem HiI.le {z':Nat} (h:HiI f lt pa pb z out na nb) (e:z' <= z):HiI f lt pa pb z' out na nb:=⟨h.1,h.2.1,Nat.le_trans (Nat.add_le_add_right e _) h.2.2⟩
theorem HiI.no (h:HiI f lt pa pb z out na nb):z < pa.size + pb.size:=Nat.lt_of_lt_of_le (Nat.lt_add_of_pos_right (Nat.lt_of_lt_of_le h.2.1.1.1 (Nat.le_add_right _ _))) h.2.2
theorem ps {x:Nat} (c:¬ (x == 0) = true):1 <= x:=Nat.pos_of_ne_zero λ z=>c (beq_iff_eq.mpr z)
theorem Mc.Zds (M:Mc prog w A s κ f lt n pa pb a b) (i:HiI f lt pa pb z out na nb) (hx:Le lt (at' pb (nb - 1)) (at' pa (na - 1))) (hX:Mgd f lt pa pb (a.extract 0 (na - 1) ++ b.extract 0 nb ++ (out.push (f (at' pa (na - 1)))).reverse)->wpS (model prog w) A E s (X (f (at' pa (na - 1)))) Q st)
  (hY:HiI f lt pa pb (z + 1) (out.push (f (at' pa (na - 1)))) (na - 1) nb->wpS (model prog w) A E s (Y (f (at' pa (na - 1)))) Q st):wpS (model prog w) A E s (elem' a (na - 1) >>= λ x=>if (na - 1 == 0) = true then X x else Y x) Q st:=by
 obtain ⟨m,⟨⟨a1,a2⟩,b1,b2⟩,g⟩:=i;have m:=m.Zds M.o M.sa M.sb a1 a2 b2 λ _=>hx;exact wpS_bind (ZI M.ea (Nat.sub_one_lt_of_le a1 a2) (Zn (λ c=>hX (m.done M.ea M.eb M.sa M.sb (.inl (beq_iff_eq.mp c)))) λ c=>hY ⟨m,⟨⟨ps c,Nat.le_trans (Nat.sub_le _ _) a2⟩,b1,b2⟩,by lia⟩))
theorem Mc.Zdg (M:Mc prog w A s κ f lt n pa pb a b) (hf:∀ y ∈ pa.toList,Le lt (at' pb 0) y) (i:HiI f lt pa pb z out na nb) (hx:Le lt (at' pa (na - 1)) (at' pb (nb - 1))) (hX:Mgd f lt pa pb (b.extract 0 (nb - 1) ++ a.extract 0 na ++ (out.push (f (at' pb (nb - 1)))).reverse)->wpS (model prog w) A E s (X (f (at' pb (nb - 1)))) Q st)
  (hY:HiI f lt pa pb (z + 1) (out.push (f (at' pb (nb - 1)))) na (nb - 1)->wpS (model prog w) A E s (Y (f (at' pb (nb - 1)))) Q st):wpS (model prog w) A E s (elem' b (nb - 1) >>= λ x=>if (nb - 1 == 1) = true then X x else Y x) Q st:=by
 obtain ⟨m,⟨⟨a1,a2⟩,b1,b2⟩,g⟩:=i;have m:=m.Zdg M.o M.sa M.sb (Nat.le_of_succ_le b1) b2 a2 λ _=>hx;refine wpS_bind (ZI M.eb (Nat.sub_one_lt_of_le (Nat.le_of_succ_le b1) b2) (Zn (λ c=>hX ?_) λ c=>hY ⟨m,⟨⟨a1,a2⟩,?_,Nat.le_trans (Nat.sub_le _ _) b2⟩,by lia⟩))
 ·rw [beq_iff_eq.mp c] at m ⊢;exact m.first M.ea M.eb M.sa M.b1 hf
 ·have c:¬ nb - 1 = 1:=λ z=>c (beq_iff_eq.mpr z);lia
set_option maxHeartbeats 4000000 in
theorem Ub (M:Mc prog w A s κ f lt n pa pb a b) (hk:kindOf st = κ) (hf:∀ y ∈ pa.toList,Le lt (at' pb 0) y) (hl:Le lt (at' pb (pb.size - 1)) (at' pa (pa.size - 1))) {Q:Array Keyed->SortSt->Prop} (q:∀ r st',Sm st st'->Mgd f lt pa pb r->Q r st'):wpS (model prog w) A E s (Hy a b) Q st:=by
 have a1:=M.a1;have za:=M.za;have zb:=M.zb;have m0:MH f lt pa pb #[f (at' pa (a.size - 1))] (a.size - 1) b.size:=by
  rw [za,zb];exact MH.BN (out:=#[]) M.o ⟨#[],by simp,⟨by rw [Nat.sub_add_cancel a1,List.take_of_length_le (by simp),List.take_of_length_le (by simp)]; exact (List.reverse_perm pa.toList).append (List.reverse_perm pb.toList),by simp,λ x hx=>nomatch hx⟩⟩ M.sa M.sb (Nat.sub_one_lt_of_le a1 (Nat.le_refl _)) (Nat.le_refl _) λ _=>hl
 have zz:∀ {x:Nat} {o:Array Keyed} {i j:Nat},¬ HiI f lt pa pb (x + max 0 (a.size + b.size)) o i j:=λ h=>absurd (h.le (Nat.le_add_left _ _)).no (by lia);have b1:=M.b1;refine wpS_bind (wpS_lift (wpAny_rule ⟨rfl,wpS_bind (ZI M.ea (by lia) (Zn (λ c=>wpS_pure (q _ _ Sm.refl (m0.done M.ea M.eb M.sa M.sb (.inl (beq_iff_eq.mp c))))) λ c=>Zn (λ c2=>?_) λ c2=>wpS_bind (wpS_get (wpS_bind (wpS_mono (wpS_forRange (I:=λ x c st'=>Sm st st' /\ c.1 = none /\ HiI f lt pa pb (0 + x) c.2.2.2.1 c.2.1 c.2.2.1) (Q:=λ c st'=>Sm st st' /\ ∃ r,c.1 = some r /\ Mgd f lt pa pb r) ?_ ?_ ⟨Sm.refl,rfl,m0,⟨⟨ps c,?_⟩,?_⟩,?_⟩) ?_)))))⟩))
 ·have c:=beq_iff_eq.mp c2;rw [c] at m0;exact wpS_pure (q _ _ Sm.refl (c.symm ▸ m0.first M.ea M.eb M.sa b1 hf))
 ·rintro x c st1 _ hx ⟨hs,e1,i1⟩
  refine wpS_bind (wpS_mono (wpS_forRange (I:=λ y c st'=>st1 = st' /\ c.1 = none /\ HiI f lt pa pb (x + y) c.2.2.2.1 c.2.1 c.2.2.1)
   (Q:=λ c st'=>st1 = st' /\ ((∃ r,c.1 = some r /\ Mgd f lt pa pb r) \/ (c.1 = none /\ HiI f lt pa pb x c.2.2.2.1 c.2.1 c.2.2.1))) ?_ ?_ ⟨rfl,rfl,i1.le (by lia)⟩) ?_)
  ·rintro y c _ _ hy ⟨rfl,e2,i2⟩;have l1:=Nat.sub_one_lt_of_le i2.2.1.1.1 i2.2.1.1.2;have l2:=Nat.sub_one_lt_of_le (Nat.le_of_succ_le i2.2.1.2.1) i2.2.1.2.2;refine wpS_bind (ZI M.eb l2 (wpS_bind (ZI M.ea l1 (wpS_bind (K9 M.h (hs.kd.trans hk) (M.bn _ l2) (M.an _ l1) (Zn (λ hw=>M.Zds i2 (M.o.asym _ _ hw) (λ m=>wpS_pure ⟨rfl,.inl ⟨_,rfl,m⟩⟩) λ i3=>?_) λ hw=>M.Zdg hf i2 (Le.not hw) (λ m=>wpS_pure ⟨rfl,.inl ⟨_,rfl,m⟩⟩) λ i3=>?_))))))
   all_goals exact Zn (λ _=>wpS_pure ⟨rfl,.inr ⟨rfl,i3.le (Nat.le_add_right x (y + 1))⟩⟩) λ _=>wpS_pure ⟨rfl,rfl,i3⟩
  ·rintro c _ ⟨rfl,e2,i2⟩;exact (zz i2).elim
  ·rintro ⟨c1,c⟩ _ ⟨rfl,⟨r,e2,hr⟩ | ⟨e2,i2⟩⟩
   ·cases (show c1 = _ from e2);exact wpS_pure ⟨hs,r,rfl,hr⟩
   ·cases (show c1 = _ from e2)
    refine wpS_bind (wpS_lift (wpAny_rule ⟨rfl,wpS_bind (wpS_mono (wpS_forRange (I:=λ y c st'=>Sm st st' /\ c.1 = none /\ HiI f lt pa pb (x + y) c.2.2.2.1 c.2.1 c.2.2.1)
     (Q:=λ c st'=>Sm st st' /\ ((∃ r,c.1 = some r /\ Mgd f lt pa pb r) \/ (c.1 = none /\ HiI f lt pa pb (0 + (x + 1)) c.2.2.2.1 c.2.1 c.2.2.1))) ?_ ?_ ⟨hs,rfl,i2⟩) ?_)⟩))
    ·rintro y ⟨_,ka,kb,out,mg2,ac,bc⟩ st2 _ hy ⟨hs2,e2,m2,⟨⟨a2,a3⟩,b3,b2⟩,g5⟩;dsimp only at m2 a2 a3 b2 b3 g5 ⊢;clear i2 hs e2 i1 e1;apply G0 (st:=st2)
     ·intro go;refine Zn (λ _=>wpS_bind (Xt λ st3 hs3=>?_)) λ _=>wpS_bind (Xt λ st3 hs3=>?_)
      ·generalize mg2 - 1 = m;exact go m st3 hs3
      ·exact go mg2 st3 hs3
     intro mg3 st3 hs3;have hk3:=hs3.kd.trans (hs2.kd.trans hk);have hs4:=hs2.trans hs3;have l2:=Nat.sub_one_lt_of_le (Nat.le_of_succ_le b3) b2;refine wpS_bind (ZI M.eb l2 (wpS_bind (QF M.h hk3 M.ea (M.bn _ l2) M.an (by lia) (by lia) (Zas M.o M.sa (by lia)) λ k k1 k2 k3=>?_)));have m4:=m2.bA (r:=k) M.o M.ea M.sa M.sb b2 k1 a3 λ i h1 h2 _=>Nat.zero_add i ▸ B9 M.o (k3 i h1 h2);have aft:=λ z:1 <= k=>C7 (k2 (k - 1) (Nat.sub_one_lt_of_le z (Nat.le_refl _)));rw [Nat.zero_add] at aft;apply V5 (st:=st3) (λ o i=>HiI f lt pa pb (x + y) o i kb /\ Le lt (at' pa (i - 1)) (at' pb (kb - 1)))
     ·intro go;refine Zn (λ c3=>Zn (λ c4=>?_) λ c4=>?_) λ c3=>?_
      ·exact wpS_pure ⟨hs4,.inl ⟨_,rfl,m4.done M.ea M.eb M.sa M.sb (.inl (beq_iff_eq.mp c4))⟩⟩
      ·have iT:HiI f lt pa pb (x + y) (out ++ (a.extract k ka).reverse) k kb:=⟨m4,⟨⟨ps c4,Nat.le_trans k1 a3⟩,b3,b2⟩,Nat.le_trans (Nat.add_le_add_left (Nat.add_le_add_right k1 _) _) g5⟩
       have aT:=aft (ps c4);generalize out ++ (a.extract k ka).reverse = o2 at iT ⊢;generalize k = i2 at iT aT ⊢;exact go o2 i2 ⟨iT,aT⟩
      ·have kz:k = ka:=Nat.le_antisymm k1 (Nat.le_of_sub_eq_zero (Nat.eq_zero_of_not_pos c3));subst kz;exact go out k ⟨⟨m2,⟨⟨a2,a3⟩,b3,b2⟩,g5⟩,aft a2⟩
     clear m2 a2 a3 b2 b3 g5 k1 k2 k3 m4 aft l2;rintro o2 k4 ⟨iT,aT⟩;refine M.Zdg hf iT aT (λ m=>wpS_pure ⟨hs4,.inl ⟨_,rfl,m⟩⟩) λ ⟨m5,⟨⟨a2,a3⟩,b3,b2⟩,g5⟩=>wpS_bind (ZI M.ea (Nat.sub_one_lt_of_le a2 a3) (wpS_bind (QF M.h hk3 M.eb (M.an _ (Nat.sub_one_lt_of_le a2 a3)) M.bn (by lia) (by lia) (ZaQ M.o M.sb (by lia)) λ j j1 j2 j3=>?_)));have m6:=m5.bB (r:=j) M.o M.eb M.sa M.sb a3 j1 b2 λ i h1 h2 _=>Nat.zero_add i ▸ We (j3 i h1 h2);have b6:=λ z:1 <= j=>Sj M.o (j2 (j - 1) (Nat.sub_one_lt_of_le z (Nat.le_refl _)));rw [Nat.zero_add] at b6;apply V5 (st:=st3) (λ o i=>HiI f lt pa pb (x + y + 1) o k4 i /\ Le lt (at' pb (i - 1)) (at' pa (k4 - 1)))
     ·intro go;refine Zn (λ c3=>Zn (λ c4=>?_) λ c4=>Zn (λ c5=>?_) λ c5=>?_) λ c3=>?_
      ·cases beq_iff_eq.mp c4;exact wpS_pure ⟨hs4,.inl ⟨_,rfl,m6.first M.ea M.eb M.sa b1 hf⟩⟩
      ·exact wpS_pure ⟨hs4,.inl ⟨_,rfl,m6.done M.ea M.eb M.sa M.sb (.inr (beq_iff_eq.mp c5))⟩⟩
      ·have c4:¬ j = 1:=λ z=>c4 (beq_iff_eq.mpr z);have iT:HiI f lt pa pb (x + y + 1) (o2.push (f (at' pb (kb - 1))) ++ (b.extract j (kb - 1)).reverse) k4 j:=⟨m6,⟨⟨a2,a3⟩,Nat.lt_of_le_of_ne (ps c5) (Ne.symm c4),Nat.le_trans j1 b2⟩,Nat.le_trans (Nat.add_le_add_left (Nat.add_le_add_left j1 _) _) g5⟩
       have aT:=b6 (ps c5);generalize o2.push (f (at' pb (kb - 1))) ++ (b.extract j (kb - 1)).reverse = o3 at iT ⊢;generalize j = i2 at iT aT ⊢;exact go o3 i2 ⟨iT,aT⟩
      ·have kz:j = kb - 1:=Nat.le_antisymm j1 (Nat.le_of_sub_eq_zero (Nat.eq_zero_of_not_pos c3));subst kz;exact go _ _ ⟨⟨m5,⟨⟨a2,a3⟩,b3,b2⟩,g5⟩,b6 (Nat.le_of_succ_le b3)⟩
     rintro o3 j4 ⟨i6,a6⟩;exact M.Zds i6 a6 (λ m=>wpS_pure ⟨hs4,.inl ⟨_,rfl,m⟩⟩) λ i7=>Zn (λ _=>wpS_pure ⟨hs4,.inr ⟨rfl,i7.le (by lia)⟩⟩) λ _=>wpS_pure ⟨hs4,rfl,i7.le (Nat.le_succ _)⟩
    ·rintro c _ ⟨_,e2,i2⟩;exact (zz i2).elim
    ·rintro ⟨c1,c⟩ st2 ⟨hs2,⟨r,e2,hr⟩ | ⟨e2,i2⟩⟩
     ·cases (show c1 = _ from e2);exact wpS_pure ⟨hs2,r,rfl,hr⟩
     ·cases (show c1 = _ from e2);exact wpS_bind (Xt λ st3 hs3=>wpS_pure ⟨hs2.trans hs3,rfl,i2⟩)
 ·rintro c st1 ⟨hs,e1,i1⟩;exact (zz i1).elim
 ·show a.size - 1 <= pa.size;lia
 ·have c2:¬ b.size = 1:=λ z=>c2 (beq_iff_eq.mpr z);show 2 <= b.size /\ b.size <= pb.size;lia
 ·show 0 + 0 + (a.size - 1 + b.size) <= _;lia
 ·rintro ⟨c1,c⟩ st1 ⟨hs,r,e1,hr⟩;cases (show c1 = _ from e1);exact wpS_pure (q r st1 hs hr)
end
section
variable {lt:Nat->Nat->Bool} {p:Array Nat} {lo:Nat}
def Sg (lt:Nat->Nat->Bool) (p:Array Nat) (lo m:Nat):Prop:=∀ i j,i <= j->j < m->Le lt (at' p (lo + i)) (at' p (lo + j))
abbrev Dg (lt:Nat->Nat->Bool) (p:Array Nat) (lo m:Nat):Prop:=Sg (flp lt) p lo m
def Bk (lt:Nat->Nat->Bool) (p:Array Nat) (lo a b:Nat):Prop:=∀ i j,a <= i->i < b->a <= j->j < b->Le lt (at' p (lo + i)) (at' p (lo + j))
theorem Sg.one (o:Ord lt):Sg lt p lo 1:=λ i j h1 h2=>by
 rw [show i = j by lia];exact o.refl _
theorem Sg.snoc (o:Ord lt) (h:Sg lt p lo m) (h1:1 <= m) (hl:Le lt (at' p (lo + m - 1)) (at' p (lo + m))):Sg lt p lo (m + 1):=λ i j hij hj=>by
 by_cases e:j = m
 ·subst e
  by_cases e2:i = j
  ·rw [e2];exact o.refl _
  ·have:=h i (j - 1) (by lia) (by lia);rw [show lo + (j - 1) = lo + j - 1 by lia] at this;exact o.tran _ _ _ this hl
 ·exact h i j hij (by lia)
theorem Sg.congr {p':Array Nat} (h:Sg lt p lo m) (e:∀ k,k < m->at' p' (lo + k) = at' p (lo + k)):Sg lt p' lo m:=λ i j hij hj=>by
 rw [e i (by lia),e j hj];exact h i j hij hj
theorem Sg.rev (h:Sg lt p lo m) (hz:lo + m <= p.size):Sg (flp lt) (kas_rev p lo (lo + m)) lo m:=λ i j hij hj=>by
 rw [Xf hz,Xf hz,if_pos (by lia),if_pos (by lia)];have:=h (m - 1 - j) (m - 1 - i) (by lia) (by lia)
 rwa [show lo + (m - 1 - i) = lo + (lo + m) - 1 - (lo + i) by lia,show lo + (m - 1 - j) = lo + (lo + m) - 1 - (lo + j) by lia] at this
theorem Dg.blk {a b:Nat} (h:Dg lt p lo m) (hb:Bk lt p lo a b) (hm:b <= m) (hab:a <= b) (hz:lo + m <= p.size):Dg lt (kas_rev p (lo + a) (lo + b)) lo m:=λ i j hij hj=>by
 have key:∀ k,k < m->∃ k',at' (kas_rev p (lo + a) (lo + b)) (lo + k) = at' p (lo + k') /\ k' < m /\ ((a <= k /\ k < b /\ a <= k' /\ k' < b) \/ (k' = k /\ ¬ (a <= k /\ k < b))):=λ k hk=>by
  rw [Xf (by lia)]
  by_cases c:a <= k /\ k < b
  ·rw [if_pos (by lia)];exact ⟨a + b - 1 - k,by rw [show lo + a + (lo + b) - 1 - (lo + k) = lo + (a + b - 1 - k) by lia],by lia,.inl (by lia)⟩
  ·rw [if_neg (by lia)];exact ⟨k,rfl,hk,.inr ⟨rfl,c⟩⟩
 obtain ⟨i',e1,h1,h2⟩:=key i (by lia);obtain ⟨j',e2,h3,h4⟩:=key j hj;rw [e1,e2]
 by_cases c:i' <= j'
 ·exact h i' j' c h3
 ·exact hb j' i' (by lia) (by lia) (by lia) (by lia)
def Out (p p':Array Nat) (lo nrem:Nat):Prop:=∀ k,(k < lo \/ lo + nrem <= k)->at' p' k = at' p k
theorem Out.refl {nrem:Nat}:Out p p lo nrem:=λ _ _=>rfl
theorem Out.rev {p1:Array Nat} {nrem a b:Nat} (h:Out p p1 lo nrem) (ha:lo <= a) (hb:b <= lo + nrem) (hz:b <= p1.size):Out p (kas_rev p1 a b) lo nrem:=λ k hk=>by
 rw [Xf hz,if_neg (by lia)];exact h k hk
end
section
variable {prog:Program} {E:Value->Shared->Prop} {κ:SortKind} {f:Nat->Keyed} {lt:Nat->Nat->Bool} {p:Array Nat} {pd:Array (Nat × Nat × Nat)} {g lo nrem:Nat}
noncomputable abbrev SS (κ:SortKind) (f:Nat->Keyed) (p:Array Nat) (pd:Array (Nat × Nat × Nat)) (g:Nat):SortSt:=SortSt.mk' κ (p.map f) pd g none
theorem Xy (h:Ans prog w A s κ f lt n) (hp:Pm n p) (hi:i < n) (hj:j < n) {Q:Option Bool->SortSt->Prop} (q:Q (some (lt (at' p i) (at' p j))) (SS κ f p pd g)):wpS (model prog w) A E s (ltAt' i j) Q (SS κ f p pd g):=by
 rw [ltAt'_eq];have hz:=hp.size;refine wpS_bind (wpS_get ?_);exact wpS_bind (ZI (p:=p) rfl (by lia) (wpS_bind (ZI (p:=p) rfl (by lia) (K9 h rfl (hp.below hi) (hp.below hj) q))))
theorem Kh {Q:Unit->SortSt->Prop} (q:Q () (SS κ f (kas_rev p i j) pd g)):wpS (model prog w) A E s (reverseSlice' i j) Q (SS κ f p pd g):=by
 rw [reverseSlice'_eq];refine wpS_modify ?_;have e1:mirror (p.map f) i j ((j - i) / 2) = (mirror p i j ((j - i) / 2)).map f:=kas_swaps_map f (λ k=>i + k) (λ k=>j - 1 - k) _ p;show Q () (SortSt.mk' κ (mirror (p.map f) i j ((j - i) / 2)) pd g none);rw [e1];exact q
theorem Hh {k l:Nat} {Q:Unit->SortSt->Prop} (q:Q () (SS κ f (bubble p k (k - l)) pd g)):wpS (model prog w) A E s (moveDown' k l) Q (SS κ f p pd g):=by
 rw [moveDown'_eq];refine wpS_modify ?_;have e1:bubble (p.map f) k (k - l) = (bubble p k (k - l)).map f:=kas_swaps_map f (λ i=>k - i) (λ i=>k - i - 1) _ p;show Q () (SortSt.mk' κ (bubble (p.map f) k (k - l)) pd g none);rw [e1];exact q
theorem U9 {γ:Type} {X:StateT SortSt Sem γ} {Q:γ->SortSt->Prop} (R:Array Nat->Prop) {goal:Prop} (k:(∀ p',R p'->wpS (model prog w) A E s X Q (SS κ f p' pd g))->goal) (h:∀ p',R p'->wpS (model prog w) A E s X Q (SS κ f p' pd g)):goal:=k h
def CI (lt:Nat->Nat->Bool) (n:Nat) (p:Array Nat) (lo nrem:Nat) (p2:Array Nat) (x k:Nat):Prop:=Pm n p2 /\ Out p p2 lo nrem /\ (k + 1 <= x /\ x <= nrem) /\ Dg lt p2 lo x /\ Bk lt p2 lo (x - (k + 1)) x
theorem bk1 (o:Ord lt) {x:Nat}:Bk lt p lo (x - (0 + 1)) x:=λ i j _ _ _ _=>by
 rw [show i = j by lia];exact o.refl _
variable {p2:Array Nat} {x k:Nat}
theorem CI.flat (o:Ord lt) (hz:lo + nrem <= n) (hx:x <= m) (hm:m <= nrem) (d:Dg lt p2 lo m) (h:CI lt n p lo nrem p2 x k):CI lt n p lo nrem (kas_rev p2 (lo + x - (k + 1)) (lo + x)) m 0:=by
 obtain ⟨e1,e2,⟨e3,e4⟩,e5,e6⟩:=h;have z2:=e1.size;have e:lo + (x - (k + 1)) = lo + x - (k + 1):=by lia
 exact ⟨e1.rev _ _,e2.rev (by lia) (Nat.add_le_add_left e4 _) (by lia),⟨by lia,hm⟩,e ▸ Dg.blk d e6 hx (Nat.sub_le _ _) (by lia),bk1 o⟩
theorem CI.down (o:Ord lt) (h:CI lt n p lo nrem p2 x k) (l:x < nrem) (c:lt (at' p2 (lo + x)) (at' p2 (lo + x - 1)) = true):CI lt n p lo nrem p2 (x + 1) 0:=
 ⟨h.1,h.2.1,⟨Nat.succ_le_succ (Nat.zero_le _),l⟩,Sg.snoc o.flp h.2.2.2.1 (Nat.le_trans (Nat.le_add_left _ _) h.2.2.1.1) (o.asym _ _ c),bk1 o⟩
theorem CI.same (o:Ord lt) (h:CI lt n p lo nrem p2 x k) (l:x < nrem) (c:¬ lt (at' p2 (lo + x)) (at' p2 (lo + x - 1)) = true) (c2:¬ lt (at' p2 (lo + x - 1)) (at' p2 (lo + x)) = true):CI lt n p lo nrem p2 (x + 1) (k + 1):=by
 obtain ⟨e1,e2,⟨e3,e4⟩,e5,e6⟩:=h;refine ⟨e1,e2,⟨Nat.succ_le_succ e3,l⟩,Sg.snoc o.flp e5 (Nat.le_trans (Nat.le_add_left _ _) e3) (Le.not c2),λ i j a1 a2 a3 a4=>?_⟩;rw [Nat.add_sub_add_right] at a1 a3;have e:lo + x - 1 = lo + (x - 1):=by lia
 have le1:=e ▸ Le.not c;have le2:=e ▸ Le.not c2;have l1:x - (k + 1) <= x - 1:=by lia
 have l2:x - 1 < x:=by lia
 by_cases ci:i = x
 ·subst ci
  by_cases cj:j = i
  ·rw [cj];exact o.refl _
  ·exact o.tran _ _ _ le2 (e6 _ j l1 l2 a3 (by lia))
 ·by_cases cj:j = x
  ·subst cj;exact o.tran _ _ _ (e6 i _ a1 (by lia) l1 l2) le1
  ·exact e6 i j a1 (by lia) a3 (by lia)
theorem Ox (h:Ans prog w A s κ f lt n) (o:Ord lt) (hp:Pm n p) (h1:1 <= m) (hm:m <= nrem) (hz:lo + nrem <= n) (sg:Sg lt p lo m) {F:Nat->Option (Option Nat) × Nat->StateT SortSt Sem (ForInStep (Option (Option Nat) × Nat))} {Q:Option (Option Nat) × Nat->SortSt->Prop}
  (hF:∀ x,x < nrem->∀ {R:ForInStep (Option (Option Nat) × Nat)->SortSt->Prop},(lt (at' p (lo + x)) (at' p (lo + x - 1)) = true->R (.done (none,x)) (SS κ f p pd g))->(¬ lt (at' p (lo + x)) (at' p (lo + x - 1)) = true->R (.yield (none,x + 1)) (SS κ f p pd g))->wpS (model prog w) A E s (F x (none,x)) R (SS κ f p pd g))
  (q:∀ m,1 <= m->m <= nrem->Sg lt p lo m->(m = nrem \/ lt (at' p (lo + m)) (at' p (lo + m - 1)) = true)->Q (none,m) (SS κ f p pd g)):wpS (model prog w) A E s (forIn [m:nrem] (none,m) F) Q (SS κ f p pd g):=by
 refine wpS_forRange (I:=λ x c st'=>SS κ f p pd g = st' /\ c = (none,x) /\ 1 <= x /\ x <= nrem /\ Sg lt p lo x) ?_ ?_ ⟨rfl,rfl,h1,hm,sg⟩
 ·rintro x _ _ _ hx ⟨rfl,rfl,x1,x2,x3⟩;exact hF x hx (λ c=>q x x1 x2 x3 (.inr c)) λ c=>⟨rfl,rfl,Nat.le_succ_of_le x1,hx,x3.snoc o x1 (Le.not c)⟩
 ·rintro _ _ ⟨rfl,rfl,x1,x2,x3⟩;exact q _ x1 x2 x3 (.inl (Nat.le_antisymm x2 (Nat.le_max_right _ _)))
set_option maxHeartbeats 4000000 in
theorem Eo (h:Ans prog w A s κ f lt n) (o:Ord lt) (hp:Pm n p) (h1:1 <= nrem) (hz:lo + nrem <= n) {Q:Option Nat->SortSt->Prop}
  (q:∀ m p',1 <= m->m <= nrem->Pm n p'->Out p p' lo nrem->Sg lt p' lo m->Q (some m) (SS κ f p' pd g)):wpS (model prog w) A E s (countRun' lo nrem) Q (SS κ f p pd g):=by
 have l1:∀ {x},x < nrem->lo + x < n:=λ h=>Nat.lt_of_lt_of_le (Nat.add_lt_add_left h _) hz;have l2:∀ {x},x < nrem->lo + x - 1 < n:=λ h=>Nat.lt_of_le_of_lt (Nat.sub_le _ _) (l1 h);refine wpS_bind (Ox h o hp (Nat.le_refl 1) h1 hz (Sg.one o) (λ x hx _ r1 r2=>wpS_bind (Xy h hp (l1 hx) (l2 hx) (Zn (λ c=>wpS_pure (r1 c)) λ c=>wpS_pure (r2 c)))) λ m m1 m2 m3 m4=>Zn (λ c=>wpS_pure (q m p m1 m2 hp Out.refl m3)) λ c=>?_);have c:¬ m = nrem:=λ z=>c (beq_iff_eq.mpr z);have m5:lt (at' p (lo + m)) (at' p (lo + m - 1)) = true:=m4.resolve_left c;have m6:m < nrem:=Nat.lt_of_le_of_ne m2 c;have z1:=hp.size;clear m4;apply U9 (pd:=pd) (g:=g) λ p'=>CI lt n p lo nrem p' (m + 1) 0
 ·intro go;refine Zn (λ c2=>wpS_bind (Xy h hp (by lia) (l2 m6) (Zn (λ c3=>wpS_pure (q m p m1 m2 hp Out.refl m3)) λ c3=>wpS_bind (Kh (go _ ?_))))) λ c2=>go _ ?_
  ·refine ⟨hp.rev _ _,Out.refl.rev (Nat.le_refl _) (Nat.add_le_add_left m2 _) (by lia),⟨Nat.succ_le_succ (Nat.zero_le _),m6⟩,Sg.snoc o.flp (m3.rev (by lia)) m1 ?_,bk1 o⟩;show Le lt _ _;rw [Xf (by lia),Xf (by lia),if_neg (by lia),if_pos (by lia),show lo + (lo + m) - 1 - (lo + m - 1) = lo by lia];exact o.tran _ _ _ (o.asym _ _ m5) (Le.not c3)
  ·cases (show m = 1 by lia);exact CI.down o (k:=0) ⟨hp,Out.refl,⟨Nat.le_refl _,h1⟩,Sg.one o.flp,bk1 o⟩ m6 m5
 intro p1 i1;refine wpS_bind (wpS_lift (wpAny_rule ⟨rfl,wpS_bind (wpS_mono (wpS_forRange (I:=λ x c st'=>∃ p2 k,SS κ f p2 pd g = st' /\ c = (none,x,k) /\ CI lt n p lo nrem p2 x k) (Q:=λ c st'=>∃ p2 x k,SS κ f p2 pd g = st' /\ c = (none,x,k) /\ CI lt n p lo nrem p2 x k) ?_ ?_ ⟨p1,0,rfl,rfl,i1⟩) ?_)⟩))
 ·rintro x _ _ _ hx ⟨p2,k,rfl,rfl,i2⟩;refine wpS_bind (Xy h i2.1 (l1 hx) (l2 hx) (Zn (λ c=>?_) λ c=>wpS_bind (Xy h i2.1 (l2 hx) (l1 hx) (Zn (λ c2=>wpS_pure ⟨p2,x,k,rfl,rfl,i2⟩) λ c2=>wpS_pure ⟨p2,k + 1,rfl,rfl,i2.same o hx c c2⟩))));have i3:=i2.down o hx c;exact Zn (λ c2=>wpS_bind (Kh (wpS_pure ⟨_,0,rfl,rfl,i2.flat o hz (Nat.le_succ _) hx i3.2.2.2.1⟩))) λ c2=>wpS_pure ⟨p2,0,rfl,rfl,i3⟩
 ·rintro _ _ ⟨p2,k,rfl,rfl,i2⟩;exact ⟨p2,_,k,rfl,rfl,i2⟩
 ·rintro _ _ ⟨p2,m5,k,rfl,rfl,i2⟩;apply U9 (pd:=pd) (g:=g) λ p'=>∃ k,CI lt n p lo nrem p' m5 k
  ·intro go;exact Zn (λ c2=>wpS_bind (Kh (go _ ⟨_,i2.flat o hz (Nat.le_refl _) i2.2.2.1.2 i2.2.2.2.1⟩))) λ c2=>go _ ⟨_,i2⟩
  rintro p3 ⟨k3,e1,e2,⟨e3,e4⟩,e5,e6⟩;have z2:=e1.size;have n1:=Nat.le_trans (Nat.le_add_left _ _) e3;exact wpS_bind (Kh (wpS_bind (Ox h o (e1.rev _ _) n1 e4 hz (e5.rev (by lia)) (λ x hx _ r1 r2=>wpS_bind (Xy h (e1.rev _ _) (l1 hx) (l2 hx) (Zn (λ c=>wpS_pure (r1 c)) λ c=>wpS_pure (r2 c)))) λ mm n1 n2 n3 _=>wpS_pure (q mm _ n1 n2 (e1.rev _ _) (e2.rev (Nat.le_refl _) (Nat.add_le_add_left e4 _) (by lia)) n3))))
end
section
variable {prog:Program} {E:Value->Shared->Prop} {κ:SortKind} {f:Nat->Keyed} {lt:Nat->Nat->Bool} {p:Array Nat} {pd:Array (Nat × Nat × Nat)} {g lo nrem:Nat}
set_option maxHeartbeats 4000000 in
theorem BB (h:Ans prog w A s κ f lt n) (o:Ord lt) (hp:Pm n p) {ok:Nat} (h1:1 <= ok) (h2:ok <= nrem) (hz:lo + nrem <= n) (hs:Sg lt p lo ok) {Q:Bool->SortSt->Prop}
  (q:∀ p',Pm n p'->Out p p' lo nrem->Sg lt p' lo nrem->Q true (SS κ f p' pd g)):wpS (model prog w) A E s (binarySort' lo nrem ok) Q (SS κ f p pd g):=by
 refine wpS_bind (wpS_mono (wpS_forRange (I:=λ x c st'=>∃ p2,SS κ f p2 pd g = st' /\ c.1 = none /\ Pm n p2 /\ Out p p2 lo nrem /\ (1 <= x /\ x <= nrem) /\ Sg lt p2 lo x)
  (Q:=λ c st'=>∃ p2,SS κ f p2 pd g = st' /\ c.1 = none /\ Pm n p2 /\ Out p p2 lo nrem /\ Sg lt p2 lo nrem) ?_ ?_ ⟨p,rfl,rfl,hp,Out.refl,⟨by lia,by lia⟩,by rw [show max ok 1 = ok by lia]; exact hs⟩) ?_)
 ·rintro k ⟨c1,c2⟩ _ k0 hk ⟨p2,rfl,e0,e1,e2,⟨e3,e4⟩,e5⟩;have z2:=e1.size;dsimp only at e0 ⊢
  refine wpS_bind (wpS_mono (wpS_forRange (I:=λ x c st'=>SS κ f p2 pd g = st' /\ ∃ l r,c = (none,l,r) /\ l <= r /\ r <= k /\ r - l + x <= k /\ (∀ i,i < l->Le lt (at' p2 (lo + i)) (at' p2 (lo + k))) /\ (∀ i,r <= i->i < k->Le lt (at' p2 (lo + k)) (at' p2 (lo + i))))
   (Q:=λ c st'=>SS κ f p2 pd g = st' /\ ∃ l r,c = (none,l,r) /\ l <= k /\ (∀ i,i < l->Le lt (at' p2 (lo + i)) (at' p2 (lo + k))) /\ (∀ i,l <= i->i < k->Le lt (at' p2 (lo + k)) (at' p2 (lo + i)))) ?_ ?_ ⟨rfl,0,k,rfl,by lia,by lia,by lia,λ i z=>absurd z (by lia),λ i z1 z2=>absurd z1 (by lia)⟩) ?_)
  ·rintro x c _ _ hx ⟨rfl,l,r,rfl,g1,g2,g3,g4,g5⟩;dsimp only;refine Zn (λ c=>wpS_pure ⟨rfl,l,r,rfl,by lia,g4,λ i z1 z2=>g5 i (by lia) z2⟩) λ c=>wpS_bind (Xy h e1 (by lia) (by lia) ?_);dsimp only;refine Zn (λ c2=>wpS_pure ⟨rfl,_,_,rfl,by lia,by lia,by lia,g4,λ i z1 z2=>?_⟩) λ c2=>wpS_pure ⟨rfl,_,_,rfl,by lia,by lia,by lia,λ i z1=>?_,g5⟩
   ·exact o.tran _ _ _ (o.asym _ _ c2) (e5 _ _ z1 z2)
   ·exact o.tran _ _ _ (e5 _ _ (show i <= (l + r) / 2 by lia) (by lia)) (show Le lt _ _ by simpa [Le] using c2)
  ·rintro c _ ⟨rfl,l,r,rfl,g1,g2,g3,g4,g5⟩;exact ⟨rfl,l,r,rfl,by lia,g4,λ i z1 z2=>g5 i (by lia) z2⟩
  ·rintro c _ ⟨rfl,l,r,rfl,g1,g4,g5⟩;dsimp only;refine wpS_bind (Hh (wpS_pure ⟨_,rfl,rfl,e1.bub _ _,λ u hu=>?_,⟨by lia,by lia⟩,λ i j hij hj=>?_⟩))
   ·rw [Ex (by lia) (by lia),if_neg (by lia),if_neg (by lia)];exact e2 u hu
   ·rw [Ex (by lia) (by lia),Ex (by lia) (by lia)]
    by_cases c1:i = l
    ·rw [if_pos (by lia)]
     by_cases c2:j = l
     ·rw [if_pos (by lia)];exact o.refl _
     ·rw [if_neg (by lia),if_pos (by lia),show lo + j - 1 = lo + (j - 1) by lia];exact g5 _ (by lia) (by lia)
    ·rw [if_neg (by lia)]
     by_cases c3:l < i
     ·rw [if_pos (by lia),if_neg (by lia),if_pos (by lia),show lo + i - 1 = lo + (i - 1) by lia,show lo + j - 1 = lo + (j - 1) by lia];exact e5 _ _ (by lia) (by lia)
     ·rw [if_neg (by lia)]
      by_cases c2:j = l
      ·rw [if_pos (by lia)];exact g4 _ (by lia)
      ·rw [if_neg (by lia)]
       by_cases c4:l < j
       ·rw [if_pos (by lia),show lo + j - 1 = lo + (j - 1) by lia];exact e5 _ _ (by lia) (by lia)
       ·rw [if_neg (by lia)];exact e5 _ _ (by lia) (by lia)
 ·rintro ⟨c1,c2⟩ _ ⟨p2,rfl,e0,e1,e2,⟨e3,e4⟩,e5⟩;rw [show max (max ok 1) nrem = nrem by lia] at e5;exact ⟨p2,rfl,e0,e1,e2,e5⟩
 ·rintro ⟨c1,c2⟩ _ ⟨p2,rfl,e0,e1,e2,e5⟩;dsimp only at e0 ⊢;subst e0;exact wpS_pure (q p2 e1 e2 e5)
end
theorem UR {α:Type} (b:Nat):∀ (L:List α) (k:Nat) (arr:Array α),b + k + L.length <= arr.size->((L.zipIdx k).foldl (λ a x=>a.setIfInBounds (b + x.2) x.1) arr).toList = arr.toList.take (b + k) ++ L ++ arr.toList.drop (b + k + L.length)
 | [],k,arr,_=>by simp
 | x :: L,k,arr,h=>by
  have h:b + k + (L.length + 1) <= arr.size:=h;rw [List.zipIdx_cons,List.foldl_cons,UR b L (k + 1) _ (by simp; lia)];dsimp only;rw [Array.toList_setIfInBounds,List.take_set,List.drop_set_of_lt (by lia),show b + (k + 1) = b + k + 1 by lia,List.length_cons,show b + k + 1 + L.length = b + k + (L.length + 1) by lia];have e:(arr.toList.take (b + k + 1)).set (b + k) x = arr.toList.take (b + k) ++ [x]:=by
   rw [List.take_succ,List.getElem?_eq_getElem (by simp; lia),Option.toList_some];rw [List.set_append_right _ _ (by simp; lia)];simp [show min (b + k) arr.size = b + k by lia]
  rw [e];simp
section
variable {lt:Nat->Nat->Bool} {p q:Array Nat} {a b:Nat}
theorem Q8 (hb:b <= p.size) (hi:a + i < b):at' (p.extract a b) i = at' p (a + i):=by
 have h1:a + i < p.size:=by lia
 show (p.extract a b).getD i 0 = p.getD (a + i) 0;rw [Array.getD_eq_getD_getElem?,Array.getD_eq_getD_getElem?,Array.getElem?_extract,if_pos (by lia)]
theorem NB (o:Ord lt) {lo:Nat} (h:Sg lt p lo m) (hz:lo + m <= p.size) (ha:lo <= a) (hb:b <= lo + m):(p.extract a b).toList.Pairwise (Le lt):=by
 rw [List.pairwise_iff_getElem];intro i j hi hj hij;have hi:i < min (b - a) (p.size - a):=by simpa using hi
 have hj:j < min (b - a) (p.size - a):=by simpa using hj
 have e:∀ k (hk:k < min (b - a) (p.size - a)),(p.extract a b).toList[k]'(by simpa using hk) = at' p (lo + (a - lo + k)):=λ k hk=>by
  have h1:a + k < p.size:=by lia
  rw [show lo + (a - lo + k) = a + k by lia];simp [at',h1]
 rw [e i hi,e j hj];exact h _ _ (by lia) (by lia)
noncomputable def P2 (p q:Array Nat) (a:Nat):Array Nat:=(p.toList.take a ++ q.toList ++ p.toList.drop (a + q.size)).toArray
theorem Yh (h:a + q.size <= p.size) (x:Nat):at' (P2 p q a) x = if x < a then at' p x else if x < a + q.size then at' q (x - a) else at' p x:=by
 have l1:(p.toList.take a).length = a:=by simp; lia
 unfold P2;have e:∀ (l:List Nat),at' l.toArray x = (l[x]?).getD 0:=λ l=>by simp [at']
 have e2:∀ (r:Array Nat) (y:Nat),at' r y = (r.toList[y]?).getD 0:=λ r y=>by simp [at']
 rw [e,e2 p,e2 q,List.append_assoc]
 by_cases c1:x < a
 ·rw [if_pos c1,List.getElem?_append_left (by lia),List.getElem?_take,if_pos c1]
 ·rw [if_neg c1,List.getElem?_append_right (by lia),l1]
  by_cases c2:x < a + q.size
  ·rw [if_pos c2,List.getElem?_append_left (by simp; lia)]
  ·rw [if_neg c2,List.getElem?_append_right (by simp; lia),List.getElem?_drop,Array.length_toList,show a + q.size + (x - a - q.size) = x by lia]
theorem Fy (hm:a <= m) (hb:m <= b) (hz:b <= p.size) (hq:q.toList.Perm ((p.extract a m).toList ++ (p.extract m b).toList)) (hp:Pm n p):Pm n (P2 p q a):=by
 have hl:q.size = b - a:=by
  have:=hq.length_eq;simp at this;lia
 refine Array.Perm.trans ?_ hp;rw [Array.perm_iff_toList_perm];unfold P2;have e1:(p.extract a m).toList ++ (p.extract m b).toList = (p.toList.drop a).take (b - a):=by
  rw [Array.toList_extract,Array.toList_extract,List.extract_eq_take_drop,List.extract_eq_take_drop,show b - a = (m - a) + (b - m) by lia,List.take_add,List.drop_drop,show a + (m - a) = m by lia]
 have e2:p.toList = p.toList.take a ++ ((p.toList.drop a).take (b - a) ++ p.toList.drop (a + (b - a))):=by
  rw [<- List.drop_drop,List.take_append_drop,List.take_append_drop]
 rw [hl]
 conv=>rhs; rw [e2]
 rw [List.append_assoc];rw [e1] at hq;exact List.Perm.append_left _ (List.Perm.append_right _ hq)
end
section
variable {lt:Nat->Nat->Bool} {p:Array Nat}
def Runs (lt:Nat->Nat->Bool) (p:Array Nat):List (Nat × Nat × Nat)->Nat->Nat->Prop
 | [],a,b=>a = b
 | x :: r,a,b=>x.1 = a /\ 1 <= x.2.1 /\ Sg lt p a x.2.1 /\ Runs lt p r (a + x.2.1) b
theorem Runs.app:∀ {l r:List (Nat × Nat × Nat)} {a c:Nat},Runs lt p (l ++ r) a c ↔ ∃ b,Runs lt p l a b /\ Runs lt p r b c
 | [],r,a,c=>⟨λ h=>⟨a,rfl,h⟩,λ ⟨b,h1,h2⟩=>by cases h1; exact h2⟩
 | x :: l,r,a,c=>by
  constructor
  ·rintro ⟨h1,h2,h3,h4⟩;obtain ⟨b,k1,k2⟩:=Runs.app.mp h4;exact ⟨b,⟨h1,h2,h3,k1⟩,k2⟩
  ·rintro ⟨b,⟨h1,h2,h3,h4⟩,k⟩;exact ⟨h1,h2,h3,Runs.app.mpr ⟨b,h4,k⟩⟩
theorem Runs.le:∀ {l:List (Nat × Nat × Nat)} {a b:Nat},Runs lt p l a b->a + l.length <= b
 | [],a,b,h=>by cases h; exact Nat.le_refl _
 | x :: l,a,b,h=>by
  have:=h.2.2.2.le;have:=h.2.1;rw [List.length_cons];lia
theorem W9 {r:Array Nat} {u:Nat} (hu:u < r.toList.length):r.toList[u] = at' r u:=by
 have h:u < r.size:=by simpa using hu
 simp [at',h]
theorem Sg.join (o:Ord lt) {a m1 m2:Nat} (h1:Sg lt p a m1) (h2:Sg lt p (a + m1) m2) (hl:1 <= m1->Le lt (at' p (a + (m1 - 1))) (at' p (a + m1))):Sg lt p a (m1 + m2):=λ i j hij hj=>by
 by_cases c1:j < m1
 ·exact h1 i j hij c1
 ·by_cases c2:i < m1
  ·have e1:=h1 i (m1 - 1) (by lia) (by lia);have e2:=h2 0 (j - m1) (by lia) (by lia);rw [show a + m1 + (j - m1) = a + j by lia,Nat.add_zero] at e2;exact o.tran _ _ _ (o.tran _ _ _ e1 (hl (by lia))) e2
  ·have e2:=h2 (i - m1) (j - m1) (by lia) (by lia)
   rwa [show a + m1 + (j - m1) = a + j by lia,show a + m1 + (i - m1) = a + i by lia] at e2
theorem ZaO (o:Ord lt) {k:Nat} (sg:Sg lt p base m):∀ i j,i <= j->j < m->byd lt false k p base j = true->byd lt false k p base i = true:=λ i j h1 h2 h3=>by
 have:=o.tran _ _ _ (sg i j h1 h2) (C7 h3)
 simpa [byd,Le] using this
theorem Zce (o:Ord lt) {k:Nat} (sg:Sg lt p base m):∀ i j,i <= j->j < m->byd lt true k p base j = true->byd lt true k p base i = true:=λ i j h1 h2 h3=>by
 cases e:byd lt true k p base i with
 | true=>rfl
 | false=>
  have:=o.tran _ _ _ (We e) (sg i j h1 h2);have e2:lt (at' p (base + j)) k = true:=by simpa [byd] using h3
  rw [show lt (at' p (base + j)) k = false from this] at e2;cases e2
theorem Sg.mrg (o:Ord lt) {sa na nb k:Nat} {q:Array Nat} (h1:Sg lt p sa na) (h2:Sg lt p (sa + na) nb) (hz:sa + na + nb <= p.size) (hk:k < na) (hj:1 <= j) (hj2:j <= nb) (k2:∀ i,i < k->Le lt (at' p (sa + i)) (at' p (sa + na))) (j3:∀ i,j <= i->i < nb->Le lt (at' p (sa + (na - 1))) (at' p (sa + na + i)))
  (hq:q.toList.Perm ((p.extract (sa + k) (sa + na)).toList ++ (p.extract (sa + na) (sa + na + j)).toList)) (sq:q.toList.Pairwise (Le lt)):Sg lt (P2 p q (sa + k)) sa (na + nb):=by
 have zq:q.size = na - k + j:=by
  have:=hq.length_eq;simp at this;lia
 have mem:∀ t,t < q.size->(∃ u,k <= u /\ u < na /\ at' q t = at' p (sa + u)) \/ ∃ u,u < j /\ at' q t = at' p (sa + na + u):=λ t ht=>by
  have m1:at' q t ∈ q.toList:=by simp [at',ht]
  rcases List.mem_append.mp (hq.mem_iff.mp m1) with m2 | m2
  ·obtain ⟨u,hu,e⟩:=List.getElem_of_mem m2;have hu':u < na - k:=by simp at hu; lia
   refine .inl ⟨k + u,by lia,by lia,?_⟩;rw [<- e,W9,Q8 (by lia) (by lia),Nat.add_assoc]
  ·obtain ⟨u,hu,e⟩:=List.getElem_of_mem m2;have hu':u < j:=by simp at hu; lia
   refine .inr ⟨u,by lia,?_⟩;rw [<- e,W9,Q8 (by lia) (by lia)]
 have b0:∀ i u,i < k->u < nb->Le lt (at' p (sa + i)) (at' p (sa + na + u)):=λ i u hi hu=>o.tran _ _ _ (k2 i hi) (by have:=h2 0 u (by lia) hu; rwa [Nat.add_zero] at this);intro x y hxy hy;rw [Yh (by lia),Yh (by lia)]
 by_cases x1:x < k
 ·rw [if_pos (by lia)]
  by_cases y1:y < k
  ·rw [if_pos (by lia)];exact h1 x y hxy (by lia)
  ·rw [if_neg (by lia)]
   by_cases y2:sa + y < sa + k + q.size
   ·rw [if_pos y2]
    rcases mem (sa + y - (sa + k)) (by lia) with ⟨u,u1,u2,e⟩ | ⟨u,u1,e⟩
    ·rw [e];exact h1 x u (by lia) u2
    ·rw [e];exact b0 x u x1 (by lia)
   ·rw [if_neg y2];have:=b0 x (y - na) x1 (by lia)
    rwa [show sa + na + (y - na) = sa + y by lia] at this
 ·rw [if_neg (by lia)];have y1:¬ sa + y < sa + k:=by lia
  by_cases x2:sa + x < sa + k + q.size
  ·rw [if_pos x2,if_neg y1]
   by_cases y2:sa + y < sa + k + q.size
   ·rw [if_pos y2];exact PB o sq (by lia) (by lia)
   ·rw [if_neg y2]
    rcases mem (sa + x - (sa + k)) (by lia) with ⟨u,u1,u2,e⟩ | ⟨u,u1,e⟩
    ·rw [e];have:=o.tran _ _ _ (h1 u (na - 1) (by lia) (by lia)) (j3 (y - na) (by lia) (by lia))
     rwa [show sa + na + (y - na) = sa + y by lia] at this
    ·rw [e];have:=h2 u (y - na) (by lia) (by lia)
     rwa [show sa + na + (y - na) = sa + y by lia] at this
  ·rw [if_neg x2,if_neg y1,if_neg (by lia)];have:=h2 (x - na) (y - na) (by lia) (by lia)
   rwa [show sa + na + (y - na) = sa + y by lia,show sa + na + (x - na) = sa + x by lia] at this
theorem Runs.congr {p':Array Nat}:∀ {l:List (Nat × Nat × Nat)} {a b:Nat},Runs lt p l a b->(∀ k,a <= k->k < b->at' p' k = at' p k)->Runs lt p' l a b
 | [],a,b,h,_=>h
 | x :: l,a,b,h,e=>by
  have hl:=h.2.2.2.le;exact ⟨h.1,h.2.1,h.2.2.1.congr λ k hk=>e _ (by lia) (by lia),h.2.2.2.congr λ k h1 h2=>e k (by lia) h2⟩
end
section
variable {prog:Program} {E:Value->Shared->Prop} {κ:SortKind} {f:Nat->Keyed} {lt:Nat->Nat->Bool} {p:Array Nat} {pd:Array (Nat × Nat × Nat)} {g:Nat}
theorem Rt {x:SortSt} {st:SortSt} {Q:PUnit->SortSt->Prop} (q:Q ⟨⟩ x):wpS (model prog w) A E s (set x:StateT SortSt Sem PUnit) Q st:=by
 unfold wpS;rw [StateT.run_set];exact wpAny_pure ⟨rfl,q⟩
theorem MD {l1 l2:List (Nat × Nat × Nat)} {x y z:Nat × Nat × Nat} (ep:pd.toList = l1 ++ x :: y :: l2):((pd.setIfInBounds l1.length z).eraseIdxIfInBounds (l1.length + 1)).toList = l1 ++ z :: l2:=by
 have hz:pd.size = l1.length + (l2.length + 1 + 1):=by rw [<- Array.length_toList,ep]; simp
 unfold Array.eraseIdxIfInBounds;rw [dif_pos (by simp; lia),Array.toList_eraseIdx,Array.toList_setIfInBounds,ep,List.set_append_right _ _ (Nat.le_refl _),Nat.sub_self,List.set_cons_zero,List.eraseIdx_append_of_length_le (by lia)];simp
theorem Mn {p q:Array Nat} {a:Nat} (h:a + q.size <= p.size):List.foldl (λ r x=>r.setIfInBounds (a + x.2) x.1) (p.map f) (q.map f).toList.zipIdx = (P2 p q a).map f:=by
 apply Array.toList_inj.mp;rw [UR a _ 0 _ (by simpa using h)];unfold P2;simp
set_option maxHeartbeats 4000000 in
theorem YD (h:Ans prog w A s κ f lt n) (o:Ord lt) (hp:Pm n p) {l1 l2:List (Nat × Nat × Nat)} {sa na pa sb nb pb hi:Nat} (ep:pd.toList = l1 ++ (sa,na,pa) :: (sb,nb,pb) :: l2) (hr:Runs lt p pd.toList 0 hi) (hn:hi <= n) {Q:Bool->SortSt->Prop}
  (q:∀ p' pd' g',Pm n p'->(∀ k,hi <= k->at' p' k = at' p k)->Runs lt p' pd'.toList 0 hi->pd'.toList = l1 ++ (sa,na + nb,pa) :: l2->Q true (SS κ f p' pd' g')):wpS (model prog w) A E s (mergeAt' l1.length) Q (SS κ f p pd g):=by
 have e1:pd[l1.length]? = some (sa,na,pa):=by rw [<- Array.getElem?_toList,ep]; simp
 have e2:pd[l1.length + 1]? = some (sb,nb,pb):=by rw [<- Array.getElem?_toList,ep]; simp
 have epd:=MD (z:=(sa,na + nb,pa)) ep;have hz:=hp.size;rw [ep] at hr;obtain ⟨b1,r1,e3,n1,g1,e4,n2,g2,r2⟩:=Runs.app.mp hr;dsimp only at e3 n1 g1 e4 n2 g2 r2;subst e3;subst e4;have hl:=r2.le;refine wpS_bind (wpS_get ?_);dsimp only;rw [e1,e2];dsimp only;refine wpS_bind (Rt ?_);generalize (pd.setIfInBounds l1.length (sa,na + nb,pa)).eraseIdxIfInBounds (l1.length + 1) = pd' at epd ⊢;refine wpS_bind (ZI rfl (by lia) (wpS_bind (QF h rfl rfl (hp.below (by lia)) (λ i hi=>hp.below (by lia)) (by lia) (by lia) (ZaO o g1) λ k k1 k2 k3=>?_)));dsimp only;have same:∀ {g'},Sg lt p sa (na + nb)->Q true (SS κ f p pd' g'):=λ {g'} sg=>q p pd' g' hp (λ _ _=>rfl) (by rw [epd]; exact Runs.app.mpr ⟨sa,r1,rfl,by dsimp only; lia,sg,by dsimp only; rw [<- Nat.add_assoc]; exact r2⟩) epd;refine Zn (λ c=>?_) λ c=>?_
 ·have c:=beq_iff_eq.mp c;exact wpS_pure (same (g1.join o g2 λ _=>C7 (k2 (na - 1) (by lia))))
 have c:¬ na - k = 0:=λ z=>c (beq_iff_eq.mpr z);refine wpS_bind (ZI rfl (by lia) (wpS_bind (QF h rfl rfl (hp.below (by lia)) (λ i hi=>hp.below (by lia)) (by lia) (by lia) (Zce o g2) λ j j1 j2 j3=>?_)));dsimp only;refine Zn (λ c2=>?_) λ c2=>?_
 ·have c2:=beq_iff_eq.mp c2;refine wpS_pure (same (g1.join o g2 λ _=>?_));have:=We (j3 0 (by lia) (by lia))
  rwa [show sa + k + (na - k) - 1 = sa + (na - 1) by lia] at this
 have c2:¬ j = 0:=λ z=>c2 (beq_iff_eq.mpr z);have zx:(p.extract (sa + k) (sa + na)).size = na - k:=by simp; lia
 have zy:(p.extract (sa + na) (sa + na + j)).size = j:=by simp; lia
 have lo1:∀ i,k + i < na->Le lt (at' p (sa + na + 0)) (at' p (sa + k + i)):=λ i hi=>by
  have:=B9 o (k3 (k + i) (by lia) hi)
  rwa [show sa + (k + i) = sa + k + i by lia] at this
 have lo2:∀ y ∈ (p.extract (sa + k) (sa + na)).toList,Le lt (at' p (sa + na + 0)) y:=λ y hy=>by
  obtain ⟨u,hu,rfl⟩:=List.getElem_of_mem hy;have hu':u < na - k:=by rw [Array.length_toList,zx] at hu; exact hu
  rw [W9,Q8 (by lia) (by lia)];exact lo1 u (by lia)
 have byd_t':∀ {u},u < j->Le lt (at' p (sa + na + u)) (at' p (sa + (na - 1))):=λ {u} hu=>by
  have:=Sj o (j2 u hu)
  rwa [show sa + k + (na - k) - 1 = sa + (na - 1) by lia] at this
 have hi1:∀ y ∈ (p.extract (sa + na) (sa + na + j)).toList,Le lt y (at' p (sa + (na - 1))):=λ y hy=>by
  obtain ⟨u,hu,rfl⟩:=List.getElem_of_mem hy;have hu':u < j:=by rw [Array.length_toList,zy] at hu; exact hu
  rw [W9,Q8 (by lia) (by lia)];exact byd_t' hu'
 have M:Mc prog w A s κ f lt n (p.extract (sa + k) (sa + na)) (p.extract (sa + na) (sa + na + j)) ((p.map f).extract (sa + k) (sa + na)) ((p.map f).extract (sa + na) (sa + na + j)):=
  ⟨h,o,GB rfl _ _,GB rfl _ _,λ i hi=>by rw [zx] at hi; rw [Q8 (by lia) (by lia)]; exact hp.below (by lia),λ i hi=>by rw [zy] at hi; rw [Q8 (by lia) (by lia)]; exact hp.below (by lia),NB o g1 (by lia) (by lia) (by lia),NB o g2 (by lia) (by lia) (by lia),by lia,by lia⟩
 have fin:∀ r st',Sm (SS κ f p pd' g) st'->Mgd f lt (p.extract (sa + k) (sa + na)) (p.extract (sa + na) (sa + na + j)) r->Q true (SortSt.mk' (kindOf st') (List.foldl (λ r x=>r.setIfInBounds (sa + k + x.2) x.1) (arrOf st') r.toList.zipIdx) (pendingOf st') (gallopOf st') (failedOf st')):=by
  rintro _ st' hs ⟨q',rfl,hq1,hq2⟩;have zq:q'.size = na - k + j:=by
   have:=hq1.length_eq;rw [List.length_append,Array.length_toList,Array.length_toList,Array.length_toList,zx,zy] at this;exact this
  rw [hs.kd,hs.ar,hs.pd,hs.fl];show Q true (SortSt.mk' κ (List.foldl (λ r x=>r.setIfInBounds (sa + k + x.2) x.1) (p.map f) (q'.map f).toList.zipIdx) pd' (gallopOf st') none);rw [Mn (by lia)];refine q _ pd' _ (Fy (by lia) (by lia) (by lia) hq1 hp) (λ u hu=>?_) ?_ epd
  ·rw [Yh (by lia),if_neg (by lia),if_neg (by lia)]
  ·rw [epd];refine Runs.app.mpr ⟨sa,r1.congr λ u u1 u2=>?_,rfl,by dsimp only; lia,Sg.mrg o g1 g2 (by lia) (by lia) (by lia) j1 (λ i hi=>C7 (k2 i hi)) (λ i h1 h2=>?_) hq1 hq2,(show Runs lt _ l2 (sa + (na + nb)) hi from (Nat.add_assoc sa na nb ▸ r2).congr λ u u1 u2=>?_)⟩
   ·rw [Yh (by lia),if_pos (by lia)]
   ·have:=We (j3 i h1 h2)
    rwa [show sa + k + (na - k) - 1 = sa + (na - 1) by lia] at this
   ·rw [Yh (by lia),if_neg (by lia),if_neg (by lia)]
 refine Zn (λ c3=>wpS_bind (W2 M rfl ?_ ?_ λ r st' hs hr'=>?_)) λ c3=>wpS_bind (Ub M rfl ?_ ?_ λ r st' hs hr'=>?_)
 ·rw [Q8 (by lia) (by lia),Q8 (by lia) (by lia)];exact lo1 0 (by lia)
 ·intro y hy;rw [zx,Q8 (by lia) (by lia),show sa + k + (na - k - 1) = sa + (na - 1) by lia];exact hi1 y hy
 rotate_left
 ·intro y hy;rw [Q8 (by lia) (by lia)];exact lo2 y hy
 ·rw [zx,zy,Q8 (by lia) (by lia),Q8 (by lia) (by lia),show sa + k + (na - k - 1) = sa + (na - 1) by lia];exact byd_t' (by lia)
 all_goals
  refine wpS_bind (wpS_modify (wpS_bind (wpS_get (wpS_pure ?_))));have e:(failedOf st').isNone = true:=by rw [hs.fl]; rfl
  have:=fin r st' hs hr';rw [<- e] at this;exact this
end
theorem Runs.mod {lt:Nat->Nat->Bool} {p:Array Nat} {c:Nat}:∀ {l:List (Nat × Nat × Nat)} {i a b:Nat},Runs lt p l a b->Runs lt p (l.modify i λ x=>(x.1,x.2.1,c)) a b
 | [],i,a,b,h=>by simpa using h
 | x :: l,0,a,b,h=>h
 | x :: l,i + 1,a,b,h=>⟨h.1,h.2.1,h.2.2.1,Runs.mod h.2.2.2⟩
theorem Ym {α:Type} {l:List α} {i:Nat} (h:i + 1 < l.length):∃ l1 x y l2,l = l1 ++ x :: y :: l2 /\ l1.length = i:=by
 refine ⟨l.take i,l[i],l[i + 1],l.drop (i + 2),?_,by simp; lia⟩;rw [<- List.drop_eq_getElem_cons,<- List.drop_eq_getElem_cons,List.take_append_drop]
theorem Zfd {lt:Nat->Nat->Bool} {p:Array Nat} (h:Sg lt p 0 n) (hz:p.size = n):p.toList.Pairwise (Le lt):=by
 rw [List.pairwise_iff_getElem];intro i j hi hj hij;rw [W9,W9];have:=h i j (by lia) (by rw [Array.length_toList] at hj; lia)
 rwa [Nat.zero_add,Nat.zero_add] at this
section
variable {prog:Program} {E:Value->Shared->Prop} {κ:SortKind} {f:Nat->Keyed} {lt:Nat->Nat->Bool} {p:Array Nat} {g:Nat}
theorem Mu {pd:Array (Nat × Nat × Nat)} {γ:Type} {X:Nat->StateT SortSt Sem γ} {Q:γ->SortSt->Prop} (R:Nat->Array Nat->Prop) {goal:Prop} (k:(∀ m p',R m p'->wpS (model prog w) A E s (X m) Q (SS κ f p' pd g))->goal) (h:∀ m p',R m p'->wpS (model prog w) A E s (X m) Q (SS κ f p' pd g)):goal:=k h
def Wt (κ:SortKind) (f:Nat->Keyed) (lt:Nat->Nat->Bool) (n hi:Nat) (st:SortSt):Prop:=∃ p pd g,SS κ f p pd g = st /\ Pm n p /\ Runs lt p pd.toList 0 hi /\ hi <= n
set_option maxHeartbeats 4000000 in
theorem Ms (h:Ans prog w A s κ f lt n) (o:Ord lt) (hp:Pm n p) (h2:2 <= n) {Q:Unit->SortSt->Prop} (q:∀ p' pd' g',Pm n p'->p'.toList.Pairwise (Le lt)->Q () (SS κ f p' pd' g')):wpS (model prog w) A E s sortRuns' Q (SS κ f p #[] g):=by
 have hz:(arrOf (SS κ f p #[] g)).size = n:=by
  show (p.map f).size = n;rw [Array.size_map,hp.size]
 refine wpS_bind (wpS_get ?_);dsimp only;rw [show (p.map f).size = n from hz];refine wpS_bind (wpS_mono (wpS_forRange (I:=λ x c st'=>c.1 = none /\ x <= c.2 /\ Wt κ f lt n c.2 st') (Q:=λ c st'=>c.1 = none /\ Wt κ f lt n n st') ?_ ?_ ⟨rfl,Nat.le_refl _,p,#[],g,rfl,hp,(by exact (rfl:(0:Nat) = 0)),Nat.zero_le _⟩) ?_)
 ·rintro x ⟨c1,lo⟩ _ _ hx ⟨e1,l1,p,pd,g,rfl,hp,hr,hl⟩;dsimp only at e1 l1 hl hr ⊢;have push:∀ {p:Array Nat} {pd:Array (Nat × Nat × Nat)} {g mm:Nat},Runs lt p pd.toList 0 lo->Pm n p->Sg lt p lo mm->1 <= mm->lo + mm <= n->Wt κ f lt n (lo + mm) (SortSt.mk' κ (p.map f) (pd.push (lo,mm,0)) g none):=λ {p pd g mm} r q s m1 m2=>
   ⟨p,_,g,rfl,q,by rw [Array.toList_push]; exact Runs.app.mpr ⟨lo,r,rfl,m1,s,rfl⟩,m2⟩
  refine Zn (λ c=>?_) λ c=>?_
  ·have e:lo = n:=by lia
   exact wpS_pure ⟨rfl,p,pd,g,rfl,hp,by rw [<- e]; exact hr,Nat.le_refl _⟩
  refine wpS_bind (Eo h o hp (by lia) (by lia) λ m p2 m1 m2 p2p o2 s2=>?_);have r2:Runs lt p2 pd.toList 0 lo:=hr.congr λ k _ hk=>o2 k (.inl hk);dsimp only;apply Mu (pd:=pd) (g:=g) λ mm p6=>Pm n p6 /\ Runs lt p6 pd.toList 0 lo /\ Sg lt p6 lo mm /\ 1 <= mm /\ lo + mm <= n
  ·intro go;refine Zn (λ c2=>wpS_bind (wpS_lift (wpAny_rule ⟨rfl,?_⟩))) λ c2=>?_;have c3:m < minRun' n n 0:=c2;generalize emm:min (n - lo) (minRun' n n 0) = mm;have emm':min (n - lo) ((sortPriv% PySem.Builtin.minRun) n n 0) = mm:=emm;rw [emm'];exact wpS_bind (BB h o p2p m1 (by lia) (by lia) s2 λ p6 q6 o6 s6=>Zn (λ z=>absurd z (by decide)) λ _=>go mm p6 ⟨q6,r2.congr λ k _ hk=>o6 k (.inl hk),s6,by lia,by lia⟩);exact go m p2 ⟨p2p,r2,s2,m1,by lia⟩
  clear r2 s2 p2p o2 m1 m2;rintro mm p6 ⟨p2,r2,s2,m1,m2⟩;refine wpS_bind (wpS_get ?_);dsimp only;cases eb:pd.back? with
  | none=>exact wpS_bind (wpS_modify (wpS_pure ⟨rfl,by dsimp only; lia,push r2 p2 s2 m1 (by lia)⟩))
  | some z=>
   obtain ⟨s1,n1,z1⟩:=z;dsimp only;refine wpS_bind (wpS_mono (wpS_forRange (I:=λ x c st'=>c.1 = none /\ ∃ p pd g,SS κ f p pd g = st' /\ Pm n p /\ Runs lt p pd.toList 0 lo /\ Sg lt p lo mm) (Q:=λ c st'=>c.1 = none /\ ∃ p pd g,SS κ f p pd g = st' /\ Pm n p /\ Runs lt p pd.toList 0 lo /\ Sg lt p lo mm) ?_ (λ _ _ z=>z) ⟨rfl,_,_,_,rfl,p2,r2,s2⟩) ?_)
   ·rintro y ⟨d1,d2⟩ _ _ hy ⟨f1,p3,pd3,g3,rfl,p4,r4,s4⟩;dsimp only at f1 ⊢;refine wpS_bind (wpS_get ?_);dsimp only
    by_cases two:pd3.size > 1
    ·rw [if_pos two];obtain ⟨l1,⟨sa,na,pa⟩,⟨sb,nb,pb⟩,l2,e5,e6⟩:=Ym (l:=pd3.toList) (i:=pd3.size - 2) (by rw [Array.length_toList]; lia);have e7:pd3[pd3.size - 2]? = some (sa,na,pa):=by rw [<- e6,<- Array.getElem?_toList,e5]; simp
     rw [e7];dsimp only;refine Zn (λ _=>wpS_pure ⟨rfl,_,_,_,rfl,p4,r4,s4⟩) λ _=>wpS_bind ?_;rw [<- e6];refine YD h o p4 e5 r4 hl λ p5 pd5 g5 a1 a2 a3 _=>?_;refine Zn (λ z=>absurd z (by decide)) λ _=>wpS_pure ⟨rfl,_,_,_,rfl,a1,a3,s4.congr λ k _=>a2 _ (by lia)⟩
    ·rw [if_neg two];exact wpS_pure ⟨rfl,_,_,_,rfl,p4,r4,s4⟩
   ·rintro ⟨d1,d2⟩ _ ⟨f1,p3,pd3,g3,rfl,p4,r4,s4⟩;dsimp only at f1 ⊢;subst f1;dsimp only;refine wpS_bind (wpS_modify (wpS_bind (wpS_modify (wpS_pure ⟨rfl,by dsimp only; lia,push (pd:=pd3.modify (pd3.size - 1) λ x=>(x.1,x.2.1,_)) ?_ p4 s4 m1 (by lia)⟩))));rw [Array.toList_modify];exact r4.mod
 ·rintro ⟨c1,lo⟩ _ ⟨e1,l1,p,pd,g,rfl,hp,hr,hl⟩;dsimp only at e1 l1 hl hr ⊢;have e:lo = n:=by lia
  exact ⟨e1,p,pd,g,rfl,hp,by rw [<- e]; exact hr,Nat.le_refl _⟩
 ·rintro ⟨c1,lo⟩ _ ⟨e1,p,pd,g,rfl,hp,hr,hl⟩;dsimp only at e1 ⊢;subst e1;dsimp only;refine wpS_bind (wpS_mono (wpS_forRange (I:=λ x c st'=>c.1 = none /\ ∃ p pd g,SS κ f p pd g = st' /\ Pm n p /\ Runs lt p pd.toList 0 n /\ pd.size + x <= n) (Q:=λ c st'=>c.1 = none /\ ∃ p pd g,SS κ f p pd g = st' /\ Pm n p /\ Runs lt p pd.toList 0 n /\ pd.size <= 1) ?_ ?_ ⟨rfl,p,pd,g,rfl,hp,hr,by have:=hr.le; rw [Array.length_toList] at this; lia⟩) ?_)
  ·rintro y ⟨d1,d2⟩ _ _ hy ⟨f1,p3,pd3,g3,rfl,p4,r4,s4⟩;dsimp only at f1 ⊢;refine wpS_bind (wpS_get ?_);dsimp only;refine Zn (λ c=>wpS_pure ⟨rfl,p3,pd3,g3,rfl,p4,r4,c⟩) λ c=>?_;have go:∀ i,i + 1 < pd3.size->wpS (model prog w) A E s (mergeAt' i) (λ b st'=>b = true /\ ∃ p pd g,SS κ f p pd g = st' /\ Pm n p /\ Runs lt p pd.toList 0 n /\ pd.size + (y + 1) <= n) (SS κ f p3 pd3 g3):=λ i hi=>by
    obtain ⟨l1,⟨sa,na,pa⟩,⟨sb,nb,pb⟩,l2,e5,e6⟩:=Ym (l:=pd3.toList) (i:=i) (by rw [Array.length_toList]; lia);rw [<- e6];refine YD h o p4 e5 r4 (Nat.le_refl _) λ p5 pd5 g5 a1 a2 a3 a4=>⟨rfl,p5,pd5,g5,rfl,a1,a3,?_⟩;have z1:=congrArg List.length a4;have z2:=congrArg List.length e5;simp at z1 z2;lia
   refine wpS_bind (wpS_mono (go _ ?_) λ b st' hb=>?_)
   ·repeat' split
    all_goals lia
   ·obtain ⟨rfl,hb⟩:=hb;exact Zn (λ z=>absurd z (by decide)) λ _=>wpS_pure ⟨rfl,hb⟩
  ·rintro ⟨d1,d2⟩ _ ⟨f1,p3,pd3,g3,rfl,p4,r4,s4⟩;exact ⟨f1,p3,pd3,g3,rfl,p4,r4,by lia⟩
  ·rintro ⟨d1,d2⟩ _ ⟨f1,p3,pd3,g3,rfl,p4,r4,s4⟩;dsimp only at f1 ⊢;subst f1;dsimp only;refine wpS_pure (q _ _ _ p4 ?_);rw [<- Array.length_toList] at s4;generalize pd3.toList = L at r4 s4
   match L,r4,s4 with
   | [],r4,_=>exact absurd (show (0:Nat) = n from r4) (by lia)
   | [x],r4,_=>
    obtain ⟨_,_,sg,e⟩:=r4;have e:0 + x.2.1 = n:=e;rw [Nat.zero_add] at e;rw [e] at sg;exact Zfd sg p4.size
   | _ :: _ :: _,_,z=>exact absurd z (by simp)
end
mutual
noncomputable def pln:PyData->Bool
 | .int _=>true
 | .str _=>true
 | .tuple l=>Y8 l
 | _=>false
noncomputable def Y8:List PyData->Bool
 | []=>true
 | d :: l=>pln d && Y8 l
end
mutual
noncomputable def Z7:PyData->PyData->Bool
 | .int _,.int _=>true
 | .str _,.str _=>true
 | .tuple a,.tuple b=>Qm a b
 | _,_=>false
noncomputable def Qm:List PyData->List PyData->Bool
 | a :: l,b :: r=>if PyData.eqv a b then Qm l r else Z7 a b
 | _,_=>true
end
mutual
noncomputable def ltD:PyData->PyData->Bool
 | .int i,.int j=>decide (i < j)
 | .str s,.str t=>decide (s.cps.toList < t.cps.toList)
 | .tuple a,.tuple b=>J9 a b
 | _,_=>false
noncomputable def J9:List PyData->List PyData->Bool
 | a :: l,b :: r=>if PyData.eqv a b then J9 l r else ltD a b
 | [],_ :: _=>true
 | _,[]=>false
end
theorem ZP {l:List PyData} (h:Y8 (d :: l) = true):pln d = true /\ Y8 l = true:=by
 rw [Y8,Bool.and_eq_true] at h;exact h
theorem Cp {s t:Str} (h:s.cps.toList = t.cps.toList):s = t:=by
 obtain ⟨⟨a⟩⟩:=s;obtain ⟨⟨b⟩⟩:=t;cases h;rfl
mutual
theorem Em:∀ (a b:PyData),pln a = true->pln b = true->PyData.eqv a b = true->a = b
 | .int i,b,_,hb,h=>by
  cases b with
  | int j=>rw [PyData.eqv] at h; rw [beq_iff_eq.mp h]
  | bool _=>simp [pln] at hb
  | _=>rw [PyData.eqv] at h; cases h
 | .str s,b,_,hb,h=>by
  cases b with
  | str t=>rw [PyData.eqv] at h; rw [beq_iff_eq.mp h]
  | _=>rw [PyData.eqv] at h; cases h
 | .tuple l,b,ha,hb,h=>by
  cases b with
  | tuple r=>
   rw [pln] at ha hb;rw [PyData.eqv] at h;rw [Kj l r ha hb h]
  | _=>rw [PyData.eqv] at h; cases h
 | .none,_,ha,_,_=>by simp [pln] at ha
 | .bool _,_,ha,_,_=>by simp [pln] at ha
 | .list _,_,ha,_,_=>by simp [pln] at ha
 | .dict _,_,ha,_,_=>by simp [pln] at ha
theorem Kj:∀ (l r:List PyData),Y8 l = true->Y8 r = true->PyData.eqvAll l r = true->l = r
 | [],[],_,_,_=>rfl
 | [],_ :: _,_,_,h=>by rw [PyData.eqvAll] at h; cases h
 | _ :: _,[],_,_,h=>by rw [PyData.eqvAll] at h; cases h
 | a :: l,b :: r,ha,hb,h=>by
  rw [PyData.eqvAll,Bool.and_eq_true] at h;rw [Em a b (ZP ha).1 (ZP hb).1 h.1,Kj l r (ZP ha).2 (ZP hb).2 h.2]
end
mutual
theorem XZ:∀ (a:PyData),pln a = true->PyData.eqv a a = true
 | .int i,_=>by rw [PyData.eqv]; exact beq_self_eq_true i
 | .str s,_=>by rw [PyData.eqv]; exact beq_self_eq_true s
 | .tuple l,h=>by rw [pln] at h; rw [PyData.eqv]; exact Yj l h
 | .none,h=>by simp [pln] at h
 | .bool _,h=>by simp [pln] at h
 | .list _,h=>by simp [pln] at h
 | .dict _,h=>by simp [pln] at h
theorem Yj:∀ (l:List PyData),Y8 l = true->PyData.eqvAll l l = true
 | [],_=>by rw [PyData.eqvAll]
 | a :: l,h=>by rw [PyData.eqvAll,XZ a (ZP h).1,Yj l (ZP h).2]; rfl
end
theorem Nr {a b:PyData} (ha:pln a = true) (hb:pln b = true) (h:a ≠ b):PyData.eqv a b = false:=by
 cases e:PyData.eqv a b with
 | false=>rfl
 | true=>exact absurd (Em a b ha hb e) h
theorem XR {a:PyData} {l r:List PyData} (ha:pln a = true):J9 (a :: l) (a :: r) = J9 l r:=by rw [J9,XZ a ha,if_pos rfl]
theorem Q6 {a b:PyData} {l r:List PyData} (ha:pln a = true) (hb:pln b = true) (h:a ≠ b):J9 (a :: l) (b :: r) = ltD a b:=by rw [J9,Nr ha hb h,if_neg (by decide)]
theorem YY {a:PyData} {l r:List PyData} (ha:pln a = true):Qm (a :: l) (a :: r) = Qm l r:=by rw [Qm,XZ a ha,if_pos rfl]
theorem J3 {a b:PyData} {l r:List PyData} (ha:pln a = true) (hb:pln b = true) (h:a ≠ b):Qm (a :: l) (b :: r) = Z7 a b:=by rw [Qm,Nr ha hb h,if_neg (by decide)]
mutual
theorem Gx:∀ (a b:PyData),pln a = true->pln b = true->ltD a b = true->ltD b a = false
 | .int i,b,_,_,h=>by
  cases b with
  | int j=>rw [ltD] at h ⊢; have:=of_decide_eq_true h; exact decide_eq_false (by lia)
  | _=>simp [ltD] at h
 | .str s,b,_,_,h=>by
  cases b with
  | str t=>rw [ltD] at h ⊢; have:=of_decide_eq_true h; exact decide_eq_false λ z=>absurd (List.lt_trans this z) (List.lt_irrefl _)
  | _=>simp [ltD] at h
 | .tuple l,b,ha,hb,h=>by
  cases b with
  | tuple r=>
   rw [pln] at ha hb;rw [ltD] at h ⊢;exact KA l r ha hb h
  | _=>simp [ltD] at h
 | .none,_,ha,_,_=>by simp [pln] at ha
 | .bool _,_,ha,_,_=>by simp [pln] at ha
 | .list _,_,ha,_,_=>by simp [pln] at ha
 | .dict _,_,ha,_,_=>by simp [pln] at ha
theorem KA:∀ (l r:List PyData),Y8 l = true->Y8 r = true->J9 l r = true->J9 r l = false
 | [],[],_,_,h=>by rw [J9] at h; cases h
 | [],_ :: _,_,_,_=>by rw [J9]
 | _ :: _,[],_,_,h=>by rw [J9] at h; cases h
 | a :: l,b :: r,ha,hb,h=>by
  have a1:=ZP ha;have b1:=ZP hb
  by_cases e:a = b
  ·subst e;rw [XR a1.1] at h ⊢;exact KA l r a1.2 b1.2 h
  ·rw [Q6 a1.1 b1.1 e] at h;rw [Q6 b1.1 a1.1 (Ne.symm e)];exact Gx a b a1.1 b1.1 h
end
mutual
theorem Uq:∀ (a b:PyData),pln a = true->pln b = true->Z7 a b = true->ltD a b = false->ltD b a = false->a = b
 | .int i,b,_,_,c,h,k=>by
  cases b with
  | int j=>
   rw [ltD] at h k;have:=of_decide_eq_false h;have:=of_decide_eq_false k;rw [show i = j by lia]
  | _=>simp [Z7] at c
 | .str s,b,_,_,c,h,k=>by
  cases b with
  | str t=>
   rw [ltD] at h k;rw [Cp (List.le_antisymm (List.not_lt.mp (of_decide_eq_false k)) (List.not_lt.mp (of_decide_eq_false h)))]
  | _=>simp [Z7] at c
 | .tuple l,b,ha,hb,c,h,k=>by
  cases b with
  | tuple r=>
   rw [pln] at ha hb;rw [ltD] at h k;rw [Z7] at c;rw [GW l r ha hb c h k]
  | _=>simp [Z7] at c
 | .none,_,ha,_,_,_,_=>by simp [pln] at ha
 | .bool _,_,ha,_,_,_,_=>by simp [pln] at ha
 | .list _,_,ha,_,_,_,_=>by simp [pln] at ha
 | .dict _,_,ha,_,_,_,_=>by simp [pln] at ha
theorem GW:∀ (l r:List PyData),Y8 l = true->Y8 r = true->Qm l r = true->J9 l r = false->J9 r l = false->l = r
 | [],[],_,_,_,_,_=>rfl
 | [],_ :: _,_,_,_,h,_=>by rw [J9] at h; cases h
 | _ :: _,[],_,_,_,_,h=>by rw [J9] at h; cases h
 | a :: l,b :: r,ha,hb,c,h,k=>by
  have a1:=ZP ha;have b1:=ZP hb
  by_cases e:a = b
  ·subst e;rw [XR a1.1] at h k;rw [YY a1.1] at c;rw [GW l r a1.2 b1.2 c h k]
  ·rw [Q6 a1.1 b1.1 e] at h;rw [Q6 b1.1 a1.1 (Ne.symm e)] at k;rw [J3 a1.1 b1.1 e] at c;exact absurd (Uq a b a1.1 b1.1 c h k) e
end
mutual
theorem UX:∀ (a b c:PyData),pln a = true->pln b = true->pln c = true->Z7 a b = true->Z7 b c = true->Z7 a c = true->ltD b a = false->ltD c b = false->ltD c a = false
 | .int i,b,c,_,_,_,k1,k2,_,h1,h2=>by
  cases b with
  | int j=>
   cases c with
   | int k=>
    rw [ltD] at h1 h2 ⊢;have:=of_decide_eq_false h1;have:=of_decide_eq_false h2;exact decide_eq_false (by lia)
   | _=>simp [Z7] at k2
  | _=>simp [Z7] at k1
 | .str s,b,c,_,_,_,k1,k2,_,h1,h2=>by
  cases b with
  | str t=>
   cases c with
   | str u=>
    rw [ltD] at h1 h2 ⊢;exact decide_eq_false (List.not_lt.mpr (List.le_trans (List.not_lt.mp (of_decide_eq_false h1)) (List.not_lt.mp (of_decide_eq_false h2))))
   | _=>simp [Z7] at k2
  | _=>simp [Z7] at k1
 | .tuple x,b,c,ha,hb,hc,k1,k2,k3,h1,h2=>by
  cases b with
  | tuple y=>
   cases c with
   | tuple z=>
    rw [pln] at ha hb hc;rw [Z7] at k1 k2 k3;rw [ltD] at h1 h2 ⊢;exact Kz x y z ha hb hc k1 k2 k3 h1 h2
   | _=>simp [Z7] at k2
  | _=>simp [Z7] at k1
 | .none,_,_,ha,_,_,_,_,_,_,_=>by simp [pln] at ha
 | .bool _,_,_,ha,_,_,_,_,_,_,_=>by simp [pln] at ha
 | .list _,_,_,ha,_,_,_,_,_,_,_=>by simp [pln] at ha
 | .dict _,_,_,ha,_,_,_,_,_,_,_=>by simp [pln] at ha
theorem Kz:∀ (x y z:List PyData),Y8 x = true->Y8 y = true->Y8 z = true->Qm x y = true->Qm y z = true->Qm x z = true->J9 y x = false->J9 z y = false->J9 z x = false
 | [],_,z,_,_,_,_,_,_,_,_=>by cases z <;> rw [J9]
 | _ :: _,[],_,_,_,_,_,_,_,h,_=>by rw [J9] at h; cases h
 | _ :: _,_ :: _,[],_,_,_,_,_,_,_,h=>by rw [J9] at h; cases h
 | a :: x,b :: y,c :: z,ha,hb,hc,k1,k2,k3,h1,h2=>by
  have a1:=ZP ha;have b1:=ZP hb;have c1:=ZP hc
  by_cases e1:a = b
  ·subst e1;rw [XR a1.1] at h1;rw [YY a1.1] at k1
   by_cases e2:a = c
   ·subst e2;rw [XR a1.1] at h2 ⊢;rw [YY a1.1] at k2 k3;exact Kz x y z a1.2 b1.2 c1.2 k1 k2 k3 h1 h2
   ·rw [Q6 c1.1 a1.1 (Ne.symm e2)] at h2 ⊢;exact h2
  ·rw [Q6 b1.1 a1.1 (Ne.symm e1)] at h1;rw [J3 a1.1 b1.1 e1] at k1
   by_cases e2:b = c
   ·subst e2;rw [Q6 b1.1 a1.1 (Ne.symm e1)];exact h1
   ·rw [Q6 c1.1 b1.1 (Ne.symm e2)] at h2;rw [J3 b1.1 c1.1 e2] at k2
    by_cases e3:a = c
    ·subst e3;exact absurd (Uq a b a1.1 b1.1 k1 h2 h1) e1
    ·rw [Q6 c1.1 a1.1 (Ne.symm e3)];rw [J3 a1.1 c1.1 e3] at k3;exact UX a b c a1.1 b1.1 c1.1 k1 k2 k3 h1 h2
end
def LtA (A:Around) (s:Shared) (y x:Value) (b:Bool):Prop:=∀ (prog:Program) (w:World) (E:Value->Shared->Prop) (Q:Value->Shared->Prop),Q (.bool b) s->wpAny (model prog w) A (richCompare .Lt y x) Q E s
inductive D4 (A:Around) (s:Shared):List Value->List Value->Bool->Prop
 | nn:D4 A s [] [] false
 | nc {x:Value} {ws:List Value}:D4 A s [] (x :: ws) true
 | cn {y:Value} {vs:List Value}:D4 A s (y :: vs) [] false
 | eq {y x:Value} {vs ws:List Value} {b:Bool}:SeqAt.EqAt A s y x true->D4 A s vs ws b->D4 A s (y :: vs) (x :: ws) b
 | ne {y x:Value} {vs ws:List Value} {b:Bool}:SeqAt.EqAt A s y x false->LtA A s y x b->D4 A s (y :: vs) (x :: ws) b
section
open PySem.SeqAt
open PySem.AutoSeq1 (wpAny_loadPart')
open PySem.MeetsSeq PySem.MeetsSeq2 PySem.MeetsSeq3
theorem Wh (l b:Addr) (items items2:Array Value) (n n2:Nat) (dd dd2:Option Addr) (sl sl2:Array (Option Value)) (k:Bool) :
  Meets (Builtin.«tuple.__lt__» ⟨[.ref l,.ref b],[]⟩)
   (λ A R s=>s.heap.get? l = some { cls:=.type "tuple",dict:=dd,data:=.seq items n,slots:=sl } /\ s.heap.get? b = some { cls:=.type "tuple",dict:=dd2,data:=.seq items2 n2,slots:=sl2 } /\
    D4 A.in1 s items.toList items2.toList k /\ R (.ok (.ret (.bool k))) s):=
 .of_wp λ prog w A R s h=>by
  obtain ⟨hp,g,d,tk,os⟩:=s; obtain ⟨hl,hb,hx,h⟩:=h;have f2:=AutoSeq1.sub_tuple_tuple
  wp_walk using wpAny_loadPart' hl,wpAny_loadPart' hb,wpAny_forIn_list _ (λ rest b s'=>b.1 = none /\ s' = ⟨hp,g,d,tk,os⟩ /\ ∃ (vs ws:List Value),rest = vs.zip ws /\ D4 A.in1 ⟨hp,g,d,tk,os⟩ vs ws k /\ vs.length + items2.size = ws.length + items.size) _
  case turn=>
   rintro ⟨y,x⟩ rest b s' ⟨hb',rfl,vs,ws,hz,hvw,hlen⟩;cases hvw with
   | nn=>cases hz
   | nc=>cases hz
   | cn=>cases hz
   | eq he hr=>
    rw [List.zip_cons_cons] at hz
    injection hz with hyx hrest
    injection hyx with hy hx
    subst hy hx;refine wpAny_bind (he prog w _ _ ?_)
    wp_walk
    exact ⟨rfl,rfl,_,_,hrest,hr,by simp only [List.length_cons] at hlen; lia⟩
   | ne he hr=>
    rw [List.zip_cons_cons] at hz
    injection hz with hyx hrest
    injection hyx with hy hx
    subst hy hx;refine wpAny_bind (he prog w _ _ ?_);have hri:=hr prog w
    wp_walk using hri
    exact ⟨_,rfl,by simpa using h⟩
  case fin=>
   rintro ⟨b1,b2⟩ s' ⟨hb',rfl,vs,ws,hz,hvw,hlen⟩;simp only at hb';subst hb';have hv:k = decide (items.size < items2.size):=by
    cases hvw with
    | nn=>exact (decide_eq_false (by simp only [List.length_nil] at hlen; lia)).symm
    | nc=>exact (decide_eq_true (by simp only [List.length_nil,List.length_cons] at hlen; lia)).symm
    | cn=>exact (decide_eq_false (by simp only [List.length_nil,List.length_cons] at hlen; lia)).symm
    | eq _ _=>rw [List.zip_cons_cons] at hz; cases hz
    | ne _ _=>rw [List.zip_cons_cons] at hz; cases hz
   rw [hv] at h
   wp_walk
   exact ⟨_,rfl,by simpa [Builtin.Tuple.tupleCompareSizes] using h⟩
  case h=>
   exact ⟨rfl,rfl,items.toList,items2.toList,rfl,hx,by simp; lia⟩
end
theorem LtA.tup {b:Addr} {items2:Array Value} {k:Bool} (hl:IsTup s.heap l items) (hb:IsTup s.heap b items2) (hx:D4 A.in1 s items.toList items2.toList k) (hu:A.units < cLine):LtA A s (.ref l) (.ref b) k:=λ prog w E Q h=>by
 obtain ⟨⟨cls,dd,data,sl⟩,ho,hc,n,hd⟩:=id hl;obtain ⟨⟨cls2,dd2,data2,sl2⟩,ho2,hc2,n2,hd2⟩:=id hb;simp only at hc hd hc2 hd2;subst hc hd hc2 hd2;exact richCompare_meets_room (op:=.Lt) ⟨_,ho,rfl⟩ ⟨_,ho2,rfl⟩ PySem.F.slot_tuple_lt PySem.F.entry_tuple_lt (PySem.F.args_tuple_lt_2 _ _) (Wh l b items items2 n n2 dd dd2 sl sl2 k)
  ⟨ho,ho2,hx,show Value.bool k ≠ Value.notImplemented /\ Q (.bool k) s from ⟨(λ x=>nomatch x),h⟩⟩ hu
theorem in1_units (A:Around):A.in1.units = A.units + 1:=rfl
mutual
theorem CS:∀ (da db:PyData) (A:Around) (s:Shared) (a b:Value) (as bs:List Addr),Reads s.heap a da as->Reads s.heap b db bs->da.canLay0 = true->db.canLay0 = true->Z7 da db = true->A.units + min da.depth db.depth < cLine->LtA A s a b (ltD da db)
 | .int i,db,A,s,a,b,as,bs,ra,rb,_,_,c,hu=>by
  cases db with
  | int j=>
   cases ra;cases rb;rw [ltD];exact λ prog w E Q h=>lt_int h
  | _=>simp [Z7] at c
 | .str x,db,A,s,a,b,as,bs,ra,rb,_,_,c,hu=>by
  cases db with
  | str j=>
   cases ra;cases rb;rw [ltD];exact λ prog w E Q h=>lt_str h
  | _=>simp [Z7] at c
 | .tuple xs,db,A,s,a,b,as,bs,ra,rb,ca,cb,c,hu=>by
  cases db with
  | tuple ys=>
   cases ra with
   | tuple ho hc hd hr=>
    cases rb with
    | tuple ho2 hc2 hd2 hr2=>
     rw [PyData.canLay0] at ca cb;rw [PyData.depth,PyData.depth] at hu;rw [Z7] at c;rw [ltD];refine LtA.tup ⟨_,ho,hc,_,hd⟩ ⟨_,ho2,hc2,_,hd2⟩ (Jz xs ys A.in1 s _ _ _ _ hr hr2 ca cb c ?_) (by lia);rw [in1_units];lia
  | _=>simp [Z7] at c
 | .none,_,_,_,_,_,_,_,_,_,_,_,c,_=>by simp [Z7] at c
 | .bool _,_,_,_,_,_,_,_,_,_,_,_,c,_=>by simp [Z7] at c
 | .list _,_,_,_,_,_,_,_,_,_,_,_,c,_=>by simp [Z7] at c
 | .dict _,_,_,_,_,_,_,_,_,_,_,_,c,_=>by simp [Z7] at c
theorem Jz:∀ (xs ys:List PyData) (A:Around) (s:Shared) (vs ws:List Value) (as bs:List Addr),ReadsAll s.heap vs xs as->ReadsAll s.heap ws ys bs->PyData.canLayAll0 xs = true->PyData.canLayAll0 ys = true->Qm xs ys = true->A.units + min (PyData.depthAll xs) (PyData.depthAll ys) < cLine->D4 A s vs ws (J9 xs ys)
 | [],[],A,s,vs,ws,as,bs,ra,rb,_,_,_,_=>by
  cases ra;cases rb;rw [J9];exact .nn
 | [],y :: ys,A,s,vs,ws,as,bs,ra,rb,_,_,_,_=>by
  cases ra;cases rb;rw [J9];exact .nc
 | x :: xs,[],A,s,vs,ws,as,bs,ra,rb,_,_,_,_=>by
  cases ra;cases rb;rw [J9];exact .cn
 | x :: xs,y :: ys,A,s,vs,ws,as,bs,ra,rb,ca,cb,c,hu=>by
  cases ra with
  | cons r1 r2=>
   cases rb with
   | cons q1 q2=>
    rw [PyData.canLayAll0,Bool.and_eq_true] at ca cb;rw [PyData.depthAll,PyData.depthAll] at hu;rw [Qm] at c;have he:=SeqAt.eqAt_reads x y A s _ _ _ _ r1 q1 ca.1 cb.1 (by omega);rw [J9];cases e:PyData.eqv x y with
    | true=>
     rw [e] at he;rw [e,if_pos rfl] at c;rw [if_pos rfl];exact .eq he (Jz xs ys A s _ _ _ _ r2 q2 ca.2 cb.2 c (by omega))
    | false=>
     rw [e] at he;rw [e,if_neg (by decide)] at c;rw [if_neg (by decide)];exact .ne he (CS x y A s _ _ _ _ r1 q1 ca.1 cb.1 c (by omega))
end
section
variable {prog:Program} {E:Value->Shared->Prop} {lt:Nat->Nat->Bool}
theorem Uk {kd:SortKind} (o:Ord lt) {vs:List Value} {c:Nat} {P:PySem.Fin->Shared->Prop} (gx:s.heap.get? a = some (seqObj "list" vs.toArray c)) (few:vs.length <= sizeLine)
  (kind:2 <= vs.length->∀ h1:Heap,(∀ b u,b ≠ a->s.heap.get? b = some u->h1.get? b = some u)->∀ R:SortKind->Shared->Prop,R kd { s with heap:=h1 }->wpAny (model prog w) A (keyKind' vs.toArray) R E { s with heap:=h1 })
  (ask:∀ h1:Heap,(∀ b u,b ≠ a->s.heap.get? b = some u->h1.get? b = some u)->∀ i j,i < vs.length->j < vs.length->∀ C:Bool->Shared->Prop,C (lt i j) { s with heap:=h1 } ->
   wpAny (model prog w) A (keyLt' kd (vs.getD i Value.none) (vs.getD j Value.none)) C (λ _ _=>False) { s with heap:=h1 })
  (fin:∀ q:Array Nat,Pm vs.length q->q.toList.Pairwise (Le lt)->P (.done (.ret .none)) { s with heap:=sortedHeap s.heap a vs (Up vs q) }):wpAny (model prog w) A (Builtin.«list.sort» ⟨[.ref a],[]⟩) P E s:=by
 rw [list_sort_plain];have la:a < s.heap.objs.size:=Heap.lt_size gx;have line:vs.toArray.size <= sizeLine:=by rw [List.size_toArray]; exact few
 obtain ⟨e1,g1⟩:∃ e1,(s.heap.update a (Obj.mapSeq λ _=>(#[]:Array Value))).get? a = some (seqObj "list" #[] e1):=⟨_,get?_update_seq gx λ _=>#[]⟩
 have g6:(((s.heap.update a (Obj.mapSeq λ _=>(#[]:Array Value))).push (seqObj "tuple" vs.toArray 0)).push (seqObj "list" #[] 0)).get? a = some (seqObj "list" #[] e1):=Heap.get?_push_of_some _ (Heap.get?_push_of_some _ g1);have keep:∀ b u,b ≠ a->s.heap.get? b = some u->(((s.heap.update a (Obj.mapSeq λ _=>(#[]:Array Value))).push (seqObj "tuple" vs.toArray 0)).push (seqObj "list" #[] 0)).get? b = some u:=λ b u hb e=>
  Heap.get?_push_of_some _ (Heap.get?_push_of_some _ (by rw [Heap.get?_update_ne _ _ _ _ hb]; exact e))
 refine wpAny_bind (listItems_at gx rfl (wpAny_bind (listUpdate_at gx rfl (wpAny_bind (seqEpoch_at g1 rfl (wpAny_bind (wpAny_newTuple (wpAny_bind (wpAny_newList (wpAny_holding ?_) (Nat.zero_le _))) (by simpa using line))))) line (Nat.zero_le _))));show wpAny (model prog w) A _ P E { s with heap:=((s.heap.update a (Obj.mapSeq λ _=>(#[]:Array Value))).push (seqObj "tuple" vs.toArray 0)).push (seqObj "list" #[] 0) };dsimp only;have osz:∀ q,Pm vs.length q->(Up vs q).size <= sizeLine + 1:=λ q hq=>by
  have:=hq.size;rw [List.size_toArray,List.length_map,Array.length_toList];lia
 by_cases two:vs.toArray.size < 2
 ·have pm:Pm vs.length (List.range vs.length).toArray:=Array.Perm.refl _
  have f:=fin _ pm (by
   have z:(List.range vs.length).length < 2:=by simpa using two
   show (List.range vs.length).Pairwise (Le lt);generalize List.range vs.length = L at z
   match L,z with
   | [],_=>exact .nil
   | [x],_=>exact List.pairwise_singleton _ _
   | _ :: _ :: _,z=>exact absurd z (by simp))
  rw [Ca] at f;have es:(vs.toArray.zip vs.toArray).map (·.2) = vs.toArray:=by
   apply Array.toList_inj.mp;rw [Array.toList_map,Array.toList_zip];exact List.map_snd_zip (Nat.le_refl _)
  rw [if_pos two,if_pos two]
  refine wpAny_bind (wpAny_pure (by
   rw [StateT.run_pure];refine wpAny_bind (wpAny_pure ?_);dsimp only;refine wpAny_bind (seqEpoch_at g6 rfl (wpAny_bind (listUpdate_at g6 rfl ?_ (Nat.zero_le _) ?_)))
   ·simp only [bne_self_eq_false,Bool.false_eq_true,if_false];refine wpAny_pure ?_;show P _ { s with heap:=sortedHeap s.heap a vs ((vs.toArray.zip vs.toArray).map (·.2)) };rw [es];exact f
   ·show ((vs.toArray.zip vs.toArray).map (·.2)).size <= _;rw [es]
    exact Nat.le_succ_of_le line))
 ·rw [if_neg two,if_neg two];have two':2 <= vs.length:=by simpa using two
  refine wpAny_bind (kind two' _ keep _ ?_);have ans:Ans prog w A { s with heap:=((s.heap.update a (Obj.mapSeq λ _=>(#[]:Array Value))).push (seqObj "tuple" vs.toArray 0)).push (seqObj "list" #[] 0) } kd (kas_item (vs.toArray.zip vs.toArray)) lt vs.length:=λ i j hi hj C hC=>by
   have ei:=kat_item (ks:=vs) (vs:=vs) rfl i;have ej:=kat_item (ks:=vs) (vs:=vs) rfl j;rw [ei,ej];exact ask _ keep i j hi hj C hC
  have run:=Ms (E:=E) (p:=(List.range vs.length).toArray) (g:=7) ans o (Array.Perm.refl _) two' (Q:=λ _ st'=>∃ p:Array Nat,Pm vs.length p /\ p.toList.Pairwise (Le lt) /\ arrOf st' = p.map (kas_item (vs.toArray.zip vs.toArray)) /\ failedOf st' = none) λ p' pd' g' a b=>⟨p',a,b,rfl,rfl⟩;have est:SS kd (kas_item (vs.toArray.zip vs.toArray)) (List.range vs.length).toArray #[] 7 = SortSt.mk' kd (vs.toArray.zip vs.toArray) #[] 7 none:=by
   have e:=kas_range (vs.toArray.zip vs.toArray);rw [show (vs.toArray.zip vs.toArray).size = vs.length by simp] at e;show SortSt.mk' kd ((List.toArray (List.range vs.length)).map (kas_item (vs.toArray.zip vs.toArray))) #[] 7 none = _;rw [e]
  rw [est] at run;refine wpAny_bind (wpAny_mono run ?_ λ _ _ z=>z);rintro ⟨⟨⟩,st'⟩ s' ⟨rfl,p,pm,pu,har,hf⟩;dsimp only at har hf ⊢;have es:(arrOf st').map (·.2) = Up vs p:=kat_snds rfl har;refine wpAny_bind (seqEpoch_at g6 rfl (wpAny_bind (listUpdate_at g6 rfl ?_ (Nat.zero_le _) ?_)))
  ·rw [hf];simp only [bne_self_eq_false,Bool.false_eq_true,if_false];refine wpAny_pure ?_;show P _ { s with heap:=sortedHeap s.heap a vs ((arrOf st').map (·.2)) };rw [es];exact fin p pm pu
  ·show ((arrOf st').map (·.2)).size <= _;rw [es];exact osz p pm
end
inductive Kn:List PyData->Prop
 | int {ds:List PyData}:(∀ d ∈ ds,∃ i,d = .int i)->Kn ds
 | str {ds:List PyData}:(∀ d ∈ ds,∃ s,d = .str s)->Kn ds
 | tint {ds:List PyData}:(∀ d ∈ ds,∃ i l,d = .tuple (.int i :: l))->Kn ds
 | tstr {ds:List PyData}:(∀ d ∈ ds,∃ s l,d = .tuple (.str s :: l))->Kn ds
 | ttup {ds:List PyData}:(∀ d ∈ ds,∃ m l,d = .tuple (.tuple m :: l))->Kn ds
structure Vi (ds:List PyData):Prop where
 few:ds.length <= sizeLine
 kn:Kn ds
 pl:∀ d ∈ ds,pln d = true /\ d.canLay0 = true /\ d.depth <= 64
 cm:∀ d ∈ ds,∀ e ∈ ds,Z7 d e = true
noncomputable def ltI (ds:List PyData) (i j:Nat):Bool:=match ds[i]?,ds[j]? with
 | some a,some b=>ltD a b
 | some _,none=>true
 | _,_=>false
theorem EM {a b:PyData} (ha:ds[i]? = some a) (hb:ds[j]? = some b):ltI ds i j = ltD a b:=by
 unfold ltI;rw [ha,hb]
theorem Rq (h:Vi ds):Ord (ltI ds):=by
 refine ⟨λ a b k=>?_,λ a b c h1 h2=>?_⟩
 ·unfold ltI at k ⊢;cases ea:ds[a]? with
  | none=>rw [ea] at k; cases eb:ds[b]? <;> rw [eb] at k <;> cases k
  | some x=>
   cases eb:ds[b]? with
   | none=>rfl
   | some y=>
    rw [ea,eb] at k;exact Gx x y (h.pl x (List.mem_of_getElem? ea)).1 (h.pl y (List.mem_of_getElem? eb)).1 k
 ·unfold Le ltI at h1 h2 ⊢;cases ea:ds[a]? with
  | none=>
   cases eb:ds[b]? with
   | none=>cases ec:ds[c]? with
    | none=>rfl
    | some z=>rw [eb,ec] at h2; cases h2
   | some y=>rw [ea,eb] at h1; cases h1
  | some x=>
   cases ec:ds[c]? with
   | none=>rfl
   | some z=>
    cases eb:ds[b]? with
    | none=>rw [eb,ec] at h2; cases h2
    | some y=>
     rw [ea,eb] at h1;rw [eb,ec] at h2;have mx:=List.mem_of_getElem? ea;have my:=List.mem_of_getElem? eb;have mz:=List.mem_of_getElem? ec;exact UX x y z (h.pl x mx).1 (h.pl y my).1 (h.pl z mz).1 (h.cm x mx y my) (h.cm y my z mz) (h.cm x mx z mz) h1 h2
section
variable {prog:Program} {E:Value->Shared->Prop}
theorem Uy {b fin k:Bool} {Q:Bool->Shared->Prop}:∀ {vs ws:List Value} {i:Nat},D4 A s vs ws k->(b && i == 0) = false->(vs.length < ws.length ↔ fin = true)->Q k s->KatLex prog w A b fin Q (vs.zip ws) i s
 | _,_,i,.nn,hb,hf,q=>by
  have e:fin = false:=by cases fin with | false=>rfl | true=>exact absurd (hf.mpr rfl) (by simp)
  rw [e];exact kat_nil q
 | _,_,i,.nc,hb,hf,q=>by
  have e:fin = true:=hf.mp (by simp);rw [e];exact kat_nil q
 | _,_,i,.cn,hb,hf,q=>by
  have e:fin = false:=by cases fin with | false=>rfl | true=>exact absurd (hf.mpr rfl) (by simp)
  rw [e];exact kat_nil q
 | _,_,i,.eq he hr,hb,hf,q=>kat_cons (he prog w _ _ (kat_yes (Uy hr (by cases b <;> simp) (by simpa using hf) q)))
 | _,_,i,.ne he hr,hb,hf,q=>by
  refine kat_cons (he prog w _ _ (kat_no ?_));rw [hb];exact kat_one _ _ (hr prog w _ _ q)
theorem DY {fin:Bool} {Q:Bool->Shared->Prop} {v:Value} {vs ws:List Value} {x y:PyData} {xs ys:List PyData} {as bs cs ds:List Addr} (hxy:(∃ i j,x = .int i /\ y = .int j) \/ ∃ a b,x = .str a /\ y = .str b) (r1:Reads s.heap v x as) (q1:Reads s.heap u y bs) (r2:ReadsAll s.heap vs xs cs) (q2:ReadsAll s.heap ws ys ds)
  (ca:PyData.canLayAll0 (x :: xs) = true) (cb:PyData.canLayAll0 (y :: ys) = true) (c:Qm (x :: xs) (y :: ys) = true) (hu:A.units + min (PyData.depthAll (x :: xs)) (PyData.depthAll (y :: ys)) < cLine) (hf:(v :: vs).length < (u :: ws).length ↔ fin = true) (q:Q (J9 (x :: xs) (y :: ys)) s) :
  KatLex prog w A true fin Q ((v :: vs).zip (u :: ws)) 0 s:=by
 rw [PyData.canLayAll0,Bool.and_eq_true] at ca cb;rw [PyData.depthAll,PyData.depthAll] at hu;rw [Qm] at c;rw [J9] at q;have he:=SeqAt.eqAt_reads x y A s _ _ _ _ r1 q1 ca.1 cb.1 (by lia);refine kat_cons (he prog w _ _ ?_);cases e:PyData.eqv x y with
 | true=>
  rw [e,if_pos rfl] at c q;exact kat_yes (Uy (Jz xs ys A s _ _ _ _ r2 q2 ca.2 cb.2 c (by lia)) (by simp) (by simpa using hf) q)
 | false=>
  rw [e,if_neg (by decide)] at q;refine kat_no ?_
  rcases hxy with ⟨i,j,rfl,rfl⟩ | ⟨a,b,rfl,rfl⟩
  ·cases r1;cases q1;rw [ltD] at q;exact oneLt_int q
  ·cases r1;cases q1;rw [ltD] at q;exact oneLt_str q
end
theorem ReadsAll.at:∀ {vs:List Value} {ds:List PyData} {as:List Addr},ReadsAll h vs ds as->∀ {i:Nat} {d:PyData},ds[i]? = some d->∃ bs,Reads h (vs.getD i Value.none) d bs
 | _,_,_,.nil,i,d,e=>by simp at e
 | _,_,_,.cons r1 r2,0,d,e=>by
  cases e;exact ⟨_,r1⟩
 | _,_,_,.cons r1 r2,i + 1,d,e=>by
  obtain ⟨bs,q⟩:=ReadsAll.at r2 (i:=i) (d:=d) (by simpa using e);exact ⟨bs,by simpa using q⟩
theorem J2 {v:Value} {l:List PyData} {as:List Addr} (r:Reads h v (.tuple l) as):∃ (a:Addr) (o:Obj) (xs:Array Value) (n:Nat) (bs:List Addr),v = .ref a /\ h.get? a = some o /\ o.cls = .type "tuple" /\ o.data = .seq xs n /\ ReadsAll h xs.toList l bs:=by
 cases r with
 | tuple h1 h2 h3 h4=>exact ⟨_,_,_,_,_,rfl,h1,h2,h3,h4⟩
theorem Vz {xs:Array Value} {x:PyData} {l:List PyData} {bs:List Addr} (r:ReadsAll h xs.toList (x :: l) bs):∃ v vs as cs,xs.toList = v :: vs /\ xs[0]? = some v /\ Reads h v x as /\ ReadsAll h vs l cs:=by
 generalize e:xs.toList = L at r;cases r with
 | cons r1 r2=>exact ⟨_,_,_,_,rfl,by rw [<- Array.getElem?_toList,e]; rfl,r1,r2⟩
theorem kat_tups {T:Value} {P:PyData->Prop} (hP:∀ v x as,Reads h v x as->P x->∀ M:Model,Looks M h (typeOf v) T):∀ {vs:List Value} {ds:List PyData} {as:List Addr},ReadsAll h vs ds as->(∀ d ∈ ds,∃ x l,d = .tuple (x :: l) /\ P x)->∃ fs,KatTups h vs fs /\ fs.length = vs.length /\ ∀ v ∈ fs,∀ M:Model,Looks M h (typeOf v) T
 | _,_,_,.nil,_=>⟨[],.nil,rfl,λ v hv=>nomatch hv⟩
 | _,_,_,.cons r1 r2,hd=>by
  obtain ⟨fs,i1,i2,i3⟩:=kat_tups hP r2 λ d hm=>hd d (List.mem_cons_of_mem _ hm);obtain ⟨x,l,rfl,hx⟩:=hd _ List.mem_cons_self;obtain ⟨a,o,xs,n,bs,rfl,h1,h2,h3,h4⟩:=J2 r1;obtain ⟨v,vs',as',cs,e1,e2,e3,e4⟩:=Vz h4;refine ⟨v :: fs,.cons h1 h2 h3 e2 i1,by simp [i2],λ u hu=>?_⟩
  rcases List.mem_cons.mp hu with rfl | hu
  ·exact hP _ _ _ e3 hx
  ·exact i3 u hu
section
variable {prog:Program}
theorem Wi {vs:List Value} {as:List Addr} (r:ReadsAll h vs ds as) (hi:i < vs.length):∃ d bs,ds[i]? = some d /\ Reads h (vs.getD i Value.none) d bs:=by
 have n:=SeqAt.ReadsAll.length _ _ _ r;obtain ⟨bs,q⟩:=ReadsAll.at r (i:=i) (d:=ds[i]) (by simp [show i < ds.length by omega]);exact ⟨_,bs,by simp [show i < ds.length by omega],q⟩
theorem ZdN (h:Vi ds) {vs:List Value} (hu:A.units + 64 < cLine) :
  ∃ kd:SortKind,∀ (s:Shared) (as:List Addr),ReadsAll s.heap vs ds as->(2 <= vs.length->∀ (E':Value->Shared->Prop) (R:SortKind->Shared->Prop),R kd s->wpAny (model prog w) A (keyKind' vs.toArray) R E' s) /\
   ∀ i j,i < vs.length->j < vs.length->∀ C:Bool->Shared->Prop,C (ltI ds i j) s->wpAny (model prog w) A (keyLt' kd (vs.getD i Value.none) (vs.getD j Value.none)) C (λ _ _=>False) s:=by
 have one:∀ (T:Value) (P:PyData->Prop),(T != Value.type "tuple") = true->(T == T) = true->(∀ d ∈ ds,P d)->(∀ h v x as,Reads h v x as->P x->∀ M:Model,Looks M h (typeOf v) T)->(∀ (s:Shared) v u x y as bs (C:Bool->Shared->Prop),Reads s.heap v x as->Reads s.heap u y bs->P x->P y->C (ltD x y) s->wpAny (model prog w) A (keyLt' oneType' v u) C (λ _ _=>False) s) ->
   ∃ kd:SortKind,∀ (s:Shared) (as:List Addr),ReadsAll s.heap vs ds as->(2 <= vs.length->∀ (E':Value->Shared->Prop) (R:SortKind->Shared->Prop),R kd s->wpAny (model prog w) A (keyKind' vs.toArray) R E' s) /\
    ∀ i j,i < vs.length->j < vs.length->∀ C:Bool->Shared->Prop,C (ltI ds i j) s->wpAny (model prog w) A (keyLt' kd (vs.getD i Value.none) (vs.getD j Value.none)) C (λ _ _=>False) s:=by
  intro T P t1 t2 hd hP hl;refine ⟨oneType',λ s as r=>⟨λ h2 E' R hR=>kas_kind (T:=T) h2 (λ v hv=>?_) t1 t2 hR,λ i j hi hj C hC=>?_⟩⟩
  ·obtain ⟨i,hi,rfl⟩:=List.getElem_of_mem hv;obtain ⟨d,bs,e1,e2⟩:=Wi r hi;have e3:vs.getD i Value.none = vs[i]:=by simp [hi]
   rw [e3] at e2;exact hP _ _ _ _ e2 (hd d (List.mem_of_getElem? e1)) _
  ·obtain ⟨d,bs,e1,e2⟩:=Wi r hi;obtain ⟨d',bs',e1',e2'⟩:=Wi r hj;rw [EM e1 e1'] at hC;exact hl s _ _ _ _ _ _ C e2 e2' (hd d (List.mem_of_getElem? e1)) (hd d' (List.mem_of_getElem? e1')) hC
 have tup:∀ (T:Value) (P:PyData->Prop),(T == T) = true->(∀ d ∈ ds,∃ x l,d = .tuple (x :: l) /\ P x)->(∀ h v x as,Reads h v x as->P x->∀ M:Model,Looks M h (typeOf v) T) ->
   ((T != Value.type "tuple") = true->∀ x y,P x->P y->(∃ i j,x = PyData.int i /\ y = .int j) \/ ∃ a b,x = .str a /\ y = .str b) ->
   ∃ kd:SortKind,∀ (s:Shared) (as:List Addr),ReadsAll s.heap vs ds as->(2 <= vs.length->∀ (E':Value->Shared->Prop) (R:SortKind->Shared->Prop),R kd s->wpAny (model prog w) A (keyKind' vs.toArray) R E' s) /\
    ∀ i j,i < vs.length->j < vs.length->∀ C:Bool->Shared->Prop,C (ltI ds i j) s->wpAny (model prog w) A (keyLt' kd (vs.getD i Value.none) (vs.getD j Value.none)) C (λ _ _=>False) s:=by
  intro T P t2 hd hP hxy;refine ⟨tuples' (T != Value.type "tuple"),λ s as r=>⟨λ h2 E' R hR=>?_,λ i j hi hj C hC=>?_⟩⟩
  ·obtain ⟨fs,k1,k2,k3⟩:=kat_tups (hP s.heap) r hd;exact kat_kind (T:=T) k1 (by omega) (λ v hv=>k3 v hv _) t2 hR
  ·obtain ⟨d,bs,e1,e2⟩:=Wi r hi;obtain ⟨d',bs',e1',e2'⟩:=Wi r hj;rw [EM e1 e1'] at hC;have m1:=List.mem_of_getElem? e1;have m2:=List.mem_of_getElem? e1';obtain ⟨x,l,rfl,px⟩:=hd d m1;obtain ⟨y,l',rfl,py⟩:=hd d' m2;have c:=h.cm _ m1 _ m2;have p1:=h.pl _ m1;have p2:=h.pl _ m2;rw [PyData.canLay0,PyData.depth] at p1 p2;rw [Z7] at c;rw [ltD] at hC;obtain ⟨a,o,xs,nn,cs,ea,h1,h2,h3,h4⟩:=J2 e2;obtain ⟨a',o',xs',nn',cs',ea',h1',h2',h3',h4'⟩:=J2 e2';rw [ea,ea'];have z1:=SeqAt.ReadsAll.length _ _ _ h4;have z2:=SeqAt.ReadsAll.length _ _ _ h4';refine kat_lt h1 h3 h1' h3' ?_;have fz:xs.toList.length < xs'.toList.length ↔ decide (xs.size < xs'.size) = true:=by rw [decide_eq_true_eq,Array.length_toList,Array.length_toList]
   cases et:(T != Value.type "tuple") with
   | false=>exact Uy (Jz _ _ A s _ _ _ _ h4 h4' p1.2.1 p2.2.1 c (by omega)) rfl fz hC
   | true=>
    obtain ⟨v,vs1,as1,cs1,f1,f2,f3,f4⟩:=Vz h4;obtain ⟨v',vs1',as1',cs1',f1',f2',f3',f4'⟩:=Vz h4';rw [f1,f1'] at fz ⊢;exact DY (hxy et x y px py) f3 f3' f4 f4' p1.2.1 p2.2.1 c (by omega) fz hC
 rcases h.kn with hd | hd | hd | hd | hd
 ·refine one (.type "int") (λ d=>∃ i,d = .int i) rfl rfl hd (λ h v x as r ⟨i,e⟩ M=>?_) λ s v u x y as bs C r1 r2 ⟨i,e⟩ ⟨j,e'⟩ hC=>?_
  ·subst e;cases r;exact .now
  ·subst e e';cases r1;cases r2;rw [ltD] at hC;exact kat_lt_int hC
 ·refine one (.type "str") (λ d=>∃ i,d = .str i) rfl rfl hd (λ h v x as r ⟨i,e⟩ M=>?_) λ s v u x y as bs C r1 r2 ⟨i,e⟩ ⟨j,e'⟩ hC=>?_
  ·subst e;cases r;exact .now
  ·subst e e';cases r1;cases r2;rw [ltD] at hC;exact kas_lt_str hC
 ·refine tup (.type "int") (λ d=>∃ i,d = .int i) rfl (λ d m=>by obtain ⟨i,l,e⟩:=hd d m; exact ⟨_,l,e,i,rfl⟩) (λ h v x as r ⟨i,e⟩ M=>?_) λ _ x y ⟨i,e⟩ ⟨j,e'⟩=>.inl ⟨i,j,e,e'⟩;subst e;cases r;exact .now
 ·refine tup (.type "str") (λ d=>∃ i,d = .str i) rfl (λ d m=>by obtain ⟨i,l,e⟩:=hd d m; exact ⟨_,l,e,i,rfl⟩) (λ h v x as r ⟨i,e⟩ M=>?_) λ _ x y ⟨i,e⟩ ⟨j,e'⟩=>.inr ⟨i,j,e,e'⟩;subst e;cases r;exact .now
 ·refine tup (.type "tuple") (λ d=>∃ i,d = .tuple i) rfl (λ d m=>by obtain ⟨i,l,e⟩:=hd d m; exact ⟨_,l,e,i,rfl⟩) (λ h v x as r ⟨i,e⟩ M=>?_) λ z=>absurd z (by decide);subst e;obtain ⟨a,o,xs,nn,cs,rfl,h1,h2,h3,h4⟩:=J2 r;exact h2 ▸ (Looks.ld h1).andThen .now
end
def leD (a b:PyData):Prop:=ltD b a = false
def Yq (h:Heap) (d:Addr) (ks:List Value) (ep:Nat):Prop:=∃ o es,h.get? d = some o /\ o.ExactDict /\ o.data = .dict es ep /\ es.toList.map (·.key) = ks
section
variable {E:Value->Shared->Prop} {d:Addr} {ks:List Value}
theorem Yq.ty (h:Yq s.heap d ks ep):s.TypeIs (.ref d) "dict" := let ⟨o,_,ho,hx,_⟩:=h; ⟨o,ho,hx.1⟩
theorem Gp {Q:Value->Shared->Prop} (hd:(d == sysModules) = false) (hm:Yq s.heap d ks ep)
  (hQ:Q (.ref s.heap.objs.size) { s with heap:=s.heap.push { cls:=.type "dict_keyiterator",data:=.fields #[.ref d,.int 0 0,.int ks.length 0,.int ep 0] } }):wpAny (model P w) A (pyIter (.ref d)) Q E s:=by
 obtain ⟨o,es,ho,hc,hdat,hk⟩:=id hm;have hT:=hm.ty;refine wpAny_pyIter_slot hT PySem.F.slot_dict_iter (wpAny_call_entry PySem.F.slot_dict_iter hT PySem.F.entry_dict_iter ?_ (PySem.F.args_dict_iter_1 _)); unfold Builtin.«dict.__iter__»; refine wpAny_bind ?_; unfold Builtin.Dict.dictSlotNone;refine wpAny_bind (wpAny_notOrdered_dict hT ?_); show wpAny _ _ (pure (Value.ref d)) _ _ s; refine wpAny_pure ?_; show wpAny _ _ (Builtin.Dict.showsAll d >>= _) _ _ s; unfold Builtin.Dict.showsAll;rw [if_neg (by rw [hd]; exact Bool.false_ne_true)]; refine wpAny_bind (wpAny_pure ?_); refine wpAny_bind (wpAny_dictEntries ho hdat ?_); refine wpAny_bind (wpAny_dictEpoch ho hdat ?_);have hsz:es.size = ks.length:=by rw [<- hk]; simp
 refine wpAny_bind (wpAny_newObj_type (wpAny_pure ⟨_,rfl, "dict_keyiterator",_,⟨_,Heap.get?_push_size _ rfl,rfl⟩,PySem.F.slot_dict_keyiterator_next.lookup,?_⟩)); simpa [rawInt,hsz] using hQ
theorem Gr {k:Value} {Q:Option Value->Shared->Prop} (hit:s.heap.IsKeyIter it d i ks.length ep) (hm:Yq s.heap d ks ep) (hx:ks[i]? = some k)
  (hQ:∀ h',h'.IsKeyIter it d (i + 1) ks.length ep->Heap.SameBut it s.heap h'->Q (some k) { s with heap:=h' }):wpAny (model P w) A (pyNext (.ref it)) Q E s:=by
 obtain ⟨o,ho,hc,hd⟩:=id hit; obtain ⟨od,es,hod,hcd,hdd,hk⟩:=id hm; unfold pyNext;refine wpAny_bind (wpAny_attempt (wpAny_callSpecial?_slot (name:=Str.ofString "__next__") hit.typeIs PySem.F.slot_dict_keyiterator_next (wpAny_call_entry PySem.F.slot_dict_keyiterator_next hit.typeIs PySem.F.entry_dict_keyiterator_next ?_ (PySem.F.args_dict_keyiterator_next_1 _)))); refine wpAny_bind (wpAny_pure ?_); refine wpAny_bind ?_; refine wpAny_bind ?_
 first | refine wpAny_bind (wpAny_typeNameOfWhole_keyiter hit.typeIs (wpAny_pure ?_)); skip | refine wpAny_bind (wpAny_typeNameOf_keyiter hit.typeIs (wpAny_pure ?_)); skip
 refine wpAny_bind (wpAny_fieldsOf ho hd ?_); have hown:Builtin.Dict_items.ownsTuple "dict_keyiterator" = false:=by decide
 simp only [hown,Bool.false_eq_true,if_false]; show wpAny _ _ (if (Value.ref d == Value.none) = true then _ else _) _ _ s; rw [if_neg (show ¬ ((Value.ref d == Value.none) = true) from Bool.false_ne_true)]; refine wpAny_bind (wpAny_pure ?_); refine wpAny_bind (wpAny_dictEntries hod hdd ?_);have hsz:es.size = ks.length:=by rw [<- hk]; simp
 rw [if_neg (by rw [hsz]; simp)]; refine wpAny_bind (wpAny_pure ?_); refine wpAny_bind (wpAny_dictEpoch hod hdd ?_); rw [if_neg (by simp)]; refine wpAny_pure ?_;have hlt':i < es.size:=by
  rw [hsz];exact (List.getElem?_eq_some_iff.mp hx).1
 have ek:es[i].key = k:=by
  rw [<- hk,List.getElem?_map,Array.getElem?_toList,Array.getElem?_eq_getElem hlt'] at hx;exact Option.some.inj hx
 simp only [show ¬ ((i:Int) < 0) from by lia,if_false,Int.toNat_natCast,Array.getElem?_eq_getElem hlt']; refine wpAny_bind ?_
 first | refine wpAny_bind (wpAny_typeNameOfWhole_keyiter hit.typeIs (wpAny_pure ?_)); skip | refine wpAny_bind (wpAny_typeNameOf_keyiter hit.typeIs (wpAny_pure ?_)); skip
 refine wpAny_bind (wpAny_isOneOf_keyiter hit.typeIs ?_); show wpAny _ _ (setField (.ref it) 1 (rawInt ((i:Int) + 1)) >>= _) _ _ s; refine wpAny_bind (wpAny_setField ho hd (by simp) ?_);have hit':(s.heap.update it (Obj.mapFields (·.setIfInBounds 1 (rawInt ((i:Int) + 1))))).IsKeyIter it d (i + 1) ks.length ep:=⟨_,Heap.get?_update_self _ ho (Obj.isFreed_of_fields (Obj.data_mapFields hd _)),(Obj.cls_mapFields ..).trans hc,by rw [Obj.data_mapFields hd]; simp [rawInt]⟩
 refine wpAny_bind (wpAny_holding ?_); refine wpAny_bind (wpAny_isOneOf_keyiter (s:={ s with heap:=s.heap.update it (Obj.mapFields (·.setIfInBounds 1 (rawInt ((i:Int) + 1)))) }) hit'.typeIs ?_);show wpAny _ _ (pure es[i].key) _ _ _; rw [ek];exact wpAny_pure (wpAny_pure ⟨_,rfl,wpAny_pure (hQ _ hit' (Heap.SameBut.update ..))⟩)
end
section
variable {E:Value->Shared->Prop} {d:Addr} {ks:List Value}
theorem EA {Q:Option Value->Shared->Prop} (hh:A.handled = none) (hit:s.heap.IsKeyIter it d i ks.length ep) (hm:Yq s.heap d ks ep) (hx:ks[i]? = none) (hQ:∀ h',Heap.ExtBut it s.heap h'->Q none { s with heap:=h' }):wpAny (model P w) A (pyNext (.ref it)) Q E s:=by
 obtain ⟨o,ho,hc,hd⟩:=id hit; obtain ⟨od,es,hod,hcd,hdd,hk⟩:=id hm; unfold pyNext;refine wpAny_bind (wpAny_attempt (wpAny_callSpecial?_slot (name:=Str.ofString "__next__") hit.typeIs PySem.F.slot_dict_keyiterator_next (wpAny_call_entry PySem.F.slot_dict_keyiterator_next hit.typeIs PySem.F.entry_dict_keyiterator_next ?_ (PySem.F.args_dict_keyiterator_next_1 _)))); refine wpAny_bind (wpAny_pure ?_); refine wpAny_bind ?_; refine wpAny_bind ?_
 first | refine wpAny_bind (wpAny_typeNameOfWhole_keyiter hit.typeIs (wpAny_pure ?_)); skip | refine wpAny_bind (wpAny_typeNameOf_keyiter hit.typeIs (wpAny_pure ?_)); skip
 refine wpAny_bind (wpAny_fieldsOf ho hd ?_); have hown:Builtin.Dict_items.ownsTuple "dict_keyiterator" = false:=by decide
 simp only [hown,Bool.false_eq_true,if_false]; show wpAny _ _ (if (Value.ref d == Value.none) = true then _ else _) _ _ s; rw [if_neg (show ¬ ((Value.ref d == Value.none) = true) from Bool.false_ne_true)]; refine wpAny_bind (wpAny_pure ?_); refine wpAny_bind (wpAny_dictEntries hod hdd ?_);have hsz:es.size = ks.length:=by rw [<- hk]; simp
 rw [if_neg (by rw [hsz]; simp)]; refine wpAny_bind (wpAny_pure ?_); refine wpAny_bind (wpAny_dictEpoch hod hdd ?_); rw [if_neg (by simp)]; refine wpAny_pure ?_;have hge:es.size <= i:=by rw [hsz]; exact List.getElem?_eq_none_iff.mp hx
 simp only [show ¬ ((i:Int) < 0) from by lia,if_false,Int.toNat_natCast,Array.getElem?_eq_none hge]; refine wpAny_bind ?_
 first | refine wpAny_bind (wpAny_typeNameOfWhole_keyiter hit.typeIs (wpAny_pure ?_)); skip | refine wpAny_bind (wpAny_typeNameOf_keyiter hit.typeIs (wpAny_pure ?_)); skip
 show wpAny _ _ (setField (.ref it) 0 .none >>= _) _ _ s; refine wpAny_bind (wpAny_setField ho hd (by simp) ?_); show wpAny _ _ (newExc (.type "StopIteration") [] >>= _) _ _ _; refine wpAny_bind ?_; simp only [newExc,newTuple]; refine wpAny_bind (wpAny_newObj_type ?_ (by size_fits));refine wpAny_bind (m:=firstArgMember _ _) (wpAny_of_eq (a:=Value.none) (by first | rfl | (simp only [firstArgMember]; rfl)) ?_); refine wpAny_newObj_type ?_ (by size_fits); simp only [raiseNew]; refine wpAny_bind (wpAny_handled ?_); rw [show A.in1.handled = none from hh];refine wpAny_bind (wpAny_pure (wpAny_throw ?_)); refine wpAny_bind (wpAny_isInstance (T := "StopIteration") (b:=true) ⟨_,Heap.get?_push_size _ rfl,rfl⟩ isSubtype_stop ?_); exact wpAny_pure (hQ _ (((Heap.SameBut.update ..).extBut.push _).push _))
end
noncomputable def Itt (o:Obj) (a:Addr) (ks:List (List Key)):It:=
 ⟨λ i H=>i < ks.length /\ ∃ kvs,H a = some (.frz o (.dT kvs)) /\ kvs.map (·.1) = ks,λ i H x H'=>H' = H /\ ∃ k b,ks[i]? = some k /\ x = .ref b /\ H b = some (.tup (k.map kV)),
  λ i H=>ks.length <= i /\ ∃ kvs,H a = some (.frz o (.dT kvs)) /\ kvs.map (·.1) = ks⟩
theorem KT.at:∀ {kvs:List (List Key × V)} {xs:List (List Key × Addr × Value)},KT H kvs xs->kvs.map (·.1) = xs.map (·.1) /\ ∀ {i:Nat} {x:List Key × Addr × Value},xs[i]? = some x->H x.2.1 = some (.tup (x.1.map kV))
 | _,_,.nil=>⟨rfl,λ e=>by simp at e⟩
 | _,_,.cons h t=>by
  obtain ⟨e1,e2⟩:=KT.at t;refine ⟨by rw [List.map_cons,List.map_cons,e1,h.1],λ {i x} e=>?_⟩;cases i with
  | zero=>
   cases e;rw [<- h.1];exact h.2.1
  | succ i=>exact e2 (i:=i) (by simpa using e)
theorem Pq {Z:L2.St} {o:Obj} (I:L2.Inv X pins Z H s) (e:H a = some (.frz o (.dT kvs))) :
  ∃ xs es ep,KT H kvs xs /\ o.data = .dict es ep /\ Yq s.heap a (xs.map λ x=>.ref x.2.1) ep /\ (a == sysModules) = false /\ kvs.length <= sizeLine:=by
 obtain ⟨ho,hz,hs,xs,rel,o',es,ep,ho',hx,hd,he,hn⟩:=(show Qd X.prog X.w H s.heap a (.frz o (.dT kvs)) from I.hok a _ e)
 rw [ho] at ho';cases ho';refine ⟨xs,es,ep,rel,hd,⟨o,es,ho,hx,hd,?_⟩,hs,hz⟩;rw [he,List.map_map];rfl
def Zeq (o:Obj) (a it:Addr) (n:Nat) (i:Nat) (h:Heap):Prop:=∃ es ep,o.data = .dict es ep /\ h.IsKeyIter it a i n ep
theorem Lq (o:Obj) (a it:Addr) (ks:List (List Key)):Turn P w K tg (Itt o a ks) [it] it (Zeq o a it ks.length) where
 mem:=by simp
 obj:=λ i h st b hb=>by
  have e:b = it:=by simpa using hb
  subst e;obtain ⟨es,ep,_,o',e,c,d⟩:=st;exact ⟨o',e,λ v z=>by rw [d] at z; cases z⟩
 keep:=λ i h h' st k=>let ⟨es,ep,e,st⟩:=st; ⟨es,ep,e,st.at λ o e=>k it (by simp) o e⟩
 item:=by
  intro X hP hw hK hc i pins s Z H E I hf st hg;subst hP hw hK;obtain ⟨hi,kvs,hq,hk⟩:=hg;obtain ⟨es0,ep0,e0,st⟩:=st;obtain ⟨xs,es,ep,rel,e1,p,_,_⟩:=Pq I hq;rw [e0] at e1;cases e1;obtain ⟨k1,k2⟩:=KT.at rel;have kx:ks = xs.map (·.1):=by rw [<- hk,k1]
  have kl:(xs.map λ x=>Value.ref x.2.1).length = ks.length:=by rw [kx,List.length_map,List.length_map]
  rw [<- kl] at st;have ix:i < xs.length:=by rw [kx,List.length_map] at hi; exact hi
  have hx:xs[i]? = some xs[i]:=List.getElem?_eq_getElem ix;have hki:ks[i]? = some xs[i].1:=by rw [kx,List.getElem?_map,hx]; rfl
  obtain ⟨f0,f1,f2,f3,f4,f5⟩:=hf it (by simp);refine Gr st p (k:=.ref xs[i].2.1) (by rw [List.getElem?_map,hx]; rfl) λ h' st' sb=>?_;have I1:L2.Inv X pins Z H { s with heap:=h' }:=I.turned (t':=s.toks) (λ b o hb e=>(sb.2 b hb).trans e) f0 f1 f3 f4 f5;obtain ⟨o2,e2,c2,d2⟩:=id st';exact ⟨_,rfl,Lj (s:={ s with heap:=h' }) e2 c2 d2 (by decide) ⟨.ref xs[i].2.1,H,I1,rfl,⟨rfl,xs[i].1,xs[i].2.1,hki,rfl,k2 hx⟩,⟨es0,ep0,e0,by rw [<- kl]; exact st'⟩,λ b hb=>(hf b hb).1⟩⟩
 done:=by
  intro X hP hw hK hc i pins s Z H E I hf st hg;subst hP hw hK;obtain ⟨hi,kvs,hq,hk⟩:=hg;obtain ⟨es0,ep0,e0,st⟩:=st;obtain ⟨xs,es,ep,rel,e1,p,_,_⟩:=Pq I hq;rw [e0] at e1;cases e1;obtain ⟨k1,k2⟩:=KT.at rel;have kx:ks = xs.map (·.1):=by rw [<- hk,k1]
  have kl:(xs.map λ x=>Value.ref x.2.1).length = ks.length:=by rw [kx,List.length_map,List.length_map]
  rw [<- kl] at st;obtain ⟨f0,f1,f2,f3,f4,f5⟩:=hf it (by simp);exact EA (I.ok.hd hc) st p (List.getElem?_eq_none (by lia)) λ h' eb=>⟨rfl,I.turned (t':=s.toks) (λ b o hb e=>eb b o hb e) f0 f1 f3 f4 f5⟩
 self:=λ _ _ _ _ _ st h=>let ⟨_,_,_,st⟩:=st; wpAny_pyIter_keyiter st h
section
variable {l:Expr} {tl:TE}
def ZgC (tl:TE):TI:=λ Z H R=>tl Z H λ x H1=>∃ a kvs,x = .ref a /\ ((H1 a = some (.dT kvs) /\ ∀ o,R (Itt o a (kvs.map (·.1))) (upd H1 a (.frz o (.dT kvs)))) \/ ∃ o,H1 a = some (.frz o (.dT kvs)) /\ R (Itt o a (kvs.map (·.1))) H1)
theorem Ri {Z:L2.St} (I:L2.Inv X pins Z H s) (hq:H a = some (.dT kvs)):∃ o,L2.Inv X pins Z (upd H a (.frz o (.dT kvs))) s:=by
 obtain ⟨h1,h2,xs,rel,o,es,ep,ho,hr⟩:=(show Qd X.prog X.w H s.heap a (.dT kvs) from I.hok a _ hq)
 refine ⟨o,I.write (h':=s.heap) (t':=s.toks) (e:=a) (by rw [hq]; exact trivial) (.inl rfl) (λ _ _ _ z=>z) ⟨o,ho⟩ ⟨ho,h1,h2,xs,KT.keeps rel λ b ys e=>?_,o,es,ep,ho,hr⟩⟩;rw [ZH λ z=>by rw [z,hq] at e; cases e];exact e
theorem Zbd (hl:PE X l tl):PI X tg l (ZgC tl):=by
 intro pins s Z H R I h;refine thn (hl pins s Z H _ I h) λ v s1 ⟨x,H1,I1,r1,q1⟩=>?_;obtain ⟨a,kvs,e,q⟩:=q1;subst e;cases r1;have fin:∀ (H2:Hp) (o:Obj),L2.Inv X pins Z H2 s1->H2 a = some (.frz o (.dT kvs))->R (Itt o a (kvs.map (·.1))) H2->wpAny (model X.prog X.w) X.A (pyIter (.ref a)) (PIE X pins Z tg R) X.xe s1:=λ H2 o I2 e2 q2=>by
  obtain ⟨xs,es,ep,rel,e1,p,hs,_⟩:=Pq I2 e2;refine Gp hs p ?_;obtain ⟨k1,k2⟩:=KT.at rel;have kl:(xs.map λ x=>Value.ref x.2.1).length = (kvs.map (·.1)).length:=by rw [k1,List.length_map,List.length_map]
  refine ⟨s1.heap.objs.size,[s1.heap.objs.size],_,_,H2,rfl,I2.kept (t':=s1.toks) λ b o e=>Heap.get?_push_of_some _ e,Lq o a _ (kvs.map (·.1)),⟨es,ep,e1,by rw [<- kl]; exact ⟨_,Heap.get?_push_size _ rfl,rfl,rfl⟩⟩,λ b hb=>?_,q2⟩;have e:b = s1.heap.objs.size:=by simpa using hb
  subst e;exact I2.S9 (Nat.le_refl _) (I2.hok.fresh (Nat.le_refl _))
 rcases q with ⟨hq,q⟩ | ⟨o,hq,q⟩
 ·obtain ⟨o,I2⟩:=Ri I1 hq;exact fin _ o I2 Z4 (q o)
 ·exact fin H1 o I1 hq q
end
noncomputable def tkD (k:List Key):PyData:=.tuple (k.map kD)
def BX (o:Option OO) (P:List (List Key)->Prop) (Q:Obj->List (List Key)->Prop):Prop:=match o with | some (.dct ks)=>P ks | some (.fdc o ks)=>Q o ks | _=>False
theorem Kg (ks:List (List Key)) (P:List (List Key)->Prop) (Q:Obj->List (List Key)->Prop):BX (some (.dct ks)) P Q = P ks:=qI
theorem XT (o:Obj) (ks:List (List Key)) (P:List (List Key)->Prop) (Q:Obj->List (List Key)->Prop):BX (some (.fdc o ks)) P Q = Q o ks:=qI
theorem WT {o:Option OO} {P:List (List Key)->Prop} {Q:Obj->List (List Key)->Prop} (h:BX o P Q):(∃ ks,o = some (.dct ks) /\ P ks) \/ ∃ b ks,o = some (.fdc b ks) /\ Q b ks:=by
 unfold BX at h
 split at h
 ·exact .inl ⟨_,rfl,h⟩
 ·exact .inr ⟨_,_,rfl,h⟩
 ·exact h.elim
theorem U3:∀ k:List Key,Dts K M H (k.map kV) (k.map kD)
 | []=>.nil
 | x :: k=>.cons (TK x) (U3 k)
theorem Zaq (r:ZE K M H) {b:Addr} {k:List Key} (h:H b = some (.tup (k.map kV))):Dt K M H (.ref b) (tkD k):=.tup (.inl ⟨Ew r (.inl h),.inl h⟩) (U3 k)
def ZbT (te:DTE):K6:=λ U M Ψ=>te U M λ x M1=>onO x λ l=>BX (M1 l) (λ ks=>∀ o,Ψ (ks.map tkD) (λ M2=>M2 l = some (.fdc o ks)) (ZD M1 l (.fdc o ks))) λ o ks=>Ψ (ks.map tkD) (λ M2=>M2 l = some (.fdc o ks)) M1
theorem Ry:type_of% @ZbT.eq_1:=λ _ _ _ _=>qI
theorem Nm {o:Obj} {ks':List (List Key)} (hk:ks' = ks):YlG K (Itt o l ks') (ks.map tkD) (λ M2=>M2 l = some (.fdc o ks)) M H:=by
 subst hk;intro M2 H2 st2 r2 hG i;obtain ⟨kvs,g1,g2⟩:=(show OOk K M2 H2 l (.fdc o ks') from r2.ok l _ hG)
 rw [List.length_map];refine ⟨λ hi=>⟨⟨hi,kvs,g1,g2⟩,λ y H' z r=>?_⟩,λ hi=>⟨hi,kvs,g1,g2⟩⟩;obtain ⟨rfl,k,b,ek,rfl,hb⟩:=z;exact ⟨r,Step.refl,tkD k,by rw [List.getElem?_map,ek]; rfl,Zaq r hb⟩
theorem ZaD (he:DE X iter te):DIG X tg iter (ZbT te):=by
 obtain ⟨t1,p1,q1⟩:=he;refine ⟨_,Zbd p1,λ Z H U M Ψ R dr er h k=>?_⟩;refine q1 Z H U M _ _ dr er h λ v H1 x M1 r1 st rv hx=>?_;replace hx:=Z9 hx;obtain ⟨l,rfl,hx⟩:=hx;cases (show v = .ref l from rv)
 rcases WT hx with ⟨ks,hm,hx⟩ | ⟨o,ks,hm,hx⟩
 ·obtain ⟨kvs,g1,g2⟩:=(show OOk X.K M1 H1 l (.dct ks) from r1.ok l _ hm)
  refine ⟨l,kvs,rfl,.inl ⟨g1,λ o=>?_⟩⟩;have st2:Step M1 H1 (ZD M1 l (.fdc o ks)) (upd H1 l (.frz o (.dT kvs))):=Step.Yd hm;exact k _ _ _ _ _ (r1.U1 st2 ⟨kvs,Z4,g2⟩) (st.trans st2) (Nm g2) (hx o)
 ·obtain ⟨kvs,g1,g2⟩:=(show OOk X.K M1 H1 l (.fdc o ks) from r1.ok l _ hm)
  exact ⟨l,kvs,rfl,.inr ⟨o,g1,k _ _ _ _ _ r1 st (Nm g2) hx⟩⟩
theorem Di (hu:X.A.units + 1 < cLine):OpR X (compareOp .NotIn) (λ x y H Q=>∃ a b kvs k,x = .ref b /\ y = .ref a /\ Rd H a (.dT kvs) /\ SqT X.K H b (k.map kV) /\ Q (.bl (!(Bh kvs k).isSome)) H):=by
 intro pins s Z H x y v u Q I rx ry h;obtain ⟨a,b,kvs,k,rfl,rfl,ha,hb,q⟩:=h;cases (show v = .ref b from rx);cases (show u = .ref a from ry);obtain ⟨z,hd,xs,rel,dd⟩:=TJ I.hok ha;refine wpAny_notIn_heap (tupleKind_room_in1 hu) (Zap I hb) hd dd ?_;have q':=(rel.val k).KG;rw [Option.isSome_map] at q';rw [<- q'];exact ⟨.bl _,H,I.tok _,rfl,q⟩
def GO:D2:=λ x y M Φ=>onP x λ i j=>onO y λ l=>BX (M l) (λ ks=>Φ (.dat (.bool (!BR ks (kP i j)))) M) λ _ ks=>Φ (.dat (.bool (!BR ks (kP i j)))) M
theorem Bj:type_of% @GO.eq_1:=λ _ _ _ _=>qI
theorem Dv {k:Nat} (hr:JJ k X.A):OpD X (compareOp .NotIn) GO:=by
 refine ⟨_,Di (by have:=hr.un; lia),λ v u H x y M Φ Q r rv ru h k=>?_⟩;replace h:=E7 h;obtain ⟨i,j,rfl,h⟩:=h;replace h:=Z9 h;obtain ⟨l,rfl,h⟩:=h;have two:∃ ks kvs,Rd H l (.dT kvs) /\ kvs.map (·.1) = ks /\ Φ (.dat (.bool (!BR ks (kP i j)))) M:=by
  rcases WT h with ⟨ks,hm,q⟩ | ⟨o,ks,hm,q⟩
  ·obtain ⟨kvs,g1,g2⟩:=(show OOk X.K M H l (.dct ks) from r.ok l _ hm)
   exact ⟨ks,kvs,.inl g1,g2,q⟩
  ·obtain ⟨kvs,g1,g2⟩:=(show OOk X.K M H l (.fdc o ks) from r.ok l _ hm)
   exact ⟨ks,kvs,.inr ⟨o,g1⟩,g2,q⟩
 obtain ⟨ks,kvs,g1,g2,q⟩:=two;obtain ⟨b,xs,rfl,h1,h2⟩:=Z3.tup rv;cases (show u = .ref l from ru);have e:xs = (kP i j).map kV:=by
  cases h2 with
  | cons a t=>
   cases a;cases t with
   | cons a t=>
    cases a;cases t;rfl
 rw [e] at h1;refine ⟨l,b,kvs,kP i j,rfl,rfl,g1,h1.sq,?_⟩;rw [Ky,g2];exact k.dat r Step.refl (Dt.bl _) q
theorem Ld:Slot "dict" "__len__" "dict.__len__" := .of (owner := "dict") (n := "__len__") (by rw [typeLookup_type,builtinLookup_eq_fast]; kernel_rfl) (by walk_at "k") (by walk_at "k") (by walk_at "k") (by first | exact .inl (by walk_at "k") | exact .inr (by walk_at "k")) (by rw [isSubtype_type]; kernel_rfl)
theorem XB:isSubtype (.type "dict") (.type "dict") = pure true:=by rw [isSubtype_type]; kernel_rfl
section
variable {E:Value->Shared->Prop}
theorem FL {ks:List Value} (hh:A.handled = none) (it d:Addr) (hd:d ≠ it):Walks P w A it [it,d] [it] ks.length (λ i v=>ks[i]? = some v) (λ i h=>h.IsKeyIter it d i ks.length ep /\ Yq h d ks ep) where
 sub:=λ b hb=>by simp at hb; simp [hb]
 frame:=λ i h h' ⟨⟨o,g,r⟩,o',es,g',r'⟩ hk=>⟨⟨o,hk it (by simp) _ g,r⟩,o',es,hk d (by simp) _ g',r'⟩
 item:=λ i s Q E hi ⟨h1,h2⟩ hQ=>Gr h1 h2 (k:=ks[i]) (List.getElem?_eq_getElem hi) λ h' st sb=>by
  obtain ⟨o,es,g,r⟩:=h2;exact hQ _ h' s.toks (List.getElem?_eq_getElem hi) ⟨st,o,es,(sb.2 d hd).trans g,r⟩ λ b o hb q=>(sb.2 b λ e=>hb (by simp [e])).trans q
 done:=λ s Q E ⟨h1,h2⟩ hQ=>EA hh h1 h2 (List.getElem?_eq_none (Nat.le_refl _)) λ h' eb=>hQ h' s.toks λ b o hb q=>eb b o (λ e=>hb (by simp [e])) q
 self:=λ i s Q E ⟨h1,_⟩ hQ=>wpAny_pyIter_keyiter h1 hQ
theorem Ue {d:Addr} {ks:List Value} {Q:List Value->Shared->Prop} (hh:A.handled = none) (hs:(d == sysModules) = false) (hm:Yq s.heap d ks ep) (hz:ks.length <= sizeLine)
    (hQ:∀ s':Shared,s'.gens = s.gens->s'.os = s.os->s.toks <= s'.toks->(∀ b o,s.heap.get? b = some o->s'.heap.get? b = some o)->Q ks s'):wpAny (model P w) A (collect (.ref d)) Q E s:=by
  obtain ⟨o,es,g,hx,hd,hk⟩:=id hm;have lt:d < s.heap.objs.size:=Heap.lt_size g;unfold collect;refine wpAny_bind (wpAny_runValue (codeAny_builtin PySem.F.entry_proto_collect ?_)); rw [Around.under_plainId PySem.F.plain_proto_collect _];show wpAny _ A.in1 (newList [] >>= λ l=>again (.builtin "list.__iadd__" ⟨[l,.ref d],[]⟩)) _ _ s;refine wpAny_bind (wpAny_newObj_type (wpAny_pure ⟨plainId_quiet PySem.F.plain_list_iadd _,codeAny_builtin PySem.F.entry_list_iadd ?_⟩)); rw [Around.under_plainId PySem.F.plain_list_iadd _];show wpAny _ A.in1 (Builtin.List.listExtendWith (.ref s.heap.objs.size) (.ref d) (.ref s.heap.objs.size)) _ _ _;have g1:(s.heap.push { cls:=.type "list",data:=.seq ([]:List Value).toArray }).get? d = some o:=Heap.get?_push_of_some _ g;have hm1:Yq (s.heap.push { cls:=.type "list",data:=.seq ([]:List Value).toArray }) d ks ep:=⟨o,es,g1,hx,hd,hk⟩
  have hTy:Shared.TypeIs { s with heap:=s.heap.push { cls:=.type "list",data:=.seq ([]:List Value).toArray } } (.ref d) "dict" := ⟨o,g1,hx.1⟩
  unfold Builtin.List.listExtendWith;refine wpAny_bind (wpAny_typeOf hTy ?_);have h1:Builtin.List.listSameRef (.ref s.heap.objs.size) (.ref d) = false:=by simp [Builtin.List.listSameRef]; exact λ e=>absurd e (Nat.ne_of_gt lt)
  simp only [h1,show (Value.type "dict" == Value.type "list") = false by decide,show (Value.type "dict" == Value.type "tuple") = false by decide,Bool.or_false,Bool.false_eq_true,if_false];refine wpAny_bind (Gp hs hm1 ?_);have szp:(s.heap.push { cls:=.type "list",data:=.seq ([]:List Value).toArray }).objs.size = s.heap.objs.size + 1:=size_push' _ _;generalize hI:(Shared.heap { s with heap:=s.heap.push { cls:=.type "list",data:=.seq ([]:List Value).toArray } }).objs.size = it;have hI:it = s.heap.objs.size + 1:=by rw [<- hI]; exact szp
  generalize hH:((s.heap.push { cls:=.type "list",data:=.seq ([]:List Value).toArray }).push { cls:=.type "dict_keyiterator",data:=.fields #[.ref d,.int 0 0,.int ks.length 0,.int ep 0] }:Heap) = h2;have k2:∀ b o,s.heap.get? b = some o->h2.get? b = some o:=λ b o e=>by rw [<- hH]; exact Heap.get?_push_of_some _ (Heap.get?_push_of_some _ e)
  have gN:h2.get? s.heap.objs.size = some { cls:=.type "list",data:=.seq ([]:List Value).toArray }:=by rw [<- hH]; exact Heap.get?_push_of_some _ (Heap.get?_push_size _ rfl)
  have st0:h2.IsKeyIter it d 0 ks.length ep:=⟨_,by rw [<- hH,hI,<- szp]; exact Heap.get?_push_size _ rfl,rfl,rfl⟩
  have hTy2:Shared.TypeIs { s with heap:=h2 } (.ref d) "dict" := ⟨o,k2 d o g,hx.1⟩
  refine wpAny_bind (wpAny_holding ?_);unfold Builtin.List.listLengthHint;refine wpAny_bind (wpAny_specialOf hTy2 Ld.lookup ?_)
  (generalize hid:("dict.__len__" : String) = id0; (fail_if_success (clear hid id0)); wp_delta; rw [show splitId id0 = some ("dict", "__len__") from by subst hid; decide +kernel]; subst hid)
  refine wpAny_bind (wpAny_isInstance (b:=true) hTy2 XB ?_);rw [if_neg (by decide)]; dsimp only;rw [if_pos (by walk_at "k")];refine wpAny_bind (wpAny_typeOf hTy2 (wpAny_pure ?_));have nN:s.heap.objs.size ∉ [it,d]:=λ hm=>by
    simp at hm
    rcases hm with e | e
    · lia
    · exact absurd e (Nat.ne_of_gt lt)
  have W:=(FL (P:=P) (w:=w) (A:=A.in1) (ks:=ks) (ep:=ep) hh it d λ e=>absurd (show s.heap.objs.size + 1 < s.heap.objs.size from by rw [<- hI,<- e]; exact lt) (by lia))
  have g2:=Heap.get?_update_self (Obj.mapSeq (·.push Value.none)) gN rfl;have g3:=Heap.get?_update_self (Obj.mapSeq (·.pop)) g2 rfl;have oth:∀ b o,b ≠ s.heap.objs.size->h2.get? b = some o->((h2.update s.heap.objs.size (Obj.mapSeq (·.push Value.none))).update s.heap.objs.size (Obj.mapSeq (·.pop))).get? b = some o:=
    λ b o hb e=>(Heap.get?_update_other _ _ (Ne.symm hb)).trans ((Heap.get?_update_other _ _ (Ne.symm hb)).trans e)
  have fin:∀ (h3:Heap) (c:Nat),(∀ b o,b ≠ s.heap.objs.size->h2.get? b = some o->h3.get? b = some o)->h3.get? s.heap.objs.size = some { cls:=.type "list",dict:=none,data:=.seq #[] c,slots:=#[] } ->
      ∀ R:Result->Shared->Prop,(∀ s' c',(∀ b o,s.heap.get? b = some o->s'.heap.get? b = some o)->s'.gens = s.gens->s'.os = s.os->s.toks <= s'.toks->s'.heap.get? s.heap.objs.size = some { cls:=.type "list",dict:=none,data:=.seq ks.toArray c',slots:=#[] }->R (.ok (.ret (.ref s.heap.objs.size))) s') ->
      codeAny (model P w) A (.builtin "list.extend.loop" ⟨[.ref s.heap.objs.size,.ref it,.ref s.heap.objs.size],[]⟩) R { s with heap:=h3 }:=λ h3 c k3 gg R hR=>by
    refine codeAny_extend_loopS W.toS hz _ nN _ ks.length 0 _ _ _ rfl (Nat.zero_le _) (W.frame 0 h2 _ ⟨st0,o,es,k2 d o g,hx,hd,hk⟩ λ b hb o e=>k3 b o (λ q=>nN (q ▸ hb)) e) gg (ItemsOf.nil _) λ s' acc c hm hS' hacc=>?_;have eL:acc.toList = ks:=by
      refine List.ext_getElem? λ j=>?_
      by_cases hj:j < acc.size
      · rw [Array.getElem?_toList,Array.getElem?_eq_getElem hj]
        exact (hacc.2 j _ (Array.getElem?_eq_getElem hj)).symm
      · rw [List.getElem?_eq_none (by rw [Array.length_toList]; lia),List.getElem?_eq_none (by rw [<- hacc.1]; lia)]
    have eA:acc = ks.toArray:=by rw [<- eL]
    rw [eA] at hS';refine hR s' c (λ b o q=>?_) hm.gens hm.os hm.toks hS';have bl:b < s.heap.objs.size:=Heap.lt_size q;refine hm.heap b o (λ hb=>?_) (k3 b o (Nat.ne_of_lt bl) (k2 b o q))
    rcases List.mem_cons.mp hb with e | e
    · exact absurd e (Nat.ne_of_lt bl)
    · rw [List.mem_singleton.mp e] at bl
      exact absurd (show s.heap.objs.size + 1 < s.heap.objs.size from by rw [<- hI]; exact bl) (by lia)
  first
    | (rw [if_pos (by walk_at "k")]
       refine wpAny_bind (wpAny_rule (wpAny_bind ?_));show wpAny _ A.in1 (updateSeq s.heap.objs.size (·.push .none) >>= λ _=>updateSeq s.heap.objs.size (·.pop)) _ _ _;refine wpAny_bind (wpAny_updateSeq gN rfl (wpAny_updateSeq g2 rfl ?_));refine wpAny_pure ⟨plainId_quiet PySem.F.plain_extend_loop _,fin _ _ oth g3 _ λ s' c' a1 a2 a3 a4 a5=>?_⟩;show wpAny _ A (load s.heap.objs.size >>= _) _ _ s'
       exact wpAny_bind (wpAny_load a5 (wpAny_pure (hQ s' a2 a3 a4 a1))))
    | (rw [if_neg (by walk_at "k")]
       refine wpAny_pure ⟨plainId_quiet PySem.F.plain_extend_loop _,fin _ _ (λ _ _ _ e=>e) gN _ λ s' c' a1 a2 a3 a4 a5=>?_⟩;show wpAny _ A (load s.heap.objs.size >>= _) _ _ s'
       exact wpAny_bind (wpAny_load a5 (wpAny_pure (hQ s' a2 a3 a4 a1))))
theorem G8 {kd:SortKind} {lt:Nat->Nat->Bool} (o:Ord lt) {d:Addr} {ks:List Value} {Q:Value->Shared->Prop} (hh:A.handled = none) (hs:(d == sysModules) = false) (hm:Yq s.heap d ks ep) (few:ks.length <= sizeLine)
  (kind:2 <= ks.length->∀ (s1:Shared),(∀ b u,s.heap.get? b = some u->s1.heap.get? b = some u)->∀ (E':Value->Shared->Prop) (R:SortKind->Shared->Prop),R kd s1->wpAny (model P w) A.in1.in1 (keyKind' ks.toArray) R E' s1)
  (ask:∀ (s1:Shared),(∀ b u,s.heap.get? b = some u->s1.heap.get? b = some u)->∀ i j,i < ks.length->j < ks.length->∀ C:Bool->Shared->Prop,C (lt i j) s1->wpAny (model P w) A.in1.in1 (keyLt' kd (ks.getD i Value.none) (ks.getD j Value.none)) C (λ _ _=>False) s1)
  (fin:∀ (q:Array Nat) (s1:Shared) (h':Heap) (e:Nat),Pm ks.length q->q.toList.Pairwise (Le lt)->s1.gens = s.gens->s1.os = s.os->(∀ b o,s.heap.get? b = some o->s1.heap.get? b = some o)->(∀ b o,s1.heap.get? b = some o->h'.get? b = some o)->h'.get? s1.heap.objs.size = some (seqObj "list" (Up ks q) e)->Q (.ref s1.heap.objs.size) { s1 with heap:=h' }) :
  wpAny (model P w) A (call (.builtin "sorted") [.ref d]) Q E s:=by
 refine Calls.call_function_entry kind_sorted plain_sorted entry_sorted (args_sorted1 _) ?_; unfold Builtin.«sorted»;refine wpAny_bind (m:=checkCount "sorted" 1 1 _) (wpAny_pure (wpAny_bind (Ue (by exact hh) hs hm few λ s1 a3 a4 a5 a6=>wpAny_bind (wpAny_newList ?_ few))));have hoL:(s1.heap.push (seqObj "list" ks.toArray 0)).get? s1.heap.objs.size = some (seqObj "list" ks.toArray 0):=Heap.get?_push_size _ rfl;have old:∀ b u,s.heap.get? b = some u->b ≠ s1.heap.objs.size /\ (s1.heap.push (seqObj "list" ks.toArray 0)).get? b = some u:=λ b u e=>⟨Nat.ne_of_lt (Heap.lt_size (a6 b u e)),Heap.get?_push_of_some _ (a6 b u e)⟩;show wpAny _ _ _ _ _ { s1 with heap:=s1.heap.push (seqObj "list" ks.toArray 0) };refine wpAny_bind (wpAny_holding (wpAny_call_entry slot_list_sort ⟨_,hoL,rfl⟩ entry_list_sort ?_ (args_list_sort _)));refine Uk (kd:=kd) (s:={ s1 with heap:=s1.heap.push (seqObj "list" ks.toArray 0) }) o hoL few (λ h2 h1 k R hR=>?_) (λ h1 k i j hi hj C hC=>?_) λ q pm pu=>⟨_,rfl,wpAny_pure ⟨_,rfl,?_⟩⟩
 ·exact kind h2 { s1 with heap:=h1 } (λ b u e=>k b u (old b u e).1 (old b u e).2) _ R hR
 ·exact ask { s1 with heap:=h1 } (λ b u e=>k b u (old b u e).1 (old b u e).2) i j hi hj C hC
 ·obtain ⟨e,he⟩:=Dn s1.heap ks (Up ks q);exact fin q s1 _ e pm pu a3 a4 a6 (λ b o q=>UO q) he
end
theorem KT.reads {Z:L2.St} (I:L2.Inv X pins Z H s):∀ {kvs:List (List Key × V)} {xs:List (List Key × Addr × Value)},KT H kvs xs->ReadsAll s.heap (xs.map λ x=>Value.ref x.2.1) (xs.map λ x=>tkD x.1) []
 | _,_,.nil=>.nil
 | _,_,.cons (b:=q) h t=>by
  obtain ⟨its,r,⟨o,ho,hc,n,hd⟩,_⟩:=I.tuple (SqT.of (K:=X.K) h.2.1);rw [List.map_cons,List.map_cons];refine .cons (as:=[]) (bs:=[]) ?_ (KT.reads I t);have e:tkD q.1 = .tuple (q.1.map kD):=rfl;rw [e,<- h.1];exact .tuple ho hc hd (by simpa using WX r)
def Zcz (K:Fk):List V->Hp->VK->Prop:=λ xs H Q=>∃ (p:Addr) (kvs:List (List Key × V)),xs = [.ref p] /\ Rd H p (.dT kvs) /\ Vi ((kvs.map (·.1)).map tkD) /\
 ∀ (q:Array Nat) (bs:List Addr),Pm kvs.length q->q.toList.Pairwise (Le (ltI ((kvs.map (·.1)).map tkD)))->(∀ i k,(kvs.map (·.1))[i]? = some k->H (bs.getD i 0) = some (.tup (k.map kV)))->∀ l,H l = none->Q (.ref l) (upd H l (.lst (q.toList.map λ i=>.ref (bs.getD i 0))))
theorem KQ {kk:Nat} (hr:JJ kk X.A):Q3 X (.builtin "sorted") (Zcz X.K):=by
 intro pins s Z H xs us Q I r h;obtain ⟨p,kvs,rfl,hq,ok,q⟩:=h;obtain ⟨u,rfl,rx⟩:=vals1 r;cases rx;obtain ⟨hz,hs,ys,rel,o,es,ep,ho,hx,hd,he,hn⟩:=(show Qd X.prog X.w H s.heap p (.dT kvs) from Sa I.hok hq)
 obtain ⟨k1,k2⟩:=KT.at rel;have rd:=KT.reads I rel;rw [show (ys.map λ x=>tkD x.1) = (kvs.map (·.1)).map tkD by rw [k1,List.map_map]; rfl] at rd;have raw:Yq s.heap p (ys.map λ x=>Value.ref x.2.1) ep:=⟨o,es,ho,hx,hd,by rw [he,List.map_map]; rfl⟩
 have n1:ys.length = kvs.length:=by have:=congrArg List.length k1; simpa using this.symm
 have hu:X.A.in1.in1.units + 64 < cLine:=by
  have:=hr.un;rw [in1_units,in1_units];lia
 obtain ⟨kd,ask⟩:=ZdN (prog:=X.prog) (w:=X.w) (A:=X.A.in1.in1) ok (vs:=ys.map λ x=>Value.ref x.2.1) hu;refine G8 (kd:=kd) (Rq ok) hr.hd hs raw (by rw [List.length_map]; lia) (λ two s1 kp E' R hR=>?_) (λ s1 kp i j hi hj C hC=>?_) λ q' s1 h' e pm pu b1 b2 b3 b4 b5=>?_
 ·exact (ask s1 [] (ReadsAll.keeps kp rd)).1 two E' R hR
 ·exact (ask s1 [] (ReadsAll.keeps kp rd)).2 i j hi hj C hC
 ·rw [List.length_map,n1] at pm;have hz':=pm.size;have I3:L2.Inv X pins Z H s1:=I.Rp (ch:=[]) b2 (Un.kept b3) (I.hok.kept b3) (by rw [b1]; exact I.bare) (λ _ z=>nomatch z);have hn':H s1.heap.objs.size = none:=I3.hok.fresh (Nat.le_refl _);have at2:∀ i,i < ys.length->(ys.map λ x=>x.2.1).getD i 0 = ys[i]!.2.1 /\ (ys.map λ x=>Value.ref x.2.1).getD i Value.none = .ref ((ys.map λ x=>x.2.1).getD i 0):=λ i hi=>by simp [hi]
  refine ⟨.ref s1.heap.objs.size,_,I3.laid (t':=s1.toks) (a:=s1.heap.objs.size) (o:=.lst (q'.toList.map λ i=>.ref ((ys.map λ x=>x.2.1).getD i 0))) b4 (Nat.le_refl _) ⟨?_,(Up (ys.map λ x=>Value.ref x.2.1) q').toList,e,?_,b5⟩,rfl,q q' (ys.map λ x=>x.2.1) pm pu (λ i k ek=>?_) _ hn'⟩
  ·rw [List.length_map,Array.length_toList];lia
  ·have go:∀ l:List Nat,(∀ i ∈ l,i < ys.length)->Vals (l.map λ i=>V.ref ((ys.map λ x=>x.2.1).getD i 0)) (l.map λ i=>(ys.map λ x=>Value.ref x.2.1).getD i Value.none):=λ l=>by
    induction l with
    | nil=>intro _; exact .nil
    | cons i l ih=>
     intro hl;refine .cons ?_ (ih λ j hj=>hl j (List.mem_cons_of_mem _ hj));exact (at2 i (hl i List.mem_cons_self)).2
   refine go _ λ i hi=>?_;obtain ⟨k,hk,rfl⟩:=List.getElem_of_mem hi;rw [W9,n1];exact pm.below (by rw [Array.length_toList] at hk; lia)
  ·rw [k1,List.getElem?_map] at ek;cases ey:ys[i]? with
   | none=>rw [ey] at ek; cases ek
   | some y=>
    rw [ey] at ek;cases ek;have:=k2 ey;rw [List.getD_eq_getElem?_getD,List.getElem?_map,ey];exact this
def Pg (rd:Option OO->(List (List Key)->Prop)->Prop):D1:=λ xs M Φ=>on1 xs λ x=>onO x λ l=>rd (M l) λ ks=>Vi (ks.map tkD) /\ ∀ ds':List PyData,ds'.Perm (ks.map tkD)->ds'.Pairwise leD->Φ (.dat (.list ds')) M
theorem BD {rd:Option OO->(List (List Key)->Prop)->Prop} (hd:∀ {M:Mp} {H:Hp} {l:Addr} {P:List (List Key)->Prop},ZE X.K M H->rd (M l) P->∃ kvs,Rd H l (.dT kvs) /\ P (kvs.map (·.1))) {kk:Nat} (hr:JJ kk X.A):JM X (.builtin "sorted") (Pg rd):=by
 refine ⟨_,KQ hr,λ vs H xs M Φ Q r rv h k=>?_⟩;replace h:=ZZ h;obtain ⟨x,rfl,h⟩:=h;replace h:=Z9 h;obtain ⟨l,rfl,h⟩:=h;obtain ⟨v,rfl,h1⟩:=Paired.one rv;cases (show v = .ref l from h1);obtain ⟨kvs,g1,ok,q⟩:=hd r h;refine ⟨l,kvs,rfl,g1,ok,λ p bs pm pu hb a ha=>?_⟩;have hz:=pm.size;have pl:p.toList.Perm (List.range kvs.length):=by
  have:=Array.perm_iff_toList_perm.mp pm
  simpa using this
 have mem:∀ i ∈ p.toList,i < kvs.length:=λ i hi=>by
  have:=pl.mem_iff.mp hi
  simpa using this
 have go:∀ L:List Nat,(∀ i ∈ L,i < kvs.length)->Dts X.K M H (L.map λ i=>V.ref (bs.getD i 0)) (L.map λ i=>((kvs.map (·.1)).map tkD).getD i PyData.none):=λ L=>by
  induction L with
  | nil=>intro _; exact .nil
  | cons i L ih=>
   intro hl;have hi:=hl i List.mem_cons_self;refine .cons ?_ (ih λ j hj=>hl j (List.mem_cons_of_mem _ hj));have e:((kvs.map (·.1)).map tkD).getD i PyData.none = tkD (kvs[i]).1:=by simp [hi]
   show Dt X.K M H (V.ref (bs.getD i 0)) (((kvs.map (·.1)).map tkD).getD i PyData.none);rw [e];exact Zaq r (hb i _ (by simp [hi]))
 refine k.dat (r.new ha) (Step.new ha) (Dt.VW r ha (go _ mem)) (q _ ?_ ?_)
 ·have:=pl.map λ i=>((kvs.map (·.1)).map tkD).getD i PyData.none;rw [show kvs.length = ((kvs.map (·.1)).map tkD).length by simp,map_range] at this;exact this
 ·rw [List.pairwise_map];refine List.Pairwise.imp_of_mem ?_ pu;intro i j hi hj hij;have i1:=mem i hi;have j1:=mem j hj;have e:=EM (ds:=(kvs.map (·.1)).map tkD) (i:=j) (j:=i) (a:=((kvs.map (·.1)).map tkD).getD j PyData.none) (b:=((kvs.map (·.1)).map tkD).getD i PyData.none) (by simp [j1]) (by simp [i1]);unfold leD;rw [<- e];exact hij
def DM:D1:=λ xs M Φ=>on1 xs λ x=>onO x λ l=>BX (M l) (λ ks=>Vi (ks.map tkD) /\ ∀ ds':List PyData,ds'.Perm (ks.map tkD)->ds'.Pairwise leD->Φ (.dat (.list ds')) M) λ _ ks=>Vi (ks.map tkD) /\ ∀ ds':List PyData,ds'.Perm (ks.map tkD)->ds'.Pairwise leD->Φ (.dat (.list ds')) M
theorem En:type_of% @DM.eq_1:=λ _ _ _=>qI
theorem Xo {kk:Nat} (hr:JJ kk X.A):JM X (.builtin "sorted") DM:=BD (rd:=λ o P=>BX o P λ _=>P) (λ {M H l P} r h=>by
 rcases WT h with ⟨ks,hm,q⟩ | ⟨o,ks,hm,q⟩
 ·obtain ⟨kvs,g1,rfl⟩:=(show OOk X.K M H l (.dct ks) from r.ok l _ hm)
  exact ⟨kvs,.inl g1,q⟩
 ·obtain ⟨kvs,g1,rfl⟩:=(show OOk X.K M H l (.fdc o ks) from r.ok l _ hm)
  exact ⟨kvs,.inr ⟨o,g1⟩,q⟩) hr
section
variable {t:DTA} {x1:Nat} {o i:Expr} {to ti:DTE}
theorem Mxs.of0:∀ {vs:List V} {xs:List DV},Paired (VR0 K M H) vs xs->Mxs K M H vs xs
 | _,_,.nil=>.nil
 | _,_,.cons (b:=.dat d) h t=>.dat h (Mxs.of0 t)
 | _,_,.cons (b:=.own b) h t=>by
  cases (show _ = V.ref b from h);exact .own (Mxs.of0 t)
 | _,_,.cons (b:=.ty n) h t=>h.elim
 | _,_,.cons (b:=.mix ys) h t=>.mix h (Mxs.of0 t)
theorem Mxs.paired:∀ {vs:List V} {xs:List DV},Mxs K M H vs xs->Paired (VR0 K M H) vs xs
 | _,_,.nil=>.nil
 | _,_,.dat h t=>.cons h t.paired
 | _,_,.own t=>.cons rfl t.paired
 | _,_,.mix h t=>.cons h t.paired
def Zct (t:DTA):DTE:=λ U M Φ=>t U M λ xs M1=>FW xs (Nat.ble xs.length 100 = true /\ Φ (.mix xs) M1)
theorem RI:type_of% @Zct.eq_1:=λ _ _ _ _=>qI
theorem Se (h:DA X es t):DE X (.Tuple es x1 pos) (Zct t):=by
 obtain ⟨u,p,q⟩:=h;refine ⟨_,Ci p,λ Z H U M Φ Q r e h k=>?_⟩;refine q Z H U M _ _ r e h λ vs H1 xs M1 r1 st rv hx=>?_;obtain ⟨hz,hl,hx⟩:=Um (K:=X.K) (M:=M1) (H:=H1) hx;have hlen:vs.length = xs.length:=Paired.length rv;have hl':=Nat.le_of_ble_eq_true hl;refine ⟨by rw [hlen,sizeLine_eq]; lia,λ a ha=>?_⟩;have st2:Step M1 H1 M1 (upd H1 a (.tup vs)):=Step.new ha;exact k _ _ (.mix xs) _ (r1.new ha) (st.trans st2) (show Mx _ _ _ _ _ from .mk (r1.tracked ha) Z4 (Mxs.of0 (Paired.NY (hz rv) λ _ _ z=>z.step st2))) hx
def S0 (x:DV) (P:List DV->Prop):Prop:=match x with | .dat (.tuple ds)=>P (ds.map DV.dat) | .mix xs=>P xs | _=>False
theorem F8 (ds:List PyData) (P:List DV->Prop):S0 (.dat (.tuple ds)) P = P (ds.map DV.dat):=qI
theorem Ht (xs:List DV) (P:List DV->Prop):S0 (.mix xs) P = P xs:=qI
theorem Ph {x:DV} {P:List DV->Prop} (h:S0 x P):∃ xs,P xs /\ ((∃ ds,x = .dat (.tuple ds) /\ xs = ds.map DV.dat) \/ x = .mix xs):=by
 unfold S0 at h
 split at h
 ·exact ⟨_,h,.inl ⟨_,rfl,rfl⟩⟩
 ·exact ⟨_,h,.inr rfl⟩
 ·exact h.elim
def ZfU (to ti:DTE):DTE:=λ U M Φ=>to U M λ x M1=>ti U M1 λ y M2=>onI y λ i=>S0 x λ xs=>∃ z,L2.atI xs i = some z /\ Φ z M2
theorem ZbL:type_of% @ZfU.eq_1:=λ _ _ _ _ _=>qI
theorem Xc:∀ {vs:List V} {ds:List PyData},Dts K M H vs ds->Paired (VR0 K M H) vs (ds.map DV.dat)
 | _,_,.nil=>.nil
 | _,_,.cons h t=>.cons h (Xc t)
theorem Ku (ho:DE X o to) (hi:DE X i ti) (hs:autoParam (XI i) zz7._auto_1):DE X (.Subscript o i pos') (ZfU to ti):=by
 obtain ⟨u,p,q⟩:=ho;obtain ⟨u2,p2,q2⟩:=hi;refine ⟨_,Rn Dl p p2 hs,λ Z H U M Φ Q r e h k=>?_⟩;refine q Z H U M _ _ r e h λ v H1 x M1 r1 st rv hx=>?_;refine q2 Z H1 U M1 _ _ r1 (e.step st) hx λ w H2 y M2 r2 st2 rw2 hy=>?_;replace hy:=ZA hy;obtain ⟨j,rfl,hy⟩:=hy;obtain ⟨xs,⟨z,hz,hΦ⟩,hx⟩:=Ph hy;cases rw2.int;have rv2:=Z3.step rv st2;have two:∃ a vs,v = .ref a /\ SqT X.K H2 a vs /\ Paired (VR0 X.K M2 H2) vs xs:=by
  rcases hx with ⟨ds,rfl,rfl⟩ | rfl
  ·obtain ⟨a,vs,rfl,h1,h2⟩:=Z3.tup rv2;exact ⟨a,vs,rfl,h1.sq,Xc h2⟩
  ·cases (show Mx X.K M2 H2 v xs from rv2) with
   | mk h1 h2 h3=>exact ⟨_,_,rfl,SqT.of h2,h3.paired⟩
 obtain ⟨a,vs,rfl,h1,h2⟩:=two;obtain ⟨v',e1,e2⟩:=Paired.atI h2 hz;exact .inr (.inl ⟨a,vs,j,v',rfl,rfl,h1,e1,k _ _ z _ r2 (st.trans st2) e2.rel hΦ⟩)
end
def Zb0 (x:DV) (M:Mp) (P:PyData->Mp->Prop):Prop:=match x with
 | .dat d=>P d M
 | .mix [.dat a,.own q]=>Vr (M q) λ ds=>P (.tuple [a,.list ds]) (Vl M q)
 | _=>False
theorem Mv (d:PyData) (M:Mp) (P:PyData->Mp->Prop):Zb0 (.dat d) M P = P d M:=qI
theorem Hi (a:PyData) (q:Addr) (M:Mp) (P:PyData->Mp->Prop):Zb0 (.mix [.dat a,.own q]) M P = Vr (M q) λ ds=>P (.tuple [a,.list ds]) (Vl M q):=qI
def ZbS (te:DTE):DTE:=λ U M Φ=>te U M λ x M1=>Zb0 x M1 λ d M2=>Φ (.dat d) M2
theorem RL:type_of% @ZbS.eq_1:=λ _ _ _ _=>qI
theorem Sb (he:DE X e te):DE X e (ZbS te):=by
 obtain ⟨t,p,q⟩:=he;refine ⟨t,p,λ Z H U M Φ Q r er h k=>?_⟩;refine q Z H U M _ _ r er h λ v H1 x M1 r1 st rv hx=>?_;unfold Zb0 at hx
 split at hx
 ·exact k _ _ _ _ r1 st rv hx
 ·rename_i a q;obtain ⟨ds,hm,hx⟩:=QK hx;obtain ⟨vs,g1,g2⟩:=r1.ls q _ hm;have st2:Step M1 H1 (Vl M1 q) H1:=Step.frz;refine k _ _ _ _ r1.frz (st.trans st2) ?_ hx;cases (show Mx X.K M1 H1 v [.dat a,.own q] from rv) with
  | mk h1 h2 h3=>
   cases h3 with
   | dat d1 d2=>
    cases d2 with
    | own d3=>
     cases d3;have hq:∀ b,M1 b = none->Vl M1 q b = none:=λ b hb=>by
      by_cases e:b = q
      ·rw [e];exact Vk
      ·rw [WQ e];exact hb
     exact Dt.tup (.inl ⟨hq _ h1,.inl h2⟩) (.cons (d1.step st2) (.cons (.lst (.inl ⟨Vk,.inl g1⟩) (g2.step st2)) .nil))
 ·exact hx.elim
theorem ZaM:OpD X (compareOp .Is) (δB λ c d=>c == d):=
 ⟨λ x y H Q=>∃ c d,x = .bl c /\ y = .bl d /\ Q (.bl (c == d)) H,λ pins s Z H x y v u Q I rx ry ⟨c,d,e1,e2,q⟩=>by
  subst e1 e2;cases rx;cases ry;exact is_bool ⟨.bl _,H,I,rfl,q⟩,λ v u H x y M Φ Q r rv ru h k=>by
  replace h:=VN h;obtain ⟨c,rfl,h⟩:=h;replace h:=VN h;obtain ⟨d,rfl,h⟩:=h;cases (show Dt X.K M H v _ from rv);cases (show Dt X.K M H u _ from ru)
  exact ⟨c,d,rfl,rfl,k.dat r Step.refl (Dt.bl _) h⟩⟩
theorem cO {k k':Nat} {ps:List Str} {S:DSp} {t:DTA} {p pos:Pos} (O:Own X.K X.mg x st ps f fd) (F:Qn X.prog X.w X.K X.mg X.base CX0 k f fd ps (lift X.K S)) (hr:JJ k' X.A) (ha:DA X (e :: es) t)
  (hl:autoParam (k <= k') zz10._auto_1) (hg:autoParam (Gl X x) zz11._auto_1) (hdb:autoParam ((x == ("__debug__" : Str)) = false) zz1._auto_1) (he:autoParam (starEach (e :: es) X.env = (false,eval e X.env) :: starEach es X.env) zz3._auto_1) (hpl:autoParam ((backTo pos (starEach es X.env)).any (·.1) = false) zz3._auto_1):DE X (.Call (.Name x p) (e :: es) [] pos) (Pf S t):=
 Py F (hr.mono hl) hg O.m O.F.kp O.b ZeG ha hdb he hpl
end DL
namespace My
open DL
set_option maxHeartbeats 8000000
noncomputable def top (i:Nat):Stmt:=PySem.Challenge.pw_landsentered_k15_shapes_within_shapes.main.body.getD i (.Pass ⟨0,0,0,0⟩)
noncomputable abbrev JL:Stmt:=top 1
noncomputable abbrev O5:Stmt:=top 2
noncomputable abbrev YB:Stmt:=top 3
noncomputable abbrev VA:Stmt:=top 4
noncomputable abbrev QJ:Stmt:=top 5
noncomputable abbrev Pp:Stmt:=top 6
noncomputable abbrev Us:Stmt:=top 7
noncomputable abbrev Q4:Stmt:=top 8
noncomputable abbrev XJ:Stmt:=top 9
noncomputable abbrev JY:Stmt:=top 10
noncomputable abbrev JO:Stmt:=top 11
noncomputable abbrev JV:Stmt:=top 13
noncomputable abbrev Vn:Stmt:=top 14
noncomputable abbrev QN:Stmt:=top 15
noncomputable abbrev Ju:Stmt:=top 17
noncomputable abbrev Uo:Stmt:=top 18
noncomputable abbrev PH:Stmt:=top 20
noncomputable abbrev EO:Stmt:=top 21
noncomputable abbrev Ga:Stmt:=top 22
noncomputable abbrev RO:Stmt:=top 23
noncomputable abbrev Ui:Stmt:=top 24
noncomputable abbrev Vd:Stmt:=top 25
noncomputable abbrev Cw:Stmt:=top 26
noncomputable abbrev UB:Stmt:=top 27
noncomputable abbrev WY:Stmt:=top 28
noncomputable abbrev WR:Stmt:=top 29
noncomputable abbrev UA:Stmt:=top 30
noncomputable abbrev Jr:Stmt:=top 31
noncomputable abbrev W3:Stmt:=top 32
noncomputable abbrev X0:Stmt:=top 33
noncomputable abbrev Uc:Stmt:=top 34
noncomputable abbrev Kc:Stmt:=top 35
noncomputable abbrev Ua:Stmt:=top 36
noncomputable abbrev Ec:Stmt:=top 37
noncomputable abbrev Jf:Stmt:=top 38
noncomputable abbrev QG:Stmt:=top 39
noncomputable abbrev Pt:Stmt:=top 40
theorem KL:Zp ["box"] ["box"] (Zh JL):=by walk_at "s"
theorem Zbm:Zp ["box", "spot"] ["box", "spot"] (Zh O5):=by walk_at "s"
theorem Bi:Zp ["box", "other"] ["box", "other"] (Zh YB):=by walk_at "s"
theorem UK:Zp ["box", "spot"] ["box", "spot"] (Zh VA):=by walk_at "s"
theorem VY:Zp ["one", "other"] ["one", "other"] (Zh QJ):=by walk_at "s"
theorem ZbY:Zp ["one", "other", "way"] ["one", "other", "way"] (Zh Pp):=by walk_at "s"
theorem GK:Zp ["box", "way", "at", "high"] ["box", "way", "at"] (Zh Us):=by walk_at "s"
theorem JI:Zp ["box", "way", "at", "low"] ["box", "way", "at"] (Zh Q4):=by walk_at "s"
theorem YN:Zp ["one", "other", "low", "high"] ["one", "other"] (Zh XJ):=by walk_at "s"
theorem QH:Zp ["one", "other", "middle", "left", "right", "below", "above"] ["one", "other"] (Zh JY):=by walk_at "s"
theorem Qb:Zp ["box", "others", "pieces", "other", "rest", "piece"] ["box", "others"] (Zh JO):=by walk_at "s"
theorem Xu:Zp ["shape", "box", "lacking"] ["shape", "box"] (Zh JV):=by walk_at "s"
theorem ZX:Zp ["shape", "box", "k", "across", "along", "way", "places", "at", "first"] ["shape", "box"] (Zh Vn):=by walk_at "s"
theorem Q0:Zp ["shape", "box", "way", "places", "other"] ["shape", "box", "way"] (Zh QN):=by walk_at "s"
theorem Yw:Zp ["one", "other", "answers", "lacking"] ["one", "other"] (Zh Ju):=by walk_at "s"
theorem Hb:Zp ["one", "other"] ["one", "other"] (Zh Uo):=by walk_at "s"
theorem CH:Zp ["_law_script", "_law_k", "_law_cell"] ["_law_script", "_law_k"] (Zh PH):=by walk_at "s"
theorem YM:Zp ["_law_pen_here", "_law_many", "_law_number", "_law_found"] ["_law_pen_here", "_law_many"] (Zh EO):=by walk_at "s"
theorem Yo:Zp ["_law_pen_here", "_law_low", "_law_high", "_law_thick", "_law_found"] ["_law_pen_here"] (Zh Ga):=by walk_at "s"
theorem Xi:Zp ["_law_pen_here", "_law_box_here", "_law_begin", "_law_end", "_law_way", "_law_first", "_law_at"] ["_law_pen_here", "_law_box_here"] (Zh RO):=by walk_at "s"
theorem JB:Zp ["_law_pen_here", "_law_way", "_law_found", "_law_k", "_law_low", "_law_high"] ["_law_pen_here"] (Zh Ui):=by walk_at "s"
theorem Vy:Zp ["_law_pen_here", "_law_times", "_law_begins"] ["_law_pen_here"] (Zh Vd):=by walk_at "s"
theorem Jo:Zp ["_law_boxes_here", "_law_frame_here", "_law_found", "_law_times", "_law_x", "_law_y", "_law_low", "_law_high", "_law_begin"] ["_law_boxes_here", "_law_frame_here"] (Zh Cw):=by walk_at "s"
theorem JC:Zp ["_law_boxes_here", "_law_found", "_law_low", "_law_high", "_law_x", "_law_y"] ["_law_boxes_here"] (Zh UB):=by walk_at "s"
theorem XS:Zp ["_law_one", "_law_box_here", "_law_low", "_law_high"] ["_law_one", "_law_box_here"] (Zh WY):=by walk_at "s"
theorem XG:Zp ["_law_box_here", "_law_way", "_law_at", "_law_low", "_law_high"] ["_law_box_here", "_law_way", "_law_at"] (Zh WR):=by walk_at "s"
theorem LK:Zp ["_law_thing"] ["_law_thing"] (Zh UA):=by walk_at "s"
theorem X9:Zp ["_law_shape", "_law_box_here", "_law_paper"] ["_law_shape", "_law_box_here", "_law_paper"] (Zh Jr):=by walk_at "s"
theorem QM:Zp ["_law_shape", "_law_box_here", "_law_thing", "_law_waiting", "_law_here", "_law_paper", "_law_parts_here", "_law_way", "_law_at"] ["_law_shape", "_law_box_here", "_law_thing"] (Zh W3):=by walk_at "s"
theorem QE:Zp ["_law_pen_here", "_law_boxes_here", "_law_way", "_law_low", "_law_high", "_law_at", "_law_ends", "_law_one", "_law_other_here"] ["_law_pen_here", "_law_boxes_here"] (Zh X0):=by walk_at "s"
theorem G3:Zp ["_law_one", "_law_other_here", "_law_way"] ["_law_one", "_law_other_here"] (Zh Uc):=by walk_at "s"
theorem JT:Zp ["_law_cells_here", "_law_others", "_law_frame_here", "_law_found", "_law_times", "_law_x", "_law_y"] ["_law_cells_here", "_law_others", "_law_frame_here"] (Zh Kc):=by walk_at "s"
theorem GZ:Zp ["_law_one", "_law_other_here", "_law_due", "_law_found"] ["_law_one", "_law_other_here", "_law_due"] (Zh Ua):=by walk_at "s"
theorem WV:Zp ["_law_one", "_law_other_here", "_law_due", "_law_found", "_law_box_here", "_law_paper"] ["_law_one", "_law_other_here", "_law_due", "_law_found"] (Zh Ec):=by walk_at "s"
theorem Qg:Zp ["_law_first", "_law_second", "_law_frame_here", "_law_shapes", "_law_cells_here", "_law_same", "_law_found"] ["_law_first", "_law_second", "_law_frame_here"] (Zh Jf):=by walk_at "s"
theorem YE:Zp ["_law_boxes_here", "_law_both"] ["_law_boxes_here"] (Zh QG):=by walk_at "s"
theorem Xq:Zp ["_law_script", "_law_k", "_law_pen_here", "_law_boxes_here", "_law_frame_here", "_law_other_here"] ["_law_script"] (Zh Pt):=by walk_at "s"
theorem NP:bootBuiltins "abs" = some (.builtin "abs"):=by walk_at "k"
theorem Fj:bootBuiltins "bool" = some (.type "bool"):=by walk_at "k"
theorem NT:bootBuiltins "int" = some (.type "int"):=by walk_at "k"
theorem ZQ:bootBuiltins "isinstance" = some (.builtin "isinstance"):=by walk_at "k"
theorem Z8:bootBuiltins "len" = some (.builtin "len"):=by walk_at "k"
theorem R5:bootBuiltins "list" = some (.type "list"):=by walk_at "k"
theorem VT:bootBuiltins "max" = some (.builtin "max"):=by walk_at "k"
theorem Je:bootBuiltins "min" = some (.builtin "min"):=by walk_at "k"
theorem Ww:bootBuiltins "sorted" = some (.builtin "sorted"):=by walk_at "k"
theorem Jx:bootBuiltins "tuple" = some (.type "tuple"):=by walk_at "k"
set_option genInjectivity false in
structure Tx (K:Fk) (mg:Str->Option Value) where
 Yz:Addr
 Yf:FuncData
 Yu:Own K mg "has_spots" JL ["box"] Yz Yf
 ZbZ:Addr
 ZbF:FuncData
 RU:Own K mg "has" O5 ["box", "spot"] ZbZ ZbF
 Ks:Addr
 Wa:FuncData
 Wg:Own K mg "has_all" YB ["box", "other"] Ks Wa
 Xe:Addr
 Xl:FuncData
 Xh:Own K mg "steps_to" VA ["box", "spot"] Xe Xl
 Jn:Addr
 Ji:FuncData
 Qk:Own K mg "steps_between" QJ ["one", "other"] Jn Ji
 Zcj:Addr
 Zb2:FuncData
 RN:Own K mg "gap" Pp ["one", "other", "way"] Zcj Zb2
 EY:Addr
 FD:FuncData
 Fu:Own K mg "up_to" Us ["box", "way", "at"] EY FD
 Vg:Addr
 Va:FuncData
 J4:Own K mg "onward_from" Q4 ["box", "way", "at"] Vg Va
 GI:Addr
 U2:FuncData
 GL:Own K mg "common" XJ ["one", "other"] GI U2
 Kw:Addr
 WA:FuncData
 KI:Own K mg "cut_out" JY ["one", "other"] Kw WA
 YF:Addr
 Y0:FuncData
 YK:Own K mg "left_over" JO ["box", "others"] YF Y0
 Wy:Addr
 WB:FuncData
 K7:Own K mg "covered" JV ["shape", "box"] Wy WB
 JE:Addr
 Jv:FuncData
 Jy:Own K mg "cover_of" Vn ["shape", "box"] JE Jv
 VS:Addr
 VL:FuncData
 Jl:Own K mg "cut_places" QN ["shape", "box", "way"] VS VL
 UM:Addr
 UY:FuncData
 J7:Own K mg "within" Ju ["one", "other"] UM UY
 CJ:Addr
 CV:FuncData
 X8:Own K mg "alike" Uo ["one", "other"] CJ CV
 Zcy:Addr
 TZ:FuncData
 ZaJ:Own K mg "_law_pen" PH ["_law_script", "_law_k"] Zcy TZ
 Nd:Addr
 NO:FuncData
 Qf:Own K mg "_law_draw" EO ["_law_pen_here", "_law_many"] Nd NO
 NN:Addr
 Nh:FuncData
 Ng:Own K mg "_law_hole" Ga ["_law_pen_here"] NN Nh
 Zbu:Addr
 ZcT:FuncData
 LO:Own K mg "_law_box" RO ["_law_pen_here", "_law_box_here"] Zbu ZcT
 DP:Addr
 EU:FuncData
 XD:Own K mg "_law_boxes" Ui ["_law_pen_here"] DP EU
 Wr:Addr
 Kq:FuncData
 K3:Own K mg "_law_frame" Vd ["_law_pen_here"] Wr Kq
 Og:Addr
 NH:FuncData
 Ey:Own K mg "_law_laid" Cw ["_law_boxes_here", "_law_frame_here"] Og NH
 E3:Addr
 Dx:FuncData
 UE:Own K mg "_law_cells" UB ["_law_boxes_here"] E3 Dx
 DH:Addr
 CW:FuncData
 FK:Own K mg "_law_has" WY ["_law_one", "_law_box_here"] DH CW
 Cs:Addr
 EF:FuncData
 Uv:Own K mg "_law_parts" WR ["_law_box_here", "_law_way", "_law_at"] Cs EF
 C2:Addr
 C8:FuncData
 Vx:Own K mg "_law_whole" UA ["_law_thing"] C2 C8
 VI:Addr
 VQ:FuncData
 VR:Own K mg "_law_leaf_holds" Jr ["_law_shape", "_law_box_here", "_law_paper"] VI VQ
 B1:Addr
 Fi:FuncData
 E9:Own K mg "_law_holds" W3 ["_law_shape", "_law_box_here", "_law_thing"] B1 Fi
 FI:Addr
 Fg:FuncData
 CT:Own K mg "_law_other" X0 ["_law_pen_here", "_law_boxes_here"] FI Fg
 Cc:Addr
 EX:FuncData
 EB:Own K mg "_law_touch" Uc ["_law_one", "_law_other_here"] Cc EX
 C5:Addr
 E4:FuncData
 WZ:Own K mg "_law_least" Kc ["_law_cells_here", "_law_others", "_law_frame_here"] C5 E4
 Cb:Addr
 Dr:FuncData
 Uj:Own K mg "_law_right" Ua ["_law_one", "_law_other_here", "_law_due"] Cb Dr
 NC:Addr
 Nj:FuncData
 EI:Own K mg "_law_told" Ec ["_law_one", "_law_other_here", "_law_due", "_law_found"] NC Nj
 VP:Addr
 VU:FuncData
 Qq:Own K mg "_law_pair_right" Jf ["_law_first", "_law_second", "_law_frame_here"] VP VU
 Xw:Addr
 Xm:FuncData
 Xr:Own K mg "_law_mirrored" QG ["_law_boxes_here"] Xw Xm
 Zah:Addr
 Zbo:FuncData
 o_law:Own K mg "law" Pt ["_law_script"] Zah Zbo
 Zb6:mg "abs" = none
 Of:mg "bool" = none
 Zav:mg "int" = none
 ZY:mg "isinstance" = none
 QU:mg "len" = none
 ZbU:mg "list" = none
 Wj:mg "max" = none
 Yi:mg "min" = none
 Jm:mg "range" = none
 Zd9:mg "set" = none
 Kb:mg "sorted" = none
 VH:mg "tuple" = none
 ZeU:mg "zip" = none
local macro_rules | `(tactic| walk_at "hd")=>`(tactic| (subst_vars; (try dsimp only); refine DL.HC λ R hR=>?_))
local macro_rules | `(tactic| walk_at "h")=>`(tactic| (walk_at "hd"; walk_at "rk"))
noncomputable def ab (i:Int):Int:=if i < 0 then -i else i
noncomputable def ZfL (x y x' y':Int):Int:=max (ab (x - x')) (ab (y - y'))
noncomputable def gp (a b a' b':Int):Int:=max 0 (max (a' - b) (a - b'))
noncomputable def btw (x y X Y x' y' X' Y':Int):Int:=max (gp x X x' X') (gp y Y y' Y')
structure B4 where
 x:Int
 y:Int
 X:Int
 Y:Int
noncomputable def bD (b:B4):PyData:=.tuple [.tuple [.int b.x,.int b.y],.tuple [.int b.X,.int b.Y]]
noncomputable def QT (a b:B4):Int:=btw a.x a.y a.X a.Y b.x b.y b.X b.Y
noncomputable def UH (p:B4) (u v:Int):Int:=btw p.x p.y p.X p.Y u v u v
noncomputable def hasB (b:B4) (u v:Int):Bool:=decide (b.x <= u /\ u <= b.X /\ b.y <= v /\ v <= b.Y)
noncomputable def okB (b:B4):Bool:=decide (b.x <= b.X) && decide (b.y <= b.Y)
noncomputable def ZbA (a b:B4):B4:=⟨max a.x b.x,max a.y b.y,min a.X b.X,min a.Y b.Y⟩
noncomputable def BZ (a b:B4):List B4:=
 let mx:=max a.x b.x
 let my:=max a.y b.y
 let mX:=min a.X b.X
 let mY:=min a.Y b.Y
 [⟨a.x,a.y,mx - 1,a.Y⟩,⟨mX + 1,a.y,a.X,a.Y⟩,⟨mx,a.y,mX,my - 1⟩,⟨mx,mY + 1,mX,a.Y⟩]
noncomputable def Xa (a b:B4):List B4:=if 0 < QT a b then [a] else (BZ a b).filter okB
noncomputable def QV (a:B4) (bs:List B4):List B4:=bs.foldl (λ ps b=>ps.flatMap λ p=>Xa p b) [a]
noncomputable def Du (u v r:Int):B4:=⟨u - r,v - r,u + r,v + r⟩
def onX (x:DV) (P:B4->Prop):Prop:=∃ b,x = .dat (bD b) /\ P b
theorem Nl {a b:B4} (h:bD a = bD b):a = b:=by
 obtain ⟨x,y,X,Y⟩:=a;obtain ⟨x',y',X',Y'⟩:=b
 injection h with h
 injection h with h1 h
 injection h with h2 _
 injection h1 with h1
 injection h1 with a h1
 injection h1 with b _
 injection h2 with h2
 injection h2 with c h2
 injection h2 with d _
 injection a with a
 injection b with b
 injection c with c
 injection d with d
 dsimp only at a b c d;rw [a,b,c,d]
theorem V9 (b:B4) (P:B4->Prop):onX (.dat (bD b)) P = P b:=propext ⟨λ ⟨c,e,h⟩=>by
 rw [DV.dat.injEq] at e;rw [Nl e]
 exact h,λ h=>⟨b,rfl,h⟩⟩
theorem HU (x y X Y:Int) (P:B4->Prop):onX (.dat (.tuple [.tuple [.int x,.int y],.tuple [.int X,.int Y]])) P = P ⟨x,y,X,Y⟩:=V9 ⟨x,y,X,Y⟩ P
theorem ZM {x:DV} {P:B4->Prop} (h:onX x P):∃ b,x = .dat (bD b) /\ P b:=h
theorem Me (b:B4) (M:Mp) (P:List PyData->Prop):onQ (.dat (bD b)) M P = P [.tuple [.int b.x,.int b.y],.tuple [.int b.X,.int b.Y]]:=qI
theorem Ll (b:B4) (P:List PyData->Prop):onT (.dat (bD b)) P = P [.tuple [.int b.x,.int b.y],.tuple [.int b.X,.int b.Y]]:=qI
def Jc (x:DV) (P:List B4->Prop):Prop:=∃ bs,x = .dat (.tuple (bs.map bD)) /\ P bs
def WG (x:DV) (P:List B4->Prop):Prop:=∃ bs,x = .dat (.list (bs.map bD)) /\ P bs
theorem Z1 {x:DV} {P:List B4->Prop} (h:Jc x P):∃ bs,x = .dat (.tuple (bs.map bD)) /\ P bs:=h
theorem VB {x:DV} {P:List B4->Prop} (h:WG x P):∃ bs,x = .dat (.list (bs.map bD)) /\ P bs:=h
theorem Vo:∀ {as bs:List B4},as.map bD = bs.map bD->as = bs
 | [],[],_=>rfl
 | [],_ :: _,h=>by simp at h
 | _ :: _,[],h=>by simp at h
 | a :: as,b :: bs,h=>by
  rw [List.map_cons,List.map_cons,List.cons.injEq] at h;rw [Nl h.1,Vo h.2]
theorem RD (bs:List B4) (P:List B4->Prop):Jc (.dat (.tuple (bs.map bD))) P = P bs:=propext ⟨λ ⟨cs,e,h⟩=>by
 rw [DV.dat.injEq,PyData.tuple.injEq] at e;rw [Vo e]
 exact h,λ h=>⟨bs,rfl,h⟩⟩
theorem Pn (bs:List B4) (P:List B4->Prop):WG (.dat (.list (bs.map bD))) P = P bs:=propext ⟨λ ⟨cs,e,h⟩=>by
 rw [DV.dat.injEq,PyData.list.injEq] at e;rw [Vo e]
 exact h,λ h=>⟨bs,rfl,h⟩⟩
def Shp (bs:List B4):Prop:=1 <= bs.length /\ bs.length <= 6 /\ ∀ b ∈ bs,okB b = true
noncomputable abbrev anyB (bs:List B4):Int->Int->Bool:=λ x y=>bs.any λ b=>hasB b x y
def ZcQ:DSp:=λ xs M Φ=>on1 xs λ x=>onX x λ b=>Φ (.dat (.bool (okB b))) M
theorem SW:type_of% @ZcQ.eq_1:=λ _ _ _=>qI
def Za9:DSp:=λ xs M Φ=>on3 xs λ x y z=>onX x λ a=>onX y λ b=>onI z λ i=>(i = 0 \/ i = 1) /\ Φ (.dat (.int (if i = 0 then gp a.x a.X b.x b.X else gp a.y a.Y b.y b.Y))) M
theorem P1:type_of% @Za9.eq_1:=λ _ _ _=>qI
def K8:DSp:=λ xs M Φ=>on2 xs λ x y=>onX x λ a=>onX y λ b=>Φ (.dat (.int (QT a b))) M
theorem W4:type_of% @K8.eq_1:=λ _ _ _=>qI
def ZfQ:DSp:=λ xs M Φ=>on2 xs λ x y=>onX x λ a=>onP y λ u v=>Φ (.dat (.int (UH a u v))) M
theorem Zbf:type_of% @ZfQ.eq_1:=λ _ _ _=>qI
def N9:DSp:=λ xs M Φ=>on2 xs λ x y=>onX x λ a=>onP y λ u v=>Φ (.dat (.bool (hasB a u v))) M
theorem HI:type_of% @N9.eq_1:=λ _ _ _=>qI
def R4:DSp:=λ xs M Φ=>on2 xs λ x y=>onP x λ a b=>onP y λ u v=>Φ (.dat (.int (ZfL a b u v))) M
def HZ:DSp:=λ xs M Φ=>on2 xs λ x y=>onP x λ u v=>onI y λ r=>Φ (.dat (bD (Du u v r))) M
def GJ:DSp:=λ xs M Φ=>on2 xs λ x y=>onX x λ a=>onX y λ b=>Φ (.dat (bD (ZbA a b))) M
theorem BV:type_of% @GJ.eq_1:=λ _ _ _=>qI
def Zc0:DSp:=λ xs M Φ=>on2 xs λ x y=>onX x λ a=>onX y λ b=>∀ p,M p = none->Φ (.own p) (ZD M p (.lst ((Xa a b).map bD)))
theorem RK:type_of% @Zc0.eq_1:=λ _ _ _=>qI
def NJ:DSp:=λ xs M Φ=>on2 xs λ x y=>onX x λ a=>Jc y λ bs=>bs.length <= 6 /\ Φ (.dat (.list ((QV a bs).map bD))) M
theorem Hr:type_of% @NJ.eq_1:=λ _ _ _=>qI
def Za7:DSp:=λ xs M Φ=>on2 xs λ x y=>Jc x λ bs=>onP y λ u v=>bs.length <= 6 /\ Φ (.dat (.bool (anyB bs u v))) M
theorem YR {α:Type} {l:List α} {i:Nat} {q:α} (f:α->Bool) (h:l[i]? = some q):(l.take (i + 1)).filter f = (l.take i).filter f ++ (if f q = true then [q] else []):=by
 rw [List.take_add_one,h,List.filter_append];cases e:f q <;> simp [e]
theorem X2 (a b:B4):(Xa a b).length <= 4:=by
 unfold Xa
 split
 ·simp
 ·exact Nat.le_trans (List.length_filter_le _ _) (Nat.le_refl 4)
theorem Gk:∀ (bs ps:List B4),(bs.foldl (λ ps b=>ps.flatMap λ p=>Xa p b) ps).length <= ps.length * 4 ^ bs.length
 | [],ps=>by simp
 | b :: bs,ps=>by
  have h1:=V3 (λ p=>Xa p b) 4 ps λ p _=>X2 p b;have h2:=Gk bs (ps.flatMap λ p=>Xa p b);rw [List.foldl_cons,List.length_cons,Nat.pow_succ];refine Nat.le_trans h2 (Nat.le_trans (Nat.mul_le_mul_right _ h1) ?_);rw [Nat.mul_assoc,Nat.mul_comm 4];exact Nat.le_refl _
theorem Wo (a:B4) (bs:List B4) (h:bs.length <= 6):(QV a bs).length <= 4096:=by
 have h1:=Gk bs [a];rw [List.length_singleton,Nat.one_mul] at h1;have h2:4 ^ bs.length <= 4 ^ 6:=Nat.pow_le_pow_right (by decide) h;exact Nat.le_trans h1 (Nat.le_trans h2 (by decide))
theorem Bo {a b:B4} {bs:List B4} (h:bs[i]? = some b):QV a (bs.take (i + 1)) = (QV a (bs.take i)).flatMap λ p=>Xa p b:=by
 unfold QV;rw [List.take_add_one,h,List.foldl_append];rfl
def Sub (q p:B4):Prop:=okB q = true /\ p.x <= q.x /\ q.X <= p.X /\ p.y <= q.y /\ q.Y <= p.Y
theorem Sub.trans {a b c:B4} (h:Sub a b) (k:Sub b c):Sub a c:=by
 unfold Sub at *;exact ⟨h.1,by lia⟩
theorem B6 {a b q:B4} (ha:okB a = true) (h:q ∈ Xa a b):Sub q a:=by
 unfold Xa at h
 split at h
 ·rw [List.mem_singleton.mp h];exact ⟨ha,by omega⟩
 ·rename_i h0;obtain ⟨h1,h2⟩:=List.mem_filter.mp h;refine ⟨h2,?_⟩;unfold QT btw gp at h0;unfold okB at ha h2;simp only [Bool.and_eq_true,decide_eq_true_eq] at ha h2;unfold BZ at h1;simp only [List.mem_cons,List.not_mem_nil,or_false] at h1
  rcases h1 with rfl | rfl | rfl | rfl
  all_goals (dsimp only at h2 ⊢; omega)
theorem Gb {a:B4}:∀ (bs ps:List B4),(∀ p ∈ ps,Sub p a)->∀ q ∈ bs.foldl (λ ps b=>ps.flatMap λ p=>Xa p b) ps,Sub q a
 | [],ps,h,q,hq=>h q hq
 | b :: bs,ps,h,q,hq=>by
  rw [List.foldl_cons] at hq;refine Gb bs _ (λ p hp=>?_) q hq;obtain ⟨p',hp',hc⟩:=List.mem_flatMap.mp hp;exact (B6 (h p' hp').1 hc).trans (h p' hp')
theorem Hn {a q:B4} {bs:List B4} (ha:okB a = true) (h:q ∈ QV a bs):Sub q a:=
 Gb bs [a] (λ p hp=>by rw [List.mem_singleton.mp hp]; exact ⟨ha,by lia⟩) q h
theorem Li {α:Type} {l:List α} {i:Nat} {q:α} (f:α->Bool) (h:l[i]? = some q):(l.take (i + 1)).any f = ((l.take i).any f || f q):=by
 rw [List.take_add_one,h,List.any_append];simp
section
variable {base:Heap}
theorem DZ {a b a' b':Int}:gp a b a' b' = 0 ↔ a' <= b /\ a <= b':=by
 unfold gp;omega
theorem Zcl (a b a' b':Int):0 <= gp a b a' b':=Int.le_max_left _ _
theorem OH {x y:Int} (hx:0 <= x) (hy:0 <= y):max x y = 0 ↔ x = 0 /\ y = 0:=by lia
theorem Hd (b:B4) (u v:Int):decide (UH b u v = 0) = hasB b u v:=by
 unfold hasB UH btw;rw [decide_eq_decide,OH (Zcl _ _ _ _) (Zcl _ _ _ _),DZ,DZ];omega
theorem ZJ {b:B4}:okB b = true ↔ b.x <= b.X /\ b.y <= b.Y:=by
 unfold okB;simp only [Bool.and_eq_true,decide_eq_true_eq]
theorem Zt {b:B4} {u v:Int}:hasB b u v = true ↔ b.x <= u /\ u <= b.X /\ b.y <= v /\ v <= b.Y:=by
 unfold hasB;rw [decide_eq_true_eq]
noncomputable def Kp (f ox oy:Int) (b:B4):B4:=⟨b.x * f + ox,b.y * f + oy,b.X * f + f - 1 + ox,b.Y * f + f - 1 + oy⟩
theorem CA {a x f:Int} (hf:0 < f) (h0:0 <= r) (h1:r < f):a * f <= x * f + r ↔ a <= x:=by
 constructor
 ·intro h
  by_cases hx:a <= x
  ·exact hx
  ·have:=Int.mul_le_mul_of_nonneg_right (show x + 1 <= a by lia) (Int.le_of_lt hf);rw [Int.add_mul,Int.one_mul] at this;lia
 ·intro h;have:=Int.mul_le_mul_of_nonneg_right h (Int.le_of_lt hf);lia
theorem G4 {a x f:Int} (hf:0 < f) (h0:0 <= r) (h1:r < f):x * f + r <= a * f + f - 1 ↔ x <= a:=by
 constructor
 ·intro h
  by_cases hx:x <= a
  ·exact hx
  ·have:=Int.mul_le_mul_of_nonneg_right (show a + 1 <= x by lia) (Int.le_of_lt hf);rw [Int.add_mul,Int.one_mul] at this;lia
 ·intro h;have:=Int.mul_le_mul_of_nonneg_right h (Int.le_of_lt hf);lia
theorem ZgQ {f r':Int} (hf:0 < f) (h0:0 <= r) (h1:r < f) (h2:0 <= r') (h3:r' < f) (b:B4) (u v:Int):hasB (Kp f ox oy b) (u * f + ox + r) (v * f + oy + r') = hasB b u v:=by
 unfold hasB Kp;dsimp only;have i1:=CA (a:=b.x) (x:=u) hf h0 h1;have i2:=G4 (a:=b.X) (x:=u) hf h0 h1;have i3:=CA (a:=b.y) (x:=v) hf h2 h3;have i4:=G4 (a:=b.Y) (x:=v) hf h2 h3;rw [decide_eq_decide,<- i1,<- i2,<- i3,<- i4];constructor <;> intro h <;> lia
theorem anyS {f ox oy r':Int} (hf:0 < f) (h0:0 <= r) (h1:r < f) (h2:0 <= r') (h3:r' < f) (bs:List B4) (u v:Int) :
  ((bs.map (Kp f ox oy)).any λ b=>hasB b (u * f + ox + r) (v * f + oy + r')) = bs.any λ b=>hasB b u v:=by
 rw [List.any_map]
 congr 1
 funext b
 exact ZgQ hf h0 h1 h2 h3 b u v
def Cel (b:B4):Prop:=okB b = true /\ (0 <= b.x /\ b.X <= 11) /\ (0 <= b.y /\ b.Y <= 11)
noncomputable def PX (t ox oy i j:Int):B4:=Kp t ox oy ⟨i,j,i,j⟩
theorem JX {t:Int} (ht:1 <= t) (x o:Int):∃ r,x = (x - o) / t * t + o + r /\ 0 <= r /\ r < t:=by
 refine ⟨(x - o) % t,?_,Int.emod_nonneg _ (by lia),Int.emod_lt_of_pos _ (by lia)⟩;have:=Int.mul_ediv_add_emod (x - o) t;rw [Int.mul_comm] at this;lia
theorem Ql {t:Int} (ht:1 <= t) (bs:List B4) (x y:Int):anyB (bs.map (Kp t ox oy)) x y = anyB bs ((x - ox) / t) ((y - oy) / t):=by
 obtain ⟨r,e,a1,a2⟩:=JX ht x ox;obtain ⟨r',e',b1,b2⟩:=JX ht y oy;have h:=anyS (ox:=ox) (oy:=oy) (by lia) a1 a2 b1 b2 bs ((x - ox) / t) ((y - oy) / t);rw [<- e,<- e'] at h;exact h
theorem HA {bs:List B4} {x y:Int} (h:anyB bs x y = true):∃ b ∈ bs,hasB b x y = true:=List.any_eq_true.mp h
theorem Uz {bs:List B4} (hb:∀ b ∈ bs,Cel b) {i j:Int} (h:anyB bs i j = true):(0 <= i /\ i <= 11) /\ (0 <= j /\ j <= 11):=by
 obtain ⟨b,mb,tb⟩:=HA h;have:=(hb b mb).2;have:=Zt.mp tb;omega
inductive Cv where
 | box (k:Int)
 | cut (w a:Int) (p q:Cv)
noncomputable def cvD:Cv->PyData
 | .box k=>.tuple [.str (Str.ofString "box"),.int k]
 | .cut w a p q=>.tuple [.str (Str.ofString "cut"),.int w,.int a,cvD p,cvD q]
noncomputable def Cv.dep:Cv->Nat
 | .box _=>1
 | .cut _ _ p q=>max p.dep q.dep + 1
theorem WO (w a:Int) (p q:Cv):(Cv.cut w a p q).dep = max p.dep q.dep + 1:=rfl
theorem Cv.DN (c:Cv):1 <= c.dep:=by cases c <;> simp [Cv.dep]
noncomputable def upB (b:B4) (w a:Int):B4:=if w = 0 then ⟨b.x,b.y,a,b.Y⟩ else ⟨b.x,b.y,b.X,a⟩
noncomputable def owB (b:B4) (w a:Int):B4:=if w = 0 then ⟨a,b.y,b.X,b.Y⟩ else ⟨b.x,a,b.X,b.Y⟩
noncomputable def loB (b:B4) (w:Int):Int:=if w = 0 then b.x else b.y
noncomputable def hiB (b:B4) (w:Int):Int:=if w = 0 then b.X else b.Y
noncomputable def allB (c b:B4):Bool:=hasB c b.x b.y && hasB c b.X b.Y
noncomputable def inB (c b:B4):Bool:=decide (c.x <= b.x /\ c.y <= b.y /\ b.X <= c.X /\ b.Y <= c.Y)
noncomputable def Nc (bs:List B4) (k:Int):Bool:=decide (0 <= k) && decide (k < bs.length)
noncomputable def Ys (b:B4) (w a:Int):Bool:=(decide (w = 0) || decide (w = 1)) && (decide (loB b w <= a) && decide (a < hiB b w))
noncomputable def ZU (bs:List B4):B4->Cv->Bool
 | b,.box k=>Nc bs k && (match bs[k.toNat]? with | some c=>allB c b | none=>false)
 | b,.cut w a p q=>Ys b w a && (ZU bs (upB b w a) p && ZU bs (owB b w (a + 1)) q)
def Cov (bs:List B4) (b:B4):Prop:=∀ u v,hasB b u v = true->anyB bs u v = true
theorem Qh {b:B4} {w a:Int}:Ys b w a = true ↔ (w = 0 \/ w = 1) /\ loB b w <= a /\ a < hiB b w:=by
 unfold Ys;simp only [Bool.and_eq_true,Bool.or_eq_true,decide_eq_true_eq]
theorem allB_iff {c b:B4}:allB c b = true ↔ (c.x <= b.x /\ b.x <= c.X /\ c.y <= b.y /\ b.y <= c.Y) /\ (c.x <= b.X /\ b.X <= c.X /\ c.y <= b.Y /\ b.Y <= c.Y):=by
 unfold allB hasB;rw [Bool.and_eq_true,decide_eq_true_eq,decide_eq_true_eq]
theorem Sq {c b:B4} (hb:okB b = true) (h:inB c b = true):allB c b = true:=by
 rw [ZJ] at hb;unfold inB at h;have h:=of_decide_eq_true h;rw [allB_iff];omega
theorem EK {b:B4} {w a u v:Int} (hw:w = 0 \/ w = 1) (h1:loB b w <= a) (h2:a < hiB b w):(hasB (upB b w a) u v = true->hasB b u v = true) /\ (hasB (owB b w (a + 1)) u v = true->hasB b u v = true):=by
 rw [Zt,Zt,Zt]
 rcases hw with rfl | rfl
 ·unfold upB owB;unfold loB at h1;unfold hiB at h2;rw [if_pos rfl] at h1 h2;rw [if_pos rfl,if_pos rfl];dsimp only;lia
 ·unfold upB owB;unfold loB at h1;unfold hiB at h2;rw [if_neg (by decide)] at h1 h2;rw [if_neg (by decide),if_neg (by decide)];dsimp only;lia
theorem NW {b:B4} {w a:Int} (hb:okB b = true) (hw:w = 0 \/ w = 1) (h1:loB b w <= a) (h2:a < hiB b w):okB (upB b w a) = true /\ okB (owB b w (a + 1)) = true:=by
 rw [ZJ] at *;rw [ZJ]
 rcases hw with rfl | rfl
 ·unfold upB owB;unfold loB at h1;unfold hiB at h2;rw [if_pos rfl] at h1 h2;rw [if_pos rfl,if_pos rfl];dsimp only;lia
 ·unfold upB owB;unfold loB at h1;unfold hiB at h2;rw [if_neg (by decide)] at h1 h2;rw [if_neg (by decide),if_neg (by decide)];dsimp only;lia
theorem Eb {bs:List B4} {b c:B4} (hi:bs[i]? = some c) (h:allB c b = true):ZU bs b (.box (i:Int)) = true:=by
 unfold ZU Nc;have hl:=(List.getElem?_eq_some_iff.mp hi).1;rw [decide_eq_true (show (0:Int) <= (i:Int) by lia),decide_eq_true (show (i:Int) < bs.length by lia),Int.toNat_natCast,hi];exact h
theorem DF {bs:List B4} {b:B4} {w a:Int} {p q:Cv} (hw:w = 0 \/ w = 1) (h1:loB b w <= a) (h2:a < hiB b w) (hp:ZU bs (upB b w a) p = true) (hq:ZU bs (owB b w (a + 1)) q = true):ZU bs b (.cut w a p q) = true:=by
 unfold ZU;rw [Qh.mpr ⟨hw,h1,h2⟩,hp,hq];rfl
theorem Cov.sub {bs:List B4} {b:B4} {w a:Int} (h:Cov bs b) (hw:w = 0 \/ w = 1) (h1:loB b w <= a) (h2:a < hiB b w):Cov bs (upB b w a) /\ Cov bs (owB b w (a + 1)):=
 ⟨λ u v z=>h u v ((EK hw h1 h2).1 z),λ u v z=>h u v ((EK hw h1 h2).2 z)⟩
noncomputable def ZV (b:B4) (w:Int) (c:B4):Bool:=decide (loB b w <= hiB c w) && decide (hiB c w < hiB b w)
noncomputable def G5 (bs:List B4) (b:B4):Nat:=bs.countP (ZV b 0) + bs.countP (ZV b 1)
theorem Ye {α:Type} {p q:α->Bool}:∀ {l:List α},(∀ x ∈ l,p x = true->q x = true)->(∃ x ∈ l,q x = true /\ p x = false)->l.countP p < l.countP q
 | [],_,⟨x,hx,_⟩=>(nomatch hx)
 | a :: l,h,⟨x,hx,h1,h2⟩=>by
  have hm:l.countP p <= l.countP q:=List.countP_mono_left λ y hy=>h y (List.mem_cons_of_mem _ hy);rw [List.countP_cons,List.countP_cons]
  rcases List.mem_cons.mp hx with rfl | hx
  ·rw [h1,h2];simp;omega
  ·have ih:=Ye (λ y hy=>h y (List.mem_cons_of_mem _ hy)) ⟨x,hx,h1,h2⟩;cases e:p a with
   | false=>simp; omega
   | true=>rw [h a List.mem_cons_self e]; simp; omega
theorem Zcd (bs:List B4) (b:B4):G5 bs b <= 2 * bs.length:=by
 unfold G5;have h1:=List.countP_le_length (l:=bs) (p:=ZV b 0);have h2:=List.countP_le_length (l:=bs) (p:=ZV b 1);lia
theorem Vu {b:B4} {w a w':Int} (hw:w = 0 \/ w = 1) (hw':w' = 0 \/ w' = 1) (h1:loB b w <= a) (h2:a < hiB b w) (c:B4):(ZV (upB b w a) w' c = true->ZV b w' c = true) /\ (ZV (owB b w (a + 1)) w' c = true->ZV b w' c = true):=by
 unfold ZV;simp only [Bool.and_eq_true,decide_eq_true_eq]
 rcases hw with rfl | rfl <;> rcases hw' with rfl | rfl <;> simp only [upB,owB,loB,hiB,if_true,if_false,Int.reduceEq] at * <;> lia
theorem Mr {b:B4} {w a:Int} (hw:w = 0 \/ w = 1) (c:B4) (e:hiB c w = a):ZV (upB b w a) w c = false /\ ZV (owB b w (a + 1)) w c = false:=by
 unfold ZV;simp only [Bool.and_eq_false_iff,decide_eq_false_iff_not]
 rcases hw with rfl | rfl <;> simp only [upB,owB,loB,hiB,if_true,if_false,Int.reduceEq] at * <;> lia
theorem SV {bs:List B4} {b:B4} {w a:Int} (hw:w = 0 \/ w = 1) (h1:loB b w <= a) (h2:a < hiB b w) {c:B4} (hc:c ∈ bs) (e:hiB c w = a):G5 bs (upB b w a) < G5 bs b /\ G5 bs (owB b w (a + 1)) < G5 bs b:=by
 have here:ZV b w c = true:=by
  unfold ZV;rw [e,decide_eq_true h1,decide_eq_true h2];rfl
 have g:=Mr (b:=b) (a:=a) hw c e;have k:=λ w' (hw':w' = 0 \/ w' = 1)=>(⟨List.countP_mono_left λ c _=>(Vu hw hw' h1 h2 c).1,List.countP_mono_left λ c _=>(Vu hw hw' h1 h2 c).2⟩:bs.countP (ZV (upB b w a) w') <= bs.countP (ZV b w') /\ bs.countP (ZV (owB b w (a + 1)) w') <= bs.countP (ZV b w'));have s1:=Ye (l:=bs) (p:=ZV (upB b w a) w) (q:=ZV b w) (λ c _=>(Vu hw hw h1 h2 c).1) ⟨c,hc,here,g.1⟩;have s2:=Ye (l:=bs) (p:=ZV (owB b w (a + 1)) w) (q:=ZV b w) (λ c _=>(Vu hw hw h1 h2 c).2) ⟨c,hc,here,g.2⟩;unfold G5;have k0:=k 0 (.inl rfl);have k1:=k 1 (.inr rfl)
 rcases hw with rfl | rfl <;> lia
def Mis (bs:List B4) (t ox oy:Int) (b:B4) (x y u v:Int):Prop:=anyB bs x y = false /\ (u = max b.x (x * t + ox) /\ u <= b.X) /\ (v = max b.y (y * t + oy) /\ v <= b.Y)
noncomputable def Qp:PyData->Bool
 | .int _=>true
 | _=>false
noncomputable def ZfG (bs:List B4):PyData->Bool
 | .int k=>Nc bs k
 | _=>false
noncomputable def KW (b:B4):PyData->PyData->Bool
 | .int w,.int a=>Ys b w a
 | _,_=>false
noncomputable def KP (bs:List B4) (b:B4):PyData->Bool
 | .int k=>Nc bs k && (match bs[k.toNat]? with | some c=>allB c b | none=>false)
 | _=>false
noncomputable def upD (b:B4):PyData->PyData->B4
 | .int w,.int a=>upB b w a
 | _,_=>b
noncomputable def owD (b:B4):PyData->PyData->B4
 | .int w,.int a=>owB b w (a + 1)
 | _,_=>b
noncomputable def ZF (bs:List B4):Nat->B4->PyData->Bool
 | 0,_,_=>false
 | _ + 1,b,.tuple [h,k]=>isS h (Str.ofString "box") && KP bs b k
 | n + 1,b,.tuple [h,w,a,p,q]=>isS h (Str.ofString "cut") && (KW b w a && (ZF bs n (upD b w a) p && ZF bs n (owD b w a) q))
 | _ + 1,_,_=>false
def Pap:Nat->PyData->Prop
 | 0,_=>False
 | _ + 1,.tuple [h,_]=>h.canLay0 = true
 | n + 1,.tuple [h,_,_,p,q]=>h.canLay0 = true /\ Pap n p /\ Pap n q
 | _ + 1,_=>True
theorem Vh {bs:List B4} {b:B4} (h2:ds.length ≠ 2) (h5:ds.length ≠ 5):ZF bs (n + 1) b (.tuple ds) = false:=by
 unfold ZF
 split
 ·cases ‹_›
 ·rename_i e;simp only [PyData.tuple.injEq] at e;rw [e] at h2;exact absurd rfl h2
 ·rename_i e;simp only [PyData.tuple.injEq] at e;rw [e] at h5;exact absurd rfl h5
 ·rfl
theorem Ym (h:ds.length = 2):∃ a b,ds = [a,b]:=by
 match ds,h with
 | [a,b],_=>exact ⟨a,b,rfl⟩
theorem XC (h:ds.length = 5):∃ a b c d e,ds = [a,b,c,d,e]:=by
 match ds,h with
 | [a,b,c,d,e],_=>exact ⟨a,b,c,d,e,rfl⟩
theorem Pap.up:∀ {n:Nat} {d:PyData},Pap n d->Pap (n + 1) d
 | 0,_,h=>h.elim
 | n + 1,d,h=>by
  cases d with
  | tuple ds=>
   by_cases h2:ds.length = 2
   ·obtain ⟨a,b,rfl⟩:=Ym h2;exact h
   ·by_cases h5:ds.length = 5
    ·obtain ⟨a,b,c,p,q,rfl⟩:=XC h5;exact ⟨h.1,Pap.up h.2.1,Pap.up h.2.2⟩
    ·match ds,h2,h5 with
     | [],_,_=>trivial
     | [_],_,_=>trivial
     | [_,_],h2,_=>exact absurd rfl h2
     | [_,_,_],_,_=>trivial
     | [_,_,_,_],_,_=>trivial
     | [_,_,_,_,_],_,h5=>exact absurd rfl h5
     | _ :: _ :: _ :: _ :: _ :: _ :: _,_,_=>trivial
  | _=>trivial
theorem Pap.le (h:Pap n d) (hm:n <= m):Pap m d:=by
 obtain ⟨k,rfl⟩:=Nat.exists_eq_add_of_le hm;clear hm
 induction k with
 | zero=>exact h
 | succ k ih=>exact ih.up
theorem J5 {bs:List B4}:∀ {n:Nat} {b:B4} {d:PyData},Pap n d->ZF bs (n + 1) b d = ZF bs n b d
 | 0,_,_,h=>h.elim
 | n + 1,b,d,h=>by
  cases d with
  | tuple ds=>
   by_cases h2:ds.length = 2
   ·obtain ⟨x,y,rfl⟩:=Ym h2;rfl
   ·by_cases h5:ds.length = 5
    ·obtain ⟨x,y,c,p,q,rfl⟩:=XC h5;show (isS x _ && (KW b y c && (ZF bs (n + 1) _ p && ZF bs (n + 1) _ q))) = (isS x _ && (KW b y c && (ZF bs n _ p && ZF bs n _ q)))
     rw [J5 h.2.1,J5 h.2.2]
    ·rw [Vh h2 h5,Vh h2 h5]
  | _=>rfl
def Cv.wok:Cv->Prop
 | .box k=>0 <= k /\ k < 7
 | .cut w _ p q=>(w = 0 \/ w = 1) /\ p.wok /\ q.wok
theorem V4 {s:String} (h:autoParam ((PyData.str (Str.ofString s)).canLay0 = true) zz12._auto_1):(PyData.str (Str.ofString s)).canLay0 = true:=h
theorem CO:∀ {c:Cv} {n:Nat},c.dep <= n->Pap n (cvD c)
 | c,0,h=>by have:=c.DN; lia
 | .box k,n + 1,_=>V4 (s := "box")
 | .cut w a p q,n + 1,h=>by
  rw [WO] at h;exact ⟨V4 (s := "cut"),CO (by lia),CO (by lia)⟩
theorem PM {a b:B4} (ha:okB a = true) (x y:Int):((Xa a b).any λ p=>hasB p x y) = (hasB a x y && !hasB b x y):=by
 have ok:=ZJ.mp ha;rw [Bool.eq_iff_iff,Bool.and_eq_true,Bool.not_eq_true',<- Bool.not_eq_true,Zt,Zt,List.any_eq_true];unfold Xa
 split
 ·rename_i h0;unfold QT btw gp at h0;constructor
  ·rintro ⟨p,hp,h⟩;rw [List.mem_singleton.mp hp,Zt] at h;omega
  ·intro h;exact ⟨a,List.mem_singleton.mpr rfl,Zt.mpr (by omega)⟩
 ·rename_i h0;unfold QT btw gp at h0;constructor
  ·rintro ⟨p,hp,h⟩;have hp:=(List.mem_filter.mp hp).1;rw [Zt] at h;unfold BZ at hp;simp only [List.mem_cons,List.not_mem_nil,or_false] at hp
   rcases hp with rfl | rfl | rfl | rfl
   all_goals (dsimp only at h; omega)
  ·intro h;have fin:∀ p:B4,p ∈ BZ a b->(p.x <= x /\ x <= p.X /\ p.y <= y /\ y <= p.Y)->∃ p,p ∈ (BZ a b).filter okB /\ hasB p x y = true:=λ p hp hh=>⟨p,List.mem_filter.mpr ⟨hp,ZJ.mpr (by omega)⟩,Zt.mpr hh⟩
   by_cases c1:x < b.x
   ·exact fin ⟨a.x,a.y,max a.x b.x - 1,a.Y⟩ (by simp [BZ]) (by dsimp only; omega)
   ·by_cases c2:b.X < x
    ·exact fin ⟨min a.X b.X + 1,a.y,a.X,a.Y⟩ (by simp [BZ]) (by dsimp only; omega)
    ·by_cases c3:y < b.y
     ·exact fin ⟨max a.x b.x,a.y,min a.X b.X,max a.y b.y - 1⟩ (by simp [BZ]) (by dsimp only; omega)
     ·exact fin ⟨max a.x b.x,min a.Y b.Y + 1,min a.X b.X,a.Y⟩ (by simp [BZ]) (by dsimp only; omega)
theorem fold_any (x y:Int):∀ (bs ps:List B4),(∀ p ∈ ps,okB p = true)->((bs.foldl (λ ps b=>ps.flatMap λ p=>Xa p b) ps).any λ p=>hasB p x y) = ((ps.any λ p=>hasB p x y) && !(bs.any λ b=>hasB b x y))
 | [],ps,_=>by simp
 | b :: bs,ps,hp=>by
  have go:∀ qs:List B4,(∀ p ∈ qs,okB p = true)->((qs.flatMap λ p=>Xa p b).any λ p=>hasB p x y) = ((qs.any λ p=>hasB p x y) && !hasB b x y):=λ qs=>by
   induction qs with
   | nil=>intro _; simp
   | cons q qs ih=>
    intro hq;rw [List.flatMap_cons,List.any_append,PM (hq q List.mem_cons_self),ih λ p h=>hq p (List.mem_cons_of_mem _ h),List.any_cons];cases hasB q x y <;> cases hasB b x y <;> cases (qs.any λ p=>hasB p x y) <;> rfl
  rw [List.foldl_cons,fold_any x y bs _ (λ p h=>by
   obtain ⟨q,hq,hc⟩:=List.mem_flatMap.mp h
   exact (B6 (hp q hq) hc).1),go ps hp,List.any_cons]
  cases (ps.any λ p=>hasB p x y) <;> cases hasB b x y <;> cases (bs.any λ p=>hasB p x y) <;> rfl
theorem Kk {a:B4} {bs:List B4} (ha:okB a = true) (_:∀ b ∈ bs,okB b = true) (x y:Int):((QV a bs).any λ p=>hasB p x y) = (hasB a x y && !(bs.any λ b=>hasB b x y)):=by
 unfold QV;rw [fold_any x y bs [a] λ p hp=>by rw [List.mem_singleton.mp hp]; exact ha];simp
def spW:DSp:=λ xs M Φ=>on1 xs λ x=>onD x λ d=>Φ (.dat (.bool (Qp d))) M
def Gf:DSp:=λ xs M Φ=>on2 xs λ x y=>onX x λ a=>onX y λ b=>Φ (.dat (.bool (allB a b))) M
theorem BI:type_of% @Gf.eq_1:=λ _ _ _=>qI
def Zga:DSp:=λ xs M Φ=>on3 xs λ x y z=>onX x λ b=>onI y λ i=>onI z λ a=>Φ (.dat (bD (upB b i a))) M
theorem Zbs:type_of% @Zga.eq_1:=λ _ _ _=>qI
def Zfy:DSp:=λ xs M Φ=>on3 xs λ x y z=>onX x λ b=>onI y λ i=>onI z λ a=>Φ (.dat (bD (owB b i a))) M
theorem Zag:type_of% @Zfy.eq_1:=λ _ _ _=>qI
def Zex:DSp:=λ xs M Φ=>on2 xs λ x y=>Jc x λ bs=>onD y λ k=>Φ (.dat (.bool (ZfG bs k))) M
def ZbE:DSp:=λ xs M Φ=>on3 xs λ x y z=>onX x λ b=>onD y λ i=>onD z λ a=>Φ (.dat (.bool (KW b i a))) M
def C0 (n:Nat):DSp:=λ xs M Φ=>on3 xs λ x y z=>Jc x λ bs=>onX y λ b=>onD z λ d=>Pap n d /\ Φ (.dat (.bool (ZF bs n b d))) M
noncomputable def shB (c:B4):B4:=⟨c.x,c.y,c.x - 1,c.y - 1⟩
noncomputable def dbl (bs:List B4):List B4:=bs ++ bs.map shB
theorem Zd8 (c:B4) (w:Int):hiB (shB c) w = loB c w - 1:=by
 unfold hiB loB shB
 split <;> rfl
def Sr (bs:List B4) (b:B4) (w z:Int):Prop:=(loB b w <= z /\ z < hiB b w) /\ ∃ c ∈ dbl bs,hiB c w = z
theorem Na {b:B4} {w:Int} (h:w = 0 \/ w = 1) (P:PyData->Prop):Y5 [.int b.x,.int b.y] w P = P (.int (loB b w)):=by
 rcases h with rfl | rfl <;> rfl
theorem Nq {b:B4} {w:Int} (h:w = 0 \/ w = 1) (P:PyData->Prop):Y5 [.int b.X,.int b.Y] w P = P (.int (hiB b w)):=by
 rcases h with rfl | rfl <;> rfl
noncomputable def plB (b:B4) (w:Int) (bs:List B4):List Int:=bs.flatMap λ c=>if QT c b = 0 then [loB c w - 1,hiB c w] else []
theorem FZ {b c:B4} {w:Int} {bs:List B4} (h:bs[i]? = some c):plB b w (bs.take (i + 1)) = plB b w (bs.take i) ++ (if QT c b = 0 then [loB c w - 1,hiB c w] else []):=by
 unfold plB;rw [List.take_add_one,h,List.flatMap_append];simp
theorem Cj (b:B4) (w:Int) (bs:List B4):(plB b w bs).length <= bs.length * 2:=
 V3 _ 2 bs λ c _=>by split <;> simp
theorem OY {b:B4} {w z:Int} {bs:List B4} (h:z ∈ plB b w bs):∃ c ∈ dbl bs,hiB c w = z:=by
 obtain ⟨c,hc,hz⟩:=List.mem_flatMap.mp h
 split at hz
 ·simp only [List.mem_cons,List.not_mem_nil,or_false] at hz
  rcases hz with rfl | rfl
  ·exact ⟨shB c,List.mem_append_right _ (List.mem_map_of_mem hc),Zd8 c w⟩
  ·exact ⟨c,List.mem_append_left _ hc,rfl⟩
 ·cases hz
theorem RS {b c:B4} {w:Int} {bs:List B4} (hc:c ∈ bs) (h0:QT c b = 0):hiB c w ∈ plB b w bs:=
 List.mem_flatMap.mpr ⟨c,hc,by rw [if_pos h0]; simp⟩
theorem SQ {bs:List B4} {b:B4} (hb:okB b = true) (hc:Cov bs b) (hn:∀ c ∈ bs,allB c b = false):∃ c ∈ bs,QT c b = 0 /\ (ZV b 0 c = true \/ ZV b 1 c = true):=by
 rw [ZJ] at hb;obtain ⟨c,hm,h⟩:=List.any_eq_true.mp (hc b.x b.y (by rw [Zt]; omega));rw [Zt] at h;have hi:¬ allB c b = true:=by rw [hn c hm]; exact Bool.false_ne_true
 rw [allB_iff] at hi;refine ⟨c,hm,?_,?_⟩
 ·unfold QT btw gp;omega
 ·unfold ZV;simp only [Bool.and_eq_true,decide_eq_true_eq,loB,hiB,if_true,if_false,Int.reduceEq];omega
theorem FG {b c:B4} {w:Int}:ZV b w c = true ↔ loB b w <= hiB c w /\ hiB c w < hiB b w:=by
 unfold ZV;simp only [Bool.and_eq_true,decide_eq_true_eq]
def Gz:DSp:=λ xs M Φ=>on3 xs λ x y z=>Jc x λ bs=>onX y λ b=>onI z λ w=>(bs.length <= 6 /\ (w = 0 \/ w = 1)) /\ ∀ ks:List Int,(∀ z ∈ ks,Sr bs b w z)->(∀ c ∈ bs,QT c b = 0->ZV b w c = true->hiB c w ∈ ks)->Φ (.dat (.list (ks.map PyData.int))) M
theorem BS:type_of% @Gz.eq_1:=λ _ _ _=>qI
def Yy (n:Nat):DSp:=λ xs M Φ=>on2 xs λ x y=>Jc x λ bs=>onX y λ b=>((bs.length <= 6 /\ okB b = true /\ Cov bs b) /\ G5 (dbl bs) b < n) /\ ∀ c,ZU bs b c = true->c.dep <= n->Φ (.dat (cvD c)) M
theorem DB:type_of% @Yy.eq_1:=λ _ _ _ _=>qI
theorem Kx (xs:List DV) (M:Mp) (Φ:DK):¬ Yy 0 xs M Φ:=λ h=>by
 replace h:=Zv h;obtain ⟨x,y,rfl,h⟩:=h;replace h:=Z1 h;obtain ⟨bs,rfl,h⟩:=h;replace h:=ZM h;obtain ⟨b,rfl,h⟩:=h;exact absurd h.1.2 (Nat.not_lt_zero _)
def Lst (bs:List B4) (b:B4) (u v:Int):Prop:=(hasB b u v = true /\ anyB bs u v = false) /\ ∀ u' v',hasB b u' v' = true->anyB bs u' v' = false->u < u' \/ (u = u' /\ v <= v')
def Wx:DSp:=λ xs M Φ=>on2 xs λ x y=>Jc x λ bs=>onX y λ b=>(Shp bs /\ okB b = true) /\ (Cov bs b->∀ c,ZU bs b c = true->c.dep <= 25->Φ (.dat (.tuple [.str (Str.ofString "yes"),cvD c])) M) /\ ∀ u v,Lst bs b u v->Φ (.dat (.tuple [.str (Str.ofString "no"),.tuple [.int u,.int v]])) M
theorem WL:type_of% @Wx.eq_1:=λ _ _ _=>qI
theorem F3 {bs:List B4} {b:B4} (hb:okB b = true) (hs:∀ c ∈ bs,okB c = true) (r:Int × Int) (hr:r ∈ (QV b bs).map λ p=>(p.x,p.y)) (lr:∀ s ∈ (QV b bs).map (λ p=>(p.x,p.y)),ltP s r = false):Lst bs b r.1 r.2:=by
 obtain ⟨p,mp,rfl⟩:=List.mem_map.mp hr;have op:=ZJ.mp (Hn hb mp).1;have la:=Kk hb hs p.x p.y;rw [List.any_eq_true.mpr ⟨p,mp,by rw [Zt]; lia⟩] at la;have la:=(Bool.and_eq_true _ _).mp la.symm;refine ⟨⟨la.1,by simpa using la.2⟩,λ u v hu nu=>?_⟩;have lb:=Kk hb hs u v;rw [hu,show (bs.any λ b=>hasB b u v) = false from nu] at lb;obtain ⟨p',mp',hp'⟩:=List.any_eq_true.mp (by exact lb);rw [Zt] at hp';have:=lr (p'.x,p'.y) (List.mem_map.mpr ⟨p',mp',rfl⟩);unfold ltP at this;dsimp only at this ⊢
 split at this <;> simp only [decide_eq_false_iff_not] at this <;> lia
theorem MA {bs:List B4} {b:B4} (hb:okB b = true) (hs:∀ c ∈ bs,okB c = true) (h:QV b bs = []):Cov bs b:=λ u v hu=>by
 have la:=Kk hb hs u v;rw [h,hu] at la
 simpa using la
theorem Y3 {b:Bool} {A B:Prop} (h1:b = true->A) (h2:¬ b = true->B):if b = true then A else B:=by
 cases b
 ·exact h2 (by decide)
 ·exact h1 rfl
def Cvs (bs b1:List B4) (cs:List Cv):Prop:=cs.length = b1.length /\ ∀ (i:Nat) (b:B4) (c:Cv),b1[i]? = some b->cs[i]? = some c->ZU bs b c = true /\ c.dep <= 25
theorem Cvs.snoc {bs b1:List B4} {cs:List Cv} {b:B4} {c:Cv} (h:Cvs bs b1 cs) (hc:ZU bs b c = true) (dc:c.dep <= 25):Cvs bs (b1 ++ [b]) (cs ++ [c]):=by
 refine ⟨by rw [List.length_append,List.length_append,h.1]; rfl,λ i x y hx hy=>?_⟩
 by_cases hi:i < b1.length
 ·rw [List.getElem?_append_left hi] at hx;rw [List.getElem?_append_left (by rw [h.1]; exact hi)] at hy;exact h.2 i x y hx hy
 ·rw [List.getElem?_append_right (by lia)] at hx;rw [List.getElem?_append_right (by rw [h.1]; lia),h.1] at hy;cases e:i - b1.length with
  | zero=>
   rw [e] at hx hy;cases hx;cases hy;exact ⟨hc,dc⟩
  | succ n=>rw [e] at hx; cases hx
theorem Lst.PJ {bs:List B4} {b:B4} {u v:Int} (h:Lst bs b u v):¬ Cov bs b:=λ c=>by
 have:=c u v h.1.1;rw [h.1.2] at this;cases this
noncomputable def ZeB (c:Cv):PyData:=.tuple [.str (Str.ofString "yes"),cvD c]
def LsA (b2 b1:List B4) (u v:Int):Prop:=(anyB b1 u v = true /\ anyB b2 u v = false) /\ ∀ u' v',anyB b1 u' v' = true->anyB b2 u' v' = false->u < u' \/ (u = u' /\ v <= v')
noncomputable def noD (u v:Int):PyData:=.tuple [.str (Str.ofString "no"),.tuple [.int u,.int v]]
noncomputable def Zel (cs:List Cv):PyData:=.tuple [.str (Str.ofString "yes"),.list (cs.map cvD)]
abbrev Aw:=Cv ⊕ (Int × Int)
noncomputable def awD:Aw->PyData
 | .inl c=>ZeB c
 | .inr p=>noD p.1 p.2
def Aw1 (b2:List B4) (b:B4):Aw->Prop
 | .inl c=>Cov b2 b /\ ZU b2 b c = true /\ c.dep <= 25
 | .inr p=>Lst b2 b p.1 p.2
def BL (b2 b1:List B4) (as:List Aw):Prop:=as.length = b1.length /\ ∀ (i:Nat) (b:B4) (a:Aw),b1[i]? = some b->as[i]? = some a->Aw1 b2 b a
theorem BL.snoc {b2 b1:List B4} {as:List Aw} {b:B4} {a:Aw} (h:BL b2 b1 as) (ha:Aw1 b2 b a):BL b2 (b1 ++ [b]) (as ++ [a]):=by
 refine ⟨by rw [List.length_append,List.length_append,h.1]; rfl,λ i x y hx hy=>?_⟩
 by_cases hi:i < b1.length
 ·rw [List.getElem?_append_left hi] at hx;rw [List.getElem?_append_left (by rw [h.1]; exact hi)] at hy;exact h.2 i x y hx hy
 ·rw [List.getElem?_append_right (by lia)] at hx;rw [List.getElem?_append_right (by rw [h.1]; lia),h.1] at hy;cases e:i - b1.length with
  | zero=>
   rw [e] at hx hy;cases hx;cases hy;exact ha
  | succ n=>rw [e] at hx; cases hx
noncomputable def lkA (as:List Aw):List (Int × Int):=as.filterMap λ a=>match a with
 | .inr p=>some p
 | .inl _=>none
theorem D7:∀ {as:List Aw},lkA as = []->∃ cs:List Cv,as = cs.map Sum.inl
 | [],_=>⟨[],rfl⟩
 | .inl c :: as,h=>by
  obtain ⟨cs,e⟩:=D7 (as:=as) (by simpa [lkA] using h);exact ⟨c :: cs,by rw [e]; rfl⟩
 | .inr p :: as,h=>by simp [lkA] at h
theorem ZbB {b2 b1:List B4} {as:List Aw} (h:BL b2 b1 as) {q:Int × Int} (hq:q ∈ lkA as) (hl:∀ r ∈ lkA as,ltP r q = false):LsA b2 b1 q.1 q.2:=by
 have at_:∀ r,r ∈ lkA as->∃ b ∈ b1,Lst b2 b r.1 r.2:=λ r hr=>by
  obtain ⟨a,ha,e⟩:=List.mem_filterMap.mp hr;cases a with
  | inl c=>cases e
  | inr p=>
   cases e;obtain ⟨i,hi,ei⟩:=List.getElem_of_mem ha;have hb:i < b1.length:=by rw [<- h.1]; exact hi
   exact ⟨b1[i],List.getElem_mem hb,h.2 i b1[i] (.inr r) (List.getElem?_eq_getElem hb) (by rw [List.getElem?_eq_getElem hi,ei])⟩
 obtain ⟨b,mb,lb⟩:=at_ q hq;refine ⟨⟨List.any_eq_true.mpr ⟨b,mb,lb.1.1⟩,lb.1.2⟩,λ u v h1 h2=>?_⟩;obtain ⟨c,mc,hc⟩:=List.any_eq_true.mp h1;obtain ⟨i,hi,rfl⟩:=List.getElem_of_mem mc;have ha:i < as.length:=by rw [h.1]; exact hi
 have g:=h.2 i b1[i] as[i] (List.getElem?_eq_getElem hi) (List.getElem?_eq_getElem ha);cases e:as[i] with
 | inl c=>
  rw [e] at g;have:=g.1 u v hc;rw [h2] at this;cases this
 | inr p=>
  rw [e] at g;have k1:=(show Lst b2 b1[i] p.1 p.2 from g).2 u v hc h2;have k2:=hl p (List.mem_filterMap.mpr ⟨as[i],List.getElem_mem ha,by rw [e]⟩);unfold ltP at k2
  split at k2
  ·have:=of_decide_eq_false k2;lia
  ·have:=of_decide_eq_false k2;lia
theorem Px {b2 b1:List B4} {cs:List Cv} (h:BL b2 b1 (cs.map Sum.inl)):(∀ b ∈ b1,Cov b2 b) /\ Cvs b2 b1 cs:=by
 have hl:cs.length = b1.length:=by have:=h.1; rwa [List.length_map] at this
 refine ⟨λ b hb=>?_,hl,λ i b c hb hc=>?_⟩
 ·obtain ⟨i,hi,rfl⟩:=List.getElem_of_mem hb;have hi':i < cs.length:=by lia
  exact (show Aw1 b2 b1[i] (.inl cs[i]) from h.2 i b1[i] (.inl cs[i]) (List.getElem?_eq_getElem hi) (by rw [List.getElem?_map,List.getElem?_eq_getElem hi']; rfl)).1
 ·exact (show Aw1 b2 b (.inl c) from h.2 i b (.inl c) hb (by rw [List.getElem?_map,hc]; rfl)).2
theorem FR {as:List Aw} {a:Aw} (h:as[i]? = some a):lkA (as.take (i + 1)) = lkA (as.take i) ++ lkA [a]:=by
 rw [List.take_succ,h];exact List.filterMap_append
def G6:DSp:=λ xs M Φ=>on2 xs λ x y=>Jc x λ b1=>Jc y λ b2=>(Shp b1 /\ Shp b2) /\ ((∀ b ∈ b1,Cov b2 b)->∀ cs:List Cv,Cvs b2 b1 cs->∀ q,M q = none->Φ (.mix [.dat (.str (Str.ofString "yes")),.own q]) (ZD M q (.lst (cs.map cvD)))) /\ ∀ u v,LsA b2 b1 u v->Φ (.dat (noD u v)) M
theorem Bp:type_of% @G6.eq_1:=λ _ _ _=>qI
def ER:DSp:=λ xs M Φ=>on2 xs λ x y=>Jc x λ b1=>Jc y λ b2=>(Shp b1 /\ Shp b2) /\ ∀ (b:Bool) M',(b = true ↔ ∀ u v,anyB b1 u v = anyB b2 u v)->(∀ a o,M a = some o->M' a = some o)->Φ (.dat (.bool b)) M'
theorem Ct:type_of% @ER.eq_1:=λ _ _ _=>qI
theorem Y2 {b1 b2:List B4} (h:∀ b ∈ b1,Cov b2 b) (u v:Int) (k:anyB b1 u v = true):anyB b2 u v = true:=by
 obtain ⟨b,hb,e⟩:=List.any_eq_true.mp k;exact h b hb u v e
theorem LsA.PJ {b1 b2:List B4} {u v:Int} (h:LsA b2 b1 u v) (k:∀ u v,anyB b1 u v = true->anyB b2 u v = true):False:=by
 have:=k u v h.1.1;rw [h.1.2] at this;cases this
theorem T5 {b1 b2:List B4} (h:∀ u v,anyB b1 u v = true->anyB b2 u v = true) (k:∀ u v,anyB b2 u v = true->anyB b1 u v = true) (u v:Int):anyB b1 u v = anyB b2 u v:=by
 rw [Bool.eq_iff_iff];exact ⟨h u v,k u v⟩
def TQ (o:OO):Prop:=∃ a b c:Int,0 <= a /\ (0 <= b /\ b < 2147483587) /\ 0 <= c /\ o = .lst [.int a,.int b,.int c]
def Pen (M:Mp) (p:Addr):Prop:=∃ o,TQ o /\ M p = some o
theorem Pen.ZD (h:TQ o):Pen (ZD M p o) p:=⟨o,h,Zu⟩
theorem Pen.ne (h:Pen M p) (hq:M q = none):p ≠ q:=λ e=>by
 obtain ⟨o,_,ho⟩:=h;rw [e,hq] at ho;cases ho
theorem Pen.put (h:Pen M p) (hq:p ≠ q):Pen (DL.ZD M q o) p:=by
 obtain ⟨o',h1,h2⟩:=h;exact ⟨o',h1,by rw [Zz hq]; exact h2⟩
theorem Pen.del (h:Pen M p) (hq:p ≠ q):Pen (DL.Vl M q) p:=by
 obtain ⟨o',h1,h2⟩:=h;exact ⟨o',h1,by rw [WQ hq]; exact h2⟩
def Zc3 (x:DV) (P:List Int->Prop):Prop:=∃ ns,x = .dat (.list (ns.map PyData.int)) /\ P ns
theorem P6 {x:DV} {P:List Int->Prop} (h:Zc3 x P):∃ ns,x = .dat (.list (ns.map PyData.int)) /\ P ns:=h
theorem YL:∀ {as bs:List Int},as.map PyData.int = bs.map PyData.int->as = bs
 | [],[],_=>rfl
 | [],_ :: _,h=>by simp at h
 | _ :: _,[],h=>by simp at h
 | a :: as,b :: bs,h=>by
  rw [List.map_cons,List.map_cons,List.cons.injEq,PyData.int.injEq] at h;rw [h.1,YL h.2]
theorem Rj (bs:List Int) (P:List Int->Prop):Zc3 (.dat (.list (bs.map PyData.int))) P = P bs:=propext ⟨λ ⟨cs,e,h⟩=>by
 rw [DV.dat.injEq,PyData.list.injEq] at e;rw [YL e]
 exact h,λ h=>⟨bs,rfl,h⟩⟩
theorem tab {l:List Int} (P:Int->Prop) (h0:0 <= r) (h1:r < l.length) (hl:∀ w ∈ l,P w) {Q:PyData->Prop} (k:∀ w,P w->Q (.int w)):Y5 (l.map PyData.int) r Q:=by
 obtain ⟨w,hw,e⟩:=Pw h0 h1;exact Q5 e (k w (hl w hw))
def NA:DSp:=λ xs M Φ=>on2 xs λ x y=>Zc3 x λ ns=>onI y λ k=>0 <= k /\ ∀ p o,M p = none->TQ o->Φ (.own p) (ZD M p o)
theorem HV:type_of% @NA.eq_1:=λ _ _ _=>qI
def Fr (p:Addr) (M M':Mp):Prop:=Pen M' p /\ ∀ a,a ≠ p->M a ≠ none->M' a = M a
theorem Fr.refl (h:Pen M p):Fr p M M:=⟨h,λ _ _ _=>rfl⟩
theorem Fr.trans {M1 M2:Mp} (h:Fr p M M1) (k:Fr p M1 M2):Fr p M M2:=⟨k.1,λ a ha hn=>by
 have e:=h.2 a ha hn;rw [<- e]
 exact k.2 a ha (by rw [e]; exact hn)⟩
theorem Fr.ZD (h:TQ o):Fr p M (ZD M p o):=⟨Pen.ZD h,λ a ha _=>Zz ha⟩
theorem Fr.own (h:Fr p M M') (hq:M q = some o) (hne:q ≠ p):M' q = some o:=by
 rw [h.2 q hne (by rw [hq]; exact Option.some_ne_none _)];exact hq
theorem Fr.new (h:Fr p M M') (hq:M q = none) (hne:q ≠ p):Fr p M (DL.ZD M' q o):=⟨h.1.put (Ne.symm hne),λ a ha hn=>by
 rw [Zz (λ e=>hn (by rw [e]; exact hq))]
 exact h.2 a ha hn⟩
def Nk:DSp:=λ xs M Φ=>on2 xs λ x y=>onO x λ p=>onI y λ m=>(0 < m /\ m < 10 ^ 20) /\ Pen M p /\ ∀ r M',0 <= r->r < m->Fr p M M'->Φ (.dat (.int r)) M'
theorem Ho:type_of% @Nk.eq_1:=λ _ _ _=>qI
theorem Pen.get (h:Pen M p):∃ a b c:Int,(0 <= a /\ (0 <= b /\ b < 2147483587) /\ 0 <= c) /\ M p = some (.lst [.int a,.int b,.int c]):=by
 obtain ⟨o,⟨a,b,c,ha,hb,hc,eo⟩,hp⟩:=h;exact ⟨a,b,c,⟨ha,hb,hc⟩,by rw [hp,eo]⟩
theorem Lc {R:Int->Int->Prop} {bs es:List Int} {A B:Int} (hl:bs.length = es.length) (h:∀ (i:Nat) (a b:Int),bs[i]? = some a->es[i]? = some b->R a b) (k:R A B):∀ (i:Nat) (a b:Int),(bs ++ [A])[i]? = some a->(es ++ [B])[i]? = some b->R a b:=λ i a b ha hb=>by
 by_cases hi:i < bs.length
 ·rw [List.getElem?_append_left hi] at ha;rw [List.getElem?_append_left (by lia)] at hb;exact h i a b ha hb
 ·have h1:=(List.getElem?_eq_some_iff.mp ha).1;rw [List.length_append,List.length_singleton] at h1;obtain rfl:i = bs.length:=by lia
  rw [List.getElem?_append_right (Nat.le_refl _),Nat.sub_self] at ha;rw [hl,List.getElem?_append_right (Nat.le_refl _),Nat.sub_self] at hb;cases ha;cases hb;exact k
theorem Er {l:List Int} (h:l.length = 2):∃ a b,l = [a,b]:=by
 match l,h with
 | [a,b],_=>exact ⟨a,b,rfl⟩
def Grd (n:Nat) (bs:List B4):Prop:=1 <= bs.length /\ bs.length <= n /\ ∀ b ∈ bs,Cel b
def Frm (t ox oy:Int):Prop:=(1 <= t /\ t <= 10 ^ 10) /\ (-(10 ^ 12) <= ox /\ ox <= 10 ^ 12) /\ (-(10 ^ 12) <= oy /\ oy <= 10 ^ 12)
def WE (x:DV) (P:Int->Int->Int->Prop):Prop:=match x with | .dat (.tuple [.int i,.int j,.int k])=>P i j k | _=>False
theorem D8 (i j k:Int) (P:Int->Int->Int->Prop):WE (.dat (.tuple [.int i,.int j,.int k])) P = P i j k:=qI
theorem Uu {x:DV} {P:Int->Int->Int->Prop} (h:WE x P):∃ i j k,x = .dat (.tuple [.int i,.int j,.int k]) /\ P i j k:=by
 unfold WE at h
 split at h
 ·exact ⟨_,_,_,rfl,h⟩
 ·exact h.elim
def CG:DSp:=λ xs M Φ=>on1 xs λ x=>onO x λ p=>Pen M p /\ ∀ bs M',Grd 6 bs->Pen M' p->Φ (.dat (.list (bs.map bD))) M'
theorem LA:type_of% @CG.eq_1:=λ _ _ _=>qI
def ZcI:DSp:=λ xs M Φ=>on2 xs λ x y=>onO x λ p=>onX y λ b=>Cel b /\ Pen M p /\ ∀ c M',Cel c->Fr p M M'->Φ (.dat (bD c)) M'
theorem O9:type_of% @ZcI.eq_1:=λ _ _ _=>qI
def GP:DSp:=λ xs M Φ=>on1 xs λ x=>onO x λ p=>Pen M p /\ ∀ t ox oy M',Frm t ox oy->Pen M' p->Φ (.dat (.tuple [.int t,.int ox,.int oy])) M'
theorem Ba:type_of% @GP.eq_1:=λ _ _ _=>qI
def MU:DSp:=λ xs M Φ=>on2 xs λ x y=>WG x λ bs=>WE y λ t ox oy=>Grd 6 bs /\ Φ (.dat (.tuple ((bs.map (Kp t ox oy)).map bD))) M
theorem Ls:type_of% @MU.eq_1:=λ _ _ _=>qI
def Cells (bs:List B4) (ks:List (List Key)):Prop:=∀ i j,BR ks (kP i j) = anyB bs i j
def PN:DSp:=λ xs M Φ=>on1 xs λ x=>WG x λ bs=>Grd 6 bs /\ ∀ l ks,M l = none->Cells bs ks->Φ (.own l) (ZD M l (.dct ks))
def Fs (x:Int):Prop:=-999999999999 <= x /\ x <= 999999999999
def ZbQ:DSp:=λ xs M Φ=>on2 xs λ x y=>onO x λ p=>WE y λ t ox oy=>Frm t ox oy /\ Pen M p /\ ∀ u v M',Fs u->Fs v->Fr p M M'->Φ (.dat (.tuple [.int u,.int v])) M'
def ZaG:DSp:=λ xs M Φ=>on3 xs λ x y z=>onP x λ i j=>WE y λ t ox oy=>onP z λ u v=>((-(10 ^ 3) <= i /\ i <= 10 ^ 3) /\ (-(10 ^ 3) <= j /\ j <= 10 ^ 3)) /\ Φ (.dat (.int (UH (PX t ox oy i j) u v))) M
noncomputable def ZfP (t ox oy u v:Int) (c:Int × Int):PyData:=.tuple [prD c,.int (UH (PX t ox oy c.1 c.2) u v)]
def Oth (bs:List B4) (t ox oy u v:Int) (cs:List (Int × Int)):Prop:=∀ i j,(i,j) ∈ cs ↔ ((-1 <= i /\ i <= 12) /\ (-1 <= j /\ j <= 12)) /\ anyB bs i j ≠ anyB bs ((u - ox) / t) ((v - oy) / t)
def Zeb (x:DV) (M:Mp) (P:List B4->Prop):Prop:=∃ l ks bs,x = .own l /\ M l = some (.dct ks) /\ Cells bs ks /\ P bs
def L0:DSp:=λ xs M Φ=>on3 xs λ x y z=>WE y λ t ox oy=>onP z λ u v=>Zeb x M λ bs=>Frm t ox oy /\
 ∀ cs,Oth bs t ox oy u v cs->cs.length <= 196->Φ (.dat (.tuple [.bool (anyB bs ((u - ox) / t) ((v - oy) / t)),.list (cs.map (ZfP t ox oy u v))])) M
theorem ZfD {l:List B4} (h:∀ b ∈ l,b.x <= b.X /\ b.y <= b.Y /\ (0 <= b.x /\ b.X <= 11) /\ (0 <= b.y /\ b.Y <= 11)):∀ b ∈ l,Cel b:=λ b hb=>⟨ZJ.mpr ⟨(h b hb).1,(h b hb).2.1⟩,(h b hb).2.2⟩
theorem at2 {x y:Int} (h:j < 2):∃ lo:Int,(lo = x \/ lo = y) /\ (∀ P:PyData->Prop,Y5 [.int x,.int y] (j:Int) P = P (.int lo)):=by
 have two:j = 0 \/ j = 1:=by lia
 rcases two with rfl | rfl
 ·exact ⟨x,.inl rfl,λ P=>rfl⟩
 ·exact ⟨y,.inr rfl,λ P=>rfl⟩
theorem Zgq {x y X Y:Int} (h:j < 2):∃ lo hi:Int,(lo = x /\ hi = X \/ lo = y /\ hi = Y) /\ (∀ P:PyData->Prop,Y5 [.int x,.int y] (j:Int) P = P (.int lo)) /\ (∀ P:PyData->Prop,Y5 [.int X,.int Y] (j:Int) P = P (.int hi)):=by
 have two:j = 0 \/ j = 1:=by lia
 rcases two with rfl | rfl
 ·exact ⟨x,X,.inl ⟨rfl,rfl⟩,λ P=>rfl,λ P=>rfl⟩
 ·exact ⟨y,Y,.inr ⟨rfl,rfl⟩,λ P=>rfl,λ P=>rfl⟩
theorem ZaF {i j i' j':Int}:kP i j = kP i' j' ↔ i = i' /\ j = j':=by
 unfold kP;simp
def OL (ks:List (List Key)):Prop:=ks.Nodup /\ ∀ k ∈ ks,∃ i j,k = kP i j
theorem OL.add (h:OL ks) (i j:Int):OL (B0 ks (kP i j)):=by
 unfold B0
 split
 ·exact h
 ·rename_i n;refine ⟨List.nodup_append.mpr ⟨h.1,by simp,λ a ha b hb e=>n ?_⟩,λ k hk=>?_⟩
  ·rw [List.mem_singleton.mp hb] at e;rw [<- e];exact ha
  ·rcases List.mem_append.mp hk with hk | hk
   ·exact h.2 k hk
   ·exact ⟨i,j,List.mem_singleton.mp hk⟩
def Jj (bs:List B4) (ks:List (List Key)):Prop:=Cells bs ks /\ OL ks /\ ks.length <= 864
def Gs:DSp:=λ xs M Φ=>on1 xs λ x=>WG x λ bs=>Grd 6 bs /\ ∀ l ks,M l = none->Jj bs ks->Φ (.own l) (ZD M l (.dct ks))
theorem Bv:type_of% @Gs.eq_1:=λ _ _ _=>qI
def Nb:DSp:=λ xs M Φ=>on2 xs λ x y=>onX x λ c=>onX y λ b=>Φ (.dat (.bool (inB c b))) M
theorem Lh:type_of% @Nb.eq_1:=λ _ _ _=>qI
def Fd:DSp:=λ xs M Φ=>on3 xs λ x y z=>onX x λ b=>onI y λ i=>onI z λ a=>(i = 0 \/ i = 1) /\ Φ (.dat (.list [bD (upB b i a),bD (owB b i (a + 1))])) M
theorem B7:type_of% @Fd.eq_1:=λ _ _ _=>qI
def Far (b:B4):Prop:=(-(10 ^ 13) <= b.x /\ b.X <= 10 ^ 13) /\ (-(10 ^ 13) <= b.y /\ b.Y <= 10 ^ 13)
def Ext (M M':Mp):Prop:=∀ a,M a ≠ none->M' a = M a
theorem Ext.refl (M:Mp):Ext M M:=λ _ _=>rfl
theorem Ext.new (h:Ext M M') (hq:M q = none):Ext M (ZD M' q o):=λ a ha=>by
 rw [Zz λ e=>ha (by rw [e]; exact hq)];exact h a ha
theorem Ext.none (h:Ext M M') (hq:M' q = none):M q = none:=by
 cases e:M q with
 | none=>rfl
 | some o=>have:=h q (by rw [e]; exact Option.some_ne_none _); rw [hq,e] at this; cases this
def Zfn:DSp:=λ xs M Φ=>on1 xs λ x=>onD x λ d=>Φ (.dat (.bool (Qp d))) M
theorem ZbP:type_of% @Zfn.eq_1:=λ _ _ _=>qI
def Ob:DSp:=λ xs M Φ=>on3 xs λ x y z=>Jc x λ bs=>onX y λ b=>onT z λ ds=>∃ h k,ds = [h,k] /\ (h.canLay0 = true /\ okB b = true) /\ Φ (.dat (.bool (isS h (Str.ofString "box") && KP bs b k))) M
theorem F1:type_of% @Ob.eq_1:=λ _ _ _=>qI
def Nz (n:Nat):DSp:=λ xs M Φ=>on3 xs λ x y z=>Jc x λ bs=>onX y λ b=>onD z λ d=>(Pap n d /\ okB b = true /\ n <= 26) /\ ∀ M',Ext M M'->Φ (.dat (.bool (ZF bs n b d))) M'
theorem L5:type_of% @Nz.eq_1:=λ _ _ _ _=>qI
theorem T4 {c b:B4} (hb:okB b = true):inB c b = allB c b:=by
 rw [Bool.eq_iff_iff];refine ⟨Sq hb,λ h=>?_⟩;have:=allB_iff.mp h;unfold inB;exact decide_eq_true (by omega)
noncomputable def wD (e:B4 × PyData):PyData:=.tuple [bD e.1,e.2]
def Wait (bs:List B4) (R:Bool) (ws:List (B4 × PyData)):Prop:=(∀ e ∈ ws,okB e.1 = true /\ Pap 26 e.2) /\ (ws.all λ e=>ZF bs 26 e.1 e.2) = R
theorem Wait.last {bs:List B4} {R:Bool} {ws:List (B4 × PyData)} {e:B4 × PyData} (h:Wait bs R (ws ++ [e])):(okB e.1 = true /\ Pap 26 e.2) /\ (∀ x ∈ ws,okB x.1 = true /\ Pap 26 x.2) /\ ((ws.all λ e=>ZF bs 26 e.1 e.2) && ZF bs 26 e.1 e.2) = R:=by
 obtain ⟨h1,h2⟩:=h;refine ⟨h1 e (by simp),λ x hx=>h1 x (by simp [hx]),?_⟩;rw [<- h2,List.all_append];simp
theorem Wait.no {bs:List B4} {R:Bool} {ws:List (B4 × PyData)} {e:B4 × PyData} (h:Wait bs R (ws ++ [e])) (k:ZF bs 26 e.1 e.2 = false):R = false:=by
 have:=h.last.2.2;rw [k,Bool.and_false] at this;exact this.symm
theorem Wait.drop {bs:List B4} {R:Bool} {ws:List (B4 × PyData)} {e:B4 × PyData} (h:Wait bs R (ws ++ [e])) (k:ZF bs 26 e.1 e.2 = true):Wait bs R ws:=by
 have:=h.last.2;rw [k,Bool.and_true] at this;exact this
theorem Wait.split {bs:List B4} {R:Bool} {ws:List (B4 × PyData)} {b:B4} {x p q:PyData} {i a:Int} (h:Wait bs R (ws ++ [(b,.tuple [x,.int i,.int a,p,q])])) (hx:isS x (Str.ofString "cut") = true) (hc:Ys b i a = true) :
  Wait bs R (ws ++ [(upB b i a,p),(owB b i (a + 1),q)]):=by
 obtain ⟨⟨hb,hp⟩,h1,h2⟩:=h.last;have hp:Pap 25 p /\ Pap 25 q:=⟨hp.2.1,hp.2.2⟩
 have hb:okB b = true:=hb;have cc:=Qh.mp hc;have so:=NW hb cc.1 cc.2.1 cc.2.2;refine ⟨λ e he=>?_,?_⟩
 ·rcases List.mem_append.mp he with he | he
  ·exact h1 e he
  ·simp only [List.mem_cons,List.not_mem_nil,or_false] at he
   rcases he with rfl | rfl
   ·exact ⟨so.1,hp.1.up⟩
   ·exact ⟨so.2,hp.2.up⟩
 ·rw [<- h2,List.all_append];have e:ZF bs 26 b (.tuple [x,.int i,.int a,p,q]) = (isS x (Str.ofString "cut") && (Ys b i a && (ZF bs 25 (upB b i a) p && ZF bs 25 (owB b i (a + 1)) q))):=rfl;show (_ && _) = (_ && ZF bs 26 b (.tuple [x,.int i,.int a,p,q]))
  rw [e,hx,hc,<- J5 hp.1,<- J5 hp.2];simp
noncomputable def wsz (ws:List (B4 × PyData)):Nat:=(ws.map λ e=>sizeOf e.2).sum
theorem UN (ws:List (B4 × PyData)) (e:B4 × PyData):wsz (ws ++ [e]) = wsz ws + sizeOf e.2:=by
 unfold wsz;rw [List.map_append,List.sum_append];simp
theorem size_pos (d:PyData):0 < sizeOf d:=by cases d <;> simp <;> lia
theorem CL (ws:List (B4 × PyData)) (b b1 b2:B4) (x i a p q:PyData):wsz (ws ++ [(b1,p),(b2,q)]) < wsz (ws ++ [(b,.tuple [x,i,a,p,q])]):=by
 rw [UN];unfold wsz;rw [List.map_append,List.sum_append];simp;lia
def Dep (ws:List (B4 × PyData)):Prop:=∀ j e,ws[j]? = some e->Pap (26 - j) e.2
theorem Dep.drop {ws:List (B4 × PyData)} {e:B4 × PyData} (h:Dep (ws ++ [e])):Dep ws:=λ j x hj=>h j x (by rw [List.getElem?_append_left (List.getElem?_eq_some_iff.mp hj).1]; exact hj)
theorem Dep.len {ws:List (B4 × PyData)} (h:Dep ws):ws.length <= 26:=by
 by_cases hl:ws.length <= 26
 ·exact hl
 ·have:=h 26 _ (List.getElem?_eq_getElem (by lia));exact this.elim
theorem Dep.split {ws:List (B4 × PyData)} {b b1 b2:B4} {x i a p q:PyData} (h:Dep (ws ++ [(b,.tuple [x,i,a,p,q])])):Dep (ws ++ [(b1,p),(b2,q)]):=by
 have top:=h ws.length _ (by rw [List.getElem?_append_right (Nat.le_refl _),Nat.sub_self]; rfl);have hl:=h.len;rw [List.length_append,List.length_singleton] at hl;obtain ⟨n,hn⟩:∃ n,26 - ws.length = n + 1:=⟨25 - ws.length,by lia⟩
 rw [hn] at top;have hp:Pap n p /\ Pap n q:=⟨top.2.1,top.2.2⟩
 intro j e he
 by_cases hj:j < ws.length
 ·rw [List.getElem?_append_left hj] at he;exact h j e (by rw [List.getElem?_append_left hj]; exact he)
 ·rw [List.getElem?_append_right (by lia)] at he;have hz:=(List.getElem?_eq_some_iff.mp he).1;simp only [List.length_cons,List.length_nil] at hz;have two:j = ws.length \/ j = ws.length + 1:=by lia
  rcases two with rfl | rfl
  ·rw [Nat.sub_self] at he;cases he;exact hp.1.le (by lia)
  ·rw [Nat.add_sub_cancel_left] at he;cases he;exact hp.2.le (by lia)
theorem Zgf {x y:PyData} {K:DSt->Mp->Prop} (h:K ((U.set i (some (.dat x))).set j (some (.dat y))) M):onT (.dat (.tuple [x,y])) λ ds=>FV 2 ds λ xs=>Gd (VV i) (Gd (VV j) Rl) xs U M K:=h
theorem SF {h:PyData} {s:Str} {P:Bool->Prop} (hl:h.canLay0 = true) (hs:(PyData.str s).canLay0 = true) (p:P (isS h s)):eqD h (.str s) P:=Ek hl hs p
theorem LQ {t:DTT} {a b:DTS} {D:Qc} (h:∀ B:DTS,B = b->Zde t a B D U M):Zde t a b D U M:=h b rfl
def Zec (bs:List B4) (b:B4) (d:PyData) (M0:Mp) (R:Bool) (m:Nat) (U:DSt) (M:Mp):Prop:=
 ∃ q ws x4 x5 x6 x7 x8,U = [some (.dat (.tuple (bs.map bD))),some (.dat (bD b)),some (.dat d),some (.own q),x4,x5,x6,x7,x8] /\ M q = some (.lst (ws.map wD)) /\ M0 q = none /\ Ext M0 M /\ (Wait bs R ws /\ Dep ws) /\ m = wsz ws
def Jb (M M':Mp):Prop:=∀ a o,M a = some o->M' a = some o
theorem Jb.refl (M:Mp):Jb M M:=λ _ _ e=>e
theorem Jb.trans {M1 M2:Mp} (h:Jb M M1) (k:Jb M1 M2):Jb M M2:=λ a o e=>k a o (h a o e)
theorem Jb.new {M1:Mp} (h:Jb M M1) (hq:M1 q = none):Jb M (ZD M1 q o):=λ a o' e=>by
 have e1:=h a o' e;rw [Zz λ z=>by rw [z,hq] at e1; cases e1];exact e1
theorem Pen.kp (h:Pen M p) (k:Jb M M'):Pen M' p:=by
 obtain ⟨o,h1,h2⟩:=h;exact ⟨o,h1,k p o h2⟩
def Tb (M:Mp) (l:Addr) (bs:List B4):Prop:=∃ ks,(M l = some (.dct ks) \/ ∃ o,M l = some (.fdc o ks)) /\ Jj bs ks
noncomputable def ZeN (t ox oy i j:Int):PyData:=.tuple [.int (i * t + ox),.int (j * t + oy)]
def Lea (t ox oy:Int) (b1 b2:List B4) (d:PyData):Prop:=(d = .none /\ ∀ i j,anyB b1 i j = true->anyB b2 i j = true) \/
 ∃ i j,d = ZeN t ox oy i j /\ (anyB b1 i j = true /\ anyB b2 i j = false) /\ ∀ i' j',anyB b1 i' j' = true->anyB b2 i' j' = false->i < i' \/ (i = i' /\ j <= j')
def Due (b1 b2:List B4) (d:PyData):Prop:=(d = .none /\ ∀ u v,anyB b1 u v = true->anyB b2 u v = true) \/ ∃ u v,d = .tuple [.int u,.int v] /\ LsA b2 b1 u v
def Tld (b1 b2:List B4) (due d:PyData):Prop:=(due = .none /\ ∃ cs,d = Zel cs /\ Cvs b2 b1 cs) \/ ∃ u v,due = .tuple [.int u,.int v] /\ d = noD u v
theorem Pa (b:Bool):VC (.bool b) = true:=by rw [VC]
theorem XM {bs:List B4}:∀ {c:Cv} {n:Nat} {b:B4},c.dep <= n->ZF bs n b (cvD c) = ZU bs b c
 | c,0,_,h=>by have:=c.DN; omega
 | .box k,n + 1,b,_=>by
  show (isS (.str (Str.ofString "box")) (Str.ofString "box") && KP bs b (.int k)) = ZU bs b (.box k);rw [show isS (.str (Str.ofString "box")) (Str.ofString "box") = true by walk_at "k",Bool.true_and];rfl
 | .cut w a p q,n + 1,b,h=>by
  rw [WO] at h;show (isS (.str (Str.ofString "cut")) (Str.ofString "cut") && (Ys b w a && (ZF bs n (upB b w a) (cvD p) && ZF bs n (owB b w (a + 1)) (cvD q)))) = ZU bs b (.cut w a p q);rw [show isS (.str (Str.ofString "cut")) (Str.ofString "cut") = true by walk_at "k",Bool.true_and,XM (by omega),XM (by omega)];rfl
theorem Jb.del {M1:Mp} (h:Jb M M1) (hq:M1 q = none):Jb M (Vl (ZD M1 q o) q):=λ a o' e=>by
 have e1:=h a o' e;have ne:a ≠ q:=λ z=>by rw [z,hq] at e1; cases e1
 unfold Vl;rw [if_neg ne,Zz ne];exact e1
theorem Jb.ext (h:Ext M M'):Jb M M':=λ a o e=>by rw [h a (by rw [e]; exact Option.some_ne_none _)]; exact e
theorem zip_get {b1:List B4} {cs:List Cv} (h:(Nu (b1.map bD) (cs.map cvD))[i]? = some d):∃ b c,b1[i]? = some b /\ cs[i]? = some c /\ d = .tuple [bD b,cvD c]:=by
 unfold Nu at h;rw [List.getElem?_zipWith,List.getElem?_map,List.getElem?_map] at h;cases e:b1[i]? with
 | none=>rw [e] at h; cases h
 | some b=>
  cases e2:cs[i]? with
  | none=>rw [e,e2] at h; cases h
  | some c=>
   rw [e,e2] at h;cases h;exact ⟨b,c,rfl,rfl,rfl⟩
theorem strOk {f:Int} {b:B4} (hf:1 <= f) (h:okB b = true):okB (Kp f ox oy b) = true:=by
 rw [ZJ] at *;unfold Kp;dsimp only;have h1:=Int.mul_le_mul_of_nonneg_right h.1 (show 0 <= f by lia);have h2:=Int.mul_le_mul_of_nonneg_right h.2 (show 0 <= f by lia);lia
theorem OA {t:Int} {bs:List B4} (hf:Frm t ox oy) (hg:Grd 6 bs):Shp (bs.map (Kp t ox oy)):=by
 refine ⟨by rw [List.length_map]; exact hg.1,by rw [List.length_map]; exact hg.2.1,λ c hc=>?_⟩;obtain ⟨b,hb,rfl⟩:=List.mem_map.mp hc;exact strOk hf.1.1 (hg.2.2 b hb).1
def Dd:DSp:=λ xs M Φ=>on2 xs λ x y=>onX x λ _=>onX y λ _=>∀ b:Bool,Φ (.dat (.bool b)) M
theorem B3:type_of% @Dd.eq_1:=λ _ _ _=>qI
def Dh:DSp:=λ xs M Φ=>on2 xs λ x y=>onO x λ p=>WG y λ bs=>(Grd 6 bs /\ Pen M p) /\ ∀ cs M',Grd 6 cs->Pen M' p->Φ (.dat (.list (cs.map bD))) M'
theorem Fm:type_of% @Dh.eq_1:=λ _ _ _=>qI
def MZ:DSp:=λ xs M Φ=>on1 xs λ x=>WG x λ bs=>Grd 6 bs /\ ∀ cs,Grd 6 cs->Φ (.dat (.list (cs.map bD))) M
theorem L6:type_of% @MZ.eq_1:=λ _ _ _=>qI
def Cn:DSp:=λ xs M Φ=>on3 xs λ x y z=>onO x λ l=>onO y λ m=>WE z λ t ox oy=>∃ b1 b2,((Tb M l b1 /\ Tb M m b2 /\ l ≠ m) /\ Grd 6 b1 /\ Frm t ox oy) /\ ∀ d M',Lea t ox oy b1 b2 d->Tb M' l b1->(∀ a,a ≠ l->M' a = M a)->Φ (.dat d) M'
theorem Ej:type_of% @Cn.eq_1:=λ _ _ _=>qI
def Np:DSp:=λ xs M Φ=>on4 xs λ x y z s=>Jc x λ b1=>Jc y λ b2=>onD z λ due=>onD s λ d=>((Shp b1 /\ Shp b2) /\ Tld b1 b2 due d) /\ ∀ M',Jb M M'->Φ (.dat (.bool true)) M'
theorem Lo:type_of% @Np.eq_1:=λ _ _ _=>qI
def DJ:DSp:=λ xs M Φ=>on3 xs λ x y z=>Jc x λ b1=>Jc y λ b2=>onD z λ due=>((Shp b1 /\ Shp b2) /\ Due b1 b2 due) /\ ∀ M',Jb M M'->Φ (.dat (.bool true)) M'
theorem Et:type_of% @DJ.eq_1:=λ _ _ _=>qI
def Ni:DSp:=λ xs M Φ=>on3 xs λ x y z=>WG x λ b1=>WG y λ b2=>WE z λ t ox oy=>(Grd 6 b1 /\ Grd 6 b2 /\ Frm t ox oy) /\ ∀ M',Jb M M'->Φ (.dat (.bool true)) M'
theorem Hx:type_of% @Ni.eq_1:=λ _ _ _=>qI
theorem Pj (x:PyData) (xs:List PyData):DL.cutD (x :: xs) (some 1) none = xs:=by
 unfold DL.cutD;rw [HT.Ya,show HT.sIx (x :: xs).length 0 (some 1) = 1 by unfold HT.sIx; simp];simp
theorem Bg {bs:List B4} {n:Int} (hn:1 <= n) (hb:1 <= bs.length):∃ cs:List B4,DL.cutD (bs.map bD) none (some n) = cs.map bD /\ (1 <= cs.length /\ cs.length <= bs.length) /\ ∀ c ∈ cs,c ∈ bs:=by
 have e:DL.cutD (bs.map bD) none (some n) = (bs.map bD).take n.toNat:=by
  unfold DL.cutD;have e1:HT.sIx (bs.map bD).length 0 none = 0:=by unfold HT.sIx; rfl
  have e2:HT.sIx (bs.map bD).length (bs.map bD).length (some n) = min n.toNat (bs.map bD).length:=by
   unfold HT.sIx;dsimp only;rw [if_neg (by lia)]
  rw [e1,e2,List.drop_zero,Nat.sub_zero,List.take_eq_take_iff];lia
 refine ⟨bs.take n.toNat,by rw [e,List.map_take],?_,λ c hc=>List.mem_of_mem_take hc⟩;rw [List.length_take];lia
theorem ZaZ (l:List PyData) (k:Nat) (hk:k <= l.length):DL.cutD l (some (k:Int)) none = l.drop k:=by
 unfold DL.cutD;rw [HT.Yr,HT.Ya,Nat.min_eq_left hk];exact List.take_of_length_le (by rw [List.length_drop]; lia)
theorem ZaC (l:List PyData) (k:Nat) (hk:k <= l.length):DL.cutD l none (some (k:Int)) = l.take k:=by
 unfold DL.cutD;rw [HT.Ya,HT.Yr,Nat.min_eq_left hk,List.drop_zero,Nat.sub_zero]
theorem OI (l:List PyData) (k:Nat) (hk:k < l.length):DL.cutD l (some (k:Int)) (some ((k:Int) + 1)) = (l.drop k).take 1:=by
 unfold DL.cutD;rw [show (k:Int) + 1 = ((k + 1:Nat):Int) by lia,HT.Yr,HT.Yr,Nat.min_eq_left (by lia),Nat.min_eq_left (by lia),show k + 1 - k = 1 by lia]
theorem L9 {bs:List B4} (h0:0 <= r) (h1:r < bs.length):((DL.cutD (bs.map bD) none (some r)).length <= bs.length /\ (DL.cutD (bs.map bD) (some r) (some (r + 1))).length <= 1 /\ (DL.cutD (bs.map bD) (some r) none).length <= bs.length) /\
  ∃ cs:List B4,DL.cutD (bs.map bD) none (some r) ++ DL.cutD (bs.map bD) (some r) (some (r + 1)) ++ DL.cutD (bs.map bD) (some r) none = cs.map bD /\ cs.length = bs.length + 1 /\ ∀ c ∈ cs,c ∈ bs:=by
 obtain ⟨k,rfl⟩:∃ k:Nat,r = k:=⟨r.toNat,by lia⟩
 have hk:k < (bs.map bD).length:=by rw [List.length_map]; lia
 rw [ZaC _ _ (by lia),OI _ _ hk,ZaZ _ _ (by lia)];refine ⟨⟨by rw [List.length_take]; simp; lia,by rw [List.length_take]; lia,by rw [List.length_drop]; simp⟩,bs.take k ++ (bs.drop k).take 1 ++ bs.drop k,by simp,?_,λ c hc=>?_⟩
 ·rw [List.length_map] at hk;simp;lia
 ·rcases List.mem_append.mp hc with hc | hc
  ·rcases List.mem_append.mp hc with hc | hc
   ·exact List.mem_of_mem_take hc
   ·exact List.mem_of_mem_drop (List.mem_of_mem_take hc)
  ·exact List.mem_of_mem_drop hc
theorem E5 {bs:List B4} (h:1 <= bs.length):∃ b ∈ bs,L2.atI (bs.map bD) (-1) = some (bD b):=by
 have hi:bs.length - 1 < bs.length:=by lia
 refine ⟨bs[bs.length - 1],List.getElem_mem _,?_⟩;unfold L2.atI L2.ixN;rw [List.length_map,if_neg (by decide),if_pos (by lia),Option.bind_some,show ((-1:Int) + (bs.length:Int)).toNat = bs.length - 1 by lia,List.getElem?_map,List.getElem?_eq_getElem hi];rfl
theorem Grd.rev {bs:List B4} (hg:Grd 6 bs):Grd 6 bs.reverse:=⟨by rw [List.length_reverse]; exact hg.1,by rw [List.length_reverse]; exact hg.2.1,λ b hb=>hg.2.2 b (List.mem_reverse.mp hb)⟩
noncomputable def ZdY (s:Int) (b:B4):B4:=⟨s - b.X,b.y,s - b.x,b.Y⟩
theorem To {bs:List B4} (hg:Grd 6 bs) {mx mX:Int} (hx:mx ∈ bs.map B4.x) (nx:∀ a ∈ bs.map B4.x,mx <= a) (hX:mX ∈ bs.map B4.X) (nX:∀ a ∈ bs.map B4.X,a <= mX):Grd 6 (bs.map (ZdY (mx + mX))):=by
 refine ⟨by rw [List.length_map]; exact hg.1,by rw [List.length_map]; exact hg.2.1,λ c hc=>?_⟩;obtain ⟨b,hb,rfl⟩:=List.mem_map.mp hc;obtain ⟨b1,m1,e1⟩:=List.mem_map.mp hx;obtain ⟨b3,m3,e3⟩:=List.mem_map.mp hX;have k1:=(hg.2.2 b1 m1).2;have k3:=(hg.2.2 b3 m3).2;obtain ⟨k,k4⟩:=hg.2.2 b hb;have ok:=ZJ.mp k;have a1:=nx _ (List.mem_map_of_mem hb);have a2:=nX _ (List.mem_map_of_mem hb);unfold ZdY;exact ⟨ZJ.mpr (by dsimp only; lia),by dsimp only; lia,by dsimp only; lia⟩
noncomputable def UW (t ox oy:Int) (b2:List B4) (k:List Key):Option (Int × Int):=match k with
 | [.inl a,.inl b]=>if anyB b2 a b then none else some (a * t + ox,b * t + oy)
 | _=>none
theorem HD {t:Int} {b2:List B4} {k:List Key} (h:ks[i]? = some k):(ks.take (i + 1)).filterMap (UW t ox oy b2) = (ks.take i).filterMap (UW t ox oy b2) ++ (UW t ox oy b2 k).toList:=by
 rw [List.take_succ,h,List.filterMap_append];simp only [Option.toList_some,List.filterMap_cons,List.filterMap_nil];cases UW t ox oy b2 k <;> rfl
theorem TB {t:Int} (ht:1 <= t) {b1 b2:List B4} (c:Jj b1 ks):(ks.filterMap (UW t ox oy b2) = []->∀ i j,anyB b1 i j = true->anyB b2 i j = true) /\
  ∀ q ∈ ks.filterMap (UW t ox oy b2),(∀ r ∈ ks.filterMap (UW t ox oy b2),ltP r q = false)->Lea t ox oy b1 b2 (prD q):=by
 have put:∀ i j,anyB b1 i j = true->anyB b2 i j = false->(i * t + ox,j * t + oy) ∈ ks.filterMap (UW t ox oy b2):=λ i j h1 h2=>by
  rw [<- c.1 i j] at h1;refine List.mem_filterMap.mpr ⟨kP i j,QD.mp h1,?_⟩;show (if anyB b2 i j = true then none else some (i * t + ox,j * t + oy)) = _;rw [h2];rfl
 refine ⟨λ e i j h1=>?_,λ q hq hl=>.inr ?_⟩
 ·cases h2:anyB b2 i j with
  | true=>rfl
  | false=>
   have:=put i j h1 h2;rw [e] at this;cases this
 ·obtain ⟨k,mk,ek⟩:=List.mem_filterMap.mp hq;obtain ⟨i,j,rfl⟩:=c.2.1.2 k mk;have ek:(if anyB b2 i j = true then none else some (i * t + ox,j * t + oy)) = some q:=ek;cases h2:anyB b2 i j with
  | true=>rw [h2] at ek; cases ek
  | false=>
   rw [h2] at ek;cases ek;refine ⟨i,j,rfl,⟨by rw [<- c.1 i j]; exact QD.mpr mk,h2⟩,λ i' j' k1 k2=>?_⟩;have l:=hl _ (put i' j' k1 k2);unfold ltP at l;dsimp only at l
   by_cases e1:i' < i
   ·have:=Int.mul_lt_mul_of_pos_right e1 (show 0 < t by lia);rw [if_neg (by lia)] at l;have:=of_decide_eq_false l;lia
   ·by_cases e2:i' = i
    ·subst e2;rw [if_pos rfl] at l;have:=of_decide_eq_false l
     by_cases e3:j' < j
     ·have:=Int.mul_lt_mul_of_pos_right e3 (show 0 < t by lia);lia
     ·lia
    ·lia
theorem Ep {t:Int} (hf:Frm t ox oy) {b1 b2:List B4} (h:Lea t ox oy b1 b2 d):Due (b1.map (Kp t ox oy)) (b2.map (Kp t ox oy)) d:=by
 have ht:=hf.1.1;have back:∀ i o:Int,(i * t + o - o) / t = i:=λ i o=>by rw [Int.add_sub_cancel]; exact Int.mul_ediv_cancel _ (by lia)
 rcases h with ⟨rfl,h⟩ | ⟨i,j,rfl,⟨h1,h2⟩,h3⟩
 ·refine .inl ⟨rfl,λ u v k=>?_⟩;rw [Ql ht] at k ⊢;exact h _ _ k
 ·refine .inr ⟨_,_,rfl,⟨by rw [Ql ht,back,back]; exact h1,by rw [Ql ht,back,back]; exact h2⟩,λ u v k1 k2=>?_⟩;rw [Ql ht] at k1 k2;have l:=h3 _ _ k1 k2;obtain ⟨r,e,a1,a2⟩:=JX ht u ox;obtain ⟨r',e',a3,a4⟩:=JX ht v oy
  rcases l with l | ⟨l1,l2⟩
  ·have:=Int.mul_le_mul_of_nonneg_right (show i + 1 <= (u - ox) / t by lia) (show 0 <= t by lia);rw [Int.add_mul] at this;lia
  ·have:=Int.mul_le_mul_of_nonneg_right l2 (show 0 <= t by lia);rw [<- l1] at e;lia
theorem Yb {bs:List B4} (c:Jj bs ks) (hd:d ∈ ks.map tkD):∃ i j:Int,d = .tuple [.int i,.int j]:=by
 obtain ⟨k,mk,rfl⟩:=List.mem_map.mp hd;obtain ⟨i,j,rfl⟩:=c.2.1.2 k mk;exact ⟨i,j,rfl⟩
theorem U8 {bs:List B4} (c:Jj bs ks) (i j:Int):(PyData.tuple [.int i,.int j]) ∈ ks.map tkD ↔ anyB bs i j = true:=by
 rw [<- c.1 i j,QD];constructor
 ·intro h;obtain ⟨k,mk,e⟩:=List.mem_map.mp h;obtain ⟨i',j',rfl⟩:=c.2.1.2 k mk;have e:PyData.tuple [.int i',.int j'] = .tuple [.int i,.int j]:=e;cases e;exact mk
 ·exact λ h=>List.mem_map.mpr ⟨_,h,rfl⟩
theorem Kf {bs:List B4} (c:Jj bs ks):Vi (ks.map tkD):=by
 refine ⟨by rw [List.length_map,sizeLine_eq]; have:=c.2.2; lia,.tint λ d hd=>?_,λ d hd=>?_,λ d hd e he=>?_⟩
 ·obtain ⟨i,j,rfl⟩:=Yb c hd;exact ⟨i,_,rfl⟩
 ·obtain ⟨i,j,rfl⟩:=Yb c hd;exact ⟨by simp [pln,Y8],by simp [PyData.canLay0,PyData.canLayAll0],by simp [PyData.depth,PyData.depthAll]⟩
 ·obtain ⟨i,j,rfl⟩:=Yb c hd;obtain ⟨i',j',rfl⟩:=Yb c he;rw [Z7,Qm]
  split
  ·rw [Qm]
   split
   ·rw [Qm];exact λ a l b r z=>nomatch z
   ·rw [Z7]
  ·rw [Z7]
theorem GA:∀ {l:List PyData},(∀ d ∈ l,d.canLay0 = true /\ d.depth <= 1)->(PyData.canLayAll0 l = true /\ PyData.depthAll l <= 1) 
 | [],_=>by simp [PyData.canLayAll0,PyData.depthAll]
 | d :: l,h=>by
  have h1:=h d (.head _);have h2:=GA (l:=l) λ d hd=>h d (.tail _ hd);rw [PyData.canLayAll0,PyData.depthAll,h1.1,h2.1];exact ⟨rfl,by have:=h1.2; have:=h2.2; lia⟩
theorem Km:∀ {l:List PyData},(∀ d ∈ l,pln d = true)->Y8 l = true
 | [],_=>by rw [Y8]
 | d :: l,h=>by rw [Y8,h d (.head _),Km λ d hd=>h d (.tail _ hd)]; rfl
theorem UG {b1 b2:List B4} {ks1 ks2:List (List Key)} (c1:Jj b1 ks1) (c2:Jj b2 ks2) {d1 d2:List PyData} (p1:d1.Perm (ks1.map tkD)) (s1:d1.Pairwise leD) (p2:d2.Perm (ks2.map tkD)) (s2:d2.Pairwise leD) :
  Ol (.list d1) (.list d2) = true /\ ((PyData.list d1).eqv (.list d2) = true ↔ ∀ i j,anyB b1 i j = anyB b2 i j):=by
 have o1:=Kf c1;have o2:=Kf c2;have lay:∀ {bs:List B4} {ks:List (List Key)} {d:List PyData},Jj bs ks->d.Perm (ks.map tkD)->PyData.canLayAll0 d = true /\ PyData.depthAll d <= 1:=λ c p=>GA λ d hd=>by
  obtain ⟨i,j,rfl⟩:=Yb c (p.mem_iff.mp hd);exact ⟨by simp [PyData.canLay0,PyData.canLayAll0],by simp [PyData.depth,PyData.depthAll]⟩
 have l1:=lay c1 p1;have l2:=lay c2 p2;have q1:Y8 d1 = true:=Km λ d hd=>(o1.pl d (p1.mem_iff.mp hd)).1;have q2:Y8 d2 = true:=Km λ d hd=>(o2.pl d (p2.mem_iff.mp hd)).1;refine ⟨?_,?_,?_⟩
 ·unfold Ol;rw [PyData.canLay0,PyData.canLay0,l1.1,l2.1,PyData.depth,PyData.depth];rw [Bool.true_and,Bool.true_and];exact Nat.ble_eq.mpr (by have:=l1.2; have:=l2.2; lia)
 ·intro e i j;rw [Rz] at e;have ed:=Kj d1 d2 q1 q2 e;rw [Bool.eq_iff_iff,<- U8 c1 i j,<- U8 c2 i j,<- p1.mem_iff,<- p2.mem_iff,ed]
 ·intro e;have pm:ks1.Perm ks2:=(List.perm_ext_iff_of_nodup c1.2.1.1 c2.2.1.1).mpr λ k=>by
   constructor
   ·intro hk;obtain ⟨i,j,rfl⟩:=c1.2.1.2 k hk;rw [<- QD,c2.1 i j,<- e i j,<- c1.1 i j,QD];exact hk
   ·intro hk;obtain ⟨i,j,rfl⟩:=c2.2.1.2 k hk;rw [<- QD,c1.1 i j,e i j,<- c2.1 i j,QD];exact hk
  have pd:d1.Perm d2:=(p1.trans (pm.map tkD)).trans p2.symm
  have ed:d1 = d2:=List.Perm.eq_of_pairwise (le:=leD) (λ a b ha hb x y=>by
   have ma:=p1.mem_iff.mp ha;have mb:=((pm.map tkD).symm.mem_iff).mp (p2.mem_iff.mp hb)
   exact Uq a b (o1.pl a ma).1 (o1.pl b mb).1 (o1.cm a ma b mb) y x) s1 s2 pd
  rw [ed,Rz];exact Yj d2 q2
theorem EJ {t:Int} (ht:1 <= t) (b1 b2:List B4):(∀ u v,anyB (b1.map (Kp t ox oy)) u v = anyB (b2.map (Kp t ox oy)) u v) ↔ ∀ i j,anyB b1 i j = anyB b2 i j:=by
 have back:∀ i o:Int,(i * t + o - o) / t = i:=λ i o=>by rw [Int.add_sub_cancel]; exact Int.mul_ediv_cancel _ (by lia)
 constructor
 ·intro h i j;have:=h (i * t + ox) (j * t + oy);rw [Ql ht,Ql ht,back,back] at this;exact this
 ·intro h u v;rw [Ql ht,Ql ht];exact h _ _
theorem Tb.kp {bs:List B4} (h:Tb M l bs) (k:Jb M M'):Tb M' l bs:=by
 obtain ⟨ks,e | ⟨o,e⟩,c⟩:=h
 ·exact ⟨ks,.inl (k _ _ e),c⟩
 ·exact ⟨ks,.inr ⟨o,k _ _ e⟩,c⟩
theorem Tb.eq {bs:List B4} (h:Tb M l bs) (k:M' l = M l):Tb M' l bs:=by
 obtain ⟨ks,e,c⟩:=h;exact ⟨ks,by rw [k]; exact e,c⟩
theorem Tb.on {bs:List B4} (h:Tb M l bs) {P:List (List Key)->Prop} (k:∀ ks,Jj bs ks->P ks):BX (M l) P λ _ ks=>P ks:=by
 obtain ⟨ks,e | ⟨o,e⟩,c⟩:=h
 ·rw [e];exact k ks c
 ·rw [e];exact k ks c
theorem Jb.off {M1 M2:Mp} (h:Jb M M1) (hl:M l = none) (k:∀ a,a ≠ l->M2 a = M1 a):Jb M M2:=λ a o e=>by
 rw [k a λ z=>by rw [z,hl] at e; cases e];exact h a o e
def Two (b1 b2:List B4) (M:Mp) (p l1 l2:Addr) (M':Mp):Prop:=M' p = some (.lsv 0 [.own l1,.own l2]) /\ Tb M' l1 b1 /\ Tb M' l2 b2 /\ Jb M M'
theorem Two.kp {b1 b2:List B4} {M1 M2:Mp} {l1 l2:Addr} (h:Two b1 b2 M p l1 l2 M1) (k:Jb M1 M2):Two b1 b2 M p l1 l2 M2:=⟨k _ _ h.1,h.2.1.kp k,h.2.2.1.kp k,h.2.2.2.trans k⟩
theorem GZ0:(type_of% @HS)∧(type_of% @L3)∧(type_of% @LM)∧(type_of% @MJ)∧(type_of% @HB)∧(type_of% @MO)∧(type_of% @F0)∧(type_of% @Eg)∧(type_of% @Fx)∧(type_of% @O7)∧(type_of% @SE)∧(type_of% @Sx)∧(type_of% @PQ)∧(type_of% @Sk)∧(type_of% @Hc)∧(type_of% @Hs)∧(type_of% @LB)∧(type_of% @MS)∧(type_of% @HY)∧(type_of% @MC)∧(type_of% @Lb)∧(type_of% @HW)∧(type_of% @Lx)∧(type_of% @Ma)∧(type_of% @F2)∧(type_of% @ZaX)∧(type_of% @ZgD)∧(type_of% @ZeV)∧(type_of% @ZeA)∧(type_of% @Zgs)∧(type_of% @La)∧(type_of% @ZcH)∧(type_of% @Zeh)∧(type_of% @Zbc)∧(type_of% @PR)∧(type_of% @Zcp)∧(type_of% @Rk)∧(type_of% @Zd1)∧(type_of% @ZaV)∧(type_of% @Zet):=⟨@HS,@L3,@LM,@MJ,@HB,@MO,@F0,@Eg,@Fx,@O7,@SE,@Sx,@PQ,@Sk,@Hc,@Hs,@LB,@MS,@HY,@MC,@Lb,@HW,@Lx,@Ma,@F2,@ZaX,@ZgD,@ZeV,@ZeA,@Zgs,@La,@ZcH,@Zeh,@Zbc,@PR,@Zcp,@Rk,@Zd1,@ZaV,@Zet⟩
theorem GZ1:(type_of% @Zbb)∧(type_of% @Ze9)∧(type_of% @Tv)∧(type_of% @OV)∧(type_of% @ZaN)∧(type_of% @ZbV)∧(type_of% @RX)∧(type_of% @Tg)∧(type_of% @Mo)∧(type_of% @MR)∧(type_of% @Mz)∧(type_of% @HX)∧(type_of% @HP)∧(type_of% @Zar)∧(type_of% @ZeZ)∧(type_of% @Si)∧(type_of% @RF)∧(type_of% @Zcr)∧(type_of% @Be)∧(type_of% @HL)∧(type_of% @HQ)∧(type_of% @LG)∧(type_of% @T2)∧(type_of% @Zcb)∧(type_of% @Eh)∧(type_of% @Sy)∧(type_of% @Zal)∧(type_of% @Pz)∧(type_of% @ZbI)∧(type_of% @RG)∧(type_of% @Zbz)∧(type_of% @Zam)∧(type_of% @Vj)∧(type_of% @Bf)∧(type_of% @WU)∧(type_of% @Ly)∧(type_of% @Lf)∧(type_of% @RR)∧(type_of% @Pe)∧(type_of% @ZbR):=⟨@Zbb,@Ze9,@Tv,@OV,@ZaN,@ZbV,@RX,@Tg,@Mo,@MR,@Mz,@HX,@HP,@Zar,@ZeZ,@Si,@RF,@Zcr,@Be,@HL,@HQ,@LG,@T2,@Zcb,@Eh,@Sy,@Zal,@Pz,@ZbI,@RG,@Zbz,@Zam,@Vj,@Bf,@WU,@Ly,@Lf,@RR,@Pe,@ZbR⟩
theorem GZ2:(type_of% @DR)∧(type_of% @PF)∧(type_of% @P4)∧(type_of% @Lg)∧(type_of% @LZ)∧(type_of% @RQ)∧(type_of% @Zba)∧(type_of% @TM)∧(type_of% @OW)∧(type_of% @Hf)∧(type_of% @HG)∧(type_of% @R6)∧(type_of% @Tf)∧(type_of% @Lv)∧(type_of% @LP)∧(type_of% @ZaE)∧(type_of% @CM)∧(type_of% @RV)∧(type_of% @CD)∧(type_of% @ZcF)∧(type_of% @LF)∧(type_of% @Mh)∧(type_of% @U0)∧(type_of% @FE)∧(type_of% @Sd)∧(type_of% @LY)∧(type_of% @F5)∧(type_of% @Zci)∧(type_of% @L8)∧(type_of% @PK)∧(type_of% @Ee)∧(type_of% @Me)∧(type_of% @Ll)∧(type_of% @SW)∧(type_of% @P1)∧(type_of% @W4)∧(type_of% @Zbf)∧(type_of% @HI)∧(type_of% @BV)∧(type_of% @RK):=⟨@DR,@PF,@P4,@Lg,@LZ,@RQ,@Zba,@TM,@OW,@Hf,@HG,@R6,@Tf,@Lv,@LP,@ZaE,@CM,@RV,@CD,@ZcF,@LF,@Mh,@U0,@FE,@Sd,@LY,@F5,@Zci,@L8,@PK,@Ee,@Me,@Ll,@SW,@P1,@W4,@Zbf,@HI,@BV,@RK⟩
theorem GZ3:(type_of% @Hr)∧(type_of% @BI)∧(type_of% @Zbs)∧(type_of% @Zag)∧(type_of% @BS)∧(type_of% @DB)∧(type_of% @Zez)∧(type_of% @Zb4)∧(type_of% @U0)∧(type_of% @Bp)∧(type_of% @Ct)∧(type_of% @WL)∧(type_of% @RI)∧(type_of% @ZbL)∧(type_of% @F8)∧(type_of% @Ht)∧(type_of% @Bd)∧(type_of% @WK)∧(type_of% @Ln)∧(type_of% @MF)∧(type_of% @HV)∧(type_of% @Ho)∧(type_of% @D8)∧(type_of% @LA)∧(type_of% @O9)∧(type_of% @Ba)∧(type_of% @Ls)∧(type_of% @Bv)∧(type_of% @Lh)∧(type_of% @B7)∧(type_of% @OT)∧(type_of% @ZbP)∧(type_of% @E2)∧(type_of% @EL)∧(type_of% @F1)∧(type_of% @B3)∧(type_of% @Fm)∧(type_of% @L6)∧(type_of% @Ej)∧(type_of% @Lo):=⟨@Hr,@BI,@Zbs,@Zag,@BS,@DB,@Zez,@Zb4,@U0,@Bp,@Ct,@WL,@RI,@ZbL,@F8,@Ht,@Bd,@WK,@Ln,@MF,@HV,@Ho,@D8,@LA,@O9,@Ba,@Ls,@Bv,@Lh,@B7,@OT,@ZbP,@E2,@EL,@F1,@B3,@Fm,@L6,@Ej,@Lo⟩
theorem GZ4:(type_of% @Et)∧(type_of% @Hx)∧(type_of% @L5)∧(type_of% @SM)∧(type_of% @RH)∧(type_of% @BQ)∧(type_of% @Su)∧(type_of% @Ry)∧(type_of% @Kg)∧(type_of% @XT)∧(type_of% @Bj)∧(type_of% @En)∧(type_of% @RL)∧(type_of% @Mv)∧(type_of% @Hi)∧(type_of% @R0)∧(type_of% @ZbJ)∧(type_of% @J8)∧(type_of% @Mi)∧(type_of% @Sw)∧(type_of% @Pb):=⟨@Et,@Hx,@L5,@SM,@RH,@BQ,@Su,@Ry,@Kg,@XT,@Bj,@En,@RL,@Mv,@Hi,@R0,@ZbJ,@J8,@Mi,@Sw,@Pb⟩
local macro_rules | `(tactic| walk_at "rk")=>`(tactic| try simp (config:={ maxSteps:=10000000 }) only [↓GZ0,↓GZ1,↓GZ2,↓GZ3,↓GZ4,ES,Fp,LX,Mf,LH,By,VX,B8,ZeW,F9,ND,isNone_none,K4,Option.bind_some,Option.join_some,List.getElem?_cons_zero,List.getElem?_cons_succ,List.set_cons_zero,List.set_cons_succ,List.map_cons,List.map_nil,List.length_cons,List.length_nil,List.replicate,List.cons_append,List.nil_append,List.any_cons,List.any_nil,Zu,Dz,↓reduceIte,Bool.not_true,Bool.not_false,Bool.or_false,Bool.or_true,Bool.true_or,Bool.false_or,Bool.and_true,Bool.and_false,Bool.true_and,Bool.false_and,Bool.bne_true,Bool.false_eq_true,eq_self,true_and,and_true,Tr,Zaf,exists_eq_left',exists_eq_left,Option.some.injEq,Nat.reduceAdd,Nat.reduceSub,Nat.zero_add,Nat.reduceLT,Nat.reduceLeDiff,Int.reduceToNat,Int.reducePow,Int.reduceSub,Int.reduceMul,Int.reduceAdd,Int.reduceNeg,Int.reduceLT,Int.reduceLE,Int.reduceEq,Int.zero_add,Int.cast_ofNat_Int,decide_true,decide_false,sizeLine_eq,Rz,ZdS,Y9,Wk,↓V9,↓HU,RD,Pn,Rj,Za5,Za4,↓WC,↓X1,Pa])
theorem Wz (T:Tx K mg):Qn P w K mg base CX0 1 T.Yz T.Yf ["box"] (lift K ZcQ):=by
 refine okD T.Yu.F KL (λ xs M Φ h=>by obtain ⟨_,rfl,_⟩:=ZZ h; rfl) λ cdv A outer s H E hr=>⟨_,(Zg (Zl (XA (JH W7 (Zf (Zf (Zb 0) Zc) Zc) (Zf (Zf (Zb 0) Zc) Zc)) (YC (JH W7 (Zf (Zf (Zb 0) Zc) Zc) (Zf (Zf (Zb 0) Zc) Zc)))))),λ xs M Φ h=>?_⟩;replace h:=ZZ h;obtain ⟨x1,rfl,h⟩:=h;replace h:=ZM h;obtain ⟨b,rfl,h⟩:=h;walk_at "rk";refine Zj (λ h1=>?_) (λ h1=>?_)
 ·unfold okB at h
  simpa [h1] using h
 ·unfold okB at h
  simpa [h1] using h
theorem N8 (T:Tx K mg):Qn P w K mg base CX0 1 T.Zcj T.Zb2 ["one", "other", "way"] (lift K Za9):=by
 refine okD T.RN.F ZbY (λ xs M Φ h=>by obtain ⟨_,_,_,rfl,_⟩:=Z0 h; rfl) λ cdv A outer s H E hr=>⟨_,(Zg (Zl (Zi (PC rfl) rfl T.Wj VT (Za Zc (Za (Zo Qz (Zf (Zf (Zb 1) Zc) (Zb 2)) (Zf (Zf (Zb 0) Zc) (Zb 2))) (Za (Zo Qz (Zf (Zf (Zb 0) Zc) (Zb 2)) (Zf (Zf (Zb 1) Zc) (Zb 2))) Zd)))))),λ xs M Φ h=>?_⟩;replace h:=Z0 h;obtain ⟨x1,x2,x3,rfl,h⟩:=h;replace h:=ZM h;obtain ⟨a,rfl,h⟩:=h;replace h:=ZM h;obtain ⟨b,rfl,h⟩:=h;replace h:=ZA h;obtain ⟨i,rfl,hi,h⟩:=h
 rcases hi with rfl | rfl
 ·walk_at "rk";exact h
 ·walk_at "rk";exact h
theorem Qu (T:Tx K mg):Qn P w K mg base CX0 2 T.Jn T.Ji ["one", "other"] (lift K K8):=by
 refine okD T.Qk.F VY (λ xs M Φ h=>by obtain ⟨_,_,rfl,_⟩:=Zv h; rfl) λ cdv A outer s H E hr=>⟨_,(Zg (Zl (Zi (Vs rfl) rfl T.Wj VT (Za (cO T.RN (N8 T) hr (Za (Zb 0) (Za (Zb 1) (Za Zc Zd)))) (Za (cO T.RN (N8 T) hr (Za (Zb 0) (Za (Zb 1) (Za Zc Zd)))) Zd))))),λ xs M Φ h=>?_⟩;replace h:=Zv h;obtain ⟨x1,x2,rfl,h⟩:=h;replace h:=ZM h;obtain ⟨a,rfl,h⟩:=h;replace h:=ZM h;obtain ⟨b,rfl,h⟩:=h;walk_at "rk";exact ⟨.inl trivial,.inr trivial,h⟩
theorem UD (T:Tx K mg):Qn P w K mg base CX0 3 T.Xe T.Xl ["box", "spot"] (lift K ZfQ):=by
 refine okD T.Xh.F UK (λ xs M Φ h=>by obtain ⟨_,_,rfl,_⟩:=Zv h; rfl) λ cdv A outer s H E hr=>⟨_,(Zg (Zl (cO T.Qk (Qu T) hr (Za (Zb 0) (Za (Zm (Za (Zb 1) (Za (Zb 1) Zd))) Zd))))),λ xs M Φ h=>?_⟩;replace h:=Zv h;obtain ⟨x1,x2,rfl,h⟩:=h;replace h:=ZM h;obtain ⟨a,rfl,h⟩:=h;replace h:=E7 h;obtain ⟨u,v,rfl,h⟩:=h;walk_at "rk";exact h
theorem MV (T:Tx K mg):Qn P w K mg base CX0 4 T.ZbZ T.ZbF ["box", "spot"] (lift K N9):=by
 refine okD T.RU.F Zbm (λ xs M Φ h=>by obtain ⟨_,_,rfl,_⟩:=Zv h; rfl) λ cdv A outer s H E hr=>⟨_,(Zg (Zl (JH (QY hr) (cO T.Xh (UD T) hr (Za (Zb 0) (Za (Zb 1) Zd))) Zc))),λ xs M Φ h=>?_⟩;replace h:=Zv h;obtain ⟨x1,x2,rfl,h⟩:=h;replace h:=ZM h;obtain ⟨a,rfl,h⟩:=h;replace h:=E7 h;obtain ⟨u,v,rfl,h⟩:=h;walk_at "rk";rw [Hd];exact h
theorem De (T:Tx K mg):Qn P w K mg base CX0 1 T.GI T.U2 ["one", "other"] (lift K GJ):=by
 refine okD T.GL.F YN (λ xs M Φ h=>by obtain ⟨_,_,rfl,_⟩:=Zv h; rfl) λ cdv A outer s H E hr=>⟨_,(Ze (Zq 2 YN.nd (Zm (Za (Zi (Vs rfl) rfl T.Wj VT (Za (Zf (Zf (Zb 0) Zc) Zc) (Za (Zf (Zf (Zb 1) Zc) Zc) Zd))) (Za (Zi (Vs rfl) rfl T.Wj VT (Za (Zf (Zf (Zb 0) Zc) Zc) (Za (Zf (Zf (Zb 1) Zc) Zc) Zd))) Zd))))
 (Ze (Zq 3 YN.nd (Zm (Za (Zi (JQ rfl) rfl T.Yi Je (Za (Zf (Zf (Zb 0) Zc) Zc) (Za (Zf (Zf (Zb 1) Zc) Zc) Zd))) (Za (Zi (JQ rfl) rfl T.Yi Je (Za (Zf (Zf (Zb 0) Zc) Zc) (Za (Zf (Zf (Zb 1) Zc) Zc) Zd))) Zd))))
 (Zg (Zl (Zm (Za (Zb 2) (Za (Zb 3) Zd))))))),λ xs M Φ h=>?_⟩
 replace h:=Zv h;obtain ⟨x1,x2,rfl,h⟩:=h;replace h:=ZM h;obtain ⟨a,rfl,h⟩:=h;replace h:=ZM h;obtain ⟨b,rfl,h⟩:=h;walk_at "h";walk_at "h";subst_vars;walk_at "rk";exact h
theorem Bn (T:Tx K mg):Qn P w K mg base CX0 3 T.Kw T.WA ["one", "other"] (lift K Zc0):=by
 refine okD T.KI.F QH (λ xs M Φ h=>by obtain ⟨_,_,rfl,_⟩:=Zv h; rfl) λ cdv A outer s H E hr=>⟨_,(Ze (ZS (Zw Ds (cO T.Qk (Qu T) hr (Za (Zb 0) (Za (Zb 1) Zd))) Zc) (Zg (Zl (Qs (Za (Zb 0) Zd)))) Zs)
 (Ze (Zq 2 QH.nd (cO T.GL (De T) hr (Za (Zb 0) (Za (Zb 1) Zd))))
 (Ze (Zq 3 QH.nd (Zm (Za (Zf (Zb 0) Zc) (Za (Zm (Za (Zo Qz (Zf (Zf (Zb 2) Zc) Zc) Zc) (Za (Zf (Zf (Zb 0) Zc) Zc) Zd))) Zd))))
 (Ze (Zq 4 QH.nd (Zm (Za (Zm (Za (Zo Zy (Zf (Zf (Zb 2) Zc) Zc) Zc) (Za (Zf (Zf (Zb 0) Zc) Zc) Zd))) (Za (Zf (Zb 0) Zc) Zd))))
 (Ze (Zq 5 QH.nd (Zm (Za (Zm (Za (Zf (Zf (Zb 2) Zc) Zc) (Za (Zf (Zf (Zb 0) Zc) Zc) Zd))) (Za (Zm (Za (Zf (Zf (Zb 2) Zc) Zc) (Za (Zo Qz (Zf (Zf (Zb 2) Zc) Zc) Zc) Zd))) Zd))))
 (Ze (Zq 6 QH.nd (Zm (Za (Zm (Za (Zf (Zf (Zb 2) Zc) Zc) (Za (Zo Zy (Zf (Zf (Zb 2) Zc) Zc) Zc) Zd))) (Za (Zm (Za (Zf (Zf (Zb 2) Zc) Zc) (Za (Zf (Zf (Zb 0) Zc) Zc) Zd))) Zd))))
 (Zg (Zl (Jd true (ZO (sc:=Zh JY) (XN:=["one", "other", "middle", "left", "right", "below", "above"]) (N:=["piece"]) (ix:=[none]) rfl rfl (by walk_at "k")) (QS (Qe (Za (Zb 3) (Za (Zb 4) (Za (Zb 5) (Za (Zb 6) Zd)))))) (λ C ex s H=>(Zk 0 (show List.Nodup (["piece"]:List Str) by walk_at "k"))) (λ C ex s H=>(X3 (Qj (cO T.Yu (Wz T) hr (Za (Zb 0) Zd))))) (λ C ex s H=>(Zb 0)) rfl))))))))),λ xs M Φ h=>?_⟩
 replace h:=Zv h;obtain ⟨x1,x2,rfl,h⟩:=h;replace h:=ZM h;obtain ⟨a,rfl,h⟩:=h;replace h:=ZM h;obtain ⟨b,rfl,h⟩:=h;walk_at "h";refine Zj (λ hk=>?_) (λ hk=>?_)
 ·intro p hp;have h':=h p hp;rw [show Xa a b = [a] from if_pos hk] at h';exact h'
 ·have ec:Xa a b = (BZ a b).filter okB:=if_neg hk;walk_at "h";walk_at "h";walk_at "h";walk_at "h";walk_at "h";subst_vars;walk_at "rk";refine ⟨λ i acc M'=>acc = (((BZ a b).take i).filter okB).map bD /\ M' = M,⟨rfl,rfl⟩,?_,?_⟩
  ·rintro i d acc M' hd ⟨rfl,rfl⟩;have hd':((BZ a b).map bD)[i]? = some d:=hd;obtain ⟨q,eq,rfl⟩:=Z5 hd';walk_at "rk";rw [YR okB eq,List.map_append];cases okB q with
   | true=>rfl
   | false=>simp
  ·rintro acc M' ⟨rfl,rfl⟩;rw [ec] at h;exact h
theorem KR (T:Tx K mg):Qn P w K mg base CX0 4 T.YF T.Y0 ["box", "others"] (lift K NJ):=by
 refine okD T.YK.F Qb (λ xs M Φ h=>by obtain ⟨_,_,rfl,_⟩:=Zv h; rfl) λ cdv A outer s H E hr=>⟨_,(Ze (Zq 2 Qb.nd (Qe (Za (Zb 0) Zd)))
 (Ze (WH (Zb 1) (Zk 3 Qb.nd) (Ze (Zq 4 Qb.nd (Qs Zd))
 (Ze (Ut (Zb 2) (Zk 5 Qb.nd) (Zg (Q1 (Kv (Zb 4) (cO T.KI (Bn T) hr (Za (Zb 5) (Za (Zb 3) Zd)))))) PassesOwn.never rfl)
 (Zg (Zq 2 Qb.nd (Fc (Zb 4)))))) PassesOwn.never rfl)
 (Zg (Zl (Zb 2))))),λ xs M Φ h=>?_⟩
 replace h:=Zv h;obtain ⟨x1,x2,rfl,h⟩:=h;replace h:=ZM h;obtain ⟨a,rfl,h⟩:=h;replace h:=Z1 h;obtain ⟨bs,rfl,hl,h⟩:=h;walk_at "h";walk_at "h";refine ⟨λ i U M'=>∃ k3 k4 k5,U = [some (.dat (bD a)),some (.dat (.tuple (bs.map bD))),some (.dat (.list ((QV a (bs.take i)).map bD))),k3,k4,k5] /\ M' = M,⟨none,none,none,rfl,rfl⟩,?_,?_⟩
 ·rintro i d U M' hd ⟨k3,k4,k5,rfl,rfl⟩;obtain ⟨b,eb,rfl⟩:=Z5 hd;have len:=Wo a (bs.take i) (by rw [List.length_take]; lia);walk_at "rk";intro q hq;refine ⟨λ j U M2=>∃ k5,U = [some (.dat (bD a)),some (.dat (.tuple (bs.map bD))),some (.dat (.list ((QV a (bs.take i)).map bD))),some (.dat (bD b)),some (.own q),k5] /\ M2 = ZD M' q (.lst ((((QV a (bs.take i)).take j).flatMap λ p=>Xa p b).map bD)),⟨k5,rfl,rfl⟩,?_,?_⟩
  ·rintro j d U M2 hd2 ⟨k5,rfl,rfl⟩;obtain ⟨p,ep,rfl⟩:=Z5 hd2;walk_at "rk";intro c hc;have hne:=fresh_ne hc;simp only [Zz (Ne.symm hne)];walk_at "rk";refine ⟨hne,?_,_,rfl,?_⟩
   ·have h1:=V3 (λ p=>Xa p b) 4 ((QV a (bs.take i)).take j) λ p _=>X2 p b;have h2:=X2 p b;rw [List.length_take] at h1;rw [List.length_map,List.length_map];lia
   ·rw [C9 hc,<- List.map_append,D9 (λ p=>Xa p b) ep]
  ·rintro U M2 ⟨k5,rfl,rfl⟩;rw [List.length_map,List.take_length];walk_at "rk";exact ⟨_,_,_,by rw [Bo eb],YW hq⟩
 ·rintro U M' ⟨k3,k4,k5,rfl,rfl⟩;rw [List.length_map,List.take_length];subst_vars;walk_at "rk";exact h
theorem BA (T:Tx K mg):Qn P w K mg base CX0 5 T.Ks T.Wa ["box", "other"] (lift K Gf):=by
 refine okD T.Wg.F Bi (λ xs M Φ h=>by obtain ⟨_,_,rfl,_⟩:=Zv h; rfl) λ cdv A outer s H E hr=>⟨_,(Zg (Zl (XA (cO T.RU (MV T) hr (Za (Zb 0) (Za (Zf (Zb 1) Zc) Zd))) (YC (cO T.RU (MV T) hr (Za (Zb 0) (Za (Zf (Zb 1) Zc) Zd))))))),λ xs M Φ h=>?_⟩;replace h:=Zv h;obtain ⟨x1,x2,rfl,h⟩:=h;replace h:=ZM h;obtain ⟨a,rfl,h⟩:=h;replace h:=ZM h;obtain ⟨b,rfl,h⟩:=h;walk_at "rk";unfold allB at h;cases q:hasB a b.x b.y with
 | true=>rw [q] at h; simpa using h
 | false=>rw [q] at h; simpa using h
theorem Lk (T:Tx K mg):Qn P w K mg base CX0 1 T.EY T.FD ["box", "way", "at"] (lift K Zga):=by
 refine okD T.Fu.F GK (λ xs M Φ h=>by obtain ⟨_,_,_,rfl,_⟩:=Z0 h; rfl) λ cdv A outer s H E hr=>⟨_,(Ze (Zq 3 GK.nd (MB (Zw (QY hr) (Zb 1) Zc) (Zm (Za (Zb 2) (Za (Zf (Zf (Zb 0) Zc) Zc) Zd))) (Zm (Za (Zf (Zf (Zb 0) Zc) Zc) (Za (Zb 2) Zd)))))
 (Zg (Zl (Zm (Za (Zf (Zb 0) Zc) (Za (Zb 3) Zd)))))),λ xs M Φ h=>?_⟩
 replace h:=Z0 h;obtain ⟨x1,x2,x3,rfl,h⟩:=h;replace h:=ZM h;obtain ⟨b,rfl,h⟩:=h;replace h:=ZA h;obtain ⟨i,rfl,h⟩:=h;replace h:=ZA h;obtain ⟨a,rfl,h⟩:=h;unfold upB at h;walk_at "h";refine Zj (λ z=>?_) λ z=>?_
 ·rw [if_pos z] at h;subst_vars;walk_at "rk";exact h
 ·rw [if_neg z] at h;subst_vars;walk_at "rk";exact h
theorem Y6 (T:Tx K mg):Qn P w K mg base CX0 1 T.Vg T.Va ["box", "way", "at"] (lift K Zfy):=by
 refine okD T.J4.F JI (λ xs M Φ h=>by obtain ⟨_,_,_,rfl,_⟩:=Z0 h; rfl) λ cdv A outer s H E hr=>⟨_,(Ze (Zq 3 JI.nd (MB (Zw (QY hr) (Zb 1) Zc) (Zm (Za (Zb 2) (Za (Zf (Zf (Zb 0) Zc) Zc) Zd))) (Zm (Za (Zf (Zf (Zb 0) Zc) Zc) (Za (Zb 2) Zd)))))
 (Zg (Zl (Zm (Za (Zb 3) (Za (Zf (Zb 0) Zc) Zd)))))),λ xs M Φ h=>?_⟩
 replace h:=Z0 h;obtain ⟨x1,x2,x3,rfl,h⟩:=h;replace h:=ZM h;obtain ⟨b,rfl,h⟩:=h;replace h:=ZA h;obtain ⟨i,rfl,h⟩:=h;replace h:=ZA h;obtain ⟨a,rfl,h⟩:=h;unfold owB at h;walk_at "h";refine Zj (λ z=>?_) λ z=>?_
 ·rw [if_pos z] at h;subst_vars;walk_at "rk";exact h
 ·rw [if_neg z] at h;subst_vars;walk_at "rk";exact h
theorem J6 (T:Tx K mg):Qn P w K mg base CX0 3 T.VS T.VL ["shape", "box", "way"] (lift K Gz):=by
 refine okG T.Jl.F Q0 (λ xs M Φ h=>by obtain ⟨_,_,_,rfl,_⟩:=Z0 h; rfl) λ cdv A outer s H E hr=>⟨_,(Ze (Zq 3 Q0.nd (Qs Zd))
 (Ze (WH (Zb 0) (Zk 4 Q0.nd) (Zg (ZS (Zw (QY hr) (cO T.Qk (Qu T) hr (Za (Zb 4) (Za (Zb 1) Zd))) Zc) (Zg (Q1 (Kv (Zb 3) (Qs (Za (Zo Qz (Zf (Zf (Zb 4) Zc) (Zb 2)) Zc) (Za (Zf (Zf (Zb 4) Zc) (Zb 2)) Zd)))))) Zs)) PassesOwn.never rfl)
 (Zg (Zl (Wb rfl T.Kb rfl T.Zd9 (Za (Jd false (ZO (sc:=Zh QN) (XN:=["shape", "box", "way", "places", "other"]) (N:=["at", "way", "box"]) (ix:=[none,some 2,some 1]) rfl rfl (by walk_at "k")) (QS (Fc (Zb 3))) (λ C ex s H=>(Zk 0 (show List.Nodup (["at", "way", "box"]:List Str) by walk_at "k"))) (λ C ex s H=>(X3 (XU W7 Y4 (Zf (Zf (Zb 2) Zc) (Zb 1)) (Zb 0) (Zf (Zf (Zb 2) Zc) (Zb 1))))) (λ C ex s H=>(Zb 0)) rfl) Zd)))))),λ xs M Φ h=>?_⟩
 replace h:=Z0 h;obtain ⟨x1,x2,x3,rfl,h⟩:=h;replace h:=Z1 h;obtain ⟨bs,rfl,h⟩:=h;replace h:=ZM h;obtain ⟨b,rfl,h⟩:=h;replace h:=ZA h;obtain ⟨i,rfl,⟨hl,hi⟩,h⟩:=h;walk_at "h";intro q hq;walk_at "h";refine ⟨λ n U M'=>∃ k4,U = [some (.dat (.tuple (bs.map bD))),some (.dat (bD b)),some (.dat (.int i)),some (.own q),k4] /\ M' = ZD M q (.lst ((plB b i (bs.take n)).map PyData.int)),⟨none,rfl,rfl⟩,?_,?_⟩
 ·rintro n d U M' hd ⟨k4,rfl,rfl⟩;obtain ⟨c,ec,rfl⟩:=Z5 hd;have len:=Cj b i (bs.take n);rw [List.length_take] at len;have sn:=FZ (b:=b) (w:=i) ec;rw [Vj];walk_at "rk";refine Zj (λ z=>?_) λ z=>?_
  ·rw [if_pos z] at sn;simp only [Na hi,Nq hi];walk_at "rk";intro p hp;have hne:=fresh_ne hp;simp only [Zz (Ne.symm hne)];walk_at "rk";refine ⟨hne,by rw [List.length_map]; lia,_,rfl,?_⟩;rw [C9 hp,sn,List.map_append];rfl
  ·rw [if_neg z,List.append_nil] at sn;rw [<- sn];exact ⟨_,rfl,rfl⟩
 ·rintro U M' ⟨k4,rfl,rfl⟩;rw [List.length_map,List.take_length];subst_vars;walk_at "rk";have len:=Cj b i bs;rw [YW hq];refine ⟨by rw [List.length_map]; lia,λ n acc M'=>acc = (((plB b i bs).take n).filter λ z=>decide (loB b i <= z) && decide (z < hiB b i)).map PyData.int /\ M' = M,⟨rfl,rfl⟩,?_,?_⟩
  ·rintro n d acc M' hd ⟨rfl,rfl⟩;obtain ⟨z,ez,rfl⟩:=Z5 hd;have flt:=YR (λ z=>decide (loB b i <= z) && decide (z < hiB b i)) ez;rw [Na hi];walk_at "rk";refine Zj (λ z0=>?_) λ z0=>?_
   ·rw [Nq hi];walk_at "rk";refine Zj (λ z1=>?_) λ z1=>?_
    ·rw [flt,if_pos (by rw [decide_eq_true z0,decide_eq_true z1]; rfl),List.map_append];rfl
    ·rw [flt,if_neg (by rw [decide_eq_false z1,Bool.and_false]; exact Bool.false_ne_true),List.append_nil]
   ·rw [flt,if_neg (by rw [decide_eq_false z0,Bool.false_and]; exact Bool.false_ne_true),List.append_nil]
  ·rintro acc M' ⟨rfl,rfl⟩;rw [List.length_map,List.take_length];refine ⟨_,.inl rfl,Nat.lt_of_le_of_lt (List.length_filter_le _ _) (by lia),λ ks _ _ hk=>Zff (h ks (λ z hz=>?_) λ c hc h0 he=>?_)⟩
   ·obtain ⟨h1,h2⟩:=List.mem_filter.mp ((hk z).mp hz);simp only [Bool.and_eq_true,decide_eq_true_eq] at h2;exact ⟨h2,OY h1⟩
   ·have he:=FG.mp he;exact (hk _).mpr (List.mem_filter.mpr ⟨RS hc h0,by simp only [Bool.and_eq_true,decide_eq_true_eq]; exact he⟩)
theorem UI (T:Tx K mg) (n:Nat):Qn P w K mg base CX0 (6 + n) T.JE T.Jv ["shape", "box"] (lift K (Yy n)):=by
 refine Nat.rec (motive:=λ n=>Qn P w K mg base CX0 (6 + n) T.JE T.Jv ["shape", "box"] (lift K (Yy n))) ?_ (λ n G_cover_of=>?_) n
 ·exact ZbW Kx
 show Qn P w K mg base CX0 (6 + n + 1) T.JE T.Jv ["shape", "box"] (lift K (Yy (n + 1)))
 refine okD T.Jy.F ZX (λ xs M Φ h=>by obtain ⟨_,_,rfl,_⟩:=Zv h; rfl) λ cdv A outer s H E hr=>⟨_,(Ze (JW rfl T.Jm (Za (Zi Qa rfl T.QU Z8 (Za (Zb 0) Zd)) Zd) (Zk 2 ZX.nd) (Zg (ZS (Qj (cO T.Wg (BA T) hr (Za (Zf (Zb 0) (Zb 2)) (Za (Zb 1) Zd)))) (Zg (Zl (Zm (Za QP (Za (Zb 2) Zd))))) Zs)) PassesOwn.never rfl)
 (Ze (Zq 3 ZX.nd (cO T.Jl (J6 T) hr (Za (Zb 0) (Za (Zb 1) (Za Zc Zd)))))
 (Ze (Zq 4 ZX.nd (cO T.Jl (J6 T) hr (Za (Zb 0) (Za (Zb 1) (Za Zc Zd)))))
 (Ze (Zq 5 ZX.nd (MB (Zw Tn (Zi Qa rfl T.QU Z8 (Za (Zb 3) Zd)) (Zi Qa rfl T.QU Z8 (Za (Zb 4) Zd))) Zc Zc))
 (Ze (Zq 6 ZX.nd (MB (Zw (QY hr) (Zb 5) Zc) (Zb 3) (Zb 4)))
 (Ze (Zq 7 ZX.nd (Zf (Zb 6) (Zo Df (Zi Qa rfl T.QU Z8 (Za (Zb 6) Zd)) Zc)))
 (Ze (Zq 8 ZX.nd (cO T.Jy G_cover_of hr (Za (Zb 0) (Za (cO T.Fu (Lk T) hr (Za (Zb 1) (Za (Zb 5) (Za (Zb 7) Zd)))) Zd))))
 (Zg (Zl (Zm (Za QP (Za (Zb 5) (Za (Zb 7) (Za (Zb 8) (Za (cO T.Jy G_cover_of hr (Za (Zb 0) (Za (cO T.J4 (Y6 T) hr (Za (Zb 1) (Za (Zb 5) (Za (Zo Zy (Zb 7) Zc) Zd)))) Zd))) Zd))))))))))))))),λ xs M Φ h=>?_⟩
 replace h:=Zv h;obtain ⟨x1,x2,rfl,h⟩:=h;replace h:=Z1 h;obtain ⟨bs,rfl,h⟩:=h;replace h:=ZM h;obtain ⟨b,rfl,⟨⟨hl,hb,hc⟩,hn⟩,h⟩:=h;walk_at "h";rw [List.length_map];refine ⟨⟨by lia,by lia⟩,λ i U M'=>∃ k2,U = [some (.dat (.tuple (bs.map bD))),some (.dat (bD b)),k2,none,none,none,none,none,none] /\ M' = M /\ ∀ j c,j < i->bs[j]? = some c->allB c b = false,⟨none,rfl,rfl,λ j c hj=>absurd hj (Nat.not_lt_zero _)⟩,?_,?_⟩
 ·rintro i U M' hi ⟨k2,rfl,rfl,ha⟩;have hi:i < bs.length:=by lia
  obtain ⟨c,ec⟩:∃ c,bs[i]? = some c:=⟨_,List.getElem?_eq_getElem hi⟩
  rw [Vj];walk_at "rk";refine Q5 (d:=bD c) (Vm (by rw [List.getElem?_map,ec]; rfl)) ?_;walk_at "rk";cases q:allB c b with
  | true=>
   walk_at "rk";exact h (.box (i:Int)) (Eb ec q) (Nat.succ_le_succ (Nat.zero_le _))
  | false=>
   walk_at "rk";refine ⟨_,rfl,λ j c' hj ej=>?_⟩
   by_cases e:j = i
   ·rw [e,ec] at ej;cases ej;exact q
   ·exact ha j c' (by lia) ej
 ·rintro U M' ⟨k2,rfl,rfl,ha⟩;have no:∀ c ∈ bs,allB c b = false:=λ c mc=>by
   obtain ⟨j,hj,ej⟩:=List.mem_iff_getElem.mp mc;exact ha j c (by lia) (by rw [<- ej]; exact List.getElem?_eq_getElem hj)
  obtain ⟨c0,m0,a0,e0⟩:=SQ hb hc no;walk_at "h";refine ⟨⟨hl,.inl trivial⟩,λ k0 c0' x0=>?_⟩;walk_at "h";refine ⟨⟨hl,.inr trivial⟩,λ k1 c1' x1=>?_⟩;walk_at "h";rename_i R hR;rw [List.length_map,List.length_map]
  suffices rest:∀ (w:Int) (ks:List Int),(w = 0 /\ ks = k0) \/ (w = 1 /\ ks = k1)->ks ≠ []->R { nx:=λ _ M'=>Φ (.dat .none) M',rt:=Φ } [some (.dat (.tuple (bs.map bD))),some (.dat (bD b)),k2,some (.dat (.list (k0.map PyData.int))),some (.dat (.list (k1.map PyData.int))),some (.dat (.int w)),none,none,none] M' by
   have some0:k0 ≠ [] \/ k1 ≠ []:=e0.imp (λ e z=>by have:=x0 c0 m0 a0 e; rw [z] at this; cases this) λ e z=>by have:=x1 c0 m0 a0 e; rw [z] at this; cases this
   refine Zj (λ z=>rest 0 k0 (.inl ⟨rfl,rfl⟩) λ e=>?_) λ z=>rest 1 k1 (.inr ⟨rfl,rfl⟩) λ e=>?_
   ·rcases some0 with y | y
    ·exact y e
    ·have:=List.length_pos_iff.mpr y;rw [e] at z;simp only [List.length_nil] at z;lia
   ·rw [e] at z;simp only [List.length_nil] at z;lia
  intro w ks hw hne;have hw':w = 0 \/ w = 1:=hw.imp (·.1) (·.1);have hks:∀ z ∈ ks,Sr bs b w z:=by rcases hw with ⟨rfl,rfl⟩ | ⟨rfl,rfl⟩ <;> assumption
  have hpos:=List.length_pos_iff.mpr hne;have hm:ks.length / 2 < ks.length:=by lia
  have ck:=hks _ (List.getElem_mem hm);have idx:L2.atI (ks.map PyData.int) ((ks.length:Int) / 2) = some (.int (ks[ks.length / 2]'hm)):=by
   rw [show (ks.length:Int) / 2 = ((ks.length / 2:Nat):Int) by lia];exact Vm (by rw [List.getElem?_map,List.getElem?_eq_getElem hm]; rfl)
  generalize ks[ks.length / 2]'hm = a at *;obtain ⟨⟨ck1,ck2⟩,cd,mcd,ecd⟩:=ck;have ok2:=NW hb hw' ck1 ck2;have cv2:=hc.sub hw' ck1 ck2;have ms:=SV (bs:=dbl bs) hw' ck1 ck2 mcd ecd;clear ecd;subst hR;walk_at "hd";rename_i R hR
  suffices rest:R { nx:=λ _ M'=>Φ (.dat .none) M',rt:=Φ } [some (.dat (.tuple (bs.map bD))),some (.dat (bD b)),k2,some (.dat (.list (k0.map PyData.int))),some (.dat (.list (k1.map PyData.int))),some (.dat (.int w)),some (.dat (.list (ks.map PyData.int))),none,none] M' by
   rcases hw with ⟨rfl,rfl⟩ | ⟨rfl,rfl⟩
   ·walk_at "rk";exact rest
   ·walk_at "rk";exact rest
  subst hR;walk_at "h";rw [List.length_map];refine ⟨by unfold ZeQ; decide,Q5 idx ?_⟩;walk_at "h";refine ⟨⟨⟨hl,ok2.1,cv2.1⟩,by lia⟩,λ c1 h1 d1=>?_⟩;subst_vars;walk_at "rk";refine ⟨⟨⟨hl,ok2.2,cv2.2⟩,by lia⟩,λ c2 h2 d2=>?_⟩;exact h (.cut w a c1 c2) (DF hw' ck1 ck2 h1 h2) (by rw [WO]; lia)
theorem Bw (T:Tx K mg):Qn P w K mg base CX0 32 T.Wy T.WB ["shape", "box"] (lift K Wx):=by
 refine okD T.K7.F Xu (λ xs M Φ h=>by obtain ⟨_,_,rfl,_⟩:=Zv h; rfl) λ cdv A outer s H E hr=>⟨_,(Ze (Zq 2 Xu.nd (cO T.YK (KR T) hr (Za (Zb 1) (Za (Zb 0) Zd))))
 (Ze (ZS (NL (Zb 2)) (Zg (Zl (Zm (Za QP (Za (Zi (CY hr rfl) rfl T.Yi Je (Za (Jd false (ZO (sc:=Zh JV) (XN:=["shape", "box", "lacking"]) (N:=["piece"]) (ix:=[none]) rfl rfl (by walk_at "k")) (QS (Zb 2)) (λ C ex s H=>(Zk 0 (show List.Nodup (["piece"]:List Str) by walk_at "k"))) (λ C ex s H=>Q2) (λ C ex s H=>(Zf (Zb 0) Zc)) rfl) Zd)) Zd))))) Zs)
 (Zg (Zl (Zm (Za QP (Za (cO T.Jy (UI T 25) hr (Za (Zb 0) (Za (Zb 1) Zd))) Zd))))))),λ xs M Φ h=>?_⟩
 replace h:=Zv h;obtain ⟨x1,x2,rfl,h⟩:=h;replace h:=Z1 h;obtain ⟨bs,rfl,h⟩:=h;replace h:=ZM h;obtain ⟨b,rfl,⟨hs,hb⟩,h1,h2⟩:=h;walk_at "h";refine ⟨hs.2.1,?_⟩;have len:=Wo b bs hs.2.1;walk_at "h";refine Y3 (λ z=>?_) λ z=>?_
 ·refine ⟨by rw [List.length_map]; lia,λ i acc M'=>acc = (((QV b bs).take i).map λ p=>(p.x,p.y)).map prD /\ M' = M,⟨rfl,rfl⟩,?_,?_⟩
  ·rintro i d acc M' hd ⟨rfl,rfl⟩;obtain ⟨p,ep,rfl⟩:=Z5 hd;walk_at "rk";rw [<- take_snoc _ ep,List.map_append];rfl
  ·rintro acc M' ⟨rfl,rfl⟩;rw [List.length_map,List.take_length];refine ⟨_,rfl,?_,λ q hq lq=>h2 q.1 q.2 (F3 hb hs.2.2 q hq lq)⟩;rw [List.length_map];cases e:QV b bs with
   | nil=>rw [e] at z; exact absurd z (by decide)
   | cons x xs=>exact Nat.succ_pos _
 ·have e:QV b bs = []:=by
   cases e:QV b bs with
   | nil=>rfl
   | cons x xs=>rw [e] at z; exact absurd rfl z
  have cv:=MA hb hs.2.2 e;have cn:=Zcd (dbl bs) b;have dl:(dbl bs).length = bs.length + bs.length:=by
   unfold dbl;rw [List.length_append,List.length_map]
  have hs6:=hs.2.1;subst_vars;walk_at "rk";exact ⟨⟨⟨hs.2.1,hb,cv⟩,by lia⟩,h1 cv⟩
theorem J0 (T:Tx K mg):Qn P w K mg base CX0 33 T.UM T.UY ["one", "other"] (lift K G6):=by
 refine okD T.J7.F Yw (λ xs M Φ h=>by obtain ⟨_,_,rfl,_⟩:=Zv h; rfl) λ cdv A outer s H E hr=>⟨_,(Ze (WI 2 false Yw.nd (ZO (sc:=Zh Ju) (XN:=["one", "other", "answers", "lacking"]) (N:=["box", "other"]) (ix:=[none,some 1]) rfl rfl (by walk_at "k")) (Zcg (Zb 0)) (λ C ex s H=>(Zk 0 (show List.Nodup (["box", "other"]:List Str) by walk_at "k"))) (λ C ex s H=>Q2) (λ C ex s H=>(cO T.K7 (Bw T) hr (Za (Zb 1) (Za (Zb 0) Zd)))) rfl)
 (Ze (WI 3 false Yw.nd (ZO (sc:=Zh Ju) (XN:=["one", "other", "answers", "lacking"]) (N:=["answer"]) (ix:=[none]) rfl rfl (by walk_at "k")) (QS (Zb 2)) (λ C ex s H=>(Zk 0 (show List.Nodup (["answer"]:List Str) by walk_at "k"))) (λ C ex s H=>(X3 (Zw (QY hr) (Zf (Zb 0) Zc) QP))) (λ C ex s H=>(Zf (Zb 0) Zc)) rfl)
 (Ze (ZS (NL (Zb 3)) (Zg (Zl (Zm (Za QP (Za (Zi (CY hr rfl) rfl T.Yi Je (Za (Zb 3) Zd)) Zd))))) Zs)
 (Zg (Zl (Se (Za QP (Za (Jd true (ZO (sc:=Zh Ju) (XN:=["one", "other", "answers", "lacking"]) (N:=["answer"]) (ix:=[none]) rfl rfl (by walk_at "k")) (QS (Zb 2)) (λ C ex s H=>(Zk 0 (show List.Nodup (["answer"]:List Str) by walk_at "k"))) (λ C ex s H=>Q2) (λ C ex s H=>(Zf (Zb 0) Zc)) rfl) Zd)))))))),λ xs M Φ h=>?_⟩
 replace h:=Zv h;obtain ⟨x1,x2,rfl,h⟩:=h;replace h:=Z1 h;obtain ⟨b1,rfl,h⟩:=h;replace h:=Z1 h;obtain ⟨b2,rfl,⟨s1,s2⟩,hy,hn⟩:=h;walk_at "h";have l6:=s1.2.1;refine ⟨by rw [List.length_map]; lia,λ i acc M'=>(∃ as,BL b2 (b1.take i) as /\ acc = as.map awD) /\ M' = M,⟨⟨[],⟨by simp,λ i b c hb=>by simp at hb⟩,rfl⟩,rfl⟩,?_,?_⟩
 ·rintro i d acc M' hd ⟨⟨as,has,rfl⟩,rfl⟩;obtain ⟨b,eb,rfl⟩:=Z5 hd;have mb:=List.mem_of_getElem? eb;walk_at "rk";refine ⟨⟨s2,s1.2.2 b mb⟩,λ hc c h1 h2=>⟨as ++ [.inl c],?_,by rw [List.map_append]; rfl⟩,λ u v hl=>⟨as ++ [.inr (u,v)],?_,by rw [List.map_append]; rfl⟩⟩
  ·rw [List.take_succ,eb];exact has.snoc ⟨hc,h1,h2⟩
  ·rw [List.take_succ,eb];exact has.snoc hl
 rintro acc M' ⟨⟨as,has,rfl⟩,rfl⟩;rw [List.length_map,List.take_length] at has;have hl:=has.1;walk_at "h";refine ⟨by rw [List.length_map]; lia,λ i acc M2=>acc = (lkA (as.take i)).map prD /\ M2 = M',⟨rfl,rfl⟩,?_,?_⟩
 ·rintro i d acc M2 hd ⟨rfl,rfl⟩;obtain ⟨a,ea,rfl⟩:=Z5 hd;cases a with
  | inl c=>
   unfold awD ZeB;walk_at "rk";rw [if_neg (by walk_at "k"),FR ea,show lkA [Sum.inl c] = [] from rfl,List.append_nil]
  | inr p=>
   unfold awD noD;walk_at "rk";rw [FR ea,show lkA [Sum.inr p] = [p] from rfl,List.map_append];rfl
 rintro acc M2 ⟨rfl,rfl⟩;rw [List.length_map,List.take_length];walk_at "h";refine Y3 (λ z=>?_) λ z=>?_
 ·refine ⟨_,rfl,?_,λ q hq lq=>hn q.1 q.2 (ZbB has hq lq)⟩;cases e:lkA as with
  | nil=>rw [e] at z; exact absurd z (by decide)
  | cons x xs=>exact Nat.succ_pos _
 ·have e:lkA as = []:=by
   cases e:lkA as with
   | nil=>rfl
   | cons x xs=>rw [e] at z; exact absurd rfl z
  obtain ⟨cs,rfl⟩:=D7 e;obtain ⟨hc,hcs⟩:=Px has;have hl2:=hcs.1;subst_vars;walk_at "rk";refine ⟨by rw [List.length_map,List.length_map]; lia,λ i acc M'=>acc = (cs.take i).map cvD /\ M' = M2,⟨rfl,rfl⟩,?_,?_⟩
  ·rintro i d acc M' hd ⟨rfl,rfl⟩;rw [List.map_map] at hd;obtain ⟨c,ec,rfl⟩:=Z5 hd;show _;unfold Function.comp awD ZeB;walk_at "rk";rw [<- take_snoc _ ec]
  ·rintro acc M' ⟨rfl,rfl⟩;rw [List.length_map,List.length_map,List.take_length];intro q hq;exact ⟨rfl,hy hc cs hcs q hq⟩
theorem XF (T:Tx K mg):Qn P w K mg base CX0 34 T.CJ T.CV ["one", "other"] (lift K ER):=by
 refine okD T.X8.F Hb (λ xs M Φ h=>by obtain ⟨_,_,rfl,_⟩:=Zv h; rfl) λ cdv A outer s H E hr=>⟨_,(Zg (Zl (XA (JH (QY hr) (Ku (cO T.J7 (J0 T) hr (Za (Zb 0) (Za (Zb 1) Zd))) Zc) QP) (YC (JH (QY hr) (Ku (cO T.J7 (J0 T) hr (Za (Zb 1) (Za (Zb 0) Zd))) Zc) QP))))),λ xs M Φ h=>?_⟩;replace h:=Zv h;obtain ⟨x1,x2,rfl,h⟩:=h;replace h:=Z1 h;obtain ⟨b1,rfl,h⟩:=h;replace h:=Z1 h;obtain ⟨b2,rfl,⟨s1,s2⟩,h⟩:=h;have new:∀ (M1:Mp) (q:Addr) (o:OO),(∀ a o,M a = some o->M1 a = some o)->M1 q = none->∀ a o',M a = some o'->ZD M1 q o a = some o':=λ M1 q o hk hq a o' e=>by
  have e1:=hk a o' e;rw [Zz λ z=>by rw [z,hq] at e1; cases e1];exact e1
 walk_at "rk";refine ⟨⟨s1,s2⟩,λ hc cs hcs q hq=>⟨_,rfl,?_⟩,λ u v hl=>?_⟩
 ·walk_at "rk";refine ⟨⟨s2,s1⟩,λ hc2 cs2 hcs2 q2 hq2=>⟨_,rfl,?_⟩,λ u v hl=>?_⟩
  ·walk_at "rk";exact h _ _ ⟨λ _=>T5 (Y2 hc) (Y2 hc2),λ _=>rfl⟩ (new _ _ _ (new _ _ _ (λ _ _ e=>e) hq) hq2)
  ·unfold noD;walk_at "rk";refine ⟨_,rfl,?_⟩;walk_at "rk";exact h _ _ ⟨λ z=>absurd z (by walk_at "k"),λ z=>(hl.PJ λ u v k=>by rw [z]; exact k).elim⟩ (new _ _ _ (λ _ _ e=>e) hq)
 ·unfold noD;walk_at "rk";refine ⟨_,rfl,?_⟩;walk_at "rk";rw [if_neg (by walk_at "k")];exact h _ _ ⟨λ z=>absurd z (by decide),λ z=>(hl.PJ λ u v k=>by rw [<- z]; exact k).elim⟩ λ _ _ e=>e
theorem Zcu (T:Tx K mg):Qn P w K mg base CX0 1 T.Zcy T.TZ ["_law_script", "_law_k"] (lift K NA):=by
 refine okD T.ZaJ.F CH (λ xs M Φ h=>by obtain ⟨_,_,rfl,_⟩:=Zv h; rfl) λ cdv A outer s H E hr=>⟨_,(Ze (Zq 2 CH.nd Zc)
 (Ze (ZS (Zw Ds (Zi Qa rfl T.QU Z8 (Za (Zb 0) Zd)) Zc) (Zg (Zq 2 CH.nd (Zf (Zb 0) (Zo Vf (Zb 1) (Zi Qa rfl T.QU Z8 (Za (Zb 0) Zd)))))) Zs)
 (Ze (ZS (DW.dt (K0 (Zw Y4 (Zb 1) (Zi Qa rfl T.QU Z8 (Za (Zb 0) Zd))) (XW (Zw Tn (Zi NF rfl T.Zb6 NP (Za (Zb 2) Zd)) (Zo Gg Zc Zc))))) (Zg (Zl (Qs (Za (Zi NF rfl T.Zb6 NP (Za (Zb 2) Zd)) (Za Zc (Za Zc Zd)))))) Zs)
 (Zg (Zl (Qs (Za Zc (Za (Zo Vf (Zo Zy (Zo Zy (Zo Vf (Zb 2) Zc) (Zo Q7 Zc (Zb 1))) Zc) Zc) (Za Zc Zd))))))))),λ xs M Φ h=>?_⟩
 replace h:=Zv h;obtain ⟨x1,x2,rfl,h⟩:=h;replace h:=P6 h;obtain ⟨ns,rfl,h⟩:=h;replace h:=ZA h;obtain ⟨k,rfl,h0,h⟩:=h;have fin:∀ c:Int,(0:Int) < 2147483587 /\ Oy 40709 k /\ (0:Int) < 2147483587 /\ ∀ p,M p = none->Φ (.own p) (ZD M p (.lst [.int 0,.int ((c % 2147483587 + 40709 * k + 31) % 2147483587),.int 0])):=
  λ c=>⟨by decide,.inl (by decide),by decide,λ p hp=>h p _ hp ⟨0,_,0,Int.le_refl 0,BC _ (by decide),Int.le_refl 0,rfl⟩⟩
 walk_at "h";walk_at "h";rw [List.length_map];refine Zj (λ hl=>?_) (λ hl=>?_)
 ·have hm:=BC k hl;obtain ⟨c,hc⟩:=P5 (ns:=ns) hm.1 hm.2;refine ⟨hl,Q5 hc ?_⟩;walk_at "h";rw [List.length_map];refine Zj (λ h2=>⟨Zc2 _ (by decide),Zj (λ h3=>λ p hp=>h p _ hp ⟨_,0,0,?_,⟨by decide,by decide⟩,Int.le_refl 0,rfl⟩) λ h3=>?_⟩) λ h2=>?_
  ·split <;> lia
  ·subst_vars;walk_at "rk";exact ⟨(fin c).2.1,(fin c).2.2.2⟩
  ·subst_vars;walk_at "rk";exact ⟨(fin c).2.1,(fin c).2.2.2⟩
 ·walk_at "h";rw [List.length_map];refine Zj (λ h2=>absurd h2 (by lia)) λ h2=>?_;subst_vars;walk_at "rk";exact ⟨(fin 5).2.1,(fin 5).2.2.2⟩
theorem ZR (T:Tx K mg):Qn P w K mg base CX0 1 T.Nd T.NO ["_law_pen_here", "_law_many"] (lift K Nk):=by
 refine okD T.Qf.F YM (λ xs M Φ h=>by obtain ⟨_,_,rfl,_⟩:=Zv h; rfl) λ cdv A outer s H E hr=>⟨_,(Ze (ZS (Zw Ds (Zf (Zb 0) Zc) Zc) (Ze (Zq 3 YM.nd (Zo Vf (Zf (Zb 0) Zc) (Zb 1)))
 (Ze (Jh (Zo HR (Zf (Zb 0) Zc) (Zb 1)) (Oa (Zb 0) Zc))
 (Zg (Zl (Zb 3))))) Zs)
 (Ze (Jh (Zo Zy (Zf (Zb 0) Zc) Zc) (Oa (Zb 0) Zc))
 (Ze (Zq 2 YM.nd (Zo Vf (Zo Zy (Zo Zy (Zo Q7 (Zf (Zb 0) Zc) Zc) (Zo Q7 (Zf (Zb 0) Zc) Zc)) Zc) Zc))
 (Ze (Zq 2 YM.nd (Zo Vf (Zo Zy (Zo Q7 (Zb 2) (Zb 2)) (Zf (Zb 0) Zc)) Zc))
 (Ze (Zq 2 YM.nd (Zo Vf (Zo Q7 (Zb 2) (Zo Zy (Zo Vf (Zb 2) Zc) Zc)) Zc))
 (Zg (Zl (Zo Vf (Zo Df (Zb 2) Zc) (Zb 1))))))))),λ xs M Φ h=>?_⟩
 replace h:=Zv h;obtain ⟨x1,x2,rfl,h⟩:=h;replace h:=Z9 h;obtain ⟨p,rfl,h⟩:=h;replace h:=ZA h;obtain ⟨m,rfl,⟨h0,h1⟩,hp,h⟩:=h;obtain ⟨a,b,c,⟨ha,hb,hc⟩,hp⟩:=hp.get;have lg:m.natAbs.log2 < 9000:=Nat.lt_of_lt_of_le (GD (k:=70) (by lia) (by decide)) (by decide);walk_at "h";simp only [hp];walk_at "rk";refine Zj (λ h2=>?_) λ h2=>?_
 ·exact ⟨h0,⟨h0,lg⟩,h _ _ (BC a h0).1 (BC a h0).2 (Fr.ZD ⟨a / m,b,c,Int.ediv_nonneg ha (by lia),hb,hc,rfl⟩)⟩
 ·walk_at "h";simp only [hp];walk_at "rk";walk_at "h";refine ⟨.inr (by decide),.inr (by decide),?_⟩;walk_at "h";refine ⟨.inl (by lia),?_⟩;walk_at "h";refine ⟨.inl (by lia),?_⟩;subst_vars;walk_at "rk";refine ⟨⟨by decide,by decide⟩,h0,?_⟩;exact h _ _ (BC _ h0).1 (BC _ h0).2 (Fr.ZD ⟨a,b,c + 1,ha,hb,by lia,rfl⟩)
theorem Ss (T:Tx K mg):Qn P w K mg base CX0 2 T.NN T.Nh ["_law_pen_here"] (lift K CG):=by
 refine okD T.Ng.F Yo (λ xs M Φ h=>by obtain ⟨_,rfl,_⟩:=ZZ h; rfl) λ cdv A outer s H E hr=>⟨_,(Ze (Zq 1 Yo.nd (Qe (Za (cO T.Qf (ZR T) hr (Za (Zb 0) (Za Zc Zd))) (Za (cO T.Qf (ZR T) hr (Za (Zb 0) (Za Zc Zd))) Zd))))
 (Ze (G7 2 false Yo.nd (ZO (sc:=Zh Ga) (XN:=["_law_pen_here", "_law_low", "_law_high", "_law_thick", "_law_found"]) (N:=["_law_one", "_law_pen_here"]) (ix:=[none,some 0]) rfl rfl (by walk_at "k")) (QS (Zb 1)) (λ C ex s H=>(Zk 0 (show List.Nodup (["_law_one", "_law_pen_here"]:List Str) by walk_at "k"))) (λ C ex s H=>Q2) (λ C ex s H=>(Zo Zy (Zo Zy (Zb 0) Zc) (cO T.Qf (ZR T) hr (Za (Zb 1) (Za Zc Zd))))) rfl)
 (Ze (Zq 3 Yo.nd (cO T.Qf (ZR T) hr (Za (Zb 0) (Za Zc Zd))))
 (Ze (Zq 4 Yo.nd (Qs (Za (Zm (Za (Zm (Za (Zf (Zb 1) Zc) (Za (Zf (Zb 1) Zc) Zd))) (Za (Zm (Za (Zf (Zb 2) Zc) (Za (Zo Zy (Zf (Zb 1) Zc) (Zb 3)) Zd))) Zd))) (Za (Zm (Za (Zm (Za (Zo Qz (Zf (Zb 2) Zc) (Zb 3)) (Za (Zf (Zb 1) Zc) Zd))) (Za (Zm (Za (Zf (Zb 2) Zc) (Za (Zf (Zb 2) Zc) Zd))) Zd))) Zd))))
 (Ze (Q1 (QX (Zb 4) (Zm (Za (Zm (Za (Zf (Zb 1) Zc) (Za (Zo Qz (Zf (Zb 2) Zc) (Zb 3)) Zd))) (Za (Zm (Za (Zf (Zb 2) Zc) (Za (Zf (Zb 2) Zc) Zd))) Zd)))))
 (Zg (Zl (Zo VE (Zb 4) (Qe (Za (Zm (Za (Zm (Za (Zf (Zb 1) Zc) (Za (Zf (Zb 1) Zc) Zd))) (Za (Zm (Za (Zo Zy (Zf (Zb 1) Zc) (Zb 3)) (Za (Zf (Zb 2) Zc) Zd))) Zd))) Zd)))))))))),λ xs M Φ h=>?_⟩
 replace h:=ZZ h;obtain ⟨x1,rfl,h⟩:=h;replace h:=Z9 h;obtain ⟨p,rfl,hp,h⟩:=h;walk_at "h";refine ⟨hp,λ r1 M1 a1 b1 f1=>⟨f1.1,λ r2 M2 a2 b2 f2=>?_⟩⟩;walk_at "h";refine ⟨f2.1,λ s1 M3 c1 d1 f3=>⟨f3.1,λ s2 M4 c2 d2 f4=>?_⟩⟩;walk_at "h";refine ⟨f4.1,λ th M5 t0 t1 f5=>?_⟩;walk_at "h";intro q hq;walk_at "h";subst_vars;walk_at "rk";refine h [⟨r1,r2,r1 + 3 + s1,r2 + th⟩,⟨r1 + 3 + s1 - th,r2,r1 + 3 + s1,r2 + 3 + s2⟩,⟨r1,r2 + 3 + s2 - th,r1 + 3 + s1,r2 + 3 + s2⟩,⟨r1,r2,r1 + th,r2 + 3 + s2⟩] _ ⟨by simp,by simp,ZfD λ b hb=>?_⟩ (f5.1.put (f5.1.ne hq));simp only [List.mem_cons,List.not_mem_nil,or_false] at hb
 rcases hb with rfl | rfl | rfl | rfl
 all_goals (dsimp only; lia)
theorem CF (T:Tx K mg):Qn P w K mg base CX0 2 T.Zbu T.ZcT ["_law_pen_here", "_law_box_here"] (lift K ZcI):=by
 refine okD T.LO.F Xi (λ xs M Φ h=>by obtain ⟨_,_,rfl,_⟩:=Zv h; rfl) λ cdv A outer s H E hr=>⟨_,(Ze (Zq 2 Xi.nd (Qs Zd))
 (Ze (Zq 3 Xi.nd (Qs Zd))
 (Ze (JW rfl T.Jm (Za Zc Zd) (Zk 4 Xi.nd) (Ze (Zq 5 Xi.nd (Zi (Vs rfl) rfl T.Wj VT (Za Zc (Za (Zo Qz (Zf (Zf (Zb 1) Zc) (Zb 4)) Zc) Zd))))
 (Ze (Zq 6 Xi.nd (Zo Zy (Zb 5) (cO T.Qf (ZR T) hr (Za (Zb 0) (Za (Zo Zy (Zo Qz (Zi (JQ rfl) rfl T.Yi Je (Za Zc (Za (Zo Zy (Zf (Zf (Zb 1) Zc) (Zb 4)) Zc) Zd))) (Zb 5)) Zc) Zd)))))
 (Ze (Q1 (QX (Zb 2) (Zi (Vs rfl) rfl T.Wj VT (Za Zc (Za (Zo Qz (Zb 6) (Zf (Qe (Za Zc (Za Zc (Za Zc (Za Zc (Za Zc Zd)))))) (cO T.Qf (ZR T) hr (Za (Zb 0) (Za Zc Zd))))) Zd)))))
 (Zg (Q1 (QX (Zb 3) (Zi (JQ rfl) rfl T.Yi Je (Za Zc (Za (Zo Zy (Zb 6) (Zf (Qe (Za Zc (Za Zc (Za Zc (Za Zc (Za Zc Zd)))))) (cO T.Qf (ZR T) hr (Za (Zb 0) (Za Zc Zd))))) Zd))))))))) PassesOwn.never rfl)
 (Zg (Zl (Zm (Za (Vc Vw rfl T.VH Jx (Za (Zb 2) Zd)) (Za (Vc Vw rfl T.VH Jx (Za (Zb 3) Zd)) Zd)))))))),λ xs M Φ h=>?_⟩
 replace h:=Zv h;obtain ⟨x1,x2,rfl,h⟩:=h;replace h:=Z9 h;obtain ⟨p,rfl,h⟩:=h;replace h:=ZM h;obtain ⟨b,rfl,hb,hp,h⟩:=h;have ok:=ZJ.mp hb.1;have hb2:=hb.2;walk_at "h";intro q1 hq1;walk_at "h";intro q2 hq2;have n1:q1 ≠ p:=Ne.symm (hp.ne hq1);have n12:q2 ≠ q1:=fresh_ne hq2;have hq2':M q2 = none:=(Zz n12).symm.trans hq2;have n2:q2 ≠ p:=Ne.symm (hp.ne hq2');walk_at "h"
 refine ⟨⟨by decide,by decide⟩,λ j U M2=>∃ (k4 k5 k6:Option DV) (bs es:List Int),U = [some (.own p),some (.dat (bD b)),some (.own q1),some (.own q2),k4,k5,k6] /\ bs.length = j /\ es.length = j /\
  (∀ (i:Nat) (a b:Int),bs[i]? = some a->es[i]? = some b->0 <= a /\ a <= b /\ b <= 11) /\ M2 q1 = some (.lst (bs.map PyData.int)) /\ M2 q2 = some (.lst (es.map PyData.int)) /\ Fr p M M2,
  ⟨none,none,none,[],[],rfl,rfl,rfl,λ i a b ha=>(nomatch ha),by rw [Zz (Ne.symm n12),Zu]; rfl,Zu,Fr.new (Fr.new (Fr.refl hp) hq1 n1) hq2' n2⟩,?_,?_⟩
 ·rintro j U M2 hj ⟨k4,k5,k6,bs,es,rfl,l1,l2,hbs,h1,h2,hF⟩;obtain ⟨lo,hi,hlo,e1,e2⟩:=Zgq (x:=b.x) (y:=b.y) (X:=b.X) (Y:=b.Y) hj;have hlo':0 <= lo /\ lo <= hi /\ hi <= 11:=by
   rcases hlo with ⟨rfl,rfl⟩ | ⟨rfl,rfl⟩ <;> omega
  walk_at "h";simp only [e1];walk_at "rk";walk_at "h";simp only [e2];walk_at "rk";refine ⟨by omega,hF.1,λ r M3 r0 r1 f3=>?_⟩;have g1:=f3.own h1 n1;have g2:=f3.own h2 n2;walk_at "h";simp only [g1];walk_at "rk";refine ⟨f3.1,λ r2 M4 a2 b2 f4=>tab (l:=[0,0,1,2,5]) (λ w=>0 <= w) a2 (by simp only [List.length_cons,List.length_nil]; omega) (by decide) λ w1 c1=>?_⟩;have g3:=f4.own g1 n1;have g4:=f4.own g2 n2;walk_at "rk";simp only [g3];walk_at "rk";refine ⟨by rw [List.length_map]; omega,?_⟩;subst_vars;walk_at "rk";simp only [Zz n12,g4];walk_at "rk";refine ⟨f4.1.put (Ne.symm n1),λ r3 M5 a3 b3 f5=>tab (l:=[0,1,2,3,6]) (λ w=>0 <= w) a3 (by simp only [List.length_cons,List.length_nil]; omega) (by decide) λ w2 c2=>?_⟩;have g5:=f5.own Zu n1;have g6:=f5.own ((Zz n12).trans g4) n2;walk_at "rk";simp only [g6];walk_at "rk";refine ⟨by rw [List.length_map]; omega,_,_,_,bs ++ [max 0 ((max 0 (lo - 1) + r) - w1)],es ++ [min 11 ((max 0 (lo - 1) + r) + w2)],rfl,by rw [List.length_append]; rfl,by rw [List.length_append,l2]; rfl,?_,?_,?_,?_⟩
  ·exact Lc (R:=λ a b=>0 <= a /\ a <= b /\ b <= 11) l2.symm hbs (by omega)
  ·rw [Zz (Ne.symm n12),g5,List.map_append];rfl
  ·rw [List.map_append];rfl
  ·exact Fr.new ((Fr.new ((hF.trans f3).trans f4) hq1 n1).trans f5) hq2' n2
 ·rintro U M2 ⟨k4,k5,k6,bs,es,rfl,l1,l2,hbs,h1,h2,hF⟩;subst_vars;walk_at "rk";obtain ⟨a,b,rfl⟩:=Er l1;obtain ⟨c,d,rfl⟩:=Er l2;have k0:=hbs 0 a c rfl rfl;have k1:=hbs 1 b d rfl rfl;simp only [h1,h2];walk_at "rk";exact h ⟨a,b,c,d⟩ M2 ⟨ZJ.mpr (by dsimp only; omega),by dsimp only; omega⟩ hF
theorem XQ (T:Tx K mg):Qn P w K mg base CX0 3 T.DP T.EU ["_law_pen_here"] (lift K CG):=by
 refine okD T.XD.F JB (λ xs M Φ h=>by obtain ⟨_,rfl,_⟩:=ZZ h; rfl) λ cdv A outer s H E hr=>⟨_,(Ze (Zq 1 JB.nd (cO T.Qf (ZR T) hr (Za (Zb 0) (Za Zc Zd))))
 (Ze (ZS (Zw (QY hr) (Zb 1) Zc) (Zg (Zl (cO T.Ng (Ss T) hr (Za (Zb 0) Zd)))) Zs)
 (Ze (Zq 2 JB.nd (Qs (Za (cO T.LO (CF T) hr (Za (Zb 0) (Za (Zm (Za (Zm (Za Zc (Za Zc Zd))) (Za (Zm (Za Zc (Za Zc Zd))) Zd))) Zd))) Zd)))
 (Ze (ZS (Zw (QY hr) (Zb 1) Zc) (Ze (Jh (Zf (Zb 2) Zc) (QO (n:=2) rfl (Zr (Zk 4 JB.nd) (Zr (Zk 5 JB.nd) Z6))))
 (Zg (Zl (Zo VE (Zb 2) (Qe (Za (Zm (Za (Zm (Za (Zi (JQ rfl) rfl T.Yi Je (Za Zc (Za (Zo Zy (Zf (Zb 5) Zc) Zc) Zd))) (Za (Zf (Zb 4) Zc) Zd))) (Za (Zm (Za (Zi (JQ rfl) rfl T.Yi Je (Za Zc (Za (Zo Zy (Zo Zy (Zf (Zb 5) Zc) Zc) (cO T.Qf (ZR T) hr (Za (Zb 0) (Za Zc Zd)))) Zd))) (Za (Zf (Zb 5) Zc) Zd))) Zd))) Zd)))))) Zs)
 (Ze (JW rfl T.Jm (Za (Zf (Qe (Za Zc (Za Zc (Za Zc (Za Zc (Za Zc (Za Zc Zd))))))) (cO T.Qf (ZR T) hr (Za (Zb 0) (Za Zc Zd)))) Zd) (Zk 3 JB.nd) (Zg (Q1 (QX (Zb 2) (cO T.LO (CF T) hr (Za (Zb 0) (Za (Zf (Zb 2) (Cf Zc)) Zd)))))) PassesOwn.never rfl)
 (Zg (Zl (Fc (Zb 2))))))))),λ xs M Φ h=>?_⟩
 replace h:=ZZ h;obtain ⟨x1,rfl,h⟩:=h;replace h:=Z9 h;obtain ⟨p,rfl,hp,h⟩:=h;walk_at "h";refine ⟨hp,λ r1 M1 a1 b1 f1=>?_⟩;walk_at "h";refine Zj (λ h0=>⟨f1.1,h⟩) λ h0=>?_;walk_at "h";refine ⟨⟨rfl,by decide,by decide⟩,f1.1,λ b M2 hb f2 q hq=>?_⟩;have n1:p ≠ q:=f2.1.ne hq;walk_at "h";have ok:=ZJ.mp hb.1;have hb2:=hb.2;refine Zj (λ h1=>?_) λ h1=>?_
 ·refine ⟨f2.1.put n1,λ r2 M3 a2 b2 f3=>?_⟩;simp only [f3.own Zu (Ne.symm n1)];walk_at "rk";refine h [b,⟨min 11 (b.X + 1),b.y,min 11 (b.X + 1 + r2),b.Y⟩] M3 ⟨by simp,by simp,ZfD λ c hc=>?_⟩ f3.1;simp only [List.mem_cons,List.not_mem_nil,or_false] at hc
  rcases hc with rfl | rfl
  ·exact ⟨ok.1,ok.2,hb2⟩
  ·dsimp only;lia
 ·walk_at "h";refine ⟨f2.1.put n1,λ r2 M3 a2 b2 f3=>tab (l:=[0,1,1,2,2,5]) (λ w=>0 <= w /\ w <= 5) a2 (by simp only [List.length_cons,List.length_nil]; lia) (by decide) λ m hm=>?_⟩;walk_at "rk"
  refine ⟨⟨by lia,by lia⟩,λ i U M'=>∃ (cs:List B4) (b:B4) (k3 k4 k5:Option DV),U = [some (.own p),some (.dat (.int r1)),some (.own q),k3,k4,k5] /\ cs.length = i /\ (∀ c ∈ cs ++ [b],Cel c) /\ M' q = some (.lst (cs.map bD ++ [bD b])) /\ Pen M' p,
    ⟨[],b,_,_,_,rfl,rfl,λ c hc=>by rw [List.mem_singleton.mp hc]; exact hb,f3.own Zu (Ne.symm n1),f3.1⟩,?_,?_⟩
  ·rintro i U M' hi ⟨cs,b,k3,k4,k5,rfl,hl,hcs,hq',hP⟩;walk_at "rk";simp only [hq'];walk_at "rk";refine ⟨hcs b (List.mem_append_right _ (List.mem_singleton.mpr rfl)),hP,λ c' M4 hc' f4=>?_⟩;simp only [f4.own hq' (Ne.symm n1)];walk_at "rk";refine ⟨by rw [List.length_append,List.length_map,List.length_singleton]; lia,cs ++ [b],c',_,_,_,rfl,by rw [List.length_append,hl]; rfl,λ z hz=>?_,by rw [List.map_append]; rfl,f4.1.put n1⟩
   rcases List.mem_append.mp hz with hz | hz
   ·exact hcs z hz
   ·rw [List.mem_singleton.mp hz];exact hc'
  ·rintro U M' ⟨cs,b,k3,k4,k5,rfl,hl,hcs,hq',hP⟩;subst_vars;walk_at "rk";simp only [hq'];walk_at "rk";rw [show cs.map bD ++ [bD b] = (cs ++ [b]).map bD by rw [List.map_append]; rfl];exact h _ _ ⟨by rw [List.length_append,List.length_singleton]; lia,by rw [List.length_append,List.length_singleton]; lia,hcs⟩ (hP.del n1)
theorem Bt (T:Tx K mg):Qn P w K mg base CX0 2 T.Wr T.Kq ["_law_pen_here"] (lift K GP):=by
 refine okD T.K3.F Vy (λ xs M Φ h=>by obtain ⟨_,rfl,_⟩:=ZZ h; rfl) λ cdv A outer s H E hr=>⟨_,(Ze (Zq 1 Vy.nd (Zf (Qe (Za Zc (Za Zc (Za Zc (Za Zc (Za (Zo Zy Zc (cO T.Qf (ZR T) hr (Za (Zb 0) (Za (Zo Gg Zc Zc) Zd)))) (Za Zc Zd))))))) (cO T.Qf (ZR T) hr (Za (Zb 0) (Za Zc Zd)))))
 (Ze (G7 2 false Vy.nd (ZO (sc:=Zh Vd) (XN:=["_law_pen_here", "_law_times", "_law_begins"]) (N:=["_law_way", "_law_pen_here"]) (ix:=[none,some 0]) rfl rfl (by walk_at "k")) (FQ rfl T.Jm (Za Zc Zd)) (λ C ex s H=>(Zk 0 (show List.Nodup (["_law_way", "_law_pen_here"]:List Str) by walk_at "k"))) (λ C ex s H=>Q2) (λ C ex s H=>(Zf (Qe (Za Zc (Za (Zo Qz (cO T.Qf (ZR T) hr (Za (Zb 1) (Za (Zo Gg Zc Zc) Zd))) (Zo Q7 Zc (Zo Gg Zc Zc))) Zd))) (cO T.Qf (ZR T) hr (Za (Zb 1) (Za Zc Zd))))) rfl)
 (Zg (Zl (Zm (Za (Zb 1) (Za (Zf (Zb 2) Zc) (Za (Zf (Zb 2) Zc) Zd)))))))),λ xs M Φ h=>?_⟩
 replace h:=ZZ h;obtain ⟨x1,rfl,h⟩:=h;replace h:=Z9 h;obtain ⟨p,rfl,hp,h⟩:=h;walk_at "h";refine ⟨Zc2 _ (by decide),hp,λ r1 M1 a1 b1 f1=>⟨f1.1,λ r2 M2 a2 b2 f2=>tab (l:=[1,1,2,3,1 + r1,1]) (λ t=>1 <= t /\ t <= 10 ^ 10) a2 (by simp only [List.length_cons,List.length_nil]; lia) (λ w hw=>?_) λ t ht=>?_⟩⟩
 ·simp only [List.mem_cons,List.not_mem_nil,or_false] at hw;lia
 walk_at "h";have one:∀ (M:Mp) (Q:PyData->Mp->Prop),Pen M p->(∀ w M',(-(10 ^ 12) <= w /\ w <= 10 ^ 12)->Fr p M M'->Q (.int w) M')->Za8 10 12 /\ Pen M p /\ ∀ r M',0 <= r->r < 1000000000000->Fr p M M'->Za8 10 11 /\ Oy 5 100000000000 /\ Pen M' p /\ ∀ r' M'',0 <= r'->r' < 2->Fr p M' M''->Y5 [.int 0,.int (r - 500000000000)] r' λ d=>Q d M'':=λ M Q hP k=>
  ⟨Zc2 _ (by decide),hP,λ r M' a b f=>⟨Zc2 _ (by decide),.inl (by decide),f.1,λ r' M'' a' b' f'=>tab (l:=[0,r - 500000000000]) (λ w=>-(10 ^ 12) <= w /\ w <= 10 ^ 12) a' (by simp only [List.length_cons,List.length_nil]; lia) (λ w hw=>by
   simp only [List.mem_cons,List.not_mem_nil,or_false] at hw
   lia) λ w hw=>k w M'' hw (f.trans f')⟩⟩
 refine ⟨⟨by decide,by decide⟩,one M2 _ f2.1 λ w M3 hw f3=>one M3 _ f3.1 λ w' M4 hw' f4=>?_⟩;subst_vars;walk_at "rk";exact h t w w' M4 ⟨ht,hw,hw'⟩ f4.1
theorem Fw (T:Tx K mg):Qn P w K mg base CX0 1 T.Og T.NH ["_law_boxes_here", "_law_frame_here"] (lift K MU):=by
 refine okG T.Ey.F Jo (λ xs M Φ h=>by obtain ⟨_,_,rfl,_⟩:=Zv h; rfl) λ cdv A outer s H E hr=>⟨_,(Ze (Jh (Zb 1) (QO (n:=3) rfl (Zr (Zk 3 Jo.nd) (Zr (Zk 4 Jo.nd) (Zr (Zk 5 Jo.nd) Z6)))))
 (Ze (Zq 2 Jo.nd (Qs Zd))
 (Ze (Ut (Zb 0) (QO (n:=2) rfl (Zr (Zk 6 Jo.nd) (Zr (Zk 7 Jo.nd) Z6))) (Ze (Zq 8 Jo.nd (Zm (Za (Zo Zy (Zo Q7 (Zf (Zb 6) Zc) (Zb 3)) (Zb 4)) (Za (Zo Zy (Zo Q7 (Zf (Zb 6) Zc) (Zb 3)) (Zb 5)) Zd))))
 (Zg (Q1 (QX (Zb 2) (Zm (Za (Zb 8) (Za (Zm (Za (Zo Zy (Zo Qz (Zo Zy (Zo Q7 (Zf (Zb 7) Zc) (Zb 3)) (Zb 3)) Zc) (Zb 4)) (Za (Zo Zy (Zo Qz (Zo Zy (Zo Q7 (Zf (Zb 7) Zc) (Zb 3)) (Zb 3)) Zc) (Zb 5)) Zd))) Zd))))))) PassesOwn.never rfl)
 (Zg (Zl (Vc Vw rfl T.VH Jx (Za (Zb 2) Zd))))))),λ xs M Φ h=>?_⟩
 replace h:=Zv h;obtain ⟨x1,x2,rfl,h⟩:=h;replace h:=VB h;obtain ⟨bs,rfl,h⟩:=h;replace h:=Uu h;obtain ⟨f,ox,oy,rfl,hs,h⟩:=h;walk_at "h";walk_at "h";intro q hq;walk_at "h";refine ⟨λ i U M'=>∃ k6 k7 k8,U = [some (.dat (.list (bs.map bD))),some (.dat (.tuple [.int f,.int ox,.int oy])),some (.own q),some (.dat (.int f)),some (.dat (.int ox)),some (.dat (.int oy)),k6,k7,k8] /\ M' = ZD M q (.lst (((bs.take i).map (Kp f ox oy)).map bD)),⟨none,none,none,rfl,rfl⟩,?_,?_⟩
 ·rintro i d U M' hd ⟨k6,k7,k8,rfl,rfl⟩;obtain ⟨b,eb,rfl⟩:=Z5 hd;have hb:=hs.2.2 _ (List.mem_of_getElem? eb);have ok:=ZJ.mp hb.1;have hb2:=hb.2;walk_at "rk";refine ⟨.inl (by omega),.inl (by omega),.inl (by omega),.inl (by omega),by rw [List.length_map,List.length_map,List.length_take]; have:=hs.2.1; omega,_,_,_,rfl,?_⟩;rw [<- take_snoc (Kp f ox oy) eb,List.map_append];rfl
 ·rintro U M' ⟨k6,k7,k8,rfl,rfl⟩;rw [List.length_map,List.take_length];subst_vars;walk_at "rk";exact Te hq h
theorem U5 (T:Tx K mg):Qn P w K mg base CX0 1 T.E3 T.Dx ["_law_boxes_here"] (lift K Gs):=by
 refine okD T.UE.F JC (λ xs M Φ h=>by obtain ⟨_,rfl,_⟩:=ZZ h; rfl) λ cdv A outer s H E hr=>⟨_,(Ze (Zq 1 JC.nd EZ)
 (Ze (Ut (Zb 0) (QO (n:=2) rfl (Zr (Zk 2 JC.nd) (Zr (Zk 3 JC.nd) Z6))) (Zg (GN rfl T.Jm (Za (Zf (Zb 2) Zc) (Za (Zo Zy (Zf (Zb 3) Zc) Zc) Zd)) (Zk 4 JC.nd) (Zg (GN rfl T.Jm (Za (Zf (Zb 2) Zc) (Za (Zo Zy (Zf (Zb 3) Zc) Zc) Zd)) (Zk 5 JC.nd) (Zg (Rb hr (Zb 1) (Za (Zb 4) (Za (Zb 5) Zd)) QC)) PassesOwn.never rfl)) PassesOwn.never rfl)) PassesOwn.never rfl)
 (Zg (Zl (Zb 1))))),λ xs M Φ h=>?_⟩
 replace h:=ZZ h;obtain ⟨x1,rfl,h⟩:=h;replace h:=VB h;obtain ⟨bs,rfl,hs,h⟩:=h;walk_at "h";intro q hq;walk_at "h";refine ⟨λ n U M'=>∃ (k2 k3 k4 k5:Option DV) (ks:List (List Key)),U = [some (.dat (.list (bs.map bD))),some (.own q),k2,k3,k4,k5] /\ M' = ZD M q (.dct ks) /\ (∀ i j,kP i j ∈ ks ↔ ((bs.take n).any λ b=>hasB b i j) = true) /\ OL ks /\ ks.length <= n * 144,⟨none,none,none,none,[],rfl,rfl,λ i j=>?_,⟨List.nodup_nil,λ k hk=>nomatch hk⟩,Nat.zero_le _⟩,?_,?_⟩
 ·simp
 ·rintro n d U M' hd ⟨k2,k3,k4,k5,ks,rfl,rfl,hk,ok1,hl⟩;obtain ⟨b,eb,rfl⟩:=Z5 hd;have hn:n < bs.length:=(List.getElem?_eq_some_iff.mp eb).1;have hb:=hs.2.2 _ (List.mem_of_getElem? eb);have ok:=ZJ.mp hb.1;have hb2:=hb.2;have h6:=hs.2.1;walk_at "rk"
  refine ⟨⟨⟨by lia,by lia⟩,by lia,by lia⟩,λ a U M'=>∃ (k4 k5:Option DV) (ks:List (List Key)),U = [some (.dat (.list (bs.map bD))),some (.own q),some (.dat (.tuple [.int b.x,.int b.y])),some (.dat (.tuple [.int b.X,.int b.Y])),k4,k5] /\ M' = ZD M q (.dct ks) /\
   (∀ i j,kP i j ∈ ks ↔ (((bs.take n).any λ b=>hasB b i j) = true \/ (b.x <= i /\ i < b.x + (a:Int) /\ b.y <= j /\ j <= b.Y))) /\ OL ks /\ ks.length <= n * 144 + a * 12,⟨k4,k5,ks,rfl,rfl,λ i j=>?_,ok1,by lia⟩,?_,?_⟩
  ·rw [hk];exact ⟨.inl,λ z=>z.elim id λ z=>by lia⟩
  ·rintro a U M' ha ⟨k4,k5,ks,rfl,rfl,hk2,ok2,hl2⟩;walk_at "rk"
   refine ⟨⟨⟨by lia,by lia⟩,by lia,by lia⟩,λ c U M'=>∃ (k5:Option DV) (ks:List (List Key)),U = [some (.dat (.list (bs.map bD))),some (.own q),some (.dat (.tuple [.int b.x,.int b.y])),some (.dat (.tuple [.int b.X,.int b.Y])),some (.dat (.int (b.x + (a:Int)))),k5] /\ M' = ZD M q (.dct ks) /\
    (∀ i j,kP i j ∈ ks ↔ ((((bs.take n).any λ b=>hasB b i j) = true \/ (b.x <= i /\ i < b.x + (a:Int) /\ b.y <= j /\ j <= b.Y)) \/ (i = b.x + (a:Int) /\ b.y <= j /\ j < b.y + (c:Int)))) /\ OL ks /\ ks.length <= n * 144 + a * 12 + c,⟨k5,ks,rfl,rfl,λ i j=>?_,ok2,by lia⟩,?_,?_⟩
   ·rw [hk2];exact ⟨.inl,λ z=>z.elim id λ z=>by lia⟩
   ·rintro c U M' hc ⟨k5,ks,rfl,rfl,hk3,ok3,hl3⟩;walk_at "rk";refine ⟨by lia,_,B0 ks (kP (b.x + (a:Int)) (b.y + (c:Int))),rfl,rfl,λ i j=>?_,ok3.add _ _,by have:=Hq ks (kP (b.x + (a:Int)) (b.y + (c:Int))); lia⟩;rw [L4,hk3,ZaF];constructor
    ·rintro (z | z)
     ·rcases z with z | z
      ·exact .inl z
      ·exact .inr (by lia)
     ·exact .inr (by lia)
    ·rintro (z | z)
     ·exact .inl (.inl z)
     ·by_cases c':j = b.y + (c:Int)
      ·exact .inr (by lia)
      ·exact .inl (.inr (by lia))
   ·rintro U M' ⟨k5,ks,rfl,rfl,hk3,ok3,hl3⟩;refine ⟨_,_,ks,rfl,rfl,λ i j=>?_,ok3,by lia⟩;rw [hk3];constructor
    ·rintro ((z | z) | z)
     ·exact .inl z
     ·exact .inr (by lia)
     ·exact .inr (by lia)
    ·rintro (z | z)
     ·exact .inl (.inl z)
     ·by_cases c:i = b.x + (a:Int)
      ·exact .inr (by lia)
      ·exact .inl (.inr (by lia))
  ·rintro U M' ⟨k4,k5,ks,rfl,rfl,hk2,ok2,hl2⟩;refine ⟨_,_,_,_,ks,rfl,rfl,λ i j=>?_,ok2,by lia⟩;rw [hk2,Li _ eb,Bool.or_eq_true,Zt];constructor
   ·exact λ z=>z.elim .inl λ z=>.inr (by lia)
   ·exact λ z=>z.elim .inl λ z=>.inr (by lia)
 ·rintro U M' ⟨k2,k3,k4,k5,ks,rfl,rfl,hk,ok1,hl⟩;rw [List.length_map,List.take_length] at hk;subst_vars;walk_at "rk";rw [List.length_map] at hl;refine h q ks hq ⟨λ i j=>?_,ok1,by have:=hs.2.1; lia⟩;rw [Bool.eq_iff_iff,QD];exact hk i j
theorem Hj (T:Tx K mg):Qn P w K mg base CX0 1 T.DH T.CW ["_law_one", "_law_box_here"] (lift K Nb):=by
 refine okD T.FK.F XS (λ xs M Φ h=>by obtain ⟨_,_,rfl,_⟩:=Zv h; rfl) λ cdv A outer s H E hr=>⟨_,(Ze (Jh (Zb 1) (QO (n:=2) rfl (Zr (Zk 2 XS.nd) (Zr (Zk 3 XS.nd) Z6))))
 (Ze (ZS (DW.dt (Ve (Zw Y4 (Zf (Zb 2) Zc) (Zf (Zf (Zb 0) Zc) Zc)) (JK (Zw Y4 (Zf (Zb 2) Zc) (Zf (Zf (Zb 0) Zc) Zc))))) (Zg (Zl QC)) Zs)
 (Zg (Zl (XA (JH W7 (Zf (Zb 3) Zc) (Zf (Zf (Zb 0) Zc) Zc)) (YC (JH W7 (Zf (Zb 3) Zc) (Zf (Zf (Zb 0) Zc) Zc)))))))),λ xs M Φ h=>?_⟩
 replace h:=Zv h;obtain ⟨x1,x2,rfl,h⟩:=h;replace h:=ZM h;obtain ⟨c,rfl,h⟩:=h;replace h:=ZM h;obtain ⟨b,rfl,h⟩:=h;unfold inB at h;walk_at "h";walk_at "h";refine Zj (λ z=>?_) λ z=>Zj (λ z1=>?_) λ z1=>?_
 ·rw [decide_eq_false (by omega)] at h;exact h
 ·rw [decide_eq_false (by omega)] at h;exact h
 ·subst_vars;walk_at "rk";refine Zj (λ z2=>?_) λ z2=>?_
  ·rw [show decide (c.x <= b.x /\ c.y <= b.y /\ b.X <= c.X /\ b.Y <= c.Y) = decide (b.Y <= c.Y) from decide_eq_decide.mpr (by omega)] at h;exact h
  ·rw [decide_eq_false (by omega)] at h;exact h
theorem Gy (T:Tx K mg):Qn P w K mg base CX0 1 T.Cs T.EF ["_law_box_here", "_law_way", "_law_at"] (lift K Fd):=by
 refine okD T.Uv.F XG (λ xs M Φ h=>by obtain ⟨_,_,_,rfl,_⟩:=Z0 h; rfl) λ cdv A outer s H E hr=>⟨_,(Ze (Jh (Zb 0) (QO (n:=2) rfl (Zr (Zk 3 XG.nd) (Zr (Zk 4 XG.nd) Z6))))
 (Ze (ZS (Zw (QY hr) (Zb 1) Zc) (Zg (Zl (Qe (Za (Zm (Za (Zb 3) (Za (Zm (Za (Zb 2) (Za (Zf (Zb 4) Zc) Zd))) Zd))) (Za (Zm (Za (Zm (Za (Zo Zy (Zb 2) Zc) (Za (Zf (Zb 3) Zc) Zd))) (Za (Zb 4) Zd))) Zd))))) Zs)
 (Zg (Zl (Qe (Za (Zm (Za (Zb 3) (Za (Zm (Za (Zf (Zb 4) Zc) (Za (Zb 2) Zd))) Zd))) (Za (Zm (Za (Zm (Za (Zf (Zb 3) Zc) (Za (Zo Zy (Zb 2) Zc) Zd))) (Za (Zb 4) Zd))) Zd))))))),λ xs M Φ h=>?_⟩
 replace h:=Z0 h;obtain ⟨x1,x2,x3,rfl,h⟩:=h;replace h:=ZM h;obtain ⟨b,rfl,h⟩:=h;replace h:=ZA h;obtain ⟨i,rfl,h⟩:=h;replace h:=ZA h;obtain ⟨a,rfl,hi,h⟩:=h;unfold upB owB at h
 rcases hi with rfl | rfl
 ·walk_at "h";subst_vars;walk_at "rk";exact h
 ·walk_at "h";subst_vars;walk_at "rk";subst_vars;walk_at "rk";exact h
theorem JZ (T:Tx K mg):Qn P w K mg base CX0 1 T.C2 T.C8 ["_law_thing"] (lift K Zfn):=by
 refine okD T.Vx.F LK (λ xs M Φ h=>by obtain ⟨_,rfl,_⟩:=ZZ h; rfl) λ cdv A outer s H E hr=>⟨_,(Zg (Zl (XA (Zi (YS (SN _)) rfl T.ZY ZQ (Za (Zb 0) (Za (Ug rfl T.Zav NT) Zd))) (YC (ZcE (Zi (YS (Gv _)) rfl T.ZY ZQ (Za (Zb 0) (Za (Ug rfl T.Of Fj) Zd)))))))),λ xs M Φ h=>?_⟩;replace h:=ZZ h;obtain ⟨x1,rfl,h⟩:=h;replace h:=Qr h;obtain ⟨d,rfl,h⟩:=h;walk_at "rk";cases d <;> simpa [ZG,tyN,Qp] using h
theorem XH (T:Tx K mg):Qn P w K mg base CX0 2 T.VI T.VQ ["_law_shape", "_law_box_here", "_law_paper"] (lift K Ob):=by
 refine okD T.VR.F X9 (λ xs M Φ h=>by obtain ⟨_,_,_,rfl,_⟩:=Z0 h; rfl) λ cdv A outer s H E hr=>⟨_,(Ze (ZS (DW.dt (Ve (Zw (Ul hr) (Zf (Zb 2) Zc) QP) (Ve (Qi (Qj (cO T.Vx (JZ T) hr (Za (Zf (Zb 2) Zc) Zd)))) (JK (Qi (XU W7 Y4 Zc (Zf (Zb 2) Zc) (Zi Qa rfl T.QU Z8 (Za (Zb 0) Zd)))))))) (Zg (Zl QC)) Zs)
 (Zg (Zl (cO T.FK (Hj T) hr (Za (Zf (Zb 0) (Zf (Zb 2) Zc)) (Za (Zb 1) Zd)))))),λ xs M Φ h=>?_⟩
 replace h:=Z0 h;obtain ⟨x1,x2,x3,rfl,h⟩:=h;replace h:=Z1 h;obtain ⟨bs,rfl,h⟩:=h;replace h:=ZM h;obtain ⟨b,rfl,h⟩:=h;replace h:=Xv h;obtain ⟨ds,rfl,x,k,rfl,⟨hl,hb⟩,h⟩:=h;walk_at "h";refine Ek hl V4 ?_;cases q:isS x (Str.ofString "box") with
 | false=>
  rw [q] at h;walk_at "rk"
  simpa using h
 | true=>
  rw [q,Bool.true_and] at h;walk_at "rk";cases k with
  | int k=>
   have el:KP bs b (.int k) = (Nc bs k && (match bs[k.toNat]? with | some c=>allB c b | none=>false)):=rfl;rw [el] at h;unfold Qp;walk_at "rk";rw [List.length_map];unfold Nc at h;refine Zj (λ z0=>?_) λ z0=>?_
   ·by_cases z1:k < bs.length
    ·rw [decide_eq_true z0,decide_eq_true z1] at h;rw [decide_eq_true z1];subst_vars;walk_at "rk";obtain ⟨c,ec⟩:∃ c,bs[k.toNat]? = some c:=⟨_,List.getElem?_eq_getElem (by omega)⟩
     rw [ec] at h;obtain ⟨j,rfl⟩:=Int.eq_ofNat_of_zero_le z0;refine Q5 (d:=bD c) (Vm (by rw [List.getElem?_map]; rw [Int.toNat_natCast] at ec; rw [ec]; rfl)) ?_;walk_at "rk";rw [T4 hb]
     simpa using h
    ·rw [decide_eq_false z1] at h;rw [decide_eq_false z1];walk_at "rk"
     simpa using h
   ·rw [decide_eq_false z0] at h
    simpa using h
  | _=>
   unfold Qp;walk_at "rk"
   simpa [KP] using h
theorem HF (T:Tx K mg):Qn P w K mg base CX0 3 T.B1 T.Fi ["_law_shape", "_law_box_here", "_law_thing"] (lift K (Nz 26)):=by
 refine okD T.E9.F QM (λ xs M Φ h=>by obtain ⟨_,_,_,rfl,_⟩:=Z0 h; rfl) λ cdv A outer s H E hr=>⟨_,(Ze (Zq 3 QM.nd (Qs (Za (Zm (Za (Zb 1) (Za (Zb 2) Zd))) Zd)))
 (Ze (LC (Zw (MK hr) (Zb 3) (Qe Zd)) (Ze (Jh (ZcX (Zb 3)) (QO (n:=2) rfl (Zr (Zk 4 QM.nd) (Zr (Zk 5 QM.nd) Z6))))
 (Ze (ZS (DW.dt (Ve (Qi (Qj (Zi (YS (kit_tuple _)) rfl T.ZY ZQ (Za (Zb 5) (Za (Ug rfl T.VH Jx) Zd))))) (JK (Zw (GH hr) (Zi Qa rfl T.QU Z8 (Za (Zb 5) Zd)) (Zm (Za Zc (Za Zc Zd))))))) (Zg (Zl QC)) Zs)
 (Zg (ZS (Zw (QY hr) (Zi Qa rfl T.QU Z8 (Za (Zb 5) Zd)) Zc) (Zg (ZS (Qi (Qj (cO T.VR (XH T) hr (Za (Zb 0) (Za (Zb 4) (Za (Zb 5) Zd)))))) (Zg (Zl QC)) Zs)) (Ze (Jh (CK (Zb 5) (Jp Zc) (Jp Zc)) (QO (n:=2) rfl (Zr (Zk 7 QM.nd) (Zr (Zk 8 QM.nd) Z6))))
 (Ze (ZS (DW.dt (Ve (Zw (Ul hr) (Zf (Zb 5) Zc) QP) (Ve (Qi (Qj (cO T.Vx (JZ T) hr (Za (Zb 7) Zd)))) (Ve (Qi (Qj (cO T.Vx (JZ T) hr (Za (Zb 8) Zd)))) (JK (Zw (GH hr) (Zb 7) (Zm (Za Zc (Za Zc Zd))))))))) (Zg (Zl QC)) Zs)
 (Ze (ZS (Qi (XU W7 Y4 (Zf (Zf (Zb 4) Zc) (Zb 7)) (Zb 8) (Zf (Zf (Zb 4) Zc) (Zb 7)))) (Zg (Zl QC)) Zs)
 (Ze (Zq 6 QM.nd (cO T.Uv (Gy T) hr (Za (Zb 4) (Za (Zb 7) (Za (Zb 8) Zd)))))
 (Zg (Zq 3 QM.nd (Zo Mt (Zb 3) (Qe (Za (Zm (Za (Zf (Zb 6) Zc) (Za (Zf (Zb 5) Zc) Zd))) (Za (Zm (Za (Zf (Zb 6) Zc) (Za (Zf (Zb 5) Zc) Zd))) Zd)))))))))))))) PassesOwn.never)
 (Zg (Zl QC)))),λ xs M Φ h=>?_⟩
 replace h:=Z0 h;obtain ⟨x1,x2,x3,rfl,h⟩:=h;replace h:=Z1 h;obtain ⟨bs,rfl,h⟩:=h;replace h:=ZM h;obtain ⟨b,rfl,h⟩:=h;replace h:=Qr h;obtain ⟨d,rfl,⟨hp,hb,hn⟩,h⟩:=h;walk_at "h";intro q hq;walk_at "h";generalize hR:ZF bs 26 b d = R at h;refine ⟨Zec bs b d M R,⟨_,q,[(b,d)],_,_,_,_,_,rfl,Zu,hq,(Ext.refl M).new hq,⟨⟨λ e he=>?_,?_⟩,λ j e he=>?_⟩,rfl⟩,?_⟩
 ·rw [List.mem_singleton.mp he];exact ⟨hb,hp⟩
 ·simp [hR]
 ·cases j with
  | zero=>cases he; exact hp
  | succ j=>cases he
 clear hR hp hb hn;intro n U M1 hJ;clear hq q;obtain ⟨q,ws,x4,x5,x6,x7,x8,rfl,hM,hq,hE,⟨hW,hD⟩,rfl⟩:=hJ;walk_at "rk";rw [hM];walk_at "rk"
 rcases List.eq_nil_or_concat ws with rfl | ⟨ws,e,rfl⟩
 ·subst_vars;walk_at "rk";simp only [List.isEmpty_nil,Bool.not_true,Bool.false_eq_true,if_false];have:=hW.2;simp only [List.all_nil] at this;rw [<- this] at h;exact h _ hE
 ·rw [List.concat_eq_append] at hM hW hD ⊢;have ne:(!(List.map wD (ws ++ [e])).isEmpty) = true:=by simp
  rw [if_pos ne];refine ⟨ws.map wD,wD e,by rw [List.map_append]; rfl,?_⟩;obtain ⟨b',d'⟩:=e;refine Zgf (x:=bD b') (y:=d') ?_;have hl:=hW.last.1;have E1:Ext M (ZD M1 q (OO.lst (ws.map wD))):=hE.new hq;cases d' with
  | tuple ds=>
   by_cases h2:ds.length = 2
   ·obtain ⟨x,k,rfl⟩:=Ym h2;have e:ZF bs 26 b' (.tuple [x,k]) = (isS x (Str.ofString "box") && KP bs b' k):=rfl;walk_at "h";refine ⟨rfl,?_⟩;subst_vars;walk_at "rk";refine ⟨_,_,rfl,⟨hl.2,hl.1⟩,?_⟩;rw [<- e];cases hd:ZF bs 26 b' (.tuple [x,k]) with
    | false=>
     rw [hW.no hd] at h;walk_at "rk";exact h _ E1
    | true=>
     walk_at "rk";refine ⟨_,?_,q,ws,_,_,_,_,_,rfl,Zu,hq,E1,⟨hW.drop hd,hD.drop⟩,rfl⟩;rw [UN];exact Nat.lt_add_of_pos_right (size_pos _)
   ·by_cases h5:ds.length = 5
    ·obtain ⟨x,i,a,p,q',rfl⟩:=XC h5;have e:ZF bs 26 b' (.tuple [x,i,a,p,q']) = (isS x (Str.ofString "cut") && (KW b' i a && (ZF bs 25 (upD b' i a) p && ZF bs 25 (owD b' i a) q'))):=rfl;walk_at "h";refine ⟨rfl,?_⟩;subst_vars;refine LQ λ B hB=>?_;walk_at "rk";subst hB;walk_at "h";refine ⟨by decide,?_⟩;rw [show DL.cutD [x,i,a,p,q'] (some 1) (some 3) = [i,a] from rfl];walk_at "rk";walk_at "h";refine SF hl.2.1 V4 ?_;cases hx:isS x (Str.ofString "cut") with
     | false=>
      rw [hx,Bool.false_and] at e;rw [hW.no e] at h;walk_at "rk";exact h _ E1
     | true=>
      walk_at "rk";rw [hx,Bool.true_and] at e;cases i with
      | int i=>
       cases a with
       | int a=>
        have hc:KW b' (.int i) (.int a) = Ys b' i a:=rfl;rw [hc] at e;have no:Ys b' i a = false->Φ (.dat (.bool false)) (ZD M1 q (OO.lst (ws.map wD))):=λ z=>by
         rw [z,Bool.false_and] at e;rw [hW.no e] at h;exact h _ E1
        unfold Qp;walk_at "rk";refine ⟨rfl,?_⟩
        by_cases hi:i = 0 \/ i = 1
        ·rw [show (decide (0 = i) || decide (1 = i)) = true by simp; lia];walk_at "rk";walk_at "h";refine Q5 (d:=.int (loB b' i)) (by rcases hi with rfl | rfl <;> rfl) ?_;walk_at "rk";refine Zj (λ z0=>?_) λ z0=>no (Bool.eq_false_iff.mpr λ y=>z0 (Qh.mp y).2.1);refine Q5 (d:=.int (hiB b' i)) (by rcases hi with rfl | rfl <;> rfl) ?_;walk_at "rk"
         by_cases z1:a < hiB b' i
         ·rw [decide_eq_true z1];have yes:Ys b' i a = true:=Qh.mpr ⟨hi,z0,z1⟩;walk_at "rk";walk_at "h";refine ⟨hi,?_⟩;subst_vars;walk_at "rk";have hs:=hW.split hx yes;have hz:=hD.split (b1:=upB b' i a) (b2:=owB b' i (a + 1));have hl2:=hD.len;rw [List.length_append,List.length_singleton] at hl2;refine ⟨by rw [List.length_map]; lia,λ r hr2=>⟨_,CL _ _ _ _ _ _ _ _ _,r,_,_,_,_,_,_,rfl,?_,E1.none hr2,E1.new (E1.none hr2),⟨hs,hz⟩,rfl⟩⟩;rw [Zu,List.map_append];rfl
         ·rw [decide_eq_false z1];walk_at "rk";exact no (Bool.eq_false_iff.mpr λ y=>z1 (Qh.mp y).2.2)
        ·rw [show (decide (0 = i) || decide (1 = i)) = false by simp; lia];walk_at "rk";refine no (Bool.eq_false_iff.mpr λ y=>?_);have:=(Qh.mp y).1;lia
       | _=>
        rw [hW.no (by rw [e]; rfl)] at h;unfold Qp;walk_at "rk";exact h _ E1
      | _=>
       rw [hW.no (by rw [e]; rfl)] at h;unfold Qp;walk_at "rk";exact h _ E1
    ·have no:=hW.no (Vh h2 h5);rw [no] at h;walk_at "h";refine ⟨rfl,?_⟩;rw [decide_eq_false (show ¬ (2:Int) = ds.length by lia),decide_eq_false (show ¬ (5:Int) = ds.length by lia)];exact h _ E1
  | _=>
   have no:=hW.no rfl;rw [no] at h;walk_at "h";exact h _ E1
theorem LD (T:Tx K mg):Qn P w K mg base CX0 1 T.Cc T.EX ["_law_one", "_law_other_here"] (lift K Dd):=by
 refine okD T.EB.F G3 (λ xs M Φ h=>by obtain ⟨_,_,rfl,_⟩:=Zv h; rfl) λ cdv A outer s H E hr=>⟨_,(Ze (JW rfl T.Jm (Za Zc Zd) (Zk 2 G3.nd) (Zg (ZS (DW.dt (Ve (Zw Ds (Zf (Zf (Zb 0) Zc) (Zb 2)) (Zo Zy (Zf (Zf (Zb 1) Zc) (Zb 2)) Zc)) (JK (Zw Ds (Zf (Zf (Zb 1) Zc) (Zb 2)) (Zo Zy (Zf (Zf (Zb 0) Zc) (Zb 2)) Zc))))) (Zg (Zl QC)) Zs)) PassesOwn.never rfl)
 (Zg (Zl QC))),λ xs M Φ h=>?_⟩
 replace h:=Zv h;obtain ⟨x1,x2,rfl,h⟩:=h;replace h:=ZM h;obtain ⟨a,rfl,h⟩:=h;replace h:=ZM h;obtain ⟨b,rfl,h⟩:=h;walk_at "rk";refine ⟨⟨by decide,by decide⟩,λ i U M'=>∃ k2:Option DV,U = [some (.dat (bD a)),some (.dat (bD b)),k2] /\ M' = M,⟨none,rfl,rfl⟩,?_,?_⟩
 ·rintro i U M' hi ⟨k2,rfl,rfl⟩;rw [Vj];unfold bD;have two:i = 0 \/ i = 1:=by lia
  rcases two with rfl | rfl
  ·walk_at "rk";exact Zj (λ _=>h _) λ _=>Zj (λ _=>h _) λ _=>by first | exact ⟨_,rfl,rfl⟩ | exact ⟨_,rfl⟩ | simp
  ·walk_at "rk";exact Zj (λ _=>h _) λ _=>Zj (λ _=>h _) λ _=>by first | exact ⟨_,rfl,rfl⟩ | exact ⟨_,rfl⟩ | simp
 ·rintro U M' ⟨k2,rfl,rfl⟩;walk_at "rk";exact h _
theorem F4 (T:Tx K mg):Qn P w K mg base CX0 4 T.FI T.Fg ["_law_pen_here", "_law_boxes_here"] (lift K Dh):=by
 refine okD T.CT.F QE (λ xs M Φ h=>by obtain ⟨_,_,rfl,_⟩:=Zv h; rfl) λ cdv A outer s H E hr=>⟨_,(Ze (Zq 2 QE.nd (cO T.Qf (ZR T) hr (Za (Zb 0) (Za Zc Zd))))
 (Ze (Jh (Zf (Zb 1) Zc) (QO (n:=2) rfl (Zr (Zk 3 QE.nd) (Zr (Zk 4 QE.nd) Z6))))
 (Ze (ZS (Zw (QY hr) (Zb 2) Zc) (Zg (Zl (cO T.XD (XQ T) hr (Za (Zb 0) Zd)))) Zs)
 (Ze (ZS (DW.dt (K0 (Zw (QY hr) (Zb 2) Zc) (K0 (Zw Y4 (Zf (Zb 3) Zc) (Zf (Zb 4) Zc)) (XW (Zw Y4 (Zi Qa rfl T.QU Z8 (Za (Zb 1) Zd)) Zc))))) (Ze (Zq 5 QE.nd (Zo Zy (Zf (Zb 3) Zc) (cO T.Qf (ZR T) hr (Za (Zb 0) (Za (Zo Qz (Zf (Zb 4) Zc) (Zf (Zb 3) Zc)) Zd)))))
 (Ze (Jh (cO T.Uv (Gy T) hr (Za (Zf (Zb 1) Zc) (Za Zc (Za (Zb 5) Zd)))) (Zax (n:=2) rfl (Zr (Zk 7 QE.nd) (Zr (Zk 8 QE.nd) Z6))))
 (Ze (Zq 6 QE.nd (Zf (Qe (Za (Qe (Za (Zb 8) (Za (Zb 7) Zd))) (Za (Qe (Za (Zb 7) (Za (Zb 8) Zd))) Zd))) (Vc Zau rfl T.Zav NT (Za (ZeJ (JH (QY hr) (Zi Qa rfl T.QU Z8 (Za (Zb 1) Zd)) Zc) (YC (cO T.EB (LD T) hr (Za (Zb 8) (Za (Zf (Zb 1) Zc) Zd))))) Zd))))
 (Zg (Zl (Zo VE (Jd false (ZO (sc:=Zh X0) (XN:=["_law_pen_here", "_law_boxes_here", "_law_way", "_law_low", "_law_high", "_law_at", "_law_ends", "_law_one", "_law_other_here"]) (N:=["_law_box_here"]) (ix:=[none]) rfl rfl (by walk_at "k")) (QS (Zb 6)) (λ C ex s H=>(Zk 0 (show List.Nodup (["_law_box_here"]:List Str) by walk_at "k"))) (λ C ex s H=>Q2) (λ C ex s H=>(Zb 0)) rfl) (Jq (Zb 1) (Jp Zc) X4))))))) Zs)
 (Ze (ZS (DW.dt (K0 (Zw (QY hr) (Zb 2) Zc) (XW (Zw Y4 (Zi Qa rfl T.QU Z8 (Za (Zb 1) Zd)) Zc)))) (Zg (Zl (Zo VE (Zb 1) (Qe (Za (cO T.LO (CF T) hr (Za (Zb 0) (Za (Zf (Zb 1) (Cf Zc)) Zd))) Zd))))) Zs)
 (Ze (ZS (Zw (QY hr) (Zb 2) Zc) (Zg (Zl (Jq (Zb 1) X4 (Jp (Zo Zy Zc (cO T.Qf (ZR T) hr (Za (Zb 0) (Za (Zi Qa rfl T.QU Z8 (Za (Zb 1) Zd)) Zd)))))))) Zs)
 (Ze (ZS (DW.dt (K0 (Zw (QY hr) (Zb 2) Zc) (XW (Zw Y4 (Zi Qa rfl T.QU Z8 (Za (Zb 1) Zd)) Zc)))) (Ze (Zq 5 QE.nd (cO T.Qf (ZR T) hr (Za (Zb 0) (Za (Zi Qa rfl T.QU Z8 (Za (Zb 1) Zd)) Zd))))
 (Zg (Zl (Zo VE (Zo VE (Jq (Zb 1) X4 (Jp (Zb 5))) (Jq (Zb 1) (Jp (Zb 5)) (Jp (Zo Zy (Zb 5) Zc)))) (Jq (Zb 1) (Jp (Zb 5)) X4))))) Zs)
 (Zg (Zl (Sf (Zb 1) (Cf Zc))))))))))),λ xs M Φ h=>?_⟩
 replace h:=Zv h;obtain ⟨x1,x2,rfl,h⟩:=h;replace h:=Z9 h;obtain ⟨p,rfl,h⟩:=h;replace h:=VB h;obtain ⟨bs,rfl,⟨hg,hP⟩,h⟩:=h;obtain ⟨b0,rest,rfl⟩:∃ b0 rest,bs = b0 :: rest:=by
  cases bs with
  | nil=>exact absurd hg.1 (by decide)
  | cons b0 rest=>exact ⟨_,_,rfl⟩
 walk_at "h";refine ⟨hP,λ r M1 r0 r1 f1=>?_⟩;walk_at "h";walk_at "hd";rename_i R hR;have hlen:rest.length <= 5:=by
  have:=hg.2.1;rw [List.length_cons] at this;lia
 have c0:=hg.2.2 b0 (.head _);have ok0:=ZJ.mp c0.1;have go:R { nx:=λ x M'=>Φ (DV.dat PyData.none) M',rt:=Φ } [some (.own p),some (.dat (.list (bD b0 :: rest.map bD))),some (.dat (.int r)),some (.dat (.tuple [.int b0.x,.int b0.y])),some (.dat (.tuple [.int b0.X,.int b0.Y])),none,none,none,none] M1:=by
  walk_at "hd";rename_i R hR;have go:R { nx:=λ x M'=>Φ (DV.dat PyData.none) M',rt:=Φ } [some (.own p),some (.dat (.list (bD b0 :: rest.map bD))),some (.dat (.int r)),some (.dat (.tuple [.int b0.x,.int b0.y])),some (.dat (.tuple [.int b0.X,.int b0.Y])),none,none,none,none] M1:=by
   walk_at "hd";rename_i R hR;have go:R { nx:=λ x M'=>Φ (DV.dat PyData.none) M',rt:=Φ } [some (.own p),some (.dat (.list (bD b0 :: rest.map bD))),some (.dat (.int r)),some (.dat (.tuple [.int b0.x,.int b0.y])),some (.dat (.tuple [.int b0.X,.int b0.Y])),none,none,none,none] M1:=by
    walk_at "hd";rename_i R hR;have go:R { nx:=λ x M'=>Φ (DV.dat PyData.none) M',rt:=Φ } [some (.own p),some (.dat (.list (bD b0 :: rest.map bD))),some (.dat (.int r)),some (.dat (.tuple [.int b0.x,.int b0.y])),some (.dat (.tuple [.int b0.X,.int b0.Y])),none,none,none,none] M1:=by
     walk_at "hd";rename_i R hR;have go:R { nx:=λ x M'=>Φ (DV.dat PyData.none) M',rt:=Φ } [some (.own p),some (.dat (.list (bD b0 :: rest.map bD))),some (.dat (.int r)),some (.dat (.tuple [.int b0.x,.int b0.y])),some (.dat (.tuple [.int b0.X,.int b0.Y])),none,none,none,none] M1:=by
      subst_vars;walk_at "rk";have:=h (b0 :: rest).reverse M1 hg.rev f1.1;rw [List.map_reverse] at this;exact this
     walk_at "rk";refine Zj (λ _=>Zj (λ z=>?_) λ _=>go) λ _=>go;refine ⟨⟨by lia,by rw [List.length_map]; lia⟩,f1.1,λ k M2 k0 k1 f2=>?_⟩;obtain ⟨⟨n1,n2,n3⟩,cs,ec,lc,mc⟩:=L9 (bs:=b0 :: rest) k0 (by simpa using k1);rw [List.map_cons] at n1 n2 n3 ec;rw [List.length_cons] at n1 n3 lc;rw [List.length_map] at z;rw [List.length_append,ec];exact ⟨by lia,by lia,h cs M2 ⟨by lia,by lia,λ c hc=>hg.2.2 c (mc c hc)⟩ f2.1⟩
    walk_at "rk";refine Zj (λ _=>?_) λ _=>go;refine ⟨⟨by lia,by rw [List.length_map]; lia⟩,f1.1,λ k M2 k0 k1 f2=>?_⟩;obtain ⟨cs,ec,⟨lc,lc2⟩,mc⟩:=Bg (bs:=b0 :: rest) (n:=1 + k) (by lia) hg.1;rw [List.map_cons] at ec;rw [ec];exact h cs M2 ⟨lc,Nat.le_trans lc2 hg.2.1,λ c hc=>hg.2.2 c (mc c hc)⟩ f2.1
   walk_at "rk";refine Zj (λ _=>Zj (λ z=>?_) λ _=>go) λ _=>go;obtain ⟨b,mb,eb⟩:=E5 (bs:=b0 :: rest) hg.1;refine Q5 eb ?_;rw [V9];rw [List.length_map] at z;refine ⟨hg.2.2 b mb,f1.1,λ c M2 hc f2=>⟨by rw [List.length_map]; lia,?_⟩⟩;have:=h (b0 :: rest ++ [c]) M2 ⟨by simp,by simp; lia,λ x hx=>?_⟩ f2.1
   ·rw [List.map_append] at this;exact this
   ·rcases List.mem_append.mp hx with hx | hx
    ·exact hg.2.2 x hx
    ·rw [List.mem_singleton.mp hx];exact hc
  walk_at "rk";refine Zj (λ _=>Zj (λ z1=>Zj (λ z2=>?_) λ _=>go) λ _=>go) λ _=>go;refine ⟨⟨by lia,by have:=c0.2; lia⟩,f1.1,λ q M2 q0 q1 f2=>⟨.inl trivial,?_⟩⟩;rw [Pj];rw [List.length_map] at z2;have ce:=c0.2;have cu:Cel (upB b0 0 (b0.x + q)):=⟨ZJ.mpr ⟨by show b0.x <= b0.x + q; lia,ok0.2⟩,⟨ce.1.1,by show b0.x + q <= 11; lia⟩,ce.2⟩
  have cw:Cel (owB b0 0 (b0.x + q + 1)):=⟨ZJ.mpr ⟨by show b0.x + q + 1 <= b0.X; lia,ok0.2⟩,⟨by show 0 <= b0.x + q + 1; lia,ce.1.2⟩,ce.2⟩
  have two:∀ x y:B4,Cel x->Cel y->∃ J:Nat->List PyData->Mp->Prop,J 0 [] M2 /\ (∀ (i:Nat) (d:PyData) (acc:List PyData) (M':Mp),[bD x,bD y][i]? = some d->J i acc M'->J (i + 1) (acc ++ [d]) M') /\ ∀ (acc:List PyData) (M':Mp),J 2 acc M'->acc.length + (rest.map bD).length <= 16777216 /\ Φ (.dat (.list (acc ++ rest.map bD))) M':=λ x y hx hy=>by
   refine ⟨λ i acc M'=>acc = [bD x,bD y].take i /\ M' = M2,⟨rfl,rfl⟩,?_,?_⟩
   ·rintro i d acc M' hd ⟨rfl,rfl⟩;refine ⟨?_,rfl⟩;rw [List.take_succ,hd];rfl
   ·rintro acc M' ⟨rfl,rfl⟩;refine ⟨by rw [List.length_map]; simp; lia,?_⟩;refine h (x :: y :: rest) M' ⟨by simp,by simp only [List.length_cons]; lia,λ b hb=>?_⟩ f2.1;simp only [List.mem_cons] at hb
    rcases hb with rfl | rfl | hb
    ·exact hx
    ·exact hy
    ·exact hg.2.2 b (.tail _ hb)
  refine Zj (λ _=>two _ _ cu cw) λ z3=>?_;cases rest with
  | nil=>exact absurd rfl z3
  | cons b1 r2=>
   refine Q5 (d:=bD b1) (Vm (j:=1) rfl) ?_;rw [V9];intro k;cases k
   ·exact ⟨by simp,two _ _ cw cu⟩
   ·exact ⟨by simp,two _ _ cu cw⟩
 walk_at "rk";refine Zj (λ _=>⟨f1.1,λ cs M2 h1 h2=>h cs M2 h1 h2⟩) λ _=>go
theorem Ur (T:Tx K mg):Qn P w K mg base CX0 1 T.Xw T.Xm ["_law_boxes_here"] (lift K MZ):=by
 refine okD T.Xr.F YE (λ xs M Φ h=>by obtain ⟨_,rfl,_⟩:=ZZ h; rfl) λ cdv A outer s H E hr=>⟨_,(Ze (Zq 1 YE.nd (Zo Zy (Zi (Rx rfl) rfl T.Yi Je (Za (Jd false (ZO (sc:=Zh QG) (XN:=["_law_boxes_here", "_law_both"]) (N:=["_law_low", "_law_high"]) (ix:=[none,none]) rfl rfl (by walk_at "k")) (QS (Zb 0)) (λ C ex s H=>(QO (n:=2) rfl (Zr (Zk 0 (show List.Nodup (["_law_low", "_law_high"]:List Str) by walk_at "k")) (Zr (Zk 1 (show List.Nodup (["_law_low", "_law_high"]:List Str) by walk_at "k")) Z6)))) (λ C ex s H=>Q2) (λ C ex s H=>(Zf (Zb 0) Zc)) rfl) Zd)) (Zi (O1 rfl) rfl T.Wj VT (Za (Jd false (ZO (sc:=Zh QG) (XN:=["_law_boxes_here", "_law_both"]) (N:=["_law_low", "_law_high"]) (ix:=[none,none]) rfl rfl (by walk_at "k")) (QS (Zb 0)) (λ C ex s H=>(QO (n:=2) rfl (Zr (Zk 0 (show List.Nodup (["_law_low", "_law_high"]:List Str) by walk_at "k")) (Zr (Zk 1 (show List.Nodup (["_law_low", "_law_high"]:List Str) by walk_at "k")) Z6)))) (λ C ex s H=>Q2) (λ C ex s H=>(Zf (Zb 1) Zc)) rfl) Zd))))
 (Zg (Zl (Jd false (ZO (sc:=Zh QG) (XN:=["_law_boxes_here", "_law_both"]) (N:=["_law_low", "_law_high", "_law_both"]) (ix:=[none,none,some 1]) rfl rfl (by walk_at "k")) (QS (Zb 0)) (λ C ex s H=>(QO (n:=2) rfl (Zr (Zk 0 (show List.Nodup (["_law_low", "_law_high", "_law_both"]:List Str) by walk_at "k")) (Zr (Zk 1 (show List.Nodup (["_law_low", "_law_high", "_law_both"]:List Str) by walk_at "k")) Z6)))) (λ C ex s H=>Q2) (λ C ex s H=>(Zm (Za (Zm (Za (Zo Qz (Zb 2) (Zf (Zb 1) Zc)) (Za (Zf (Zb 0) Zc) Zd))) (Za (Zm (Za (Zo Qz (Zb 2) (Zf (Zb 0) Zc)) (Za (Zf (Zb 1) Zc) Zd))) Zd)))) rfl)))),λ xs M Φ h=>?_⟩
 replace h:=ZZ h;obtain ⟨x1,rfl,h⟩:=h;replace h:=VB h;obtain ⟨bs,rfl,hg,h⟩:=h;have l6:=hg.2.1;walk_at "h";refine ⟨by rw [List.length_map]; lia,λ i acc M'=>acc = ((bs.take i).map B4.x).map PyData.int /\ M' = M,⟨rfl,rfl⟩,?_,?_⟩
 ·rintro i d acc M' hd ⟨rfl,rfl⟩;obtain ⟨b,eb,rfl⟩:=Z5 hd;walk_at "rk";rw [<- take_snoc _ eb,List.map_append];rfl
 rintro acc M2 ⟨rfl,rfl⟩;rw [List.length_map,List.take_length];refine ⟨_,.inl rfl,by rw [List.length_map]; exact hg.1,λ mx hx nx=>?_⟩;refine ⟨by lia,λ i acc M'=>acc = ((bs.take i).map B4.X).map PyData.int /\ M' = M2,⟨rfl,rfl⟩,?_,?_⟩
 ·rintro i d acc M' hd ⟨rfl,rfl⟩;obtain ⟨b,eb,rfl⟩:=Z5 hd;walk_at "rk";rw [<- take_snoc _ eb,List.map_append];rfl
 rintro acc M3 ⟨rfl,rfl⟩;rw [List.take_length];refine ⟨_,.inl rfl,by rw [List.length_map]; exact hg.1,λ mX hX nX=>?_⟩;subst_vars;walk_at "rk";refine ⟨by rw [List.length_map]; lia,λ i acc M'=>acc = ((bs.take i).map (ZdY (mx + mX))).map bD /\ M' = M3,⟨rfl,rfl⟩,?_,?_⟩
 ·rintro i d acc M' hd ⟨rfl,rfl⟩;obtain ⟨b,eb,rfl⟩:=Z5 hd;walk_at "rk";rw [<- take_snoc _ eb,List.map_append];rfl
 rintro acc M4 ⟨rfl,rfl⟩;rw [List.length_map,List.take_length];exact h _ (To hg hx nx hX nX)
theorem UZ (T:Tx K mg):Qn P w K mg base CX0 1 T.C5 T.E4 ["_law_cells_here", "_law_others", "_law_frame_here"] (lift K Cn):=by
 refine okD T.WZ.F JT (λ xs M Φ h=>by obtain ⟨_,_,_,rfl,_⟩:=Z0 h; rfl) λ cdv A outer s H E hr=>⟨_,(Ze (Jh (Zb 2) (QO (n:=3) rfl (Zr (Zk 4 JT.nd) (Zr (Zk 5 JT.nd) (Zr (Zk 6 JT.nd) Z6)))))
 (Ze (UQ 3 false JT.nd (ZO (sc:=Zh Kc) (XN:=["_law_cells_here", "_law_others", "_law_frame_here", "_law_found", "_law_times", "_law_x", "_law_y"]) (N:=["_law_cell", "_law_x", "_law_y", "_law_times", "_law_others"]) (ix:=[none,some 5,some 6,some 4,some 1]) rfl rfl (by walk_at "k")) (ZaD (Zb 0)) (λ C ex s H=>(Zk 0 (show List.Nodup (["_law_cell", "_law_x", "_law_y", "_law_times", "_law_others"]:List Str) by walk_at "k"))) (λ C ex s H=>(X3 (Zw (Dv hr) (Zb 0) (Zb 4)))) (λ C ex s H=>(Zm (Za (Zo Zy (Zo Q7 (Zf (Zb 0) Zc) (Zb 3)) (Zb 1)) (Za (Zo Zy (Zo Q7 (Zf (Zb 0) Zc) (Zb 3)) (Zb 2)) Zd)))) rfl)
 (Zg (Zl (PV hr rfl rfl T.Yi Je (Za (Zb 3) Zd)))))),λ xs M Φ h=>?_⟩
 replace h:=Z0 h;obtain ⟨x1,x2,x3,rfl,h⟩:=h;replace h:=Z9 h;obtain ⟨l,rfl,h⟩:=h;replace h:=Z9 h;obtain ⟨m,rfl,h⟩:=h;replace h:=Uu h;obtain ⟨t,ox,oy,rfl,b1,b2,⟨⟨h1,h2,hne⟩,hg,hf⟩,h⟩:=h;obtain ⟨ks1,hl,c1⟩:=h1;obtain ⟨ks2,hm,c2⟩:=h2;obtain ⟨la,lb⟩:=TB (t:=t) (ox:=ox) (oy:=oy) (b2:=b2) hf.1.1 c1;walk_at "h";walk_at "h"
 rcases hl with hl | ⟨o,hl⟩
 case' inl=>
  rw [hl,Kg];intro o;have e1:ZD M l (.fdc o ks1) l = some (.fdc o ks1):=Zu;have e2:∀ a,a ≠ l->ZD M l (.fdc o ks1) a = M a:=λ a ha=>Zz ha;generalize ZD M l (.fdc o ks1) = M1 at e1 e2 ⊢
 case' inr=>
  rw [hl,XT];have e2:∀ M1,M = M1->(∀ a,a ≠ l->M1 a = M a) /\ M1 l = some (.fdc o ks1):=λ M1 e=>⟨λ a _=>by rw [e],by rw [<- e]; exact hl⟩;generalize eM:M = M1;obtain ⟨e2,e1⟩:=e2 M1 eM;clear eM
 all_goals
  refine ⟨by have:=c1.2.2; rw [List.length_map]; lia,λ i acc M'=>acc = ((ks1.take i).filterMap (UW t ox oy b2)).map prD /\ M' = M1,λ i acc M' z=>by rw [z.2]; exact e1,⟨rfl,rfl⟩,?_,?_⟩
  ·rintro i d acc M' hd ⟨rfl,rfl⟩;obtain ⟨k,ek,rfl⟩:=Z5 hd;obtain ⟨a,b,rfl⟩:=c1.2.1.2 k (List.mem_of_getElem? ek);have inb:=Uz hg.2.2 (i:=a) (j:=b) (by rw [<- c1.1 a b]; exact QD.mpr (List.mem_of_getElem? ek));have ek2:=c2.1 a b;have es:=HD (t:=t) (ox:=ox) (oy:=oy) (b2:=b2) ek;have ev:UW t ox oy b2 (kP a b) = if anyB b2 a b = true then none else some (a * t + ox,b * t + oy):=rfl
   rw [show tkD (kP a b) = .tuple [.int a,.int b] from rfl];walk_at "rk";rw [e2 m (Ne.symm hne)];have fin:if (!BR ks2 (kP a b)) = true then Oy a t /\ Oy b t /\ List.map prD (List.filterMap (UW t ox oy b2) (List.take i ks1)) ++ [PyData.tuple [PyData.int (a * t + ox),PyData.int (b * t + oy)]] = List.map prD (List.filterMap (UW t ox oy b2) (List.take (i + 1) ks1))
     else List.map prD (List.filterMap (UW t ox oy b2) (List.take i ks1)) = List.map prD (List.filterMap (UW t ox oy b2) (List.take (i + 1) ks1)):=by
    rw [ek2,es,ev];cases anyB b2 a b with
    | true=>simp
    | false=>
     rw [if_pos (show (!false) = true from rfl),if_neg (show ¬ (false = true) by decide)];exact ⟨.inl (by lia),.inl (by lia),by rw [List.map_append]; rfl⟩
   rcases hm with hm | ⟨o2,hm⟩
   ·rw [hm,Kg];exact fin
   ·rw [hm,XT];exact fin
  ·rintro acc M' ⟨rfl,rfl⟩;rw [List.length_map,List.take_length];subst_vars;walk_at "rk";refine ⟨_,.inl rfl,λ e=>h _ _ (.inl ⟨rfl,la e⟩) ⟨ks1,.inr ⟨_,e1⟩,c1⟩ e2,λ q hq hl=>h _ _ (lb q hq hl) ⟨ks1,.inr ⟨_,e1⟩,c1⟩ e2⟩
theorem Dj (T:Tx K mg):Qn P w K mg base CX0 4 T.NC T.Nj ["_law_one", "_law_other_here", "_law_due", "_law_found"] (lift K Np):=by
 refine okD T.EI.F WV (λ xs M Φ h=>by obtain ⟨_,_,_,_,rfl,_⟩:=NV h; rfl) λ cdv A outer s H E hr=>⟨_,(Ze (ZS (DW.dt (Ve (Qi (Qj (Zi (YS (kit_tuple _)) rfl T.ZY ZQ (Za (Zb 3) (Za (Ug rfl T.VH Jx) Zd))))) (JK (Zw (Ul hr) (Zi Qa rfl T.QU Z8 (Za (Zb 3) Zd)) Zc)))) (Zg (Zl QC)) Zs)
 (Ze (ZS (Zw SD (Zb 2) NS) (Ze (ZS (DW.dt (Ve (Zw (Ul hr) (Zb 3) (Zm (Za QP (Za (Zb 2) Zd)))) (JK (Qi (Qj (Zi (YS (kit_tuple _)) rfl T.ZY ZQ (Za (Zf (Zb 3) Zc) (Za (Ug rfl T.VH Jx) Zd)))))))) (Zg (Zl QC)) Zs)
 (Zg (Zl (XA (cO T.Vx (JZ T) hr (Za (Zf (Zf (Zb 3) Zc) Zc) Zd)) (YC (cO T.Vx (JZ T) hr (Za (Zf (Zf (Zb 3) Zc) Zc) Zd))))))) Zs)
 (Ze (ZS (DW.dt (Ve (Zw (Ul hr) (Zf (Zb 3) Zc) QP) (Ve (Qi (Qj (Zi (YS (LR _)) rfl T.ZY ZQ (Za (Zf (Zb 3) Zc) (Za (Ug rfl T.ZbU R5) Zd))))) (JK (Zw (Ul hr) (Zi Qa rfl T.QU Z8 (Za (Zf (Zb 3) Zc) Zd)) (Zi Qa rfl T.QU Z8 (Za (Zb 0) Zd))))))) (Zg (Zl QC)) Zs)
 (Ze (OG (Pu rfl T.ZeU (Za (Zb 0) (Za (Zf (Zb 3) Zc) Zd))) (QO (n:=2) rfl (Zr (Zk 4 WV.nd) (Zr (Zk 5 WV.nd) Z6))) (Zg (ZS (Qi (Qj (cO T.E9 (HF T) hr (Za (Zb 1) (Za (Zb 4) (Za (Zb 5) Zd)))))) (Zg (Zl QC)) Zs)) PassesOwn.never rfl)
 (Zg (Zl QC)))))),λ xs M Φ h=>?_⟩
 replace h:=NV h;obtain ⟨x1,x2,x3,x4,rfl,h⟩:=h;replace h:=Z1 h;obtain ⟨b1,rfl,h⟩:=h;replace h:=Z1 h;obtain ⟨b2,rfl,h⟩:=h;replace h:=Qr h;obtain ⟨due,rfl,h⟩:=h;replace h:=Qr h;obtain ⟨d,rfl,⟨⟨s1,s2⟩,ht⟩,h⟩:=h
 rcases ht with ⟨rfl,cs,rfl,hcs⟩ | ⟨u,v,rfl,rfl⟩
 ·unfold Zel;walk_at "h";walk_at "h";walk_at "h";rw [List.length_map,List.length_map,hcs.1,decide_eq_true rfl,if_neg (by decide)];walk_at "h";refine ⟨λ i U M'=>∃ k4 k5:Option DV,U = [some (.dat (.tuple (b1.map bD))),some (.dat (.tuple (b2.map bD))),some (.dat .none),some (.dat (.tuple [.str (Str.ofString "yes"),.list (cs.map cvD)])),k4,k5] /\ Jb M M',⟨_,_,rfl,Jb.refl _⟩,?_,?_⟩
  ·rintro i d U M' hd ⟨k4,k5,rfl,e1⟩;obtain ⟨b,c,eb,ec,rfl⟩:=zip_get hd;obtain ⟨hh,dc⟩:=hcs.2 i b c eb ec;walk_at "rk";refine ⟨⟨CO (Nat.le_succ_of_le dc),s1.2.2 b (List.mem_of_getElem? eb)⟩,λ M3 e3=>?_⟩;rw [XM (Nat.le_succ_of_le dc),hh];walk_at "rk";exact ⟨_,_,rfl,e1.trans (Jb.ext e3)⟩
  ·rintro U M' ⟨k4,k5,rfl,e1⟩;subst_vars;walk_at "rk";exact h M' e1
 ·unfold noD;walk_at "h";walk_at "h";have q:Ol (PyData.tuple [PyData.str (Str.ofString "no"),PyData.tuple [PyData.int u,PyData.int v]]) (PyData.tuple [PyData.str (Str.ofString "no"),PyData.tuple [PyData.int u,PyData.int v]]) = true:=by
   unfold Ol;simp [PyData.canLay0,PyData.canLayAll0,PyData.depth,PyData.depthAll]
   decide +kernel
  refine Ou q ?_;rw [PySem.SeqAt.eqv_refl _ (by simp [PyData.canLay0,PyData.canLayAll0]; decide +kernel)];exact h _ (Jb.refl _)
theorem UP (T:Tx K mg):Qn P w K mg base CX0 34 T.Cb T.Dr ["_law_one", "_law_other_here", "_law_due"] (lift K DJ):=by
 refine okD T.Uj.F GZ (λ xs M Φ h=>by obtain ⟨_,_,_,rfl,_⟩:=Z0 h; rfl) λ cdv A outer s H E hr=>⟨_,(Ze (Zq 3 GZ.nd (cO T.J7 (J0 T) hr (Za (Zb 0) (Za (Zb 1) Zd))))
 (Ze (ZS (Qi (Qj (RB [0,1,2,3] (cO T.EI (Dj T) hr (Za (Zb 0) (Za (Zb 1) (Za (Zb 2) (Za (Zb 3) Zd)))))))) (Zg (Zl QC)) Zs)
 (Ze (ZS (Zw (QY hr) (Ku (Zb 3) Zc) QP) (Ze (Q1 (BG (Ku (Zb 3) Zc)))
 (Zg (Q1 (QX (Ku (Zb 3) Zc) NS)))) Zs)
 (Zg (Zl (cO T.EI (Dj T) hr (Za (Zb 0) (Za (Zb 1) (Za (Zb 2) (Za (Sb (cO T.J7 (J0 T) hr (Za (Zb 0) (Za (Zb 1) Zd)))) Zd)))))))))),λ xs M Φ h=>?_⟩
 replace h:=Z0 h;obtain ⟨x1,x2,x3,rfl,h⟩:=h;replace h:=Z1 h;obtain ⟨b1,rfl,h⟩:=h;replace h:=Z1 h;obtain ⟨b2,rfl,h⟩:=h;replace h:=Qr h;obtain ⟨due,rfl,⟨⟨s1,s2⟩,hd⟩,h⟩:=h;walk_at "h";refine ⟨⟨s1,s2⟩,λ hc cs hcs q hq=>?_,λ u v hl=>?_⟩
 ·have ed:due = .none:=by
   rcases hd with ⟨e,_⟩ | ⟨u,v,_,hl⟩
   ·exact e
   ·exact (hl.PJ (Y2 hc)).elim
  subst ed;have k1:Jb M (ZD M q (.lst (cs.map cvD))):=(Jb.refl M).new hq;walk_at "h";refine ⟨_,.dat _,?_⟩;walk_at "rk";refine ⟨_,.dat _,?_⟩;walk_at "rk";refine ⟨_,.dat _,?_⟩;walk_at "rk";refine ⟨Zel cs,.mix (.cons (.dat _) (.cons (.lst Zu) .nil)),?_⟩;walk_at "rk";refine ⟨⟨⟨s1,s2⟩,.inl ⟨rfl,cs,rfl,hcs⟩⟩,λ M' _=>?_⟩;walk_at "h";refine ⟨_,rfl,?_⟩;walk_at "rk";refine ⟨_,rfl,?_⟩;walk_at "rk";refine ⟨_,rfl,?_⟩;walk_at "rk";refine ⟨by rw [List.length_reverse,List.length_map,hcs.1]; have:=s1.2.1; lia,?_⟩;have k2:Jb M (ZD M q (.lst ((cs.map cvD).reverse ++ [.none]))):=(Jb.refl M).new hq;generalize ZD M q (.lst ((cs.map cvD).reverse ++ [.none])) = M2 at k2 ⊢;subst_vars;walk_at "rk";refine ⟨⟨s1,s2⟩,λ _ cs2 hcs2 q2 hq2=>?_,λ u v hl=>(hl.PJ (Y2 hc)).elim⟩;walk_at "rk";exact ⟨⟨⟨s1,s2⟩,.inl ⟨rfl,cs2,rfl,hcs2⟩⟩,λ M' k=>h M' ((k2.del hq2).trans k)⟩
 ·have ed:due = .tuple [.int u,.int v]:=by
   rcases hd with ⟨_,e⟩ | ⟨u',v',e,hl'⟩
   ·exact (hl.PJ e).elim
   ·have a1:=hl.2 u' v' hl'.1.1 hl'.1.2;have a2:=hl'.2 u v hl.1.1 hl.1.2;rw [e,show u' = u by lia,show v' = v by lia]
  subst ed;walk_at "h";refine ⟨_,.dat _,?_⟩;walk_at "rk";refine ⟨_,.dat _,?_⟩;walk_at "rk";refine ⟨_,.dat _,?_⟩;walk_at "rk";refine ⟨_,.dat _,?_⟩;walk_at "rk";refine ⟨⟨⟨s1,s2⟩,.inr ⟨u,v,rfl,rfl⟩⟩,λ M' _=>?_⟩;walk_at "hd";unfold noD;walk_at "rk";refine ⟨_,rfl,?_⟩;walk_at "rk";rw [show decide (Str.ofString "no" = Str.ofString "yes") = false by decide +kernel];subst_vars;walk_at "rk";refine ⟨⟨s1,s2⟩,λ hc=>(hl.PJ (Y2 hc)).elim,λ u2 v2 hl2=>?_⟩;walk_at "rk";have a1:=hl.2 u2 v2 hl2.1.1 hl2.1.2;have a2:=hl2.2 u v hl.1.1 hl.1.2;exact ⟨⟨⟨s1,s2⟩,.inr ⟨u,v,rfl,by rw [show u2 = u by lia,show v2 = v by lia]⟩⟩,λ M' k=>h M' k⟩
theorem QB (T:Tx K mg):Qn P w K mg base CX0 35 T.VP T.VU ["_law_first", "_law_second", "_law_frame_here"] (lift K Ni):=by
 refine okD T.Qq.F Qg (λ xs M Φ h=>by obtain ⟨_,_,_,rfl,_⟩:=Z0 h; rfl) λ cdv A outer s H E hr=>⟨_,(Ze (Zq 3 Qg.nd (Qe (Za (cO T.Ey (Fw T) hr (Za (Zb 0) (Za (Zb 2) Zd))) (Za (cO T.Ey (Fw T) hr (Za (Zb 1) (Za (Zb 2) Zd))) Zd))))
 (Ze (Zq 4 Qg.nd (Sl 0 (Za (cO T.UE (U5 T) hr (Za (Zb 0) Zd)) (Za (cO T.UE (U5 T) hr (Za (Zb 1) Zd)) Zd))))
 (Ze (ZS (Qi (Qj (cO T.Uj (UP T) hr (Za (Zf (Zb 3) Zc) (Za (Zf (Zb 3) Zc) (Za (cO T.WZ (UZ T) hr (Za (Xn (Zb 4) Zc) (Za (Xn (Zb 4) Zc) (Za (Zb 2) Zd)))) Zd)))))) (Zg (Zl QC)) Zs)
 (Ze (ZS (Qi (Qj (cO T.Uj (UP T) hr (Za (Zf (Zb 3) Zc) (Za (Zf (Zb 3) Zc) (Za (cO T.WZ (UZ T) hr (Za (Xn (Zb 4) Zc) (Za (Xn (Zb 4) Zc) (Za (Zb 2) Zd)))) Zd)))))) (Zg (Zl QC)) Zs)
 (Ze (Zq 5 Qg.nd (JH (QY hr) (Zi (Xo hr) rfl T.Kb Ww (Za (Xn (Zb 4) Zc) Zd)) (Zi (Xo hr) rfl T.Kb Ww (Za (Xn (Zb 4) Zc) Zd))))
 (Ze (WH (Zm (Za (cO T.X8 (XF T) hr (Za (Zf (Zb 3) Zc) (Za (Zf (Zb 3) Zc) Zd))) (Za (cO T.X8 (XF T) hr (Za (Zf (Zb 3) Zc) (Za (Zf (Zb 3) Zc) Zd))) Zd))) (Zk 6 Qg.nd) (Zg (ZS (DW.dt (Ve (Qi (Qj (Zi (YS (Gv _)) rfl T.ZY ZQ (Za (Zb 6) (Za (Ug rfl T.Of Fj) Zd))))) (JK (Zw (Ul hr) (Zb 6) (Zb 5))))) (Zg (Zl QC)) Zs)) PassesOwn.never rfl)
 (Zg (Zl (JH ZaM (cO T.X8 (XF T) hr (Za (Zf (Zb 3) Zc) (Za (Zf (Zb 3) Zc) Zd))) QC))))))))),λ xs M Φ h=>?_⟩
 replace h:=Z0 h;obtain ⟨x1,x2,x3,rfl,h⟩:=h;replace h:=VB h;obtain ⟨b1,rfl,h⟩:=h;replace h:=VB h;obtain ⟨b2,rfl,h⟩:=h;replace h:=Uu h;obtain ⟨t,ox,oy,rfl,⟨g1,g2,hf⟩,h⟩:=h;walk_at "h";refine ⟨g1,g2,?_⟩;walk_at "h";refine ⟨g1,λ l1 ks1 n1 c1=>⟨g2,λ l2 ks2 n2 c2=>⟨rfl,λ p hp=>?_⟩⟩⟩;have ne:l2 ≠ l1:=λ z=>by rw [z,Zu] at n2; cases n2
 rw [Zz ne] at n2;have p2:p ≠ l2:=λ z=>by rw [z,Zu] at hp; cases hp
 rw [Zz p2] at hp;have p1:p ≠ l1:=λ z=>by rw [z,Zu] at hp; cases hp
 rw [Zz p1] at hp;have z0:Two b1 b2 M p l1 l2 (ZD (ZD (ZD M l1 (OO.dct ks1)) l2 (OO.dct ks2)) p (OO.lsv 0 [DV.own l1,DV.own l2])):=by
  refine ⟨Zu,⟨ks1,.inl ?_,c1⟩,⟨ks2,.inl ?_,c2⟩,(((Jb.refl M).new n1).new ?_).new ?_⟩
  ·rw [Zz (Ne.symm p1),Zz (Ne.symm ne),Zu]
  ·rw [Zz (Ne.symm p2),Zu]
  ·rw [Zz ne]; exact n2
  ·rw [Zz p2,Zz p1]; exact hp
 generalize ZD (ZD (ZD M l1 (OO.dct ks1)) l2 (OO.dct ks2)) p (OO.lsv 0 [DV.own l1,DV.own l2]) = M0 at z0 ⊢;have ss:=And.intro (OA hf g1) (OA hf g2);walk_at "h";rw [z0.1,J8];refine ⟨_,rfl,?_⟩;walk_at "rk";refine ⟨_,rfl,?_⟩;walk_at "rk";refine ⟨b1,b2,⟨⟨z0.2.1,z0.2.2.1,Ne.symm ne⟩,g1,hf⟩,λ d M1 hL hT hO=>?_⟩;have z1:Two b1 b2 M p l1 l2 M1:=⟨by rw [hO p p1]; exact z0.1,hT,z0.2.2.1.eq (hO l2 ne),z0.2.2.2.off n1 hO⟩
 walk_at "rk";refine ⟨⟨ss,Ep hf hL⟩,λ M2 k2=>?_⟩;replace z1:=z1.kp k2;walk_at "h";rw [z1.1,J8];refine ⟨_,rfl,?_⟩;walk_at "rk";refine ⟨_,rfl,?_⟩;walk_at "rk";refine ⟨b2,b1,⟨⟨z1.2.2.1,z1.2.1,ne⟩,g2,hf⟩,λ d' M3 hL' hT' hO'=>?_⟩;have z3:Two b1 b2 M p l1 l2 M3:=⟨by rw [hO' p p2]; exact z1.1,z1.2.1.eq (hO' l1 (Ne.symm ne)),hT',z1.2.2.2.off n2 hO'⟩
 walk_at "rk";refine ⟨⟨⟨ss.2,ss.1⟩,Ep hf hL'⟩,λ M4 k4=>?_⟩;replace z3:=z3.kp k4;walk_at "h";rw [z3.1,J8];refine ⟨_,rfl,?_⟩;walk_at "rk";refine z3.2.1.on λ ks3 c3=>⟨Kf c3,λ d1 q1 s1=>?_⟩;refine ⟨_,rfl,?_⟩;walk_at "rk";refine z3.2.2.1.on λ ks4 c4=>⟨Kf c4,λ d2 q2 s2=>?_⟩;obtain ⟨ok,hs⟩:=UG c3 c4 q1 s1 q2 s2;refine Ou ok ?_;generalize (PyData.list d1).eqv (PyData.list d2) = e at hs ⊢;rw [<- EJ (ox:=ox) (oy:=oy) hf.1.1 b1 b2] at hs;walk_at "h";refine ⟨ss,λ c1 M5 h5 k5=>⟨⟨ss.2,ss.1⟩,λ c2 M6 h6 k6=>?_⟩⟩;have e1:c1 = e:=Bool.eq_iff_iff.mpr (h5.trans hs.symm);have e2:c2 = e:=Bool.eq_iff_iff.mpr (h6.trans (Iff.trans ⟨λ z u v=>(z u v).symm,λ z u v=>(z u v).symm⟩ hs.symm));have k7:Jb M M6:=(z3.2.2.2.trans k5).trans k6;clear h5 h6 hs;subst e1;subst e2;subst_vars;refine ZcA ?_;cases c2
 ·walk_at "rk";refine ⟨⟨ss.1,ss.1⟩,λ c M7 h7 k8=>?_⟩;rw [show c = true from h7.mpr λ _ _=>trivial];exact h _ (k7.trans k8)
 ·walk_at "rk";refine ⟨⟨ss.1,ss.1⟩,λ c M7 h7 k8=>?_⟩;rw [show c = true from h7.mpr λ _ _=>trivial];exact h _ (k7.trans k8)
theorem ZaR (T:Tx K mg):Qn P w K mg base CX0 36 T.Zah T.Zbo ["_law_script"] (lift K FH):=by
 refine okD T.o_law.F Xq (λ xs M Φ ⟨ns,e,_⟩=>by rw [e]; rfl) λ cdv A outer s H E hr=>⟨_,(Ze (JW rfl T.Jm (Za (Zi (Vs rfl) rfl T.Wj VT (Za Zc (Za (Zi (JQ rfl) rfl T.Yi Je (Za (Zi Qa rfl T.QU Z8 (Za (Zb 0) Zd)) (Za Zc Zd))) Zd))) Zd) (Zk 1 Xq.nd) (Ze (Zq 2 Xq.nd (cO T.ZaJ (Zcu T) hr (Za (Zb 0) (Za (Zb 1) Zd))))
 (Ze (Zq 3 Xq.nd (cO T.XD (XQ T) hr (Za (Zb 2) Zd)))
 (Ze (Zq 4 Xq.nd (cO T.K3 (Bt T) hr (Za (Zb 2) Zd)))
 (Ze (Zq 5 Xq.nd (cO T.CT (F4 T) hr (Za (Zb 2) (Za (Zb 3) Zd))))
 (Ze (ZS (DW.dt (Ve (Qi (Qj (cO T.Qq (QB T) hr (Za (Zb 3) (Za (Zb 5) (Za (Zb 4) Zd)))))) (JK (Qi (Qj (cO T.Qq (QB T) hr (Za (Zb 3) (Za (Zb 3) (Za (Zb 4) Zd))))))))) (Zg (Zl QC)) Zs)
 (Ze (ZS (Qi (Qj (cO T.Qq (QB T) hr (Za (Zb 5) (Za (cO T.XD (XQ T) hr (Za (Zb 2) Zd)) (Za (Zb 4) Zd)))))) (Zg (Zl QC)) Zs)
 (Zg (ZS (Qi (Qj (cO T.Qq (QB T) hr (Za (Zb 3) (Za (cO T.Xr (Ur T) hr (Za (Zb 3) Zd)) (Za (Zb 4) Zd)))))) (Zg (Zl QC)) Zs)))))))) PassesOwn.never rfl)
 (Zg (Zl QC))),λ xs M Φ ⟨ns,e,hn,h⟩=>?_⟩
 subst e;walk_at "h";rw [List.length_map];refine ⟨⟨by lia,by lia⟩,λ i U M'=>∃ k1 k2 k3 k4 k5:Option DV,U = [some (.dat (.list (ns.map PyData.int))),k1,k2,k3,k4,k5],⟨none,none,none,none,none,rfl⟩,?_,?_⟩
 ·rintro i U M' hi ⟨k1,k2,k3,k4,k5,rfl⟩;rw [Vj];walk_at "h";refine ⟨by lia,λ p o hp ho=>?_⟩;walk_at "h";refine ⟨Pen.ZD ho,λ bs M1 hg hP=>?_⟩;walk_at "h";refine ⟨hP,λ t ox oy M2 hf hP2=>?_⟩;walk_at "h";refine ⟨⟨hg,hP2⟩,λ cs M3 hg2 hP3=>?_⟩;walk_at "h";refine ⟨⟨hg,hg2,hf⟩,λ M4 q4=>⟨⟨hg,hg,hf⟩,λ M5 q5=>?_⟩⟩;have hP5:=(hP3.kp q4).kp q5;walk_at "h";refine ⟨hP5,λ ds M6 hg3 hP6=>⟨⟨hg2,hg3,hf⟩,λ M7 q7=>?_⟩⟩;subst_vars;walk_at "rk";refine ⟨hg,λ es hg4=>⟨⟨hg,hg4,hf⟩,λ M8 q8=>?_⟩⟩;exact ⟨_,_,_,_,_,rfl⟩
 ·rintro U M' ⟨k1,k2,k3,k4,k5,rfl⟩;subst_vars;walk_at "rk";exact h _
end
def Ow (K:Fk) (x:Str) (st:Stmt) (f:Addr) (fd:FuncData):Prop:=PySem.W.nsIn K mainGlobals x = some (some (.ref f)) /\ Fun K x x st f fd
theorem ZT {od an:Option Addr} {sl:Array (Option Value)} {oc kV dc pm cd ct:Value} (a:PySem.W.nsIn K mainGlobals x = some (some (.ref f))) (l:K.lookup f = some ⟨oc,od,.func (PySem.W.fnOf x x (JS st) (QR st) (Zh st) .none kV dc pm an cd ct),sl⟩) (c:PySem.W.codeIn K cd x = true) (k:PySem.W.keepIn K (.ref f) = true):Ow K x st f (PySem.W.fnOf x x (JS st) (QR st) (Zh st) .none kV dc pm an cd ct):=⟨a,TN l c k⟩
theorem ZC {ps:List Str} (X:K.In h) (G:h.Ns mainGlobals mg) (o:Ow K x st f fd) (b:∀ (kV doc pm:Value) (an:Option Addr) (cdv ct:Value) (us:List Value),us.length = ps.length->bindArgs (PySem.W.fnOf x x (JS st) (QR st) (Zh st) .none kV doc pm an cdv ct) ⟨us,[]⟩ = pure (ps.zip us)):Own K mg x st ps f fd:=⟨o.2,PySem.W.mg_of X G o.1,o.2.binds b⟩
theorem ln1 {α:Type} {P:List α->Prop} (h:∀ a0,P [a0]) (l:List α) (e:l.length = 1):P l:=by
 match l,e with
 | [a0],_=>exact h a0
theorem ln2 {α:Type} {P:List α->Prop} (h:∀ a0 a1,P [a0,a1]) (l:List α) (e:l.length = 2):P l:=by
 match l,e with
 | [a0,a1],_=>exact h a0 a1
theorem ln3 {α:Type} {P:List α->Prop} (h:∀ a0 a1 a2,P [a0,a1,a2]) (l:List α) (e:l.length = 3):P l:=by
 match l,e with
 | [a0,a1,a2],_=>exact h a0 a1 a2
theorem ln4 {α:Type} {P:List α->Prop} (h:∀ a0 a1 a2 a3,P [a0,a1,a2,a3]) (l:List α) (e:l.length = 4):P l:=by
 match l,e with
 | [a0,a1,a2,a3],_=>exact h a0 a1 a2 a3
theorem all_mk {l:PySem.W.OpenLaw} {w:World} {fa:Addr} (X:K.In h) (G:h.Ns mainGlobals mg) (hfa:mg "law" = some (.ref fa))
  {f0 f1 f2 f3 f4 f5 f6 f7 f8 f9 f10 f11 f12 f13 f14 f15 f16 f17 f18 f19 f20 f21 f22 f23 f24 f25 f26 f27 f28 f29 f30 f31 f32 f33 f34 f35 f36:Addr} {d0 d1 d2 d3 d4 d5 d6 d7 d8 d9 d10 d11 d12 d13 d14 d15 d16 d17 d18 d19 d20 d21 d22 d23 d24 d25 d26 d27 d28 d29 d30 d31 d32 d33 d34 d35 d36:FuncData}
  (o0:Ow K "has_spots" JL f0 d0)
  (o1:Ow K "has" O5 f1 d1)
  (o2:Ow K "has_all" YB f2 d2)
  (o3:Ow K "steps_to" VA f3 d3)
  (o4:Ow K "steps_between" QJ f4 d4)
  (o5:Ow K "gap" Pp f5 d5)
  (o6:Ow K "up_to" Us f6 d6)
  (o7:Ow K "onward_from" Q4 f7 d7)
  (o8:Ow K "common" XJ f8 d8)
  (o9:Ow K "cut_out" JY f9 d9)
  (o10:Ow K "left_over" JO f10 d10)
  (o11:Ow K "covered" JV f11 d11)
  (o12:Ow K "cover_of" Vn f12 d12)
  (o13:Ow K "cut_places" QN f13 d13)
  (o14:Ow K "within" Ju f14 d14)
  (o15:Ow K "alike" Uo f15 d15)
  (o16:Ow K "_law_pen" PH f16 d16)
  (o17:Ow K "_law_draw" EO f17 d17)
  (o18:Ow K "_law_hole" Ga f18 d18)
  (o19:Ow K "_law_box" RO f19 d19)
  (o20:Ow K "_law_boxes" Ui f20 d20)
  (o21:Ow K "_law_frame" Vd f21 d21)
  (o22:Ow K "_law_laid" Cw f22 d22)
  (o23:Ow K "_law_cells" UB f23 d23)
  (o24:Ow K "_law_has" WY f24 d24)
  (o25:Ow K "_law_parts" WR f25 d25)
  (o26:Ow K "_law_whole" UA f26 d26)
  (o27:Ow K "_law_leaf_holds" Jr f27 d27)
  (o28:Ow K "_law_holds" W3 f28 d28)
  (o29:Ow K "_law_other" X0 f29 d29)
  (o30:Ow K "_law_touch" Uc f30 d30)
  (o31:Ow K "_law_least" Kc f31 d31)
  (o32:Ow K "_law_right" Ua f32 d32)
  (o33:Ow K "_law_told" Ec f33 d33)
  (o34:Ow K "_law_pair_right" Jf f34 d34)
  (o35:Ow K "_law_mirrored" QG f35 d35)
  (o36:Ow K "law" Pt f36 d36)
  (z0:PySem.W.nsIn K mainGlobals "abs" = some none)
  (z1:PySem.W.nsIn K mainGlobals "bool" = some none)
  (z2:PySem.W.nsIn K mainGlobals "int" = some none)
  (z3:PySem.W.nsIn K mainGlobals "isinstance" = some none)
  (z4:PySem.W.nsIn K mainGlobals "len" = some none)
  (z5:PySem.W.nsIn K mainGlobals "list" = some none)
  (z6:PySem.W.nsIn K mainGlobals "max" = some none)
  (z7:PySem.W.nsIn K mainGlobals "min" = some none)
  (z8:PySem.W.nsIn K mainGlobals "range" = some none)
  (z9:PySem.W.nsIn K mainGlobals "set" = some none)
  (z10:PySem.W.nsIn K mainGlobals "sorted" = some none)
  (z11:PySem.W.nsIn K mainGlobals "tuple" = some none)
  (z12:PySem.W.nsIn K mainGlobals "zip" = some none) :
  ∃ fd:FuncData,(∀ (s:Shared) (v:Value),BindsTo s fd ⟨[v],[]⟩ [("_law_script",v)]) /\ ∀ base:Heap,K.In base->base.Ns mainGlobals mg->Qn l.prog w K mg base CX0 36 fa fd ["_law_script"] (lift K FH):=by
 have e:=hfa.symm.trans (PySem.W.mg_of X G o36.1);cases e;obtain ⟨_,_,_,_,_,_,_,_,_,rfl,_,_⟩:=o36.2.ex
 let T:Tx K mg:=⟨_,_,ZC X G o0 λ _ _ _ _ _ _=>ln1 λ _=>rfl,_,_,ZC X G o1 λ _ _ _ _ _ _=>ln2 λ _ _=>rfl,_,_,ZC X G o2 λ _ _ _ _ _ _=>ln2 λ _ _=>rfl,_,_,ZC X G o3 λ _ _ _ _ _ _=>ln2 λ _ _=>rfl,_,_,ZC X G o4 λ _ _ _ _ _ _=>ln2 λ _ _=>rfl,_,_,ZC X G o5 λ _ _ _ _ _ _=>ln3 λ _ _ _=>rfl,_,_,ZC X G o6 λ _ _ _ _ _ _=>ln3 λ _ _ _=>rfl,_,_,ZC X G o7 λ _ _ _ _ _ _=>ln3 λ _ _ _=>rfl,_,_,ZC X G o8 λ _ _ _ _ _ _=>ln2 λ _ _=>rfl,_,_,ZC X G o9 λ _ _ _ _ _ _=>ln2 λ _ _=>rfl,_,_,ZC X G o10 λ _ _ _ _ _ _=>ln2 λ _ _=>rfl,_,_,ZC X G o11 λ _ _ _ _ _ _=>ln2 λ _ _=>rfl,_,_,ZC X G o12 λ _ _ _ _ _ _=>ln2 λ _ _=>rfl,_,_,ZC X G o13 λ _ _ _ _ _ _=>ln3 λ _ _ _=>rfl,_,_,ZC X G o14 λ _ _ _ _ _ _=>ln2 λ _ _=>rfl,_,_,ZC X G o15 λ _ _ _ _ _ _=>ln2 λ _ _=>rfl,_,_,ZC X G o16 λ _ _ _ _ _ _=>ln2 λ _ _=>rfl,_,_,ZC X G o17 λ _ _ _ _ _ _=>ln2 λ _ _=>rfl,_,_,ZC X G o18 λ _ _ _ _ _ _=>ln1 λ _=>rfl,_,_,ZC X G o19 λ _ _ _ _ _ _=>ln2 λ _ _=>rfl,_,_,ZC X G o20 λ _ _ _ _ _ _=>ln1 λ _=>rfl,_,_,ZC X G o21 λ _ _ _ _ _ _=>ln1 λ _=>rfl,_,_,ZC X G o22 λ _ _ _ _ _ _=>ln2 λ _ _=>rfl,_,_,ZC X G o23 λ _ _ _ _ _ _=>ln1 λ _=>rfl,_,_,ZC X G o24 λ _ _ _ _ _ _=>ln2 λ _ _=>rfl,_,_,ZC X G o25 λ _ _ _ _ _ _=>ln3 λ _ _ _=>rfl,_,_,ZC X G o26 λ _ _ _ _ _ _=>ln1 λ _=>rfl,_,_,ZC X G o27 λ _ _ _ _ _ _=>ln3 λ _ _ _=>rfl,_,_,ZC X G o28 λ _ _ _ _ _ _=>ln3 λ _ _ _=>rfl,_,_,ZC X G o29 λ _ _ _ _ _ _=>ln2 λ _ _=>rfl,_,_,ZC X G o30 λ _ _ _ _ _ _=>ln2 λ _ _=>rfl,_,_,ZC X G o31 λ _ _ _ _ _ _=>ln3 λ _ _ _=>rfl,_,_,ZC X G o32 λ _ _ _ _ _ _=>ln3 λ _ _ _=>rfl,_,_,ZC X G o33 λ _ _ _ _ _ _=>ln4 λ _ _ _ _=>rfl,_,_,ZC X G o34 λ _ _ _ _ _ _=>ln3 λ _ _ _=>rfl,_,_,ZC X G o35 λ _ _ _ _ _ _=>ln1 λ _=>rfl,_,_,ZC X G o36 λ _ _ _ _ _ _=>ln1 λ _=>rfl,PySem.W.mg_none_of X G z0,PySem.W.mg_none_of X G z1,PySem.W.mg_none_of X G z2,PySem.W.mg_none_of X G z3,PySem.W.mg_none_of X G z4,PySem.W.mg_none_of X G z5,PySem.W.mg_none_of X G z6,PySem.W.mg_none_of X G z7,PySem.W.mg_none_of X G z8,PySem.W.mg_none_of X G z9,PySem.W.mg_none_of X G z10,PySem.W.mg_none_of X G z11,PySem.W.mg_none_of X G z12⟩
 exact ⟨_,λ s v=>.of_eq rfl,λ base _ _=>ZaR T⟩
theorem walk {l:PySem.W.OpenLaw} {q:Program} {loose:List Str} {XP:(Str->Option Value)->Heap->Prop} {YP:World->Heap->Prop} {d:DefRec} {K:Params->Fk} (hn:l.most = some 63) (hdf:d.params.defaults = [])
  (hY:∀ (w:World) (h:Heap),YP w h->(K w.params).In h)
  (F:∀ (w:World) (mg:Str->Option Value) (fa:Addr) (h:Heap),(K w.params).In h->h.Ns mainGlobals mg->mg d.name = some (.ref fa) ->
   ∃ fd:FuncData,(∀ (s:Shared) (u:Value),BindsTo s fd ⟨[u],[]⟩ [("_law_script",u)]) /\ ∀ base:Heap,(K w.params).In base->base.Ns mainGlobals mg->Qn l.prog w (K w.params) mg base CX0 36 fa fd ["_law_script"] (lift (K w.params) FH)) :
  PySem.W.WalkO q loose XP YP l.row.toRowW d [] (λ f vs=>PySem.call f vs):=
 L2.Sn (n:=63) (k:=36) (x := "_law_script") (CX:=λ _=>CX0) (sp:=λ w=>lift (K w.params) FH) hn (by decide) hdf ⟨rfl,by decide,by decide,rfl⟩ hY F
  (λ w H a ns hl hO hS=>EH hl hO hS) λ _ _ _ _ _ z=>z
end My
set_option genInjectivity false in
structure PySem.W.Fast:Prop where
 (tw7860091628740159417 tw4705657677324713168 tw16730941540926558539 tw1476622640118686474 tw3593360861134688381 tw4767150609453613315 tw12078934184709389977 tw4006603043621723985 tw15061361818199623473 tw17457952485144101320 tw16212706423169089047 tw3095195697577081194 tw14400712326154861032 tw12758074942173032741 tw158161172817408793 tw10533661915290266314 tw13913849803493671989 tw15293938094286476041 tw11781210246061428117 tw16734744940140312237 tw3083131799003477742 tw2329783573789461284 tw16638926218515621516 tw7268857575904674596 tw18252772396662721945 tw14713456211018507880 tw534151273342368903 tw9904289896705076875 tw12445531487682264054 tw13482569326701259582 tw10216913214762250847 tw1312784387723891844 tw4327277165645223300 tw14759202436780498466 tw12442353924083940978 tw3253985645386056336 tw1545940309029495728 tw11797577378024455405 tw951235150716466124 tw17855245424980411237 tw6376747984565923952 tw253402187992302194 tw14188944190401201897 tw9064839160119392636 tw8407348617541099347 tw8822076727256166086 tw14849599072891507874 tw6980260635996605931 tw222856830157249990 tw7181512402616070566 tw5962933832177016445 tw10318646932774925471 tw14308662502609729682 tw13922733811518809086 tw2268197442296623912 tw17016069945708659378 tw740582764286645038 tw932498485643853784 tw18175507389212031940 tw2644648927398501825 tw6276449917310835366 tw8376248488579305807 tw7406634279469753401 tw2394533877160624096 tw10066391608501323899 tw8499882124745111777 tw3328161104247869269 tw4797267511012963720 tw5510826707980307076 tw8281931344829905845 tw11865830861450772022 tw2546913980277055533 tw5456383673253805761 tw10111489126141705213 tw14807263388762852412 tw15449576754044257022 tw14996293377265592336 tw15328985762645730902 tw5036572042339391149 tw8596775990346908014 tw3642314225052345155 tw5846838119003434319 tw5695597106384798676 tw4633496224322435822 tw14339247553829874481 tw16344926436222273246 tw4701960272781336426 tw7255911965754914000 tw7063024801914257426 tw14646957454446455714 tw17940174449652816361 tw10523145598745426952 tw17471283458044964123 tw5188017672284802667 tw6714370497383249605 tw9812983469299130641 tw16486831283030696015 tw6401201347339358320 tw8735197934207364478 tw17848311760483801460 tw5144533236531401026 tw10930057412189503182 tw8460003667234802055 tw15575319924773825509 tw217428968732105203 tw17533957025768035153 tw8946385344856923425 tw9154376095636341699 tw3474397455655659404 tw10105100920867706403 tw18272585878287496322 tw4211154361468289360 tw462446099168851004 tw9865066893250089945 tw9743006270360050998 tw3040929170596102983 tw16008967489317361897 tw4194087017406079079 tw12335913122259511111 tw10552858633871206657 tw508423934904971317 tw15062729045238727375 tw7244232423506709842 tw18061027504173277216 tw15146047619672210465 tw16327793620395233252 tw17971845097686287679 tw6640254698369384417 tw15379229918150358019 tw9751484436908914095 tw17745532911162047845 tw5456712732349995313 tw10658064507522016377 tw4161806966736892478 tw9935973271004049859 tw7080395121446746386 tw9984515445951927422 tw4645021270823667006 tw3298616890424697607 tw9323191423082876974 tw4488911560387257611 tw15492777514283865625 tw7577465057855911191 tw10533013480591455511 tw10164654257595769278 tw17194555890391820373 tw6246285527948055261 tw3578209788749494627 tw6118584959866381771 tw11103040137352081108 tw10760965275527763717 tw18210405661237355157 tw8332979314862532446 tw10795486928557565392 tw414657934269566228 tw11493527479463151204 tw8691125427198822494 tw15854688364691817456 tw3794541695009896033 tw3131858256058254000 tw14337822933089970595 tw15206192795410073300 tw17978606102284058189 tw15463356954897066130 tw16185881774251873579 tw12264914235601500682 tw1096048179902910229 tw12806379183213154748 tw2860304643669786073 tw7956423692306415615 tw10361309097160660427 tw15121936816932743546 tw16445645317064082675 tw954302588111192706 tw12101259067979157936 tw13588913323519814872 tw9286661253695948870 tw16408355005646020993 tw2719143713182527657 tw8504104973769287907 tw8617381757704321969 tw17016484343847128230 tw2783021110360853309 tw12581063737696950517 tw2475985443030694838 tw12067821405072770446 tw1556564457940258244 tw8990725482703364003 tw13439638142464507184 tw15604413387536393784 tw14603441417942259841 tw1013791125381998375 tw15078937310910822875 tw17256315456139905293 tw7124554755895065534 tw14154271567457070546 tw16020059640053085189 tw5046124657086355135 tw14921295546309010352 tw7116807871774849208 tw10457186067940999663 tw18311243540287133772 tw15107426734741276369 tw1582206263338103983 tw1903183959345915811 tw15447073509028170829 tw3848451311716945125 tw155379172672302448 tw3475518832168927633 tw14371673688286086168 tw2360272647463302194 tw13368539331066031581 tw5938804356751063472 tw160250460743723043 tw12366836695741193978 tw3655020314389073666 tw14659582084173954399 tw17396037387547278502 tw3658557179170943528 tw926280227268982152 tw16696714997944297696 tw16440395822037812193 tw780282031625079225 tw394343647684695376 tw12687155751277405559 tw15088655384091824690 tw17932299489024508365:True)
open PySem.W
set_option maxRecDepth 100000 in
set_option maxHeartbeats 0 in
theorem PySem.Challenge.cw_landsentered_k15_shapes_within_shapes_holds : PySem.Challenge.rw_landsentered_k15_shapes_within_shapes.Holds := by
 w_on; o_law; k_head; (case hw => w_witness2)
 k_fill
 refine My.walk (l := PySem.Challenge.rw_landsentered_k15_shapes_within_shapes) rfl rfl (fun w h Y => PySem.W.kIn_of Y) ?F
 case F =>
  intro w mg fa h KX G hmg
  refine' My.all_mk KX G hmg (My.ZT ?_ ?_ ?_ ?_) (My.ZT ?_ ?_ ?_ ?_) (My.ZT ?_ ?_ ?_ ?_) (My.ZT ?_ ?_ ?_ ?_) (My.ZT ?_ ?_ ?_ ?_) (My.ZT ?_ ?_ ?_ ?_) (My.ZT ?_ ?_ ?_ ?_) (My.ZT ?_ ?_ ?_ ?_) (My.ZT ?_ ?_ ?_ ?_) (My.ZT ?_ ?_ ?_ ?_) (My.ZT ?_ ?_ ?_ ?_) (My.ZT ?_ ?_ ?_ ?_) (My.ZT ?_ ?_ ?_ ?_) (My.ZT ?_ ?_ ?_ ?_) (My.ZT ?_ ?_ ?_ ?_) (My.ZT ?_ ?_ ?_ ?_) (My.ZT ?_ ?_ ?_ ?_) (My.ZT ?_ ?_ ?_ ?_) (My.ZT ?_ ?_ ?_ ?_) (My.ZT ?_ ?_ ?_ ?_) (My.ZT ?_ ?_ ?_ ?_) (My.ZT ?_ ?_ ?_ ?_) (My.ZT ?_ ?_ ?_ ?_) (My.ZT ?_ ?_ ?_ ?_) (My.ZT ?_ ?_ ?_ ?_) (My.ZT ?_ ?_ ?_ ?_) (My.ZT ?_ ?_ ?_ ?_) (My.ZT ?_ ?_ ?_ ?_) (My.ZT ?_ ?_ ?_ ?_) (My.ZT ?_ ?_ ?_ ?_) (My.ZT ?_ ?_ ?_ ?_) (My.ZT ?_ ?_ ?_ ?_) (My.ZT ?_ ?_ ?_ ?_) (My.ZT ?_ ?_ ?_ ?_) (My.ZT ?_ ?_ ?_ ?_) (My.ZT ?_ ?_ ?_ ?_) (My.ZT ?_ ?_ ?_ ?_) ?_ ?_ ?_ ?_ ?_ ?_ ?_ ?_ ?_ ?_ ?_ ?_ ?_
  any_goals first | k_is | kit_is | decide +kernel
