import PyProof.Rows.All
import Wide.All
import OpenK.AllK
import Wide.FinOn
import Lean
import PyProof.EqAt
import PyProof.EqKinds
import PyProof.TupleCall
import PyProof.ReprRoads
import PyProof.EqLayable
import PyProof.NeData
import PyProof.Rows.TupDisplay
import PySem.Challenge.RW_landsentered_k45_texts_of_none
set_option Elab.async false
set_option linter.all false
set_option maxRecDepth 100000
set_option compiler.extract_closed false
set_option bootstrap.genMatcherCode false
theorem qI {p:Prop}:p=p:=propext Iff.rfl
theorem zz0 (h:True:=by first | exact .inl rfl | exact .inr rfl | assumption):True:=h
theorem zz1 (h:True:=by decide):True:=h
theorem zz2 (h:True:=by intro _; rfl):True:=h
theorem zz3 (h:True:=by rfl):True:=h
theorem zz4 (h:True:=by with_unfolding_all rfl):True:=h
theorem zz5 (h:True:=by first | exact Or.inl rfl | exact Or.inr (Or.inl rfl) | exact Or.inr (Or.inr rfl)):True:=h
theorem zz6 (h:True:=by first | exact Za3 _ | rfl):True:=h
theorem zz7 (h:True:=by intro _ _; rfl):True:=h
theorem zz8 (h:True:=by first | exact Or.inl rfl | exact Or.inr rfl):True:=h
theorem zz9 (h:True:=by first | decide | lia):True:=h
theorem zz10 (h:True:=by exact rfl):True:=h
theorem zz11 (h:True:=by first | exact .inl rfl | exact .inr rfl):True:=h
local macro_rules | `(tactic| walk_at "k")=>`(tactic| decide +kernel)
local macro_rules | `(tactic| walk_at "s")=>`(tactic| exact ⟨rfl,rfl,rfl,by walk_at "k",rfl,by walk_at "k",by walk_at "k"⟩)
local macro_rules | `(tactic| walk_at "w")=>`(tactic| (first | decide | lia))
abbrev Fk:=PySem.W.Frag
namespace L2
open PySem PySem.Spec PyProof.Rows
abbrev Key:=Sum Int Str
noncomputable def HR:Key->Value->Bool
 | .inl k,v=>Value.isInt k v
 | .inr x,v=>Value.isStrOf x v
noncomputable def Zk5 (w:World):Key->Int
 | .inl k=>hashInt k
 | .inr x=>hashStr w x
theorem Qg:∀ {k:Key} {v:Value},HR k v = true->(∃ i t,k = Sum.inl i /\ v = Value.int i t) \/ (∃ x t,k = Sum.inr x /\ v = Value.str x t)
 | .inl i,v,h=>by
  obtain ⟨t,e⟩:=Value.isInt_shape (k:=i) (v:=v) h;exact .inl ⟨i,t,rfl,e⟩
 | .inr x,v,h=>by
  obtain ⟨t,e⟩:=Value.isStrOf_shape (x:=x) (v:=v) h;exact .inr ⟨x,t,rfl,e⟩
theorem OE (i:Int) (t:Tok):HR (.inl i) (.int i t) = true:=by simp [HR,Value.isInt]
theorem LH (x:Str) (t:Tok):HR (.inr x) (.str x t) = true:=by simp [HR,Value.isStrOf]
theorem Zh1 (a b:Int):decide ((Sum.inl a:Key) = Sum.inl b) = (a == b):=by
 by_cases e:a = b
 ·subst e; simp
 ·have h:¬ (Sum.inl a:Key) = Sum.inl b:=λ q=>e (Sum.inl.inj q);rw [decide_eq_false h];exact (beq_eq_false_iff_ne.mpr e).symm
theorem Zhx (a b:Str):decide ((Sum.inr a:Key) = Sum.inr b) = decide (a = b):=by
 by_cases e:a = b
 ·subst e; simp
 ·have h:¬ (Sum.inr a:Key) = Sum.inr b:=λ q=>e (Sum.inr.inj q);rw [decide_eq_false h,decide_eq_false e]
theorem ZhU (a:Int) (b:Str):decide ((Sum.inl a:Key) = Sum.inr b) = false:=decide_eq_false (λ q=>nomatch q)
theorem Zh9 (a:Str) (b:Int):decide ((Sum.inr a:Key) = Sum.inl b) = false:=decide_eq_false (λ q=>nomatch q)
noncomputable def QB (prog:Program) (w:World):PySem.KeyKind prog w Key where
 is:=HR
 hash:=Zk5 w
 inj:=λ v a b ha hb=>by
  rcases Qg ha with ⟨i,t,rfl,rfl⟩ | ⟨x,t,rfl,rfl⟩
  ·rcases Qg hb with ⟨j,u,rfl,e⟩ | ⟨y,u,rfl,e⟩
   ·injection e with e1 _; rw [e1]
   ·exact nomatch e
  ·rcases Qg hb with ⟨j,u,rfl,e⟩ | ⟨y,u,rfl,e⟩
   ·exact nomatch e
   ·injection e with e1 _; rw [e1]
 byValue:=λ k v h=>by
  rcases Qg h with ⟨i,t,rfl,rfl⟩ | ⟨x,t,rfl,rfl⟩ <;> rfl
 pyHash:=λ hv h=>by
  rcases Qg hv with ⟨i,t,rfl,rfl⟩ | ⟨x,t,rfl,rfl⟩
  ·exact wpAny_pyHash_int h
  ·exact wpAny_pyHash_str h
 eqBool:=λ hu hv h=>by
  rcases Qg hu with ⟨i,t,rfl,rfl⟩ | ⟨x,t,rfl,rfl⟩
  ·rcases Qg hv with ⟨j,u,rfl,rfl⟩ | ⟨y,u,rfl,rfl⟩
   ·rw [Zh1] at h; exact wpAny_eqBool_int h
   ·rw [ZhU] at h; exact SeqAt.EqAt.int_str i t y u _ _ _ _ h
  ·rcases Qg hv with ⟨j,u,rfl,rfl⟩ | ⟨y,u,rfl,rfl⟩
   ·rw [Zh9] at h; exact SeqAt.EqAt.str_int x t j u _ _ _ _ h
   ·rw [Zhx] at h; exact wpAny_eqBool_str h
 «strs» := λ k x t v h=>by
  rcases Qg h with ⟨i,u,rfl,e⟩ | ⟨y,u,rfl,e⟩
  ·exact nomatch e
  ·injection e with e1 _
   subst e1;cases v <;> rfl
theorem Dn (prog:Program) (w:World) (i:Int) (t:Tok):(QB prog w).is (.inl i) (.int i t) = true:=OE i t
theorem Dg (prog:Program) (w:World) (x:Str) (t:Tok):(QB prog w).is (.inr x) (.str x t) = true:=LH x t
inductive V where
 | non | bl (b:Bool) | int (i:Int) | str (x:Str) | byt (b:Array UInt8) | flt (b:UInt64) | ref (a:Addr) | ty (n:String)
 deriving DecidableEq
def RelV:V->Value->Prop
 | .non,u=>u = Value.none
 | .bl b,u=>u = Value.bool b
 | .int i,u=>∃ t,u = Value.int i t
 | .str x,u=>∃ t,u = Value.str x t
 | .byt b,u=>∃ t,u = Value.bytes b t
 | .flt b,u=>∃ t,u = Value.float b t
 | .ref a,u=>u = Value.ref a
 | .ty n,u=>u = Value.type n
abbrev Vals:List V->List Value->Prop:=Paired RelV
theorem Vals.length {xs:List V} {us:List Value} (r:Vals xs us):xs.length = us.length:=Paired.length r
theorem Vals.get:∀ {xs:List V} {us:List Value} {i:Nat} {x:V},Vals xs us->xs[i]? = some x->∃ u,us[i]? = some u /\ RelV x u
 | _,_,_,_,.nil,e=>by simp at e
 | _,_,0,_,.cons r _,e=>by simp at e; subst e; exact ⟨_,rfl,r⟩
 | _,_,i + 1,x,.cons _ t,e=>by
  obtain ⟨u,h1,h2⟩:=Vals.get (i:=i) (x:=x) t (by simpa using e);exact ⟨u,by simpa using h1,h2⟩
theorem Vals.set {x:V} {u:Value} (r:RelV x u):∀ {xs:List V} {us:List Value} (i:Nat),Vals xs us->Vals (xs.set i x) (us.set i u)
 | _,_,_,.nil=>.nil
 | _,_,0,.cons _ t=>.cons r t
 | _,_,i + 1,.cons q t=>.cons q (Vals.set r i t)
theorem Vals.append:∀ {xs ys:List V} {us ws:List Value},Vals xs us->Vals ys ws->Vals (xs ++ ys) (us ++ ws)
 | _,_,_,_,.nil,s=>s
 | _,_,_,_,.cons r t,s=>.cons r (Vals.append t s)
theorem Vals.take:∀ {xs:List V} {us:List Value} (n:Nat),Vals xs us->Vals (xs.take n) (us.take n)
 | _,_,0,_=>.nil
 | _,_,_ + 1,.nil=>.nil
 | _,_,n + 1,.cons r t=>.cons r (Vals.take n t)
theorem Vals.drop:∀ {xs:List V} {us:List Value} (n:Nat),Vals xs us->Vals (xs.drop n) (us.drop n)
 | _,_,0,r=>r
 | _,_,_ + 1,.nil=>.nil
 | _,_,n + 1,.cons _ t=>Vals.drop n t
def Lv:Option V->Option Value->Prop
 | some v,some u=>RelV v u
 | none,none=>True
 | _,_=>False
def KV {κ:Type}:List (κ × V)->List (κ × Value)->Prop:=Paired λ (p:κ × V) (q:κ × Value)=>p.1 = q.1 /\ RelV p.2 q.2
noncomputable def kV:Key->V
 | .inl i=>.int i
 | .inr x=>.str x
inductive HO where
  | lst (xs:List V)
  | tup (xs:List V)
  | dK (kvs:List (Key × V)) | dT (kvs:List (List Key × V))
  | set (S:Int->Bool) (n:Nat)
  | ins (C dx:Addr) (fs:List (Str × V))
  | own (x:Addr)
  | xd (fs:List (Str × V))
  | met (f x:Addr)
  | rng (lo hi:Int)
  | frz (o:Obj) (u:HO)
  | tbl (ps:Array Value)
  | ext (φ:Heap->Prop)
abbrev Hp:=Addr->Option HO
noncomputable def upd (H:Hp) (a:Addr) (o:HO):Hp:=λ b=>if b = a then some o else H b
theorem Zz {H:Hp} {a:Addr} {o:HO}:upd H a o a = some o:=by unfold upd; rw [if_pos rfl]
theorem Zv {H:Hp} {a b:Addr} {o:HO} (h:b ≠ a):upd H a o b = H b:=by unfold upd; rw [if_neg h]
theorem Zca {H:Hp} {a:Addr} {o u:HO}:upd (upd H a o) a u = upd H a u:=by
 funext b; unfold upd; split <;> rfl
theorem ZO {H:Hp} {a b:Addr} {o:HO} (h:H a = some o) (h':H b = none):a ≠ b:=by
 intro e; subst e; rw [h] at h'; cases h'
section
variable (P:Program) (w:World)
def Qt (H:Hp) (h:Heap) (a:Addr):HO->Prop
 | .lst xs=>xs.length <= sizeLine /\ ∃ (its:List Value) (n:Nat),Vals xs its /\ h.get? a = some { cls:=.type "list",data:=.seq its.toArray n }
 | .tup xs=>xs.length <= sizeLine /\ ∃ its:List Value,Vals xs its /\ IsTup h a its.toArray
 | .dK kvs=>kvs.length <= sizeLine /\ (a == sysModules) = false /\ ∃ vs,KV kvs vs /\ h.DictOf (QB P w) a vs
 | .dT kvs=>kvs.length <= sizeLine /\ (a == sysModules) = false /\ ∃ xs:List (List Key × Addr × Value),
   Paired (λ (p:List Key × V) (q:List Key × Addr × Value)=>p.1 = q.1 /\ H q.2.1 = some (.tup (p.1.map kV)) /\ RelV p.2 q.2.2) kvs xs /\
   ∃ o es ep,h.get? a = some o /\ o.ExactDict /\ o.data = .dict es ep /\ es.toList = xs.map (entryOfKey (tupleKind (QB P w))) /\ (xs.map (·.1)).Nodup
 | .set S n=>h.SetOf (intKind P w) a S n
 | .ins C dx fs=>H dx = some (.own a) /\ fs.length <= 1000 /\ dx ≠ a /\ h.get? a = some (PySem.W.instObj C dx) /\
   ∃ mA,h.Ns1 dx mA /\ (∀ f,Lv (fs.lookup f) (mA f)) /\ PySem.Within mA (fs.map (·.1))
 | .own _=>∃ o,h.get? a = some o
 | .xd fs=>∃ mA,h.Ns1 a mA /\ ∀ f,Lv (fs.lookup f) (mA f)
 | .rng lo hi=>∃ t u v,h.get? a = some { cls:=.type "range",data:=.fields #[.int lo t,.int hi u,.int 1 v] }
 | .frz o u=>h.get? a = some o /\ Qt H h a u
 | .tbl ps=>h.get? a = some { cls:=.none,data:=.fields ps }
 | .met f x=>h.get? a = some (PySem.W.methodObj (.ref f) (.ref x))
 | .ext φ=>φ h /\ (∃ o,h.get? a = some o) /\ ∀ h1 h2:Heap,φ h1->(∀ o,h1.get? a = some o->h2.get? a = some o)->φ h2
def HOk (H:Hp) (h:Heap):Prop:=∀ a o,H a = some o->Qt P w H h a o
end
section
variable {P:Program} {w:World} {H H':Hp} {h h':Heap} {a:Addr} {o:HO}
theorem Qt.lt (x:Qt P w H h a o):a < h.objs.size:=by
 cases o with
 | lst xs=>obtain ⟨_,_,_,_,e⟩:=x; exact Heap.lt_size e
 | tup xs=>obtain ⟨_,_,_,p⟩:=x; exact p.lt
 | dK kvs=>obtain ⟨_,_,_,_,o,_,_,e,_⟩:=x; exact Heap.lt_size e
 | dT kvs=>obtain ⟨_,_,_,_,o,_,_,e,_⟩:=x; exact Heap.lt_size e
 | set S n=>obtain ⟨o,_,_,_,e,_⟩:=x; exact Heap.lt_size e
 | ins C dx fs=>obtain ⟨_,_,_,e,_⟩:=x; exact Heap.lt_size e
 | own y=>obtain ⟨_,e⟩:=x; exact Heap.lt_size e
 | xd fs=>obtain ⟨_,⟨_,_,_,e,_⟩,_⟩:=x; exact Heap.lt_size e
 | rng lo hi=>obtain ⟨_,_,_,e⟩:=x; exact Heap.lt_size e
 | frz ob u=>obtain ⟨e,_⟩:=x; exact Heap.lt_size e
 | tbl ps=>exact Heap.lt_size (show h.get? a = some _ from x)
 | met f y=>exact Heap.lt_size (show h.get? a = some _ from x)
 | ext φ=>obtain ⟨_,⟨_,e⟩,_⟩:=x; exact Heap.lt_size e
theorem Paired.Zgw {α β:Type} {F G:α->β->Prop}:∀ {l₁:List α} {l₂:List β},Paired F l₁ l₂->(∀ a b,F a b->G a b)->Paired G l₁ l₂
 | _,_,.nil,_=>.nil
 | _,_,.cons r t,f=>.cons (f _ _ r) (Paired.Zgw t f)
theorem Qt.HQ (x:Qt P w H h a o) (k:∀ b u,(b = a \/ H b = some (.own a))->h.get? b = some u->h'.get? b = some u)
  (ho:∀ b,H b = some (.own a)->H' b = some (.own a)) (ht:∀ b xs,H b = some (.tup xs)->H' b = some (.tup xs)):Qt P w H' h' a o:=by
 induction o with
 | lst xs=>obtain ⟨z,its,n,r,e⟩:=x; exact ⟨z,its,n,r,k _ _ (.inl rfl) e⟩
 | tup xs=>obtain ⟨z,its,r,ob,e,c⟩:=x; exact ⟨z,its,r,ob,k _ _ (.inl rfl) e,c⟩
 | dK kvs=>obtain ⟨z,y,vs,r,ob,es,ep,e,c⟩:=x; exact ⟨z,y,vs,r,ob,es,ep,k _ _ (.inl rfl) e,c⟩
 | dT kvs=>
  obtain ⟨z,y,xs,r,ob,es,ep,e,c⟩:=x;exact ⟨z,y,xs,Paired.Zgw r λ p q z=>⟨z.1,ht _ _ z.2.1,z.2.2⟩,ob,es,ep,k _ _ (.inl rfl) e,c⟩
 | set S n=>obtain ⟨ob,es,ep,t,e,c⟩:=x; exact ⟨ob,es,ep,t,k _ _ (.inl rfl) e,c⟩
 | ins C dx fs=>
  obtain ⟨d,z,ne,e,mA,⟨od,es,ep,e2,c⟩,r⟩:=x;exact ⟨ho _ d,z,ne,k _ _ (.inl rfl) e,mA,⟨od,es,ep,k _ _ (.inr d) e2,c⟩,r⟩
 | own y=>obtain ⟨ob,e⟩:=x; exact ⟨ob,k _ _ (.inl rfl) e⟩
 | xd fs=>obtain ⟨mA,⟨od,es,ep,e,c⟩,r⟩:=x; exact ⟨mA,⟨od,es,ep,k _ _ (.inl rfl) e,c⟩,r⟩
 | rng lo hi=>obtain ⟨t,u,v,e⟩:=x; exact ⟨t,u,v,k _ _ (.inl rfl) e⟩
 | frz ob u ih=>obtain ⟨e,q⟩:=x; exact ⟨k _ _ (.inl rfl) e,ih q⟩
 | tbl ps=>
  have e:h.get? a = some { cls:=.none,data:=.fields ps }:=x;show h'.get? a = some { cls:=.none,data:=.fields ps };exact k a _ (.inl rfl) e
 | met f y=>
  have e:h.get? a = some (PySem.W.methodObj (.ref f) (.ref y)):=x;show h'.get? a = some (PySem.W.methodObj (.ref f) (.ref y));exact k a _ (.inl rfl) e
 | ext φ=>obtain ⟨p,⟨o,e⟩,st⟩:=x; exact ⟨st _ _ p λ o q=>k _ _ (.inl rfl) q,⟨o,k _ _ (.inl rfl) e⟩,st⟩
theorem HOk.lt (x:HOk P w H h) (e:H a = some o):a < h.objs.size:=(x a o e).lt
theorem HOk.fresh (x:HOk P w H h) (e:h.objs.size <= a):H a = none:=by
 cases q:H a with
 | none=>rfl
 | some u=>exact absurd (Nat.lt_of_lt_of_le (x.lt q) e) (Nat.lt_irrefl _)
theorem HOk.kept (x:HOk P w H h) (k:∀ b u,h.get? b = some u->h'.get? b = some u):HOk P w H h':=λ a o e=>
 (x a o e).HQ (λ b u _ q=>k b u q) (λ _ q=>q) λ _ _ q=>q
theorem HOk.laid (x:HOk P w H h) (k:∀ b u,h.get? b = some u->h'.get? b = some u) (hp:h.objs.size <= a) (new:Qt P w (upd H a o) h' a o):HOk P w (upd H a o) h':=λ b u e=>by
 have hn:=x.fresh hp
 by_cases hb:b = a
 ·subst hb; rw [Zz] at e; cases e; exact new
 ·rw [Zv hb] at e;exact (x b u e).HQ (λ c v _ q=>k c v q) (λ c q=>by rw [Zv (ZO q hn)]; exact q) λ c xs q=>by rw [Zv (ZO q hn)]; exact q
end
def Rd (H:Hp) (a:Addr) (u:HO):Prop:=H a = some u \/ ∃ o,H a = some (.frz o u)
theorem Rd.of {H:Hp} {a:Addr} {u:HO} (h:H a = some u):Rd H a u:=.inl h
theorem Rd.ok {P:Program} {w:World} {H:Hp} {h:Heap} {a:Addr} {u:HO} (r:Rd H a u) (x:HOk P w H h):Qt P w H h a u:=by
 rcases r with r | ⟨o,r⟩
 ·exact x a u r
 ·obtain ⟨_,q⟩:=x a _ r;exact q
def Mut:Option HO->Prop
 | some (.lst _)=>True
 | some (.dK _)=>True
 | some (.dT _)=>True
 | some (.set _ _)=>True
 | some (.ins _ _ _)=>True
 | some (.ext _)=>True
 | _=>False
section
variable {P:Program} {w:World} {H:Hp} {h h':Heap} {x e:Addr} {o':HO}
theorem HOk.write (ok:HOk P w H h) (mu:Mut (H x)) (he:e = x \/ H e = some (.own x)) (k:∀ b u,b ≠ e->h.get? b = some u->h'.get? b = some u) (heo:∃ u,h'.get? e = some u)
  (new:Qt P w (upd H x o') h' x o'):HOk P w (upd H x o') h':=λ b u q=>by
 have nown:∀ c y,H c = some (.own y)->c ≠ x:=λ c y r z=>by subst z; rw [r] at mu; exact mu
 have ntup:∀ c xs,H c = some (.tup xs)->c ≠ x:=λ c xs r z=>by subst z; rw [r] at mu; exact mu
 by_cases hb:b = x
 ·subst hb; rw [Zz] at q; cases q; exact new
 ·rw [Zv hb] at q
  by_cases hbe:b = e
  ·have q':H b = some (.own x):=by
    rcases he with z | z
    ·exact absurd (hbe.trans z) hb
    ·rw [hbe]; exact z
   rw [q] at q'; cases q';obtain ⟨v,hv⟩:=heo;exact ⟨v,by rw [hbe]; exact hv⟩
  ·refine (ok b u q).HQ (λ c v hc r=>k c v ?_ r) (λ c r=>by rw [Zv (nown c b r)]; exact r) λ c xs r=>by rw [Zv (ntup c xs r)]; exact r
   rcases hc with rfl | hc
   ·exact hbe
   ·rintro rfl
    rcases he with z | z
    ·exact nown c b hc z
    ·rw [hc] at z; cases z; exact hb rfl
end
structure Un (fs ex:List Addr) (H H':Hp) (h h':Heap):Prop where
 keep:∀ b o,h.get? b = some o->H b = none->b ∉ fs->b ∉ ex->h'.get? b = some o
 slot:∀ b o,h.get? b = some o->H b = none->b ∈ fs->b ∉ ex->∃ sl,h'.get? b = some { o with slots:=sl }
 free:∀ b o,h.get? b = some o->H b = none->b ∉ ex->H' b = none
 there:∀ b o,h.get? b = some o->b ∉ ex->∃ o',h'.get? b = some o'
 tups:∀ b xs,H b = some (.tup xs)->H' b = some (.tup xs)
 frzs:∀ b o u,H b = some (.frz o u)->H' b = some (.frz o u)
 tbls:∀ b ps,H b = some (.tbl ps)->∃ more,H' b = some (.tbl (ps ++ more))
section
variable {fs fs' ex ex':List Addr} {H H1 H2:Hp} {h h1 h2 h':Heap} {a x e:Addr} {o:HO}
theorem Un.any (u:Un fs ex H H1 h h1) {b:Addr} {ob:Obj} (q:h.get? b = some ob) (n:H b = none) (hx:b ∉ ex):∃ sl,h1.get? b = some { ob with slots:=sl }:=by
 by_cases hb:b ∈ fs
 ·exact u.slot b ob q n hb hx
 ·exact ⟨ob.slots,u.keep b ob q n hb hx⟩
theorem Un.trans (a:Un fs ex H H1 h h1) (b:Un fs ex H1 H2 h1 h2):Un fs ex H H2 h h2 where
 keep:=λ c ob q n hc hx=>b.keep c ob (a.keep c ob q n hc hx) (a.free c ob q n hx) hc hx
 slot:=λ c ob q n hc hx=>by
  obtain ⟨sl,e1⟩:=a.slot c ob q n hc hx;obtain ⟨sl',e2⟩:=b.slot c _ e1 (a.free c ob q n hx) hc hx;exact ⟨sl',e2⟩
 free:=λ c ob q n hx=>by
  obtain ⟨o',e1⟩:=a.there c ob q hx;exact b.free c o' e1 (a.free c ob q n hx) hx
 there:=λ c ob q hx=>by
  obtain ⟨o',e1⟩:=a.there c ob q hx;exact b.there c o' e1 hx
 tups:=λ c xs q=>b.tups c xs (a.tups c xs q)
 frzs:=λ c ob xs q=>b.frzs c ob xs (a.frzs c ob xs q)
 tbls:=λ c ps q=>by
  obtain ⟨m1,e1⟩:=a.tbls c ps q;obtain ⟨m2,e2⟩:=b.tbls c _ e1;exact ⟨m1 ++ m2,by rw [e2,Array.append_assoc]⟩
theorem Un.kept (k:∀ b u,h.get? b = some u->h'.get? b = some u):Un fs ex H H h h':=
 ⟨λ b ob q _ _ _=>k b ob q,λ b ob q _ _ _=>⟨ob.slots,k b ob q⟩,λ _ _ _ n _=>n,λ b ob q _=>⟨ob,k b ob q⟩,λ _ _ q=>q,λ _ _ _ q=>q,λ _ ps q=>⟨#[],by rw [q]; simp⟩⟩
theorem Un.refl:Un fs ex H H h h:=Un.kept λ _ _ q=>q
theorem Un.laid (k:∀ b u,h.get? b = some u->h'.get? b = some u) (hp:h.objs.size <= a) (hn:H a = none):Un fs ex H (upd H a o) h h' where
 keep:=λ b u q _ _ _=>k b u q
 slot:=λ b u q _ _ _=>⟨u.slots,k b u q⟩
 free:=λ b u q n _=>by rw [Zv (Nat.ne_of_lt (Nat.lt_of_lt_of_le (Heap.lt_size q) hp))]; exact n
 there:=λ b u q _=>⟨u,k b u q⟩
 tups:=λ b xs q=>by rw [Zv (ZO q hn)]; exact q
 frzs:=λ b u xs q=>by rw [Zv (ZO q hn)]; exact q
 tbls:=λ b ps q=>⟨#[],by rw [Zv (ZO q hn),q]; simp⟩
theorem Un.write (mu:Mut (H x)) (he:e = x \/ H e = some (.own x)) (k:∀ b u,b ≠ e->h.get? b = some u->h'.get? b = some u) (heo:∃ u,h'.get? e = some u):Un fs ex H (upd H x o) h h':=by
 have hx:∀ b,H b = none->b ≠ x:=λ b n z=>by subst z; rw [n] at mu; exact mu
 have hb:∀ b,H b = none->b ≠ e:=λ b n z=>by
  subst z
  rcases he with r | r
  ·exact hx b n r
  ·rw [n] at r; cases r
 have hm:∀ b u,H b = some u->¬ Mut (some u)->b ≠ x:=λ b u q nm z=>by subst z; rw [q] at mu; exact nm mu
 refine ⟨λ b u q n _ _=>k b u (hb b n) q,λ b u q n _ _=>⟨u.slots,k b u (hb b n) q⟩,λ b u q n _=>by rw [Zv (hx b n)]; exact n,λ b u q _=>?_,
  λ b xs q=>by rw [Zv (hm b _ q λ z=>z)]; exact q,λ b u xs q=>by rw [Zv (hm b _ q λ z=>z)]; exact q,λ b ps q=>⟨#[],by rw [Zv (hm b _ q λ z=>z),q]; simp⟩⟩
 by_cases hbe:b = e
 ·subst hbe; exact heo
 ·exact ⟨u,k b u hbe q⟩
end
noncomputable def trk (h:Heap) (H:Hp):List Addr:=(List.range h.objs.size).filter λ a=>(H a).isSome
noncomputable def T6 (h:Heap) (H:Hp):Heap:=PySem.W.hideAll h (trk h H)
theorem Mb (h:Heap) (H:Hp):(T6 h H).objs.size = h.objs.size:=PySem.W.hideAll_size _ _
theorem Rj {h:Heap} {H:Hp} {b:Addr} {o:Obj} (e:h.get? b = some o) (n:H b = none):(T6 h H).get? b = some o:=
 PySem.W.hideAll_get _ e λ hm=>by
  have q:(H b).isSome = true:=(List.mem_filter.mp hm).2;rw [n] at q; simp at q
theorem Zd6 {h:Heap} {H:Hp} {b:Addr} {o:Obj} (e:(T6 h H).get? b = some o):h.get? b = some o /\ H b = none:=by
 have e':h.get? b = some o:=PySem.W.of_hideAll (trk h H) e;refine ⟨e',?_⟩;cases q:H b with
 | none=>rfl
 | some x=>
  have hm:b ∈ trk h H:=List.mem_filter.mpr ⟨List.mem_range.mpr (Heap.lt_size e'),by simp [q]⟩;have z:(T6 h H).get? b = none:=PySem.W.hideAll_none (trk h H) hm;rw [z] at e; cases e
noncomputable def ZbK (g h:Heap) (L:Addr):List (Addr × Obj):=(List.range h.objs.size).filterMap λ a=>if a = L \/ (g.get? a).isSome = true then none else (h.get? a).map λ o=>(a,o)
noncomputable def rest (g h:Heap) (L d:Addr):List (Addr × Obj):=(ZbK g h L).filter λ p=>decide (p.1 ≠ d)
structure Mod (K:Fk) (mg:Str->Option Value) (base:Heap):Prop where
 kin:K.In base
 glob:base.Ns mainGlobals mg
 blt:∃ mb,base.Ns builtinsNs mb /\ ∀ x:Str,x ≠ "__name__" -> mb x = bootBuiltins x
 nolimit:base.NoLimit
structure Cx where
 prog:Program
 w:World
 K:Fk
 mg:Str->Option Value
 base:Heap
 A:Around
 N:List Str
 s₀:Shared
 H₀:Hp
 env:Env
 outer:List Env
 stack:List Env
 ex:List Addr
 fn:Str->Bool
 calm:Bool
 pn:List (Addr × Obj)
 xe:Value->Shared->Prop
noncomputable def frs (l:List Env):List Addr:=l.filterMap (·.frame)
noncomputable abbrev Cx.fs (X:Cx):List Addr:=frs X.outer
def Vis (sc:Scope) (x:Str):Prop:=sc.names.lookup x = some .local \/ sc.names.lookup x = some .cell \/ sc.names.lookup x = some .free
def Loc (sc:Scope) (x:Str):Prop:=sc.names.lookup x = some .local \/ sc.names.lookup x = some .cell
def Look (env:Env) (h:Heap) (m:Str->Option Value) (x:Str) (u:Value):Prop:=
 (env.kindOf x = some .local /\ m x = some u) \/ ((env.kindOf x = some .cell \/ env.kindOf x = some .free) /\ ∃ c,env.cells.lookup x = some c /\ h.IsCell c (some u))
structure Cx.Ok (X:Cx):Prop where
 mod:Mod X.K X.mg X.base
 kind:X.env.scope.kind = .function
 glob:X.env.globals = mainGlobals
 blt:X.env.builtins = builtinsNs
 above:X.s₀.heap.objs.size <= X.env.locals
 inj:∀ x y c,X.env.cells.lookup x = some c->X.env.cells.lookup y = some c->x = y
 has:∀ x,(X.env.kindOf x = some .cell \/ X.env.kindOf x = some .free)->∃ c,X.env.cells.lookup x = some c
 cab:∀ x c,X.fn x = true->X.env.cells.lookup x = some c->X.s₀.heap.objs.size <= c
 hd:X.calm = true->X.A.handled = none
 frames:X.A.frames = some X.stack
 stk:X.stack = X.outer \/ (X.stack = X.env :: X.outer /\ X.env.frame = some X.env.locals)
 exf:∀ b ∈ X.ex,b ≠ X.env.locals /\ ∀ x c,X.env.cells.lookup x = some c->c ≠ b
 bs:∀ b o,X.base.get? b = some o->X.s₀.heap.get? b = some o /\ X.H₀ b = none
 bsz:X.base.objs.size <= X.s₀.heap.objs.size
 noex:∀ b o,X.base.get? b = some o->b ∉ X.ex
 exfs:∀ b ∈ X.ex,b ∉ X.fs
 EV:X.s₀.heap.FunFrames X.base X.outer
 frf:∀ b ∈ X.fs,X.H₀ b = none
structure Inv (X:Cx) (pins:List (Addr × Obj)) (Z:List (Option V)) (H:Hp) (s:Shared):Prop where
 ok:X.Ok
 os:s.os = X.s₀.os
 bare:AllBare s.gens
 base:Un X.fs X.ex X.H₀ H X.s₀.heap s.heap
 loc:∃ m,s.heap.Ns X.env.locals m /\ ∀ (i:Nat) (x:Str) (v:V),X.N[i]? = some x->Z[i]? = some (some v)->Vis X.env.scope x->∃ u,RelV v u /\ Look X.env s.heap m x u
 cell:∀ x c,X.env.cells.lookup x = some c->∃ v,s.heap.IsCell c v
 free:H X.env.locals = none
 freeC:∀ x c,X.env.cells.lookup x = some c->H c = none
 pin:∀ p ∈ X.pn ++ pins,s.heap.get? p.1 = some p.2 /\ H p.1 = none /\ p.1 ≠ X.env.locals /\ p.1 ∉ X.fs /\ ∀ v,p.2.data ≠ .cell v
 hok:HOk X.prog X.w H s.heap
 len:Z.length = X.N.length
section
variable {X:Cx} {pins:List (Addr × Obj)} {Z:List (Option V)} {H H':Hp} {s:Shared} {h':Heap}
theorem Cx.Ok.Zlj (ok:X.Ok) {b:Addr} {o:Obj} (e:X.base.get? b = some o):b ∉ X.fs:=λ hb=>by
 have:=(ok.EV.mem hb).1;rw [e] at this; cases this
theorem Inv.bs (I:Inv X pins Z H s):∀ b o,X.base.get? b = some o->s.heap.get? b = some o /\ H b = none:=λ b o e=>
 ⟨I.base.keep b o (I.ok.bs b o e).1 (I.ok.bs b o e).2 (I.ok.Zlj e) (I.ok.noex b o e),I.base.free b o (I.ok.bs b o e).1 (I.ok.bs b o e).2 (I.ok.noex b o e)⟩
theorem Inv.bk (I:Inv X pins Z H s):∀ b o,X.base.get? b = some o->s.heap.get? b = some o:=λ b o e=>(I.bs b o e).1
theorem Inv.mod (I:Inv X pins Z H s):Mod X.K X.mg X.base:=I.ok.mod
theorem Inv.kIn (I:Inv X pins Z H s):X.K.In s.heap:=I.ok.mod.kin.keeps I.bk
theorem Inv.fr (I:Inv X pins Z H s):∃ m,Fr X.base X.env.locals s.heap m:=
 let ⟨m,hn,_⟩:=I.loc
 ⟨m,hn,I.bk,Nat.le_trans I.ok.bsz I.ok.above⟩
theorem Inv.lt (I:Inv X pins Z H s):X.env.locals < s.heap.objs.size:=let ⟨_,hn,_⟩:=I.loc; hn.lt
theorem Inv.sz (I:Inv X pins Z H s):X.s₀.heap.objs.size <= s.heap.objs.size:=Nat.le_trans I.ok.above (Nat.le_of_lt I.lt)
theorem Inv.Zlv (I:Inv X pins Z H s) {a:Addr} (h:s.heap.objs.size <= a):a ∉ X.fs:=λ hb=>by
 obtain ⟨_,o,ho,_⟩:=I.ok.EV.mem hb;exact absurd (Nat.lt_of_lt_of_le (Heap.lt_size ho) (Nat.le_trans I.sz h)) (Nat.lt_irrefl _)
theorem Inv.cne (I:Inv X pins Z H s):∀ x c,X.env.cells.lookup x = some c->c ≠ X.env.locals:=λ x c e z=>by
 obtain ⟨v,o,ho,hd⟩:=I.cell x c e;obtain ⟨m,⟨o',es,ep,ho',hd',_⟩,_⟩:=I.loc;rw [z,ho'] at ho; cases ho; rw [hd'] at hd; cases hd
theorem Inv.EV (I:Inv X pins Z H s):s.heap.FunFrames X.base X.outer:=by
 have all:∀ (l:List Env),(∀ b ∈ frs l,b ∈ X.fs)->X.s₀.heap.FunFrames X.base l->s.heap.FunFrames X.base l:=by
  intro l
  induction l with
  | nil=>intro _ _; trivial
  | cons env r ih=>
   intro hs hl;obtain ⟨hk,⟨L,o,hf,hn,ho,hd⟩,hr⟩:=hl;have hL:L ∈ X.fs:=hs L (by unfold frs; rw [List.filterMap_cons,hf]; exact List.mem_cons_self);obtain ⟨sl,e⟩:=I.base.slot L o ho (I.ok.frf L hL) hL λ z=>I.ok.exfs L z hL;exact ⟨hk,⟨L,_,hf,hn,e,hd⟩,ih (λ b hb=>hs b (by unfold frs; rw [List.filterMap_cons,hf]; exact List.mem_cons_of_mem _ hb)) hr⟩
 exact all X.outer (λ _ hb=>hb) I.ok.EV
theorem Inv.stack (I:Inv X pins Z H s):s.heap.FunFrames X.base X.stack:=by
 rcases I.ok.stk with e | ⟨e,hf⟩
 ·rw [e]; exact I.EV
 ·rw [e];obtain ⟨m,hn,_⟩:=I.loc;refine .cons (by rw [I.ok.kind]; decide) hf hn ?_ I.EV;exact Heap.get?_none_of_le (Nat.le_trans I.ok.bsz I.ok.above)
theorem Inv.Pf (I:Inv X pins Z H s):∀ b ∈ frs X.stack,b ∈ X.env.locals :: X.fs:=λ b hb=>by
 rcases I.ok.stk with e | ⟨e,hf⟩
 ·rw [e] at hb; exact List.mem_cons_of_mem _ hb
 ·rw [e] at hb;unfold frs at hb;rw [List.filterMap_cons,hf] at hb;exact hb
theorem Inv.C0 (I:Inv X pins Z H s):∀ b ∈ frs X.stack,H b = none:=λ b hb=>by
 rcases List.mem_cons.mp (I.Pf b hb) with e | hb
 ·rw [e]; exact I.free
 ·obtain ⟨_,o,ho,_⟩:=I.ok.EV.mem hb;exact I.base.free b o ho (I.ok.frf b hb) λ z=>I.ok.exfs b z hb
theorem Inv.step {g':Array GenState} {t':Nat} {d':Drawn} {ch:List Addr} (I:Inv X pins Z H s)
  (hch:∀ b ∈ ch,(b ∈ X.ex \/ X.s₀.heap.objs.size <= b) /\ b ≠ X.env.locals /\ (∀ x c,X.env.cells.lookup x = some c->c ≠ b) /\ ∀ p ∈ X.pn ++ pins,p.1 ≠ b)
  (keep:∀ b o,b ≠ X.env.locals->b ∉ X.fs->b ∉ ch->s.heap.get? b = some o->H b = none->h'.get? b = some o)
  (slot:∀ b o,b ≠ X.env.locals->b ∈ X.fs->b ∉ ch->s.heap.get? b = some o->H b = none->∃ sl,h'.get? b = some { o with slots:=sl }) (free:∀ b o,b ∉ ch->s.heap.get? b = some o->H b = none->H' b = none)
  (there:∀ b o,b ∉ ch->s.heap.get? b = some o->∃ o',h'.get? b = some o')
  (tups:∀ b xs,H b = some (.tup xs)->H' b = some (.tup xs)) (frzs:∀ b o u,H b = some (.frz o u)->H' b = some (.frz o u)) (tbls:∀ b ps,H b = some (.tbl ps)->∃ more,H' b = some (.tbl (ps ++ more)))
  (ns:∀ m,s.heap.Ns X.env.locals m->h'.Ns X.env.locals m) (hok:HOk X.prog X.w H' h') (hg:AllBare g') :
  Inv X pins Z H' { s with heap:=h',gens:=g',drawn:=d',toks:=t' }:=by
 have neL:∀ b o,X.s₀.heap.get? b = some o->b ≠ X.env.locals:=λ b o e=>Nat.ne_of_lt (Nat.lt_of_lt_of_le (Heap.lt_size e) I.ok.above);have neC:∀ b o,X.s₀.heap.get? b = some o->b ∉ X.ex->b ∉ ch:=λ b o e hx hb=>by
  rcases (hch b hb).1 with z | z
  ·exact hx z
  ·exact absurd (Nat.lt_of_lt_of_le (Heap.lt_size e) z) (Nat.lt_irrefl _)
 have cellK:∀ x c,X.env.cells.lookup x = some c->∀ v,s.heap.IsCell c v->h'.IsCell c v:=λ x c e v ⟨o,ho,hd⟩=>by
  have nch:c ∉ ch:=λ z=>(hch c z).2.2.1 x c e rfl
  by_cases hc:c ∈ X.fs
  ·obtain ⟨sl,q⟩:=slot c o (I.cne x c e) hc nch ho (I.freeC x c e);exact ⟨_,q,hd⟩
  ·exact ⟨o,keep c o (I.cne x c e) hc nch ho (I.freeC x c e),hd⟩
 refine ⟨I.ok,I.os,hg,⟨λ b o e n hb hx=>?_,λ b o e n hb hx=>?_,λ b o e n hx=>?_,λ b o e hx=>?_,λ b xs e=>tups b xs (I.base.tups b xs e),λ b o xs e=>frzs b o xs (I.base.frzs b o xs e),λ b ps e=>?_⟩,?_,λ x c e=>?_,?_,λ x c e=>?_,λ p hp=>?_,hok,I.len⟩
 ·exact keep b o (neL b o e) hb (neC b o e hx) (I.base.keep b o e n hb hx) (I.base.free b o e n hx)
 ·obtain ⟨sl,e1⟩:=I.base.slot b o e n hb hx;obtain ⟨sl',e2⟩:=slot b _ (neL b o e) hb (neC b o e hx) e1 (I.base.free b o e n hx);exact ⟨sl',e2⟩
 ·obtain ⟨o',e1⟩:=I.base.there b o e hx;exact free b o' (neC b o e hx) e1 (I.base.free b o e n hx)
 ·obtain ⟨o',e1⟩:=I.base.there b o e hx;exact there b o' (neC b o e hx) e1
 ·obtain ⟨m1,e1⟩:=I.base.tbls b ps e;obtain ⟨m2,e2⟩:=tbls b _ e1;exact ⟨m1 ++ m2,by rw [e2,Array.append_assoc]⟩
 ·obtain ⟨m,hn,hl⟩:=I.loc;refine ⟨m,ns m hn,λ i x v e1 e2 e3=>?_⟩;obtain ⟨u,r,l⟩:=hl i x v e1 e2 e3;refine ⟨u,r,?_⟩
  rcases l with l | ⟨k,c,e,z⟩
  ·exact .inl l
  ·exact .inr ⟨k,c,e,cellK x c e _ z⟩
 ·obtain ⟨v,z⟩:=I.cell x c e;exact ⟨v,cellK x c e v z⟩
 ·obtain ⟨m,⟨o,_,_,ho,_⟩,_⟩:=I.loc;exact free _ o (λ z=>(hch _ z).2.1 rfl) ho I.free
 ·obtain ⟨v,o,ho,hd⟩:=I.cell x c e;exact free c o (λ z=>(hch c z).2.2.1 x c e rfl) ho (I.freeC x c e)
 ·obtain ⟨e,n,ne,nf,d⟩:=I.pin p hp;have nch:p.1 ∉ ch:=λ z=>(hch p.1 z).2.2.2 p hp rfl;exact ⟨keep p.1 p.2 ne nf nch e n,free p.1 p.2 nch e n,ne,nf,d⟩
theorem Inv.un {t':Nat} (I:Inv X pins Z H s) (u:Un X.fs [] H H' s.heap h') (hok:HOk X.prog X.w H' h'):Inv X pins Z H' { s with heap:=h',toks:=t' }:=by
 obtain ⟨m,⟨o,es,ep,ho,r⟩,_⟩:=id I.loc;obtain ⟨sl,hL⟩:=u.any ho I.free (by simp)
 exact I.step (g':=s.gens) (d':=s.drawn) (ch:=[]) (λ _ z=>nomatch z) (λ b o _ hb _ e n=>u.keep b o e n hb (by simp)) (λ b o _ hb _ e n=>u.slot b o e n hb (by simp)) (λ b o _ e n=>u.free b o e n (by simp)) (λ b o _ e=>u.there b o e (by simp)) u.tups u.frzs u.tbls (λ m' hm=>by
  obtain ⟨o',es',ep',ho',r'⟩:=hm;rw [ho] at ho'; cases ho'
  exact ⟨_,es',ep',hL,r'⟩) hok I.bare
theorem Inv.call {g':Array GenState} {t':Nat} {d':Drawn} {ch:List Addr} (I:Inv X pins Z H s) (u:Un (frs X.stack) ch H H' s.heap h') (hok:HOk X.prog X.w H' h') (hg:AllBare g')
  (hch:∀ b ∈ ch,(b ∈ X.ex \/ X.s₀.heap.objs.size <= b) /\ b ≠ X.env.locals /\ (∀ x c,X.env.cells.lookup x = some c->c ≠ b) /\ ∀ p ∈ X.pn ++ pins,p.1 ≠ b) :
  Inv X pins Z H' { s with heap:=h',gens:=g',drawn:=d',toks:=t' }:=by
 obtain ⟨m,⟨o,es,ep,ho,r⟩,_⟩:=id I.loc;obtain ⟨sl,hL⟩:=u.any ho I.free λ z=>(hch _ z).2.1 rfl
 exact I.step (ch:=ch) hch (λ b o hL hb hc e n=>u.keep b o e n (λ z=>(List.mem_cons.mp (I.Pf b z)).elim hL hb) hc) (λ b o _ _ hc e n=>u.any e n hc) (λ b o hc e n=>u.free b o e n hc) (λ b o hc e=>u.there b o e hc) u.tups u.frzs u.tbls (λ m' hm=>by
  obtain ⟨o',es',ep',ho',r'⟩:=hm;rw [ho] at ho'; cases ho'
  exact ⟨_,es',ep',hL,r'⟩) hok hg
theorem Inv.turned {t':Nat} {it:Addr} (I:Inv X pins Z H s) (k:∀ b o,b ≠ it->s.heap.get? b = some o->h'.get? b = some o) (hn:H it = none) (hL:it ≠ X.env.locals)
  (h1:it ∈ X.ex \/ X.s₀.heap.objs.size <= it) (h2:∀ x c,X.env.cells.lookup x = some c->c ≠ it) (h3:∀ p ∈ X.pn ++ pins,p.1 ≠ it):Inv X pins Z H { s with heap:=h',toks:=t' }:=by
 have nit:∀ b u,H b = some u->b ≠ it:=λ b u e z=>by rw [z,hn] at e; cases e
 refine I.step (g':=s.gens) (d':=s.drawn) (ch:=[it]) (λ b hb=>?_) (λ b o _ _ hc e _=>k b o (λ z=>hc (by simp [z])) e) (λ b o _ _ hc e _=>⟨o.slots,k b o (λ z=>hc (by simp [z])) e⟩) (λ _ _ _ _ n=>n)
  (λ b o hc e=>⟨o,k b o (λ z=>hc (by simp [z])) e⟩) (λ _ _ e=>e) (λ _ _ _ e=>e) (λ b ps e=>⟨#[],by rw [e]; simp⟩) (λ m hm=>?_) (λ b u e=>?_) I.bare
 ·have e:b = it:=by simpa using hb
  subst e;exact ⟨h1,hL,h2,h3⟩
 ·obtain ⟨o,es,ep,ho,r⟩:=hm;exact ⟨o,es,ep,k _ o (Ne.symm hL) ho,r⟩
 ·refine (I.hok b u e).HQ (λ c v hc q=>k c v ?_ q) (λ _ q=>q) λ _ _ q=>q
  rcases hc with z | z
  ·rw [z]; exact nit b u e
  ·exact nit c _ z
theorem Inv.tok (I:Inv X pins Z H s) (t:Nat):Inv X pins Z H { s with toks:=t }:=I.un (h':=s.heap) (t':=t) Un.refl I.hok
theorem Inv.kept {t':Nat} (I:Inv X pins Z H s) (k:∀ b u,s.heap.get? b = some u->h'.get? b = some u):Inv X pins Z H { s with heap:=h',toks:=t' }:=I.un (Un.kept k) (I.hok.kept k)
theorem Inv.laid {a:Addr} {o:HO} {t':Nat} (I:Inv X pins Z H s) (k:∀ b u,s.heap.get? b = some u->h'.get? b = some u) (hp:s.heap.objs.size <= a) (new:Qt X.prog X.w (upd H a o) h' a o) :
  Inv X pins Z (upd H a o) { s with heap:=h',toks:=t' }:=I.un (Un.laid k hp (I.hok.fresh hp)) (I.hok.laid k hp new)
theorem Inv.write {x e:Addr} {o:HO} {t':Nat} (I:Inv X pins Z H s) (mu:Mut (H x)) (he:e = x \/ H e = some (.own x)) (k:∀ b u,b ≠ e->s.heap.get? b = some u->h'.get? b = some u) (heo:∃ u,h'.get? e = some u)
  (new:Qt X.prog X.w (upd H x o) h' x o):Inv X pins Z (upd H x o) { s with heap:=h',toks:=t' }:=I.un (Un.write mu he k heo) (I.hok.write mu he k heo new)
theorem Inv.Xi {pins':List (Addr × Obj)} (I:Inv X pins Z H s) (h:∀ p ∈ pins',s.heap.get? p.1 = some p.2 /\ H p.1 = none /\ p.1 ≠ X.env.locals /\ p.1 ∉ X.fs /\ ∀ v,p.2.data ≠ .cell v):Inv X pins' Z H s:=
 ⟨I.ok,I.os,I.bare,I.base,I.loc,I.cell,I.free,I.freeC,λ p hp=>(List.mem_append.mp hp).elim (λ z=>I.pin p (List.mem_append_left _ z)) (h p),I.hok,I.len⟩
theorem UY {N:List Str} (hN:N.Nodup) {i j:Nat} {x:Str} (a:N[i]? = some x) (b:N[j]? = some x):i = j:=by
 obtain ⟨h1,e1⟩:=List.getElem?_eq_some_iff.mp a;obtain ⟨h2,e2⟩:=List.getElem?_eq_some_iff.mp b;exact (List.getElem_inj hN).mp (e1.trans e2.symm)
theorem G1 {M:Model} {A:Around} {E:Value->Shared->Prop} {i:Nat} {x:Str} {v:V} {u:Value} {Q:Unit->Shared->Prop} (I:Inv X pins Z H s) (hN:X.N.Nodup) (hi:X.N[i]? = some x) (hx:Loc X.env.scope x) (r:RelV v u)
  (h:∀ s',Inv X pins (Z.set i (some v)) H s'->(∃ a,Heap.SameBut a s.heap s'.heap /\ (a = X.env.locals \/ X.env.cells.lookup x = some a))->Q () s') (hf:autoParam (X.fn x = true \/ X.env.scope.names.lookup x = some .local) zz0._auto_1):wpAny M A (storeName X.env x u) Q E s:=by
 obtain ⟨m,hn,hl⟩:=id I.loc;have hcls:(X.env.scope.kind == .class || (X.env.scope.kind == .module && X.env.locals != X.env.globals)) = false:=by rw [I.ok.kind]; rfl
 have hiσ:i < Z.length:=by rw [I.len]; exact (List.getElem?_eq_some_iff.mp hi).1
 have cne:=I.cne;have tracked:∀ {a:Addr} {h':Heap},(∃ o,s.heap.get? a = some o /\ H a = none)->Heap.SameBut a s.heap h'->HOk X.prog X.w H h':=λ {a h'} ha hs b ob e=>by
  obtain ⟨_,_,hfree⟩:=ha;refine (I.hok b ob e).HQ (λ c w' hc q=>(hs.2 c ?_).trans q) (λ _ q=>q) λ _ _ q=>q;rintro rfl
  rcases hc with rfl | hc
  ·rw [hfree] at e; cases e
  ·rw [hfree] at hc; cases hc
 rcases hx with hk | hk
 ·refine wpAny_storeName_local hk hn (λ h' hn' hs=>?_) hcls;obtain ⟨oL,_,_,hoL,_⟩:=id hn;refine h _ ⟨I.ok,I.os,I.bare,⟨λ b o e n hb hx=>?_,λ b o e n hb hx=>?_,I.base.free,λ b o e hx=>?_,I.base.tups,I.base.frzs,I.base.tbls⟩,⟨_,hn',λ j y v' e1 e2 e3=>?_⟩,λ y c e=>?_,I.free,I.freeC,λ p hp=>?_,tracked ⟨oL,hoL,I.free⟩ hs,by simpa using I.len⟩ ⟨_,hs,.inl rfl⟩
  ·exact (hs.2 b (Nat.ne_of_lt (Nat.lt_of_lt_of_le (Heap.lt_size e) I.ok.above))).trans (I.base.keep b o e n hb hx)
  ·obtain ⟨sl,e1⟩:=I.base.slot b o e n hb hx;exact ⟨sl,(hs.2 b (Nat.ne_of_lt (Nat.lt_of_lt_of_le (Heap.lt_size e) I.ok.above))).trans e1⟩
  ·obtain ⟨o',e1⟩:=I.base.there b o e hx;exact ⟨o',(hs.2 b (Nat.ne_of_lt (Nat.lt_of_lt_of_le (Heap.lt_size e) I.ok.above))).trans e1⟩
  ·by_cases hj:j = i
   ·subst hj;rw [hi] at e1; cases e1;rw [List.getElem?_set_self hiσ] at e2;cases e2;exact ⟨u,r,.inl ⟨hk,by simp⟩⟩
   ·rw [List.getElem?_set_ne (Ne.symm hj)] at e2;obtain ⟨u',r',q⟩:=hl j y v' e1 e2 e3;refine ⟨u',r',?_⟩
    rcases q with ⟨k,e⟩ | ⟨k,c,e,z⟩
    ·refine .inl ⟨k,?_⟩;have:y ≠ x:=λ e=>hj (UY hN e1 (e ▸ hi));simp [this,e]
    ·exact .inr ⟨k,c,e,z.sameBut hs (cne y c e)⟩
  ·obtain ⟨w',z⟩:=I.cell y c e;exact ⟨w',z.sameBut hs (cne y c e)⟩
  ·obtain ⟨e,n,ne,nf,d⟩:=I.pin p hp;exact ⟨(hs.2 p.1 ne).trans e,n,ne,nf,d⟩
 ·have hfn:X.fn x = true:=by
   rcases hf with z | z
   ·exact z
   ·rw [z] at hk; cases hk
  obtain ⟨c,hc⟩:=I.ok.has x (.inl hk);obtain ⟨w',z⟩:=I.cell x c hc;refine wpAny_storeName_cell I.ok.kind hk hc z (λ h' hc' hs=>?_);obtain ⟨oc,hoc,hocd⟩:=id z;refine h { s with heap:=h' } ⟨I.ok,I.os,I.bare,⟨λ b o e n hb hx=>?_,λ b o e n hb hx=>?_,I.base.free,λ b o e hx=>?_,I.base.tups,I.base.frzs,I.base.tbls⟩,⟨m,hn.sameBut hs (Ne.symm (cne x c hc)),λ j y v' e1 e2 e3=>?_⟩,λ y c' e=>?_,I.free,I.freeC,λ p hp=>?_,tracked ⟨oc,hoc,I.freeC x c hc⟩ hs,by simpa using I.len⟩ ⟨c,hs,.inr hc⟩
  ·exact (hs.2 b (Nat.ne_of_lt (Nat.lt_of_lt_of_le (Heap.lt_size e) (I.ok.cab x c hfn hc)))).trans (I.base.keep b o e n hb hx)
  ·obtain ⟨sl,e1⟩:=I.base.slot b o e n hb hx;exact ⟨sl,(hs.2 b (Nat.ne_of_lt (Nat.lt_of_lt_of_le (Heap.lt_size e) (I.ok.cab x c hfn hc)))).trans e1⟩
  ·obtain ⟨o',e1⟩:=I.base.there b o e hx;exact ⟨o',(hs.2 b (Nat.ne_of_lt (Nat.lt_of_lt_of_le (Heap.lt_size e) (I.ok.cab x c hfn hc)))).trans e1⟩
  ·by_cases hj:j = i
   ·subst hj;rw [hi] at e1; cases e1;rw [List.getElem?_set_self hiσ] at e2;cases e2;exact ⟨u,r,.inr ⟨.inl hk,c,hc,hc'⟩⟩
   ·rw [List.getElem?_set_ne (Ne.symm hj)] at e2;obtain ⟨u',r',q⟩:=hl j y v' e1 e2 e3;refine ⟨u',r',?_⟩
    rcases q with q | ⟨k,c',e,z'⟩
    ·exact .inl q
    ·refine .inr ⟨k,c',e,z'.sameBut hs ?_⟩;rintro rfl;exact hj (UY hN e1 (I.ok.inj _ _ _ e hc ▸ hi))
  ·by_cases hcc:c' = c
   ·subst hcc; exact ⟨_,hc'⟩
   ·obtain ⟨w2,z2⟩:=I.cell y c' e;exact ⟨w2,z2.sameBut hs hcc⟩
  ·obtain ⟨e,n,ne,nf,d⟩:=I.pin p hp;refine ⟨(hs.2 p.1 ?_).trans e,n,ne,nf,d⟩;intro q;rw [q,hoc] at e;have q':oc = p.2:=Option.some.inj e;exact d w' (by rw [<- q']; exact hocd)
theorem Ga {M:Model} {A:Around} {E:Value->Shared->Prop} {i:Nat} {x:Str} {v:V} {u:Value} {Q:Unit->Shared->Prop} (I:Inv X pins Z H s) (hN:X.N.Nodup) (hi:X.N[i]? = some x) (hx:Loc X.env.scope x) (r:RelV v u)
  (h:∀ s',Inv X pins (Z.set i (some v)) H s'->Q () s') (hf:autoParam (X.fn x = true \/ X.env.scope.names.lookup x = some .local) zz0._auto_1):wpAny M A (storeName X.env x u) Q E s:=
 G1 I hN hi hx r (λ s' I' _=>h s' I') hf
theorem Inv.Zhg {s':Shared} {ch:List Addr} (I:Inv X pins Z H s) (ho:s'.os = s.os) (u:Un (frs X.stack) ch H H' s.heap s'.heap) (hok:HOk X.prog X.w H' s'.heap) (hg:AllBare s'.gens)
  (hch:∀ b ∈ ch,(b ∈ X.ex \/ X.s₀.heap.objs.size <= b) /\ b ≠ X.env.locals /\ (∀ x c,X.env.cells.lookup x = some c->c ≠ b) /\ ∀ p ∈ X.pn ++ pins,p.1 ≠ b):Inv X pins Z H' s':=by
 obtain ⟨h',g',d',t',o'⟩:=s';have e:o' = s.os:=ho;subst e;exact I.call (g':=g') (t':=t') (d':=d') u hok hg hch
end
abbrev XK:=Value->Option Addr->Hp->Prop
abbrev St:=List (Option V)
abbrev VK:=V->Hp->Prop
abbrev TE:=St->Hp->VK->Prop
abbrev TT:=St->Hp->(Bool->Hp->Prop)->Prop
abbrev TA:=St->Hp->(List V->Hp->Prop)->Prop
structure Ends where
 nx:St->Hp->Prop
 rt:VK
 bk:St->Hp->Prop:=λ _ _=>False
 ct:St->Hp->Prop:=λ _ _=>False
abbrev TS:=Ends->St->Hp->Prop
def EP (X:Cx) (pins:List (Addr × Obj)) (Z:St) (Q:VK) (u:Value) (s':Shared):Prop:=∃ v H',Inv X pins Z H' s' /\ RelV v u /\ Q v H'
def TP (X:Cx) (pins:List (Addr × Obj)) (Z:St) (Q:Bool->Hp->Prop) (b:Bool) (s':Shared):Prop:=∃ H',Inv X pins Z H' s' /\ Q b H'
def AP (X:Cx) (pins:List (Addr × Obj)) (Z:St) (Q:List V->Hp->Prop) (us:List Value) (s':Shared):Prop:=∃ vs H',Inv X pins Z H' s' /\ Vals vs us /\ Q vs H'
def SP (X:Cx) (pins:List (Addr × Obj)) (D:Ends) (f:Flow) (s':Shared):Prop:=
 match f with
 | .next=>∃ σ' H',Inv X pins σ' H' s' /\ D.nx σ' H'
 | .brk=>∃ σ' H',Inv X pins σ' H' s' /\ D.bk σ' H'
 | .cont=>∃ σ' H',Inv X pins σ' H' s' /\ D.ct σ' H'
 | .ret u=>∃ v σ' H',Inv X pins σ' H' s' /\ RelV v u /\ D.rt v H'
def PE (X:Cx) (e:Expr) (t:TE):Prop:=
 ∀ (pins:List (Addr × Obj)) (s:Shared) (Z:St) (H:Hp) (Q:VK),Inv X pins Z H s->t Z H Q->wpAny (model X.prog X.w) X.A (eval e X.env) (EP X pins Z Q) X.xe s
def PT (X:Cx) (e:Expr) (t:TT):Prop:=
 ∀ (pins:List (Addr × Obj)) (s:Shared) (Z:St) (H:Hp) (Q:Bool->Hp->Prop),Inv X pins Z H s->t Z H Q->wpAny (model X.prog X.w) X.A (isTrue e X.env (eval e X.env)) (TP X pins Z Q) X.xe s
def PW (X:Cx) (e:Expr) (t:TT):Prop:=
 ∀ (whole:Sem Value) (pins:List (Addr × Obj)) (s:Shared) (Z:St) (H:Hp) (Q:Bool->Hp->Prop),Inv X pins Z H s->t Z H Q->wpAny (model X.prog X.w) X.A (isTrue e X.env whole) (TP X pins Z Q) X.xe s
theorem PW.pt {X:Cx} {e:Expr} {t:TT} (h:PW X e t):PT X e t:=h _
def PA (X:Cx) (es:List Expr) (t:TA):Prop:=
 ∀ (pos:Pos) (pins:List (Addr × Obj)) (s:Shared) (Z:St) (H:Hp) (Q:List V->Hp->Prop),Inv X pins Z H s->t Z H Q->wpAny (model X.prog X.w) X.A (spliced (backTo pos (starEach es X.env))) (AP X pins Z Q) X.xe s
def PS (X:Cx) (st:Stmt) (t:TS):Prop:=
 ∀ (pins:List (Addr × Obj)) (s:Shared) (Z:St) (H:Hp) (D:Ends),Inv X pins Z H s->t D Z H->wpAny (model X.prog X.w) X.A (exec st X.env) (SP X pins D) X.xe s
def PSs (X:Cx) (st:List Stmt) (t:TS):Prop:=
 ∀ (pins:List (Addr × Obj)) (s:Shared) (Z:St) (H:Hp) (D:Ends),Inv X pins Z H s->t D Z H->wpAny (model X.prog X.w) X.A (execs st X.env) (SP X pins D) X.xe s
theorem thn {α:Type} {t:Sem α} {Q Q':α->Shared->Prop} {M:Model} {A:Around} {E:Value->Shared->Prop} {s:Shared} (h:wpAny M A t Q E s) (hQ:∀ a s,Q a s->Q' a s):wpAny M A t Q' E s:=wpAny_mono h hQ λ _ _ x=>x
section
variable {X:Cx}
def Zij (i:Nat):TE:=λ Z H Q=>∃ v,Z[i]? = some (some v) /\ Q v H
def tC (v:V):TE:=λ _ H Q=>Q v H
theorem Ft {i:Nat} {x:Str} {pos:Pos} (hN:X.N[i]? = some x) (hv:Vis X.env.scope x) (hd:autoParam ((x == ("__debug__" : Str)) = false) zz1._auto_1) (hcd:autoParam ((x == ("__classdict__" : Str)) = false) zz1._auto_1):PE X (.Name x pos) (Zij i):=by
 intro pins s Z H Q I h;obtain ⟨v,e,h⟩:=h;obtain ⟨m,hn,hl⟩:=I.loc;obtain ⟨u,r,l⟩:=hl i x v hN e hv;have fin:EP X pins Z Q u s:=⟨v,H,I,r,h⟩
 rcases l with ⟨hk,hm⟩ | ⟨hk,c,hc,hcell⟩
 ·exact wpAny_Name (wpAny_loadName_local I.ok.kind hk hn hm fin) hd
 ·rcases hk with hk | hk
  ·exact wpAny_Name (wpAny_loadName_cell I.ok.kind hk hc hcell fin) hd
  ·exact wpAny_Name (wpAny_loadName_free I.ok.kind hk hc hcell fin hcd) hd
theorem Zfa {i j pos}:PE X (.Constant (.int i) j pos) (tC (.int i)):=λ _ _ _ H _ I h=>wpAny_Constant_int ⟨.int i,H,I.tok _,⟨_,rfl⟩,h⟩
theorem ZiJ {b j pos}:PE X (.Constant (.bool b) j pos) (tC (.bl b)):=λ _ _ _ H _ I h=>Constant_bool ⟨.bl b,H,I,rfl,h⟩
theorem Zh0 {j pos}:PE X (.Constant .none j pos) (tC .non):=λ _ _ _ H _ I h=>Constant_none ⟨.non,H,I,rfl,h⟩
theorem Za5 {x j pos}:PE X (.Constant (.str x) j pos) (tC (.str x)):=λ _ _ _ H _ I h=>Calls.Constant_str ⟨.str x,H,I.tok _,⟨_,rfl⟩,h⟩
def Gl (X:Cx) (x:Str):Prop:=X.env.kindOf x = some .globalImplicit
theorem Xc {E:Value->Shared->Prop} {pins:List (Addr × Obj)} {s:Shared} {Z:St} {H:Hp} {x:Str} {u:Value} {pos:Pos} {Q:Value->Shared->Prop} (I:Inv X pins Z H s) (hg:Gl X x) (hm:X.mg x = some u) (h:Q u s)
  (hd:autoParam ((x == ("__debug__" : Str)) = false) zz1._auto_1):wpAny (model X.prog X.w) X.A (eval (.Name x pos) X.env) Q E s:=
 Calls.Name_function_global I.ok.kind hg (Calls.loadGlobal_global (by rw [I.ok.glob]; exact I.mod.glob.keeps I.bk) hm h) hd
theorem WR {E:Value->Shared->Prop} {pins:List (Addr × Obj)} {s:Shared} {Z:St} {H:Hp} {x:Str} {u:Value} {pos:Pos} {Q:Value->Shared->Prop} (I:Inv X pins Z H s) (hg:Gl X x) (hm:X.mg x = none) (hv:bootBuiltins x = some u) (h:Q u s)
  (hn:autoParam (x ≠ "__name__") zz1._auto_1) (hd:autoParam ((x == ("__debug__" : Str)) = false) zz1._auto_1):wpAny (model X.prog X.w) X.A (eval (.Name x pos) X.env) Q E s:=by
 obtain ⟨mb,h1,h2⟩:=I.mod.blt;exact Calls.Name_function_global I.ok.kind hg (Calls.loadGlobal_builtin (by rw [I.ok.glob]; exact I.mod.glob.keeps I.bk) hm (by rw [I.ok.blt]; exact h1.keeps I.bk) ((h2 x hn).trans hv) h) hd
theorem DU {x:Str} {v:V} {u:Value} {pos:Pos} (hg:Gl X x) (hm:X.mg x = some u) (r:RelV v u) (hd:autoParam ((x == ("__debug__" : Str)) = false) zz1._auto_1):PE X (.Name x pos) (tC v):=
 λ _ _ _ H _ I h=>Xc I hg hm ⟨v,H,I,r,h⟩ hd
theorem Zer {x:Str} {v:V} {u:Value} {pos:Pos} (hg:Gl X x) (hm:X.mg x = none) (hv:bootBuiltins x = some u) (r:RelV v u) (hn:autoParam (x ≠ "__name__") zz1._auto_1) (hd:autoParam ((x == ("__debug__" : Str)) = false) zz1._auto_1):PE X (.Name x pos) (tC v):=
 λ _ _ _ H _ I h=>WR I hg hm hv ⟨v,H,I,r,h⟩ hn hd
variable {a b:Expr} {ta tb:TE} {pos:Pos}
def tB (t:TE):TT:=λ Z H Q=>t Z H λ x H1=>∃ c,x = .bl c /\ Q c H1
theorem ZfG {e:Expr} {t:TE} (h:PE X e t) (he:autoParam (∀ whole,isTrue e X.env whole = (do let v <- whole; standAt e.pos; holding [v] (truthy v))) zz2._auto_1):PT X e (tB t):=by
 intro pins s Z H Q I hw;refine isTrue_plain (thn (h pins s Z H _ I hw) λ v s1 ⟨x,H1,I1,r1,q1⟩=>?_) (he _);obtain ⟨d,rfl,q⟩:=q1;cases r1;exact wpAny_truthy_bool ⟨H1,I1,q⟩
variable {tA tB':TT} {rest:List Expr}
def Zlm (t u:TT):TT:=λ Z H Q=>t Z H λ c H1=>if c = true then u Z H1 Q else Q false H1
def tOr (t u:TT):TT:=λ Z H Q=>t Z H λ c H1=>if c = true then Q true H1 else u Z H1 Q
def Zlr (t:TT):TT:=λ Z H Q=>t Z H λ c H1=>Q (!c) H1
theorem Zce (ha:PT X a tA):PW X (.BoolOp .And [a] pos) tA:=by
 intro wh pins s Z H Q I h;refine isTrue_and (thn (ha pins s Z H Q I h) λ c s1 e=>?_);cases c with
 | true=>exact isTrue_and_nil e
 | false=>exact e
theorem ZfW (ha:PT X a tA):PW X (.BoolOp .Or [a] pos) tA:=by
 intro wh pins s Z H Q I h;refine isTrue_or (thn (ha pins s Z H Q I h) λ c s1 e=>?_);cases c with
 | false=>exact isTrue_or_nil e
 | true=>exact e
theorem Zf8 (ha:PT X a tA) (hb:PW X (.BoolOp .And (b :: rest) pos) tB'):PW X (.BoolOp .And (a :: b :: rest) pos) (Zlm tA tB'):=by
 intro wh pins s Z H Q I h;refine isTrue_and (thn (ha pins s Z H _ I h) λ c s1 ⟨H1,I1,q1⟩=>?_);cases c with
 | true=>exact hb wh pins s1 Z H1 Q I1 q1
 | false=>exact ⟨H1,I1,q1⟩
theorem Zi9 (ha:PT X a tA) (hb:PW X (.BoolOp .Or (b :: rest) pos) tB'):PW X (.BoolOp .Or (a :: b :: rest) pos) (tOr tA tB'):=by
 intro wh pins s Z H Q I h;refine isTrue_or (thn (ha pins s Z H _ I h) λ c s1 ⟨H1,I1,q1⟩=>?_);cases c with
 | true=>exact ⟨H1,I1,q1⟩
 | false=>exact hb wh pins s1 Z H1 Q I1 q1
theorem Zg2 (ha:PT X a tA):PT X (.UnaryOp .Not a pos) (Zlr tA):=by
 intro pins s Z H Q I h;exact isTrue_not (ha pins s Z H (λ c H1=>Q (!c) H1) I h)
def ZjV (ta tb:TE):TE:=λ Z H Q=>ta Z H λ x H1=>∃ c,x = .bl c /\ if c = true then tb Z H1 Q else Q (.bl false) H1
def Zlt (ta tb:TE):TE:=λ Z H Q=>ta Z H λ x H1=>∃ c,x = .bl c /\ if c = true then Q (.bl true) H1 else tb Z H1 Q
def Zj3 (ta:TE):TE:=λ Z H Q=>ta Z H λ x H1=>∃ c,x = .bl c /\ Q (.bl (!c)) H1
theorem Zfz {op} {t:TE} (h:PE X a t):PE X (.BoolOp op [a] pos) t:=λ pins s Z H Q I hw=>BoolOp_one (h pins s Z H Q I hw)
theorem Zg7 (ha:PE X a ta) (hb:PE X (.BoolOp .And (b :: rest) pos) tb):PE X (.BoolOp .And (a :: b :: rest) pos) (ZjV ta tb):=by
 intro pins s Z H Q I h;refine BoolOp_and (thn (ha pins s Z H _ I h) λ v s1 ⟨x,H1,I1,r1,q1⟩=>?_);obtain ⟨c,rfl,q1⟩:=q1;cases r1;refine wpAny_truthy_bool ?_;cases c with
 | true=>exact hb pins s1 Z H1 Q I1 q1
 | false=>exact ⟨.bl false,H1,I1,rfl,q1⟩
theorem Zjt (ha:PE X a ta) (hb:PE X (.BoolOp .Or (b :: rest) pos) tb):PE X (.BoolOp .Or (a :: b :: rest) pos) (Zlt ta tb):=by
 intro pins s Z H Q I h;refine BoolOp_or (thn (ha pins s Z H _ I h) λ v s1 ⟨x,H1,I1,r1,q1⟩=>?_);obtain ⟨c,rfl,q1⟩:=q1;cases r1;refine wpAny_truthy_bool ?_;cases c with
 | false=>exact hb pins s1 Z H1 Q I1 q1
 | true=>exact ⟨.bl true,H1,I1,rfl,q1⟩
theorem Zf5 (ha:PE X a ta):PE X (.UnaryOp .Not a pos) (Zj3 ta):=by
 intro pins s Z H Q I h;refine UnaryOp_ (thn (ha pins s Z H _ I h) λ v s1 ⟨x,H1,I1,r1,q1⟩=>?_);obtain ⟨c,rfl,q1⟩:=q1;cases r1;exact not_of (wpAny_truthy_bool ⟨.bl (!c),H1,I1,rfl,q1⟩)
def tIf (t:TT) (ta tb:TE):TE:=λ Z H Q=>t Z H λ c H1=>if c = true then ta Z H1 Q else tb Z H1 Q
theorem PX {c:Expr} (hc:PT X c tA) (ha:PE X a ta) (hb:PE X b tb):PE X (.IfExp c a b pos) (tIf tA ta tb):=by
 intro pins s Z H Q I h;refine wpAny_IfExp (thn (hc pins s Z H _ I h) λ d s1 ⟨H1,I1,q1⟩=>?_);cases d with
 | true=>exact ha pins s1 Z H1 Q I1 q1
 | false=>exact hb pins s1 Z H1 Q I1 q1
end
end L2
open PySem PySem.Spec PyProof.Rows L2
variable {H H':Hp} {n m L W j n':Nat} {x s b qual y:Str} {d:PyData} {a p f q C:Addr} {pos p2 cpos:Pos} {w:World} {P:Program} {v:V} {tg e iter elt:Expr} {h base h':Heap} {i:Int} {ds l:List PyData} {X:Cx} {A:Around} {N ps:List Str} {pins:List (Addr × Obj)} {Z:L2.St} {xs vs:List V} {scope:Scope} {env:Env} {us:List Value} {mg:Str->Option Value} {fd:FuncData} {kvs:List (Key × V)} {st:Stmt} {ix:List (Option Nat)} {u:Value} {E Q:Value->Shared->Prop} {ifs es:List Expr} {outer:List Env} {c:List Nat}
namespace L2
def SqL (K:Fk) (H:Hp) (a:Addr) (xs:List V):Prop:=
 Rd H a (.lst xs) \/
  ∃ (o:Obj) (its:Array Value) (n:Nat),K.lookup a = some o /\ o.cls = .type "list" /\ o.dict = none /\ o.data = .seq its n /\ its.size <= sizeLine /\ Vals xs its.toList
def SqT (K:Fk) (H:Hp) (a:Addr) (xs:List V):Prop:=
 Rd H a (.tup xs) \/
  ∃ (o:Obj) (its:Array Value) (n:Nat),K.lookup a = some o /\ o.cls = .type "tuple" /\ o.data = .seq its n /\ its.size <= sizeLine /\ Vals xs its.toList
noncomputable def Zll:Value->Option V
 | .none=>some .non
 | .bool b=>some (.bl b)
 | .int i _=>some (.int i)
 | .str x _=>some (.str x)
 | .bytes b _=>some (.byt b)
 | .float b _=>some (.flt b)
 | .ref a=>some (.ref a)
 | .type n=>some (.ty n)
 | _=>none
theorem RelV.abs {x:V} (r:RelV x u):Zll u = some x:=by
 cases x with
 | non=>cases r; rfl
 | bl _=>cases r; rfl
 | int _=>obtain ⟨t,rfl⟩:=r; rfl
 | str _=>obtain ⟨t,rfl⟩:=r; rfl
 | byt _=>obtain ⟨t,rfl⟩:=r; rfl
 | flt _=>obtain ⟨t,rfl⟩:=r; rfl
 | ref _=>cases r; rfl
 | ty _=>cases r; rfl
theorem RelV.inj {x y:V} (r:RelV x u) (q:RelV y u):x = y:=Option.some.inj (r.abs.symm.trans q.abs)
theorem Vals.inj:∀ {xs ys:List V} {us:List Value},Vals xs us->Vals ys us->xs = ys
 | _,_,_,.nil,.nil=>rfl
 | _,_,_,.cons r t,.cons r' t'=>by rw [r.inj r',Vals.inj t t']
section
variable {s:Shared} {ys:List V}
theorem SqL.of {K:Fk} (h:H a = some (.lst xs)):SqL K H a xs:=.inl (.inl h)
theorem SqT.of {K:Fk} (h:H a = some (.tup xs)):SqT K H a xs:=.inl (.inl h)
theorem Inv.list (I:Inv X pins Z H s) (h:SqL X.K H a xs):∃ its:List Value,Vals xs its /\ PlainL s.heap a its.toArray /\ xs.length <= sizeLine:=by
 rcases h with h | ⟨o,its,n,hk,hc,hd,hs,hz,r⟩
 ·obtain ⟨z,its,n,r,e⟩:=h.ok I.hok;exact ⟨its,r,⟨_,n,e,rfl,rfl,rfl⟩,z⟩
 ·refine ⟨its.toList,r,⟨o,n,I.kIn a o hk,hc,hd,by simpa using hs⟩,?_⟩;have e:=r.length;simp only [Array.length_toList] at e;lia
theorem Inv.tuple (I:Inv X pins Z H s) (h:SqT X.K H a xs):∃ its:List Value,Vals xs its /\ IsTup s.heap a its.toArray /\ xs.length <= sizeLine:=by
 rcases h with h | ⟨o,its,n,hk,hc,hs,hz,r⟩
 ·obtain ⟨z,its,r,p⟩:=h.ok I.hok;exact ⟨its,r,p,z⟩
 ·refine ⟨its.toList,r,⟨o,I.kIn a o hk,hc,n,by simpa using hs⟩,?_⟩;have e:=r.length;simp only [Array.length_toList] at e;lia
theorem Inv.E7 (I:Inv X pins Z H s) (h:SqL X.K H a xs) (h':SqL X.K H a ys):xs = ys:=by
 obtain ⟨its,r,⟨o,n,e,_,_,d⟩,_⟩:=I.list h;obtain ⟨its',r',⟨o',n',e',_,_,d'⟩,_⟩:=I.list h';rw [e] at e'; cases e';rw [d] at d'
 injection d' with d1 _
 have:its = its':=by simpa using congrArg Array.toList d1
 subst this;exact r.inj r'
theorem Inv.O6 (I:Inv X pins Z H s) (h:SqT X.K H a xs) (h':SqT X.K H a ys):xs = ys:=by
 obtain ⟨its,r,⟨o,e,_,n,d⟩,_⟩:=I.tuple h;obtain ⟨its',r',⟨o',e',_,n',d'⟩,_⟩:=I.tuple h';rw [e] at e'; cases e';rw [d] at d'
 injection d' with d1 _
 have:its = its':=by simpa using congrArg Array.toList d1
 subst this;exact r.inj r'
end
noncomputable abbrev Cx.Wy (X:Cx) (E:Value->Shared->Prop):Cx:={ X with xe:=E }
noncomputable abbrev Cx.nox (X:Cx):Cx:=X.Wy λ _ _=>False
theorem Cx.Ok.Wy (ok:X.Ok) (E:Value->Shared->Prop):(X.Wy E).Ok:=
 ⟨ok.mod,ok.kind,ok.glob,ok.blt,ok.above,ok.inj,ok.has,ok.cab,ok.hd,ok.frames,ok.stk,ok.exf,ok.bs,ok.bsz,ok.noex,ok.exfs,ok.EV,ok.frf⟩
theorem Cx.Ok.Je (ok:(X.Wy E).Ok):X.Ok:=
 ⟨ok.mod,ok.kind,ok.glob,ok.blt,ok.above,ok.inj,ok.has,ok.cab,ok.hd,ok.frames,ok.stk,ok.exf,ok.bs,ok.bsz,ok.noex,ok.exfs,ok.EV,ok.frf⟩
section
variable {s:Shared}
theorem Inv.Wy (I:Inv X pins Z H s) (E:Value->Shared->Prop):Inv (X.Wy E) pins Z H s:=⟨I.ok.Wy E,I.os,I.bare,I.base,I.loc,I.cell,I.free,I.freeC,I.pin,I.hok,I.len⟩
theorem Inv.Je (I:Inv (X.Wy E) pins Z H s):Inv X pins Z H s:=⟨I.ok.Je,I.os,I.bare,I.base,I.loc,I.cell,I.free,I.freeC,I.pin,I.hok,I.len⟩
theorem SP.Je {D:Ends} {f:Flow} {s':Shared} (h:SP (X.Wy E) pins D f s'):SP X pins D f s':=by
 cases f with
 | next=>obtain ⟨σ',H',I,q⟩:=h; exact ⟨σ',H',I.Je,q⟩
 | brk=>obtain ⟨σ',H',I,q⟩:=h; exact ⟨σ',H',I.Je,q⟩
 | cont=>obtain ⟨σ',H',I,q⟩:=h; exact ⟨σ',H',I.Je,q⟩
 | ret u=>obtain ⟨v,σ',H',I,r,q⟩:=h; exact ⟨v,σ',H',I.Je,r,q⟩
theorem PSs.nox {st:List Stmt} {t:TS} (h:PSs X.nox st t):PSs X st t:=λ pins s Z H D I hw=>
 wpAny_mono (h pins s Z H D (I.Wy _) hw) (λ _ _ q=>q.Je) λ _ _ z=>False.elim z
end
section
variable {rest:List Stmt} {t u:TS} {te:TE}
def ZiS:TS:=λ D Z H=>D.nx Z H
def Zk8 (t u:TS):TS:=λ D Z H=>t { D with nx:=u D } Z H
theorem Zdu:PSs X [] ZiS:=λ _ _ Z H _ I h=>wpAny_execs_nil ⟨Z,H,I,h⟩
theorem R3 (h1:PS X st t) (h2:PSs X rest u):PSs X (st :: rest) (Zk8 t u):=by
 intro pins s Z H D I h;refine wpAny_execs_cons (thn (h1 pins s Z H { D with nx:=u D } I h) λ f s1 q=>?_);cases f with
 | next=>
  obtain ⟨σ',H',I',q⟩:=q;exact h2 pins s1 σ' H' D I' q
 | ret v=>exact q
 | brk=>exact q
 | cont=>exact q
theorem Dv (h1:PS X st t):PSs X [st] t:=by
 intro pins s Z H D I h;refine wpAny_execs_cons (thn (h1 pins s Z H D I h) λ f s1 q=>?_);cases f with
 | next=>exact wpAny_execs_nil q
 | ret v=>exact q
 | brk=>exact q
 | cont=>exact q
theorem Inv.quiet {s:Shared} (I:Inv X pins Z H s):interactive X.env = false:=by simp [interactive,I.ok.kind]
def ZiW (te:TE):TS:=λ D Z H=>te Z H λ _ H1=>D.nx Z H1
theorem ZeO (he:PE X e te) (hs:autoParam (swapsWith e none pos.line X.env = pure false) zz3._auto_1):PS X (.Expr e pos) (ZiW te):=by
 intro pins s Z H D I h;exact wpAny_Expr_any (thn (he pins s Z H _ I h) λ v s1 ⟨x,H1,I1,r1,q1⟩=>⟨Z,H1,I1,q1⟩) I.quiet hs
def Zlq (te:TE):TS:=λ D Z H=>te Z H D.rt
theorem ZgT (he:PE X e te):PS X (.Return (some e) pos) (Zlq te):=by
 intro pins s Z H D I h;exact wpAny_Return_some (thn (he pins s Z H _ I h) λ v s1 ⟨x,H1,I1,r1,q1⟩=>⟨x,Z,H1,I1,r1,q1⟩)
def Zlu (c:TT) (t u:TS):TS:=λ D Z H=>c Z H λ b H1=>if b = true then t D Z H1 else u D Z H1
theorem Zjg {c:Expr} {a b:List Stmt} {tc:TT} (hc:PT X c tc) (ha:PSs X a t) (hb:PSs X b u):PS X (.If c a b pos) (Zlu tc t u):=by
 intro pins s Z H D I h;refine wpAny_If (thn (hc pins s Z H _ I h) λ d s1 ⟨H1,I1,q1⟩=>?_);cases d with
 | true=>exact ha pins s1 Z H1 D I1 q1
 | false=>exact hb pins s1 Z H1 D I1 q1
end
abbrev TG:=V->St->Hp->(St->Hp->Prop)->Prop
abbrev TGs:=List V->St->Hp->(St->Hp->Prop)->Prop
def PG (X:Cx) (target:Expr) (t:TG):Prop:=
 ∀ (pins:List (Addr × Obj)) (s:Shared) (Z:St) (H:Hp) (v:V) (u:Value) (Q:St->Hp->Prop),Inv X pins Z H s->RelV v u->t v Z H Q ->
  wpAny (model X.prog X.w) X.A (assign target X.env u) (λ _ s'=>∃ σ' H',Inv X pins σ' H' s' /\ Q σ' H') X.xe s
def PGs (X:Cx) (ts:List Expr) (t:TGs):Prop:=
 ∀ (pins:List (Addr × Obj)) (s:Shared) (Z:St) (H:Hp) (vs:List V) (us:List Value) (Q:St->Hp->Prop),Inv X pins Z H s->Vals vs us->t vs Z H Q ->
  wpAny (model X.prog X.w) X.A (assignInOrder ((assignEach ts X.env).map (·.2)) us) (λ _ s'=>∃ σ' H',Inv X pins σ' H' s' /\ Q σ' H') X.xe s
abbrev ZjC:=V->V->V->Hp->(Hp->Prop)->Prop
def Zj9 (X:Cx) (t:ZjC):Prop:=
 ∀ (pins:List (Addr × Obj)) (s:Shared) (Z:St) (H:Hp) (o i v:V) (ov iv u:Value) (Q:Hp->Prop),Inv X pins Z H s->RelV o ov->RelV i iv->RelV v u->t o i v H Q ->
  wpAny (model X.prog X.w) X.A (setItem ov iv u) (λ _ s'=>∃ H',Inv X pins Z H' s' /\ Q H') X.xe s
def ZcI (i:Nat):TG:=λ v Z H Q=>Q (Z.set i (some v)) H
theorem NZ {i:Nat} (hN:X.N.Nodup) (hi:X.N[i]? = some x) (hx:Loc X.env.scope x) (hf:autoParam (X.fn x = true \/ X.env.scope.names.lookup x = some .local) zz0._auto_1):PG X (.Name x pos) (ZcI i):=by
 intro pins s Z H v u Q I r h;exact wpAny_assign_Name (Ga I hN hi hx r (λ s' I'=>⟨_,H,I',h⟩) hf)
def Zlc:TGs:=λ vs Z H Q=>vs = [] /\ Q Z H
def Zjy (t:TG) (u:TGs):TGs:=λ vs Z H Q=>∃ v r,vs = v :: r /\ t v Z H λ σ' H'=>u r σ' H' Q
theorem ZdS:PGs X [] Zlc:=by
 intro pins s Z H vs us Q I r h;obtain ⟨e,h⟩:=h;subst e;cases r;exact assignInOrder_nil ⟨Z,H,I,h⟩
theorem T1 {t:TG} {u:TGs} (h1:PG X e t) (h2:PGs X es u)
  (hs:autoParam ((assignEach (e :: es) X.env).map (·.2) = assign e X.env :: (assignEach es X.env).map (·.2)) zz3._auto_1):PGs X (e :: es) (Zjy t u):=by
 intro pins s Z H vs us Q I r h;obtain ⟨v,vr,e1,h⟩:=h;subst e1;cases r with
 | cons r rr=>
  rw [hs];refine assignInOrder_cons (thn (h1 pins s Z H _ _ _ I r h) λ _ s1 ⟨σ1,H1,I1,q1⟩=>?_);exact h2 pins s1 σ1 H1 _ _ Q I1 rr q1
def Zlo (K:Fk) (n:Nat) (t:TGs):TG:=λ v Z H Q=>∃ a xs,v = .ref a /\ SqT K H a xs /\ xs.length = n /\ t xs Z H Q
theorem ZhS {k:Nat} {t:TGs} {n:Nat} (hc:X.calm = true) (h:PGs X es t)
  (hn:autoParam ((assignEach es X.env).length = n) zz3._auto_1) (hst:autoParam ((assignEach es X.env).findIdx? (·.1) = none) zz3._auto_1):PG X (.Tuple es k pos) (Zlo X.K n t):=by
 intro pins s Z H v u Q I r hw;obtain ⟨a,xs,e1,hq,hl,hw⟩:=hw;subst e1;cases r;obtain ⟨its,rv,ht,hz⟩:=I.tuple hq;refine assign_Tuple_tuple (I.ok.hd hc) ht (by simp [hn,<- hl,rv.length]) hst λ h' hx=>?_;have I1:Inv X pins Z H { s with heap:=h' }:=I.kept (t':=s.toks) λ b o e=>hx b o (Nat.ne_of_lt (Heap.lt_size e)) e;exact h pins _ Z H xs _ Q I1 (by simpa using rv) hw
def Zlh (to ti:TE) (t:ZjC):TG:=λ v Z H Q=>to Z H λ o H1=>ti Z H1 λ i H2=>t o i v H2 λ H3=>Q Z H3
theorem ZeZ {o i:Expr} {to ti:TE} {t:ZjC} (ho:PE X o to) (hi:PE X i ti) (hs:Zj9 X t)
  (ha:∀ v,assign (.Subscript o i pos) X.env v = (do
   let ov <- holding [v] (eval o X.env)
   let iv <- holding [v,ov] (eval i X.env)
   standAt pos
   holding [v,ov,iv] (setItem ov iv v)
   release [v,ov,iv] []):=by intro _; rfl):PG X (.Subscript o i pos) (Zlh to ti t):=by
 intro pins s Z H v u Q I r h;rw [ha];refine wpAny_bind (wpAny_holding (thn (ho pins s Z H _ I h) λ ov s1 ⟨x,H1,I1,r1,q1⟩=>?_));refine wpAny_bind (wpAny_holding (thn (hi pins s1 Z H1 _ I1 q1) λ iv s2 ⟨y,H2,I2,r2,q2⟩=>?_));refine wpAny_bind (wpAny_standAt (wpAny_bind (wpAny_holding (thn (hs pins s2 Z H2 x y v ov iv u _ I2 r1 r2 r q2) λ _ s3 ⟨H3,I3,q3⟩=>?_))));exact wpAny_release ⟨Z,H3,I3,q3⟩
def ZjE (te:TE) (g:TG):TS:=λ D Z H=>te Z H λ x H1=>g x Z H1 D.nx
theorem Zfq {te:TE} {g:TG} (he:PE X e te) (hg:PG X tg g) (hs:autoParam (swapsWithSole [tg] e pos.line X.env = pure false) zz3._auto_1) (hw:autoParam (swappedStores [tg] e X.env = pure none) zz3._auto_1)
  (h1:autoParam ((assignEach [tg] X.env).map (·.2) = [assign tg X.env]) zz3._auto_1):PS X (.Assign [tg] e pos) (ZjE te g):=by
 intro pins s Z H D I h;refine wpAny_Assign_stores (thn (he pins s Z H _ I h) λ v s1 ⟨x,H1,I1,r1,q1⟩=>?_) hs hw;rw [h1];exact thn (hg pins s1 Z H1 x v _ I1 r1 q1) λ _ s2 q=>q
theorem Zas {i:Nat} {te:TE} {pos':Pos} (hN:X.N.Nodup) (hi:X.N[i]? = some x) (hx:Loc X.env.scope x) (he:PE X e te) (hs:autoParam (swapsWith e (some (.Name x pos')) pos.line X.env = pure false) zz3._auto_1) (hf:autoParam (X.fn x = true \/ X.env.scope.names.lookup x = some .local) zz0._auto_1) :
  PS X (.Assign [.Name x pos'] e pos) (ZjE te (ZcI i)):=by
 intro pins s Z H D I h;refine wpAny_Assign_Name (thn (he pins s Z H _ I h) λ v s1 ⟨y,H1,I1,r1,q1⟩=>?_) hs;exact Ga I1 hN hi hx r1 (λ s2 I2=>⟨_,H1,I2,q1⟩) hf
structure It where
 go:Nat->Hp->Prop
 yld:Nat->Hp->V->Hp->Prop
 stop:Nat->Hp->Prop
def HF (X:Cx) (pins:List (Addr × Obj)) (H:Hp) (b:Addr):Prop:=
 H b = none /\ b ≠ X.env.locals /\ b ∉ X.fs /\ (b ∈ X.ex \/ X.s₀.heap.objs.size <= b) /\ (∀ x c,X.env.cells.lookup x = some c->c ≠ b) /\ ∀ p ∈ X.pn ++ pins,p.1 ≠ b
theorem Inv.ZaQ {s:Shared} {b:Addr} (I:Inv X pins Z H s) (hb:s.heap.objs.size <= b) (hn:H' b = none):HF X pins H' b:=by
 refine ⟨hn,Nat.ne_of_gt (Nat.lt_of_lt_of_le I.lt hb),I.Zlv hb,.inr (Nat.le_trans I.sz hb),λ x c e z=>?_,λ p hp z=>?_⟩
 ·obtain ⟨v,q⟩:=I.cell x c e;exact absurd (Nat.lt_of_lt_of_le q.lt (by rw [z]; exact hb)) (Nat.lt_irrefl _)
 ·exact absurd (Nat.lt_of_lt_of_le (Heap.lt_size (I.pin p hp).1) (by rw [z]; exact hb)) (Nat.lt_irrefl _)
structure Turn (P:Program) (w:World) (K:Fk) (tg:Expr) (J:It) (fp:List Addr) (it:Addr) (tn:Nat->Heap->Prop):Prop where
 mem:it ∈ fp
 obj:∀ i h,tn i h->∀ b ∈ fp,∃ o,h.get? b = some o /\ ∀ v,o.data ≠ .cell v
 keep:∀ i h h',tn i h->(∀ b ∈ fp,∀ o,h.get? b = some o->h'.get? b = some o)->tn i h'
 item:∀ (X:Cx),X.prog = P->X.w = w->X.K = K->X.calm = true->∀ (i:Nat) (pins:List (Addr × Obj)) (s:Shared) (Z:St) (H:Hp) (E:Value->Shared->Prop),Inv X pins Z H s->(∀ b ∈ fp,HF X pins H b)->tn i s.heap->J.go i H ->
  wpAny (model P w) X.A (pyNext (.ref it)) (λ r s1=>∃ u,r = some u /\
   wpAny (model P w) X.A (letOwnedTupleGo tg (.ref it) u) (λ _ s2=>∃ x H',Inv X pins Z H' s2 /\ RelV x u /\ J.yld i H x H' /\ tn (i + 1) s2.heap /\ ∀ b ∈ fp,H' b = none) E s1) E s
 done:∀ (X:Cx),X.prog = P->X.w = w->X.K = K->X.calm = true->∀ (i:Nat) (pins:List (Addr × Obj)) (s:Shared) (Z:St) (H:Hp) (E:Value->Shared->Prop),Inv X pins Z H s->(∀ b ∈ fp,HF X pins H b)->tn i s.heap->J.stop i H ->
  wpAny (model P w) X.A (pyNext (.ref it)) (λ r s1=>r = none /\ Inv X pins Z H s1) E s
 self:∀ (A:Around) (i:Nat) (s:Shared) (Q:Value->Shared->Prop) (E:Value->Shared->Prop),tn i s.heap->Q (.ref it) s->wpAny (model P w) A (pyIter (.ref it)) Q E s
abbrev TI:=St->Hp->(It->Hp->Prop)->Prop
def PIE (X:Cx) (pins:List (Addr × Obj)) (Z:St) (tg:Expr) (R:It->Hp->Prop) (itv:Value) (s2:Shared):Prop:=
 ∃ (it:Addr) (fp:List Addr) (tn:Nat->Heap->Prop) (J:It) (H':Hp),itv = .ref it /\ Inv X pins Z H' s2 /\ Turn X.prog X.w X.K tg J fp it tn /\ tn 0 s2.heap /\ (∀ b ∈ fp,HF X pins H' b) /\ R J H'
def PI (X:Cx) (tg iter:Expr) (wi:TI):Prop:=
 ∀ (pins:List (Addr × Obj)) (s:Shared) (Z:St) (H:Hp) (R:It->Hp->Prop),Inv X pins Z H s->wi Z H R ->
  wpAny (model X.prog X.w) X.A (eval iter X.env) (λ v s1=>wpAny (model X.prog X.w) X.A (pyIter v) (PIE X pins Z tg R) X.xe s1) X.xe s
theorem Nr {M:Model} {A:Around} {E:Value->Shared->Prop} {s:Shared} {tg:Expr} {it:Addr} {u:Value} {o:Obj} {n:String} {vs:Array Value} {Q:Unit->Shared->Prop} (ho:s.heap.get? it = some o) (hc:o.cls = .type n) (hd:o.data = .fields vs)
    (hn:["enumerate", "zip", "dict_itemiterator", "dict_reverseitemiterator", "odict_iterator", "itertools.zip_longest", "itertools.pairwise"].contains n = false) (hQ:Q () s):wpAny M A (letOwnedTupleGo tg (.ref it) u) Q E s:=by
  unfold letOwnedTupleGo;cases tg <;> first
    | exact wpAny_pure hQ
    | (cases u <;> first
        | exact wpAny_pure hQ
        | (refine wpAny_bind (wpAny_load ho ?_)
           rw [hc,hd];show wpAny M A (if (["enumerate", "zip", "dict_itemiterator", "dict_reverseitemiterator", "odict_iterator", "itertools.zip_longest", "itertools.pairwise"].contains n && vs[0]? == some (rawInt _)) = true then _ else _) Q E s;rw [if_neg (by intro h; rw [hn,Bool.false_and] at h; cases h)]
           exact wpAny_pure hQ))
noncomputable def Itl (K:Fk) (a:Addr):It:=
 ⟨λ i H=>∃ xs x,SqL K H a xs /\ xs[i]? = some x,λ i H x H'=>H' = H /\ ∀ xs,SqL K H a xs->xs[i]? = some x,λ i H=>∃ xs,SqL K H a xs /\ xs.length <= i⟩
noncomputable def Itt (K:Fk) (a:Addr):It:=
 ⟨λ i H=>∃ xs x,SqT K H a xs /\ xs[i]? = some x,λ i H x H'=>H' = H /\ ∀ xs,SqT K H a xs->xs[i]? = some x,λ i H=>∃ xs,SqT K H a xs /\ xs.length <= i⟩
noncomputable def Itr (lo:Int) (n:Nat):It:=⟨λ i _=>i < n,λ i H x H'=>H' = H /\ x = .int (lo + i),λ i _=>n <= i⟩
theorem Nb {K:Fk} (a it:Addr):Turn P w K tg (Itl K a) [it] it (λ i h=>h.IsListIter it a i) where
 mem:=by simp
 obj:=λ i h st b hb=>by
  have e:b = it:=by simpa using hb
  subst e;obtain ⟨o,e,c,d⟩:=st;exact ⟨o,e,λ v z=>by rw [d] at z; cases z⟩
 keep:=λ i h h' st k=>st.at λ o e=>k it (by simp) o e
 item:=by
  intro X hP hw hK hc i pins s Z H E I hf st hg;subst hP hw hK;obtain ⟨xs,x,hq,hx⟩:=hg;obtain ⟨its,rv,p,hz⟩:=I.list hq;obtain ⟨u,hu,ru⟩:=rv.get hx;obtain ⟨f0,f1,f2,f3,f4,f5⟩:=hf it (by simp);refine wpAny_pyNext_list_item st p.isList (x:=u) (by simpa using hu) λ h' st' sb=>?_;have I1:Inv X pins Z H { s with heap:=h' }:=I.turned (t':=s.toks) (λ b o hb e=>(sb.2 b hb).trans e) f0 f1 f3 f4 f5;obtain ⟨o,e,c,d⟩:=id st';exact ⟨u,rfl,Nr (s:={ s with heap:=h' }) e c d (by decide) ⟨x,H,I1,ru,⟨rfl,λ ys hy=>by rw [I.E7 hy hq]; exact hx⟩,st',λ b hb=>(hf b hb).1⟩⟩
 done:=by
  intro X hP hw hK hc i pins s Z H E I hf st hg;subst hP hw hK;obtain ⟨xs,hq,hx⟩:=hg;obtain ⟨its,rv,p,hz⟩:=I.list hq;obtain ⟨f0,f1,f2,f3,f4,f5⟩:=hf it (by simp);have hl:=rv.length;exact wpAny_pyNext_list_end (I.ok.hd hc) st p.isList (by simp; lia) λ h' eb=>⟨rfl,I.turned (t':=s.toks) (λ b o hb e=>eb b o hb e) f0 f1 f3 f4 f5⟩
 self:=λ _ _ _ _ _ st h=>wpAny_pyIter_listiter st h
theorem Lo {K:Fk} (a it:Addr):Turn P w K tg (Itt K a) [it] it (λ i h=>h.IsTupleIter it a i) where
 mem:=by simp
 obj:=λ i h st b hb=>by
  have e:b = it:=by simpa using hb
  subst e;obtain ⟨o,e,c,d⟩:=st;exact ⟨o,e,λ v z=>by rw [d] at z; cases z⟩
 keep:=λ i h h' st k=>st.at λ o e=>k it (by simp) o e
 item:=by
  intro X hP hw hK hc i pins s Z H E I hf st hg;subst hP hw hK;obtain ⟨xs,x,hq,hx⟩:=hg;obtain ⟨its,rv,p,hz⟩:=I.tuple hq;obtain ⟨u,hu,ru⟩:=rv.get hx;obtain ⟨f0,f1,f2,f3,f4,f5⟩:=hf it (by simp);refine wpAny_pyNext_tuple_item st (show s.heap.IsTuple a its.toArray from p) (x:=u) (by simpa using hu) λ h' st' sb=>?_;have I1:Inv X pins Z H { s with heap:=h' }:=I.turned (t':=s.toks) (λ b o hb e=>(sb.2 b hb).trans e) f0 f1 f3 f4 f5;obtain ⟨o,e,c,d⟩:=id st';exact ⟨u,rfl,Nr (s:={ s with heap:=h' }) e c d (by decide) ⟨x,H,I1,ru,⟨rfl,λ ys hy=>by rw [I.O6 hy hq]; exact hx⟩,st',λ b hb=>(hf b hb).1⟩⟩
 done:=by
  intro X hP hw hK hc i pins s Z H E I hf st hg;subst hP hw hK;obtain ⟨xs,hq,hx⟩:=hg;obtain ⟨its,rv,p,hz⟩:=I.tuple hq;obtain ⟨f0,f1,f2,f3,f4,f5⟩:=hf it (by simp);have hl:=rv.length;exact wpAny_pyNext_tuple_end (I.ok.hd hc) st (show s.heap.IsTuple a its.toArray from p) (by simp; lia) λ h' eb=>⟨rfl,I.turned (t':=s.toks) (λ b o hb e=>eb b o hb e) f0 f1 f3 f4 f5⟩
 self:=λ _ _ _ _ _ st h=>wpAny_pyIter_tupleiter st h
theorem Ho {K:Fk} (it:Addr) (lo:Int) (n:Nat):Turn P w K tg (Itr lo n) [it] it (λ i h=>IsRangeIter h it (lo + (i:Nat) * 1) ((n:Int) - (i:Nat)) 1) where
 mem:=by simp
 obj:=λ i h st b hb=>by
  have e:b = it:=by simpa using hb
  subst e
  exact ⟨_,st,λ v z=>by
   have z':Data.fields _ = Data.cell v:=z
   cases z'⟩
 keep:=λ i h h' st k=>k it (by simp) _ st
 item:=by
  intro X hP hw hK hc i pins s Z H E I hf st hg;subst hP hw hK;obtain ⟨f0,f1,f2,f3,f4,f5⟩:=hf it (by simp);have W:=Walks.range (prog:=X.prog) (w:=X.w) (I.ok.hd hc) it lo 1 n;refine W.item i s _ _ hg st λ v h' tk hv st' kk=>?_;obtain ⟨t,rfl⟩:=hv;have I1:Inv X pins Z H { s with heap:=h',toks:=tk }:=I.turned (λ b o hb e=>kk b o (by simpa using hb) e) f0 f1 f3 f4 f5;refine ⟨_,rfl,Nr (s:={ s with heap:=h',toks:=tk }) (n := "range_iterator") st' rfl rfl (by decide) ⟨.int (lo + i),H,I1,⟨t,?_⟩,⟨rfl,rfl⟩,st',λ b hb=>(hf b hb).1⟩⟩;rw [Int.mul_one]
 done:=by
  intro X hP hw hK hc i pins s Z H E I hf st hg;subst hP hw hK;obtain ⟨f0,f1,f2,f3,f4,f5⟩:=hf it (by simp);exact wpAny_pyNext_range_end (I.ok.hd hc) st (by have:n <= i:=hg; lia) λ h' eb=>⟨rfl,I.turned (t':=s.toks) (λ b o hb e=>eb b o hb e) f0 f1 f3 f4 f5⟩
 self:=λ _ _ _ _ _ st h=>wpAny_pyIter_rangeiter st h
def ZiQ (K:Fk) (tl:TE):TI:=λ Z H R=>tl Z H λ x H1=>∃ a,x = .ref a /\ (∃ xs,SqL K H1 a xs) /\ R (Itl K a) H1
def ZkY (K:Fk) (tl:TE):TI:=λ Z H R=>tl Z H λ x H1=>∃ a,x = .ref a /\ (∃ xs,SqT K H1 a xs) /\ R (Itt K a) H1
theorem N1 {l:Expr} {tl:TE} (hl:PE X l tl):PI X tg l (ZiQ X.K tl):=by
 intro pins s Z H R I h;refine thn (hl pins s Z H _ I h) λ v s1 ⟨x,H1,I1,r1,q1⟩=>?_;obtain ⟨a,e,⟨xs,hq⟩,q⟩:=q1;subst e;cases r1;obtain ⟨its,rv,p,hz⟩:=I1.list hq;refine wpAny_pyIter_list p.isList ?_;refine ⟨s1.heap.objs.size,[s1.heap.objs.size],_,_,H1,rfl,I1.kept (t':=s1.toks) λ b o e=>Heap.get?_push_of_some _ e,Nb a _,⟨_,Heap.get?_push_size _ rfl,rfl,rfl⟩,λ b hb=>?_,q⟩;have e:b = s1.heap.objs.size:=by simpa using hb
 subst e;exact I1.ZaQ (Nat.le_refl _) (I1.hok.fresh (Nat.le_refl _))
theorem Zik {l:Expr} {tl:TE} (hl:PE X l tl):PI X tg l (ZkY X.K tl):=by
 intro pins s Z H R I h;refine thn (hl pins s Z H _ I h) λ v s1 ⟨x,H1,I1,r1,q1⟩=>?_;obtain ⟨a,e,⟨xs,hq⟩,q⟩:=q1;subst e;cases r1;obtain ⟨its,rv,p,hz⟩:=I1.tuple hq;refine wpAny_pyIter_tuple (show s1.heap.IsTuple a its.toArray from p) ?_;refine ⟨s1.heap.objs.size,[s1.heap.objs.size],_,_,H1,rfl,I1.kept (t':=s1.toks) λ b o e=>Heap.get?_push_of_some _ e,Lo a _,⟨_,Heap.get?_push_size _ rfl,rfl,rfl⟩,λ b hb=>?_,q⟩;have e:b = s1.heap.objs.size:=by simpa using hb
 subst e;exact I1.ZaQ (Nat.le_refl _) (I1.hok.fresh (Nat.le_refl _))
theorem Fv {s:Shared} {R:It->Hp->Prop} {E:Value->Shared->Prop} {lo hi:Int} {t u v:Tok} {tk:Nat} (I:Inv X pins Z H s) (h1:-(2 ^ 62) <= lo) (h2:lo < 2 ^ 62) (h3:-(2 ^ 62) <= hi) (h4:hi < 2 ^ 62)
  (q:R (Itr lo (hi - lo).toNat) H):wpAny (model X.prog X.w) X.A (pyIter (.ref s.heap.objs.size)) (PIE X pins Z tg R) E { s with heap:=s.heap.push { cls:=.type "range",data:=.fields #[.int lo t,.int hi u,.int 1 v] },toks:=tk }:=by
 refine wpAny_pyIter_range (IsRange.new ..) (small_one h1 h2 h3 h4) ?_;have I1:Inv X pins Z H { s with heap:=s.heap.push { cls:=.type "range",data:=.fields #[.int lo t,.int hi u,.int 1 v] },toks:=tk }:=I.kept λ b o e=>Heap.get?_push_of_some _ e
 refine ⟨(s.heap.push { cls:=.type "range",data:=.fields #[.int lo t,.int hi u,.int 1 v] }).objs.size,[(s.heap.push { cls:=.type "range",data:=.fields #[.int lo t,.int hi u,.int 1 v] }).objs.size],_,_,H,rfl,
  I1.kept (t':=tk) λ b o e=>Heap.get?_push_of_some _ e,Ho _ lo (hi - lo).toNat,?_,λ b hb=>?_,q⟩
 ·have e1:lo + ((0:Nat):Int) * 1 = lo:=by simp
  have e2:(((hi - lo).toNat:Nat):Int) - ((0:Nat):Int) = Builtin.Range.rangeSize lo hi 1:=by rw [rangeSize_one]; split <;> lia
  show IsRangeIter _ _ (lo + ((0:Nat):Int) * 1) ((((hi - lo).toNat:Nat):Int) - ((0:Nat):Int)) 1;rw [e1,e2];exact Heap.get?_push_size _ rfl
 ·have e:b = (s.heap.push { cls:=.type "range",data:=.fields #[.int lo t,.int hi u,.int 1 v] }).objs.size:=by simpa using hb
  subst e;exact I1.ZaQ (Nat.le_refl _) (I1.hok.fresh (Nat.le_refl _))
def Zjf (ta:TA):TI:=λ Z H R=>ta Z H λ vs H1=>∃ j:Int,vs = [.int j] /\ -(2 ^ 62) <= j /\ j < 2 ^ 62 /\ R (Itr 0 j.toNat) H1
def Zjo (ta:TA):TI:=λ Z H R=>ta Z H λ vs H1=>∃ i j:Int,vs = [.int i,.int j] /\ (-(2 ^ 62) <= i /\ i < 2 ^ 62 /\ -(2 ^ 62) <= j /\ j < 2 ^ 62) /\ R (Itr i (j - i).toNat) H1
theorem CD {a:Expr} {ta:TA} {p:Pos} (hg:Gl X "range") (hm:X.mg "range" = none) (ha:PA X [a] ta) (hs:autoParam (starEach [a] X.env = [(false,eval a X.env)]) zz3._auto_1):PI X tg (.Call (.Name "range" p) [a] [] pos) (Zjf ta):=by
 intro pins s Z H R I h;refine Call_ (WR I hg hm boot_range (PyProof.Rows.callWith_type1 (thn (ha pos pins s Z H _ I h) λ us s1 ⟨vs,H1,I1,r1,q1⟩=>?_) hs rfl));obtain ⟨j,e,q1,q2,q⟩:=q1;subst e;cases r1 with
 | cons r rr=>
  cases rr;obtain ⟨t,rfl⟩:=r;exact call_range_1 (Fv I1 (by lia) (by lia) q1 q2 (by simpa using q))
theorem G9 {a b:Expr} {ta:TA} {p pos:Pos} (hg:Gl X "range") (hm:X.mg "range" = none) (ha:PA X [a,b] ta) (hs:autoParam (starEach [a,b] X.env = [(false,eval a X.env),(false,eval b X.env)]) zz3._auto_1) (hs2:autoParam (starEach [b] X.env = [(false,eval b X.env)]) zz3._auto_1) :
  PI X tg (.Call (.Name "range" p) [a,b] [] pos) (Zjo ta):=by
 intro pins s Z H R I h;refine Call_ (WR I hg hm boot_range (PyProof.Rows.callWith_type1 (thn (ha pos pins s Z H _ I h) λ us s1 ⟨vs,H1,I1,r1,q1⟩=>?_) (by rw [hs,hs2]) (by rw [hs2]; rfl)));obtain ⟨i,j,e,⟨q1,q2,q3,q4⟩,q⟩:=q1;subst e;cases r1 with
 | cons r rr=>
  cases rr with
  | cons r' rr=>
   cases rr;obtain ⟨t,rfl⟩:=r;obtain ⟨t',rfl⟩:=r';exact call_range_2 (Fv I1 q1 q2 q3 q4 q)
def Zk6 (wi:TI) (g:TG) (tb:TS):TS:=λ D Z H=>wi Z H λ J H1=>∃ W:Nat->Nat->St->Hp->Prop,(∃ m,W 0 m Z H1) /\ ∀ i m Z H,W i m Z H ->
 (J.stop i H /\ D.nx Z H) \/ (J.go i H /\ ∃ N:St->Hp->Prop,(∀ σ' H',N σ' H'->∃ m',m' < m /\ W (i + 1) m' σ' H') /\ ∀ x H',J.yld i H x H'->g x Z H' λ σ2 H2=>tb { D with nx:=N,ct:=N,bk:=D.nx } σ2 H2)
noncomputable def Bu (fp:List Addr) (h:Heap):List (Addr × Obj):=fp.filterMap λ b=>(h.get? b).map λ o=>(b,o)
theorem V2 {fp:List Addr} {b:Addr} {o:Obj} (hb:b ∈ fp) (e:h.get? b = some o):(b,o) ∈ Bu fp h:=List.mem_filterMap.mpr ⟨b,hb,by rw [e]; rfl⟩
theorem LQ {fp:List Addr} {p:Addr × Obj} (hp:p ∈ Bu fp h):p.1 ∈ fp /\ h.get? p.1 = some p.2:=by
 obtain ⟨b,hb,e⟩:=List.mem_filterMap.mp hp;cases q:h.get? b with
 | none=>rw [q] at e; cases e
 | some o=>
  rw [q] at e;have e':(b,o) = p:=Option.some.inj e;subst e';exact ⟨hb,q⟩
theorem Inv.pinned {s:Shared} {fp:List Addr} (I:Inv X pins Z H s) (hf:∀ b ∈ fp,HF X pins H b) (ho:∀ b ∈ fp,∃ o,s.heap.get? b = some o /\ ∀ v,o.data ≠ .cell v):Inv X (pins ++ Bu fp s.heap) Z H s:=
 I.Xi λ p hp=>(List.mem_append.mp hp).elim (λ z=>I.pin p (List.mem_append_right _ z)) λ z=>by
  obtain ⟨hb,e⟩:=LQ z;obtain ⟨f0,f1,f2,_⟩:=hf p.1 hb;obtain ⟨o,e',d⟩:=ho p.1 hb;rw [e] at e'; cases e';exact ⟨e,f0,f1,f2,d⟩
theorem Inv.Gi {pl:List (Addr × Obj)} {s:Shared} (I:Inv X (pins ++ pl) Z H s):Inv X pins Z H s:=I.Xi λ p hp=>I.pin p (List.mem_append_right _ (List.mem_append_left _ hp))
theorem E6 {body:List Stmt} {wi:TI} {g:TG} {tb:TS} {pos:Pos} (hp:PassesOwn (model X.prog X.w) X.A X.env X.xe) (hc:X.calm = true) (hi:PI X tg iter wi) (hg:PG X tg g) (hb:PSs X body tb)
  (hs:autoParam (∀ x,foldedSetIterable iter X.env x = pure x) zz2._auto_1):PS X (.For tg iter body [] pos) (Zk6 wi g tb):=by
 intro pins s Z H D I h;refine wpAny_For (thn (hi pins s Z H _ I h) λ v s1 h1=>thn h1 λ itv s2 h2=>?_) hs;obtain ⟨it,fp,tn,J,H2,e,I2,T,st2,f2,W,⟨m0,w0⟩,turn⟩:=h2;subst e;have stat:∀ {H':Hp},(∀ b ∈ fp,H' b = none)->∀ b ∈ fp,HF X pins H' b:=λ hn b hb=>⟨hn b hb,(f2 b hb).2⟩;refine codeAny_forLoop_any (λ n s'=>∃ i σ' H',Inv X pins σ' H' s' /\ tn i s'.heap /\ (∀ b ∈ fp,H' b = none) /\ W i n σ' H') ?_ m0 ⟨0,Z,H2,I2,st2,λ b hb=>(f2 b hb).1,w0⟩;rintro n s3 ⟨i,σ3,H3,I3,st3,fr3,w3⟩
 rcases turn i n σ3 H3 w3 with ⟨stop,qn⟩ | ⟨go,N,hN,step⟩
 ·refine wpAny_passesOwn hp (thn (T.done X rfl rfl rfl hc i pins s3 σ3 H3 X.xe I3 (stat fr3) st3 stop) λ r s4 ⟨hr,I4⟩=>?_);subst hr;exact wpAny_execs_nil ⟨σ3,H3,I4,qn⟩
 ·refine wpAny_passesOwn hp (thn (T.item X rfl rfl rfl hc i pins s3 σ3 H3 X.xe I3 (stat fr3) st3 go) λ r s4 ⟨u,hr,h4⟩=>?_);subst hr;refine wpAny_passesOwn hp (thn h4 λ _ s5 ⟨x,H5,I5,r5,y5,st5,fr5⟩=>?_);have I5':=I5.pinned (stat fr5) (T.obj _ _ st5);refine wpAny_passesOwn hp (thn (hg _ s5 σ3 H5 x u _ I5' r5 (step x H5 y5)) λ _ s6 ⟨σ6,H6,I6,q6⟩=>?_);refine wpAny_passesOwn hp (thn (hb _ s6 σ6 H6 _ I6 q6) λ f s7 q7=>?_);have again:∀ {σ7:St} {H7:Hp},Inv X (pins ++ Bu fp s5.heap) σ7 H7 s7->N σ7 H7->∃ m,m < n /\ ∃ i σ' H',Inv X pins σ' H' s7 /\ tn i s7.heap /\ (∀ b ∈ fp,H' b = none) /\ W i m σ' H':=λ {σ7 H7} I7 n7=>by
   obtain ⟨m',hm,w7⟩:=hN σ7 H7 n7;refine ⟨m',hm,i + 1,σ7,H7,I7.Gi,T.keep _ _ _ st5 λ b hb o e=>(I7.pin (b,o) (List.mem_append_right _ (List.mem_append_right _ (V2 hb e)))).1,λ b hb=>?_,w7⟩;obtain ⟨o,e,d⟩:=T.obj _ _ st5 b hb;exact (I7.pin (b,o) (List.mem_append_right _ (List.mem_append_right _ (V2 hb e)))).2.1
  cases f with
  | next=>obtain ⟨σ7,H7,I7,n7⟩:=q7; exact again I7 n7
  | cont=>obtain ⟨σ7,H7,I7,n7⟩:=q7; exact again I7 n7
  | brk=>obtain ⟨σ7,H7,I7,q7⟩:=q7; exact ⟨σ7,H7,I7.Gi,q7⟩
  | ret v=>obtain ⟨x7,σ7,H7,I7,r7,q7⟩:=q7; exact ⟨x7,σ7,H7,I7.Gi,r7,q7⟩
theorem SH {K:Fk} {g:TG} {tb:TS} {D:Ends} (Pv:Nat->St->Hp->Prop) (h0:Pv 0 Z H) (hl:∀ i Z H,i <= xs.length->Pv i Z H->SqL K H a xs)
  (hs:∀ i x Z H,xs[i]? = some x->Pv i Z H->g x Z H λ σ2 H2=>tb { D with nx:=Pv (i + 1),ct:=Pv (i + 1),bk:=D.nx } σ2 H2) (hd:∀ Z H,Pv xs.length Z H->D.nx Z H) :
  ∃ W:Nat->Nat->St->Hp->Prop,(∃ m,W 0 m Z H) /\ ∀ i m Z H,W i m Z H ->
   ((Itl K a).stop i H /\ D.nx Z H) \/ ((Itl K a).go i H /\ ∃ N:St->Hp->Prop,(∀ σ' H',N σ' H'->∃ m',m' < m /\ W (i + 1) m' σ' H') /\ ∀ x H',(Itl K a).yld i H x H'->g x Z H' λ σ2 H2=>tb { D with nx:=N,ct:=N,bk:=D.nx } σ2 H2):=by
 refine ⟨λ i m Z H=>m = xs.length - i /\ i <= xs.length /\ Pv i Z H,⟨xs.length,by simp,Nat.zero_le _,h0⟩,?_⟩;rintro i m Z H ⟨rfl,hi,p⟩;have q:=hl i Z H hi p
 by_cases hlt:i < xs.length
 ·refine .inr ⟨⟨xs,xs[i],q,by simp [hlt]⟩,Pv (i + 1),λ σ' H' p'=>⟨xs.length - (i + 1),by lia,rfl,hlt,p'⟩,λ x H' y=>?_⟩;obtain ⟨e,y⟩:=y;subst e;exact hs i x Z _ (y xs q) p
 ·have e:i = xs.length:=by lia
  subst e;exact .inl ⟨⟨xs,q,Nat.le_refl _⟩,hd Z H p⟩
theorem Pp {lo:Int} {n:Nat} {g:TG} {tb:TS} {D:Ends} (Pv:Nat->St->Hp->Prop) (h0:Pv 0 Z H)
  (hs:∀ i Z H,i < n->Pv i Z H->g (.int (lo + i)) Z H λ σ2 H2=>tb { D with nx:=Pv (i + 1),ct:=Pv (i + 1),bk:=D.nx } σ2 H2) (hd:∀ Z H,Pv n Z H->D.nx Z H) :
  ∃ W:Nat->Nat->St->Hp->Prop,(∃ m,W 0 m Z H) /\ ∀ i m Z H,W i m Z H ->
   ((Itr lo n).stop i H /\ D.nx Z H) \/ ((Itr lo n).go i H /\ ∃ N:St->Hp->Prop,(∀ σ' H',N σ' H'->∃ m',m' < m /\ W (i + 1) m' σ' H') /\ ∀ x H',(Itr lo n).yld i H x H'->g x Z H' λ σ2 H2=>tb { D with nx:=N,ct:=N,bk:=D.nx } σ2 H2):=by
 refine ⟨λ i m Z H=>m = n - i /\ i <= n /\ Pv i Z H,⟨n,by simp,Nat.zero_le _,h0⟩,?_⟩;rintro i m Z H ⟨rfl,hi,p⟩
 by_cases hlt:i < n
 ·refine .inr ⟨hlt,Pv (i + 1),λ σ' H' p'=>⟨n - (i + 1),by lia,rfl,hlt,p'⟩,λ x H' y=>?_⟩;obtain ⟨e,y⟩:=y;subst e y;exact hs i Z _ hlt p
 ·have e:i = n:=by lia
  subst e;exact .inl ⟨Nat.le_refl _,hd Z H p⟩
abbrev R2:=V->V->Hp->VK->Prop
def OpR (X:Cx) (f:Value->Value->Sem Value) (r:R2):Prop:=
 ∀ (pins:List (Addr × Obj)) (s:Shared) (Z:St) (H:Hp) (x y:V) (v u:Value) (Q:VK),Inv X pins Z H s->RelV x v->RelV y u->r x y H Q ->
  wpAny (model X.prog X.w) X.A (f v u) (EP X pins Z Q) X.xe s
def UnR (X:Cx) (f:Value->Sem Value) (r:V->Hp->VK->Prop):Prop:=
 ∀ (pins:List (Addr × Obj)) (s:Shared) (Z:St) (H:Hp) (x:V) (v:Value) (Q:VK),Inv X pins Z H s->RelV x v->r x H Q ->
  wpAny (model X.prog X.w) X.A (f v) (EP X pins Z Q) X.xe s
def JI (X:Cx) (f:Value) (r:List V->Hp->VK->Prop):Prop:=
 ∀ (pins:List (Addr × Obj)) (s:Shared) (Z:St) (H:Hp) (xs:List V) (us:List Value) (Q:VK),Inv X pins Z H s->Vals xs us->r xs H Q ->
  wpAny (model X.prog X.w) X.A (call f us) (EP X pins Z Q) X.xe s
def tOp (r:R2) (ta tb:TE):TE:=λ Z H Q=>ta Z H λ x H1=>tb Z H1 λ y H2=>r x y H2 Q
def tUn (r:V->Hp->VK->Prop) (ta:TE):TE:=λ Z H Q=>ta Z H λ x H1=>r x H1 Q
def rI (C:Int->Int->Prop) (g:Int->Int->V):R2:=λ x y H Q=>∃ i j,x = .int i /\ y = .int j /\ C i j /\ Q (g i j) H
def rI0 (g:Int->Int->V):R2:=λ x y H Q=>∃ i j,x = .int i /\ y = .int j /\ Q (g i j) H
def rU (g:Int->V):V->Hp->VK->Prop:=λ x H Q=>∃ i,x = .int i /\ Q (g i) H
section
variable {a b c:Expr} {ta tb tc:TE}
theorem Zjl (ha:PE X a ta) (hb:PE X b tb) {s:Shared} {R:V->V->Hp->Prop} (I:Inv X pins Z H s)
  (h:ta Z H λ x H1=>tb Z H1 λ y H2=>R x y H2) {Q:Value->Shared->Prop} {f:Value->Value->Sem Value}
  (hf:∀ v u s2 x y H2,Inv X pins Z H2 s2->RelV x v->RelV y u->R x y H2->wpAny (model X.prog X.w) X.A (f v u) Q X.xe s2) :
  wpAny (model X.prog X.w) X.A (eval a X.env) (λ v s₁=>wpAny (model X.prog X.w) X.A (eval b X.env) (λ u s₂=>wpAny (model X.prog X.w) X.A (f v u) Q X.xe s₂) X.xe s₁) X.xe s:=by
 refine thn (ha pins s Z H _ I h) λ v s1 ⟨x,H1,I1,r1,q1⟩=>?_;refine thn (hb pins s1 Z H1 _ I1 q1) λ u s2 ⟨y,H2,I2,r2,q2⟩=>?_;exact hf v u s2 x y H2 I2 r1 r2 q2
theorem Zjk {op:Operator} {r:R2} (ho:OpR X (binaryOp op) r) (ha:PE X a ta) (hb:PE X b tb):PE X (.BinOp a op b pos) (tOp r ta tb):=by
 intro pins s Z H Q I h;exact wpAny_BinOp (Zjl ha hb I h λ v u s2 x y H2 I2 rx ry q=>ho pins s2 Z H2 x y v u Q I2 rx ry q)
theorem Zjv {op:UnaryOp} {r:V->Hp->VK->Prop} (ho:UnR X (unaryOp op) r) (ha:PE X a ta):PE X (.UnaryOp op a pos) (tUn r ta):=by
 intro pins s Z H Q I h;exact UnaryOp_ (thn (ha pins s Z H _ I h) λ v s1 ⟨x,H1,I1,r1,q1⟩=>ho pins s1 Z H1 x v Q I1 r1 q1)
theorem opI {f:Value->Value->Sem Value} {C:Int->Int->Prop} {g:Int->Int->Int}
  (rule:∀ (i j:Int) (t u:Tok) (s:Shared) (Q:Value->Shared->Prop) (E:Value->Shared->Prop),C i j->Q (.int (g i j) s.toks) { s with toks:=s.toks + 1 }->wpAny (model X.prog X.w) X.A (f (.int i t) (.int j u)) Q E s) :
  OpR X f (rI C λ i j=>.int (g i j)):=by
 intro pins s Z H x y v u Q I rx ry h;obtain ⟨i,j,rfl,rfl,hc,q⟩:=h;obtain ⟨t,rfl⟩:=rx;obtain ⟨t',rfl⟩:=ry;exact rule i j t t' s _ _ hc ⟨.int (g i j),H,I.tok _,⟨_,rfl⟩,q⟩
theorem Zkc {f:Value->Value->Sem Value} {g:Int->Int->Int}
  (rule:∀ (i j:Int) (t u:Tok) (s:Shared) (Q:Value->Shared->Prop) (E:Value->Shared->Prop),Q (.int (g i j) s.toks) { s with toks:=s.toks + 1 }->wpAny (model X.prog X.w) X.A (f (.int i t) (.int j u)) Q E s) :
  OpR X f (rI0 λ i j=>.int (g i j)):=by
 intro pins s Z H x y v u Q I rx ry h;obtain ⟨i,j,rfl,rfl,q⟩:=h;obtain ⟨t,rfl⟩:=rx;obtain ⟨t',rfl⟩:=ry;exact rule i j t t' s _ _ ⟨.int (g i j),H,I.tok _,⟨_,rfl⟩,q⟩
theorem Ziz {f:Value->Value->Sem Value} {g:Int->Int->Bool}
  (rule:∀ (i j:Int) (t u:Tok) (s:Shared) (Q:Value->Shared->Prop) (E:Value->Shared->Prop),Q (.bool (g i j)) s->wpAny (model X.prog X.w) X.A (f (.int i t) (.int j u)) Q E s) :
  OpR X f (rI0 λ i j=>.bl (g i j)):=by
 intro pins s Z H x y v u Q I rx ry h;obtain ⟨i,j,rfl,rfl,q⟩:=h;obtain ⟨t,rfl⟩:=rx;obtain ⟨t',rfl⟩:=ry;exact rule i j t t' s _ _ ⟨.bl (g i j),H,I,rfl,q⟩
def ZkL (i j:Int):Prop:=0 < j /\ j < 1073741824
def ZjD (i j:Int):Prop:=0 <= j /\ j <= 1000000 /\ i.natAbs < 2 ^ 64
def Ziy (i j:Int):Prop:=(-(2 ^ 64) < i /\ i < 2 ^ 64) \/ (-(2 ^ 64) < j /\ j < 2 ^ 64)
theorem Ziy.ok {j:Int} (h:Ziy i j):IntMulOk i j:=by
 rcases h with ⟨h1,h2⟩ | ⟨h1,h2⟩
 ·exact .of_left (intBits_le_64 h1 h2)
 ·exact .of_right (intBits_le_64 h1 h2)
theorem Zgu:OpR X (binaryOp .Add) (rI0 λ i j=>.int (i + j)):=Zkc λ _ _ _ _ _ _ _ q=>add_int q
theorem Zgf:OpR X (binaryOp .Sub) (rI0 λ i j=>.int (i - j)):=Zkc λ _ _ _ _ _ _ _ q=>sub_int q
theorem Ze3:OpR X (binaryOp .Mult) (rI Ziy λ i j=>.int (i * j)):=opI λ _ _ _ _ _ _ _ hc q=>mul_int q hc.ok
theorem ZbS:OpR X (binaryOp .FloorDiv) (rI ZkL λ i j=>.int (i / j)):=opI λ i j _ _ _ _ _ hc q=>by
 have h1:(0:Int) < j:=hc.1;have h2:j < 1073741824:=hc.2;exact floordiv_int (by lia) (by rw [Int.fdiv_eq_ediv_of_nonneg i (by lia)]; exact q) (.inl (PyProof.noPylong_small (by lia)))
theorem Zhf:OpR X (binaryOp .Mod) (rI (λ _ j=>0 < j) λ i j=>.int (i % j)):=opI λ i j _ _ _ _ _ hc q=>by
 have h1:(0:Int) < j:=hc;exact mod_int' (by lia) (by rw [Int.fmod_eq_emod_of_nonneg i (by lia)]; exact q)
theorem ZgE:OpR X (binaryOp .Pow) (rI ZjD λ i j=>.int (i ^ j.toNat)):=opI λ _ _ _ _ _ _ _ hc q=>pow_int_small hc.1 hc.2.1 hc.2.2 q
theorem unI {f:Value->Sem Value} {g:Int->Int}
  (rule:∀ (i:Int) (t:Tok) (s:Shared) (Q:Value->Shared->Prop) (E:Value->Shared->Prop),Q (.int (g i) s.toks) { s with toks:=s.toks + 1 }->wpAny (model X.prog X.w) X.A (f (.int i t)) Q E s) :
  UnR X f (rU λ i=>.int (g i)):=by
 intro pins s Z H x v Q I rx h;obtain ⟨i,rfl,q⟩:=h;obtain ⟨t,rfl⟩:=rx;exact rule i t s _ _ ⟨.int (g i),H,I.tok _,⟨_,rfl⟩,q⟩
theorem Zf0:UnR X (unaryOp .USub) (rU λ i=>.int (-i)):=unI λ _ _ _ _ _ q=>neg_int q
end
noncomputable def Zkg:V->V->Bool
 | .non,.non=>true | .non,.int _=>true | .int _,.non=>true | .non,.bl _=>true | .bl _,.non=>true | .non,.str _=>true | .str _,.non=>true
 | .int _,.int _=>true | .bl _,.bl _=>true | .str _,.str _=>true | .byt _,.byt _=>true
 | .int _,.str _=>true | .str _,.int _=>true | .bl _,.str _=>true | .str _,.bl _=>true
 | _,_=>false
def rEq:R2:=λ x y H Q=>Zkg x y = true /\ Q (.bl (decide (x = y))) H
def rNe:R2:=λ x y H Q=>Zkg x y = true /\ Q (.bl (!decide (x = y))) H
theorem Mo {j:Int}:decide (V.int i = V.int j) = (i == j):=by
 rw [Bool.eq_iff_iff];simp
theorem Za4 {i j:Bool}:decide (V.bl i = V.bl j) = (i == j):=by
 rw [Bool.eq_iff_iff];simp
theorem UL {i j:Str}:decide (V.str i = V.str j) = (i == j):=by
 rw [Bool.eq_iff_iff];simp
theorem LC {i j:Array UInt8}:decide (V.byt i = V.byt j) = (i.toList == j.toList):=by
 rw [Bool.eq_iff_iff];cases i;cases j;simp
section
variable {a b c:Expr} {ta tb tc:TE}
theorem Z3 {s:Shared} {Q:VK} {k k':Bool} (I:Inv X pins Z H s) (q:Q (.bl k) H) (e:k = k'):EP X pins Z Q (.bool k') s:=by
 subst e;exact ⟨.bl k,H,I,rfl,q⟩
theorem Zjz:OpR X (compareOp .Eq) rEq:=by
 intro pins s Z H x y v u Q I rx ry h;obtain ⟨hs,q⟩:=h;cases x with
 | non=>
  cases rx;cases y with
  | non=>cases ry; exact PySem.EqNone.eq_none_none (Z3 I q (by simp))
  | bl j=>cases ry; exact PySem.EqNone.eq_none_bool (Z3 I q (by simp))
  | int j=>obtain ⟨t',rfl⟩:=ry; exact PySem.EqNone.eq_none_int (Z3 I q (by simp))
  | str j=>obtain ⟨t',rfl⟩:=ry; exact PySem.EqNone.eq_none_str (Z3 I q (by simp))
  | _=>exact absurd (show false = true from hs) Bool.false_ne_true
 | bl i=>
  cases rx;cases y with
  | non=>cases ry; exact PySem.EqNone.eq_bool_none (Z3 I q (by simp))
  | bl j=>cases ry; exact eq_bool (Z3 I q Za4)
  | str j=>obtain ⟨t',rfl⟩:=ry; exact PySem.EqMixed.eq_bool_str (Z3 I q (by simp))
  | _=>exact absurd (show false = true from hs) Bool.false_ne_true
 | int i=>
  obtain ⟨t,rfl⟩:=rx;cases y with
  | non=>cases ry; exact PySem.EqNone.eq_int_none (Z3 I q (by simp))
  | int j=>obtain ⟨t',rfl⟩:=ry; exact eq_int (Z3 I q Mo)
  | str j=>obtain ⟨t',rfl⟩:=ry; exact PySem.EqMixed.eq_int_str (Z3 I q (by simp))
  | _=>exact absurd (show false = true from hs) Bool.false_ne_true
 | str i=>
  obtain ⟨t,rfl⟩:=rx;cases y with
  | non=>cases ry; exact PySem.EqNone.eq_str_none (Z3 I q (by simp))
  | bl j=>cases ry; exact PySem.EqMixed.eq_str_bool (Z3 I q (by simp))
  | int j=>obtain ⟨t',rfl⟩:=ry; exact PySem.EqMixed.eq_str_int (Z3 I q (by simp))
  | str j=>obtain ⟨t',rfl⟩:=ry; exact eq_str (Z3 I q UL)
  | _=>exact absurd (show false = true from hs) Bool.false_ne_true
 | byt i=>
  obtain ⟨t,rfl⟩:=rx;cases y with
  | byt j=>obtain ⟨t',rfl⟩:=ry; exact PySem.W.eq_bytes (Z3 I q LC)
  | _=>exact absurd (show false = true from hs) Bool.false_ne_true
 | _=>cases y <;> exact absurd (show false = true from hs) Bool.false_ne_true
theorem ZiG:OpR X (compareOp .NotEq) rNe:=by
 intro pins s Z H x y v u Q I rx ry h;obtain ⟨hs,q⟩:=h;cases x with
 | non=>
  cases rx;cases y with
  | non=>cases ry; exact PySem.EqNone.ne_none_none (Z3 I q (by simp))
  | bl j=>cases ry; exact PySem.EqNone.ne_none_bool (Z3 I q (by simp))
  | int j=>obtain ⟨t',rfl⟩:=ry; exact PySem.EqNone.ne_none_int (Z3 I q (by simp))
  | str j=>obtain ⟨t',rfl⟩:=ry; exact PySem.EqNone.ne_none_str (Z3 I q (by simp))
  | _=>exact absurd (show false = true from hs) Bool.false_ne_true
 | bl i=>
  cases rx;cases y with
  | non=>cases ry; exact PySem.EqNone.ne_bool_none (Z3 I q (by simp))
  | bl j=>cases ry; exact ne_bool (Z3 I q (congrArg not Za4))
  | str j=>obtain ⟨t',rfl⟩:=ry; exact PySem.EqMixed.ne_bool_str (Z3 I q (by simp))
  | _=>exact absurd (show false = true from hs) Bool.false_ne_true
 | int i=>
  obtain ⟨t,rfl⟩:=rx;cases y with
  | non=>cases ry; exact PySem.EqNone.ne_int_none (Z3 I q (by simp))
  | int j=>obtain ⟨t',rfl⟩:=ry; exact ne_int (Z3 I q (congrArg not Mo))
  | str j=>obtain ⟨t',rfl⟩:=ry; exact PySem.EqMixed.ne_int_str (Z3 I q (by simp))
  | _=>exact absurd (show false = true from hs) Bool.false_ne_true
 | str i=>
  obtain ⟨t,rfl⟩:=rx;cases y with
  | non=>cases ry; exact PySem.EqNone.ne_str_none (Z3 I q (by simp))
  | bl j=>cases ry; exact PySem.EqMixed.ne_str_bool (Z3 I q (by simp))
  | int j=>obtain ⟨t',rfl⟩:=ry; exact PySem.EqMixed.ne_str_int (Z3 I q (by simp))
  | str j=>obtain ⟨t',rfl⟩:=ry; exact ne_str (Z3 I q (congrArg not UL))
  | _=>exact absurd (show false = true from hs) Bool.false_ne_true
 | byt i=>
  obtain ⟨t,rfl⟩:=rx;cases y with
  | byt j=>obtain ⟨t',rfl⟩:=ry; exact PySem.W.ne_bytes (Z3 I q (congrArg not LC))
  | _=>exact absurd (show false = true from hs) Bool.false_ne_true
 | _=>cases y <;> exact absurd (show false = true from hs) Bool.false_ne_true
theorem Zi8:OpR X (compareOp .Lt) (rI0 λ i j=>.bl (decide (i < j))):=Ziz λ _ _ _ _ _ _ _ q=>lt_int q
theorem ZjN:OpR X (compareOp .LtE) (rI0 λ i j=>.bl (decide (i <= j))):=Ziz λ _ _ _ _ _ _ _ q=>le_int q
theorem Zi3:OpR X (compareOp .Gt) (rI0 λ i j=>.bl (decide (j < i))):=Ziz λ _ _ _ _ _ _ _ q=>gt_int q
theorem ZiP:OpR X (compareOp .GtE) (rI0 λ i j=>.bl (decide (j <= i))):=Ziz λ _ _ _ _ _ _ _ q=>ge_int q
theorem Zgx:OpR X (compareOp .Is) (λ x y H Q=>y = .non /\ Q (.bl (decide (x = .non))) H):=by
 intro pins s Z H x y v u Q I rx ry h;obtain ⟨rfl,q⟩:=h;cases ry;refine is_none_gen (Z3 I q ?_);cases x <;> first
  | (cases rx; rfl)
  | (obtain ⟨t,rfl⟩:=rx; rfl)
theorem ZdO:OpR X (compareOp .IsNot) (λ x y H Q=>y = .non /\ Q (.bl (!decide (x = .non))) H):=by
 intro pins s Z H x y v u Q I rx ry h;obtain ⟨rfl,q⟩:=h;cases ry;refine isnot_none_gen (Z3 I q ?_);cases x <;> first
  | (cases rx; rfl)
  | (obtain ⟨t,rfl⟩:=rx; rfl)
theorem OpR.or {f:Value->Value->Sem Value} {r r':R2} (h:OpR X f r) (h':OpR X f r'):OpR X f (λ x y H Q=>r x y H Q \/ r' x y H Q):=by
 intro pins s Z H x y v u Q I rx ry q
 rcases q with q | q
 ·exact h pins s Z H x y v u Q I rx ry q
 ·exact h' pins s Z H x y v u Q I rx ry q
theorem Za3 (b:Expr) {op:CmpOp} (h:autoParam (op ≠ .In) zz1._auto_1) (h2:autoParam (op ≠ .NotIn) zz1._auto_1):behindInMarks op b = false:=by
 have e1:(op == CmpOp.In) = false:=by cases op <;> first | rfl | exact absurd rfl h
 have e2:(op == CmpOp.NotIn) = false:=by cases op <;> first | rfl | exact absurd rfl h2
 cases b <;> simp [behindInMarks,e1,e2]
theorem Zdp {op:CmpOp} {r:R2} (ho:OpR X (compareOp op) r) (ha:PE X a ta) (hb:PE X b tb) (hm:behindInMarks op b = false):PE X (.Compare a [op] [b] pos) (tOp r ta tb):=by
 intro pins s Z H Q I h;exact wpAny_Compare1 (Zjl ha hb I h λ v u s2 x y H2 I2 rx ry q=>ho pins s2 Z H2 x y v u Q I2 rx ry q) hm
def Zhu (t:TE):TT:=λ Z H Q=>t Z H λ x H'=>∃ k,x = .bl k /\ Q k H'
theorem ZcE {op:CmpOp} {r:R2} (ho:OpR X (compareOp op) r) (ha:PE X a ta) (hb:PE X b tb) (hm:behindInMarks op b = false):PT X (.Compare a [op] [b] pos) (Zhu (tOp r ta tb)):=by
 intro pins s Z H Q I h
 refine wpAny_isTrue_Compare1 (thn (ha pins s Z H _ I h) λ v s1 ⟨x,H1,I1,r1,q1⟩=>thn (hb pins s1 Z H1 _ I1 q1) λ u s2 ⟨y,H2,I2,r2,q2⟩=>
  thn (ho pins s2 Z H2 x y v u _ I2 r1 r2 q2) λ c s3 ⟨z,H3,I3,r3,k,e,q3⟩=>?_) hm
 subst e;cases r3;exact wpAny_truthy_bool ⟨H3,I3,q3⟩
def NP (r r':R2) (ta tb tc:TE):TE:=λ Z H Q=>ta Z H λ x H1=>tb Z H1 λ y H2=>r x y H2 λ z H3=>∃ k,z = .bl k /\
 (if k = true then tc Z H3 λ w' H4=>r' y w' H4 Q else Q (.bl false) H3)
theorem RJ {op op':CmpOp} {r r':R2} (ho:OpR X (compareOp op) r) (ho':OpR X (compareOp op') r') (ha:PE X a ta) (hb:PE X b tb) (hc:PE X c tc)
  (hm:autoParam (lastMarks [op,op'] [b,c] = false) zz4._auto_1):PE X (.Compare a [op,op'] [b,c] pos) (NP r r' ta tb tc):=by
 intro pins s Z H Q I h
 refine Compare_chain (thn (ha pins s Z H _ I h) λ v s1 ⟨x,H1,I1,r1,q1⟩=>chain_link (thn (hb pins s1 Z H1 _ I1 q1) λ u s2 ⟨y,H2,I2,r2,q2⟩=>
  thn (ho pins s2 Z H2 x y v u _ I2 r1 r2 q2) λ d s3 ⟨z,H3,I3,r3,k,e,q3⟩=>?_)) hm
 subst e;cases r3;refine wpAny_truthy_bool ?_;cases k with
 | false=>exact ite_ff ⟨.bl false,H3,I3,rfl,q3⟩
 | true=>exact ite_tt (chain_last (thn (hc pins s3 Z H3 _ I3 q3) λ w' s4 ⟨z',H4,I4,r4,q4⟩=>ho' pins s4 Z H4 y z' u w' Q I4 r2 r4 q4))
theorem PZ {op op':CmpOp} {r r':R2} (ho:OpR X (compareOp op) r) (ho':OpR X (compareOp op') r') (ha:PE X a ta) (hb:PE X b tb) (hc:PE X c tc)
  (hm:autoParam (lastMarks [op,op'] [b,c] = false) zz4._auto_1):PT X (.Compare a [op,op'] [b,c] pos) (Zhu (NP r r' ta tb tc)):=by
 intro pins s Z H Q I h
 refine isTrue_chain (thn (ha pins s Z H _ I h) λ v s1 ⟨x,H1,I1,r1,q1⟩=>test_link (thn (hb pins s1 Z H1 _ I1 q1) λ u s2 ⟨y,H2,I2,r2,q2⟩=>
  thn (ho pins s2 Z H2 x y v u _ I2 r1 r2 q2) λ d s3 ⟨z,H3,I3,r3,k,e,q3⟩=>?_)) hm
 subst e;cases r3;refine wpAny_truthy_bool ?_;cases k with
 | false=>
  obtain ⟨k',e',q'⟩:=q3;cases e';exact ite_ff ⟨H3,I3,q'⟩
 | true=>
  refine ite_tt (test_last (thn (hc pins s3 Z H3 _ I3 q3) λ w' s4 ⟨z',H4,I4,r4,q4⟩=>thn (ho' pins s4 Z H4 y z' u w' _ I4 r2 r4 q4) λ d' s5 ⟨z2,H5,I5,r5,k2,e2,q5⟩=>?_));subst e2;cases r5;exact wpAny_truthy_bool ⟨H5,I5,q5⟩
theorem Us:(sizeLine:Nat) < 2 ^ 63:=by rw [sizeLine_eq]; decide
theorem HY:OpR X (binaryOp .Add) (λ x y H Q=>∃ i j,x = .str i /\ y = .str j /\ i.length + j.length <= sizeLine /\ Q (.str (i ++ j)) H):=by
 intro pins s Z H x y v u Q I rx ry h;obtain ⟨i,j,rfl,rfl,hz,q⟩:=h;obtain ⟨t,rfl⟩:=rx;obtain ⟨t',rfl⟩:=ry;exact add_str (λ t' tk=>⟨.str (i ++ j),H,I.tok _,⟨_,rfl⟩,q⟩) hz
theorem vals1 {x:V} (r:Vals [x] us):∃ u,us = [u] /\ RelV x u:=by
 cases r with
 | cons r1 r2=>cases r2; exact ⟨_,rfl,r1⟩
theorem vals2 {x y:V} (r:Vals [x,y] us):∃ u w',us = [u,w'] /\ RelV x u /\ RelV y w':=by
 cases r with
 | cons r1 r2=>
  cases r2 with
  | cons r3 r4=>cases r4; exact ⟨_,_,rfl,r1,r3⟩
theorem Tp:JI X (.builtin "abs") (λ xs H Q=>∃ i,xs = [.int i] /\ Q (.int (if i < 0 then -i else i)) H):=by
 intro pins s Z H xs us Q I r h;obtain ⟨i,rfl,q⟩:=h;obtain ⟨u,rfl,t,rfl⟩:=vals1 r;exact call_abs_int λ u tk=>⟨.int (if i < 0 then -i else i),H,I.tok _,⟨_,rfl⟩,q⟩
theorem MT (hc:X.calm = true):JI X (.builtin "max") (λ xs H Q=>∃ i j,xs = [.int i,.int j] /\ Q (.int (if j > i then j else i)) H):=by
 intro pins s Z H xs us Q I r h;obtain ⟨i,j,rfl,q⟩:=h;obtain ⟨u,w',rfl,⟨t,rfl⟩,⟨t',rfl⟩⟩:=vals2 r;refine max_two_ints (I.ok.hd hc) λ h' tk k=>⟨_,H,I.kept k,?_,q⟩
 by_cases hj:j > i
 ·rw [if_pos hj,if_pos hj]; exact ⟨_,rfl⟩
 ·rw [if_neg hj,if_neg hj]; exact ⟨_,rfl⟩
theorem N5:JI X (.type "int") (λ xs H Q=>(∃ i,xs = [.int i] /\ Q (.int i) H) \/ ∃ k,xs = [.bl k] /\ Q (.int (if k then 1 else 0)) H):=by
 intro pins s Z H xs us Q I r h
 rcases h with ⟨i,rfl,q⟩ | ⟨k,rfl,q⟩
 ·obtain ⟨u,rfl,t,rfl⟩:=vals1 r;exact call_int_int ⟨.int i,H,I,⟨_,rfl⟩,q⟩
 ·obtain ⟨u,rfl,r1⟩:=vals1 r;cases r1;exact call_int_bool ⟨.int (if k then 1 else 0),H,I.tok _,⟨_,rfl⟩,q⟩
theorem BC:JI X (.type "str") (λ xs H Q=>∃ i,xs = [.int i] /\ i.natAbs.log2 < 1920 /\ Q (.str (toString i)) H):=by
 intro pins s Z H xs us Q I r h;obtain ⟨i,rfl,hz,q⟩:=h;obtain ⟨u,rfl,t,rfl⟩:=vals1 r;exact PySem.P.str_of_int hz ⟨.str _,H,I.tok _,⟨_,rfl⟩,q⟩
end
structure Zlz (h:Heap) (x dx C:Addr) (mA:Str->Option Value):Prop where
 obj:h.get? x = some (PySem.W.instObj C dx)
 ns:h.Ns1 dx mA
 ne:dx ≠ x
section
variable {prog:Program} {s:Shared} {K:Fk} {x dx:Addr} {mA:Str->Option Value} {name:Str} {v:Value}
end
theorem Lv.some_of {o:Option Value} (r:Lv (some v) o):∃ u,o = some u /\ RelV v u:=by
 cases o with
 | none=>exact (show False from r).elim
 | some u=>exact ⟨u,rfl,r⟩
section
variable {dx:Addr} {fs fs':List (Str × V)}
end
structure Cls (K:Fk) (C:Addr):Prop where
 pg:PySem.W.plainGet K C Str.empty = true
 hd:PySem.W.hasDictIn K C = true
 po:PySem.W.plainOver K C = true
 sa:PySem.W.findIn K (.ref C) "__setattr__" = some (some (.builtin "object.__setattr__"))
theorem Cls.get {K:Fk} (c:Cls K C) (f:Str):PySem.W.plainGet K C f = true:=c.pg
structure Con (K:Fk) (C:Addr) (f:Str) (v:V) (u:Value):Prop where
 at_:PySem.W.findIn K (.ref C) f = some (some u)
 rel:RelV v u
 get:PySem.W.specialIn K u "__get__" = some none
 cp:PySem.W.copiedNames.contains f = false
structure Meth (K:Fk) (C:Addr) (m:Str) (f:Addr):Prop where
 at_:PySem.W.findIn K (.ref C) m = some (some (.ref f))
 fn:PySem.W.isFn K (.ref f) = true
 kp:PySem.W.keepIn K (.ref f) = true
section
variable {s:Shared} {dx:Addr} {fs:List (Str × V)} {f:Str}
theorem ZcZ {prog:Program} {w:World} {f:Str} {pos:Pos} {s:Shared} {Q:Value->Shared->Prop} (hb:attributeBase e f env (eval e env) = eval e env)
  (h:wpAny (model prog w) A (eval e env) (λ o s₁=>wpAny (model prog w) A (getAttr o f true) Q E s₁) E s):wpAny (model prog w) A (eval (.Attribute e f pos) env) Q E s:=
 Attribute_any_ h (by rw [arm_eval_Attribute,hb])
end
section
variable {o value:Expr} {f:Str} {pos' tpos:Pos} {ta tv:TE}
end
section
variable {s:Shared} {c:Value} {b:Bool}
inductive Mw (K:Fk) (H:Hp):V->Value->Prop where
 | non:Mw K H .non (.type "NoneType")
 | bl (x:Bool):Mw K H (.bl x) (.type "bool")
 | int (i:Int):Mw K H (.int i) (.type "int")
 | str (x:Str):Mw K H (.str x) (.type "str")
 | flt (x:UInt64):Mw K H (.flt x) (.type "float")
 | lst {a:Addr} {xs:List V} (e:H a = some (.lst xs)):Mw K H (.ref a) (.type "list")
 | frz {a:Addr} {o:Obj} {xs:List V} (e:H a = some (.frz o (.lst xs))):Mw K H (.ref a) (.type "list")
 | tup {a:Addr} {xs:List V} (e:H a = some (.tup xs)):Mw K H (.ref a) (.type "tuple")
 | dK {a:Addr} {kvs:List (Key × V)} (e:H a = some (.dK kvs)):Mw K H (.ref a) (.type "dict")
 | dT {a:Addr} {kvs:List (List Key × V)} (e:H a = some (.dT kvs)):Mw K H (.ref a) (.type "dict")
 | ins {a C dx:Addr} {fs:List (Str × V)} (e:H a = some (.ins C dx fs)) (cl:Cls K C) (ha:PySem.W.findIn K (.ref C) "__class__" = some (some (.builtin "object.__class__")))
   (hn:PySem.W.specialIn K (.builtin "object.__class__") "__get__" = some (some (.builtin "getset_descriptor.__get__"))) (htk:PySem.W.takesIn K (.builtin "object.__class__") = some true)
   (hm:PySem.W.mroIn K C (.type "object") = some true):Mw K H (.ref a) (.ref C)
end
structure JT (k:Nat) (A:Around):Prop where
 hd:A.handled = none
 dp:A.depth + 3 * k + 5 < recursionLimit
 un:A.units + 16 * k + 200 < cLine
 gd:A.guards = some []
theorem JT.mono {k:Nat} (r:JT k A) (h:j <= k):JT j A:=⟨r.hd,by have:=r.dp; lia,by have:=r.un; lia,r.gd⟩
theorem JT.deeper {k:Nat} (r:JT (k + 1) A) (env:Env):JT k (A.deeper env):=
 ⟨r.hd,by have:=r.dp; show A.depth + 1 + 3 * k + 5 < _; lia,by have:=r.un; show A.units + 3 + 16 * k + 200 < _; lia,r.gd⟩
theorem Lp {kw:List (Str × Value)}:(A.under (.builtin "type.__call__" ⟨.ref C :: us,kw⟩)).depth = A.depth + 1:=by
 first | rfl | simp [Around.under,Code.weight,Code.isCreation,Code.isGuard,Code.isCaller,Code.frames,Code.isFrame,guardIds]
theorem Lk {kw:List (Str × Value)}:(A.under (.builtin "type.__call__" ⟨.ref C :: us,kw⟩)).units = A.units + 1:=by
 first | rfl | simp [Around.under,Code.cUnits,Code.frames,Code.isFrame]
theorem JT.make {k:Nat} (r:JT (k + 1) A) (C:Addr) (us:List Value) (kw:List (Str × Value)):JT k (A.under (.builtin "type.__call__" ⟨.ref C :: us,kw⟩)):=
 ⟨r.hd,by have:=r.dp; rw [Lp]; lia,by have:=r.un; rw [Lk]; lia,by
  have h:=r.gd
  first | exact h | (rw [<- h]; first | rfl | simp [Around.under,Code.guards,Code.isGuard,pushGuards,guardIds])⟩
theorem JT.depth {k:Nat} (r:JT k A):A.depth < recursionLimit:=by have:=r.dp; lia
theorem JT.units {k:Nat} (r:JT k A):A.units + 64 < cLine:=by have:=r.un; lia
def Zlf:TA:=λ _ H Q=>Q [] H
def Zj0 (ta:TE) (tr:TA):TA:=λ Z H Q=>ta Z H λ x H1=>tr Z H1 λ xs H2=>Q (x :: xs) H2
section
variable {te:TE} {t:TA}
theorem Yh:PA X [] Zlf:=λ _ _ _ _ H Q I h=>Calls.spliced_nil ⟨[],H,I,.nil,h⟩
theorem JC (ha:PE X e te) (hr:PA X es t) (hs:autoParam (starEach (e :: es) X.env = (false,eval e X.env) :: starEach es X.env) zz3._auto_1):PA X (e :: es) (Zj0 te t):=by
 intro pos pins s Z H Q I h;rw [hs];show wpAny _ _ (spliced ((false,eval e X.env) :: backTo pos (starEach es X.env))) _ _ s;refine Calls.spliced_cons (thn (ha pins s Z H _ I h) λ u s1 ⟨x,H1,I1,r1,q1⟩=>?_);exact thn (hr pos pins s1 Z H1 _ I1 q1) λ us s2 ⟨xs,H2,I2,r2,q2⟩=>⟨x :: xs,H2,I2,.cons r1 r2,q2⟩
def Zk9 (t:TA):TE:=λ Z H Q=>t Z H λ xs H1=>xs.length <= sizeLine /\ ∀ p,H1 p = none->Q (.ref p) (upd H1 p (.tup xs))
def Zlk (t:TA):TE:=λ Z H Q=>t Z H λ xs H1=>xs.length <= sizeLine /\ ∀ p,H1 p = none->Q (.ref p) (upd H1 p (.lst xs))
theorem Zbm {x1} (h:PA X es t):PE X (.Tuple es x1 pos) (Zk9 t):=by
 intro pins s Z H Q I hq;refine wpAny_Tuple_spliced (thn (h pos pins s Z H _ I hq) λ us s1 ⟨xs,H1,I1,r,z,q⟩=>⟨by rw [<- r.length]; exact z,?_⟩);have hf:H1 s1.heap.objs.size = none:=I1.hok.fresh (Nat.le_refl _);refine ⟨.ref s1.heap.objs.size,upd H1 s1.heap.objs.size (.tup xs),I1.laid (t':=s1.toks) (λ b u e=>Heap.get?_push_of_some _ e) (Nat.le_refl _) ?_,rfl,q _ hf⟩;exact ⟨z,us,r,⟨_,Heap.get?_push_size _ rfl,rfl,_,rfl⟩⟩
theorem ZaJ (h:PA X es t):PE X (.List es pos) (Zlk t):=by
 intro pins s Z H Q I hq;refine wpAny_List_spliced (thn (h pos pins s Z H _ I hq) λ us s1 ⟨xs,H1,I1,r,z,q⟩=>⟨by rw [<- r.length]; exact z,?_⟩);have hf:H1 s1.heap.objs.size = none:=I1.hok.fresh (Nat.le_refl _);refine ⟨.ref s1.heap.objs.size,upd H1 s1.heap.objs.size (.lst xs),I1.laid (t':=s1.toks) (λ b u e=>Heap.get?_push_of_some _ e) (Nat.le_refl _) ?_,rfl,q _ hf⟩;exact ⟨z,us,0,r,Heap.get?_push_size _ rfl⟩
end
abbrev Sp:=List V->Hp->VK->XK->Prop
abbrev CXT:=List Env->Hp->Shared->XK->Value->Shared->Prop
structure Zdw (P:Program) (w:World) (K:Fk) (mg:Str->Option Value) (base:Heap) (A:Around) (outer:List Env) (s:Shared) (H:Hp):Prop where
 frames:A.frames = some outer
 mod:Mod K mg base
 bs:∀ b o,base.get? b = some o->s.heap.get? b = some o /\ H b = none
 bsz:base.objs.size <= s.heap.objs.size
 EV:s.heap.FunFrames base outer
 frf:∀ b ∈ frs outer,H b = none
 hok:HOk P w H s.heap
 bare:AllBare s.gens
def CE (outer:List Env) (P:Program) (w:World) (H:Hp) (s:Shared) (Q:VK) (u:Value) (s':Shared):Prop:=
 ∃ v H',s'.os = s.os /\ AllBare s'.gens /\ Un (frs outer) [] H H' s.heap s'.heap /\ HOk P w H' s'.heap /\ RelV v u /\ Q v H'
def CR (CX:CXT) (outer:List Env) (P:Program) (w:World) (H:Hp) (s:Shared) (Q:VK) (E:XK) (r:Result) (s':Shared):Prop:=
 match r with
 | .ok (.ret u)=>CE outer P w H s Q u s'
 | .ok _=>False
 | .error e=>CX outer H s E e s'
structure Qu (P:Program) (w:World) (K:Fk) (mg:Str->Option Value) (base:Heap) (CX:CXT) (k:Nat) (f:Addr) (fd:FuncData) (ps:List Str) (sp:Sp):Prop where
 len:∀ vs H Q E,sp vs H Q E->vs.length = ps.length
 run:∀ (A:Around) (outer:List Env) (s:Shared) (H:Hp) (args:Args) (us:List Value) (vs:List V) (Q:VK) (E:XK),JT k A->Zdw P w K mg base A outer s H->BindsTo s fd args (ps.zip us)->Vals vs us->sp vs H Q E ->
  codeAny (model P w) A (.call (.ref f) args) (CR CX outer P w H s Q E) s
theorem Zdw.make {K:Fk} {s:Shared} (e:Zdw P w K mg base A outer s H) (C:Addr) (us:List Value) (kw:List (Str × Value)) :
  Zdw P w K mg base (A.under (.builtin "type.__call__" ⟨.ref C :: us,kw⟩)) outer s H:=⟨by first | exact e.frames | (simpa [Around.under,Code.envs,Code.isFrame,pushEnvs] using e.frames),e.mod,e.bs,e.bsz,e.EV,e.frf,e.hok,e.bare⟩
section
variable {s s':Shared}
theorem Inv.Zit (I:Inv X pins Z H s):Zdw X.prog X.w X.K X.mg X.base X.A X.stack s H:=
 ⟨I.ok.frames,I.ok.mod,I.bs,Nat.le_trans I.ok.bsz I.sz,I.stack,I.C0,I.hok,I.bare⟩
theorem Inv.after {Q:VK} (I:Inv X pins Z H s) (h:CE X.stack X.prog X.w H s Q u s'):EP X pins Z Q u s':=by
 obtain ⟨v,H',os,bare,un,hok,r,q⟩:=h;obtain ⟨hh,g,d,t,os'⟩:=s';obtain rfl:os' = s.os:=os;exact ⟨v,H',I.call (h':=hh) (g':=g) (d':=d) (t':=t) (ch:=[]) un hok bare (λ b z=>absurd z (by simp)),r,q⟩
end
def ZiI (sp:Sp) (dvs:List V) (E:XK) (t:TA):TE:=λ Z H Q=>t Z H λ vs H1=>sp (vs ++ dvs) H1 Q E
def Binds (K:Fk) (fd:FuncData) (ps:List Str) (ds:List Value):Prop:=
 ∀ (s:Shared) (us:List Value),K.In s.heap->(us ++ ds).length = ps.length->BindsTo s fd ⟨us,[]⟩ (ps.zip (us ++ ds))
theorem Binds.all {K:Fk} (h:∀ us:List Value,us.length = ps.length->bindArgs fd ⟨us,[]⟩ = pure (ps.zip us)):Binds K fd ps []:=λ s us _ hl=>by
 rw [List.append_nil] at hl ⊢;exact .of_eq (h us hl)
def Passes (CX:CXT) (X:Cx) (E:XK):Prop:=∀ (pins:List (Addr × Obj)) (Z:St) (H:Hp) (s:Shared) (e:Value) (s':Shared),Inv X pins Z H s->CX X.stack H s E e s'->X.xe e s'
section
variable {CX:CXT} {k:Nat} {sp:Sp} {dvs:List V} {ds:List Value} {E:XK} {m:Str} {p apos:Pos} {o:Expr} {ta:TE} {t:TA}
theorem Zh7 {pins:List (Addr × Obj)} {Z:St} {H:Hp} {s:Shared} {Q:VK} {us:List Value} {vs:List V} (F:Qu X.prog X.w X.K X.mg X.base CX k f fd ps sp) (hr:JT k X.A) (hb:Binds X.K fd ps ds) (hd:Vals dvs ds) (hx:Passes CX X E)
  (I:Inv X pins Z H s) (r:Vals vs us) (h:sp (vs ++ dvs) H Q E):wpAny (model X.prog X.w) X.A (call (.ref f) us) (EP X pins Z Q) X.xe s:=by
 have r2:Vals (vs ++ dvs) (us ++ ds):=r.append hd;have hl:(us ++ ds).length = ps.length:=by rw [<- r2.length]; exact F.len _ _ _ _ h
 refine wpAny_call (codeAny_mono (F.run X.A X.stack s H ⟨us,[]⟩ (us ++ ds) (vs ++ dvs) Q E hr I.Zit (hb s us I.kIn hl) r2 h) λ r s' hq=>?_);cases r with
 | error e=>exact hx pins Z H s e s' I hq
 | ok fl=>
  cases fl with
  | ret u=>exact I.after hq
  | next=>exact False.elim hq
  | brk=>exact False.elim hq
  | cont=>exact False.elim hq
theorem ZdK (F:Qu X.prog X.w X.K X.mg X.base CX k f fd ps sp) (hr:JT k X.A) (hg:Gl X x) (hm:X.mg x = some (.ref f)) (hk:PySem.W.keepIn X.K (.ref f) = true) (hb:Binds X.K fd ps ds) (hd:Vals dvs ds) (hx:Passes CX X E)
  (ha:PA X (e :: es) t) (hdb:autoParam ((x == ("__debug__" : Str)) = false) zz1._auto_1) (he:autoParam (starEach (e :: es) X.env = (false,eval e X.env) :: starEach es X.env) zz3._auto_1) (hpl:autoParam ((backTo pos (starEach es X.env)).any (·.1) = false) zz3._auto_1) :
  PE X (.Call (.Name x p) (e :: es) [] pos) (ZiI sp dvs E t):=by
 intro pins s Z H Q I h;refine wpAny_Call_Name_kw (Xc I hg hm ?_ hdb);refine PySem.W.callWith_K (h₀:=X.base) I.ok.mod.kin hk (thn (ha pos pins s Z H _ I h) λ us s1 ⟨vs,H1,I1,r,q⟩=>⟨I1.kIn,?_⟩) he hpl;exact Zh7 F hr hb hd hx I1 r q
structure Mk (K:Fk) (C f:Addr):Prop where
 makes:PySem.W.makesIn K C = true
 init:PySem.W.findIn K (.ref C) "__init__" = some (some (.ref f))
 fn:PySem.W.isFn K (.ref f) = true
 kp:PySem.W.keepIn K (.ref C) = true
end
section
variable {CX:CXT} {k:Nat} {ks:List Str} {sp:Sp} {E:XK} {m:Str} {p apos kpos:Pos} {o:Expr} {kws:List Keyword} {te ta:TE} {t tk:TA} {nm:Option Str}
structure ZkV (K:Fk) (fd:FuncData) (ps ks:List Str) (g:List Value->List Value->List Value) (gV:List V->List V->List V):Prop where
 to:∀ (s:Shared) (us ws:List Value),K.In s.heap->(g us ws).length = ps.length->BindsTo s fd ⟨us,ks.zip ws⟩ (ps.zip (g us ws))
 rel:∀ {vs:List V} {us:List Value} {zs:List V} {ws:List Value},Vals vs us->Vals zs ws->Vals (gV vs zs) (g us ws)
variable {g:List Value->List Value->List Value} {gV:List V->List V->List V}
end
structure Zr (N P:List Str) (sc:Scope):Prop where
 kind:sc.kind = .function
 co:sc.isCoroutine = false
 gen:sc.isGenerator = false
 nd:N.Nodup
 pre:N.take P.length = P
 par:∀ x ∈ P,sc.names.lookup x = some .local \/ sc.names.lookup x = some .cell
 nofree:∀ y ∈ sc.names,y.2 ≠ .free
theorem Bv {kindOf:Str->Option NameKind}:∀ {binds:List (Str × Value)} {m:Str->Option Value},(∀ v,(x,v) ∉ binds)->bindL kindOf binds m x = m x
 | [],_,_=>rfl
 | (n,v) :: r,m,h=>by
  unfold bindL;rw [Bv λ w hw=>h w (List.mem_cons_of_mem _ hw)]
  split
  ·have:x ≠ n:=by rintro rfl; exact h v List.mem_cons_self
   simp [this]
  ·rfl
theorem Bf {kindOf:Str->Option NameKind}:∀ {binds:List (Str × Value)} {m:Str->Option Value},(∀ v,(x,v) ∉ binds)->bindC kindOf binds m x = m x
 | [],_,_=>rfl
 | (n,v) :: r,m,h=>by
  unfold bindC;rw [Bf λ w hw=>h w (List.mem_cons_of_mem _ hw)]
  split
  ·rfl
  ·have:x ≠ n:=by rintro rfl; exact h v List.mem_cons_self
   simp [this]
theorem G8 {kindOf:Str->Option NameKind} {v:Value}:∀ {P:List Str} {vs:List Value} {i:Nat} {m:Str->Option Value},P.Nodup->P[i]? = some x->vs[i]? = some v->kindOf x = some .local ->
  bindL kindOf (P.zip vs) m x = some v
 | [],_,_,_,_,h,_,_=>by simp at h
 | _ :: _,[],_,_,_,_,h,_=>by simp at h
 | p :: P,w :: vs,0,m,nd,h1,h2,hk=>by
  simp at h1 h2; subst h1; subst h2;show bindL kindOf ((p,w) :: P.zip vs) m p = _;unfold bindL;rw [Bv λ v hv=>(List.nodup_cons.mp nd).1 (List.of_mem_zip hv).1,if_pos hk];simp
 | p :: P,w :: vs,i + 1,m,nd,h1,h2,hk=>by
  show bindL kindOf ((p,w) :: P.zip vs) m x = _;unfold bindL;exact G8 (i:=i) (List.nodup_cons.mp nd).2 (by simpa using h1) (by simpa using h2) hk
theorem Bi {kindOf:Str->Option NameKind} {v:Value}:∀ {P:List Str} {vs:List Value} {i:Nat} {m:Str->Option Value},P.Nodup->P[i]? = some x->vs[i]? = some v->kindOf x ≠ some .local ->
  bindC kindOf (P.zip vs) m x = some v
 | [],_,_,_,_,h,_,_=>by simp at h
 | _ :: _,[],_,_,_,_,h,_=>by simp at h
 | p :: P,w :: vs,0,m,nd,h1,h2,hk=>by
  simp at h1 h2; subst h1; subst h2;show bindC kindOf ((p,w) :: P.zip vs) m p = _;unfold bindC;rw [Bf λ v hv=>(List.nodup_cons.mp nd).1 (List.of_mem_zip hv).1,if_neg hk];simp
 | p :: P,w :: vs,i + 1,m,nd,h1,h2,hk=>by
  show bindC kindOf ((p,w) :: P.zip vs) m x = _;unfold bindC;exact Bi (i:=i) (List.nodup_cons.mp nd).2 (by simpa using h1) (by simpa using h2) hk
noncomputable def start (N:List Str) (vs:List V):St:=vs.map some ++ List.replicate (N.length - vs.length) none
noncomputable def Fz (CX:CXT) (P:Program) (w:World) (K:Fk) (mg:Str->Option Value) (base:Heap) (N:List Str) (qual:Str) (scope:Scope) (f:Addr) (cd:Value) (A:Around) (outer:List Env) (s:Shared) (H:Hp) (E:XK):Cx where
 prog:=P
 w:=w
 K:=K
 mg:=mg
 base:=base
 A:=A.deeper (envOfC qual scope s.heap.objs.size f cd)
 N:=N
 s₀:=s
 H₀:=H
 env:=envOfC qual scope s.heap.objs.size f cd
 outer:=outer
 stack:=envOfC qual scope s.heap.objs.size f cd :: outer
 ex:=[]
 calm:=true
 fn:=λ _=>true
 pn:=[]
 xe:=λ e s'=>wpAny (model P w) (A.deeper (envOfC qual scope s.heap.objs.size f cd)) (leaving (envOfC qual scope s.heap.objs.size f cd) e) (λ _ s''=>CX outer H s E e s'') (λ e' s''=>CX outer H s E e' s'') s'
theorem ED {sc:Scope} (h:sc.names.lookup x = some .cell):∃ c,(cellsFrom n sc.names []).lookup x = some c:=by
 have q:=PySem.W.cellsFrom_some sc.names n [] (.inl h);exact Option.isSome_iff_exists.mp q
theorem N9 {CX:CXT} {P:Program} {w:World} {K:Fk} {mg:Str->Option Value} {base:Heap} {N ps:List Str} {qual:Str} {scope:Scope} {f:Addr} {cd:Value} {A:Around} {outer:List Env} {s s1:Shared} {H:Hp} {E:XK} {us:List Value} {vs:List V}
  (S:Zr N ps scope) (hd:A.handled = none) (e0:Zdw P w K mg base A outer s H) (hl:vs.length = ps.length) (r:Vals vs us)
  (x:InCallC s s.heap.objs.size (bindL (envOfC qual scope s.heap.objs.size f cd).kindOf (ps.zip us) λ _=>none) (cellsFrom (s.heap.objs.size + 1) scope.names []) (bindC (envOfC qual scope s.heap.objs.size f cd).kindOf (ps.zip us) λ _=>none) s1) :
  Inv (Fz CX P w K mg base N qual scope f cd A outer s H E) [] (start N vs) H s1:=by
 have hpl:ps.length <= N.length:=by have:=congrArg List.length S.pre; rw [List.length_take] at this; lia
 obtain ⟨h1,tk,rfl,hk⟩:=x.done;have noA:∀ b:Addr,b ∉ (Fz CX P w K mg base N qual scope f cd A outer s H E).ex:=λ b z=>absurd (show b ∈ ([]:List Addr) from z) (by simp)
 refine ⟨⟨e0.mod,S.kind,rfl,rfl,Nat.le_refl _,λ y z c h1 h2=>?_,λ y hy=>?_,λ y c _ h=>?_,λ _=>hd,Around.frames_deeper e0.frames,.inr ⟨rfl,rfl⟩,λ b z=>absurd z (noA b),e0.bs,e0.bsz,λ b _ _=>noA b,λ b z=>absurd z (noA b),e0.EV,e0.frf⟩,
  rfl,e0.bare,Un.kept hk,⟨_,x.toInCall.ns,λ i y v h1 h2 h3=>?_⟩,λ y c h=>⟨_,x.cell y c h⟩,e0.hok.fresh (Nat.le_refl _),λ y c h=>?_,λ p hp=>absurd (show p ∈ ([]:List (Addr × Obj)) from hp) (by simp),e0.hok.kept hk,?_⟩
 ·exact name_of_addr x.apart (PySem.mem_of_lookup h1) (PySem.mem_of_lookup h2)
 ·have hy:scope.names.lookup y = some .cell \/ scope.names.lookup y = some .free:=hy
  rcases hy with hy | hy
  ·exact ED hy
  ·exact absurd rfl (S.nofree _ (PySem.mem_of_lookup hy))
 ·exact Nat.le_of_lt (x.above y c (PySem.mem_of_lookup h))
 ·have hi:i < vs.length:=by
   unfold start at h2
   by_cases hi:i < vs.length
   ·exact hi
   ·rw [List.getElem?_append_right (by simpa using hi)] at h2;rw [List.getElem?_replicate] at h2
    split at h2 <;> cases h2
  have ha:vs[i]? = some v:=by
   unfold start at h2;rw [List.getElem?_append_left (by simpa using hi),List.getElem?_map] at h2;cases e:vs[i]? with
   | none=>rw [e] at h2; cases h2
   | some a=>rw [e] at h2; cases h2; rfl
  obtain ⟨u,hu,rv⟩:=r.get ha;have hp:ps[i]? = some y:=by
   rw [<- S.pre,List.getElem?_take_of_lt (by lia)]; exact h1
  have ndP:ps.Nodup:=by rw [<- S.pre]; exact S.nd.sublist (List.take_sublist _ _)
  refine ⟨u,rv,?_⟩
  rcases S.par y (List.mem_of_getElem? hp) with k | k
  ·exact .inl ⟨k,G8 ndP hp hu k⟩
  ·obtain ⟨c,e⟩:=ED (n:=s.heap.objs.size + 1) k;refine .inr ⟨.inl k,c,e,?_⟩;have q:=x.cell y c e;rw [Bi ndP hp hu (by show scope.names.lookup y ≠ _; rw [k]; decide)] at q;exact q
 ·exact e0.hok.fresh (Nat.le_of_lt (x.above y c (PySem.mem_of_lookup h)))
 ·unfold start;show _ = N.length;rw [List.length_append,List.length_map,List.length_replicate];lia
theorem Zf9 {CX:CXT} {P:Program} {w:World} {K:Fk} {mg:Str->Option Value} {base:Heap} {k:Nat} {f:Addr} {name qual:Str} {params:Arguments} {body:List Stmt} {scope:Scope} {dV kV doc pm cdv ct oc:Value} {an od:Option Addr}
  {osl:Array (Option Value)} {N ps:List Str} {sp:Sp} (lk:K.lookup f = some ⟨oc,od,.func (PySem.W.fnOf name qual params body scope dV kV doc pm an cdv ct),osl⟩) (hcd:PySem.W.codeIn K cdv qual = true) (S:Zr N ps scope)
  (len:∀ vs H Q E,sp vs H Q E->vs.length = ps.length)
  (hbody:∀ (A:Around) (outer:List Env) (s:Shared) (H:Hp) (vs:List V) (Q:VK) (E:XK),JT k (A.deeper (envOfC qual scope s.heap.objs.size f cdv))->sp vs H Q E ->
   ∃ t,PSs (Fz CX P w K mg base N qual scope f cdv A outer s H E) body t /\ t { nx:=λ _ H'=>Q .non H',rt:=Q } (start N vs) H) :
  Qu P w K mg base CX (k + 1) f (PySem.W.fnOf name qual params body scope dV kV doc pm an cdv ct) ps sp:=by
 refine ⟨len,λ A outer s H args us vs Q E hr e0 hb r hsp=>?_⟩;have hl:=len _ _ _ _ hsp;have KX:K.In s.heap:=e0.mod.kin.keeps λ b o e=>(e0.bs b o e).1;have lim:s.heap.NoLimit:=e0.mod.nolimit.keeps λ b o e=>(e0.bs b o e).1;have hkind:∀ y ∈ ps.zip us,scope.names.lookup y.1 = some .local \/ (scope.names.lookup y.1 = some .cell /\ ((cellsFrom (s.heap.objs.size + 1) scope.names []).lookup y.1).isSome = true):=λ ⟨n,v⟩ hy=>by
  rcases S.par n (List.of_mem_zip hy).1 with q | q
  ·exact .inl q
  ·exact .inr ⟨q,PySem.W.cellsFrom_some _ _ _ (.inl q)⟩
 refine codeAny_call_function hr.depth (KX _ _ lk) rfl S.co S.gen rfl (PySem.W.codeRec_of KX hcd) (hb _ _ _ _ ?_);refine wpAny_newFunctionEnv_cells S.kind hkind λ env he s1 x=>?_;subst he;refine ⟨lim.keeps x.toInCall.keep,codeAny_func ?_⟩;obtain ⟨t,ht,hq⟩:=hbody A outer s H vs Q E (hr.deeper _) hsp;have I:Inv (Fz CX P w K mg base N qual scope f cdv A outer s H E) [] (start N vs) H s1:=N9 S hr.hd e0 hl r x;refine wpAny_mono (ht [] s1 (start N vs) H _ I hq) (λ fl s' hs=>?_) λ e s' hs=>hs;have fin:∀ {σ':St} {H':Hp} {v:V} {u:Value},Inv (Fz CX P w K mg base N qual scope f cdv A outer s H E) [] σ' H' s'->RelV v u->Q v H'->CE outer P w H s Q u s':=
  λ {σ' H' v u} J rv q=>⟨v,H',J.os,J.bare,J.base,J.hok,rv,q⟩
 cases fl with
 | ret u=>
  obtain ⟨v,σ',H',J,rv,q⟩:=hs;exact fin J rv q
 | next=>
  obtain ⟨σ',H',J,q⟩:=hs;exact fin (v:=V.non) (u:=Value.none) J rfl q
 | brk=>
  obtain ⟨_,_,_,q⟩:=hs;exact False.elim q
 | cont=>
  obtain ⟨_,_,_,q⟩:=hs;exact False.elim q
section
variable {p:Pos} {t:TA} {id T:String} {r:List V->Hp->VK->Prop}
def tCB (r:List V->Hp->VK->Prop) (t:TA):TE:=λ Z H Q=>t Z H λ vs H1=>r vs H1 Q
theorem Ex (hc:JI X (.builtin id) r) (hg:Gl X x) (hm:X.mg x = none) (hv:bootBuiltins x = some (.builtin id)) (ha:PA X (e :: es) t) (hn:autoParam (x ≠ "__name__") zz1._auto_1) (hdb:autoParam ((x == ("__debug__" : Str)) = false) zz1._auto_1)
  (he:autoParam (starEach (e :: es) X.env = (false,eval e X.env) :: starEach es X.env) zz3._auto_1) (hpl:autoParam ((backTo pos (starEach es X.env)).any (·.1) = false) zz3._auto_1):PE X (.Call (.Name x p) (e :: es) [] pos) (tCB r t):=by
 intro pins s Z H Q I h;refine wpAny_Call_Name_kw (WR I hg hm hv ?_ hn hdb);exact PyProof.Rows.callWith_builtin1 (thn (ha pos pins s Z H _ I h) λ us s1 ⟨vs,H1,I1,r1,q1⟩=>hc pins s1 Z H1 vs us Q I1 r1 q1) he hpl
theorem Ly (hc:JI X (.type T) r) (hg:Gl X x) (hm:X.mg x = none) (hv:bootBuiltins x = some (.type T)) (ha:PA X (e :: es) t) (hn:autoParam (x ≠ "__name__") zz1._auto_1) (hdb:autoParam ((x == ("__debug__" : Str)) = false) zz1._auto_1)
  (he:autoParam (starEach (e :: es) X.env = (false,eval e X.env) :: starEach es X.env) zz3._auto_1) (hpl:autoParam ((backTo pos (starEach es X.env)).any (·.1) = false) zz3._auto_1):PE X (.Call (.Name x p) (e :: es) [] pos) (tCB r t):=by
 intro pins s Z H Q I h;refine wpAny_Call_Name_kw (WR I hg hm hv ?_ hn hdb);exact PyProof.Rows.callWith_type1 (thn (ha pos pins s Z H _ I h) λ us s1 ⟨vs,H1,I1,r1,q1⟩=>hc pins s1 Z H1 vs us Q I1 r1 q1) he hpl
end
end L2
namespace HT
section
open PySem.SeqAt
open PySem.AutoSeq1 (wpAny_loadPart')
open PySem.MeetsSeq PySem.MeetsSeq2 PySem.MeetsSeq3
end
section
variable {prog:Program} {s:Shared}
theorem Zcg {t b:Addr} {vs ws:List Value} {Q:Value->Shared->Prop} (ht:IsTup s.heap t vs.toArray) (hb:IsTup s.heap b ws.toArray) (hv:vs ≠ [])
  (h1:ws = []->Q (.ref t) s) (h2:ws ≠ []->Q (.ref s.heap.objs.size) { s with heap:=s.heap.push { cls:=.type "tuple",data:=.seq (vs ++ ws).toArray } })
  (hsz:vs.length + ws.length <= sizeLine):wpAny (model prog w) A (binaryOp .Add (.ref t) (.ref b)) Q E s:=by
 obtain ⟨⟨cls,dd,data,sl⟩,ho,hc,n,hd⟩:=id ht;obtain ⟨⟨cls2,dd2,data2,sl2⟩,ho2,hc2,n2,hd2⟩:=id hb;simp only at hc hd hc2 hd2;subst hc hd hc2 hd2;have e:vs.toArray ++ ws.toArray = (vs ++ ws).toArray:=by simp
 by_cases hw:ws = []
 ·exact concat_meets ⟨_,ho,rfl⟩ ⟨_,ho2,rfl⟩ noFill_tuple_add seq_tuple_add PySem.F.slot_tuple_add PySem.F.entry_tuple_add (PySem.F.args_tuple_add_2 _ _)
   (tuple_addW1 t b vs.toArray ws.toArray n n2 dd dd2 sl sl2 (by simpa using hv) (by simp [hw])) ⟨ho,ho2,h1 hw⟩
 ·refine concat_meets ⟨_,ho,rfl⟩ ⟨_,ho2,rfl⟩ noFill_tuple_add seq_tuple_add PySem.F.slot_tuple_add PySem.F.entry_tuple_add (PySem.F.args_tuple_add_2 _ _)
   (tuple_addW2 t b vs.toArray ws.toArray n n2 dd dd2 sl sl2 (by simpa using hv) (by simpa using hw) (by rw [List.size_toArray,List.size_toArray]; exact hsz)) ⟨ho,ho2,?_⟩
  rw [e];exact h2 hw
noncomputable def sIx (n d:Nat):Option Int->Nat
 | none=>d
 | some v=>if v < 0 then (v + (n:Int)).toNat else min v.toNat n
theorem VY (n d:Nat):sIx n d none = d:=rfl
theorem Zeg (n d k:Nat):sIx n d (some (k:Int)) = min k n:=by
 show (if (k:Int) < 0 then ((k:Int) + (n:Int)).toNat else min (k:Int).toNat n) = min k n;rw [if_neg (by lia),Int.toNat_natCast]
theorem UD (n d:Nat) (hd:d <= n) (o:Option Int):sIx n d o <= n:=by
 cases o with
 | none=>exact hd
 | some v=>
  show (if v < 0 then (v + (n:Int)).toNat else min v.toNat n) <= n
  by_cases hv:v < 0
  ·rw [if_pos hv]; lia
  ·rw [if_neg hv]; exact Nat.min_le_right _ _
theorem Es (v:Int) (n d:Nat):(if v < 0 then max (v + (n:Int)) 0 else min v (n:Int)) = ((sIx n d (some v):Nat):Int):=by
 show (if v < 0 then max (v + (n:Int)) 0 else min v (n:Int)) = (((if v < 0 then (v + (n:Int)).toNat else min v.toNat n):Nat):Int)
 by_cases hv:v < 0
 ·simp only [if_pos hv]; lia
 ·simp only [if_neg hv]; lia
theorem Hw (lo hi:Option Int) (n:Nat):Builtin.Slice.sliceAdjust lo hi 1 (n:Int) = (((sIx n 0 lo:Nat):Int),((sIx n n hi:Nat):Int)):=by
 have h1:¬ ((1:Int) < 0):=by lia
 unfold Builtin.Slice.sliceAdjust;simp only [h1,if_false];refine Prod.ext ?_ ?_
 ·cases lo with
  | none=>rfl
  | some v=>exact Es v n 0
 ·cases hi with
  | none=>rfl
  | some v=>exact Es v n n
theorem Lj (i j:Nat):Builtin.Slice.slicePlaces (i:Int) (j:Int) 1 = j - i:=by
 unfold Builtin.Slice.slicePlaces;have h1:(1:Int) > 0:=by lia
 simp only [h1,if_true,Int.ediv_one]
 split <;> lia
theorem Uz {v:Value} {o:Option Int} {Q:Option Int->Shared->Prop} (p:IsPart v o) (h:Q o s):wpAny (model prog w) A (Builtin.Slice.slicePartIndex v) Q E s:=by
 cases p with
 | none=>exact slicePart_none h
 | int i t=>exact slicePart_int h
theorem X9 {sl:Addr} {vl vu:Value} {lo hi:Option Int} {n:Nat} {Q:Int × Int × Nat->Shared->Prop} (hs:s.heap.IsSliceOf sl vl vu .none) (pl:IsPart vl lo) (pu:IsPart vu hi)
  (h:Q (((sIx n 0 lo:Nat):Int),1,sIx n n hi - sIx n 0 lo) s):wpAny (model prog w) A (Builtin.Slice.sliceApplied (.ref sl) (pure (n:Int))) Q E s:=by
 obtain ⟨os,hos,hcs,hds⟩:=id hs;unfold Builtin.Slice.sliceApplied Builtin.Slice.sliceFields;refine wpAny_bind (wpAny_bind (wpAny_field hos hds (x:=vl) rfl (wpAny_bind (wpAny_field hos hds (x:=vu) rfl (wpAny_bind (wpAny_field hos hds (x:=.none) rfl (wpAny_pure ?_)))))));refine wpAny_bind (slicePart_none ?_);show wpAny _ _ (if ((1:Int) == 0) = true then _ else _) _ _ s;rw [if_neg (by decide)];refine wpAny_bind (Uz pl (wpAny_bind (Uz pu (wpAny_bind (wpAny_pure ?_)))));show wpAny _ _ (match Builtin.Slice.sliceAdjust lo hi 1 (n:Int) with | (lo,hi)=>pure (lo,(1:Int),Builtin.Slice.slicePlaces lo hi 1)) _ _ s;rw [Hw lo hi n];show wpAny _ _ (pure (((sIx n 0 lo:Nat):Int),(1:Int),Builtin.Slice.slicePlaces ((sIx n 0 lo:Nat):Int) ((sIx n n hi:Nat):Int) 1)) _ _ s;rw [Lj];exact wpAny_pure h
theorem RZ (xs:Array Value) (i k:Nat):((List.range k).filterMap λ (m:Nat)=>xs[((i:Int) + (m:Int) * 1).toNat]?).toArray = ((xs.toList.drop i).take k).toArray:=by
 have e:(λ (m:Nat)=>xs[((i:Int) + (m:Int) * 1).toNat]?) = λ m=>xs[i + m]?:=by
  funext m
  have:((i:Int) + (m:Int) * 1).toNat = i + m:=by lia
  rw [this]
 rw [e];have:=pick_run xs i k;rw [List.filterMap_map] at this;have e2:((λ x=>xs[x]?) ∘ λ x=>i + x) = λ m=>xs[i + m]?:=rfl;rw [e2] at this;rw [this]
theorem Xk {t sl:Addr} {items:Array Value} {vl vu:Value} {lo hi:Option Int} {Q:Value->Shared->Prop} (ht:IsTup s.heap t items) (hs:s.heap.IsSliceOf sl vl vu .none) (pl:IsPart vl lo) (pu:IsPart vu hi)
  (hw:¬ (sIx items.size 0 lo = 0 /\ sIx items.size items.size hi = items.size))
  (h:Q (.ref s.heap.objs.size) { s with heap:=s.heap.push { cls:=.type "tuple",data:=.seq ((items.toList.drop (sIx items.size 0 lo)).take (sIx items.size items.size hi - sIx items.size 0 lo)).toArray } })
  (hsz:items.size <= sizeLine):wpAny (model prog w) A (getItem (.ref t) (.ref sl)) Q E s:=by
 have htake:sizeOk (.seq ((items.toList.drop (sIx items.size 0 lo)).take (sIx items.size items.size hi - sIx items.size 0 lo)).toArray):=by
  show ((items.toList.drop (sIx items.size 0 lo)).take (sIx items.size items.size hi - sIx items.size 0 lo)).toArray.size <= sizeLine;rw [List.size_toArray,List.length_take,List.length_drop,Array.length_toList];lia
 have hj:sIx items.size items.size hi <= items.size:=UD _ _ (Nat.le_refl _) hi;obtain ⟨os,hos,hcs,hds⟩:=id hs;have hTs:s.TypeIs (.ref sl) "slice" := ⟨os,hos,hcs⟩
 unfold getItem
 try with_reducible refine wpAny_holding ?_
 first | refine wpAny_bind (wpAny_pure ?_) | skip
 refine wpAny_bind (wpAny_sequenceKey ht.typeIs (by decide) ?_)
 refine wpAny_bind (wpAny_callSpecial?_slot (name:=Str.ofString "__getitem__") ht.typeIs PyProof.Rows.slot_tuple_getitem
  (wpAny_call_entry PyProof.Rows.slot_tuple_getitem ht.typeIs entry_tuple_getitem ?_ (args_tuple_getitem _ _)))
 show wpAny _ _ (Builtin.Tuple.tupleItemsOf (.ref t) >>= _) _ _ s;refine wpAny_bind (tupleItemsOf_ ht ?_);refine wpAny_bind (wpAny_typeOf hTs ?_);rw [if_pos (by decide)];refine wpAny_bind (X9 hs pl pu ?_);have hno:¬ ((((sIx items.size 0 lo:Nat):Int) == 0 && (1:Int) == 1 && (sIx items.size items.size hi - sIx items.size 0 lo) == items.size) = true):=by
  intro q;rw [Bool.and_eq_true,Bool.and_eq_true] at q;have q1:((sIx items.size 0 lo:Nat):Int) = 0:=eq_of_beq q.1.1;have q2:sIx items.size items.size hi - sIx items.size 0 lo = items.size:=eq_of_beq q.2;exact hw ⟨by lia,by lia⟩
 show wpAny _ _ (if (((sIx items.size 0 lo:Nat):Int) == 0 && (1:Int) == 1 && (sIx items.size items.size hi - sIx items.size 0 lo) == items.size) = true then _ else _) _ _ s;rw [if_neg hno,RZ]
 first
  | exact wpAny_bind (m:=Builtin.Tuple.tupleExact _) (wpAny_newObj_type (wpAny_pure ⟨_,rfl,wpAny_pure h⟩) htake)
  | exact wpAny_bind (m:=Builtin.Tuple.tupleExact _) (wpAny_newObj_type (wpAny_bind (wpAny_pure (wpAny_pure ⟨_,rfl,wpAny_pure h⟩))) htake)
  | exact wpAny_bind (wpAny_bind (m:=Builtin.Tuple.tupleExact _) (wpAny_newObj_type (wpAny_pure (wpAny_pure ⟨_,rfl,wpAny_pure h⟩)) htake))
  | exact wpAny_bind (wpAny_bind (m:=Builtin.Tuple.tupleExact _) (wpAny_newObj_type (wpAny_pure ⟨_,rfl,wpAny_pure h⟩) htake))
end
end HT
namespace L2
abbrev TO:=St->Hp->(Option Int->Hp->Prop)->Prop
def PO (X:Cx) (e:Option Expr) (t:TO):Prop:=
 ∀ (pins:List (Addr × Obj)) (s:Shared) (Z:St) (H:Hp) (Q:Option Int->Hp->Prop),Inv X pins Z H s->t Z H Q ->
  wpAny (model X.prog X.w) X.A (evalPart e X.env) (λ u s'=>∃ o H',Inv X pins Z H' s' /\ IsPart u o /\ Q o H') X.xe s
def Zdd:TO:=λ _ H Q=>Q none H
def Zi0 (t:TE):TO:=λ Z H Q=>t Z H λ x H1=>∃ i,x = .int i /\ Q (some i) H1
theorem intsAre_of {ns:List Int}:∀ {us:List Value},Vals (ns.map V.int) us->IntsAre us ns:=by
 induction ns with
 | nil=>intro us r; rw [List.map_nil] at r; cases r; exact .nil
 | cons n ns ih=>
  intro us r;rw [List.map_cons] at r;cases r with
  | cons r1 r2=>
   obtain ⟨t,e⟩:=r1;subst e;exact .cons n t (ih r2)
section
variable {te:TE} {lo hi:Option Expr} {tl th:TO}
theorem Zd0:PO X none Zdd:=by
 intro pins s Z H Q I h;rw [evalPart_none];exact wpAny_pure ⟨none,H,I,.none,h⟩
theorem ZeB (h:PE X e te):PO X (some e) (Zi0 te):=by
 intro pins s Z H Q I hw;rw [evalPart_some];refine thn (h pins s Z H _ I hw) λ u s1 ⟨x,H1,I1,r1,q1⟩=>?_;obtain ⟨i,rfl,q⟩:=q1;obtain ⟨t,rfl⟩:=r1;exact ⟨some i,H1,I1,.int i t,q⟩
def SlR (X:Cx) (r:V->Option Int->Option Int->Hp->VK->Prop):Prop:=
 ∀ (pins:List (Addr × Obj)) (s:Shared) (Z:St) (H:Hp) (x:V) (v vl vu:Value) (lo hi:Option Int) (sl:Addr) (Q:VK),Inv X pins Z H s->RelV x v->s.heap.IsSliceOf sl vl vu .none->IsPart vl lo->IsPart vu hi->r x lo hi H Q ->
  ∃ T id,typeLookup (.type T) "__getitem__" = pure (some (.builtin id)) /\ s.TypeIs v T /\ wpAny (model X.prog X.w) X.A (getItem v (.ref sl)) (EP X pins Z Q) X.xe s
theorem SlR.or {r r':V->Option Int->Option Int->Hp->VK->Prop} (h:SlR X r) (h':SlR X r'):SlR X (λ x lo hi H Q=>r x lo hi H Q \/ r' x lo hi H Q):=by
 intro pins s Z H x v vl vu lo hi sl Q I rx hs pl pu q
 rcases q with q | q
 ·exact h pins s Z H x v vl vu lo hi sl Q I rx hs pl pu q
 ·exact h' pins s Z H x v vl vu lo hi sl Q I rx hs pl pu q
def tSl (r:V->Option Int->Option Int->Hp->VK->Prop) (te:TE) (tl th:TO):TE:=λ Z H Q=>te Z H λ x H1=>tl Z H1 λ l H2=>th Z H2 λ u H3=>r x l u H3 Q
theorem Kj {r:V->Option Int->Option Int->Hp->VK->Prop} (hr:SlR X r) (he:PE X e te) (hl:PO X lo tl) (hu:PO X hi th):PE X (.Subscript e (.Slice lo hi none p2) pos) (tSl r te tl th):=by
 intro pins s Z H Q I h;refine Subscript_ (thn (he pins s Z H _ I h) λ v s1 ⟨x,H1,I1,r1,q1⟩=>?_);refine wpAny_Slice (thn (hl pins s1 Z H1 _ I1 q1) λ vl s2 ⟨l,H2,I2,pl,q2⟩=>thn (hu pins s2 Z H2 _ I2 q2) λ vu s3 ⟨u,H3,I3,pu,q3⟩=>?_);rw [evalPart_none];refine wpAny_pure ?_;have I4:Inv X pins Z H3 { s3 with heap:=s3.heap.push { cls:=.type "slice",data:=.fields #[vl,vu,.none] } }:=I3.kept (t':=s3.toks) λ b ob q=>Heap.get?_push_of_some _ q;obtain ⟨T,id,hT,ht,hg⟩:=hr pins { s3 with heap:=s3.heap.push { cls:=.type "slice",data:=.fields #[vl,vu,.none] } } Z H3 x v vl vu l u s3.heap.objs.size Q I4 r1 (Heap.IsSliceOf.new ..) pl pu q3;show wpAny (model X.prog X.w) X.A (subscriptTail e (.Slice lo hi none p2) v (.ref s3.heap.objs.size)) (EP X pins Z Q) X.xe { s3 with heap:=s3.heap.push { cls:=.type "slice",data:=.fields #[vl,vu,.none] } };exact tail_any (ops:=[.ref s3.heap.objs.size,v]) ht hT hg (by with_unfolding_all rfl)
noncomputable def Zbv (xs:List V) (lo hi:Option Int):List V:=(xs.drop (HT.sIx xs.length 0 lo)).take (HT.sIx xs.length xs.length hi - HT.sIx xs.length 0 lo)
theorem K4 (xs:List V) (lo hi:Option Int):(Zbv xs lo hi).length <= xs.length:=by
 unfold Zbv;rw [List.length_take,List.length_drop];lia
def Zlp (K:Fk):V->Option Int->Option Int->Hp->VK->Prop:=λ x lo hi H Q=>∃ a xs,x = .ref a /\ SqT K H a xs /\
 ¬ (HT.sIx xs.length 0 lo = 0 /\ HT.sIx xs.length xs.length hi = xs.length) /\ ∀ p,H p = none->Q (.ref p) (upd H p (.tup (Zbv xs lo hi)))
theorem ZgP:SlR X (Zlp X.K):=by
 intro pins s Z H x v vl vu lo hi sl Q I rx hs pl pu h;obtain ⟨a,xs,rfl,hx,hw,q⟩:=h;cases rx;obtain ⟨its,r,ht,hz⟩:=I.tuple hx;have hlen:its.toArray.size = xs.length:=by rw [List.size_toArray]; exact r.length.symm
 refine ⟨"tuple",_,PyProof.Rows.slot_tuple_getitem.lookup,ht.typeIs,?_⟩;refine HT.Xk ht hs pl pu (by rw [hlen]; exact hw) ?_ (by rw [hlen]; exact hz);rw [hlen];refine ⟨.ref s.heap.objs.size,_,I.laid (t':=s.toks) (o:=.tup (Zbv xs lo hi)) (λ b ob q=>Heap.get?_push_of_some _ q) (Nat.le_refl _) ?_,rfl,q _ (I.hok.fresh (Nat.le_refl _))⟩;exact ⟨Nat.le_trans (K4 xs lo hi) hz,_,(r.drop (HT.sIx xs.length 0 lo)).take (HT.sIx xs.length xs.length hi - HT.sIx xs.length 0 lo),IsTup.new _ _⟩
def Zji (K:Fk):R2:=λ x y H Q=>∃ a b xs ys,x = .ref a /\ y = .ref b /\ SqT K H a xs /\ SqT K H b ys /\ xs ≠ [] /\ xs.length + ys.length <= sizeLine /\
 (ys = []->Q (.ref a) H) /\ (ys ≠ []->∀ p,H p = none->Q (.ref p) (upd H p (.tup (xs ++ ys))))
theorem Vals.GD (r:Vals xs us):us = [] ↔ xs = []:=by
 cases r with
 | nil=>simp
 | cons _ _=>simp
theorem Zcx:OpR X (binaryOp .Add) (Zji X.K):=by
 intro pins s Z H x y v u Q I rx ry h;obtain ⟨a,b,xs,ys,rfl,rfl,ha,hb,hx,hz,q1,q2⟩:=h;cases rx;cases ry;obtain ⟨its,r1,p1,_⟩:=I.tuple ha;obtain ⟨its2,r2,p2,_⟩:=I.tuple hb;refine HT.Zcg p1 p2 (λ z=>hx (r1.GD.mp z)) (λ z=>⟨.ref a,H,I,rfl,q1 (r2.GD.mp z)⟩) (λ z=>?_) (by rw [<- r1.length,<- r2.length]; exact hz);refine ⟨.ref s.heap.objs.size,_,I.laid (t':=s.toks) (o:=.tup (xs ++ ys)) (λ b ob q=>Heap.get?_push_of_some _ q) (Nat.le_refl _) ?_,rfl,q2 (λ w=>z (r2.GD.mpr w)) _ (I.hok.fresh (Nat.le_refl _))⟩;exact ⟨by rw [List.length_append]; exact hz,_,r1.append r2,IsTup.new _ _⟩
end
noncomputable def ixN (n:Nat) (i:Int):Option Nat:=if 0 <= i then (if i < n then some i.toNat else none) else if -(n:Int) <= i then some (i + n).toNat else none
noncomputable def atI {α:Type} (xs:List α) (i:Int):Option α:=(ixN xs.length i).bind λ j=>xs[j]?
theorem OL (h:ixN n i = some j):seqIndex? i n = some j /\ j < n /\ -(n:Int) <= i /\ i < n:=by
 unfold ixN at h
 by_cases h0:0 <= i
 ·rw [if_pos h0] at h
  by_cases h1:i < n
  ·rw [if_pos h1] at h;have e:i.toNat = j:=Option.some.inj h;exact ⟨by rw [seqIndex_of h0 h1,e],by lia,by lia,h1⟩
  ·rw [if_neg h1] at h; cases h
 ·rw [if_neg h0] at h
  by_cases h1:-(n:Int) <= i
  ·rw [if_pos h1] at h;have e:(i + n).toNat = j:=Option.some.inj h;exact ⟨by rw [seqIndex_neg (by lia) h1,e],by lia,h1,by lia⟩
  ·rw [if_neg h1] at h; cases h
theorem De {α:Type} {xs:List α} {i:Int} {v:α} (h:atI xs i = some v):∃ j,seqIndex? i xs.length = some j /\ xs[j]? = some v /\ j < xs.length /\ -(xs.length:Int) <= i /\ i < xs.length:=by
 unfold atI at h;cases e:ixN xs.length i with
 | none=>rw [e] at h; cases h
 | some j=>
  rw [e] at h;obtain ⟨h1,h2,h3,h4⟩:=OL e;exact ⟨j,h1,h,h2,h3,h4⟩
theorem Qv {α:Type} {xs:List α} {j:Nat} {v:α} (h:xs[j]? = some v):atI xs (j:Int) = some v:=by
 have hj:j < xs.length:=(List.getElem?_eq_some_iff.mp h).1;have e:ixN xs.length (j:Int) = some j:=by
  unfold ixN;rw [if_pos (by lia),if_pos (by lia)]; simp
 unfold atI; rw [e]; exact h
def DZ (b:Expr):Prop:=∀ o i,subscripted b false o i = operate [o,i] (getItem o i)
def IxR (X:Cx) (r:R2):Prop:=
 ∀ (value slice:Expr) (pins:List (Addr × Obj)) (s:Shared) (Z:St) (H:Hp) (x y:V) (v u:Value) (Q:VK),Inv X pins Z H s->RelV x v->RelV y u->r x y H Q ->
  subscripted slice false v u = operate [v,u] (getItem v u)->wpAny (model X.prog X.w) X.A (subscriptTail value slice v u) (EP X pins Z Q) X.xe s
def MtR (X:Cx) (id:String) (r:V->List V->Hp->VK->Prop):Prop:=
 ∀ (pins:List (Addr × Obj)) (s:Shared) (Z:St) (H:Hp) (x:V) (xs:List V) (v:Value) (us:List Value) (Q:VK),Inv X pins Z H s->RelV x v->Vals xs us->r x xs H Q ->
  wpAny (model X.prog X.w) X.A (call (.builtin id) (v :: us)) (EP X pins Z Q) X.xe s
section
variable {a b:Expr} {ta tb:TE}
theorem IxR.or {r r':R2} (h:IxR X r) (h':IxR X r'):IxR X (λ x y H Q=>r x y H Q \/ r' x y H Q):=by
 intro value slice pins s Z H x y v u Q I rx ry q hs
 rcases q with q | q
 ·exact h value slice pins s Z H x y v u Q I rx ry q hs
 ·exact h' value slice pins s Z H x y v u Q I rx ry q hs
theorem MtR.or {id:String} {r r':V->List V->Hp->VK->Prop} (h:MtR X id r) (h':MtR X id r'):MtR X id (λ x xs H Q=>r x xs H Q \/ r' x xs H Q):=by
 intro pins s Z H x xs v us Q I rx rs q
 rcases q with q | q
 ·exact h pins s Z H x xs v us Q I rx rs q
 ·exact h' pins s Z H x xs v us Q I rx rs q
theorem Ze9 {r:R2} (hr:IxR X r) (ha:PE X a ta) (hb:PE X b tb) (hs:DZ b):PE X (.Subscript a b pos) (tOp r ta tb):=by
 intro pins s Z H Q I h;exact Subscript_ (Zjl ha hb I h λ v u s2 x y H2 I2 rx ry q=>hr a b pins s2 Z H2 x y v u Q I2 rx ry q (hs _ _))
def ZkS (K:Fk):R2:=λ x y H Q=>∃ p xs i v,x = .ref p /\ y = .int i /\ SqL K H p xs /\ atI xs i = some v /\ Q v H
def ZkO (K:Fk):R2:=λ x y H Q=>∃ p xs i v,x = .ref p /\ y = .int i /\ SqT K H p xs /\ atI xs i = some v /\ Q v H
def Zkx:R2:=λ x y H Q=>∃ z i c,x = .str z /\ y = .int i /\ z.length <= sizeLine /\ atI z.cps.toList i = some c /\ Q (.str ⟨#[c]⟩) H
theorem ZeE:IxR X (ZkS X.K):=by
 intro value slice pins s Z H x y v u Q I rx ry h hs;obtain ⟨p,xs,i,z,rfl,rfl,hq,he,q⟩:=h;cases rx;obtain ⟨t,rfl⟩:=ry;obtain ⟨its,r,pl,hz⟩:=I.list hq;obtain ⟨j,h1,h2,h3,h4,h5⟩:=De he;obtain ⟨w,ew,rw'⟩:=r.get h2;have hl:=r.length;have hn:=Us;have fin:EP X pins Z Q w s:=⟨z,H,I,rw',q⟩
 by_cases h0:0 <= i
 ·have hj:i.toNat = j:=by
   rw [seqIndex_of h0 h5] at h1;exact Option.some.inj h1
  exact item_listR pl.isList h0 (by lia) (by rw [hj]; simpa using ew) fin hs
 ·have hj:(i + (its.toArray.size:Int)).toNat = j:=by
   rw [seqIndex_neg (by lia) h4] at h1;rw [List.size_toArray,<- hl];exact Option.some.inj h1
  exact subscriptTail_builtinR (x:=w) pl.isList.typeIs slot_list_getitem.lookup
   (wpAny_getItem_list_neg (Q:=λ r s'=>r = w /\ EP X pins Z Q r s') pl.isList (by lia) (by rw [List.size_toArray] <;> lia) (by lia) (by rw [hj]; simpa using ew) ⟨rfl,fin⟩) hs
theorem ZgU:IxR X (ZkO X.K):=by
 intro value slice pins s Z H x y v u Q I rx ry h hs;obtain ⟨p,xs,i,z,rfl,rfl,hq,he,q⟩:=h;cases rx;obtain ⟨t,rfl⟩:=ry;obtain ⟨its,r,pl,hz⟩:=I.tuple hq;obtain ⟨j,h1,h2,h3,h4,h5⟩:=De he;obtain ⟨w,ew,rw'⟩:=r.get h2;have hl:=r.length;have hn:=Us;have fin:EP X pins Z Q w s:=⟨z,H,I,rw',q⟩
 exact subscriptTail_builtinR (x:=w) pl.typeIs slot_tuple_getitem.lookup
  (getItem_tuple (j:=j) (Q:=λ r s'=>r = w /\ EP X pins Z Q r s') pl (by lia) (by lia) (by rw [List.size_toArray,<- hl]; exact h1) (by simpa using ew) ⟨rfl,fin⟩) hs
theorem Za6:IxR X Zkx:=by
 intro value slice pins s Z H x y v u Q I rx ry h hs;obtain ⟨z,i,c,rfl,rfl,hz,he,q⟩:=h;obtain ⟨t,rfl⟩:=rx;obtain ⟨t',rfl⟩:=ry;obtain ⟨j,h1,h2,h3,h4,h5⟩:=De he;have hl:z.cps.toList.length = z.length:=by simp [Str.length]
 rw [hl] at h1 h4 h5;have hn:=Us
 exact tail_any (typeIs_str s z t) slot_str_getitem.lookup (getItem_str (c:=c) (by
  have e1:decide (i < -(2 ^ 63:Int)) = false:=decide_eq_false (by lia);have e2:decide (i ≥ 2 ^ 63) = false:=decide_eq_false (by lia)
  rw [e1,e2,Bool.or_false]) (by rw [h1]; simpa using h2) ⟨.str ⟨#[c]⟩,H,I.tok _,⟨_,rfl⟩,q⟩) hs
def rIx (K:Fk):R2:=λ x y H Q=>ZkS K x y H Q \/ ZkO K x y H Q \/ Zkx x y H Q
theorem ZgX:IxR X (rIx X.K):=ZeE.or (ZgU.or Za6)
theorem La (its:List Value) (n j:Nat) (u:Value):Obj.mapSeq (·.setIfInBounds j u) { cls:=.type "list",data:=.seq its.toArray n } = { cls:=.type "list",data:=.seq (its.set j u).toArray n }:=by
 simp [Obj.mapSeq]
theorem Inv.lst {s:Shared} (I:Inv X pins Z H s) (h:H p = some (.lst xs)) :
  ∃ (its:List Value) (n:Nat),Vals xs its /\ s.heap.get? p = some { cls:=.type "list",data:=.seq its.toArray n } /\ xs.length <= sizeLine:=by
 obtain ⟨z,its,n,r,e⟩:=I.hok p _ h;exact ⟨its,n,r,e,z⟩
theorem Inv.ZfV {s:Shared} {ys:List V} {its its':List Value} {n n':Nat} {f:Obj->Obj} (I:Inv X pins Z H s) (h:H p = some (.lst xs))
  (ho:s.heap.get? p = some { cls:=.type "list",data:=.seq its.toArray n }) (hf:f { cls:=.type "list",data:=.seq its.toArray n } = { cls:=.type "list",data:=.seq its'.toArray n' }) (r:Vals ys its') (hz:ys.length <= sizeLine) (t:Nat) :
  Inv X pins Z (upd H p (.lst ys)) { s with heap:=s.heap.update p f,toks:=t }:=by
 have e:(s.heap.update p f).get? p = some { cls:=.type "list",data:=.seq its'.toArray n' }:=by
  rw [Heap.get?_update_self f ho (by rw [hf] <;> rfl),hf]
 refine I.write (x:=p) (e:=p) (by rw [h]; trivial) (.inl rfl) (λ b u hb q=>(Heap.get?_update_other _ _ (Ne.symm hb)).trans q) ⟨_,e⟩ ?_;exact ⟨hz,its',n',r,e⟩
def ZiX:V->V->V->Hp->(Hp->Prop)->Prop:=λ o i v H Q=>∃ p xs k j,o = .ref p /\ i = .int k /\ H p = some (.lst xs) /\ ixN xs.length k = some j /\ Q (upd H p (.lst (xs.set j v)))
theorem set_list:Zj9 X ZiX:=by
 intro pins s Z H o i v ov iv u Q I ro ri rv h;obtain ⟨p,xs,k,j,rfl,rfl,hp,hj,q⟩:=h;cases ro;obtain ⟨t,rfl⟩:=ri;obtain ⟨its,n,r,ho,hz⟩:=I.lst hp;obtain ⟨h1,h2,h3,h4⟩:=OL hj;have hl:=r.length;have hn:=Us;have I':Inv X pins Z (upd H p (.lst (xs.set j v))) { s with heap:=s.heap.update p (Obj.mapSeq (·.setIfInBounds j u)) }:=
  I.ZfV hp ho (La its n j u) (r.set rv j) (by rw [List.length_set]; exact hz) s.toks
 by_cases h0:0 <= k
 ·have hk:k.toNat = j:=by
   rw [seqIndex_of h0 h4] at h1;exact Option.some.inj h1
  exact PySem.W.ki_setAt ho h0 (by lia) (by rw [List.size_toArray,<- hl]; exact h4) (by rw [hk]; exact ⟨_,I',q⟩)
 ·have hk:(k + (its.toArray.size:Int)).toNat = j:=by
   rw [seqIndex_neg (by lia) h3] at h1;rw [List.size_toArray,<- hl];exact Option.some.inj h1
  exact PySem.W.ki_setBack ho (by lia) (by rw [List.size_toArray,<- hl]; exact h3) (by lia) (by rw [hk]; exact ⟨_,I',q⟩)
theorem Bx (lo hi:Option Int) (n:Nat):(sliceBounds lo hi none n).1 = ((HT.sIx n 0 lo:Nat):Int) /\ (sliceBounds lo hi none n).2.1 = ((HT.sIx n n hi:Nat):Int) /\ (sliceBounds lo hi none n).2.2 = 1:=by
 refine ⟨?_,?_,rfl⟩
 ·cases lo with
  | none=>simp [sliceBounds,HT.sIx]
  | some i=>
   simp only [sliceBounds,HT.sIx,Option.getD_none,show (1:Int) > 0 by decide,if_true]
   by_cases h:i < 0
   ·simp only [h,if_true] <;> lia
   ·simp only [h,if_false] <;> lia
 ·cases hi with
  | none=>simp [sliceBounds,HT.sIx]
  | some i=>
   simp only [sliceBounds,HT.sIx,Option.getD_none,show (1:Int) > 0 by decide,if_true]
   by_cases h:i < 0
   ·simp only [h,if_true] <;> lia
   ·simp only [h,if_false] <;> lia
theorem U0 (its:List Value) (lo hi:Option Int):slicePick its.toArray lo hi none = ((its.drop (HT.sIx its.length 0 lo)).take (HT.sIx its.length its.length hi - HT.sIx its.length 0 lo)).toArray:=by
 obtain ⟨h1,h2,h3⟩:=Bx lo hi its.toArray.size;unfold slicePick;rw [h1,h2,h3];simp only [sliceRange_one,pick_run,List.size_toArray] <;> rfl
def Zla (K:Fk):V->Option Int->Option Int->Hp->VK->Prop:=λ x lo hi H Q=>∃ a xs,x = .ref a /\ SqL K H a xs /\ ∀ p,H p = none->Q (.ref p) (upd H p (.lst (Zbv xs lo hi)))
theorem Md:SlR X (Zla X.K):=by
 intro pins s Z H x v vl vu lo hi sl Q I rx hs pl pu h;obtain ⟨a,xs,rfl,hx,q⟩:=h;cases rx;obtain ⟨its,r,ht,hz⟩:=I.list hx;have hlen:=r.length;refine ⟨"list",_,slot_list_getitem.lookup,ht.isList.typeIs,?_⟩;refine wpAny_getItem_list_slice ht.isList hs pl pu .none (by simp) ?_ (by rw [List.size_toArray] <;> lia);rw [U0,<- hlen];refine ⟨.ref s.heap.objs.size,_,I.laid (t':=s.toks) (o:=.lst (Zbv xs lo hi)) (λ b ob q=>Heap.get?_push_of_some _ q) (Nat.le_refl _) ?_,rfl,q _ (I.hok.fresh (Nat.le_refl _))⟩;exact ⟨Nat.le_trans (K4 xs lo hi) hz,_,0,(r.drop (HT.sIx xs.length 0 lo)).take (HT.sIx xs.length xs.length hi - HT.sIx xs.length 0 lo),Heap.get?_push_size _ rfl⟩
theorem GY:JI X (.builtin "len") (λ xs H Q=>∃ p ys,xs = [.ref p] /\ (SqL X.K H p ys \/ SqT X.K H p ys) /\ Q (.int ys.length) H):=by
 intro pins s Z H xs us Q I r h;obtain ⟨p,ys,rfl,hq,q⟩:=h;obtain ⟨u,rfl,rx⟩:=vals1 r;cases rx;have hn:=Us
 rcases hq with hq | hq
 ·obtain ⟨its,r',pl,hz⟩:=I.list hq;have hlen:=r'.length;exact Calls.call_len_list pl.isList (by simp only [List.size_toArray] <;> lia) ⟨.int ys.length,H,I.tok _,⟨s.toks + 1,by rw [List.size_toArray,hlen]⟩,q⟩
 ·obtain ⟨its,r',pl,hz⟩:=I.tuple hq;have hlen:=r'.length;exact len_tuple pl (by simp only [List.size_toArray] <;> lia) ⟨.int ys.length,H,I.tok _,⟨s.toks + 1,by rw [List.size_toArray,hlen]⟩,q⟩
theorem G2:JI X (.builtin "len") (λ xs H Q=>∃ z,xs = [.str z] /\ z.length <= sizeLine /\ Q (.int z.length) H):=by
 intro pins s Z H xs us Q I r h;obtain ⟨z,rfl,hz,q⟩:=h;obtain ⟨u,rfl,t,rfl⟩:=vals1 r;have hn:=Us;exact len_str (by lia) ⟨.int z.length,H,I.tok _,⟨_,rfl⟩,q⟩
theorem JI.or {f:Value} {r r':List V->Hp->VK->Prop} (h:JI X f r) (h':JI X f r'):JI X f (λ xs H Q=>r xs H Q \/ r' xs H Q):=by
 intro pins s Z H xs us Q I rs q
 rcases q with q | q
 ·exact h pins s Z H xs us Q I rs q
 ·exact h' pins s Z H xs us Q I rs q
theorem Gu:JI X (.type "tuple") (λ xs H Q=>∃ p ys,xs = [.ref p] /\ ((SqL X.K H p ys /\ ∀ l,H l = none->Q (.ref l) (upd H l (.tup ys))) \/ (SqT X.K H p ys /\ Q (.ref p) H))):=by
 intro pins s Z H xs us Q I r h;obtain ⟨p,ys,rfl,h⟩:=h;obtain ⟨u,rfl,rx⟩:=vals1 r;cases rx
 rcases h with ⟨hq,q⟩ | ⟨hq,q⟩
 ·obtain ⟨its,r',pl,hz⟩:=I.list hq;have hlen:=r'.length;refine call_tuple_list pl.isList (λ h' kp=>?_) (by simp only [List.size_toArray] <;> lia);have I1:Inv X pins Z H { s with heap:=h' }:=I.kept (t':=s.toks) kp;have I2:Inv X pins Z (upd H h'.objs.size (.tup ys)) { s with heap:=h'.push { cls:=.type "tuple",data:=.seq its.toArray } }:=
   I1.laid (t':=s.toks) (λ b o e=>Heap.get?_push_of_some _ e) (Nat.le_refl _) (show Qt X.prog X.w _ _ _ (.tup ys) from ⟨hz,its,r',IsTup.new _ _⟩)
  exact ⟨.ref h'.objs.size,_,I2,rfl,q _ (I1.hok.fresh (Nat.le_refl _))⟩
 ·obtain ⟨its,r',pl,hz⟩:=I.tuple hq;exact call_tuple_same pl ⟨.ref p,H,I,rfl,q⟩
def tyV (K:Fk) (T:String) (x:V) (H:Hp):Prop:=match x with
 | .str _=>T = "str"
 | .int _=>T = "int"
 | .ref p=>(T = "list" /\ ∃ xs,SqL K H p xs) \/ (T = "tuple" /\ ∃ o,K.lookup p = some o /\ o.cls = .type "tuple" /\ o.dict = none) \/
   (T = "dict" /\ ((∃ kvs,H p = some (.dK kvs)) \/ ∃ kvs,H p = some (.dT kvs))) \/ (T = "set" /\ ∃ S n,H p = some (.set S n))
 | _=>False
theorem ZaH {s:Shared} {T:String} {x:V} {v:Value} (I:Inv X pins Z H s) (r:RelV x v) (ty:tyV X.K T x H) :
  s.TypeIs v T /\ ∀ a,v = .ref a->∃ ob,s.heap.get? a = some ob /\ ob.dict = none:=by
 cases x with
 | str z=>
  obtain ⟨t,rfl⟩:=r;cases (show T = "str" from ty);exact ⟨typeIs_str s z t,λ _ e=>nomatch e⟩
 | int i=>
  obtain ⟨t,rfl⟩:=r;cases (show T = "int" from ty);exact ⟨typeIs_int s i t,λ _ e=>nomatch e⟩
 | ref p=>
  cases r
  rcases ty with ⟨rfl,xs,hq⟩ | ⟨rfl,o,hk,hc,hd⟩ | ⟨rfl,hk⟩ | ⟨rfl,S,n,hk⟩
  ·obtain ⟨its,_,pl,_⟩:=I.list hq;refine ⟨pl.isList.typeIs,λ a e=>?_⟩;cases e;obtain ⟨o,n,e,c,hd,_⟩:=pl;exact ⟨o,e,hd⟩
  ·refine ⟨⟨o,I.kIn p o hk,hc⟩,λ a e=>?_⟩;cases e;exact ⟨o,I.kIn _ o hk,hd⟩
  ·have z:∃ o,s.heap.get? p = some o /\ o.ExactDict:=by
    rcases hk with ⟨kvs,hk⟩ | ⟨kvs,hk⟩
    ·obtain ⟨_,_,_,_,o,_,_,e,ex,_⟩:=I.hok p _ hk;exact ⟨o,e,ex⟩
    ·obtain ⟨_,_,_,_,o,_,_,e,ex,_⟩:=I.hok p _ hk;exact ⟨o,e,ex⟩
   obtain ⟨o,e,ex⟩:=z;refine ⟨⟨o,e,ex.1⟩,λ a e2=>?_⟩;cases e2;exact ⟨o,e,ex.2.1⟩
  ·obtain ⟨o,_,_,_,e,ex,_⟩:=I.hok p _ hk;refine ⟨⟨o,e,ex.1⟩,λ a e2=>?_⟩;cases e2;exact ⟨o,e,ex.2.1⟩
 | _=>exact False.elim ty
def Zk7 (K:Fk) (T:String) (r:V->List V->Hp->VK->Prop) (to:TE):TE:=λ Z H Q=>to Z H λ x H1=>tyV K T x H1 /\ r x [] H1 Q
def tBM (K:Fk) (T:String) (r:V->List V->Hp->VK->Prop) (to:TE) (t:TA):TE:=λ Z H Q=>to Z H λ x H1=>tyV K T x H1 /\ t Z H1 λ xs H2=>r x xs H2 Q
variable {o:Expr} {to:TE} {t:TA} {name:Str} {apos:Pos} {T id:String} {r:V->List V->Hp->VK->Prop}
theorem ZhL (pa:PlainAttrs T) (slot:Slot T name id) (hty:typeOf (.builtin id) = pure (.type "method_descriptor")) (hm:MtR X id r) (ho:PE X o to)
  (hbase:autoParam (attributeBase o name X.env (eval o X.env) = eval o X.env) zz3._auto_1) (hline:autoParam ((apos.endLine == cpos.line) = true) zz3._auto_1):PE X (.Call (.Attribute o name apos) [] [] cpos) (Zk7 X.K T r to):=by
 intro pins s Z H Q I h;refine wpAny_Call_method0_late hbase hline (thn (ho pins s Z H _ I h) λ v s1 ⟨x,H1,I1,r1,ty,q1⟩=>?_);obtain ⟨h1,h2⟩:=ZaH I1 r1 ty;exact ⟨T,id,pa,slot,hty,h1,h2,Calls.callWith_builtin rfl (PySem.evalArgs_none (hm pins s1 Z H1 x [] v [] Q I1 r1 .nil q1))⟩
theorem Dz (pa:PlainAttrs T) (slot:Slot T name id) (hty:typeOf (.builtin id) = pure (.type "method_descriptor")) (hm:MtR X id r) (ho:PE X o to) (ha:PA X (e :: es) t)
  (hbase:autoParam (attributeBase o name X.env (eval o X.env) = eval o X.env) zz3._auto_1)
  (hfew:((backTo cpos (starEach (e :: es) X.env)).all (λ x=>!x.1) && (backToKw cpos (keywordEach [] X.env)).all (λ x=>x.1.isSome)
   && decide ((e :: es).length + ([]:List Keyword).length + (if ([]:List Keyword).isEmpty then 0 else 1) < 30)) = true:=by rfl)
  (hline:autoParam ((apos.endLine == cpos.line) = true) zz3._auto_1) (hs:autoParam (starEach (e :: es) X.env = (false,eval e X.env) :: starEach es X.env) zz3._auto_1) (hplain:autoParam ((backTo cpos (starEach es X.env)).any (·.1) = false) zz3._auto_1) :
  PE X (.Call (.Attribute o name apos) (e :: es) [] cpos) (tBM X.K T r to t):=by
 intro pins s Z H Q I h;refine wpAny_Call_method_late hbase hfew hline rfl (thn (ho pins s Z H _ I h) λ v s1 ⟨x,H1,I1,r1,ty,q1⟩=>?_);obtain ⟨h1,h2⟩:=ZaH I1 r1 ty;refine ⟨T,id,pa,slot,hty,h1,h2,?_⟩;have hA:=ha cpos pins s1 Z H1 _ I1 q1;rw [hs] at hA ⊢;refine Calls.callWith_builtin (by show (false || (backTo cpos (starEach es X.env)).any (·.1)) = false; rw [hplain] <;> rfl) (Calls.evalArgs_plain ?_);exact thn hA λ us s2 ⟨vs,H2,I2,r2,q2⟩=>hm pins s2 Z H2 x vs v us Q I2 r1 r2 q2
end
def MtM (X:Cx) (id:String) (r:V->List V->Hp->VK->Prop):Prop:=
 ∀ (pins:List (Addr × Obj)) (s:Shared) (Z:St) (H:Hp) (x:V) (xs:List V) (v:Value) (us:List Value) (Q:VK),Inv X pins Z H s->RelV x v->Vals xs us->r x xs H Q ->
  wpAny (model X.prog X.w) X.A (call (.builtin id) (v :: us)) (EP X pins Z Q) X.xe s
theorem Vals.one {x:V} (h:Vals [x] us):∃ u,us = [u] /\ RelV x u:=by
 cases h with | cons r t=>cases t; exact ⟨_,rfl,r⟩
theorem Vals.two {x y:V} (h:Vals [x,y] us):∃ u v,us = [u,v] /\ RelV x u /\ RelV y v:=by
 cases h with | cons r t=>cases t with | cons q t=>cases t; exact ⟨_,_,rfl,r,q⟩
theorem Vals.zero:∀ {us:List Value},Vals [] us->us = []
 | _,.nil=>rfl
theorem Vals.rep (h:Vals xs us):∀ k:Nat,Vals (List.replicate k xs).flatten (List.replicate k us).flatten
 | 0=>.nil
 | k + 1=>by
  rw [List.replicate_succ,List.replicate_succ,List.flatten_cons,List.flatten_cons];exact Vals.append h (Vals.rep h k)
theorem foldl_rep (its:List Value):∀ (k:Nat) (acc:List Value),
  List.foldl (λ x1 x2=>x1 ++ x2) acc.toArray (List.replicate k its.toArray) = (acc ++ (List.replicate k its).flatten).toArray
 | 0,acc=>by simp
 | k + 1,acc=>by
  have e:acc.toArray ++ its.toArray = (acc ++ its).toArray:=by simp
  have e2:(acc ++ its) ++ (List.replicate k its).flatten = acc ++ (List.replicate (k + 1) its).flatten:=by
   rw [List.replicate_succ,List.flatten_cons,List.append_assoc]
  rw [<- e2,<- foldl_rep its k (acc ++ its),<- e,List.replicate_succ,List.foldl_cons]
section
variable {s:Shared} {l b:Addr} {ys zs:List V}
theorem Inv.ZkX {its its':List Value} {n:Nat} {f:Array Value->Array Value} {t':Nat} (I:Inv X pins Z H s) (hH:H l = some (.lst xs))
  (e:s.heap.get? l = some { cls:=.type "list",data:=.seq its.toArray n }) (hf:f its.toArray = its'.toArray) (hv:Vals ys its') (hz:ys.length <= sizeLine) :
  Inv X pins Z (upd H l (.lst ys)) { s with heap:=s.heap.update l (Obj.mapSeq f),toks:=t' }:=by
 have q:=PySem.IsL.update e f;rw [hf] at q;refine I.write (x:=l) (e:=l) (by rw [hH]; exact trivial) (.inl rfl) (λ b' u hb hu=>(Heap.get?_update_other s.heap (Obj.mapSeq f) (Ne.symm hb)).trans hu) ⟨_,q⟩ ?_;exact ⟨hz,its',_,hv,q⟩
theorem Inv.Zko {its:List Value} {t':Nat} (I:Inv X pins Z H s) (hv:Vals ys its) (hz:ys.length <= sizeLine) :
  Inv X pins Z (upd H s.heap.objs.size (.lst ys)) { s with heap:=s.heap.push { cls:=.type "list",data:=.seq its.toArray },toks:=t' }:=
 I.laid (λ _ _ q=>Heap.get?_push_of_some _ q) (Nat.le_refl _) ⟨hz,its,0,hv,Heap.get?_push_size _ rfl⟩
theorem Inv.fresh (I:Inv X pins Z H s):H s.heap.objs.size = none:=I.hok.fresh (Nat.le_refl _)
theorem Inv.Zjc (I:Inv X pins Z H s) (hH:H l = some (.lst xs)):xs.length <= sizeLine /\ ∃ (its:List Value) (n:Nat),Vals xs its /\ xs.length = its.length /\ s.heap.get? l = some { cls:=.type "list",data:=.seq its.toArray n }:=by
 obtain ⟨z,its,n,r,e⟩:=I.hok l _ hH;exact ⟨z,its,n,r,r.length,e⟩
theorem Sq (h:n <= sizeLine):Builtin.List.listTooLong n = false:=by
 unfold Builtin.List.listTooLong;exact decide_eq_false (by lia)
end
def ZbT:V->List V->Hp->VK->Prop:=λ x vs H Q=>∃ l xs y,x = .ref l /\ vs = [y] /\ H l = some (.lst xs) /\ xs.length < sizeLine /\ Q .non (upd H l (.lst (xs ++ [y])))
theorem Na:MtM X "list.append" ZbT:=by
 intro pins s Z H x vs v us Q I rx rv h;obtain ⟨l,xs,y,rfl,rfl,hH,hz,q⟩:=h;cases rx;obtain ⟨u,rfl,ru⟩:=rv.one;obtain ⟨z,its,n,r,hl,e⟩:=I.Zjc hH;refine call_meets F.slot_list_append ⟨_,e,rfl⟩ F.entry_list_append (F.args_list_append_2 _ _) (PySem.list_append l its.toArray n u (by rw [List.size_toArray]; lia)) ⟨e,?_⟩;refine ⟨.non,_,I.ZkX (its':=its ++ [u]) hH e (by simp) (r.append (.cons ru .nil)) ?_,rfl,q⟩;rw [List.length_append,List.length_singleton];lia
def Zlb:R2:=λ x y H Q=>∃ l k xs,x = .ref l /\ y = .int k /\ H l = some (.lst xs) /\ -(2 ^ 63) <= k /\ k < 2 ^ 63 /\ xs.length * k.toNat <= sizeLine /\
 ∀ p,H p = none->Q (.ref p) (upd H p (.lst (List.replicate k.toNat xs).flatten))
theorem len_rep {α:Type} (xs:List α) (k:Nat):(List.replicate k xs).flatten.length = k * xs.length:=by
 induction k with
 | zero=>simp
 | succ k ih=>rw [List.replicate_succ,List.flatten_cons,List.length_append,ih,Nat.succ_mul,Nat.add_comm]
theorem Zhh:OpR X (binaryOp .Mult) Zlb:=by
 intro pins s Z H x y v u Q I rx ry h;obtain ⟨l,k,xs,rfl,rfl,hH,h1,h2,hz,q⟩:=h;cases rx;obtain ⟨t,rfl⟩:=ry;obtain ⟨z,its,n,r,hl,e⟩:=I.Zjc hH;have hlen:its.toArray.size * k.toNat <= sizeLine:=by rw [List.size_toArray,<- hl]; exact hz
 have hcap:¬ its.toArray.size * k.toNat > (2 ^ 63 - 1) / 8:=by
  have:(sizeLine:Nat) <= (2 ^ 63 - 1) / 8:=by decide
  lia
 have hfit:¬ (!Builtin.List.listFitsIndex k) = true:=by
  rw [fitsIndex_both h1 h2];exact Bool.false_ne_true
 have hlong:¬ Builtin.List.listTooLong (its.toArray.size * k.toNat) = true:=by
  rw [Sq hlen];exact Bool.false_ne_true
 have hnew:List.foldl (λ x1 x2=>x1 ++ x2) #[] (List.replicate (if its.toArray.isEmpty = true then 0 else k.toNat) its.toArray) = (List.replicate k.toNat its).flatten.toArray:=by
  have f0:∀ m:Nat,List.foldl (λ x1 x2=>x1 ++ x2) #[] (List.replicate m its.toArray) = (List.replicate m its).flatten.toArray:=λ m=>by
   have:=foldl_rep its m [];rw [List.nil_append] at this;exact this
  rw [f0];cases its with
  | nil=>simp
  | cons a r'=>rw [if_neg (by simp)]
 refine wpAny_binaryOp_repeat_ref (T := "list") (U := "int") (by decide) ⟨_,e,rfl⟩ (λ s'=>typeIs_int s' k t) noFill_list_mul F.fills_int_mul F.slot_int_rmul repeat_list F.slot_int_index.lookup
  (call_meets F.slot_int_rmul (typeIs_int s k t) F.entry_int_rmul (F.args_int_rmul_2 _ _) (int___rmul___int_list k t l its.toArray n)
   ⟨e,rfl,⟨_,e,rfl⟩,call_meets F.slot_list_mul ⟨_,e,rfl⟩ F.entry_list_mul (F.args_list_mul_2 _ _) (AutoListH.list___mul___list_int_3 l its.toArray n k t hfit hcap hlong) ⟨e,?_⟩⟩)
 rw [hnew];exact ⟨.ref _,_,I.Zko (t':=s.toks) (r.rep k.toNat) (by rw [len_rep,Nat.mul_comm]; exact hz),rfl,q _ I.fresh⟩
section
variable {prog:Program} {s:Shared}
end
section
variable {κ:Type} [DecidableEq κ]
noncomputable def CO (kvs:List (κ × V)) (k:κ):Option V:=(kvs.find? λ kv=>decide (kv.1 = k)).map (·.2)
noncomputable def putK (kvs:List (κ × V)) (k:κ) (v:V):List (κ × V):=
 if (kvs.any λ kv=>decide (kv.1 = k)) = true then kvs.map (λ kv=>if kv.1 = k then (kv.1,v) else kv) else kvs ++ [(k,v)]
noncomputable def Zg8 (kvs:List (κ × V)) (k:κ):List (κ × V):=kvs.filter λ kv=>decide (kv.1 ≠ k)
theorem UQ {p:κ × V} {r:List (κ × V)} {k:κ} (e:p.1 = k):CO (p :: r) k = some p.2:=by simp [CO,List.find?_cons,e]
theorem Gn {p:κ × V} {r:List (κ × V)} {k:κ} (e:¬ p.1 = k):CO (p :: r) k = CO r k:=by simp [CO,List.find?_cons,e]
theorem FD (k:κ):∀ kvs:List (κ × V),(kvs.any λ kv=>decide (kv.1 = k)) = (CO kvs k).isSome
 | []=>rfl
 | p :: r=>by
  rw [List.any_cons]
  by_cases e:p.1 = k
  ·simp only [UQ e,decide_eq_true e,Bool.true_or,Option.isSome_some]
  ·rw [Gn e,decide_eq_false e,Bool.false_or]; exact FD k r
theorem CS (kvs:List (κ × V)) (k:κ) (v:V):(putK kvs k v).length <= kvs.length + 1:=by
 unfold putK
 split
 ·rw [List.length_map]; lia
 ·rw [List.length_append,List.length_cons,List.length_nil]; lia
theorem Lv.MK {o:Option V} {u:Option Value} (r:Lv o u):o.isSome = u.isSome:=by
 cases o with
 | none=>cases u with
  | none=>rfl
  | some _=>exact (show False from r).elim
 | some _=>cases u with
  | none=>exact (show False from r).elim
  | some _=>rfl
theorem Lv.getD {o:Option V} {u:Option Value} {d:V} {d':Value} (r:Lv o u) (rd:RelV d d'):RelV (o.getD d) (u.getD d'):=by
 cases o with
 | none=>cases u with
  | none=>exact rd
  | some _=>exact (show False from r).elim
 | some _=>cases u with
  | none=>exact (show False from r).elim
  | some _=>exact r
theorem KV.val {kvs:List (κ × V)} {vs:List (κ × Value)} (r:KV kvs vs) (k:κ):Lv (CO kvs k) (valueAt vs k):=by
 unfold KV at r
 induction r with
 | nil=>exact True.intro
 | @cons p q ps qs h t ih=>
  obtain ⟨h1,h2⟩:=h
  by_cases e:p.1 = k
  ·have e':q.1 = k:=h1.symm.trans e;have b:valueAt (q :: qs) k = some q.2:=by simp [valueAt,List.find?_cons,e']
   rw [UQ e,b]; exact h2
  ·have e':¬ q.1 = k:=λ z=>e (h1.trans z);have b:valueAt (q :: qs) k = valueAt qs k:=by simp [valueAt,List.find?_cons,e']
   rw [Gn e,b]; exact ih
theorem KV.any {kvs:List (κ × V)} {vs:List (κ × Value)} (r:KV kvs vs) (k:κ):(kvs.any λ kv=>decide (kv.1 = k)) = vs.any λ kv=>decide (kv.1 = k):=by
 unfold KV at r
 induction r with
 | nil=>rfl
 | cons h t ih=>rw [List.any_cons,List.any_cons,ih,h.1]
theorem KV.ZdY {kvs:List (κ × V)} {vs:List (κ × Value)} (r:KV kvs vs) (k:κ) {y:V} (ry:RelV y u) :
  KV (kvs.map λ kv=>if kv.1 = k then (kv.1,y) else kv) (vs.map λ kv=>if kv.1 = k then (kv.1,u) else kv):=by
 unfold KV at r ⊢
 induction r with
 | nil=>exact .nil
 | @cons p q ps qs h t ih=>
  rw [List.map_cons,List.map_cons];refine .cons ?_ ih;obtain ⟨h1,h2⟩:=h
  by_cases e:p.1 = k
  ·rw [if_pos e,if_pos (h1.symm.trans e)]; exact ⟨h1,ry⟩
  ·rw [if_neg e,if_neg (λ z=>e (h1.trans z))]; exact ⟨h1,h2⟩
theorem KV.put {kvs:List (κ × V)} {vs:List (κ × Value)} (r:KV kvs vs) (k:κ) {y:V} (ry:RelV y u):KV (putK kvs k y) (stored vs k u):=by
 unfold putK stored;rw [r.any k]
 by_cases e:(vs.any λ kv=>decide (kv.1 = k)) = true
 ·rw [if_pos e,if_pos e]; exact r.ZdY k ry
 ·rw [if_neg e,if_neg e]; exact Paired.snoc r ⟨rfl,ry⟩
theorem KV.drop {kvs:List (κ × V)} {vs:List (κ × Value)} (r:KV kvs vs) (k:κ):KV (Zg8 kvs k) (without vs k):=by
 unfold KV at r ⊢;unfold Zg8 without
 induction r with
 | nil=>exact .nil
 | @cons p q ps qs h t ih=>
  obtain ⟨h1,h2⟩:=h;rw [List.filter_cons,List.filter_cons]
  by_cases e:p.1 = k
  ·have a:¬ decide (p.1 ≠ k) = true:=by simp [e]
   have b:¬ decide (q.1 ≠ k) = true:=by simp [h1.symm.trans e]
   rw [if_neg a,if_neg b]; exact ih
  ·have e':¬ q.1 = k:=λ z=>e (h1.trans z);have a:decide (p.1 ≠ k) = true:=by simp [e]
   have b:decide (q.1 ≠ k) = true:=by simp [e']
   rw [if_pos a,if_pos b]; exact .cons ⟨h1,h2⟩ ih
theorem KV.length {kvs:List (κ × V)} {vs:List (κ × Value)} (r:KV kvs vs):kvs.length = vs.length:=Paired.length r
end
theorem Zdy {k:Key} (r:RelV (kV k) u):(QB P w).is k u = true:=by
 cases k with
 | inl i=>obtain ⟨t,e⟩:=(show ∃ t,u = Value.int i t from r); subst e; exact Dn P w i t
 | inr x=>obtain ⟨t,e⟩:=(show ∃ t,u = Value.str x t from r); subst e; exact Dg P w x t
theorem Bm:∀ {ks:List Key} {us:List Value},Vals (ks.map kV) us->ItemsAre (QB P w) ks us
 | [],_,r=>by rw [List.map_nil] at r; cases r; exact .nil
 | k :: ks,_,r=>by
  rw [List.map_cons] at r;cases r with
  | cons h t=>exact .cons (Zdy h) (Bm t)
abbrev KT (H:Hp):List (List Key × V)->List (List Key × Addr × Value)->Prop:=Paired λ p q=>p.1 = q.1 /\ H q.2.1 = some (.tup (p.1.map kV)) /\ RelV p.2 q.2.2
theorem KT.val {kvs:List (List Key × V)} {xs:List (List Key × Addr × Value)} (r:KT H kvs xs) (k:List Key):Lv (CO kvs k) ((atKey xs k).map (·.2)):=by
 induction r with
 | nil=>exact True.intro
 | @cons p q ps qs h t ih=>
  obtain ⟨h1,_,h2⟩:=h
  by_cases e:p.1 = k
  ·have e':q.1 = k:=h1.symm.trans e;have b:atKey (q :: qs) k = some q.2:=by simp [atKey,List.find?_cons,e']
   rw [UQ e,b]; exact h2
  ·have e':¬ q.1 = k:=λ z=>e (h1.trans z);have b:atKey (q :: qs) k = atKey qs k:=by simp [atKey,List.find?_cons,e']
   rw [Gn e,b]; exact ih
theorem KT.ZdY {kvs:List (List Key × V)} {xs:List (List Key × Addr × Value)} (r:KT H kvs xs) (k:List Key) {y:V} (ry:RelV y u) :
  KT H (kvs.map λ kv=>if kv.1 = k then (kv.1,y) else kv) (xs.map (putAt k u)):=by
 induction r with
 | nil=>exact .nil
 | @cons p q ps qs h t ih=>
  rw [List.map_cons,List.map_cons];refine .cons ?_ ih;obtain ⟨h1,h2,h3⟩:=h;unfold putAt
  by_cases e:p.1 = k
  ·rw [if_pos e,if_pos (h1.symm.trans e)]; exact ⟨h1,h2,ry⟩
  ·rw [if_neg e,if_neg (λ z=>e (h1.trans z))]; exact ⟨h1,h2,h3⟩
theorem KT.put {kvs:List (List Key × V)} {xs:List (List Key × Addr × Value)} (r:KT H kvs xs) (k:List Key) {b:Addr} {y:V} (hb:H b = some (.tup (k.map kV))) (ry:RelV y u) :
  KT H (putK kvs k y) (storedH xs k b u):=by
 have e:(kvs.any λ kv=>decide (kv.1 = k)) = (atKey xs k).isSome:=by
  rw [FD,(r.val k).MK,Option.isSome_map]
 unfold putK storedH;rw [e]
 by_cases q:(atKey xs k).isSome = true
 ·rw [if_pos q,if_pos q]; exact r.ZdY k ry
 ·rw [if_neg q,if_neg q]; exact Paired.snoc r ⟨rfl,hb,ry⟩
theorem ZhT {u:HO} (ok:HOk P w H h) (e:Rd H a u):Qt P w H h a u:=e.ok ok
theorem ZdJ (ok:HOk P w H h) (e:Rd H a (.dK kvs)):kvs.length <= sizeLine /\ (a == sysModules) = false /\ ∃ vs,KV kvs vs /\ h.DictOf (QB P w) a vs:=
 show Qt P w H h a (.dK kvs) from ZhT ok e
theorem ZjX (ok:HOk P w H h) (e:H a = some (.dK kvs)):kvs.length <= sizeLine /\ (a == sysModules) = false /\ ∃ vs,KV kvs vs /\ h.DictOf (QB P w) a vs:=ZdJ ok (.inl e)
theorem ZaE {ks:List Key} (ok:HOk P w H h) (e:H a = some (.tup (ks.map kV))):(tupleKind (QB P w)).is h ks a:=by
 obtain ⟨_,its,r,o,h1,h2,n,h3⟩:=(show Qt P w H h a (.tup (ks.map kV)) from ok a _ e)
 exact ⟨o,its.toArray,n,h1,h2,h3,by simpa using Bm r⟩
theorem Zhk {kvs:List (List Key × V)} (ok:HOk P w H h) (e:Rd H a (.dT kvs)):kvs.length <= sizeLine /\ (a == sysModules) = false /\
  ∃ xs,KT H kvs xs /\ h.DictOfH (tupleKind (QB P w)) a xs:=by
 obtain ⟨z,y,xs,r,o,es,ep,h1,h2,h3,h4,h5⟩:=(show Qt P w H h a (.dT kvs) from ZhT ok e)
 refine ⟨z,y,xs,r,o,es,ep,h1,h2,h3,h4,λ x hx=>?_,h5⟩;have all:∀ {l:List (List Key × V)} {m:List (List Key × Addr × Value)},KT H l m->∀ x ∈ m,(tupleKind (QB P w)).is h x.1 x.2.1:=by
  intro l m q
  induction q with
  | nil=>intro x hx; exact nomatch hx
  | @cons p q ps qs hq t ih=>
   intro x hx
   rcases List.mem_cons.mp hx with e | hx
   ·subst e;exact ZaE ok (by rw [<- hq.1]; exact hq.2.1)
   ·exact ih x hx
 exact all r x hx
def ZaA (H:Hp) (a:Addr) (y:V) (r:Option V):Prop:=
 (∃ kvs k,Rd H a (.dK kvs) /\ y = kV k /\ r = CO kvs k) \/ ∃ kvs k b,Rd H a (.dT kvs) /\ y = .ref b /\ H b = some (.tup (k.map kV)) /\ r = CO kvs k
def Zim (H:Hp) (a:Addr) (y v:V) (H':Hp):Prop:=
 (∃ kvs k,H a = some (.dK kvs) /\ y = kV k /\ kvs.length < sizeLine /\ H' = upd H a (.dK (putK kvs k v))) \/
 ∃ kvs k b,H a = some (.dT kvs) /\ y = .ref b /\ H b = some (.tup (k.map kV)) /\ kvs.length < sizeLine /\ H' = upd H a (.dT (putK kvs k v))
theorem ZaA.k {k:Key} (e:H a = some (.dK kvs)):ZaA H a (kV k) (CO kvs k):=.inl ⟨kvs,k,.inl e,rfl,rfl⟩
theorem ZaA.t {b:Addr} {kvs:List (List Key × V)} {k:List Key} (e:H a = some (.dT kvs)) (eb:H b = some (.tup (k.map kV))):ZaA H a (.ref b) (CO kvs k):=.inr ⟨kvs,k,b,.inl e,rfl,eb,rfl⟩
theorem Zim.k {k:Key} (e:H a = some (.dK kvs)) (hl:kvs.length < sizeLine):Zim H a (kV k) v (upd H a (.dK (putK kvs k v))):=.inl ⟨kvs,k,e,rfl,hl,rfl⟩
theorem Zim.t {b:Addr} {kvs:List (List Key × V)} {k:List Key} {v:V} (e:H a = some (.dT kvs)) (eb:H b = some (.tup (k.map kV))) (hl:kvs.length < sizeLine) :
  Zim H a (.ref b) v (upd H a (.dT (putK kvs k v))):=.inr ⟨kvs,k,b,e,rfl,eb,hl,rfl⟩
section
variable {s:Shared} {y:V} {r:Value} {o:Option V}
theorem Inv.big (I:Inv X pins Z H s):sysModules < s.heap.objs.size:=by
 have h:mainGlobals < s.heap.objs.size:=(I.mod.glob.keeps I.bk).lt;exact Nat.lt_trans (by decide) h
theorem NI (hu:A.units + 1 < cLine) (I:Inv X pins Z H s) (g:ZaA H a y (some v)) (ry:RelV y u) (h:∀ w' s',Inv X pins Z H s'->RelV v w'->Q w' s') :
  wpAny (model X.prog X.w) A (getItem (.ref a) u) Q E s:=by
 rcases g with ⟨kvs,k,e,ey,l⟩ | ⟨kvs,k,b,e,ey,eb,l⟩
 ·subst ey;obtain ⟨z,hd,vs,rel,dd⟩:=ZdJ I.hok e;obtain ⟨w',hw,rw'⟩:=Lv.some_of (v:=v) (o:=valueAt vs k) (by rw [l]; exact rel.val k);exact wpAny_getItem_of (Zdy ry) dd.mapOf hw (h w' _ (I.tok _) rw')
 ·subst ey;cases (show u = Value.ref b from ry);obtain ⟨z,hd,xs,rel,dd⟩:=Zhk I.hok e;obtain ⟨w',hw,rw'⟩:=Lv.some_of (v:=v) (o:=(atKey xs k).map (·.2)) (by rw [l]; exact rel.val k);obtain ⟨p,hp,hp2⟩:=Option.map_eq_some_iff.mp hw;refine wpAny_getItem_heap (tupleKind_room_in1 hu) (ZaE I.hok eb) dd hp ?_;rw [hp2];exact h w' _ (I.tok _) rw'
theorem Zb3 {t':Nat} {ob:HO} (I:Inv X pins Z H s) (mu:Mut (H a)) (hs:Heap.SameBut a s.heap h') (he:∃ q,h'.get? a = some q) (new:Qt X.prog X.w (upd H a ob) h' a ob) :
  Inv X pins Z (upd H a ob) { s with heap:=h',toks:=t' }:=
 I.write (x:=a) (e:=a) mu (.inl rfl) (λ b q hb z=>(hs.2 b hb).trans z) he new
theorem Ze4 {H':Hp} {vs:List (Key × Value)} (z:kvs.length <= sizeLine) (hd:(a == sysModules) = false) (rel:KV kvs vs) (dd:h'.DictOf (QB P w) a vs) :
  Qt P w H' h' a (.dK kvs):=⟨z,hd,vs,rel,dd⟩
end
section
variable {s:Shared} {k:Key}
end
def Zj4 (i:Expr):Prop:=∀ ov iv,subscripted i false ov iv = operate [ov,iv] (getItem ov iv)
theorem Zc3 {prog:Program} {w:World} {A:Around} {E:Value->Shared->Prop} {s:Shared} {env:Env} {value slice:Expr} {pos:Pos} {T id:String} {Q:Value->Shared->Prop}
  (hl:typeLookup (.type T) "__getitem__" = pure (some (.builtin id))) (hs:Zj4 slice)
  (h:wpAny (model prog w) A (eval value env) (λ o s₁=>wpAny (model prog w) A (eval slice env) (λ i s₂=>s₂.TypeIs o T /\ wpAny (model prog w) A (getItem o i) Q E s₂) E s₁) E s) :
  wpAny (model prog w) A (eval (.Subscript value slice pos) env) Q E s:=by
 refine Subscript_ (wpAny_mono h (λ o s₁ h₁=>wpAny_mono h₁ (λ i s₂ h₂=>?_) λ _ _ x=>x) λ _ _ x=>x);obtain ⟨hT,h₂⟩:=h₂;unfold subscriptTail;refine wpAny_bind ?_;rw [getitemInPython_of_ne hT.not_modules];refine wpAny_bind (wpAny_specialOf hT hl ?_);have fin:wpAny (model prog w) A (subscripted slice false o i) (λ r s₃=>wpAny (model prog w) A (letTemporaryGo value o r >>= λ _=>pure r) Q E s₃) E s₂:=by
  rw [hs o i];exact wpAny_operating (wpAny_mono h₂ (λ r s₃ h₃=>wpAny_bind (wpAny_letTemporaryGo (wpAny_pure h₃))) λ _ _ x=>x)
 first
  | exact wpAny_pure (wpAny_bind fin)
  | exact wpAny_bind (wpAny_pure (wpAny_bind fin))
  | exact wpAny_bind fin
theorem DQ {s:Shared} {y:V} {o:Option V} (I:Inv X pins Z H s) (g:ZaA H a y o):s.TypeIs (.ref a) "dict" := by
 rcases g with ⟨kvs,k,e,_,_⟩ | ⟨kvs,k,b,e,_,_,_⟩
 ·obtain ⟨_,_,vs,_,dd⟩:=ZdJ I.hok e;exact dd.typeIs
 ·obtain ⟨_,_,xs,_,dd⟩:=Zhk I.hok e;exact dd.typeIs
def ZjH (td ty:TE):TE:=λ Z H Q=>td Z H λ x H1=>ty Z H1 λ y H2=>∃ a v,x = .ref a /\ ZaA H2 a y (some v) /\ Q v H2
section
variable {o i value:Expr} {pos' tpos:Pos} {td ty tv:TE}
theorem ZdZ (hu:X.A.units + 1 < cLine) (ho:PE X o td) (hi:PE X i ty) (hs:Zj4 i):PE X (.Subscript o i pos) (ZjH td ty):=by
 intro pins s Z H Q I h;refine Zc3 PySem.F.slot_dict_getitem.lookup hs (thn (ho pins s Z H _ I h) λ u s1 ⟨x,H1,I1,rx,q1⟩=>thn (hi pins s1 Z H1 _ I1 q1) λ iv s2 ⟨y,H2,I2,ry,a,v,ex,g,q2⟩=>?_);subst ex;obtain rfl:u = Value.ref a:=rx;exact ⟨DQ I2 g,NI hu I2 g ry λ w' s3 I3 rw'=>⟨v,H2,I3,rw',q2⟩⟩
end
theorem EL (h:Heap) (hb:sysModules < h.objs.size):Qt P w H (h.push { cls:=.type "dict",data:=.dict #[] }) h.objs.size (.dK []):=
 ⟨Nat.zero_le _,beq_eq_false_iff_ne.mpr (Ne.symm (Nat.ne_of_lt hb)),[],.nil,Heap.DictOf.new h⟩
def Zfg:TE:=λ _ H Q=>∀ p,H p = none->Q (.ref p) (upd H p (.dK []))
theorem TM:PE X (.Dict [] [] pos) Zfg:=λ pins s Z H Q I h=>
 wpAny_Dict_empty ⟨.ref s.heap.objs.size,_,I.laid (a:=s.heap.objs.size) (o:=.dK []) (t':=s.toks) (λ _ _ q=>Heap.get?_push_of_some _ q) (Nat.le_refl _) (EL s.heap I.big),rfl,h _ (I.hok.fresh (Nat.le_refl _))⟩
def NW:List (TE × TE)->St->Hp->(List (V × V)->Hp->Prop)->Prop
 | [],_,H,Q=>Q [] H
 | (tk,tv) :: r,Z,H,Q=>tk Z H λ x H1=>tv Z H1 λ y H2=>NW r Z H2 λ ps H3=>Q ((x,y) :: ps) H3
abbrev VV:List (V × V)->List (Value × Value)->Prop:=Paired λ p q=>RelV p.1 q.1 /\ RelV p.2 q.2
def PPs (X:Cx) (pos:Pos) (keys:List (Option Expr)) (values:List Expr) (trs:List (TE × TE)):Prop:=
 ∀ (pins:List (Addr × Obj)) (s:Shared) (Z:St) (H:Hp) (Q:List (V × V)->Hp->Prop),Inv X pins Z H s->NW trs Z H Q ->
  wpAny (model X.prog X.w) X.A (evalPairs (pairTrees keys values X.env pos)) (λ vs s'=>∃ ps H',Inv X pins Z H' s' /\ VV ps vs /\ Q ps H') X.xe s
theorem Zcv:PPs X pos [] [] []:=λ pins s Z H Q I h=>pairTrees_nil_walk ⟨[],H,I,.nil,h⟩
theorem VX {k v:Expr} {ks:List (Option Expr)} {vs:List Expr} {tk tv:TE} {trs:List (TE × TE)} (hk:PE X k tk) (hv:PE X v tv) (hr:PPs X pos ks vs trs) :
  PPs X pos (some k :: ks) (v :: vs) ((tk,tv) :: trs):=λ pins s Z H Q I h=>
 pairTrees_cons_walk (thn (hk pins s Z H _ I h) λ u s1 ⟨x,H1,I1,rx,q1⟩=>thn (hv pins s1 Z H1 _ I1 q1) λ w2 s2 ⟨y,H2,I2,ry,q2⟩=>
  thn (hr pins s2 Z H2 _ I2 q2) λ ws s3 ⟨ps,H3,I3,rel,q3⟩=>⟨(x,y) :: ps,H3,I3,.cons ⟨rx,ry⟩ rel,q3⟩)
noncomputable def XO (kvs more:List (Key × V)):List (Key × V):=more.foldl (λ acc kv=>putK acc kv.1 kv.2) kvs
theorem KV.merge:∀ {more:List (Key × V)} {rs:List (Key × Value)} {kvs:List (Key × V)} {vs:List (Key × Value)},KV more rs->KV kvs vs->KV (XO kvs more) (merged vs rs):=by
 intro more rs kvs vs r;unfold KV at r
 induction r generalizing kvs vs with
 | nil=>intro q; exact q
 | @cons p q ps qs h t ih=>
  intro r0;have e:KV (putK kvs p.1 p.2) (stored vs q.1 q.2):=by
   have:=r0.put p.1 h.2;rw [<- h.1]; exact this
  exact ih e
theorem Y6:∀ (more kvs:List (Key × V)),(XO kvs more).length <= kvs.length + more.length
 | [],kvs=>by show kvs.length <= kvs.length + 0; lia
 | p :: r,kvs=>by
  have h1:=Y6 r (putK kvs p.1 p.2);have h2:=CS kvs p.1 p.2;show (XO (putK kvs p.1 p.2) r).length <= _;rw [List.length_cons]; lia
theorem UA {P:Program} {w:World}:∀ {kvs:List (Key × V)} {ws:List (Value × Value)},VV (kvs.map λ kv=>(kV kv.1,kv.2)) ws->∃ rs,Carries (QB P w) ws rs /\ KV kvs rs
 | [],_,r=>by rw [List.map_nil] at r; cases r; exact ⟨[],True.intro,.nil⟩
 | p :: kvs,_,r=>by
  rw [List.map_cons] at r;cases r with
  | @cons a b as bs h t=>
   obtain ⟨rs,c,q⟩:=UA (P:=P) (w:=w) t;obtain ⟨b1,b2⟩:=b;exact ⟨(p.1,b2) :: rs,⟨Zdy h.1,rfl,c⟩,.cons ⟨rfl,h.2⟩ q⟩
def ZiM (trs:List (TE × TE)):TE:=λ Z H Q=>∀ p,H p = none->NW trs Z (upd H p (.dK [])) λ ps H2=>H2 p = some (.dK []) /\ ∃ kvs:List (Key × V),ps = kvs.map (λ kv=>(kV kv.1,kv.2)) /\ kvs.length <= 15 /\ Q (.ref p) (upd H2 p (.dK (XO [] kvs)))
theorem ZcC {keys:List (Option Expr)} {values:List Expr} {trs:List (TE × TE)} (h:PPs X pos keys values trs) (hall:keys.all (·.isSome) = true) (hl:keys.length = values.length) (h0:keys ≠ [])
  (h15:keys.length <= 15):PE X (.Dict keys values pos) (ZiM trs):=by
 intro pins s Z H Q I q;have hn:=I.hok.fresh (Nat.le_refl s.heap.objs.size);have I1:=I.laid (a:=s.heap.objs.size) (o:=.dK []) (h':=s.heap.push { cls:=.type "dict",data:=.dict #[] }) (t':=s.toks) (λ _ _ q=>Heap.get?_push_of_some _ q) (Nat.le_refl _) (EL s.heap I.big);refine wpAny_Dict_walk (knd:=QB X.prog X.w) hall hl h0 h15 (thn (h pins _ Z _ _ I1 (q _ hn)) λ ws s2 ⟨ps,H2,I2,rel,e,kvs,ep,lk,q2⟩=>?_);subst ep;obtain ⟨rs,c,rk⟩:=UA (P:=X.prog) (w:=X.w) rel;obtain ⟨z,hd,vs0,r0,dd⟩:=ZjX I2.hok e;cases r0;refine ⟨rs,c,dd,λ h' dd' hs=>⟨.ref s.heap.objs.size,_,?_,rfl,q2⟩⟩;have hz:(XO [] kvs).length <= sizeLine:=by
  have h1:=Y6 kvs [];rw [List.length_nil] at h1;rw [sizeLine_eq]; lia
 have he:∃ q,h'.get? s.heap.objs.size = some q:=let ⟨q,_,_,hq,_⟩:=dd'; ⟨q,hq⟩;exact Zb3 I2 (by rw [e]; exact True.intro) hs he (Ze4 hz hd (rk.merge .nil) dd')
structure M1 (X:Cx) (o:Expr) (m:Str) (apos:Pos) (e:Expr) (cpos:Pos):Prop where
 base:attributeBase o m X.env (eval o X.env) = eval o X.env
 few:((backTo cpos (starEach [e] X.env)).all (λ x=>!x.1) && (backToKw cpos (keywordEach [] X.env)).all (λ x=>x.1.isSome)
  && decide (([e]:List Expr).length + ([]:List Keyword).length + (if ([]:List Keyword).isEmpty then 0 else 1) < 30)) = true
 line:(apos.endLine == cpos.line) = true
 trees:backTo cpos (starEach [e] X.env) = [(false,eval e X.env)]
structure M2 (X:Cx) (o:Expr) (m:Str) (apos:Pos) (e f:Expr) (cpos:Pos):Prop where
 base:attributeBase o m X.env (eval o X.env) = eval o X.env
 few:((backTo cpos (starEach [e,f] X.env)).all (λ x=>!x.1) && (backToKw cpos (keywordEach [] X.env)).all (λ x=>x.1.isSome)
  && decide (([e,f]:List Expr).length + ([]:List Keyword).length + (if ([]:List Keyword).isEmpty then 0 else 1) < 30)) = true
 line:(apos.endLine == cpos.line) = true
 trees:backTo cpos (starEach [e,f] X.env) = [(false,eval e X.env),(false,eval f X.env)]
section
variable {s:Shared} {y d:V} {r:Value} {o:Option V}
end
section
variable {o f:Expr} {apos:Pos} {td ty tx:TE}
end
section
variable {s:Shared}
end
section
variable {s:Shared} {y:V}
end
end L2
namespace Att
open PySem.W PySem.Calls
theorem Wh {P:Params}:∀ (ns:List Int) (vs:List Value),WellAll P h vs (ns.map WData.int)->IntsAre vs ns:=by
 intro ns
 induction ns with
 | nil=>
  intro vs w;rw [List.map_nil] at w;cases w;exact .nil
 | cons n ns ih=>
  intro vs w;rw [List.map_cons] at w;cases w with
  | cons a b=>
   cases a;exact .cons _ _ (ih _ b)
theorem NA {l:OpenLaw} (hn:l.most = some n) {P:Params} {h:Heap} {args:List WData} {vals:List Value}
  (hpre:l.row.toRowW.claim.pre args = true) (hwl:WellAll P h vals args) :
  ∃ a vs ns,vals = [Value.ref a] /\ args = [WData.list (ns.map WData.int)] /\ h.get? a = some { cls:=.type "list",data:=.seq vs.toArray } /\ IntsAre vs ns /\ ns.length <= n:=by
 have hsh:WShape.hasAll [] args [.list .int] = true:=(pre_splitW hpre).1;have hc:l.pre.holds [] { args:=args } = true:=(pre_splitW hpre).2;obtain ⟨d,r,rfl,h1,h2⟩:=hasAllW_cons hsh;obtain rfl:=hasAllW_nil h2;obtain ⟨xs,rfl,h3⟩:=hasW_list h1;obtain ⟨ns,rfl⟩:=items_int h3;have hlen:ns.length <= n:=by
  unfold OpenLaw.pre at hc;have h4:(WTm.not (.lt (.lit (.int (n:Int))) (.len (.arg 0)))).holds [] { args:=[.list (ns.map .int)] } = true:=by
   have h4:=(holds_andW hc).1;rw [hn] at h4;exact h4
  have h5:=condW_of h4 (w_not (w_lt w_lit (w_len_list (w_arg rfl))));rw [List.length_map] at h5;refine Nat.le_of_not_lt λ q=>?_;have q':(n:Int) < ((ns.length:Nat):Int):=by lia
  first
   | (rw [decide_eq_true q'] at h5; exact absurd h5 (by decide))
   | (simp at h5; lia)
 cases hwl with
 | cons w1 w2=>
  cases w2;cases w1 with
  | list ho hall=>exact ⟨_,_,ns,rfl,rfl,ho,Wh ns _ hall,hlen⟩
theorem NN (l:OpenLaw) (args:List WData):l.row.toRowW.claim.post args (.bool true) args = true:=
 postW_of (r:=l.row.toRowW) (X:=(true == true))
  (show WShape.has [] (.bool true) .bool = true by first | rfl | decide | simp [WShape.has,WShape.arms,WShape.armsAll])
  (show (WTm.eq .res (.lit (.bool true))).value [] { args:=args,res:=some (.bool true),after:=args } = some (.bool (true == true)) from w_eq_bool (w_res rfl) w_lit) rfl
theorem CQ {l:OpenLaw} {n:Nat} {q:Program} {loose:List Str} {XP:(Str->Option Value)->Heap->Prop} {YP:World->Heap->Prop} {d:DefRec}
  (hn:l.most = some n) (hdf:d.params.defaults = [])
  (call:∀ (w:World) (s₀ s₁:Shared) (mg mb:Str->Option Value) (fa:Addr) (o:Obj) (pm cd doc:Value) (a:Addr) (vs:List Value) (ns:List Int),
   Ground q loose [] XP w s₀ mg mb s₁.heap->YP w s₁.heap ->
   s₁.heap.get? fa = some o->o.data = .func (docDef d.name d.params d.body d.scope pm cd doc)->s₁.heap.CodeRec cd d.name->mg d.name = some (.ref fa) ->
   s₁.heap.get? a = some { cls:=.type "list",data:=.seq vs.toArray }->IntsAre vs ns->ns.length <= n->s₁.gens = #[] ->
   codeAny (model l.prog w) callerA (.call (.ref fa) ⟨[.ref a],[]⟩) (λ r s'=>r = .ok (.ret (.bool true)) /\ OldK s₁.heap s'.heap /\ s'.os = s₁.os /\ AllBare s'.gens) s₁) :
  WalkO q loose XP YP l.row.toRowW d [] (λ f vs=>PySem.call f vs):=by
 intro w s₀ s₁ mg mb G Y fa o pm cd doc dV kV ho hd hcd hD hmg hg args vals as hpre hlay hrd hwl hlo;obtain rfl:dV = .none:=Dflts.none hD hdf;obtain rfl:kV = .none:=Dflts.noKw hD;obtain ⟨a,vs,ns,rfl,rfl,hobj,hints,hlen⟩:=NA hn hpre hwl;refine enter_call (codeAny_mono (call w s₀ s₁ mg mb fa o pm cd doc a vs ns G Y ho (fd_plain hd) hcd hmg hobj hints hlen hg) λ r s' hq=>?_);obtain ⟨rfl,h2,h3,h4⟩:=hq;exact ⟨.inl ⟨.bool true,.bool true,[],rfl,λ _=>rfl,.bool true,NN l _,λ _=>⟨List.Pairwise.nil,λ _ hm=>(nomatch hm)⟩⟩,h2,h3,h4⟩
section
variable {prog:Program} {s:Shared} {K:Frag}
end
end Att
namespace L2
theorem B1:∀ {vs:List Value} {ns:List Int},IntsAre vs ns->Vals (ns.map V.int) vs
 | _,_,.nil=>.nil
 | _,_,.cons n t h=>.cons ⟨t,rfl⟩ (B1 h)
def Ziu (H:Hp):Prop:=∀ b,H b = none \/ ∃ o xs,H b = some (.frz o (.lst xs))
theorem RR {P:Program} {w:World} {K:Fk} {mg mb:Str->Option Value} {CX:CXT} {k:Nat} {fa a:Addr} {fd:FuncData} {x:Str} {sp:Sp} {s₁:Shared} {vs:List Value} {ns:List Int}
  (KX:K.In s₁.heap) (hns:s₁.heap.Ns mainGlobals mg) (hb:s₁.heap.Ns builtinsNs mb) (hbb:∀ x:Str,x ≠ "__name__" -> mb x = bootBuiltins x) (hlim:s₁.heap.NoLimit) (hg:s₁.gens = #[])
  (ha:s₁.heap.get? a = some { cls:=.type "list",data:=.seq vs.toArray }) (hi:IntsAre vs ns) (hl:ns.length <= sizeLine) (hr:JT k callerA)
  (F:∀ base:Heap,K.In base->base.Ns mainGlobals mg->Qu P w K mg base CX k fa fd [x] sp) (hbind:∀ (s:Shared) (u:Value),BindsTo s fd ⟨[u],[]⟩ [(x,u)])
  (hsp:∀ H:Hp,Ziu H->SqL K H a (ns.map V.int)->sp [.ref a] H (λ v _=>v = .bl true) λ _ _ _=>False)
  (hCX:∀ H e s',CX [] H s₁ (λ _ _ _=>False) e s'->False) :
  codeAny (model P w) callerA (.call (.ref fa) ⟨[.ref a],[]⟩) (λ r s'=>r = .ok (.ret (.bool true)) /\ OldK s₁.heap s'.heap /\ s'.os = s₁.os /\ AllBare s'.gens) s₁:=by
 have rv:=B1 hi;have lenV:=hi.length;have core:∀ H:Hp,Ziu H->SqL K H a (ns.map V.int)->HOk P w H s₁.heap->(∀ b,H b ≠ none->b = a)->(H a ≠ none->K.lookup a = none) ->
   codeAny (model P w) callerA (.call (.ref fa) ⟨[.ref a],[]⟩) (λ r s'=>r = .ok (.ret (.bool true)) /\ OldK s₁.heap s'.heap /\ s'.os = s₁.os /\ AllBare s'.gens) s₁:=by
  intro H hO hS hok hA hK;have base_of:∀ {b:Addr} {o:Obj},s₁.heap.get? b = some o->H b = none->(T6 s₁.heap H).get? b = some o:=λ e n=>Rj e n;have noA:∀ {b:Addr} {o:Obj} {es:Array DictEntry} {ep:Nat},s₁.heap.get? b = some o->o.data = .dict es ep->H b = none:=λ {b o es ep} e d=>by
   cases q:H b with
   | none=>rfl
   | some u=>
    have e':b = a:=hA b (by rw [q]; simp);subst e';rw [ha] at e; cases e;have d':Data.seq vs.toArray _ = Data.dict es ep:=d;cases d'
  have nsK:∀ {b:Addr} {m:Str->Option Value},s₁.heap.Ns b m->(T6 s₁.heap H).Ns b m:=λ {b m} ⟨o,es,ep,e,d,r⟩=>⟨o,es,ep,base_of e (noA e d),d,r⟩
  have hKb:K.In (T6 s₁.heap H):=λ b o e=>base_of (KX b o e) (by
   cases q:H b with
   | none=>rfl
   | some u=>
    have e':b = a:=hA b (by rw [q]; simp);subst e'
    rw [hK (by rw [q]; simp)] at e; cases e)
  have hM:Mod K mg (T6 s₁.heap H):=⟨hKb,nsK hns,⟨mb,nsK hb,hbb⟩,let ⟨mc,h1,h2⟩:=hlim; ⟨mc,nsK h1,h2⟩⟩
  have e0:Zdw P w K mg (T6 s₁.heap H) callerA [] s₁ H:=⟨rfl,hM,λ b o e=>Zd6 e,Nat.le_of_eq (Mb _ _),trivial,λ b hb=>absurd (show b ∈ ([]:List Addr) from hb) (by simp),hok,.of_eq hg⟩
  refine codeAny_mono ((F _ hKb (nsK hns)).run callerA [] s₁ H ⟨[.ref a],[]⟩ [.ref a] [.ref a] _ _ hr e0 (hbind s₁ (.ref a)) (.cons rfl .nil) (hsp H hO hS)) λ r s' h=>?_;cases r with
  | error e=>exact (hCX H e s' h).elim
  | ok fl=>
   cases fl with
   | next=>exact False.elim h
   | brk=>exact False.elim h
   | cont=>exact False.elim h
   | ret u=>
    obtain ⟨v,H',os,bare,un,hok',r',q⟩:=h;have q':v = .bl true:=q;subst q';obtain rfl:u = Value.bool true:=r';refine ⟨rfl,OldK.of_keep λ b o e=>?_,os,bare⟩;cases q:H b with
    | none=>exact un.keep b o e q (by intro z; exact absurd (show b ∈ ([]:List Addr) from z) (by simp)) (by simp)
    | some u=>
     rcases hO b with z | ⟨ob,xs,z⟩
     ·rw [q] at z; cases z
     ·have z2:=un.frzs b ob _ z;obtain ⟨e1,_⟩:=hok b _ z;obtain ⟨e2,_⟩:=hok' b _ z2;rw [e] at e1; cases e1;exact e2
 cases hk:K.lookup a with
 | some o=>
  have e:=KX a o hk;rw [ha] at e;cases e;refine core (λ _=>none) (λ _=>.inl rfl) (.inr ⟨_,vs.toArray,_,hk,rfl,rfl,rfl,by rw [List.size_toArray,lenV]; exact hl,by simpa using rv⟩) (λ b u z=>by have z':(none:Option HO) = some u:=z; cases z') (λ b z=>absurd rfl z) λ z=>absurd rfl z
 | none=>
  refine core (λ b=>if b = a then some (.frz { cls:=.type "list",data:=.seq vs.toArray } (.lst (ns.map V.int))) else none) (λ b=>?_) (.inl (.inr ⟨{ cls:=.type "list",data:=.seq vs.toArray },if_pos rfl⟩)) (λ b u z=>?_) (λ b z=>?_) λ _=>hk
  ·by_cases hb:b = a
   ·exact .inr ⟨_,_,if_pos hb⟩
   ·exact .inl (if_neg hb)
  ·by_cases hb:b = a
   ·have z':=(if_pos hb).symm.trans z;cases z';subst hb;exact ⟨ha,by rw [List.length_map]; exact hl,vs,_,rv,ha⟩
   ·have z':=(if_neg hb).symm.trans z;cases z'
  ·by_cases hb:b = a
   ·exact hb
   ·exact absurd (if_neg hb) z
theorem ZdF {l:PySem.W.OpenLaw} {n k:Nat} {q:Program} {loose:List Str} {XP:(Str->Option Value)->Heap->Prop} {YP:World->Heap->Prop} {d:DefRec} {K:Params->Fk} {CX:World->CXT} {sp:World->Sp} {x:Str}
  (hn:l.most = some n) (hn2:n <= sizeLine) (hdf:d.params.defaults = []) (hr:JT k callerA)
  (hY:∀ (w:World) (h:Heap),YP w h->(K w.params).In h)
  (F:∀ (w:World) (mg:Str->Option Value) (fa:Addr) (h:Heap),(K w.params).In h->h.Ns mainGlobals mg->mg d.name = some (.ref fa) ->
   ∃ fd:FuncData,(∀ (s:Shared) (u:Value),BindsTo s fd ⟨[u],[]⟩ [(x,u)]) /\
    ∀ base:Heap,(K w.params).In base->base.Ns mainGlobals mg->Qu l.prog w (K w.params) mg base (CX w) k fa fd [x] (sp w))
  (hsp:∀ (w:World) (H:Hp) (a:Addr) (ns:List Int),ns.length <= n->Ziu H->SqL (K w.params) H a (ns.map V.int)->sp w [.ref a] H (λ v _=>v = .bl true) λ _ _ _=>False)
  (hCX:∀ (w:World) (H:Hp) (s:Shared) (e:Value) (s':Shared),CX w [] H s (λ _ _ _=>False) e s'->False) :
  PySem.W.WalkO q loose XP YP l.row.toRowW d [] (λ f vs=>PySem.call f vs):=by
 refine Att.CQ hn hdf λ w s₀ s₁ mg mb fa o pm cd doc a vs ns G Y ho hd hcd hmg hobj hints hlen hg=>?_;have KX:=hY w _ Y;obtain ⟨fd,hb,hF⟩:=F w mg fa _ KX G.T.g hmg;exact RR KX G.T.g G.T.b G.T.builtins G.T.nolimit hg hobj hints (Nat.le_trans hlen hn2) hr hF hb (λ H hO hS=>hsp w H a ns hlen hO hS) λ H e s'=>hCX w H s₁ e s'
noncomputable def VU (s:Stmt):Arguments:=match s with
 | .FunctionDef _ a _ _ _ _ _ _ _ _=>a
 | _=>{ posonlyargs:=[],args:=[],vararg:=none,kwonlyargs:=[],kw_defaults:=[],kwarg:=none,defaults:=[] }
noncomputable def Q2 (s:Stmt):List Stmt:=match s with
 | .FunctionDef _ _ b _ _ _ _ _ _ _=>b
 | _=>[]
noncomputable def Zf (s:Stmt):Scope:=match s with
 | .FunctionDef _ _ _ _ _ _ sc _ _ _=>sc
 | _=>{ kind:=.function,names:=[],isGenerator:=false,isCoroutine:=false }
abbrev CX0:CXT:=λ _ _ _ _ _ _=>False
abbrev E0:XK:=λ _ _ _=>False
theorem Zjj:Passes CX0 X E0:=λ _ _ _ _ _ _ _ h=>h.elim
structure Fun (K:Fk) (x qual:Str) (st:Stmt) (f:Addr) (fd:FuncData):Prop where
 ex:∃ (oc:Value) (od:Option Addr) (kV doc pm:Value) (an:Option Addr) (cdv ct:Value) (osl:Array (Option Value)),
  fd = PySem.W.fnOf x qual (VU st) (Q2 st) (Zf st) .none kV doc pm an cdv ct /\ K.lookup f = some ⟨oc,od,.func fd,osl⟩ /\ PySem.W.codeIn K cdv qual = true
 kp:PySem.W.keepIn K (.ref f) = true
section
variable {K:Fk}
theorem Fun.ok {k:Nat} {sp:Sp} (F:Fun K x qual st f fd) (S:Zr N ps (Zf st)) (len:∀ vs H Q E,sp vs H Q E->vs.length = ps.length)
  (hbody:∀ (cdv:Value) (A:Around) (outer:List Env) (s:Shared) (H:Hp) (vs:List V) (Q:VK) (E:XK),JT k (A.deeper (envOfC qual (Zf st) s.heap.objs.size f cdv))->sp vs H Q E ->
   ∃ t,PSs (Fz CX0 P w K mg base N qual (Zf st) f cdv A outer s H E).nox (Q2 st) t /\ t { nx:=λ _ H'=>Q .non H',rt:=Q } (start N vs) H):Qu P w K mg base CX0 (k + 1) f fd ps sp:=by
 obtain ⟨oc,od,kV,doc,pm,an,cdv,ct,osl,rfl,lk,hcd⟩:=F.ex;refine Zf9 lk hcd S len λ A outer s H vs Q E hr hsp=>?_;obtain ⟨t,h,q⟩:=hbody cdv A outer s H vs Q E hr hsp;exact ⟨t,h.nox,q⟩
theorem Fun.binds {ps:List Str} (F:Fun K x qual st f fd)
  (h:∀ (kV doc pm:Value) (an:Option Addr) (cdv ct:Value) (us:List Value),us.length = ps.length->bindArgs (PySem.W.fnOf x qual (VU st) (Q2 st) (Zf st) .none kV doc pm an cdv ct) ⟨us,[]⟩ = pure (ps.zip us)):Binds K fd ps []:=by
 obtain ⟨oc,od,kV,doc,pm,an,cdv,ct,osl,rfl,lk,hcd⟩:=F.ex;exact .all (h kV doc pm an cdv ct)
theorem NC {oc:Value} {od an:Option Addr} {osl:Array (Option Value)} {kV doc pm cdv ct:Value} (l:K.lookup f = some ⟨oc,od,.func (PySem.W.fnOf x qual (VU st) (Q2 st) (Zf st) .none kV doc pm an cdv ct),osl⟩)
  (c:PySem.W.codeIn K cdv qual = true) (k:PySem.W.keepIn K (.ref f) = true):Fun K x qual st f (PySem.W.fnOf x qual (VU st) (Q2 st) (Zf st) .none kV doc pm an cdv ct):=⟨⟨oc,od,kV,doc,pm,an,cdv,ct,osl,rfl,l,c⟩,k⟩
end
theorem pv (i:Nat) {pos:Pos} (hN:autoParam (X.N[i]? = some x) zz3._auto_1) (hv:autoParam (Vis X.env.scope x) zz5._auto_1) (hd:autoParam ((x == ("__debug__" : Str)) = false) zz1._auto_1)
  (hcd:autoParam ((x == ("__classdict__" : Str)) = false) zz1._auto_1):PE X (.Name x pos) (Zij i):=Ft hN hv hd hcd
def Zbq (H H':Hp):Prop:=∀ b o,H b = some o->H' b = some o
theorem Zbq.refl (H:Hp):Zbq H H:=λ _ _ h=>h
theorem Zbq.trans {H1 H2:Hp} (a:Zbq H H1) (b:Zbq H1 H2):Zbq H H2:=λ c o h=>b c o (a c o h)
theorem Zbq.free (e:Zbq H H') {l:Addr} (h:H' l = Option.none):H l = Option.none:=by
 cases q:H l with
 | none=>rfl
 | some o=>
  rw [e l o q] at h;cases h
end L2
namespace DL
inductive DV where
 | dat (d:PyData)
 | own (a:Addr)
 | ty (n:String)
  | mix (xs:List DV)
inductive OO where
 | lst (ds:List PyData)
  | dct (ks:List (List Key))
  | dtv (kvs:List (List Key × PyData))
  | dkv (kvs:List (Key × PyData))
  | dko (kvs:List (Key × DV))
  | fdk (o:Obj) (kvs:List (Key × PyData))
  | lsv (n:Nat) (xs:List DV)
  | ext (φ:Heap->Prop)
  | gst (N₀:Addr->Prop) (H₀:Hp)
  | fdc (o:Obj) (ks:List (List Key))
 | fdt (o:Obj) (ps:List (List Key × PyData))
  | tab (φ:Fk->Addr->Array Value->(Addr->Prop)->Hp->Prop)
abbrev Mp:=Addr->Option OO
noncomputable def ZR (M:Mp) (a:Addr) (o:OO):Mp:=λ b=>if b = a then some o else M b
noncomputable def YI (M:Mp) (a:Addr):Mp:=λ b=>if b = a then none else M b
theorem ZK {M:Mp} {o:OO}:ZR M a o a = some o:=by unfold ZR; rw [if_pos rfl]
theorem ZF {M:Mp} {b:Addr} {o:OO} (h:b ≠ a):ZR M a o b = M b:=by unfold ZR; rw [if_neg h]
theorem O8 {M:Mp} {o u:OO}:ZR (ZR M a o) a u = ZR M a u:=by
 funext b; unfold ZR; split <;> rfl
theorem YQ {M:Mp}:YI M a a = none:=by unfold YI; rw [if_pos rfl]
theorem Xh {M:Mp} {b:Addr} (h:b ≠ a):YI M a b = M b:=by unfold YI; rw [if_neg h]
noncomputable def kD:Key->PyData
 | .inl i=>.int i
 | .inr x=>.str x
def KTu (K:Fk) (a:Addr) (xs:List V):Prop:=
 ∃ (o:Obj) (its:Array Value) (n:Nat),K.lookup a = some o /\ o.cls = .type "tuple" /\ o.data = .seq its n /\ its.size <= sizeLine /\ Vals xs its.toList
def KLs (K:Fk) (a:Addr) (xs:List V):Prop:=
 ∃ (o:Obj) (its:Array Value) (n:Nat),K.lookup a = some o /\ o.cls = .type "list" /\ o.dict = none /\ o.data = .seq its n /\ its.size <= sizeLine /\ Vals xs its.toList
def TupAt (K:Fk) (M:Mp) (H:Hp) (a:Addr) (xs:List V):Prop:=(M a = none /\ Rd H a (.tup xs)) \/ KTu K a xs
def LstAt (K:Fk) (M:Mp) (H:Hp) (a:Addr) (xs:List V):Prop:=(M a = none /\ Rd H a (.lst xs)) \/ KLs K a xs
theorem TupAt.sq {K:Fk} {M:Mp} (h:TupAt K M H a xs):SqT K H a xs:=by
 rcases h with ⟨_,h⟩ | h
 ·exact .inl h
 ·exact .inr h
theorem LstAt.sq {K:Fk} {M:Mp} (h:LstAt K M H a xs):SqL K H a xs:=by
 rcases h with ⟨_,h⟩ | h
 ·exact .inl h
 ·exact .inr h
mutual
inductive Dt (K:Fk) (M:Mp) (H:Hp):V->PyData->Prop
 | non:Dt K M H .non .none
 | bl (b:Bool):Dt K M H (.bl b) (.bool b)
 | int (i:Int):Dt K M H (.int i) (.int i)
 | str (x:Str):Dt K M H (.str x) (.str x)
 | tup {a:Addr} {xs:List V} {ds:List PyData}:TupAt K M H a xs->Dts K M H xs ds->Dt K M H (.ref a) (.tuple ds)
 | lst {a:Addr} {xs:List V} {ds:List PyData}:LstAt K M H a xs->Dts K M H xs ds->Dt K M H (.ref a) (.list ds)
 | dK {a:Addr} {kvs:List (Key × V)} {ds:List PyData}:M a = none->H a = some (.dK kvs)->Dts K M H (kvs.map (·.2)) ds->Dt K M H (.ref a) (.dict ((kvs.map λ kv=>kD kv.1).zip ds))
 | dT {a:Addr} {kvs:List (List Key × V)} {ds:List PyData}:M a = none->H a = some (.dT kvs)->Dts K M H (kvs.map (·.2)) ds->kvs ≠ []->Dt K M H (.ref a) (.dict ((kvs.map λ kv=>PyData.tuple (kv.1.map kD)).zip ds))
 | dX {a b:Addr} {φ:Heap->Prop} {v:V} {dk d:PyData}:M a = none->H a = some (.ext φ)->(a == sysModules) = false ->
   (∀ h,φ h->∃ o es n u,h.get? a = some o /\ o.cls = .type "dict" /\ o.data = .dict es n /\ es.toList.map (·.key) = [.ref b] /\ es.toList.map (·.val) = [u] /\ RelV v u)->Dt K M H (.ref b) dk->Dt K M H v d->Dt K M H (.ref a) (.dict [(dk,d)])
inductive Dts (K:Fk) (M:Mp) (H:Hp):List V->List PyData->Prop
 | nil:Dts K M H [] []
 | cons {x:V} {xs:List V} {d:PyData} {ds:List PyData}:Dt K M H x d->Dts K M H xs ds->Dts K M H (x :: xs) (d :: ds)
end
structure Step (M:Mp) (H:Hp) (M':Mp) (H':Hp):Prop where
 keep:∀ b o,M b = none->H b = some o->H' b = some o
 free:∀ b o,M b = none->H b = some o->M' b = none
theorem Step.refl {M:Mp}:Step M H M H:=⟨λ _ _ _ h=>h,λ _ _ h _=>h⟩
theorem Step.trans {M M1 M2:Mp} {H1 H2:Hp} (a:Step M H M1 H1) (b:Step M1 H1 M2 H2):Step M H M2 H2:=
 ⟨λ c o h1 h2=>b.keep c o (a.free c o h1 h2) (a.keep c o h1 h2),λ c o h1 h2=>b.free c o (a.free c o h1 h2) (a.keep c o h1 h2)⟩
section
variable {K:Fk} {M M':Mp}
theorem Mz {u:HO} (st:Step M H M' H') (hm:M a = none) (h:Rd H a u):M' a = none /\ Rd H' a u:=by
 rcases h with h | ⟨o,h⟩
 ·exact ⟨st.free _ _ hm h,.inl (st.keep _ _ hm h)⟩
 ·exact ⟨st.free _ _ hm h,.inr ⟨o,st.keep _ _ hm h⟩⟩
theorem TupAt.step (h:TupAt K M H a xs) (st:Step M H M' H'):TupAt K M' H' a xs:=by
 rcases h with ⟨h1,h2⟩ | h
 ·exact .inl (Mz st h1 h2)
 ·exact .inr h
theorem LstAt.step (h:LstAt K M H a xs) (st:Step M H M' H'):LstAt K M' H' a xs:=by
 rcases h with ⟨h1,h2⟩ | h
 ·exact .inl (Mz st h1 h2)
 ·exact .inr h
mutual
theorem Dt.step (st:Step M H M' H'):∀ {v:V} {d:PyData},Dt K M H v d->Dt K M' H' v d
 | _,_,.non=>.non
 | _,_,.bl b=>.bl b
 | _,_,.int i=>.int i
 | _,_,.str x=>.str x
 | _,_,.tup h1 h2=>.tup (h1.step st) (Dts.step st h2)
 | _,_,.lst h1 h2=>.lst (h1.step st) (Dts.step st h2)
 | _,_,.dK h0 h1 h2=>.dK (st.free _ _ h0 h1) (st.keep _ _ h0 h1) (Dts.step st h2)
 | _,_,.dT h0 h1 h2 h3=>.dT (st.free _ _ h0 h1) (st.keep _ _ h0 h1) (Dts.step st h2) h3
 | _,_,.dX h0 h1 h2 h3 h4 h5=>.dX (st.free _ _ h0 h1) (st.keep _ _ h0 h1) h2 h3 (Dt.step st h4) (Dt.step st h5)
theorem Dts.step (st:Step M H M' H'):∀ {vs:List V} {ds:List PyData},Dts K M H vs ds->Dts K M' H' vs ds
 | _,_,.nil=>.nil
 | _,_,.cons h1 h2=>.cons (Dt.step st h1) (Dts.step st h2)
end
theorem Dts.length:∀ {vs:List V} {ds:List PyData},Dts K M H vs ds->vs.length = ds.length
 | _,_,.nil=>rfl
 | _,_,.cons _ h=>by rw [List.length_cons,List.length_cons,Dts.length h]
theorem Dts.get:∀ {vs:List V} {ds:List PyData} {i:Nat} {d:PyData},Dts K M H vs ds->ds[i]? = some d->∃ v,vs[i]? = some v /\ Dt K M H v d
 | _,_,_,_,.nil,e=>by simp at e
 | _,_,0,_,.cons h _,e=>by simp at e; subst e; exact ⟨_,rfl,h⟩
 | _,_,i + 1,d,.cons _ h,e=>by
  obtain ⟨v,h1,h2⟩:=Dts.get (i:=i) (d:=d) h (by simpa using e);exact ⟨v,by simpa using h1,h2⟩
theorem Dts.ZeT:∀ {vs:List V} {ds:List PyData} {i:Nat} {v:V},Dts K M H vs ds->vs[i]? = some v->∃ d,ds[i]? = some d /\ Dt K M H v d
 | _,_,_,_,.nil,e=>by simp at e
 | _,_,0,_,.cons h _,e=>by simp at e; subst e; exact ⟨_,rfl,h⟩
 | _,_,i + 1,v,.cons _ h,e=>by
  obtain ⟨d,h1,h2⟩:=Dts.ZeT (i:=i) (v:=v) h (by simpa using e);exact ⟨d,by simpa using h1,h2⟩
theorem Dts.append:∀ {vs ws:List V} {ds es:List PyData},Dts K M H vs ds->Dts K M H ws es->Dts K M H (vs ++ ws) (ds ++ es)
 | _,_,_,_,.nil,h=>h
 | _,_,_,_,.cons h1 h2,h=>.cons h1 (Dts.append h2 h)
theorem Dts.take:∀ {vs:List V} {ds:List PyData} (n:Nat),Dts K M H vs ds->Dts K M H (vs.take n) (ds.take n)
 | _,_,0,_=>.nil
 | _,_,_ + 1,.nil=>.nil
 | _,_,n + 1,.cons h1 h2=>.cons h1 (Dts.take n h2)
theorem Dts.drop:∀ {vs:List V} {ds:List PyData} (n:Nat),Dts K M H vs ds->Dts K M H (vs.drop n) (ds.drop n)
 | _,_,0,h=>h
 | _,_,_ + 1,.nil=>.nil
 | _,_,n + 1,.cons _ h2=>Dts.drop n h2
theorem Dts.set (h:Dt K M H v d):∀ {vs:List V} {ds:List PyData} (i:Nat),Dts K M H vs ds->Dts K M H (vs.set i v) (ds.set i d)
 | _,_,_,.nil=>.nil
 | _,_,0,.cons _ t=>.cons h t
 | _,_,i + 1,.cons q t=>.cons q (Dts.set h i t)
theorem Dts.ints:∀ (ns:List Int),Dts K M H (ns.map V.int) (ns.map PyData.int)
 | []=>.nil
 | n :: ns=>.cons (.int n) (Dts.ints ns)
theorem Y7:∀ {vs:List V} {ns:List Int},Dts K M H vs (ns.map PyData.int)->vs = ns.map V.int
 | vs,[],h=>by
  rw [List.map_nil] at h;cases h;rfl
 | vs,n :: ns,h=>by
  rw [List.map_cons] at h;cases h with
  | cons h1 h2=>
   cases h1;rw [Y7 h2,List.map_cons]
mutual
inductive Mx (K:Fk) (M:Mp) (H:Hp):V->List DV->Prop
 | mk {a:Addr} {vs:List V} {xs:List DV}:M a = none->H a = some (.tup vs)->Mxs K M H vs xs->Mx K M H (.ref a) xs
inductive Mxs (K:Fk) (M:Mp) (H:Hp):List V->List DV->Prop
 | nil:Mxs K M H [] []
 | dat {v:V} {d:PyData} {vs:List V} {xs:List DV}:Dt K M H v d->Mxs K M H vs xs->Mxs K M H (v :: vs) (.dat d :: xs)
 | own {b:Addr} {vs:List V} {xs:List DV}:Mxs K M H vs xs->Mxs K M H (.ref b :: vs) (.own b :: xs)
 | mix {v:V} {ys:List DV} {vs:List V} {xs:List DV}:Mx K M H v ys->Mxs K M H vs xs->Mxs K M H (v :: vs) (.mix ys :: xs)
end
mutual
theorem Mx.step (st:Step M H M' H'):∀ {v:V} {xs:List DV},Mx K M H v xs->Mx K M' H' v xs
 | _,_,.mk h1 h2 h3=>.mk (st.free _ _ h1 h2) (st.keep _ _ h1 h2) (Mxs.step st h3)
theorem Mxs.step (st:Step M H M' H'):∀ {vs:List V} {xs:List DV},Mxs K M H vs xs->Mxs K M' H' vs xs
 | _,_,.nil=>.nil
 | _,_,.dat h1 h2=>.dat (Dt.step st h1) (Mxs.step st h2)
 | _,_,.own h2=>.own (Mxs.step st h2)
 | _,_,.mix h1 h2=>.mix (Mx.step st h1) (Mxs.step st h2)
end
def VR0 (K:Fk) (M:Mp) (H:Hp) (v:V):DV->Prop
 | .dat d=>Dt K M H v d
 | .own b=>v = .ref b
 | .ty _=>False
 | .mix xs=>Mx K M H v xs
theorem VR0.step {x:DV} (h:VR0 K M H v x) (st:Step M H M' H'):VR0 K M' H' v x:=by
 cases x with
 | dat d=>exact Dt.step st h
 | own b=>exact h
 | ty n=>exact h
 | mix xs=>exact Mx.step st h
def OOk (K:Fk) (M:Mp) (H:Hp) (a:Addr):OO->Prop
 | .lst ds=>∃ vs,H a = some (.lst vs) /\ Dts K M H vs ds
 | .dct ks=>∃ kvs,H a = some (.dT kvs) /\ kvs.map (·.1) = ks
 | .dtv ps=>∃ kvs,H a = some (.dT kvs) /\ kvs.map (·.1) = ps.map (·.1) /\ Dts K M H (kvs.map (·.2)) (ps.map (·.2))
 | .dkv ps=>∃ kvs,H a = some (.dK kvs) /\ kvs.map (·.1) = ps.map (·.1) /\ Dts K M H (kvs.map (·.2)) (ps.map (·.2))
 | .dko ps=>∃ kvs,H a = some (.dK kvs) /\ Paired (λ (p:Key × V) (q:Key × DV)=>p.1 = q.1 /\ VR0 K M H p.2 q.2) kvs ps
 | .fdk o ps=>∃ kvs,H a = some (.frz o (.dK kvs)) /\ kvs.map (·.1) = ps.map (·.1) /\ Dts K M H (kvs.map (·.2)) (ps.map (·.2))
 | .lsv _ xs=>∃ vs,H a = some (.lst vs) /\ Paired (VR0 K M H) vs xs
 | .ext φ=>H a = some (.ext φ)
 | .gst N₀ H₀=>(∃ vs,H a = some (.lst vs) /\ H₀ a = some (.lst vs)) /\ ∀ b o,N₀ b->H₀ b = some o->H b = some o /\ M b = none
 | .fdc o ks=>∃ kvs,H a = some (.frz o (.dT kvs)) /\ kvs.map (·.1) = ks
 | .fdt o ps=>∃ kvs,H a = some (.frz o (.dT kvs)) /\ kvs.map (·.1) = ps.map (·.1) /\ Dts K M H (kvs.map (·.2)) (ps.map (·.2))
 | .tab φ=>(∃ ps,H a = some (.tbl ps) /\ φ K a ps (λ b=>M b = none) H) /\ ∀ ps (N N':Addr->Prop) H H',φ K a ps N H->(∀ b o,N b->H b = some o->N' b /\ H' b = some o)->φ K a ps N' H'
theorem OOk.step {o:OO} (h:OOk K M H a o) (st:Step M H M' H') (e:∀ u,H a = some u->H' a = some u):OOk K M' H' a o:=by
 cases o with
 | lst ds=>obtain ⟨vs,e1,e2⟩:=h; exact ⟨vs,e _ e1,e2.step st⟩
 | dct ks=>obtain ⟨vs,e1,e2⟩:=h; exact ⟨vs,e _ e1,e2⟩
 | dtv ps=>obtain ⟨vs,e1,e2,e3⟩:=h; exact ⟨vs,e _ e1,e2,e3.step st⟩
 | dkv ps=>obtain ⟨vs,e1,e2,e3⟩:=h; exact ⟨vs,e _ e1,e2,e3.step st⟩
 | dko ps=>obtain ⟨vs,e1,e2⟩:=h; exact ⟨vs,e _ e1,Paired.Zgw e2 λ _ _ z=>⟨z.1,z.2.step st⟩⟩
 | fdk o ps=>obtain ⟨vs,e1,e2,e3⟩:=h; exact ⟨vs,e _ e1,e2,e3.step st⟩
 | lsv n xs=>obtain ⟨vs,e1,e2⟩:=h; exact ⟨vs,e _ e1,Paired.Zgw e2 λ _ _ z=>z.step st⟩
 | ext φ=>exact e _ h
 | gst N₀ H₀=>obtain ⟨⟨u,e1,e2⟩,k⟩:=h; exact ⟨⟨u,e _ e1,e2⟩,λ b o n q=>⟨st.keep b o (k b o n q).2 (k b o n q).1,st.free b o (k b o n q).2 (k b o n q).1⟩⟩
 | fdc o ks=>obtain ⟨vs,e1,e2⟩:=h; exact ⟨vs,e _ e1,e2⟩
 | fdt o ps=>obtain ⟨vs,e1,e2,e3⟩:=h; exact ⟨vs,e _ e1,e2,e3.step st⟩
 | tab φ=>obtain ⟨⟨ps,e1,e2⟩,e3⟩:=h; exact ⟨⟨ps,e _ e1,e3 _ _ _ _ _ e2 λ b o n q=>⟨st.free b o n q,st.keep b o n q⟩⟩,e3⟩
theorem OOk.some {o:OO} (h:OOk K M H a o):∃ u,H a = some u:=by
 cases o with
 | lst ds=>obtain ⟨vs,e1,_⟩:=h; exact ⟨_,e1⟩
 | dct ks=>obtain ⟨vs,e1,_⟩:=h; exact ⟨_,e1⟩
 | dtv ps=>obtain ⟨vs,e1,_⟩:=h; exact ⟨_,e1⟩
 | dkv ps=>obtain ⟨vs,e1,_⟩:=h; exact ⟨_,e1⟩
 | dko ps=>obtain ⟨vs,e1,_⟩:=h; exact ⟨_,e1⟩
 | fdk o ps=>obtain ⟨vs,e1,_⟩:=h; exact ⟨_,e1⟩
 | lsv n xs=>obtain ⟨vs,e1,_⟩:=h; exact ⟨_,e1⟩
 | ext φ=>exact ⟨_,h⟩
 | gst N₀ H₀=>obtain ⟨⟨u,e1,_⟩,_⟩:=h; exact ⟨_,e1⟩
 | fdc o ks=>obtain ⟨vs,e1,_⟩:=h; exact ⟨_,e1⟩
 | fdt o ps=>obtain ⟨vs,e1,_⟩:=h; exact ⟨_,e1⟩
 | tab φ=>obtain ⟨⟨ps,e1,_⟩,_⟩:=h; exact ⟨_,e1⟩
structure ZV (K:Fk) (M:Mp) (H:Hp):Prop where
 ok:∀ a o,M a = some o->OOk K M H a o
theorem ZV.ls (r:ZV K M H) (a:Addr) (ds:List PyData) (h:M a = some (.lst ds)):∃ vs,H a = some (.lst vs) /\ Dts K M H vs ds:=r.ok a _ h
theorem ZV.tracked (r:ZV K M H) (h:H a = none):M a = none:=by
 cases q:M a with
 | none=>rfl
 | some o=>
  obtain ⟨u,e⟩:=(r.ok a o q).some;rw [h] at e;cases e
theorem Step.new {o:HO} (h:H p = none):Step M H M (upd H p o):=
 ⟨λ b u _ e=>by rw [Zv (ZO e h)]; exact e,λ _ _ h _=>h⟩
theorem ZV.step_same (r:ZV K M H) (st:Step M H M H') (hk:∀ a u,M a ≠ none->H a = some u->H' a = some u):ZV K M H':=
 ⟨λ a o e=>(r.ok a o e).step st λ u hu=>hk a u (by rw [e]; simp) hu⟩
theorem ZV.new (r:ZV K M H) {o:HO} (h:H p = none):ZV K M (upd H p o):=
 r.step_same (Step.new h) λ a vs _ e=>by rw [Zv (ZO e h)]; exact e
theorem Step.QW {o:HO} {q:OO} (h:H p = none):Step M H (ZR M p q) (upd H p o):=
 ⟨λ b u _ e=>by rw [Zv (ZO e h)]; exact e,λ b u hm e=>by rw [ZF (ZO e h)]; exact hm⟩
theorem Step.Zal {o:HO} {q q':OO} (h:M p = some q):Step M H (ZR M p q') (upd H p o):=by
 have ne:∀ b,M b = none->b ≠ p:=λ b hb e=>by rw [e,h] at hb; cases hb
 exact ⟨λ b u hb e=>by rw [Zv (ne b hb)]; exact e,λ b u hb e=>by rw [ZF (ne b hb)]; exact hb⟩
theorem ZV.WY (r:ZV K M H) {u:HO} {o:OO} (st:Step M H (ZR M p o) (upd H p u)) (h:OOk K (ZR M p o) (upd H p u) p o):ZV K (ZR M p o) (upd H p u):=by
 refine ⟨λ a q e=>?_⟩
 by_cases ha:a = p
 ·subst ha;rw [ZK] at e;cases e;exact h
 ·rw [ZF ha] at e;exact (r.ok a q e).step st λ v hv=>by rw [Zv ha]; exact hv
theorem ZV.Wg (r:ZV K M H) (st:Step M H (ZR M p (.lst ds)) (upd H p (.lst vs))) (hv:Dts K M H vs ds) :
  ZV K (ZR M p (.lst ds)) (upd H p (.lst vs)):=r.WY st ⟨vs,Zz,hv.step st⟩
theorem Step.frz:Step M H (YI M p) H:=
 ⟨λ _ _ _ h=>h,λ b o hb _=>by unfold YI; split <;> first | rfl | exact hb⟩
theorem ZV.frz (r:ZV K M H):ZV K (YI M p) H:=by
 refine ⟨λ a o e=>?_⟩;have hne:a ≠ p:=λ z=>by rw [z,YQ] at e; cases e
 rw [Xh hne] at e;exact (r.ok a o e).step Step.frz λ _ h=>h
def QA (K:Fk) (M:Mp) (H:Hp) (v:V):DV->Prop
 | .dat d=>Dt K M H v d
 | .own a=>v = .ref a
 | .ty n=>v = .ty n
 | .mix xs=>Mx K M H v xs
theorem QA.step {x:DV} (h:QA K M H v x) (st:Step M H M' H'):QA K M' H' v x:=by
 cases x with
 | dat d=>exact Dt.step st h
 | own a=>exact h
 | ty n=>exact h
 | mix xs=>exact Mx.step st h
abbrev Yf (K:Fk) (M:Mp) (H:Hp):List V->List DV->Prop:=Paired (QA K M H)
theorem Yf.step {xs:List DV} (h:Yf K M H vs xs) (st:Step M H M' H'):Yf K M' H' vs xs:=Paired.Zgw h λ _ _ q=>QA.step q st
theorem Yf.ZiE:∀ {vs:List V} {ds:List PyData},Yf K M H vs (ds.map DV.dat)->Dts K M H vs ds
 | vs,[],h=>by rw [List.map_nil] at h; cases h; exact .nil
 | vs,d :: ds,h=>by
  rw [List.map_cons] at h;cases h with
  | cons h1 h2=>exact .cons h1 (Yf.ZiE h2)
def onV (o:Option (Option DV)) (P:DV->Prop):Prop:=match o with | some (some x)=>P x | _=>False
theorem Zba {o:Option (Option DV)} {P:DV->Prop} (h:onV o P):∃ x,o = some (some x) /\ P x:=by
 unfold onV at h
 split at h
 ·exact ⟨_,rfl,h⟩
 ·exact h.elim
def onI (x:DV) (P:Int->Prop):Prop:=match x with | .dat (.int i)=>P i | _=>False
theorem ZX {x:DV} {P:Int->Prop} (h:onI x P):∃ i,x = .dat (.int i) /\ P i:=by
 unfold onI at h
 split at h
 ·exact ⟨_,rfl,h⟩
 ·exact h.elim
def onB (x:DV) (P:Bool->Prop):Prop:=match x with | .dat (.bool i)=>P i | _=>False
theorem Uj {x:DV} {P:Bool->Prop} (h:onB x P):∃ i,x = .dat (.bool i) /\ P i:=by
 unfold onB at h
 split at h
 ·exact ⟨_,rfl,h⟩
 ·exact h.elim
def onS (x:DV) (P:Str->Prop):Prop:=match x with | .dat (.str i)=>P i | _=>False
theorem ZI {x:DV} {P:Str->Prop} (h:onS x P):∃ i,x = .dat (.str i) /\ P i:=by
 unfold onS at h
 split at h
 ·exact ⟨_,rfl,h⟩
 ·exact h.elim
def onT (x:DV) (P:List PyData->Prop):Prop:=match x with | .dat (.tuple i)=>P i | _=>False
theorem Ku {x:DV} {P:List PyData->Prop} (h:onT x P):∃ i,x = .dat (.tuple i) /\ P i:=by
 unfold onT at h
 split at h
 ·exact ⟨_,rfl,h⟩
 ·exact h.elim
def onL (x:DV) (P:List PyData->Prop):Prop:=match x with | .dat (.list i)=>P i | _=>False
theorem Ou {x:DV} {P:List PyData->Prop} (h:onL x P):∃ i,x = .dat (.list i) /\ P i:=by
 unfold onL at h
 split at h
 ·exact ⟨_,rfl,h⟩
 ·exact h.elim
def onD (x:DV) (P:PyData->Prop):Prop:=match x with | .dat i=>P i | _=>False
theorem ZY {x:DV} {P:PyData->Prop} (h:onD x P):∃ i,x = .dat i /\ P i:=by
 unfold onD at h
 split at h
 ·exact ⟨_,rfl,h⟩
 ·exact h.elim
def onO (x:DV) (P:Addr->Prop):Prop:=match x with | .own i=>P i | _=>False
theorem Qw {x:DV} {P:Addr->Prop} (h:onO x P):∃ i,x = .own i /\ P i:=by
 unfold onO at h
 split at h
 ·exact ⟨_,rfl,h⟩
 ·exact h.elim
def Va (o:Option OO) (P:List PyData->Prop):Prop:=match o with | some (.lst ds)=>P ds | _=>False
theorem Yu (ds:List PyData) (P:List PyData->Prop):Va (some (.lst ds)) P = P ds:=rfl
theorem JE {o:Option OO} {P:List PyData->Prop} (h:Va o P):∃ ds,o = some (.lst ds) /\ P ds:=by
 unfold Va at h
 split at h
 ·exact ⟨_,rfl,h⟩
 ·exact h.elim
def ZcD (o:Option OO) (P:List (List Key)->Prop):Prop:=match o with | some (.dct ks)=>P ks | _=>False
def onQ (x:DV) (M:Mp) (P:List PyData->Prop):Prop:=match x with | .dat (.tuple ds)=>P ds | .dat (.list ds)=>P ds | .own l=>Va (M l) P | _=>False
theorem Ox {x:DV} {M:Mp} {P:List PyData->Prop} (h:onQ x M P):∃ ds,(x = .dat (.tuple ds) \/ x = .dat (.list ds) \/ ∃ l,x = .own l /\ M l = some (.lst ds)) /\ P ds:=by
 unfold onQ at h
 split at h
 ·exact ⟨_,.inl rfl,h⟩
 ·exact ⟨_,.inr (.inl rfl),h⟩
 ·replace h:=JE h;obtain ⟨ds,e,h⟩:=h;exact ⟨ds,.inr (.inr ⟨_,rfl,e⟩),h⟩
 ·exact h.elim
def onK (x:DV) (M:Mp) (P:List PyData->Prop):Prop:=match x with | .dat (.list ds)=>P ds | .own l=>Va (M l) P | _=>False
theorem YT {x:DV} {M:Mp} {P:List PyData->Prop} (h:onK x M P):∃ ds,(x = .dat (.list ds) \/ ∃ l,x = .own l /\ M l = some (.lst ds)) /\ P ds:=by
 unfold onK at h
 split at h
 ·exact ⟨_,.inl rfl,h⟩
 ·replace h:=JE h;obtain ⟨ds,e,h⟩:=h;exact ⟨ds,.inr ⟨_,rfl,e⟩,h⟩
 ·exact h.elim
def on1 (xs:List DV) (P:DV->Prop):Prop:=match xs with | [x]=>P x | _=>False
theorem Zp {xs:List DV} {P:DV->Prop} (h:on1 xs P):∃ x,xs = [x] /\ P x:=by
 unfold on1 at h
 split at h
 ·exact ⟨_,rfl,h⟩
 ·exact h.elim
def on2 (xs:List DV) (P:DV->DV->Prop):Prop:=match xs with | [x,y]=>P x y | _=>False
theorem Qk {xs:List DV} {P:DV->DV->Prop} (h:on2 xs P):∃ x y,xs = [x,y] /\ P x y:=by
 unfold on2 at h
 split at h
 ·exact ⟨_,_,rfl,h⟩
 ·exact h.elim
def on3 (xs:List DV) (P:DV->DV->DV->Prop):Prop:=match xs with | [x,y,z]=>P x y z | _=>False
theorem YL {xs:List DV} {P:DV->DV->DV->Prop} (h:on3 xs P):∃ x y z,xs = [x,y,z] /\ P x y z:=by
 unfold on3 at h
 split at h
 ·exact ⟨_,_,_,rfl,h⟩
 ·exact h.elim
def on4 (xs:List DV) (P:DV->DV->DV->DV->Prop):Prop:=match xs with | [x0,x1,x2,x3]=>P x0 x1 x2 x3 | _=>False
def on5 (xs:List DV) (P:DV->DV->DV->DV->DV->Prop):Prop:=match xs with | [x0,x1,x2,x3,x4]=>P x0 x1 x2 x3 x4 | _=>False
def on6 (xs:List DV) (P:DV->DV->DV->DV->DV->DV->Prop):Prop:=match xs with | [x0,x1,x2,x3,x4,x5]=>P x0 x1 x2 x3 x4 x5 | _=>False
noncomputable def T3:List DV->Option (List PyData)
 | []=>some []
 | .dat d :: r=>match T3 r with | some ds=>some (d :: ds) | none=>none
 | _ :: _=>none
theorem Fl:∀ {xs:List DV} {ds:List PyData},T3 xs = some ds->xs = ds.map DV.dat
 | [],_,h=>by cases h; rfl
 | .dat d :: r,ds,h=>by
  rw [T3] at h
  split at h
  ·rename_i es e;cases h;rw [List.map_cons,<- Fl e]
  ·cases h
 | .own _ :: _,_,h=>by cases h
 | .ty _ :: _,_,h=>by cases h
 | .mix _ :: _,_,h=>by cases h
def KJ (xs:List DV) (P:List PyData->Prop):Prop:=match Nat.ble xs.length 100 with
 | true=>(match T3 xs with | some ds=>P ds | none=>False)
 | false=>False
theorem Dl {xs:List DV} {P:List PyData->Prop} (h:KJ xs P):∃ ds,xs = ds.map DV.dat /\ ds.length <= 100 /\ P ds:=by
 unfold KJ at h
 split at h
 ·rename_i e
  split at h
  ·rename_i ds e2;have e3:=Fl e2;refine ⟨ds,e3,?_,h⟩;have e4:=Nat.le_of_ble_eq_true e
   rwa [e3,List.length_map] at e4
  ·exact h.elim
 ·exact h.elim
abbrev DSt:=List (Option DV)
structure Jw (K:Fk) (M:Mp) (H:Hp) (Z:L2.St) (Δ:DSt):Prop where
 len:Z.length = Δ.length
 at':∀ (i:Nat) (x:DV),Δ[i]? = some (some x)->∃ v,Z[i]? = some (some v) /\ QA K M H v x
theorem Jw.step {Z:L2.St} {Δ:DSt} (h:Jw K M H Z Δ) (st:Step M H M' H'):Jw K M' H' Z Δ:=
 ⟨h.len,λ i x e=>let ⟨v,e1,e2⟩:=h.at' i x e; ⟨v,e1,e2.step st⟩⟩
theorem Jw.set {Z:L2.St} {Δ:DSt} {i:Nat} {x:DV} (h:Jw K M H Z Δ) (r:QA K M H v x):Jw K M H (Z.set i (some v)) (Δ.set i (some x)):=by
 refine ⟨by rw [List.length_set,List.length_set,h.len],λ j y e=>?_⟩
 by_cases hj:i = j
 ·subst hj
  by_cases hl:i < Δ.length
  ·rw [List.getElem?_set_self hl] at e;cases e;exact ⟨v,List.getElem?_set_self (by rw [h.len]; exact hl),r⟩
  ·rw [List.getElem?_eq_none (by rw [List.length_set]; lia)] at e;cases e
 ·rw [List.getElem?_set_ne hj] at e;rw [List.getElem?_set_ne hj];exact h.at' j y e
noncomputable def Yk (N:List Str) (xs:List DV):DSt:=xs.map some ++ List.replicate (N.length - xs.length) none
theorem Paired.ZjJ {α β:Type} {F:α->β->Prop}:∀ {l:List α} {m:List β} {i:Nat} {b:β},Paired F l m->m[i]? = some b->∃ a,l[i]? = some a /\ F a b
 | _,_,_,_,.nil,e=>by simp at e
 | _,_,0,_,.cons h _,e=>by simp at e; subst e; exact ⟨_,rfl,h⟩
 | _,_,i + 1,b,.cons _ h,e=>by
  obtain ⟨a,h1,h2⟩:=Paired.ZjJ (i:=i) (b:=b) h (by simpa using e);exact ⟨a,by simpa using h1,h2⟩
theorem Jw.start {xs:List DV} (h:Yf K M H vs xs):Jw K M H (start N vs) (Yk N xs):=by
 have hl:vs.length = xs.length:=Paired.length h;refine ⟨by unfold L2.start Yk; simp [hl],λ i x e=>?_⟩;unfold Yk at e;unfold L2.start
 by_cases hi:i < xs.length
 ·rw [List.getElem?_append_left (by simpa using hi),List.getElem?_map] at e;cases q:xs[i]? with
  | none=>rw [q] at e; cases e
  | some y=>
   rw [q] at e;cases e;obtain ⟨v,h1,h2⟩:=Paired.ZjJ h q;exact ⟨v,by rw [List.getElem?_append_left (by simpa [hl] using hi),List.getElem?_map,h1]; rfl,h2⟩
 ·rw [List.getElem?_append_right (by simpa using hi),List.getElem?_replicate] at e
  split at e <;> cases e
end
abbrev DK:=DV->Mp->Prop
abbrev DTE:=DSt->Mp->DK->Prop
abbrev DTT:=DSt->Mp->(Bool->Mp->Prop)->Prop
abbrev DTA:=DSt->Mp->(List DV->Mp->Prop)->Prop
structure QF where
 nx:DSt->Mp->Prop
 rt:DK
 bk:DSt->Mp->Prop:=λ _ _=>False
 ct:DSt->Mp->Prop:=λ _ _=>False
abbrev DTS:=QF->DSt->Mp->Prop
def Rch (K:Fk) (M:Mp) (H:Hp) (Φ:DK) (Q:VK):Prop:=∀ v H' x M',ZV K M' H'->Step M H M' H'->QA K M' H' v x->Φ x M'->Q v H'
theorem Rch.step {K:Fk} {M M':Mp} {Φ:DK} {Q:VK} (h:Rch K M H Φ Q) (st:Step M H M' H'):Rch K M' H' Φ Q:=λ v H2 x M2 r s2 q f=>h v H2 x M2 r (st.trans s2) q f
theorem Rch.dat {K:Fk} {M M':Mp} {Φ:DK} {Q:VK} (h:Rch K M H Φ Q) (r:ZV K M' H') (st:Step M H M' H') (hd:Dt K M' H' v d) (f:Φ (.dat d) M'):Q v H':=h v H' (.dat d) M' r st hd f
def DE (X:Cx) (e:Expr) (τ:DTE):Prop:=∃ t,PE X e t /\ ∀ Z H Δ M Φ Q,ZV X.K M H->Jw X.K M H Z Δ->τ Δ M Φ->Rch X.K M H Φ Q->t Z H Q
def DT (X:Cx) (e:Expr) (τ:DTT):Prop:=∃ t,PT X e t /\ ∀ Z H Δ M Φ (Q:Bool->Hp->Prop),ZV X.K M H->Jw X.K M H Z Δ->τ Δ M Φ ->
 (∀ b H' M',ZV X.K M' H'->Step M H M' H'->Φ b M'->Q b H')->t Z H Q
def DW (X:Cx) (e:Expr) (τ:DTT):Prop:=∃ t,PW X e t /\ ∀ Z H Δ M Φ (Q:Bool->Hp->Prop),ZV X.K M H->Jw X.K M H Z Δ->τ Δ M Φ ->
 (∀ b H' M',ZV X.K M' H'->Step M H M' H'->Φ b M'->Q b H')->t Z H Q
def DA (X:Cx) (es:List Expr) (τ:DTA):Prop:=∃ t,PA X es t /\ ∀ Z H Δ M Φ (Q:List V->Hp->Prop),ZV X.K M H->Jw X.K M H Z Δ->τ Δ M Φ ->
 (∀ vs H' xs M',ZV X.K M' H'->Step M H M' H'->Yf X.K M' H' vs xs->Φ xs M'->Q vs H')->t Z H Q
structure K5 (K:Fk) (M:Mp) (H:Hp) (D:QF) (E:Ends):Prop where
 nx:∀ σ' H' Δ' M',ZV K M' H'->Step M H M' H'->Jw K M' H' σ' Δ'->D.nx Δ' M'->E.nx σ' H'
 rt:Rch K M H D.rt E.rt
 bk:∀ σ' H' Δ' M',ZV K M' H'->Step M H M' H'->Jw K M' H' σ' Δ'->D.bk Δ' M'->E.bk σ' H'
 ct:∀ σ' H' Δ' M',ZV K M' H'->Step M H M' H'->Jw K M' H' σ' Δ'->D.ct Δ' M'->E.ct σ' H'
theorem K5.step {K:Fk} {M M':Mp} {D:QF} {E:Ends} (h:K5 K M H D E) (st:Step M H M' H'):K5 K M' H' D E:=
 ⟨λ a b c d r s=>h.nx a b c d r (st.trans s),h.rt.step st,λ a b c d r s=>h.bk a b c d r (st.trans s),λ a b c d r s=>h.ct a b c d r (st.trans s)⟩
def DS (X:Cx) (st:Stmt) (τ:DTS):Prop:=∃ t,PS X st t /\ ∀ Z H Δ M D E,ZV X.K M H->Jw X.K M H Z Δ->τ D Δ M->K5 X.K M H D E->t E Z H
def DSs (X:Cx) (st:List Stmt) (τ:DTS):Prop:=∃ t,PSs X st t /\ ∀ Z H Δ M D E,ZV X.K M H->Jw X.K M H Z Δ->τ D Δ M->K5 X.K M H D E->t E Z H
section
variable {a b c:Expr} {ta tb tc:DTE}
def Zjr (i:Nat):DTE:=λ Δ M Φ=>onV Δ[i]? λ x=>Φ x M
def dC (d:PyData):DTE:=λ _ M Φ=>Φ (.dat d) M
theorem Zb (i:Nat) {pos:Pos} (hN:autoParam (X.N[i]? = some x) zz3._auto_1) (hv:autoParam (Vis X.env.scope x) zz5._auto_1) (hd:autoParam ((x == ("__debug__" : Str)) = false) zz1._auto_1)
  (hcd:autoParam ((x == ("__classdict__" : Str)) = false) zz1._auto_1):DE X (.Name x pos) (Zjr i):=by
 refine ⟨_,Ft hN hv hd hcd,λ Z H Δ M Φ Q r e h k=>?_⟩;replace h:=Zba h;obtain ⟨x,e1,h⟩:=h;obtain ⟨v,e2,q⟩:=e.at' i x e1;exact ⟨v,e2,k v H x M r Step.refl q h⟩
theorem YZ (h:PE X e (tC v)) (q:∀ M H,Dt X.K M H v d):DE X e (dC d):=
 ⟨_,h,λ _ H _ M _ _ r _ h k=>k v H (.dat d) M r Step.refl (q M H) h⟩
theorem Zc {i j pos}:DE X (.Constant (.int i) j pos) (dC (.int i)):=YZ Zfa λ _ _=>.int i
theorem UZ {b j pos}:DE X (.Constant (.bool b) j pos) (dC (.bool b)):=YZ ZiJ λ _ _=>.bl b
theorem Qb {j pos}:DE X (.Constant .none j pos) (dC .none):=YZ Zh0 λ _ _=>.non
theorem Zg {x j pos}:DE X (.Constant (.str x) j pos) (dC (.str x)):=YZ Za5 λ _ _=>.str x
theorem V8 {t:Tok} (hg:Gl X x) (hm:X.mg x = some (.int i t)) (hd:autoParam ((x == ("__debug__" : Str)) = false) zz1._auto_1):DE X (.Name x pos) (dC (.int i)):=
 YZ (DU (v:=.int i) hg hm ⟨t,rfl⟩ hd) λ _ _=>.int i
def dTy (n:String):DTE:=λ _ M Φ=>Φ (.ty n) M
theorem WH {n:String} (hg:Gl X x) (hm:X.mg x = none) (hv:bootBuiltins x = some (.type n)) (hn:autoParam (x ≠ "__name__") zz1._auto_1) (hdb:autoParam ((x == ("__debug__" : Str)) = false) zz1._auto_1):DE X (.Name x pos) (dTy n):=
 ⟨_,Zer (v:=.ty n) hg hm hv rfl hn hdb,λ _ H _ M _ _ r _ h k=>k (.ty n) H (.ty n) M r Step.refl rfl h⟩
end
end DL
open DL
variable {M M':Mp} {te to:DTE} {o:OO} {tc:DTT}
namespace DL
section
variable {K:Fk}
theorem QA.bool {b:Bool} (h:QA K M H v (.dat (.bool b))):v = .bl b:=by cases (show Dt K M H v (.bool b) from h); rfl
theorem QA.int (h:QA K M H v (.dat (.int i))):v = .int i:=by cases (show Dt K M H v (.int i) from h); rfl
theorem QA.str (h:QA K M H v (.dat (.str x))):v = .str x:=by cases (show Dt K M H v (.str x) from h); rfl
theorem QA.tup (h:QA K M H v (.dat (.tuple ds))):∃ a xs,v = .ref a /\ TupAt K M H a xs /\ Dts K M H xs ds:=by
 cases (show Dt K M H v (.tuple ds) from h) with
 | tup h1 h2=>exact ⟨_,_,rfl,h1,h2⟩
theorem QA.lst (h:QA K M H v (.dat (.list ds))):∃ a xs,v = .ref a /\ LstAt K M H a xs /\ Dts K M H xs ds:=by
 cases (show Dt K M H v (.list ds) from h) with
 | lst h1 h2=>exact ⟨_,_,rfl,h1,h2⟩
theorem Dt.Ko (r:ZV K M H) (hp:H p = none) (h:Dts K M H xs ds):Dt K M (upd H p (.tup xs)) (.ref p) (.tuple ds):=
 .tup (.inl ⟨r.tracked hp,.inl Zz⟩) (h.step (Step.new hp))
theorem Dt.KY (r:ZV K M H) (hp:H p = none) (h:Dts K M H xs ds):Dt K M (upd H p (.lst xs)) (.ref p) (.list ds):=
 .lst (.inl ⟨r.tracked hp,.inl Zz⟩) (h.step (Step.new hp))
end
def Snd (K:Fk) (t:TE) (τ:DTE):Prop:=∀ Z H Δ M Φ Q,ZV K M H->Jw K M H Z Δ->τ Δ M Φ->Rch K M H Φ Q->t Z H Q
theorem Snd.bin {K:Fk} {ta tb:TE} {τa τb:DTE} (qa:Snd K ta τa) (qb:Snd K tb τb) {Z:L2.St} {Δ:DSt} {S:DV->DV->Mp->Prop} {R:V->V->Hp->Prop} (r:ZV K M H) (e:Jw K M H Z Δ)
  (h:τa Δ M λ x M1=>τb Δ M1 λ y M2=>S x y M2)
  (k:∀ v u H2 x y M2,ZV K M2 H2->Step M H M2 H2->QA K M2 H2 v x->QA K M2 H2 u y->S x y M2->R v u H2):ta Z H λ v H1=>tb Z H1 λ u H2=>R v u H2:=
 qa Z H Δ M _ _ r e h λ v H1 x M1 r1 st rv hx=>qb Z H1 Δ M1 _ _ r1 (e.step st) hx λ u H2 y M2 r2 st2 ru hy=>k v u H2 x y M2 r2 (st.trans st2) (rv.step st2) ru hy
abbrev D2:=DV->DV->Mp->DK->Prop
def OpD (X:Cx) (f:Value->Value->Sem Value) (δ:D2):Prop:=∃ r:R2,OpR X f r /\ ∀ v u H x y M Φ Q,ZV X.K M H->QA X.K M H v x->QA X.K M H u y->δ x y M Φ->Rch X.K M H Φ Q->r v u H Q
def dOp (δ:D2) (ta tb:DTE):DTE:=λ Δ M Φ=>ta Δ M λ x M1=>tb Δ M1 λ y M2=>δ x y M2 Φ
section
variable {a b c:Expr} {ta tb tc:DTE} {op op':CmpOp} {δ δ':D2}
theorem Snd.opn {ta' tb':TE} {r:R2} (ha:Snd X.K ta' ta) (hb:Snd X.K tb' tb) (q:∀ v u H x y M Φ Q,ZV X.K M H->QA X.K M H v x->QA X.K M H u y->δ x y M Φ->Rch X.K M H Φ Q->r v u H Q):Snd X.K (tOp r ta' tb') (dOp δ ta tb):=
 λ _ _ _ _ _ _ dr e h k=>Snd.bin ha hb dr e h λ v u H2 x y M2 r2 st rv ru hs=>q v u H2 x y M2 _ _ r2 rv ru hs (k.step st)
theorem Zl {bop:Operator} (ho:OpD X (binaryOp bop) δ) (ha:DE X a ta) (hb:DE X b tb):DE X (.BinOp a bop b pos) (dOp δ ta tb):=by
 obtain ⟨ta',pa,qa⟩:=ha;obtain ⟨tb',pb,qb⟩:=hb;obtain ⟨r,hr,q⟩:=ho;exact ⟨_,Zjk hr pa pb,Snd.opn qa qb q⟩
theorem Jc (ho:OpD X (compareOp op) δ) (ha:DE X a ta) (hb:DE X b tb) (hm:autoParam (behindInMarks op b = false) zz6._auto_1):DE X (.Compare a [op] [b] pos) (dOp δ ta tb):=by
 obtain ⟨ta',pa,qa⟩:=ha;obtain ⟨tb',pb,qb⟩:=hb;obtain ⟨r,hr,q⟩:=ho;exact ⟨_,Zdp hr pa pb hm,Snd.opn qa qb q⟩
def dB (t:DTE):DTT:=λ Δ M Φ=>t Δ M λ x M1=>onB x λ c=>Φ c M1
theorem Snd.test {t:TE} {τ:DTE} (h:Snd X.K t τ) {Z:L2.St} {Δ:DSt} {Φ:Bool->Mp->Prop} {Q:Bool->Hp->Prop} (r:ZV X.K M H) (e:Jw X.K M H Z Δ) (hw:dB τ Δ M Φ)
  (k:∀ b H' M',ZV X.K M' H'->Step M H M' H'->Φ b M'->Q b H'):t Z H λ x H1=>∃ c,x = .bl c /\ Q c H1:=by
 refine h Z H Δ M _ _ r e hw λ v H1 x M1 r1 st rv hx=>?_;replace hx:=Uj hx;obtain ⟨c,rfl,hx⟩:=hx;exact ⟨c,rv.bool,k c H1 M1 r1 st hx⟩
theorem Zs (ho:OpD X (compareOp op) δ) (ha:DE X a ta) (hb:DE X b tb) (hm:autoParam (behindInMarks op b = false) zz6._auto_1):DT X (.Compare a [op] [b] pos) (dB (dOp δ ta tb)):=by
 obtain ⟨ta',pa,qa⟩:=ha;obtain ⟨tb',pb,qb⟩:=hb;obtain ⟨r,hr,q⟩:=ho;exact ⟨_,ZcE hr pa pb hm,λ _ _ _ _ _ _ dr e h k=>Snd.test (Snd.opn qa qb q) dr e h k⟩
theorem QX {τ:DTE} (h:DE X e τ) (he:autoParam (∀ whole,isTrue e X.env whole = (do let v <- whole; standAt e.pos; holding [v] (truthy v))) zz2._auto_1):DT X e (dB τ):=by
 obtain ⟨t,p,q⟩:=h;exact ⟨_,ZfG p he,λ _ _ _ _ _ _ dr e h k=>Snd.test q dr e h k⟩
def EG (δ δ':D2) (ta tb tc:DTE):DTE:=λ Δ M Φ=>ta Δ M λ x M1=>tb Δ M1 λ y M2=>δ x y M2 λ z M3=>onB z λ k=>(if k = true then tc Δ M3 λ w' M4=>δ' y w' M4 Φ else Φ (.dat (.bool false)) M3)
theorem Snd.chain {ta' tb' tc':TE} {r r':R2} (ha:Snd X.K ta' ta) (hb:Snd X.K tb' tb) (hc:Snd X.K tc' tc) (q:∀ v u H x y M Φ Q,ZV X.K M H->QA X.K M H v x->QA X.K M H u y->δ x y M Φ->Rch X.K M H Φ Q->r v u H Q)
  (q':∀ v u H x y M Φ Q,ZV X.K M H->QA X.K M H v x->QA X.K M H u y->δ' x y M Φ->Rch X.K M H Φ Q->r' v u H Q):Snd X.K (NP r r' ta' tb' tc') (EG δ δ' ta tb tc):=by
 intro Z H Δ M Φ Q dr e h k;refine Snd.bin ha hb dr e h λ v u H2 x y M2 r2 st rv ru hs=>?_;refine q v u H2 x y M2 _ _ r2 rv ru hs λ z H3 zd M3 r3 st3 rz hz=>?_;replace hz:=Uj hz;obtain ⟨kb,rfl,hz⟩:=hz;refine ⟨kb,rz.bool,?_⟩;cases kb with
 | true=>
  have hz':tc Δ M3 λ w' M4=>δ' y w' M4 Φ:=by simpa using hz
  rw [if_pos rfl];refine hc Z H3 Δ M3 _ _ r3 (e.step (st.trans st3)) hz' λ w' H4 wd M4 r4 st4 rw4 hw4=>?_;exact q' u w' H4 y wd M4 _ _ r4 (ru.step (st3.trans st4)) rw4 hw4 (k.step (st.trans (st3.trans st4)))
 | false=>
  have hz':Φ (.dat (.bool false)) M3:=by simpa using hz
  rw [if_neg Bool.false_ne_true];exact k.dat r3 (st.trans st3) (Dt.bl false) hz'
theorem Ye (ho:OpD X (compareOp op) δ) (ho':OpD X (compareOp op') δ') (ha:DE X a ta) (hb:DE X b tb) (hc:DE X c tc) (hm:autoParam (lastMarks [op,op'] [b,c] = false) zz4._auto_1) :
  DE X (.Compare a [op,op'] [b,c] pos) (EG δ δ' ta tb tc):=by
 obtain ⟨ta',pa,qa⟩:=ha;obtain ⟨tb',pb,qb⟩:=hb;obtain ⟨tc',pc,qc⟩:=hc;obtain ⟨r,hr,q⟩:=ho;obtain ⟨r',hr',q'⟩:=ho';exact ⟨_,RJ hr hr' pa pb pc hm,Snd.chain qa qb qc q q'⟩
theorem Fh (ho:OpD X (compareOp op) δ) (ho':OpD X (compareOp op') δ') (ha:DE X a ta) (hb:DE X b tb) (hc:DE X c tc) (hm:autoParam (lastMarks [op,op'] [b,c] = false) zz4._auto_1) :
  DT X (.Compare a [op,op'] [b,c] pos) (dB (EG δ δ' ta tb tc)):=by
 obtain ⟨ta',pa,qa⟩:=ha;obtain ⟨tb',pb,qb⟩:=hb;obtain ⟨tc',pc,qc⟩:=hc;obtain ⟨r,hr,q⟩:=ho;obtain ⟨r',hr',q'⟩:=ho';exact ⟨_,PZ hr hr' pa pb pc hm,λ _ _ _ _ _ _ dr e h k=>Snd.test (Snd.chain qa qb qc q q') dr e h k⟩
variable {tA tB':DTT} {rest:List Expr}
def Zkh (t u:DTT):DTT:=λ Δ M Φ=>t Δ M λ c M1=>if c = true then u Δ M1 Φ else Φ false M1
def dOr (t u:DTT):DTT:=λ Δ M Φ=>t Δ M λ c M1=>if c = true then Φ true M1 else u Δ M1 Φ
def Zkm (t:DTT):DTT:=λ Δ M Φ=>t Δ M λ c M1=>Φ (!c) M1
theorem DW.dt {τ:DTT} (h:DW X e τ):DT X e τ:=by
 obtain ⟨t,p,q⟩:=h;exact ⟨t,p.pt,q⟩
theorem J9 (ha:DT X a tA):DW X (.BoolOp .And [a] pos) tA:=by
 obtain ⟨t,p,q⟩:=ha;exact ⟨t,Zce p,q⟩
theorem Jn (ha:DT X a tA):DW X (.BoolOp .Or [a] pos) tA:=by
 obtain ⟨t,p,q⟩:=ha;exact ⟨t,ZfW p,q⟩
theorem Yi (ha:DT X a tA) (hb:DW X (.BoolOp .And (b :: rest) pos) tB'):DW X (.BoolOp .And (a :: b :: rest) pos) (Zkh tA tB'):=by
 obtain ⟨t,p,q⟩:=ha;obtain ⟨u,p2,q2⟩:=hb;refine ⟨_,Zf8 p p2,λ Z H Δ M Φ Q r e h k=>?_⟩;refine q Z H Δ M _ _ r e h λ c H1 M1 r1 st hc=>?_;cases c with
 | true=>rw [if_pos rfl]; exact q2 Z H1 Δ M1 Φ Q r1 (e.step st) (by simpa using hc) λ b H2 M2 r2 st2 hb=>k b H2 M2 r2 (st.trans st2) hb
 | false=>rw [if_neg Bool.false_ne_true]; exact k false H1 M1 r1 st (by simpa using hc)
theorem Ji (ha:DT X a tA) (hb:DW X (.BoolOp .Or (b :: rest) pos) tB'):DW X (.BoolOp .Or (a :: b :: rest) pos) (dOr tA tB'):=by
 obtain ⟨t,p,q⟩:=ha;obtain ⟨u,p2,q2⟩:=hb;refine ⟨_,Zi9 p p2,λ Z H Δ M Φ Q r e h k=>?_⟩;refine q Z H Δ M _ _ r e h λ c H1 M1 r1 st hc=>?_;cases c with
 | false=>rw [if_neg Bool.false_ne_true]; exact q2 Z H1 Δ M1 Φ Q r1 (e.step st) (by simpa using hc) λ b H2 M2 r2 st2 hb=>k b H2 M2 r2 (st.trans st2) hb
 | true=>rw [if_pos rfl]; exact k true H1 M1 r1 st (by simpa using hc)
theorem Jz (ha:DT X a tA):DT X (.UnaryOp .Not a pos) (Zkm tA):=by
 obtain ⟨t,p,q⟩:=ha;exact ⟨_,Zg2 p,λ Z H Δ M Φ Q r e h k=>q Z H Δ M _ _ r e h λ c H1 M1 r1 st hc=>k _ H1 M1 r1 st hc⟩
def Zfn (ta tb:DTE):DTE:=λ Δ M Φ=>ta Δ M λ x M1=>onB x λ c=>if c = true then tb Δ M1 Φ else Φ (.dat (.bool false)) M1
def Zkw (ta tb:DTE):DTE:=λ Δ M Φ=>ta Δ M λ x M1=>onB x λ c=>if c = true then Φ (.dat (.bool true)) M1 else tb Δ M1 Φ
def Zgv (ta:DTE):DTE:=λ Δ M Φ=>ta Δ M λ x M1=>onB x λ c=>Φ (.dat (.bool (!c))) M1
theorem QR {bop} (h:DE X a ta):DE X (.BoolOp bop [a] pos) ta:=by
 obtain ⟨t,p,q⟩:=h;exact ⟨t,Zfz p,q⟩
theorem Qs (ha:DE X a ta) (hb:DE X (.BoolOp .And (b :: rest) pos) tb):DE X (.BoolOp .And (a :: b :: rest) pos) (Zfn ta tb):=by
 obtain ⟨t,p,q⟩:=ha;obtain ⟨u,p2,q2⟩:=hb;refine ⟨_,Zg7 p p2,λ Z H Δ M Φ Q r e h k=>?_⟩;refine q Z H Δ M _ _ r e h λ v H1 x M1 r1 st rv hx=>?_;replace hx:=Uj hx;obtain ⟨c,rfl,hx⟩:=hx;refine ⟨c,rv.bool,?_⟩;cases c with
 | true=>rw [if_pos rfl]; exact q2 Z H1 Δ M1 Φ Q r1 (e.step st) (by simpa using hx) (k.step st)
 | false=>rw [if_neg Bool.false_ne_true]; exact k.dat r1 st (Dt.bl false) (by simpa using hx)
theorem ZjQ (ha:DE X a ta) (hb:DE X (.BoolOp .Or (b :: rest) pos) tb):DE X (.BoolOp .Or (a :: b :: rest) pos) (Zkw ta tb):=by
 obtain ⟨t,p,q⟩:=ha;obtain ⟨u,p2,q2⟩:=hb;refine ⟨_,Zjt p p2,λ Z H Δ M Φ Q r e h k=>?_⟩;refine q Z H Δ M _ _ r e h λ v H1 x M1 r1 st rv hx=>?_;replace hx:=Uj hx;obtain ⟨c,rfl,hx⟩:=hx;refine ⟨c,rv.bool,?_⟩;cases c with
 | false=>rw [if_neg Bool.false_ne_true]; exact q2 Z H1 Δ M1 Φ Q r1 (e.step st) (by simpa using hx) (k.step st)
 | true=>rw [if_pos rfl]; exact k.dat r1 st (Dt.bl true) (by simpa using hx)
theorem ZhC (ha:DE X a ta):DE X (.UnaryOp .Not a pos) (Zgv ta):=by
 obtain ⟨t,p,q⟩:=ha;refine ⟨_,Zf5 p,λ Z H Δ M Φ Q r e h k=>?_⟩;refine q Z H Δ M _ _ r e h λ v H1 x M1 r1 st rv hx=>?_;replace hx:=Uj hx;obtain ⟨c,rfl,hx⟩:=hx;exact ⟨c,rv.bool,k.dat r1 st (Dt.bl (!c)) hx⟩
def dIf (t:DTT) (ta tb:DTE):DTE:=λ Δ M Φ=>t Δ M λ c M1=>if c = true then ta Δ M1 Φ else tb Δ M1 Φ
theorem Zej (hc:DT X c tA) (ha:DE X a ta) (hb:DE X b tb):DE X (.IfExp c a b pos) (dIf tA ta tb):=by
 obtain ⟨t,p,q⟩:=hc;obtain ⟨u,p2,q2⟩:=ha;obtain ⟨w,p3,q3⟩:=hb;refine ⟨_,PX p p2 p3,λ Z H Δ M Φ Q r e h k=>?_⟩;refine q Z H Δ M _ _ r e h λ c H1 M1 r1 st hc=>?_;cases c with
 | true=>rw [if_pos rfl]; exact q2 Z H1 Δ M1 Φ Q r1 (e.step st) (by simpa using hc) (k.step st)
 | false=>rw [if_neg Bool.false_ne_true]; exact q3 Z H1 Δ M1 Φ Q r1 (e.step st) (by simpa using hc) (k.step st)
def Zkf (g:Int->Int) (ta:DTE):DTE:=λ Δ M Φ=>ta Δ M λ x M1=>onI x λ i=>Φ (.dat (.int (g i))) M1
theorem Fw (ha:DE X a ta):DE X (.UnaryOp .USub a pos) (Zkf (λ i=>-i) ta):=by
 obtain ⟨t,p,q⟩:=ha;refine ⟨_,Zjv Zf0 p,λ Z H Δ M Φ Q r e h k=>?_⟩;refine q Z H Δ M _ _ r e h λ v H1 x M1 r1 st rv hx=>?_;replace hx:=ZX hx;obtain ⟨i,rfl,hx⟩:=hx;exact ⟨i,rv.int,k.dat r1 st (Dt.int (-i)) hx⟩
def δI (C:Int->Int->Prop) (g:Int->Int->PyData):D2:=λ x y M Φ=>onI x λ i=>onI y λ j=>C i j /\ Φ (.dat (g i j)) M
def δI0 (g:Int->Int->PyData):D2:=λ x y M Φ=>onI x λ i=>onI y λ j=>Φ (.dat (g i j)) M
theorem ZfD {f:Value->Value->Sem Value} {C:Int->Int->Prop} {g:Int->Int->Int} (h:OpR X f (rI C λ i j=>.int (g i j))):OpD X f (δI C λ i j=>.int (g i j)):=
 ⟨_,h,λ v u H x y M Φ Q r rv ru h k=>by
  replace h:=ZX h;obtain ⟨i,e1,h⟩:=h;replace h:=ZX h;obtain ⟨j,e2,hc,q⟩:=h;subst e1 e2
  exact ⟨i,j,rv.int,ru.int,hc,k.dat r Step.refl (Dt.int _) q⟩⟩
theorem Zg4 {f:Value->Value->Sem Value} {g:Int->Int->Int} (h:OpR X f (rI0 λ i j=>.int (g i j))):OpD X f (δI0 λ i j=>.int (g i j)):=
 ⟨_,h,λ v u H x y M Φ Q r rv ru h k=>by
  replace h:=ZX h;obtain ⟨i,e1,h⟩:=h;replace h:=ZX h;obtain ⟨j,e2,q⟩:=h;subst e1 e2
  exact ⟨i,j,rv.int,ru.int,k.dat r Step.refl (Dt.int _) q⟩⟩
theorem RY {f:Value->Value->Sem Value} {g:Int->Int->Bool} (h:OpR X f (rI0 λ i j=>.bl (g i j))):OpD X f (δI0 λ i j=>.bool (g i j)):=
 ⟨_,h,λ v u H x y M Φ Q r rv ru h k=>by
  replace h:=ZX h;obtain ⟨i,e1,h⟩:=h;replace h:=ZX h;obtain ⟨j,e2,q⟩:=h;subst e1 e2
  exact ⟨i,j,rv.int,ru.int,k.dat r Step.refl (Dt.bl _) q⟩⟩
theorem ZJ:OpD X (binaryOp .Add) (δI0 λ i j=>.int (i + j)):=Zg4 Zgu
theorem Jp:OpD X (binaryOp .Sub) (δI0 λ i j=>.int (i - j)):=Zg4 Zgf
theorem Jo:OpD X (binaryOp .Mult) (δI Ziy λ i j=>.int (i * j)):=ZfD Ze3
theorem Dc:OpD X (binaryOp .FloorDiv) (δI ZkL λ i j=>.int (i / j)):=ZfD ZbS
theorem JS:OpD X (binaryOp .Mod) (δI (λ _ j=>0 < j) λ i j=>.int (i % j)):=ZfD Zhf
theorem JL:OpD X (binaryOp .Pow) (δI ZjD λ i j=>.int (i ^ j.toNat)):=ZfD ZgE
theorem Xj:OpD X (compareOp .Lt) (δI0 λ i j=>.bool (decide (i < j))):=RY Zi8
theorem Xs:OpD X (compareOp .LtE) (δI0 λ i j=>.bool (decide (i <= j))):=RY ZjN
theorem Wc:OpD X (compareOp .Gt) (δI0 λ i j=>.bool (decide (j < i))):=RY Zi3
theorem TZ:OpD X (compareOp .GtE) (δI0 λ i j=>.bool (decide (j <= i))):=RY ZiP
def δB (g:Bool->Bool->Bool):D2:=λ x y M Φ=>onB x λ c=>onB y λ d=>Φ (.dat (.bool (g c d))) M
def Zff:D2:=λ x y M Φ=>onT x λ ds=>onT y λ es=>ds ≠ [] /\ ds.length + es.length <= sizeLine /\ Φ (.dat (.tuple (ds ++ es))) M
theorem Sk:OpR X (binaryOp .Add) (λ x y H Q=>∃ l b xs zs,x = .ref l /\ y = .ref b /\ SqL X.K H l xs /\ SqL X.K H b zs /\ xs.length + zs.length <= sizeLine /\ ∀ p,H p = none->Q (.ref p) (upd H p (.lst (xs ++ zs)))):=by
 intro pins s Z H x y v u Q I rx ry h;obtain ⟨l,b,xs,zs,rfl,rfl,hl,hb,hz,q⟩:=h;cases rx;cases ry;obtain ⟨its,r1,p1,_⟩:=I.list hl;obtain ⟨its2,r2,p2,_⟩:=I.list hb;obtain ⟨⟨cls,dd,data,sl⟩,ho,hc,n,hd⟩:=p1.isList;obtain ⟨⟨cls2,dd2,data2,sl2⟩,ho2,hc2,n2,hd2⟩:=p2.isList;simp only at hc hd hc2 hd2;subst hc hd hc2 hd2;have e:its.toArray ++ its2.toArray = (its ++ its2).toArray:=by simp
 have hsz:its.toArray.size + its2.toArray.size <= sizeLine:=by rw [List.size_toArray,List.size_toArray,<- r1.length,<- r2.length]; exact hz
 refine concat_meets ⟨_,ho,rfl⟩ ⟨_,ho2,rfl⟩ noFill_list_add seq_list_add PySem.F.slot_list_add PySem.F.entry_list_add (PySem.F.args_list_add_2 _ _) (list_addW l b its.toArray its2.toArray n n2 dd dd2 sl sl2 hsz) ⟨ho,ho2,?_⟩;rw [e];exact ⟨.ref _,_,I.Zko (t':=s.toks) (r1.append r2) (by rw [List.length_append]; exact hz),rfl,q _ I.fresh⟩
def Zh8:D2:=λ x y M Φ=>onL x λ ds=>onL y λ es=>ds.length + es.length <= sizeLine /\ Φ (.dat (.list (ds ++ es))) M
def Zet:D2:=λ x y M Φ=>onL x λ ds=>onL y λ es=>ds.length + es.length <= sizeLine /\ ∀ p,M p = none->Φ (.own p) (ZR M p (.lst (ds ++ es)))
end
def ZkQ:DTA:=λ _ M Φ=>Φ [] M
def Zgn (ta:DTE) (tr:DTA):DTA:=λ Δ M Φ=>ta Δ M λ x M1=>tr Δ M1 λ xs M2=>Φ (x :: xs) M2
section
variable {t:DTA}
theorem Zd:DA X [] ZkQ:=⟨_,Yh,λ _ H _ M _ _ r _ h k=>k [] H [] M r Step.refl .nil h⟩
theorem Za (ha:DE X e te) (hr:DA X es t) (hs:autoParam (starEach (e :: es) X.env = (false,eval e X.env) :: starEach es X.env) zz3._auto_1):DA X (e :: es) (Zgn te t):=by
 obtain ⟨u,p,q⟩:=ha;obtain ⟨w,p2,q2⟩:=hr;refine ⟨_,JC p p2 hs,λ Z H Δ M Φ Q r e h k=>?_⟩;refine q Z H Δ M _ _ r e h λ v H1 x M1 r1 st rv hx=>?_;exact q2 Z H1 Δ M1 _ _ r1 (e.step st) hx λ vs H2 xs M2 r2 st2 rvs hxs=>k (v :: vs) H2 (x :: xs) M2 r2 (st.trans st2) (.cons (rv.step st2) rvs) hxs
def ZkG (t:DTA):DTE:=λ Δ M Φ=>t Δ M λ xs M1=>KJ xs λ ds=>Φ (.dat (.tuple ds)) M1
def Zke (t:DTA):DTE:=λ Δ M Φ=>t Δ M λ xs M1=>KJ xs λ ds=>Φ (.dat (.list ds)) M1
def Zf7 (t:DTA):DTE:=λ Δ M Φ=>t Δ M λ xs M1=>KJ xs λ ds=>∀ p,M1 p = none->Φ (.own p) (ZR M1 p (.lst ds))
theorem Qh {x1} (h:DA X es t):DE X (.Tuple es x1 pos) (ZkG t):=by
 obtain ⟨u,p,q⟩:=h;refine ⟨_,Zbm p,λ Z H Δ M Φ Q r e h k=>?_⟩;refine q Z H Δ M _ _ r e h λ vs H1 xs M1 r1 st rv hx=>?_;replace hx:=Dl hx;obtain ⟨ds,rfl,hz',hx⟩:=hx;have hz:ds.length <= sizeLine:=by rw [sizeLine_eq]; lia
 have hd:=rv.ZiE;refine ⟨by rw [hd.length]; exact hz,λ p hp=>?_⟩;exact k.dat (r1.new hp) (st.trans (Step.new hp)) (Dt.Ko r1 hp hd) hx
theorem Qa (h:DA X es t):DE X (.List es pos) (Zke t):=by
 obtain ⟨u,p,q⟩:=h;refine ⟨_,ZaJ p,λ Z H Δ M Φ Q r e h k=>?_⟩;refine q Z H Δ M _ _ r e h λ vs H1 xs M1 r1 st rv hx=>?_;replace hx:=Dl hx;obtain ⟨ds,rfl,hz',hx⟩:=hx;have hz:ds.length <= sizeLine:=by rw [sizeLine_eq]; lia
 have hd:=rv.ZiE;refine ⟨by rw [hd.length]; exact hz,λ p hp=>?_⟩;exact k.dat (r1.new hp) (st.trans (Step.new hp)) (Dt.KY r1 hp hd) hx
theorem KW (h:DA X es t):DE X (.List es pos) (Zf7 t):=by
 obtain ⟨u,p,q⟩:=h;refine ⟨_,ZaJ p,λ Z H Δ M Φ Q r e h k=>?_⟩;refine q Z H Δ M _ _ r e h λ vs H1 xs M1 r1 st rv hx=>?_;replace hx:=Dl hx;obtain ⟨ds,rfl,hz',hx⟩:=hx;have hz:ds.length <= sizeLine:=by rw [sizeLine_eq]; lia
 have hd:=rv.ZiE;refine ⟨by rw [hd.length]; exact hz,λ p hp=>?_⟩;exact k _ _ (.own p) _ (r1.Wg (Step.QW hp) hd) (st.trans (Step.QW hp)) rfl (hx p (r1.tracked hp))
def Zkl (t:DTE):DTE:=λ Δ M Φ=>t Δ M λ x M1=>onO x λ l=>Va (M1 l) λ ds=>Φ (.dat (.list ds)) (YI M1 l)
theorem OJ (h:DE X e te):DE X e (Zkl te):=by
 obtain ⟨u,p,q⟩:=h;refine ⟨u,p,λ Z H Δ M Φ Q r e h k=>?_⟩;refine q Z H Δ M _ _ r e h λ v H1 x M1 r1 st rv hx=>?_;replace hx:=Qw hx;obtain ⟨l,rfl,hx⟩:=hx;replace hx:=JE hx;obtain ⟨ds,hm,hx⟩:=hx;obtain ⟨vs,e1,e2⟩:=r1.ls l ds hm;cases (show v = .ref l from rv);exact k.dat r1.frz (st.trans Step.frz) (Dt.lst (.inl ⟨YQ,.inl e1⟩) (e2.step Step.frz)) hx
def Hj:List PyData->Nat->(PyData->Prop)->Prop
 | [],_,_=>False
 | d :: _,0,P=>P d
 | _ :: r,n + 1,P=>Hj r n P
def U8 (ds:List PyData) (i:Int) (P:PyData->Prop):Prop:=match i with
 | Int.ofNat n=>Hj ds n P
 | Int.negSucc n=>Hj ds.reverse n P
theorem GC:∀ {ds:List PyData} {n:Nat} {P:PyData->Prop},Hj ds n P->∃ d,ds[n]? = some d /\ P d
 | [],_,_,h=>h.elim
 | d :: _,0,_,h=>⟨d,rfl,h⟩
 | _ :: r,n + 1,_,h=>by
  obtain ⟨d,e,hp⟩:=GC (ds:=r) (n:=n) h;exact ⟨d,by rw [List.getElem?_cons_succ]; exact e,hp⟩
theorem U2:∀ {ds:List PyData} {n:Nat} {P:PyData->Prop} {d:PyData},ds[n]? = some d->P d->Hj ds n P
 | [],_,_,_,e,_=>by simp at e
 | d :: _,0,_,_,e,h=>by simp at e; subst e; exact h
 | _ :: r,n + 1,_,_,e,h=>U2 (ds:=r) (n:=n) (by rw [List.getElem?_cons_succ] at e; exact e) h
theorem Zcd {P:PyData->Prop} (h:U8 ds i P):∃ d,atI ds i = some d /\ P d:=by
 unfold U8 at h
 split at h
 ·rename_i n;replace h:=GC h;obtain ⟨d,e,hp⟩:=h;exact ⟨d,Qv e,hp⟩
 ·rename_i n;replace h:=GC h;obtain ⟨d,e,hp⟩:=h;refine ⟨d,?_,hp⟩;have hl:=(List.getElem?_eq_some_iff.mp e).1;rw [List.length_reverse] at hl;rw [List.getElem?_reverse hl] at e;unfold L2.atI ixN;have e1:¬ (0 <= Int.negSucc n):=by lia
  rw [if_neg e1];have e2:-(ds.length:Int) <= Int.negSucc n:=by lia
  rw [if_pos e2];have e3:(Int.negSucc n + (ds.length:Int)).toNat = ds.length - 1 - n:=by lia
  simp only [e3];exact e
theorem QJ {P:PyData->Prop} (e:atI ds i = some d) (h:P d):U8 ds i P:=by
 unfold L2.atI at e;cases i with
 | ofNat n=>
  have hh:ixN ds.length (Int.ofNat n) = if n < ds.length then some n else none:=by
   unfold ixN;rw [if_pos (show (0:Int) <= Int.ofNat n from Int.natCast_nonneg n)]
   by_cases hn:n < ds.length
   ·rw [if_pos hn,if_pos (show Int.ofNat n < _ by show ((n:Nat):Int) < _; lia)];rfl
   ·rw [if_neg hn,if_neg (show ¬ Int.ofNat n < _ by show ¬ ((n:Nat):Int) < _; lia)]
  rw [hh] at e
  split at e
  ·exact U2 (by exact e) h
  ·cases e
 | negSucc n=>
  unfold ixN at e;rw [if_neg (by lia)] at e
  by_cases hn:-(ds.length:Int) <= Int.negSucc n
  ·rw [if_pos hn] at e;have e3:(Int.negSucc n + (ds.length:Int)).toNat = ds.length - 1 - n:=by lia
   simp only [e3] at e;refine U2 (d:=d) ?_ h;rw [List.getElem?_reverse (by lia)];exact e
  ·rw [if_neg hn] at e;cases e
theorem Pa (l:List PyData) (a:PyData) (P:PyData->Prop):U8 (l ++ [a]) (-1) P = P a:=by
 show Hj (l ++ [a]).reverse 0 P = P a;rw [List.reverse_append];rfl
def δIx:D2:=λ x y M Φ=>onQ x M λ ds=>onI y λ i=>U8 ds i λ d=>Φ (.dat d) M
theorem Dts.atI {K:Fk} (h:Dts K M H vs ds) (e:L2.atI ds i = some d):∃ v,L2.atI vs i = some v /\ Dt K M H v d:=by
 unfold L2.atI at e ⊢;rw [h.length];cases q:ixN ds.length i with
 | none=>rw [q] at e; cases e
 | some j=>
  rw [q] at e;exact h.get e
theorem Zo {a b:Expr} {ta tb:DTE} (ha:DE X a ta) (hb:DE X b tb) (hs:autoParam (DZ b) zz7._auto_1):DE X (.Subscript a b pos) (dOp δIx ta tb):=by
 obtain ⟨ta',pa,qa⟩:=ha;obtain ⟨tb',pb,qb⟩:=hb;refine ⟨_,Ze9 ZgX pa pb hs,Snd.opn qa qb λ v u H x y M Φ Q r rv ru h k=>?_⟩;replace h:=Ox h;obtain ⟨ds,hx,h⟩:=h;replace h:=ZX h;obtain ⟨i,rfl,h⟩:=h;replace h:=Zcd h;obtain ⟨d,hd,q⟩:=h;cases ru.int
 rcases hx with rfl | rfl | ⟨l,rfl,hm⟩
 ·obtain ⟨p,xs,rfl,h1,h2⟩:=rv.tup;obtain ⟨w',e1,e2⟩:=h2.atI hd;exact .inr (.inl ⟨p,xs,i,w',rfl,rfl,h1.sq,e1,k.dat r Step.refl e2 q⟩)
 ·obtain ⟨p,xs,rfl,h1,h2⟩:=rv.lst;obtain ⟨w',e1,e2⟩:=h2.atI hd;exact .inl ⟨p,xs,i,w',rfl,rfl,h1.sq,e1,k.dat r Step.refl e2 q⟩
 ·cases (show v = .ref l from rv);obtain ⟨vs,g1,g2⟩:=r.ls l ds hm;obtain ⟨w',e1,e2⟩:=g2.atI hd;exact .inl ⟨l,vs,i,w',rfl,rfl,SqL.of g1,e1,k.dat r Step.refl e2 q⟩
end
abbrev D1:=List DV->Mp->DK->Prop
def VM (X:Cx) (f:Value) (δ:D1):Prop:=∃ r,JI X f r /\ ∀ vs H xs M Φ Q,ZV X.K M H->Yf X.K M H vs xs->δ xs M Φ->Rch X.K M H Φ Q->r vs H Q
def dCB (δ:D1) (t:DTA):DTE:=λ Δ M Φ=>t Δ M λ xs M1=>δ xs M1 Φ
section
variable {t:DTA} {p:Pos} {id:String} {δ:D1}
theorem Zk (hc:VM X (.builtin id) δ) (hg:Gl X x) (hm:X.mg x = none) (hv:bootBuiltins x = some (.builtin id)) (ha:DA X (e :: es) t) (hn:autoParam (x ≠ "__name__") zz1._auto_1) (hdb:autoParam ((x == ("__debug__" : Str)) = false) zz1._auto_1)
  (he:autoParam (starEach (e :: es) X.env = (false,eval e X.env) :: starEach es X.env) zz3._auto_1) (hpl:autoParam ((backTo pos (starEach es X.env)).any (·.1) = false) zz3._auto_1):DE X (.Call (.Name x p) (e :: es) [] pos) (dCB δ t):=by
 obtain ⟨u,p,q⟩:=ha;obtain ⟨r,hr,qr⟩:=hc;refine ⟨_,Ex hr hg hm hv p hn hdb he hpl,λ Z H Δ M Φ Q r e h k=>?_⟩;exact q Z H Δ M _ _ r e h λ vs H1 xs M1 r1 st rv hx=>qr vs H1 xs M1 _ _ r1 rv hx (k.step st)
theorem ZM (hc:VM X (.type id) δ) (hg:Gl X x) (hm:X.mg x = none) (hv:bootBuiltins x = some (.type id)) (ha:DA X (e :: es) t) (hn:autoParam (x ≠ "__name__") zz1._auto_1) (hdb:autoParam ((x == ("__debug__" : Str)) = false) zz1._auto_1)
  (he:autoParam (starEach (e :: es) X.env = (false,eval e X.env) :: starEach es X.env) zz3._auto_1) (hpl:autoParam ((backTo pos (starEach es X.env)).any (·.1) = false) zz3._auto_1):DE X (.Call (.Name x p) (e :: es) [] pos) (dCB δ t):=by
 obtain ⟨u,p,q⟩:=ha;obtain ⟨r,hr,qr⟩:=hc;refine ⟨_,Ly hr hg hm hv p hn hdb he hpl,λ Z H Δ M Φ Q r e h k=>?_⟩;exact q Z H Δ M _ _ r e h λ vs H1 xs M1 r1 st rv hx=>qr vs H1 xs M1 _ _ r1 rv hx (k.step st)
theorem Paired.one {α β:Type} {F:α->β->Prop} {l:List α} {b:β} (h:Paired F l [b]):∃ a,l = [a] /\ F a b:=by
 cases h with
 | cons h1 h2=>cases h2; exact ⟨_,rfl,h1⟩
theorem Paired.two {α β:Type} {F:α->β->Prop} {l:List α} {b c:β} (h:Paired F l [b,c]):∃ a a',l = [a,a'] /\ F a b /\ F a' c:=by
 cases h with
 | cons h1 h2=>
  obtain ⟨a,rfl,h3⟩:=Paired.one h2;exact ⟨_,a,rfl,h1,h3⟩
def ZgV:D1:=λ xs M Φ=>on1 xs λ x=>onQ x M λ ds=>Φ (.dat (.int ds.length)) M
theorem Z8:VM X (.builtin "len") ZgV:=by
 refine ⟨_,GY,λ vs H xs M Φ Q r rv h k=>?_⟩;replace h:=Zp h;obtain ⟨x,rfl,h⟩:=h;replace h:=Ox h;obtain ⟨ds,hx,q⟩:=h;have fin:Q (.int ds.length) H:=k.dat r Step.refl (Dt.int _) q
 rcases hx with rfl | rfl | ⟨l,rfl,hm⟩
 ·obtain ⟨v,rfl,h1⟩:=Paired.one rv;obtain ⟨p,ys,rfl,g1,g2⟩:=QA.tup h1;exact ⟨p,ys,rfl,.inr g1.sq,by rw [g2.length]; exact fin⟩
 ·obtain ⟨v,rfl,h1⟩:=Paired.one rv;obtain ⟨p,ys,rfl,g1,g2⟩:=QA.lst h1;exact ⟨p,ys,rfl,.inl g1.sq,by rw [g2.length]; exact fin⟩
 ·obtain ⟨v,rfl,h1⟩:=Paired.one rv;cases (show v = .ref l from h1);obtain ⟨ws,g1,g2⟩:=r.ls l ds hm;exact ⟨l,ws,rfl,.inl (SqL.of g1),by rw [g2.length]; exact fin⟩
def Zae:D1:=λ xs M Φ=>on1 xs λ x=>onS x λ z=>z.length <= sizeLine /\ Φ (.dat (.int z.length)) M
theorem YG:VM X (.builtin "len") Zae:=by
 refine ⟨_,G2,λ vs H xs M Φ Q r rv h k=>?_⟩;replace h:=Zp h;obtain ⟨x,rfl,h⟩:=h;replace h:=ZI h;obtain ⟨z,rfl,hz,q⟩:=h;obtain ⟨v,rfl,h1⟩:=Paired.one rv;exact ⟨z,by rw [QA.str h1],hz,k.dat r Step.refl (Dt.int _) q⟩
def Zbc:D1:=λ xs M Φ=>on1 xs λ x=>onI x λ i=>i.natAbs.log2 < 1920 /\ Φ (.dat (.str (toString i))) M
theorem Xe:VM X (.type "str") Zbc:=by
 refine ⟨_,BC,λ vs H xs M Φ Q r rv h k=>?_⟩;replace h:=Zp h;obtain ⟨x,rfl,h⟩:=h;replace h:=ZX h;obtain ⟨i,rfl,hz,q⟩:=h;obtain ⟨v,rfl,h1⟩:=Paired.one rv;exact ⟨i,by rw [QA.int h1],hz,k.dat r Step.refl (Dt.str _) q⟩
def Zgq:D1:=λ xs M Φ=>on1 xs λ x=>onI x λ i=>Φ (.dat (.int (if i < 0 then -i else i))) M
theorem EW:VM X (.builtin "abs") Zgq:=by
 refine ⟨_,Tp,λ vs H xs M Φ Q r rv h k=>?_⟩;replace h:=Zp h;obtain ⟨x,rfl,h⟩:=h;replace h:=ZX h;obtain ⟨i,rfl,q⟩:=h;obtain ⟨v,rfl,h1⟩:=Paired.one rv;exact ⟨i,by rw [QA.int h1],k.dat r Step.refl (Dt.int _) q⟩
def δ2I (g:Int->Int->Int):D1:=λ xs M Φ=>on2 xs λ x y=>onI x λ i=>onI y λ j=>Φ (.dat (.int (g i j))) M
theorem ZbI (hc:X.calm = true):VM X (.builtin "max") (δ2I λ i j=>max i j):=by
 refine ⟨_,MT hc,λ vs H xs M Φ Q r rv h k=>?_⟩;replace h:=Qk h;obtain ⟨x,y,rfl,h⟩:=h;replace h:=ZX h;obtain ⟨i,rfl,h⟩:=h;replace h:=ZX h;obtain ⟨j,rfl,q⟩:=h;obtain ⟨v,u,rfl,h1,h2⟩:=Paired.two rv;have e:(if j > i then j else i) = max i j:=by rw [Int.max_def]; split <;> split <;> lia
 exact ⟨i,j,by rw [QA.int h1,QA.int h2],by rw [e]; exact k.dat r Step.refl (Dt.int _) q⟩
def Rf:D1:=λ xs M Φ=>on1 xs λ x=>onQ x M λ ds=>Φ (.dat (.list ds)) M
end
mutual
noncomputable def Qj:PyData->Bool
 | .none | .bool _ | .int _ | .str _=>false
 | .list _=>true
 | .tuple xs=>ZT xs
 | .dict kvs=>Vn kvs
noncomputable def ZT:List PyData->Bool
 | []=>false
 | x :: xs=>Qj x || ZT xs
noncomputable def Vn:List (PyData × PyData)->Bool
 | []=>false
 | (k,v) :: r=>Qj k || Qj v || Vn r
end
theorem VF:∀ (ks ds:List PyData),ks.length = ds.length->Vn (ks.zip ds) = false->ZT ds = false
 | [],[],_,_=>by simp [ZT]
 | k :: ks,d :: ds,h,e=>by
  rw [List.zip_cons_cons,Vn] at e;have e':(Qj k = false /\ Qj d = false) /\ Vn (ks.zip ds) = false:=by simpa using e
  rw [ZT,e'.1.2,VF ks ds (by simpa using h) e'.2]; rfl
 | [],_ :: _,h,_=>by simp at h
 | _ :: _,[],h,_=>by simp at h
section
variable {Z:L2.St} {s:Shared}
theorem B5:∀ {es:List DictEntry} {kvs:List (Key × Value)},Pairs (QB P w) es kvs->ReadsAll h (es.map (·.key)) (kvs.map λ kv=>kD kv.1) []
 | _,_,.nil=>.nil
 | _,_,.cons (e:=e) (kv:=kv) h1 _ h3=>by
  rw [List.map_cons,List.map_cons];have hk:Reads h e.key (kD kv.1) []:=by
   rcases Qg (k:=kv.1) (v:=e.key) h1 with ⟨i,t,e1,e2⟩ | ⟨x,t,e1,e2⟩
   ·rw [e1,e2]; exact .int i t
   ·rw [e1,e2]; exact .str x t
  exact .cons (as:=[]) (bs:=[]) hk (B5 h3)
theorem Uh:∀ {es:List DictEntry} {kvs:List (Key × Value)},Pairs (QB P w) es kvs->es.map (·.val) = kvs.map (·.2)
 | _,_,.nil=>rfl
 | _,_,.cons h1 h2 h3=>by rw [List.map_cons,List.map_cons,h2,Uh h3]
theorem KV.vals {vs:List (Key × Value)} (r:KV kvs vs):Vals (kvs.map (·.2)) (vs.map (·.2)) /\ (kvs.map λ kv=>kD kv.1) = vs.map λ kv=>kD kv.1:=by
 unfold KV at r
 induction r with
 | nil=>exact ⟨.nil,rfl⟩
 | cons h _ ih=>exact ⟨.cons h.2 ih.1,by rw [List.map_cons,List.map_cons,h.1,ih.2]⟩
theorem Ov:∀ {ks:List Key} {us:List Value},Vals (ks.map kV) us->ReadsAll h us (ks.map kD) []
 | [],_,r=>by rw [List.map_nil] at r; cases r; exact .nil
 | k :: ks,_,r=>by
  rw [List.map_cons] at r;cases r with
  | cons r1 r2=>
   rw [List.map_cons];refine .cons (as:=[]) (bs:=[]) ?_ (Ov r2);cases k with
   | inl i=>obtain ⟨t,rfl⟩:=r1; exact .int i t
   | inr x=>obtain ⟨t,rfl⟩:=r1; exact .str x t
theorem KT.read (I:Inv X pins Z H s) {kvs:List (List Key × V)} {xs:List (List Key × Addr × Value)} (r:KT H kvs xs) :
  ReadsAll s.heap (xs.map λ x=>Value.ref x.2.1) (kvs.map λ kv=>PyData.tuple (kv.1.map kD)) [] /\ Vals (kvs.map (·.2)) (xs.map λ x=>x.2.2):=by
 induction r with
 | nil=>exact ⟨.nil,.nil⟩
 | @cons p q ps qs h _ ih=>
  obtain ⟨its,r,⟨o,ho,hc,n,hd⟩,_⟩:=I.tuple (SqT.of (K:=X.K) h.2.1);rw [List.map_cons,List.map_cons,List.map_cons,List.map_cons];exact ⟨.cons (as:=[]) (bs:=[]) (.tuple ho hc hd (by simpa using Ov r)) ih.1,.cons h.2.2 ih.2⟩
mutual
theorem Dt.reads (I:Inv X pins Z H s):∀ {v:V} {d:PyData},Dt X.K M H v d->∀ {u:Value},RelV v u->∃ as,Reads s.heap u d as /\ (Qj d = false->sysModules ∉ as)
 | _,_,.non,_,r=>by cases r; exact ⟨[],.none,λ _ h=>nomatch h⟩
 | _,_,.bl b,_,r=>by cases r; exact ⟨[],.bool b,λ _ h=>nomatch h⟩
 | _,_,.int i,_,r=>by obtain ⟨t,rfl⟩:=r; exact ⟨[],.int i t,λ _ h=>nomatch h⟩
 | _,_,.str x,_,r=>by obtain ⟨t,rfl⟩:=r; exact ⟨[],.str x t,λ _ h=>nomatch h⟩
 | _,_,.tup h1 h2,_,r=>by
  cases r;obtain ⟨its,rv,⟨o,ho,hc,n,hd⟩,_⟩:=I.tuple h1.sq;obtain ⟨as,ra,hs⟩:=Dts.reads I h2 rv;exact ⟨as,.tuple ho hc hd (by simpa using ra),λ h=>hs (by simpa [Qj] using h)⟩
 | _,_,.lst h1 h2,_,r=>by
  cases r;obtain ⟨its,rv,⟨o,n,ho,hc,_,hd⟩,_⟩:=I.list h1.sq;obtain ⟨as,ra,hs⟩:=Dts.reads I h2 rv;exact ⟨_,.list ho hc hd (by simpa using ra),λ h=>by simp [Qj] at h⟩
 | _,_,.dK (a:=a) (kvs:=kvs) (ds:=ds) h0 h1 h2,_,r=>by
  cases r;obtain ⟨_,hsys,vs,rel,o,es,ep,ho,hc,hd,_,hp,_⟩:=(show Qt X.prog X.w H s.heap a (.dK kvs) from I.hok a _ h1)
  obtain ⟨rv,hk⟩:=KV.vals rel;obtain ⟨bs,rb,hs⟩:=Dts.reads I h2 rv;have hl:(kvs.map λ kv=>kD kv.1).length = ds.length:=by rw [List.length_map,<- h2.length,List.length_map]
  refine ⟨a :: [] ++ bs,.dict (as:=[]) ho hc.1 hd ?_ ?_,λ h=>?_⟩
  ·rw [List.map_fst_zip (Nat.le_of_eq hl),hk];exact B5 hp
  ·rw [List.map_snd_zip (Nat.le_of_eq hl.symm),Uh hp];exact rb
  ·have h':ZT ds = false:=VF _ _ hl (by rw [Qj] at h; exact h);intro hm
   rcases List.mem_cons.mp hm with e | hm
   ·rw [<- e] at hsys;simp at hsys
   ·exact hs h' hm
 | _,_,.dT (a:=a) (kvs:=kvs) (ds:=ds) h0 h1 h2 _,_,r=>by
  cases r;obtain ⟨_,hsys,xs,rel,o,es,ep,ho,hc,hd,he,_⟩:=(show Qt X.prog X.w H s.heap a (.dT kvs) from I.hok a _ h1)
  obtain ⟨rk,rv⟩:=KT.read I rel;obtain ⟨bs,rb,hs⟩:=Dts.reads I h2 rv;have hl:(kvs.map λ kv=>PyData.tuple (kv.1.map kD)).length = ds.length:=by rw [List.length_map,<- h2.length,List.length_map]
  refine ⟨a :: [] ++ bs,.dict (as:=[]) ho hc.1 hd ?_ ?_,λ h=>?_⟩
  ·rw [List.map_fst_zip (Nat.le_of_eq hl),he,List.map_map];exact rk
  ·rw [List.map_snd_zip (Nat.le_of_eq hl.symm),he,List.map_map];exact rb
  ·have h':ZT ds = false:=VF _ _ hl (by rw [Qj] at h; exact h);intro hm
   rcases List.mem_cons.mp hm with e | hm
   ·rw [<- e] at hsys;simp at hsys
   ·exact hs h' hm
 | _,_,.dX (a:=a) (dk:=dk) (d:=d) h0 h1 hsys h3 h4 h5,_,r=>by
  cases r;obtain ⟨hφ,_⟩:=(show Qt X.prog X.w H s.heap a (.ext _) from I.hok a _ h1)
  obtain ⟨o,es,n,u,ho,hc,hd,ek,ev,ru⟩:=h3 s.heap hφ;obtain ⟨as,ra,ha⟩:=Dt.reads I h4 (u:=.ref _) rfl;obtain ⟨bs,rb,hb⟩:=Dt.reads I h5 ru;refine ⟨a :: (as ++ []) ++ (bs ++ []),.dict ho hc hd ?_ ?_,λ h=>?_⟩
  ·rw [ek]; exact .cons ra .nil
  ·rw [ev]; exact .cons rb .nil
  ·have h':Qj dk = false /\ Qj d = false:=by simpa [Qj,Vn] using h
   intro hm;rw [List.append_nil,List.append_nil,List.cons_append] at hm
   rcases List.mem_cons.mp hm with e | hm
   ·rw [<- e] at hsys;simp at hsys
   ·rcases List.mem_append.mp hm with hm | hm
    ·exact ha h'.1 hm
    ·exact hb h'.2 hm
theorem Dts.reads (I:Inv X pins Z H s):∀ {vs:List V} {ds:List PyData},Dts X.K M H vs ds->∀ {us:List Value},Vals vs us->∃ as,ReadsAll s.heap us ds as /\ (ZT ds = false->sysModules ∉ as)
 | _,_,.nil,_,r=>by cases r; exact ⟨[],.nil,λ _ h=>nomatch h⟩
 | _,_,.cons (d:=d) (ds:=ds) h1 h2,_,r=>by
  cases r with
  | cons r1 r2=>
   obtain ⟨as,ra,ha⟩:=Dt.reads I h1 r1;obtain ⟨bs,rb,hb⟩:=Dts.reads I h2 r2;refine ⟨as ++ bs,.cons ra rb,λ h hm=>?_⟩;have h':Qj d = false /\ ZT ds = false:=by simpa [ZT] using h
   rcases List.mem_append.mp hm with hm | hm
   ·exact ha h'.1 hm
   ·exact hb h'.2 hm
end
end
theorem UC (hg:X.A.guards = some []) (hu:X.A.units + 100 < cLine):JI X (.builtin "repr") (λ xs H Q=>∃ v d M,xs = [v] /\ Dt X.K M H v d /\ d.showable = true /\ (d.hasDict && Qj d) = false /\ d.depth <= 64 /\
  d.shown.length <= sizeLine /\ Q (.str d.shown) H):=by
 intro pins s Z H xs us Q I r h;obtain ⟨v,d,M,rfl,hd,hs,hm,hdp,hz,q⟩:=h;obtain ⟨u,rfl,ru⟩:=vals1 r;have ref:∀ a,u = .ref a->wpAny (model X.prog X.w) X.A (call (.builtin "repr") [u]) (EP X pins Z Q) X.xe s:=λ a e=>by
  obtain ⟨as,ra,hsm⟩:=hd.reads I ru;subst e;refine repr_of_reads' ra hs (λ hx=>hsm ?_) hg (by lia) (λ _ _ e=>e) (λ h' u tk k=>⟨.str d.shown,H,I.kept k,⟨_,rfl⟩,q⟩) hz;rw [hx,Bool.true_and] at hm;exact hm
 cases hd with
 | non=>cases ru; simp only [PyData.shown] at q; exact PySem.P.repr_of_none ⟨.str _,H,I.tok _,⟨_,rfl⟩,q⟩
 | bl b=>cases ru; simp only [PyData.shown] at q; exact PySem.P.repr_of_bool ⟨.str _,H,I.tok _,⟨_,rfl⟩,q⟩
 | int i=>obtain ⟨t,rfl⟩:=ru; simp only [PyData.shown] at q; exact PySem.P.repr_of_int (by simpa [PyData.showable] using hs) ⟨.str _,H,I.tok _,⟨_,rfl⟩,q⟩
 | str x=>obtain ⟨t,rfl⟩:=ru; simp only [PyData.shown] at q hz; exact PySem.P.repr_of_str ⟨.str _,H,I.tok _,⟨_,rfl⟩,q⟩ hz
 | tup _ _=>exact ref _ ru
 | lst _ _=>exact ref _ ru
 | dK _ _ _=>exact ref _ ru
 | dT _ _ _ _=>exact ref _ ru
 | dX _ _ _ _ _ _=>exact ref _ ru
structure Shw (d:PyData):Prop where
 s:d.showable = true
 m:(d.hasDict && Qj d) = false
 dp:d.depth <= 64
 z:d.shown.length <= sizeLine
def Zak:D1:=λ xs M Φ=>on1 xs λ x=>onD x λ d=>Shw d /\ Φ (.dat (.str d.shown)) M
theorem Zck {k:Nat} (hr:JT k X.A):VM X (.builtin "repr") Zak:=by
 refine ⟨_,UC hr.gd (by have:=hr.un; lia),λ vs H xs M Φ Q r rv h k=>?_⟩;replace h:=Zp h;obtain ⟨x,rfl,h⟩:=h;replace h:=ZY h;obtain ⟨d,rfl,hs,q⟩:=h;obtain ⟨v,rfl,h1⟩:=Paired.one rv;exact ⟨v,d,M,rfl,h1,hs.s,hs.m,hs.dp,hs.z,k.dat r Step.refl (Dt.str _) q⟩
noncomputable def tyN:PyData->String
 | .none => "NoneType"
 | .bool _ => "bool"
 | .int _ => "int"
 | .str _ => "str"
 | .list _ => "list"
 | .tuple _ => "tuple"
 | .dict _ => "dict"
theorem Oc:JI X (.builtin "isinstance") (λ xs H Q=>∃ v d M T b,xs = [v,.ty T] /\ Dt X.K M H v d /\ PySem.W.kitOne X.K (.type (tyN d)) (.type T) = some b /\ Q (.bl b) H):=by
 intro pins s Z H xs us Q I r h;obtain ⟨v,d,M,T,b,rfl,hd,e,q⟩:=h;obtain ⟨u,w',rfl,ru,rt⟩:=vals2 r;cases (show w' = Value.type T from rt);have fin:∀ tk,EP X pins Z Q (.bool b) { s with toks:=tk }:=λ tk=>⟨.bl b,H,I.tok tk,rfl,q⟩;cases hd with
 | non=>cases ru; exact PySem.W.kia_one PySem.W.kitx_none I.kIn True.intro e (λ z=>nomatch z) fin
 | bl y=>cases ru; exact PySem.W.kia_one PySem.W.kitx_bool I.kIn True.intro e (λ z=>nomatch z) fin
 | int i=>obtain ⟨t,rfl⟩:=ru; exact PySem.W.kia_one PySem.W.kitx_int I.kIn True.intro e (λ z=>nomatch z) fin
 | str y=>obtain ⟨t,rfl⟩:=ru; exact PySem.W.kia_one PySem.W.kitx_str I.kIn True.intro e (λ z=>nomatch z) fin
 | tup h1 _=>
  cases ru;obtain ⟨_,_,⟨o,ho,hc,_⟩,_⟩:=I.tuple h1.sq;exact PySem.W.kia_one PySem.W.kitx_tuple I.kIn ⟨o,ho,hc⟩ e (λ z=>nomatch z) fin
 | lst h1 _=>
  cases ru;obtain ⟨_,_,⟨o,n,ho,hc,_⟩,_⟩:=I.list h1.sq;exact PySem.W.kia_one PySem.W.kitx_list I.kIn ⟨o,ho,hc⟩ e (λ z=>nomatch z) fin
 | dK _ h1 _=>
  cases ru;obtain ⟨_,_,vs,_,p⟩:=(show Qt X.prog X.w H s.heap _ (.dK _) from I.hok _ _ h1)
  obtain ⟨o,es,ep,g1,g2,_⟩:=p;exact PySem.W.kia_one PySem.W.kitx_dict I.kIn ⟨o,g1,g2.1⟩ e (λ z=>nomatch z) fin
 | dT _ h1 _ _=>
  cases ru;obtain ⟨_,_,xs,_,o,es,ep,g1,g2,_⟩:=(show Qt X.prog X.w H s.heap _ (.dT _) from I.hok _ _ h1)
  exact PySem.W.kia_one PySem.W.kitx_dict I.kIn ⟨o,g1,g2.1⟩ e (λ z=>nomatch z) fin
 | dX _ h1 _ h3 _ _=>
  cases ru;obtain ⟨hφ,_⟩:=(show Qt X.prog X.w H s.heap _ (.ext _) from I.hok _ _ h1)
  obtain ⟨o,es,n,u,ho,hc,_⟩:=h3 s.heap hφ;exact PySem.W.kia_one PySem.W.kitx_dict I.kIn ⟨o,ho,hc⟩ e (λ z=>nomatch z) fin
noncomputable def ZW (T:String) (d:PyData):Bool:=tyN d == T || (T == "int" && tyN d == "bool")
theorem ZeD (K:Fk) (d:PyData):PySem.W.kitOne K (.type (tyN d)) (.type "int") = some (ZW "int" d):=by cases d <;> rfl
theorem TF (K:Fk) (d:PyData):PySem.W.kitOne K (.type (tyN d)) (.type "bool") = some (ZW "bool" d):=by cases d <;> rfl
theorem kit_tuple (K:Fk) (d:PyData):PySem.W.kitOne K (.type (tyN d)) (.type "tuple") = some (ZW "tuple" d):=by cases d <;> rfl
theorem Tu (K:Fk) (d:PyData):PySem.W.kitOne K (.type (tyN d)) (.type "list") = some (ZW "list" d):=by cases d <;> rfl
theorem OK (K:Fk) (d:PyData):PySem.W.kitOne K (.type (tyN d)) (.type "str") = some (ZW "str" d):=by cases d <;> rfl
def ZdM (T:String):D1:=λ xs M Φ=>match xs with | [.dat d,.ty t]=>t = T /\ Φ (.dat (.bool (ZW T d))) M | _=>False
theorem YW {T:String} (ht:∀ d,PySem.W.kitOne X.K (.type (tyN d)) (.type T) = some (ZW T d)):VM X (.builtin "isinstance") (ZdM T):=by
 refine ⟨_,Oc,λ vs H xs M Φ Q r rv h k=>?_⟩;replace h:∃ d,xs = [.dat d,.ty T] /\ Φ (.dat (.bool (ZW T d))) M:=by
  unfold ZdM at h
  split at h
  ·exact ⟨_,by rw [h.1],h.2⟩
  ·exact h.elim
 obtain ⟨d,rfl,q⟩:=h;obtain ⟨v,u,rfl,h1,h2⟩:=Paired.two rv;cases (show u = .ty T from h2);exact ⟨v,d,M,T,_,rfl,h1,ht d,k.dat r Step.refl (Dt.bl _) q⟩
theorem Zbe (hu:X.A.units + 64 < cLine):OpR X (compareOp .Eq) (λ x y H Q=>∃ M d e,Dt X.K M H x d /\ Dt X.K M H y e /\ d.canLay0 = true /\ e.canLay0 = true /\ min d.depth e.depth <= 64 /\ Q (.bl (PyData.eqv d e)) H):=by
 intro pins s Z H x y v u Q I rx ry h;obtain ⟨M,d,e,h1,h2,c1,c2,hdp,q⟩:=h;obtain ⟨as,ra,_⟩:=h1.reads I rx;obtain ⟨bs,rb,_⟩:=h2.reads I ry;exact PySem.SeqAt.compareEq_reads ra rb c1 c2 (by lia) ⟨.bl _,H,I,rfl,q⟩
theorem Zhm (hu:X.A.units + 64 < cLine):OpR X (compareOp .NotEq) (λ x y H Q=>∃ M d e,Dt X.K M H x d /\ Dt X.K M H y e /\ d.canLay0 = true /\ e.canLay0 = true /\ min d.depth e.depth <= 64 /\ Q (.bl (!PyData.eqv d e)) H):=by
 intro pins s Z H x y v u Q I rx ry h;obtain ⟨M,d,e,h1,h2,c1,c2,hdp,q⟩:=h;obtain ⟨as,ra,_⟩:=h1.reads I rx;obtain ⟨bs,rb,_⟩:=h2.reads I ry;exact PySem.SeqAt.compareNe_reads ra rb c1 c2 (by lia) ⟨.bl _,H,I,rfl,q⟩
noncomputable def Bg (d e:PyData):Bool:=d.canLay0 && e.canLay0 && Nat.ble (min d.depth e.depth) 64
def eqD:PyData->PyData->(Bool->Prop)->Prop
 | .int i,.int j,P=>P (decide (i = j))
 | .str s,.str t,P=>P (decide (s = t))
 | .bool a,.bool b,P=>P (a == b)
 | d,e,P=>Bg d e = true /\ P (PyData.eqv d e)
theorem Zbl {e:PyData} {P:Bool->Prop} (h:eqD d e P):(d.canLay0 = true /\ e.canLay0 = true /\ min d.depth e.depth <= 64 /\ P (PyData.eqv d e)) \/ ∃ s t,d = .str s /\ e = .str t /\ P (decide (s = t)):=by
 unfold eqD at h
 split at h
 ·refine .inl ⟨by simp [PyData.canLay0],by simp [PyData.canLay0],by simp [PyData.depth],?_⟩;simp only [PyData.eqv];rw [Bool.beq_eq_decide_eq];exact h
 ·exact .inr ⟨_,_,rfl,rfl,h⟩
 ·refine .inl ⟨by simp [PyData.canLay0],by simp [PyData.canLay0],by simp [PyData.depth],?_⟩;simp only [PyData.eqv];exact h
 ·have h1:=h.1;unfold Bg at h1;simp only [Bool.and_eq_true] at h1;exact .inl ⟨h1.1.1,h1.1.2,Nat.le_of_ble_eq_true h1.2,h.2⟩
theorem ZhG {f:Value->Value->Sem Value} {r1 r2:R2} (h1:OpR X f r1) (h2:OpR X f r2):OpR X f (λ x y H Q=>r1 x y H Q \/ r2 x y H Q):=
 λ pins s Z H x y v u Q I rx ry h=>h.elim (h1 pins s Z H x y v u Q I rx ry) (h2 pins s Z H x y v u Q I rx ry)
def δEq:D2:=λ x y M Φ=>onD x λ d=>onD y λ e=>eqD d e λ b=>Φ (.dat (.bool b)) M
def δNe:D2:=λ x y M Φ=>onD x λ d=>onD y λ e=>eqD d e λ b=>Φ (.dat (.bool (!b))) M
theorem Jh {k:Nat} (hr:JT k X.A):OpD X (compareOp .Eq) δEq:=
 ⟨_,ZhG (Zbe hr.units) Zjz,λ v u H x y M Φ Q r rv ru h k=>by
  obtain ⟨d,e1,h⟩:=ZY h;obtain ⟨e,e2,h⟩:=ZY h;subst e1 e2
  rcases Zbl h with ⟨c1,c2,hdp,q⟩ | ⟨s,t,rfl,rfl,q⟩
  ·exact .inl ⟨M,d,e,rv,ru,c1,c2,hdp,k.dat r Step.refl (Dt.bl _) q⟩
  ·have q':Q (.bl (decide (s = t))) H:=k.dat r Step.refl (Dt.bl _) q;refine .inr ⟨by rw [rv.str,ru.str]; rfl,?_⟩;rw [rv.str,ru.str,UL,Bool.beq_eq_decide_eq]
   exact q'⟩
theorem H0 {k:Nat} (hr:JT k X.A):OpD X (compareOp .NotEq) δNe:=
 ⟨_,ZhG (Zhm hr.units) ZiG,λ v u H x y M Φ Q r rv ru h k=>by
  obtain ⟨d,e1,h⟩:=ZY h;obtain ⟨e,e2,h⟩:=ZY h;subst e1 e2
  rcases Zbl h with ⟨c1,c2,hdp,q⟩ | ⟨s,t,rfl,rfl,q⟩
  ·exact .inl ⟨M,d,e,rv,ru,c1,c2,hdp,k.dat r Step.refl (Dt.bl _) q⟩
  ·have q':Q (.bl (!decide (s = t))) H:=k.dat r Step.refl (Dt.bl _) q;refine .inr ⟨by rw [rv.str,ru.str]; rfl,?_⟩;rw [rv.str,ru.str,UL,Bool.beq_eq_decide_eq]
   exact q'⟩
def Zjn:D2:=λ x y M Φ=>onS x λ s=>onS y λ t=>Φ (.dat (.bool (!decide (s = t)))) M
def Zja:D2:=λ x y M Φ=>onS x λ s=>onS y λ t=>Φ (.dat (.bool (decide (s = t)))) M
abbrev DTO:=DSt->Mp->(Option Int->Mp->Prop)->Prop
def DO (X:Cx) (e:Option Expr) (τ:DTO):Prop:=∃ t,PO X e t /\ ∀ Z H Δ M Φ (Q:Option Int->Hp->Prop),ZV X.K M H->Jw X.K M H Z Δ->τ Δ M Φ->(∀ o H' M',ZV X.K M' H'->Step M H M' H'->Φ o M'->Q o H')->t Z H Q
def NK:DTO:=λ _ M Φ=>Φ none M
def Ze6 (t:DTE):DTO:=λ Δ M Φ=>t Δ M λ x M1=>onI x λ i=>Φ (some i) M1
theorem Z1:DO X none NK:=⟨_,Zd0,λ _ H _ M _ _ r _ h k=>k none H M r Step.refl h⟩
theorem ZN (h:DE X e te):DO X (some e) (Ze6 te):=by
 obtain ⟨t,p,q⟩:=h;refine ⟨_,ZeB p,λ Z H Δ M Φ Q r e h k=>?_⟩;refine q Z H Δ M _ _ r e h λ v H1 x M1 r1 st rv hx=>?_;replace hx:=ZX hx;obtain ⟨i,rfl,hx⟩:=hx;exact ⟨i,rv.int,k _ H1 M1 r1 st hx⟩
noncomputable def cutD (xs:List PyData) (lo hi:Option Int):List PyData:=(xs.drop (HT.sIx xs.length 0 lo)).take (HT.sIx xs.length xs.length hi - HT.sIx xs.length 0 lo)
theorem Dts.cut {K:Fk} (h:Dts K M H vs ds) (lo hi:Option Int):Dts K M H (Zbv vs lo hi) (cutD ds lo hi):=by
 unfold Zbv cutD;rw [h.length];exact (h.drop _).take _
def ZkI (te:DTE) (tl th:DTO):DTE:=λ Δ M Φ=>te Δ M λ x M1=>tl Δ M1 λ l M2=>th Δ M2 λ u M3=>onT x λ ds=>¬ (HT.sIx ds.length 0 l = 0 /\ HT.sIx ds.length ds.length u = ds.length) /\ Φ (.dat (.tuple (cutD ds l u))) M3
theorem Nt {lo hi:Option Expr} {tl th:DTO} (he:DE X e te) (hl:DO X lo tl) (hu:DO X hi th):DE X (.Subscript e (.Slice lo hi none p2) pos) (ZkI te tl th):=by
 obtain ⟨t1,p1,q1⟩:=he;obtain ⟨t2,p2,q2⟩:=hl;obtain ⟨t3,p3,q3⟩:=hu;refine ⟨_,Kj ZgP p1 p2 p3,λ Z H Δ M Φ Q r e h k=>?_⟩;refine q1 Z H Δ M _ _ r e h λ v H1 x M1 r1 st rv hx=>?_;refine q2 Z H1 Δ M1 _ _ r1 (e.step st) hx λ l H2 M2 r2 st2 hl=>?_;refine q3 Z H2 Δ M2 _ _ r2 (e.step (st.trans st2)) hl λ u H3 M3 r3 st3 hu=>?_;replace hu:=Ku hu;obtain ⟨ds,rfl,hw,hu⟩:=hu;obtain ⟨a,xs,rfl,h1,h2⟩:=(rv.step (st2.trans st3)).tup;refine ⟨a,xs,rfl,h1.sq,by rw [h2.length]; exact hw,λ p hp=>?_⟩;exact k.dat (r3.new hp) ((st.trans (st2.trans st3)).trans (Step.new hp)) (Dt.Ko r3 hp (h2.cut l u)) hu
end DL
namespace DL
def ZgZ:DTS:=λ D Δ M=>D.nx Δ M
def Zin (t u:DTS):DTS:=λ D Δ M=>t { D with nx:=u D } Δ M
section
variable {rest:List Stmt} {t u:DTS}
theorem Zt:DSs X [] ZgZ:=⟨_,Zdu,λ Z H Δ M D E r e h k=>k.nx Z H Δ M r Step.refl e h⟩
theorem Ze (h1:DS X st t) (h2:DSs X rest u):DSs X (st :: rest) (Zin t u):=by
 obtain ⟨t1,p1,q1⟩:=h1;obtain ⟨t2,p2,q2⟩:=h2;refine ⟨_,R3 p1 p2,λ Z H Δ M D E r e h k=>?_⟩;refine q1 Z H Δ M { D with nx:=u D } { E with nx:=t2 E } r e h ⟨λ σ' H' Δ' M' r' st' e' hn=>?_,k.rt,k.bk,k.ct⟩;exact q2 σ' H' Δ' M' D E r' e' hn (k.step st')
theorem Zh (h1:DS X st t):DSs X [st] t:=by
 obtain ⟨t1,p1,q1⟩:=h1;exact ⟨_,Dv p1,q1⟩
def Zgh:DTS:=λ D Δ M=>D.bk Δ M
def ZjM:DTS:=λ D Δ M=>D.ct Δ M
def Zih (te:DTE):DTS:=λ D Δ M=>te Δ M λ _ M1=>D.nx Δ M1
theorem C4 (he:DE X e te) (hs:autoParam (swapsWith e none pos.line X.env = pure false) zz3._auto_1):DS X (.Expr e pos) (Zih te):=by
 obtain ⟨t,p,q⟩:=he;refine ⟨_,ZeO p hs,λ Z H Δ M D E r e h k=>?_⟩;exact q Z H Δ M _ _ r e h λ v H1 x M1 r1 st rv hx=>k.nx Z H1 Δ M1 r1 st (e.step st) hx
def ZkK (te:DTE):DTS:=λ D Δ M=>te Δ M D.rt
theorem Zn (he:DE X e te):DS X (.Return (some e) pos) (ZkK te):=by
 obtain ⟨t,p,q⟩:=he;exact ⟨_,ZgT p,λ Z H Δ M D E r e h k=>q Z H Δ M _ _ r e h k.rt⟩
def ZiY:DTS:=λ D _ M=>D.rt (.dat .none) M
def ZkE (c:DTT) (t u:DTS):DTS:=λ D Δ M=>c Δ M λ b M1=>if b = true then t D Δ M1 else u D Δ M1
theorem ZZ {c:Expr} {a b:List Stmt} (hc:DT X c tc) (ha:DSs X a t) (hb:DSs X b u):DS X (.If c a b pos) (ZkE tc t u):=by
 obtain ⟨t0,p0,q0⟩:=hc;obtain ⟨t1,p1,q1⟩:=ha;obtain ⟨t2,p2,q2⟩:=hb;refine ⟨_,Zjg p0 p1 p2,λ Z H Δ M D E r e h k=>?_⟩;refine q0 Z H Δ M _ _ r e h λ c H1 M1 r1 st hc=>?_;cases c with
 | true=>rw [if_pos rfl]; exact q1 Z H1 Δ M1 D E r1 (e.step st) (by simpa using hc) (k.step st)
 | false=>rw [if_neg Bool.false_ne_true]; exact q2 Z H1 Δ M1 D E r1 (e.step st) (by simpa using hc) (k.step st)
abbrev DTG:=DV->DSt->Mp->(DSt->Mp->Prop)->Prop
abbrev Tq:=List DV->DSt->Mp->(DSt->Mp->Prop)->Prop
def DG (X:Cx) (tg:Expr) (τ:DTG):Prop:=∃ t,PG X tg t /\ ∀ v Z H x Δ M Φ (Q:L2.St->Hp->Prop),ZV X.K M H->Jw X.K M H Z Δ->QA X.K M H v x->τ x Δ M Φ ->
 (∀ σ' H' Δ' M',ZV X.K M' H'->Step M H M' H'->Jw X.K M' H' σ' Δ'->Φ Δ' M'->Q σ' H')->t v Z H Q
def DGs (X:Cx) (ts:List Expr) (τ:Tq):Prop:=∃ t,PGs X ts t /\ ∀ vs Z H xs Δ M Φ (Q:L2.St->Hp->Prop),ZV X.K M H->Jw X.K M H Z Δ->Yf X.K M H vs xs->τ xs Δ M Φ ->
 (∀ σ' H' Δ' M',ZV X.K M' H'->Step M H M' H'->Jw X.K M' H' σ' Δ'->Φ Δ' M'->Q σ' H')->t vs Z H Q
def W9 (i:Nat):DTG:=λ x Δ M Φ=>Φ (Δ.set i (some x)) M
theorem ZA (i:Nat) (hN:X.N.Nodup) (hi:autoParam (X.N[i]? = some x) zz3._auto_1) (hx:autoParam (Loc X.env.scope x) zz8._auto_1) (hf:autoParam (X.fn x = true \/ X.env.scope.names.lookup x = some .local) zz0._auto_1) :
  DG X (.Name x pos) (W9 i):=
 ⟨_,NZ hN hi hx hf,λ v Z H x Δ M Φ Q r e rv h k=>k _ H _ M r Step.refl (e.set rv) h⟩
def Zgk:Tq:=λ xs Δ M Φ=>match xs with | []=>Φ Δ M | _=>False
def Zac (t:DTG) (u:Tq):Tq:=λ xs Δ M Φ=>match xs with | x :: r=>t x Δ M λ Δ' M'=>u r Δ' M' Φ | []=>False
theorem Wn:DGs X [] Zgk:=⟨_,ZdS,λ vs Z H xs Δ M Φ Q r e rv h k=>by
 cases xs with
 | cons x r=>exact h.elim
 | nil=>
 have h2:Φ Δ M:=h;cases rv
 exact ⟨rfl,k Z H Δ M r Step.refl e h2⟩⟩
theorem QP {t:DTG} {u:Tq} (h1:DG X e t) (h2:DGs X es u)
  (hs:autoParam ((assignEach (e :: es) X.env).map (·.2) = assign e X.env :: (assignEach es X.env).map (·.2)) zz3._auto_1):DGs X (e :: es) (Zac t u):=by
 obtain ⟨t1,p1,q1⟩:=h1;obtain ⟨t2,p2,q2⟩:=h2;refine ⟨_,T1 p1 p2 hs,λ vs Z H xs Δ M Φ Q r e rv h k=>?_⟩;obtain ⟨x,xr,e1,h⟩:∃ x xr,xs = x :: xr /\ t x Δ M λ Δ' M'=>u xr Δ' M' Φ:=by
  cases xs with
  | nil=>exact h.elim
  | cons x xr=>exact ⟨x,xr,rfl,h⟩
 subst e1;cases rv with
 | cons ra rr=>
  refine ⟨_,_,rfl,q1 _ Z H x Δ M _ _ r e ra h λ σ' H' Δ' M' r' st e' h'=>?_⟩;exact q2 _ σ' H' xr Δ' M' Φ Q r' e' (Yf.step rr st) h' λ σ2 H2 Δ2 M2 r2 st2 e2 hΦ=>k σ2 H2 Δ2 M2 r2 (st.trans st2) e2 hΦ
def Zb6:Nat->List PyData->(List DV->Prop)->Prop
 | 0,[],P=>P []
 | n + 1,d :: r,P=>Zb6 n r λ xs=>P (.dat d :: xs)
 | 0,_ :: _,_=>False
 | _ + 1,[],_=>False
theorem Mt:∀ {n:Nat} {ds:List PyData} {P:List DV->Prop},Zb6 n ds P->ds.length = n /\ P (ds.map DV.dat)
 | 0,[],_,h=>⟨rfl,h⟩
 | n + 1,d :: r,P,h=>by
  obtain ⟨a,b⟩:=Mt (n:=n) (ds:=r) h;exact ⟨by rw [List.length_cons,a],b⟩
 | 0,_ :: _,_,h=>h.elim
 | _ + 1,[],_,h=>h.elim
def Zib (n:Nat) (t:Tq):DTG:=λ x Δ M Φ=>onT x λ ds=>Zb6 n ds λ xs=>t xs Δ M Φ
theorem Dts.ZgS {K:Fk}:∀ {vs:List V} {ds:List PyData},Dts K M H vs ds->Yf K M H vs (ds.map DV.dat)
 | _,_,.nil=>.nil
 | _,_,.cons h1 h2=>.cons h1 (Dts.ZgS h2)
theorem BV {k:Nat} {t:Tq} (hc:X.calm = true) (h:DGs X es t) (hn:autoParam ((assignEach es X.env).length = n) zz3._auto_1) (hst:autoParam ((assignEach es X.env).findIdx? (·.1) = none) zz3._auto_1):DG X (.Tuple es k pos) (Zib n t):=by
 obtain ⟨t1,p1,q1⟩:=h;refine ⟨_,ZhS hc p1 hn hst,λ v Z H x Δ M Φ Q r e rv h k=>?_⟩;replace h:=Ku h;obtain ⟨ds,rfl,h⟩:=h;replace h:=Mt h;obtain ⟨hl,h⟩:=h;obtain ⟨a,xs,rfl,h1,h2⟩:=rv.tup;exact ⟨a,xs,rfl,h1.sq,by rw [h2.length]; exact hl,q1 xs Z H _ Δ M Φ Q r e h2.ZgS h k⟩
def Zf2 (to ti:DTE):DTG:=λ x Δ M Φ=>to Δ M λ o M1=>ti Δ M1 λ i M2=>onO o λ l=>onI i λ k=>onD x λ d=>Va (M2 l) λ ds=>∃ j,ixN ds.length k = some j /\ Φ Δ (ZR M2 l (.lst (ds.set j d)))
theorem Fd {o i:Expr} {ti:DTE} (ho:DE X o to) (hi:DE X i ti)
  (ha:∀ v,assign (.Subscript o i pos) X.env v = (do
   let ov <- holding [v] (eval o X.env)
   let iv <- holding [v,ov] (eval i X.env)
   standAt pos
   holding [v,ov,iv] (setItem ov iv v)
   release [v,ov,iv] []):=by intro _; rfl):DG X (.Subscript o i pos) (Zf2 to ti):=by
 obtain ⟨t1,p1,q1⟩:=ho;obtain ⟨t2,p2,q2⟩:=hi;refine ⟨_,ZeZ p1 p2 set_list ha,λ v Z H x Δ M Φ Q r e rv h k=>?_⟩;refine Snd.bin q1 q2 r e h λ w1 w2 H2 o' i' M2 r2 st ro ri hs=>?_;replace hs:=Qw hs;obtain ⟨l,rfl,hs⟩:=hs;replace hs:=ZX hs;obtain ⟨kk,rfl,hs⟩:=hs;replace hs:=ZY hs;obtain ⟨d,rfl,hs⟩:=hs;replace hs:=JE hs;obtain ⟨ds,hm,j,hj,hΦ⟩:=hs;obtain ⟨vs,g1,g2⟩:=r2.ls l ds hm;cases (show w1 = .ref l from ro);have rv2:Dt X.K M2 H2 v d:=Dt.step st rv;have st2:Step M2 H2 (ZR M2 l (.lst (ds.set j d))) (upd H2 l (.lst (vs.set j v))):=Step.Zal hm;refine ⟨l,vs,kk,j,rfl,ri.int,g1,by rw [g2.length]; exact hj,?_⟩;exact k Z _ Δ _ (r2.Wg st2 (g2.set rv2 j)) (st.trans st2) (e.step (st.trans st2)) hΦ
def ZeQ (te:DTE) (g:DTG):DTS:=λ D Δ M=>te Δ M λ x M1=>g x Δ M1 D.nx
theorem Wm {g:DTG} (he:DE X e te) (hg:DG X tg g) (hs:autoParam (swapsWithSole [tg] e pos.line X.env = pure false) zz3._auto_1) (hw:autoParam (swappedStores [tg] e X.env = pure none) zz3._auto_1)
  (h1:autoParam ((assignEach [tg] X.env).map (·.2) = [assign tg X.env]) zz3._auto_1):DS X (.Assign [tg] e pos) (ZeQ te g):=by
 obtain ⟨t1,p1,q1⟩:=he;obtain ⟨t2,p2,q2⟩:=hg;refine ⟨_,Zfq p1 p2 hs hw h1,λ Z H Δ M D E r e h k=>?_⟩;refine q1 Z H Δ M _ _ r e h λ v H1 x M1 r1 st rv hx=>?_;exact q2 v Z H1 x Δ M1 _ _ r1 (e.step st) rv hx λ σ' H' Δ' M' r' st' e' hn=>k.nx σ' H' Δ' M' r' (st.trans st') e' hn
theorem Zq (i:Nat) {pos':Pos} (hN:X.N.Nodup) (he:DE X e te) (hi:autoParam (X.N[i]? = some x) zz3._auto_1) (hx:autoParam (Loc X.env.scope x) zz8._auto_1) (hs:autoParam (swapsWith e (some (.Name x pos')) pos.line X.env = pure false) zz3._auto_1)
  (hf:autoParam (X.fn x = true \/ X.env.scope.names.lookup x = some .local) zz0._auto_1):DS X (.Assign [.Name x pos'] e pos) (ZeQ te (W9 i)):=by
 obtain ⟨t1,p1,q1⟩:=he;refine ⟨_,Zas hN hi hx p1 hs hf,λ Z H Δ M D E r e h k=>?_⟩;refine q1 Z H Δ M _ _ r e h λ v H1 x M1 r1 st rv hx=>?_;exact k.nx _ H1 _ M1 r1 st ((e.step st).set rv) hx
def OI (to te:DTE):DTE:=λ Δ M Φ=>to Δ M λ x M1=>onO x λ l=>Va (M1 l) λ _=>te Δ M1 λ y M2=>onD y λ d=>Va (M2 l) λ ds=>ds.length < sizeLine /\ Φ (.dat .none) (ZR M2 l (.lst (ds ++ [d])))
theorem KS {o:Expr} {apos cpos:Pos} (ho:DE X o to) (he:DE X e te) (hbase:autoParam (attributeBase o "append" X.env (eval o X.env) = eval o X.env) zz3._auto_1)
  (hfew:((backTo cpos (starEach [e] X.env)).all (λ x=>!x.1) && (backToKw cpos (keywordEach [] X.env)).all (λ x=>x.1.isSome)
   && decide ([e].length + ([]:List Keyword).length + (if ([]:List Keyword).isEmpty then 0 else 1) < 30)) = true:=by rfl)
  (hline:autoParam ((apos.endLine == cpos.line) = true) zz3._auto_1) (hs:autoParam (starEach [e] X.env = (false,eval e X.env) :: starEach [] X.env) zz3._auto_1) (hplain:autoParam ((backTo cpos (starEach [] X.env)).any (·.1) = false) zz3._auto_1) :
  DE X (.Call (.Attribute o "append" apos) [e] [] cpos) (OI to te):=by
 obtain ⟨t1,p1,q1⟩:=ho;obtain ⟨t2,p2,q2⟩:=he;refine ⟨_,Dz PySem.F.plainAttrs_list PySem.F.slot_list_append PySem.F.type_list_append Na p1 (JC p2 Yh hs) hbase hfew hline hs hplain,λ Z H Δ M Φ Q r e h k=>?_⟩;refine q1 Z H Δ M _ _ r e h λ v H1 x M1 r1 st rv hx=>?_;replace hx:=Qw hx;obtain ⟨l,rfl,hx⟩:=hx;replace hx:=JE hx;obtain ⟨oo,ho,hx⟩:=hx;cases (show v = .ref l from rv);have ty:tyV X.K "list" (.ref l) H1:=by
  obtain ⟨vs,g1,_⟩:=r1.ls l oo ho;exact .inl ⟨rfl,vs,SqL.of g1⟩
 refine ⟨ty,q2 Z H1 Δ M1 _ _ r1 (e.step st) hx λ w H2 y M2 r2 st2 rw2 hy=>?_⟩;replace hy:=ZY hy;obtain ⟨d,rfl,hy⟩:=hy;replace hy:=JE hy;obtain ⟨ds,hm,hz,hy⟩:=hy;obtain ⟨vs,g1,g2⟩:=r2.ls l ds hm;have st3:Step M2 H2 (ZR M2 l (.lst (ds ++ [d]))) (upd H2 l (.lst (vs ++ [w]))):=Step.Zal hm;refine ⟨l,vs,w,rfl,rfl,g1,by rw [g2.length]; exact hz,?_⟩;exact k.dat (r2.Wg st3 (g2.append (.cons rw2 .nil))) (st.trans (st2.trans st3)) Dt.non hy
end
section
variable {body:List Stmt} {g:DTG} {tb:DTS}
def Lq (g:DTG) (tb:DTS) (D:QF) (ds:List PyData) (Δ:DSt) (M:Mp):Prop:=
 ∃ J:Nat->DSt->Mp->Prop,J 0 Δ M /\ (∀ i d Δ M,ds[i]? = some d->J i Δ M->g (.dat d) Δ M λ Δ2 M2=>tb { D with nx:=J (i + 1),ct:=J (i + 1),bk:=D.nx } Δ2 M2) /\ ∀ Δ M,J ds.length Δ M->D.nx Δ M
def ZhW (te:DTE) (g:DTG) (tb:DTS):DTS:=λ D Δ M=>te Δ M λ x M1=>onL x λ ds=>Lq g tb D ds Δ M1
def ZjO (te:DTE) (g:DTG) (tb:DTS):DTS:=λ D Δ M=>te Δ M λ x M1=>onT x λ ds=>Lq g tb D ds Δ M1
theorem MH (he:DE X iter te) (hg:DG X tg g) (hb:DSs X body tb) (hp:PassesOwn (model X.prog X.w) X.A X.env X.xe) (hc:X.calm = true) (hs:autoParam (∀ x,foldedSetIterable iter X.env x = pure x) zz2._auto_1) :
  DS X (.For tg iter body [] pos) (ZhW te g tb):=by
 obtain ⟨t1,p1,q1⟩:=he;obtain ⟨t2,p2,q2⟩:=hg;obtain ⟨t3,p3,q3⟩:=hb;refine ⟨_,E6 hp hc (N1 p1) p2 p3 hs,λ Z H Δ M D E r e h k=>?_⟩;refine q1 Z H Δ M _ _ r e h λ v H1 x M1 r1 st rv hx=>?_;replace hx:=Ou hx;obtain ⟨ds,rfl,J,j0,jt,jd⟩:=hx;obtain ⟨a,xs,rfl,h1,h2⟩:=rv.lst
 refine ⟨a,rfl,⟨xs,h1.sq⟩,SH (xs:=xs) (λ i Z H=>∃ Δ M,ZV X.K M H /\ Step M1 H1 M H /\ Jw X.K M H Z Δ /\ J i Δ M) ⟨Δ,M1,r1,Step.refl,e.step st,j0⟩
  (λ i Z H _ ⟨Δ,M,_,st',_,_⟩=>(h1.step st').sq) (λ i y Z H hi ⟨Δ,M,r',st',e',j⟩=>?_) (λ Z H ⟨Δ,M,r',st',e',j⟩=>?_)⟩
 ·obtain ⟨d,hd,hy⟩:=h2.ZeT hi;refine q2 y Z H (.dat d) Δ M _ _ r' e' (Dt.step st' hy) (jt i d Δ M hd j) λ σ2 H2 Δ2 M2 r2 st2 e2 hb2=>?_;refine q3 σ2 H2 Δ2 M2 _ _ r2 e2 hb2 ?_;have s12:Step M1 H1 M2 H2:=st'.trans st2
  exact ⟨λ σ' H' Δ' M' a b c d=>⟨Δ',M',a,s12.trans b,c,d⟩,k.rt.step (st.trans s12),λ σ' H' Δ' M' a b c d=>k.nx σ' H' Δ' M' a ((st.trans s12).trans b) c d,
   λ σ' H' Δ' M' a b c d=>⟨Δ',M',a,s12.trans b,c,d⟩⟩
 ·rw [h2.length] at j;exact k.nx Z H Δ M r' (st.trans st') e' (jd Δ M j)
def CK (g:DTG) (tb:DTS) (D:QF) (lo:Int) (n:Nat) (Δ:DSt) (M:Mp):Prop:=
 ∃ J:Nat->DSt->Mp->Prop,J 0 Δ M /\ (∀ i Δ M,i < n->J i Δ M->g (.dat (.int (lo + i))) Δ M λ Δ2 M2=>tb { D with nx:=J (i + 1),ct:=J (i + 1),bk:=D.nx } Δ2 M2) /\ ∀ Δ M,J n Δ M->D.nx Δ M
theorem ZaD {g':TG} {tb':TS} {lo:Int} {n:Nat} (q2:∀ v Z H x Δ M Φ (Q:L2.St->Hp->Prop),ZV X.K M H->Jw X.K M H Z Δ->QA X.K M H v x->g x Δ M Φ ->
  (∀ σ' H' Δ' M',ZV X.K M' H'->Step M H M' H'->Jw X.K M' H' σ' Δ'->Φ Δ' M'->Q σ' H')->g' v Z H Q)
  (q3:∀ Z H Δ M D E,ZV X.K M H->Jw X.K M H Z Δ->tb D Δ M->K5 X.K M H D E->tb' E Z H) {D:QF} {E:Ends} {Z:L2.St} {H:Hp} {Δ:DSt} {M:Mp} (r:ZV X.K M H) (e:Jw X.K M H Z Δ) (h:CK g tb D lo n Δ M) (k:K5 X.K M H D E) :
  ∃ W:Nat->Nat->L2.St->Hp->Prop,(∃ m,W 0 m Z H) /\ ∀ i m Z H,W i m Z H ->
   ((Itr lo n).stop i H /\ E.nx Z H) \/ ((Itr lo n).go i H /\ ∃ N:L2.St->Hp->Prop,(∀ σ' H',N σ' H'->∃ m',m' < m /\ W (i + 1) m' σ' H') /\ ∀ x H',(Itr lo n).yld i H x H'->g' x Z H' λ σ2 H2=>tb' { E with nx:=N,ct:=N,bk:=E.nx } σ2 H2):=by
 obtain ⟨J,j0,jt,jd⟩:=h;refine Pp (λ i σ' H'=>∃ Δ' M',ZV X.K M' H' /\ Step M H M' H' /\ Jw X.K M' H' σ' Δ' /\ J i Δ' M') ⟨Δ,M,r,Step.refl,e,j0⟩ (λ i σ1 H1 hi ⟨Δ1,M1,r',st',e',j⟩=>?_) (λ σ1 H1 ⟨Δ1,M1,r',st',e',j⟩=>?_)
 ·refine q2 _ σ1 H1 (.dat (.int (lo + i))) Δ1 M1 _ _ r' e' (Dt.int _) (jt i Δ1 M1 hi j) λ σ2 H2 Δ2 M2 r2 st2 e2 hb2=>?_;refine q3 σ2 H2 Δ2 M2 _ _ r2 e2 hb2 ?_;have s12:Step M H M2 H2:=st'.trans st2
  exact ⟨λ σ' H' Δ' M' a b c d=>⟨Δ',M',a,s12.trans b,c,d⟩,k.rt.step s12,λ σ' H' Δ' M' a b c d=>k.nx σ' H' Δ' M' a (s12.trans b) c d,
   λ σ' H' Δ' M' a b c d=>⟨Δ',M',a,s12.trans b,c,d⟩⟩
 ·exact k.nx σ1 H1 Δ1 M1 r' st' e' (jd Δ1 M1 j)
def InR (j:Int):Prop:=-(2 ^ 62) <= j /\ j < 2 ^ 62
def Zay (ta:DTA) (g:DTG) (tb:DTS):DTS:=λ D Δ M=>ta Δ M λ xs M1=>on1 xs λ x=>onI x λ j=>InR j /\ CK g tb D 0 j.toNat Δ M1
theorem Kc {a:Expr} {ta:DTA} {p p2:Pos} (hg0:Gl X "range") (hm:X.mg "range" = none) (ha:DA X [a] ta) (hg:DG X tg g) (hb:DSs X body tb) (hp:PassesOwn (model X.prog X.w) X.A X.env X.xe) (hc:X.calm = true)
  (hs:autoParam (starEach [a] X.env = [(false,eval a X.env)]) zz3._auto_1) (hs2:autoParam (∀ x,foldedSetIterable (.Call (.Name "range" p) [a] [] p2) X.env x = pure x) zz2._auto_1):DS X (.For tg (.Call (.Name "range" p) [a] [] p2) body [] pos) (Zay ta g tb):=by
 obtain ⟨t1,p1,q1⟩:=ha;obtain ⟨t2,p2,q2⟩:=hg;obtain ⟨t3,p3,q3⟩:=hb;refine ⟨_,E6 hp hc (CD hg0 hm p1 hs) p2 p3 hs2,λ Z H Δ M D E r e h k=>?_⟩;refine q1 Z H Δ M _ _ r e h λ vs H1 xs M1 r1 st rv hx=>?_;replace hx:=Zp hx;obtain ⟨x,rfl,hx⟩:=hx;replace hx:=ZX hx;obtain ⟨j,rfl,⟨h1,h2⟩,hx⟩:=hx;obtain ⟨v,rfl,hv⟩:=Paired.one rv;exact ⟨j,by rw [QA.int hv],h1,h2,ZaD q2 q3 r1 (e.step st) hx (k.step st)⟩
def Zav (ta:DTA) (g:DTG) (tb:DTS):DTS:=λ D Δ M=>ta Δ M λ xs M1=>on2 xs λ x y=>onI x λ i=>onI y λ j=>(InR i /\ InR j) /\ CK g tb D i (j - i).toNat Δ M1
end
abbrev DSp:=List DV->Mp->DK->Prop
def lift (K:Fk) (S:DSp):Sp:=λ vs H Q _=>∃ xs M Φ,ZV K M H /\ Yf K M H vs xs /\ S xs M Φ /\ Rch K M H Φ Q
def Zcm (S:DSp) (t:DTA):DTE:=λ Δ M Φ=>t Δ M λ xs M1=>S xs M1 Φ
section
variable {CX:CXT} {k:Nat} {S:DSp} {E:XK} {p:Pos} {t:DTA}
theorem ZcR (F:Qu X.prog X.w X.K X.mg X.base CX k f fd ps (lift X.K S)) (hr:JT k X.A) (hg:Gl X x) (hm:X.mg x = some (.ref f)) (hk:PySem.W.keepIn X.K (.ref f) = true) (hb:Binds X.K fd ps []) (hx:Passes CX X E)
  (ha:DA X (e :: es) t) (hdb:autoParam ((x == ("__debug__" : Str)) = false) zz1._auto_1) (he:autoParam (starEach (e :: es) X.env = (false,eval e X.env) :: starEach es X.env) zz3._auto_1) (hpl:autoParam ((backTo pos (starEach es X.env)).any (·.1) = false) zz3._auto_1) :
  DE X (.Call (.Name x p) (e :: es) [] pos) (Zcm S t):=by
 obtain ⟨t1,p1,q1⟩:=ha;refine ⟨_,ZdK F hr hg hm hk hb .nil hx p1 hdb he hpl,λ Z H Δ M Φ Q r e h k=>?_⟩;refine q1 Z H Δ M _ _ r e h λ vs H1 xs M1 r1 st rv hx=>?_;show lift X.K S (vs ++ []) H1 Q E;rw [List.append_nil];exact ⟨xs,M1,Φ,r1,rv,hx,k.step st⟩
end
section
variable {K:Fk}
theorem okD {k:Nat} {S:DSp} (F:Fun K x qual st f fd) (Sc:Zr N ps (Zf st)) (len:∀ xs M Φ,S xs M Φ->xs.length = ps.length)
  (hbody:∀ (cdv:Value) (A:Around) (outer:List Env) (s:Shared) (H:Hp) (E:XK),JT k (A.deeper (envOfC qual (Zf st) s.heap.objs.size f cdv)) ->
   ∃ τ,DSs (Fz CX0 P w K mg base N qual (Zf st) f cdv A outer s H E).nox (Q2 st) τ /\ ∀ xs M Φ,S xs M Φ->τ { nx:=λ _ M'=>Φ (.dat .none) M',rt:=Φ } (Yk N xs) M):Qu P w K mg base CX0 (k + 1) f fd ps (lift K S):=by
 refine F.ok Sc (λ vs H Q E h=>?_) λ cdv A outer s H vs Q E hr h=>?_
 ·obtain ⟨xs,M,Φ,_,rv,hs,_⟩:=h;rw [Paired.length rv];exact len xs M Φ hs
 ·obtain ⟨xs,M,Φ,r,rv,hs,kk⟩:=h;obtain ⟨τ,⟨t,p,q⟩,hτ⟩:=hbody cdv A outer s H E hr;refine ⟨t,p,q (start N vs) H (Yk N xs) M _ _ r (Jw.start rv) (hτ xs M Φ hs) ⟨λ σ' H' Δ' M' r' st' e' hn=>?_,kk,λ _ _ _ _ _ _ _ h=>h.elim,λ _ _ _ _ _ _ _ h=>h.elim⟩⟩;exact kk.dat r' st' Dt.non hn
end
section
variable {k v:Expr}
def At (X:Cx) (e:Expr) (τ:DTE):Prop:=∃ t,PE X e t /\ ∀ Z H Δ M Φ,Jw X.K M H Z Δ->τ Δ M Φ->∃ v x,QA X.K M H v x /\ Φ x M /\ ∀ (H':Hp) (Q:VK),Q v H'->t Z H' Q
theorem WX (i:Nat) {pos:Pos} (hN:autoParam (X.N[i]? = some x) zz3._auto_1) (hv:autoParam (Vis X.env.scope x) zz5._auto_1) (hd:autoParam ((x == ("__debug__" : Str)) = false) zz1._auto_1)
  (hcd:autoParam ((x == ("__classdict__" : Str)) = false) zz1._auto_1):At X (.Name x pos) (Zjr i):=by
 refine ⟨_,Ft hN hv hd hcd,λ Z H Δ M Φ e h=>?_⟩;replace h:=Zba h;obtain ⟨x,e1,h⟩:=h;obtain ⟨v,e2,q⟩:=e.at' i x e1;exact ⟨v,x,q,h,λ H' Q hq=>⟨v,e2,hq⟩⟩
theorem Ug {x j pos}:At X (.Constant (.str x) j pos) (dC (.str x)):=⟨_,Za5,λ _ H _ M Φ _ h=>⟨.str x,.dat (.str x),Dt.str x,h,λ _ _ hq=>hq⟩⟩
def ZaM:DTE:=λ _ M Φ=>Φ (.dat (.dict [])) M
theorem To:DE X (.Dict [] [] pos) ZaM:=by
 refine ⟨_,TM,λ Z H Δ M Φ Q r e h k p hp=>?_⟩;exact k _ _ (.dat (.dict [])) M (r.new hp) (Step.new hp) (Dt.dK (kvs:=[]) (ds:=[]) (r.tracked hp) Zz .nil) h
def CG (x:DV) (P:Key->Prop):Prop:=match x with | .dat (.int i)=>P (.inl i) | .dat (.str s)=>P (.inr s) | _=>False
noncomputable def Pz:List PyData->Option (List Key)
 | []=>some []
 | .int i :: r=>(Pz r).map (.inl i :: ·)
 | .str s :: r=>(Pz r).map (.inr s :: ·)
 | _ :: _=>none
def ZiN (ds:List PyData) (P:List Key->Prop):Prop:=match Pz ds with | some ks=>P ks | none=>False
def ZfJ (tk tv:DTE):DTE:=λ Δ M Φ=>tk Δ M λ x M1=>tv Δ M1 λ y M2=>CG x λ k=>onD y λ d=>Φ (.dat (.dict [(kD k,d)])) M2
def Ze2 (tk tv tk' tv':DTE):DTE:=λ Δ M Φ=>tk Δ M λ x M1=>tv Δ M1 λ y M2=>tk' Δ M2 λ x' M3=>tv' Δ M3 λ y' M4=>CG x λ k=>onD y λ d=>CG x' λ k'=>onD y' λ d'=>k ≠ k' /\ Φ (.dat (.dict [(kD k,d),(kD k',d')])) M4
def ZbL (tk tv:DTE):DTE:=λ Δ M Φ=>tk Δ M λ x M1=>tv Δ M1 λ y M2=>onT x λ ds=>ZiN ds λ ks=>onD y λ d=>Φ (.dat (.dict [(.tuple (ks.map kD),d)])) M2
theorem SqT.new {K:Fk} {o:HO} (h:SqT K H a xs) (hp:H p = none):SqT K (upd H p o) a xs:=by
 rcases h with (h | ⟨ob,h⟩) | h
 ·exact .inl (.inl (by rw [Zv (ZO h hp)]; exact h))
 ·exact .inl (.inr ⟨ob,by rw [Zv (ZO h hp)]; exact h⟩)
 ·exact .inr h
end
mutual
noncomputable def cost:PyData->Nat
 | .none=>4
 | .bool _=>5
 | .int _=>1921
 | .str x=>(reprText x).length
 | .list xs=>QS xs + 2
 | .tuple xs=>QS xs + 3
 | .dict kvs=>WO kvs + 2
noncomputable def QS:List PyData->Nat
 | []=>0
 | x :: xs=>cost x + 2 + QS xs
noncomputable def WO:List (PyData × PyData)->Nat
 | []=>0
 | (k,v) :: r=>cost k + 2 + cost v + 2 + WO r
end
theorem Wi:∀ (ts:List Str) (k:Nat) (acc:Str),(textFrom k acc ts).length <= acc.length + piled ts
 | [],k,acc=>Nat.le_add_right _ _
 | t :: r,k,acc=>by
  have h:=Wi r (k + 1) (acc ++ (if k > 0 then ", " else "" : String) ++ t);have e:(acc ++ (if k > 0 then ", " else "" : String) ++ t).length = acc.length + (if k > 0 then 2 else 0) + t.length:=by
   rw [strLen_append,strLen_append]
   split <;> rfl
  have d1:(if k > 0 then 2 else 0:Nat) <= 2:=by split <;> lia
  rw [e] at h;rw [piled_cons];show (textFrom (k + 1) _ r).length <= _;lia
theorem Nw (ts:List Str):(Str.join ", " ts).length <= piled ts:=by
 by_cases h:ts = []
 ·subst h; exact Nat.le_of_eq rfl
 ·have:=join_length_add ts h;lia
mutual
theorem J4:∀ d:PyData,d.showable = true->d.shown.length <= cost d
 | .none,_=>by simp only [PyData.shown,cost]; exact Nat.le_of_eq rfl
 | .bool b,_=>by
  simp only [PyData.shown,cost];cases b
  ·exact Nat.le_of_eq rfl
  ·exact (by decide:4 <= 5)
 | .int i,h=>by
  simp only [PyData.shown,cost];exact int_text_len_1921 (by simpa [PyData.showable] using h)
 | .str x,_=>by simp only [PyData.shown,cost]; exact Nat.le_refl _
 | .list xs,h=>by
  have h1:=Ve xs (by simpa [PyData.showable] using h);have h2:=Wi (PyData.shownAll xs) 0 "[";have e1:((("[" : String):Str)).length = 1:=rfl;have e2:((("]" : String):Str)).length = 1:=rfl;simp only [PyData.shown,cost];unfold listText;rw [strLen_append,e2];rw [e1] at h2;lia
 | .tuple xs,h=>by
  have h1:=Ve xs (by simpa [PyData.showable] using h);have h2:=Nw (PyData.shownAll xs);have e1:((("(" : String):Str)).length = 1:=rfl;have e3:(((if (PyData.shownAll xs).length == 1 then ",)" else ")" : String):Str)).length <= 2:=by split <;> decide
  simp only [PyData.shown,cost];unfold tupleText;rw [strLen_append,strLen_append,e1];lia
 | .dict kvs,h=>by
  have h1:=XC kvs (by simpa [PyData.showable] using h);have h2:=Nw (PyData.shownKv kvs);have e:(dictText (PyData.shownKv kvs)).length = 1 + (Str.join ", " (PyData.shownKv kvs)).length + 1:=by
   unfold dictText;rw [strLen_append,strLen_append]; rfl
  simp only [PyData.shown,cost];lia
theorem Ve:∀ xs:List PyData,PyData.showableAll xs = true->piled (PyData.shownAll xs) <= QS xs
 | [],_=>by simp only [PyData.shownAll,QS]; exact Nat.le_of_eq rfl
 | x :: xs,h=>by
  have h':x.showable = true /\ PyData.showableAll xs = true:=by simpa [PyData.showableAll] using h
  have h1:=J4 x h'.1;have h2:=Ve xs h'.2;simp only [PyData.shownAll,QS];rw [piled_cons];lia
theorem XC:∀ kvs:List (PyData × PyData),PyData.showableKv kvs = true->piled (PyData.shownKv kvs) <= WO kvs
 | [],_=>by simp only [PyData.shownKv,WO]; exact Nat.le_of_eq rfl
 | (k,v) :: r,h=>by
  have h':(k.showable = true /\ v.showable = true) /\ PyData.showableKv r = true:=by simpa [PyData.showableKv] using h
  have h1:=J4 k h'.1.1;have h2:=J4 v h'.1.2;have h3:=XC r h'.2;have e:((k.shown ++ ": " ++ v.shown:Str)).length = k.shown.length + 2 + v.shown.length:=by rw [strLen_append,strLen_append]; rfl
  simp only [PyData.shownKv,WO];rw [piled_cons,e];lia
end
theorem Shw.of (s:d.showable = true) (m:(d.hasDict && Qj d) = false) (dp:d.depth <= 64) (z:cost d <= 1000000):Shw d:=
 ⟨s,m,dp,Nat.le_trans (J4 d s) (Nat.le_trans z (by rw [sizeLine_eq]; decide))⟩
structure Own (K:Fk) (mg:Str->Option Value) (x:Str) (st:Stmt) (ps:List Str) (f:Addr) (fd:FuncData):Prop where
 F:Fun K x x st f fd
 m:mg x = some (.ref f)
 b:Binds K fd ps []
def MA:DSp:=λ xs M Φ=>∃ ns:List Int,xs = [.dat (.list (ns.map PyData.int))] /\ ns.length <= 63 /\ ∀ M',Φ (.dat (.bool true)) M'
theorem OP {K:Fk} {ns:List Int} (hl:ns.length <= 63) (_:Ziu H) (hS:SqL K H a (ns.map V.int)):lift K MA [.ref a] H (λ v _=>v = .bl true) λ _ _ _=>False:=by
 refine ⟨[.dat (.list (ns.map PyData.int))],λ _=>none,λ x _=>x = .dat (.bool true),(show ZV K (λ _=>none) H from ⟨λ b o e=>(by cases e)⟩),Paired.cons (Dt.lst ?_ (Dts.ints ns)) Paired.nil,⟨ns,rfl,hl,λ _=>rfl⟩,λ v H' x M' _ _ rv hx=>?_⟩
 ·rcases hS with h | h
  ·exact .inl ⟨rfl,h⟩
  ·exact .inr h
 ·subst hx;exact rv.bool
theorem O1 {α:Type} {l:List α} {i:Int} (h0:0 <= i) (h1:i < l.length):∃ d,atI l i = some d /\ d ∈ l:=by
 have hl:i.toNat < l.length:=by lia
 refine ⟨l[i.toNat],?_,List.getElem_mem hl⟩;have q:atI l ((i.toNat:Nat):Int) = some l[i.toNat]:=Qv (by simp [hl]);rw [show ((i.toNat:Nat):Int) = i by lia] at q;exact q
theorem ZgB:ixN 3 0 = some 0:=rfl
theorem Zg3:ixN 3 1 = some 1:=rfl
theorem ZgF:ixN 3 2 = some 2:=rfl
theorem ZdV {ns:List Int} {j:Int} (h0:0 <= j) (h1:j < ns.length):∃ c:Int,atI (ns.map PyData.int) j = some (.int c):=by
 obtain ⟨d,e,hm⟩:=O1 (l:=ns.map PyData.int) h0 (by rw [List.length_map]; exact h1);obtain ⟨c,_,rfl⟩:=List.mem_map.mp hm;exact ⟨c,e⟩
theorem G0 (x:Int) {m:Int} (h:0 < m):0 <= x % m /\ x % m < m:=⟨Int.emod_nonneg _ (by lia),Int.emod_lt_of_pos _ h⟩
def sp1 (f:PyData->Bool):DSp:=λ xs M Φ=>∃ d,xs = [.dat d] /\ Φ (.dat (.bool (f d))) M
theorem Ez (k:Int) (h:0 <= k /\ k <= 1000000):ZjD 10 k:=⟨h.1,h.2,by decide⟩
theorem Bn (h:M a = none):YI (ZR M a o) a = M:=by
 funext b
 unfold YI ZR
 split
 ·rename_i e; rw [e,h]
 ·rfl
theorem Zi {p:Prop} [Decidable p] {A B:Prop} (h1:p->A) (h2:¬ p->B):if decide p = true then A else B:=by
 by_cases h:p
 ·rw [decide_eq_true h,if_pos rfl]; exact h1 h
 ·rw [decide_eq_false h,if_neg Bool.false_ne_true]; exact h2 h
noncomputable def Pt (env:Env):List (Str × NameKind)->List (Str × Addr)->List (Str × Addr)
 | [],cs=>cs
 | (n,k) :: r,cs=>Pt env r (if (k == NameKind.free) = true then (n,(env.cells.lookup n).getD 0) :: cs else cs)
theorem Um {env:Env} (f:Str × NameKind->List (Str × Addr)->Sem (ForInStep (List (Str × Addr)))):∀ (l:List (Str × NameKind)) (cs:List (Str × Addr)),
  (∀ y ∈ l,∀ cs,f y cs = pure (.yield (if (y.2 == NameKind.free) = true then (y.1,(env.cells.lookup y.1).getD 0) :: cs else cs)))->forIn l cs f = pure (Pt env l cs)
 | [],cs,_=>by rw [List.forIn_nil]; rfl
 | (n,k) :: r,cs,h=>by
  rw [List.forIn_cons,h _ List.mem_cons_self,pure_bind];exact Um f r _ λ y hy=>h y (List.mem_cons_of_mem _ hy)
theorem Kz (h:∀ y ∈ scope.names,y.2 = .free->∃ c,env.cells.lookup y.1 = some c):closureFor scope env = pure (Pt env scope.names []):=by
 simp only [closureFor]
 rw [Um (env:=env) _ scope.names [] (λ y hy cs=>by
  obtain ⟨n,k⟩:=y
  by_cases hk:k = .free
  ·subst hk;obtain ⟨c,e⟩:=h _ hy rfl;have e':env.cells.lookup n = some c:=e;simp only [beq_self_eq_true,if_true,cellOf,e',Option.getD_some,pure_bind]
  ·have:(k == NameKind.free) = false:=by simpa using hk
   simp only [this,Bool.false_eq_true,if_false])]
 rfl
theorem EH:∀ {l:List (Str × NameKind)} {cs:List (Str × Addr)} {x:Str} {c:Addr},(x,c) ∈ Pt env l cs->(x,c) ∈ cs \/ ((x,NameKind.free) ∈ l /\ c = (env.cells.lookup x).getD 0)
 | [],_,_,_,h=>.inl h
 | (n,k) :: r,cs,x,c,h=>by
  rcases EH (l:=r) h with h | ⟨h1,h2⟩
  ·by_cases hk:k = .free
   ·subst hk;rw [if_pos (by simp)] at h
    rcases List.mem_cons.mp h with h | h
    ·cases h;exact .inr ⟨List.mem_cons_self,rfl⟩
    ·exact .inl h
   ·have:(k == NameKind.free) = false:=by simpa using hk
    rw [if_neg (by rw [this]; exact Bool.false_ne_true)] at h;exact .inl h
  ·exact .inr ⟨List.mem_cons_of_mem _ h1,h2⟩
theorem FI:∀ {l:List (Str × NameKind)} {cs:List (Str × Addr)} {x:Str},((x,NameKind.free) ∈ l \/ ∃ c,(x,c) ∈ cs)->∃ c,(x,c) ∈ Pt env l cs
 | [],_,_,h=>h.elim (λ z=>nomatch z) id
 | (n,k) :: r,cs,x,h=>by
  refine FI (l:=r) ?_
  rcases h with h | ⟨c,h⟩
  ·rcases List.mem_cons.mp h with h | h
   ·cases h;exact .inr ⟨_,by rw [if_pos (by simp)]; exact List.mem_cons_self⟩
   ·exact .inl h
  ·refine .inr ⟨c,?_⟩
   split
   ·exact List.mem_cons_of_mem _ h
   ·exact h
theorem KH {β:Type}:∀ {l:List (Str × β)} {x:Str} {c:β},(x,c) ∈ l->∃ c',l.lookup x = some c'
 | [],_,_,h=>nomatch h
 | (n,d) :: r,x,c,h=>by
  rw [List.lookup_cons];cases e:x == n with
  | true=>exact ⟨d,rfl⟩
  | false=>
   rcases List.mem_cons.mp h with h | h
   ·cases h;simp at e
   ·exact KH h
theorem Q9 {names:List (Str × NameKind)} (hf:∀ y ∈ names,y.2 = .free->∃ c,env.cells.lookup y.1 = some c) {c:Addr} (h:(Pt env names []).lookup x = some c) :
  env.cells.lookup x = some c /\ (x,NameKind.free) ∈ names:=by
 rcases EH (PySem.mem_of_lookup h) with h | ⟨h1,h2⟩
 ·exact nomatch h
 ·obtain ⟨c',e⟩:=hf _ h1 rfl;have e':env.cells.lookup x = some c':=e;rw [e',Option.getD_some] at h2;subst h2;exact ⟨e',h1⟩
theorem FX {names:List (Str × NameKind)} (hf:∀ y ∈ names,y.2 = .free->∃ c,env.cells.lookup y.1 = some c) (h:(x,NameKind.free) ∈ names):∃ c,(Pt env names []).lookup x = some c /\ env.cells.lookup x = some c:=by
 obtain ⟨c,hm⟩:=FI (env:=env) (cs:=[]) (.inl h);obtain ⟨c',e⟩:=KH hm;exact ⟨c',e,(Q9 hf e).1⟩
noncomputable def Z0 (X:Cx) (scope:Scope) (C:Addr) (N:List Str) (ex:List Addr) (s:Shared) (H:Hp):Cx:=
 { X with N:=N,s₀:=s,H₀:=H,env:=compEnvC scope (Pt X.env scope.names []) C X.env,outer:=X.stack,ex:=ex,fn:=λ _=>false,pn:=[],xe:=λ _ _=>False }
noncomputable def VJ (ix:List (Option Nat)) (Z:L2.St):L2.St:=ix.map λ o=>o.bind λ i=>(Z[i]?).join
noncomputable def Lu (ix:List (Option Nat)) (Δ:DSt):DSt:=ix.map λ o=>o.bind λ i=>(Δ[i]?).join
structure VP (X:Cx) (scope:Scope) (N:List Str) (ix:List (Option Nat)):Prop where
 kind:scope.kind = .function
 cellF:∀ y ∈ scope.names,y.2 ≠ .cell
 names:∀ y ∈ scope.names,y.2 = .local->scope.names.lookup y.1 = some .local
 free:∀ y ∈ scope.names,y.2 = .free->X.env.kindOf y.1 = some .cell
 len:N.length = ix.length
 cap:∀ (j:Nat) (x:Str) (i:Nat),N[j]? = some x->ix[j]? = some (some i)->X.N[i]? = some x /\ (x,NameKind.free) ∈ scope.names /\ (relabel scope X.env).names.lookup x = some .cell
theorem Nj {Z:L2.St} (h:(VJ ix Z)[j]? = some (some v)):∃ i,ix[j]? = some (some i) /\ Z[i]? = some (some v):=by
 unfold VJ at h;rw [List.getElem?_map] at h;cases e:ix[j]? with
 | none=>rw [e] at h; cases h
 | some o=>
  rw [e] at h;cases o with
  | none=>simp at h
  | some i=>
   refine ⟨i,rfl,?_⟩;have h':(Z[i]?).join = some v:=by simpa using h
   cases q:Z[i]? with
   | none=>rw [q] at h'; cases h'
   | some o'=>rw [q] at h'; exact congrArg some h'
theorem Jw.cap {K:Fk} {Z:L2.St} {Δ:DSt} (h:Jw K M H Z Δ) (ix:List (Option Nat)):Jw K M H (VJ ix Z) (Lu ix Δ):=by
 refine ⟨by unfold VJ Lu; rw [List.length_map,List.length_map],λ j x e=>?_⟩;unfold Lu at e;rw [List.getElem?_map] at e;cases q:ix[j]? with
 | none=>rw [q] at e; cases e
 | some o=>
  rw [q] at e;cases o with
  | none=>simp at e
  | some i=>
   have e':(Δ[i]?).join = some x:=by simpa using e
   have e2:Δ[i]? = some (some x):=by
    cases q2:Δ[i]? with
    | none=>rw [q2] at e'; cases e'
    | some o'=>rw [q2] at e'; exact congrArg some e'
   obtain ⟨v,hv,rv⟩:=h.at' i x e2;refine ⟨v,?_,rv⟩;unfold VJ;rw [List.getElem?_map,q];simp [hv]
section
variable {Z:L2.St} {H2:Hp} {s2:Shared} {fp:List Addr}
theorem Zfc (ok:VP X scope N ix) (I2:Inv X pins Z H2 s2):∀ y ∈ scope.names,y.2 = .free->∃ c,X.env.cells.lookup y.1 = some c:=λ y hy hk=>I2.ok.has y.1 (.inl (ok.free y hy hk))
theorem Hr (ok:VP X scope N ix) (I2:Inv X pins Z H2 s2) (f2:∀ b ∈ fp,HF X pins H2 b) (ex:∀ b ∈ fp,∃ o,s2.heap.get? b = some o) (hC:s2.heap.objs.size <= C):(Z0 X scope C N fp s2 H2).Ok:=by
 have hf:=Zfc ok I2
 refine ⟨I2.ok.mod,ok.kind,I2.ok.glob,I2.ok.blt,hC,λ x y c h1 h2=>I2.ok.inj x y c (Q9 hf h1).1 (Q9 hf h2).1,λ x hx=>?_,λ x c h=>absurd h Bool.false_ne_true,I2.ok.hd,I2.ok.frames,.inl rfl,λ b hb=>?_,λ b o e=>I2.bs b o e,Nat.le_trans I2.ok.bsz I2.sz,
  λ b o e hb=>?_,λ b hb z=>?_,I2.stack,I2.C0⟩
 ·have hx':(relabel scope X.env).names.lookup x = some .cell \/ (relabel scope X.env).names.lookup x = some .free:=hx;have key:(x,NameKind.free) ∈ scope.names:=by
   have go:∀ k',(relabel scope X.env).names.lookup x = some k'->(k' = .cell \/ k' = .free)->(x,NameKind.free) ∈ scope.names:=λ k' e hk=>by
    have hm:=PySem.mem_of_lookup e;obtain ⟨⟨n,k⟩,hn,q⟩:=List.mem_map.mp hm
    by_cases hr:(k == NameKind.free && X.env.scope.kind == .function && X.env.kindOf n == some .cell) = true
    ·have q':(n,NameKind.cell) = (x,k'):=by rw [<- q]; simp [hr]
     cases q';have:k = .free:=by simp only [Bool.and_eq_true] at hr; simpa using hr.1.1
     subst this;exact hn
    ·have q':(n,k) = (x,k'):=by rw [<- q]; simp [hr]
     cases q'
     rcases hk with rfl | rfl
     ·exact absurd rfl (ok.cellF _ hn)
     ·exact hn
   rcases hx' with h | h
   ·exact go _ h (.inl rfl)
   ·exact go _ h (.inr rfl)
  obtain ⟨c,h1,_⟩:=FX hf key;exact ⟨c,h1⟩
 ·obtain ⟨o,e⟩:=ex b hb;exact ⟨Nat.ne_of_lt (Nat.lt_of_lt_of_le (Heap.lt_size e) hC),λ x c h=>(f2 b hb).2.2.2.2.1 x c (Q9 hf h).1⟩
 ·rcases (f2 b hb).2.2.2.1 with z | z
  ·exact I2.ok.noex b o e z
  ·exact absurd (Nat.lt_of_lt_of_le (Heap.lt_size e) (Nat.le_trans I2.ok.bsz z)) (Nat.lt_irrefl _)
 ·rcases List.mem_cons.mp (I2.Pf b z) with z | z
  ·exact (f2 b hb).2.1 z
  ·exact (f2 b hb).2.2.1 z
theorem Fq (ok:VP X scope N ix) (I2:Inv X pins Z H2 s2) (f2:∀ b ∈ fp,HF X pins H2 b) {s:Shared} {m:Str->Option Value} (u:Un (frs X.stack) fp H2 H s2.heap s.heap) :
  ∀ (i:Nat) (x:Str) (v:V),N[i]? = some x->(VJ ix Z)[i]? = some (some v)->∃ w,RelV v w /\ Look (Z0 X scope C N fp s2 H2).env s.heap m x w:=λ j x v hN hv=>by
 obtain ⟨i,hi,hs⟩:=Nj hv;obtain ⟨hx,hm,hr⟩:=ok.cap j x i hN hi;have hk:X.env.kindOf x = some .cell:=ok.free _ hm rfl;obtain ⟨m0,_,hl⟩:=I2.loc;obtain ⟨w,r,l⟩:=hl i x v hx hs (.inr (.inl hk));refine ⟨w,r,.inr ⟨.inl hr,?_⟩⟩
 rcases l with ⟨z,_⟩ | ⟨_,c,e,hc⟩
 ·rw [hk] at z; cases z
 ·obtain ⟨c',h1,h2⟩:=FX (Zfc ok I2) hm;rw [e] at h2;cases h2;refine ⟨c,h1,?_⟩;obtain ⟨o,ho,hd⟩:=hc;obtain ⟨sl,q⟩:=u.any ho (I2.freeC x c e) λ z=>(f2 c z).2.2.2.2.1 x c e rfl;exact ⟨_,q,hd⟩
end
section
variable {prog:Program} {R:Result->Shared->Prop} {s:Shared}
theorem CF {elt target iter:Expr} {ifs:List Expr} {scope:Scope} {pos:Pos} {it acc:Value} {env:Env} (I:Nat->Shared->Prop)
  (turn:∀ n s,I n s->wpAny (model prog w) A (pyNext it) (λ r s₁=>match r with
   | none=>R (.ok .next) s₁
   | some v=>wpAny (model prog w) A (letOwnedTupleGo target it v) (λ _ s₁'=>wpAny (model prog w) A (assign target env v) (λ _ s₂=>
     wpAny (model prog w) A (forIn ifs true λ c r=>if r = true then do let ok <- isTrue c env (eval c env); pure (ForInStep.yield ok) else pure (ForInStep.yield r)) (λ ok s₃=>
      if ok = true then wpAny (model prog w) A (eval elt env) (λ x s₄=>
       wpAny (model prog w) A (call (.builtin "list.append") [acc,x]) (λ _ s₅=>∃ m,m < n /\ I m s₅) (λ _ _=>False) s₄) (λ _ _=>False) s₃
      else ∃ m,m < n /\ I m s₃) (λ _ _=>False) s₂) (λ _ _=>False) s₁') (λ _ _=>False) s₁) (λ _ _=>False) s)
  (n:Nat) (h:I n s):codeAny (model prog w) A (.compLoop (.ListComp elt [⟨target,iter,ifs,0⟩] scope pos) 0 it acc env) R s:=by
 refine codeAny_loop rfl I (λ n s hI=>?_) n h;show wpAny _ A ((compTurn (.ListComp elt [⟨target,iter,ifs,0⟩] scope pos) 0 it acc env).onRaise (λ x=>do noteFrame x env; theTreesLotGoes x)) _ _ s;refine wpAny_noted ?_;rw [compTurn_list];refine wpAny_bind (wpAny_standAt (wpAny_bind (wpAny_mono (turn n s hI) (λ r s₁ h₁=>?_) λ _ _ h'=>h'.elim)));cases r with
 | none=>exact wpAny_pure h₁
 | some v=>
  refine wpAny_bind (wpAny_mono h₁ (λ _ s₁' h₁'=>?_) λ _ _ h'=>h'.elim);refine wpAny_bind (wpAny_mono h₁' (λ _ s₂ h₂=>wpAny_bind (wpAny_mono h₂ (λ ok s₃ h₃=>?_) λ _ _ h'=>h'.elim)) λ _ _ h'=>h'.elim);cases ok with
  | false=>exact wpAny_pure ⟨rfl,h₃⟩
  | true=>
   exact wpAny_bind (wpAny_bind (wpAny_mono h₃ (λ x s₄ h₄=>wpAny_bind (wpAny_mono h₄ (λ _ s₅ h₅=>wpAny_pure (wpAny_pure ⟨rfl,h₅⟩)) λ _ _ h'=>h'.elim)) λ _ _ h'=>h'.elim))
end
def Yl (K:Fk) (J:It) (ds:List PyData) (M:Mp) (H:Hp):Prop:=∀ M2 H2,Step M H M2 H2->∀ i,
 (i < ds.length->J.go i H2 /\ ∀ x H',J.yld i H2 x H'->ZV K M2 H2->ZV K M2 H' /\ Step M2 H2 M2 H' /\ ∃ d,ds[i]? = some d /\ Dt K M2 H' x d) /\ (ds.length <= i->J.stop i H2)
abbrev X1:=DSt->Mp->(List PyData->Mp->Prop)->Prop
def DI (X:Cx) (tg iter:Expr) (src:X1):Prop:=∃ wi,PI X tg iter wi /\ ∀ Z H Δ M Ψ (R:It->Hp->Prop),ZV X.K M H->Jw X.K M H Z Δ->src Δ M Ψ ->
 (∀ J H' M' ds,ZV X.K M' H'->Step M H M' H'->Yl X.K J ds M' H'->Ψ ds M'->R J H')->wi Z H R
def Zkv (te:DTE):X1:=λ Δ M Ψ=>te Δ M λ x M1=>onL x λ ds=>Ψ ds M1
def Zkr (te:DTE):X1:=λ Δ M Ψ=>te Δ M λ x M1=>onT x λ ds=>Ψ ds M1
theorem Vb (he:DE X iter te):DI X tg iter (Zkv te):=by
 obtain ⟨t,p,q⟩:=he;refine ⟨_,N1 p,λ Z H Δ M Ψ R dr er h k=>?_⟩;refine q Z H Δ M _ _ dr er h λ v H1 x M1 r1 st rv hx=>?_;replace hx:=Ou hx;obtain ⟨ds,rfl,hΨ⟩:=hx;obtain ⟨a,xs,rfl,h1,h2⟩:=rv.lst;refine ⟨a,rfl,⟨xs,h1.sq⟩,k _ H1 M1 ds r1 st (λ M2 H2 st2 i=>⟨λ hi=>?_,λ hi=>?_⟩) hΨ⟩
 ·have hx:i < xs.length:=by rw [h2.length]; exact hi
  refine ⟨⟨xs,xs[i],(h1.step st2).sq,by simp [hx]⟩,λ x H' y=>?_⟩;obtain ⟨e,y⟩:=y;obtain ⟨d,hd,hy⟩:=(h2.step st2).ZeT (y xs (h1.step st2).sq);subst e;exact λ r=>⟨r,Step.refl,d,hd,hy⟩
 ·exact ⟨xs,(h1.step st2).sq,by rw [h2.length]; exact hi⟩
theorem Cy (he:DE X iter te):DI X tg iter (Zkr te):=by
 obtain ⟨t,p,q⟩:=he;refine ⟨_,Zik p,λ Z H Δ M Ψ R dr er h k=>?_⟩;refine q Z H Δ M _ _ dr er h λ v H1 x M1 r1 st rv hx=>?_;replace hx:=Ku hx;obtain ⟨ds,rfl,hΨ⟩:=hx;obtain ⟨a,xs,rfl,h1,h2⟩:=rv.tup;refine ⟨a,rfl,⟨xs,h1.sq⟩,k _ H1 M1 ds r1 st (λ M2 H2 st2 i=>⟨λ hi=>?_,λ hi=>?_⟩) hΨ⟩
 ·have hx:i < xs.length:=by rw [h2.length]; exact hi
  refine ⟨⟨xs,xs[i],(h1.step st2).sq,by simp [hx]⟩,λ x H' y=>?_⟩;obtain ⟨e,y⟩:=y;obtain ⟨d,hd,hy⟩:=(h2.step st2).ZeT (y xs (h1.step st2).sq);subst e;exact λ r=>⟨r,Step.refl,d,hd,hy⟩
 ·exact ⟨xs,(h1.step st2).sq,by rw [h2.length]; exact hi⟩
noncomputable def Gq (lo:Int) (n:Nat):List PyData:=(List.range n).map λ (i:Nat)=>PyData.int (lo + (i:Int))
theorem Qd (lo:Int) (n:Nat):(Gq lo n).length = n:=by unfold Gq; rw [List.length_map,List.length_range]
theorem YS {lo:Int} {i:Nat} (h:i < n):(Gq lo n)[i]? = some (.int (lo + (i:Int))):=by
 unfold Gq;rw [List.getElem?_map,List.getElem?_range h];rfl
theorem EZ {K:Fk} (lo:Int) (n:Nat):Yl K (Itr lo n) (Gq lo n) M H:=λ M2 H2 st2 i=>by
 rw [Qd];refine ⟨λ hi=>⟨hi,λ x H' y=>?_⟩,λ hi=>hi⟩;obtain ⟨e,y⟩:=y;subst y e;exact λ r=>⟨r,Step.refl,_,YS hi,Dt.int _⟩
def Zhe (ta:DTA):X1:=λ Δ M Ψ=>ta Δ M λ xs M1=>on1 xs λ x=>onI x λ j=>InR j /\ Ψ (Gq 0 j.toNat) M1
theorem JA {a:Expr} {ta:DTA} {p:Pos} (hg0:Gl X "range") (hm:X.mg "range" = none) (ha:DA X [a] ta) (hs:autoParam (starEach [a] X.env = [(false,eval a X.env)]) zz3._auto_1):DI X tg (.Call (.Name "range" p) [a] [] p2) (Zhe ta):=by
 obtain ⟨t1,p1,q1⟩:=ha;refine ⟨_,CD hg0 hm p1 hs,λ Z H Δ M Ψ R dr er h k=>?_⟩;refine q1 Z H Δ M _ _ dr er h λ vs H1 xs M1 r1 st rv hx=>?_;replace hx:=Zp hx;obtain ⟨x,rfl,hx⟩:=hx;replace hx:=ZX hx;obtain ⟨j,rfl,⟨h1,h2⟩,hΨ⟩:=hx;obtain ⟨v,rfl,hv⟩:=Paired.one rv;exact ⟨j,by rw [QA.int hv],h1,h2,k _ H1 M1 _ r1 st (EZ 0 j.toNat) hΨ⟩
def ZgD (ta:DTA):X1:=λ Δ M Ψ=>ta Δ M λ xs M1=>on2 xs λ x y=>onI x λ i=>onI y λ j=>(InR i /\ InR j) /\ Ψ (Gq i (j - i).toNat) M1
theorem N7 {a b:Expr} {ta:DTA} {p p2:Pos} (hg0:Gl X "range") (hm:X.mg "range" = none) (ha:DA X [a,b] ta) (hs:autoParam (starEach [a,b] X.env = [(false,eval a X.env),(false,eval b X.env)]) zz3._auto_1) (hs2:autoParam (starEach [b] X.env = [(false,eval b X.env)]) zz3._auto_1) :
  DI X tg (.Call (.Name "range" p) [a,b] [] p2) (ZgD ta):=by
 obtain ⟨t1,p1,q1⟩:=ha;refine ⟨_,G9 hg0 hm p1 hs hs2,λ Z H Δ M Ψ R dr er h k=>?_⟩;refine q1 Z H Δ M _ _ dr er h λ vs H1 xs M1 r1 st rv hx=>?_;replace hx:=Qk hx;obtain ⟨x,y,rfl,hx⟩:=hx;replace hx:=ZX hx;obtain ⟨i,rfl,hx⟩:=hx;replace hx:=ZX hx;obtain ⟨j,rfl,⟨⟨a1,a2⟩,a3,a4⟩,hΨ⟩:=hx;have h1:-(2 ^ 62) <= i /\ i < 2 ^ 62 /\ -(2 ^ 62) <= j /\ j < 2 ^ 62:=⟨a1,a2,a3,a4⟩
 obtain ⟨v,u,rfl,hv,hu⟩:=Paired.two rv;exact ⟨i,j,by rw [QA.int hv,QA.int hu],h1,k _ H1 M1 _ r1 st (EZ i (j - i).toNat) hΨ⟩
def FT (ow:Bool) (Φ:DK) (acc:List PyData) (M:Mp):Prop:=match ow with | true=>∀ p,M p = none->Φ (.own p) (ZR M p (.lst acc)) | false=>Φ (.dat (.list acc)) M
def HI (ow:Bool) (src:X1) (ix:List (Option Nat)) (g:DTG) (tc:DTT) (te:DTE):DTE:=λ Δ M Φ=>src Δ M λ ds M1=>ds.length <= sizeLine /\ ∃ J:Nat->List PyData->Mp->Prop,J 0 [] M1 /\
 (∀ i d acc M',ds[i]? = some d->J i acc M'->g (.dat d) (Lu ix Δ) M' λ Δ2 M2=>tc Δ2 M2 λ b M3=>if b = true then te Δ2 M3 λ y M4=>onD y λ e=>J (i + 1) (acc ++ [e]) M4 else J (i + 1) acc M3) /\
 ∀ acc M',J ds.length acc M'->FT ow Φ acc M'
def DTs (X:Cx) (ifs:List Expr) (τ:DTT):Prop:=∀ (pins:List (Addr × Obj)) (s:Shared) (Z:L2.St) (H:Hp) (Δ:DSt) (M:Mp) (Φ:Bool->Mp->Prop),L2.Inv X pins Z H s->ZV X.K M H->Jw X.K M H Z Δ->τ Δ M Φ ->
 wpAny (model X.prog X.w) X.A (forIn ifs true λ c r=>if r = true then do let ok <- isTrue c X.env (eval c X.env); pure (ForInStep.yield ok) else pure (ForInStep.yield r))
  (λ b s'=>∃ H' M',L2.Inv X pins Z H' s' /\ ZV X.K M' H' /\ Step M H M' H' /\ Φ b M') X.xe s
def Zkq:DTT:=λ _ M Φ=>Φ true M
theorem Z7:DTs X [] Zkq:=λ pins s Z H Δ M Φ I dr er h=>wpAny_tests_nil ⟨H,M,I,dr,Step.refl,h⟩
theorem Pe {c:Expr} {τ:DTT} (hc:DT X c τ):DTs X [c] τ:=λ pins s Z H Δ M Φ I dr er h=>by
 obtain ⟨t,p,q⟩:=hc;refine wpAny_tests_one (thn (p pins s Z H (λ b H'=>∃ M',ZV X.K M' H' /\ Step M H M' H' /\ Φ b M') I (q Z H Δ M Φ _ dr er h λ b H' M' a c d=>⟨M',a,c,d⟩)) λ b s' h=>?_);obtain ⟨H',I',M',a,c,d⟩:=h;exact ⟨H',M',I',a,c,d⟩
def YlG (K:Fk) (J:It) (ds:List PyData) (G:Mp->Prop) (M:Mp) (H:Hp):Prop:=∀ M2 H2,Step M H M2 H2->ZV K M2 H2->G M2->∀ i,
 (i < ds.length->J.go i H2 /\ ∀ x H',J.yld i H2 x H'->ZV K M2 H2->ZV K M2 H' /\ Step M2 H2 M2 H' /\ ∃ d,ds[i]? = some d /\ Dt K M2 H' x d) /\ (ds.length <= i->J.stop i H2)
abbrev Lm:=DSt->Mp->(List PyData->(Mp->Prop)->Mp->Prop)->Prop
def DIG (X:Cx) (tg iter:Expr) (src:Lm):Prop:=∃ wi,PI X tg iter wi /\ ∀ Z H Δ M Ψ (R:It->Hp->Prop),ZV X.K M H->Jw X.K M H Z Δ->src Δ M Ψ ->
 (∀ J H' M' ds G,ZV X.K M' H'->Step M H M' H'->YlG X.K J ds G M' H'->Ψ ds G M'->R J H')->wi Z H R
section
set_option maxHeartbeats 2000000
abbrev RK (ds:List PyData) (G:Mp->Prop) (M1:Mp) (Δ:DSt) (ix:List (Option Nat)) (g:DTG) (tc:DTT) (te:DTE) (ψ:List PyData->Mp->Prop):Prop:=ds.length <= sizeLine /\ ∃ J:Nat->List PyData->Mp->Prop,(∀ i acc M',J i acc M'->G M') /\ J 0 [] M1 /\
 (∀ i d acc M',ds[i]? = some d->J i acc M'->g (.dat d) (Lu ix Δ) M' λ Δ2 M2=>tc Δ2 M2 λ b M3=>if b = true then te Δ2 M3 λ y M4=>onD y λ e=>J (i + 1) (acc ++ [e]) M4 else J (i + 1) acc M3) /\ ∀ acc M',J ds.length acc M'->ψ acc M'
theorem UE {elt:Expr} {ifs:List Expr} {pos ps:Pos} {src:Lm} {g:DTG} {tc:DTT} {te:DTE} {use:Option (Value->Sem Unit)} {QQ:Value->Shared->Prop} {ψ:List PyData->Mp->Prop} (ok:VP X scope N ix) (hi:DIG X tg iter src)
  (hg:∀ C ex s H,DG (Z0 X scope C N ex s H) tg g) (ht:∀ C ex s H,DTs (Z0 X scope C N ex s H) ifs tc) (he:∀ C ex s H,DE (Z0 X scope C N ex s H) elt te) (hc:X.calm = true)
  (hs:∀ x,foldedSetIterable iter X.env x = pure x) {Z:L2.St} {H:Hp} {Δ:DSt} {M:Mp} {pins:List (Addr × Obj)} {s:Shared} (dr:ZV X.K M H) (er:Jw X.K M H Z Δ) (h:src Δ M λ ds G M1=>RK ds G M1 Δ ix g tc te ψ) (I:L2.Inv X pins Z H s)
  (hfin:∀ (s4:Shared) (C D:Addr) (H':Hp) (M':Mp) (vs:List V) (acc:List PyData),L2.Inv X pins Z (upd H' D (.lst vs)) s4->H' D = none->ZV X.K M' H'->Step M H M' H'->Dts X.K M' H' vs acc->ψ acc M'->(∃ m,s4.heap.Ns C m)->HF X pins (upd H' D (.lst vs)) C ->
   compPost (model X.prog X.w) X.A X.xe use QQ (.ref D) C (.ok .next) s4) :
  wpAny (model X.prog X.w) X.A (comprehension (.ListComp elt [⟨tg,iter,ifs,0⟩] scope pos) scope X.env ps (newList []) false (eval iter X.env) use) QQ X.xe s:=by
 obtain ⟨wi,pi,qi⟩:=hi;refine wpAny_comprehension_free (use:=use) (cl:=Pt X.env scope.names []) rfl hs (Kz (Zfc ok I)) ok.kind ok.names ?_;show wpAny _ _ (eval iter X.env) _ _ s
 refine thn (pi pins s Z H (λ J H'=>∃ M' ds G,ZV X.K M' H' /\ Step M H M' H' /\ YlG X.K J ds G M' H' /\ ds.length <= sizeLine /\ ∃ W:Nat->List PyData->Mp->Prop,(∀ i acc M',W i acc M'->G M') /\ W 0 [] M' /\
   (∀ i d acc M',ds[i]? = some d->W i acc M'->g (.dat d) (Lu ix Δ) M' λ Δ2 M2=>tc Δ2 M2 λ b M3=>if b = true then te Δ2 M3 λ y M4=>onD y λ e=>W (i + 1) (acc ++ [e]) M4 else W (i + 1) acc M3) /\
   ∀ acc M',W ds.length acc M'->ψ acc M') I (qi Z H Δ M _ _ dr er h λ J H' M' ds G a b c d=>⟨M',ds,G,a,b,c,d⟩)) λ x s1 h1=>thn h1 λ itv s2 h2=>?_
 obtain ⟨it,fp,tn,J,H2,e,I2,T,st2,f2,M1,ds,G,dr1,stp,yl,hz,W,wg,w0,wt,wd⟩:=h2;subst e;have exo:∀ b ∈ fp,∃ o,s2.heap.get? b = some o:=λ b hb=>let ⟨o,q,_⟩:=T.obj 0 _ st2 b hb; ⟨o,q⟩;refine wpAny_newObj_type (wpAny_newFunctionEnv ok.cellF (by intro y hy; simp at hy) (λ h₁ hns₁ hsb₁=>?_) ok.kind);dsimp only at hns₁ hsb₁ ⊢;generalize hH2:s2.heap.push { cls:=.type "list",dict:=none,data:=.seq ([]:List Value).toArray } = HH at hns₁ hsb₁ ⊢;have hC:HH.objs.size = s2.heap.objs.size + 1:=by rw [<- hH2,Heap.size_push]
 have hDC:s2.heap.objs.size ≠ HH.objs.size:=by rw [hC]; exact Nat.ne_of_lt (Nat.lt_succ_self _)
 have hCle:s2.heap.objs.size <= HH.objs.size:=by rw [hC]; exact Nat.le_succ _
 have below:∀ b,b < s2.heap.objs.size->b ≠ HH.objs.size /\ b ≠ s2.heap.objs.size:=λ b hb=>⟨by rw [hC]; exact Nat.ne_of_lt (Nat.lt_succ_of_lt hb),Nat.ne_of_lt hb⟩;have old:∀ b o,s2.heap.get? b = some o->h₁.get? b = some o:=λ b o e=>hsb₁.extBut b o (below b (Heap.lt_size e)).1 (Heap.get?_push_of_some _ (hH2 ▸ Heap.get?_push_of_some _ e));have hacc:h₁.get? s2.heap.objs.size = some { cls:=.type "list",data:=.seq ([]:List Value).toArray }:=hsb₁.extBut _ _ hDC (Heap.get?_push_of_some _ (hH2 ▸ Heap.get?_push_size _ rfl));generalize hCC:HH.objs.size = C at *;generalize hDD:s2.heap.objs.size = D at hDC hacc below hCle;have hDs:s2.heap.objs.size <= D:=Nat.le_of_eq hDD;have hCs:s2.heap.objs.size <= C:=by rw [hDD]; exact hCle
 have fD:∀ b ∈ fp,b ≠ D /\ b ≠ C:=λ b hb=>by
  obtain ⟨o,q⟩:=exo b hb;exact ⟨(below b (by rw [<- hDD]; exact Heap.lt_size q)).2,(below b (by rw [<- hDD]; exact Heap.lt_size q)).1⟩
 have okY:(Z0 X scope C N fp s2 H2).Ok:=Hr ok I2 f2 exo hCs;have fsD:∀ b ∈ frs X.stack,b < s2.heap.objs.size:=λ b hb=>by
  obtain ⟨_,o,ho,_⟩:=I2.stack.mem hb;exact Heap.lt_size ho
 have cellD:∀ x c,(Z0 X scope C N fp s2 H2).env.cells.lookup x = some c->c < s2.heap.objs.size /\ H2 c = none:=λ x c e=>by
  have e':=(Q9 (Zfc ok I2) e).1;obtain ⟨v,q⟩:=I2.cell x c e';exact ⟨q.lt,I2.freeC x c e'⟩
 have fpY:∀ {H':Hp} {ps:List (Addr × Obj)},(∀ b ∈ fp,H' b = none)->(∀ p ∈ ps,p.1 = D)->∀ b ∈ fp,HF (Z0 X scope C N fp s2 H2) ps H' b:=λ {H' ps} hn hp b hb=>
  ⟨hn b hb,(fD b hb).2,okY.exfs b hb,.inl hb,(okY.exf b hb).2,λ p hp' z=>by
   have q:p ∈ ps:=hp';rw [hp p q] at z
   exact (fD b hb).1 z.symm⟩
 have onlyD:∀ (o:Obj),∀ p ∈ [(D,o)],p.1 = D:=λ o p hp=>by
  have q:p = (D,o):=by simpa using hp
  rw [q]
 have reloc:∀ {ps:List (Addr × Obj)} {σ':L2.St} {H':Hp} {s':Shared} {o:Obj},L2.Inv (Z0 X scope C N fp s2 H2) ps σ' H' s'->s'.heap.get? D = some o->H' D = none->(∀ v,o.data ≠ .cell v) ->
   L2.Inv (Z0 X scope C N fp s2 H2) [(D,o)] (VJ ix Z) H' s':=λ {ps σ' H' s' o} J' hD hn hd=>by
  obtain ⟨m,hm,_⟩:=J'.loc;refine ⟨J'.ok,J'.os,J'.bare,J'.base,⟨m,hm,λ i x v a b _=>Fq ok I2 f2 J'.base i x v a b⟩,J'.cell,J'.free,J'.freeC,λ p hp=>?_,J'.hok,?_⟩
  ·have q:p = (D,o):=by
    have z:p ∈ ([]:List (Addr × Obj)) ++ [(D,o)]:=hp
    simpa using z
   subst q;exact ⟨hD,hn,hDC,λ z=>absurd (fsD D z) (Nat.not_lt.mpr hDs),hd⟩
  ·show (VJ ix Z).length = N.length;unfold VJ;rw [List.length_map,ok.len]
 have start:L2.Inv (Z0 X scope C N fp s2 H2) [(D,{ cls:=.type "list",data:=.seq ([]:List Value).toArray })] (VJ ix Z) H2 { s2 with heap:=h₁,toks:=s2.toks + ([]:List (Str × Value)).length }:=by
  refine ⟨okY,rfl,I2.bare,Un.kept old,⟨_,hns₁,λ i x v a b _=>Fq ok I2 f2 (Un.kept old) i x v a b⟩,λ x c e=>?_,I2.hok.fresh hCs,λ x c e=>(cellD x c e).2,λ p hp=>?_,I2.hok.kept old,?_⟩
  ·obtain ⟨v,o,ho,hd⟩:=I2.cell x c (Q9 (Zfc ok I2) e).1;exact ⟨v,o,old c o ho,hd⟩
  ·have q:p = (D,{ cls:=.type "list",data:=.seq ([]:List Value).toArray }):=by
    have z:p ∈ ([]:List (Addr × Obj)) ++ [(D,{ cls:=.type "list",data:=.seq ([]:List Value).toArray })]:=hp
    simpa using z
   subst q;exact ⟨hacc,I2.hok.fresh hDs,hDC,λ z=>absurd (fsD D z) (Nat.not_lt.mpr hDs),λ v z=>nomatch z⟩
  ·show (VJ ix Z).length = N.length;unfold VJ;rw [List.length_map,ok.len]
 have loop:∀ s₃:Shared,s₃ = { s2 with heap:=h₁,toks:=s2.toks + ([]:List (Str × Value)).length } ->
   codeAny (model X.prog X.w) X.A (.compLoop (.ListComp elt [⟨tg,iter,ifs,0⟩] scope pos) 0 (.ref it) (.ref D) (compEnvC scope (Pt X.env scope.names []) C X.env)) (compPost (model X.prog X.w) X.A X.xe use QQ (.ref D) C) s₃:=by
  rintro s₃ rfl
  refine CF (λ n s'=>∃ (i:Nat) (acc:List PyData) (vs:List V) (its:List Value) (nn:Nat) (H':Hp) (M':Mp),L2.Inv (Z0 X scope C N fp s2 H2) [(D,{ cls:=.type "list",data:=.seq its.toArray nn })] (VJ ix Z) H' s' /\
   tn i s'.heap /\ (∀ b ∈ fp,H' b = none) /\ ZV X.K M' H' /\ Step M1 H2 M' H' /\ Vals vs its /\ Dts X.K M' H' vs acc /\ W i acc M' /\ i <= ds.length /\ acc.length <= i /\ n = ds.length - i) ?_ ds.length
   ⟨0,[],[],[],0,H2,M1,start,T.keep _ _ _ st2 (λ b _ o e=>old b o e),λ b hb=>(f2 b hb).1,dr1,Step.refl,.nil,.nil,w0,Nat.zero_le _,Nat.le_refl _,rfl⟩
  rintro n s' ⟨i,acc,vs,its,nn,H',M',IY,ti,fr,dr',stp',rv,rd,wi',hil,hal,rfl⟩;have pinD:=IY.pin (D,{ cls:=.type "list",data:=.seq its.toArray nn }) (by simp);have fok:=fpY (ps:=[(D,{ cls:=.type "list",data:=.seq its.toArray nn })]) fr (onlyD _);obtain ⟨ygo,ystop⟩:=yl M' H' stp' dr' (wg i acc M' wi') i
  by_cases hlt:i < ds.length
  ·obtain ⟨jgo,jyl⟩:=ygo hlt;refine thn (T.item (Z0 X scope C N fp s2 H2) rfl rfl rfl hc i _ s' (VJ ix Z) H' (λ _ _=>False) IY fok ti jgo) λ r s4 ⟨u,hr,h4⟩=>?_;subst hr;refine thn h4 λ _ s5 ⟨x,H5,I5,r5,y5,st5,fr5⟩=>?_;obtain ⟨dr5,stp5,d,hd,hxd⟩:=jyl x H5 y5 dr';replace dr':=dr5;replace stp':=stp'.trans stp5;replace rd:=rd.step stp5;have I5':=I5.pinned (fpY (ps:=[(D,{ cls:=.type "list",data:=.seq its.toArray nn })]) fr5 (onlyD _)) (T.obj _ _ st5);obtain ⟨tg',pg,qg⟩:=hg C fp s2 H2
   refine thn (pg _ s5 (VJ ix Z) H5 x u (λ σ6 H6=>∃ Δ6 M6,ZV X.K M6 H6 /\ Step M' H5 M6 H6 /\ Jw X.K M6 H6 σ6 Δ6 /\ tc Δ6 M6 λ b M3=>if b = true then te Δ6 M3 λ y M4=>onD y λ e=>W (i + 1) (acc ++ [e]) M4 else W (i + 1) acc M3) I5' r5
    (qg x (VJ ix Z) H5 (.dat d) (Lu ix Δ) M' _ _ dr' ((er.step (stp.trans stp')).cap ix) hxd (wt i d acc M' hd wi') λ σ6 H6 Δ6 M6 a b c d=>⟨Δ6,M6,a,b,c,d⟩)) λ _ s6 ⟨σ6,H6,I6,Δ6,M6,dr6,stp6,er6,q6⟩=>?_
   refine thn (ht C fp s2 H2 _ s6 σ6 H6 Δ6 M6 _ I6 dr6 er6 q6) λ b s7 ⟨H7,M7,I7,dr7,stp7,q7⟩=>?_;have keepD:∀ {σz:L2.St} {Hz:Hp} {sz:Shared},L2.Inv (Z0 X scope C N fp s2 H2) ([(D,{ cls:=.type "list",data:=.seq its.toArray nn })] ++ Bu fp s5.heap) σz Hz sz ->
     sz.heap.get? D = some { cls:=.type "list",data:=.seq its.toArray nn } /\ Hz D = none /\ tn (i + 1) sz.heap /\ ∀ b ∈ fp,Hz b = none:=λ {σz Hz sz} Iz=>by
    have a:=Iz.pin (D,{ cls:=.type "list",data:=.seq its.toArray nn }) (by simp);refine ⟨a.1,a.2.1,T.keep _ _ _ st5 λ b hb o e=>(Iz.pin (b,o) (List.mem_append_right _ (List.mem_append_right _ (V2 hb e)))).1,λ b hb=>?_⟩;obtain ⟨o,e,_⟩:=T.obj _ _ st5 b hb;exact (Iz.pin (b,o) (List.mem_append_right _ (List.mem_append_right _ (V2 hb e)))).2.1
   cases b with
   | false=>
    have q7':W (i + 1) acc M7:=by simpa using q7
    obtain ⟨a1,a2,a3,a4⟩:=keepD I7;have st17:Step M' H5 M7 H7:=stp6.trans stp7;exact ⟨ds.length - (i + 1),by omega,i + 1,acc,vs,its,nn,H7,M7,reloc I7 a1 a2 (λ v z=>nomatch z),a3,a4,dr7,stp'.trans st17,rv,rd.step st17,q7',hlt,by omega,rfl⟩
   | true=>
    have q7':te Δ6 M7 λ y M4=>onD y λ e=>W (i + 1) (acc ++ [e]) M4:=by simpa using q7
    obtain ⟨te',pe',qe'⟩:=he C fp s2 H2
    refine thn (pe' _ s7 σ6 H7 (λ v H8=>∃ e M8,ZV X.K M8 H8 /\ Step M7 H7 M8 H8 /\ Dt X.K M8 H8 v e /\ W (i + 1) (acc ++ [e]) M8) I7 (qe' σ6 H7 Δ6 M7 _ _ dr7 (er6.step stp7) q7' λ v H8 x8 M8 a b c d=>by
     replace d:=ZY d;obtain ⟨e,rfl,w8⟩:=d
     exact ⟨e,M8,a,b,c,w8⟩)) λ y s8 ⟨v,H8,I8,r8,e,M8,dr8,stp8,dv8,w8⟩=>?_
    obtain ⟨a1,a2,a3,a4⟩:=keepD I8;have st18:Step M' H5 M8 H8:=stp6.trans (stp7.trans stp8);have lv:=rv.length;have ld:=rd.length;refine call_meets PySem.F.slot_list_append ⟨_,a1,rfl⟩ PySem.F.entry_list_append (PySem.F.args_list_append_2 _ _) (PySem.list_append D its.toArray nn y (by rw [List.size_toArray]; omega)) ⟨a1,?_⟩;have q:=PySem.IsL.update a1 (·.push y);have I8':L2.Inv (Z0 X scope C N fp s2 H2) [] σ6 H8 s8:=I8.Xi λ p hp=>nomatch hp;have I9:=I8'.turned (it:=D) (h':=s8.heap.update D (Obj.mapSeq (·.push y))) (t':=s8.toks) (λ b o hb hu=>(Heap.get?_update_other s8.heap (Obj.mapSeq (·.push y)) (Ne.symm hb)).trans hu) a2 hDC (.inr hDs)
     (λ x c e z=>absurd (z ▸ (cellD x c e).1) (Nat.not_lt.mpr hDs)) (λ p hp=>by have z:p ∈ ([]:List (Addr × Obj)) ++ []:=hp; simp at z)
    have ea:(its.toArray.push y) = (its ++ [y]).toArray:=by simp
    rw [ea] at q
    refine ⟨ds.length - (i + 1),by omega,i + 1,acc ++ [e],vs ++ [v],its ++ [y],_,H8,M8,reloc I9 q a2 (λ v z=>nomatch z),T.keep _ _ _ a3 (λ b hb o e=>(Heap.get?_update_other s8.heap (Obj.mapSeq (·.push y)) (Ne.symm (fD b hb).1)).trans e),a4,dr8,stp'.trans st18,
     rv.append (.cons r8 .nil),(rd.step st18).append (.cons dv8 .nil),w8,hlt,by rw [List.length_append,List.length_singleton]; omega,rfl⟩
  ·have hie:i = ds.length:=by omega
   refine thn (T.done (Z0 X scope C N fp s2 H2) rfl rfl rfl hc i _ s' (VJ ix Z) H' (λ _ _=>False) IY fok ti (ystop (by omega))) λ r s4 ⟨hr,I4⟩=>?_;subst hr;obtain ⟨m4,hm4,_⟩:=I4.loc;have pD:=I4.pin (D,{ cls:=.type "list",data:=.seq its.toArray nn }) (by simp);have hCn:H' C = none:=I4.free;have hDn:H' D = none:=pD.2.1;have hok4:HOk X.prog X.w (upd H' D (.lst vs)) s4.heap:=λ b u e=>by
    by_cases hb:b = D
    ·subst hb;rw [Zz] at e;cases e;exact ⟨by have:=rv.length; have:=rd.length; omega,its,nn,rv,pD.1⟩
    ·rw [Zv hb] at e;refine (I4.hok b u e).HQ (λ c v hc' q=>q) (λ c q=>?_) λ c xs q=>?_
     ·rw [Zv (ZO q pD.2.1)]; exact q
     ·rw [Zv (ZO q pD.2.1)]; exact q
   have bu:Un (frs X.stack) fp H2 H' s2.heap s4.heap:=I4.base;have un4:Un (frs X.stack) fp H2 (upd H' D (.lst vs)) s2.heap s4.heap:=by
    have nD:∀ b o,s2.heap.get? b = some o->b ≠ D /\ b ≠ C:=λ b o e=>⟨λ z=>absurd (z ▸ Heap.lt_size e) (Nat.not_lt.mpr hDs),λ z=>absurd (z ▸ Heap.lt_size e) (Nat.not_lt.mpr hCs)⟩;refine ⟨λ b o e n hb hx=>bu.keep b o e n hb hx,λ b o e n hb hx=>bu.slot b o e n hb hx,λ b o e n hx=>by rw [Zv (nD b o e).1]; exact bu.free b o e n hx,λ b o e hx=>bu.there b o e hx,λ b xs e=>?_,λ b o xs e=>?_,λ b ps e=>?_⟩
    ·have q:=bu.tups b xs e;rw [Zv (ZO q pD.2.1)]; exact q
    ·have q:=bu.frzs b o xs e;rw [Zv (ZO q pD.2.1)]; exact q
    ·obtain ⟨mo,q⟩:=bu.tbls b ps e;exact ⟨mo,by rw [Zv (ZO q pD.2.1)]; exact q⟩
   have os4:s4.os = s2.os:=I4.os;have IX:L2.Inv X pins Z (upd H' D (.lst vs)) s4:=I2.Zhg (s':=s4) os4 un4 hok4 I4.bare λ b hb=>⟨(f2 b hb).2.2.2.1,(f2 b hb).2.1,(f2 b hb).2.2.2.2.1,(f2 b hb).2.2.2.2.2⟩;subst hie;exact hfin s4 C D H' M' vs acc IX hDn dr' (stp.trans stp') rd (wd acc M' wi') ⟨m4,hm4⟩ (I2.ZaQ hCs (by rw [Zv (Ne.symm hDC)]; exact hCn))
 have hst₁:tn 0 h₁:=T.keep _ _ _ st2 λ b _ o e=>old b o e;exact codeAny_compStart_list (loop _ rfl) (T.self _ 0 _ _ _ hst₁ (loop _ rfl))
theorem ZfZ {m:Str->Option Value} (n:h.Ns C m) (k:∀ o,h.get? C = some o->h'.get? C = some o):h'.Ns C m:=by
 obtain ⟨o,es,ep,ho,r⟩:=n;exact ⟨o,es,ep,k o ho,r⟩
theorem gone {Z:L2.St} {s:Shared} (I:L2.Inv X pins Z H s) (f:HF X pins H C) (hsb:Heap.SameBut C s.heap h'):L2.Inv X pins Z H { s with heap:=h' }:=
 I.turned (t':=s.toks) (λ b o hb e=>hsb.extBut b o hb e) f.1 f.2.1 f.2.2.2.1 f.2.2.2.2.1 f.2.2.2.2.2
theorem ZgI {ow:Bool} {Φ:DK} {Q:VK} {D:Addr} {acc:List PyData} (dr':ZV X.K M' H') (st:Step M H M' H') (rd:Dts X.K M' H' vs acc) (hDn:H' D = none) (fin:FT ow Φ acc M') (k:Rch X.K M H Φ Q):Q (.ref D) (upd H' D (.lst vs)):=by
 cases ow with
 | true=>
  have fin':∀ p,M' p = none->Φ (.own p) (ZR M' p (.lst acc)):=by simpa [FT] using fin
  exact k _ _ (.own D) _ (dr'.Wg (Step.QW hDn) rd) (st.trans (Step.QW hDn)) rfl (fin' D (dr'.tracked hDn))
 | false=>
  have fin':Φ (.dat (.list acc)) M':=by simpa [FT] using fin
  exact k.dat (dr'.new hDn) (st.trans (Step.new hDn)) (Dt.KY dr' hDn rd) fin'
def FP (ow:Bool) (src:Lm) (ix:List (Option Nat)) (g:DTG) (tc:DTT) (te:DTE):DTE:=λ Δ M Φ=>src Δ M λ ds G M1=>ds.length <= sizeLine /\ ∃ J:Nat->List PyData->Mp->Prop,(∀ i acc M',J i acc M'->G M') /\ J 0 [] M1 /\
 (∀ i d acc M',ds[i]? = some d->J i acc M'->g (.dat d) (Lu ix Δ) M' λ Δ2 M2=>tc Δ2 M2 λ b M3=>if b = true then te Δ2 M3 λ y M4=>onD y λ e=>J (i + 1) (acc ++ [e]) M4 else J (i + 1) acc M3) /\ ∀ acc M',J ds.length acc M'->FT ow Φ acc M'
theorem PK (ow:Bool) {elt:Expr} {ifs:List Expr} {pos:Pos} {src:Lm} {g:DTG} {tc:DTT} {te:DTE} (ok:VP X scope N ix) (hi:DIG X tg iter src)
  (hg:∀ C ex s H,DG (Z0 X scope C N ex s H) tg g) (ht:∀ C ex s H,DTs (Z0 X scope C N ex s H) ifs tc) (he:∀ C ex s H,DE (Z0 X scope C N ex s H) elt te) (hc:X.calm = true)
  (hs:autoParam (∀ x,foldedSetIterable iter X.env x = pure x) zz2._auto_1):DE X (.ListComp elt [⟨tg,iter,ifs,0⟩] scope pos) (FP ow src ix g tc te):=by
 refine ⟨λ Z H Q=>∀ pins s,L2.Inv X pins Z H s->wpAny (model X.prog X.w) X.A (eval (.ListComp elt [⟨tg,iter,ifs,0⟩] scope pos) X.env) (EP X pins Z Q) X.xe s,λ pins s Z H Q I h=>h pins s I,λ Z H Δ M Φ Q dr er h k pins s I=>?_⟩;rw [eval_ListComp];refine UE (ψ:=FT ow Φ) ok hi hg ht he hc hs dr er h I λ s4 C D H' M' vs acc IX hDn dr' st rd fin hm f=>?_;obtain ⟨m,hm⟩:=hm;exact ⟨m,hm,λ h' hsb=>⟨.ref D,_,gone IX f hsb,rfl,ZgI dr' st rd hDn fin k⟩⟩
theorem Td (i:Nat) (ow:Bool) {x:Str} {pos' spos:Pos} (hN:X.N.Nodup) {elt:Expr} {ifs:List Expr} {pos:Pos} {src:Lm} {g:DTG} {tc:DTT} {te:DTE} (ok:VP X scope N ix) (hi:DIG X tg iter src)
  (hg:∀ C ex s H,DG (Z0 X scope C N ex s H) tg g) (ht:∀ C ex s H,DTs (Z0 X scope C N ex s H) ifs tc) (he:∀ C ex s H,DE (Z0 X scope C N ex s H) elt te) (hc:X.calm = true)
  (hs:autoParam (∀ x,foldedSetIterable iter X.env x = pure x) zz2._auto_1) (hin:autoParam (X.N[i]? = some x) zz3._auto_1) (hx:autoParam (Loc X.env.scope x) zz8._auto_1)
  (hsw:autoParam (swapsWith (.ListComp elt [⟨tg,iter,ifs,0⟩] scope pos) (some (.Name x pos')) spos.line X.env = pure true) zz3._auto_1)
  (hf:autoParam (X.fn x = true \/ X.env.scope.names.lookup x = some .local) zz0._auto_1) :
  DS X (.Assign [.Name x pos'] (.ListComp elt [⟨tg,iter,ifs,0⟩] scope pos) spos) (ZeQ (FP ow src ix g tc te) (W9 i)):=by
 refine ⟨λ E Z H=>∀ pins s,L2.Inv X pins Z H s->wpAny (model X.prog X.w) X.A (exec (.Assign [.Name x pos'] (.ListComp elt [⟨tg,iter,ifs,0⟩] scope pos) spos) X.env) (SP X pins E) X.xe s,λ pins s Z H E I h=>h pins s I,λ Z H Δ M D E dr er h k pins s I=>?_⟩;rw [exec_Assign_Name_used _ _ _ _ hsw];refine wpAny_bind (wpAny_standAt (wpAny_bind ?_));show wpAny _ _ (do let _ <- comprehension (.ListComp elt [⟨tg,iter,ifs,0⟩] scope pos) scope X.env _ (newList []) false (eval iter X.env) (some (assign (.Name x pos') X.env))) _ _ s
 refine wpAny_bind (wpAny_mono (UE (QQ:=λ _ s'=>SP X pins E .next s') (use:=some (assign (.Name x pos') X.env)) (ψ:=FT ow λ y M1=>D.nx (Δ.set i (some y)) M1) ok hi hg ht he hc hs dr er h I λ s4 C DD H' M' vs acc IX hDn dr' st rd fin hm f=>?_)
  (λ _ s' hq=>wpAny_pure (wpAny_pure hq)) λ _ _ e=>e)
 obtain ⟨m,hm⟩:=hm;have hm0:=hm;obtain ⟨oC,es,ep,hoC,hr1,hr2⟩:=hm0;have IP:L2.Inv X (pins ++ [(C,oC)]) Z (upd H' DD (.lst vs)) s4:=IX.Xi λ p hp=>by
  rcases List.mem_append.mp hp with hp | hp
  ·exact IX.pin p (List.mem_append_right _ hp)
  ·rw [List.mem_singleton.mp hp];exact ⟨hoC,f.1,f.2.1,f.2.2.1,λ v z=>nomatch (hr1.symm.trans z)⟩
 have nxt:∀ Q':L2.St->Hp->Prop,(Q' (Z.set i (some (.ref DD))) (upd H' DD (.lst vs)))->wpAny (model X.prog X.w) X.A (assign (.Name x pos') X.env (.ref DD)) (λ _ s'=>∃ σ' H',L2.Inv X (pins ++ [(C,oC)]) σ' H' s' /\ Q' σ' H') X.xe s4:=λ Q' hq=>
  NZ (pos:=pos') hN hin hx hf _ s4 Z _ (.ref DD) (.ref DD) Q' IP rfl hq
 have kq:E.nx (Z.set i (some (.ref DD))) (upd H' DD (.lst vs)):=by
  cases ow with
  | true=>
   have fin':∀ p,M' p = none->D.nx (Δ.set i (some (.own p))) (ZR M' p (.lst acc)):=by simpa [FT] using fin
   have st2:Step M H (ZR M' DD (.lst acc)) (upd H' DD (.lst vs)):=st.trans (Step.QW hDn);exact k.nx _ _ _ _ (dr'.Wg (Step.QW hDn) rd) st2 ((er.step st2).set (v:=.ref DD) (x:=.own DD) rfl) (fin' DD (dr'.tracked hDn))
  | false=>
   have fin':D.nx (Δ.set i (some (.dat (.list acc)))) M':=by simpa [FT] using fin
   have st2:Step M H M' (upd H' DD (.lst vs)):=st.trans (Step.new hDn);exact k.nx _ _ _ _ (dr'.new hDn) st2 ((er.step st2).set (v:=.ref DD) (x:=.dat (.list acc)) (Dt.KY dr' hDn rd)) fin'
 show wpAny _ _ (assign (.Name x pos') X.env (.ref DD)) _ _ s4;refine thn (nxt (λ σ' H'=>σ' = Z.set i (some (.ref DD)) /\ E.nx σ' H') ⟨rfl,kq⟩) λ _ s5 ⟨σ5,H5,I5,_,q5⟩=>?_;have p5:=I5.pin (C,oC) (by simp);refine ⟨m,ZfZ hm λ o ho=>?_,λ h' hsb=>⟨σ5,H5,?_,q5⟩⟩
 ·rw [hoC] at ho;cases ho;exact p5.1
 ·have I6:L2.Inv X pins σ5 H5 s5:=I5.Xi λ p hp=>I5.pin p (List.mem_append_right _ (List.mem_append_left _ hp));exact gone I6 ⟨p5.2.1,f.2⟩ hsb
def toG (src:X1):Lm:=λ Δ M Ψ=>src Δ M λ ds M1=>Ψ ds (λ _=>True) M1
theorem DI.toG {src:X1} (h:DI X tg iter src):DIG X tg iter (toG src):=by
 obtain ⟨wi,p,q⟩:=h;exact ⟨wi,p,λ Z H Δ M Ψ R dr er hs k=>q Z H Δ M _ R dr er hs λ J H' M' ds a b c d=>k J H' M' ds _ a b (λ M2 H2 st _ _=>c M2 H2 st) d⟩
theorem Oq (ow:Bool) (src:X1) (ix:List (Option Nat)) (g:DTG) (tc:DTT) (te:DTE):HI ow src ix g tc te = FP ow (toG src) ix g tc te:=by
 funext Δ M Φ
 unfold HI FP toG;simp only [implies_true,true_and]
theorem Qr (ow:Bool) {elt:Expr} {ifs:List Expr} {pos:Pos} {src:X1} {g:DTG} {tc:DTT} {te:DTE} (ok:VP X scope N ix) (hi:DI X tg iter src)
  (hg:∀ C ex s H,DG (Z0 X scope C N ex s H) tg g) (ht:∀ C ex s H,DTs (Z0 X scope C N ex s H) ifs tc) (he:∀ C ex s H,DE (Z0 X scope C N ex s H) elt te) (hc:X.calm = true)
  (hs:autoParam (∀ x,foldedSetIterable iter X.env x = pure x) zz2._auto_1):DE X (.ListComp elt [⟨tg,iter,ifs,0⟩] scope pos) (HI ow src ix g tc te):=by
 rw [Oq];exact PK ow ok hi.toG hg ht he hc hs
theorem Wt (i:Nat) (ow:Bool) {x:Str} {pos' spos:Pos} (hN:X.N.Nodup) {elt:Expr} {ifs:List Expr} {pos:Pos} {src:X1} {g:DTG} {tc:DTT} {te:DTE} (ok:VP X scope N ix) (hi:DI X tg iter src)
  (hg:∀ C ex s H,DG (Z0 X scope C N ex s H) tg g) (ht:∀ C ex s H,DTs (Z0 X scope C N ex s H) ifs tc) (he:∀ C ex s H,DE (Z0 X scope C N ex s H) elt te) (hc:X.calm = true)
  (hs:autoParam (∀ x,foldedSetIterable iter X.env x = pure x) zz2._auto_1) (hin:autoParam (X.N[i]? = some x) zz3._auto_1) (hx:autoParam (Loc X.env.scope x) zz8._auto_1)
  (hsw:autoParam (swapsWith (.ListComp elt [⟨tg,iter,ifs,0⟩] scope pos) (some (.Name x pos')) spos.line X.env = pure true) zz3._auto_1)
  (hf:autoParam (X.fn x = true \/ X.env.scope.names.lookup x = some .local) zz0._auto_1) :
  DS X (.Assign [.Name x pos'] (.ListComp elt [⟨tg,iter,ifs,0⟩] scope pos) spos) (ZeQ (HI ow src ix g tc te) (W9 i)):=by
 rw [Oq];exact Td i ow hN ok hi.toG hg ht he hc hs hin hx hsw hf
end
def Yj (xs:List DV) (M:Mp) (ns:List Int):Prop:=xs = [.dat (.list (ns.map PyData.int))] \/ ∃ l,xs = [.own l] /\ M l = some (.lst (ns.map PyData.int))
theorem Yj.sq {xs:List DV} {ns:List Int} (h:Yj xs M ns) (r:ZV X.K M H) (rv:Yf X.K M H vs xs):∃ p,vs = [.ref p] /\ SqL X.K H p (ns.map V.int):=by
 rcases h with rfl | ⟨l,rfl,hm⟩
 ·obtain ⟨v,rfl,h1⟩:=Paired.one rv;obtain ⟨p,ys,rfl,g1,g2⟩:=QA.lst h1;rw [Y7 g2] at g1;exact ⟨p,rfl,g1.sq⟩
 ·obtain ⟨v,rfl,h1⟩:=Paired.one rv;cases (show v = .ref l from h1);obtain ⟨ws,g1,g2⟩:=r.ls l _ hm;rw [Y7 g2] at g1;exact ⟨l,rfl,SqL.of g1⟩
def Zed:D1:=λ xs M Φ=>∃ ns:List Int,Yj xs M ns /\ ns.length < 64 /\ ∀ ns':List Int,ns'.Perm ns->ns'.Pairwise (· <= ·)->Φ (.dat (.list (ns'.map PyData.int))) M
theorem Ol (hc:X.calm = true):JI X (.builtin "max") (λ xs H Q=>∃ (p:Addr) (ns:List Int),xs = [.ref p] /\ SqL X.K H p (ns.map V.int) /\ 0 < ns.length /\ ∀ m ∈ ns,(∀ a ∈ ns,a <= m)->Q (.int m) H):=by
 intro pins s Z H xs us Q I r h;obtain ⟨p,ns,rfl,hq,h0,q⟩:=h;obtain ⟨u,rfl,rx⟩:=vals1 r;cases rx;obtain ⟨its,rv,pl,hz⟩:=I.list hq;have hi:IntsAre its ns:=intsAre_of rv;obtain ⟨xs,e⟩:=hi.allInts.items;have hns:ns = xs.toList.map (·.1):=by rw [<- hi.numsOf,<- nums_intItems,<- e]
 have hsz:0 < xs.size:=by
  have h3:=h0; rw [hns,List.length_map,Array.length_toList] at h3; exact h3
 have hl:=pl.isList;rw [e] at hl;refine max_intList (I.ok.hd hc) hl hsz λ v h' tk hv hk=>?_;obtain ⟨t,rfl⟩:=intItems_at hv;obtain ⟨h1,h2⟩:=argBest_gt (numAt xs) (xs.size - 1);refine ⟨.int _,H,I.kept hk,⟨t,rfl⟩,q _ ?_ λ a ha=>?_⟩
 ·rw [hns,numAt_eq]; exact getD_mem (by rw [List.length_map,Array.length_toList]; omega)
 ·rw [hns] at ha;obtain ⟨j,hj,rfl⟩:=mem_getD ha;rw [List.length_map,Array.length_toList] at hj;rw [<- numAt_eq]; exact h2 j (by omega)
def Zhy:D1:=λ xs M Φ=>∃ ns:List Int,Yj xs M ns /\ 0 < ns.length /\ ∀ m ∈ ns,(∀ a ∈ ns,m <= a)->Φ (.dat (.int m)) M
def Zax:D1:=λ xs M Φ=>∃ ns:List Int,Yj xs M ns /\ 0 < ns.length /\ ∀ m ∈ ns,(∀ a ∈ ns,a <= m)->Φ (.dat (.int m)) M
theorem ZcA (hc:X.calm = true):VM X (.builtin "max") Zax:=by
 refine ⟨_,Ol hc,λ vs H xs M Φ Q r rv h k=>?_⟩;obtain ⟨ns,hx,h0,q⟩:=h;obtain ⟨p,rfl,hs⟩:=hx.sq r rv;exact ⟨p,ns,rfl,hs,h0,λ m a b=>k.dat r Step.refl (Dt.int m) (q m a b)⟩
theorem Paired.three {α β:Type} {F:α->β->Prop} {l:List α} {b c d:β} (h:Paired F l [b,c,d]):∃ a a' a'',l = [a,a',a''] /\ F a b /\ F a' c /\ F a'' d:=by
 cases h with
 | cons h1 h2=>
  obtain ⟨a,a',rfl,h3,h4⟩:=Paired.two h2;exact ⟨_,a,a',rfl,h1,h3,h4⟩
def δ3I (g:Int->Int->Int->Int):D1:=λ xs M Φ=>on3 xs λ x y z=>onI x λ i=>onI y λ j=>onI z λ l=>Φ (.dat (.int (g i j l))) M
theorem LZ (hc:X.calm = true):JI X (.builtin "max") (λ xs H Q=>∃ i j l,xs = [.int i,.int j,.int l] /\ Q (.int (max i (max j l))) H):=by
 intro pins s Z H xs us Q I r h;obtain ⟨i,j,l,rfl,q⟩:=h;obtain ⟨u,hu⟩:∃ u,us = u:=⟨us,rfl⟩
 cases r with
 | cons r1 r2=>
  obtain ⟨u2,u3,rfl,r3,r4⟩:=vals2 r2;obtain ⟨t1,rfl⟩:=r1;obtain ⟨t2,rfl⟩:=r3;obtain ⟨t3,rfl⟩:=r4;refine max_three_ints (I.ok.hd hc) λ h' tk k=>⟨.int (max i (max j l)),H,I.kept k,?_,q⟩
  by_cases c1:j > i
  ·rw [if_pos c1]
   by_cases c2:l > j
   ·rw [if_pos c2]; exact ⟨t3,by rw [show max i (max j l) = l by lia]⟩
   ·rw [if_neg c2]; exact ⟨t2,by rw [show max i (max j l) = j by lia]⟩
  ·rw [if_neg c1]
   by_cases c2:l > i
   ·rw [if_pos c2]; exact ⟨t3,by rw [show max i (max j l) = l by lia]⟩
   ·rw [if_neg c2]; exact ⟨t1,by rw [show max i (max j l) = i by lia]⟩
theorem Zb2 (hc:X.calm = true):VM X (.builtin "max") (δ3I λ i j l=>max i (max j l)):=by
 refine ⟨_,LZ hc,λ vs H xs M Φ Q r rv h k=>?_⟩;replace h:=YL h;obtain ⟨x,y,z,rfl,h⟩:=h;replace h:=ZX h;obtain ⟨i,rfl,h⟩:=h;replace h:=ZX h;obtain ⟨j,rfl,h⟩:=h;replace h:=ZX h;obtain ⟨l,rfl,q⟩:=h;obtain ⟨v,u,w',rfl,h1,h2,h3⟩:=Paired.three rv;exact ⟨i,j,l,by rw [QA.int h1,QA.int h2,QA.int h3],k.dat r Step.refl (Dt.int _) q⟩
def MP:D1:=λ xs M Φ=>on1 xs λ x=>onQ x M λ ds=>Φ (.dat (.tuple ds)) M
theorem Qz:VM X (.type "tuple") MP:=by
 refine ⟨_,Gu,λ vs H xs M Φ Q r rv h k=>?_⟩;replace h:=Zp h;obtain ⟨x,rfl,h⟩:=h;replace h:=Ox h;obtain ⟨ds,hx,q⟩:=h;have hx':x = .dat (.list ds) \/ x = .dat (.tuple ds) \/ ∃ l,x = .own l /\ M l = some (.lst ds):=by
  rcases hx with a | a | a
  ·exact .inr (.inl a)
  ·exact .inl a
  ·exact .inr (.inr a)
 rcases hx' with rfl | rfl | ⟨l,rfl,hm⟩
 ·obtain ⟨v,rfl,h1⟩:=Paired.one rv;obtain ⟨p,ys,rfl,g1,g2⟩:=QA.lst h1;exact ⟨p,ys,rfl,.inl ⟨g1.sq,λ l hl=>k.dat (r.new hl) (Step.new hl) (Dt.Ko r hl g2) q⟩⟩
 ·obtain ⟨v,rfl,h1⟩:=Paired.one rv;obtain ⟨p,ys,rfl,g1,g2⟩:=QA.tup h1;exact ⟨p,ys,rfl,.inr ⟨g1.sq,k.dat r Step.refl (Dt.tup g1 g2) q⟩⟩
 ·obtain ⟨v,rfl,h1⟩:=Paired.one rv;cases (show v = .ref l from h1);obtain ⟨ws,g1,g2⟩:=r.ls l _ hm;exact ⟨l,ws,rfl,.inl ⟨SqL.of g1,λ l hl=>k.dat (r.new hl) (Step.new hl) (Dt.Ko r hl g2) q⟩⟩
theorem Zbw (hu:X.A.units + 66 < cLine):OpR X (compareOp .In) (λ x y H Q=>∃ M d ds,Dt X.K M H x d /\ (Dt X.K M H y (.list ds) \/ Dt X.K M H y (.tuple ds)) /\ d.canLay0 = true /\ PyData.canLayAll0 ds = true /\ d.depth <= 64 /\ Q (.bl (ds.any λ e=>PyData.eqv e d)) H):=by
 intro pins s Z H x y v u Q I rx ry h;obtain ⟨M,d,ds,h1,h2,c1,c2,hdp,q⟩:=h;obtain ⟨as,ra,_⟩:=h1.reads I rx
 rcases h2 with h2 | h2
 ·obtain ⟨bs,rb,_⟩:=h2.reads I ry;exact PySem.SeqAt.in_list_reads rb ra c2 c1 (by have:=Nat.min_le_right (PyData.depthAll ds) d.depth; lia) ⟨.bl _,H,I,rfl,q⟩
 ·obtain ⟨bs,rb,_⟩:=h2.reads I ry;exact PySem.SeqAt.in_tuple_reads rb ra c2 c1 (by have:=Nat.min_le_right (PyData.depthAll ds) d.depth; lia) ⟨.bl _,H,I,rfl,q⟩
def onW (x:DV) (P:List PyData->Prop):Prop:=match x with | .dat (.tuple ds)=>P ds | .dat (.list ds)=>P ds | _=>False
theorem ZfU {x:DV} {P:List PyData->Prop} (h:onW x P):∃ ds,(x = .dat (.list ds) \/ x = .dat (.tuple ds)) /\ P ds:=by
 unfold onW at h
 split at h
 ·exact ⟨_,.inr rfl,h⟩
 ·exact ⟨_,.inl rfl,h⟩
 ·exact h.elim
noncomputable def okIn (d:PyData) (ds:List PyData):Bool:=d.canLay0 && PyData.canLayAll0 ds && Nat.ble d.depth 64
theorem L6 (h:okIn d ds = true):d.canLay0 = true /\ PyData.canLayAll0 ds = true /\ d.depth <= 64:=by
 unfold okIn at h;simp only [Bool.and_eq_true] at h;exact ⟨h.1.1,h.1.2,Nat.le_of_ble_eq_true h.2⟩
def δIn:D2:=λ x y M Φ=>onD x λ d=>onW y λ ds=>okIn d ds = true /\ Φ (.dat (.bool (ds.any λ e=>PyData.eqv e d))) M
theorem ZfE {k:Nat} (hr:JT k X.A):OpD X (compareOp .In) δIn:=
 ⟨_,Zbw (by have:=hr.un; lia),λ v u H x y M Φ Q r rv ru h k=>by
  obtain ⟨d,e1,h⟩:=ZY h;obtain ⟨ds,e2,ho,q⟩:=ZfU h;obtain ⟨c1,c2,hdp⟩:=L6 ho;subst e1;refine ⟨M,d,ds,rv,?_,c1,c2,hdp,k.dat r Step.refl (Dt.bl _) q⟩
  rcases e2 with rfl | rfl
  ·exact .inl ru
  ·exact .inr ru⟩
def Zcz (to te:DTE):DTE:=λ Δ M Φ=>to Δ M λ x M1=>onO x λ l=>Va (M1 l) λ _=>te Δ M1 λ y M2=>onO y λ b=>Va (M2 l) λ ds=>Va (M2 b) λ es=>b ≠ l /\ ds.length + es.length <= sizeLine /\ Φ (.dat .none) (YI (ZR M2 l (.lst (ds ++ es))) b)
theorem Ti {a b:Expr} {body:List Stmt} {g:DTG} {tb:DTS} {pos:Pos} {ta:DTA} {p p2:Pos} (hg0:Gl X "range") (hm:X.mg "range" = none) (ha:DA X [a,b] ta) (hg:DG X tg g) (hb:DSs X body tb) (hp:PassesOwn (model X.prog X.w) X.A X.env X.xe) (hc:X.calm = true)
  (hs:autoParam (starEach [a,b] X.env = [(false,eval a X.env),(false,eval b X.env)]) zz3._auto_1) (hs':autoParam (starEach [b] X.env = [(false,eval b X.env)]) zz3._auto_1) (hs2:autoParam (∀ x,foldedSetIterable (.Call (.Name "range" p) [a,b] [] p2) X.env x = pure x) zz2._auto_1) :
  DS X (.For tg (.Call (.Name "range" p) [a,b] [] p2) body [] pos) (Zav ta g tb):=by
 obtain ⟨t1,p1,q1⟩:=ha;obtain ⟨t2,p2,q2⟩:=hg;obtain ⟨t3,p3,q3⟩:=hb;refine ⟨_,E6 hp hc (G9 hg0 hm p1 hs hs') p2 p3 hs2,λ Z H Δ M D E r e h k=>?_⟩;refine q1 Z H Δ M _ _ r e h λ vs H1 xs M1 r1 st rv hx=>?_;replace hx:=Qk hx;obtain ⟨xx,yy,rfl,hx⟩:=hx;replace hx:=ZX hx;obtain ⟨i,rfl,hx⟩:=hx;replace hx:=ZX hx;obtain ⟨j,rfl,⟨⟨a1,a2⟩,a3,a4⟩,hx⟩:=hx;have h1:-(2 ^ 62) <= i /\ i < 2 ^ 62 /\ -(2 ^ 62) <= j /\ j < 2 ^ 62:=⟨a1,a2,a3,a4⟩
 obtain ⟨v,u,rfl,hv,hu⟩:=Paired.two rv;exact ⟨i,j,by rw [QA.int hv,QA.int hu],h1,ZaD q2 q3 r1 (e.step st) hx (k.step st)⟩
def Zk1 (te:DTE) (tl th:DTO):DTE:=λ Δ M Φ=>te Δ M λ x M1=>tl Δ M1 λ l M2=>th Δ M2 λ u M3=>onL x λ ds=>Φ (.dat (.list (cutD ds l u))) M3
noncomputable def Rm (scope sc:Scope):List (Str × NameKind):=scope.names.map λ (n,k)=>if (k == .free && sc.kind == .function && sc.names.lookup n == some .cell) then (n,.cell) else (n,k)
noncomputable def ZhE (sc:Scope) (XN:List Str) (scope:Scope) (N:List Str) (ix:List (Option Nat)) (j:Nat):Bool:=
 match N[j]?,ix[j]? with
 | some x,some (some i)=>decide (XN[i]? = some x) && (decide ((x,NameKind.free) ∈ scope.names) && decide ((Rm scope sc).lookup x = some .cell))
 | _,_=>true
theorem ZC {sc:Scope} {XN:List Str} {scope:Scope} {N:List Str} {ix:List (Option Nat)} (hsc:X.env.scope = sc) (hN:X.N = XN)
  (h:scope.kind = .function /\ (∀ y ∈ scope.names,y.2 ≠ .cell) /\ (∀ y ∈ scope.names,y.2 = .local->scope.names.lookup y.1 = some .local) /\ (∀ y ∈ scope.names,y.2 = .free->sc.names.lookup y.1 = some .cell) /\ N.length = ix.length /\
   ∀ j ∈ List.range N.length,ZhE sc XN scope N ix j = true):VP X scope N ix:=by
 obtain ⟨h1,h2,h3,h4,h5,h6⟩:=h;subst hsc hN;refine ⟨h1,h2,h3,h4,h5,λ j x i hx hi=>?_⟩;have hj:j < N.length:=(List.getElem?_eq_some_iff.mp hx).1;have q:=h6 j (List.mem_range.mpr hj);unfold ZhE at q;rw [hx,hi] at q;simp only [Bool.and_eq_true,decide_eq_true_eq] at q;exact ⟨q.1,q.2.1,q.2.2⟩
theorem fresh_ne {b:Addr} (h:ZR M p o b = none):b ≠ p:=λ e=>by rw [e,ZK] at h; cases h
theorem take_snoc {α β:Type} {l:List α} {i:Nat} {a:α} (f:α->β) (h:l[i]? = some a):(l.take i).map f ++ [f a] = (l.take (i + 1)).map f:=by
 rw [List.take_add_one,h,List.map_append];rfl
theorem QC {α β:Type} {l:List α} {f:α->β} {i:Nat} {b:β} (h:(l.map f)[i]? = some b):∃ a,l[i]? = some a /\ f a = b:=by
 rw [List.getElem?_map] at h;cases q:l[i]? with
 | none=>rw [q] at h; cases h
 | some a=>rw [q] at h; exact ⟨a,rfl,by simpa using h⟩
def gc (Φ:DK):DK:=λ x M=>∃ ps:List Addr,Φ x (ps.foldl YI M)
theorem Zf3 {K:Fk} {Φ:DK} {Q:VK} (k:Rch K M H Φ Q) {x:DV}:∀ (ps:List Addr) (M':Mp),ZV K M' H'->Step M H M' H'->QA K M' H' v x->Φ x (ps.foldl YI M')->Q v H'
 | [],M',r,st,rv,f=>k v H' x M' r st rv f
 | p :: ps,M',r,st,rv,f=>Zf3 k ps (YI M' p) r.frz (st.trans Step.frz) (rv.step Step.frz) f
theorem ZaN {K:Fk} {Φ:DK} {Q:VK} (k:Rch K M H Φ Q):Rch K M H (gc Φ) Q:=λ _ _ _ M' r st rv ⟨ps,f⟩=>Zf3 k ps M' r st rv f
theorem okG {P:Program} {w:World} {K:Fk} {mg:Str->Option Value} {base:Heap} {k:Nat} {S:DSp} (F:Fun K x qual st f fd) (Sc:Zr N ps (Zf st)) (len:∀ xs M Φ,S xs M Φ->xs.length = ps.length)
  (hbody:∀ (cdv:Value) (A:Around) (outer:List Env) (s:Shared) (H:Hp) (E:XK),JT k (A.deeper (envOfC qual (Zf st) s.heap.objs.size f cdv)) ->
   ∃ τ,DSs (Fz CX0 P w K mg base N qual (Zf st) f cdv A outer s H E).nox (Q2 st) τ /\ ∀ xs M Φ,S xs M Φ->τ { nx:=λ _ M'=>gc Φ (.dat .none) M',rt:=gc Φ } (Yk N xs) M):Qu P w K mg base CX0 (k + 1) f fd ps (lift K S):=by
 refine F.ok Sc (λ vs H Q E h=>?_) λ cdv A outer s H vs Q E hr h=>?_
 ·obtain ⟨xs,M,Φ,_,rv,hs,_⟩:=h;rw [Paired.length rv];exact len xs M Φ hs
 ·obtain ⟨xs,M,Φ,r,rv,hs,kk⟩:=h;obtain ⟨τ,⟨t,p,q⟩,hτ⟩:=hbody cdv A outer s H E hr;refine ⟨t,p,q (start N vs) H (Yk N xs) M _ _ r (Jw.start rv) (hτ xs M Φ hs) ⟨λ σ' H' Δ' M' r' st' e' hn=>?_,ZaN kk,λ _ _ _ _ _ _ _ h=>h.elim,λ _ _ _ _ _ _ _ h=>h.elim⟩⟩;exact (ZaN kk).dat r' st' Dt.non hn
theorem ZfA {Φ:DK} {x:DV} (hp:M p = none) (h:Φ x M):gc Φ x (ZR M p o):=⟨[p],by
 show Φ x (YI (ZR M p o) p)
 rw [Bn hp]; exact h⟩
theorem Kh {k:Nat} (h:n < 2 ^ k) (hk:0 < k):n.log2 < k:=by
 by_cases h0:n = 0
 ·subst h0; simpa using hk
 ·exact (Nat.log2_lt h0).mpr h
def Mid (i:Int):Prop:=-(10 ^ 70) <= i /\ i <= 10 ^ 70
theorem Mid.show (h:Mid i):(PyData.int i).showable = true:=by
 have h1:i.natAbs.log2 < 240:=Kh (by unfold Mid at h; omega) (by decide);simp only [PyData.showable,decide_eq_true_eq];omega
def Zhi:D1:=λ xs M Φ=>∃ ns:List Int,Yj xs M ns /\ Φ (.dat (.int ns.sum)) M
theorem Cm:∀ {bs:List Bool} {us:List Value},Vals (bs.map V.bl) us->∀ (i:Nat) (v:Value),us[i]? = some v->∃ b,bs[i]? = some b /\ v = .bool b
 | [],_,r,i,v,e=>by rw [List.map_nil] at r; cases r; simp at e
 | b :: bs,_,r,i,v,e=>by
  rw [List.map_cons] at r;cases r with
  | cons r1 r2=>
   cases i with
   | zero=>
    simp at e;subst e;exact ⟨b,rfl,r1⟩
   | succ i=>simpa using Cm r2 i v (by simpa using e)
theorem Hx (bs:List Bool):((List.range bs.length).all λ i=>(bs[i]?).getD true) = bs.all id:=by
 rw [Bool.eq_iff_iff,List.all_eq_true,List.all_eq_true];constructor
 ·intro h b hb;obtain ⟨i,hi,e⟩:=List.getElem_of_mem hb;have q:=h i (List.mem_range.mpr hi);rw [List.getElem?_eq_getElem hi,Option.getD_some,e] at q;exact q
 ·intro h i hi;have hi':=List.mem_range.mp hi;rw [List.getElem?_eq_getElem hi',Option.getD_some];exact h _ (List.getElem_mem hi')
theorem MV {s:Shared} {o:Obj} (hk:∀ b x,b ∉ [s.heap.objs.size]->(s.heap.push o).get? b = some x->h'.get? b = some x):∀ b x,s.heap.get? b = some x->h'.get? b = some x:=
 λ b x e=>hk b x (λ hm=>absurd (Heap.lt_size e) (by rw [List.mem_singleton.mp hm]; exact Nat.lt_irrefl _)) (Heap.get?_push_of_some _ e)
theorem MS (hc:X.calm = true):JI X (.builtin "all") (λ xs H Q=>∃ (p:Addr) (bs:List Bool),xs = [.ref p] /\ SqL X.K H p (bs.map V.bl) /\ Q (.bl (bs.all id)) H):=by
 intro pins s Z H xs us Q I r h;obtain ⟨p,bs,rfl,hq,q⟩:=h;obtain ⟨u,rfl,rx⟩:=vals1 r;cases rx;obtain ⟨its,rv,pl,hz⟩:=I.list hq;have hl:=pl.isList;have hlt:p < s.heap.objs.size:=by obtain ⟨_,e,_⟩:=hl; exact Heap.lt_size e
 refine call_all_walk (wpAny_pyIter_list hl ?_)
 refine ⟨s.heap.objs.size,[s.heap.objs.size,p],[s.heap.objs.size],its.toArray.size,_,_,λ i=>(bs[i]?).getD true,rfl,Walks.list (A:=X.A.in1) (I.ok.hd hc) _ p (Nat.ne_of_lt hlt) its.toArray,
  ⟨⟨_,Heap.get?_push_size _ rfl,rfl,rfl⟩,hl.push _⟩,λ i v s' Q' E' hP hQ=>?_,λ h' tk hk=>?_⟩
 ·obtain ⟨b,e,rfl⟩:=Cm rv i v (by simpa using hP);simp only [e,Option.getD_some] at hQ;exact wpAny_truthy_bool hQ
 ·have e:((List.range its.toArray.size).all λ i=>(bs[i]?).getD true) = bs.all id:=by
   have hln:=rv.length;rw [List.length_map] at hln;rw [List.size_toArray,<- hln]; exact Hx bs
  rw [e];exact ⟨.bl _,H,I.kept (MV hk),rfl,q⟩
theorem Ks {K:Fk}:∀ {vs:List V} {bs:List Bool},Dts K M H vs (bs.map PyData.bool)->vs = bs.map V.bl
 | vs,[],h=>by
  rw [List.map_nil] at h;cases h;rfl
 | vs,n :: ns,h=>by
  rw [List.map_cons] at h;cases h with
  | cons h1 h2=>
   cases h1;rw [Ks h2,List.map_cons]
def Zby:D1:=λ xs M Φ=>∃ bs:List Bool,xs = [.dat (.list (bs.map PyData.bool))] /\ Φ (.dat (.bool (bs.all id))) M
def Zfx:D1:=λ xs M Φ=>∃ bs:List Bool,xs = [.dat (.list (bs.map PyData.bool))] /\ Φ (.dat (.bool (bs.any id))) M
theorem Fx (hc:X.calm = true):VM X (.builtin "all") Zby:=by
 refine ⟨_,MS hc,λ vs H xs M Φ Q r rv h k=>?_⟩;obtain ⟨bs,rfl,q⟩:=h;obtain ⟨v,rfl,h1⟩:=Paired.one rv;obtain ⟨p,ys,rfl,g1,g2⟩:=QA.lst h1;rw [Ks g2] at g1;exact ⟨p,bs,rfl,g1.sq,k.dat r Step.refl (Dt.bl _) q⟩
def Zbg:D1:=λ xs M Φ=>on1 xs λ x=>onB x λ b=>Φ (.dat (.int (if b = true then 1 else 0))) M
theorem MZ:VM X (.type "int") Zbg:=by
 refine ⟨_,N5,λ vs H xs M Φ Q r rv h k=>?_⟩;replace h:=Zp h;obtain ⟨x,rfl,h⟩:=h;replace h:=Uj h;obtain ⟨b,rfl,q⟩:=h;obtain ⟨v,rfl,h1⟩:=Paired.one rv;cases (show v = .bl b from QA.bool h1);exact .inr ⟨b,rfl,k.dat r Step.refl (Dt.int _) q⟩
def Zk4 (i j:Nat) (ta:DTA):DTS:=λ D Δ M=>ta Δ M λ xs M1=>on2 xs λ x y=>D.nx ((Δ.set i (some x)).set j (some y)) M1
def LU (x:DV) (M:Mp) (ds:List PyData):Prop:=x = .dat (.list ds) \/ ∃ l,x = .own l /\ M l = some (.lst ds)
theorem LU.sq {x:DV} (h:LU x M ds) (r:ZV X.K M H) (rv:QA X.K M H v x):∃ p ys,v = .ref p /\ SqL X.K H p ys /\ Dts X.K M H ys ds:=by
 rcases h with rfl | ⟨l,rfl,hm⟩
 ·obtain ⟨p,ys,rfl,g1,g2⟩:=QA.lst rv;exact ⟨p,ys,rfl,g1.sq,g2⟩
 ·cases (show v = .ref l from rv);obtain ⟨ws,g1,g2⟩:=r.ls l _ hm;exact ⟨l,ws,rfl,SqL.of g1,g2⟩
def ZaU:D2:=λ x y M Φ=>onK x M λ ds=>onK y M λ es=>ds.length + es.length <= sizeLine /\ Φ (.dat (.list (ds ++ es))) M
theorem Qq:OpD X (binaryOp .Add) ZaU:=by
 refine ⟨_,Sk,λ v u H x y M Φ Q r rv ru h k=>?_⟩;replace h:=YT h;obtain ⟨ds,hx,h⟩:=h;replace h:=YT h;obtain ⟨es,hy,hz,q⟩:=h;replace hx:LU x M ds:=hx;replace hy:LU y M es:=hy;obtain ⟨a,xs,rfl,h1,h2⟩:=hx.sq r rv;obtain ⟨b,ys,rfl,h3,h4⟩:=hy.sq r ru;exact ⟨a,b,xs,ys,rfl,rfl,h1,h3,by rw [h2.length,h4.length]; exact hz,λ p hp=>k.dat (r.new hp) (Step.new hp) (Dt.KY r hp (h2.append h4)) q⟩
def Zkt (te:DTE) (tl th:DTO):DTE:=λ Δ M Φ=>te Δ M λ x M1=>tl Δ M1 λ l M2=>th Δ M2 λ u M3=>onK x M3 λ ds=>Φ (.dat (.list (cutD ds l u))) M3
theorem Z5 {lo hi:Option Expr} {tl th:DTO} (he:DE X e te) (hl:DO X lo tl) (hu:DO X hi th):DE X (.Subscript e (.Slice lo hi none p2) pos) (Zkt te tl th):=by
 obtain ⟨t1,p1,q1⟩:=he;obtain ⟨t2,p2,q2⟩:=hl;obtain ⟨t3,p3,q3⟩:=hu;refine ⟨_,Kj Md p1 p2 p3,λ Z H Δ M Φ Q r e h k=>?_⟩;refine q1 Z H Δ M _ _ r e h λ v H1 x M1 r1 st rv hx=>?_;refine q2 Z H1 Δ M1 _ _ r1 (e.step st) hx λ l H2 M2 r2 st2 hl=>?_;refine q3 Z H2 Δ M2 _ _ r2 (e.step (st.trans st2)) hl λ u H3 M3 r3 st3 hu=>?_;replace hu:=YT hu;obtain ⟨ds,hd,hu⟩:=hu;replace hd:LU x M3 ds:=hd;obtain ⟨a,xs,rfl,h1,h2⟩:=hd.sq r3 (rv.step (st2.trans st3));refine ⟨a,xs,rfl,h1,λ p hp=>?_⟩;exact k.dat (r3.new hp) ((st.trans (st2.trans st3)).trans (Step.new hp)) (Dt.KY r3 hp (h2.cut l u)) hu
def Zep (ta:DTA):DTE:=λ Δ M Φ=>ta Δ M λ xs M1=>on2 xs λ x y=>onI x λ i=>onI y λ j=>(InR i /\ InR j) /\ (j - i).toNat <= 16777216 /\ Φ (.dat (.list (Gq i (j - i).toNat))) M1
def Zk0 (i:Nat) (te:DTE) (f:Int->Int->Int):DTS:=λ D Δ M=>onV Δ[i]? λ z=>onI z λ a=>te Δ M λ x M1=>onI x λ b=>D.nx (Δ.set i (some (.dat (.int (f a b))))) M1
noncomputable def ltP (p q:Int × Int):Bool:=if p.1 = q.1 then decide (p.2 < q.2) else decide (p.1 < q.1)
section
variable {prog:Program} {s:Shared}
end
section
variable {prog:Program} {R:Result->Shared->Prop} {I:Addr} {fp wr:List Addr} {P:Nat->Value->Prop} {St:Nat->Heap->Prop}
end
section
variable {prog:Program} {s:Shared}
end
def Zfs (i j:Int):Prop:=0 < j /\ j.natAbs.log2 < 9000
theorem P9:OpR X (binaryOp .FloorDiv) (rI Zfs λ i j=>.int (i / j)):=opI λ i j _ _ _ _ _ hc q=>by
 have h1:(0:Int) < j:=hc.1;exact floordiv_int (by lia) (by rw [Int.fdiv_eq_ediv_of_nonneg i (by lia)]; exact q) (.inl (PyProof.noPylong_of_log2 hc.2))
theorem Fg:OpD X (binaryOp .FloorDiv) (δI Zfs λ i j=>.int (i / j)):=ZfD P9
noncomputable def prD (q:Int × Int):PyData:=.tuple [.int q.1,.int q.2]
def ZhR:D1:=λ xs M Φ=>∃ qs:List (Int × Int),xs = [.dat (.list (qs.map prD))] /\ 0 < qs.length /\ ∀ q ∈ qs,(∀ r ∈ qs,ltP r q = false)->Φ (.dat (prD q)) M
noncomputable def Ziw {α:Type} [DecidableEq α] (ks:List α) (k:α):Bool:=decide (k ∈ ks)
noncomputable def Zkj {α:Type} [DecidableEq α] (ks:List α) (k:α):List α:=if k ∈ ks then ks else ks ++ [k]
def ZcU:DTE:=λ _ M Φ=>∀ p,M p = none->Φ (.own p) (ZR M p (.dct []))
noncomputable def kP (i j:Int):List Key:=[.inl i,.inl j]
def ZiF (td:DTE) (ta:DTA) (tv:DTE):DTS:=λ D Δ M=>tv Δ M λ x M1=>td Δ M1 λ y M2=>ta Δ M2 λ zs M3=>onD x λ _=>onO y λ l=>on2 zs λ p q=>onI p λ i=>onI q λ j=>ZcD (M3 l) λ ks=>ks.length < sizeLine /\ D.nx Δ (ZR M3 l (.dct (Zkj ks (kP i j))))
def onP (x:DV) (P:Int->Int->Prop):Prop:=match x with | .dat (.tuple [.int i,.int j])=>P i j | _=>False
theorem Zah {x:DV} {P:Int->Int->Prop} (h:onP x P):∃ i j,x = .dat (.tuple [.int i,.int j]) /\ P i j:=by
 unfold onP at h
 split at h
 ·exact ⟨_,_,rfl,h⟩
 ·exact h.elim
def ZiL:D2:=λ x y M Φ=>onP x λ i j=>onO y λ l=>ZcD (M l) λ ks=>Φ (.dat (.bool (Ziw ks (kP i j)))) M
section
variable {prog:Program} {s:Shared}
end
def ZjW (te ts:DTE):DTE:=λ Δ M Φ=>te Δ M λ x M1=>ts Δ M1 λ y M2=>onT x λ ds=>onI y λ i=>i = -1 /\ Φ (.dat (.tuple ds.reverse)) M2
section
variable {prog:Program} {s:Shared}
end
def Zjp (te:DTE) (tl th:DTO):DTE:=λ Δ M Φ=>te Δ M λ x M1=>tl Δ M1 λ l M2=>th Δ M2 λ u M3=>onT x λ ds=>Φ (.dat (.tuple (cutD ds l u))) M3
def ZiB (x:DV) (M:Mp) (Φ:DK):Prop:=match x with | .dat (.list ds)=>Φ (.dat (.list ds)) M | .own l=>Va (M l) λ ds=>Φ (.dat (.list ds)) (YI M l) | _=>False
def ZjR (t:DTE):DTE:=λ Δ M Φ=>t Δ M λ x M1=>ZiB x M1 Φ
theorem ZdP {τ τ':DTE} (h:DE X e τ) (k:∀ Δ M Φ,τ' Δ M Φ->τ Δ M Φ):DE X e τ':=by
 obtain ⟨t,p,q⟩:=h;exact ⟨t,p,λ Z H Δ M Φ Q a b c d=>q Z H Δ M Φ Q a b (k _ _ _ c) d⟩
theorem ZbH {s:Stmt} {τ τ':DTS} (h:DS X s τ) (k:∀ D Δ M,τ' D Δ M->τ D Δ M):DS X s τ':=by
 obtain ⟨t,p,q⟩:=h;exact ⟨t,p,λ Z H Δ M D E a b c d=>q Z H Δ M D E a b (k _ _ _ c) d⟩
def ZjK (src:X1):X1:=λ Δ M Ψ=>∃ Ψ',src Δ M Ψ' /\ ∀ ds M1,Ψ' ds M1->Ψ ds M1
theorem DI.mono {src:X1} (h:DI X tg iter src):DI X tg iter (ZjK src):=by
 obtain ⟨wi,p,q⟩:=h;exact ⟨wi,p,λ Z H Δ M Ψ R dr er ⟨Ψ',h1,h2⟩ k=>q Z H Δ M Ψ' R dr er h1 λ J H' M' ds a b c d=>k J H' M' ds a b c (h2 _ _ d)⟩
def Jj (g:DTG) (tc:DTT) (te:DTE) (Δc:DSt) (fin:List PyData->Mp->Prop):List PyData->List PyData->Mp->Prop
 | [],acc,M=>fin acc M
 | d :: ds,acc,M=>g (.dat d) Δc M λ Δ2 M2=>tc Δ2 M2 λ b M3=>if b = true then te Δ2 M3 λ y M4=>onD y λ e=>Jj g tc te Δc fin ds (acc ++ [e]) M4 else Jj g tc te Δc fin ds acc M3
theorem O4 (g:DTG) (tc:DTT) (te:DTE) (Δc:DSt) (fin:List PyData->Mp->Prop) (acc:List PyData) (M:Mp):Jj g tc te Δc fin [] acc M = fin acc M:=by rw [Jj]
theorem OF (g:DTG) (tc:DTT) (te:DTE) (Δc:DSt) (fin:List PyData->Mp->Prop) (d:PyData) (ds acc:List PyData) (M:Mp):Jj g tc te Δc fin (d :: ds) acc M =
  g (.dat d) Δc M λ Δ2 M2=>tc Δ2 M2 λ b M3=>if b = true then te Δ2 M3 λ y M4=>onD y λ e=>Jj g tc te Δc fin ds (acc ++ [e]) M4 else Jj g tc te Δc fin ds acc M3:=by rw [Jj]
theorem P6 {g:DTG} {Δc:DSt} {fin:List PyData->Mp->Prop} (h:Jj g tc te Δc fin ds [] M):∃ J:Nat->List PyData->Mp->Prop,J 0 [] M /\
 (∀ i d acc M',ds[i]? = some d->J i acc M'->g (.dat d) Δc M' λ Δ2 M2=>tc Δ2 M2 λ b M3=>if b = true then te Δ2 M3 λ y M4=>onD y λ e=>J (i + 1) (acc ++ [e]) M4 else J (i + 1) acc M3) /\
 ∀ acc M',J ds.length acc M'->fin acc M':=by
 refine ⟨λ i acc M'=>Jj g tc te Δc fin (ds.drop i) acc M',by simpa using h,λ i d acc M' e k=>?_,λ acc M' k=>?_⟩
 ·have ed:ds.drop i = d :: ds.drop (i + 1):=by
   obtain ⟨hi,e'⟩:=List.getElem?_eq_some_iff.mp e;rw [<- e',List.drop_eq_getElem_cons hi]
  dsimp only at k;rw [ed] at k;exact k
 ·dsimp only at k;rw [List.drop_length] at k;exact k
def Hg (ow:Bool) (src:X1) (ix:List (Option Nat)) (g:DTG) (tc:DTT) (te:DTE):DTE:=λ Δ M Φ=>src Δ M λ ds M1=>ds.length <= sizeLine /\ Jj g tc te (Lu ix Δ) (FT ow Φ) ds [] M1
theorem FL {ow:Bool} {src:X1} {g:DTG} (Δ:DSt) (M:Mp) (Φ:DK) (h:Hg ow src ix g tc te Δ M Φ):HI ow (ZjK src) ix g tc te Δ M Φ:=
 ⟨_,h,λ _ _ ⟨a,b⟩=>⟨a,P6 b⟩⟩
theorem Kb (ow:Bool) {elt:Expr} {ifs:List Expr} {pos:Pos} {src:X1} {g:DTG} {tc:DTT} {te:DTE} (ok:VP X scope N ix) (hi:DI X tg iter src)
  (hg:∀ C ex s H,DG (Z0 X scope C N ex s H) tg g) (ht:∀ C ex s H,DTs (Z0 X scope C N ex s H) ifs tc) (he:∀ C ex s H,DE (Z0 X scope C N ex s H) elt te) (hc:X.calm = true)
  (hs:autoParam (∀ x,foldedSetIterable iter X.env x = pure x) zz2._auto_1):DE X (.ListComp elt [⟨tg,iter,ifs,0⟩] scope pos) (Hg ow src ix g tc te):=
 ZdP (Qr ow ok hi.mono hg ht he hc hs) FL
theorem Rx (i:Nat) (ow:Bool) {x:Str} {pos' spos:Pos} (hN:X.N.Nodup) {elt:Expr} {ifs:List Expr} {pos:Pos} {src:X1} {g:DTG} {tc:DTT} {te:DTE} (ok:VP X scope N ix) (hi:DI X tg iter src)
  (hg:∀ C ex s H,DG (Z0 X scope C N ex s H) tg g) (ht:∀ C ex s H,DTs (Z0 X scope C N ex s H) ifs tc) (he:∀ C ex s H,DE (Z0 X scope C N ex s H) elt te) (hc:X.calm = true)
  (hs:autoParam (∀ x,foldedSetIterable iter X.env x = pure x) zz2._auto_1) (hin:autoParam (X.N[i]? = some x) zz3._auto_1) (hx:autoParam (Loc X.env.scope x) zz8._auto_1)
  (hsw:autoParam (swapsWith (.ListComp elt [⟨tg,iter,ifs,0⟩] scope pos) (some (.Name x pos')) spos.line X.env = pure true) zz3._auto_1)
  (hf:autoParam (X.fn x = true \/ X.env.scope.names.lookup x = some .local) zz0._auto_1) :
  DS X (.Assign [.Name x pos'] (.ListComp elt [⟨tg,iter,ifs,0⟩] scope pos) spos) (ZeQ (Hg ow src ix g tc te) (W9 i)):=
 ZbH (Wt i ow hN ok hi.mono hg ht he hc hs hin hx hsw hf) λ D Δ M h=>FL Δ M _ h
def Xt (g:DTG) (tb:DTS) (D:QF):List PyData->DSt->Mp->Prop
 | [],Δ,M=>D.nx Δ M
 | d :: ds,Δ,M=>g (.dat d) Δ M λ Δ2 M2=>tb { D with nx:=Xt g tb D ds,ct:=Xt g tb D ds,bk:=D.nx } Δ2 M2
theorem Rw (g:DTG) (tb:DTS) (D:QF) (Δ:DSt) (M:Mp):Xt g tb D [] Δ M = D.nx Δ M:=by rw [Xt]
theorem SQ (g:DTG) (tb:DTS) (D:QF) (d:PyData) (ds:List PyData) (Δ:DSt) (M:Mp):Xt g tb D (d :: ds) Δ M = g (.dat d) Δ M λ Δ2 M2=>tb { D with nx:=Xt g tb D ds,ct:=Xt g tb D ds,bk:=D.nx } Δ2 M2:=by rw [Xt]
theorem FQ (lo:Int) (n:Nat):Gq lo (n + 1) = .int lo :: Gq (lo + 1) n:=by
 unfold Gq;rw [List.range_succ_eq_map,List.map_cons,List.map_map]
 congr 1
 ·simp
 ·refine List.map_congr_left λ i _=>?_;show PyData.int _ = PyData.int _
  congr 1
  simp;lia
theorem ZgH (lo:Int):Gq lo 0 = []:=rfl
theorem ZaV (lo:Int):Gq lo 1 = [.int lo]:=by rw [FQ]; rfl
theorem Zbt (lo:Int):Gq lo 2 = [.int lo,.int (lo + 1)]:=by rw [FQ,ZaV]
theorem Zar (lo:Int):Gq lo 3 = [.int lo,.int (lo + 1),.int (lo + 1 + 1)]:=by rw [FQ,Zbt]
theorem ZgJ (lo:Int):Gq lo 4 = [.int lo,.int (lo + 1),.int (lo + 1 + 1),.int (lo + 1 + 1 + 1)]:=by rw [FQ,Zar]
theorem Tb {A B:DTS} {D:QF} {Δ:DSt} (h:∀ R,R = B->Zin A R D Δ M):Zin A B D Δ M:=h B rfl
theorem Zdt {l:List Int} {r:Int} (h0:0 <= r) (h1:r < l.length):∃ w ∈ l,atI (l.map PyData.int) r = some (.int w):=by
 obtain ⟨d,e,hm⟩:=O1 (l:=l.map PyData.int) h0 (by rw [List.length_map]; exact h1);obtain ⟨w,hw,rfl⟩:=List.mem_map.mp hm;exact ⟨w,hw,e⟩
theorem Dq  : ZW "int" .none = false:=rfl
theorem Eg (b:Bool):ZW "int" (.bool b) = true:=rfl
theorem HP (i:Int):ZW "int" (.int i) = true:=rfl
theorem HK (z:Str):ZW "int" (.str z) = false:=rfl
theorem Eh (l:List PyData):ZW "int" (.list l) = false:=rfl
theorem Ct (l:List PyData):ZW "int" (.tuple l) = false:=rfl
theorem DH (l:List (PyData × PyData)):ZW "int" (.dict l) = false:=rfl
theorem Ce  : ZW "bool" .none = false:=rfl
theorem Cn (b:Bool):ZW "bool" (.bool b) = true:=rfl
theorem Ea (i:Int):ZW "bool" (.int i) = false:=rfl
theorem D4 (z:Str):ZW "bool" (.str z) = false:=rfl
theorem GX (l:List PyData):ZW "bool" (.list l) = false:=rfl
theorem U7 (l:List PyData):ZW "bool" (.tuple l) = false:=rfl
theorem CN (l:List (PyData × PyData)):ZW "bool" (.dict l) = false:=rfl
theorem UR  : ZW "tuple" .none = false:=rfl
theorem GA (b:Bool):ZW "tuple" (.bool b) = false:=rfl
theorem BN (i:Int):ZW "tuple" (.int i) = false:=rfl
theorem Cr (z:Str):ZW "tuple" (.str z) = false:=rfl
theorem U6 (l:List PyData):ZW "tuple" (.list l) = false:=rfl
theorem WJ (l:List PyData):ZW "tuple" (.tuple l) = true:=rfl
theorem UW (l:List (PyData × PyData)):ZW "tuple" (.dict l) = false:=rfl
theorem BU  : ZW "list" .none = false:=rfl
theorem CL (b:Bool):ZW "list" (.bool b) = false:=rfl
theorem Dx (i:Int):ZW "list" (.int i) = false:=rfl
theorem DR (z:Str):ZW "list" (.str z) = false:=rfl
theorem CI (l:List PyData):ZW "list" (.list l) = true:=rfl
theorem Gj (l:List PyData):ZW "list" (.tuple l) = false:=rfl
theorem BQ (l:List (PyData × PyData)):ZW "list" (.dict l) = false:=rfl
theorem C5  : ZW "str" .none = false:=rfl
theorem D7 (b:Bool):ZW "str" (.bool b) = false:=rfl
theorem Hm (i:Int):ZW "str" (.int i) = false:=rfl
theorem Hy (z:Str):ZW "str" (.str z) = true:=rfl
theorem DC (l:List PyData):ZW "str" (.list l) = false:=rfl
theorem BJ (l:List PyData):ZW "str" (.tuple l) = false:=rfl
theorem Dk (l:List (PyData × PyData)):ZW "str" (.dict l) = false:=rfl
theorem Br  : ZW "dict" .none = false:=rfl
theorem Cb (b:Bool):ZW "dict" (.bool b) = false:=rfl
theorem D8 (i:Int):ZW "dict" (.int i) = false:=rfl
theorem CZ (z:Str):ZW "dict" (.str z) = false:=rfl
theorem Bb (l:List PyData):ZW "dict" (.list l) = false:=rfl
theorem GG (l:List PyData):ZW "dict" (.tuple l) = false:=rfl
theorem GR (l:List (PyData × PyData)):ZW "dict" (.dict l) = true:=rfl
theorem Zjd (i j:Int):(PyData.int i).eqv (.int j) = decide (i = j):=by
 simp only [PyData.eqv]
 first | rfl | exact Bool.beq_eq_decide_eq _ _ | (rw [Bool.eq_iff_iff]; simp)
theorem Zi6 (x y:Str):(PyData.str x).eqv (.str y) = decide (x = y):=by
 simp only [PyData.eqv]
 first | rfl | (rw [Bool.eq_iff_iff]; simp)
theorem Zjm (x y:Bool):(PyData.bool x).eqv (.bool y) = (x == y):=by
 simp only [PyData.eqv]
theorem ZjB:PyData.none.eqv .none = true:=by simp only [PyData.eqv]
theorem ZjS (x y:List PyData):(PyData.tuple x).eqv (.tuple y) = PyData.eqvAll x y:=by simp only [PyData.eqv]
theorem Zj1 (x y:List PyData):(PyData.list x).eqv (.list y) = PyData.eqvAll x y:=by simp only [PyData.eqv]
theorem ZcY:PyData.eqvAll [] [] = true:=by simp only [PyData.eqvAll]
theorem SR (x y:PyData) (xs ys:List PyData):PyData.eqvAll (x :: xs) (y :: ys) = (x.eqv y && PyData.eqvAll xs ys):=by simp only [PyData.eqvAll]
theorem ZhP (x:PyData) (xs:List PyData):PyData.eqvAll (x :: xs) [] = false:=by simp only [PyData.eqvAll]
theorem Zii (x:PyData) (xs:List PyData):PyData.eqvAll [] (x :: xs) = false:=by simp only [PyData.eqvAll]
def Zfy (tc:DTT) (tb:DTS):DTS:=λ D Δ M=>∃ J:Nat->DSt->Mp->Prop,(∃ m,J m Δ M) /\ ∀ n Δ M,J n Δ M->tc Δ M λ b M1=>
 if b = true then tb { D with nx:=λ Δ' M'=>∃ m,m < n /\ J m Δ' M',ct:=λ Δ' M'=>∃ m,m < n /\ J m Δ' M',bk:=D.nx } Δ M1 else D.nx Δ M1
def Zlw (to:DTE):DTE:=λ Δ M Φ=>to Δ M λ x M1=>onO x λ l=>∃ ds d,M1 l = some (.lst (ds ++ [d])) /\ Φ (.dat d) (ZR M1 l (.lst ds))
noncomputable def isNone:PyData->Bool
 | .none=>true
 | _=>false
theorem OS {K:Fk} (h:Dt K M H v d):decide (v = .non) = isNone d:=by
 cases h <;> rfl
def onN (x:DV) (P:Prop):Prop:=match x with | .dat .none=>P | _=>False
theorem Ms {x:DV} {P:Prop} (h:onN x P):x = .dat .none /\ P:=by
 unfold onN at h
 split at h
 ·exact ⟨rfl,h⟩
 ·exact h.elim
def Zct (b:Bool):D2:=λ x y M Φ=>onD x λ d=>onN y <| Φ (.dat (.bool (isNone d != b))) M
theorem KP:OpD X (compareOp .Is) (Zct false):=by
 refine ⟨_,Zgx,λ v u H x y M Φ Q r rv ru h k=>?_⟩;replace h:=ZY h;obtain ⟨d,rfl,h⟩:=h;replace h:=Ms h;obtain ⟨rfl,q⟩:=h;cases (show Dt X.K M H u .none from ru);refine ⟨rfl,?_⟩;rw [OS rv];rw [show isNone d = (isNone d != false) by cases isNone d <;> rfl];exact k.dat r Step.refl (Dt.bl _) q
theorem ZcF:OpD X (compareOp .IsNot) (Zct true):=by
 refine ⟨_,ZdO,λ v u H x y M Φ Q r rv ru h k=>?_⟩;replace h:=ZY h;obtain ⟨d,rfl,h⟩:=h;replace h:=Ms h;obtain ⟨rfl,q⟩:=h;cases (show Dt X.K M H u .none from ru);refine ⟨rfl,?_⟩;rw [OS rv];rw [show (!isNone d) = (isNone d != true) by cases isNone d <;> rfl];exact k.dat r Step.refl (Dt.bl _) q
theorem isNone_none:isNone .none = true:=rfl
theorem D3 (b:Bool):isNone (.bool b) = false:=rfl
theorem HW (b:Int):isNone (.int b) = false:=rfl
theorem Ld (b:Str):isNone (.str b) = false:=rfl
theorem CV (b:List PyData):isNone (.list b) = false:=rfl
theorem BY (b:List PyData):isNone (.tuple b) = false:=rfl
theorem DM (b:List (PyData × PyData)):isNone (.dict b) = false:=rfl
def Zdr:D2:=λ x y M Φ=>onD x λ d=>onW y λ ds=>okIn d ds = true /\ Φ (.dat (.bool (!(ds.any λ e=>PyData.eqv e d)))) M
def Ra:D2:=λ x y M Φ=>onP x λ i j=>onO y λ l=>ZcD (M l) λ ks=>Φ (.dat (.bool (!Ziw ks (kP i j)))) M
section
variable {prog:Program} {s:Shared}
end
theorem SN (x:DV) (P:DV->Prop):onV (some (some x)) P = P x:=qI
theorem Tn (i:Int) (P:Int->Prop):onI (.dat (.int i)) P = P i:=qI
theorem Sz (i:Bool) (P:Bool->Prop):onB (.dat (.bool i)) P = P i:=qI
theorem R9 (i:Str) (P:Str->Prop):onS (.dat (.str i)) P = P i:=qI
theorem TX (i:List PyData) (P:List PyData->Prop):onT (.dat (.tuple i)) P = P i:=qI
theorem TY (i:List PyData) (P:List PyData->Prop):onL (.dat (.list i)) P = P i:=qI
theorem PM (i:PyData) (P:PyData->Prop):onD (.dat i) P = P i:=qI
theorem RE (i:Addr) (P:Addr->Prop):onO (.own i) P = P i:=qI
theorem Pd (ds:List PyData) (P:List PyData->Prop):Va (some (.lst ds)) P = P ds:=qI
theorem Zdx (ds:List PyData) (M:Mp) (P:List PyData->Prop):onQ (.dat (.tuple ds)) M P = P ds:=qI
theorem ZbY (ds:List PyData) (M:Mp) (P:List PyData->Prop):onQ (.dat (.list ds)) M P = P ds:=qI
theorem Zem (l:Addr) (M:Mp) (P:List PyData->Prop):onQ (.own l) M P = Va (M l) P:=qI
theorem ZeG (ds:List PyData) (M:Mp) (P:List PyData->Prop):onK (.dat (.list ds)) M P = P ds:=qI
theorem ZbQ (l:Addr) (M:Mp) (P:List PyData->Prop):onK (.own l) M P = Va (M l) P:=qI
theorem SS (x:DV) (P:DV->Prop):on1 [x] P = P x:=qI
theorem Sf (x y:DV) (P:DV->DV->Prop):on2 [x,y] P = P x y:=qI
theorem Rh (x y z:DV) (P:DV->DV->DV->Prop):on3 [x,y,z] P = P x y z:=qI
theorem So (P:List PyData->Prop):KJ [] P = P []:=qI
theorem RH (a0:PyData) (P:List PyData->Prop):KJ [.dat a0] P = P [a0]:=qI
theorem Rg (a0 a1:PyData) (P:List PyData->Prop):KJ [.dat a0,.dat a1] P = P [a0,a1]:=qI
theorem TB (a0 a1 a2:PyData) (P:List PyData->Prop):KJ [.dat a0,.dat a1,.dat a2] P = P [a0,a1,a2]:=qI
theorem RG (a0 a1 a2 a3:PyData) (P:List PyData->Prop):KJ [.dat a0,.dat a1,.dat a2,.dat a3] P = P [a0,a1,a2,a3]:=qI
theorem P5 (a0 a1 a2 a3 a4:PyData) (P:List PyData->Prop):KJ [.dat a0,.dat a1,.dat a2,.dat a3,.dat a4] P = P [a0,a1,a2,a3,a4]:=qI
theorem Sr (a0 a1 a2 a3 a4 a5:PyData) (P:List PyData->Prop):KJ [.dat a0,.dat a1,.dat a2,.dat a3,.dat a4,.dat a5] P = P [a0,a1,a2,a3,a4,a5]:=qI
theorem RA (a0 a1 a2 a3 a4 a5 a6 a7:PyData) (P:List PyData->Prop):KJ [.dat a0,.dat a1,.dat a2,.dat a3,.dat a4,.dat a5,.dat a6,.dat a7] P = P [a0,a1,a2,a3,a4,a5,a6,a7]:=qI
theorem SA (a0 a1 a2 a3 a4 a5 a6 a7 a8:PyData) (P:List PyData->Prop):KJ [.dat a0,.dat a1,.dat a2,.dat a3,.dat a4,.dat a5,.dat a6,.dat a7,.dat a8] P = P [a0,a1,a2,a3,a4,a5,a6,a7,a8]:=qI
theorem OY (a0 a1 a2 a3 a4 a5 a6 a7 a8 a9:PyData) (P:List PyData->Prop):KJ [.dat a0,.dat a1,.dat a2,.dat a3,.dat a4,.dat a5,.dat a6,.dat a7,.dat a8,.dat a9] P = P [a0,a1,a2,a3,a4,a5,a6,a7,a8,a9]:=qI
theorem N3 (a0 a1 a2 a3 a4 a5 a6 a7 a8 a9 a10:PyData) (P:List PyData->Prop):KJ [.dat a0,.dat a1,.dat a2,.dat a3,.dat a4,.dat a5,.dat a6,.dat a7,.dat a8,.dat a9,.dat a10] P = P [a0,a1,a2,a3,a4,a5,a6,a7,a8,a9,a10]:=qI
theorem LD (a0 a1 a2 a3 a4 a5 a6 a7 a8 a9 a10 a11 a12:PyData) (P:List PyData->Prop):KJ [.dat a0,.dat a1,.dat a2,.dat a3,.dat a4,.dat a5,.dat a6,.dat a7,.dat a8,.dat a9,.dat a10,.dat a11,.dat a12] P = P [a0,a1,a2,a3,a4,a5,a6,a7,a8,a9,a10,a11,a12]:=qI
theorem Ze0:type_of% @Zjr.eq_1:=λ _ _ _ _=>qI
theorem Zln:type_of% @dC.eq_1:=λ _ _ _ _=>qI
theorem ZjF:type_of% @dTy.eq_1:=λ _ _ _ _=>qI
theorem ZiH:type_of% @dOp.eq_1:=λ _ _ _ _ _ _=>qI
theorem Zk2:type_of% @dB.eq_1:=λ _ _ _ _=>qI
theorem P0:type_of% @EG.eq_1:=λ _ _ _ _ _ _ _ _=>qI
theorem ZhY:type_of% @Zkh.eq_1:=λ _ _ _ _ _=>qI
theorem ZjA:type_of% @dOr.eq_1:=λ _ _ _ _ _=>qI
theorem ZfR:type_of% @Zkm.eq_1:=λ _ _ _ _=>qI
theorem ZcT:type_of% @Zfn.eq_1:=λ _ _ _ _ _=>qI
theorem ZhK:type_of% @Zkw.eq_1:=λ _ _ _ _ _=>qI
theorem Zea:type_of% @Zgv.eq_1:=λ _ _ _ _=>qI
theorem ZiR:type_of% @dIf.eq_1:=λ _ _ _ _ _ _=>qI
theorem Zg9:type_of% @Zkf.eq_1:=λ _ _ _ _ _=>qI
theorem ZjT:type_of% @δI.eq_1:=λ _ _ _ _ _ _=>qI
theorem Zge:type_of% @δI0.eq_1:=λ _ _ _ _ _=>qI
theorem Zfd  (z0:DSt) (M:Mp) (Φ:List DV->Mp->Prop):ZkQ z0 M Φ = (Φ [] M):=qI
theorem Zdn:type_of% @Zgn.eq_1:=λ _ _ _ _ _=>qI
theorem ZfY:type_of% @ZkG.eq_1:=λ _ _ _ _=>qI
theorem Zgs:type_of% @Zke.eq_1:=λ _ _ _ _=>qI
theorem ZeI:type_of% @Zf7.eq_1:=λ _ _ _ _=>qI
theorem ZfT:type_of% @Zkl.eq_1:=λ _ _ _ _=>qI
theorem P7 (a:PyData) (l:List PyData) (P:PyData->Prop):U8 (a :: l) 0 P = P a:=qI
theorem Sw (a b:PyData) (l:List PyData) (P:PyData->Prop):U8 (a :: b :: l) 1 P = P b:=qI
theorem SX (a b c:PyData) (l:List PyData) (P:PyData->Prop):U8 (a :: b :: c :: l) 2 P = P c:=qI
theorem T4 (a b c d:PyData) (l:List PyData) (P:PyData->Prop):U8 (a :: b :: c :: d :: l) 3 P = P d:=qI
theorem P8 (a b c d e:PyData) (l:List PyData) (P:PyData->Prop):U8 (a :: b :: c :: d :: e :: l) 4 P = P e:=qI
theorem RN (a b c d e f:PyData) (l:List PyData) (P:PyData->Prop):U8 (a :: b :: c :: d :: e :: f :: l) 5 P = P f:=qI
theorem ZhX  (x:DV) (y:DV) (M:Mp) (Φ:DK):δIx x y M Φ = (onQ x M λ ds=>onI y λ i=>U8 ds i λ d=>Φ (.dat d) M):=qI
theorem ZjI:type_of% @dCB.eq_1:=λ _ _ _ _ _=>qI
theorem Zew  (xs:List DV) (M:Mp) (Φ:DK):ZgV xs M Φ = (on1 xs λ x=>onQ x M λ ds=>Φ (.dat (.int ds.length)) M):=qI
theorem SJ  (xs:List DV) (M:Mp) (Φ:DK):Zae xs M Φ = (on1 xs λ x=>onS x λ z=>z.length <= sizeLine /\ Φ (.dat (.int z.length)) M):=qI
theorem Rn  (xs:List DV) (M:Mp) (Φ:DK):Zbc xs M Φ = (on1 xs λ x=>onI x λ i=>i.natAbs.log2 < 1920 /\ Φ (.dat (.str (toString i))) M):=qI
theorem ZdH  (xs:List DV) (M:Mp) (Φ:DK):Zgq xs M Φ = (on1 xs λ x=>onI x λ i=>Φ (.dat (.int (if i < 0 then -i else i))) M):=qI
theorem Zh6:type_of% @δ2I.eq_1:=λ _ _ _ _=>qI
theorem RM  (xs:List DV) (M:Mp) (Φ:DK):Zak xs M Φ = (on1 xs λ x=>onD x λ d=>Shw d /\ Φ (.dat (.str d.shown)) M):=qI
theorem Hs (T:String) (d:PyData) (t:String) (M:Mp) (Φ:DK):ZdM T [.dat d,.ty t] M Φ = (t = T /\ Φ (.dat (.bool (ZW T d))) M):=qI
theorem PH (i j:Int) (P:Bool->Prop):eqD (.int i) (.int j) P = P (decide (i = j)):=qI
theorem PC (i j:Str) (P:Bool->Prop):eqD (.str i) (.str j) P = P (decide (i = j)):=qI
theorem ZfB  (x:DV) (y:DV) (M:Mp) (Φ:DK):δEq x y M Φ = (onD x λ d=>onD y λ e=>eqD d e λ b=>Φ (.dat (.bool b)) M):=qI
theorem Zfp  (x:DV) (y:DV) (M:Mp) (Φ:DK):δNe x y M Φ = (onD x λ d=>onD y λ e=>eqD d e λ b=>Φ (.dat (.bool (!b))) M):=qI
theorem O5  (z0:DSt) (M:Mp) (Φ:Option Int->Mp->Prop):NK z0 M Φ = (Φ none M):=qI
theorem ZcW:type_of% @Ze6.eq_1:=λ _ _ _ _=>qI
theorem Zgp:type_of% @ZkI.eq_1:=λ _ _ _ _ _ _=>qI
theorem Zdg  (D:QF) (Δ:DSt) (M:Mp):ZgZ D Δ M = (D.nx Δ M):=qI
theorem Zhn:type_of% @Zin.eq_1:=λ _ _ _ _ _=>qI
theorem Zc2:type_of% @Zih.eq_1:=λ _ _ _ _=>qI
theorem ZhA:type_of% @ZkK.eq_1:=λ _ _ _ _=>qI
theorem ZhV:type_of% @ZkE.eq_1:=λ _ _ _ _ _ _=>qI
theorem GI:type_of% @W9.eq_1:=λ _ _ _ _ _=>qI
theorem Hu (Δ:DSt) (M:Mp) (Φ:DSt->Mp->Prop):Zgk [] Δ M Φ = Φ Δ M:=qI
theorem Ei (t:DTG) (u:Tq) (x:DV) (r:List DV) (Δ:DSt) (M:Mp) (Φ:DSt->Mp->Prop):Zac t u (x :: r) Δ M Φ = t x Δ M λ Δ' M'=>u r Δ' M' Φ:=qI
theorem RV (P:List DV->Prop):Zb6 0 [] P = P []:=qI
theorem S3 (n:Nat) (d:PyData) (r:List PyData) (P:List DV->Prop):Zb6 (n + 1) (d :: r) P = Zb6 n r λ xs=>P (.dat d :: xs):=qI
theorem ZdE:type_of% @Zib.eq_1:=λ _ _ _ _ _ _=>qI
theorem ZdL:type_of% @Zf2.eq_1:=λ _ _ _ _ _ _=>qI
theorem ZhH:type_of% @ZeQ.eq_1:=λ _ _ _ _ _=>qI
theorem Lx:type_of% @OI.eq_1:=λ _ _ _ _ _=>qI
theorem ZcX:type_of% @ZhW.eq_1:=λ _ _ _ _ _ _=>qI
theorem Sb:type_of% @Zay.eq_1:=λ _ _ _ _ _ _=>qI
theorem S8:type_of% @Zav.eq_1:=λ _ _ _ _ _ _=>qI
theorem Zeb:type_of% @Zcm.eq_1:=λ _ _ _ _ _=>qI
theorem Rt  (z0:DSt) (M:Mp) (Φ:DK):ZaM z0 M Φ = (Φ (.dat (.dict [])) M):=qI
theorem ZfH:type_of% @Zkv.eq_1:=λ _ _ _ _=>qI
theorem Zfw:type_of% @Zkr.eq_1:=λ _ _ _ _=>qI
theorem Zel:type_of% @Zhe.eq_1:=λ _ _ _ _=>qI
theorem Zcy:type_of% @ZgD.eq_1:=λ _ _ _ _=>qI
theorem PB (Φ:DK) (acc:List PyData) (M:Mp):FT true Φ acc M = ∀ p,M p = none->Φ (.own p) (ZR M p (.lst acc)):=qI
theorem Su (Φ:DK) (acc:List PyData) (M:Mp):FT false Φ acc M = Φ (.dat (.list acc)) M:=qI
theorem Zd5:type_of% @HI.eq_1:=λ _ _ _ _ _ _ _ _ _=>qI
theorem ZgL  (z0:DSt) (M:Mp) (Φ:Bool->Mp->Prop):Zkq z0 M Φ = (Φ true M):=qI
theorem Ru  (xs:List DV) (M:Mp) (Φ:DK):Zax xs M Φ = (∃ ns:List Int,Yj xs M ns /\ 0 < ns.length /\ ∀ m ∈ ns,(∀ a ∈ ns,a <= m)->Φ (.dat (.int m)) M):=qI
theorem Zfe:type_of% @δ3I.eq_1:=λ _ _ _ _=>qI
theorem Ma  (xs:List DV) (M:Mp) (Φ:DK):MP xs M Φ = (on1 xs λ x=>onQ x M λ ds=>Φ (.dat (.tuple ds)) M):=qI
theorem ZdG (ds:List PyData) (P:List PyData->Prop):onW (.dat (.list ds)) P = P ds:=qI
theorem Ze1  (x:DV) (y:DV) (M:Mp) (Φ:DK):δIn x y M Φ = (onD x λ d=>onW y λ ds=>okIn d ds = true /\ Φ (.dat (.bool (ds.any λ e=>PyData.eqv e d))) M):=qI
theorem S9  (xs:List DV) (M:Mp) (Φ:DK):Zby xs M Φ = (∃ bs:List Bool,xs = [.dat (.list (bs.map PyData.bool))] /\ Φ (.dat (.bool (bs.all id))) M):=qI
theorem Rc  (xs:List DV) (M:Mp) (Φ:DK):Zbg xs M Φ = (on1 xs λ x=>onB x λ b=>Φ (.dat (.int (if b = true then 1 else 0))) M):=qI
theorem Ry  (x:DV) (y:DV) (M:Mp) (Φ:DK):ZaU x y M Φ = (onK x M λ ds=>onK y M λ es=>ds.length + es.length <= sizeLine /\ Φ (.dat (.list (ds ++ es))) M):=qI
theorem Zgt:type_of% @Zkt.eq_1:=λ _ _ _ _ _ _=>qI
theorem P4 (i j:Int) (P:Int->Int->Prop):onP (.dat (.tuple [.int i,.int j])) P = P i j:=qI
theorem Pw:type_of% @Hg.eq_1:=λ _ _ _ _ _ _ _ _ _=>qI
theorem ES (P:Prop):onN (.dat .none) P = P:=qI
theorem ZeF:type_of% @Zct.eq_1:=λ _ _ _ _ _=>qI
noncomputable def GN (x:Str) (lo hi:Option Int):Str:=⟨((x.cps.toList.drop (HT.sIx x.length 0 lo)).take (HT.sIx x.length x.length hi - HT.sIx x.length 0 lo)).toArray⟩
theorem Gm (v:Int) (n d:Nat):max 0 (min (if v < 0 then v + (n:Int) else v) (n:Int)) = ((HT.sIx n d (some v):Nat):Int):=by
 rw [<- HT.Es v n d]
 split <;> lia
theorem idx_eq (lo hi:Option Int) (n:Nat):Builtin.Str.strSliceIndices lo hi 1 n = Builtin.Str.strSliceIndices (some ((HT.sIx n 0 lo:Nat):Int)) (some ((HT.sIx n n hi:Nat):Int)) 1 n:=by
 have l1:=HT.UD n 0 (Nat.zero_le n) lo;have l2:=HT.UD n n (Nat.le_refl n) hi;have e:∀ a:Nat,a <= n->max 0 (min (if (a:Int) < 0 then (a:Int) + (n:Int) else (a:Int)) (n:Int)) = (a:Int):=λ a ha=>by
  rw [if_neg (by lia)];lia
 unfold Builtin.Str.strSliceIndices;simp only [show ((1:Int) > 0) = True from by simp,if_true];rw [e _ l1,e _ l2];cases lo with
 | none=>
  cases hi with
  | none=>rfl
  | some v=>simp only [Gm v n n]; rfl
 | some u=>
  cases hi with
  | none=>simp only [Gm u n 0]; rfl
  | some v=>simp only [Gm u n 0,Gm v n n]
theorem ZeK {a b:Nat} (h:b < a) (ha:a <= n):Builtin.Str.strSliceIndices (some (a:Int)) (some (b:Int)) 1 n = []:=by
 unfold Builtin.Str.strSliceIndices sliceRange;simp only [show ((1:Int) > 0) = True from by simp,if_true];rw [if_neg (show ¬ ((a:Int) < 0) by lia),if_neg (show ¬ ((b:Int) < 0) by lia),if_neg (by lia)];rfl
theorem Mq (x:Str) (lo hi:Option Int):Txt.slice x lo hi = GN x lo hi:=by
 have l1:=HT.UD x.length 0 (Nat.zero_le _) lo;have l2:=HT.UD x.length x.length (Nat.le_refl _) hi;have hl:x.cps.toList.length = x.length:=by simp [Str.length]
 unfold Txt.slice;rw [idx_eq];unfold GN;generalize HT.sIx x.length 0 lo = a at *;generalize HT.sIx x.length x.length hi = b at *
 by_cases h:a <= b
 ·rw [StrLaws.sliced_plain x h l2,StrLaws.strSliceIndices_plain h l2]
  split
  ·rename_i q;have q':b - a = x.length:=by simpa using q
   have a0:a = 0:=by lia
   subst a0;apply Str.ext';rw [List.drop_zero,List.take_of_length_le (by lia)]
  ·rfl
 ·rw [ZeK (by lia) l1,show b - a = 0 by lia]
  split
  ·rename_i q;have q':x.length = 0:=by
    have:0 = x.length:=by simpa using q
    lia
   apply Str.ext';have:x.cps.toList = []:=List.length_eq_zero_iff.mp (by lia);rw [List.take_zero];exact Array.toList_inj.mp this
  ·simp
section
variable {a b:Expr} {ta tb:DTE}
def Zk3:V->Option Int->Option Int->Hp->VK->Prop:=λ x lo hi H Q=>∃ z,x = .str z /\ z.length <= sizeLine /\ Q (.str (GN z lo hi)) H
theorem Zg1:SlR X Zk3:=by
 intro pins s Z H x v vl vu lo hi sl Q I rx hs pl pu h;obtain ⟨z,rfl,hz,q⟩:=h;obtain ⟨t,rfl⟩:=rx;have hlen:(Txt.slice z lo hi).length <= sizeLine:=Nat.le_trans (Txt.slice_le z lo hi) hz;have fin:∀ t' k,EP X pins Z Q (.str (Txt.slice z lo hi) t') { s with toks:=k }:=λ t' k=>by
  rw [Mq];exact ⟨.str (GN z lo hi),H,I.tok _,⟨_,rfl⟩,q⟩
 refine ⟨"str",_,PySem.F.slot_str_getitem.lookup,typeIs_str s z t,?_⟩;cases pl with
 | none=>cases pu with
  | none=>exact wpAny_getItem_str_slice (l:=none) (u:=none) (st:=none) hs rfl (post_val_or_str ⟨hlen,fin⟩)
  | int j uj=>exact wpAny_getItem_str_slice (l:=none) (u:=some (j,uj)) (st:=none) hs rfl (post_val_or_str ⟨hlen,fin⟩)
 | int i ui=>cases pu with
  | none=>exact wpAny_getItem_str_slice (l:=some (i,ui)) (u:=none) (st:=none) hs rfl (post_val_or_str ⟨hlen,fin⟩)
  | int j uj=>exact wpAny_getItem_str_slice (l:=some (i,ui)) (u:=some (j,uj)) (st:=none) hs rfl (post_val_or_str ⟨hlen,fin⟩)
def ZkU (te:DTE) (tl th:DTO):DTE:=λ Δ M Φ=>te Δ M λ x M1=>tl Δ M1 λ l M2=>th Δ M2 λ u M3=>onS x λ s=>s.length <= sizeLine /\ Φ (.dat (.str (GN s l u))) M3
theorem QO {lo hi:Option Expr} {tl th:DTO} (he:DE X e te) (hl:DO X lo tl) (hu:DO X hi th):DE X (.Subscript e (.Slice lo hi none p2) pos) (ZkU te tl th):=by
 obtain ⟨t1,p1,q1⟩:=he;obtain ⟨t2,p2,q2⟩:=hl;obtain ⟨t3,p3,q3⟩:=hu;refine ⟨_,Kj Zg1 p1 p2 p3,λ Z H Δ M Φ Q r e h k=>?_⟩;refine q1 Z H Δ M _ _ r e h λ v H1 x M1 r1 st rv hx=>?_;refine q2 Z H1 Δ M1 _ _ r1 (e.step st) hx λ l H2 M2 r2 st2 hl=>?_;refine q3 Z H2 Δ M2 _ _ r2 (e.step (st.trans st2)) hl λ u H3 M3 r3 st3 hu=>?_;replace hu:=ZI hu;obtain ⟨s,rfl,hz,hu⟩:=hu;exact ⟨s,rv.str,hz,k.dat r3 (st.trans (st2.trans st3)) (Dt.str _) hu⟩
def ZhQ:D2:=λ x y M Φ=>onS x λ s=>onI y λ i=>s.length <= sizeLine /\ ∃ c,L2.atI s.cps.toList i = some c /\ Φ (.dat (.str ⟨#[c]⟩)) M
theorem Fe (ha:DE X a ta) (hb:DE X b tb) (hs:autoParam (DZ b) zz7._auto_1):DE X (.Subscript a b pos) (dOp ZhQ ta tb):=by
 obtain ⟨ta',pa,qa⟩:=ha;obtain ⟨tb',pb,qb⟩:=hb;refine ⟨_,Ze9 Za6 pa pb hs,Snd.opn qa qb λ v u H x y M Φ Q r rv ru h k=>?_⟩;replace h:=ZI h;obtain ⟨s,rfl,h⟩:=h;replace h:=ZX h;obtain ⟨i,rfl,hz,c,hc,q⟩:=h;exact ⟨s,i,c,rv.str,ru.int,hz,hc,k.dat r Step.refl (Dt.str _) q⟩
def Zaq:D2:=λ x y M Φ=>onS x λ s=>onS y λ t=>s.length + t.length <= sizeLine /\ Φ (.dat (.str (s ++ t))) M
theorem Qc:OpD X (binaryOp .Add) Zaq:=
 ⟨_,HY,λ v u H x y M Φ Q r rv ru h k=>by
  replace h:=ZI h;obtain ⟨s,rfl,h⟩:=h;replace h:=ZI h;obtain ⟨t,rfl,hz,q⟩:=h
  exact ⟨s,t,rv.str,ru.str,hz,k.dat r Step.refl (Dt.str _) q⟩⟩
noncomputable def Ls (s:Str) (n:Nat):Str:=⟨((List.replicate n s.cps.toList).flatten).toArray⟩
theorem E2 (x:Array Nat):∀ (n:Nat) (acc:Array Nat),(List.replicate n x).foldl (· ++ ·) acc = acc ++ ((List.replicate n x.toList).flatten).toArray
 | 0,acc=>by simp
 | n + 1,acc=>by
  rw [List.replicate_succ,List.foldl_cons,E2 x n,List.replicate_succ,List.flatten_cons];apply Array.toList_inj.mp;simp
theorem HZ:OpR X (binaryOp .Mult) (λ x y H Q=>∃ z i,x = .str z /\ y = .int i /\ (1 <= i /\ i <= 1000 /\ z.length <= 1000) /\ Q (.str (Ls z i.toNat)) H):=by
 intro pins s Z H x y v u Q I rx ry h;obtain ⟨z,i,rfl,rfl,⟨h1,h2,h3⟩,q⟩:=h;obtain ⟨t,rfl⟩:=rx;obtain ⟨t',rfl⟩:=ry;have hm:z.length * i.toNat <= 1000000:=by
  have:z.length * i.toNat <= 1000 * 1000:=Nat.mul_le_mul h3 (by lia);lia
 have line:1000000 <= sizeLine:=by decide
 have fin:∀ t' k,EP X pins Z Q (.str (Ls z i.toNat) t') { s with toks:=k }:=λ t' k=>⟨.str (Ls z i.toNat),H,I.tok _,⟨_,rfl⟩,q⟩;have big:(⟨(List.replicate i.toNat z.cps).foldl (· ++ ·) #[]⟩:Str) = Ls z i.toNat:=by
  apply Str.ext';rw [E2];simp [Ls]
 refine PySem.P.mul_str (by
  have e1:decide (i < -(2 ^ 63:Int)) = false:=decide_eq_false (by lia);have e2:decide (i ≥ 2 ^ 63) = false:=decide_eq_false (by lia)
  rw [e1,e2,Bool.or_false]) (λ _ _ z1=>?_) (λ _ _=>?_) ?_
 ·have:(2 ^ 63 - 1:Int) / i ≥ 1000:=by
   rw [ge_iff_le,Int.le_ediv_iff_mul_le (by lia)];lia
  lia
 ·unfold Builtin.Str.tooLong;exact decide_eq_false (by lia)
 ·rw [if_neg (by lia)]
  split
  ·rename_i hc;have e:Ls z i.toNat = z:=by
    apply Str.ext'
    rcases (Bool.or_eq_true _ _ ▸ hc:_ \/ _) with c | c
    ·have:i = 1:=by simpa using c
     subst this;simp [Ls]
    ·have c':z.length = 0:=by simpa using c
     have c2:z.cps.toList = []:=List.length_eq_zero_iff.mp (by simpa [Str.length] using c');have c3:z.cps = #[]:=Array.toList_inj.mp c2;simp [Ls,c3]
   rw [e] at fin;exact fin t s.toks
  ·rw [big];refine ⟨?_,fin _ _⟩;have:(Ls z i.toNat).length = z.length * i.toNat:=by
    simp [Ls,Str.length,List.length_flatten,Nat.mul_comm]
   lia
def Zbd:D2:=λ x y M Φ=>onS x λ s=>onI y λ i=>(1 <= i /\ i <= 1000 /\ s.length <= 1000) /\ Φ (.dat (.str (Ls s i.toNat))) M
theorem Zc0:OpD X (binaryOp .Mult) Zbd:=
 ⟨_,HZ,λ v u H x y M Φ Q r rv ru h k=>by
  replace h:=ZI h;obtain ⟨s,rfl,h⟩:=h;replace h:=ZX h;obtain ⟨i,rfl,hz,q⟩:=h
  exact ⟨s,i,rv.str,ru.int,hz,k.dat r Step.refl (Dt.str _) q⟩⟩
theorem Ob:OpR X (compareOp .LtE) (λ x y H Q=>∃ i j,x = .str i /\ y = .str j /\ Q (.bl (!decide (j.cps.toList < i.cps.toList))) H):=by
 intro pins s Z H x y v u Q I rx ry h;obtain ⟨i,j,rfl,rfl,q⟩:=h;obtain ⟨t,rfl⟩:=rx;obtain ⟨t',rfl⟩:=ry;exact PySem.P.le_str (Z3 I q rfl)
def ZhN:D2:=λ x y M Φ=>onS x λ s=>onS y λ t=>Φ (.dat (.bool (!decide (t.cps.toList < s.cps.toList)))) M
theorem Fm:OpD X (compareOp .LtE) ZhN:=
 ⟨_,Ob,λ v u H x y M Φ Q r rv ru h k=>by
  replace h:=ZI h;obtain ⟨s,rfl,h⟩:=h;replace h:=ZI h;obtain ⟨t,rfl,q⟩:=h
  exact ⟨s,t,rv.str,ru.str,k.dat r Step.refl (Dt.bl _) q⟩⟩
noncomputable def Its (x:Str):It:=⟨λ i _=>i < x.length,λ i H y H'=>H' = H /\ ∃ c,x.cps[i]? = some c /\ y = .str ⟨#[c]⟩,λ i _=>x.length <= i⟩
theorem NR {K:Fk} (x:Str) (t:Tok) (it:Addr):Turn P w K tg (Its x) [it] it (λ i h=>h.IsStrIter it "str_ascii_iterator" x t i) where
 mem:=by simp
 obj:=λ i h st b hb=>by
  have e:b = it:=by simpa using hb
  subst e;obtain ⟨o,e,c,d⟩:=st;exact ⟨o,e,λ v z=>by rw [d] at z; cases z⟩
 keep:=λ i h h' st k=>let ⟨o,ho,r⟩:=st; ⟨o,k it (by simp) o ho,r⟩
 item:=by
  intro X hP hw hK hc i pins s Z H E I hf st hg;subst hP hw hK;have hi:i < x.cps.size:=hg;obtain ⟨f0,f1,f2,f3,f4,f5⟩:=hf it (by simp);refine wpAny_pyNext_ascii_item st (c:=x.cps[i]) (by simp [hi]) λ h' st' sb=>?_;have I1:Inv X pins Z H { s with heap:=h',toks:=s.toks + 1 }:=I.turned (t':=s.toks + 1) (λ b o hb e=>(sb.2 b hb).trans e) f0 f1 f3 f4 f5;obtain ⟨o,e,c,d⟩:=id st';exact ⟨_,rfl,Nr (s:={ s with heap:=h',toks:=s.toks + 1 }) e c d (by decide) ⟨.str ⟨#[x.cps[i]]⟩,H,I1,⟨_,rfl⟩,⟨rfl,_,by simp [hi],rfl⟩,st',λ b hb=>(hf b hb).1⟩⟩
 done:=by
  intro X hP hw hK hc i pins s Z H E I hf st hg;subst hP hw hK;obtain ⟨f0,f1,f2,f3,f4,f5⟩:=hf it (by simp);have hi:x.cps.size <= i:=hg;exact wpAny_pyNext_ascii_end (I.ok.hd hc) st (by simp [hi]) λ h' eb=>⟨rfl,I.turned (t':=s.toks) (λ b o hb e=>eb b o hb e) f0 f1 f3 f4 f5⟩
 self:=λ _ _ _ _ _ st h=>wpAny_pyIter_striter_ascii st h
theorem Oi {K:Fk} (x:Str) (t:Tok) (it:Addr):Turn P w K tg (Its x) [it] it (λ i h=>h.IsStrIter it "str_iterator" x t i) where
 mem:=by simp
 obj:=λ i h st b hb=>by
  have e:b = it:=by simpa using hb
  subst e;obtain ⟨o,e,c,d⟩:=st;exact ⟨o,e,λ v z=>by rw [d] at z; cases z⟩
 keep:=λ i h h' st k=>let ⟨o,ho,r⟩:=st; ⟨o,k it (by simp) o ho,r⟩
 item:=by
  intro X hP hw hK hc i pins s Z H E I hf st hg;subst hP hw hK;have hi:i < x.cps.size:=hg;obtain ⟨f0,f1,f2,f3,f4,f5⟩:=hf it (by simp);refine wpAny_pyNext_wide_item st (c:=x.cps[i]) (by simp [hi]) λ h' st' sb=>?_;have I1:Inv X pins Z H { s with heap:=h',toks:=s.toks + 1 }:=I.turned (t':=s.toks + 1) (λ b o hb e=>(sb.2 b hb).trans e) f0 f1 f3 f4 f5;obtain ⟨o,e,c,d⟩:=id st';exact ⟨_,rfl,Nr (s:={ s with heap:=h',toks:=s.toks + 1 }) e c d (by decide) ⟨.str ⟨#[x.cps[i]]⟩,H,I1,⟨_,rfl⟩,⟨rfl,_,by simp [hi],rfl⟩,st',λ b hb=>(hf b hb).1⟩⟩
 done:=by
  intro X hP hw hK hc i pins s Z H E I hf st hg;subst hP hw hK;obtain ⟨f0,f1,f2,f3,f4,f5⟩:=hf it (by simp);have hi:x.cps.size <= i:=hg;exact wpAny_pyNext_wide_end (I.ok.hd hc) st (by simp [hi]) λ h' eb=>⟨rfl,I.turned (t':=s.toks) (λ b o hb e=>eb b o hb e) f0 f1 f3 f4 f5⟩
 self:=λ _ _ _ _ _ st h=>wpAny_pyIter_striter_wide st h
def Zli (tl:TE):TI:=λ Z H R=>tl Z H λ x H1=>∃ z,x = .str z /\ R (Its z) H1
theorem ZhI {l:Expr} {tl:TE} (hl:PE X l tl):PI X tg l (Zli tl):=by
 intro pins s Z H R I h;refine thn (hl pins s Z H _ I h) λ v s1 ⟨x,H1,I1,r1,q1⟩=>?_;obtain ⟨z,e,q⟩:=q1;subst e;obtain ⟨t,rfl⟩:=r1;cases ha:z.cps.all (· < 128)
 ·refine wpAny_pyIter_wide ha ?_;refine ⟨s1.heap.objs.size,[s1.heap.objs.size],_,_,H1,rfl,I1.kept (t':=s1.toks) λ b o e=>Heap.get?_push_of_some _ e,Oi z t _,⟨_,Heap.get?_push_size _ rfl,rfl,rfl⟩,λ b hb=>?_,q⟩;have e:b = s1.heap.objs.size:=by simpa using hb
  subst e;exact I1.ZaQ (Nat.le_refl _) (I1.hok.fresh (Nat.le_refl _))
 ·refine wpAny_pyIter_ascii ha ?_;refine ⟨s1.heap.objs.size,[s1.heap.objs.size],_,_,H1,rfl,I1.kept (t':=s1.toks) λ b o e=>Heap.get?_push_of_some _ e,NR z t _,⟨_,Heap.get?_push_size _ rfl,rfl,rfl⟩,λ b hb=>?_,q⟩;have e:b = s1.heap.objs.size:=by simpa using hb
  subst e;exact I1.ZaQ (Nat.le_refl _) (I1.hok.fresh (Nat.le_refl _))
noncomputable def F4 (c:Nat):PyData:=.str ⟨#[c]⟩
def Zkn (te:DTE):X1:=λ Δ M Ψ=>te Δ M λ x M1=>onS x λ s=>Ψ (s.cps.toList.map F4) M1
theorem FC (he:DE X iter te):DI X tg iter (Zkn te):=by
 obtain ⟨t,p,q⟩:=he;refine ⟨_,ZhI p,λ Z H Δ M Ψ R dr er h k=>?_⟩;refine q Z H Δ M _ _ dr er h λ v H1 x M1 r1 st rv hx=>?_;replace hx:=ZI hx;obtain ⟨s,rfl,hΨ⟩:=hx;have hl:(s.cps.toList.map F4).length = s.length:=by simp [Str.length]
 refine ⟨s,rv.str,k _ H1 M1 _ r1 st (λ M2 H2 st2 i=>⟨λ hi=>⟨by rw [hl] at hi; exact hi,λ x H' y=>?_⟩,λ hi=>by rw [hl] at hi; exact hi⟩) hΨ⟩;obtain ⟨e,c,hc,rfl⟩:=y;subst e;refine λ r=>⟨r,Step.refl,F4 c,?_,Dt.str _⟩;rw [List.getElem?_map,Array.getElem?_toList,hc];rfl
def Zco:D1:=λ xs M Φ=>on1 xs λ x=>onS x λ s=>s.length <= sizeLine /\ Φ (.dat (.list (s.cps.toList.map F4))) M
def ZeW:D1:=λ xs M Φ=>on1 xs λ x=>onS x λ s=>s.length <= sizeLine /\ Φ (.dat (.tuple (s.cps.toList.map F4))) M
def rJoin (K:Fk):V->List V->Hp->VK->Prop:=λ x xs H Q=>∃ z p ss,x = .str z /\ xs = [.ref p] /\ SqL K H p (ss.map V.str) /\ JoinOk z ss = true /\ Q (.str (Txt.join z ss)) H
theorem O2:∀ {ss:List Str} {us:List Value},Vals (ss.map V.str) us->∃ l:List (Str × Tok),us = strValues l /\ l.map (·.1) = ss
 | [],_,r=>by rw [List.map_nil] at r; cases r; exact ⟨[],rfl,rfl⟩
 | s :: ss,_,r=>by
  rw [List.map_cons] at r;cases r with
  | cons r1 r2=>
   obtain ⟨t,rfl⟩:=r1;obtain ⟨l,rfl,e⟩:=O2 r2;exact ⟨(s,t) :: l,rfl,by rw [List.map_cons,e]⟩
theorem ZbC:MtR X "str.join" (rJoin X.K):=by
 intro pins s Z H x xs v us Q I rx rs h;obtain ⟨z,p,ss,rfl,rfl,hq,hj,q⟩:=h;obtain ⟨t,rfl⟩:=rx;obtain ⟨u,rfl,ru⟩:=vals1 rs;cases ru;obtain ⟨its,rv,pl,hz⟩:=I.list hq;obtain ⟨l,rfl,hl⟩:=O2 rv;exact SC.join pl.isList hl hj λ t' k=>⟨.str _,H,I.tok _,⟨_,rfl⟩,q⟩
def ZkH (ds:List PyData) (P:List Str->Prop):Prop:=∃ ss,ds = ss.map PyData.str /\ P ss
def Zfo (to te:DTE):DTE:=λ Δ M Φ=>to Δ M λ x M1=>onS x λ z=>te Δ M1 λ y M2=>onK y M2 λ ds=>ZkH ds λ ss=>JoinOk z ss = true /\ Φ (.dat (.str (Txt.join z ss))) M2
theorem Yd {K:Fk}:∀ {vs:List V} {ss:List Str},Dts K M H vs (ss.map PyData.str)->vs = ss.map V.str
 | vs,[],h=>by
  rw [List.map_nil] at h;cases h;rfl
 | vs,n :: ns,h=>by
  rw [List.map_cons] at h;cases h with
  | cons h1 h2=>
   cases h1;rw [Yd h2,List.map_cons]
theorem QU {o:Expr} {apos cpos:Pos} (ho:DE X o to) (he:DE X e te) (hbase:autoParam (attributeBase o "join" X.env (eval o X.env) = eval o X.env) zz3._auto_1)
  (hfew:((backTo cpos (starEach [e] X.env)).all (λ x=>!x.1) && (backToKw cpos (keywordEach [] X.env)).all (λ x=>x.1.isSome)
   && decide ([e].length + ([]:List Keyword).length + (if ([]:List Keyword).isEmpty then 0 else 1) < 30)) = true:=by rfl)
  (hline:autoParam ((apos.endLine == cpos.line) = true) zz3._auto_1) (hs:autoParam (starEach [e] X.env = (false,eval e X.env) :: starEach [] X.env) zz3._auto_1) (hplain:autoParam ((backTo cpos (starEach [] X.env)).any (·.1) = false) zz3._auto_1) :
  DE X (.Call (.Attribute o "join" apos) [e] [] cpos) (Zfo to te):=by
 obtain ⟨t1,p1,q1⟩:=ho;obtain ⟨t2,p2,q2⟩:=he;refine ⟨_,Dz PySem.F.plainAttrs_str PySem.F.slot_str_join PySem.F.type_str_join ZbC p1 (JC p2 Yh hs) hbase hfew hline hs hplain,λ Z H Δ M Φ Q r e h k=>?_⟩;refine q1 Z H Δ M _ _ r e h λ v H1 x M1 r1 st rv hx=>?_;replace hx:=ZI hx;obtain ⟨z,rfl,hx⟩:=hx;cases rv.str;refine ⟨rfl,q2 Z H1 Δ M1 _ _ r1 (e.step st) hx λ w H2 y M2 r2 st2 rw2 hy=>?_⟩;replace hy:=YT hy;obtain ⟨ds,hd,ss,rfl,hj,hy⟩:=hy;replace hd:LU y M2 (ss.map PyData.str):=hd;obtain ⟨a,xs,rfl,h1,h2⟩:=hd.sq r2 rw2;cases Yd h2;exact ⟨z,a,ss,rfl,rfl,h1,hj,k.dat r2 (st.trans st2) (Dt.str _) hy⟩
def Zgb (to:DTE):DTE:=λ Δ M Φ=>to Δ M λ x M1=>onS x λ z=>z.length <= 1000 /\ Φ (.dat (.str (Txt.upper z))) M1
end
theorem ZfP:type_of% @ZkU.eq_1:=λ _ _ _ _ _ _=>qI
theorem ZbO:type_of% @ZhQ.eq_1:=λ _ _ _ _=>qI
theorem S1:type_of% @Zaq.eq_1:=λ _ _ _ _=>qI
theorem Tf:type_of% @Zbd.eq_1:=λ _ _ _ _=>qI
theorem ZdQ:type_of% @ZhN.eq_1:=λ _ _ _ _=>qI
theorem ZgW:type_of% @Zkn.eq_1:=λ _ _ _ _=>qI
theorem ZbB:type_of% @Zfo.eq_1:=λ _ _ _ _ _=>qI
theorem str_len (s:Str):s.cps.toList.length = s.length:=by simp [Str.length]
theorem add_list (s t:Str):(s ++ t).cps.toList = s.cps.toList ++ t.cps.toList:=by rw [Str.cps_append,Array.toList_append]
theorem Em (s t:Str):(s ++ t).length = s.length + t.length:=Str.length_append s t
theorem Ka (c:Nat):(⟨#[c]⟩:Str).cps.toList = [c]:=rfl
theorem Dh (c:Nat):(⟨#[c]⟩:Str).length = 1:=rfl
theorem EF (s:Str) (lo hi:Option Int):(GN s lo hi).cps.toList = (s.cps.toList.drop (HT.sIx s.length 0 lo)).take (HT.sIx s.length s.length hi - HT.sIx s.length 0 lo):=rfl
theorem DX {lo hi:Option Int} {c:Nat} (h:c ∈ (GN s lo hi).cps.toList):c ∈ s.cps.toList:=by
 rw [EF] at h;exact List.mem_of_mem_drop (List.mem_of_mem_take h)
theorem D0 (s:Str) (lo hi:Option Int):(GN s lo hi).length = HT.sIx s.length s.length hi - HT.sIx s.length 0 lo:=by
 have l1:=HT.UD s.length s.length (Nat.le_refl _) hi;rw [<- str_len,EF,List.length_take,List.length_drop,str_len];lia
theorem EO {d:Nat} (h0:0 <= i):HT.sIx n d (some i) = min i.toNat n:=by
 obtain ⟨k,rfl⟩:=Int.eq_ofNat_of_zero_le h0;rw [HT.Zeg];rfl
theorem join_list:∀ ss:List Str,(Txt.join (Str.ofString "") ss).cps.toList = (ss.map (·.cps.toList)).flatten:=by
 have e0:(Str.ofString "").cps.toList = []:=by walk_at "k"
 have go:∀ ss:List Str,(Str.join (Str.ofString "") ss).cps.toList = (ss.map (·.cps.toList)).flatten:=λ ss=>by
  induction ss with
  | nil=>rfl
  | cons s ss ih=>
   cases ss with
   | nil=>simp [Str.join]
   | cons t ss=>
    rw [Str.join,add_list,add_list,e0,ih]
    ·simp
    ·simp
 intro ss;have:Txt.join (Str.ofString "") ss = Str.join (Str.ofString "") ss:=by
  exact StrLaws.glued_eq_join _ _
 rw [this,go]
theorem OC {sep:Str} {ss:List Str} {B:Nat} (hB:∀ y ∈ ss,y.length <= B) (h:ss.length * B + ss.length * sep.length <= 16777216):JoinOk sep ss = true:=by
 unfold JoinOk;rw [StrLaws.joinFits hB h];rfl
theorem Zd9 (h:∀ c ∈ s.cps.toList,c < 128):(Txt.upper s).cps.toList = s.cps.toList.map λ c=>if 97 <= c /\ c <= 122 then c - 32 else c:=by
 have go:∀ l:List Nat,(∀ c ∈ l,c < 128)->(Txt.upper ⟨l.toArray⟩).cps.toList = l.map λ c=>if 97 <= c /\ c <= 122 then c - 32 else c:=λ l=>by
  induction l with
  | nil=>intro _; decide +kernel
  | cons c l ih=>
   intro hl;have e:(⟨(c :: l).toArray⟩:Str) = ⟨#[c]⟩ ++ ⟨l.toArray⟩:=by
    apply Str.ext';rw [Str.cps_append];apply Array.toList_inj.mp;simp
   rw [e,PySem.W.KOpn.upper_app,add_list,PySem.W.KOpn.upper_one (hl c List.mem_cons_self),ih λ d hd=>hl d (List.mem_cons_of_mem _ hd)];rfl
 exact go s.cps.toList h
end DL
namespace DL
open PySem.W
section
variable {lt:Nat->Nat->Bool}
def KOk (n:Nat) (lt:Nat->Nat->Bool) {α:Type}:KasT α->(α->Prop)->Prop
 | .ret a,Q=>Q a
 | .ask i j k,Q=>i < n /\ j < n /\ i ≠ j /\ KOk n lt (k (lt i j)) Q
def Le (lt:Nat->Nat->Bool) (a b:Nat):Prop:=lt b a = false
structure Ord (lt:Nat->Nat->Bool):Prop where
 asym:∀ a b,lt a b = true->lt b a = false
 tran:∀ a b c,Le lt a b->Le lt b c->Le lt a c
theorem Ord.refl (o:Ord lt) (a:Nat):Le lt a a:=by
 unfold Le;cases h:lt a a with
 | false=>rfl
 | true=>have:=o.asym a a h; rw [h] at this; cases this
noncomputable abbrev at' (p:Array Nat) (k:Nat):Nat:=p.getD k 0
def Pm (n:Nat) (p:Array Nat):Prop:=p.Perm (List.range n).toArray
theorem Pm.size {p:Array Nat} (h:Pm n p):p.size = n:=by
 have:=h.size_eq
 simpa using this
theorem O7 {α:Type} {l:List α} (nd:l.Nodup) {a b:Nat} (ha:a < l.length) (hb:b < l.length) (z:l[a] = l[b]):a = b:=by
 have pw:=List.pairwise_iff_getElem.mp nd
 by_cases h1:a < b
 ·exact absurd z (pw a b ha hb h1)
 ·by_cases h2:b < a
  ·exact absurd z.symm (pw b a hb ha h2)
  ·lia
theorem Pm.inj {p:Array Nat} (h:Pm n p) {a b:Nat} (ha:a < n) (hb:b < n) (hn:a ≠ b):at' p a ≠ at' p b:=by
 have hs:=h.size;have e:∀ k,(hk:k < n)->at' p k = p.toList[k]'(by simpa [hs] using hk):=λ k hk=>by simp [at',hs,hk]
 have nd:p.toList.Nodup:=by
  have:=Array.perm_iff_toList_perm.mp h;exact this.nodup_iff.mpr List.nodup_range
 rw [e a ha,e b hb];exact λ z=>hn (O7 nd _ _ z)
end
section
variable {prog:Program} {s:Shared} {lt:Nat->Nat->Bool}
end
section
variable {prog:Program} {s:Shared}
variable {K:Type} [DecidableEq K] {knd:KeyKind prog w K}
end
end DL
namespace DL
def Oj (o:Option OO) (P:List (Key × PyData)->Prop):Prop:=match o with | some (.dkv ps)=>P ps | _=>False
theorem ZdR {o:Option OO} {P:List (Key × PyData)->Prop} (h:Oj o P):∃ ps,o = some (.dkv ps) /\ P ps:=by
 unfold Oj at h
 split at h
 ·exact ⟨_,rfl,h⟩
 ·exact h.elim
noncomputable def Vm (ps:List (Key × PyData)) (k:Key):Option PyData:=(ps.find? λ kv=>decide (kv.1 = k)).map (·.2)
noncomputable def ZgM (ps:List (Key × PyData)) (k:Key) (d:PyData):List (Key × PyData):=if (ps.any λ kv=>decide (kv.1 = k)) = true then ps.map (λ kv=>if kv.1 = k then (kv.1,d) else kv) else ps ++ [(k,d)]
section
variable {K:Fk}
inductive KD (K:Fk) (M:Mp) (H:Hp):List (Key × V)->List (Key × PyData)->Prop
 | nil:KD K M H [] []
 | cons {k:Key} {v:V} {d:PyData} {kvs:List (Key × V)} {ps:List (Key × PyData)}:Dt K M H v d->KD K M H kvs ps->KD K M H ((k,v) :: kvs) ((k,d) :: ps)
theorem KD.of:∀ {kvs:List (Key × V)} {ps:List (Key × PyData)},kvs.map (·.1) = ps.map (·.1)->Dts K M H (kvs.map (·.2)) (ps.map (·.2))->KD K M H kvs ps
 | [],[],_,_=>.nil
 | [],_ :: _,h,_=>by simp at h
 | _ :: _,[],h,_=>by simp at h
 | (k,v) :: kvs,(k',d) :: ps,h,hd=>by
  rw [List.map_cons,List.map_cons,List.cons.injEq] at h;cases (show k = k' from h.1);cases hd with
  | cons h1 h2=>exact .cons h1 (KD.of h.2 h2)
theorem KD.keys:∀ {kvs:List (Key × V)} {ps:List (Key × PyData)},KD K M H kvs ps->kvs.map (·.1) = ps.map (·.1)
 | _,_,.nil=>rfl
 | _,_,.cons _ h=>by rw [List.map_cons,List.map_cons,h.keys]
theorem KD.vals:∀ {kvs:List (Key × V)} {ps:List (Key × PyData)},KD K M H kvs ps->Dts K M H (kvs.map (·.2)) (ps.map (·.2))
 | _,_,.nil=>.nil
 | _,_,.cons h1 h=>.cons h1 h.vals
theorem KD.any (k:Key):∀ {kvs:List (Key × V)} {ps:List (Key × PyData)},KD K M H kvs ps->(kvs.any λ kv=>decide (kv.1 = k)) = ps.any λ kv=>decide (kv.1 = k)
 | _,_,.nil=>rfl
 | _,_,.cons _ h=>by rw [List.any_cons,List.any_cons,h.any k]
theorem KD.snoc {k:Key} (hd:Dt K M H v d):∀ {kvs:List (Key × V)} {ps:List (Key × PyData)},KD K M H kvs ps->KD K M H (kvs ++ [(k,v)]) (ps ++ [(k,d)])
 | _,_,.nil=>.cons hd .nil
 | _,_,.cons h1 h=>.cons h1 (h.snoc hd)
theorem KD.ZdY (k:Key) (hd:Dt K M H v d):∀ {kvs:List (Key × V)} {ps:List (Key × PyData)},KD K M H kvs ps->KD K M H (kvs.map λ kv=>if kv.1 = k then (kv.1,v) else kv) (ps.map λ kv=>if kv.1 = k then (kv.1,d) else kv)
 | _,_,.nil=>.nil
 | _,_,.cons (k:=k') h1 h=>by
  rw [List.map_cons,List.map_cons]
  by_cases e:k' = k
  ·rw [if_pos e,if_pos e];exact .cons hd (h.ZdY k hd)
  ·rw [if_neg e,if_neg e];exact .cons h1 (h.ZdY k hd)
theorem KD.put (k:Key) (hd:Dt K M H v d) {ps:List (Key × PyData)} (h:KD K M H kvs ps):KD K M H (putK kvs k v) (ZgM ps k d):=by
 unfold putK ZgM;rw [h.any k]
 split
 ·exact h.ZdY k hd
 ·exact h.snoc hd
theorem KD.val (k:Key):∀ {kvs:List (Key × V)} {ps:List (Key × PyData)},KD K M H kvs ps->(CO kvs k = none /\ Vm ps k = none) \/ ∃ v d,CO kvs k = some v /\ Vm ps k = some d /\ Dt K M H v d
 | _,_,.nil=>.inl ⟨rfl,rfl⟩
 | _,_,.cons (k:=k') (v:=v) (d:=d) h1 h=>by
  unfold CO Vm
  by_cases e:k' = k
  ·rw [List.find?_cons_of_pos (by simpa using e),List.find?_cons_of_pos (by simpa using e)];exact .inr ⟨v,d,rfl,rfl,h1⟩
  ·rw [List.find?_cons_of_neg (by simpa using e),List.find?_cons_of_neg (by simpa using e)];exact h.val k
theorem KD.length {ps:List (Key × PyData)} (h:KD K M H kvs ps):kvs.length = ps.length:=by
 have:=congrArg List.length h.keys
 simpa using this
theorem ZV.dk (r:ZV K M H) {ps:List (Key × PyData)} (h:M a = some (.dkv ps)):∃ kvs,H a = some (.dK kvs) /\ KD K M H kvs ps:=by
 obtain ⟨kvs,e1,e2,e3⟩:=r.ok a _ h;exact ⟨kvs,e1,.of e2 e3⟩
theorem ZV.Zjq (r:ZV K M H) {ps:List (Key × PyData)} (st:Step M H (ZR M p (.dkv ps)) (upd H p (.dK kvs))) (h:KD K M H kvs ps):ZV K (ZR M p (.dkv ps)) (upd H p (.dK kvs)):=
 r.WY st ⟨kvs,Zz,h.keys,h.vals.step st⟩
end
section
variable {o i value:Expr} {td ti tv:DTE} {pos':Pos}
theorem KD.some {K:Fk} {ps:List (Key × PyData)} (h:KD K M H kvs ps) (k:Key):(CO kvs k).isSome = (Vm ps k).isSome:=by
 rcases h.val k with ⟨a,b⟩ | ⟨v,d,a,b,_⟩
 ·rw [a,b]; rfl
 ·rw [a,b]; rfl
def ZhZ (td ti:DTE):DTE:=λ Δ M Φ=>td Δ M λ x M1=>ti Δ M1 λ y M2=>onO x λ l=>onS y λ s=>Oj (M2 l) λ ps=>∃ d,Vm ps (.inr s) = some d /\ Φ (.dat d) M2
theorem JF {k:Nat} (hr:JT k X.A) (ho:DE X o td) (hi:DE X i ti) (hs:autoParam (Zj4 i) zz7._auto_1):DE X (.Subscript o i pos) (ZhZ td ti):=by
 obtain ⟨t1,p1,q1⟩:=ho;obtain ⟨t2,p2,q2⟩:=hi;refine ⟨_,ZdZ (by have:=hr.un; lia) p1 p2 hs,λ Z H Δ M Φ Q r e h k=>?_⟩;refine q1 Z H Δ M _ _ r e h λ v H1 x M1 r1 st1 rv hx=>?_;refine q2 Z H1 Δ M1 _ _ r1 (e.step st1) hx λ w H2 y M2 r2 st2 rw2 hy=>?_;replace hy:=Qw hy;obtain ⟨l,rfl,hy⟩:=hy;replace hy:=ZI hy;obtain ⟨s,rfl,hy⟩:=hy;replace hy:=ZdR hy;obtain ⟨ps,hm,d,hd,q⟩:=hy;cases (show v = .ref l from rv);cases rw2.str;obtain ⟨kvs,g1,g2⟩:=r2.dk hm
 rcases g2.val (.inr s) with ⟨_,b⟩ | ⟨u,d',a,b,du⟩
 ·rw [hd] at b;cases b
 ·rw [hd] at b;cases b;exact ⟨l,u,rfl,by rw [<- a]; exact ZaA.k (k:=.inr s) g1,k.dat r2 (st1.trans st2) du q⟩
end
theorem Zdk:type_of% @ZhZ.eq_1:=λ _ _ _ _ _=>qI
end DL
namespace DL
open PySem.W
section
variable {prog:Program} {s:Shared}
end
section
variable {prog:Program} {s:Shared}
end
section
variable {Z:L2.St} {s:Shared}
theorem FK {t':Nat} {ch:List Addr} (I:L2.Inv X pins Z H s) (k:∀ b o,b ∉ ch->s.heap.get? b = some o->h'.get? b = some o) (f:∀ b ∈ ch,HF X pins H b):L2.Inv X pins Z H { s with heap:=h',toks:=t' }:=by
 have nit:∀ b u,H b = some u->b ∉ ch:=λ b u e z=>by rw [(f b z).1] at e; cases e
 refine I.step (g':=s.gens) (d':=s.drawn) (ch:=ch) (λ b hb=>?_) (λ b o _ _ hc e _=>k b o hc e) (λ b o _ _ hc e _=>⟨o.slots,k b o hc e⟩) (λ _ _ _ _ n=>n)
  (λ b o hc e=>⟨o,k b o hc e⟩) (λ _ _ e=>e) (λ _ _ _ e=>e) (λ b ps e=>⟨#[],by rw [e]; simp⟩) (λ m hm=>?_) (λ b u e=>?_) I.bare
 ·obtain ⟨_,f1,_,f3,f4,f5⟩:=f b hb;exact ⟨f3,f1,f4,f5⟩
 ·obtain ⟨o,es,ep,ho,r⟩:=hm;exact ⟨o,es,ep,k _ o (λ z=>(f _ z).2.1 rfl) ho,r⟩
 ·refine (I.hok b u e).HQ (λ c v hc q=>k c v ?_ q) (λ _ q=>q) λ _ _ q=>q
  rcases hc with z | z
  ·rw [z]; exact nit b u e
  ·exact nit c _ z
end
noncomputable def WA (ds:List PyData):List PyData:=ds.mapIdx λ i d=>.tuple [.int i,d]
theorem Nl {i:Nat} (h:ds[i]? = some d):(WA ds)[i]? = some (.tuple [.int i,d]):=by
 unfold WA;rw [List.getElem?_mapIdx,h];rfl
section
variable {prog:Program} {s:Shared}
end
theorem P2 (hu:X.A.units < cLine):OpR X (compareOp .NotEq) (λ x y H Q=>∃ a b xs,x = .ref a /\ y = .ref b /\ SqL X.K H a xs /\ SqL X.K H b [] /\ Q (.bl (!xs.isEmpty)) H):=by
 intro pins s Z H x y v u Q I rx ry h;obtain ⟨a,b,xs,rfl,rfl,h1,h2,q⟩:=h;cases rx;cases ry;obtain ⟨its,r,p,_⟩:=I.list h1;obtain ⟨jts,r2,p2,_⟩:=I.list h2;cases r2;have hl:=r.length;cases xs with
 | nil=>
  have e:its.toArray.size = ([]:List Value).toArray.size:=by rw [List.size_toArray,List.size_toArray]; exact hl.symm
  refine PySem.SeqAt.RcNeAt.lists (e:=λ _=>true) p.isList p2.isList e hu (λ j h1 h2=>absurd h2 (Nat.not_lt_zero _)) _ _ _ _ ⟨.bl _,H,I,?_,q⟩;show Value.bool (!(List.range its.toArray.size).all λ _=>true) = _;rw [e];rfl
 | cons x xs=>
  refine PySem.SeqAt.RcNeAt.lists_lengths p.isList p2.isList ?_ hu _ _ _ _ ⟨.bl _,H,I,rfl,q⟩;rw [List.size_toArray,<- hl];rfl
def MG:D2:=λ x y M Φ=>onK x M λ ds=>onK y M λ es=>es = [] /\ Φ (.dat (.bool (!ds.isEmpty))) M
theorem PQ {k:Nat} (hr:JT k X.A):OpD X (compareOp .NotEq) MG:=by
 refine ⟨_,P2 (by have:=hr.un; lia),λ v u H x y M Φ Q r rv ru h k=>?_⟩;replace h:=YT h;obtain ⟨ds,hx,h⟩:=h;replace h:=YT h;obtain ⟨es,hy,rfl,q⟩:=h;replace hx:LU x M ds:=hx;replace hy:LU y M []:=hy;obtain ⟨a,xs,rfl,h1,h2⟩:=hx.sq r rv;obtain ⟨b,ys,rfl,h3,h4⟩:=hy.sq r ru;cases h4;refine ⟨a,b,xs,rfl,rfl,h1,h3,?_⟩;have e:xs.isEmpty = ds.isEmpty:=by cases h2 <;> rfl
 rw [e];exact k.dat r Step.refl (Dt.bl _) q
theorem OV:type_of% @MG.eq_1:=λ _ _ _ _=>qI
noncomputable def isS (h:PyData) (s:Str):Bool:=match h with | .str t=>decide (t = s) | _=>false
end DL
namespace DL
open PySem.W PySem.SeqAt PySem.MeetsSeq
theorem Jq (l:Addr) (es:Array DictEntry) (n:Nat) (dd:Option Addr) (sl:Array (Option Value)) (b:Str) (u:Tok) :
  Meets (Builtin.«dict.__eq__» ⟨[.ref l,.str b u],[]⟩) (λ _ R s=>s.heap.get? l = some { cls:=.type "dict",dict:=dd,data:=.dict es n,slots:=sl } /\ R (.ok (.ret .notImplemented)) s):=
 .of_wp λ prog w A R s h=>by
  obtain ⟨hp,g,d,tk,os⟩:=s; obtain ⟨hl,h⟩:=h;have f1:=F.sub_str_dict
  wp_walk using wpAny_loadPart' hl
  exact ⟨_,rfl,h⟩
theorem Jl (b:Str) (u:Tok) (l:Addr) (c:Value) (es:Array DictEntry) (n:Nat) (dd:Option Addr) (sl:Array (Option Value)) :
  Meets (Builtin.«str.__eq__» ⟨[.str b u,.ref l],[]⟩) (λ _ R s=>s.heap.get? l = some { cls:=c,dict:=dd,data:=.dict es n,slots:=sl } /\ R (.ok (.ret .notImplemented)) s):=
 .of_wp λ prog w A R s h=>by obtain ⟨hp,g,d,tk,os⟩:=s; obtain ⟨hl,h⟩:=h; wp_walk using wpAny_loadPart' hl,wpAny_load hl; exact ⟨_,rfl,h⟩
section
variable {s:Shared}
def Zir (h:Heap) (l:Addr):Prop:=∃ (o:Obj) (es:Array DictEntry) (n:Nat),h.get? l = some o /\ o.cls = .type "dict" /\ o.data = .dict es n
theorem C3 {l:Addr} (b:Str) (u:Tok) (hl:Zir s.heap l) (hu:A.units < cLine):RcAt A s (.ref l) (.str b u) false:=λ prog w E Q h=>by
 obtain ⟨⟨cls,dd,data,sl⟩,es,n,ho,hc,hd⟩:=hl;simp only at hc hd;subst hc hd;exact rc_eq_decline_or (k:=false) ⟨_,ho,rfl⟩ (typeIs_str s b u) (by decide) F.sub_str_dict F.slot_dict_eq F.slot_str_eq_refl
  (λ _ hq=>call_meets F.slot_dict_eq ⟨_,ho,rfl⟩ F.entry_dict_eq (F.args_dict_eq_2 _ _) (Jq l es n dd sl b u) ⟨ho,hq⟩)
  (λ _ hq=>call_meets F.slot_str_eq_refl (typeIs_str s b u) F.entry_str_eq (F.args_str_eq_2 _ _) (Jl b u l (.type "dict") es n dd sl) ⟨ho,hq⟩)
  (λ _ hq=>wpAny_of_eq (rfl:isSame (.ref l) (.str b u) = pure false) hq) (.inr hu) h
theorem Ep {l:Addr} (b:Str) (u:Tok) (hl:Zir s.heap l) (hu:A.units < cLine):RcAt A s (.str b u) (.ref l) false:=λ prog w E Q h=>by
 obtain ⟨⟨cls,dd,data,sl⟩,es,n,ho,hc,hd⟩:=hl;simp only at hc hd;subst hc hd;exact rc_eq_decline_or (k:=false) (typeIs_str s b u) ⟨_,ho,rfl⟩ (by decide) F.sub_dict_str F.slot_str_eq F.slot_dict_eq_refl
  (λ _ hq=>call_meets F.slot_str_eq (typeIs_str s b u) F.entry_str_eq (F.args_str_eq_2 _ _) (Jl b u l (.type "dict") es n dd sl) ⟨ho,hq⟩)
  (λ _ hq=>call_meets F.slot_dict_eq_refl ⟨_,ho,rfl⟩ F.entry_dict_eq (F.args_dict_eq_2 _ _) (Jq l es n dd sl b u) ⟨ho,hq⟩)
  (λ _ hq=>wpAny_of_eq (rfl:isSame (.str b u) (.ref l) = pure false) hq) (.inr hu) h
theorem DJ {l:Addr} (b:Str) (u:Tok) (hl:Zir s.heap l) (hu:A.units < cLine):EqAt A s (.str b u) (.ref l) false:=λ prog w E Q h=>by
 unfold eqBool;refine wpAny_holding ?_;refine wpAny_ite_split (λ hab=>absurd (eq_of_beq hab) nofun) (λ _=>?_);exact wpAny_bind (Ep b u hl hu prog w E _ (wpAny_truthy_bool h))
end
inductive Bs (h:Heap) (b:Bool) (t:Str):Value->Prop
 | non:b = false->Bs h b t .none
 | bl (k:Bool):b = false->Bs h b t (.bool k)
 | int (i:Int) (u:Tok):b = false->Bs h b t (.int i u)
 | str (x:Str) (u:Tok):b = decide (x = t)->Bs h b t (.str x u)
 | tup {a:Addr} {items:Array Value}:h.IsTuple a items->b = false->Bs h b t (.ref a)
 | lst {a:Addr} {items:Array Value}:h.IsList a items->b = false->Bs h b t (.ref a)
 | dic {a:Addr}:Zir h a->b = false->Bs h b t (.ref a)
theorem ZbR {Z:L2.St} {s:Shared} {x:V} {v:Value} (t:Str) (I:L2.Inv X pins Z H s) (r:RelV x v) (h:Dt X.K M H x d):Bs s.heap (isS d t) t v:=by
 cases h with
 | non=>cases r; exact .non rfl
 | bl b=>cases r; exact .bl b rfl
 | int i=>obtain ⟨u,rfl⟩:=r; exact .int i u rfl
 | str z=>obtain ⟨u,rfl⟩:=r; exact .str z u rfl
 | tup h1 h2=>
  cases r;obtain ⟨its,rv,p,_⟩:=I.tuple h1.sq;exact .tup (show s.heap.IsTuple _ its.toArray from p) rfl
 | lst h1 h2=>
  cases r;obtain ⟨its,rv,p,_⟩:=I.list h1.sq;exact .lst p.isList rfl
 | dK h0 h1 h2=>
  cases r;obtain ⟨_,_,_,_,o,es,n,e,c,d,_⟩:=I.hok _ _ h1;exact .dic ⟨o,es,n,e,c.1,d⟩ rfl
 | dT h0 h1 h2 _=>
  cases r;obtain ⟨_,_,_,_,o,es,n,e,c,d,_⟩:=I.hok _ _ h1;exact .dic ⟨o,es,n,e,c.1,d⟩ rfl
 | dX h0 h1 h2 h3 h4 h5=>
  cases r;obtain ⟨φ,_⟩:=I.hok _ _ h1;obtain ⟨o,es,n,u,e,c,d,_⟩:=h3 _ φ;exact .dic ⟨o,es,n,e,c,d⟩ rfl
theorem Bs.rc {s:Shared} {b:Bool} {t:Str} {v:Value} (u:Tok) (h:Bs s.heap b t v) (hu:A.units < cLine):RcAt A s v (.str t u) b:=by
 cases h with
 | non e=>rw [e]; exact RcAt.none_str t u
 | bl k e=>rw [e]; exact RcAt.bool_str k t u
 | int i w e=>rw [e]; exact RcAt.int_str i w t u
 | str x w e=>rw [e,<- Bool.beq_eq_decide_eq]; exact RcAt.str_str x w t u
 | tup p e=>rw [e]; exact RcAt.tuple_str t u p hu
 | lst p e=>rw [e]; exact RcAt.list_str t u p hu
 | dic p e=>rw [e]; exact C3 t u p hu
theorem Bs.eq {s:Shared} {b:Bool} {t:Str} {v:Value} (u:Tok) (h:Bs s.heap b t v) (hu:A.units < cLine):EqAt A s (.str t u) v b:=by
 cases h with
 | non e=>rw [e]; exact EqAt.str_none t u
 | bl k e=>rw [e]; exact EqAt.str_bool t u k
 | int i w e=>rw [e]; exact EqAt.str_int t u i w
 | str x w e=>
  have e2:b = (t == x):=by rw [e,Bool.beq_eq_decide_eq,decide_eq_decide]; exact eq_comm
  rw [e2];exact EqAt.str_str t u x w
 | tup p e=>rw [e]; exact EqAt.str_tuple t u p hu
 | lst p e=>rw [e]; exact EqAt.str_list t u p hu
 | dic p e=>rw [e]; exact DJ t u p hu
theorem ZgA (hu:X.A.units < cLine):OpR X (compareOp .Eq) (λ x y H Q=>∃ M d t,Dt X.K M H x d /\ y = .str t /\ Q (.bl (isS d t)) H):=by
 intro pins s Z H x y v u Q I rx ry h;obtain ⟨M,d,t,h1,rfl,q⟩:=h;obtain ⟨w,rfl⟩:=ry;exact (ZbR t I rx h1).rc w hu _ _ _ _ ⟨.bl _,H,I,rfl,q⟩
def ZfC:D2:=λ x y M Φ=>onD x λ d=>onS y λ t=>Φ (.dat (.bool (isS d t))) M
theorem YU {k:Nat} (hr:JT k X.A):OpD X (compareOp .Eq) ZfC:=
 ⟨_,ZgA (by have:=hr.un; lia),λ v u H x y M Φ Q r rv ru h k=>by
  obtain ⟨d,e1,h⟩:=ZY h;obtain ⟨t,e2,q⟩:=ZI h;subst e1 e2
  exact ⟨M,d,t,rv,ru.str,k.dat r Step.refl (Dt.bl _) q⟩⟩
theorem ZfX (hu:X.A.in1.units < cLine):OpR X (compareOp .In) (λ x y H Q=>∃ (M:Mp) (d:PyData) (b:Addr) (ts:List Str),Dt X.K M H x d /\ y = .ref b /\ SqT X.K H b (ts.map V.str) /\ Q (.bl (ts.any (isS d))) H):=by
 intro pins s Z H x y v u Q I rx ry h;obtain ⟨M,d,b,ts,h1,rfl,h2,q⟩:=h;cases ry;obtain ⟨its,r,p,_⟩:=I.tuple h2;have key:∀ (ts:List Str) (its:List Value),Vals (ts.map V.str) its->(∀ y ∈ its,EqAt X.A.in1 s y v (match y with | .str t _=>isS d t | _=>false)) /\ (its.any λ y=>match y with | .str t _=>isS d t | _=>false) = ts.any (isS d):=by
  intro ts
  induction ts with
  | nil=>intro its r; cases r; exact ⟨λ y hy=>(nomatch hy),rfl⟩
  | cons t ts ih=>
   intro its r;rw [List.map_cons] at r;cases r with
   | cons r1 r2=>
    obtain ⟨w,rfl⟩:=r1;obtain ⟨i1,i2⟩:=ih _ r2;refine ⟨λ y hy=>?_,by rw [List.any_cons,List.any_cons,i2]⟩
    rcases List.mem_cons.mp hy with rfl | hy
    ·exact (ZbR t I rx h1).eq w hu
    ·exact i1 y hy
 obtain ⟨k1,k2⟩:=key ts its r;refine in_tupleAt (λ y=>match y with | .str t _=>isS d t | _=>false) (show s.heap.IsTuple b its.toArray from p) (λ y hy=>k1 y (by simpa using hy)) ⟨.bl _,H,I,?_,q⟩;rw [<- k2];simp only [List.any_toArray];rfl
def Ze8:D2:=λ x y M Φ=>onD x λ d=>onT y λ ds=>∃ ts:List Str,ds = ts.map PyData.str /\ Φ (.dat (.bool (ts.any (isS d)))) M
theorem MB {k:Nat} (hr:JT k X.A):OpD X (compareOp .In) Ze8:=
 ⟨_,ZfX (by have:=hr.un; show X.A.units + 1 < _; lia),λ v u H x y M Φ Q r rv ru h k=>by
  obtain ⟨d,e1,h⟩:=ZY h;obtain ⟨ds,e2,ts,rfl,q⟩:=Ku h;subst e1 e2;obtain ⟨b,xs,rfl,g1,g2⟩:=ru.tup;rw [Yd g2] at g1
  exact ⟨M,d,b,ts,rv,rfl,g1.sq,k.dat r Step.refl (Dt.bl _) q⟩⟩
theorem Zb5:type_of% @ZfC.eq_1:=λ _ _ _ _=>qI
theorem Zcp:type_of% @Ze8.eq_1:=λ _ _ _ _=>qI
end DL
namespace DL
open PySem.W
theorem BM:∀ (l acc:List (Key × V)),(l.map (·.1)).Nodup->(∀ p ∈ l,∀ q ∈ acc,q.1 ≠ p.1)->l.foldl (λ acc kv=>putK acc kv.1 kv.2) acc = acc ++ l
 | [],acc,_,_=>by simp
 | p :: l,acc,hn,hd=>by
  rw [List.map_cons,List.nodup_cons] at hn;have e:putK acc p.1 p.2 = acc ++ [p]:=by
   unfold putK;rw [if_neg];intro z;obtain ⟨q,hq,e⟩:=List.any_eq_true.mp z;exact hd p List.mem_cons_self q hq (of_decide_eq_true e)
  rw [List.foldl_cons,e,BM l _ hn.2 λ p' hp' q hq=>?_]
  ·simp
  ·rcases List.mem_append.mp hq with hq | hq
   ·exact hd p' (List.mem_cons_of_mem _ hp') q hq
   ·rw [List.mem_singleton.mp hq];intro z;exact hn.1 (List.mem_map.mpr ⟨p',hp',z.symm⟩)
theorem HS (l:List (Key × V)) (h:(l.map (·.1)).Nodup):XO [] l = l:=by
 unfold XO;rw [BM l [] h λ p _ q hq=>(nomatch hq)];rfl
def Zam (tk0 tk1 tk2 tk3 tk4 tk5 tv0 tv1 tv2 tv3 tv4 tv5:DTE):DTE:=λ Δ M Φ=>tk0 Δ M λ x0 M1=>tv0 Δ M1 λ y0 M2=>tk1 Δ M2 λ x1 M3=>tv1 Δ M3 λ y1 M4=>tk2 Δ M4 λ x2 M5=>tv2 Δ M5 λ y2 M6=>tk3 Δ M6 λ x3 M7=>tv3 Δ M7 λ y3 M8=>tk4 Δ M8 λ x4 M9=>tv4 Δ M9 λ y4 M10=>tk5 Δ M10 λ x5 M11=>tv5 Δ M11 λ y5 M12=>onS x0 λ s0=>onD y0 λ d0=>onS x1 λ s1=>onD y1 λ d1=>onS x2 λ s2=>onD y2 λ d2=>onS x3 λ s3=>onD y3 λ d3=>onS x4 λ s4=>onD y4 λ d4=>onS x5 λ s5=>onD y5 λ d5=>([s0,s1,s2,s3,s4,s5]:List Str).Nodup /\ ∀ p,M12 p = none->Φ (.own p) (ZR M12 p (.dkv [(Sum.inr s0,d0),(Sum.inr s1,d1),(Sum.inr s2,d2),(Sum.inr s3,d3),(Sum.inr s4,d4),(Sum.inr s5,d5)]))
theorem PL {k0 k1 k2 k3 k4 k5 v0 v1 v2 v3 v4 v5:Expr} {tk0 tk1 tk2 tk3 tk4 tk5 tv0 tv1 tv2 tv3 tv4 tv5:DTE} (hk0:At X k0 tk0) (hv0:At X v0 tv0) (hk1:At X k1 tk1) (hv1:At X v1 tv1) (hk2:At X k2 tk2) (hv2:At X v2 tv2) (hk3:At X k3 tk3) (hv3:At X v3 tv3) (hk4:At X k4 tk4) (hv4:At X v4 tv4) (hk5:At X k5 tk5) (hv5:At X v5 tv5):DE X (.Dict [some k0,some k1,some k2,some k3,some k4,some k5] [v0,v1,v2,v3,v4,v5] pos) (Zam tk0 tk1 tk2 tk3 tk4 tk5 tv0 tv1 tv2 tv3 tv4 tv5):=by
 obtain ⟨a0,pk0,qk0⟩:=hk0;obtain ⟨b0,pv0,qv0⟩:=hv0;obtain ⟨a1,pk1,qk1⟩:=hk1;obtain ⟨b1,pv1,qv1⟩:=hv1;obtain ⟨a2,pk2,qk2⟩:=hk2;obtain ⟨b2,pv2,qv2⟩:=hv2;obtain ⟨a3,pk3,qk3⟩:=hk3;obtain ⟨b3,pv3,qv3⟩:=hv3;obtain ⟨a4,pk4,qk4⟩:=hk4;obtain ⟨b4,pv4,qv4⟩:=hv4;obtain ⟨a5,pk5,qk5⟩:=hk5;obtain ⟨b5,pv5,qv5⟩:=hv5;refine ⟨_,ZcC (VX pk0 pv0 (VX pk1 pv1 (VX pk2 pv2 (VX pk3 pv3 (VX pk4 pv4 (VX pk5 pv5 Zcv)))))) rfl rfl (by simp) (by simp),λ Z H Δ M Φ Q r e h kk p hp=>?_⟩;obtain ⟨u0,x0,ru0,i0,f0⟩:=qk0 Z H Δ M _ e h;clear h;obtain ⟨w0,y0,rw0,j0,g0⟩:=qv0 Z H Δ M _ e i0;clear i0;obtain ⟨u1,x1,ru1,i1,f1⟩:=qk1 Z H Δ M _ e j0;clear j0;obtain ⟨w1,y1,rw1,j1,g1⟩:=qv1 Z H Δ M _ e i1;clear i1;obtain ⟨u2,x2,ru2,i2,f2⟩:=qk2 Z H Δ M _ e j1;clear j1;obtain ⟨w2,y2,rw2,j2,g2⟩:=qv2 Z H Δ M _ e i2;clear i2;obtain ⟨u3,x3,ru3,i3,f3⟩:=qk3 Z H Δ M _ e j2;clear j2;obtain ⟨w3,y3,rw3,j3,g3⟩:=qv3 Z H Δ M _ e i3;clear i3;obtain ⟨u4,x4,ru4,i4,f4⟩:=qk4 Z H Δ M _ e j3;clear j3;obtain ⟨w4,y4,rw4,j4,g4⟩:=qv4 Z H Δ M _ e i4;clear i4;obtain ⟨u5,x5,ru5,i5,f5⟩:=qk5 Z H Δ M _ e j4;clear j4;obtain ⟨w5,y5,rw5,j5,g5⟩:=qv5 Z H Δ M _ e i5;clear i5;replace j5:=ZI j5;obtain ⟨s0,rfl,z0⟩:=j5;replace z0:=ZY z0;obtain ⟨d0,rfl,y0⟩:=z0;replace y0:=ZI y0;obtain ⟨s1,rfl,z1⟩:=y0;replace z1:=ZY z1;obtain ⟨d1,rfl,y1⟩:=z1;replace y1:=ZI y1;obtain ⟨s2,rfl,z2⟩:=y1;replace z2:=ZY z2;obtain ⟨d2,rfl,y2⟩:=z2;replace y2:=ZI y2;obtain ⟨s3,rfl,z3⟩:=y2;replace z3:=ZY z3;obtain ⟨d3,rfl,y3⟩:=z3;replace y3:=ZI y3;obtain ⟨s4,rfl,z4⟩:=y3;replace z4:=ZY z4;obtain ⟨d4,rfl,y4⟩:=z4;replace y4:=ZI y4;obtain ⟨s5,rfl,z5⟩:=y4;replace z5:=ZY z5;obtain ⟨d5,rfl,y5⟩:=z5;have h:=y5;refine f0 _ _ (g0 _ _ (f1 _ _ (g1 _ _ (f2 _ _ (g2 _ _ (f3 _ _ (g3 _ _ (f4 _ _ (g4 _ _ (f5 _ _ (g5 _ _ ⟨Zz,[((Sum.inr s0:Key),w0),((Sum.inr s1:Key),w1),((Sum.inr s2:Key),w2),((Sum.inr s3:Key),w3),((Sum.inr s4:Key),w4),((Sum.inr s5:Key),w5)],?_,by simp,?_⟩)))))))))))
 ·rw [ru0.str,ru1.str,ru2.str,ru3.str,ru4.str,ru5.str]; rfl
 ·have e1:XO [] [((Sum.inr s0:Key),w0),((Sum.inr s1:Key),w1),((Sum.inr s2:Key),w2),((Sum.inr s3:Key),w3),((Sum.inr s4:Key),w4),((Sum.inr s5:Key),w5)] = [((Sum.inr s0:Key),w0),((Sum.inr s1:Key),w1),((Sum.inr s2:Key),w2),((Sum.inr s3:Key),w3),((Sum.inr s4:Key),w4),((Sum.inr s5:Key),w5)]:=HS _ (by simpa using h.1);rw [e1,Zca];exact kk _ _ (.own p) _ (r.Zjq (ps:=[(Sum.inr s0,d0),(Sum.inr s1,d1),(Sum.inr s2,d2),(Sum.inr s3,d3),(Sum.inr s4,d4),(Sum.inr s5,d5)]) (Step.QW hp) (.cons rw0 (.cons rw1 (.cons rw2 (.cons rw3 (.cons rw4 (.cons rw5 .nil))))))) (Step.QW hp) rfl (h.2 p (r.tracked hp))
theorem Sd:type_of% @Zam.eq_1:=λ _ _ _ _ _ _ _ _ _ _ _ _ _ _ _=>qI
theorem Dts.rep {K:Fk} (h:Dts K M H vs ds):∀ n:Nat,Dts K M H (List.replicate n vs).flatten (List.replicate n ds).flatten
 | 0=>.nil
 | n + 1=>by rw [List.replicate_succ,List.replicate_succ,List.flatten_cons,List.flatten_cons]; exact h.append (h.rep n)
def Zha:D2:=λ x y M Φ=>onO x λ l=>onI y λ i=>Va (M l) λ ds=>(0 <= i /\ i < 2 ^ 63 /\ ds.length * i.toNat <= sizeLine) /\ Φ (.dat (.list (List.replicate i.toNat ds).flatten)) M
theorem L8:OpD X (binaryOp .Mult) Zha:=by
 refine ⟨_,Zhh,λ v u H x y M Φ Q r rv ru h k=>?_⟩;replace h:=Qw h;obtain ⟨l,rfl,h⟩:=h;replace h:=ZX h;obtain ⟨i,rfl,h⟩:=h;replace h:=JE h;obtain ⟨ds,hl,⟨h1,h2,h3⟩,q⟩:=h;cases (show v = .ref l from rv);obtain ⟨ws,g1,g2⟩:=r.ls l _ hl;exact ⟨l,i,ws,rfl,ru.int,g1,by lia,h2,by rw [g2.length]; exact h3,λ p hp=>k.dat (r.new hp) (Step.new hp) (Dt.KY r hp (g2.rep _)) q⟩
theorem Zcj:type_of% @Zha.eq_1:=λ _ _ _ _=>qI
end DL
namespace DL
open PySem.W PySem.SeqAt PySem.MeetsSeq
def Zhr:D2:=λ x y M Φ=>onT x λ ds=>onI y λ k=>(2 <= k /\ k <= 1000 /\ 1 <= ds.length /\ ds.length <= 1000) /\ Φ (.dat (.tuple (List.replicate k.toNat ds).flatten)) M
theorem TN:OpR X (binaryOp .Add) (λ x y H Q=>∃ a b xs ys,x = .ref a /\ y = .ref b /\ SqT X.K H a xs /\ SqT X.K H b ys /\ xs.length + ys.length <= sizeLine /\
  (xs = []->Q (.ref b) H) /\ (xs ≠ []->ys = []->Q (.ref a) H) /\ (xs ≠ []->ys ≠ []->∀ p,H p = none->Q (.ref p) (upd H p (.tup (xs ++ ys))))):=by
 intro pins s Z H x y v u Q I rx ry h;obtain ⟨a,b,xs,ys,rfl,rfl,ha,hb,hz,q0,q1,q2⟩:=h
 by_cases hx:xs = []
 ·cases rx;cases ry;obtain ⟨its,r1,p1,_⟩:=I.tuple ha;obtain ⟨its2,r2,p2,_⟩:=I.tuple hb;obtain ⟨⟨cls,dd,data,sl⟩,ho,hc,n,hd⟩:=id p1;obtain ⟨⟨cls2,dd2,data2,sl2⟩,ho2,hc2,n2,hd2⟩:=id p2;simp only at hc hd hc2 hd2;subst hc hd hc2 hd2;have he:its = []:=r1.GD.mpr hx;exact concat_meets ⟨_,ho,rfl⟩ ⟨_,ho2,rfl⟩ noFill_tuple_add seq_tuple_add PySem.F.slot_tuple_add PySem.F.entry_tuple_add (PySem.F.args_tuple_add_2 _ _)
   (tuple_addW0 a b its.toArray its2.toArray n n2 dd dd2 sl sl2 (by rw [he]; rfl)) ⟨ho,ho2,⟨.ref b,H,I,rfl,q0 hx⟩⟩
 ·exact Zcx pins s Z H _ _ v u Q I rx ry ⟨a,b,xs,ys,rfl,rfl,ha,hb,hx,hz,q1 hx,q2 hx⟩
def ON:D2:=λ x y M Φ=>onT x λ ds=>onT y λ es=>ds.length + es.length <= sizeLine /\ Φ (.dat (.tuple (ds ++ es))) M
theorem Fb:OpD X (binaryOp .Add) ON:=by
 refine ⟨_,TN,λ v u H x y M Φ Q r rv ru h k=>?_⟩;replace h:=Ku h;obtain ⟨ds,rfl,h⟩:=h;replace h:=Ku h;obtain ⟨es,rfl,hz,q⟩:=h;obtain ⟨a,xs,rfl,h1,h2⟩:=id rv.tup;obtain ⟨b,ys,rfl,h3,h4⟩:=id ru.tup;refine ⟨a,b,xs,ys,rfl,rfl,h1.sq,h3.sq,by rw [h2.length,h4.length]; exact hz,λ e=>?_,λ e e2=>?_,λ e e2 p hp=>?_⟩
 ·subst e;cases h2;exact k _ _ _ _ r Step.refl ru q
 ·subst e2;cases h4;rw [List.append_nil] at q;exact k _ _ _ _ r Step.refl rv q
 ·exact k.dat (r.new hp) (Step.new hp) (Dt.Ko r hp (h2.append h4)) q
theorem NB:type_of% @ON.eq_1:=λ _ _ _ _=>qI
end DL
namespace DL
open PySem.W
def Zhs (a b:Addr) (n:Nat) (i:Nat) (h:Heap):Prop:=
 IsZip h (n + 4) (n + 2) (n + 3) .none /\ IsPair h (n + 2) (.ref n) (.ref (n + 1)) /\ (∃ u v,IsPair h (n + 3) u v) /\ h.IsListIter n a i /\ h.IsListIter (n + 1) b i
theorem zn {p q:Nat} (h:p ≠ q):n + p ≠ n + q:=λ e=>h (Nat.add_left_cancel e)
theorem zn0 {p:Nat} (h:p ≠ 0):n + p ≠ n:=λ e=>h (by lia)
theorem Zhs.apart {b:Addr} {i:Nat} {xs ys:Array Value} (st:Zhs a b n i h) (ha:h.IsList a xs) (hb:h.IsList b ys):ZipApart (n + 4) (n + 2) (n + 3) n (n + 1) a b:=by
 obtain ⟨hz,h2,⟨u,v,h3⟩,h0,h1⟩:=st;have nz:∀ {l:Addr} {zs:Array Value} (_:h.IsList l zs),l ≠ n + 4 /\ l ≠ n + 3 /\ l ≠ n /\ l ≠ n + 1:=by
  intro l zs hl;obtain ⟨o,ho,hc,_⟩:=hl;refine ⟨λ e=>?_,λ e=>?_,λ e=>?_,λ e=>?_⟩
  ·rw [e,hz] at ho; cases ho; exact absurd (Value.type.inj hc) (by decide)
  ·rw [e,h3] at ho; cases ho; exact absurd (Value.type.inj hc) (by decide)
  ·obtain ⟨o',ho',hc',_⟩:=h0;rw [e,ho'] at ho; cases ho; rw [hc'] at hc; exact absurd (Value.type.inj hc) (by decide)
  ·obtain ⟨o',ho',hc',_⟩:=h1;rw [e,ho'] at ho; cases ho; rw [hc'] at hc; exact absurd (Value.type.inj hc) (by decide)
 have A:=nz ha;have B:=nz hb;exact ⟨zn (by decide),zn (by decide),(zn0 (by decide)).symm,zn (by decide),zn (by decide),zn0 (by decide),zn (by decide),zn0 (by decide),zn (by decide),(zn0 (by decide)).symm,A.1,A.2.1,A.2.2.1,A.2.2.2,B.1,B.2.1,B.2.2.1,B.2.2.2⟩
section
variable {Z:L2.St} {s:Shared}
end
end DL
namespace DL
end DL
namespace DL
open PySem.W
structure Gives (it l:Addr) (xs:Array Value) (st:Nat->Heap->Prop):Prop where
 frame:∀ {i:Nat} {h h':Heap},st i h->(∀ b,b = it \/ b = l->∀ o,h.get? b = some o->h'.get? b = some o)->st i h'
 live:∀ {i:Nat} {h:Heap},st i h->∃ o,h.get? it = some o
 item:∀ {prog:Program} {w:World} {A:Around} {E:Value->Shared->Prop} {s:Shared} {Q:Value->Shared->Prop} {i:Nat} {x:Value},st i s.heap->xs[i]? = some x ->
  (∀ h',st (i + 1) h'->Heap.SameBut it s.heap h'->Q x { s with heap:=h' })->wpAny (model prog w) A (Builtin.SmallTypes.nextOf (.ref it)) Q E s
 done:∀ {prog:Program} {w:World} {A:Around} {E:Value->Shared->Prop} {s:Shared} {Q:Value->Shared->Prop} {i:Nat},A.handled = none->st i s.heap->xs[i]? = none ->
  (∀ h' e,Heap.ExtBut it s.heap h'->(∃ o,h'.get? e = some o /\ o.cls = .type "StopIteration")->E (.ref e) { s with heap:=h' })->wpAny (model prog w) A (Builtin.SmallTypes.nextOf (.ref it)) Q E s
section
variable {prog:Program} {s:Shared} {z TI TO l m:Addr} {xs ys:Array Value} {f g:Nat->Heap->Prop} {i:Nat}
end
section
variable {prog:Program} {s:Shared}
end
section
variable {g:DTG} {tb:DTS} {body:List Stmt}
def Zft (src:X1) (g:DTG) (tb:DTS):DTS:=λ D Δ M=>src Δ M λ ds M1=>Lq g tb D ds Δ M1
theorem Zda:type_of% @Zft.eq_1:=λ _ _ _ _ _ _=>qI
theorem Zd1 {src:X1} (hi:DI X tg iter src) (hg:DG X tg g) (hb:DSs X body tb) (hp:PassesOwn (model X.prog X.w) X.A X.env X.xe) (hc:X.calm = true) (hs:autoParam (∀ x,foldedSetIterable iter X.env x = pure x) zz2._auto_1) :
  DS X (.For tg iter body [] pos) (Zft src g tb):=by
 obtain ⟨wi,p1,q1⟩:=hi;obtain ⟨t2,p2,q2⟩:=hg;obtain ⟨t3,p3,q3⟩:=hb;refine ⟨_,E6 hp hc p1 p2 p3 hs,λ Z H Δ M D E r e h k=>?_⟩;refine q1 Z H Δ M _ _ r e h λ J H1 M1 ds r1 st yl hx=>?_;obtain ⟨I,j0,jt,jd⟩:=hx;refine ⟨λ i m Z H=>(∃ Δ M,ZV X.K M H /\ Step M1 H1 M H /\ Jw X.K M H Z Δ /\ I i Δ M) /\ i + m = ds.length,⟨ds.length,⟨Δ,M1,r1,Step.refl,e.step st,j0⟩,Nat.zero_add _⟩,λ i m Z H hW=>?_⟩;obtain ⟨⟨Δ,M,r',st',e',j⟩,hm⟩:=hW
 by_cases hi:i < ds.length
 ·obtain ⟨go,yd⟩:=(yl M H st' i).1 hi;refine .inr ⟨go,λ σ' H'=>∃ Δ' M',ZV X.K M' H' /\ Step M1 H1 M' H' /\ Jw X.K M' H' σ' Δ' /\ I (i + 1) Δ' M',λ σ' H' h=>⟨m - 1,by lia,h,by lia⟩,λ x H' hy=>?_⟩;obtain ⟨r2,st2,d,hd,hv⟩:=yd x H' hy r';refine q2 x Z H' (.dat d) Δ M _ _ r2 (e'.step st2) hv (jt i d Δ M hd j) λ σ3 H3 Δ3 M3 r3 st3 e3 hb3=>?_;refine q3 σ3 H3 Δ3 M3 _ _ r3 e3 hb3 ?_;have s12:Step M1 H1 M3 H3:=(st'.trans st2).trans st3
  exact ⟨λ σ' H' Δ' M' a b c d=>⟨Δ',M',a,s12.trans b,c,d⟩,k.rt.step (st.trans s12),λ σ' H' Δ' M' a b c d=>k.nx σ' H' Δ' M' a ((st.trans s12).trans b) c d,
   λ σ' H' Δ' M' a b c d=>⟨Δ',M',a,s12.trans b,c,d⟩⟩
 ·have ei:i = ds.length:=by lia
  refine .inl ⟨(yl M H st' i).2 (by lia),?_⟩;rw [ei] at j;exact k.nx Z H Δ M r' (st.trans st') e' (jd Δ M j)
end
end DL
namespace DL
structure Zjx (X:Cx) (scope:Scope) (k:Str) (N:List Str) (ix:List (Option Nat)):Prop where
 kind:scope.kind = .function
 cf:∀ n cl,cellsFrom n scope.names cl = (k,n) :: cl
 pc:∀ h,pushCells h scope.names = h.push { cls:=.type "cell",data:=.cell none }
 cellK:∀ y ∈ scope.names,y.2 = .cell->y.1 = k
 nk:∀ y ∈ scope.names,y.2 = .free->y.1 ≠ k
 names:∀ y ∈ scope.names,y.2 = .local->scope.names.lookup y.1 = some .local
 free:∀ y ∈ scope.names,y.2 = .free->X.env.kindOf y.1 = some .cell
 len:N.length = ix.length
 cap:∀ (j:Nat) (x:Str) (i:Nat),N[j]? = some x->ix[j]? = some (some i)->X.N[i]? = some x /\ (x,NameKind.free) ∈ scope.names /\ (relabel scope X.env).names.lookup x = some .cell
section
variable {Z:L2.St} {H2:Hp} {s2:Shared} {k:Str} {fp:List Addr}
end
end DL
namespace DL
open PySem.W
section
variable {K:Fk}
theorem QA.zero {x:DV} (h:QA K M H v x) (n:∀ t,x ≠ .ty t):VR0 K M H v x:=by
 cases x with
 | dat d=>exact h
 | own b=>exact h
 | ty t=>exact absurd rfl (n t)
 | mix xs=>exact h
end
section
variable {o i value:Expr} {td ti tv:DTE} {pos':Pos}
end
section
open PySem.SeqAt
open PySem.AutoSeq1 (wpAny_loadPart')
open PySem.MeetsSeq PySem.MeetsSeq2 PySem.MeetsSeq3
variable {prog:Program} {s:Shared}
end
theorem Bq:∀ {us:List Value} {ss:List Str},StrsAre us ss->Vals (ss.map V.str) us
 | _,_,.nil=>.nil
 | _,_,.cons n t h=>.cons ⟨t,rfl⟩ (Bq h)
theorem Vi {K:Fk}:∀ ss:List Str,Dts K M H (ss.map V.str) (ss.map PyData.str)
 | []=>.nil
 | s :: ss=>.cons (.str s) (Vi ss)
theorem Step.all:Step M H (λ _=>none) H:=⟨λ _ _ _ h=>h,λ _ _ _ _=>rfl⟩
def Hn (x:DV) (M:Mp) (P:PyData->Prop):Prop:=match x with | .dat d=>P d | .own q=>Va (M q) (λ ds=>P (.list ds)) | _=>False
theorem SU (d:PyData) (M:Mp) (P:PyData->Prop):Hn (.dat d) M P = P d:=qI
theorem Sy (q:Addr) (M:Mp) (P:PyData->Prop):Hn (.own q) M P = Va (M q) (λ ds=>P (.list ds)):=qI
theorem D5 {x:DV} {P:PyData->Prop} (h:Hn x M P) (r:ZV X.K M H) (rv:QA X.K M H v x):∃ d,Dt X.K (λ _=>none) H v d /\ P d:=by
 cases x with
 | dat d=>exact ⟨d,Dt.step Step.all rv,h⟩
 | own q=>
  have h:Va (M q) (λ ds=>P (.list ds)):=h;replace h:=JE h;obtain ⟨ds,hm,h⟩:=h;cases (show v = .ref q from rv);obtain ⟨vs,g1,g2⟩:=r.ls q ds hm;exact ⟨.list ds,.lst (.inl ⟨rfl,.inl g1⟩) (g2.step Step.all),h⟩
 | ty t=>exact h.elim
 | mix xs=>exact h.elim
def Zfb:D2:=λ x y M Φ=>Hn x M λ d=>Hn y M λ e=>Bg d e = true /\ Φ (.dat (.bool (PyData.eqv d e))) M
theorem ZbJ:type_of% @Zfb.eq_1:=λ _ _ _ _=>qI
def ZiU:D2:=λ x y M Φ=>Hn x M λ d=>Hn y M λ e=>Bg d e = true /\ Φ (.dat (.bool (!PyData.eqv d e))) M
theorem Zd8 {e:PyData} (h:Bg d e = true):d.canLay0 = true /\ e.canLay0 = true /\ min d.depth e.depth <= 64:=by
 unfold Bg at h;simp only [Bool.and_eq_true] at h;exact ⟨h.1.1,h.1.2,Nat.le_of_ble_eq_true h.2⟩
theorem Zf1 {k:Nat} (hr:JT k X.A):OpD X (compareOp .Eq) Zfb:=
 ⟨_,Zbe hr.units,λ v u H x y M Φ Q r rv ru h k=>by
  obtain ⟨d,hd,h⟩:=D5 h r rv;obtain ⟨e,he,ok,q⟩:=D5 h r ru;obtain ⟨c1,c2,hdp⟩:=Zd8 ok
  exact ⟨_,d,e,hd,he,c1,c2,hdp,k.dat r Step.refl (Dt.bl _) q⟩⟩
def O9:D1:=λ xs M Φ=>on1 xs λ x=>Hn x M λ d=>Shw d /\ Φ (.dat (.str d.shown)) M
theorem Mu:type_of% @O9.eq_1:=λ _ _ _=>qI
theorem TR {k:Nat} (hr:JT k X.A):VM X (.builtin "repr") O9:=by
 refine ⟨_,UC hr.gd (by have:=hr.un; lia),λ vs H xs M Φ Q r rv h k=>?_⟩;replace h:=Zp h;obtain ⟨x,rfl,h⟩:=h;obtain ⟨v,rfl,h1⟩:=Paired.one rv;obtain ⟨d,hd,hs,q⟩:=D5 h r h1;exact ⟨v,d,_,rfl,hd,hs.s,hs.m,hs.dp,hs.z,k.dat r Step.refl (Dt.str _) q⟩
end DL
namespace DL
end DL
namespace DL
open PySem.W
def ZeR (x:DV) (M:Mp) (P:List PyData->Prop):Prop:=match x with | .dat (.list ds)=>P ds | .own q=>Va (M q) P | _=>False
theorem TQ (q:Addr) (M:Mp) (P:List PyData->Prop):ZeR (.own q) M P = Va (M q) P:=qI
theorem Zey {x:DV} {P:List PyData->Prop} (h:ZeR x M P) (r:ZV X.K M H) (rv:QA X.K M H v x):∃ ds,Dt X.K (λ _=>none) H v (.list ds) /\ P ds:=by
 unfold ZeR at h
 split at h
 ·exact ⟨_,Dt.step Step.all rv,h⟩
 ·rename_i q;replace h:=JE h;obtain ⟨ds,hm,h⟩:=h;cases (show v = .ref q from rv);obtain ⟨vs,g1,g2⟩:=r.ls q ds hm;exact ⟨ds,.lst (.inl ⟨rfl,.inl g1⟩) (g2.step Step.all),h⟩
 ·exact h.elim
def Zgj:D2:=λ x y M Φ=>onD x λ d=>ZeR y M λ ds=>okIn d ds = true /\ Φ (.dat (.bool (ds.any λ e=>PyData.eqv e d))) M
theorem Zds:type_of% @Zgj.eq_1:=λ _ _ _ _=>qI
theorem ZgO {k:Nat} (hr:JT k X.A):OpD X (compareOp .In) Zgj:=
 ⟨_,Zbw (by have:=hr.un; lia),λ v u H x y M Φ Q r rv ru h k=>by
  obtain ⟨d,e1,h⟩:=ZY h;subst e1;obtain ⟨ds,he,ho,q⟩:=Zey h r ru;obtain ⟨c1,c2,hdp⟩:=L6 ho
  exact ⟨_,d,ds,Dt.step Step.all rv,.inl he,c1,c2,hdp,k.dat r Step.refl (Dt.bl _) q⟩⟩
def Zjb (i:Nat) (t:DTS):DTS:=λ D Δ M=>onV Δ[i]? λ x=>onO x λ l=>Va (M l) λ ds=>t D (Δ.set i (some (.dat (.list ds)))) (YI M l)
section
variable {l:Expr} {tl:TE}
end
section
variable {g:DTG} {tb:DTS} {body:List Stmt}
end
section
variable {o i:Expr} {td ti:DTE}
end
end DL
namespace DL
open PySem.W Builtin Builtin.Str
def Zh4:V->List V->Hp->VK->Prop:=λ x xs H Q=>∃ z y,x = .str z /\ xs = [.str y] /\ (y.length == 0) = false /\ z.length <= 10000000 /\ ∀ l,H l = none->Q (.ref l) (upd H l (.lst ((Txt.split z y).map V.str)))
theorem FJ:MtR X "str.split" Zh4:=by
 intro pins s Z H x xs v us Q I rx rs h;obtain ⟨z,y,rfl,rfl,hy,hz,q⟩:=h;obtain ⟨t,rfl⟩:=rx;obtain ⟨u,rfl,ru⟩:=vals1 rs;obtain ⟨u',rfl⟩:=ru;have hn:(partsBetween z (occurrences z y 0 z.length (z.length + 1)) y.length).length <= sizeLine:=by
  have e1:=StrLaws.occ_length_le z y 0 z.length (z.length + 1);rw [length_partsBetween,sizeLine_eq]; lia
 have hs:(Txt.split z y).length <= sizeLine:=by
  unfold Txt.split
  split
  ·exact Nat.le_trans (Nat.le_refl 1) (by rw [sizeLine_eq]; decide)
  ·split
   ·exact Nat.le_trans (Nat.le_refl 1) (by rw [sizeLine_eq]; decide)
   ·exact hn
 have hf:H s.heap.objs.size = none:=I.hok.fresh (Nat.le_refl _);have fin:∀ (l:List (Str × Tok)) (k:Nat),l.map (·.1) = Txt.split z y->s.toks <= k->∃ x H',L2.Inv X pins Z H' { s with toks:=k,heap:=s.heap.push { cls:=.type "list",data:=.seq (strValues l).toArray } } /\ RelV x (.ref s.heap.objs.size) /\ Q x H':=λ l k hl hk=>
  ⟨.ref s.heap.objs.size,_,I.laid (t':=k) (a:=s.heap.objs.size) (o:=.lst ((Txt.split z y).map V.str)) (λ _ _ e=>Heap.get?_push_of_some _ e) (Nat.le_refl _) ⟨by rw [List.length_map]; exact hs,strValues l,0,by rw [<- hl]; exact Bq (strsAre_of_values l),Heap.get?_push_size _ rfl⟩,rfl,q _ hf⟩
 cases h1:(decide (z.length < y.length) || decide (strKind z < strKind y))
 ·cases hf:(occurrences z y 0 z.length (z.length + 1)).isEmpty
  ·refine call_meets F.slot_str_split (typeIs_str _ _ _) F.entry_str_split (F.args_str_split_2 _ _) (meets_str_split_sep z y t u' h1 hy hf (by rw [sizeLine_eq]; lia) hn) ?_;show wants _ _ _ { s with toks:=_,heap:=s.heap.push { cls:=.type "list",data:=.seq (strsFrom s.toks (partsBetween z (occurrences z y 0 z.length (z.length + 1)) y.length)).toArray } };rw [strsFrom_eq];exact fin (numbered s.toks _) _ ((numbered_texts _ _).trans ((if_neg (ne_true_of_eq_false h1)).trans (if_neg (ne_true_of_eq_false hf))).symm) (Nat.le_add_right _ _)
  ·exact call_meets F.slot_str_split (typeIs_str _ _ _) F.entry_str_split (F.args_str_split_2 _ _) (meets_str_split_not_found z y t u' h1 hy hf)
    (fin [(z,t)] s.toks ((if_neg (ne_true_of_eq_false h1)).trans (if_pos hf)).symm (Nat.le_refl _))
 ·exact call_meets F.slot_str_split (typeIs_str _ _ _) F.entry_str_split (F.args_str_split_2 _ _) (meets_str_split_cannot_occur z y t u' h1)
   (fin [(z,t)] s.toks (if_pos h1).symm (Nat.le_refl _))
def ZaF (to te:DTE):DTE:=λ Δ M Φ=>to Δ M λ x M1=>onS x λ z=>te Δ M1 λ y M2=>onS y λ w=>((w.length == 0) = false /\ z.length <= 10000000) /\ Φ (.dat (.list ((Txt.split z w).map PyData.str))) M2
theorem RU:type_of% @ZaF.eq_1:=λ _ _ _ _ _=>qI
theorem Vf {o:Expr} {apos cpos:Pos} (ho:DE X o to) (he:DE X e te) (hbase:autoParam (attributeBase o "split" X.env (eval o X.env) = eval o X.env) zz3._auto_1)
  (hfew:((backTo cpos (starEach [e] X.env)).all (λ x=>!x.1) && (backToKw cpos (keywordEach [] X.env)).all (λ x=>x.1.isSome)
   && decide ([e].length + ([]:List Keyword).length + (if ([]:List Keyword).isEmpty then 0 else 1) < 30)) = true:=by rfl)
  (hline:autoParam ((apos.endLine == cpos.line) = true) zz3._auto_1) (hs:autoParam (starEach [e] X.env = (false,eval e X.env) :: starEach [] X.env) zz3._auto_1) (hplain:autoParam ((backTo cpos (starEach [] X.env)).any (·.1) = false) zz3._auto_1) :
  DE X (.Call (.Attribute o "split" apos) [e] [] cpos) (ZaF to te):=by
 obtain ⟨t1,p1,q1⟩:=ho;obtain ⟨t2,p2,q2⟩:=he;refine ⟨_,Dz PySem.F.plainAttrs_str PySem.F.slot_str_split PySem.F.type_str_split FJ p1 (JC p2 Yh hs) hbase hfew hline hs hplain,λ Z H Δ M Φ Q r e h k=>?_⟩;refine q1 Z H Δ M _ _ r e h λ v H1 x M1 r1 st rv hx=>?_;replace hx:=ZI hx;obtain ⟨z,rfl,hx⟩:=hx;cases rv.str;refine ⟨rfl,q2 Z H1 Δ M1 _ _ r1 (e.step st) hx λ w H2 y M2 r2 st2 rw2 hy=>?_⟩;replace hy:=ZI hy;obtain ⟨w',rfl,⟨h1,h2⟩,hy⟩:=hy;cases rw2.str;exact ⟨z,w',rfl,rfl,h1,h2,λ l hl=>k.dat (r2.new hl) ((st.trans st2).trans (Step.new hl)) (Dt.KY r2 hl (Vi _)) hy⟩
def ZeL:V->List V->Hp->VK->Prop:=λ x xs H Q=>∃ z y,x = .str z /\ xs = [.str y] /\ Q (.bl (Txt.startswith z y)) H
theorem Ph:MtR X "str.startswith" ZeL:=by
 intro pins s Z H x xs v us Q I rx rs h;obtain ⟨z,y,rfl,rfl,q⟩:=h;obtain ⟨t,rfl⟩:=rx;obtain ⟨u,rfl,ru⟩:=vals1 rs;obtain ⟨u',rfl⟩:=ru;exact SC.startswith ⟨.bl _,H,I,rfl,q⟩
def MR (to te:DTE):DTE:=λ Δ M Φ=>to Δ M λ x M1=>onS x λ z=>te Δ M1 λ y M2=>onS y λ w=>Φ (.dat (.bool (Txt.startswith z w))) M2
theorem Mc:type_of% @MR.eq_1:=λ _ _ _ _ _=>qI
theorem By {o:Expr} {apos cpos:Pos} (ho:DE X o to) (he:DE X e te) (hbase:autoParam (attributeBase o "startswith" X.env (eval o X.env) = eval o X.env) zz3._auto_1)
  (hfew:((backTo cpos (starEach [e] X.env)).all (λ x=>!x.1) && (backToKw cpos (keywordEach [] X.env)).all (λ x=>x.1.isSome)
   && decide ([e].length + ([]:List Keyword).length + (if ([]:List Keyword).isEmpty then 0 else 1) < 30)) = true:=by rfl)
  (hline:autoParam ((apos.endLine == cpos.line) = true) zz3._auto_1) (hs:autoParam (starEach [e] X.env = (false,eval e X.env) :: starEach [] X.env) zz3._auto_1) (hplain:autoParam ((backTo cpos (starEach [] X.env)).any (·.1) = false) zz3._auto_1) :
  DE X (.Call (.Attribute o "startswith" apos) [e] [] cpos) (MR to te):=by
 obtain ⟨t1,p1,q1⟩:=ho;obtain ⟨t2,p2,q2⟩:=he;refine ⟨_,Dz PySem.F.plainAttrs_str PySem.F.slot_str_startswith PySem.F.type_str_startswith Ph p1 (JC p2 Yh hs) hbase hfew hline hs hplain,λ Z H Δ M Φ Q r e h k=>?_⟩;refine q1 Z H Δ M _ _ r e h λ v H1 x M1 r1 st rv hx=>?_;replace hx:=ZI hx;obtain ⟨z,rfl,hx⟩:=hx;cases rv.str;refine ⟨rfl,q2 Z H1 Δ M1 _ _ r1 (e.step st) hx λ w H2 y M2 r2 st2 rw2 hy=>?_⟩;replace hy:=ZI hy;obtain ⟨w',rfl,hy⟩:=hy;cases rw2.str;exact ⟨z,w',rfl,rfl,k.dat r2 (st.trans st2) (Dt.bl _) hy⟩
theorem LX:JI X (.type "int") (λ xs H Q=>∃ z n,xs = [.str z] /\ PySem.intText? z = some n /\ z.length <= 640 /\ Q (.int n) H):=by
 intro pins s Z H xs us Q I r h;obtain ⟨z,n,rfl,hn,hl,q⟩:=h;obtain ⟨u,rfl,rx⟩:=vals1 r;obtain ⟨t,rfl⟩:=rx;exact KIN.call_text hn hl ⟨.int n,H,I.tok _,⟨_,rfl⟩,q⟩
def ZaT:D1:=λ xs M Φ=>on1 xs λ x=>onS x λ z=>∃ n,PySem.intText? z = some n /\ z.length <= 640 /\ Φ (.dat (.int n)) M
theorem PR:type_of% @ZaT.eq_1:=λ _ _ _=>qI
theorem NH:VM X (.type "int") ZaT:=by
 refine ⟨_,LX,λ vs H xs M Φ Q r rv h k=>?_⟩;replace h:=Zp h;obtain ⟨x,rfl,h⟩:=h;replace h:=ZI h;obtain ⟨z,rfl,n,hn,hl,q⟩:=h;obtain ⟨v,rfl,h1⟩:=Paired.one rv;exact ⟨z,n,by rw [QA.str h1],hn,hl,k.dat r Step.refl (Dt.int _) q⟩
section
variable {a b:Expr} {rest:List Expr} {ta tb:DTE}
theorem Zht {ua ub:TE} (ha:PE X a ua) (hb:PE X (.BoolOp .Or (b :: rest) pos) ub):PE X (.BoolOp .Or (a :: b :: rest) pos) (λ Z H Q=>ua Z H λ x H1=>∃ z,x = .str z /\ z.length <= 1000 /\ if z.length = 0 then ub Z H1 Q else Q (.str z) H1):=by
 intro pins s Z H Q I h;refine BoolOp_or (thn (ha pins s Z H _ I h) λ v s1 ⟨x,H1,I1,r1,q1⟩=>?_);obtain ⟨z,rfl,hz,q1⟩:=q1;obtain ⟨t,rfl⟩:=r1;refine PySem.P.truthy_str (by lia) ?_
 by_cases e:z.length = 0
 ·rw [if_pos e] at q1;rw [if_neg (by simpa using e)];exact hb pins _ Z H1 Q (I1.tok _) q1
 ·rw [if_neg e] at q1;rw [if_pos (by simpa using e)];exact ⟨.str z,H1,I1.tok _,⟨_,rfl⟩,q1⟩
def Zku (ta tb:DTE):DTE:=λ Δ M Φ=>ta Δ M λ x M1=>onS x λ z=>z.length <= 1000 /\ if z.length = 0 then tb Δ M1 Φ else Φ (.dat (.str z)) M1
theorem ZhO:type_of% @Zku.eq_1:=λ _ _ _ _ _=>qI
theorem Zf4 (ha:DE X a ta) (hb:DE X (.BoolOp .Or (b :: rest) pos) tb):DE X (.BoolOp .Or (a :: b :: rest) pos) (Zku ta tb):=by
 obtain ⟨t,p,q⟩:=ha;obtain ⟨u,p2,q2⟩:=hb;refine ⟨_,Zht p p2,λ Z H Δ M Φ Q r e h k=>?_⟩;refine q Z H Δ M _ _ r e h λ v H1 x M1 r1 st rv hx=>?_;replace hx:=ZI hx;obtain ⟨z,rfl,hz,hx⟩:=hx;refine ⟨z,rv.str,hz,?_⟩
 by_cases e0:z.length = 0
 ·rw [if_pos e0] at hx ⊢;exact q2 Z H1 Δ M1 _ _ r1 (e.step st) hx (k.step st)
 ·rw [if_neg e0] at hx ⊢;exact k.dat r1 st (Dt.str _) hx
end
def TV (to:DTE):DTE:=λ Δ M Φ=>to Δ M λ x M1=>onO x λ l=>Va (M1 l) λ ds=>Φ (.dat .none) (ZR M1 l (.lst ds.reverse))
def ZeV:DTS:=λ _ _ _=>False
theorem TK (D:QF) (Δ:DSt) (M:Mp):ZeV D Δ M = False:=rfl
end DL
namespace DL
open PySem.W
theorem Paired.atI {α β:Type} {F:α->β->Prop} {l:List α} {m:List β} {i:Int} {b:β} (h:Paired F l m) (e:L2.atI m i = some b):∃ a,L2.atI l i = some a /\ F a b:=by
 unfold L2.atI at e ⊢;rw [Paired.length h];cases q:ixN m.length i with
 | none=>rw [q] at e; cases e
 | some j=>
  rw [q] at e;exact Paired.ZjJ h e
theorem Paired.app {α β:Type} {F:α->β->Prop}:∀ {l l':List α} {m m':List β},Paired F l m->Paired F l' m'->Paired F (l ++ l') (m ++ m')
 | _,_,_,_,.nil,h=>h
 | _,_,_,_,.cons h1 h2,h=>.cons h1 (Paired.app h2 h)
section
variable {K:Fk}
theorem ZV.lv (r:ZV K M H) {xs:List DV} (h:M a = some (.lsv n xs)):∃ vs,H a = some (.lst vs) /\ Paired (VR0 K M H) vs xs:=r.ok a _ h
theorem Mxs.of:∀ {vs:List V} {xs:List DV},Paired (VR0 K M H) vs xs->Mxs K M H vs xs
 | _,_,.nil=>.nil
 | _,.dat d :: _,.cons h1 h2=>.dat h1 (Mxs.of h2)
 | _,.own b :: _,.cons h1 h2=>by
  cases (show _ = V.ref b from h1);exact .own (Mxs.of h2)
 | _,.mix ys :: _,.cons h1 h2=>.mix h1 (Mxs.of h2)
 | _,.ty t :: _,.cons h1 h2=>h1.elim
theorem Mxs.vr:∀ {vs:List V} {xs:List DV},Mxs K M H vs xs->Paired (VR0 K M H) vs xs
 | _,_,.nil=>.nil
 | _,_,.dat h1 h2=>.cons h1 (Mxs.vr h2)
 | _,_,.own h2=>.cons rfl (Mxs.vr h2)
 | _,_,.mix h1 h2=>.cons h1 (Mxs.vr h2)
mutual
inductive AsD (M:Mp):DV->PyData->Prop
 | dat (d:PyData):AsD M (.dat d) d
 | lsv {a:Addr} {n:Nat} {xs:List DV} {ds:List PyData}:M a = some (.lsv n xs)->Pq M xs ds->AsD M (.own a) (.list ds)
 | mix {xs:List DV} {ds:List PyData}:Pq M xs ds->AsD M (.mix xs) (.tuple ds)
 | lst {a:Addr} {ds:List PyData}:M a = some (.lst ds)->AsD M (.own a) (.list ds)
 | dkv {a:Addr} {ps:List (Key × PyData)}:M a = some (.dkv ps)->AsD M (.own a) (.dict (ps.map λ q=>(kD q.1,q.2)))
inductive Pq (M:Mp):List DV->List PyData->Prop
 | nil:Pq M [] []
 | cons {x:DV} {xs:List DV} {d:PyData} {ds:List PyData}:AsD M x d->Pq M xs ds->Pq M (x :: xs) (d :: ds)
end
theorem ZhM (r:ZV K M H) {ps:List (Key × PyData)} (hm:M a = some (.dkv ps)):Dt K (λ _=>none) H (.ref a) (.dict (ps.map λ q=>(kD q.1,q.2))):=by
 obtain ⟨kvs,g1,g2,g3⟩:=(show OOk K M H a (.dkv ps) from r.ok a _ hm)
 have e:(kvs.map λ kv=>kD kv.1) = ps.map λ q=>kD q.1:=by
  have:=congrArg (List.map kD) g2
  rwa [List.map_map,List.map_map] at this
 have z:=Dt.dK (K:=K) (M:=λ _=>none) (H:=H) (a:=a) rfl g1 (g3.step Step.all);rw [e,List.zip_map'] at z;exact z
mutual
theorem AsD.dt (r:ZV K M H):∀ {x:DV} {d:PyData},AsD M x d->∀ {v:V},VR0 K M H v x->Dt K (λ _=>none) H v d
 | _,_,.dat _,_,h=>Dt.step Step.all h
 | _,_,.lsv hm hs,_,h=>by
  cases (show _ = V.ref _ from h);exact .lst (.inl ⟨rfl,.inl (r.lv hm).choose_spec.1⟩) (Pq.dt r hs (r.lv hm).choose_spec.2)
 | _,_,.mix hs,_,h=>by
  cases (show Mx K M H _ _ from h) with
  | mk h1 h2 h3=>exact .tup (.inl ⟨rfl,.inl h2⟩) (Pq.dt r hs h3.vr)
 | _,_,.lst hm,_,h=>by
  cases (show _ = V.ref _ from h);exact .lst (.inl ⟨rfl,.inl (r.ls _ _ hm).choose_spec.1⟩) ((r.ls _ _ hm).choose_spec.2.step Step.all)
 | _,_,.dkv hm,_,h=>by
  cases (show _ = V.ref _ from h);exact ZhM r hm
theorem Pq.dt (r:ZV K M H):∀ {xs:List DV} {ds:List PyData},Pq M xs ds->∀ {vs:List V},Paired (VR0 K M H) vs xs->Dts K (λ _=>none) H vs ds
 | _,_,.nil,_,h=>by cases h; exact .nil
 | _,_,.cons h1 h2,_,h=>by
  cases h with
  | cons a b=>exact .cons (AsD.dt r h1 a) (Pq.dt r h2 b)
end
mutual
noncomputable def C7:PyData->Bool
 | .none=>true
 | .bool _=>true
 | .int _=>true
 | .str _=>true
 | .tuple ds=>BG ds
 | _=>false
noncomputable def BG:List PyData->Bool
 | []=>true
 | d :: ds=>C7 d && BG ds
end
theorem Zd4 (r:ZV K M H) (h:Rd H a (.tup xs)):M a = none:=by
 cases q:M a with
 | none=>rfl
 | some o=>
  have g:=r.ok a o q;exfalso;have no:∀ u,H a = some u->(∀ ys,u ≠ .tup ys)->(∀ o ys,u ≠ .frz o (.tup ys))->False:=λ u e n1 n2=>by
   rcases h with h | ⟨o,h⟩
   ·rw [h] at e; cases e; exact n1 _ rfl
   ·rw [h] at e; cases e; exact n2 _ _ rfl
  cases o with
  | lst ds=>obtain ⟨vs,e,_⟩:=g; exact no _ e (λ _ z=>nomatch z) (λ _ _ z=>nomatch z)
  | dct ks=>obtain ⟨vs,e,_⟩:=g; exact no _ e (λ _ z=>nomatch z) (λ _ _ z=>nomatch z)
  | dtv ps=>obtain ⟨vs,e,_⟩:=g; exact no _ e (λ _ z=>nomatch z) (λ _ _ z=>nomatch z)
  | dkv ps=>obtain ⟨vs,e,_⟩:=g; exact no _ e (λ _ z=>nomatch z) (λ _ _ z=>nomatch z)
  | dko ps=>obtain ⟨vs,e,_⟩:=g; exact no _ e (λ _ z=>nomatch z) (λ _ _ z=>nomatch z)
  | fdk o ps=>obtain ⟨vs,e,_⟩:=g; exact no _ e (λ _ z=>nomatch z) (λ _ _ z=>(by cases z))
  | lsv n xs=>obtain ⟨vs,e,_⟩:=g; exact no _ e (λ _ z=>nomatch z) (λ _ _ z=>nomatch z)
  | ext φ=>exact no _ g (λ _ z=>nomatch z) (λ _ _ z=>nomatch z)
  | gst N₀ H₀=>obtain ⟨⟨vs,e,_⟩,_⟩:=g; exact no _ e (λ _ z=>nomatch z) (λ _ _ z=>nomatch z)
  | fdc o ks=>obtain ⟨vs,e,_⟩:=g; exact no _ e (λ _ z=>nomatch z) (λ _ _ z=>(by cases z))
  | fdt o ps=>obtain ⟨vs,e,_⟩:=g; exact no _ e (λ _ z=>nomatch z) (λ _ _ z=>(by cases z))
  | tab φ=>obtain ⟨⟨vs,e,_⟩,_⟩:=g; exact no _ e (λ _ z=>nomatch z) (λ _ _ z=>nomatch z)
theorem Rp (r:ZV K M H) (h:TupAt K M' H a xs):TupAt K M H a xs:=by
 rcases h with ⟨_,h⟩ | h
 ·exact .inl ⟨Zd4 r h,h⟩
 ·exact .inr h
mutual
theorem Dt.back (r:ZV K M H):∀ {v:V} {d:PyData},Dt K M' H v d->C7 d = true->Dt K M H v d
 | _,_,.non,_=>.non
 | _,_,.bl b,_=>.bl b
 | _,_,.int i,_=>.int i
 | _,_,.str x,_=>.str x
 | _,_,.tup h1 h2,l=>.tup (Rp r h1) (Dts.back r h2 (by rw [C7] at l; exact l))
 | _,_,.lst _ _,l=>by simp [C7] at l
 | _,_,.dK _ _ _,l=>by simp [C7] at l
 | _,_,.dT _ _ _ _,l=>by simp [C7] at l
 | _,_,.dX _ _ _ _ _ _,l=>by simp [C7] at l
theorem Dts.back (r:ZV K M H):∀ {vs:List V} {ds:List PyData},Dts K M' H vs ds->BG ds = true->Dts K M H vs ds
 | _,_,.nil,_=>.nil
 | _,_,.cons h1 h2,l=>.cons (Dt.back r h1 (by rw [BG,Bool.and_eq_true] at l; exact l.1)) (Dts.back r h2 (by rw [BG,Bool.and_eq_true] at l; exact l.2))
end
end
section
variable {o i:Expr} {ti:DTE} {t:DTA} {pos':Pos}
end
section
variable {g:DTG} {tb:DTS} {body:List Stmt}
end
section
variable {K:Fk}
end
section
variable {o f:Expr} {td tf:DTE} {p apos:Pos}
end
theorem cO {k k':Nat} {S:DSp} {t:DTA} {p pos:Pos} (O:Own X.K X.mg x st ps f fd) (F:Qu X.prog X.w X.K X.mg X.base CX0 k f fd ps (lift X.K S)) (hr:JT k' X.A) (ha:DA X (e :: es) t)
  (hl:autoParam (k <= k') zz9._auto_1) (hg:autoParam (Gl X x) zz10._auto_1) (hdb:autoParam ((x == ("__debug__" : Str)) = false) zz1._auto_1) (he:autoParam (starEach (e :: es) X.env = (false,eval e X.env) :: starEach es X.env) zz3._auto_1) (hpl:autoParam ((backTo pos (starEach es X.env)).any (·.1) = false) zz3._auto_1):DE X (.Call (.Name x p) (e :: es) [] pos) (Zcm S t):=
 ZcR F (hr.mono hl) hg O.m O.F.kp O.b Zjj ha hdb he hpl
section
variable {prog:Program} {w:World} {A:Around} {E:Value->Shared->Prop} {h:Heap} {g:Array GenState} {d:Drawn} {t:Nat} {os:OsState} {nm q:Str} {C N:Addr} {bs bm bmB:List Value} {hdct:Bool} {sn:List Str}
 {sub:List Value} {ab:Bool} {col:Option Bool} {dd:Option Addr} {k0 k1 k2 k3 k5:Option Value} {B newId initId:String}
end
section
variable {prog:Program} {w:World} {A:Around} {E:Value->Shared->Prop} {s:Shared} {env:Env} {nm q:Str} {C N:Addr} {bs bm bmB:List Value} {hdct:Bool} {sn:List Str} {sub:List Value} {ab:Bool} {col:Option Bool} {dd:Option Addr}
 {k0 k1 k2 k3 k5:Option Value} {B newId initId:String}
end
abbrev XCl:=Value × Option Addr
def Hb (h:Heap) (a:Addr) (cls:XCl) (tb:Option Addr):Prop:=
 ∃ oe vs,h.get? a = some oe /\ (oe.cls = cls.1 /\ oe.dict = cls.2) /\ oe.data = .fields vs /\ match tb with
  | none=>vs[1]? = some .none
  | some T=>vs[1]? = some (.ref T) /\ T ≠ a /\ ∃ oT ts fl,h.get? T = some oT /\ oT.data = .fields ts /\ ts[3]? = some fl
structure Chg (fs:List Addr) (a:Addr) (tb:Option Addr) (h h':Heap):Prop where
 keep:∀ b o,h.get? b = some o->b ∉ fs->b ≠ a->tb ≠ some b->h'.get? b = some o
 slot:∀ b o,h.get? b = some o->b ≠ a->tb ≠ some b->∃ sl,h'.get? b = some { o with slots:=sl }
 there:∀ b o,h.get? b = some o->∃ o',h'.get? b = some o'
theorem Chg.of_keeps {fs:List Addr} {tb:Option Addr} (k:∀ b o,h.get? b = some o->h'.get? b = some o):Chg fs a tb h h':=
 ⟨λ b o e _ _ _=>k b o e,λ b o e _ _=>⟨o.slots,k b o e⟩,λ b o e=>⟨o,k b o e⟩⟩
theorem WL (F:Array Value->Array Value) (o:Obj):(Obj.mapFields F o).dict = o.dict:=by
 unfold Obj.mapFields
 split <;> rfl
section
variable {M:Model} {s:Shared} {cls:XCl} {tb:Option Addr} {Q:Unit->Shared->Prop}
theorem MU {f:Option Addr} (he:Hb s.heap a cls tb) (h:∀ h',Chg [] a tb s.heap h'->Hb h' a cls tb->s.heap.objs.size <= h'.objs.size->Q () { s with heap:=h' }):wpAny M A (setFlight (.ref a) f) Q E s:=by
 obtain ⟨oe,vs,h1,hc,h2,h3⟩:=id he;unfold setFlight;cases tb with
 | none=>
  refine wpAny_bind (wpAny_field h1 h2 h3 ?_);rw [if_neg (by decide)];exact wpAny_pure (h s.heap (.of_keeps λ _ _ e=>e) he (Nat.le_refl _))
 | some T=>
  obtain ⟨e1,e2,oT,ts,fl,g1,g2,g3⟩:=h3;have hsz3:3 < ts.size:=(Array.getElem?_eq_some_iff.mp g3).1;refine wpAny_bind (wpAny_field h1 h2 e1 ?_);rw [if_pos (show (Value.ref T != Value.none) = true from by simp)];have other:∀ b,b ≠ T->∀ F:Obj->Obj,(s.heap.update T F).get? b = s.heap.get? b:=λ b hb F=>Heap.get?_update_other _ _ (Ne.symm hb);refine wpAny_setField g1 g2 hsz3 (h _ ⟨λ b o e _ _ n=>?_,λ b o e _ n=>⟨o.slots,?_⟩,λ b o e=>?_⟩ ⟨oe,vs,(other a (Ne.symm e2) _).trans h1,hc,h2,e1,e2,_,_,_,Heap.get?_update_self _ g1 (Obj.isFreed_of_fields (Obj.data_mapFields g2 _)),Obj.data_mapFields g2 _,by simp [hsz3]; rfl⟩ (by rw [Heap.size_after_update]; exact Nat.le_refl _))
  ·exact (other b (λ z=>n (by rw [z])) _).trans e
  ·exact (other b (λ z=>n (by rw [z])) _).trans e
  ·by_cases z:b = T
   ·subst z;exact ⟨_,Heap.get?_update_self _ g1 (Obj.isFreed_of_fields (Obj.data_mapFields g2 _))⟩
   ·exact ⟨o,(other b z _).trans e⟩
theorem El {f:Env} {L:Addr} {Q:Value->Shared->Prop} (hfr:A.frames = some (f :: outer)) (hl:s.heap.FunFrames base (f :: outer)) (hfL:f.frame = some L) (hf:env.frame = some L)
  (h:∀ h',Heap.SlotsOnly ((f :: outer).filterMap (·.frame)) s.heap h'->Q (.ref L) { s with heap:=h' }):wpAny M A (PySem.frameOf env) Q E s:=by
 unfold PySem.frameOf;refine wpAny_bind (wpAny_frameEnvs hfr ?_);have hdw:((f :: outer).dropWhile λ x=>x.frame != env.frame) = f :: outer:=by simp [List.dropWhile,hfL,hf]
 rw [hdw];unfold frameObject;refine wpAny_bind (wpAny_bind (wpAny_readyFrames_fun hl λ h₁ hs₁=>wpAny_pure ?_));rw [hfL];exact wpAny_pure (h h₁ hs₁)
theorem entry_any {f:Env} {L:Addr} {oe:Obj} {vs:Array Value} {head:Value} {hadNext:Bool} (hfr:A.frames = some (f :: outer)) (hl:s.heap.FunFrames base (f :: outer)) (hfL:f.frame = some L) (hf:env.frame = some L)
  (he:s.heap.get? a = some oe) (hcl:oe.cls = cls.1 /\ oe.dict = cls.2) (hd:oe.data = .fields vs) (hsz:1 < vs.size)
  (h:∀ h' T',Chg (frs (f :: outer)) a none s.heap h'->Hb h' a cls (some T')->s.heap.objs.size <= T'->s.heap.objs.size <= h'.objs.size->Q () { s with heap:=h' }) :
  wpAny M A (do let x <- PySem.frameOf env; let pl <- entryPlaceOf L hadNext; let b <- EntryCells.newEntry head x .none (rawInt L) .none pl; setField (.ref a) 1 b) Q E s:=by
 have hene:a ∉ (f :: outer).filterMap (·.frame):=λ hm=>by
  obtain ⟨_,o,ho,hnf⟩:=hl.mem hm;rw [he] at ho; injection ho with ho; subst ho; exact hnf vs hd
 refine wpAny_bind (El hfr hl hfL hf λ h₁ hs₁=>?_);refine wpAny_bind (wpAny_entryPlaceOf λ pl hpl=>?_);unfold EntryCells.newEntry newFields;refine wpAny_bind (wpAny_newObj_type ?_ (hpl.sizeOk5 _ _ _ _ _));have he₁:h₁.get? a = some oe:=(hs₁.2.1 a hene).trans he;generalize hO:({ cls:=.type "traceback",dict:=none,data:=.fields ([head,.ref L,.none,rawInt L,.none] ++ (if pl.isEmpty then List.replicate 6 Value.none else pl)).toArray }:Obj) = oT;have hOd:∃ ts fl,oT.data = .fields ts /\ ts[3]? = some fl:=by
  subst hO;exact ⟨_,rawInt L,rfl,by simp⟩
 have hOf:oT.isFreed = false:=by subst hO; rfl
 have he₂:=Heap.get?_push_of_some (h:=h₁) oT he₁;refine wpAny_setField he₂ hd hsz ?_;have hTe:h₁.objs.size ≠ a:=Nat.ne_of_gt (Heap.lt_size he₁);have hd₃:=Obj.data_mapFields hd (·.setIfInBounds 1 (Value.ref h₁.objs.size));have he₃:=Heap.get?_update_self (Obj.mapFields (·.setIfInBounds 1 (Value.ref h₁.objs.size))) he₂ (Obj.isFreed_of_fields hd₃);have hT₃:=(Heap.get?_update_other (h₁.push oT) (Obj.mapFields (·.setIfInBounds 1 (Value.ref h₁.objs.size))) (Ne.symm hTe)).trans (Heap.get?_push_size h₁ hOf);have keep:∀ b o,b ≠ a->h₁.get? b = some o->((h₁.push oT).update a (Obj.mapFields (·.setIfInBounds 1 (Value.ref h₁.objs.size)))).get? b = some o:=λ b o hbe hb=>by
  rw [Heap.get?_update_other _ _ (Ne.symm hbe)];exact Heap.get?_push_of_some _ hb
 obtain ⟨ts,fl,g1,g2⟩:=hOd;refine h _ h₁.objs.size ⟨λ b o e nb ne _=>keep b o ne ((hs₁.2.1 b nb).trans e),λ b o e ne _=>?_,λ b o e=>?_⟩ ⟨_,_,he₃,⟨(Obj.cls_mapFields _ _).trans hcl.1,(WL _ _).trans hcl.2⟩,hd₃,by simp [hsz],hTe,oT,ts,fl,hT₃,g1,g2⟩ (Nat.le_of_eq hs₁.1.symm) ?_
 ·obtain ⟨sl,z⟩:=hs₁.2.2 b o e;exact ⟨sl,keep b _ ne z⟩
 ·by_cases z:b = a
  ·subst z;exact ⟨_,he₃⟩
  ·obtain ⟨sl,q⟩:=hs₁.2.2 b o e;exact ⟨_,keep b _ z q⟩
 ·show s.heap.objs.size <= ((h₁.push oT).update a _).objs.size;rw [Heap.size_after_update,Heap.size_push,hs₁.1];lia
theorem RI {f:Env} {L:Addr} (hfr:A.frames = some (f :: outer)) (hl:s.heap.FunFrames base (f :: outer)) (hfL:f.frame = some L) (hf:env.frame = some L) (he:Hb s.heap a cls tb)
  (h:∀ h' T',Chg (frs (f :: outer)) a tb s.heap h'->Hb h' a cls (some T')->(tb = some T' \/ s.heap.objs.size <= T')->s.heap.objs.size <= h'.objs.size->Q () { s with heap:=h' }):wpAny M A (noteFrame (.ref a) env) Q E s:=by
 obtain ⟨oe,vs,h1,hc,h2,h3⟩:=id he;unfold noteFrame;simp only [hf];cases tb with
 | none=>
  refine wpAny_bind (wpAny_field h1 h2 h3 ?_);rw [if_neg (by decide)];refine entry_any (cls:=cls) hfr hl hfL hf h1 hc h2 (Array.getElem?_eq_some_iff.mp h3).1 λ h' T' c x hT hz=>h h' T' ⟨c.keep,c.slot,c.there⟩ x (.inr hT) hz
 | some T=>
  obtain ⟨e1,e2,oT,ts,fl,g1,g2,g3⟩:=h3;refine wpAny_bind (wpAny_field h1 h2 e1 ?_);rw [if_pos (show (Value.ref T != Value.none) = true from by simp)];refine wpAny_bind (wpAny_field g1 g2 g3 ?_)
  by_cases hL:(fl == rawInt L) = true
  ·rw [if_pos hL];exact wpAny_pure (h s.heap T (.of_keeps λ _ _ e=>e) he (.inl rfl) (Nat.le_refl _))
  ·rw [if_neg hL];refine wpAny_bind (wpAny_setField g1 g2 (Array.getElem?_eq_some_iff.mp g3).1 ?_);have other:∀ b,b ≠ T->(s.heap.update T (Obj.mapFields (·.setIfInBounds 3 Value.none))).get? b = s.heap.get? b:=λ b hb=>Heap.get?_update_other _ _ (Ne.symm hb);have noRecord:∀ b o,s.heap.get? b = some o->(∀ vs,o.data ≠ .fields vs)->b ≠ T:=λ b o hb hnf q=>by
    rw [q,g1] at hb; injection hb with hb; subst hb; exact hnf ts g2
   have thereT:∃ o',(s.heap.update T (Obj.mapFields (·.setIfInBounds 3 Value.none))).get? T = some o':=⟨_,Heap.get?_update_self _ g1 (Obj.isFreed_of_fields (Obj.data_mapFields g2 _))⟩
   refine entry_any (s:={ s with heap:=_ }) (cls:=cls) hfr (hl.of_keeps λ b o hb hnf=>⟨o,(other b (noRecord b o hb hnf)).trans hb,rfl⟩) hfL hf ((other a (Ne.symm e2)).trans h1) hc h2 (Array.getElem?_eq_some_iff.mp e1).1 λ h' T' c x hT hz=>?_;have sz:(s.heap.update T (Obj.mapFields (·.setIfInBounds 3 Value.none))).objs.size = s.heap.objs.size:=Heap.size_after_update ..;rw [sz] at hT hz;refine h h' T' ⟨λ b o e nb na nT=>?_,λ b o e na nT=>?_,λ b o e=>?_⟩ x (.inr hT) hz
   ·exact c.keep b o ((other b λ z=>nT (by rw [z])).trans e) nb na (λ z=>nomatch z)
   ·exact c.slot b o ((other b λ z=>nT (by rw [z])).trans e) na (λ z=>nomatch z)
   ·by_cases z:b = T
    ·subst z;obtain ⟨o',q⟩:=thereT;exact c.there _ o' q
    ·exact c.there b o ((other b z).trans e)
end
structure Loose (X:Cx) (pins:List (Addr × Obj)) (H:Hp) (b:Addr):Prop where
 un:H b = none
 new:X.s₀.heap.objs.size <= b
 nl:b ≠ X.env.locals
 nc:∀ x c,X.env.cells.lookup x = some c->c ≠ b
 np:∀ p ∈ X.pn ++ pins,p.1 ≠ b
theorem Loose.less {b:Addr} (l:Loose X pins H b):Loose X [] H b:=⟨l.un,l.new,l.nl,l.nc,λ p hp=>l.np p (by simp only [List.append_nil] at hp; exact List.mem_append_left _ hp)⟩
def XSg (X:Cx) (pins:List (Addr × Obj)) (Ξ:XCl->L2.St->Hp->Prop) (e:Value) (s':Shared):Prop:=
 ∃ a cls tb Z H,e = .ref a /\ L2.Inv X pins Z H s' /\ Hb s'.heap a cls tb /\ Loose X pins H a /\ (∀ T,tb = some T->Loose X pins H T) /\ Ξ cls Z H
abbrev XS (X:Cx) (Ξ:XCl->Hp->Prop):Value->Shared->Prop:=XSg X [] λ cls _ H=>Ξ cls H
def XFr (X:Cx):Prop:=∃ f outer L,X.stack = f :: outer /\ f.frame = some L /\ X.env.frame = some L
section
variable {Z:L2.St} {s:Shared} {cls:XCl} {tb:Option Addr} {Ξ:XCl->Hp->Prop}
theorem Ek (I:L2.Inv X pins Z H s) (he:Hb s.heap a cls tb) (la:Loose X pins H a) (lt:∀ T,tb = some T->Loose X pins H T) (c:Chg (frs X.stack) a tb s.heap h'):L2.Inv X pins Z H { s with heap:=h' }:=by
 have nch:∀ b,b ∉ a :: tb.toList->b ≠ a /\ tb ≠ some b:=λ b hb=>⟨λ z=>hb (by rw [z]; exact List.mem_cons_self),λ z=>hb (by rw [z]; simp)⟩;have trk:∀ b u,H b = some u->b ∉ frs X.stack /\ b ≠ a /\ tb ≠ some b:=λ b u e=>⟨λ z=>(by rw [I.C0 b z] at e; cases e),λ z=>(by rw [z,la.un] at e; cases e),λ z=>(by rw [(lt b z).un] at e; cases e)⟩;refine I.call (ch:=a :: tb.toList) (g':=s.gens) (d':=s.drawn) (t':=s.toks) ⟨λ b o e _ hb hx=>c.keep b o e hb (nch b hx).1 (nch b hx).2,λ b o e _ _ hx=>c.slot b o e (nch b hx).1 (nch b hx).2,λ _ _ _ n _=>n,λ b o e _=>c.there b o e,λ _ _ q=>q,λ _ _ _ q=>q,λ _ ps q=>⟨#[],by rw [q]; simp⟩⟩ (λ b u e=>?_) I.bare λ b hb=>?_
 ·refine (I.hok b u e).HQ (λ d v hc q=>?_) (λ _ q=>q) λ _ _ q=>q;obtain ⟨n1,n2,n3⟩:d ∉ frs X.stack /\ d ≠ a /\ tb ≠ some d:=by
   rcases hc with z | z
   ·rw [z]; exact trk b u e
   ·exact trk d _ z
  exact c.keep d v q n1 n2 n3
 ·have l:Loose X pins H b:=by
   rcases List.mem_cons.mp hb with z | z
   ·rw [z]; exact la
   ·exact lt b (by simpa using z)
  exact ⟨.inr l.new,l.nl,l.nc,l.np⟩
theorem Ke (I:L2.Inv X pins Z H s) {b:Addr} (h:H' b = none) (hb:s.heap.objs.size <= b):Loose X pins H' b:=by
 refine ⟨h,Nat.le_trans I.sz hb,λ z=>absurd I.lt (by rw [<- z]; exact Nat.not_lt.mpr hb),λ x c e z=>?_,λ p hp z=>?_⟩
 ·obtain ⟨v,o,ho,_⟩:=I.cell x c e;rw [z] at ho;exact absurd (Heap.lt_size ho) (Nat.not_lt.mpr hb)
 ·have ho:=(I.pin p hp).1;rw [z] at ho;exact absurd (Heap.lt_size ho) (Nat.not_lt.mpr hb)
theorem Inv.Zdl (I:L2.Inv X pins Z H s):L2.Inv X [] Z H s:=I.Xi λ p hp=>nomatch hp
variable {Ξg:XCl->L2.St->Hp->Prop}
theorem Mi {M:Model} {e:Value} {Q:Unit->Shared->Prop} (hX:XFr X) (h:XSg X pins Ξg e s) (hq:∀ s',XSg X pins Ξg e s'->(∃ a T cls,e = .ref a /\ Hb s'.heap a cls (some T))->Q () s'):wpAny M X.A (noteFrame e X.env) Q E s:=by
 obtain ⟨a,cls,tb,Z,H,rfl,I,he,la,lt,hΞ⟩:=h;obtain ⟨f,outer,L,hs,hfL,hf⟩:=hX;have fr:=I.ok.frames;have st:=I.stack;rw [hs] at fr st;refine RI fr st hfL hf he λ h' T' c x hT hz=>?_;have I':=Ek I he la lt (by rw [hs]; exact c);refine hq _ ⟨a,cls,some T',Z,H,rfl,I',x,la,λ T e=>?_,hΞ⟩ ⟨a,T',cls,rfl,x⟩;cases e
 rcases hT with z | z
 ·exact lt _ z
 ·exact Ke I (I.hok.fresh z) z
theorem Zaw {M:Model} {e:Value} {g:Option Addr} {Q:Unit->Shared->Prop} (h:XSg X pins Ξg e s) (hq:∀ s',XSg X pins Ξg e s'->(∀ a T cls,e = .ref a->Hb s.heap a cls (some T)->Hb s'.heap a cls (some T))->Q () s'):wpAny M X.A (setFlight e g) Q E s:=by
 obtain ⟨a,cls,tb,Z,H,rfl,I,he,la,lt,hΞ⟩:=h;refine MU he λ h' c x _=>?_;have c':Chg (frs X.stack) a tb s.heap h':=⟨λ b o e _=>c.keep b o e (λ z=>nomatch z),c.slot,c.there⟩
 refine hq _ ⟨a,cls,tb,Z,H,rfl,Ek I he la lt c',x,la,lt,hΞ⟩ λ a' T cls' e y=>?_;cases e;obtain ⟨oe,vs,h1,hc,h2,h3⟩:=id he;obtain ⟨oe',vs',k1,kc,k2,k3⟩:=y;rw [h1] at k1;cases k1;rw [h2] at k2;cases k2;cases tb with
 | none=>exact absurd (h3.symm.trans k3.1) (by simp)
 | some T2=>
  have e2:=h3.1.symm.trans k3.1;simp only [Option.some.injEq,Value.ref.injEq] at e2;subst e2;have ecls:cls' = cls:=Prod.ext (kc.1.symm.trans hc.1) (kc.2.symm.trans hc.2);rw [ecls];exact x
theorem R7 {M:Model} {e:Value} {Q:Unit->Shared->Prop} (hX:XFr X) (h:XSg X pins Ξg e s) (hq:∀ s',XSg X pins Ξg e s'->Q () s'):wpAny M X.A (leaving X.env e) Q E s:=by
 unfold leaving;exact wpAny_bind (Mi hX h λ s' h' _=>Zaw h' λ s'' h'' _=>hq s'' h'')
end
def CX1 (P:Program) (w:World):CXT:=λ outer H s E e s'=>∃ a cls tb H',e = .ref a /\ s'.os = s.os /\ AllBare s'.gens /\ Un (frs outer) [] H H' s.heap s'.heap /\ HOk P w H' s'.heap /\ Hb s'.heap a cls tb /\
 (H' a = none /\ s.heap.objs.size <= a) /\ (∀ T,tb = some T->H' T = none /\ s.heap.objs.size <= T) /\ E cls.1 cls.2 H'
theorem Zhj {P:Program} {w:World} {K:Fk} {mg:Str->Option Value} {base:Heap} {N:List Str} {qual:Str} {scope:Scope} {f:Addr} {cd:Value} {A:Around} {outer:List Env} {s:Shared} {H:Hp} {E:XK} {CX:CXT} {Ξ:XCl->Hp->Prop} (hΞ:∀ cls H',Ξ cls H'->E cls.1 cls.2 H') {e:Value} {s':Shared}
  (h:XS (Fz CX P w K mg base N qual scope f cd A outer s H E) Ξ e s'):CX1 P w outer H s E e s':=by
 obtain ⟨a,cls,tb,Z,H',rfl,I,he,la,lt,q⟩:=h;exact ⟨a,cls,tb,H',rfl,I.os,I.bare,I.base,I.hok,he,⟨la.un,la.new⟩,λ T e=>⟨(lt T e).un,(lt T e).new⟩,hΞ _ _ q⟩
theorem ZiO {P:Program} {w:World} {K:Fk} {mg:Str->Option Value} {base:Heap} {N:List Str} {qual:Str} {scope:Scope} {f:Addr} {cd:Value} {A:Around} {outer:List Env} {s:Shared} {H:Hp} {E:XK} {Ξ:XCl->Hp->Prop} (hΞ:∀ cls H',Ξ cls H'->E cls.1 cls.2 H') {e:Value} {s':Shared}
  (h:XS (Fz (CX1 P w) P w K mg base N qual scope f cd A outer s H E) Ξ e s'):(Fz (CX1 P w) P w K mg base N qual scope f cd A outer s H E).xe e s':=
 R7 (X:=Fz (CX1 P w) P w K mg base N qual scope f cd A outer s H E) ⟨_,_,_,rfl,rfl,rfl⟩ h λ s'' h''=>Zhj hΞ h''
section
variable {Ξ:XCl->Hp->Prop} {B newId initId:String} {bm:List Value} {np:Pos} {e₀:Expr} {t:TA}
end
end DL
namespace DL
section
variable {prog:Program} {R:Result->Shared->Prop} {s:Shared}
end
end DL
namespace DL
open PySem.W
noncomputable abbrev wx (X:Cx) (Ξ:XCl->Hp->Prop):Cx:=X.Wy (XS X Ξ)
section
variable {Ξ:XCl->Hp->Prop}
end
abbrev DXK:=XCl->Mp->Prop
abbrev SM:=List DV->Mp->DK->DXK->Prop
def XD (K:Fk) (Ξ:DXK):XCl->Hp->Prop:=λ cls H=>∃ M,ZV K M H /\ Ξ cls M
def RD (K:Fk) (S:SM):Sp:=λ vs H Q E=>∃ xs M Φ Ξ,ZV K M H /\ Yf K M H vs xs /\ S xs M Φ Ξ /\ Rch K M H Φ Q /\ ∀ cls H',XD K Ξ cls H'->E cls.1 cls.2 H'
section
variable {k:Nat} {S:SM} {Ξ:DXK} {p:Pos} {t:DTA}
end
theorem PSs.mono {E1:Value->Shared->Prop} {st:List Stmt} {t:TS} (h:PSs (X.Wy E1) st t) (k:∀ e s',E1 e s'->X.xe e s'):PSs X st t:=λ pins s Z H D I hw=>
 wpAny_mono (h pins s Z H D (I.Wy _) hw) (λ _ _ q=>q.Je) k
section
variable {K:Fk}
theorem okX {k:Nat} {S:SM} (F:Fun K x qual st f fd) (Sc:Zr N ps (Zf st)) (len:∀ xs M Φ Ξ,S xs M Φ Ξ->xs.length = ps.length)
  (hbody:∀ (cdv:Value) (A:Around) (outer:List Env) (s:Shared) (H:Hp) (E:XK) (Ξ:DXK),JT k (A.deeper (envOfC qual (Zf st) s.heap.objs.size f cdv)) ->
   ∃ τ,DSs (wx (Fz (CX1 P w) P w K mg base N qual (Zf st) f cdv A outer s H E) (XD K Ξ)) (Q2 st) τ /\ ∀ xs M Φ,S xs M Φ Ξ->τ { nx:=λ _ M'=>Φ (.dat .none) M',rt:=Φ } (Yk N xs) M):Qu P w K mg base (CX1 P w) (k + 1) f fd ps (RD K S):=by
 obtain ⟨oc,od,kV,doc,pm,an,cdv,ct,osl,rfl,lk,hcd⟩:=F.ex;refine Zf9 lk hcd Sc (λ vs H Q E h=>?_) λ A outer s H vs Q E hr h=>?_
 ·obtain ⟨xs,M,Φ,Ξ,_,rv,hs,_⟩:=h;rw [Paired.length rv];exact len xs M Φ Ξ hs
 ·obtain ⟨xs,M,Φ,Ξ,r,rv,hs,kk,kE⟩:=h;obtain ⟨τ,⟨t,p,q⟩,hτ⟩:=hbody cdv A outer s H E Ξ hr;refine ⟨t,PSs.mono p λ e s' z=>ZiO kE z,q (start N vs) H (Yk N xs) M _ _ r (Jw.start rv) (hτ xs M Φ hs) ⟨λ σ' H' Δ' M' r' st' e' hn=>?_,kk,λ _ _ _ _ _ _ _ h=>h.elim,λ _ _ _ _ _ _ _ h=>h.elim⟩⟩;exact kk.dat r' st' Dt.non hn
end
def QK (a:Addr) (cls:XCl) (h:Heap):Prop:=∃ o vs,h.get? a = some o /\ (o.cls = cls.1 /\ o.dict = cls.2) /\ o.data = .fields vs
def V4 (d:Addr) (n:Int) (h:Heap):Prop:=∃ o t,h.get? d = some o /\ PySem.W.lookIn "line" o = some (some (.int n t))
def LnH (H:Hp) (ed:Option Addr):Prop:=∀ d,ed = some d->∃ n,H d = some (.ext (V4 d n))
def LnM (M:Mp) (ed:Option Addr):Prop:=∀ d,ed = some d->∃ n,M d = some (.ext (V4 d n))
section
variable {Z:L2.St} {s:Shared} {cls:XCl} {tb:Option Addr}
theorem O0 (I:L2.Inv X pins Z H s) (la:Loose X pins H a) (hφ:QK a cls s.heap):L2.Inv X pins Z (upd H a (.ext (QK a cls))) s:=by
 have e:({ s with heap:=s.heap,gens:=s.gens,drawn:=s.drawn,toks:=s.toks }:Shared) = s:=rfl;rw [<- e];have na:∀ b u,H b = some u->b ≠ a:=λ b u q z=>by rw [z,la.un] at q; cases q
 refine I.call (ch:=[a]) (g':=s.gens) (d':=s.drawn) (t':=s.toks) ⟨λ _ _ q _ _ _=>q,λ _ o q _ _ _=>⟨o.slots,q⟩,λ b o q n hx=>?_,λ _ o q _=>⟨o,q⟩,λ b xs q=>?_,λ b o u q=>?_,λ b ps q=>⟨#[],?_⟩⟩ (λ b u q=>?_) I.bare λ b hb=>?_
 ·rw [Zv λ z=>hx (by rw [z]; exact List.mem_singleton_self _)]; exact n
 ·rw [Zv (na b _ q)]; exact q
 ·rw [Zv (na b _ q)]; exact q
 ·rw [Zv (na b _ q),q]; simp
 ·by_cases hb:b = a
  ·subst hb;rw [Zz] at q;cases q;obtain ⟨o,vs,g1,g2,g3⟩:=id hφ;exact ⟨hφ,⟨o,g1⟩,λ h1 h2 ⟨o',vs',k1,k2,k3⟩ k=>⟨o',vs',k o' k1,k2,k3⟩⟩
  ·rw [Zv hb] at q;refine (I.hok b u q).HQ (λ c v _ z=>z) (λ c z=>?_) λ c xs z=>?_
   ·rw [Zv (na c _ z)]; exact z
   ·rw [Zv (na c _ z)]; exact z
 ·rw [List.mem_singleton.mp hb];exact ⟨.inr la.new,la.nl,la.nc,la.np⟩
theorem HA {i:Nat} {m:Str->Option Value} {v:Option Value} {h':Heap} {t':Nat} (I:L2.Inv X pins Z H s) (hN:X.N.Nodup) (hi:X.N[i]? = some x) (hl:X.env.kindOf x = some .local)
  (hm:s.heap.Ns X.env.locals m /\ ∀ (i:Nat) (x:Str) (v:V),X.N[i]? = some x->Z[i]? = some (some v)->Vis X.env.scope x->∃ u,RelV v u /\ Look X.env s.heap m x u)
  (hn:h'.Ns X.env.locals (λ y=>if y = x then v else m y)) (hs:Heap.SameBut X.env.locals s.heap h'):L2.Inv X pins (Z.set i none) H { s with heap:=h',toks:=t' }:=by
 have keep:∀ b,b ≠ X.env.locals->∀ o,s.heap.get? b = some o->h'.get? b = some o:=λ b hb o e=>(hs.2 b hb).trans e;have neL:∀ b o,X.s₀.heap.get? b = some o->b ≠ X.env.locals:=λ b o e=>Nat.ne_of_lt (Nat.lt_of_lt_of_le (Heap.lt_size e) I.ok.above);have cellK:∀ y c,X.env.cells.lookup y = some c->∀ u,s.heap.IsCell c u->h'.IsCell c u:=λ y c e u ⟨o,ho,hd⟩=>⟨o,keep c (I.cne y c e) o ho,hd⟩;refine ⟨I.ok,I.os,I.bare,⟨λ b o e n hb hx=>keep b (neL b o e) o (I.base.keep b o e n hb hx),λ b o e n hb hx=>?_,I.base.free,λ b o e hx=>?_,I.base.tups,I.base.frzs,I.base.tbls⟩,⟨_,hn,λ j y u e1 e2 e3=>?_⟩,λ y c e=>?_,I.free,I.freeC,λ p hp=>?_,λ b u e=>?_,by rw [List.length_set]; exact I.len⟩
 ·obtain ⟨sl,q⟩:=I.base.slot b o e n hb hx;exact ⟨sl,keep b (neL b o e) _ q⟩
 ·obtain ⟨o',q⟩:=I.base.there b o e hx;exact ⟨o',keep b (neL b o e) _ q⟩
 ·by_cases hj:j = i
  ·subst hj;rw [List.getElem?_set_self' ] at e2;cases q:Z[j]? with
   | none=>rw [q] at e2; simp at e2
   | some z=>rw [q] at e2; simp at e2
  ·rw [List.getElem?_set_ne (Ne.symm hj)] at e2;obtain ⟨w,r,l⟩:=hm.2 j y u e1 e2 e3;refine ⟨w,r,?_⟩;have ny:y ≠ x:=λ z=>hj (UY hN (by rw [<- z]; exact e1) hi)
   rcases l with ⟨l1,l2⟩ | ⟨k,c,e,z⟩
   ·exact .inl ⟨l1,by show (if y = x then v else m y) = _; rw [if_neg ny]; exact l2⟩
   ·exact .inr ⟨k,c,e,cellK y c e _ z⟩
 ·obtain ⟨u,z⟩:=I.cell y c e;exact ⟨u,cellK y c e u z⟩
 ·obtain ⟨e,n,ne,nf,d⟩:=I.pin p hp;exact ⟨keep p.1 ne _ e,n,ne,nf,d⟩
 ·have nL:∀ c u,H c = some u->c ≠ X.env.locals:=λ c u q z=>by rw [z,I.free] at q; cases q
  refine (I.hok b u e).HQ (λ c v' hc q=>keep c ?_ v' q) (λ _ q=>q) λ _ _ q=>q
  rcases hc with z | z
  ·rw [z]; exact nL b u e
  ·exact nL c _ z
noncomputable def marked (X:Cx) (e:Value):Cx:={ X with A:=X.A.mark (some e),calm:=false,xe:=λ _ _=>False }
theorem W7 (I:L2.Inv X pins Z H s) (e:Value):L2.Inv (marked X e) pins Z H s:=
 ⟨⟨I.ok.mod,I.ok.kind,I.ok.glob,I.ok.blt,I.ok.above,I.ok.inj,I.ok.has,I.ok.cab,λ z=>(nomatch z),I.ok.frames,I.ok.stk,I.ok.exf,I.ok.bs,I.ok.bsz,I.ok.noex,I.ok.exfs,I.ok.EV,I.ok.frf⟩,I.os,I.bare,I.base,I.loc,I.cell,I.free,I.freeC,I.pin,I.hok,I.len⟩
theorem B8 {e:Value} (I:L2.Inv (marked X e) pins Z H s) (hd:X.calm = true->X.A.handled = none):L2.Inv X pins Z H s:=
 ⟨⟨I.ok.mod,I.ok.kind,I.ok.glob,I.ok.blt,I.ok.above,I.ok.inj,I.ok.has,I.ok.cab,hd,I.ok.frames,I.ok.stk,I.ok.exf,I.ok.bs,I.ok.bsz,I.ok.noex,I.ok.exfs,I.ok.EV,I.ok.frf⟩,I.os,I.bare,I.base,I.loc,I.cell,I.free,I.freeC,I.pin,I.hok,I.len⟩
structure Gs (K:Fk) (C L:Addr):Prop where
 sub:subIn K (.ref C) (.ref L) = some true
 exc:subIn K (.ref L) (.type "BaseException") = some true
 ty:typeIn K (.ref L) = some (.type "type")
 cl:(clsIn K L).isSome = true
theorem DP {M:Model} {L:Addr} {K:Fk} {Q:Bool->Shared->Prop} (X:K.In s.heap) (c:Gs K C L) (he:∃ o,s.heap.get? a = some o /\ o.cls = .ref C) (h:Q true s):wpAny M A (excMatches (.ref a) (.ref L)) Q E s:=by
 obtain ⟨hh,g,d,t,os⟩:=s;obtain ⟨o,ho,hc⟩:=he;have f:=tc_notTuple;have L1:=looks_typeIn (M:=M) X c.ty;have L2':=looks_subIn (M:=M) X c.exc;have L3:=looks_subIn (M:=M) X c.sub;have L4:Looks M hh (isType (.ref L)) true:=by
  have z:=c.cl;unfold clsIn at z
  split at z
  ·rename_i ho;intro A' Q' E' s' k q;unfold isType loadHead;exact wpAny_bind (wpAny_loadPart (k _ _ (X _ _ ho)) (wpAny_pure q))
  ·cases z
 have L5:Looks M hh (typeOf (.ref a)) (.ref C):=hc ▸ (Looks.ld ho).andThen .now;dsimp only at L1 L2' L3 h X ho;unfold excMatches
 repeat (first | (with_reducible refine wpAny_loadPart_at ho ?_; rw [hc]) | with_reducible refine L1.at ?_ | with_reducible refine L4.at ?_ | with_reducible refine L2'.at ?_ | with_reducible refine L3.at ?_ | wp_step)
 exact h
end
section
variable {Z:L2.St} {s:Shared} {L:Addr} {tb ed:Option Addr}
theorem G4 (Z:L2.St) {i:Nat} (h:j ≠ i) (x y:Option V):((Z.set i x).set j y).set i none = (Z.set j y).set i none:=by
 rw [List.set_comm x y (Ne.symm h),List.set_set]
theorem Hb.is {cls:XCl} (x:Hb h a cls tb):QK a cls h:=by
 obtain ⟨oe,vs,h1,hc,h2,_⟩:=x;exact ⟨oe,vs,h1,hc,h2⟩
set_option maxHeartbeats 2000000 in
theorem MC {E:Value->Shared->Prop} {Q:Flow->Shared->Prop} {ce n c:Str} {ic ie:Nat} {cp p1 p2 ap hp:Pos} (I:L2.Inv X pins Z H s) (he:Hb s.heap a (.ref C,ed) tb) (la:Loose X pins H a) (lt:∀ T,tb = some T->Loose X pins H T)
  (hg:Gl X ce) (hm:X.mg ce = some (.ref L)) (cc:Gs X.K C L) (hN:X.N.Nodup) (hie:X.N[ie]? = some n) (hle:X.env.kindOf n = some .local) (hle':X.env.scope.names.lookup n = some .local) (hic:X.N[ic]? = some c) (hlc:Loc X.env.scope c) (hfc:X.fn c = true \/ X.env.scope.names.lookup c = some .local) (hne:ic ≠ ie)
  (hsw:swapsWith (.Name n p2) (some (.Name c p1)) ap.line X.env = pure false) (hd1:(ce == ("__debug__" : Str)) = false) (hd2:(n == ("__debug__" : Str)) = false) (hd3:(n == ("__classdict__" : Str)) = false)
  (h:∀ s',L2.Inv X pins ((Z.set ic (some (.ref a))).set ie none) (upd H a (.ext (QK a (.ref C,ed)))) s'->Q .next s') :
  wpAny (model X.prog X.w) X.A (handleBy (.ref a) X.env [.ExceptHandler (some (.Name ce cp)) (some n) [.Assign [.Name c p1] (.Name n p2) ap] hp]) Q E s:=by
 refine wpAny_handleBy_cons (codeAny_handlers_test ?_) (by intro q; cases q);refine Xc (X:=marked X (.ref a)) (W7 I (.ref a)) hg hm ?_ hd1;obtain ⟨oe,vs,h1,hc,h2,_⟩:=id he;refine DP (K:=X.K) I.kIn cc ⟨oe,h1,hc.1⟩ ?_;show codeAny _ _ _ _ s;refine codeAny_handlers_suite_as ?_;refine MU he λ h' ch x _=>?_;have I2:L2.Inv X pins Z H { s with heap:=h' }:=Ek I he la lt ⟨λ b o e _=>ch.keep b o e (λ z=>nomatch z),ch.slot,ch.there⟩;refine G1 (X:=X) I2 hN hie (.inl hle') (v:=.ref a) (u:=.ref a) rfl (λ s3 I3 hs3=>?_) (.inr hle');have hφ:QK a (.ref C,ed) s3.heap:=by
  obtain ⟨b,sb,hb⟩:=hs3;obtain ⟨o,ws,g1,g2,g3⟩:=x.is;refine ⟨o,ws,(sb.2 a ?_).trans g1,g2,g3⟩
  rcases hb with z | z
  ·rw [z]; exact la.nl
  ·exact λ e=>la.nc _ _ z e.symm
 have I4:=O0 I3 la hφ;have ps:PSs (marked X (.ref a)) [.Assign [.Name c p1] (.Name n p2) ap] (ZjE (Zij ie) (ZcI ic)):=Dv (Zas (X:=marked X (.ref a)) hN hic hlc (Ft (X:=marked X (.ref a)) hie (.inl hle') hd2 hd3) hsw hfc);refine wpAny_mono (ps pins s3 _ _ { nx:=λ σ' H'=>σ' = (Z.set ie (some (.ref a))).set ic (some (.ref a)) /\ H' = upd H a (.ext (QK a (.ref C,ed))),rt:=λ _ _=>False } (W7 I4 (.ref a)) ⟨.ref a,?_,rfl,rfl⟩) (λ f s4 q=>?_) λ _ _ z=>False.elim z
 ·rw [List.getElem?_set_self (by rw [I.len]; exact (List.getElem?_eq_some_iff.mp hie).1)]
 ·cases f with
  | next=>
   obtain ⟨σ4,H4,I5,rfl,rfl⟩:=q;have I6:=B8 I5 I.ok.hd;obtain ⟨m,hm1,hm2⟩:=I6.loc;refine wpAny_nameGoes_keeps hle hm1 (by rw [I.ok.kind]; rfl) λ h'' v hn hs=>h _ ?_;have I7:=HA (t':=s4.toks + 1) I6 hN hie hle ⟨hm1,hm2⟩ hn hs;rw [G4 Z hne] at I7;exact I7
  | brk=>obtain ⟨_,_,_,z⟩:=q; exact z.elim
  | cont=>obtain ⟨_,_,_,z⟩:=q; exact z.elim
  | ret u=>obtain ⟨_,_,_,_,_,z⟩:=q; exact z.elim
end
theorem Jw.unset {K:Fk} {Z:L2.St} {Δ:DSt} (e:Jw K M H Z Δ) (i:Nat):Jw K M H (Z.set i none) (Δ.set i none):=⟨by rw [List.length_set,List.length_set]; exact e.len,λ j y z=>by
 by_cases q:i = j
 ·subst q
  by_cases hl:i < Δ.length
  ·rw [List.getElem?_set_self hl] at z;cases z
  ·rw [List.getElem?_eq_none (by rw [List.length_set]; lia)] at z;cases z
 ·rw [List.getElem?_set_ne q] at z;rw [List.getElem?_set_ne q]
  exact e.at' j y z⟩
section
variable {K:Fk}
theorem Zex (r:ZV K M H) (hp:M p = some (.lst ds)):ZV K (ZR M p (.gst (λ b=>M b = none) H)) H /\ Step M H (ZR M p (.gst (λ b=>M b = none) H)) H:=by
 have ne:∀ b,M b = none->b ≠ p:=λ b hb e=>by rw [e,hp] at hb; cases hb
 have st:Step M H (ZR M p (.gst (λ b=>M b = none) H)) H:=⟨λ _ _ _ e=>e,λ b _ hb _=>by rw [ZF (ne b hb)]; exact hb⟩
 refine ⟨⟨λ a o e=>?_⟩,st⟩
 by_cases ha:a = p
 ·subst ha;rw [ZK] at e;cases e;obtain ⟨vs,e1,_⟩:=r.ls a ds hp;exact ⟨⟨vs,e1,e1⟩,λ b o n q=>⟨q,by rw [ZF (ne b n)]; exact n⟩⟩
 ·rw [ZF ha] at e;exact (r.ok a o e).step st λ _ h=>h
theorem OR (r:ZV K M H) (hp:M p = some (.lst ds)) (r':ZV K M' H') (hp':M' p = some (.gst (λ b=>M b = none) H)):ZV K (ZR M' p (.lst ds)) H' /\ Step M H (ZR M' p (.lst ds)) H':=by
 obtain ⟨⟨vs',e1,e2⟩,kp⟩:=(show OOk K M' H' p _ from r'.ok p _ hp')
 obtain ⟨vs,g1,g2⟩:=r.ls p ds hp;rw [g1] at e2;cases e2;have ne:∀ b,M b = none->b ≠ p:=λ b hb e=>by rw [e,hp] at hb; cases hb
 have ne':∀ b,M' b = none->b ≠ p:=λ b hb e=>by rw [e,hp'] at hb; cases hb
 have st:Step M H (ZR M' p (.lst ds)) H':=⟨λ b o n q=>(kp b o n q).1,λ b o n q=>by rw [ZF (ne b n)]; exact (kp b o n q).2⟩
 have st':Step M' H' (ZR M' p (.lst ds)) H':=⟨λ _ _ _ e=>e,λ b _ hb _=>by rw [ZF (ne' b hb)]; exact hb⟩
 refine ⟨⟨λ a o e=>?_⟩,st⟩
 by_cases ha:a = p
 ·subst ha;rw [ZK] at e;cases e;exact ⟨_,e1,g2.step st⟩
 ·rw [ZF ha] at e;exact (r'.ok a o e).step st' λ _ h=>h
end
section
variable {k:Nat} {S:SM} {p:Pos} {t:DTA}
end
end DL
namespace DL
open PySem.W PySem.Calls
structure U3 (K:Fk) (C:Addr):Prop where
 ga:findIn K (.ref C) "__getattribute__" = some (some (.builtin "BaseException.__getattribute__"))
 gb:findIn K (.ref C) "__getattr__" = some none
 cl:findIn K (.ref C) "__class__" = some (some (.builtin "object.__class__"))
 gs:specialIn K (.builtin "object.__class__") "__get__" = some (some (.builtin "getset_descriptor.__get__"))
 tk:takesIn K (.builtin "object.__class__") = some true
 ob:mroIn K C (.type "object") = some true
 be:mroIn K C (.type "BaseException") = some true
 cd:(clsIn K C).isSome = true
section
variable {prog:Program} {s:Shared} {K:Fk} {x:Addr} {ox:Obj} {od:Option Obj}
theorem Ts (k:U3 K C):findObj K C od "__class__" = some (.bind (.builtin "getset_descriptor.__get__") (.builtin "object.__class__")):=by
 obtain ⟨cd,hc⟩:=Option.isSome_iff_exists.mp k.cd;unfold findObj;rw [hc,Option.bind_some,k.cl,Option.bind_some];simp [k.gs,k.tk]
theorem LO {tk:Tok} {Q:Fin->Shared->Prop} (k:U3 K C) (X:K.In s.heap) (I:InstAt s.heap x ox C od) (hq:Q (.done (.ret (.ref C))) s) :
  wpAny (model prog w) A (Builtin.«object.__getattribute__» ⟨[.ref x,.str "__class__" tk],[]⟩) Q E s:=by
 obtain ⟨hh,g,d,t,os⟩:=s;have L0:=I.type (M:=model prog w);have L1:=looks_find (M:=model prog w) X I (Ts k);unfold Builtin.«object.__getattribute__»;refine wpAny_bind (wpAny_pure (wpAny_bind (wpAny_pure (wpAny_bind (L0.at (wpAny_bind (L1.at ?_)))))));show wpAny _ _ (holding [_] (call (.builtin "getset_descriptor.__get__") [.builtin "object.__class__",.ref x,.ref C]) >>= ret) _ _ _;refine wpAny_bind (wpAny_holding (wpAny_call (class_get (ox:=ox) (od:=od) X I k.ob ?_)));exact wpAny_pure hq
theorem B0 {nameV:Value} {Q:Unit->Shared->Prop} (k:U3 K C) (X:K.In s.heap) (I:InstAt s.heap x ox C od) (hq:Q () s):wpAny (model prog w) A (checkBuiltinCall "BaseException.__getattribute__" ⟨[.ref x,nameV],[]⟩) Q E s:=by
 obtain ⟨hh,g,d,t,os⟩:=s;have hk:builtinKind "BaseException.__getattribute__" = some .slot:=by walk_at "k"
 have hsplit:splitId "BaseException.__getattribute__" = some ("BaseException", "__getattribute__"):=by walk_at "k"
 have L0:=I.type (M:=model prog w);have LE:=looks_mroIn (M:=model prog w) X k.be;have ha:=PySem.F.args_bexc_ga (.ref x) nameV;simp only [checkBuiltinCall,hk,hsplit];refine wpAny_bind ?_;unfold isInstance
 repeat (first | with_reducible refine L0.at ?_ | with_reducible refine LE.at ?_ | wp_step)
 exact hq
theorem PJ {Q:Option Value->Shared->Prop} (k:U3 K C) (X:K.In s.heap) (I:InstAt s.heap x ox C od) (h:Q (some (.ref C)) { s with toks:=s.toks + 1 }):wpAny (model prog w) A (getAttr? (.ref x) "__class__") Q E s:=by
 obtain ⟨hh,g,d,t,os⟩:=s;have L0:=I.type (M:=model prog w);have LA:=looks_findIn (M:=model prog w) X k.ga;have LB:=looks_findIn (M:=model prog w) X k.gb;have f3:=PySem.F.attrBase_ValueError.ga.bind (.ref x);have hx2:(Value.builtin "BaseException.__getattribute__" == Value.builtin "object.__getattribute__") = false:=by walk_at "k"
 have hx1:(onTheHeap (Value.ref C) && Value.builtin "BaseException.__getattribute__" == Value.builtin "object.__getattribute__") = false:=by rw [hx2]; rfl
 unfold getAttr? getAttrBy? getAttrBy;refine wpAny_bind (wpAny_mkText (wpAny_bind (wpAny_attempt (wpAny_holding (wpAny_bind (L0.at (wpAny_bind (LA.at ?_))))))));dsimp only;rw [hx1,if_neg Bool.false_ne_true];unfold getAttrByItsOwn hookBefore;rw [if_pos (show onTheHeap (Value.ref C) = true from rfl)];refine wpAny_bind (LB.at (wpAny_bind (wpAny_attempt (wpAny_holding ?_))));unfold callGetattribute;rw [if_neg (by simp)];unfold boundAndCalled;rw [f3];refine wpAny_bind (wpAny_pure ?_);refine wpAny_call (codeAny_call_builtin PySem.F.attrBase_ValueError.ga.plain PySem.F.entry_bexc_ga (B0 k X I (LO k X I ?_)));show wpAny _ _ (handedOut (.ref C)) _ _ _;exact wpAny_pure (wpAny_pure h)
theorem E5 (k:U3 K C):KitX K (.ref x) (.ref C) (λ h=>InstAt h x ox C od) where
 ty:=λ _ _ _ I=>I.type
 it:=λ _ _ X _=>by
  obtain ⟨cdD,hcD⟩:=Option.isSome_iff_exists.mp k.cd;unfold clsIn at hcD
  split at hcD
  ·rename_i c' d' cd' sl' ho;intro A' Q' E' s' k q;unfold isType loadHead;exact wpAny_bind (wpAny_loadPart (k _ _ (X _ _ ho)) (wpAny_pure q))
  ·cases hcD
 ne:=λ h tp dd its n sl X htp=>by
  obtain ⟨cdD,hcD⟩:=Option.isSome_iff_exists.mp k.cd;refine Bool.eq_false_iff.mpr λ q=>?_;have e:C = tp:=Value.ref.inj (beq_iff_eq.mp q);subst e;unfold clsIn at hcD
  split at hcD
  ·rename_i c' d' cd' sl' ho;have z:=(X _ _ ho).symm.trans htp;cases z
  ·cases hcD
 ca:=λ X I kk=>PJ k X I kk
end
end DL
namespace DL
open PySem.W
section
variable {k:Nat} {S:SM} {Ξ:DXK} {p:Pos} {t:DTA}
def Zkb (C:Addr):DTE:=λ _ M Φ=>Φ (.own C) M
theorem Zfl (C:Addr) (Δ:DSt) (M:Mp) (Φ:DK):Zkb C Δ M Φ = Φ (.own C) M:=qI
theorem Zif (hg:Gl X x) (hm:X.mg x = some (.ref C)) (hd:autoParam ((x == ("__debug__" : Str)) = false) zz1._auto_1):DE X (.Name x pos) (Zkb C):=
 ⟨_,DU (v:=.ref C) hg hm rfl hd,λ _ H _ M _ _ r _ h k=>k (.ref C) H (.own C) M r Step.refl rfl h⟩
end
def Cau (K:Fk) (H:Hp) (v:V) (t:Value):Prop:=(v = .non /\ t = .type "NoneType") \/ ∃ a C ed,v = .ref a /\ t = .ref C /\ H a = some (.ext (QK a (.ref C,ed))) /\ LnH H ed /\ U3 K C
noncomputable def Zi4:DV->Option Value
 | .own C=>some (.ref C)
 | .ty T=>some (.type T)
 | _=>none
def Tj (K:Fk) (x:DV) (M:Mp) (φ:Value->Prop):Prop:=match x with
 | .dat .none=>φ (.type "NoneType")
 | .own a=>∃ C ed,M a = some (.ext (QK a (.ref C,ed))) /\ LnM M ed /\ U3 K C /\ φ (.ref C)
 | _=>False
theorem RC (K:Fk) (M:Mp) (φ:Value->Prop):Tj K (.dat .none) M φ = φ (.type "NoneType"):=qI
theorem P1 (K:Fk) (a:Addr) (M:Mp) (φ:Value->Prop):Tj K (.own a) M φ = ∃ C ed,M a = some (.ext (QK a (.ref C,ed))) /\ LnM M ed /\ U3 K C /\ φ (.ref C):=qI
section
variable {K:Fk}
theorem Np {x:DV} {φ:Value->Prop} (h:Tj K x M φ) (r:ZV K M H) (rv:QA K M H v x):∃ t,Cau K H v t /\ φ t:=by
 unfold Tj at h
 split at h
 ·cases rv;exact ⟨_,.inl ⟨rfl,rfl⟩,h⟩
 ·obtain ⟨C,ed,h1,hl,h2,h3⟩:=h;exact ⟨_,.inr ⟨_,C,ed,rv,rfl,r.ok _ _ h1,λ d e=>let ⟨n,z⟩:=hl d e; ⟨n,r.ok _ _ z⟩,h2⟩,h3⟩
 ·exact h.elim
theorem Cau.step {t:Value} (c:Cau K H v t) (h:∀ a o,H a = some o->H' a = some o):Cau K H' v t:=by
 rcases c with z | ⟨a,C,ed,z1,z2,z3,zl,z4⟩
 ·exact .inl z
 ·exact .inr ⟨a,C,ed,z1,z2,h _ _ z3,λ d e=>let ⟨n,z⟩:=zl d e; ⟨n,h _ _ z⟩,z4⟩
theorem FE {ed:Option Addr} (e:QK a (.ref C,ed) h) (hd:∀ d,ed = some d->∃ o,h.get? d = some o):∃ ox od,PySem.W.InstAt h a ox C od:=by
 obtain ⟨o,vs,h1,⟨h2,h3⟩,h4⟩:=e;have no:notCls o = true:=by
  unfold notCls;rw [h4]
 cases ed with
 | none=>
  refine ⟨o,none,h1,h2,no,?_⟩;rw [h3];exact True.intro
 | some d=>
  obtain ⟨u,hu⟩:=hd d rfl;refine ⟨o,some u,h1,h2,no,?_⟩;rw [h3];exact hu
theorem FF {ed:Option Addr} (hok:HOk P w H h) (l:LnH H ed) (d:Addr) (e:ed = some d):∃ o,h.get? d = some o:=by
 obtain ⟨n,z⟩:=l d e;exact (show Qt P w H h d (.ext _) from hok _ _ z).2.1
theorem MI:JI X (.builtin "isinstance") (λ xs H Q=>∃ v c t cv b,xs = [v,c] /\ Cau X.K H v t /\ ((∃ C,c = .ref C /\ cv = .ref C) \/ (∃ T,c = .ty T /\ cv = .type T)) /\ kitOne X.K t cv = some b /\ Q (.bl b) H):=by
 intro pins s Z H xs us Q I r h;obtain ⟨v,c,t,cv,b,rfl,hc,hcv,e,q⟩:=h;obtain ⟨u,w',rfl,ru,rt⟩:=vals2 r;have ew:w' = cv:=by
  rcases hcv with ⟨C,rfl,rfl⟩ | ⟨T,rfl,rfl⟩
  ·exact rt
  ·exact rt
 subst ew;have fin:∀ tk,EP X pins Z Q (.bool b) { s with toks:=tk }:=λ tk=>⟨.bl b,H,I.tok tk,rfl,q⟩
 rcases hc with ⟨rfl,rfl⟩ | ⟨a,C,ed,rfl,rfl,ha,hl,kk⟩
 ·cases ru;exact kia_one kitx_none I.kIn True.intro e (λ z=>nomatch z) fin
 ·cases ru;obtain ⟨hφ,_⟩:=(show Qt X.prog X.w H s.heap _ (.ext _) from I.hok _ _ ha)
  obtain ⟨ox,od,hi⟩:=FE hφ (FF I.hok hl);exact kia_one (E5 (ox:=ox) (od:=od) kk) I.kIn hi e (λ z=>nomatch z) fin
theorem HN:JI X (.builtin "isinstance") (λ xs H Q=>∃ (v:V) (p:Addr) (t:Value) (Cs:List Addr) (b:Bool),xs = [v,.ref p] /\ Cau X.K H v t /\ H p = some (.tup (Cs.map V.ref)) /\ kitAny X.K t (Cs.map Value.ref) = some b /\ Q (.bl b) H):=by
 intro pins s Z H xs us Q I r h;obtain ⟨v,p,t,Cs,b,rfl,hc,hp,e,q⟩:=h;obtain ⟨u,w',rfl,ru,rt⟩:=vals2 r;cases (show w' = Value.ref p from rt);have fin:∀ tk,EP X pins Z Q (.bool b) { s with toks:=tk }:=λ tk=>⟨.bl b,H,I.tok tk,rfl,q⟩;obtain ⟨its,rv,⟨⟨cls,dd,data,sl⟩,ho,hc',n,hda⟩,_⟩:=I.tuple (.inl (.inl hp));simp only at hc' hda;subst hc' hda;have ei:∀ (Cs:List Addr) (its:List Value),Vals (Cs.map V.ref) its->its = Cs.map Value.ref:=by
  intro Cs
  induction Cs with
  | nil=>intro its z; cases z; rfl
  | cons c r ih=>
   intro its z;cases z with
   | cons a1 a2=>rw [ih _ a2,show _ = Value.ref c from a1]; rfl
 have ej:=ei _ _ rv;subst ej
 rcases hc with ⟨rfl,rfl⟩ | ⟨a,C,ed,rfl,rfl,ha,hl,kk⟩
 ·cases ru;exact kia_tup kitx_none I.kIn True.intro ho e (λ z=>nomatch z) fin
 ·cases ru;obtain ⟨hφ,_⟩:=(show Qt X.prog X.w H s.heap _ (.ext _) from I.hok _ _ ha)
  obtain ⟨ox,od,hi⟩:=FE hφ (FF I.hok hl);exact kia_tup (E5 (ox:=ox) (od:=od) kk) I.kIn hi ho e (λ z=>nomatch z) fin
def Oh (K:Fk):D1:=λ xs M Φ=>match xs with | [x,y]=>Tj K x M λ t=>∃ c b,Zi4 y = some c /\ kitOne K t c = some b /\ Φ (.dat (.bool b)) M | _=>False
theorem PD (K:Fk) (x y:DV) (M:Mp) (Φ:DK):Oh K [x,y] M Φ = (Tj K x M λ t=>∃ c b,Zi4 y = some c /\ kitOne K t c = some b /\ Φ (.dat (.bool b)) M):=qI
theorem N6:VM X (.builtin "isinstance") (Oh X.K):=by
 refine ⟨_,MI,λ vs H xs M Φ Q r rv h k=>?_⟩;replace h:∃ x y,xs = [x,y] /\ Tj X.K x M λ t=>∃ c b,Zi4 y = some c /\ kitOne X.K t c = some b /\ Φ (.dat (.bool b)) M:=by
  unfold Oh at h
  split at h
  ·exact ⟨_,_,rfl,h⟩
  ·exact h.elim
 obtain ⟨x,y,rfl,h⟩:=h;obtain ⟨v,u,rfl,h1,h2⟩:=Paired.two rv;obtain ⟨t,hc,c,b,e1,e2,q⟩:=Np h r h1;refine ⟨v,u,t,c,b,rfl,hc,?_,e2,k.dat r Step.refl (Dt.bl _) q⟩;cases y with
 | own C=>cases e1; exact .inl ⟨C,h2,rfl⟩
 | ty T=>cases e1; exact .inr ⟨T,h2,rfl⟩
 | dat d=>cases e1
 | mix xs=>cases e1
def DN (X:Cx) (es:List Expr) (Cs:List Addr):Prop:=PA X es (λ _ H Q=>Q (Cs.map V.ref) H)
theorem Zgy:DN X [] []:=Yh
theorem JY {Cs:List Addr} {p:Pos} (hg:Gl X x) (hm:X.mg x = some (.ref C)) (h:DN X es Cs) (hs:autoParam (starEach (.Name x p :: es) X.env = (false,eval (.Name x p) X.env) :: starEach es X.env) zz3._auto_1) (hd:autoParam ((x == ("__debug__" : Str)) = false) zz1._auto_1):DN X (.Name x p :: es) (C :: Cs):=JC (DU (v:=.ref C) hg hm rfl hd) h hs
def Zat (K:Fk) (Cs:List Addr) (te:DTE):DTE:=λ Δ M Φ=>te Δ M λ x M1=>Tj K x M1 λ t=>∃ b,kitAny K t (Cs.map Value.ref) = some b /\ Φ (.dat (.bool b)) M1
theorem Th:type_of% @Zat.eq_1:=λ _ _ _ _ _ _=>qI
theorem Tt {x1:Nat} {p pt pos:Pos} {Cs:List Addr} (hg:Gl X "isinstance") (hm:X.mg "isinstance" = none) (hv:bootBuiltins "isinstance" = some (.builtin "isinstance")) (he:DE X e te) (hn:DN X es Cs) (hl:Cs.length <= 64)
  (hs:autoParam (starEach [e,.Tuple es x1 pt] X.env = (false,eval e X.env) :: starEach [.Tuple es x1 pt] X.env) zz3._auto_1)
  (hs2:autoParam (starEach [.Tuple es x1 pt] X.env = (false,eval (.Tuple es x1 pt) X.env) :: starEach [] X.env) zz3._auto_1)
  (hpl:autoParam ((backTo pos (starEach [.Tuple es x1 pt] X.env)).any (·.1) = false) zz3._auto_1) :
  DE X (.Call (.Name "isinstance" p) [e,.Tuple es x1 pt] [] pos) (Zat X.K Cs te):=by
 obtain ⟨t0,p0,q0⟩:=he;refine ⟨_,Ex HN hg hm hv (JC p0 (JC (Zbm hn) Yh hs2) hs) (by decide) (by decide) hs hpl,λ Z H Δ M Φ Q r e h k=>?_⟩;refine q0 Z H Δ M _ _ r e h λ v H1 x M1 r1 st rv hx=>?_;obtain ⟨t,hc,b,e2,q⟩:=Np hx r1 rv;refine ⟨by rw [sizeLine_eq,List.length_map]; lia,λ a ha=>?_⟩;exact ⟨v,a,t,Cs,b,rfl,hc.step λ b o z=>by rw [Zv λ y=>by rw [y,ha] at z; cases z]; exact z,Zz,e2,k.dat (r1.new ha) (st.trans (Step.new ha)) (Dt.bl _) q⟩
end
inductive ZfQ:PyData->Prop
 | one {d:PyData}:Shw d->ZfQ d
 | tup {ds:List PyData}:(∀ d ∈ ds,ZfQ d)->ZfQ (.tuple ds)
 | lst {e:PyData} {ds:List PyData}:(∀ d ∈ e :: ds,ZfQ d)->ZfQ (.list (e :: ds))
section
variable {Z:L2.St} {s:Shared}
end
end DL
namespace DL
open PySem.W Builtin Builtin.ObjectAttr
section
variable {prog:Program} {w:World} {A:Around} {E:Value->Shared->Prop} {h:Heap} {g:Array GenState} {d:Drawn} {t:Nat} {os:OsState} {nm q:Str} {C N:Addr} {bs bm bmB:List Value} {hdct:Bool} {sn:List Str}
 {sub:List Value} {ab:Bool} {col:Option Bool} {dd:Option Addr} {k0 k1 k2 k3 k5:Option Value} {B newId initId:String}
theorem Px (F:ExcBaseFacts B newId initId bmB) (T:OwnTail h bmB bm) {mN:Str->Option Value} {rest:List Value} {fI:Addr} {oI:Obj} {Q:Fin->Shared->Prop} (hC:h.get? C = some (excClassObj nm q C N bs bm hdct sn sub ab col dd k0 k1 k2 k3 k5 newId)) (hn:h.Ns N mN)
  (hi:mN "__init__" = some (.ref fI)) (hfI:h.get? fI = some oI) (hfc:oI.cls = .type "function")
  (hq:∀ h' e,Heap.MadeExcOf h h' e (.ref C) rest->h.objs.size <= e->wpAny (model prog w) A (call (.ref fI) (.ref e :: rest)) (λ r s'=>r = .none /\ Q (.done (.ret (.ref e))) s') E ⟨h',g,d,t,os⟩) (hrest:rest.length <= sizeLine):wpAny (model prog w) A (Builtin.«type.__call__» ⟨.ref C :: rest,[]⟩) Q E ⟨h,g,d,t,os⟩:=by
 repeat (first | with_reducible refine wpAny_loadPart_at hC ?_ | with_reducible refine wpAny_madeBy_exc hC ?_ | wp_step)
 refine codeAny_call_builtin_code (Code.quiet_builtin _ F.quiet) (wpAny_check_new_subT F T hC ?_); refine codeAny_exc_new_subT F T hC ?_ hrest;show wpAny _ _ _ _ _ _;generalize hO1:({ cls:=.type "tuple",data:=.seq rest.toArray }:Obj) = o1;generalize hO2:({ cls:=.ref C,data:=.fields #[.ref h.objs.size,.none,.none,.none,.bool false,.none] }:Obj) = o2;have f1:o1.isFreed = false:=by subst hO1; rfl
 have f2:o2.isFreed = false:=by subst hO2; rfl
 have old:∀ b o,h.get? b = some o->((h.push o1).push o2).get? b = some o:=λ b o e=>Heap.get?_push_of_some _ (Heap.get?_push_of_some _ e);have hC₁:=old _ _ hC;have hfI₁:=old _ _ hfI;have hn₁:((h.push o1).push o2).Ns N mN:=let ⟨o,es,ep,e,r⟩:=hn; ⟨o,es,ep,old _ _ e,r⟩;have hget:((h.push o1).push o2).get? (h.objs.size + 1) = some o2:=Heap.get?_push_at (by rw [Heap.size_push]) f2;have ho2c:o2.cls = .ref C:=by subst hO2; rfl
 have hcC:(Value.ref C :: bm).contains (.ref C) = true:=by simp
 have T₁:=T.keeps old;unfold isInstance
 repeat (first | (with_reducible refine wpAny_loadPart_at hget ?_; rw [ho2c]) | (with_reducible refine wpAny_isSubtype_exc hC₁ ?_; rw [hcC]) | wp_step)
 show wpAny _ _ (typeLookup (.ref C) _) _ _ _;refine wpAny_typeLookup_tail hC₁ hn₁ T₁ F.mroIs F.init.lookup ?_; rw [hi];refine wpAny_holding (wpAny_bind ?_);unfold bindSpecial;refine wpAny_bind (wpAny_typeOf (T := "function") ⟨_,hfI₁,hfc⟩ ?_);rw [if_pos (by decide)];subst hO1 hO2;refine wpAny_pure (wpAny_bind (wpAny_mono (hq _ (h.objs.size + 1) ⟨old,Heap.get?_none_of_le (Nat.le_succ _),h.objs.size,hget,Heap.get?_none_of_le (Nat.le_refl _),?_⟩ (Nat.le_succ _)) (λ r s' hr=>?_) λ _ _ x=>x))
 ·exact Heap.get?_push_of_some _ (Heap.get?_push_at rfl rfl)
 ·obtain ⟨rfl,hQ⟩:=hr
  wp_walk
  exact hQ
theorem WW (F:ExcBaseFacts B newId initId bmB) (T:OwnTail h bmB bm) {mN:Str->Option Value} {rest:List Value} {fI:Addr} {oI:Obj} {Q:Value->Shared->Prop} (hC:h.get? C = some (excClassObj nm q C N bs bm hdct sn sub ab col dd k0 k1 k2 k3 k5 newId)) (hn:h.Ns N mN)
  (hi:mN "__init__" = some (.ref fI)) (hfI:h.get? fI = some oI) (hfc:oI.cls = .type "function")
  (hq:∀ h' e,Heap.MadeExcOf h h' e (.ref C) rest->h.objs.size <= e->wpAny (model prog w) (A.under (.builtin "type.__call__" ⟨.ref C :: rest,[]⟩)) (call (.ref fI) (.ref e :: rest)) (λ r s'=>r = .none /\ Q (.ref e) s') E ⟨h',g,d,t,os⟩) (hrest:rest.length <= sizeLine):wpAny (model prog w) A (call (.ref C) rest) Q E ⟨h,g,d,t,os⟩:=by
 have f1:=tc_lookup; have f2:=tc_bind (.ref C); have hT:(⟨h,g,d,t,os⟩:Shared).TypeIs (.ref C) "type" := ⟨_,hC,rfl⟩
 refine wpAny_call (codeAny_of_tree ?_);show wpAny _ _ (callAny (.ref C) _) _ _ _
 repeat (any_goals (first | assumption | with_reducible refine wpAny_loadPart_at hC ?_ | wp_step))
 refine ⟨rfl,?_⟩; refine codeAny_call_builtin_at (Code.quiet_builtin _ (by walk_at "k")) entry_typeCall (wpAny_check_type_call_sub hC (Px F T hC hn hi hfI hfc (λ h' e hm hz=>?_) hrest)); exact hq h' e hm hz
end
section
variable {prog:Program} {w:World} {A:Around} {E:Value->Shared->Prop} {s:Shared} {env:Env} {nm q:Str} {C N:Addr} {bs bm bmB:List Value} {hdct:Bool} {sn:List Str} {sub:List Value} {ab:Bool} {col:Option Bool} {dd:Option Addr}
 {k0 k1 k2 k3 k5:Option Value} {B newId initId:String}
theorem Ui {M:Model} {x:Sem Value} {Q:Flow->Shared->Prop} (hbase:bm.contains (.type "BaseException") = true) (hh:A.handled = none)
  (h:wpAny M A x (λ v s₁=>∃ e oe,v = .ref e /\ s₁.heap.get? C = some (excClassObj nm q C N bs bm hdct sn sub ab col dd k0 k1 k2 k3 k5 newId) /\ s₁.heap.get? e = some oe /\ oe.cls = .ref C /\ (∃ vs,oe.data = .fields vs /\ vs[1]? = some .none) /\ E (.ref e) s₁) E s) :
  wpAny M A (raiseStmt env (some x) none) Q E s:=by
 have hcB:(Value.ref C :: bm).contains (.type "BaseException") = true:=by rw [List.contains_cons,hbase,Bool.or_true]
 unfold raiseStmt;refine wpAny_bind (wpAny_mono h (λ v s₁ h₁=>?_) λ _ _ x=>x);obtain ⟨e,⟨oc,od,oda,osl⟩,rfl,hC,he,hc,⟨vs,hv,h1⟩,hE⟩:=h₁;obtain ⟨hp,g,d,tk,os⟩:=s₁;dsimp only at hc hv;subst hc hv
 repeat (first | with_reducible refine wpAny_loadPart_at he ?_ | with_reducible refine wpAny_loadPart_at hC ?_ | (with_reducible refine wpAny_isSubtype_exc hC ?_; rw [hcB]) | wp_step)
 rw [h1];refine wpAny_pure ?_;rw [if_neg (by decide)];refine wpAny_pure ?_;exact wpAny_raiseNew_none hh hE
theorem D9 (F:ExcBaseFacts B newId initId bmB) {mN:Str->Option Value} {x:Str} {np pos:Pos} {args:List Expr} {fI:Addr} {oI:Obj} {Q:Flow->Shared->Prop} (hbase:bm.contains (.type "BaseException") = true) (hh:A.handled = none) (hplain:(backTo cpos (starEach args env)).any (·.1) = false)
  (hi:mN "__init__" = some (.ref fI)) (hfc:oI.cls = .type "function") (h:wpAny (model prog w) A (eval (.Name x np) env) (λ f s₁=>f = .ref C /\ wpAny (model prog w) A (evalArgs (.ref C) true (backTo cpos (starEach args env)) []) (λ a s₂=>a.kw = [] /\ a.pos.length <= sizeLine /\ s₂.heap.get? C = some (excClassObj nm q C N bs bm hdct sn sub ab col dd k0 k1 k2 k3 k5 newId) /\
   s₂.heap.Ns N mN /\ OwnTail s₂.heap bmB bm /\ s₂.heap.get? fI = some oI /\ ∀ h' e,Heap.MadeExcOf s₂.heap h' e (.ref C) a.pos->s₂.heap.objs.size <= e->wpAny (model prog w) (A.under (.builtin "type.__call__" ⟨.ref C :: a.pos,[]⟩)) (call (.ref fI) (.ref e :: a.pos)) (λ r s'=>r = .none /\
    s'.heap.get? C = some (excClassObj nm q C N bs bm hdct sn sub ab col dd k0 k1 k2 k3 k5 newId) /\ (∃ oe,s'.heap.get? e = some oe /\ oe.cls = .ref C /\ ∃ vs,oe.data = .fields vs /\ vs[1]? = some .none) /\ E (.ref e) s') E { s₂ with heap:=h' }) E s₁) E s):wpAny (model prog w) A (exec (.Raise (some (.Call (.Name x np) args [] cpos)) none pos) env) Q E s:=by
 rw [arm_exec_Raise];have key:wpAny (model prog w) A (eval (.Call (.Name x np) args [] cpos) env) (λ v s₁=>∃ e oe,v = .ref e /\ s₁.heap.get? C = some (excClassObj nm q C N bs bm hdct sn sub ab col dd k0 k1 k2 k3 k5 newId) /\ s₁.heap.get? e = some oe /\ oe.cls = .ref C /\ (∃ vs,oe.data = .fields vs /\ vs[1]? = some .none) /\ E (.ref e) s₁) E s:=by
  refine wpAny_Call_ofName (wpAny_mono h (λ f s₁ h₁=>?_) λ _ _ x=>x);obtain ⟨rfl,h₁⟩:=h₁;unfold callWith;refine wpAny_bind (wpAny_holding (wpAny_mono h₁ (λ a s₂ h₂=>wpAny_bind (wpAny_standAt ?_)) λ _ _ x=>x)); obtain ⟨apos,akw⟩:=a; obtain ⟨hkw,hlen,hC,hn,T,hfI,h₂⟩:=h₂; obtain rfl:akw = []:=hkw;obtain ⟨hp,g,d,tk,os⟩:=s₂; simp only [hplain]; refine wpAny_bind (wpAny_keeperOf_exc hC ?_);refine wpAny_bind (WW F T hC hn hi hfI hfc (λ h' e hm hz=>wpAny_mono (h₂ h' e hm hz) (λ r s' hr=>⟨hr.1,wpAny_bind (wpAny_holding (wpAny_point (wpAny_pure ?_)))⟩) λ _ _ x=>x) hlen);obtain ⟨_,g1,⟨oe,g2,g3,g4⟩,g5⟩:=hr;exact ⟨e,oe,rfl,g1,g2,g3,g4,g5⟩
 first
  | exact wpAny_bind (wpAny_standAt (Ui (C:=C) (nm:=nm) (q:=q) (N:=N) (bs:=bs) (bm:=bm) (hdct:=hdct) (sn:=sn) (sub:=sub) (ab:=ab) (col:=col) (dd:=dd) (k0:=k0) (k1:=k1) (k2:=k2) (k3:=k3) (k5:=k5) (newId:=newId) hbase hh (wpAny_bind (wpAny_mono key (λ v s₃ h₃=>wpAny_bind (wpAny_standAt (wpAny_pure h₃))) λ _ _ x=>x))))
  | (simp only [evalOpt,Option.map]; exact wpAny_bind (wpAny_standAt (Ui (C:=C) (nm:=nm) (q:=q) (N:=N) (bs:=bs) (bm:=bm) (hdct:=hdct) (sn:=sn) (sub:=sub) (ab:=ab) (col:=col) (dd:=dd) (k0:=k0) (k1:=k1) (k2:=k2) (k3:=k3) (k5:=k5) (newId:=newId) hbase hh (wpAny_bind (wpAny_mono key (λ v s₃ h₃=>wpAny_bind (wpAny_standAt (wpAny_pure h₃))) λ _ _ x=>x)))))
end
theorem DF {bmB bm:List Value} (T:OwnTail h bmB bm) (self:Value) (what:Str):refuseLoop self what bm = refuseLoop self what bmB:=by
 induction T with
 | base=>rfl
 | own _ _ _ _ ih=>rw [refuseLoop_ref,ih]
section
variable {prog:Program} {w:World} {A:Around} {E:Value->Shared->Prop} {h:Heap} {g:Array GenState} {d:Drawn} {t:Nat} {os:OsState} {nm q:Str} {C N x:Addr} {bs bm bmB:List Value} {sn:List Str} {sub:List Value} {ab:Bool} {col:Option Bool} {dd:Option Addr}
 {k0 k1 k2 k3 k5:Option Value} {B newId sa owner:String} {name:Str} {v:Value} {o:Obj}
theorem Bl {tk:Tok} {Q:Fin->Shared->Prop} (SF:StoreFacts B bmB sa owner) (T:OwnTail h bmB bm) (hC:h.get? C = some (excClassObj nm q C N bs bm true sn sub ab col dd k0 k1 k2 k3 k5 newId)) (LN:Looks (model prog w) h (typeLookup (.ref C) name) none)
  (hx:h.get? x = some o) (hc:o.cls = .ref C) (hnc:∀ c,o.data ≠ .cls c) (hdn:o.dict = none)
  (hq:∀ h' tk',h'.get? x = some { o with dict:=some h.objs.size }->h'.Ns1 h.objs.size (λ y=>if y = name then some v else none)->(∀ b u,b ≠ x->h.get? b = some u->h'.get? b = some u)->Q (.done (.ret .none)) ⟨h',g,d,tk',os⟩) :
  wpAny (model prog w) A (Builtin.«object.__setattr__» ⟨[.ref x,.str name tk,v],[]⟩) Q E ⟨h,g,d,t,os⟩:=by
 have hpass:=SF.passes (.ref x);rw [<- DF T] at hpass;unfold Builtin.«object.__setattr__»
 repeat (first | rw [refuse_eq] | (rw [refuseLoop_ref,hpass]) | (with_reducible refine wpAny_loadPart_at hx ?_; rw [hc]) | with_reducible refine wpAny_mroOf_exc hC ?_ | with_reducible refine LN.at ?_ | wp_step)
 rw [hdn,if_neg (by simp [typeHasDict])]
 split
 ·rename_i z; cases z
 split
 ·rename_i c z; exact absurd z (hnc c)
 generalize hz:h.objs.size = z;have nxz:x ≠ z:=hz ▸ Nat.ne_of_lt (Heap.lt_size hx);generalize hD:({ cls:=.type "dict",data:=.dict #[] }:Obj) = D;have fr:D.isFreed = false:=by subst hD; rfl
 have px:(h.push D).get? x = some o:=Heap.get?_push_of_some _ hx;have pz:(h.push D).get? z = some D:=Heap.get?_push_at hz.symm fr;refine wpAny_bind (wpAny_alloc' (wpAny_bind (wpAny_update' px (wpAny_pure ?_))));rw [hz];generalize hU:(λ u:Obj=>({ cls:=u.cls,dict:=some z,data:=u.data,slots:=u.slots }:Obj)) = U;have uz:((h.push D).update x U).get? z = some D:=(Heap.get?_update_ne _ _ _ _ nxz.symm).trans pz;have nd:((h.push D).update x U).Ns z (λ _=>none):=⟨D,#[],0,uz,by subst hD; rfl,λ e he=>absurd he (by simp),λ _=>rfl⟩
 show wpAny _ _ (storeInDict z (.str name tk) name v) _ _ _;unfold storeInDict newKeyGuard;refine wpAny_bind (wpAny_pure (wpAny_bind (wpAny_nsSet1EFk (Heap.Ns1.of_empty nd) λ h' n' sb _=>?_)));obtain ⟨u,es,ep,g1,g2,g3⟩:=n'.count (Within.cons name v Within.nil);have few:es.size <= sizeLine:=Nat.le_trans g3 (by rw [List.length_cons,List.length_nil,sizeLine_eq]; lia);refine wpAny_bind (wpAny_lookBehind g1 (by rw [g2]; exact pastItsLine_dict (Nat.le_succ_of_le few)) ?_)
 wp_walk
 refine hq h' _ ?_ (by rw [hz]; exact n') λ b ob nb eb=>?_
 ·rw [hz]
  have e2:((h.push D).update x U).get? x = some (U o):=Heap.get?_update_self _ px (by
   have:=(Heap.get?_some_iff.mp hx).2;subst hU;obtain ⟨oc,od,odt,osl⟩:=o
   cases odt <;> first | rfl | exact this)
  rw [(sb.2 x nxz).trans e2,<- hU]
 ·exact (sb.2 b (hz ▸ Nat.ne_of_lt (Heap.lt_size eb))).trans ((Heap.get?_update_ne _ _ _ _ nb).trans (Heap.get?_push_of_some _ eb))
theorem Mj {M:Model} {nameV:Value} {Q:Unit->Shared->Prop} (SF:StoreFacts B bmB sa owner) (T:OwnTail h bmB bm)
  (hC:h.get? C = some (excClassObj nm q C N bs bm true sn sub ab col dd k0 k1 k2 k3 k5 newId)) (hx:h.get? x = some o) (hc:o.cls = .ref C) (hq:Q () ⟨h,g,d,t,os⟩) :
  wpAny M A (checkBuiltinCall sa ⟨[.ref x,nameV,v],[]⟩) Q E ⟨h,g,d,t,os⟩:=by
 have hcB:(Value.ref C :: bm).contains (.type owner) = true:=by rw [List.contains_cons,T.hasType SF.hasOwner,Bool.or_true]
 have ha:=SF.args (.ref x) nameV v;simp only [checkBuiltinCall,SF.kind,SF.split];refine wpAny_bind ?_;unfold isInstance
 repeat (first | (with_reducible refine wpAny_loadPart_at hx ?_; rw [hc]) | (with_reducible refine wpAny_isSubtype_exc hC ?_; rw [hcB]) | wp_step)
 cases hsig:Manifest.signature? sa with
 | none=>exact wpAny_pure hq
 | some sig=>
  simp only [argsOk,hsig] at ha;have ok:∀ m:Sem Unit,m = pure ()->wpAny M A m Q E ⟨h,g,d,t,os⟩:=λ m z=>by rw [z]; exact wpAny_pure hq
  exact ok _ ha
theorem Zhd {Q:Unit->Shared->Prop} (SF:StoreFacts B bmB sa owner) (T:OwnTail h bmB bm) (hC:h.get? C = some (excClassObj nm q C N bs bm true sn sub ab col dd k0 k1 k2 k3 k5 newId)) (LS:Looks (model prog w) h (typeLookup (.ref C) "__setattr__") (some (.builtin sa)))
  (LN:Looks (model prog w) h (typeLookup (.ref C) name) none) (hx:h.get? x = some o) (hc:o.cls = .ref C) (hnc:∀ c,o.data ≠ .cls c) (hdn:o.dict = none)
  (hq:∀ h' tk',h'.get? x = some { o with dict:=some h.objs.size }->h'.Ns1 h.objs.size (λ y=>if y = name then some v else none)->(∀ b u,b ≠ x->h.get? b = some u->h'.get? b = some u)->Q () ⟨h',g,d,tk',os⟩) :
  wpAny (model prog w) A (setAttr (.ref x) name v) Q E ⟨h,g,d,t,os⟩:=by
 have f3:=SF.slot.bind (.ref x);unfold setAttr callSpecial? specialOf
 repeat (any_goals (first | assumption | (with_reducible refine wpAny_loadPart_at hx ?_; rw [hc]) | with_reducible refine LS.at ?_ | wp_step))
 refine codeAny_call_builtin SF.slot.plain SF.entry (Mj SF T hC hx hc (Bl SF T hC LN hx hc hnc hdn λ h' tk' g1 g2 g3=>?_))
 repeat (any_goals (first | assumption | wp_step))
 exact hq h' tk' g1 g2 g3
end
end DL
namespace DL
open PySem.W
noncomputable abbrev bmV:List Value:=[.type "ValueError",.type "Exception",.type "BaseException",.type "object"]
structure WT (K:Fk) (C f:Addr):Prop where
 ex:∃ nm q N bs bm sn sub ab col dd k0 k1 k2 k3 k5,K.lookup C = some (excClassObj nm q C N bs bm true sn sub ab col dd k0 k1 k2 k3 k5 "ValueError.__new__") /\ tailIn K bmV bm = true /\ nsOkIn K N = true /\ nsIn K N "__init__" = some (some (.ref f))
 sa:findIn K (.ref C) "__setattr__" = some (some (.builtin "object.__setattr__"))
 ln:findIn K (.ref C) "line" = some none
def Xn (a C t:Addr) (ed:Option Addr) (h:Heap):Prop:=h.get? a = some { cls:=.ref C,dict:=ed,data:=.fields #[.ref t,.none,.none,.none,.bool false,.none] }
theorem U1 {t:Addr} {ed:Option Addr} (x:Xn a C t ed h):Qt P w H h a (.ext (Xn a C t ed)):=⟨x,⟨_,x⟩,λ _ _ y k=>k _ y⟩
theorem ZfL {d:Addr} {n:Int} (x:V4 d n h):Qt P w H h d (.ext (V4 d n)):=⟨x,let ⟨o,_,e,_⟩:=x; ⟨o,e⟩,λ _ _ ⟨o,t,e,l⟩ k=>⟨o,t,k o e,l⟩⟩
theorem ZjU {d:Addr} {n:Int} {t:Tok} (x:h.Ns1 d (λ y=>if y = ("line" : Str) then some (.int n t) else none)):V4 d n h:=by
 obtain ⟨o,es,ep,e,hd,_,_,f⟩:=x;refine ⟨o,t,e,?_⟩;have f:nsFind es "line" = some (.int n t):=(f "line").trans (if_pos rfl);unfold lookIn;rw [hd];unfold nsFind findBy at f;rw [<- Array.find?_toList] at f;obtain ⟨u,hu,hv⟩:=Option.map_eq_some_iff.mp f;show (match es.toList.find? (·.key.isStr "line") with | some e=>some (some e.val) | none=>_) = _;rw [show es.toList.find? (·.key.isStr "line") = some u from hu,<- hv]
section
variable {o value:Expr} {ta tv:TE} {pos':Pos}
def Zid (C:Addr) (ta tv:TE):TS:=λ D Z H=>tv Z H λ y H1=>ta Z H1 λ x H2=>∃ a t n,x = .ref a /\ y = .int n /\ H2 a = some (.ext (Xn a C t none)) /\ ∀ dx,H2 dx = none->D.nx Z (upd (upd H2 dx (.ext (V4 dx n))) a (.ext (Xn a C t (some dx))))
theorem Zdv (c:WT X.K C f) (ha:PE X o ta) (hv:PE X value tv) (hs:swapsWith value (some (.Attribute o "line" pos')) pos.line X.env = pure false):PS X (.Assign [.Attribute o "line" pos'] value pos) (Zid C ta tv):=by
 intro pins s Z H D I h;refine plainObj_wpAny_Assign_Attribute (thn (hv pins s Z H _ I h) λ u s1 ⟨y,H1,I1,ry,q⟩=>thn (ha pins s1 Z H1 _ I1 q) λ ov s2 ⟨x,H2,I2,rx,a,t,n,ex,ey,ea,q2⟩=>?_) hs;subst ex ey;obtain rfl:ov = Value.ref a:=rx;obtain ⟨tk,rfl⟩:=ry;obtain ⟨nm,q,N,bs,bm,sn,sub,ab,col,dd,k0,k1,k2,k3,k5,lk,tl,ok,ini⟩:=c.ex;have K2:=I2.kIn;have xa:Xn a C t none s2.heap:=(show Qt X.prog X.w H2 s2.heap a (.ext _) from I2.hok a _ ea).1;obtain ⟨hh,g,d,tt,os⟩:=s2;refine Zhd PySem.F.store_ValueError (tail_of_in K2 tl) (K2 _ _ lk) (looks_findIn K2 c.sa) (looks_findIn K2 c.ln) xa rfl (λ _ z=>nomatch z) rfl λ h' tk' g1 g2 g3=>?_;have nz:H2 hh.objs.size = none:=I2.hok.fresh (Nat.le_refl _);have az:a ≠ hh.objs.size:=λ z=>by rw [z,nz] at ea; cases ea
 refine ⟨Z,_,?_,q2 _ nz⟩;have lt:∀ b u,hh.get? b = some u->b ≠ hh.objs.size:=λ b u e=>Nat.ne_of_lt (Heap.lt_size e);have na:∀ b u,H2 b = some u->(∀ φ,u ≠ .ext φ)->b ≠ a:=λ b u e n z=>by rw [z,ea] at e; cases e; exact n _ rfl
 have nb:∀ b u,H2 b = some u->b ≠ hh.objs.size:=λ b u e z=>by rw [z,nz] at e; cases e
 have same:∀ b u,H2 b = some u->(∀ φ,u ≠ .ext φ)->upd (upd H2 hh.objs.size (.ext (V4 hh.objs.size n))) a (.ext (Xn a C t (some hh.objs.size))) b = some u:=λ b u e z=>by rw [Zv (na b u e z),Zv (nb b u e)]; exact e
 refine I2.call (ch:=[]) (g':=g) (d':=d) (t':=tk') ⟨λ b u e hb _ _=>g3 b u (λ z=>by rw [z,ea] at hb; cases hb) e,λ b u e hb _ _=>⟨u.slots,g3 b u (λ z=>by rw [z,ea] at hb; cases hb) e⟩,λ b u e hb _=>?_,λ b u e _=>?_,λ b xs e=>same b _ e (λ _ z=>nomatch z),λ b o' u e=>same b _ e (λ _ z=>nomatch z),λ b ps e=>⟨#[],?_⟩⟩ (λ b u e=>?_) I2.bare λ b z=>nomatch z
 ·rw [Zv (λ z=>by rw [z,ea] at hb; cases hb),Zv (lt b u e)];exact hb
 ·by_cases z:b = a
  ·subst z; exact ⟨_,g1⟩
  ·exact ⟨u,g3 b u z e⟩
 ·rw [same b _ e (λ _ z=>nomatch z)]; simp
 ·by_cases z:b = a
  ·subst z;rw [Zz] at e;cases e;exact U1 g1
  ·rw [Zv z] at e
   by_cases z2:b = hh.objs.size
   ·subst z2;rw [Zz] at e;cases e;exact ZfL (ZjU g2)
   ·rw [Zv z2] at e;refine (I2.hok b u e).HQ (λ c v hc q=>g3 c v ?_ q) (λ c q=>same c _ q (λ _ z=>nomatch z)) λ c xs q=>same c _ q (λ _ z=>nomatch z)
    rcases hc with y | y
    ·rw [y]; exact z
    ·exact na c _ y (λ _ z=>nomatch z)
end
def BO (C:Addr):Sp:=λ vs H Q _=>∃ a t n,vs = [.ref a,.int n] /\ H a = some (.ext (Xn a C t none)) /\ ∀ dx,H dx = none->Q .non (upd (upd H dx (.ext (V4 dx n))) a (.ext (Xn a C t (some dx))))
section
variable {Z:L2.St} {s:Shared} {φ:Heap->Prop}
theorem Ef (I:L2.Inv X pins Z (upd H a (.ext φ)) s) (ha:H a = none):L2.Inv X pins Z H s:=by
 have e:({ s with heap:=s.heap,gens:=s.gens,drawn:=s.drawn,toks:=s.toks }:Shared) = s:=rfl;rw [<- e];have back:∀ b u,upd H a (.ext φ) b = some u->(∀ φ,u ≠ .ext φ)->H b = some u:=λ b u q n=>by
  by_cases z:b = a
  ·subst z; rw [Zz] at q; cases q; exact absurd rfl (n _)
  ·rw [Zv z] at q; exact q
 refine I.call (ch:=[]) (g':=s.gens) (d':=s.drawn) (t':=s.toks) ⟨λ _ _ q _ _ _=>q,λ _ o q _ _ _=>⟨o.slots,q⟩,λ b o q n _=>?_,λ _ o q _=>⟨o,q⟩,λ b xs q=>back b _ q (λ _ z=>nomatch z),λ b o u q=>back b _ q (λ _ z=>nomatch z),λ b ps q=>⟨#[],?_⟩⟩ (λ b u q=>?_) I.bare λ b z=>nomatch z
 ·by_cases z:b = a
  ·rw [z]; exact ha
  ·rw [Zv z] at n; exact n
 ·rw [back b _ q (λ _ z=>nomatch z)]; simp
 ·have z:b ≠ a:=λ z=>by rw [z,ha] at q; cases q
  exact (I.hok b u (by rw [Zv z]; exact q)).HQ (λ c v _ y=>y) (λ c y=>back c _ y (λ _ z=>nomatch z)) λ c xs y=>back c _ y (λ _ z=>nomatch z)
end
section
variable {K:Fk}
theorem ZgQ {C:Addr} (F:Fun K "__init__" qual st f fd) (Sc:Zr ["self", "line"] ["self", "line"] (Zf st))
  (hb:∀ cdv A outer s H E,PSs (Fz CX0 P w K mg base ["self", "line"] qual (Zf st) f cdv A outer s H E).nox (Q2 st) (Zid C (Zij 0) (Zij 1))):Qu P w K mg base CX0 1 f fd ["self", "line"] (BO C):=by
 refine F.ok Sc (λ vs H Q E ⟨a,t,n,e,_⟩=>by rw [e]; rfl) λ cdv A outer s H vs Q E hr h=>⟨_,hb cdv A outer s H E,?_⟩;obtain ⟨a,t,n,rfl,ha,q⟩:=h;exact ⟨.int n,rfl,.ref a,rfl,a,t,n,rfl,rfl,ha,q⟩
end
theorem OX {K:Fk} {N:Addr} {m:Str->Option Value} {n:Str} {v:Value} (X:K.In h) (G:h.Ns N m) (e:nsIn K N n = some (some v)):m n = some v:=by
 obtain ⟨o,es,ep,ho,hd,_,hf⟩:=G;rw [<- hf n];unfold nsIn at e
 split at e
 ·rename_i c d es' n' sl z;have z2:=X _ _ z;rw [ho] at z2;cases z2;cases hd;unfold nsFind findBy;rw [<- Array.find?_toList]
  split at e
  ·rename_i u hu;cases e;rw [show es.toList.find? (λ e=>e.key.isStr n) = some u from hu];rfl
  ·split at e <;> cases e
 ·cases e
theorem Zg6 {K:Fk} {h0:Heap} {N:Addr} {o:Obj} (X0:K.In h0) (X:K.In h) (ok:nsOkIn K N = true) (ho:h0.get? N = some o):h.get? N = some o:=by
 unfold nsOkIn at ok
 split at ok
 ·rename_i z;rw [X0 _ _ z] at ho;cases ho;exact X _ _ z
 ·cases ok
section
variable {Ξ:XCl->Hp->Prop} {k:Nat} {np:Pos} {e₀:Expr} {t:TA}
theorem Nn (c:WT X.K C f) (hm:X.mg x = some (.ref C)) (F:Qu X.prog X.w X.K X.mg X.base CX0 k f fd ["self", "line"] (BO C)) (hb:Binds X.K fd ["self", "line"] []) (hf:∃ o,X.K.lookup f = some o /\ o.cls = .type "function") (hr:JT (k + 1) X.A)
  (hc:X.calm = true) (hg:Gl (X.Wy (XS X Ξ)) x) (ha:PA (X.Wy (XS X Ξ)) [e₀] t) (he:autoParam (starEach [e₀] X.env = [(false,eval e₀ X.env)]) zz3._auto_1) (hd:autoParam ((x == ("__debug__" : Str)) = false) zz1._auto_1) :
  PS (X.Wy (XS X Ξ)) (.Raise (some (.Call (.Name x np) [e₀] [] cpos)) none pos) (λ _ Z H=>t Z H λ vs H1=>∃ n,vs = [.int n] /\ ∀ dx,H1 dx = none->Ξ (.ref C,some dx) (upd H1 dx (.ext (V4 dx n)))):=by
 intro pins s Z H D I h;obtain ⟨nm,q,N,bs,bm,sn,sub,ab,col,dd,k0,k1,k2,k3,k5,lk,tl,ok,ini⟩:=c.ex;obtain ⟨of,lf,cf⟩:=hf;have T0:=tail_of_in (h:=s.heap) I.kIn tl;have hN0:s.heap.Ns N (s.heap.nsMap N):=.of_isNs (isNs_of_in I.kIn ok);have hi:s.heap.nsMap N "__init__" = some (.ref f):=OX I.kIn hN0 ini;refine D9 (C:=C) (nm:=nm) (q:=q) (N:=N) (bs:=bs) (bm:=bm) (hdct:=true) (sn:=sn) (sub:=sub) (ab:=ab) (col:=col) (dd:=dd) (k0:=k0) (k1:=k1) (k2:=k2) (k3:=k3) (k5:=k5)
  PySem.F.excBase_ValueError (mN:=s.heap.nsMap N) (T0.hasType PySem.F.excBase_ValueError.hasBase) (I.ok.hd hc) (by rw [show starEach [e₀] (X.Wy (XS X Ξ)).env = _ from he]; rfl) hi cf (Xc I hg hm ⟨rfl,?_⟩ hd)
 have ha':=ha cpos pins s Z H _ I h;rw [show starEach [e₀] (X.Wy (XS X Ξ)).env = [(false,eval e₀ X.env)] from he] at ha' ⊢;refine Calls.evalArgs_plain (wpAny_mono ha' (λ us s₂ h₂=>?_) λ _ _ y=>y);obtain ⟨vs,H1,I1,r1,n,rfl,hΞ⟩:=h₂;obtain ⟨u,rfl,ru⟩:=vals1 r1;have K2:=I1.kIn;refine ⟨rfl,by rw [sizeLine_eq]; show 1 <= 16777216; decide,K2 _ _ lk,?_,tail_of_in K2 tl,K2 _ _ lf,λ h' e mk hsz=>?_⟩
 ·obtain ⟨o,es,ep,ho,hr⟩:=hN0;have z:=Zg6 (h:=s₂.heap) I.kIn K2 ok ho;exact ⟨o,es,ep,z,hr⟩
 obtain ⟨tt,ht,_,_⟩:=mk.there;have he1:H1 e = none:=I1.hok.fresh hsz;have I2:L2.Inv (X.Wy (XS X Ξ)) pins Z (upd H1 e (.ext (Xn e C tt none))) { s₂ with heap:=h' }:=I1.laid (t':=s₂.toks) mk.keeps hsz (U1 ht);have sp:BO C [.ref e,.int n] (upd H1 e (.ext (Xn e C tt none))) (λ v H'=>v = .non /\ ∃ dx,upd H1 e (.ext (Xn e C tt none)) dx = none /\ H' = upd (upd (upd H1 e (.ext (Xn e C tt none))) dx (.ext (V4 dx n))) e (.ext (Xn e C tt (some dx)))) (λ _ _ _=>False):=⟨e,tt,n,rfl,Zz,λ dx hdx=>⟨rfl,dx,hdx,rfl⟩⟩
 have bd:BindsTo { s₂ with heap:=h' } fd ⟨[.ref e,u],[]⟩ ((["self", "line"]:List Str).zip [.ref e,u]):=by simpa using hb { s₂ with heap:=h' } [.ref e,u] I2.kIn (by rfl)
 refine wpAny_call (codeAny_mono (F.run _ X.stack _ _ ⟨[.ref e,u],[]⟩ [.ref e,u] [.ref e,.int n] _ _ (hr.make C [u] []) (I2.Je.Zit.make C [u] []) bd (.cons rfl (.cons ru .nil)) sp) λ rr s' hq'=>?_);cases rr with
 | error e'=>exact False.elim hq'
 | ok fl=>
  cases fl with
  | ret u'=>
   obtain ⟨v,H',I3,rv,rfl,dx,hdx,rfl⟩:=I2.after hq';cases (show u' = .none from rv);have ne:dx ≠ e:=λ z=>by rw [z,Zz] at hdx; cases hdx
   have hdx1:H1 dx = none:=by rw [Zv ne] at hdx; exact hdx
   have I4:L2.Inv (X.Wy (XS X Ξ)) pins Z (upd H1 dx (.ext (V4 dx n))) s':=by
    refine Ef (a:=e) (φ:=Xn e C tt (some dx)) ?_ (by rw [Zv (Ne.symm ne)]; exact he1);have eH:upd (upd (upd H1 e (.ext (Xn e C tt none))) dx (.ext (V4 dx n))) e (.ext (Xn e C tt (some dx))) = upd (upd H1 dx (.ext (V4 dx n))) e (.ext (Xn e C tt (some dx))):=by
     funext b
     by_cases z:b = e
     ·subst z; rw [Zz,Zz]
     ·rw [Zv z,Zv z]
      by_cases y:b = dx
      ·subst y; rw [Zz,Zz]
      ·rw [Zv y,Zv y,Zv z]
    rw [<- eH];exact I3
   have xe:Xn e C tt (some dx) s'.heap:=(show Qt X.prog X.w _ s'.heap e (.ext _) from I3.hok e _ Zz).1;refine ⟨rfl,I3.kIn _ _ lk,⟨_,xe,rfl,_,rfl,rfl⟩,?_⟩;exact ⟨e,(.ref C,some dx),none,Z,_,rfl,Inv.Zdl I4.Je,⟨_,_,xe,⟨rfl,rfl⟩,rfl,rfl⟩,(Ke I1.Je (by rw [Zv (Ne.symm ne)]; exact he1) hsz).less,λ T z=>(nomatch z),hΞ dx hdx1⟩
  | next=>exact False.elim hq'
  | brk=>exact False.elim hq'
  | cont=>exact False.elim hq'
end
end DL
namespace DL
open PySem.W PySem.Calls
structure Dd (K:Fk) (C:Addr):Prop where
 ex:U3 K C
 ln:findIn K (.ref C) "line" = some none
 hd:∃ cd,clsIn K C = some cd /\ cd.hasDict = true
section
variable {prog:Program} {s:Shared} {K:Fk} {x:Addr} {ox od:Obj} {v:Value}
theorem Zen (k:Dd K C) (l:lookIn "line" od = some (some v)):findObj K C (some od) "line" = some (.value v):=by
 obtain ⟨cd,hc,hh⟩:=k.hd;unfold findObj PySem.W.ownOf;rw [hc,Option.bind_some,k.ln,Option.bind_some];simp [hh,l]
theorem Ri {tk:Tok} {Q:Fin->Shared->Prop} (k:Dd K C) (X:K.In s.heap) (I:InstAt s.heap x ox C (some od)) (l:lookIn "line" od = some (some v)) (hq:Q (.done (.ret v)) s) :
  wpAny (model prog w) A (Builtin.«object.__getattribute__» ⟨[.ref x,.str "line" tk],[]⟩) Q E s:=by
 obtain ⟨hh,g,d,t,os⟩:=s;have L0:=I.type (M:=model prog w);have L1:=looks_find (M:=model prog w) X I (Zen k l);unfold Builtin.«object.__getattribute__»;refine wpAny_bind (wpAny_pure (wpAny_bind (wpAny_pure (wpAny_bind (L0.at (wpAny_bind (L1.at ?_)))))));exact wpAny_pure hq
theorem Zcs {ex:Bool} (k:Dd K C) (X:K.In s.heap) (I:InstAt s.heap x ox C (some od)) (l:lookIn "line" od = some (some v)) (hv:handedOut v = pure v) (h:Q v { s with toks:=s.toks + 1 }):wpAny (model prog w) A (getAttr (.ref x) "line" ex) Q E s:=by
 obtain ⟨hh,g,d,t,os⟩:=s;have L0:=I.type (M:=model prog w);have LA:=looks_findIn (M:=model prog w) X k.ex.ga;have LB:=looks_findIn (M:=model prog w) X k.ex.gb;have f3:=PySem.F.attrBase_ValueError.ga.bind (.ref x);have no:(onTheHeap (Value.ref C) && Value.builtin "BaseException.__getattribute__" == Value.builtin "object.__getattribute__") = false:=by rw [show (Value.builtin "BaseException.__getattribute__" == Value.builtin "object.__getattribute__") = false by walk_at "k",Bool.and_false]
 unfold getAttr getAttrBy;refine wpAny_bind (wpAny_mkText (wpAny_holding (wpAny_bind (L0.at (wpAny_bind (LA.at ?_))))));dsimp only;rw [no,if_neg Bool.false_ne_true];unfold getAttrByItsOwn hookBefore;rw [if_pos (show onTheHeap (Value.ref C) = true from rfl)];refine wpAny_bind (LB.at (wpAny_bind (wpAny_attempt (wpAny_holding ?_))));unfold callGetattribute;rw [if_neg (by simp [onTheHeap])];unfold boundAndCalled;rw [f3];refine wpAny_bind (wpAny_pure (wpAny_call (codeAny_call_builtin PySem.F.attrBase_ValueError.ga.plain PySem.F.entry_bexc_ga (B0 k.ex X I (Ri k X I l ?_)))));show wpAny _ _ (handedOut v) _ _ _;rw [hv];exact wpAny_pure h
end
theorem ZdD {ta:TE} (he:PE X e ta) (hb:attributeBase e "line" X.env (eval e X.env) = eval e X.env):PE X (.Attribute e "line" pos) (λ Z H Q=>ta Z H λ x H1=>∃ a C d n,x = .ref a /\ Dd X.K C /\ H1 a = some (.ext (QK a (.ref C,some d))) /\ H1 d = some (.ext (V4 d n)) /\ Q (.int n) H1):=by
 intro pins s Z H Q I h;refine ZcZ hb (thn (he pins s Z H _ I h) λ u s1 ⟨x,H1,I1,rx,a,C,d,n,ex,k,ea,el,q⟩=>?_);subst ex;obtain rfl:u = Value.ref a:=rx;obtain ⟨⟨o,vs,h1,⟨h2,h3⟩,h4⟩,_⟩:=(show Qt X.prog X.w H1 s1.heap a (.ext _) from I1.hok a _ ea)
 obtain ⟨⟨od,t,g1,g2⟩,_⟩:=(show Qt X.prog X.w H1 s1.heap d (.ext _) from I1.hok d _ el)
 have ia:InstAt s1.heap a o C (some od):=⟨h1,h2,by unfold notCls; rw [h4],by rw [h3]; exact g1⟩
 exact Zcs k I1.kIn ia g2 rfl ⟨.int n,H1,I1.tok _,⟨t,rfl⟩,q⟩
def Zfr (K:Fk) (te:DTE):DTE:=λ Δ M Φ=>te Δ M λ x M1=>onO x λ a=>∃ C d n,Dd K C /\ M1 a = some (.ext (QK a (.ref C,some d))) /\ M1 d = some (.ext (V4 d n)) /\ Φ (.dat (.int n)) M1
theorem ZcP:type_of% @Zfr.eq_1:=λ _ _ _ _ _=>qI
theorem Nd (he:DE X e te) (hb:autoParam (attributeBase e "line" X.env (eval e X.env) = eval e X.env) zz3._auto_1):DE X (.Attribute e "line" pos) (Zfr X.K te):=by
 obtain ⟨t1,p1,q1⟩:=he;refine ⟨_,ZdD p1 hb,λ Z H Δ M Φ Q r er h k=>?_⟩;refine q1 Z H Δ M _ _ r er h λ v H1 x M1 r1 st rv hx=>?_;obtain ⟨a,rfl,C,d,n,kk,h1,h2,hΦ⟩:=Qw hx;cases (show v = .ref a from rv);exact ⟨a,C,d,n,rfl,kk,r1.ok a _ h1,r1.ok d _ h2,k.dat r1 st (Dt.int n) hΦ⟩
section
variable {Ξ:DXK} {k:Nat} {np:Pos} {e₀:Expr} {t:DTA}
def Po (C:Addr) (Ξ:DXK) (t:DTA):DTS:=λ _ Δ M=>t Δ M λ xs M1=>on1 xs λ x=>onI x λ n=>∀ dx,M1 dx = none->Ξ (.ref C,some dx) (ZR M1 dx (.ext (V4 dx n)))
theorem Pk:type_of% @Po.eq_1:=λ _ _ _ _ _ _=>qI
theorem BZ (c:WT X.K C f) (hm:X.mg x = some (.ref C)) (F:Qu X.prog X.w X.K X.mg X.base CX0 k f fd ["self", "line"] (BO C)) (hb:Binds X.K fd ["self", "line"] []) (hf:∃ o,X.K.lookup f = some o /\ o.cls = .type "function") (hr:JT (k + 1) X.A)
  (hc:X.calm = true) (hg:Gl (wx X (XD X.K Ξ)) x) (ha:DA (wx X (XD X.K Ξ)) [e₀] t) (he:autoParam (starEach [e₀] X.env = [(false,eval e₀ X.env)]) zz3._auto_1) (hd:autoParam ((x == ("__debug__" : Str)) = false) zz1._auto_1) :
  DS (wx X (XD X.K Ξ)) (.Raise (some (.Call (.Name x np) [e₀] [] cpos)) none pos) (Po C Ξ t):=by
 obtain ⟨t1,p1,q1⟩:=ha;refine ⟨_,Nn c hm F hb hf hr hc hg p1 he hd,λ Z H Δ M D E r e h k=>?_⟩;refine q1 Z H Δ M _ _ r e h λ vs H1 xs M1 r1 st rv hx=>?_;obtain ⟨y,rfl,hx⟩:=Zp hx;obtain ⟨n,rfl,hx⟩:=ZX hx;obtain ⟨v,rfl,h1⟩:=Paired.one rv;cases (show v = .int n from QA.int h1);refine ⟨n,rfl,λ dx hdx=>⟨ZR M1 dx (.ext (V4 dx n)),r1.WY (o:=.ext (V4 dx n)) (Step.QW hdx) (show upd H1 dx (.ext (V4 dx n)) dx = _ from Zz),hx dx (r1.tracked hdx)⟩⟩
end
end DL
namespace DL
open PySem.W
def Ze5 (S:SM) (ta:DTA) (ok:XCl->Prop) (iv ic ie:Nat):DTS:=λ D Δ M=>ta Δ M λ xs M1=>∃ p ds,M1 p = some (.lst ds) /\ ∀ G,S xs (ZR M1 p G) (λ y M2=>M2 p = some G /\ D.nx (Δ.set iv (some y)) (ZR M2 p (.lst ds)))
 λ cls M2=>ok cls /\ M2 p = some G /\ ∀ a,M2 a = none->a ≠ p->D.nx ((Δ.set ic (some (.own a))).set ie none) (ZR (ZR M2 p (.lst ds)) a (.ext (QK a cls)))
theorem Zeu:type_of% @Ze5.eq_1:=λ _ _ _ _ _ _ _ _ _=>qI
section
variable {k:Nat} {S:SM} {p:Pos} {t:DTA}
set_option maxHeartbeats 4000000 in
theorem ZbP (iv ic ie:Nat) {ok:XCl->Prop} {L:Addr} {ce n c vn:Str} {epos cp p0 p1 p2 ap hp tpos:Pos} (F:Qu X.prog X.w X.K X.mg X.base (CX1 X.prog X.w) k f fd ps (RD X.K S)) (hr:JT k X.A) (hg:Gl X x) (hm:X.mg x = some (.ref f)) (hk:PySem.W.keepIn X.K (.ref f) = true) (hb:Binds X.K fd ps [])
  (ha:∀ E,DA (X.Wy E) (e :: es) t) (hX:XFr X) (hgc:Gl X ce) (hmc:X.mg ce = some (.ref L)) (cc:∀ cls,ok cls->∃ C,cls.1 = .ref C /\ Gs X.K C L) (hN:X.N.Nodup)
  (hie:autoParam (X.N[ie]? = some n) zz3._auto_1) (hle:autoParam (X.env.kindOf n = some .local) zz3._auto_1) (hle':autoParam (X.env.scope.names.lookup n = some .local) zz3._auto_1) (hic:autoParam (X.N[ic]? = some c) zz3._auto_1) (hlc:autoParam (Loc X.env.scope c) zz8._auto_1) (hfc:autoParam (X.fn c = true \/ X.env.scope.names.lookup c = some .local) zz11._auto_1) (hne:autoParam (ic ≠ ie) zz1._auto_1) (hiv:autoParam (X.N[iv]? = some vn) zz3._auto_1) (hlv:autoParam (Loc X.env.scope vn) zz8._auto_1) (hfv:autoParam (X.fn vn = true \/ X.env.scope.names.lookup vn = some .local) zz11._auto_1)
  (hsw:autoParam (swapsWith (.Name n p2) (some (.Name c p1)) ap.line X.env = pure false) zz3._auto_1) (hsx:autoParam (swapsWith (.Call (.Name x p) (e :: es) [] pos) (some (.Name vn p0)) epos.line X.env = pure false) zz3._auto_1) (hd1:autoParam ((ce == ("__debug__" : Str)) = false) zz1._auto_1) (hd2:autoParam ((n == ("__debug__" : Str)) = false) zz1._auto_1) (hd3:autoParam ((n == ("__classdict__" : Str)) = false) zz1._auto_1)
  (hdb:autoParam ((x == ("__debug__" : Str)) = false) zz1._auto_1) (he:autoParam (starEach (e :: es) X.env = (false,eval e X.env) :: starEach es X.env) zz3._auto_1) (hpl:autoParam ((backTo pos (starEach es X.env)).any (·.1) = false) zz3._auto_1) :
  DS X (.Try [.Assign [.Name vn p0] (.Call (.Name x p) (e :: es) [] pos) epos] [.ExceptHandler (some (.Name ce cp)) (some n) [.Assign [.Name c p1] (.Name n p2) ap] hp] [] [] tpos) (Ze5 S t ok iv ic ie):=by
 refine ⟨λ E Z H=>∀ pins s,L2.Inv X pins Z H s->wpAny (model X.prog X.w) X.A (exec (.Try [.Assign [.Name vn p0] (.Call (.Name x p) (e :: es) [] pos) epos] [.ExceptHandler (some (.Name ce cp)) (some n) [.Assign [.Name c p1] (.Name n p2) ap] hp] [] [] tpos) X.env) (SP X pins E) X.xe s,λ pins s Z H E I h=>h pins s I,λ Z H Δ M D E dr er h kk pins s I=>?_⟩;generalize hXT:(XSg X pins λ cls σ' H'=>σ' = Z /\ ∃ M1 H1 q ds,ZV X.K M1 H1 /\ Step M H M1 H1 /\ M1 q = some (.lst ds) /\ ∃ M',ZV X.K M' H' /\ ok cls /\ M' q = some (.gst (λ b=>M1 b = none) H1) /\ ∀ a,M' a = none->a ≠ q->D.nx ((Δ.set ic (some (.own a))).set ie none) (ZR (ZR M' q (.lst ds)) a (.ext (QK a cls)))) = XT;refine wpAny_Try_except ?_;have body:wpAny (model X.prog X.w) X.A (eval (.Call (.Name x p) (e :: es) [] pos) X.env) (λ u s1=>∃ v H' y M2,L2.Inv X pins Z H' s1 /\ RelV v u /\ ZV X.K M2 H' /\ Step M H M2 H' /\ QA X.K M2 H' v y /\ D.nx (Δ.set iv (some y)) M2) XT s:=by
  obtain ⟨t1,pa,qa⟩:=ha XT;have I':=I.Wy XT;refine wpAny_Call_Name_kw (Xc I hg hm ?_ hdb)
  refine PySem.W.callWith_K (h₀:=X.base) I.ok.mod.kin hk (thn (pa pos pins s Z H (λ vs H1=>∃ xs M1,ZV X.K M1 H1 /\ Step M H M1 H1 /\ Yf X.K M1 H1 vs xs /\ ∃ q ds,M1 q = some (.lst ds) /\ ∀ G,S xs (ZR M1 q G) (λ y M2=>M2 q = some G /\ D.nx (Δ.set iv (some y)) (ZR M2 q (.lst ds)))
    λ cls M2=>ok cls /\ M2 q = some G /\ ∀ a,M2 a = none->a ≠ q->D.nx ((Δ.set ic (some (.own a))).set ie none) (ZR (ZR M2 q (.lst ds)) a (.ext (QK a cls)))) I' (qa Z H Δ M _ _ dr er h λ vs H1 xs M1 r1 st rv hx=>⟨xs,M1,r1,st,rv,hx⟩)) λ us s1 ⟨vs,H1,I1,r,xs,M1,r1,st,rv,q,ds,hq,hS⟩=>⟨I1.kIn,?_⟩) he hpl
  obtain ⟨rG,sG⟩:=Zex r1 hq;have sp:RD X.K S vs H1 (λ v H2=>∃ y M2,ZV X.K M2 H2 /\ Step M H M2 H2 /\ QA X.K M2 H2 v y /\ D.nx (Δ.set iv (some y)) M2) (λ c d H2=>XD X.K (λ cls M2=>ok cls /\ M2 q = some (.gst (λ b=>M1 b = none) H1) /\ ∀ a,M2 a = none->a ≠ q->D.nx ((Δ.set ic (some (.own a))).set ie none) (ZR (ZR M2 q (.lst ds)) a (.ext (QK a cls)))) (c,d) H2):=
   ⟨xs,_,_,_,rG,rv.step sG,hS _,λ v H2 y M2 r2 st2 rv2 hx=>by
    obtain ⟨g1,g2⟩:=OR r1 hq r2 hx.1;have sq:Step M2 H2 (ZR M2 q (.lst ds)) H2:=⟨λ _ _ _ e=>e,λ b _ hb _=>by rw [ZF λ z=>by rw [z,hx.1] at hb; cases hb]; exact hb⟩
    exact ⟨y,_,g1,st.trans g2,rv2.step sq,hx.2⟩,λ _ _ z=>z⟩
  have hl:us.length = ps.length:=by rw [<- r.length]; exact F.len _ _ _ _ sp
  refine wpAny_call (codeAny_mono (F.run X.A X.stack s1 H1 ⟨us,[]⟩ us vs _ _ hr I1.Je.Zit (by simpa using hb s1 us I1.kIn (by simpa using hl)) r sp) λ rr s' hq'=>?_);cases rr with
  | error e'=>
   obtain ⟨a,cls,tb,H',rfl,os,bare,un,hok,hx,⟨g1,g2⟩,g3,M',dr',k1,k2,k3⟩:=hq';have I2:L2.Inv X pins Z H' s':=I1.Je.Zhg (ch:=[]) os un hok bare λ b z=>nomatch z;rw [<- hXT];exact ⟨a,cls,tb,Z,H',rfl,I2,hx,Ke I1.Je g1 g2,λ T z=>Ke I1.Je (g3 T z).1 (g3 T z).2,rfl,M1,H1,q,ds,r1,st,hq,M',dr',k1,k2,k3⟩
  | ok fl=>
   cases fl with
   | ret u=>
    obtain ⟨v,H',I2,rv2,y,M2,r2,st2,ry,hn⟩:=I1.Je.after hq';exact ⟨v,H',y,M2,I2,rv2,r2,st2,ry,hn⟩
   | next=>exact False.elim hq'
   | brk=>exact False.elim hq'
   | cont=>exact False.elim hq'
 have ex:wpAny (model X.prog X.w) X.A (execs [.Assign [.Name vn p0] (.Call (.Name x p) (e :: es) [] pos) epos] X.env) (λ fl s1=>fl = .next /\ SP X pins E .next s1) XT s:=by
  refine wpAny_execs_cons (wpAny_Assign_Name (wpAny_mono body (λ u s1 q=>?_) λ _ _ z=>z) hsx);obtain ⟨v,H',y,M2,I2,rv2,r2,st2,ry,hn⟩:=q;exact Ga I2 hN hiv hlv rv2 (λ s2 I3=>wpAny_execs_nil ⟨rfl,_,H',I3,kk.nx _ _ _ _ r2 st2 ((er.step st2).set ry) hn⟩) hfv
 refine wpAny_mono ex (λ fl s1 q=>?_) λ e' s1 hx=>?_
 ·obtain ⟨rfl,q⟩:=q;exact wpAny_execs_nil q
 ·subst hXT;refine Mi hX hx λ s2 h2 _=>Zaw h2 λ s3 h3 _=>?_;obtain ⟨a,cls,tb,σ',H',rfl,I3,hex,la,lt,rfl,M1,H1,q,ds,r1,st,hq,M',dr',k1,k2,k3⟩:=h3;obtain ⟨C,ec,hcat⟩:=cc cls k1;obtain ⟨c,ed⟩:=cls;obtain rfl:c = .ref C:=ec;refine MC I3 hex la lt hgc hmc hcat hN hie hle hle' hic hlc hfc hne hsw hd1 hd2 hd3 λ s4 I4=>?_;obtain ⟨g1,g2⟩:=OR r1 hq dr' k2;have aq:a ≠ q:=λ z=>by
   obtain ⟨⟨vs',e1,_⟩,_⟩:=(show OOk X.K M' H' q _ from dr'.ok q _ k2)
   rw [z] at la;rw [la.un] at e1;cases e1
  have st3:Step (ZR M' q (.lst ds)) H' (ZR (ZR M' q (.lst ds)) a (.ext (QK a (.ref C,ed)))) (upd H' a (.ext (QK a (.ref C,ed)))):=Step.QW la.un;have stA:=(st.trans g2).trans st3;refine ⟨_,_,I4,kk.nx _ _ _ _ (g1.WY st3 Zz) stA (((er.step stA).set (v:=.ref a) (x:=.own a) rfl).unset ie) (k3 a (dr'.tracked la.un) aq)⟩
end
noncomputable def Zkd (K:Fk) (a:Addr):It:=
 ⟨λ i H=>∃ xs x,SqL K H a xs /\ xs[i]? = some x,λ i H y H'=>∃ T x,(∀ xs,SqL K H a xs->xs[i]? = some x) /\ H T = none /\ y = .ref T /\ H' = upd H T (.tup [.int i,x]),λ i H=>∃ xs,SqL K H a xs /\ xs.length <= i⟩
theorem HM {K:Fk} {elts:List Expr} {x1:Nat} (a it e:Addr) (hei:e ≠ it):Turn P w K (.Tuple elts x1 pos) (Zkd K a) [e,it] e (λ i h=>(∃ old,IsEnum h e it i old) /\ h.IsListIter it a i) where
 mem:=by simp
 obj:=λ i h st b hb=>by
  obtain ⟨⟨old,he⟩,o,ho,c,d⟩:=st
  rcases List.mem_cons.mp hb with rfl | hb
  ·exact ⟨_,he,λ v z=>nomatch z⟩
  ·rw [List.mem_singleton.mp hb];exact ⟨o,ho,λ v z=>by rw [d] at z; cases z⟩
 keep:=λ i h h' st k=>by
  obtain ⟨⟨old,he⟩,o,ho,r⟩:=st;exact ⟨⟨old,k e (by simp) _ he⟩,o,k it (by simp) o ho,r⟩
 item:=by
  intro X hP hw hK hc i pins s Z H E I hf st hg;subst hP hw hK;obtain ⟨xs,x,hq,hx⟩:=hg;obtain ⟨its,rv,p,hz⟩:=I.list hq;obtain ⟨u,hu,ru⟩:=rv.get hx;obtain ⟨⟨old,he⟩,hit⟩:=st;refine wpAny_pyNext_enum_item he hit p.isList (by simpa using hu) hei λ h' ho hst htup hsz hk=>?_;generalize s.toks = tk at *;refine ⟨_,rfl,?_⟩;have hel:e < s.heap.objs.size:=Heap.lt_size he;have hil:it < s.heap.objs.size:=by obtain ⟨o,q,_⟩:=hit; exact Heap.lt_size q
  refine wpAny_letOwnedTupleGo_enum ho λ h2 he2 hs2=>?_;have fe:=hf e (by simp);have fi:=hf it (by simp);have hTn:H s.heap.objs.size = none:=I.hok.fresh (Nat.le_refl _);have g2:h2.get? s.heap.objs.size = some { cls:=.type "tuple",data:=.seq #[.int i tk,u] }:=(hs2.2 _ (Nat.ne_of_gt hel)).trans htup;have IA:L2.Inv X pins Z (upd H s.heap.objs.size (.tup [.int i,x])) { s with heap:=s.heap.push { cls:=.type "tuple",data:=.seq #[.int i tk,u] },toks:=tk + 1 }:=
   I.laid (t':=tk + 1) (o:=.tup [.int i,x]) (λ b ob q=>Heap.get?_push_of_some _ q) (Nat.le_refl _) ⟨by rw [sizeLine_eq]; exact (by decide:2 <= 16777216),[.int i tk,u],.cons ⟨tk,rfl⟩ (.cons ru .nil),IsTup.new _ _⟩
  have fN:∀ b ∈ [e,it],HF X pins (upd H s.heap.objs.size (.tup [.int i,x])) b:=λ b hb=>by
   have f:=hf b hb;refine ⟨?_,f.2⟩;rw [Zv]
   ·exact f.1
   ·rcases List.mem_cons.mp hb with rfl | hb
    ·exact Nat.ne_of_lt hel
    ·rw [List.mem_singleton.mp hb];exact Nat.ne_of_lt hil
  have I2:L2.Inv X pins Z (upd H s.heap.objs.size (.tup [.int i,x])) { s with heap:=h2,toks:=tk + 1 }:=FK (s:={ s with heap:=s.heap.push { cls:=.type "tuple",data:=.seq #[.int i tk,u] },toks:=tk + 1 }) (t':=tk + 1) (ch:=[e,it]) IA (λ b o hb q=>by
   have n1:b ≠ e:=λ z=>hb (by simp [z]);have n2:b ≠ it:=λ z=>hb (by simp [z]);have q':(s.heap.push { cls:=.type "tuple",data:=.seq #[.int i tk,u] }).get? b = some o:=q
   by_cases hT:b = s.heap.objs.size
   ·rw [hT,Heap.get?_push_size _ rfl] at q';rw [hT,g2];exact q'
   ·have q2:s.heap.get? b = some o:=by
     rw [<- q'];exact (Heap.get?_push_ne _ _ _ hT).symm
    exact (hs2.2 b n1).trans (hk b o n1 n2 q2)) fN
  refine ⟨.ref s.heap.objs.size,_,I2,rfl,⟨_,x,λ ys hy=>by rw [I.E7 hy hq]; exact hx,hTn,rfl,rfl⟩,⟨⟨_,by rw [Int.natCast_add]; exact he2⟩,?_⟩,λ b hb=>(fN b hb).1⟩;obtain ⟨o,q,r⟩:=hst;exact ⟨o,(hs2.2 it (Ne.symm hei)).trans q,r⟩
 done:=by
  intro X hP hw hK hc i pins s Z H E I hf st hg;subst hP hw hK;obtain ⟨xs,hq,hx⟩:=hg;obtain ⟨its,rv,p,hz⟩:=I.list hq;obtain ⟨⟨old,he⟩,hit⟩:=st;have hl:=rv.length;exact wpAny_pyNext_enum_end (I.ok.hd hc) he hit p.isList (by simp; lia) λ h' he'=>⟨rfl,FK (t':=s.toks) (ch:=[e,it]) I (λ b o hb q=>he' b o (λ z=>hb (by simp [z])) q) λ b hb=>hf b hb⟩
 self:=λ _ _ _ _ _ st h=>by
  obtain ⟨⟨old,he⟩,_⟩:=st;exact wpAny_pyIter_enum he h
def ZhD (K:Fk) (ta:TA):TI:=λ Z H R=>ta Z H λ vs H1=>∃ a,vs = [.ref a] /\ (∃ xs,SqL K H1 a xs) /\ R (Zkd K a) H1
theorem T7 {a:Expr} {elts:List Expr} {x1:Nat} {tp:Pos} {ta:TA} {p:Pos} (hg:Gl X "enumerate") (hm:X.mg "enumerate" = none) (ha:PA X [a] ta) (hs:autoParam (starEach [a] X.env = [(false,eval a X.env)]) zz3._auto_1):PI X (.Tuple elts x1 tp) (.Call (.Name "enumerate" p) [a] [] pos) (ZhD X.K ta):=by
 intro pins s Z H R I h;refine Call_ (WR I hg hm boot_enumerate (PyProof.Rows.callWith_type1 (thn (ha pos pins s Z H _ I h) λ us s1 ⟨vs,H1,I1,r1,q1⟩=>?_) hs rfl));obtain ⟨l,e,⟨xs,hq⟩,q⟩:=q1;subst e;cases r1 with
 | cons r rr=>
  cases rr;cases r;obtain ⟨its,rv,pt,hz⟩:=I1.list hq;refine call_enumerate_list pt.isList λ h' he hit hsz hk=>?_;have I2:L2.Inv X pins Z H1 { s1 with heap:=h' }:=I1.kept (t':=s1.toks) hk;refine wpAny_pyIter_enum he ?_;refine ⟨s1.heap.objs.size + 1,[s1.heap.objs.size + 1,s1.heap.objs.size],_,_,H1,rfl,I2,HM l s1.heap.objs.size (s1.heap.objs.size + 1) (Nat.succ_ne_self _),⟨⟨_,he⟩,hit⟩,λ b hb=>?_,q⟩
  rcases List.mem_cons.mp hb with rfl | hb
  ·exact I1.ZaQ (Nat.le_succ _) (I1.hok.fresh (Nat.le_succ _))
  ·rw [List.mem_singleton.mp hb];exact I1.ZaQ (Nat.le_refl _) (I1.hok.fresh (Nat.le_refl _))
def Zhc (ta:DTA):X1:=λ Δ M Ψ=>ta Δ M λ xs M1=>on1 xs λ x=>onL x λ ds=>Ψ (WA ds) M1
theorem Tr {a:Expr} {elts:List Expr} {x1:Nat} {tp:Pos} {ta:DTA} {p p2:Pos} (hg0:Gl X "enumerate") (hm:X.mg "enumerate" = none) (ha:DA X [a] ta) (hs:autoParam (starEach [a] X.env = [(false,eval a X.env)]) zz3._auto_1) :
  DI X (.Tuple elts x1 tp) (.Call (.Name "enumerate" p) [a] [] p2) (Zhc ta):=by
 obtain ⟨t1,p1,q1⟩:=ha;refine ⟨_,T7 hg0 hm p1 hs,λ Z H Δ M Ψ R dr er h k=>?_⟩;refine q1 Z H Δ M _ _ dr er h λ vs H1 xs M1 r1 st rv hx=>?_;replace hx:=Zp hx;obtain ⟨x,rfl,hx⟩:=hx;replace hx:=Ou hx;obtain ⟨ds,rfl,hΨ⟩:=hx;obtain ⟨v,rfl,hv⟩:=Paired.one rv;obtain ⟨a,ys,rfl,h1,h2⟩:=hv.lst;have el:(WA ds).length = ds.length:=by unfold WA; rw [List.length_mapIdx]
 refine ⟨a,rfl,⟨ys,h1.sq⟩,k _ H1 M1 _ r1 st (λ M2 H2 st2 i=>⟨λ hi=>?_,λ hi=>?_⟩) hΨ⟩
 ·rw [el] at hi;have hx:i < ys.length:=by rw [h2.length]; exact hi
  refine ⟨⟨ys,ys[i],(h1.step st2).sq,by simp [hx]⟩,λ y H' z=>?_⟩;obtain ⟨T,u,hu,hT,rfl,rfl⟩:=z;intro r;obtain ⟨d,hd,hy⟩:=(h2.step st2).ZeT (hu ys (h1.step st2).sq);exact ⟨r.new hT,Step.new hT,_,Nl hd,Dt.Ko r hT (.cons (.int i) (.cons hy .nil))⟩
 ·rw [el] at hi;exact ⟨ys,(h1.step st2).sq,by rw [h2.length]; exact hi⟩
theorem Zes:type_of% @Zhc.eq_1:=λ _ _ _ _=>qI
end DL
namespace DL
open PySem.W Builtin Builtin.Str
section
variable {o:Expr} {apos:Pos}
def Oe (to te:DTE):DTE:=λ Δ M Φ=>to Δ M λ x M1=>onS x λ z=>te Δ M1 λ y M2=>onS y λ w=>((w.length == 0) = false /\ z.length <= 10000000) /\ ∀ l,M2 l = none->Φ (.own l) (ZR M2 l (.lst ((Txt.split z w).map PyData.str)))
theorem NT:type_of% @Oe.eq_1:=λ _ _ _ _ _=>qI
theorem Cc (ho:DE X o to) (he:DE X e te) (hbase:autoParam (attributeBase o "split" X.env (eval o X.env) = eval o X.env) zz3._auto_1)
  (hfew:((backTo cpos (starEach [e] X.env)).all (λ x=>!x.1) && (backToKw cpos (keywordEach [] X.env)).all (λ x=>x.1.isSome)
   && decide ([e].length + ([]:List Keyword).length + (if ([]:List Keyword).isEmpty then 0 else 1) < 30)) = true:=by rfl)
  (hline:autoParam ((apos.endLine == cpos.line) = true) zz3._auto_1) (hs:autoParam (starEach [e] X.env = (false,eval e X.env) :: starEach [] X.env) zz3._auto_1) (hplain:autoParam ((backTo cpos (starEach [] X.env)).any (·.1) = false) zz3._auto_1) :
  DE X (.Call (.Attribute o "split" apos) [e] [] cpos) (Oe to te):=by
 obtain ⟨t1,p1,q1⟩:=ho;obtain ⟨t2,p2,q2⟩:=he;refine ⟨_,Dz PySem.F.plainAttrs_str PySem.F.slot_str_split PySem.F.type_str_split FJ p1 (JC p2 Yh hs) hbase hfew hline hs hplain,λ Z H Δ M Φ Q r e h k=>?_⟩;refine q1 Z H Δ M _ _ r e h λ v H1 x M1 r1 st rv hx=>?_;replace hx:=ZI hx;obtain ⟨z,rfl,hx⟩:=hx;cases rv.str;refine ⟨rfl,q2 Z H1 Δ M1 _ _ r1 (e.step st) hx λ w H2 y M2 r2 st2 rw2 hy=>?_⟩;replace hy:=ZI hy;obtain ⟨w',rfl,⟨h1,h2⟩,hy⟩:=hy;cases rw2.str;exact ⟨z,w',rfl,rfl,h1,h2,λ l hl=>k _ _ (.own l) _ (r2.Wg (Step.QW hl) (Vi _)) ((st.trans st2).trans (Step.QW hl)) rfl (hy l (r2.tracked hl))⟩
noncomputable def Yr (z y:Str):List Str:=match occurrences z y 0 z.length 1 with
 | i :: _=>[strSub z 0 i,y,strSub z (i + y.length) z.length]
 | []=>[z,Str.empty,Str.empty]
theorem Zc9:MtR X "str.partition" (λ x xs H Q=>∃ z y,x = .str z /\ xs = [.str y] /\ (y.length == 0) = false /\ z.length <= 10000000 /\ ∀ l,H l = none->Q (.ref l) (upd H l (.tup ((Yr z y).map V.str)))):=by
 intro pins s Z H x xs v us Q I rx rs h;obtain ⟨z,y,rfl,rfl,hy,hz,q⟩:=h;obtain ⟨t,rfl⟩:=rx;obtain ⟨u,rfl,ru⟩:=vals1 rs;obtain ⟨u',rfl⟩:=ru;refine call_meets F.slot_str_partition (typeIs_str _ _ _) F.entry_str_partition (F.args_str_partition_2 _ _) (meets_str_partition z y t u' hy (by rw [sizeLine_eq]; lia)) ?_;have fin:∀ (its:List Value) (k:Nat),Vals ((Yr z y).map V.str) its->its.length = 3->∃ x H',L2.Inv X pins Z H' { s with toks:=k,heap:=s.heap.push { cls:=.type "tuple",data:=.seq its.toArray } } /\ RelV x (.ref s.heap.objs.size) /\ Q x H':=λ its k r hl=>
  ⟨.ref s.heap.objs.size,_,I.laid (t':=k) (a:=s.heap.objs.size) (o:=.tup ((Yr z y).map V.str)) (λ _ _ e=>Heap.get?_push_of_some _ e) (Nat.le_refl _) ⟨by rw [r.length,hl,sizeLine_eq]; decide,its,r,IsTup.new _ _⟩,rfl,q _ (I.hok.fresh (Nat.le_refl _))⟩
 unfold Yr at fin;cases c:occurrences z y 0 z.length 1 with
 | nil=>
  rw [c] at fin;exact fin _ _ (.cons ⟨_,rfl⟩ (.cons ⟨_,rfl⟩ (.cons ⟨_,rfl⟩ .nil))) rfl
 | cons i r=>
  rw [c] at fin;exact fin _ _ (.cons ⟨_,rfl⟩ (.cons ⟨_,rfl⟩ (.cons ⟨_,rfl⟩ .nil))) rfl
def Zaj (to te:DTE):DTE:=λ Δ M Φ=>to Δ M λ x M1=>onS x λ z=>te Δ M1 λ y M2=>onS y λ w=>((w.length == 0) = false /\ z.length <= 10000000) /\ Φ (.dat (.tuple ((Yr z w).map PyData.str))) M2
theorem RQ:type_of% @Zaj.eq_1:=λ _ _ _ _ _=>qI
theorem ZbM (ho:DE X o to) (he:DE X e te) (hbase:autoParam (attributeBase o "partition" X.env (eval o X.env) = eval o X.env) zz3._auto_1)
  (hfew:((backTo cpos (starEach [e] X.env)).all (λ x=>!x.1) && (backToKw cpos (keywordEach [] X.env)).all (λ x=>x.1.isSome)
   && decide ([e].length + ([]:List Keyword).length + (if ([]:List Keyword).isEmpty then 0 else 1) < 30)) = true:=by rfl)
  (hline:autoParam ((apos.endLine == cpos.line) = true) zz3._auto_1) (hs:autoParam (starEach [e] X.env = (false,eval e X.env) :: starEach [] X.env) zz3._auto_1) (hplain:autoParam ((backTo cpos (starEach [] X.env)).any (·.1) = false) zz3._auto_1) :
  DE X (.Call (.Attribute o "partition" apos) [e] [] cpos) (Zaj to te):=by
 obtain ⟨t1,p1,q1⟩:=ho;obtain ⟨t2,p2,q2⟩:=he;refine ⟨_,Dz PySem.F.plainAttrs_str PySem.F.slot_str_partition PySem.F.type_str_partition Zc9 p1 (JC p2 Yh hs) hbase hfew hline hs hplain,λ Z H Δ M Φ Q r e h k=>?_⟩;refine q1 Z H Δ M _ _ r e h λ v H1 x M1 r1 st rv hx=>?_;replace hx:=ZI hx;obtain ⟨z,rfl,hx⟩:=hx;cases rv.str;refine ⟨rfl,q2 Z H1 Δ M1 _ _ r1 (e.step st) hx λ w H2 y M2 r2 st2 rw2 hy=>?_⟩;replace hy:=ZI hy;obtain ⟨w',rfl,⟨h1,h2⟩,hy⟩:=hy;cases rw2.str;exact ⟨z,w',rfl,rfl,h1,h2,λ l hl=>k.dat (r2.new hl) ((st.trans st2).trans (Step.new hl)) (Dt.Ko r2 hl (Vi _)) hy⟩
def F2:D2:=λ x y M Φ=>onS x λ w=>onS y λ z=>Φ (.dat (.bool (!Txt.contains z w))) M
theorem Ll:type_of% @F2.eq_1:=λ _ _ _ _=>qI
theorem B7:OpD X (compareOp .NotIn) F2:=
 ⟨λ x y H Q=>∃ w z,x = .str w /\ y = .str z /\ Q (.bl (!Txt.contains z w)) H,λ pins s Z H x y v u Q I rx ry ⟨w,z,e1,e2,q⟩=>by
  subst e1 e2;obtain ⟨t1,rfl⟩:=rx;obtain ⟨t2,rfl⟩:=ry;exact PySem.P.notIn_str ⟨.bl _,H,I,rfl,q⟩,λ v u H x y M Φ Q r rv ru h k=>by
  replace h:=ZI h;obtain ⟨w,rfl,h⟩:=h;replace h:=ZI h;obtain ⟨z,rfl,h⟩:=h
  exact ⟨w,z,rv.str,ru.str,k.dat r Step.refl (Dt.bl _) h⟩⟩
theorem ZbN (hu:X.A.units + 10 < cLine):MtR X "list.index" (λ x xs H Q=>∃ (l:Addr) (ys:List V) (j:Nat),x = .ref l /\ xs = [.non] /\ H l = some (.lst ys) /\ ys[j]? = some .non /\ (∀ i,i < j->ys[i]? ≠ some .non) /\ (∀ y ∈ ys,y = .non \/ ∃ a zs,y = .ref a /\ SqT X.K H a zs) /\ Q (.int j) H):=by
 intro pins s Z H x xs v us Q I rx rs h;obtain ⟨l,ys,j,rfl,rfl,hq,hj,hno,hall,q⟩:=h;cases rx;obtain ⟨u,rfl,ru⟩:=vals1 rs;cases (show u = .none from ru);obtain ⟨z,its,n,rv,hl,ho⟩:=I.Zjc hq
 let e:Value->Bool:=λ v=>match v with | .none=>true | _=>false
 have at_:∀ i (h1:i < its.length),(e its[i] = true ↔ ys[i]? = some .non) /\ PySem.SeqAt.EqAt X.A.in1 s its[i] .none (e its[i]):=λ i h1=>by
  have h2:i < ys.length:=by rw [hl]; exact h1
  have hy:ys[i]? = some ys[i]:=List.getElem?_eq_getElem h2;obtain ⟨u,hu',ru⟩:=rv.get hy;rw [List.getElem?_eq_getElem h1] at hu';have eu:its[i] = u:=Option.some.inj hu';rw [eu,hy]
  rcases hall ys[i] (List.getElem_mem h2) with z | ⟨a,zs,z,hz⟩
  ·rw [z] at ru ⊢;cases (show u = .none from ru);exact ⟨⟨λ _=>rfl,λ _=>rfl⟩,PySem.SeqAt.EqAt.same _⟩
  ·rw [z] at ru ⊢;cases (show u = .ref a from ru);refine ⟨⟨λ y=>(nomatch y),λ y=>(nomatch y)⟩,?_⟩;obtain ⟨w,_,⟨o,g1,g2,m,g3⟩,_⟩:=I.tuple hz;exact PySem.SeqAt.EqAt.tuple_none ⟨o,g1,g2,m,g3⟩ (by show X.A.units + 1 < cLine; lia)
 have lj:j < its.length:=by rw [<- hl]; exact (List.getElem?_eq_some_iff.mp hj).1
 refine call_meets PySem.F.slot_list_index ⟨_,ho,rfl⟩ PySem.F.entry_list_index (PySem.F.args_list_index_2 _ _)
  (PySem.SeqAt.list_indexAt l its.toArray n none #[] .none e j (by simpa using lj) (by have:=z; rw [sizeLine_eq] at this; lia) ?_ ?_) ⟨ho,λ y hy=>?_,?_⟩
 ·show e its[j] = true;exact (at_ j lj).1.mpr hj
 ·intro i h1 h2;have h1:i < its.length:=by simpa using h1
  show e its[i] = false;exact Bool.eq_false_iff.mpr λ y=>hno i h2 ((at_ i h1).1.mp y)
 ·obtain ⟨i,hi,rfl⟩:=List.mem_iff_getElem.mp (by simpa using hy:y ∈ its);exact (at_ i hi).2
 ·exact ⟨.int _,H,I.tok _,⟨_,rfl⟩,q⟩
def Zfu (to te:DTE):DTE:=λ Δ M Φ=>to Δ M λ x M1=>onO x λ l=>Va (M1 l) λ _=>te Δ M1 λ y M2=>onN y (Va (M2 l) λ ds=>∃ j:Nat,ds[j]? = some .none /\ (∀ i,i < j->ds[i]? ≠ some .none) /\ (∀ d ∈ ds,d = .none \/ ∃ t,d = .tuple t) /\ Φ (.dat (.int j)) M2)
theorem ZcJ:type_of% @Zfu.eq_1:=λ _ _ _ _ _=>qI
theorem Za8 {K:Fk}:∀ {vs:List V} {ds:List PyData},Dts K M H vs ds->(∀ (i:Nat),vs[i]? = some .non ↔ ds[i]? = some .none) /\ ((∀ d ∈ ds,d = .none \/ ∃ t,d = .tuple t)->∀ y ∈ vs,y = .non \/ ∃ a zs,y = .ref a /\ SqT K H a zs)
 | _,_,.nil=>⟨λ i=>by simp,λ _ y hy=>nomatch hy⟩
 | _,_,.cons (d:=d) h t=>by
  obtain ⟨a1,a2⟩:=Za8 t;constructor
  ·intro i;cases i with
   | zero=>
    rw [List.getElem?_cons_zero,List.getElem?_cons_zero];constructor
    ·intro z;cases z;cases h;rfl
    ·intro z;cases z;cases h;rfl
   | succ i=>simpa using a1 i
  ·intro hd y hy
   rcases List.mem_cons.mp hy with rfl | hy
   ·rcases hd d List.mem_cons_self with z | ⟨t',z⟩
    ·rw [z] at h;cases h;exact .inl rfl
    ·rw [z] at h;obtain ⟨a,zs,e1,e2,_⟩:=QA.tup (show QA K M H _ (.dat (.tuple t')) from h);exact .inr ⟨a,zs,e1,e2.sq⟩
   ·exact a2 (λ d hd'=>hd d (List.mem_cons_of_mem _ hd')) y hy
theorem Nx {k:Nat} (hr:JT k X.A) (ho:DE X o to) (he:DE X e te) (hbase:autoParam (attributeBase o "index" X.env (eval o X.env) = eval o X.env) zz3._auto_1)
  (hfew:((backTo cpos (starEach [e] X.env)).all (λ x=>!x.1) && (backToKw cpos (keywordEach [] X.env)).all (λ x=>x.1.isSome)
   && decide ([e].length + ([]:List Keyword).length + (if ([]:List Keyword).isEmpty then 0 else 1) < 30)) = true:=by rfl)
  (hline:autoParam ((apos.endLine == cpos.line) = true) zz3._auto_1) (hs:autoParam (starEach [e] X.env = (false,eval e X.env) :: starEach [] X.env) zz3._auto_1) (hplain:autoParam ((backTo cpos (starEach [] X.env)).any (·.1) = false) zz3._auto_1) :
  DE X (.Call (.Attribute o "index" apos) [e] [] cpos) (Zfu to te):=by
 obtain ⟨t1,p1,q1⟩:=ho;obtain ⟨t2,p2,q2⟩:=he;refine ⟨_,Dz PySem.F.plainAttrs_list PySem.F.slot_list_index PySem.F.type_list_index (ZbN (by have:=hr.un; lia)) p1 (JC p2 Yh hs) hbase hfew hline hs hplain,λ Z H Δ M Φ Q r e h k=>?_⟩;refine q1 Z H Δ M _ _ r e h λ v H1 x M1 r1 st rv hx=>?_;obtain ⟨l,rfl,hx⟩:=Qw hx;obtain ⟨ds0,hm0,hx⟩:=JE hx;cases (show v = .ref l from rv);obtain ⟨vs0,g0,_⟩:=r1.ls l _ hm0;refine ⟨.inl ⟨rfl,_,SqL.of g0⟩,q2 Z H1 Δ M1 _ _ r1 (e.step st) hx λ w H2 y M2 r2 st2 rw2 hy=>?_⟩;obtain ⟨rfl,hy⟩:=Ms hy;obtain ⟨ds,hm,j,hj,hno,hall,hΦ⟩:=JE hy;obtain ⟨vs,g1,g2⟩:=r2.ls l _ hm;obtain ⟨a1,a2⟩:=Za8 g2;cases (show Dt X.K M2 H2 w .none from rw2);exact ⟨l,vs,j,rfl,rfl,g1,(a1 j).mpr hj,λ i hi z=>hno i hi ((a1 i).mp z),a2 hall,k.dat r2 (st.trans st2) (Dt.int _) hΦ⟩
theorem Sa (hu:X.A.units < cLine):OpR X (compareOp .Eq) (λ x y H Q=>∃ a b xs,x = .ref a /\ y = .ref b /\ SqL X.K H a xs /\ SqL X.K H b [] /\ Q (.bl xs.isEmpty) H):=by
 intro pins s Z H x y v u Q I rx ry h;obtain ⟨a,b,xs,rfl,rfl,h1,h2,q⟩:=h;cases rx;cases ry;obtain ⟨its,r,p,_⟩:=I.list h1;obtain ⟨jts,r2,p2,_⟩:=I.list h2;cases r2;have hl:=r.length;cases xs with
 | nil=>
  have e:its.toArray.size = ([]:List Value).toArray.size:=by rw [List.size_toArray,List.size_toArray]; exact hl.symm
  refine PySem.SeqAt.RcAt.lists (e:=λ _=>true) p.isList p2.isList e hu (λ j h1 h2=>absurd h2 (Nat.not_lt_zero _)) _ _ _ _ ⟨.bl _,H,I,?_,q⟩;show Value.bool ((List.range its.toArray.size).all λ _=>true) = _;rw [e];rfl
 | cons x xs=>
  refine PySem.SeqAt.RcAt.lists_lengths p.isList p2.isList ?_ hu _ _ _ _ ⟨.bl _,H,I,rfl,q⟩;rw [List.size_toArray,<- hl];rfl
def LY:D2:=λ x y M Φ=>onK x M λ ds=>onK y M λ es=>es = [] /\ Φ (.dat (.bool ds.isEmpty)) M
theorem Pb:type_of% @LY.eq_1:=λ _ _ _ _=>qI
theorem PU {k:Nat} (hr:JT k X.A):OpD X (compareOp .Eq) LY:=by
 refine ⟨_,Sa (by have:=hr.un; lia),λ v u H x y M Φ Q r rv ru h k=>?_⟩;replace h:=YT h;obtain ⟨ds,hx,h⟩:=h;replace h:=YT h;obtain ⟨es,hy,rfl,q⟩:=h;replace hx:LU x M ds:=hx;replace hy:LU y M []:=hy;obtain ⟨a,xs,rfl,h1,h2⟩:=hx.sq r rv;obtain ⟨b,ys,rfl,h3,h4⟩:=hy.sq r ru;cases h4;refine ⟨a,b,xs,rfl,rfl,h1,h3,?_⟩;have e:xs.isEmpty = ds.isEmpty:=by cases h2 <;> rfl
 rw [e];exact k.dat r Step.refl (Dt.bl _) q
theorem Nc (hu:X.A.in1.units < cLine):OpR X (compareOp .NotIn) (λ x y H Q=>∃ (M:Mp) (d:PyData) (b:Addr) (ts:List Str),Dt X.K M H x d /\ y = .ref b /\ SqT X.K H b (ts.map V.str) /\ Q (.bl (!ts.any (isS d))) H):=by
 intro pins s Z H x y v u Q I rx ry h;obtain ⟨M,d,b,ts,h1,rfl,h2,q⟩:=h;cases ry;obtain ⟨its,r,p,_⟩:=I.tuple h2;have key:∀ (ts:List Str) (its:List Value),Vals (ts.map V.str) its->(∀ y ∈ its,PySem.SeqAt.EqAt X.A.in1 s y v (match y with | .str t _=>isS d t | _=>false)) /\ (its.any λ y=>match y with | .str t _=>isS d t | _=>false) = ts.any (isS d):=by
  intro ts
  induction ts with
  | nil=>intro its r; cases r; exact ⟨λ y hy=>(nomatch hy),rfl⟩
  | cons t ts ih=>
   intro its r;rw [List.map_cons] at r;cases r with
   | cons r1 r2=>
    obtain ⟨w,rfl⟩:=r1;obtain ⟨i1,i2⟩:=ih _ r2;refine ⟨λ y hy=>?_,by rw [List.any_cons,List.any_cons,i2]⟩
    rcases List.mem_cons.mp hy with rfl | hy
    ·exact (ZbR t I rx h1).eq w hu
    ·exact i1 y hy
 obtain ⟨k1,k2⟩:=key ts its r;refine PySem.SeqAt.notIn_tupleAt (λ y=>match y with | .str t _=>isS d t | _=>false) (show s.heap.IsTuple b its.toArray from p) (λ y hy=>k1 y (by simpa using hy)) ⟨.bl _,H,I,?_,q⟩;rw [<- k2];simp only [List.any_toArray];rfl
def Fy:D2:=λ x y M Φ=>onD x λ d=>onT y λ ds=>∃ ts:List Str,ds = ts.map PyData.str /\ Φ (.dat (.bool (!ts.any (isS d)))) M
theorem OW {k:Nat} (hr:JT k X.A):OpD X (compareOp .NotIn) Fy:=
 ⟨_,Nc (by have:=hr.un; show X.A.units + 1 < _; lia),λ v u H x y M Φ Q r rv ru h k=>by
  obtain ⟨d,e1,h⟩:=ZY h;obtain ⟨ds,e2,ts,rfl,q⟩:=Ku h;subst e1 e2;obtain ⟨b,xs,rfl,g1,g2⟩:=ru.tup;rw [Yd g2] at g1
  exact ⟨M,d,b,ts,rv,rfl,g1.sq,k.dat r Step.refl (Dt.bl _) q⟩⟩
theorem HV:type_of% @Fy.eq_1:=λ _ _ _ _=>qI
end
end DL
namespace DL
open PySem.W PySem.Calls
section
variable {prog:Program} {w:World} {A:Around} {E:Value->Shared->Prop} {s:Shared} {env:Env} {nm q:Str} {C N:Addr} {bs bm bmB:List Value} {hdct:Bool} {sn:List Str} {sub:List Value} {ab:Bool} {col:Option Bool} {dd:Option Addr}
 {k0 k1 k2 k3 k5:Option Value} {B newId initId:String}
theorem HE (F:ExcBaseFacts B newId initId bmB) {mN:Str->Option Value} {x:Str} {np:Pos} {args:List Expr} {fI:Addr} {oI:Obj} {Q:Value->Shared->Prop} (hplain:(backTo cpos (starEach args env)).any (·.1) = false)
  (hi:mN "__init__" = some (.ref fI)) (hfc:oI.cls = .type "function") (h:wpAny (model prog w) A (eval (.Name x np) env) (λ f s₁=>f = .ref C /\ wpAny (model prog w) A (evalArgs (.ref C) true (backTo cpos (starEach args env)) []) (λ a s₂=>a.kw = [] /\ a.pos.length <= sizeLine /\ s₂.heap.get? C = some (excClassObj nm q C N bs bm hdct sn sub ab col dd k0 k1 k2 k3 k5 newId) /\
   s₂.heap.Ns N mN /\ OwnTail s₂.heap bmB bm /\ s₂.heap.get? fI = some oI /\ ∀ h' e,Heap.MadeExcOf s₂.heap h' e (.ref C) a.pos->s₂.heap.objs.size <= e->wpAny (model prog w) (A.under (.builtin "type.__call__" ⟨.ref C :: a.pos,[]⟩)) (call (.ref fI) (.ref e :: a.pos)) (λ r s'=>r = .none /\ Q (.ref e) s') E { s₂ with heap:=h' }) E s₁) E s) :
  wpAny (model prog w) A (eval (.Call (.Name x np) args [] cpos) env) Q E s:=by
 refine wpAny_Call_ofName (wpAny_mono h (λ f s₁ h₁=>?_) λ _ _ x=>x);obtain ⟨rfl,h₁⟩:=h₁;unfold callWith;refine wpAny_bind (wpAny_holding (wpAny_mono h₁ (λ a s₂ h₂=>wpAny_bind (wpAny_standAt ?_)) λ _ _ x=>x)); obtain ⟨apos,akw⟩:=a; obtain ⟨hkw,hlen,hC,hn,T,hfI,h₂⟩:=h₂; obtain rfl:akw = []:=hkw;obtain ⟨hp,g,d,tk,os⟩:=s₂; simp only [hplain]; refine wpAny_bind (wpAny_keeperOf_exc hC ?_);exact wpAny_bind (WW F T hC hn hi hfI hfc (λ h' e hm hz=>wpAny_mono (h₂ h' e hm hz) (λ r s' hr=>⟨hr.1,wpAny_bind (wpAny_holding (wpAny_point (wpAny_pure hr.2)))⟩) λ _ _ x=>x) hlen)
end
section
variable {Z:L2.St} {s:Shared} {φ ψ:Heap->Prop}
theorem NG (I:L2.Inv X pins Z (upd H a (.ext φ)) s) (hψ:ψ s.heap) (hg:∃ o,s.heap.get? a = some o) (hs:∀ h1 h2:Heap,ψ h1->(∀ o,h1.get? a = some o->h2.get? a = some o)->ψ h2):L2.Inv X pins Z (upd H a (.ext ψ)) s:=by
 have e:({ s with heap:=s.heap,gens:=s.gens,drawn:=s.drawn,toks:=s.toks }:Shared) = s:=rfl;rw [<- e];have back:∀ b u,upd H a (.ext φ) b = some u->(∀ φ,u ≠ .ext φ)->upd H a (.ext ψ) b = some u:=λ b u q n=>by
  by_cases z:b = a
  ·subst z; rw [Zz] at q; cases q; exact absurd rfl (n _)
  ·rw [Zv z] at q ⊢; exact q
 refine I.call (ch:=[]) (g':=s.gens) (d':=s.drawn) (t':=s.toks) ⟨λ _ _ q _ _ _=>q,λ _ o q _ _ _=>⟨o.slots,q⟩,λ b o q n _=>?_,λ _ o q _=>⟨o,q⟩,λ b xs q=>back b _ q (λ _ z=>nomatch z),λ b o u q=>back b _ q (λ _ z=>nomatch z),λ b ps q=>⟨#[],?_⟩⟩ (λ b u q=>?_) I.bare λ b z=>nomatch z
 ·by_cases z:b = a
  ·rw [z,Zz] at n; cases n
  ·rw [Zv z] at n ⊢; exact n
 ·rw [back b _ q (λ _ z=>nomatch z)]; simp
 ·by_cases z:b = a
  ·subst z;rw [Zz] at q;cases q;exact ⟨hψ,hg,hs⟩
  ·rw [Zv z] at q;exact (I.hok b u (by rw [Zv z]; exact q)).HQ (λ c v _ y=>y) (λ c y=>back c _ y (λ _ z=>nomatch z)) λ c xs y=>back c _ y (λ _ z=>nomatch z)
end
section
variable {k:Nat} {np:Pos} {e₀:Expr}
theorem Zb8 {t:TA} (c:WT X.K C f) (hm:X.mg x = some (.ref C)) (F:Qu X.prog X.w X.K X.mg X.base CX0 k f fd ["self", "line"] (BO C)) (hb:Binds X.K fd ["self", "line"] []) (hf:∃ o,X.K.lookup f = some o /\ o.cls = .type "function") (hr:JT (k + 1) X.A)
  (hg:Gl X x) (ha:PA X [e₀] t) (he:autoParam (starEach [e₀] X.env = [(false,eval e₀ X.env)]) zz3._auto_1) (hd:autoParam ((x == ("__debug__" : Str)) = false) zz1._auto_1) :
  PE X (.Call (.Name x np) [e₀] [] cpos) (λ Z H Q=>t Z H λ vs H1=>∃ n,vs = [.int n] /\ ∀ dx e,H1 dx = none->H1 e = none->dx ≠ e->Q (.ref e) (upd (upd H1 dx (.ext (V4 dx n))) e (.ext (QK e (.ref C,some dx))))):=by
 intro pins s Z H Q I h;obtain ⟨nm,q,N,bs,bm,sn,sub,ab,col,dd,k0,k1,k2,k3,k5,lk,tl,ok,ini⟩:=c.ex;obtain ⟨of,lf,cf⟩:=hf;have T0:=tail_of_in (h:=s.heap) I.kIn tl;have hN0:s.heap.Ns N (s.heap.nsMap N):=.of_isNs (isNs_of_in I.kIn ok);have hi:s.heap.nsMap N "__init__" = some (.ref f):=OX I.kIn hN0 ini;refine HE (C:=C) (nm:=nm) (q:=q) (N:=N) (bs:=bs) (bm:=bm) (hdct:=true) (sn:=sn) (sub:=sub) (ab:=ab) (col:=col) (dd:=dd) (k0:=k0) (k1:=k1) (k2:=k2) (k3:=k3) (k5:=k5)
  PySem.F.excBase_ValueError (mN:=s.heap.nsMap N) (by rw [he]; rfl) hi cf (Xc I hg hm ⟨rfl,?_⟩ hd)
 have ha':=ha cpos pins s Z H _ I h;rw [he] at ha' ⊢;refine Calls.evalArgs_plain (wpAny_mono ha' (λ us s₂ h₂=>?_) λ _ _ y=>y);obtain ⟨vs,H1,I1,r1,n,rfl,hΞ⟩:=h₂;obtain ⟨u,rfl,ru⟩:=vals1 r1;have K2:=I1.kIn;refine ⟨rfl,by rw [sizeLine_eq]; show 1 <= 16777216; decide,K2 _ _ lk,?_,tail_of_in K2 tl,K2 _ _ lf,λ h' e mk hsz=>?_⟩
 ·obtain ⟨o,es,ep,ho,hr⟩:=hN0;have z:=Zg6 (h:=s₂.heap) I.kIn K2 ok ho;exact ⟨o,es,ep,z,hr⟩
 obtain ⟨tt,ht,_,_⟩:=mk.there;have he1:H1 e = none:=I1.hok.fresh hsz;have I2:L2.Inv X pins Z (upd H1 e (.ext (Xn e C tt none))) { s₂ with heap:=h' }:=I1.laid (t':=s₂.toks) mk.keeps hsz (U1 ht);have sp:BO C [.ref e,.int n] (upd H1 e (.ext (Xn e C tt none))) (λ v H'=>v = .non /\ ∃ dx,upd H1 e (.ext (Xn e C tt none)) dx = none /\ H' = upd (upd (upd H1 e (.ext (Xn e C tt none))) dx (.ext (V4 dx n))) e (.ext (Xn e C tt (some dx)))) (λ _ _ _=>False):=⟨e,tt,n,rfl,Zz,λ dx hdx=>⟨rfl,dx,hdx,rfl⟩⟩
 have bd:BindsTo { s₂ with heap:=h' } fd ⟨[.ref e,u],[]⟩ ((["self", "line"]:List Str).zip [.ref e,u]):=by simpa using hb { s₂ with heap:=h' } [.ref e,u] I2.kIn (by rfl)
 refine wpAny_call (codeAny_mono (F.run _ X.stack _ _ ⟨[.ref e,u],[]⟩ [.ref e,u] [.ref e,.int n] _ _ (hr.make C [u] []) (I2.Zit.make C [u] []) bd (.cons rfl (.cons ru .nil)) sp) λ rr s' hq'=>?_);cases rr with
 | error e'=>exact False.elim hq'
 | ok fl=>
  cases fl with
  | ret u'=>
   obtain ⟨v,H',I3,rv,rfl,dx,hdx,rfl⟩:=I2.after hq';cases (show u' = .none from rv);have ne:dx ≠ e:=λ z=>by rw [z,Zz] at hdx; cases hdx
   have hdx1:H1 dx = none:=by rw [Zv ne] at hdx; exact hdx
   have eH:upd (upd (upd H1 e (.ext (Xn e C tt none))) dx (.ext (V4 dx n))) e (.ext (Xn e C tt (some dx))) = upd (upd H1 dx (.ext (V4 dx n))) e (.ext (Xn e C tt (some dx))):=by
    funext b
    by_cases z:b = e
    ·subst z; rw [Zz,Zz]
    ·rw [Zv z,Zv z]
     by_cases y:b = dx
     ·subst y; rw [Zz,Zz]
     ·rw [Zv y,Zv y,Zv z]
   have xe:Xn e C tt (some dx) s'.heap:=(show Qt X.prog X.w _ s'.heap e (.ext _) from I3.hok e _ Zz).1;rw [eH] at I3;refine ⟨rfl,.ref e,_,NG (ψ:=QK e (.ref C,some dx)) I3 ⟨_,_,xe,⟨rfl,rfl⟩,rfl⟩ ⟨_,xe⟩ (λ h1 h2 ⟨o',vs',k1,k2,k3⟩ k=>⟨o',vs',k o' k1,k2,k3⟩),rfl,hΞ dx e hdx1 he1 ne⟩
  | next=>exact False.elim hq'
  | brk=>exact False.elim hq'
  | cont=>exact False.elim hq'
def ZgG (C:Addr) (t:DTA):DTE:=λ Δ M Φ=>t Δ M λ xs M1=>on1 xs λ x=>onI x λ n=>∀ dx e,M1 dx = none->M1 e = none->dx ≠ e->Φ (.own e) (ZR (ZR M1 dx (.ext (V4 dx n))) e (.ext (QK e (.ref C,some dx))))
theorem Zeq:type_of% @ZgG.eq_1:=λ _ _ _ _ _=>qI
theorem ZbW {t:DTA} (c:WT X.K C f) (hm:X.mg x = some (.ref C)) (F:Qu X.prog X.w X.K X.mg X.base CX0 k f fd ["self", "line"] (BO C)) (hb:Binds X.K fd ["self", "line"] []) (hf:∃ o,X.K.lookup f = some o /\ o.cls = .type "function") (hr:JT (k + 1) X.A)
  (hg:Gl X x) (ha:DA X [e₀] t) (he:autoParam (starEach [e₀] X.env = [(false,eval e₀ X.env)]) zz3._auto_1) (hd:autoParam ((x == ("__debug__" : Str)) = false) zz1._auto_1) :
  DE X (.Call (.Name x np) [e₀] [] cpos) (ZgG C t):=by
 obtain ⟨t1,p1,q1⟩:=ha;refine ⟨_,Zb8 c hm F hb hf hr hg p1 he hd,λ Z H Δ M Φ Q r er h k=>?_⟩;refine q1 Z H Δ M _ _ r er h λ vs H1 xs M1 r1 st rv hx=>?_;obtain ⟨y,rfl,hx⟩:=Zp hx;obtain ⟨n,rfl,hx⟩:=ZX hx;obtain ⟨v,rfl,h1⟩:=Paired.one rv;cases (show v = .int n from QA.int h1);refine ⟨n,rfl,λ dx e hdx he1 ne=>?_⟩;have r2:=r1.WY (o:=.ext (V4 dx n)) (Step.QW hdx) (show upd H1 dx (.ext (V4 dx n)) dx = _ from Zz);have he2:upd H1 dx (.ext (V4 dx n)) e = none:=by rw [Zv (Ne.symm ne)]; exact he1
 have r3:=r2.WY (o:=.ext (QK e (.ref C,some dx))) (Step.QW he2) (show upd (upd H1 dx (.ext (V4 dx n))) e (.ext (QK e (.ref C,some dx))) e = _ from Zz);exact k _ _ (.own e) _ r3 (st.trans ((Step.QW hdx).trans (Step.QW he2))) rfl (hx dx e (r1.tracked hdx) (r1.tracked he1) ne)
end
def Zlg:V->List V->Hp->VK->Prop:=λ x xs H Q=>∃ z,x = .str z /\ xs = [] /\ z.length <= 1000000 /\ Q (.str (Txt.upper z)) H
theorem Of:MtR X "str.upper" Zlg:=by
 intro pins s Z H x xs v us Q I rx rs h;obtain ⟨z,rfl,rfl,hz,q⟩:=h;obtain ⟨t,rfl⟩:=rx;cases rs;exact SCL.upper (by lia) λ _=>⟨.str _,H,I.tok _,⟨_,rfl⟩,q⟩
def Pj (to:DTE):DTE:=λ Δ M Φ=>to Δ M λ x M1=>onS x λ z=>z.length <= 1000000 /\ Φ (.dat (.str (Txt.upper z))) M1
theorem NY:type_of% @Pj.eq_1:=λ _ _ _ _=>qI
theorem MM {o:Expr} {apos:Pos} (ho:DE X o to) (hbase:autoParam (attributeBase o "upper" X.env (eval o X.env) = eval o X.env) zz3._auto_1) (hline:autoParam ((apos.endLine == cpos.line) = true) zz3._auto_1) :
  DE X (.Call (.Attribute o "upper" apos) [] [] cpos) (Pj to):=by
 obtain ⟨t1,p1,q1⟩:=ho;refine ⟨_,ZhL PySem.F.plainAttrs_str PySem.F.slot_str_upper PySem.F.type_str_upper Of p1 hbase hline,λ Z H Δ M Φ Q r e h k=>?_⟩;refine q1 Z H Δ M _ _ r e h λ v H1 x M1 r1 st rv hx=>?_;replace hx:=ZI hx;obtain ⟨z,rfl,hz,hx⟩:=hx;cases rv.str;exact ⟨rfl,z,rfl,rfl,hz,k.dat r1 st (Dt.str _) hx⟩
def ZkM (te:DTE) (tl th:DTO):DTE:=λ Δ M Φ=>te Δ M λ x M1=>tl Δ M1 λ l M2=>th Δ M2 λ u M3=>onK x M3 λ ds=>∀ p,M3 p = none->Φ (.own p) (ZR M3 p (.lst (cutD ds l u)))
theorem Zgc:type_of% @ZkM.eq_1:=λ _ _ _ _ _ _=>qI
theorem Oo {lo hi:Option Expr} {tl th:DTO} (he:DE X e te) (hl:DO X lo tl) (hu:DO X hi th):DE X (.Subscript e (.Slice lo hi none p2) pos) (ZkM te tl th):=by
 obtain ⟨t1,p1,q1⟩:=he;obtain ⟨t2,p2,q2⟩:=hl;obtain ⟨t3,p3,q3⟩:=hu;refine ⟨_,Kj Md p1 p2 p3,λ Z H Δ M Φ Q r e h k=>?_⟩;refine q1 Z H Δ M _ _ r e h λ v H1 x M1 r1 st rv hx=>?_;refine q2 Z H1 Δ M1 _ _ r1 (e.step st) hx λ l H2 M2 r2 st2 hl=>?_;refine q3 Z H2 Δ M2 _ _ r2 (e.step (st.trans st2)) hl λ u H3 M3 r3 st3 hu=>?_;replace hu:=YT hu;obtain ⟨ds,hd,hu⟩:=hu;replace hd:LU x M3 ds:=hd;obtain ⟨a,xs,rfl,h1,h2⟩:=hd.sq r3 (rv.step (st2.trans st3));refine ⟨a,xs,rfl,h1,λ p hp=>?_⟩;exact k _ _ (.own p) _ (r3.Wg (Step.QW hp) (h2.cut l u)) ((st.trans (st2.trans st3)).trans (Step.QW hp)) rfl (hu p (r3.tracked hp))
theorem ZbE {sep:Str} {ss:List Str} (h:(ss.map (·.length)).sum + ss.length * sep.length <= 16777216):JoinOk sep ss = true:=by
 unfold JoinOk;rw [StrLaws.joinTotal];unfold Builtin.Str.tooLong;rw [sizeLine_eq,decide_eq_false (by lia)];rfl
end DL
namespace My
open DL
set_option maxHeartbeats 8000000
noncomputable def top (i:Nat):Stmt:=PySem.Challenge.pw_landsentered_k45_texts_of_none.main.body.getD i (.Pass ⟨0,0,0,0⟩)
noncomputable abbrev Y9:Stmt:=top 15
noncomputable abbrev Xp:Stmt:=top 16
noncomputable abbrev Vc:Stmt:=top 18
noncomputable abbrev Wl:Stmt:=top 19
noncomputable abbrev GH:Stmt:=top 20
noncomputable abbrev Ys:Stmt:=top 21
noncomputable abbrev JD:Stmt:=top 22
noncomputable abbrev ZcB:Stmt:=top 23
noncomputable abbrev V7:Stmt:=top 26
noncomputable abbrev Yc:Stmt:=top 27
noncomputable abbrev YR:Stmt:=top 31
noncomputable abbrev Kp:Stmt:=top 32
noncomputable abbrev Vx:Stmt:=top 33
noncomputable abbrev QT:Stmt:=top 34
noncomputable abbrev YH:Stmt:=top 35
noncomputable abbrev QL:Stmt:=top 38
noncomputable abbrev QN:Stmt:=top 39
noncomputable abbrev Vw:Stmt:=top 40
noncomputable abbrev V1:Stmt:=top 41
noncomputable abbrev Vh:Stmt:=top 42
noncomputable abbrev VT:Stmt:=top 43
noncomputable abbrev JP:Stmt:=top 44
noncomputable abbrev Vr:Stmt:=top 45
noncomputable abbrev V5:Stmt:=top 46
noncomputable abbrev Vk:Stmt:=top 47
noncomputable abbrev Yw:Stmt:=top 48
noncomputable abbrev Jt:Stmt:=top 49
noncomputable abbrev O3:Stmt:=top 51
noncomputable abbrev Mv:Stmt:=top 52
noncomputable abbrev s_same:Stmt:=top 53
noncomputable abbrev Gf:Stmt:=top 54
noncomputable abbrev Yv:Stmt:=top 55
noncomputable abbrev Kl:Stmt:=top 56
noncomputable abbrev Vu:Stmt:=top 57
noncomputable abbrev Ed:Stmt:=top 58
noncomputable abbrev E3:Stmt:=top 59
noncomputable abbrev NQ:Stmt:=top 60
noncomputable abbrev Ky:Stmt:=top 61
noncomputable abbrev FW:Stmt:=top 62
noncomputable abbrev Vo:Stmt:=top 63
noncomputable abbrev J5:Stmt:=top 64
noncomputable abbrev VO:Stmt:=top 65
noncomputable abbrev UO:Stmt:=top 66
noncomputable abbrev VZ:Stmt:=top 67
noncomputable abbrev Wu:Stmt:=top 68
noncomputable abbrev VG:Stmt:=top 69
noncomputable abbrev Zcc:Stmt:=top 70
noncomputable abbrev Xf:Stmt:=top 71
noncomputable abbrev GJ:Stmt:=top 72
noncomputable abbrev VL:Stmt:=top 73
noncomputable abbrev ZdW:Stmt:=top 74
noncomputable def ZcQ:Stmt->List Stmt
 | .ClassDef _ _ _ b _ _ _ _ _ _ _=>b
 | _=>[]
noncomputable abbrev QG:Stmt:=(ZcQ (top 9)).getD 0 (.Pass ⟨0,0,0,0⟩)
theorem Ge:Zr ["self", "line"] ["self", "line"] (Zf QG):=by walk_at "s"
theorem Dw:Zr ["thing"] ["thing"] (Zf Y9):=by walk_at "s"
theorem CT:Zr ["thing"] ["thing"] (Zf Xp):=by walk_at "s"
theorem WB:Zr ["thing"] ["thing"] (Zf Vc):=by walk_at "s"
theorem HJ:Zr ["thing"] ["thing"] (Zf Wl):=by walk_at "s"
theorem Lz:Zr ["thing"] ["thing"] (Zf GH):=by walk_at "s"
theorem Bh:Zr ["box"] ["box"] (Zf Ys):=by walk_at "s"
theorem X5:Zr ["one", "other"] ["one", "other"] (Zf JD):=by walk_at "s"
theorem Zg5:Zr ["one", "other", "way"] ["one", "other", "way"] (Zf ZcB):=by walk_at "s"
theorem Dy:Zr ["thing"] ["thing"] (Zf V7):=by walk_at "s"
theorem C9:Zr ["boxes"] ["boxes"] (Zf Yc):=by walk_at "s"
theorem HC:Zr ["thing"] ["thing"] (Zf YR):=by walk_at "s"
theorem Hl:Zr ["thing"] ["thing"] (Zf Kp):=by walk_at "s"
theorem GK:Zr ["thing"] ["thing"] (Zf Vx):=by walk_at "s"
theorem YE:Zr ["thing"] ["thing"] (Zf QT):=by walk_at "s"
theorem BE:Zr ["thing"] ["thing"] (Zf YH):=by walk_at "s"
theorem X7:Zr ["tellings"] ["tellings"] (Zf QL):=by walk_at "s"
theorem Jk:Zr ["text", "lines", "told"] ["text"] (Zf QN):=by walk_at "s"
theorem Xg:Zr ["telling", "words"] ["telling"] (Zf Vw):=by walk_at "s"
theorem D6:Zr ["box"] ["box"] (Zf V1):=by walk_at "s"
theorem GV:Zr ["spot"] ["spot"] (Zf Vh):=by walk_at "s"
theorem YM:Zr ["line", "found"] ["line"] (Zf VT):=by walk_at "s"
theorem YJ:Zr ["words", "shape"] ["words"] (Zf JP):=by walk_at "s"
theorem Gy:Zr ["word"] ["word"] (Zf Vr):=by walk_at "s"
theorem Df:Zr ["word"] ["word"] (Zf V5):=by walk_at "s"
theorem B2:Zr ["word"] ["word"] (Zf Vk):=by walk_at "s"
theorem XW:Zr ["word", "figures"] ["word"] (Zf Yw):=by walk_at "s"
theorem WN:Zr ["text"] ["text"] (Zf Jt):=by walk_at "s"
theorem Yq:Zr ["_law_pen", "_law_many", "_law_at", "_law_cell", "_law_one", "_law_two", "_law_digit"] ["_law_pen", "_law_many"] (Zf O3):=by walk_at "s"
theorem U5:Zr ["_law_pen", "_law_many", "_law_found", "_law_k"] ["_law_pen", "_law_many"] (Zf Mv):=by walk_at "s"
theorem ZcM:Zr ["_law_found", "_law_due_here"] ["_law_found", "_law_due_here"] (Zf s_same):=by walk_at "s"
theorem JM:Zr ["_law_pen", "_law_most", "_law_low", "_law_found", "_law_k", "_law_wide_here", "_law_first", "_law_last"] ["_law_pen", "_law_most"] (Zf Gf):=by walk_at "s"
theorem Jg:Zr ["_law_boxes_here", "_law_by", "_law_off", "_law_found", "_law_low", "_law_high", "_law_first"] ["_law_boxes_here", "_law_by", "_law_off"] (Zf Yv):=by walk_at "s"
theorem V6:Zr ["_law_pen", "_law_by", "_law_off"] ["_law_pen"] (Zf Kl):=by walk_at "s"
theorem Js:Zr ["_law_pen", "_law_many", "_law_letters", "_law_words", "_law_base", "_law_start", "_law_manner", "_law_long", "_law_at", "_law_signs"] ["_law_pen", "_law_many"] (Zf Vu):=by walk_at "s"
theorem JQ:Zr ["_law_pen", "_law_far", "_law_begin", "_law_span", "_law_things", "_law_lands", "_law_by", "_law_off"] ["_law_pen"] (Zf Ed):=by walk_at "s"
theorem Nh:Zr ["_law_pen", "_law_world_here", "_law_by"] ["_law_pen", "_law_world_here"] (Zf E3):=by walk_at "s"
theorem YD:Zr ["_law_pen", "_law_world_here", "_law_time", "_law_lands", "_law_by", "_law_outer", "_law_boxes_here", "_law_wobble", "_law_name"] ["_law_pen", "_law_world_here", "_law_time"] (Zf NQ):=by walk_at "s"
theorem Yb:Zr ["_law_pen", "_law_world_here", "_law_kind", "_law_time", "_law_thing"] ["_law_pen", "_law_world_here"] (Zf Ky):=by walk_at "s"
theorem Zdb:Zr ["_law_pen", "_law_world_here", "_law_most"] ["_law_pen", "_law_world_here", "_law_most"] (Zf FW):=by walk_at "s"
theorem VS:Zr ["_law_word", "_law_figures"] ["_law_word"] (Zf Vo):=by walk_at "s"
theorem Cu:Zr ["_law_word"] ["_law_word"] (Zf J5):=by walk_at "s"
theorem W4:Zr ["_law_word", "_law_numbers"] ["_law_word"] (Zf VO):=by walk_at "s"
theorem J3:Zr ["_law_word", "_law_low", "_law_high", "_law_first", "_law_dots", "_law_last"] ["_law_word"] (Zf UO):=by walk_at "s"
theorem Vd:Zr ["_law_words", "_law_boxes_here", "_law_k", "_law_w"] ["_law_words"] (Zf VZ):=by walk_at "s"
theorem Xa:Zr ["_law_head", "_law_words", "_law_wobble", "_law_shape"] ["_law_head", "_law_words"] (Zf Wu):=by walk_at "s"
theorem Jr:Zr ["_law_line", "_law_words", "_law_time", "_law_head"] ["_law_line"] (Zf VG):=by walk_at "s"
theorem FH:Zr ["_law_text", "_law_found", "_law_at", "_law_line"] ["_law_text"] (Zf Zcc):=by walk_at "s"
theorem Q1:Zr ["_law_pen", "_law_word", "_law_far", "_law_some_here"] ["_law_pen", "_law_word"] (Zf Xf):=by walk_at "s"
theorem Qn:Zr ["_law_pen", "_law_text", "_law_lines", "_law_at", "_law_other", "_law_words", "_law_place", "_law_spot_here", "_law_sign", "_law_way"] ["_law_pen", "_law_text"] (Zf GJ):=by walk_at "s"
theorem Ju:Zr ["_law_thing", "_law_due_here", "_law_caught", "_law_found", "e"] ["_law_thing", "_law_due_here"] (Zf VL):=by walk_at "s"
theorem Yg:Zr ["_law_script", "_law_pen", "_law_world_here", "_law_k", "_law_thing", "_law_line", "_law_tellings", "_law_text", "_law_spoilt_here"] ["_law_script"] (Zf ZdW):=by walk_at "s"
theorem Gd:bootBuiltins "ValueError" = some (.type "ValueError"):=by walk_at "k"
theorem FR:bootBuiltins "abs" = some (.builtin "abs"):=by walk_at "k"
theorem Fn:bootBuiltins "all" = some (.builtin "all"):=by walk_at "k"
theorem Zdz:bootBuiltins "bool" = some (.type "bool"):=by walk_at "k"
theorem Uk:bootBuiltins "int" = some (.type "int"):=by walk_at "k"
theorem ZL:bootBuiltins "isinstance" = some (.builtin "isinstance"):=by walk_at "k"
theorem ZP:bootBuiltins "len" = some (.builtin "len"):=by walk_at "k"
theorem Zcu:bootBuiltins "list" = some (.type "list"):=by walk_at "k"
theorem OM:bootBuiltins "max" = some (.builtin "max"):=by walk_at "k"
theorem Nz:bootBuiltins "repr" = some (.builtin "repr"):=by walk_at "k"
theorem XE:bootBuiltins "str" = some (.type "str"):=by walk_at "k"
theorem Qy:bootBuiltins "tuple" = some (.type "tuple"):=by walk_at "k"
set_option genInjectivity false in
structure Tx (K:Fk) (mg:Str->Option Value) where
 Uc:Addr
 W5:FuncData
 J1:Own K mg "is_whole" Y9 ["thing"] Uc W5
 Ur:Addr
 Ul:FuncData
 V9:Own K mg "is_short" Xp ["thing"] Ur Ul
 YY:Addr
 Y3:FuncData
 Y4:Own K mg "is_any_spot" Vc ["thing"] YY Y3
 B6:Addr
 BX:FuncData
 YK:Own K mg "is_spot" Wl ["thing"] B6 BX
 F9:Addr
 Ha:FuncData
 Ey:Own K mg "is_box" GH ["thing"] F9 Ha
 Kn:Addr
 K8:FuncData
 Kq:Own K mg "has_spots" Ys ["box"] Kn K8
 VQ:Addr
 VD:FuncData
 Vy:Own K mg "steps_between" JD ["one", "other"] VQ VD
 ZgK:Addr
 ZfO:FuncData
 Zec:Own K mg "gap" ZcB ["one", "other", "way"] ZgK ZfO
 W8:Addr
 Ut:FuncData
 Up:Own K mg "is_shape" V7 ["thing"] W8 Ut
 UB:Addr
 Ua:FuncData
 UI:Own K mg "is_chain" Yc ["boxes"] UB Ua
 CA:Addr
 Cp:FuncData
 Kt:Own K mg "is_name" YR ["thing"] CA Cp
 Bt:Addr
 Co:FuncData
 G3:Own K mg "is_time" Kp ["thing"] Bt Co
 Xw:Addr
 XQ:FuncData
 XM:Own K mg "is_telling" Vx ["thing"] Xw XQ
 JO:Addr
 JU:FuncData
 JK:Own K mg "is_name_or_empty" QT ["thing"] JO JU
 Wx:Addr
 KO:FuncData
 Wk:Own K mg "is_wobble" YH ["thing"] Wx KO
 VC:Addr
 VA:FuncData
 Vz:Own K mg "show_tellings" QL ["tellings"] VC VA
 VI:Addr
 VH:FuncData
 QV:Own K mg "read_tellings" QN ["text"] VI VH
 BF:Addr
 BI:FuncData
 Bz:Own K mg "line_of" Vw ["telling"] BF BI
 Ue:Addr
 W2:FuncData
 UG:Own K mg "show_box" V1 ["box"] Ue W2
 KL:Addr
 Ww:FuncData
 Yo:Own K mg "show_spot" Vh ["spot"] KL Ww
 XH:Addr
 Xz:FuncData
 XR:Own K mg "telling_of" VT ["line"] XH Xz
 XA:Addr
 Xv:FuncData
 Xy:Own K mg "read_words" JP ["words"] XA Xv
 XJ:Addr
 XU:FuncData
 XZ:Own K mg "read_outer" Vr ["word"] XJ XU
 W6:Addr
 WV:FuncData
 Uy:Own K mg "read_box" V5 ["word"] W6 WV
 Kr:Addr
 KU:FuncData
 YB:Own K mg "read_spot" Vk ["word"] Kr KU
 Wa:Addr
 K1:FuncData
 Q0:Own K mg "number_of" Yw ["word"] Wa K1
 YO:Addr
 Y0:FuncData
 YX:Own K mg "are_figures" Jt ["text"] YO Y0
 ZaW:Addr
 Zau:FuncData
 ZH:Own K mg "_law_take" O3 ["_law_pen", "_law_many"] ZaW Zau
 Zbz:Addr
 Zbh:FuncData
 Ca:Own K mg "_law_wide" Mv ["_law_pen", "_law_many"] Zbz Zbh
 Zbo:Addr
 Zbi:FuncData
 ET:Own K mg "_law_same" s_same ["_law_found", "_law_due_here"] Zbo Zbi
 Og:Addr
 NO:FuncData
 ND:Own K mg "_law_boxes" Gf ["_law_pen", "_law_most"] Og NO
 Wb:Addr
 KQ:FuncData
 Kv:Own K mg "_law_stretched" Yv ["_law_boxes_here", "_law_by", "_law_off"] Wb KQ
 G6:Addr
 Ck:FuncData
 Cf:Own K mg "_law_stretch" Kl ["_law_pen"] G6 Ck
 Mn:Addr
 OD:FuncData
 Di:Own K mg "_law_names" Vu ["_law_pen", "_law_many"] Mn OD
 Pg:Addr
 MN:FuncData
 OZ:Own K mg "_law_world" Ed ["_law_pen"] Pg MN
 Zbb:Addr
 Zap:FuncData
 ZaK:Own K mg "_law_spot" E3 ["_law_pen", "_law_world_here"] Zbb Zap
 Zbp:Addr
 Zab:FuncData
 ZaO:Own K mg "_law_land" NQ ["_law_pen", "_law_world_here", "_law_time"] Zbp Zab
 Be:Addr
 Cq:FuncData
 CJ:Own K mg "_law_telling" Ky ["_law_pen", "_law_world_here"] Be Cq
 Zad:Addr
 Zaz:FuncData
 ZaR:Own K mg "_law_some" FW ["_law_pen", "_law_world_here", "_law_most"] Zad Zaz
 Kx:Addr
 KN:FuncData
 Vj:Own K mg "_law_number_in" Vo ["_law_word"] Kx KN
 Wj:Addr
 KC:FuncData
 Yz:Own K mg "_law_is_name" J5 ["_law_word"] Wj KC
 G5:Addr
 BW:FuncData
 Vs:Own K mg "_law_spot_in" VO ["_law_word"] G5 BW
 Fu:Addr
 ER:FuncData
 EN:Own K mg "_law_box_in" UO ["_law_word"] Fu ER
 Uo:Addr
 Uu:FuncData
 UH:Own K mg "_law_shape_in" VZ ["_law_words"] Uo Uu
 CH:Addr
 BL:FuncData
 G7:Own K mg "_law_land_in" Wu ["_law_head", "_law_words"] CH BL
 XY:Addr
 XB:FuncData
 XF:Own K mg "_law_telling_in" VG ["_law_line"] XY XB
 Zie:Addr
 ZeY:FuncData
 Zh5:Own K mg "_law_due" Zcc ["_law_text"] Zie ZeY
 Ux:Addr
 WZ:FuncData
 WS:Own K mg "_law_odd_word" Xf ["_law_pen", "_law_word"] Ux WZ
 Fj:Addr
 Ff:FuncData
 Gz:Own K mg "_law_spoilt" GJ ["_law_pen", "_law_text"] Fj Ff
 XG:Addr
 Xu:FuncData
 JR:Own K mg "_law_read_right" VL ["_law_thing", "_law_due_here"] XG Xu
 ZfF:Addr
 Ze7:FuncData
 o_law:Own K mg "law" ZdW ["_law_script"] ZfF Ze7
 Cz:mg "ValueError" = none
 Rk:mg "abs" = none
 RP:mg "all" = none
 Zfv:mg "bool" = none
 Du:mg "enumerate" = none
 Lr:mg "int" = none
 ZQ:mg "isinstance" = none
 Qo:mg "len" = none
 Zfh:mg "list" = none
 ZcO:mg "max" = none
 QY:mg "range" = none
 Za0:mg "repr" = none
 Bp:mg "str" = none
 QZ:mg "tuple" = none
 Zgi:Tok
 Zbs:mg "MOST" = some (.int 999999999999 Zgi)
 Bc:Tok
 Cv:mg "MOST_BOXES" = some (.int 6 Bc)
 WE:Tok
 WK:mg "MOST_LETTERS" = some (.int 8 WE)
 C2:Tok
 Ee:mg "LAST_TIME" = some (.int 1000000000000 C2)
 Wz:Tok
 WG:mg "MOST_FIGURES" = some (.int 60 Wz)
 Qi:Addr
 Ki:mg "NoText" = some (.ref Qi)
 K7:Addr
 CW:mg "LandError" = some (.ref K7)
 LR:Addr
 Zd7:mg "Clash" = some (.ref LR)
 Hf:Addr
 SG:mg "NoLand" = some (.ref Hf)
 Hh:Addr
 R1:mg "NoName" = some (.ref Hh)
 Nv:Addr
 Zeo:mg "NoRow" = some (.ref Nv)
 BK:Addr
 Nu:mg "NoShape" = some (.ref BK)
 K3:Addr
 Eu:mg "NoTelling" = some (.ref K3)
 Fs:Addr
 S2:mg "NoTime" = some (.ref Fs)
 FN:Addr
 Rl:mg "NoTurn" = some (.ref FN)
 CC:Addr
 L9:mg "NoWatch" = some (.ref CC)
 GW:Addr
 OT:mg "TooMany" = some (.ref GW)
 Kf:Addr
 UT:FuncData
 Kg:WT K Qi Kf
 Zaa:Fun K "__init__" "NoText.__init__" QG Kf UT
 UX:Binds K UT ["self", "line"] []
 Gb:∃ o,K.lookup Kf = some o /\ o.cls = .type "function"
 YV:Dd K Qi
 YN:Gs K Qi K7
 q1:PySem.W.kitOne K (.ref Qi) (.ref Qi) = some true
 q2:PySem.W.kitOne K (.ref Qi) (.type "ValueError") = some true
 q4:PySem.W.kitAny K (.ref Qi) [.ref LR,.ref Hf,.ref Hh,.ref Nv,.ref BK,.ref K3,.ref Fs,.ref FN,.ref CC,.ref GW] = some false
theorem J7 {K:Fk} (T:Tx K mg):Qu P w K mg base CX0 1 T.Kf T.UT ["self", "line"] (BO T.Qi):=ZgQ T.Zaa Ge λ _ _ _ _ _ _=>Dv (Zdv T.Kg (pv 0) (pv 1) rfl)
local macro_rules | `(tactic| walk_at "hd")=>`(tactic| (subst_vars; (try dsimp only); refine DL.Tb λ R hR=>?_))
local macro_rules | `(tactic| walk_at "h")=>`(tactic| (walk_at "hd"; walk_at "rk"))
noncomputable def gp (a b a' b':Int):Int:=max 0 (max (a' - b) (a - b'))
noncomputable def btw (x y X Y x' y' X' Y':Int):Int:=max (gp x X x' X') (gp y Y y' Y')
structure B4 where
 x:Int
 y:Int
 X:Int
 Y:Int
noncomputable def bD (b:B4):PyData:=.tuple [.tuple [.int b.x,.int b.y],.tuple [.int b.X,.int b.Y]]
noncomputable def Ql (a b:B4):Int:=btw a.x a.y a.X a.Y b.x b.y b.X b.Y
noncomputable def okB (b:B4):Bool:=decide (b.x <= b.X) && decide (b.y <= b.Y)
noncomputable def FZ (f ox oy:Int) (b:B4):B4:=⟨b.x * f + ox,b.y * f + oy,b.X * f + f - 1 + ox,b.Y * f + f - 1 + oy⟩
noncomputable def toB:PyData->B4
 | .tuple [.tuple [.int x,.int y],.tuple [.int X,.int Y]]=>⟨x,y,X,Y⟩
 | _=>⟨0,0,0,0⟩
def onX (x:DV) (P:B4->Prop):Prop:=∃ b,x = .dat (bD b) /\ P b
theorem EB (b:B4) (P:B4->Prop):onX (.dat (bD b)) P = P b:=propext ⟨λ ⟨c,e,h⟩=>by
 rw [DV.dat.injEq] at e;rw [show b = c from congrArg toB e]
 exact h,λ h=>⟨b,rfl,h⟩⟩
theorem T8 (x y X Y:Int) (P:B4->Prop):onX (.dat (.tuple [.tuple [.int x,.int y],.tuple [.int X,.int Y]])) P = P ⟨x,y,X,Y⟩:=EB ⟨x,y,X,Y⟩ P
theorem Uw {x:DV} {P:B4->Prop} (h:onX x P):∃ b,x = .dat (bD b) /\ P b:=h
theorem R8 (b:B4) (M:Mp) (P:List PyData->Prop):onQ (.dat (bD b)) M P = P [.tuple [.int b.x,.int b.y],.tuple [.int b.X,.int b.Y]]:=qI
theorem PY (b:B4) (P:List PyData->Prop):onT (.dat (bD b)) P = P [.tuple [.int b.x,.int b.y],.tuple [.int b.X,.int b.Y]]:=qI
theorem Yt:∀ bs:List B4,(bs.map bD).map toB = bs
 | []=>rfl
 | b :: bs=>by rw [List.map_cons,List.map_cons,Yt bs]; rfl
def Zil (x:DV) (P:List B4->Prop):Prop:=∃ bs,x = .dat (.tuple (bs.map bD)) /\ P bs
def Zio (x:DV) (P:List B4->Prop):Prop:=∃ bs,x = .dat (.list (bs.map bD)) /\ P bs
theorem Zcf {x:DV} {P:List B4->Prop} (h:Zil x P):∃ bs,x = .dat (.tuple (bs.map bD)) /\ P bs:=h
theorem ZcK {x:DV} {P:List B4->Prop} (h:Zio x P):∃ bs,x = .dat (.list (bs.map bD)) /\ P bs:=h
theorem W3 {as bs:List B4} (h:as.map bD = bs.map bD):as = bs:=by
 rw [<- Yt as,h,Yt]
theorem Zde (bs:List B4) (P:List B4->Prop):Zil (.dat (.tuple (bs.map bD))) P = P bs:=propext ⟨λ ⟨cs,e,h⟩=>by
 rw [DV.dat.injEq,PyData.tuple.injEq] at e;rw [W3 e]
 exact h,λ h=>⟨bs,rfl,h⟩⟩
theorem Zb7 (bs:List B4) (P:List B4->Prop):Zio (.dat (.list (bs.map bD))) P = P bs:=propext ⟨λ ⟨cs,e,h⟩=>by
 rw [DV.dat.injEq,PyData.list.injEq] at e;rw [W3 e]
 exact h,λ h=>⟨bs,rfl,h⟩⟩
noncomputable def Z9:PyData->Bool
 | .int _=>true
 | _=>false
noncomputable def ZG:PyData->Bool
 | .int i=>decide (-999999999999 <= i) && decide (i <= 999999999999)
 | _=>false
noncomputable def Yn:PyData->Bool
 | .tuple [a,b]=>Z9 a && Z9 b
 | _=>false
noncomputable def ZD:PyData->Bool
 | .tuple [a,b]=>ZG a && ZG b
 | _=>false
noncomputable def Z4:PyData->Bool
 | .tuple [a,b]=>ZD a && (ZD b && okB (toB (.tuple [a,b])))
 | _=>false
noncomputable def chB:List B4->Bool
 | a :: b :: l=>decide (Ql a b <= 1) && chB (b :: l)
 | _=>true
noncomputable def ZS:PyData->Bool
 | .tuple ds=>(decide (1 <= ds.length) && decide (ds.length <= 6)) && (ds.all Z4 && chB (ds.map toB))
 | _=>false
noncomputable def CM (c:Nat):Bool:=decide (97 <= c) && decide (c <= 122)
noncomputable def Zx:PyData->Bool
 | .str s=>(decide (1 <= s.length) && decide (s.length <= 8)) && s.cps.toList.all CM
 | _=>false
noncomputable def Yp:PyData->Bool
 | .str s=>decide (s.length <= 2000000)
 | _=>true
noncomputable def Z6:PyData->Bool
 | .int i=>decide (0 <= i) && decide (i <= 1000000000000)
 | _=>false
noncomputable def Vp:PyData->Bool
 | .int i=>decide (0 <= i) && decide (i <= 999999999999)
 | _=>false
noncomputable def GU:List PyData->Bool
 | [o,s,v]=>(isS o (Str.ofString "") || Zx o) && (ZS s && Vp v)
 | _=>false
noncomputable def Zdm:List PyData->Bool
 | [s]=>ZD s
 | _=>false
noncomputable def JG (k:PyData) (l:List PyData):Bool:=
 if isS k (Str.ofString "land") = true then GU l else if isS k (Str.ofString "spot") = true then Zdm l else l.isEmpty && (isS k (Str.ofString "drop") || isS k (Str.ofString "free"))
noncomputable def Zu:PyData->Bool
 | .tuple (k :: t :: n :: l)=>Z6 t && (Zx n && JG k l)
 | _=>false
noncomputable def Zig:PyData->Bool
 | .tuple ds=>ds.all Yp
 | _=>true
def spW:DSp:=λ xs M Φ=>on1 xs λ x=>onD x λ d=>Φ (.dat (.bool (Z9 d))) M
theorem Zjs:type_of% @spW.eq_1:=λ _ _ _=>qI
def Zka:DSp:=λ xs M Φ=>on1 xs λ x=>onD x λ d=>Φ (.dat (.bool (ZG d))) M
theorem ZgR:type_of% @Zka.eq_1:=λ _ _ _=>qI
def Zki:DSp:=λ xs M Φ=>on1 xs λ x=>onD x λ d=>Φ (.dat (.bool (Yn d))) M
theorem ZhB:type_of% @Zki.eq_1:=λ _ _ _=>qI
def Zkk:DSp:=λ xs M Φ=>on1 xs λ x=>onD x λ d=>Φ (.dat (.bool (ZD d))) M
theorem Zgl:type_of% @Zkk.eq_1:=λ _ _ _=>qI
def ZkP:DSp:=λ xs M Φ=>on1 xs λ x=>onD x λ d=>Φ (.dat (.bool (Z4 d))) M
theorem Zgg:type_of% @ZkP.eq_1:=λ _ _ _=>qI
def Nq:DSp:=λ xs M Φ=>on1 xs λ x=>onD x λ d=>Φ (.dat (.bool (ZS d))) M
theorem NM:type_of% @Nq.eq_1:=λ _ _ _=>qI
def spT:DSp:=λ xs M Φ=>on1 xs λ x=>onD x λ d=>Φ (.dat (.bool (Z6 d))) M
theorem ZjG:type_of% @spT.eq_1:=λ _ _ _=>qI
def ZgC:DSp:=λ xs M Φ=>on1 xs λ x=>onD x λ d=>Φ (.dat (.bool (Vp d))) M
theorem Zcq:type_of% @ZgC.eq_1:=λ _ _ _=>qI
def spN:DSp:=λ xs M Φ=>on1 xs λ x=>onD x λ d=>Yp d = true /\ Φ (.dat (.bool (Zx d))) M
theorem Zje:type_of% @spN.eq_1:=λ _ _ _=>qI
def Zkp:DSp:=λ xs M Φ=>on1 xs λ x=>onD x λ d=>Yp d = true /\ Φ (.dat (.bool (isS d (Str.ofString "") || Zx d))) M
theorem Zic:type_of% @Zkp.eq_1:=λ _ _ _=>qI
def Zbr:DSp:=λ xs M Φ=>on1 xs λ x=>onD x λ d=>Zig d = true /\ Φ (.dat (.bool (Zu d))) M
theorem Rb:type_of% @Zbr.eq_1:=λ _ _ _=>qI
def Zfm:DSp:=λ xs M Φ=>on1 xs λ x=>onX x λ b=>Φ (.dat (.bool (okB b))) M
theorem Zb4:type_of% @Zfm.eq_1:=λ _ _ _=>qI
def ZhF:DSp:=λ xs M Φ=>on3 xs λ x y z=>onX x λ a=>onX y λ b=>onI z λ i=>(i = 0 \/ i = 1) /\ Φ (.dat (.int (if i = 0 then gp a.x a.X b.x b.X else gp a.y a.Y b.y b.Y))) M
theorem Zei:type_of% @ZhF.eq_1:=λ _ _ _=>qI
def BD:DSp:=λ xs M Φ=>on2 xs λ x y=>onX x λ a=>onX y λ b=>Φ (.dat (.int (Ql a b))) M
theorem Er:type_of% @BD.eq_1:=λ _ _ _=>qI
def LF:DSp:=λ xs M Φ=>on1 xs λ x=>Zil x λ bs=>bs.length <= 6 /\ Φ (.dat (.bool (chB bs))) M
theorem Om:type_of% @LF.eq_1:=λ _ _ _=>qI
section
variable {K:Fk}
theorem B3 {α:Type} {ds:List α} (h:ds.length = 2):∃ a b,ds = [a,b]:=by
 match ds,h with
 | [a,b],_=>exact ⟨a,b,rfl⟩
theorem B9 (h:ds.length ≠ 2):Yn (.tuple ds) = false /\ ZD (.tuple ds) = false /\ Z4 (.tuple ds) = false:=by
 match ds,h with
 | [],_=>exact ⟨rfl,rfl,rfl⟩
 | [_],_=>exact ⟨rfl,rfl,rfl⟩
 | [_,_],h=>exact absurd rfl h
 | _ :: _ :: _ :: _,_=>exact ⟨rfl,rfl,rfl⟩
theorem EI (h:Z9 d = true):∃ i,d = .int i:=by
 cases d <;> first | exact ⟨_,rfl⟩ | cases h
theorem Kw (h:Z9 d = false):ZG d = false:=by
 cases d <;> first | rfl | cases h
theorem ZkF (n:Nat):decide ((n:Int) = 2) = decide (n = 2):=decide_eq_decide.mpr (by lia)
theorem Zaf (h:Yn d = true):∃ x y,d = .tuple [.int x,.int y]:=by
 cases d with
 | tuple ds=>
  by_cases hl:ds.length = 2
  ·obtain ⟨a,b,rfl⟩:=B3 hl;have h':Z9 a = true /\ Z9 b = true:=by simpa [Yn] using h
   obtain ⟨x,rfl⟩:=EI h'.1;obtain ⟨y,rfl⟩:=EI h'.2;exact ⟨x,y,rfl⟩
  ·rw [(B9 hl).1] at h;cases h
 | _=>cases h
theorem Fp (h:Yn d = false):ZD d = false:=by
 cases d with
 | tuple ds=>
  by_cases hl:ds.length = 2
  ·obtain ⟨a,b,rfl⟩:=B3 hl;have h':Z9 a = false \/ Z9 b = false:=by
    have:(Z9 a && Z9 b) = false:=h;exact Bool.and_eq_false_iff.mp this
   show (ZG a && ZG b) = false
   rcases h' with h' | h'
   ·rw [Kw h'];rfl
   ·rw [Kw h',Bool.and_false]
  ·exact (B9 hl).2.1
 | _=>rfl
theorem UP (h:ZD d = true):∃ x y:Int,d = .tuple [.int x,.int y] /\ ZG (.int x) = true /\ ZG (.int y) = true:=by
 cases q:Yn d with
 | false=>rw [Fp q] at h; cases h
 | true=>
  obtain ⟨x,y,rfl⟩:=Zaf q;exact ⟨x,y,rfl,Bool.and_eq_true_iff.mp h⟩
theorem ZeU (h:Z4 d = true):∃ b,d = bD b /\ okB b = true:=by
 cases d with
 | tuple ds=>
  by_cases hl:ds.length = 2
  ·obtain ⟨a,b,rfl⟩:=B3 hl;have h':ZD a = true /\ ZD b = true /\ okB (toB (.tuple [a,b])) = true:=by simpa [Z4] using h
   obtain ⟨x,y,rfl,_⟩:=UP h'.1;obtain ⟨x',y',rfl,_⟩:=UP h'.2.1;exact ⟨⟨x,y,x',y'⟩,rfl,h'.2.2⟩
  ·rw [(B9 hl).2.2] at h;cases h
 | _=>cases h
noncomputable def stB (bs:List B4) (j:Nat):Bool:=match bs[j]?,bs[j + 1]? with
 | some a,some b=>decide (Ql a b <= 1)
 | _,_=>true
theorem LL:∀ bs:List B4,chB bs = (List.range (bs.length - 1)).all (stB bs)
 | []=>rfl
 | [_]=>rfl
 | a :: b :: l=>by
  have ih:=LL (b :: l);show (decide (Ql a b <= 1) && chB (b :: l)) = (List.range (l.length + 1)).all (stB (a :: b :: l));rw [ih,List.range_succ_eq_map,List.all_cons,List.all_map];rfl
theorem BH {p:Prop} [Decidable p] {A B:Prop} (h1:¬ p->A) (h2:p->B):if (!decide p) = true then A else B:=by
 by_cases h:p
 ·rw [decide_eq_true h,if_neg (by decide)];exact h2 h
 ·rw [decide_eq_false h,if_pos (by decide)];exact h1 h
theorem FV:∀ {ds:List PyData},ds.all Z4 = true->∃ bs:List B4,ds = bs.map bD
 | [],_=>⟨[],rfl⟩
 | d :: ds,h=>by
  rw [List.all_cons,Bool.and_eq_true] at h;obtain ⟨b,rfl,_⟩:=ZeU h.1;obtain ⟨bs,rfl⟩:=FV h.2;exact ⟨b :: bs,rfl⟩
theorem CB (h:¬ 1 <= (ds.length:Int) \/ ¬ (ds.length:Int) <= 6):ZS (.tuple ds) = false:=by
 show ((decide (1 <= ds.length) && decide (ds.length <= 6)) && _) = false
 rcases h with h | h
 ·rw [decide_eq_false (show ¬ 1 <= ds.length by lia)];rfl
 ·rw [decide_eq_false (show ¬ ds.length <= 6 by lia),Bool.and_false];rfl
theorem ZjZ (c:Nat):(!decide ((⟨#[c]⟩:Str).cps.toList < (Str.ofString "a").cps.toList)) = decide (97 <= c):=by
 rw [Ka,show (Str.ofString "a").cps.toList = [97] by decide +kernel]
 by_cases h:97 <= c
 ·rw [decide_eq_true h,decide_eq_false (λ z=>by simp [List.cons_lt_cons_iff] at z; lia)];rfl
 ·rw [decide_eq_false h,decide_eq_true (by simp [List.cons_lt_cons_iff]; lia)];rfl
theorem ZiV (c:Nat):(!decide ((Str.ofString "z").cps.toList < (⟨#[c]⟩:Str).cps.toList)) = decide (c <= 122):=by
 rw [Ka,show (Str.ofString "z").cps.toList = [122] by decide +kernel]
 by_cases h:c <= 122
 ·rw [decide_eq_true h,decide_eq_false (λ z=>by simp [List.cons_lt_cons_iff] at z; lia)];rfl
 ·rw [decide_eq_false h,decide_eq_true (by simp [List.cons_lt_cons_iff]; lia)];rfl
theorem GS (h:¬ 1 <= (s.length:Int) \/ ¬ (s.length:Int) <= 8):Zx (.str s) = false:=by
 show ((decide (1 <= s.length) && decide (s.length <= 8)) && s.cps.toList.all CM) = false
 rcases h with h | h
 ·rw [decide_eq_false (show ¬ 1 <= s.length by lia)];rfl
 ·rw [decide_eq_false (show ¬ s.length <= 8 by lia),Bool.and_false];rfl
theorem OH (h:ds.length < 3):Zu (.tuple ds) = false:=by
 match ds,h with
 | [],_=>rfl
 | [_],_=>rfl
 | [_,_],_=>rfl
theorem PF {α:Type} {ds:List α} (h:¬ ds.length < 3):∃ a b c l,ds = a :: b :: c :: l:=by
 match ds,h with
 | [],h=>exact absurd (by simp) h
 | [_],h=>exact absurd (by simp) h
 | [_,_],h=>exact absurd (by simp) h
 | a :: b :: c :: l,_=>exact ⟨a,b,c,l,rfl⟩
theorem RO {α:Type} {ds:List α} (h:ds.length = 3):∃ a b c,ds = [a,b,c]:=by
 match ds,h with
 | [a,b,c],_=>exact ⟨a,b,c,rfl⟩
theorem ZhJ {α:Type} {ds:List α} (h:ds.length = 1):∃ a,ds = [a]:=by
 match ds,h with
 | [a],_=>exact ⟨a,rfl⟩
theorem Zch (h:l.length ≠ 3):GU l = false:=by
 match l,h with
 | [],_=>rfl
 | [_],_=>rfl
 | [_,_],_=>rfl
 | [_,_,_],h=>exact absurd rfl h
 | _ :: _ :: _ :: _ :: _,_=>rfl
theorem Zci (h:l.length ≠ 1):Zdm l = false:=by
 match l,h with
 | [],_=>rfl
 | [_],h=>exact absurd rfl h
 | _ :: _ :: _,_=>rfl
def Zj6 (o:OO):Prop:=∃ (ns:List Int) (i b:Int),0 <= i /\ o = .lst [.list (ns.map PyData.int),.int i,.int b]
def Pen (M:Mp) (p:Addr):Prop:=∃ o,Zj6 o /\ M p = some o
theorem Pen.ZR (h:Zj6 o):Pen (ZR M p o) p:=⟨o,h,ZK⟩
theorem Pen.ne (h:Pen M p) (hq:M q = none):p ≠ q:=λ e=>by
 obtain ⟨o,_,ho⟩:=h;rw [e,hq] at ho;cases ho
theorem Pen.put (h:Pen M p) (hq:p ≠ q):Pen (DL.ZR M q o) p:=by
 obtain ⟨o',h1,h2⟩:=h;exact ⟨o',h1,by rw [ZF hq]; exact h2⟩
theorem Pen.del (h:Pen M p) (hq:p ≠ q):Pen (DL.YI M q) p:=by
 obtain ⟨o',h1,h2⟩:=h;exact ⟨o',h1,by rw [Xh hq]; exact h2⟩
def ZkA (x:DV) (P:List Int->Prop):Prop:=∃ ns,x = .dat (.list (ns.map PyData.int)) /\ P ns
theorem K0:∀ {as bs:List Int},as.map PyData.int = bs.map PyData.int->as = bs
 | [],[],_=>rfl
 | [],_ :: _,h=>by simp at h
 | _ :: _,[],h=>by simp at h
 | a :: as,b :: bs,h=>by
  rw [List.map_cons,List.map_cons,List.cons.injEq,PyData.int.injEq] at h;rw [h.1,K0 h.2]
theorem ZbX (bs:List Int) (P:List Int->Prop):ZkA (.dat (.list (bs.map PyData.int))) P = P bs:=propext ⟨λ ⟨cs,e,h⟩=>by
 rw [DV.dat.injEq,PyData.list.injEq] at e;rw [K0 e]
 exact h,λ h=>⟨bs,rfl,h⟩⟩
theorem tab {l:List Int} {r:Int} (P:Int->Prop) (h0:0 <= r) (h1:r < l.length) (hl:∀ w ∈ l,P w) {Q:PyData->Prop} (k:∀ w,P w->Q (.int w)):U8 (l.map PyData.int) r Q:=by
 obtain ⟨w,hw,e⟩:=Zdt h0 h1;exact QJ e (k w (hl w hw))
def Fr (p:Addr) (M M':Mp):Prop:=Pen M' p /\ ∀ a,a ≠ p->M a ≠ none->M' a = M a
theorem Fr.refl (h:Pen M p):Fr p M M:=⟨h,λ _ _ _=>rfl⟩
theorem Fr.trans {M1 M2:Mp} (h:Fr p M M1) (k:Fr p M1 M2):Fr p M M2:=⟨k.1,λ a ha hn=>by
 have e:=h.2 a ha hn;rw [<- e]
 exact k.2 a ha (by rw [e]; exact hn)⟩
theorem Fr.ZR (h:Zj6 o):Fr p M (ZR M p o):=⟨Pen.ZR h,λ a ha _=>ZF ha⟩
theorem Fr.own (h:Fr p M M') (hq:M q = some o) (hne:q ≠ p):M' q = some o:=by
 rw [h.2 q hne (by rw [hq]; exact Option.some_ne_none _)];exact hq
theorem Fr.new (h:Fr p M M') (hq:M q = none) (hne:q ≠ p):Fr p M (DL.ZR M' q o):=⟨h.1.put (Ne.symm hne),λ a ha hn=>by
 rw [ZF (λ e=>hn (by rw [e]; exact hq))]
 exact h.2 a ha hn⟩
def ZaI:DSp:=λ xs M Φ=>on2 xs λ x y=>onO x λ p=>onI y λ m=>(0 < m /\ m < 10 ^ 60) /\ Pen M p /\ ∀ r M',0 <= r->r < m->Fr p M M'->Φ (.dat (.int r)) M'
theorem RW:type_of% @ZaI.eq_1:=λ _ _ _=>qI
theorem Pen.get (h:Pen M p):∃ (ns:List Int) (i b:Int),0 <= i /\ M p = some (.lst [.list (ns.map PyData.int),.int i,.int b]):=by
 obtain ⟨o,⟨ns,i,b,hi,eo⟩,hp⟩:=h;exact ⟨ns,i,b,hi,by rw [hp,eo]⟩
def Zbf:DSp:=λ xs M Φ=>on2 xs λ x y=>onO x λ p=>onI y λ m=>(0 < m /\ m < 10 ^ 60) /\ Pen M p /\ ∀ r M',0 <= r->r < m->Fr p M M'->Φ (.dat (.int r)) M'
theorem PV:type_of% @Zbf.eq_1:=λ _ _ _=>qI
def QD (s:Str):Prop:=(1 <= s.length /\ s.length <= 8) /\ ∀ c ∈ s.cps.toList,97 <= c /\ c <= 122
def Nml (n:Nat) (ss:List Str):Prop:=(1 <= ss.length /\ ss.length <= n) /\ ∀ s ∈ ss,QD s
def Grb (n:Int) (b:B4):Prop:=(b.x <= b.X /\ b.y <= b.Y) /\ (-(4 * n) <= b.x /\ b.X <= 15 + 4 * n) /\ (-(4 * n) <= b.y /\ b.Y <= 15 + 4 * n)
def Grd (bs:List B4):Prop:=(1 <= bs.length /\ bs.length <= 6) /\ chB bs = true /\ ∀ b ∈ bs,Grb 5 b
def Frm (f ox oy:Int):Prop:=(1 <= f /\ f <= 10000000000) /\ (-100000000000 <= ox /\ ox <= 100000000000) /\ (-100000000000 <= oy /\ oy <= 100000000000)
noncomputable def ZdX (f ox oy bg sp:Int) (ts ls:List Str):OO:=.dkv [(.inr (Str.ofString "by"),.int f),(.inr (Str.ofString "off"),.tuple [.int ox,.int oy]),(.inr (Str.ofString "begin"),.int bg),(.inr (Str.ofString "span"),.int sp),(.inr (Str.ofString "things"),.list (ts.map PyData.str)),(.inr (Str.ofString "lands"),.list (ls.map PyData.str))]
def Wd (M:Mp) (q:Addr):Prop:=∃ f ox oy bg sp ts ls,M q = some (ZdX f ox oy bg sp ts ls) /\ Frm f ox oy /\ (0 <= bg /\ bg <= 999999999992) /\ (1 <= sp /\ sp <= 9) /\ Nml 4 ts /\ Nml 5 ls
theorem Wd.fr (h:Wd M q) (k:Fr p M M') (hne:q ≠ p):Wd M' q:=by
 obtain ⟨f,ox,oy,bg,sp,ts,ls,hq,hh⟩:=h;exact ⟨f,ox,oy,bg,sp,ts,ls,k.own hq hne,hh⟩
def Sh (x:Int):Prop:=-999999999999 <= x /\ x <= 999999999999
def LW:DSp:=λ xs M Φ=>on2 xs λ x y=>onO x λ p=>onI y λ m=>(1 <= m /\ m <= 8) /\ Pen M p /\ ∀ (ss:List Str) (M':Mp),ss.length = m.toNat->(∀ s ∈ ss,QD s)->Fr p M M'->Φ (.dat (.list (ss.map PyData.str))) M'
theorem Pc:type_of% @LW.eq_1:=λ _ _ _=>qI
def Oa:DSp:=λ xs M Φ=>on2 xs λ x y=>onO x λ p=>onI y λ m=>(1 <= m /\ m <= 6) /\ Pen M p /\ ∀ bs M',Grd bs->Fr p M M'->Φ (.dat (.list (bs.map bD))) M'
theorem Mr:type_of% @Oa.eq_1:=λ _ _ _=>qI
def Wq:DSp:=λ xs M Φ=>on3 xs λ x y z=>Zio x λ bs=>onI y λ f=>onP z λ ox oy=>Grd bs /\ Φ (.dat (.tuple ((bs.map (FZ f ox oy)).map bD))) M
theorem UK:type_of% @Wq.eq_1:=λ _ _ _=>qI
def Cg:DSp:=λ xs M Φ=>on1 xs λ x=>onO x λ p=>Pen M p /\ ∀ f ox oy M',Frm f ox oy->Fr p M M'->Φ (.dat (.tuple [.int f,.tuple [.int ox,.int oy]])) M'
theorem C1:type_of% @Cg.eq_1:=λ _ _ _=>qI
def MF:DSp:=λ xs M Φ=>on1 xs λ x=>onO x λ p=>Pen M p /\ ∀ q M',Wd M' q->q ≠ p->Fr p M M'->Φ (.own q) M'
theorem Ng:type_of% @MF.eq_1:=λ _ _ _=>qI
def Za9:DSp:=λ xs M Φ=>on2 xs λ x y=>onO x λ p=>onO y λ q=>Wd M q /\ q ≠ p /\ Pen M p /\ ∀ u v M',Sh u->Sh v->Fr p M M'->Φ (.dat (.tuple [.int u,.int v])) M'
theorem Rq:type_of% @Za9.eq_1:=λ _ _ _=>qI
noncomputable def ZgY (t:Int) (nm ou:Str) (bs:List B4) (wb:Int):PyData:=.tuple [.str (Str.ofString "land"),.int t,.str nm,.str ou,.tuple (bs.map bD),.int wb]
def Za2:DSp:=λ xs M Φ=>on3 xs λ x y z=>onO x λ p=>onO y λ q=>onI z λ t=>Wd M q /\ q ≠ p /\ Pen M p /\
 ∀ nm ou bs f ox oy wb M',QD nm->(ou = Str.ofString "" \/ QD ou)->Grd bs->Frm f ox oy->(0 <= wb /\ wb <= 30000000000)->Fr p M M'->Φ (.dat (ZgY t nm ou (bs.map (FZ f ox oy)) wb)) M'
theorem TU:type_of% @Za2.eq_1:=λ _ _ _=>qI
theorem QD.is (h:QD s):Zx (.str s) = true:=by
 show ((decide (1 <= s.length) && decide (s.length <= 8)) && s.cps.toList.all CM) = true;rw [decide_eq_true h.1.1,decide_eq_true h.1.2];exact List.all_eq_true.mpr λ c hc=>by unfold CM; rw [decide_eq_true (h.2 c hc).1,decide_eq_true (h.2 c hc).2]; rfl
def Zix (s:Str):Prop:=∃ c,s = ⟨#[c]⟩ /\ 97 <= c /\ c <= 122
theorem abc:(Str.ofString "abcdefghijklmnopqrstuvwxyz").cps.toList = (List.range 26).map λ k=>97 + k:=by walk_at "k"
theorem LV:(Str.ofString "abcdefghijklmnopqrstuvwxyz").length = 26:=by walk_at "k"
theorem ZaL (h0:0 <= i) (h1:i < 26):∃ c,L2.atI (Str.ofString "abcdefghijklmnopqrstuvwxyz").cps.toList i = some c /\ 97 <= c /\ c <= 122:=by
 obtain ⟨k,rfl⟩:=Int.eq_ofNat_of_zero_le h0;refine ⟨97 + k,?_,by lia,by lia⟩;rw [abc];refine Qv ?_;rw [List.getElem?_map,List.getElem?_range (by lia)];rfl
theorem Cw:∀ {ss:List Str},(∀ s ∈ ss,Zix s)->((ss.map (·.cps.toList)).flatten).length = ss.length /\ ∀ c ∈ (ss.map (·.cps.toList)).flatten,97 <= c /\ c <= 122
 | [],_=>⟨rfl,λ c hc=>(nomatch hc)⟩
 | s :: ss,h=>by
  obtain ⟨c,rfl,hc⟩:=h s List.mem_cons_self;obtain ⟨i1,i2⟩:=Cw λ t ht=>h t (List.mem_cons_of_mem _ ht);rw [List.map_cons,List.flatten_cons,Ka];refine ⟨by rw [List.length_append,i1,List.length_cons]; simp; lia,λ d hd=>?_⟩
  rcases List.mem_append.mp hd with hd | hd
  ·rw [List.mem_singleton.mp hd];exact hc
  ·exact i2 d hd
theorem MJ {ss:List Str} (h8:ss.length = 8) (h:∀ s ∈ ss,Zix s):(Txt.join (Str.ofString "") ss).length = 8 /\ ∀ c ∈ (Txt.join (Str.ofString "") ss).cps.toList,97 <= c /\ c <= 122:=by
 obtain ⟨i1,i2⟩:=Cw h;rw [<- str_len,DL.join_list];exact ⟨by lia,i2⟩
theorem tabS {l:List Str} {r:Int} (P:Str->Prop) (h0:0 <= r) (h1:r < l.length) (hl:∀ s ∈ l,P s) {Q:PyData->Prop} (k:∀ s,P s->Q (.str s)):U8 (l.map PyData.str) r Q:=by
 obtain ⟨n,rfl⟩:=Int.eq_ofNat_of_zero_le h0;have hn:n < l.length:=by lia
 refine QJ (d:=.str l[n]) (Qv (by rw [List.getElem?_map,List.getElem?_eq_getElem hn]; rfl)) (k _ (hl _ (List.getElem_mem hn)))
theorem LK:∀ s ∈ (["land", "drop", "free", "spot", "comes", "goes", "in", "out", "stays", "wait", "none", "a", "z"]:List Str),QD s:=by
 unfold QD
 decide +kernel
def Nms (i:Nat) (acc:List PyData):Prop:=∃ ss:List Str,acc = ss.map PyData.str /\ ss.length = i /\ ∀ s ∈ ss,QD s
theorem Nms.snoc {i:Nat} {acc:List PyData} (h:Nms i acc) (hs:QD s):Nms (i + 1) (acc ++ [.str s]):=by
 obtain ⟨ss,rfl,hl,ha⟩:=h;refine ⟨ss ++ [s],by rw [List.map_append]; rfl,by rw [List.length_append,hl]; rfl,λ t ht=>?_⟩
 rcases List.mem_append.mp ht with ht | ht
 ·exact ha t ht
 ·rw [List.mem_singleton.mp ht];exact hs
theorem Fr.fresh (h:Fr p M M') (hq:M' q = none):M q = none:=by
 cases e:M q with
 | none=>rfl
 | some o=>
  have hn:q ≠ p:=Ne.symm (h.1.ne hq);rw [h.own e hn] at hq;cases hq
theorem Fr.gone (h:Fr p M M') (hq:M q = none) (hne:q ≠ p):Fr p M (DL.YI M' q):=⟨h.1.del (Ne.symm hne),λ a ha hn=>by
 rw [Xh (λ e=>hn (by rw [e]; exact hq))]
 exact h.2 a ha hn⟩
theorem Hd:∀ (l:List B4) (b c:B4),chB (l ++ [b,c]) = (chB (l ++ [b]) && decide (Ql b c <= 1))
 | [],b,c=>by
  show (decide (Ql b c <= 1) && true) = (true && decide (Ql b c <= 1))
  rw [Bool.and_true,Bool.true_and]
 | [a],b,c=>by
  show (decide (Ql a b <= 1) && (decide (Ql b c <= 1) && true)) = ((decide (Ql a b <= 1) && true) && decide (Ql b c <= 1))
  rw [Bool.and_true,Bool.and_true]
 | a :: a' :: l,b,c=>by
  have ih:=Hd (a' :: l) b c;show (decide (Ql a a' <= 1) && chB (a' :: l ++ [b,c])) = ((decide (Ql a a' <= 1) && chB (a' :: l ++ [b])) && decide (Ql b c <= 1))
  rw [ih,Bool.and_assoc]
theorem Zdf {a b a' b':Int} (h1:a' - b <= 1) (h2:a - b' <= 1):gp a b a' b' <= 1:=by
 unfold gp;lia
theorem Rr {a b:B4} (h1:b.x - a.X <= 1) (h2:a.x - b.X <= 1) (h3:b.y - a.Y <= 1) (h4:a.y - b.Y <= 1):Ql a b <= 1:=Int.max_le.mpr ⟨Zdf h1 h2,Zdf h3 h4⟩
theorem Hv (k:Key) (d:PyData) (ps:List (Key × PyData)):Vm ((k,d) :: ps) k = some d:=by
 unfold Vm;rw [List.find?_cons_of_pos (by simp)];rfl
theorem Yy {k k':Key} (d:PyData) (ps:List (Key × PyData)) (h:k' ≠ k):Vm ((k',d) :: ps) k = Vm ps k:=by
 unfold Vm;rw [List.find?_cons_of_neg (by simpa using h)]
theorem Xb {ps:List (Key × PyData)} {k:Key} (e:Vm ps k = some d) (Q:PyData->Prop):(Oj (some (.dkv ps)) λ ps=>∃ d,Vm ps k = some d /\ Q d) = Q d:=propext ⟨λ ⟨d',e',h⟩=>by
 rw [e,Option.some.injEq] at e';rw [e']
 exact h,λ h=>⟨d,e,h⟩⟩
theorem Zky (f ox oy bg sp:Int) (ts ls:List Str) (Q:PyData->Prop):(Oj (some (ZdX f ox oy bg sp ts ls)) λ ps=>∃ d,Vm ps (.inr (Str.ofString "by")) = some d /\ Q d) = Q (.int f):=Xb (Hv _ _ _) Q
theorem Zc5 (f ox oy bg sp:Int) (ts ls:List Str) (Q:PyData->Prop):(Oj (some (ZdX f ox oy bg sp ts ls)) λ ps=>∃ d,Vm ps (.inr (Str.ofString "off")) = some d /\ Q d) = Q (.tuple [.int ox,.int oy]):=Xb ((Yy _ _ (by walk_at "k")).trans (Hv _ _ _)) Q
theorem ZdT (f ox oy bg sp:Int) (ts ls:List Str) (Q:PyData->Prop):(Oj (some (ZdX f ox oy bg sp ts ls)) λ ps=>∃ d,Vm ps (.inr (Str.ofString "begin")) = some d /\ Q d) = Q (.int bg):=Xb ((Yy _ _ (by walk_at "k")).trans ((Yy _ _ (by walk_at "k")).trans (Hv _ _ _))) Q
theorem ZfK (f ox oy bg sp:Int) (ts ls:List Str) (Q:PyData->Prop):(Oj (some (ZdX f ox oy bg sp ts ls)) λ ps=>∃ d,Vm ps (.inr (Str.ofString "span")) = some d /\ Q d) = Q (.int sp):=Xb ((Yy _ _ (by walk_at "k")).trans ((Yy _ _ (by walk_at "k")).trans ((Yy _ _ (by walk_at "k")).trans (Hv _ _ _)))) Q
theorem TC (f ox oy bg sp:Int) (ts ls:List Str) (Q:PyData->Prop):(Oj (some (ZdX f ox oy bg sp ts ls)) λ ps=>∃ d,Vm ps (.inr (Str.ofString "things")) = some d /\ Q d) = Q (.list (ts.map PyData.str)):=Xb ((Yy _ _ (by walk_at "k")).trans ((Yy _ _ (by walk_at "k")).trans ((Yy _ _ (by walk_at "k")).trans ((Yy _ _ (by walk_at "k")).trans (Hv _ _ _))))) Q
theorem ML (f ox oy bg sp:Int) (ts ls:List Str) (Q:PyData->Prop):(Oj (some (ZdX f ox oy bg sp ts ls)) λ ps=>∃ d,Vm ps (.inr (Str.ofString "lands")) = some d /\ Q d) = Q (.list (ls.map PyData.str)):=Xb ((Yy _ _ (by walk_at "k")).trans ((Yy _ _ (by walk_at "k")).trans ((Yy _ _ (by walk_at "k")).trans ((Yy _ _ (by walk_at "k")).trans ((Yy _ _ (by walk_at "k")).trans (Hv _ _ _)))))) Q
theorem Dp {a f lo hi:Int} (h1:lo <= a) (h2:a <= hi) (hf:1 <= f):lo * f <= a * f /\ a * f <= hi * f:=⟨Int.mul_le_mul_of_nonneg_right h1 (by lia),Int.mul_le_mul_of_nonneg_right h2 (by lia)⟩
theorem Zag (n:Nat) (ls:List Str):(List.replicate n [PyData.str (Str.ofString "")]).flatten ++ ls.map PyData.str = (List.replicate n (Str.ofString "") ++ ls).map PyData.str:=by
 rw [List.map_append,List.map_replicate]
 congr 1
 induction n with
 | zero=>rfl
 | succ n ih=>rw [List.replicate_succ,List.flatten_cons,ih]; rfl
theorem Zgz {x f r2:Int} (h0:0 <= x) (h3:x <= 3) (hf:1 <= f /\ f <= 10000000000) (hr:r2 = 1 \/ r2 = 2):0 <= x * f / r2 /\ x * f / r2 <= 30000000000:=by
 have e:=Dp h0 h3 hf.1
 rcases hr with rfl | rfl <;> lia
structure Pl (k n:Nat) (d:PyData):Prop where
 s:d.showable = true
 nd:d.hasDict = false
 nl:Qj d = false
 dp:d.depth <= k
 z:cost d <= n
structure Pls (k n:Nat) (l:List PyData):Prop where
 s:PyData.showableAll l = true
 nd:PyData.hasDictAll l = false
 nl:ZT l = false
 dp:PyData.depthAll l <= k
 z:QS l <= n
structure Od (k n:Nat) (d:PyData):Prop where
 s:d.showable = true
 m:(d.hasDict && Qj d) = false
 dp:d.depth <= k
 z:cost d <= n
theorem Pl.od {k:Nat} (h:Pl k n d):Od k n d:=⟨h.s,by rw [h.nd]; rfl,h.dp,h.z⟩
theorem Od.le {k k':Nat} (h:Od k n d) (hk:k <= k') (hn:n <= n'):Od k' n' d:=⟨h.s,h.m,Nat.le_trans h.dp hk,Nat.le_trans h.z hn⟩
theorem Pl.le {k k':Nat} (h:Pl k n d) (hk:k <= k') (hn:n <= n'):Pl k' n' d:=⟨h.s,h.nd,h.nl,Nat.le_trans h.dp hk,Nat.le_trans h.z hn⟩
theorem Od.shw {k:Nat} (h:Od k n d) (hk:k <= 64) (hn:n <= 1000000):Shw d:=Shw.of h.s h.m (Nat.le_trans h.dp hk) (Nat.le_trans h.z hn)
theorem Pls.nil:Pls 0 0 []:=⟨by simp [PyData.showableAll],by simp [PyData.hasDictAll],by simp [ZT],by simp [PyData.depthAll],by simp [QS]⟩
theorem Pls.cons {k k':Nat} (h:Pl k n d) (t:Pls k' m l):Pls (max k k') (n + 2 + m) (d :: l):=
 ⟨by simp only [PyData.showableAll,h.s,t.s,Bool.and_self],by simp only [PyData.hasDictAll,h.nd,t.nd,Bool.or_self],by simp only [ZT,h.nl,t.nl,Bool.or_self],
  by simp only [PyData.depthAll]; have:=h.dp; have:=t.dp; lia,by simp only [QS]; have:=h.z; have:=t.z; lia⟩
theorem Pls.le {k k':Nat} (h:Pls k n l) (hk:k <= k') (hn:n <= n'):Pls k' n' l:=⟨h.s,h.nd,h.nl,Nat.le_trans h.dp hk,Nat.le_trans h.z hn⟩
theorem Pls.all {k n m:Nat}:∀ {l:List PyData},l.length <= m->(∀ d ∈ l,Pl k n d)->Pls k ((n + 2) * m) l
 | [],_,_=>Pls.nil.le (Nat.zero_le _) (Nat.zero_le _)
 | d :: l,hm,h=>by
  obtain ⟨m,rfl⟩:∃ m',m = m' + 1:=⟨m - 1,by rw [List.length_cons] at hm; lia⟩
  refine (Pls.cons (h d List.mem_cons_self) (Pls.all (m:=m) (by rw [List.length_cons] at hm; lia) λ e he=>h e (List.mem_cons_of_mem _ he))).le (by lia) ?_;rw [Nat.mul_succ];lia
theorem Pls.app {k n m:Nat}:∀ {l l':List PyData},Pls k n l->Pls k m l'->Pls k (n + m) (l ++ l')
 | [],l',_,h=>h.le (Nat.le_refl _) (by lia)
 | d :: l,l',g,h=>by
  have gs:=g.s;have gd:=g.nd;have gl:=g.nl;have gp:=g.dp;have gz:=g.z;simp only [PyData.showableAll,Bool.and_eq_true] at gs;simp only [PyData.hasDictAll,Bool.or_eq_false_iff] at gd;simp only [ZT,Bool.or_eq_false_iff] at gl;simp only [PyData.depthAll] at gp;simp only [QS] at gz;have t:=Pls.app (k:=k) (l:=l) (n:=n - (cost d + 2)) ⟨gs.2,gd.2,gl.2,by lia,by lia⟩ h;exact (Pls.cons (k:=k) (d:=d) ⟨gs.1,gd.1,gl.1,by lia,Nat.le_refl _⟩ t).le (by lia) (by lia)
theorem Pl.tup {k:Nat} (h:Pls k n l):Pl (k + 1) (n + 3) (.tuple l):=
 ⟨by simp only [PyData.showable.eq_6,h.s],by simp only [PyData.hasDict,h.nd],by simp only [Qj,h.nl],by simp only [PyData.depth]; have:=h.dp; lia,by simp only [cost]; have:=h.z; lia⟩
theorem Od.lst {k:Nat} (h:Pls k n l):Od (k + 1) (n + 2) (.list l):=
 ⟨by simp only [PyData.showable,h.s],by simp only [PyData.hasDict,h.nd]; rfl,by simp only [PyData.depth]; have:=h.dp; lia,by simp only [cost]; have:=h.z; lia⟩
theorem Od.dct:Od 1 2 (.dict []):=⟨by simp [PyData.showable,PyData.showableKv],by simp [Qj,Vn],by simp [PyData.depth,PyData.depthKv],by simp [cost,WO]⟩
theorem Od.tup {k a b:Nat} {e:PyData}:∀ {l l':List PyData},Pls k a l->Od k n e->Pls k b l'->PyData.showableAll (l ++ e :: l') = true /\ PyData.hasDictAll (l ++ e :: l') = e.hasDict /\ ZT (l ++ e :: l') = Qj e /\ PyData.depthAll (l ++ e :: l') <= k /\ QS (l ++ e :: l') <= a + (n + 2 + b)
 | [],l',g,h,g'=>by
  have:=g'.dp;have:=h.dp;have:=g'.z;have:=h.z;refine ⟨?_,?_,?_,?_,?_⟩
  ·simp only [List.nil_append,PyData.showableAll,h.s,g'.s,Bool.and_self]
  ·simp only [List.nil_append,PyData.hasDictAll,g'.nd,Bool.or_false]
  ·simp only [List.nil_append,ZT,g'.nl,Bool.or_false]
  ·simp only [List.nil_append,PyData.depthAll]; lia
  ·simp only [List.nil_append,QS]; lia
 | d :: l,l',g,h,g'=>by
  have gs:=g.s;have gd:=g.nd;have gl:=g.nl;have gp:=g.dp;have gz:=g.z;simp only [PyData.showableAll,Bool.and_eq_true] at gs;simp only [PyData.hasDictAll,Bool.or_eq_false_iff] at gd;simp only [ZT,Bool.or_eq_false_iff] at gl;simp only [PyData.depthAll] at gp;simp only [QS] at gz;obtain ⟨t1,t2,t3,t4,t5⟩:=Od.tup (l:=l) (a:=a - (cost d + 2)) ⟨gs.2,gd.2,gl.2,by lia,by lia⟩ h g';refine ⟨?_,?_,?_,?_,?_⟩
  ·simp only [List.cons_append,PyData.showableAll,gs.1,t1,Bool.and_self]
  ·simp only [List.cons_append,PyData.hasDictAll,gd.1,t2,Bool.false_or]
  ·simp only [List.cons_append,ZT,gl.1,t3,Bool.false_or]
  ·simp only [List.cons_append,PyData.depthAll]; lia
  ·simp only [List.cons_append,QS]; lia
theorem Od.put {k a b:Nat} {e:PyData} {l':List PyData} (g:Pls k a l) (h:Od k n e) (g':Pls k b l'):Od (k + 1) (a + (n + 2 + b) + 3) (.tuple (l ++ e :: l')):=by
 obtain ⟨t1,t2,t3,t4,t5⟩:=Od.tup g h g';exact ⟨by simp only [PyData.showable.eq_6,t1],by simp only [PyData.hasDict,Qj,t2,t3,h.m],by simp only [PyData.depth]; lia,by simp only [cost]; lia⟩
theorem Pu (h:-(10 ^ 60) <= i /\ i <= 10 ^ 60):Pl 0 1921 (.int i):=⟨Mid.show ⟨by lia,by lia⟩,by simp [PyData.hasDict],by simp [Qj],by simp [PyData.depth],by simp [cost]⟩
theorem ZkD (h:∀ c ∈ s.cps.toList,c < 16 ^ 8) (hn:s.length <= n):Pl 0 (10 * n + 2) (.str s):=⟨by simp [PyData.showable],by simp [PyData.hasDict],by simp [Qj],by simp [PyData.depth],by
 simp only [cost];have:=StrLaws.reprText_len s h
 lia⟩
theorem S4 (t:String):∀ c ∈ (Str.ofString t).cps.toList,c < 16 ^ 8:=by
 intro c hc;rw [PySem.Str.ofString_eq_toList] at hc;simp at hc;obtain ⟨a,_,rfl⟩:=hc;have h:=a.valid;show a.val.toNat < 16 ^ 8;unfold UInt32.isValidChar Nat.isValidChar at h;lia
theorem Pr (t:String) (hn:(Str.ofString t).length <= n):Pl 0 (10 * n + 2) (.str (Str.ofString t)):=ZkD (S4 t) hn
theorem pNm (h:QD s):Pl 0 82 (.str s):=ZkD (n:=8) (λ c hc=>by have:=h.2 c hc; lia) h.1.2
theorem pSp {x y:Int} (hx:Sh x) (hy:Sh y):Pl 1 3849 (.tuple [.int x,.int y]):=
 (Pl.tup (Pls.cons (Pu (by unfold Sh at hx; lia)) (Pls.cons (Pu (by unfold Sh at hy; lia)) Pls.nil))).le (by decide) (by decide)
theorem fn {Q:PyData->Prop}:∀ d ∈ ([]:List PyData),Q d:=λ _ h=>(nomatch h)
structure Thg (d:PyData):Prop where
 t:Yp d = true
 o:Od 20 90000 d
theorem Od.th {k:Nat} (h:Od k n d) (t:Yp d = true) (hk:autoParam (k <= 20) zz1._auto_1) (hn:autoParam (n <= 90000) zz1._auto_1):Thg d:=⟨t,h.le hk hn⟩
theorem Pl.th {k:Nat} (h:Pl k n d) (t:Yp d = true) (hk:autoParam (k <= 20) zz1._auto_1) (hn:autoParam (n <= 90000) zz1._auto_1):Thg d:=h.od.th t hk hn
def ZeP (bs:List B4):Prop:=(1 <= bs.length /\ bs.length <= 6) /\ chB bs = true /\ ∀ b ∈ bs,okB b = true /\ (Sh b.x /\ Sh b.y) /\ (Sh b.X /\ Sh b.Y)
def Zfj (w:Str) (l:List PyData):Prop:=w = Str.ofString "land" /\ ∃ (ou:Str) (bs:List B4) (wb:Int),l = [.str ou,.tuple (bs.map bD),.int wb] /\ (ou = Str.ofString "" \/ QD ou) /\ ZeP bs /\ (0 <= wb /\ wb <= 30000000000)
def ZeX (w:Str) (l:List PyData):Prop:=w = Str.ofString "spot" /\ ∃ u v:Int,l = [.tuple [.int u,.int v]] /\ Sh u /\ Sh v
def Zh2 (w:Str) (l:List PyData):Prop:=(w = Str.ofString "drop" \/ w = Str.ofString "free") /\ l = []
def Tel (ds:List PyData):Prop:=∃ (w:Str) (t:Int) (nm:Str) (l:List PyData),ds = .str w :: .int t :: .str nm :: l /\ (0 <= t /\ t <= 1000000000000) /\ QD nm /\ (Zfj w l \/ ZeX w l \/ Zh2 w l)
def Gw (M M':Mp):Prop:=∀ a,M a ≠ none->M' a = M a
theorem Gw.refl:Gw M M:=λ _ _=>rfl
theorem Gw.trans {M1 M2:Mp} (h:Gw M M1) (k:Gw M1 M2):Gw M M2:=λ a ha=>by
 rw [k a (by rw [h a ha]; exact ha),h a ha]
theorem Gw.new (h:Gw M M') (hq:M' q = none):Gw M (ZR M' q o):=λ a ha=>by
 have e:=h a ha;rw [ZF (λ z=>ha (by rw [<- e,z]; exact hq)),e]
theorem Gw.pen (h:Gw M M') (hp:Pen M p):Pen M' p:=by
 obtain ⟨o,h1,h2⟩:=hp;exact ⟨o,h1,by rw [h p (by rw [h2]; exact Option.some_ne_none _)]; exact h2⟩
theorem Gw.wd (h:Gw M M') (hw:Wd M q):Wd M' q:=by
 obtain ⟨f,ox,oy,bg,sp,ts,ls,hq,hh⟩:=hw;exact ⟨f,ox,oy,bg,sp,ts,ls,by rw [h q (by rw [hq]; exact Option.some_ne_none _)]; exact hq,hh⟩
def Knd (w:Str) (l:List PyData):Prop:=Zfj w l \/ ZeX w l \/ Zh2 w l
theorem Zgd (h:QD s):Yp (.str s) = true:=decide_eq_true (by have:=h.1; lia)
theorem Ci {bs:List B4} (hs:ZeP bs):Pl 3 46245 (.tuple (bs.map bD)):=by
 refine (Pl.tup (Pls.all (k:=2) (n:=7705) (m:=6) (by rw [List.length_map]; exact hs.1.2) λ d hd=>?_)).le (by decide) (by decide);obtain ⟨c,hc,rfl⟩:=List.mem_map.mp hd;have hc:=hs.2.2 c hc;exact (Pl.tup (Pls.cons (pSp hc.2.1.1 hc.2.1.2) (Pls.cons (pSp hc.2.2.1 hc.2.2.2) Pls.nil))).le (by decide) (by decide)
theorem LP {w:Str} (h:Knd w l):Pls 19 60000 l /\ l.all Yp = true /\ l.length <= 3 /\ Pl 0 102 (.str w) /\ Yp (.str w) = true:=by
 rcases h with ⟨rfl,ou,bs,wb,rfl,ho,hs,hw⟩ | ⟨rfl,u,v,rfl,hu,hv⟩ | ⟨hw,rfl⟩
 ·have po:Pl 0 102 (.str ou) /\ Yp (.str ou) = true:=by
   rcases ho with rfl | ho
   ·exact ⟨Pr "" (n:=10) (by walk_at "k"),by walk_at "k"⟩
   ·exact ⟨(pNm ho).le (by decide) (by decide),Zgd ho⟩
  refine ⟨(Pls.cons po.1 (Pls.cons (Ci hs) (Pls.cons (Pu (by lia)) Pls.nil))).le (by decide) (by decide),?_,by simp,Pr "land" (n:=10) (by walk_at "k"),by walk_at "k"⟩;show (Yp (.str ou) && _) = true;rw [po.2];rfl
 ·exact ⟨(Pls.cons (pSp hu hv) Pls.nil).le (by decide) (by decide),rfl,by simp,Pr "spot" (n:=10) (by walk_at "k"),by walk_at "k"⟩
 ·refine ⟨Pls.nil.le (by decide) (by decide),rfl,by simp,?_⟩
  rcases hw with rfl | rfl
  ·exact ⟨Pr "drop" (n:=10) (by walk_at "k"),by walk_at "k"⟩
  ·exact ⟨Pr "free" (n:=10) (by walk_at "k"),by walk_at "k"⟩
theorem Zld:isS (.str (Str.ofString "land")) (Str.ofString "land") = true:=by walk_at "k"
theorem Zls:isS (.str (Str.ofString "spot")) (Str.ofString "land") = false:=by walk_at "k"
theorem ZkZ:isS (.str (Str.ofString "spot")) (Str.ofString "spot") = true:=by walk_at "k"
theorem Zgr (l:List PyData):JG (.str (Str.ofString "land")) l = GU l:=by unfold JG; rw [if_pos Zld]
theorem Zho (l:List PyData):JG (.str (Str.ofString "spot")) l = Zdm l:=by unfold JG; rw [Zls,if_neg (by decide),if_pos ZkZ]
theorem Lb {x:Int} (h:Sh x):ZG (.int x) = true:=by
 show (decide (-999999999999 <= x) && decide (x <= 999999999999)) = true;rw [decide_eq_true h.1,decide_eq_true h.2];rfl
theorem Sn {bs:List B4} (h:ZeP bs):ZS (.tuple (bs.map bD)) = true:=by
 show ((decide (1 <= (bs.map bD).length) && decide ((bs.map bD).length <= 6)) && ((bs.map bD).all Z4 && chB ((bs.map bD).map toB))) = true;rw [Yt,h.2.1,List.length_map,decide_eq_true h.1.1,decide_eq_true h.1.2,List.all_eq_true.mpr λ d hd=>?_]
 ·rfl
 ·obtain ⟨b,hb,rfl⟩:=List.mem_map.mp hd;obtain ⟨h1,⟨h2,h3⟩,h4,h5⟩:=h.2.2 b hb;show ((ZG (.int b.x) && ZG (.int b.y)) && ((ZG (.int b.X) && ZG (.int b.Y)) && okB b)) = true;rw [Lb h2,Lb h3,Lb h4,Lb h5,h1];rfl
theorem Zia {w:Str} (h:Knd w l):JG (.str w) l = true:=by
 rcases h with ⟨rfl,ou,bs,wb,rfl,ho,hs,hw⟩ | ⟨rfl,u,v,rfl,hu,hv⟩ | ⟨hw,rfl⟩
 ·rw [Zgr];show ((isS (.str ou) (Str.ofString "") || Zx (.str ou)) && (ZS (.tuple (bs.map bD)) && (decide (0 <= wb) && decide (wb <= 999999999999)))) = true;rw [Sn hs,decide_eq_true hw.1,decide_eq_true (show wb <= 999999999999 by lia)]
  rcases ho with rfl | ho
  ·decide +kernel
  ·rw [ho.is,Bool.or_true];rfl
 ·rw [Zho];show (ZG (.int u) && ZG (.int v)) = true;rw [Lb hu,Lb hv];rfl
 ·rcases hw with rfl | rfl <;> decide +kernel
theorem ZfM {D:List PyData} (h:Tel D):Zu (.tuple D) = true /\ Zig (.tuple D) = true:=by
 obtain ⟨w,t,nm,l,rfl,ht,hn,hk⟩:=h;obtain ⟨_,lt,_,_,wt⟩:=LP hk;constructor
 ·show ((decide (0 <= t) && decide (t <= 1000000000000)) && (Zx (.str nm) && JG (.str w) l)) = true;rw [decide_eq_true ht.1,decide_eq_true ht.2,hn.is,Zia hk];rfl
 ·show (Yp (.str w) && (true && (Yp (.str nm) && l.all Yp))) = true;rw [wt,Zgd hn,lt];rfl
theorem ZaS {a b a' b' f o:Int} (hf:1 <= f) (h:gp a b a' b' <= 1):gp (a * f + o) (b * f + f - 1 + o) (a' * f + o) (b' * f + f - 1 + o) <= 1:=by
 have h1:a' - b <= 1:=by unfold gp at h; lia
 have h2:a - b' <= 1:=by unfold gp at h; lia
 have e1:a' * f <= (b + 1) * f:=Int.mul_le_mul_of_nonneg_right (by lia) (by lia);have e2:a * f <= (b' + 1) * f:=Int.mul_le_mul_of_nonneg_right (by lia) (by lia);rw [Int.add_mul,Int.one_mul] at e1 e2;exact Zdf (by lia) (by lia)
theorem ZaG {f ox oy:Int} (hf:1 <= f):∀ bs:List B4,chB bs = true->chB (bs.map (FZ f ox oy)) = true
 | [],_=>rfl
 | [_],_=>rfl
 | a :: b :: l,h=>by
  have h':decide (Ql a b <= 1) = true /\ chB (b :: l) = true:=Bool.and_eq_true_iff.mp h;show (decide (Ql (FZ f ox oy a) (FZ f ox oy b) <= 1) && chB ((b :: l).map (FZ f ox oy))) = true;rw [ZaG hf (b :: l) h'.2];have k:=Int.max_le.mp (of_decide_eq_true h'.1);rw [decide_eq_true (show Ql (FZ f ox oy a) (FZ f ox oy b) <= 1 from Int.max_le.mpr ⟨ZaS hf k.1,ZaS hf k.2⟩)];rfl
theorem Zcb {bs:List B4} {f ox oy:Int} (h:Grd bs) (hf:Frm f ox oy):ZeP (bs.map (FZ f ox oy)):=by
 obtain ⟨⟨f1,f2⟩,hx,hy⟩:=hf;refine ⟨by rw [List.length_map]; exact h.1,ZaG f1 bs h.2.1,λ c hc=>?_⟩;obtain ⟨b,hb,rfl⟩:=List.mem_map.mp hc;obtain ⟨⟨g1,g2⟩,⟨g3,g4⟩,g5,g6⟩:=h.2.2 b hb;have a1:=Dp (a:=b.x) (lo:=-20) (hi:=35) (by lia) (by lia) f1;have a2:=Dp (a:=b.y) (lo:=-20) (hi:=35) (by lia) (by lia) f1;have a3:=Dp (a:=b.X) (lo:=-20) (hi:=35) (by lia) (by lia) f1;have a4:=Dp (a:=b.Y) (lo:=-20) (hi:=35) (by lia) (by lia) f1;have c1:b.x * f <= b.X * f:=Int.mul_le_mul_of_nonneg_right g1 (by lia);have c2:b.y * f <= b.Y * f:=Int.mul_le_mul_of_nonneg_right g2 (by lia);unfold FZ okB Sh;dsimp only;refine ⟨?_,⟨⟨by lia,by lia⟩,by lia,by lia⟩,⟨by lia,by lia⟩,by lia,by lia⟩;rw [decide_eq_true (show b.x * f + ox <= b.X * f + f - 1 + ox by lia),decide_eq_true (show b.y * f + oy <= b.Y * f + f - 1 + oy by lia)];rfl
theorem Wd.put {g:Addr} (h:Wd M q) (hq:q ≠ g):Wd (DL.ZR M g o) q:=by
 obtain ⟨f,ox,oy,bg,sp,ts,ls,h1,hh⟩:=h;exact ⟨f,ox,oy,bg,sp,ts,ls,by rw [ZF hq]; exact h1,hh⟩
theorem Wd.del {g:Addr} (h:Wd M q) (hq:q ≠ g):Wd (DL.YI M g) q:=by
 obtain ⟨f,ox,oy,bg,sp,ts,ls,h1,hh⟩:=h;exact ⟨f,ox,oy,bg,sp,ts,ls,by rw [Xh hq]; exact h1,hh⟩
def Cj:DSp:=λ xs M Φ=>on2 xs λ x y=>onO x λ p=>onO y λ q=>Wd M q /\ q ≠ p /\ Pen M p /\ ∀ D M',Tel D->Fr p M M'->Φ (.dat (.tuple D)) M'
theorem Dj:type_of% @Cj.eq_1:=λ _ _ _=>qI
open PySem.Builtin PySem.Builtin.Str
noncomputable def sg1 (c:Nat):Str:=⟨#[c]⟩
theorem Qf {a:Str} (h:a.cps.toList = b.cps.toList):a = b:=by
 cases a; cases b;exact congrArg _ (Array.ext' h)
noncomputable def jn (c:List Nat):List (List Nat)->List Nat
 | []=>[]
 | [p]=>p
 | p :: q :: r=>p ++ c ++ jn c (q :: r)
theorem Qp (y:Str):∀ ps:List Str,(Txt.join y ps).cps.toList = jn y.cps.toList (ps.map λ p=>p.cps.toList):=λ ps=>by
 show (glued y ps).cps.toList = _;rw [StrLaws.glued_eq_join]
 induction ps with
 | nil=>rfl
 | cons p ps ih=>
  cases ps with
  | nil=>rfl
  | cons q r=>
   have e:PySem.Str.join y (p :: q :: r) = p ++ y ++ PySem.Str.join y (q :: r):=rfl;rw [e,add_list,add_list,ih];rfl
theorem JB {c:Nat}:∀ {p r:List Nat},c ∉ p->(p ++ c :: r).takeWhile (λ d=>d != c) = p /\ (p ++ c :: r).dropWhile (λ d=>d != c) = c :: r
 | [],r,_=>by simp
 | d :: p,r,h=>by
  have hd:d ≠ c:=λ e=>h (by rw [e]; exact List.mem_cons_self);have ih:=JB (p:=p) (r:=r) λ m=>h (List.mem_cons_of_mem _ m);have hb:(d != c) = true:=by simpa using hd
  rw [List.cons_append,List.takeWhile_cons_of_pos (p:=λ d=>d != c) hb,List.dropWhile_cons_of_pos (p:=λ d=>d != c) hb,ih.1,ih.2];exact ⟨rfl,rfl⟩
theorem Zai {c:Nat}:∀ {a b:List (List Nat)},a ≠ []->b ≠ []->(∀ p ∈ a,c ∉ p)->(∀ p ∈ b,c ∉ p)->jn [c] a = jn [c] b->a = b
 | [],_,h,_,_,_,_=>absurd rfl h
 | _,[],_,h,_,_,_=>absurd rfl h
 | [p],[q],_,_,_,_,e=>by rw [show p = q from e]
 | [p],q :: s :: r,_,_,ha,_,e=>by
  have e:p = q ++ [c] ++ jn [c] (s :: r):=e;exact absurd (by rw [e]; simp) (ha p (.head _))
 | p :: s :: r,[q],_,_,_,hb,e=>by
  have e:p ++ [c] ++ jn [c] (s :: r) = q:=e;exact absurd (by rw [<- e]; simp) (hb q (.head _))
 | p :: s :: r,q :: s' :: r',_,_,ha,hb,e=>by
  have e:p ++ [c] ++ jn [c] (s :: r) = q ++ [c] ++ jn [c] (s' :: r'):=e;rw [List.append_assoc,List.append_assoc,List.singleton_append,List.singleton_append] at e;have t1:=JB (r:=jn [c] (s :: r)) (ha p (.head _));have t2:=JB (r:=jn [c] (s' :: r')) (hb q (.head _));rw [e] at t1;have e1:p = q:=t1.1.symm.trans t2.1;have e2:jn [c] (s :: r) = jn [c] (s' :: r'):=(List.cons.inj (t1.2.symm.trans t2.2)).2;rw [e1,Zai (List.cons_ne_nil _ _) (List.cons_ne_nil _ _) (λ p hp=>ha p (.tail _ hp)) (λ p hp=>hb p (.tail _ hp)) e2]
theorem V3 (x y:Str):Txt.split x y ≠ []:=by
 unfold Txt.split
 split
 ·exact List.cons_ne_nil _ _
 ·split
  ·exact List.cons_ne_nil _ _
  ·intro e;have:=congrArg List.length e;rw [length_partsBetween] at this;simp at this
theorem V0 {c:Nat} (h0:ps ≠ []) (hf:∀ p ∈ ps,c ∉ p.cps.toList):Txt.split (Txt.join (sg1 c) ps) (sg1 c) = ps:=by
 have h1:=StrLaws.join_split (Txt.join (sg1 c) ps) (sg1 c);have h2:=StrLaws.split_free (Txt.join (sg1 c) ps) c;have h3:=V3 (Txt.join (sg1 c) ps) (sg1 c);have h2:∀ p ∈ Txt.split (Txt.join (sg1 c) ps) (sg1 c),c ∉ p.cps.toList:=h2;generalize Txt.split (Txt.join (sg1 c) ps) (sg1 c) = qs at h1 h2 h3 ⊢;rw [<- StrLaws.glued_eq_join] at h1;have h1:Txt.join (sg1 c) qs = Txt.join (sg1 c) ps:=h1;have e:=congrArg (λ s:Str=>s.cps.toList) h1;rw [Qp,Qp] at e
 have e2:qs.map (λ p=>p.cps.toList) = ps.map λ p=>p.cps.toList:=Zai (c:=c) (by simpa using h3) (by simpa using h0) (λ p hp=>by
  obtain ⟨q,hq,rfl⟩:=List.mem_map.mp hp
  exact h2 q hq) (λ p hp=>by
  obtain ⟨q,hq,rfl⟩:=List.mem_map.mp hp
  exact hf q hq) e
 have inj:∀ {a b:List Str},a.map (λ p=>p.cps.toList) = b.map (λ p=>p.cps.toList)->a = b:=λ {a}=>by
  induction a with
  | nil=>intro b e; cases b with | nil=>rfl | cons _ _=>cases e
  | cons x a ih=>
   intro b e;cases b with
   | nil=>cases e
   | cons y b=>
    rw [List.map_cons,List.map_cons,List.cons.injEq] at e;rw [Qf e.1,ih e.2]
 exact inj e2
noncomputable def QM:Str:=⟨#[46,46]⟩
theorem Zbu:∀ ps:List (List Nat),ps ≠ []->(jn [46,46] ps).count 46 = (ps.map λ p=>p.count 46).sum + 2 * (ps.length - 1)
 | [],h=>absurd rfl h
 | [p],_=>by simp [jn]
 | p :: q :: r,_=>by
  have ih:=Zbu (q :: r) (List.cons_ne_nil _ _);show (p ++ [46,46] ++ jn [46,46] (q :: r)).count 46 = _;rw [List.count_append,List.count_append,ih];simp only [List.map_cons,List.sum_cons,List.length_cons];have:([46,46]:List Nat).count 46 = 2:=rfl;lia
theorem Ud {a:Str} (ha:46 ∉ a.cps.toList) (hb:46 ∉ b.cps.toList):Txt.split (Txt.join QM [a,b]) QM = [a,b]:=by
 have ex:(Txt.join QM [a,b]).cps.toList = a.cps.toList ++ [46,46] ++ b.cps.toList:=Qp QM [a,b];have h1:=StrLaws.join_split (Txt.join QM [a,b]) QM;have h3:=V3 (Txt.join QM [a,b]) QM;have hne:∀ q,Txt.split (Txt.join QM [a,b]) QM ≠ [q]:=λ q e=>by
  have lx:(Txt.join QM [a,b]).length = a.cps.toList.length + 2 + b.cps.toList.length:=by
   rw [<- str_len,ex,List.length_append,List.length_append];rfl
  unfold Txt.split at e
  split at e
  ·rename_i hc
   rcases Bool.or_eq_true_iff.mp hc with z | z
   ·have:=of_decide_eq_true z;rw [lx] at this;have:QM.length = 2:=rfl;lia
   ·have:=of_decide_eq_true z;have h1:strKind QM = 1:=by walk_at "k"
    have h2:=strKind_pos (Txt.join QM [a,b]);lia
  ·split at e
   ·rename_i hc
    rcases StrLaws.occ_head (Txt.join QM [a,b]) QM ((Txt.join QM [a,b]).length + 1) (by lia) with ⟨_,n⟩ | ⟨i,r,q,_⟩
    ·refine n a.cps.toList.length ⟨by rw [lx,show QM.length = 2 from rfl]; lia,?_⟩;unfold subAt;rw [StrLaws.beq_toList,Array.toList_extract,ex];show (List.take _ (List.drop _ _) == [46,46]) = true;rw [List.append_assoc,List.drop_left,show QM.length = 2 from rfl,show a.cps.toList.length + 2 - a.cps.toList.length = 2 by lia];rfl
    ·rw [q] at hc;cases hc
   ·rename_i hc;have:=congrArg List.length e;rw [length_partsBetween] at this;cases q:occurrences (Txt.join QM [a,b]) QM 0 (Txt.join QM [a,b]).length ((Txt.join QM [a,b]).length + 1) with
    | nil=>rw [q] at hc; exact hc rfl
    | cons _ _=>rw [q] at this; simp at this
 generalize Txt.split (Txt.join QM [a,b]) QM = qs at h1 h3 hne ⊢;rw [<- StrLaws.glued_eq_join] at h1;have e:=congrArg (λ s:Str=>s.cps.toList) (show Txt.join QM qs = Txt.join QM [a,b] from h1);rw [ex,Qp] at e;have e:jn [46,46] (qs.map λ p=>p.cps.toList) = a.cps.toList ++ [46,46] ++ b.cps.toList:=e;have c:=Zbu (qs.map λ p=>p.cps.toList) (by simpa using h3);rw [e,List.count_append,List.count_append,List.count_eq_zero.mpr ha,List.count_eq_zero.mpr hb,List.length_map] at c;have c2:([46,46]:List Nat).count 46 = 2:=rfl
 match qs,h3,hne,e,c with
 | [q],_,hne,_,_=>exact absurd rfl (hne q)
 | [p,q],_,_,e,c=>
  simp only [List.map_cons,List.map_nil,List.sum_cons,List.sum_nil,List.length_cons,List.length_nil] at c;have hp:46 ∉ p.cps.toList:=List.count_eq_zero.mp (by lia);have e:p.cps.toList ++ [46,46] ++ q.cps.toList = a.cps.toList ++ [46,46] ++ b.cps.toList:=e;rw [List.append_assoc,List.append_assoc] at e;have t1:=JB (r:=46 :: q.cps.toList) hp;have t2:=JB (r:=46 :: b.cps.toList) ha;have e:p.cps.toList ++ 46 :: 46 :: q.cps.toList = a.cps.toList ++ 46 :: 46 :: b.cps.toList:=e;rw [e] at t1;have e1:=Qf (t1.1.symm.trans t2.1);have e2:=Qf (List.cons.inj (List.cons.inj (t1.2.symm.trans t2.2)).2).2;rw [e1,e2]
 | _ :: _ :: _ :: r,_,_,_,c=>
  simp only [List.map_cons,List.sum_cons,List.length_cons] at c;lia
noncomputable def QH (i:Int):Str:=Str.ofString (toString i)
theorem Wo (m:Nat):(QH (m:Int)).cps.toList = (Nat.toDigits 10 m).map Char.toNat:=PySem.W.KIN.signs_num m
theorem KI (m:Nat):(QH (Int.negSucc m)).cps.toList = 45 :: (Nat.toDigits 10 (m + 1)).map Char.toNat:=by
 have e:toString (Int.negSucc m) = "-" ++ toString (m + 1):=rfl;have d:=Wo (m + 1);unfold QH at d ⊢;rw [signs_ofString] at d ⊢;rw [e,String.toList_append,List.map_append];have d:(toString (m + 1)).toList.map Char.toNat = (Nat.toDigits 10 (m + 1)).map Char.toNat:=d;rw [d];rfl
theorem K6 (m:Nat):PySem.NumText.AllDigits ((Nat.toDigits 10 m).map Char.toNat):=λ c hc=>by
 obtain ⟨ch,hch,e⟩:=List.mem_map.mp hc;have r:=digit_range (Nat.isDigit_of_mem_toDigits (by decide) (by decide) hch);rw [<- e];exact r
theorem Cd (m:Nat):(Nat.toDigits 10 m).map Char.toNat ≠ []:=λ e=>by
 have h:=toDigits_len_ge 10 m;rw [List.map_eq_nil_iff.mp e] at h;exact absurd h (by decide)
theorem Fc (h:0 < m):((Nat.toDigits 10 m).map Char.toNat).head? ≠ some 48:=by
 induction m using Nat.strongRecOn with
 | _ m ih=>
  by_cases hm:m < 10
  ·rw [Nat.toDigits_of_lt_base hm];have e:=PySem.W.KIN.digit_back m hm;show some (Nat.digitChar m).toNat ≠ some 48;intro z;have z:=Option.some.inj z;lia
  ·have hq:m % 10 < 10:=Nat.mod_lt m (by decide);have t:Nat.toDigits 10 (m / 10) ++ Nat.toDigits 10 (m % 10) = Nat.toDigits 10 (10 * (m / 10) + m % 10):=Nat.toDigits_append_toDigits (by decide) (by lia) hq;rw [Nat.div_add_mod] at t;rw [<- t,List.map_append];have i:=ih (m / 10) (by lia) (by lia);cases q:(Nat.toDigits 10 (m / 10)).map Char.toNat with
   | nil=>exact absurd q (Cd _)
   | cons c r=>
    rw [q] at i;exact i
theorem Vg (h:-(10 ^ 40) <= i /\ i <= 10 ^ 40):1 <= (QH i).length /\ (QH i).length <= 50:=by
 have l:=int_text_length_le10 (a:=i) (k:=41) (by decide) (by lia);have e:(QH i).length = (toString i).length:=by
  rw [<- str_len];unfold QH;rw [signs_ofString,List.length_map,String.length_toList]
 have n:(QH i).cps.toList ≠ []:=by
  cases i with
  | ofNat m=>
   rw [show (Int.ofNat m) = (m:Int) from rfl,Wo];exact Cd m
  | negSucc m=>
   rw [KI];exact List.cons_ne_nil _ _
 have p:1 <= (QH i).length:=by
  rw [<- str_len];exact List.length_pos_iff.mpr n
 lia
theorem VE {k:Nat} (hk:k ≠ 45 /\ (k < 48 \/ 57 < k)) (i:Int):k ∉ (QH i).cps.toList:=int_text_free' k hk i
theorem MO (h:-(10 ^ 40) <= i /\ i <= 10 ^ 40):PySem.intText? (QH i) = some i:=by
 have hl:=(Vg h).2;cases i with
 | ofNat m=>
  have d:=Wo m;have e:=PySem.intText_digits (x:=QH (m:Int)) (by rw [d]; exact K6 m) (by rw [d]; exact Cd m) (Nat.le_trans hl (by decide));rw [d,PySem.W.KIN.val_back] at e;exact e
 | negSucc m=>
  have e:=PySem.intText_neg (KI m) (K6 _) (Cd _) (Nat.le_trans hl (by decide));rw [PySem.W.KIN.val_back] at e;exact e
theorem VN (z:Str) (c:Nat):Txt.startswith z (sg1 c) = decide (z.cps.toList.head? = some c):=by
 unfold Txt.startswith subAt;rw [StrLaws.beq_toList,Array.toList_extract];have l:=str_len z;show (decide (0 + 1 <= z.length) && (List.take _ (List.drop 0 z.cps.toList) == [c])) = _;cases q:z.cps.toList with
 | nil=>
  rw [q] at l;have:z.length = 0:=l.symm;rw [this];rfl
 | cons d r=>
  rw [q,List.length_cons] at l;rw [decide_eq_true (show 0 + 1 <= z.length by lia),Bool.true_and];show ([d] == [c]) = decide (some d = some c);rw [Bool.eq_iff_iff];simp
noncomputable def EY (c:Nat):Bool:=decide (48 <= c) && decide (c <= 57)
noncomputable def JX (s:Str):Bool:=(decide (1 <= s.length) && decide (s.length <= 60)) && s.cps.toList.all EY
theorem SY (h:-(10 ^ 40) <= i /\ i <= 10 ^ 40):(0 <= i /\ (QH i).cps.toList.head? ≠ some 45 /\ JX (QH i) = true /\ ((QH i).cps.toList.head? = some 48->QH i = QH 0)) \/ ∃ z:Str,(QH i).cps.toList = 45 :: z.cps.toList /\ JX z = true /\ z.cps.toList.head? ≠ some 48:=by
 have hl:=Vg h;have al:∀ l:List Nat,PySem.NumText.AllDigits l->l.all EY = true:=λ l hl=>List.all_eq_true.mpr λ c hc=>by
  have:=hl c hc;unfold EY;rw [decide_eq_true this.1,decide_eq_true this.2];rfl
 cases i with
 | ofNat m=>
  have d:=Wo m;refine .inl ⟨Int.natCast_nonneg m,λ e=>?_,?_,λ e=>?_⟩
  ·rw [show QH (Int.ofNat m) = QH (m:Int) from rfl,d] at e;have:=K6 m 45 (List.mem_of_mem_head? e);lia
  ·unfold JX;rw [decide_eq_true hl.1,decide_eq_true (show (QH (Int.ofNat m)).length <= 60 by lia),show QH (Int.ofNat m) = QH (m:Int) from rfl,d,al _ (K6 m)];rfl
  ·rw [show QH (Int.ofNat m) = QH (m:Int) from rfl,d] at e
   by_cases z:0 < m
   ·exact absurd e (Fc z)
   ·rw [show m = 0 by lia];rfl
 | negSucc m=>
  refine .inr ⟨⟨((Nat.toDigits 10 (m + 1)).map Char.toNat).toArray⟩,by rw [KI],?_,?_⟩
  ·have l2:((Nat.toDigits 10 (m + 1)).map Char.toNat).length + 1 <= 50:=by
    have:=hl.2;rw [<- str_len,KI,List.length_cons] at this;exact this
   have l1:1 <= ((Nat.toDigits 10 (m + 1)).map Char.toNat).length:=List.length_pos_iff.mpr (Cd _);unfold JX;have e:(⟨((Nat.toDigits 10 (m + 1)).map Char.toNat).toArray⟩:Str).length = ((Nat.toDigits 10 (m + 1)).map Char.toNat).length:=by rw [<- str_len]
   rw [e,decide_eq_true l1,decide_eq_true (show ((Nat.toDigits 10 (m + 1)).map Char.toNat).length <= 60 by lia)];exact al _ (K6 _)
  ·exact Fc (Nat.succ_pos m)
theorem EA {z:Str} {c:Nat} (h:s.cps.toList = c :: z.cps.toList):GN s (some 1) none = z:=by
 refine Qf ?_;have l:s.length = z.length + 1:=by rw [<- str_len,h,List.length_cons,str_len]
 show ((s.cps.toList.drop (HT.sIx s.length 0 (some 1))).take (HT.sIx s.length s.length none - HT.sIx s.length 0 (some 1))) = _;have e:HT.sIx s.length 0 (some 1) = 1:=by
  unfold HT.sIx;dsimp only;rw [if_neg (by decide)];lia
 rw [e,HT.VY,h];show List.take _ z.cps.toList = _;exact List.take_of_length_le (by rw [str_len]; lia)
theorem m45:Str.ofString "-" = sg1 45:=Qf (by walk_at "k")
theorem m48:Str.ofString "0" = sg1 48:=Qf (by walk_at "k")
noncomputable def Qm (w:Str):Str:=if Txt.startswith w (Str.ofString "-") = true then GN w (some 1) none else w
noncomputable def WC (w:Str):Bool:=JX (Qm w) && !(Txt.startswith (Qm w) (Str.ofString "0") && !decide (w = Str.ofString "0"))
noncomputable def QI (w:Str):PyData:=if WC w = true then .int ((PySem.intText? w).getD 0) else .none
theorem Y5 (w:Str):(w.cps.toList.head? ≠ some 45 /\ Qm w = w) \/ w.cps.toList = 45 :: (Qm w).cps.toList:=by
 unfold Qm;rw [m45,VN];cases e:w.cps.toList with
 | nil=>exact .inl ⟨by simp,if_neg (by simp)⟩
 | cons c l=>
  by_cases hc:c = 45
  ·subst hc
   right
   rw [if_pos (by simp)];rw [EA (z:=⟨l.toArray⟩) (by rw [e])]
  ·left
   exact ⟨by simpa using hc,if_neg (by simpa using hc)⟩
theorem Oy (w:Str):(Qm w).length <= w.length:=by
 rcases Y5 w with ⟨_,e⟩ | e
 ·rw [e];exact Nat.le_refl _
 ·have:=congrArg List.length e;rw [List.length_cons,str_len,str_len] at this;lia
theorem Gv {z:Str} (h:JX z = true):PySem.NumText.AllDigits z.cps.toList /\ z.cps.toList ≠ [] /\ z.length <= 60:=by
 unfold JX at h;simp only [Bool.and_eq_true,decide_eq_true_eq] at h;obtain ⟨⟨h1,h2⟩,h3⟩:=h;refine ⟨λ c hc=>?_,λ e=>?_,h2⟩
 ·have:=List.all_eq_true.mp h3 c hc;unfold EY at this
  simpa using this
 ·rw [<- str_len,e] at h1;exact absurd h1 (by decide)
theorem ZdI {w:Str} (h:JX (Qm w) = true):∃ n,PySem.intText? w = some n:=by
 obtain ⟨h1,h2,h3⟩:=Gv h
 rcases Y5 w with ⟨_,e⟩ | e
 ·rw [e] at h1 h2 h3;exact ⟨_,PySem.intText_digits h1 h2 (Nat.le_trans h3 (by decide))⟩
 ·have hl:w.length <= 61:=by
   have:=congrArg List.length e;rw [List.length_cons,str_len,str_len] at this;lia
  exact ⟨_,PySem.intText_neg e h1 h2 (Nat.le_trans hl (by decide))⟩
theorem LI {c:List Nat}:∀ {ps:List (List Nat)} {p:List Nat},p ∈ ps->p.length <= (jn c ps).length
 | [],_,h=>nomatch h
 | [q],p,h=>by rw [List.mem_singleton.mp h]; exact Nat.le_refl _
 | q :: r :: s,p,h=>by
  show p.length <= (q ++ c ++ jn c (r :: s)).length;rw [List.length_append,List.length_append]
  rcases List.mem_cons.mp h with rfl | h
  ·lia
  ·have:=LI (c:=c) h;lia
theorem JV {p:Str} (h:p ∈ Txt.split x y):p.length <= x.length:=by
 have h1:=StrLaws.join_split x y;rw [<- StrLaws.glued_eq_join] at h1;have h1:Txt.join y (Txt.split x y) = x:=h1;have e:=congrArg (λ s:Str=>s.cps.toList) h1;rw [Qp] at e;have:=LI (c:=y.cps.toList) (ps:=(Txt.split x y).map λ p=>p.cps.toList) (List.mem_map.mpr ⟨p,h,rfl⟩);rw [e,str_len,str_len] at this;exact this
theorem Jx (h:x.length <= 2000000):(Txt.split x y).length <= 4000000:=by
 unfold Txt.split
 split
 ·exact (by decide:1 <= 4000000)
 ·split
  ·exact (by decide:1 <= 4000000)
  ·have e1:=StrLaws.occ_length_le x y 0 x.length (x.length + 1);rw [length_partsBetween];lia
noncomputable def cma:Str:=Str.ofString ","
noncomputable def Zm (w:Str):PyData:=.tuple ((Txt.split w (Str.ofString ",")).map QI)
noncomputable def Zj (w:Str):PyData:=.tuple ((Txt.split w (Str.ofString "..")).map Zm)
noncomputable def Zw (w:Str):PyData:=if w = Str.ofString "" then .none else if w = Str.ofString "-" then .str (Str.ofString "") else .str w
noncomputable def ZU (k a b:Str) (l:List Str):PyData:=
 if k = Str.ofString "land" /\ 3 <= l.length then .tuple [.str (Str.ofString "land"),QI a,.str b,Zw (l.getD 0 k),.tuple ((l.drop 2).map Zj),QI (l.getD 1 k)]
 else if k = Str.ofString "spot" /\ l.length = 1 then .tuple [.str (Str.ofString "spot"),QI a,.str b,Zm (l.getD 0 k)]
 else if (k = Str.ofString "drop" \/ k = Str.ofString "free") /\ l = [] then .tuple [.str k,QI a,.str b]
 else .none
noncomputable def Jm:List Str->PyData
 | k :: a :: b :: l=>ZU k a b l
 | _=>.none
noncomputable def Ja (line:Str):PyData:=if Zu (Jm (Txt.split line (Str.ofString " "))) = true then Jm (Txt.split line (Str.ofString " ")) else .none
def ZeS (x:DV) (P:List Str->Prop):Prop:=∃ ws,x = .dat (.list (ws.map PyData.str)) /\ P ws
theorem Me {x:DV} {P:List Str->Prop} (h:ZeS x P):∃ ws,x = .dat (.list (ws.map PyData.str)) /\ P ws:=h
theorem Km:∀ {as bs:List Str},as.map PyData.str = bs.map PyData.str->as = bs
 | [],[],_=>rfl
 | [],_ :: _,h=>by simp at h
 | _ :: _,[],h=>by simp at h
 | a :: as,b :: bs,h=>by
  rw [List.map_cons,List.map_cons,List.cons.injEq,PyData.str.injEq] at h;rw [h.1,Km h.2]
theorem ZbV (ws:List Str) (P:List Str->Prop):ZeS (.dat (.list (ws.map PyData.str))) P = P ws:=propext ⟨λ ⟨cs,e,h⟩=>by
 rw [DV.dat.injEq,PyData.list.injEq] at e;rw [Km e]
 exact h,λ h=>⟨ws,rfl,h⟩⟩
def Ws (ws:List Str):Prop:=ws ≠ [] /\ ws.length <= 4000000 /\ ∀ p ∈ ws,p.length <= 2000000
def ZaY:DSp:=λ xs M Φ=>on1 xs λ x=>onS x λ s=>s.length <= 2000000 /\ Φ (.dat (.bool (JX s))) M
theorem Sm:type_of% @ZaY.eq_1:=λ _ _ _=>qI
def ZcS:DSp:=λ xs M Φ=>on1 xs λ x=>onS x λ s=>s.length <= 2000000 /\ Φ (.dat (QI s)) M
theorem Zdo:type_of% @ZcS.eq_1:=λ _ _ _=>qI
def Uq:DSp:=λ xs M Φ=>on1 xs λ x=>onS x λ s=>s.length <= 2000000 /\ Φ (.dat (Zm s)) M
theorem GQ:type_of% @Uq.eq_1:=λ _ _ _=>qI
def GZ:DSp:=λ xs M Φ=>on1 xs λ x=>onS x λ s=>s.length <= 2000000 /\ Φ (.dat (Zj s)) M
theorem Et:type_of% @GZ.eq_1:=λ _ _ _=>qI
def Wr:DSp:=λ xs M Φ=>on1 xs λ x=>onS x λ s=>s.length <= 2000000 /\ Φ (.dat (Zw s)) M
theorem UN:type_of% @Wr.eq_1:=λ _ _ _=>qI
def KZ:DSp:=λ xs M Φ=>on1 xs λ x=>ZeS x λ ws=>Ws ws /\ Φ (.dat (Jm ws)) M
theorem Gp:type_of% @KZ.eq_1:=λ _ _ _=>qI
def Yx:DSp:=λ xs M Φ=>on1 xs λ x=>onS x λ s=>s.length <= 2000000 /\ Φ (.dat (Ja s)) M
theorem UU:type_of% @Yx.eq_1:=λ _ _ _=>qI
theorem GF (h:¬ 1 <= s.length \/ ¬ s.length <= 60):JX s = false:=by
 unfold JX
 rcases h with h | h
 ·rw [decide_eq_false h];rfl
 ·rw [decide_eq_false h,Bool.and_false];rfl
theorem ZjY (c:Nat):(!decide ((⟨#[c]⟩:Str).cps.toList < (Str.ofString "0").cps.toList)) = decide (48 <= c):=by
 have e:(Str.ofString "0").cps.toList = [48]:=by walk_at "k"
 rw [e];show (!decide ([c] < [48])) = _;rw [Bool.eq_iff_iff,Bool.not_eq_true',decide_eq_false_iff_not,decide_eq_true_eq,List.cons_lt_cons_iff];simp
theorem ZjL (c:Nat):(!decide ((Str.ofString "9").cps.toList < (⟨#[c]⟩:Str).cps.toList)) = decide (c <= 57):=by
 have e:(Str.ofString "9").cps.toList = [57]:=by walk_at "k"
 rw [e];show (!decide ([57] < [c])) = _;rw [Bool.eq_iff_iff,Bool.not_eq_true',decide_eq_false_iff_not,decide_eq_true_eq,List.cons_lt_cons_iff];simp
theorem Mf {w1:Str} (h:WC w1 = false):QI w1 = .none:=by
 unfold QI;rw [h];rfl
theorem CU {w1:Str} {n:Int} (h:WC w1 = true) (hn:PySem.intText? w1 = some n):QI w1 = .int n:=by
 unfold QI;rw [h,hn];rfl
theorem NS {w1:Str} {Φ:PyData->Prop} (h:Φ (QI w1)) {A:Prop} (hA:(∃ n,PySem.intText? w1 = some n /\ w1.length <= 640 /\ Φ (.int n))->A):if (!JX (Qm w1)) = true then Φ .none else if Txt.startswith (Qm w1) (Str.ofString "0") = true then (if (!decide (w1 = Str.ofString "0")) = true then Φ .none else A) else A:=by
 cases f:JX (Qm w1) with
 | false=>
  rw [Mf (by unfold WC; rw [f]; rfl)] at h;exact h
 | true=>
  obtain ⟨n,hn⟩:=ZdI f;have hl:w1.length <= 640:=by
   have h3:=(Gv f).2.2
   rcases Y5 w1 with ⟨_,e⟩ | e
   ·rw [e] at h3;lia
   ·have:=congrArg List.length e;rw [List.length_cons,str_len,str_len] at this;lia
  cases c:Txt.startswith (Qm w1) (Str.ofString "0") with
  | false=>
   rw [CU (by unfold WC; rw [f,c]; rfl) hn] at h;exact hA ⟨n,hn,hl,h⟩
  | true=>
   by_cases z:w1 = Str.ofString "0"
   ·rw [CU (by unfold WC; rw [f,c,decide_eq_true z]; rfl) hn] at h;rw [decide_eq_true z];exact hA ⟨n,hn,hl,h⟩
   ·rw [Mf (by unfold WC; rw [f,c,decide_eq_false z]; rfl)] at h;rw [decide_eq_false z];exact h
theorem Qx (a b:Str):isS (.str a) b = decide (a = b):=rfl
theorem Sg (l:List PyData):DL.cutD l (some 5) none = l.drop 5:=by
 unfold DL.cutD;rw [HT.VY];have e:HT.sIx l.length 0 (some 5) = min 5 l.length:=by
  unfold HT.sIx;dsimp only;rw [if_neg (by decide)];rfl
 rw [e]
 by_cases h:5 <= l.length
 ·rw [Nat.min_eq_left h];exact List.take_of_length_le (by rw [List.length_drop]; exact Nat.le_refl _)
 ·rw [Nat.min_eq_right (by lia),List.drop_of_length_le (Nat.le_refl _),List.drop_of_length_le (by lia),List.take_nil]
theorem BA {k:Str} {l:List Str} (h1:¬ (k = Str.ofString "land" /\ 5 <= l.length)) (h2:¬ (k = Str.ofString "spot" /\ l.length = 3)) (h3:¬ ((k = Str.ofString "drop" \/ k = Str.ofString "free") /\ l.length = 2)):Jm (k :: l) = .none:=by
 match l,h1,h2,h3 with
 | [],_,_,_=>rfl
 | [_],_,_,_=>rfl
 | a :: b :: l,h1,h2,h3=>
  show ZU k a b l = _;unfold ZU;rw [if_neg (λ z=>h1 ⟨z.1,by have:=z.2; simp only [List.length_cons]; lia⟩),if_neg (λ z=>h2 ⟨z.1,by have:=z.2; simp only [List.length_cons]; lia⟩),if_neg (λ z=>h3 ⟨z.1,by rw [z.2]; rfl⟩)]
theorem Zle {α:Type} {l:List α} (h:5 <= l.length):∃ a b c e l',l = a :: b :: c :: e :: l' /\ 1 <= l'.length:=by
 match l,h with
 | a :: b :: c :: e :: l',h=>exact ⟨a,b,c,e,l',rfl,by simp only [List.length_cons] at h; lia⟩
theorem Zi1 {α:Type} {l:List α} (h:l.length = 3):∃ a b c,l = [a,b,c]:=by
 match l,h with
 | [a,b,c],_=>exact ⟨a,b,c,rfl⟩
theorem Zhp {α:Type} {l:List α} (h:l.length = 2):∃ a b,l = [a,b]:=by
 match l,h with
 | [a,b],_=>exact ⟨a,b,rfl⟩
theorem wne:Str.ofString "spot" ≠ Str.ofString "land" /\ Str.ofString "drop" ≠ Str.ofString "land" /\ Str.ofString "free" ≠ Str.ofString "land" /\ Str.ofString "drop" ≠ Str.ofString "spot" /\ Str.ofString "free" ≠ Str.ofString "spot" := by
 have k:∀ a b:Str,a.cps.toList ≠ b.cps.toList->a ≠ b:=λ a b h e=>h (by rw [e]);exact ⟨k _ _ (by walk_at "k"),k _ _ (by walk_at "k"),k _ _ (by walk_at "k"),k _ _ (by walk_at "k"),k _ _ (by walk_at "k")⟩
theorem ME {a c e:Str} {l:List Str} (h:1 <= l.length):Jm (Str.ofString "land" :: a :: b :: c :: e :: l) = .tuple [.str (Str.ofString "land"),QI a,.str b,Zw c,.tuple (l.map Zj),QI e]:=by
 show ZU _ a b (c :: e :: l) = _;unfold ZU;rw [if_pos ⟨rfl,by simp only [List.length_cons]; lia⟩];rfl
theorem HG {a c:Str}:Jm [Str.ofString "spot",a,b,c] = .tuple [.str (Str.ofString "spot"),QI a,.str b,Zm c]:=by
 show ZU _ a b [c] = _;unfold ZU;rw [if_neg (λ z=>wne.1 z.1),if_pos ⟨rfl,rfl⟩];rfl
theorem Si {k a:Str} (hk:k = Str.ofString "drop" \/ k = Str.ofString "free"):Jm [k,a,b] = .tuple [.str k,QI a,.str b]:=by
 have n1:k ≠ Str.ofString "land" := hk.elim (λ z=>z ▸ wne.2.1) λ z=>z ▸ wne.2.2.1;have n2:k ≠ Str.ofString "spot" := hk.elim (λ z=>z ▸ wne.2.2.2.1) λ z=>z ▸ wne.2.2.2.2;show ZU k a b [] = _;unfold ZU;rw [if_neg (λ z=>n1 z.1),if_neg (λ z=>n2 z.1),if_pos ⟨hk,rfl⟩]
theorem Kd (s:Str):Yp (QI s) = true:=by
 unfold QI
 split <;> rfl
theorem ZeN {ws:List Str} (h:Ws ws):Zig (Jm ws) = true:=by
 match ws,h with
 | [],_=>rfl
 | [_],_=>rfl
 | [_,_],_=>rfl
 | k :: a :: b :: l,h=>
  have tx:∀ s ∈ k :: a :: b :: l,Yp (.str s) = true:=λ s hs=>decide_eq_true (h.2.2 s hs);have lit:Yp (.str (Str.ofString "land")) = true /\ Yp (.str (Str.ofString "spot")) = true /\ Yp (.str (Str.ofString "")) = true:=by walk_at "k"
  show Zig (ZU k a b l) = true;unfold ZU
  split
  ·have ho:Yp (Zw (l.getD 0 k)) = true:=by
    unfold Zw
    split
    ·rfl
    ·split
     ·exact lit.2.2
     ·refine tx _ ?_;cases l with
      | nil=>exact List.mem_cons_self
      | cons c l=>simp
   show List.all _ Yp = true;rw [List.all_cons,List.all_cons,List.all_cons,List.all_cons,List.all_cons,List.all_cons,lit.1,Kd,tx b (by simp),ho,Kd];rfl
  ·split
   ·show List.all _ Yp = true;rw [List.all_cons,List.all_cons,List.all_cons,lit.2.1,Kd,tx b (by simp)];rfl
   ·split
    ·show List.all _ Yp = true;rw [List.all_cons,List.all_cons,List.all_cons,tx k (by simp),Kd,tx b (by simp)];rfl
    ·rfl
inductive Tl where
 | land (t:Int) (nm ou:Str) (bs:List B4) (wb:Int)
 | spot (t:Int) (nm:Str) (u v:Int)
 | off (w:Str) (t:Int) (nm:Str)
noncomputable def tlD:Tl->PyData
 | .land t nm ou bs wb=>.tuple [.str (Str.ofString "land"),.int t,.str nm,.str ou,.tuple (bs.map bD),.int wb]
 | .spot t nm u v=>.tuple [.str (Str.ofString "spot"),.int t,.str nm,.tuple [.int u,.int v]]
 | .off w t nm=>.tuple [.str w,.int t,.str nm]
def Zcn (t:Int) (nm:Str):Prop:=(0 <= t /\ t <= 1000000000000) /\ QD nm
def X6:Tl->Prop
 | .land t nm ou bs wb=>Zcn t nm /\ (ou = Str.ofString "" \/ QD ou) /\ ZeP bs /\ (0 <= wb /\ wb <= 999999999999)
 | .spot t nm u v=>Zcn t nm /\ Sh u /\ Sh v
 | .off w t nm=>Zcn t nm /\ (w = Str.ofString "drop" \/ w = Str.ofString "free")
theorem cm1:Str.ofString "," = sg1 44:=Qf (by walk_at "k")
theorem cm2:Str.ofString ".." = QM:=Qf (by walk_at "k")
theorem cm3:Str.ofString " " = sg1 32:=Qf (by walk_at "k")
theorem cm4:Str.ofString "\n" = sg1 10:=Qf (by walk_at "k")
noncomputable def Vl (u v:Int):Str:=Txt.join (Str.ofString ",") [QH u,QH v]
noncomputable def WD (b:B4):Str:=Txt.join (Str.ofString "..") [Vl b.x b.y,Vl b.X b.Y]
noncomputable def Lw (ou:Str):Str:=if ou.length = 0 then Str.ofString "-" else ou
noncomputable def Jd:Tl->List Str
 | .land t nm ou bs wb=>[Str.ofString "land",QH t,nm,Lw ou,QH wb] ++ bs.map WD
 | .spot t nm u v=>[Str.ofString "spot",QH t,nm,Vl u v]
 | .off w t nm=>[w,QH t,nm]
noncomputable def JJ (x:Tl):Str:=Txt.join (Str.ofString " ") (Jd x)
noncomputable def JH (xs:List Tl):Str:=Txt.join (Str.ofString "\n") (xs.map JJ)
def Big (i:Int):Prop:=-(10 ^ 40) <= i /\ i <= 10 ^ 40
theorem Sh.big (h:Sh i):Big i:=by
 unfold Sh at h;unfold Big;lia
theorem Vt (h:Big i):i.natAbs.log2 < 1920:=Nat.lt_of_lt_of_le (Kh (k:=140) (by unfold Big at h; lia) (by decide)) (by decide)
theorem NF {k:Nat}:∀ {ps:List (List Nat)},k ∉ c->(∀ p ∈ ps,k ∉ p)->k ∉ jn c ps
 | [],_,_=>λ h=>nomatch h
 | [p],_,h=>h p (.head _)
 | p :: q :: r,hc,h=>by
  show k ∉ p ++ c ++ jn c (q :: r);rw [List.mem_append,List.mem_append];rintro ((z | z) | z)
  ·exact h p (.head _) z
  ·exact hc z
  ·exact NF hc (λ p hp=>h p (.tail _ hp)) z
theorem J2 {k:Nat} (hc:k ∉ y.cps.toList) (h:∀ p ∈ ps,k ∉ p.cps.toList):k ∉ (Txt.join y ps).cps.toList:=by
 rw [Qp];refine NF hc λ p hp=>?_;obtain ⟨q,hq,rfl⟩:=List.mem_map.mp hp;exact h q hq
theorem Za1 {c:List Nat} {B:Nat}:∀ {ps:List (List Nat)},(∀ p ∈ ps,p.length <= B)->(jn c ps).length <= ps.length * (B + c.length)
 | [],_=>Nat.zero_le _
 | [p],h=>by
  have:=h p (.head _);show p.length <= 1 * (B + c.length);lia
 | p :: q :: r,h=>by
  have ih:=Za1 (c:=c) (B:=B) (ps:=q :: r) λ p hp=>h p (.tail _ hp);have:=h p (.head _);show (p ++ c ++ jn c (q :: r)).length <= (r.length + 1 + 1) * (B + c.length);rw [List.length_append,List.length_append,Nat.succ_mul];have ih:(jn c (q :: r)).length <= (r.length + 1) * (B + c.length):=ih;lia
theorem Y1 {B:Nat} (h:∀ p ∈ ps,p.length <= B):(Txt.join y ps).length <= ps.length * (B + y.length):=by
 rw [<- str_len,Qp];have:=Za1 (c:=y.cps.toList) (B:=B) (ps:=ps.map λ p=>p.cps.toList) λ p hp=>by
  obtain ⟨q,hq,rfl⟩:=List.mem_map.mp hp;rw [str_len];exact h q hq
 rwa [List.length_map,str_len] at this
theorem JZ {α:Type} {P:α->Prop} {a b:α} (ha:P a) (hb:P b):∀ p ∈ [a,b],P p:=λ p hp=>by
 rcases List.mem_cons.mp hp with rfl | hp
 ·exact ha
 ·rw [List.mem_singleton.mp hp];exact hb
theorem VR {u v:Int} (hu:Big u) (hv:Big v):(Vl u v).length <= 102:=
 Nat.le_trans (Y1 (B:=50) (JZ (Vg hu).2 (Vg hv).2)) (by rw [show (Str.ofString ",").length = 1 by decide +kernel]; exact (by decide:2 * (50 + 1) <= 102))
theorem Jv {k:Nat} (hk:(k ≠ 45 /\ (k < 48 \/ 57 < k)) /\ k ≠ 44) (u v:Int):k ∉ (Vl u v).cps.toList:=
 J2 (by rw [cm1]; exact λ h=>hk.2 (List.mem_singleton.mp h)) (JZ (VE hk.1 u) (VE hk.1 v))
theorem Pn {k:Nat} (hk:(k ≠ 45 /\ (k < 48 \/ 57 < k)) /\ k ≠ 44 /\ k ≠ 46) (b:B4):k ∉ (WD b).cps.toList:=
 J2 (by rw [cm2]; exact λ h=>(List.mem_cons.mp h).elim hk.2.2 λ h=>hk.2.2 (List.mem_singleton.mp h)) (JZ (Jv ⟨hk.1,hk.2.1⟩ _ _) (Jv ⟨hk.1,hk.2.1⟩ _ _))
def BxK (b:B4):Prop:=okB b = true /\ (Sh b.x /\ Sh b.y) /\ (Sh b.X /\ Sh b.Y)
theorem Tc {b:B4} (h:BxK b):(WD b).length <= 208:=
 Nat.le_trans (Y1 (B:=102) (JZ (VR h.2.1.1.big h.2.1.2.big) (VR h.2.2.1.big h.2.2.2.big))) (by rw [show (Str.ofString "..").length = 2 by decide +kernel]; exact (by decide:2 * (102 + 2) <= 208))
theorem Ro (u v:Int):Txt.split (Vl u v) (Str.ofString ",") = [QH u,QH v]:=by
 unfold Vl;rw [cm1];exact V0 (List.cons_ne_nil _ _) (JZ (VE (by decide) u) (VE (by decide) v))
theorem Zdh (b:B4):Txt.split (WD b) (Str.ofString "..") = [Vl b.x b.y,Vl b.X b.Y]:=by
 unfold WD;rw [cm2];exact Ud (Jv (by decide) _ _) (Jv (by decide) _ _)
theorem We {ou:Str} (h:ou = Str.ofString "" \/ QD ou):(ou = Str.ofString "" /\ Lw ou = Str.ofString "-") \/ (QD ou /\ Lw ou = ou):=by
 unfold Lw
 rcases h with rfl | h
 ·exact .inl ⟨rfl,if_pos (by walk_at "k")⟩
 ·exact .inr ⟨h,if_neg (by have:=h.1; lia)⟩
def Wd1 (s:Str):Prop:=s.length <= 208 /\ ∀ k,(k <= 32 \/ 123 <= k)->k ∉ s.cps.toList
theorem QD.wd (h:QD s):Wd1 s:=⟨by have:=h.1; lia,λ k hk m=>by have:=h.2 _ m; lia⟩
theorem Mm (h:Big i):Wd1 (QH i):=⟨by have:=Vg h; lia,λ k hk=>VE (by lia) i⟩
theorem JN {x:Tl} (h:X6 x):(Jd x ≠ [] /\ (Jd x).length <= 11) /\ ∀ s ∈ Jd x,Wd1 s:=by
 have tm:∀ {t:Int} {nm:Str},Zcn t nm->Wd1 (QH t) /\ Wd1 nm:=λ {t nm} k=>⟨Mm (by unfold Big; have:=k.1; lia),k.2.wd⟩;have lit:∀ s ∈ [Str.ofString "land",Str.ofString "spot",Str.ofString "drop",Str.ofString "free",Str.ofString "-"],Wd1 s:=λ s hs=>by
  have e:∀ s ∈ [Str.ofString "land",Str.ofString "spot",Str.ofString "drop",Str.ofString "free",Str.ofString "-"],s.length <= 208 /\ (s.cps.toList.all λ c=>decide (32 < c) && decide (c < 123)) = true:=by walk_at "k"
  refine ⟨(e s hs).1,λ k hk m=>?_⟩;have:=List.all_eq_true.mp (e s hs).2 k m;simp only [Bool.and_eq_true,decide_eq_true_eq] at this;lia
 cases x with
 | land t nm ou bs wb=>
  obtain ⟨k,ho,hs,hw⟩:=h;refine ⟨⟨List.cons_ne_nil _ _,by unfold Jd; rw [List.length_append,List.length_map]; have:=hs.1; simp only [List.length_cons,List.length_nil]; lia⟩,λ s m=>?_⟩
  rcases List.mem_append.mp m with m | m
  ·simp only [List.mem_cons,List.not_mem_nil,or_false] at m
   rcases m with rfl | rfl | rfl | rfl | rfl
   ·exact lit _ (by simp)
   ·exact (tm k).1
   ·exact (tm k).2
   ·rcases We ho with ⟨_,e⟩ | ⟨n,e⟩
    ·rw [e];exact lit _ (by simp)
    ·rw [e];exact n.wd
   ·exact Mm (by unfold Big; lia)
  ·obtain ⟨b,hb,rfl⟩:=List.mem_map.mp m;exact ⟨Tc (hs.2.2 b hb),λ k hk=>Pn (by lia) b⟩
 | spot t nm u v=>
  refine ⟨⟨List.cons_ne_nil _ _,by unfold Jd; simp⟩,λ s m=>?_⟩;unfold Jd at m;simp only [List.mem_cons,List.not_mem_nil,or_false] at m
  rcases m with rfl | rfl | rfl | rfl
  ·exact lit _ (by simp)
  ·exact (tm h.1).1
  ·exact (tm h.1).2
  ·exact ⟨Nat.le_trans (VR h.2.1.big h.2.2.big) (by decide),λ k hk=>Jv (by lia) _ _⟩
 | off w t nm=>
  refine ⟨⟨List.cons_ne_nil _ _,by unfold Jd; simp⟩,λ s m=>?_⟩;unfold Jd at m;simp only [List.mem_cons,List.not_mem_nil,or_false] at m
  rcases m with rfl | rfl | rfl
  ·rcases h.2 with rfl | rfl
   ·exact lit _ (by simp)
   ·exact lit _ (by simp)
  ·exact (tm h.1).1
  ·exact (tm h.1).2
theorem PN {x:Tl} (h:X6 x):Txt.split (JJ x) (Str.ofString " ") = Jd x:=by
 unfold JJ;rw [cm3];exact V0 (JN h).1.1 λ p hp=>((JN h).2 p hp).2 32 (by decide)
theorem U4 {x:Tl} (h:X6 x):(JJ x).length <= 2400:=by
 have:=Y1 (y:=Str.ofString " ") (ps:=Jd x) (B:=208) λ p hp=>((JN h).2 p hp).1;rw [show (Str.ofString " ").length = 1 by decide +kernel] at this;have:=(JN h).1.2;unfold JJ;lia
theorem Hi {xs:List Tl} (h0:xs ≠ []) (h:∀ x ∈ xs,X6 x):Txt.split (JH xs) (Str.ofString "\n") = xs.map JJ:=by
 unfold JH;rw [cm4];refine V0 (by simpa using h0) λ p hp=>?_;obtain ⟨x,hx,rfl⟩:=List.mem_map.mp hp;exact J2 (by walk_at "k") λ q hq=>((JN (h x hx)).2 q hq).2 10 (by decide)
theorem Zjh:∀ {ps:List (List Nat)},ps ≠ []->(∀ p ∈ ps,p ≠ [])->jn c ps ≠ []
 | [],h,_=>absurd rfl h
 | [p],_,h=>h p (.head _)
 | p :: q :: r,_,h=>λ e=>by
  have e:p ++ c ++ jn c (q :: r) = []:=e;rw [List.append_eq_nil_iff,List.append_eq_nil_iff] at e;exact h p (.head _) e.1.1
theorem Zd3 {x:Tl} (h:X6 x):(JJ x).cps.toList ≠ []:=by
 unfold JJ;rw [Qp];cases x with
 | land t nm ou bs wb=>
  show [108,97,110,100] ++ _ ++ _ ≠ [];simp
 | spot t nm u v=>
  show [115,112,111,116] ++ _ ++ _ ≠ [];simp
 | off w t nm=>
  rcases h.2 with rfl | rfl
  ·show [100,114,111,112] ++ _ ++ _ ≠ [];simp
  ·show [102,114,101,101] ++ _ ++ _ ≠ [];simp
theorem Zcw {xs:List Tl} (h0:xs ≠ []) (h:∀ x ∈ xs,X6 x):JH xs ≠ Str.ofString "" := λ e=>by
 have e:=congrArg (λ s:Str=>s.cps.toList) e;have e:(JH xs).cps.toList = []:=e;unfold JH at e;rw [Qp] at e;refine Zjh (by simpa using h0) (λ p hp=>?_) e;obtain ⟨q,hq,rfl⟩:=List.mem_map.mp hp;obtain ⟨x,hx,rfl⟩:=List.mem_map.mp hq;exact Zd3 (h x hx)
theorem Wv (x y:Str):Txt.join y (Txt.split x y) = x:=by
 have h1:=StrLaws.join_split x y;rw [<- StrLaws.glued_eq_join] at h1;exact h1
theorem SO:∀ c:Nat,c < 58->(Char.ofNat c).toNat = c:=by decide
theorem EM:∀ {cs:List Nat},PySem.NumText.AllDigits cs->(cs.map Char.ofNat).map Char.toNat = cs
 | [],_=>rfl
 | c :: cs,h=>by
  rw [List.map_cons,List.map_cons,SO c (by have:=h.head; lia),EM h.tail]
theorem FO {cs:List Nat} (h:PySem.NumText.AllDigits cs) (h0:cs ≠ []) (hz:cs.head? = some 48->cs = [48]):(Nat.toDigits 10 (PySem.NumText.digitsVal cs)).map Char.toNat = cs:=by
 cases cs with
 | nil=>exact absurd rfl h0
 | cons c l=>
  have hc:=h.head;rw [PySem.NumText.toDigits_digitsVal l.length (c :: l) rfl h,EM h]
  by_cases e:c = 48
  ·left
   have:=hz (by rw [e]; rfl);rw [List.cons.injEq] at this;rw [this.2];rfl
  ·exact .inr ⟨c,l,rfl,by lia⟩
theorem CP {w:Str} {n:Int} (h:QI w = .int n):QH n = w:=by
 unfold QI at h
 split at h
 case isFalse=>cases h
 case isTrue k=>
  rw [PyData.int.injEq] at h;unfold WC at k;rw [Bool.and_eq_true] at k;obtain ⟨f,z⟩:=k;have z:Txt.startswith (Qm w) (Str.ofString "0") = true->w = Str.ofString "0" := λ e=>by
   rw [e] at z
   simpa using z
  rw [m48,VN] at z;obtain ⟨h1,h2,h3⟩:=Gv f
  rcases Y5 w with ⟨hh,e⟩ | e
  ·rw [e] at h1 h2 h3 z;have i:=PySem.intText_digits h1 h2 (Nat.le_trans h3 (by decide));rw [i] at h;have h:((PySem.NumText.digitsVal w.cps.toList:Nat):Int) = n:=h;rw [<- h];refine Qf ?_;rw [Wo,FO h1 h2 λ y=>?_];rw [z (decide_eq_true y)];rfl
  ·have hl:w.length <= 61:=by
    have:=congrArg List.length e;rw [List.length_cons,str_len,str_len] at this;lia
   have i:=PySem.intText_neg e h1 h2 (Nat.le_trans hl (by decide));rw [i] at h;have h:(-((PySem.NumText.digitsVal (Qm w).cps.toList:Nat):Int)) = n:=h;have nz:(Qm w).cps.toList.head? ≠ some 48:=λ y=>by
    have:=z (decide_eq_true y);rw [this] at e
    exact absurd e (by
     show ([48]:List Nat) ≠ _;intro q;rw [List.cons.injEq] at q
     exact absurd q.1 (by decide))
   have pos:0 < PySem.NumText.digitsVal (Qm w).cps.toList:=by
    cases q:(Qm w).cps.toList with
    | nil=>exact absurd q h2
    | cons c l=>
     rw [q] at h1 nz;have:=h1.head;refine PySem.NumText.digitsVal_pos ?_;have:c ≠ 48:=λ y=>nz (by rw [y]; rfl);lia
   have db:=FO h1 h2 λ y=>absurd y nz;rw [<- h];refine Qf ?_;generalize PySem.NumText.digitsVal (Qm w).cps.toList = m at pos db;cases m with
   | zero=>exact absurd pos (by decide)
   | succ m=>
    rw [show (-((m + 1:Nat):Int)) = Int.negSucc m from rfl,KI,db,e]
theorem Bw {w:Str} (h:ZG (QI w) = true):∃ n,QI w = .int n /\ Sh n /\ QH n = w:=by
 cases q:QI w with
 | int n=>
  rw [q] at h;unfold ZG at h;simp only [Bool.and_eq_true,decide_eq_true_eq] at h;exact ⟨n,rfl,h,CP q⟩
 | _=>rw [q] at h; cases h
theorem JW {w:Str} (h:ZD (Zm w) = true):∃ u v,(Sh u /\ Sh v) /\ Zm w = .tuple [.int u,.int v] /\ Vl u v = w:=by
 unfold Zm at h ⊢;have j:=Wv w (Str.ofString ",");generalize Txt.split w (Str.ofString ",") = l at h j ⊢
 match l,h,j with
 | [p,q],h,j=>
  have h:(ZG (QI p) && ZG (QI q)) = true:=h;rw [Bool.and_eq_true] at h;obtain ⟨u,e1,hu,d1⟩:=Bw h.1;obtain ⟨v,e2,hv,d2⟩:=Bw h.2;refine ⟨u,v,⟨hu,hv⟩,by rw [List.map_cons,List.map_cons,e1,e2]; rfl,?_⟩;unfold Vl;rw [d1,d2,j]
theorem DY {w:Str} (h:Z4 (Zj w) = true):∃ b,BxK b /\ Zj w = bD b /\ WD b = w:=by
 unfold Zj at h ⊢;have j:=Wv w (Str.ofString "..");generalize Txt.split w (Str.ofString "..") = l at h j ⊢
 match l,h,j with
 | [p,q],h,j=>
  have h:(ZD (Zm p) && (ZD (Zm q) && okB (toB (.tuple [Zm p,Zm q])))) = true:=h;rw [Bool.and_eq_true,Bool.and_eq_true] at h;obtain ⟨u,v,hu,e1,d1⟩:=JW h.1;obtain ⟨u',v',hv,e2,d2⟩:=JW h.2.1;have h3:=h.2.2;rw [e1,e2] at h3;refine ⟨⟨u,v,u',v'⟩,⟨h3,hu,hv⟩,by rw [List.map_cons,List.map_cons,e1,e2]; rfl,?_⟩;unfold WD;rw [d1,d2,j]
theorem K9:∀ {ws:List Str},(ws.map Zj).all Z4 = true->∃ bs:List B4,(∀ b ∈ bs,BxK b) /\ ws.map Zj = bs.map bD /\ bs.map WD = ws /\ bs.length = ws.length
 | [],_=>⟨[],λ _ h=>(nomatch h),rfl,rfl,rfl⟩
 | w :: ws,h=>by
  rw [List.map_cons,List.all_cons,Bool.and_eq_true] at h;obtain ⟨b,hb,e1,d1⟩:=DY h.1;obtain ⟨bs,hbs,e2,d2,l⟩:=K9 h.2;refine ⟨b :: bs,λ c hc=>?_,by rw [List.map_cons,List.map_cons,e1,e2],by rw [List.map_cons,d1,d2],by rw [List.length_cons,List.length_cons,l]⟩
  rcases List.mem_cons.mp hc with rfl | hc
  ·exact hb
  ·exact hbs c hc
theorem OA {ws:List Str} (h:ZS (.tuple (ws.map Zj)) = true):∃ bs,ZeP bs /\ ws.map Zj = bs.map bD /\ bs.map WD = ws:=by
 have h:((decide (1 <= (ws.map Zj).length) && decide ((ws.map Zj).length <= 6)) && ((ws.map Zj).all Z4 && chB ((ws.map Zj).map toB))) = true:=h;simp only [Bool.and_eq_true,decide_eq_true_eq,List.length_map] at h;obtain ⟨bs,hb,e,d,l⟩:=K9 h.2.1;have h4:=h.2.2;rw [e,Yt] at h4;exact ⟨bs,⟨by lia,h4,hb⟩,e,d⟩
theorem EC (h:Zx (.str s) = true):QD s:=by
 have h:((decide (1 <= s.length) && decide (s.length <= 8)) && s.cps.toList.all CM) = true:=h;simp only [Bool.and_eq_true,decide_eq_true_eq,List.all_eq_true,CM] at h;exact h
theorem Gg {a:Str} (h:Z6 (QI a) = true) (hn:Zx (.str b) = true):∃ t,QI a = .int t /\ Zcn t b /\ QH t = a:=by
 cases q:QI a with
 | int n=>
  rw [q] at h;unfold Z6 at h;simp only [Bool.and_eq_true,decide_eq_true_eq] at h;exact ⟨n,rfl,⟨h,EC hn⟩,CP q⟩
 | _=>rw [q] at h; cases h
theorem ZbU {a:Str} (h:Vp (QI a) = true):∃ t,QI a = .int t /\ (0 <= t /\ t <= 999999999999) /\ QH t = a:=by
 cases q:QI a with
 | int n=>
  rw [q] at h;unfold Vp at h;simp only [Bool.and_eq_true,decide_eq_true_eq] at h;exact ⟨n,rfl,h,CP q⟩
 | _=>rw [q] at h; cases h
theorem Zdj:Zx (.str (Str.ofString "-")) = false /\ Zx (.str (Str.ofString "")) = false:=by walk_at "k"
theorem MQ {c:Str} (h:(isS (Zw c) (Str.ofString "") || Zx (Zw c)) = true):∃ ou,Zw c = .str ou /\ (ou = Str.ofString "" \/ QD ou) /\ Lw ou = c:=by
 unfold Zw at h ⊢
 by_cases e:c = Str.ofString ""
 ·rw [if_pos e] at h;cases h
 ·rw [if_neg e] at h ⊢
  by_cases e2:c = Str.ofString "-"
  ·rw [if_pos e2] at h ⊢;exact ⟨_,rfl,.inl rfl,by rw [e2]; unfold Lw; exact if_pos (by walk_at "k")⟩
  ·rw [if_neg e2] at h ⊢;rw [show isS (.str c) (Str.ofString "") = false from decide_eq_false e,Bool.false_or] at h;have n:=EC h;exact ⟨c,rfl,.inr n,by unfold Lw; exact if_neg (by have:=n.1; lia)⟩
theorem Nf {ws:List Str} (h:Zu (Jm ws) = true):∃ t,X6 t /\ Jm ws = tlD t /\ Jd t = ws:=by
 match ws,h with
 | k :: a :: b :: l,h=>
  have h:Zu (ZU k a b l) = true:=h;show ∃ t,X6 t /\ ZU k a b l = tlD t /\ _;unfold ZU at h ⊢
  by_cases c1:k = Str.ofString "land" /\ 3 <= l.length
  ·rw [if_pos c1] at h ⊢;obtain ⟨rfl,hl⟩:=c1
   match l,hl with
   | c :: e :: m :: l,_=>
    have h:(Z6 (QI a) && (Zx (.str b) && ((isS (Zw c) (Str.ofString "") || Zx (Zw c)) && (ZS (.tuple ((m :: l).map Zj)) && Vp (QI e))))) = true:=h;rw [Bool.and_eq_true,Bool.and_eq_true,Bool.and_eq_true,Bool.and_eq_true] at h;obtain ⟨t,e1,ht,d1⟩:=Gg h.1 h.2.1;obtain ⟨ou,e2,ho,d2⟩:=MQ h.2.2.1;obtain ⟨bs,hb,e3,d3⟩:=OA h.2.2.2.1;obtain ⟨wb,e4,hw,d4⟩:=ZbU h.2.2.2.2;refine ⟨.land t b ou bs wb,⟨ht,ho,hb,hw⟩,?_,?_⟩
    ·show PyData.tuple [_,QI a,_,Zw c,.tuple ((m :: l).map Zj),QI e] = _;rw [e1,e2,e3,e4];rfl
    ·show [Str.ofString "land",QH t,b,Lw ou,QH wb] ++ bs.map WD = _;rw [d1,d2,d3,d4];rfl
  ·rw [if_neg c1] at h ⊢
   by_cases c2:k = Str.ofString "spot" /\ l.length = 1
   ·rw [if_pos c2] at h ⊢;obtain ⟨rfl,hl⟩:=c2
    match l,hl with
    | [c],_=>
     have h:(Z6 (QI a) && (Zx (.str b) && ZD (Zm c))) = true:=h;rw [Bool.and_eq_true,Bool.and_eq_true] at h;obtain ⟨t,e1,ht,d1⟩:=Gg h.1 h.2.1;obtain ⟨u,v,hs,e2,d2⟩:=JW h.2.2;refine ⟨.spot t b u v,⟨ht,hs⟩,?_,?_⟩
     ·show PyData.tuple [_,QI a,_,Zm c] = _;rw [e1,e2];rfl
     ·show [Str.ofString "spot",QH t,b,Vl u v] = _;rw [d1,d2]
   ·rw [if_neg c2] at h ⊢
    by_cases c3:(k = Str.ofString "drop" \/ k = Str.ofString "free") /\ l = []
    ·rw [if_pos c3] at h ⊢;have h:(Z6 (QI a) && (Zx (.str b) && JG (.str k) [])) = true:=h;obtain ⟨hk,e0⟩:=c3;rw [e0];rw [Bool.and_eq_true,Bool.and_eq_true] at h;obtain ⟨t,e1,ht,d1⟩:=Gg h.1 h.2.1;refine ⟨.off k t b,⟨ht,hk⟩,by rw [e1]; rfl,?_⟩;show [k,QH t,b] = _;rw [d1]
    ·rw [if_neg c3] at h;cases h
theorem Zc7 (h:Ja s ≠ .none):∃ t,X6 t /\ Ja s = tlD t /\ JJ t = s:=by
 unfold Ja at h ⊢
 by_cases c:Zu (Jm (Txt.split s (Str.ofString " "))) = true
 ·rw [if_pos c] at h ⊢;obtain ⟨t,ht,e,d⟩:=Nf c;refine ⟨t,ht,e,?_⟩;unfold JJ;rw [d,Wv]
 ·rw [if_neg c] at h;exact absurd rfl h
theorem KR (s:Str):Ja s = .none \/ ∃ t,X6 t /\ Ja s = tlD t /\ JJ t = s:=by
 by_cases c:Ja s = .none
 ·exact .inl c
 ·exact .inr (Zc7 c)
def ZkN (x:DV) (P:Tl->Prop):Prop:=∃ t,x = .dat (tlD t) /\ P t
def Zhv (x:DV) (P:List Tl->Prop):Prop:=∃ ts:List Tl,x = .dat (.list (ts.map tlD)) /\ P ts
def ZcV (ts:List Tl):Prop:=ts.length <= 20 /\ ∀ t ∈ ts,X6 t
def W0:DSp:=λ xs M Φ=>on1 xs λ x=>onP x λ u v=>(Big u /\ Big v) /\ Φ (.dat (.str (Vl u v))) M
theorem GP:type_of% @W0.eq_1:=λ _ _ _=>qI
def Bk:DSp:=λ xs M Φ=>on1 xs λ x=>onX x λ b=>BxK b /\ Φ (.dat (.str (WD b))) M
theorem Dm:type_of% @Bk.eq_1:=λ _ _ _=>qI
def FG:DSp:=λ xs M Φ=>on1 xs λ x=>ZkN x λ t=>X6 t /\ Φ (.dat (.str (JJ t))) M
theorem Lc:type_of% @FG.eq_1:=λ _ _ _=>qI
def BP:DSp:=λ xs M Φ=>on1 xs λ x=>Zhv x λ ts=>ZcV ts /\ Φ (.dat (.str (JH ts))) M
theorem DB:type_of% @BP.eq_1:=λ _ _ _=>qI
noncomputable def QE (s:Str):List Str:=if s = Str.ofString "" then [] else Txt.split s (Str.ofString "\n")
noncomputable def Qe:List PyData->Option Nat
 | []=>none
 | d :: l=>if d.eqv PyData.none = true then some 0 else (Qe l).map (· + 1)
noncomputable def Zhb (s:Str):PyData:=match Qe ((QE s).map Ja) with
 | some j=>.int j
 | none=>.list ((QE s).map Ja)
def Zfi (s:Str):Prop:=s.length <= 2000000 /\ ∀ p ∈ QE s,p.length <= 2000000
noncomputable def H9:PyData->Option Nat
 | .str s=>Qe ((QE s).map Ja)
 | _=>some 0
noncomputable def okL:PyData->List PyData
 | .str s=>(QE s).map Ja
 | _=>[]
noncomputable def thN:PyData->Nat
 | .str s=>(QE s).length
 | _=>0
noncomputable def GL (d:PyData):PyData:=match H9 d with
 | some j=>.int j
 | none=>.list (okL d)
def ZiC:PyData->Prop
 | .str s=>Zfi s
 | _=>True
theorem MX (d:PyData):(∃ s,d = .str s) \/ (ZW "str" d = false /\ H9 d = some 0):=by
 cases d <;> first | exact .inl ⟨_,rfl⟩ | exact .inr ⟨rfl,rfl⟩
def UJ (T:Tx K mg):SM:=λ xs M Φ Ξ=>on1 xs λ x=>onD x λ d=>ZiC d /\ (H9 d = none->Φ (.dat (.list (okL d))) M) /\
 ∀ j:Nat,H9 d = some j->∀ (dx:Addr) (M':Mp),M dx = none->M' dx = some (.ext (V4 dx j))->(∀ a,M a ≠ none->M' a = M a)->Ξ (.ref T.Qi,some dx) M'
theorem jk (hy:y.length <= 2) {B:Nat} {ss:List Str} (hl:ss.length <= 30) (hB:B <= 3000) (h:∀ s ∈ ss,s.length <= B):JoinOk y ss = true:=
 OC (B:=3000) (λ s hs=>Nat.le_trans (h s hs) hB) (by
  have:=Nat.mul_le_mul hl (Nat.le_refl 3000);have:=Nat.mul_le_mul hl hy
  lia)
theorem ln1:(Str.ofString ",").length <= 2 /\ (Str.ofString "..").length <= 2 /\ (Str.ofString " ").length <= 2 /\ (Str.ofString "\n").length <= 2:=by walk_at "k"
theorem ZbZ {x:Tl} (h:X6 x):JoinOk (Str.ofString " ") (Jd x) = true:=jk ln1.2.2.1 (Nat.le_trans (JN h).1.2 (by decide)) (by decide:208 <= 3000) λ s hs=>((JN h).2 s hs).1
theorem Zi7:(Str.ofString "spot" ≠ Str.ofString "land" /\ Str.ofString "drop" ≠ Str.ofString "land" /\ Str.ofString "free" ≠ Str.ofString "land") /\ Str.ofString "drop" ≠ Str.ofString "spot" /\ Str.ofString "free" ≠ Str.ofString "spot" := by
 have k:∀ a b:Str,a.cps.toList ≠ b.cps.toList->a ≠ b:=λ a b h e=>h (by rw [e]);exact ⟨⟨k _ _ (by walk_at "k"),k _ _ (by walk_at "k"),k _ _ (by walk_at "k")⟩,k _ _ (by walk_at "k"),k _ _ (by walk_at "k")⟩
theorem EX {t:Int} {nm:Str} (h:Zcn t nm):Big t:=by
 have:=h.1;unfold Big;lia
theorem Ln (t:Int) (nm ou:Str) (bs:List B4) (wb:Int):Jd (.land t nm ou bs wb) = [Str.ofString "land",QH t,nm,Lw ou,QH wb] ++ bs.map WD:=rfl
theorem ZkJ (a b c:PyData) (l:List PyData):DL.cutD (a :: b :: c :: l) (some 3) none = l:=by
 unfold DL.cutD;rw [HT.VY];have e:HT.sIx (a :: b :: c :: l).length 0 (some 3) = 3:=by
  unfold HT.sIx;simp only [List.length_cons];rw [if_neg (by decide)];lia
 rw [e];show List.take _ l = l;exact List.take_of_length_le (by simp only [List.length_cons]; lia)
theorem KG:∀ {l:List PyData} {n:Nat},(∀ d ∈ l,d.canLay0 = true /\ d.depth <= n)->PyData.canLayAll0 l = true /\ PyData.depthAll l <= n
 | [],_,_=>by simp [PyData.canLayAll0,PyData.depthAll]
 | d :: l,n,h=>by
  have h1:=h d (.head _);have h2:=KG (l:=l) (n:=n) λ d hd=>h d (.tail _ hd);rw [PyData.canLayAll0,PyData.depthAll,h1.1,h2.1];exact ⟨rfl,by have:=h1.2; have:=h2.2; lia⟩
theorem YC (h:∀ d ∈ l,d.canLay0 = true /\ d.depth <= n):(PyData.tuple l).canLay0 = true /\ (PyData.tuple l).depth <= n + 1:=by
 obtain ⟨a,b⟩:=KG h;rw [PyData.canLay0,PyData.depth];exact ⟨a,by lia⟩
theorem Kk (h:QD s):(PyData.str s).canLay0 = true:=by
 show s.cps.all (λ c=>decide (c < 0x110000)) = true;rw [<- Array.all_toList];exact List.all_eq_true.mpr λ c hc=>decide_eq_true (by have:=h.2 c hc; lia)
theorem Xm (i:Int) (n:Nat):(PyData.int i).canLay0 = true /\ (PyData.int i).depth <= n:=by simp [PyData.canLay0,PyData.depth]
theorem WU (u v:Int):(PyData.tuple [.int u,.int v]).canLay0 = true /\ (PyData.tuple [.int u,.int v]).depth <= 1:=YC (n:=0) (JZ (Xm u 0) (Xm v 0))
theorem Za7 {x:Tl} (h:X6 x):(tlD x).canLay0 = true /\ (tlD x).depth <= 5:=by
 have st:∀ {s:Str},(PyData.str s).canLay0 = true->(PyData.str s).canLay0 = true /\ (PyData.str s).depth <= 4:=λ e=>⟨e,by simp [PyData.depth]⟩;have lit:∀ s ∈ [Str.ofString "land",Str.ofString "spot",Str.ofString "drop",Str.ofString "free",Str.ofString ""],(PyData.str s).canLay0 = true:=by walk_at "k"
 cases x with
 | land t nm ou bs wb=>
  refine YC (n:=4) λ d hd=>?_;simp only [List.mem_cons,List.not_mem_nil,or_false] at hd
  rcases hd with rfl | rfl | rfl | rfl | rfl | rfl
  ·exact st (lit _ (by simp))
  ·exact Xm _ _
  ·exact st (Kk h.1.2)
  ·rcases h.2.1 with rfl | n
   ·exact st (lit _ (by simp))
   ·exact st (Kk n)
  ·have:=YC (l:=bs.map bD) (n:=2) λ d hd=>by
    obtain ⟨b,_,rfl⟩:=List.mem_map.mp hd;exact YC (n:=1) (JZ (WU b.x b.y) (WU b.X b.Y))
   exact ⟨this.1,by lia⟩
  ·exact Xm _ _
 | spot t nm u v=>
  refine YC (n:=4) λ d hd=>?_;simp only [List.mem_cons,List.not_mem_nil,or_false] at hd
  rcases hd with rfl | rfl | rfl | rfl
  ·exact st (lit _ (by simp))
  ·exact Xm _ _
  ·exact st (Kk h.1.2)
  ·exact ⟨(WU u v).1,Nat.le_trans (WU u v).2 (by decide)⟩
 | off w t nm=>
  refine YC (n:=4) λ d hd=>?_;simp only [List.mem_cons,List.not_mem_nil,or_false] at hd
  rcases hd with rfl | rfl | rfl
  ·rcases h.2 with rfl | rfl
   ·exact st (lit _ (by simp))
   ·exact st (lit _ (by simp))
  ·exact Xm _ _
  ·exact st (Kk h.1.2)
theorem ZcG {ts:List Tl} (h:∀ t ∈ ts,X6 t):PyData.canLayAll0 (ts.map tlD) = true /\ PyData.depthAll (ts.map tlD) <= 5:=KG λ d hd=>by
 obtain ⟨x,hx,rfl⟩:=List.mem_map.mp hd;exact Za7 (h x hx)
theorem RX (h:(∃ t,d = .tuple t) \/ d = .none):d.eqv PyData.none = true ↔ d = .none:=by
 rcases h with ⟨t,rfl⟩ | rfl
 ·simp [PyData.eqv]
 ·simp [PyData.eqv]
theorem E8 (s:Str):(∃ t,Ja s = .tuple t) \/ Ja s = .none:=by
 rcases KR s with h | ⟨t,_,h,_⟩
 ·exact .inr h
 ·refine .inl ?_;rw [h];cases t <;> exact ⟨_,rfl⟩
theorem WQ:∀ {l:List PyData},Qe l = none->(l.any λ e=>e.eqv PyData.none) = false
 | [],_=>rfl
 | d :: l,h=>by
  unfold Qe at h
  split at h
  ·cases h
  ·rename_i c;rw [List.any_cons,WQ (l:=l) (by simpa using h),Bool.or_false]
   simpa using c
theorem Y8:∀ {l:List PyData} {j:Nat},Qe l = some j->(l.any λ e=>e.eqv PyData.none) = true /\ (∃ d,l[j]? = some d /\ d.eqv PyData.none = true) /\ ∀ i,i < j->∀ d,l[i]? = some d->d.eqv PyData.none = false
 | [],_,h=>by cases h
 | d :: l,j,h=>by
  unfold Qe at h
  split at h
  ·rename_i c;cases h;exact ⟨by rw [List.any_cons,c]; rfl,⟨d,rfl,c⟩,λ i hi=>absurd hi (Nat.not_lt_zero _)⟩
  ·rename_i c;cases q:Qe l with
   | none=>rw [q] at h; cases h
   | some k=>
    rw [q] at h;cases h;obtain ⟨h1,⟨e,h2,h3⟩,h4⟩:=Y8 q;refine ⟨by rw [List.any_cons,h1,Bool.or_true],⟨e,h2,h3⟩,λ i hi b hb=>?_⟩;cases i with
    | zero=>
     cases hb
     simpa using c
    | succ i=>exact h4 i (by lia) b hb
theorem ZeH (s:Str):(Ja s).canLay0 = true /\ (Ja s).depth <= 5:=by
 rcases KR s with h | ⟨t,ht,h,_⟩
 ·rw [h];simp [PyData.canLay0,PyData.depth]
 ·rw [h];exact Za7 ht
theorem Rz (ls:List Str):PyData.canLayAll0 (ls.map Ja) = true /\ PyData.depthAll (ls.map Ja) <= 5:=KG λ d hd=>by
 obtain ⟨x,hx,rfl⟩:=List.mem_map.mp hd;exact ZeH x
noncomputable def fit (p:PyData->Bool) (d:PyData):PyData:=if p d = true then d else .none
def Mh:DSp:=λ xs M Φ=>on1 xs λ x=>onS x λ s=>s.length <= 2000000 /\ Φ (.dat (.bool (Zx (.str s)))) M
theorem N0:type_of% @Mh.eq_1:=λ _ _ _=>qI
def FY:DSp:=λ xs M Φ=>on1 xs λ x=>onS x λ s=>s.length <= 2000000 /\ Φ (.dat (fit ZD (Zm s))) M
theorem Hk:type_of% @FY.eq_1:=λ _ _ _=>qI
def OQ:DSp:=λ xs M Φ=>on1 xs λ x=>onS x λ s=>s.length <= 2000000 /\ Φ (.dat (fit Z4 (Zj s))) M
theorem Ot:type_of% @OQ.eq_1:=λ _ _ _=>qI
def GO:DSp:=λ xs M Φ=>on1 xs λ x=>ZeS x λ ws=>(ws.length <= 4000000 /\ ∀ p ∈ ws,p.length <= 2000000) /\ Φ (.dat (fit ZS (.tuple (ws.map Zj)))) M
theorem CY:type_of% @GO.eq_1:=λ _ _ _=>qI
theorem N2 (w:Str) (c:Nat):decide (GN w none (some 1) = sg1 c) = decide (w.cps.toList.head? = some c):=by
 have e:(GN w none (some 1)).cps.toList = w.cps.toList.take 1:=by
  show ((w.cps.toList.drop (HT.sIx w.length 0 none)).take (HT.sIx w.length w.length (some 1) - HT.sIx w.length 0 none)) = _;have e1:HT.sIx w.length w.length (some 1) = min 1 w.length:=by
   unfold HT.sIx;dsimp only;rw [if_neg (by decide)];rfl
  rw [HT.VY,e1,List.drop_zero,Nat.sub_zero]
  by_cases h:1 <= w.length
  ·rw [Nat.min_eq_left h]
  ·rw [Nat.min_eq_right (by lia),List.take_of_length_le (by rw [str_len]; lia),List.take_of_length_le (by rw [str_len]; lia)]
 rw [decide_eq_decide];constructor
 ·intro h;have h:=congrArg (λ s:Str=>s.cps.toList) h;have h:(GN w none (some 1)).cps.toList = [c]:=h;rw [e] at h;cases q:w.cps.toList with
  | nil=>rw [q] at h; cases h
  | cons d r=>
   rw [q] at h;cases h;rfl
 ·intro h;refine Qf ?_;rw [e];cases q:w.cps.toList with
  | nil=>rw [q] at h; cases h
  | cons d r=>
   rw [q] at h;cases h;rfl
theorem Zbn (z:Str) (c:Nat):Txt.contains z ⟨#[c]⟩ = decide (c ∈ z.cps.toList):=StrLaws.found_one z c
theorem Te:(Str.ofString "0123456789").cps.toList = List.range' 48 10:=by walk_at "k"
theorem SD:(Str.ofString "abcdefghijklmnopqrstuvwxyz").cps.toList = List.range' 97 26:=by walk_at "k"
theorem Zc8 (c:Nat):Txt.contains (Str.ofString "0123456789") ⟨#[c]⟩ = EY c:=by
 rw [Zbn,Te];unfold EY;rw [Bool.eq_iff_iff,decide_eq_true_eq,List.mem_range'_1,Bool.and_eq_true,decide_eq_true_eq,decide_eq_true_eq];lia
theorem ZeC (c:Nat):Txt.contains (Str.ofString "abcdefghijklmnopqrstuvwxyz") ⟨#[c]⟩ = CM c:=by
 rw [Zbn,SD];unfold CM;rw [Bool.eq_iff_iff,decide_eq_true_eq,List.mem_range'_1,Bool.and_eq_true,decide_eq_true_eq,decide_eq_true_eq];lia
theorem Xr {α:Type} (p:α->Bool):∀ l:List α,(l.filter λ a=>!p a).isEmpty = l.all p
 | []=>rfl
 | a :: l=>by
  rw [List.filter_cons,List.all_cons];cases h:p a with
  | true=>
   rw [if_neg (by decide)];exact (Xr p l).trans (Bool.true_and _).symm
  | false=>rfl
theorem BS {α:Type} {p:α->Bool} {l:List α} {i:Nat} {a:α} (h:l[i]? = some a):(l.take (i + 1)).filter p = (l.take i).filter p ++ if p a = true then [a] else []:=by
 rw [List.take_add_one,h,List.filter_append]
 congr 1
 show List.filter p [a] = _;rw [List.filter_cons];rfl
theorem J0 (s:Str):QI s = .none \/ ∃ n,QI s = .int n:=by
 unfold QI
 split
 ·exact .inr ⟨_,rfl⟩
 ·exact .inl rfl
theorem Xd (w:Str):Yr w QM = [w,Str.empty,Str.empty] \/ ∃ a b,Yr w QM = [a,QM,b] /\ w = Txt.join QM [a,b]:=by
 unfold Yr;cases h:occurrences w QM 0 w.length 1 with
 | nil=>exact .inl rfl
 | cons i r=>
  have hs:=StrLaws.occ_spec w QM 0 w.length 1 i (by rw [h]; exact List.mem_cons_self ..);refine .inr ⟨_,_,rfl,?_⟩;have e:=StrLaws.sub_cat w QM (Nat.zero_le i) hs;rw [StrLaws.sub_whole] at e;refine Qf ?_;rw [Qp];have e:=congrArg (λ s:Str=>s.cps.toList) e;have e:(strSub w 0 i ++ QM ++ strSub w (i + QM.length) w.length).cps.toList = w.cps.toList:=e;rw [add_list,add_list] at e;exact e.symm
theorem Ml {p q:Str} (hp:46 ∉ p.cps.toList) (hq:46 ∉ q.cps.toList):Yr (Txt.join QM [p,q]) QM = [p,QM,q]:=by
 have ex:(Txt.join QM [p,q]).cps.toList = p.cps.toList ++ [46,46] ++ q.cps.toList:=Qp QM [p,q]
 rcases Xd (Txt.join QM [p,q]) with e | ⟨a,b,e,ew⟩
 ·exfalso;unfold Yr at e
  rcases StrLaws.occ_head (Txt.join QM [p,q]) QM 1 (by lia) with ⟨_,n⟩ | ⟨i,r,z,_⟩
  ·have lx:(Txt.join QM [p,q]).length = p.cps.toList.length + 2 + q.cps.toList.length:=by
    rw [<- str_len,ex,List.length_append,List.length_append];rfl
   refine n p.cps.toList.length ⟨by rw [lx,show QM.length = 2 from rfl]; lia,?_⟩;unfold subAt;rw [StrLaws.beq_toList,Array.toList_extract,ex];show (List.take _ (List.drop _ _) == [46,46]) = true;rw [List.append_assoc,List.drop_left,show QM.length = 2 from rfl,show p.cps.toList.length + 2 - p.cps.toList.length = 2 by lia];rfl
  ·rw [z] at e;have e:[_,QM,_] = [_,Str.empty,_]:=e;rw [List.cons.injEq,List.cons.injEq] at e;exact absurd (congrArg (λ s:Str=>s.cps.toList) e.2.1) (by decide)
 ·have ea:(Txt.join QM [a,b]).cps.toList = a.cps.toList ++ [46,46] ++ b.cps.toList:=Qp QM [a,b];rw [<- ew,ex] at ea;have c:=congrArg (List.count 46) ea;rw [List.count_append,List.count_append,List.count_append,List.count_append,List.count_eq_zero.mpr hp,List.count_eq_zero.mpr hq] at c;have ha:46 ∉ a.cps.toList:=List.count_eq_zero.mp (by lia);have t1:=JB (r:=46 :: q.cps.toList) hp;have t2:=JB (r:=46 :: b.cps.toList) ha;rw [List.append_assoc,List.append_assoc] at ea;have ea:p.cps.toList ++ 46 :: 46 :: q.cps.toList = a.cps.toList ++ 46 :: 46 :: b.cps.toList:=ea;rw [ea] at t1;have e1:=Qf (t1.1.symm.trans t2.1);have e2:=Qf (List.cons.inj (List.cons.inj (t1.2.symm.trans t2.2)).2).2;rw [e,e1,e2]
theorem Y2 {w:Str} (h:ZD (Zm w) = true):46 ∉ w.cps.toList:=by
 obtain ⟨u,v,_,_,d⟩:=JW h;rw [<- d];exact Jv (by decide) u v
theorem Zdq {a w:Str} (hw:w = Txt.join QM [a,b]) (ha:ZD (Zm a) = true) (hb:ZD (Zm b) = true):Zj w = .tuple [Zm a,Zm b]:=by
 unfold Zj;rw [cm2,hw,Ud (Y2 ha) (Y2 hb)];rfl
theorem N8 {w:Str} (h:Z4 (Zj w) = true):∃ a b,Yr w QM = [a,QM,b] /\ ZD (Zm a) = true /\ ZD (Zm b) = true:=by
 unfold Zj at h;have j:=Wv w (Str.ofString "..");generalize Txt.split w (Str.ofString "..") = l at h j
 match l,h,j with
 | [p,q],h,j=>
  have h:(ZD (Zm p) && (ZD (Zm q) && okB (toB (.tuple [Zm p,Zm q])))) = true:=h;rw [Bool.and_eq_true,Bool.and_eq_true] at h;rw [cm2] at j;exact ⟨p,q,by rw [<- j]; exact Ml (Y2 h.1) (Y2 h.2.1),h.1,h.2.1⟩
theorem part_short {w a d:Str} (h:Yr w QM = [a,d,b]):a.length <= w.length /\ b.length <= w.length:=by
 rcases Xd w with e | ⟨a',b',e,ew⟩
 ·rw [h] at e;rw [List.cons.injEq,List.cons.injEq,List.cons.injEq] at e;rw [e.1,e.2.2.1];exact ⟨Nat.le_refl _,Nat.zero_le _⟩
 ·rw [h] at e;rw [List.cons.injEq,List.cons.injEq,List.cons.injEq] at e;rw [e.1,e.2.2.1,ew,<- str_len a',<- str_len b',<- str_len (Txt.join QM [a',b']),Qp];show _ <= (a'.cps.toList ++ [46,46] ++ b'.cps.toList).length /\ _ <= (a'.cps.toList ++ [46,46] ++ b'.cps.toList).length;rw [List.length_append,List.length_append];lia
theorem Vq {p:PyData->Bool} (h:p d = false):fit p d = .none:=by
 unfold fit;rw [h];rfl
theorem Jy {p:PyData->Bool} (h:p d = true):fit p d = d:=by
 unfold fit;rw [h];rfl
theorem ZeA:Str.ofString "" = Str.empty:=Qf (by walk_at "k")
theorem Zcr (s:Str):(fit Z4 (Zj s)).canLay0 = true /\ (fit Z4 (Zj s)).depth <= 2:=by
 cases f:Z4 (Zj s) with
 | false=>
  rw [Vq f];simp [PyData.canLay0,PyData.depth]
 | true=>
  obtain ⟨b,_,e,_⟩:=DY f;rw [Jy f,e];exact YC (n:=1) (JZ (WU b.x b.y) (WU b.X b.Y))
theorem S5 (ws:List Str):okIn PyData.none (ws.map λ w=>fit Z4 (Zj w)) = true:=by
 obtain ⟨a,b⟩:=KG (l:=ws.map λ w=>fit Z4 (Zj w)) (n:=2) λ d hd=>by
  obtain ⟨x,hx,rfl⟩:=List.mem_map.mp hd;exact Zcr x
 unfold okIn;rw [a];simp [PyData.canLay0,PyData.depth]
theorem Fi:∀ ws:List Str,((ws.map λ w=>fit Z4 (Zj w)).any λ e=>e.eqv PyData.none) = !(ws.map Zj).all Z4
 | []=>rfl
 | w :: ws=>by
  rw [List.map_cons,List.any_cons,Fi ws,List.map_cons,List.all_cons];cases f:Z4 (Zj w) with
  | false=>
   rw [Vq f];simp [PyData.eqv]
  | true=>
   obtain ⟨b,_,e,_⟩:=DY f;rw [Jy f,e];simp [PyData.eqv,bD]
theorem Ew:∀ {ws:List Str},(ws.map Zj).all Z4 = true->(ws.map λ w=>fit Z4 (Zj w)) = ws.map Zj
 | [],_=>rfl
 | w :: ws,h=>by
  rw [List.map_cons,List.all_cons,Bool.and_eq_true] at h;rw [List.map_cons,List.map_cons,Jy h.1,Ew h.2]
def Nrs (bs:List B4) (j:Nat):Prop:=∀ i,i < j->∀ a b,bs[i]? = some a->bs[i + 1]? = some b->Ql a b <= 1
theorem Zbk:∀ {bs:List B4},Nrs bs ((bs.length:Int) - 1).toNat->chB bs = true
 | [],_=>rfl
 | [_],_=>rfl
 | a :: b :: l,h=>by
  have ih:=Zbk (bs:=b :: l) λ i hi a' b' ha hb=>h (i + 1) (by simp only [List.length_cons] at hi ⊢; lia) a' b' ha hb;show (decide (Ql a b <= 1) && chB (b :: l)) = true;rw [ih,decide_eq_true (h 0 (by simp only [List.length_cons]; lia) a b rfl rfl)];rfl
theorem Zg0:∀ {bs:List B4} {j:Nat} {a b:B4},bs[j]? = some a->bs[j + 1]? = some b->¬ Ql a b <= 1->chB bs = false
 | a :: b :: l,0,_,_,ha,hb,h=>by
  cases ha;cases hb;show (decide (Ql a b <= 1) && chB (b :: l)) = false;rw [decide_eq_false h];rfl
 | a :: b :: l,j + 1,_,_,ha,hb,h=>by
  show (decide (Ql a b <= 1) && chB (b :: l)) = false;rw [Zg0 (bs:=b :: l) (j:=j) ha hb h,Bool.and_false]
def NrX (a b:B4):Prop:=¬ a.X + 1 < b.x /\ ¬ b.X + 1 < a.x
def NrY (a b:B4):Prop:=¬ a.Y + 1 < b.y /\ ¬ b.Y + 1 < a.y
theorem He {a b:B4}:Ql a b <= 1 ↔ NrX a b /\ NrY a b:=by
 unfold Ql btw gp NrX NrY;lia
noncomputable def Jb (l:List Str):List PyData:=[Zw (l.getD 0 Str.empty),.tuple ((l.drop 2).map Zj),QI (l.getD 1 Str.empty)]
noncomputable def Wf (h:List PyData) (l:List Str):PyData:=if 3 <= l.length /\ GU (Jb l) = true then .tuple (h ++ Jb l) else .none
def E9:DSp:=λ xs M Φ=>on2 xs λ x y=>∃ a b c ws,x = .dat (.tuple [a,b,c]) /\ y = .dat (.list (ws.map PyData.str)) /\ (ws.length <= 4000000 /\ ∀ p ∈ ws,p.length <= 2000000) /\ Φ (.dat (Wf [a,b,c] ws)) M
theorem Lf:type_of% @E9.eq_1:=λ _ _ _=>qI
theorem C6 {h:List PyData} {l:List Str} (z:¬ (3 <= l.length /\ GU (Jb l) = true)):Wf h l = .none:=if_neg z
theorem Zev {α:Type} {l:List α} (h:3 <= l.length):∃ a b c l',l = a :: b :: c :: l':=by
 match l,h with
 | a :: b :: c :: l',h=>exact ⟨a,b,c,l',rfl⟩
theorem ZcN (o:Str):(isS (Zw o) (Str.ofString "") || Zx (Zw o)) = (decide (o = Str.ofString "-") || Zx (.str o)) /\ ((decide (o = Str.ofString "-") || Zx (.str o)) = true->Zw o = .str (if o = Str.ofString "-" then Str.ofString "" else o)):=by
 unfold Zw
 by_cases e:o = Str.ofString ""
 ·rw [if_pos e,e,Zdj.2,decide_eq_false (show Str.ofString "" ≠ Str.ofString "-" from λ z=>absurd (congrArg (λ s:Str=>s.cps.toList) z) (by walk_at "k"))];exact ⟨rfl,λ z=>by cases z⟩
 ·rw [if_neg e]
  by_cases e2:o = Str.ofString "-"
  ·rw [if_pos e2,if_pos e2,decide_eq_true e2];exact ⟨by rw [Qx,decide_eq_true rfl]; rfl,λ _=>rfl⟩
  ·rw [if_neg e2,if_neg e2,Qx,decide_eq_false e,decide_eq_false e2];exact ⟨rfl,λ _=>rfl⟩
theorem Zj8 (a b:PyData) (l:List PyData):DL.cutD (a :: b :: l) (some 2) none = l:=by
 unfold DL.cutD;rw [HT.VY];have e:HT.sIx (a :: b :: l).length 0 (some 2) = 2:=by
  unfold HT.sIx;simp only [List.length_cons];rw [if_neg (by decide)];lia
 rw [e];show List.take _ l = l;exact List.take_of_length_le (by simp only [List.length_cons]; lia)
theorem Zj5 (a b c:PyData) (l:List PyData):DL.cutD (a :: b :: c :: l) (some 3) none = l:=by
 unfold DL.cutD;rw [HT.VY];have e:HT.sIx (a :: b :: c :: l).length 0 (some 3) = 3:=by
  unfold HT.sIx;simp only [List.length_cons];rw [if_neg (by decide)];lia
 rw [e];show List.take _ l = l;exact List.take_of_length_le (by simp only [List.length_cons]; lia)
theorem Fo {k a:Str} {l:List Str} (h:Zx (.str b) = false \/ Z6 (QI a) = false):fit Zu (ZU k a b l) = .none:=by
 have key:∀ d rest,Zu (.tuple (d :: QI a :: .str b :: rest)) = false:=λ d rest=>by
  show (Z6 (QI a) && (Zx (.str b) && JG d rest)) = false
  rcases h with h | h
  ·rw [h,Bool.false_and,Bool.and_false]
  ·rw [h,Bool.false_and]
 unfold ZU
 split
 ·exact Vq (key _ _)
 ·split
  ·exact Vq (key _ _)
  ·split
   ·exact Vq (key _ _)
   ·rfl
theorem ZaP {k a:Str} {l:List Str} (h1:k ≠ Str.ofString "land") (h2:k ≠ Str.ofString "spot") (h3:¬ (k = Str.ofString "drop" \/ k = Str.ofString "free")):fit Zu (ZU k a b l) = .none:=by
 unfold ZU;rw [if_neg (λ z=>h1 z.1),if_neg (λ z=>h2 z.1),if_neg (λ z=>h3 z.1)];rfl
theorem RL {a:Str} {l:List Str} {t:Int} (e:QI a = .int t) (ht:Z6 (.int t) = true) (hb:Zx (.str b) = true):fit Zu (ZU (Str.ofString "land") a b l) = Wf [.str (Str.ofString "land"),.int t,.str b] l:=by
 by_cases z:3 <= l.length
 ·obtain ⟨o,w1,k,l,rfl⟩:=Zev z;have e1:ZU (Str.ofString "land") a b (o :: w1 :: k :: l) = .tuple ([.str (Str.ofString "land"),.int t,.str b] ++ Jb (o :: w1 :: k :: l)):=by
   unfold ZU;rw [if_pos ⟨rfl,z⟩,e];rfl
  have e2:Zu (.tuple ([.str (Str.ofString "land"),.int t,.str b] ++ Jb (o :: w1 :: k :: l))) = GU (Jb (o :: w1 :: k :: l)):=by
   show (Z6 (.int t) && (Zx (.str b) && JG (.str (Str.ofString "land")) (Jb (o :: w1 :: k :: l)))) = _;rw [ht,hb,Bool.true_and,Bool.true_and];unfold JG;rw [if_pos (by rw [Qx,decide_eq_true rfl])]
  rw [e1];unfold fit Wf;rw [e2];cases GU (Jb (o :: w1 :: k :: l)) with
  | true=>rw [if_pos rfl,if_pos ⟨z,rfl⟩]
  | false=>rw [if_neg (by decide),if_neg (λ y=>absurd y.2 (by decide))]
 ·rw [C6 λ y=>z y.1];unfold ZU;rw [if_neg (λ y=>z y.2),if_neg (λ y=>wne.1 y.1.symm),if_neg (λ y=>y.1.elim (λ y=>wne.2.1 y.symm) λ y=>wne.2.2.1 y.symm)];rfl
theorem E4 {a c:Str} {t:Int} (e:QI a = .int t) (ht:Z6 (.int t) = true) (hb:Zx (.str b) = true):fit Zu (ZU (Str.ofString "spot") a b [c]) = if ZD (Zm c) = true then .tuple [.str (Str.ofString "spot"),.int t,.str b,Zm c] else .none:=by
 unfold ZU;rw [if_neg (λ z=>wne.1 z.1),if_pos ⟨rfl,rfl⟩,e];show fit Zu (.tuple [.str (Str.ofString "spot"),.int t,.str b,Zm c]) = _;unfold fit;have e2:Zu (.tuple [.str (Str.ofString "spot"),.int t,.str b,Zm c]) = ZD (Zm c):=by
  show (Z6 (.int t) && (Zx (.str b) && JG (.str (Str.ofString "spot")) [Zm c])) = _;rw [ht,hb,Bool.true_and,Bool.true_and];unfold JG;rw [if_neg (by rw [Qx,decide_eq_false wne.1]; decide),if_pos (by rw [Qx,decide_eq_true rfl])];rfl
 rw [e2]
theorem Nk {a:Str} {l:List Str} (h:l.length ≠ 1):fit Zu (ZU (Str.ofString "spot") a b l) = .none:=by
 unfold ZU;rw [if_neg (λ z=>wne.1 z.1),if_neg (λ z=>h z.2),if_neg (λ z=>z.1.elim (λ y=>wne.2.2.2.1 y.symm) λ y=>wne.2.2.2.2 y.symm)];rfl
theorem OU {k a:Str} {l:List Str} {t:Int} (hk:k = Str.ofString "drop" \/ k = Str.ofString "free") (e:QI a = .int t) (ht:Z6 (.int t) = true) (hb:Zx (.str b) = true):fit Zu (ZU k a b l) = if l.length = 0 then .tuple [.str k,.int t,.str b] else .none:=by
 have n1:k ≠ Str.ofString "land" := hk.elim (λ z=>z ▸ wne.2.1) λ z=>z ▸ wne.2.2.1;have n2:k ≠ Str.ofString "spot" := hk.elim (λ z=>z ▸ wne.2.2.2.1) λ z=>z ▸ wne.2.2.2.2;unfold ZU;rw [if_neg (λ z=>n1 z.1),if_neg (λ z=>n2 z.1)];cases l with
 | nil=>
  rw [if_pos ⟨hk,rfl⟩,if_pos (show ([]:List Str).length = 0 from rfl),e];refine Jy ?_;show (Z6 (.int t) && (Zx (.str b) && JG (.str k) [])) = true;rw [ht,hb,Bool.true_and,Bool.true_and];unfold JG;rw [if_neg (by rw [Qx,decide_eq_false n1]; decide),if_neg (by rw [Qx,decide_eq_false n2]; decide),Qx,Qx]
  rcases hk with z | z
  ·rw [decide_eq_true z];rfl
  ·rw [decide_eq_true z];simp
 | cons c l=>
  rw [if_neg (λ z=>absurd z.2 (List.cons_ne_nil _ _)),if_neg (by simp)];rfl
def ZfI:DSp:=λ xs M Φ=>on1 xs λ x=>onS x λ s=>Zfi s /\ Φ (.dat (Zhb s)) M
theorem Zef:type_of% @ZfI.eq_1:=λ _ _ _=>qI
theorem Zc6 (s:Str):(List.replicate (if (!decide (s = Str.ofString "")) = true then (1:Int) else 0).toNat ((Txt.split s (Str.ofString "\n")).map PyData.str)).flatten = (QE s).map PyData.str:=by
 unfold QE
 by_cases h:s = Str.ofString ""
 ·rw [decide_eq_true h,if_pos h];rfl
 ·rw [decide_eq_false h,if_neg h];simp
theorem BB:∀ {l r:List PyData} {j:Nat},Qe l = some j->Qe (l ++ r) = some j
 | [],_,_,h=>by cases h
 | d :: l,r,j,h=>by
  unfold Qe at h;rw [List.cons_append];unfold Qe
  split at h
  ·rename_i c;rw [if_pos c];exact h
  ·rename_i c;rw [if_neg c];cases q:Qe l with
   | none=>rw [q] at h; cases h
   | some k=>
    rw [q] at h;rw [BB q];exact h
theorem Uv:∀ {l:List PyData} {d:PyData},Qe l = none->Qe (l ++ [d]) = if d.eqv PyData.none = true then some l.length else none
 | [],d,_=>by
  show (if d.eqv PyData.none = true then some 0 else _) = _
  split <;> rfl
 | e :: l,d,h=>by
  unfold Qe at h
  split at h
  ·cases h
  ·rename_i c;rw [List.cons_append];unfold Qe;rw [if_neg c,Uv (l:=l) (by simpa using h)]
   split <;> rfl
theorem EU {l:Addr} (hq:M q = none) (hl:M l = none) (h:∀ a,a ≠ q->M' a = ZR M l o a):YI (YI M' q) l = M:=by
 funext a
 by_cases e:a = l
 ·rw [e,YQ,hl]
 ·rw [Xh e]
  by_cases e2:a = q
  ·rw [e2,YQ,hq]
  ·rw [Xh e2,h a e2,ZF e]
theorem RS {ls:List Str} {i:Nat} (h:(WA (ls.map PyData.str))[i]? = some d):∃ p,ls[i]? = some p /\ d = .tuple [.int i,.str p]:=by
 unfold WA at h;rw [List.getElem?_mapIdx,List.getElem?_map] at h;cases q:ls[i]? with
 | none=>rw [q] at h; cases h
 | some p=>
  rw [q] at h;cases h;exact ⟨p,rfl,rfl⟩
theorem Ta (ls:List Str):(WA (ls.map PyData.str)).length = ls.length:=by
 unfold WA;rw [List.length_mapIdx,List.length_map]
def ZaZ:DSp:=λ xs M Φ=>on2 xs λ x y=>∃ d,(x = .dat d \/ ∃ q ds,x = .own q /\ M q = some (.lst ds) /\ d = .list ds) /\ y = .dat d /\ (Bg d d = true /\ PyData.eqv d d = true /\ Shw d) /\ Φ (.dat (.bool true)) M
theorem Sx:type_of% @ZaZ.eq_1:=λ _ _ _=>qI
def M0:DSp:=λ xs M Φ=>on2 xs λ x y=>onD x λ e=>onD y λ d=>(ZiC e /\ thN e <= 64 /\ d = GL e) /\ ∃ p,Pen M p /\ ∀ M',(∀ a,M a ≠ none->M' a = M a)->Φ (.dat (.bool true)) M'
theorem NV:type_of% @M0.eq_1:=λ _ _ _=>qI
theorem ZiZ {x:Tl} (h:X6 x):Pl 20 63000 (tlD x):=by
 cases x with
 | land t nm ou bs wb=>
  obtain ⟨k,ho,hs,hw⟩:=h;have po:Pl 0 102 (.str ou):=by
   rcases ho with rfl | ho
   ·exact Pr "" (n:=10) (by walk_at "k")
   ·exact (pNm ho).le (by decide) (by decide)
  exact (Pl.tup (Pls.cons (Pr "land" (n:=10) (by walk_at "k")) (Pls.cons (Pu (by have:=k.1; lia)) (Pls.cons (pNm k.2) (Pls.cons po (Pls.cons (Ci hs) (Pls.cons (Pu (by lia)) Pls.nil))))))).le (by decide) (by decide)
 | spot t nm u v=>
  exact (Pl.tup (Pls.cons (Pr "spot" (n:=10) (by walk_at "k")) (Pls.cons (Pu (by have:=h.1.1; lia)) (Pls.cons (pNm h.1.2) (Pls.cons (pSp h.2.1 h.2.2) Pls.nil))))).le (by decide) (by decide)
 | off w t nm=>
  have pw:Pl 0 102 (.str w):=by
   rcases h.2 with rfl | rfl
   ·exact Pr "drop" (n:=10) (by walk_at "k")
   ·exact Pr "free" (n:=10) (by walk_at "k")
  exact (Pl.tup (Pls.cons pw (Pls.cons (Pu (by have:=h.1.1; lia)) (Pls.cons (pNm h.1.2) Pls.nil)))).le (by decide) (by decide)
theorem Zb0 {ts:List Tl} (hl:ts.length <= 64) (h:∀ t ∈ ts,X6 t):Shw (.list (ts.map tlD)):=by
 have o:=Od.lst (Pls.all (k:=20) (n:=63000) (m:=64) (l:=ts.map tlD) (by rw [List.length_map]; exact hl) λ d hd=>by
  obtain ⟨x,hx,rfl⟩:=List.mem_map.mp hd
  exact ZiZ (h x hx))
 exact ⟨o.s,o.m,Nat.le_trans o.dp (by decide),Nat.le_trans (J4 _ o.s) (Nat.le_trans o.z (by rw [sizeLine_eq]; decide))⟩
theorem Zgm {ts:List Tl} (h:∀ t ∈ ts,X6 t):Bg (.list (ts.map tlD)) (.list (ts.map tlD)) = true /\ PyData.eqv (.list (ts.map tlD)) (.list (ts.map tlD)) = true:=by
 obtain ⟨a,b⟩:=ZcG h;have c:(PyData.list (ts.map tlD)).canLay0 = true:=a;refine ⟨?_,PySem.SeqAt.eqv_refl _ c⟩;unfold Bg;rw [c,PyData.depth];simp only [Bool.and_self,Bool.true_and,Nat.min_self];exact Nat.ble_eq_true_of_le (by lia)
theorem OB:∀ {ls:List Str},Qe (ls.map Ja) = none->∃ ts:List Tl,(∀ t ∈ ts,X6 t) /\ ls.map Ja = ts.map tlD /\ ts.map JJ = ls
 | [],_=>⟨[],λ _ h=>(nomatch h),rfl,rfl⟩
 | p :: ls,h=>by
  rw [List.map_cons] at h;unfold Qe at h
  split at h
  ·cases h
  ·rename_i c;obtain ⟨ts,h1,h2,h3⟩:=OB (ls:=ls) (by simpa using h)
   rcases KR p with e | ⟨t,ht,e,d⟩
   ·rw [e] at c;simp [PyData.eqv] at c
   ·refine ⟨t :: ts,λ x hx=>?_,by rw [List.map_cons,List.map_cons,e,h2],by rw [List.map_cons,d,h3]⟩
    rcases List.mem_cons.mp hx with rfl | hx
    ·exact ht
    ·exact h1 x hx
theorem FU (h:j < 64):Bg (.int j) (.int j) = true /\ PyData.eqv (.int j) (.int j) = true /\ Shw (.int j):=⟨by simp [Bg,PyData.canLay0,PyData.depth],by simp [PyData.eqv],(Pu (by lia)).od.shw (by decide) (by decide)⟩
theorem Py {e:PyData} (hl:thN e <= 64):Bg (GL e) (GL e) = true /\ PyData.eqv (GL e) (GL e) = true /\ Shw (GL e):=by
 rcases MX e with ⟨s,rfl⟩ | ⟨_,k⟩
 case inr=>
  unfold GL;rw [k];exact FU (by decide)
 unfold GL;cases f:H9 (.str s) with
 | some j=>
  have b:j < 64:=by
   obtain ⟨_,⟨d,h,_⟩,_⟩:=Y8 f;have:=(List.getElem?_eq_some_iff.mp h).1;rw [List.length_map] at this;exact Nat.lt_of_lt_of_le this hl
  exact FU b
 | none=>
  obtain ⟨ts,h1,h2,h3⟩:=OB f;show Bg (.list ((QE s).map Ja)) (.list ((QE s).map Ja)) = true /\ PyData.eqv (.list ((QE s).map Ja)) (.list ((QE s).map Ja)) = true /\ Shw (.list ((QE s).map Ja));rw [h2];obtain ⟨a,b⟩:=Zgm h1;exact ⟨a,b,Zb0 (by rw [<- List.length_map (as:=ts) JJ,h3]; exact hl) h1⟩
structure Tk (L n:Nat) (s:Str):Prop where
 len:s.length <= L
 asc:∀ c ∈ s.cps.toList,c < 128
 nl:s.cps.toList.count 10 <= n
theorem Tk.le {L':Nat} (h:Tk L n s) (h1:L <= L') (h2:n <= n'):Tk L' n' s:=⟨Nat.le_trans h.len h1,h.asc,Nat.le_trans h.nl h2⟩
theorem Tk.add {L':Nat} {a:Str} (h:Tk L n a) (k:Tk L' n' b):Tk (L + L') (n + n') (a ++ b):=⟨by
 rw [Str.length_append];exact Nat.add_le_add h.len k.len,λ c hc=>by
 rw [add_list,List.mem_append] at hc;exact hc.elim (h.asc c) (k.asc c),by
 rw [add_list,List.count_append]
 exact Nat.add_le_add h.nl k.nl⟩
theorem Tk.sub {z:Str} (h:Tk L n s) (k:z.cps.toList.Sublist s.cps.toList):Tk L n z:=⟨by
 have:=k.length_le;rw [str_len,str_len] at this
 exact Nat.le_trans this h.len,λ c hc=>h.asc c (k.subset hc),Nat.le_trans (k.count_le 10) h.nl⟩
theorem Ds (s:Str) (i j:Option Int):(GN s i j).cps.toList.Sublist s.cps.toList:=(List.take_sublist _ _).trans (List.drop_sublist _ _)
theorem Tk.cut (h:Tk L n s) (i j:Option Int):Tk L n (GN s i j):=h.sub (Ds s i j)
noncomputable def tkB (s:Str):Bool:=(decide (s.length <= 61) && s.cps.toList.all λ c=>decide (c < 128)) && decide (s.cps.toList.count 10 = 0)
theorem Zan (h:tkB s = true):Tk 61 0 s:=by
 unfold tkB at h;simp only [Bool.and_eq_true,decide_eq_true_eq,List.all_eq_true] at h;exact ⟨h.1.1,h.1.2,Nat.le_of_eq h.2⟩
theorem Zj7 (hn:s.length <= n) (h:tkB s = true):Tk n 0 s:=⟨hn,(Zan h).asc,(Zan h).nl⟩
theorem Tk.free (h:Tk L 0 s):10 ∉ s.cps.toList:=List.count_eq_zero.mp (Nat.le_zero.mp h.nl)
theorem Tk.up (h:Tk L 0 s):Tk L 0 (Txt.upper s):=by
 have e:=Zd9 h.asc;refine ⟨?_,λ c hc=>?_,?_⟩
 ·rw [<- str_len,e,List.length_map,str_len];exact h.len
 ·rw [e] at hc;obtain ⟨d,hd,rfl⟩:=List.mem_map.mp hc;have:=h.asc d hd
  split <;> lia
 ·rw [e];refine Nat.le_of_eq (List.count_eq_zero.mpr λ hc=>?_);obtain ⟨d,hd,z⟩:=List.mem_map.mp hc
  split at z
  ·lia
  ·exact h.free (z ▸ hd)
noncomputable def wt (ls:List Str):Nat:=(ls.map (·.length)).sum + ls.length
theorem Zbj (a b:List Str):wt (a ++ b) = wt a + wt b:=by
 unfold wt;rw [List.map_append,List.sum_append,List.length_append];lia
theorem VW (a:Str) (b:List Str):wt (a :: b) = a.length + 1 + wt b:=by
 unfold wt;rw [List.map_cons,List.sum_cons,List.length_cons];lia
theorem Zhz {a b:List Str} (h:a.Sublist b):wt a <= wt b:=by
 induction h with
 | slnil=>exact Nat.le_refl _
 | cons x _ ih=>rw [VW]; lia
 | cons_cons x _ ih=>rw [VW,VW]; lia
theorem Ym (ls:List Str):ls.length <= wt ls:=by unfold wt; lia
theorem ZaX (ls:List Str):∀ n:Nat,wt (List.replicate n ls).flatten = n * wt ls
 | 0=>by rw [Nat.zero_mul]; rfl
 | n + 1=>by rw [List.replicate_succ,List.flatten_cons,Zbj,ZaX ls n,Nat.succ_mul]; lia
theorem Zbx:∀ (ls:List Str) (j:Nat) (w:Str),wt (ls.set j w) <= wt ls + w.length
 | [],_,_=>by simp [wt]
 | a :: l,0,w=>by rw [List.set_cons_zero,VW,VW]; lia
 | a :: l,j + 1,w=>by
  have:=Zbx l j w;rw [List.set_cons_succ,VW,VW];lia
theorem ZgN (hc:c.length <= 1):∀ ps:List (List Nat),(jn c ps).length <= (ps.map (·.length)).sum + ps.length
 | []=>Nat.le_refl _
 | [p]=>by show p.length <= _; simp
 | p :: q :: r=>by
  have:=ZgN hc (q :: r);show (p ++ c ++ jn c (q :: r)).length <= _;rw [List.length_append,List.length_append,List.map_cons,List.sum_cons,List.length_cons];lia
theorem S0 (ls:List Str):((ls.map λ p=>p.cps.toList).map (·.length)) = ls.map (·.length):=by
 rw [List.map_map];exact List.map_congr_left λ p _=>str_len p
theorem join_le (hy:y.length <= 1) (ls:List Str):(Txt.join y ls).length <= wt ls:=by
 rw [<- str_len,Qp];have:=ZgN (c:=y.cps.toList) (by rw [str_len]; exact hy) (ls.map λ p=>p.cps.toList);rw [S0,List.length_map] at this;exact this
theorem ZeJ {k:Nat}:∀ {ps:List (List Nat)},k ∈ jn c ps->k ∈ c \/ ∃ p ∈ ps,k ∈ p:=λ {ps} h=>by
 apply Classical.byContradiction;intro n;exact NF (c:=c) (ps:=ps) (λ z=>n (.inl z)) (λ p hp z=>n (.inr ⟨p,hp,z⟩)) h
theorem Zhl {k:Nat}:∀ {ps:List (List Nat)} {p:List Nat},p ∈ ps->k ∈ p->k ∈ jn c ps
 | [],_,h,_=>nomatch h
 | [q],p,h,m=>by rw [List.mem_singleton.mp h] at m; exact m
 | q :: r :: s,p,h,m=>by
  show k ∈ q ++ c ++ jn c (r :: s);rw [List.mem_append,List.mem_append]
  rcases List.mem_cons.mp h with rfl | h
  ·exact .inl (.inl m)
  ·exact .inr (Zhl h m)
structure Tls (W m:Nat) (ls:List Str):Prop where
 w:wt ls <= W
 m:ls.length <= m
 t:∀ p ∈ ls,Tk W 0 p
theorem Tls.le {W' m':Nat} {ls:List Str} (h:Tls W m ls) (h1:W <= W') (h2:m <= m'):Tls W' m' ls:=⟨Nat.le_trans h.w h1,Nat.le_trans h.m h2,λ p hp=>(h.t p hp).le h1 (Nat.le_refl _)⟩
theorem Tls.app {W' m':Nat} {a b:List Str} (h:Tls W m a) (k:Tls W' m' b):Tls (W + W') (m + m') (a ++ b):=⟨by
 rw [Zbj];exact Nat.add_le_add h.w k.w,by
 rw [List.length_append];exact Nat.add_le_add h.m k.m,λ p hp=>by
 rcases List.mem_append.mp hp with hp | hp
 ·exact (h.t p hp).le (Nat.le_add_right _ _) (Nat.le_refl _)
 ·exact (k.t p hp).le (Nat.le_add_left _ _) (Nat.le_refl _)⟩
theorem Tls.one (h:Tk L 0 s):Tls (L + 1) 1 [s]:=⟨by
 rw [VW];have:=h.len;show s.length + 1 + 0 <= _;lia,Nat.le_refl _,λ p hp=>by
 rw [List.mem_singleton.mp hp]
 exact h.le (Nat.le_succ _) (Nat.le_refl _)⟩
theorem Tls.sub {a b:List Str} (h:Tls W m b) (k:a.Sublist b):Tls W m a:=⟨Nat.le_trans (Zhz k) h.w,Nat.le_trans k.length_le h.m,λ p hp=>h.t p (k.subset hp)⟩
theorem Tls.set {ls:List Str} {w:Str} (h:Tls W m ls) (k:Tk L 0 w) (j:Nat):Tls (W + L) m (ls.set j w):=⟨by
 have:=Zbx ls j w;have:=h.w;have:=k.len;lia,by rw [List.length_set]; exact h.m,λ p hp=>by
 rcases List.mem_or_eq_of_mem_set hp with hp | rfl
 ·exact (h.t p hp).le (Nat.le_add_right _ _) (Nat.le_refl _)
 ·exact k.le (Nat.le_add_left _ _) (Nat.le_refl _)⟩
theorem Tls.rep {ls:List Str} (h:Tls W m ls) (hn:n <= 6):Tls (6 * W) (6 * m) (List.replicate n ls).flatten:=⟨by
 rw [ZaX];exact Nat.mul_le_mul hn h.w,by
 rw [List.length_flatten,List.map_replicate,List.sum_replicate_nat];exact Nat.mul_le_mul hn h.m,λ p hp=>by
 obtain ⟨l,hl,hp⟩:=List.mem_flatten.mp hp;rw [(List.mem_replicate.mp hl).2] at hp
 exact (h.t p hp).le (by lia) (Nat.le_refl _)⟩
theorem MW (hy:y.length <= 1) {ls:List Str} (h:wt ls <= 16777216):JoinOk y ls = true:=ZbE (by
 unfold wt at h;have:=Nat.mul_le_mul_left ls.length hy
 lia)
theorem sp1:((Str.ofString " ").length <= 1 /\ ∀ c ∈ (Str.ofString " ").cps.toList,c < 128) /\ (Str.ofString "\n").length <= 1 /\ ∀ c ∈ (Str.ofString "\n").cps.toList,c < 128:=by walk_at "k"
theorem Hc {ls:List Str} (hy:∀ c ∈ y.cps.toList,c < 128) (h:∀ p ∈ ls,∀ c ∈ p.cps.toList,c < 128):∀ c ∈ (Txt.join y ls).cps.toList,c < 128:=λ c hc=>by
 rw [Qp] at hc
 rcases ZeJ hc with hc | ⟨p,hp,hc⟩
 ·exact hy c hc
 ·obtain ⟨q,hq,rfl⟩:=List.mem_map.mp hp;exact h q hq c hc
theorem Tls.words {ls:List Str} (h:Tls W m ls) (hW:W <= 16777216):JoinOk (Str.ofString " ") ls = true /\ Tk W 0 (Txt.join (Str.ofString " ") ls):=by
 refine ⟨MW sp1.1.1 (Nat.le_trans h.w hW),Nat.le_trans (join_le sp1.1.1 ls) h.w,Hc sp1.1.2 λ p hp=>(h.t p hp).asc,Nat.le_of_eq (List.count_eq_zero.mpr (J2 (by walk_at "k") λ p hp=>(h.t p hp).free))⟩
theorem EE {c:Nat}:∀ {ps:List (List Nat)},(∀ p ∈ ps,c ∉ p)->(jn [c] ps).count c <= ps.length
 | [],_=>Nat.le_refl _
 | [p],h=>by show p.count c <= 1; rw [List.count_eq_zero.mpr (h p (.head _))]; exact Nat.zero_le _
 | p :: q :: r,h=>by
  have ih:=EE (ps:=q :: r) λ p hp=>h p (.tail _ hp);show (p ++ [c] ++ jn [c] (q :: r)).count c <= _;rw [List.count_append,List.count_append,List.count_eq_zero.mpr (h p (.head _)),List.count_singleton_self];have:(p :: q :: r).length = (q :: r).length + 1:=rfl;lia
theorem Tls.lines {ls:List Str} (h:Tls W m ls) (hW:W <= 16777216):JoinOk (Str.ofString "\n") ls = true /\ Tk W m (Txt.join (Str.ofString "\n") ls):=by
 refine ⟨MW sp1.2.1 (Nat.le_trans h.w hW),Nat.le_trans (join_le sp1.2.1 ls) h.w,Hc sp1.2.2 λ p hp=>(h.t p hp).asc,?_⟩;rw [Qp,cm4];refine Nat.le_trans (EE λ p hp=>?_) (by rw [List.length_map]; exact h.m);obtain ⟨q,hq,rfl⟩:=List.mem_map.mp hp;exact (h.t q hq).free
theorem Tg (c:Nat) (l:List Nat):∃ ps:List (List Nat),ps ≠ [] /\ jn [c] ps = l /\ (∀ p ∈ ps,c ∉ p) /\ ps.length = l.count c + 1 /\ (ps.map (·.length)).sum + ps.length = l.length + 1:=by
 induction l with
 | nil=>exact ⟨[[]],by simp,rfl,by simp,rfl,rfl⟩
 | cons d l ih=>
  obtain ⟨ps,h0,h1,h2,h3,h4⟩:=ih;obtain ⟨p,r,rfl⟩:=List.exists_cons_of_ne_nil h0
  by_cases e:d = c
  ·subst e;refine ⟨[] :: p :: r,by simp,?_,?_,?_,?_⟩
   ·show [] ++ [d] ++ jn [d] (p :: r) = _;rw [h1];rfl
   ·intro q hq
    rcases List.mem_cons.mp hq with rfl | hq
    ·exact λ z=>nomatch z
    ·exact h2 q hq
   ·rw [List.count_cons_self,<- h3];rfl
   ·have e1:(([] :: p :: r:List (List Nat)).map (·.length)).sum = ((p :: r).map (·.length)).sum:=by rw [List.map_cons (l:=p :: r),List.sum_cons]; exact Nat.zero_add _
    have e2:([] :: p :: r:List (List Nat)).length = (p :: r).length + 1:=rfl;have e3:(d :: l).length = l.length + 1:=rfl;lia
  ·refine ⟨(d :: p) :: r,by simp,?_,?_,?_,?_⟩
   ·cases r with
    | nil=>rw [<- h1]; rfl
    | cons q r=>rw [<- h1]; rfl
   ·intro q hq
    rcases List.mem_cons.mp hq with rfl | hq
    ·intro z
     rcases List.mem_cons.mp z with z | z
     ·exact e z.symm
     ·exact h2 p (.head _) z
    ·exact h2 q (.tail _ hq)
   ·rw [List.count_cons_of_ne e,<- h3];rfl
   ·rw [List.map_cons,List.sum_cons,List.length_cons,List.length_cons,List.length_cons];rw [List.map_cons,List.sum_cons,List.length_cons] at h4;lia
theorem KA (c:Nat) (s:Str):(Txt.split s (sg1 c)).length = s.cps.toList.count c + 1 /\ wt (Txt.split s (sg1 c)) = s.length + 1 /\ ∀ p ∈ Txt.split s (sg1 c),c ∉ p.cps.toList:=by
 obtain ⟨ps,h0,h1,h2,h3,h4⟩:=Tg c s.cps.toList
 have e:s = Txt.join (sg1 c) (ps.map λ p=>⟨p.toArray⟩):=Qf (by
  rw [Qp,List.map_map];have:(ps.map ((λ p:Str=>p.cps.toList) ∘ λ p=>⟨p.toArray⟩)) = ps:=by
   conv=>rhs; rw [<- List.map_id ps]
   exact List.map_congr_left λ p _=>rfl
  rw [this]
  exact h1.symm)
 have e2:Txt.split s (sg1 c) = ps.map λ p=>⟨p.toArray⟩:=by
  rw [e];refine V0 (by simpa using h0) λ p hp=>?_;obtain ⟨q,hq,rfl⟩:=List.mem_map.mp hp;exact h2 q hq
 rw [e2];refine ⟨by rw [List.length_map]; exact h3,?_,λ p hp=>?_⟩
 ·unfold wt;rw [List.map_map,List.length_map,<- str_len,<- h4];rfl
 ·obtain ⟨q,hq,rfl⟩:=List.mem_map.mp hp;exact h2 q hq
theorem U9 {p:Str} (h:p ∈ Txt.split s y):∀ c ∈ p.cps.toList,c ∈ s.cps.toList:=λ c hc=>by
 have j:=Wv s y;have e:=congrArg (λ s:Str=>s.cps.toList) j;rw [Qp] at e;rw [<- e];exact Zhl (List.mem_map.mpr ⟨p,h,rfl⟩) hc
theorem Tk.lines (h:Tk L n s):Tls (L + 1) (n + 1) (Txt.split s (Str.ofString "\n")):=by
 rw [cm4];obtain ⟨a,b,c⟩:=KA 10 s;refine ⟨by rw [b]; have:=h.len; lia,by rw [a]; have:=h.nl; lia,λ p hp=>⟨?_,λ k hk=>h.asc k (U9 hp k hk),Nat.le_of_eq (List.count_eq_zero.mpr (c p hp))⟩⟩;have:=JV hp;have:=h.len;lia
theorem Tk.words (h:Tk L 0 s):Tls (L + 1) (L + 1) (Txt.split s (Str.ofString " ")):=by
 rw [cm3];obtain ⟨a,b,c⟩:=KA 32 s;have w:wt (Txt.split s (sg1 32)) <= L + 1:=by rw [b]; have:=h.len; lia
 refine ⟨w,Nat.le_trans (Ym _) w,λ p hp=>⟨?_,λ k hk=>h.asc k (U9 hp k hk),Nat.le_of_eq (List.count_eq_zero.mpr λ z=>h.free (U9 hp 10 z))⟩⟩;have:=JV hp;have:=h.len;lia
theorem Xq (ls:List Str) (i j:Option Int):∃ l':List Str,DL.cutD (ls.map PyData.str) i j = l'.map PyData.str /\ l'.Sublist ls:=by
 unfold DL.cutD;exact ⟨_,by rw [List.map_take,List.map_drop],(List.take_sublist _ _).trans (List.drop_sublist _ _)⟩
theorem ZcH (ls:List Str) (n:Nat):(List.replicate n (ls.map PyData.str)).flatten = ((List.replicate n ls).flatten).map PyData.str:=by
 rw [List.map_flatten,List.map_replicate]
def StL (P:Str->Prop) (ds:List PyData):Prop:=∀ d ∈ ds,∃ w,d = .str w /\ P w
theorem StL.nil {P:Str->Prop}:StL P []:=λ _ h=>nomatch h
theorem StL.cons {P:Str->Prop} {w:Str} (h:P w) (k:StL P ds):StL P (.str w :: ds):=λ d hd=>by
 rcases List.mem_cons.mp hd with rfl | hd
 ·exact ⟨w,rfl,h⟩
 ·exact k d hd
theorem StL.app {P:Str->Prop} {a b:List PyData} (h:StL P a) (k:StL P b):StL P (a ++ b):=λ d hd=>(List.mem_append.mp hd).elim (h d) (k d)
theorem StL.at {P:Str->Prop} {r:Int} (h:StL P ds) (h0:0 <= r) (h1:r < ds.length) {Q:PyData->Prop} (k:∀ w,P w->Q (.str w)):U8 ds r Q:=by
 obtain ⟨j,rfl⟩:=Int.eq_ofNat_of_zero_le h0;have hj:j < ds.length:=by lia
 obtain ⟨w,e,hw⟩:=h _ (List.getElem_mem hj);exact QJ (Qv (List.getElem?_eq_getElem hj)) (by rw [e]; exact k w hw)
theorem Xo (hi:Big i):QI (QH i) = .int i:=by
 have hr:=MO hi;have fo:JX (Qm (QH i)) = true /\ (Txt.startswith (Qm (QH i)) (Str.ofString "0") = true->QH i = Str.ofString "0"):=by
  rcases SY hi with ⟨_,f1,f2,f3⟩ | ⟨z,f1,f2,f3⟩
  ·have e:Qm (QH i) = QH i:=by
    unfold Qm;rw [m45,VN,decide_eq_false f1,if_neg Bool.false_ne_true]
   rw [e];refine ⟨f2,λ h=>?_⟩;rw [m48,VN] at h;rw [f3 (of_decide_eq_true h)];exact Qf (by walk_at "k")
  ·have e:Qm (QH i) = z:=by
    unfold Qm;rw [m45,VN,decide_eq_true (by rw [f1]; rfl),if_pos rfl];exact EA f1
   rw [e];refine ⟨f2,λ h=>?_⟩;rw [m48,VN] at h;exact absurd (of_decide_eq_true h) f3
 refine CU ?_ hr;unfold WC;rw [fo.1];cases e:Txt.startswith (Qm (QH i)) (Str.ofString "0") with
 | false=>rfl
 | true=>rw [decide_eq_true (fo.2 e)]; rfl
theorem UM {u v:Int} (hu:Big u) (hv:Big v):Zm (Vl u v) = .tuple [.int u,.int v]:=by
 unfold Zm;rw [Ro,List.map_cons,List.map_cons,List.map_nil,Xo hu,Xo hv]
theorem ZbF {b:B4} (h:BxK b):Zj (WD b) = bD b:=by
 unfold Zj;rw [Zdh,List.map_cons,List.map_cons,List.map_nil,UM h.2.1.1.big h.2.1.2.big,UM h.2.2.1.big h.2.2.2.big];rfl
theorem NL {ou:Str} (h:ou = Str.ofString "" \/ QD ou):Zw (Lw ou) = .str ou:=by
 have n0:Str.ofString "-" ≠ Str.ofString "" := λ e=>absurd (congrArg (λ s:Str=>s.cps.toList) e) (by walk_at "k");unfold Zw
 rcases We h with ⟨e0,e⟩ | ⟨n,e⟩
 ·rw [e,if_neg n0,if_pos rfl,e0]
 ·have n1:ou ≠ Str.ofString "" := λ z=>by
   have:=n.1;rw [z] at this;exact absurd this (by walk_at "k")
  have n2:ou ≠ Str.ofString "-" := λ z=>by
   have:=n.2 45 (by rw [z]; decide +kernel);lia
  rw [e,if_neg n1,if_neg n2]
theorem LG {x:Tl} (h:X6 x):Jm (Jd x) = tlD x:=by
 have tb:∀ {t:Int} {nm:Str},Zcn t nm->Big t:=λ {t nm} k=>by
  have:=k.1;unfold Big;lia
 have wn:Str.ofString "spot" ≠ Str.ofString "land" := λ e=>absurd (congrArg (λ s:Str=>s.cps.toList) e) (by walk_at "k");cases x with
 | land t nm ou bs wb=>
  obtain ⟨k,ho,hs,hw⟩:=h;have bw:Big wb:=by unfold Big; lia
  have eb:(bs.map WD).map Zj = bs.map bD:=by
   rw [List.map_map];exact List.map_congr_left λ b hb=>ZbF (hs.2.2 b hb)
  show ZU (Str.ofString "land") (QH t) nm (Lw ou :: QH wb :: bs.map WD) = _;unfold ZU;rw [if_pos ⟨rfl,by rw [List.length_cons,List.length_cons,List.length_map]; have:=hs.1; lia⟩];show PyData.tuple [_,QI (QH t),_,Zw (Lw ou),.tuple ((bs.map WD).map Zj),QI (QH wb)] = _;rw [Xo (tb k),NL ho,eb,Xo bw];rfl
 | spot t nm u v=>
  show ZU (Str.ofString "spot") (QH t) nm [Vl u v] = _;unfold ZU;rw [if_neg (λ z=>wn z.1),if_pos ⟨rfl,rfl⟩];show PyData.tuple [_,QI (QH t),_,Zm (Vl u v)] = _;rw [Xo (tb h.1),UM h.2.1.big h.2.2.big];rfl
 | off w t nm=>
  show ZU w (QH t) nm [] = _;unfold ZU;rw [if_neg (λ z=>absurd z.2 (by decide)),if_neg (λ z=>absurd z.2 (by decide)),if_pos ⟨h.2,rfl⟩,Xo (tb h.1)];rfl
def TlG (x:Tl):Prop:=X6 x /\ Zu (tlD x) = true
theorem ZdC {D:List PyData} (h:Tel D):∃ x,TlG x /\ .tuple D = tlD x:=by
 have hi:=(ZfM h).1;obtain ⟨w,t,nm,l,rfl,ht,hn,⟨rfl,ou,bs,wb,rfl,ho,hs,hw⟩ | ⟨rfl,u,v,rfl,hu,hv⟩ | ⟨hw,rfl⟩⟩:=h
 ·exact ⟨.land t nm ou bs wb,⟨⟨⟨ht,hn⟩,ho,hs,hw.1,by lia⟩,hi⟩,rfl⟩
 ·exact ⟨.spot t nm u v,⟨⟨⟨ht,hn⟩,hu,hv⟩,hi⟩,rfl⟩
 ·exact ⟨.off w t nm,⟨⟨⟨ht,hn⟩,hw⟩,hi⟩,rfl⟩
theorem ZdA {x:Tl} (h:TlG x):Ja (JJ x) = tlD x:=by
 unfold Ja;rw [PN h.1,LG h.1,if_pos h.2]
theorem Ba:∀ {ts:List Tl},(∀ t ∈ ts,TlG t)->Qe (ts.map tlD) = none
 | [],_=>rfl
 | t :: ts,h=>by
  rw [List.map_cons];unfold Qe;have n:(tlD t).eqv PyData.none ≠ true:=by cases t <;> simp [tlD,PyData.eqv]
  rw [if_neg n,Ba λ x hx=>h x (.tail _ hx)];rfl
theorem EK {ts:List Tl} (h:∀ t ∈ ts,X6 t):QE (JH ts) = ts.map JJ:=by
 unfold QE;cases ts with
 | nil=>rw [if_pos (Qf (by walk_at "k"))]; rfl
 | cons t ts=>
  rw [if_neg (Zcw (List.cons_ne_nil _ _) h)];exact Hi (List.cons_ne_nil _ _) h
theorem Se {ts:List Tl} (h:∀ t ∈ ts,TlG t):GL (.str (JH ts)) = .list (ts.map tlD):=by
 have e:(QE (JH ts)).map Ja = ts.map tlD:=by
  rw [EK λ t ht=>(h t ht).1,List.map_map];exact List.map_congr_left λ t ht=>ZdA (h t ht)
 unfold GL;have f:H9 (.str (JH ts)) = none:=by
  show Qe ((QE (JH ts)).map Ja) = none;rw [e];exact Ba h
 rw [f];show PyData.list ((QE (JH ts)).map Ja) = _;rw [e]
theorem Zdi {ts:List Tl} (hl:ts.length <= 6) (h:∀ t ∈ ts,X6 t):Tk 14500 5 (JH ts) /\ (QE (JH ts)).length <= 6:=by
 have a:∀ c ∈ (JH ts).cps.toList,c < 128:=λ c hc=>by
  apply Classical.byContradiction;intro n;have lit:(∀ c ∈ (Str.ofString "\n").cps.toList,c < 128) /\ ∀ c ∈ (Str.ofString " ").cps.toList,c < 128:=by walk_at "k"
  unfold JH at hc;refine J2 (λ m=>n (lit.1 c m)) (λ p hp=>?_) hc;obtain ⟨x,hx,rfl⟩:=List.mem_map.mp hp;exact J2 (λ m=>n (lit.2 c m)) λ q hq=>((JN (h x hx)).2 q hq).2 c (by lia)
 have b:=Y1 (y:=Str.ofString "\n") (ps:=ts.map JJ) (B:=2400) λ p hp=>by
  obtain ⟨x,hx,rfl⟩:=List.mem_map.mp hp;exact U4 (h x hx)
 rw [show (Str.ofString "\n").length = 1 by walk_at "k",List.length_map] at b;have:=Nat.mul_le_mul_right 2401 hl;refine ⟨⟨by unfold JH; lia,a,?_⟩,by rw [EK h,List.length_map]; exact hl⟩;cases ts with
 | nil=>decide +kernel
 | cons t ts=>
  have c:=(KA 10 (JH (t :: ts))).1;rw [<- cm4,Hi (List.cons_ne_nil _ _) h,List.length_map] at c;lia
theorem Tk.ok (h:Tk L n s) (hL:L <= 1500000) (hn:n <= 63):Zfi s /\ (QE s).length <= 64:=by
 refine ⟨⟨by have:=h.len; lia,λ p hp=>?_⟩,?_⟩
 ·unfold QE at hp
  split at hp
  ·cases hp
  ·have:=JV hp;have:=h.len;lia
 ·unfold QE
  split
  ·exact Nat.zero_le _
  ·have:=h.lines.m;lia
def Zhq:DSp:=λ xs M Φ=>on2 xs λ x y=>onO x λ p=>onS y λ s=>(s.length <= 200000 /\ Tk s.length 0 s) /\ Pen M p /\ ∀ s' M',Tk (2 * s.length + 70) 0 s'->Fr p M M'->Φ (.dat (.str s')) M'
theorem Zcl:type_of% @Zhq.eq_1:=λ _ _ _=>qI
def FA:DSp:=λ xs M Φ=>on2 xs λ x y=>onO x λ p=>onS y λ s=>(s.length <= 140000 /\ ∀ c ∈ s.cps.toList,c < 128) /\ Pen M p /\ ∀ s' M',Tk (9 * s.length + 200) (3 * s.cps.toList.count 10 + 3) s'->Fr p M M'->Φ (.dat (.str s')) M'
theorem Lh:type_of% @FA.eq_1:=λ _ _ _=>qI
def ZaB:DSp:=λ xs M Φ=>on3 xs λ x y z=>onO x λ p=>onO y λ q=>onI z λ m=>m = 6 /\ Wd M q /\ q ≠ p /\ Pen M p /\ ∀ (ts:List Tl) (M':Mp),ts.length <= 6->(∀ t ∈ ts,TlG t)->Fr p M M'->Φ (.dat (.list (ts.map tlD))) M'
theorem TL:type_of% @ZaB.eq_1:=λ _ _ _=>qI
theorem Zb9 (h:j < n):ixN n (j:Int) = some j:=by
 unfold ixN;rw [if_pos (by lia),if_pos (by lia)];rfl
theorem three {V:Nat} {ls ys:List Str} (hl:Tls W n ls) (hy:Tls V m ys) (h:W + V + W <= 16777215) (a b c d:Option Int):(DL.cutD (ls.map PyData.str) a b).length <= 16777215 /\ (DL.cutD (ls.map PyData.str) a b ++ ys.map PyData.str).length + (DL.cutD (ls.map PyData.str) c d).length <= 16777216 /\
  ∃ ss:List Str,DL.cutD (ls.map PyData.str) a b ++ ys.map PyData.str ++ DL.cutD (ls.map PyData.str) c d = ss.map PyData.str /\ JoinOk (Str.ofString "\n") ss = true /\ Tk (W + V + W) (n + m + n) (Txt.join (Str.ofString "\n") ss):=by
 obtain ⟨la,ea,sa⟩:=Xq ls a b;obtain ⟨lc,ec,sc⟩:=Xq ls c d;have t:=((hl.sub sa).app hy).app (hl.sub sc);obtain ⟨j1,j2⟩:=t.lines (by lia);have w1:=Ym la;have w2:=(hl.sub sa).w;have w3:=Ym (la ++ ys ++ lc);have w4:=t.w;rw [ea,ec];refine ⟨by rw [List.length_map]; lia,?_,la ++ ys ++ lc,by rw [List.map_append,List.map_append],j1,j2⟩;rw [<- List.map_append,List.length_map,List.length_map,<- List.length_append];lia
theorem Zi2 (ha:∀ c ∈ s.cps.toList,c < 128) (h0:0 <= i) (h1:i < s.length):∃ c,L2.atI s.cps.toList i = some c /\ Tk 1 1 ⟨#[c]⟩:=by
 obtain ⟨j,rfl⟩:=Int.eq_ofNat_of_zero_le h0;have hj:j < s.cps.toList.length:=by rw [str_len]; lia
 refine ⟨_,Qv (List.getElem?_eq_getElem hj),Nat.le_refl _,λ c hc=>?_,List.count_le_length⟩;rw [List.mem_singleton.mp hc];exact ha _ (List.getElem_mem hj)
theorem Zeh (s:Str):Zhb s = GL (.str s):=by
 unfold Zhb GL;show _ = (match Qe ((QE s).map Ja) with | some j=>_ | none=>_)
 cases Qe ((QE s).map Ja) <;> rfl
theorem Zj2 (h:ZW "str" d = false):ZiC d /\ thN d <= 64 /\ PyData.int 0 = GL d:=by
 cases d <;> first | exact ⟨trivial,Nat.zero_le _,rfl⟩ | cases h
theorem Zfk:∀ d ∈ [PyData.none,PyData.int 0,PyData.bool true,PyData.list [],PyData.list [PyData.str (Str.ofString "free 5 a")],PyData.tuple [PyData.str (Str.ofString "free 5 a")],PyData.dict [],PyData.int 100000000000000000000,PyData.list [PyData.tuple [PyData.str (Str.ofString "free"),PyData.int 5,PyData.str (Str.ofString "a")]]],ZW "str" d = false:=λ d hd=>by
 simp only [List.mem_cons,List.not_mem_nil,or_false] at hd
 rcases hd with rfl | rfl | rfl | rfl | rfl | rfl | rfl | rfl | rfl <;> rfl
local macro_rules | `(tactic| walk_at "rk")=>`(tactic| try simp (config:={ maxSteps:=10000000 }) only [↓SN,↓Tn,↓Sz,↓R9,↓TX,↓TY,↓PM,↓RE,↓Pd,↓Zdx,↓ZbY,↓Zem,↓ZeG,↓ZbQ,↓SS,↓Sf,↓Rh,↓So,↓RH,↓Rg,↓TB,↓RG,↓P5,↓Sr,↓RA,↓SA,↓OY,↓N3,↓Ze0,↓Zln,↓ZjF,↓ZiH,↓Zk2,↓P0,↓ZhY,↓ZjA,↓ZfR,↓ZcT,↓ZhK,↓Zea,↓ZiR,↓Zg9,↓ZjT,↓Zge,↓Zfd,↓Zdn,↓ZfY,↓Zgs,↓ZeI,↓ZfT,↓P7,↓Sw,↓SX,↓T4,↓P8,↓RN,↓ZhX,↓ZjI,↓Zew,↓SJ,↓Rn,↓ZdH,↓Zh6,↓RM,↓Hs,↓PH,↓PC,↓ZfB,↓Zfp,↓O5,↓ZcW,↓Zgp,↓Zdg,↓Zhn,↓Zc2,↓ZhA,↓ZhV,↓GI,↓Hu,↓Ei,↓RV,↓S3,↓ZdE,↓ZdL,↓ZhH,↓Lx,↓ZcX,↓Sb,↓S8,↓Zeb,↓Rt,↓ZfH,↓Zfw,↓Zel,↓Zcy,↓PB,↓Su,↓Zd5,↓ZgL,↓Ru,↓Zfe,↓Ma,↓ZdG,↓Ze1,↓S9,↓Rc,↓Ry,↓Zgt,↓P4,↓ES,↓ZeF,O4,OF,Rw,SQ,Pw,Lu,Yk,Pa,ZiN,Pz,ZgH,ZaV,Zbt,Zar,ZgJ,isNone_none,D3,HW,Ld,CV,BY,DM,
 Option.bind_some,Option.bind_none,Option.join_some,Option.join_none,Option.getD_some,Option.map_some,Option.map_none,List.getElem?_cons_zero,List.getElem?_cons_succ,List.set_cons_zero,List.set_cons_succ,List.map_cons,List.map_nil,List.length_cons,List.length_nil,List.replicate,List.cons_append,List.nil_append,List.any_cons,List.any_nil,
 ZK,O8,↓reduceIte,Bool.not_true,Bool.not_false,Bool.or_false,Bool.or_true,Bool.true_or,Bool.false_or,Bool.and_true,Bool.and_false,Bool.true_and,Bool.false_and,Bool.bne_true,Bool.bne_false,Bool.false_eq_true,eq_self,true_and,and_true,ZgB,Zg3,ZgF,exists_eq_left',exists_eq_left,Option.some.injEq,Nat.reduceAdd,Nat.reduceSub,Nat.zero_add,Nat.reduceLT,Nat.reduceLeDiff,Int.reduceToNat,Int.reducePow,Int.reduceSub,Int.reduceMul,Int.reduceAdd,Int.reduceNeg,
 Int.reduceLT,Int.reduceLE,Int.reduceEq,Int.zero_add,Int.cast_ofNat_Int,decide_true,decide_false,sizeLine_eq,ZcY,SR,ZhP,Zii,ZjS,Zj1,ZjB,Zjd,Zi6,Zjm,Dq,Eg,HP,HK,Eh,Ct,DH,Ce,Cn,Ea,D4,GX,U7,CN,UR,GA,BN,Cr,U6,WJ,UW,BU,CL,Dx,DR,CI,Gj,BQ,C5,D7,Hm,Hy,DC,BJ,Dk,Br,Cb,D8,CZ,Bb,GG,GR,↓EB,↓T8,↓R8,↓PY,Zde,Zb7,↓Zjs,↓ZgR,↓ZhB,↓Zgl,↓Zgg,↓NM,↓ZjG,↓Zcq,↓Zje,↓Zic,↓Rb,↓Zb4,↓Zei,↓Er,↓Om,↓ZfP,↓ZbO,↓S1,↓Tf,↓ZdQ,↓ZgW,↓ZbB,↓LD,↓Zb5,↓Zcp,↓Sd,↓Zdk,↓Zcj,↓NB,↓RW,ZbX,↓PV,↓Pc,↓Mr,↓UK,↓C1,↓Ng,↓Rq,↓TU,↓Dj,↓RU,↓Mc,↓PR,↓ZhO,↓TK,↓ZbJ,↓Mu,↓Zds,↓SU,↓Sy,↓TQ,↓Sm,↓Zdo,↓GQ,↓Et,↓UN,↓Gp,↓UU,ZbV,↓NT,↓RQ,↓Ll,↓ZcJ,↓Zes,↓Zda,↓ZcP,↓Pk,↓Zeu,↓ES,↓GP,↓Dm,↓Lc,↓DB,↓OV,↓Pb,↓N0,↓Hk,↓Ot,↓CY,↓Lf,↓HV,↓Zef,↓Zfl,↓PD,↓Th,RC,P1,↓Sx,↓NV,↓Zcl,↓Lh,↓TL,↓NY,↓Zgc,↓Zeq])
theorem J8 (T:Tx K mg):Qu P w K mg base CX0 1 T.Uc T.W5 ["thing"] (lift K spW):=by
 refine okD T.J1.F Dw (λ xs M Φ h=>by obtain ⟨_,rfl,_⟩:=Zp h; rfl) λ cdv A outer s H E hr=>⟨_,(Zh (Zn (Qs (Zk (YW (ZeD _)) rfl T.ZQ ZL (Za (Zb 0) (Za (WH rfl T.Lr Uk) Zd))) (QR (ZhC (Zk (YW (TF _)) rfl T.ZQ ZL (Za (Zb 0) (Za (WH rfl T.Zfv Zdz) Zd)))))))),λ xs M Φ h=>?_⟩;replace h:=Zp h;obtain ⟨x1,rfl,h⟩:=h;replace h:=ZY h;obtain ⟨d,rfl,h⟩:=h;walk_at "rk";cases d <;> simpa [ZW,tyN,Z9] using h
theorem YA (T:Tx K mg):Qu P w K mg base CX0 2 T.Ur T.Ul ["thing"] (lift K Zka):=by
 refine okD T.V9.F CT (λ xs M Φ h=>by obtain ⟨_,rfl,_⟩:=Zp h; rfl) λ cdv A outer s H E hr=>⟨_,(Zh (Zn (Qs (cO T.J1 (J8 T) hr (Za (Zb 0) Zd)) (QR (Ye Xs Xs (Fw (V8 rfl T.Zbs)) (Zb 0) (V8 rfl T.Zbs)))))),λ xs M Φ h=>?_⟩;replace h:=Zp h;obtain ⟨x1,rfl,h⟩:=h;replace h:=ZY h;obtain ⟨d,rfl,h⟩:=h;walk_at "rk";cases d with
 | int i=>
  walk_at "rk";simp only [Z9];walk_at "rk";refine Zi (λ h1=>?_) λ h1=>?_
  ·simpa [ZG,h1] using h
  ·simpa [ZG,h1] using h
 | _=>simpa [Z9,ZG] using h
theorem WM (T:Tx K mg):Qu P w K mg base CX0 2 T.YY T.Y3 ["thing"] (lift K Zki):=by
 refine okD T.Y4.F WB (λ xs M Φ h=>by obtain ⟨_,rfl,_⟩:=Zp h; rfl) λ cdv A outer s H E hr=>⟨_,(Zh (Zn (Qs (Zk (YW (kit_tuple _)) rfl T.ZQ ZL (Za (Zb 0) (Za (WH rfl T.QZ Qy) Zd))) (Qs (Jc (Jh hr) (Zk Z8 rfl T.Qo ZP (Za (Zb 0) Zd)) Zc) (Qs (cO T.J1 (J8 T) hr (Za (Zo (Zb 0) Zc) Zd)) (QR (cO T.J1 (J8 T) hr (Za (Zo (Zb 0) Zc) Zd)))))))),λ xs M Φ h=>?_⟩;replace h:=Zp h;obtain ⟨x1,rfl,h⟩:=h;replace h:=ZY h;obtain ⟨d,rfl,h⟩:=h;cases d with
 | tuple ds=>
  walk_at "rk";rw [ZkF];refine Zi (λ h1=>?_) λ h1=>?_
  ·obtain ⟨a,b,rfl⟩:=B3 h1;walk_at "rk";cases q:Z9 a with
   | true=>
    walk_at "rk"
    simpa [Yn,q] using h
   | false=>
    walk_at "rk"
    simpa [Yn,q] using h
  ·rw [(B9 h1).1] at h;exact h
 | _=>
  walk_at "rk";exact h
theorem Xl (T:Tx K mg):Qu P w K mg base CX0 3 T.B6 T.BX ["thing"] (lift K Zkk):=by
 refine okD T.YK.F HJ (λ xs M Φ h=>by obtain ⟨_,rfl,_⟩:=Zp h; rfl) λ cdv A outer s H E hr=>⟨_,(Zh (Zn (Qs (cO T.Y4 (WM T) hr (Za (Zb 0) Zd)) (Qs (cO T.V9 (YA T) hr (Za (Zo (Zb 0) Zc) Zd)) (QR (cO T.V9 (YA T) hr (Za (Zo (Zb 0) Zc) Zd))))))),λ xs M Φ h=>?_⟩;replace h:=Zp h;obtain ⟨x1,rfl,h⟩:=h;replace h:=ZY h;obtain ⟨d,rfl,h⟩:=h;walk_at "rk";cases q:Yn d with
 | false=>
  walk_at "rk";rw [Fp q] at h;exact h
 | true=>
  obtain ⟨x,y,rfl⟩:=Zaf q;walk_at "rk";replace h:Φ (.dat (.bool (ZG (.int x) && ZG (.int y)))) M:=h;cases q1:ZG (.int x) with
  | false=>
   rw [q1] at h;walk_at "rk";exact h
  | true=>
   rw [q1] at h;walk_at "rk";exact h
theorem Bj (T:Tx K mg):Qu P w K mg base CX0 1 T.Kn T.K8 ["box"] (lift K Zfm):=by
 refine okD T.Kq.F Bh (λ xs M Φ h=>by obtain ⟨_,rfl,_⟩:=Zp h; rfl) λ cdv A outer s H E hr=>⟨_,(Zh (Zn (Qs (Jc Xs (Zo (Zo (Zb 0) Zc) Zc) (Zo (Zo (Zb 0) Zc) Zc)) (QR (Jc Xs (Zo (Zo (Zb 0) Zc) Zc) (Zo (Zo (Zb 0) Zc) Zc)))))),λ xs M Φ h=>?_⟩;replace h:=Zp h;obtain ⟨x1,rfl,h⟩:=h;replace h:=Uw h;obtain ⟨b,rfl,h⟩:=h;walk_at "rk";refine Zi (λ h1=>?_) (λ h1=>?_)
 ·unfold okB at h
  simpa [h1] using h
 ·unfold okB at h
  simpa [h1] using h
theorem Nm (T:Tx K mg):Qu P w K mg base CX0 4 T.F9 T.Ha ["thing"] (lift K ZkP):=by
 refine okD T.Ey.F Lz (λ xs M Φ h=>by obtain ⟨_,rfl,_⟩:=Zp h; rfl) λ cdv A outer s H E hr=>⟨_,(Ze (ZZ (DW.dt (Ji (Jz (QX (Zk (YW (kit_tuple _)) rfl T.ZQ ZL (Za (Zb 0) (Za (WH rfl T.QZ Qy) Zd))))) (Jn (Zs (H0 hr) (Zk Z8 rfl T.Qo ZP (Za (Zb 0) Zd)) Zc)))) (Zh (Zn UZ)) Zt)
 (Zh (Zn (Qs (cO T.YK (Xl T) hr (Za (Zo (Zb 0) Zc) Zd)) (Qs (cO T.YK (Xl T) hr (Za (Zo (Zb 0) Zc) Zd)) (QR (cO T.Kq (Bj T) hr (Za (Zb 0) Zd)))))))),λ xs M Φ h=>?_⟩
 replace h:=Zp h;obtain ⟨x1,rfl,h⟩:=h;replace h:=ZY h;obtain ⟨d,rfl,h⟩:=h;cases d with
 | tuple ds=>
  walk_at "h";rw [ZkF]
  by_cases h1:ds.length = 2
  ·obtain ⟨a,b,rfl⟩:=B3 h1;replace h:Φ (.dat (.bool (ZD a && (ZD b && okB (toB (.tuple [a,b])))))) M:=h;subst_vars;walk_at "rk";cases q:ZD a with
   | false=>
    rw [q] at h;walk_at "rk";exact h
   | true=>
    rw [q] at h;walk_at "rk";cases q2:ZD b with
    | false=>
     rw [q2] at h;walk_at "rk";exact h
    | true=>
     rw [q2] at h;obtain ⟨x,y,rfl,_⟩:=UP q;obtain ⟨x',y',rfl,_⟩:=UP q2;walk_at "rk";exact h
  ·rw [decide_eq_false h1];rw [(B9 h1).2.2] at h;walk_at "rk";exact h
 | _=>
  walk_at "rk";exact h
theorem ZaC (T:Tx K mg):Qu P w K mg base CX0 1 T.ZgK T.ZfO ["one", "other", "way"] (lift K ZhF):=by
 refine okD T.Zec.F Zg5 (λ xs M Φ h=>by obtain ⟨_,_,_,rfl,_⟩:=YL h; rfl) λ cdv A outer s H E hr=>⟨_,(Zh (Zn (Zk (Zb2 rfl) rfl T.ZcO OM (Za Zc (Za (Zl Jp (Zo (Zo (Zb 1) Zc) (Zb 2)) (Zo (Zo (Zb 0) Zc) (Zb 2))) (Za (Zl Jp (Zo (Zo (Zb 0) Zc) (Zb 2)) (Zo (Zo (Zb 1) Zc) (Zb 2))) Zd)))))),λ xs M Φ h=>?_⟩;replace h:=YL h;obtain ⟨x1,x2,x3,rfl,h⟩:=h;replace h:=Uw h;obtain ⟨a,rfl,h⟩:=h;replace h:=Uw h;obtain ⟨b,rfl,h⟩:=h;replace h:=ZX h;obtain ⟨i,rfl,hi,h⟩:=h
 rcases hi with rfl | rfl
 ·walk_at "rk";exact h
 ·walk_at "rk";exact h
theorem X3 (T:Tx K mg):Qu P w K mg base CX0 2 T.VQ T.VD ["one", "other"] (lift K BD):=by
 refine okD T.Vy.F X5 (λ xs M Φ h=>by obtain ⟨_,_,rfl,_⟩:=Qk h; rfl) λ cdv A outer s H E hr=>⟨_,(Zh (Zn (Zk (ZbI rfl) rfl T.ZcO OM (Za (cO T.Zec (ZaC T) hr (Za (Zb 0) (Za (Zb 1) (Za Zc Zd)))) (Za (cO T.Zec (ZaC T) hr (Za (Zb 0) (Za (Zb 1) (Za Zc Zd)))) Zd))))),λ xs M Φ h=>?_⟩;replace h:=Qk h;obtain ⟨x1,x2,rfl,h⟩:=h;replace h:=Uw h;obtain ⟨a,rfl,h⟩:=h;replace h:=Uw h;obtain ⟨b,rfl,h⟩:=h;walk_at "rk";exact ⟨.inl trivial,.inr trivial,h⟩
theorem Dr (T:Tx K mg):Qu P w K mg base CX0 3 T.UB T.Ua ["boxes"] (lift K LF):=by
 refine okD T.UI.F C9 (λ xs M Φ h=>by obtain ⟨_,rfl,_⟩:=Zp h; rfl) λ cdv A outer s H E hr=>⟨_,(Zh (Zn (Zk (Fx rfl) rfl T.RP Fn (Za (Qr false (ZC (sc:=Zf Yc) (XN:=["boxes"]) (N:=["k", "boxes"]) (ix:=[none,some 0]) rfl rfl (by walk_at "k")) (N7 rfl T.QY (Za Zc (Za (Zk Z8 rfl T.Qo ZP (Za (Zb 0) Zd)) Zd))) (λ C ex s H=>(ZA 0 (show List.Nodup (["k", "boxes"]:List Str) by walk_at "k"))) (λ C ex s H=>Z7) (λ C ex s H=>(Jc Xs (cO T.Vy (X3 T) hr (Za (Zo (Zb 1) (Zl Jp (Zb 0) Zc)) (Za (Zo (Zb 1) (Zb 0)) Zd))) Zc)) rfl) Zd)))),λ xs M Φ h=>?_⟩;replace h:=Zp h;obtain ⟨x1,rfl,h⟩:=h;replace h:=Zcf h;obtain ⟨bs,rfl,hl,h⟩:=h;walk_at "rk";rw [List.length_map];refine ⟨⟨⟨by decide,by decide⟩,⟨by lia,by lia⟩⟩,by rw [Qd]; lia,λ i acc M'=>acc = ((List.range i).map (stB bs)).map PyData.bool /\ M' = M,⟨rfl,rfl⟩,?_,?_⟩
 ·rintro i d acc M' hd ⟨rfl,rfl⟩;have hi:i < ((bs.length:Int) - 1).toNat:=by have:=(List.getElem?_eq_some_iff.mp hd).1; rw [Qd] at this; exact this
  rw [YS hi] at hd;cases hd;walk_at "rk";have hi':i + 1 < bs.length:=by lia
  have e1:L2.atI (bs.map bD) (1 + (i:Int) - 1) = some (bD bs[i]):=by
   rw [show 1 + (i:Int) - 1 = (i:Int) by lia];exact Qv (by rw [List.getElem?_map,List.getElem?_eq_getElem (by lia)]; rfl)
  have e2:L2.atI (bs.map bD) (1 + (i:Int)) = some (bD bs[i + 1]):=by
   rw [show 1 + (i:Int) = ((i + 1:Nat):Int) by lia];exact Qv (by rw [List.getElem?_map,List.getElem?_eq_getElem (by lia)]; rfl)
  refine QJ e1 (QJ e2 ?_);walk_at "rk";rw [List.range_succ,List.map_append,List.map_append];unfold stB;simp [List.getElem?_eq_getElem,hi',show i < bs.length by lia]
 ·rintro acc M' ⟨rfl,rfl⟩;refine ⟨_,rfl,?_⟩;rw [Qd,List.all_map,show ((bs.length:Int) - 1).toNat = bs.length - 1 by lia];rw [LL] at h;exact h
theorem C8 (T:Tx K mg):Qu P w K mg base CX0 5 T.W8 T.Ut ["thing"] (lift K Nq):=by
 refine okD T.Up.F Dy (λ xs M Φ h=>by obtain ⟨_,rfl,_⟩:=Zp h; rfl) λ cdv A outer s H E hr=>⟨_,(Ze (ZZ (DW.dt (Ji (Jz (QX (Zk (YW (kit_tuple _)) rfl T.ZQ ZL (Za (Zb 0) (Za (WH rfl T.QZ Qy) Zd))))) (Jn (Jz (Fh Xs Xs Zc (Zk Z8 rfl T.Qo ZP (Za (Zb 0) Zd)) (V8 rfl T.Cv)))))) (Zh (Zn UZ)) Zt)
 (Zh (Zn (Qs (Zk (Fx rfl) rfl T.RP Fn (Za (Qr false (ZC (sc:=Zf V7) (XN:=["thing"]) (N:=["box"]) (ix:=[none]) rfl rfl (by walk_at "k")) (Cy (Zb 0)) (λ C ex s H=>(ZA 0 (show List.Nodup (["box"]:List Str) by walk_at "k"))) (λ C ex s H=>Z7) (λ C ex s H=>(cO T.Ey (Nm T) hr (Za (Zb 0) Zd))) rfl) Zd)) (QR (cO T.UI (Dr T) hr (Za (Zb 0) Zd))))))),λ xs M Φ h=>?_⟩
 replace h:=Zp h;obtain ⟨x1,rfl,h⟩:=h;replace h:=ZY h;obtain ⟨d,rfl,h⟩:=h;cases d with
 | tuple ds=>
  walk_at "h";refine Zi (λ h1=>BH (λ h2=>?_) λ h2=>?_) λ h1=>?_
  ·rw [CB (.inr h2)] at h;exact h
  ·have e:ZS (.tuple ds) = (ds.all Z4 && chB (ds.map toB)):=by
    show ((decide (1 <= ds.length) && decide (ds.length <= 6)) && _) = _;rw [decide_eq_true (show 1 <= ds.length by lia),decide_eq_true (show ds.length <= 6 by lia)];rfl
   rw [e] at h;subst_vars;walk_at "rk";refine ⟨by lia,λ i acc M'=>acc = ((ds.take i).map Z4).map PyData.bool /\ M' = M,⟨rfl,rfl⟩,?_,?_⟩
   ·rintro i d acc M' hd ⟨rfl,rfl⟩;walk_at "rk";rw [<- take_snoc _ hd,List.map_append];rfl
   ·rintro acc M' ⟨rfl,rfl⟩;refine ⟨_,rfl,?_⟩;rw [List.take_length,List.all_map];show if ds.all Z4 = true then _ else _
    cases q:ds.all Z4 with
    | false=>
     rw [q] at h;walk_at "rk";exact h
    | true=>
     rw [q] at h;obtain ⟨bs,rfl⟩:=FV q;rw [Yt] at h;walk_at "rk";rw [List.length_map] at h2;exact ⟨by lia,h⟩
  ·rw [CB (.inl h1)] at h;exact h
 | _=>
  walk_at "rk";exact h
theorem Li (T:Tx K mg):Qu P w K mg base CX0 2 T.Bt T.Co ["thing"] (lift K spT):=by
 refine okD T.G3.F Hl (λ xs M Φ h=>by obtain ⟨_,rfl,_⟩:=Zp h; rfl) λ cdv A outer s H E hr=>⟨_,(Zh (Zn (Qs (cO T.J1 (J8 T) hr (Za (Zb 0) Zd)) (QR (Ye Xs Xs Zc (Zb 0) (V8 rfl T.Ee)))))),λ xs M Φ h=>?_⟩;replace h:=Zp h;obtain ⟨x1,rfl,h⟩:=h;replace h:=ZY h;obtain ⟨d,rfl,h⟩:=h;walk_at "rk";cases d with
 | int i=>
  walk_at "rk";simp only [Z9];walk_at "rk";refine Zi (λ h1=>?_) λ h1=>?_
  ·simpa [Z6,h1] using h
  ·simpa [Z6,h1] using h
 | _=>simpa [Z9,Z6] using h
theorem Ub (T:Tx K mg):Qu P w K mg base CX0 1 T.CA T.Cp ["thing"] (lift K spN):=by
 refine okD T.Kt.F HC (λ xs M Φ h=>by obtain ⟨_,rfl,_⟩:=Zp h; rfl) λ cdv A outer s H E hr=>⟨_,(Ze (ZZ (DW.dt (Ji (Jz (QX (Zk (YW (OK _)) rfl T.ZQ ZL (Za (Zb 0) (Za (WH rfl T.Bp XE) Zd))))) (Jn (Jz (Fh Xs Xs Zc (Zk YG rfl T.Qo ZP (Za (Zb 0) Zd)) (V8 rfl T.WK)))))) (Zh (Zn UZ)) Zt)
 (Zh (Zn (Zk (Fx rfl) rfl T.RP Fn (Za (Qr false (ZC (sc:=Zf YR) (XN:=["thing"]) (N:=["sign"]) (ix:=[none]) rfl rfl (by walk_at "k")) (FC (Zb 0)) (λ C ex s H=>(ZA 0 (show List.Nodup (["sign"]:List Str) by walk_at "k"))) (λ C ex s H=>Z7) (λ C ex s H=>(Ye Fm Fm Zg (Zb 0) Zg)) rfl) Zd))))),λ xs M Φ h=>?_⟩
 replace h:=Zp h;obtain ⟨x1,rfl,h⟩:=h;replace h:=ZY h;obtain ⟨d,rfl,hk,h⟩:=h;cases d with
 | str s=>
  have hl:s.length <= 2000000:=by simpa [Yp] using hk
  walk_at "h";refine ⟨by lia,Zi (λ h1=>BH (λ h2=>?_) λ h2=>?_) λ h1=>?_⟩
  ·rw [GS (.inr h2)] at h;exact h
  ·have e:Zx (.str s) = s.cps.toList.all CM:=by
    show ((decide (1 <= s.length) && decide (s.length <= 8)) && s.cps.toList.all CM) = _;rw [decide_eq_true (show 1 <= s.length by lia),decide_eq_true (show s.length <= 8 by lia)];rfl
   rw [e] at h;subst_vars;walk_at "rk";refine ⟨by rw [List.length_map,str_len]; lia,λ i acc M'=>acc = ((s.cps.toList.take i).map CM).map PyData.bool /\ M' = M,⟨rfl,rfl⟩,?_,?_⟩
   ·rintro i d acc M' hd ⟨rfl,rfl⟩;obtain ⟨c,ec,rfl⟩:=QC hd;unfold F4;walk_at "rk";rw [ZjZ,ZiV];refine Zi (λ h3=>?_) λ h3=>?_
    ·rw [<- take_snoc _ ec,List.map_append];simp [CM,h3]
    ·rw [<- take_snoc _ ec,List.map_append];simp [CM,h3]
   ·rintro acc M' ⟨rfl,rfl⟩;refine ⟨_,rfl,?_⟩;rw [List.length_map,List.take_length,List.all_map];exact h
  ·rw [GS (.inl h1)] at h;exact h
 | _=>
  walk_at "rk"
  simpa [Zx] using h
theorem YF (T:Tx K mg):Qu P w K mg base CX0 2 T.JO T.JU ["thing"] (lift K Zkp):=by
 refine okD T.JK.F YE (λ xs M Φ h=>by obtain ⟨_,rfl,_⟩:=Zp h; rfl) λ cdv A outer s H E hr=>⟨_,(Zh (Zn (ZjQ (Jc (YU hr) (Zb 0) Zg) (QR (cO T.Kt (Ub T) hr (Za (Zb 0) Zd)))))),λ xs M Φ h=>?_⟩;replace h:=Zp h;obtain ⟨x1,rfl,h⟩:=h;replace h:=ZY h;obtain ⟨d,rfl,hk,h⟩:=h;walk_at "rk";cases q:isS d (Str.ofString "") with
 | true=>
  rw [q] at h;walk_at "rk";exact h
 | false=>
  rw [q] at h;walk_at "rk";exact ⟨hk,h⟩
theorem BR (T:Tx K mg):Qu P w K mg base CX0 3 T.Wx T.KO ["thing"] (lift K ZgC):=by
 refine okD T.Wk.F BE (λ xs M Φ h=>by obtain ⟨_,rfl,_⟩:=Zp h; rfl) λ cdv A outer s H E hr=>⟨_,(Zh (Zn (Qs (cO T.V9 (YA T) hr (Za (Zb 0) Zd)) (QR (Jc TZ (Zb 0) Zc))))),λ xs M Φ h=>?_⟩;replace h:=Zp h;obtain ⟨x1,rfl,h⟩:=h;replace h:=ZY h;obtain ⟨d,rfl,h⟩:=h;walk_at "rk";cases d with
 | int i=>
  replace h:Φ (.dat (.bool (decide (0 <= i) && decide (i <= 999999999999)))) M:=h;walk_at "rk";show if (decide (-999999999999 <= i) && decide (i <= 999999999999)) = true then _ else _
  by_cases h1:i <= 999999999999
  ·by_cases h2:0 <= i
   ·rw [decide_eq_true h1,decide_eq_true h2] at h;rw [decide_eq_true h1,decide_eq_true (show -999999999999 <= i by lia)];walk_at "rk";rw [decide_eq_true h2];exact h
   ·rw [decide_eq_false h2] at h;rw [decide_eq_true h1,Bool.and_true];refine Zi (λ h3=>?_) λ h3=>?_
    ·walk_at "rk";rw [decide_eq_false h2];exact h
    ·exact h
  ·rw [decide_eq_false h1,Bool.and_false] at h;rw [decide_eq_false h1,Bool.and_false];exact h
 | _=>
  walk_at "rk";exact h
theorem Gh (T:Tx K mg):Qu P w K mg base CX0 6 T.Xw T.XQ ["thing"] (lift K Zbr):=by
 refine okD T.XM.F GK (λ xs M Φ h=>by obtain ⟨_,rfl,_⟩:=Zp h; rfl) λ cdv A outer s H E hr=>⟨_,(Ze (ZZ (DW.dt (Ji (Jz (QX (Zk (YW (kit_tuple _)) rfl T.ZQ ZL (Za (Zb 0) (Za (WH rfl T.QZ Qy) Zd))))) (Jn (Zs Xj (Zk Z8 rfl T.Qo ZP (Za (Zb 0) Zd)) Zc)))) (Zh (Zn UZ)) Zt)
 (Ze (ZZ (DW.dt (Ji (Jz (QX (cO T.G3 (Li T) hr (Za (Zo (Zb 0) Zc) Zd)))) (Jn (Jz (QX (cO T.Kt (Ub T) hr (Za (Zo (Zb 0) Zc) Zd))))))) (Zh (Zn UZ)) Zt)
 (Ze (ZZ (Zs (YU hr) (Zo (Zb 0) Zc) Zg) (Zh (Zn (Qs (Jc (Jh hr) (Zk Z8 rfl T.Qo ZP (Za (Zb 0) Zd)) Zc) (Qs (cO T.JK (YF T) hr (Za (Zo (Zb 0) Zc) Zd)) (Qs (cO T.Up (C8 T) hr (Za (Zo (Zb 0) Zc) Zd)) (QR (cO T.Wk (BR T) hr (Za (Zo (Zb 0) Zc) Zd)))))))) Zt)
 (Ze (ZZ (Zs (YU hr) (Zo (Zb 0) Zc) Zg) (Zh (Zn (Qs (Jc (Jh hr) (Zk Z8 rfl T.Qo ZP (Za (Zb 0) Zd)) Zc) (QR (cO T.YK (Xl T) hr (Za (Zo (Zb 0) Zc) Zd)))))) Zt)
 (Zh (Zn (Qs (Jc (Jh hr) (Zk Z8 rfl T.Qo ZP (Za (Zb 0) Zd)) Zc) (QR (Jc (MB hr) (Zo (Zb 0) Zc) (Qh (Za Zg (Za Zg Zd)))))))))))),λ xs M Φ h=>?_⟩
 replace h:=Zp h;obtain ⟨x1,rfl,h⟩:=h;replace h:=ZY h;obtain ⟨d,rfl,hk,h⟩:=h;cases d with
 | tuple ds=>
  walk_at "h";refine Zi (λ h1=>?_) λ h1=>?_
  ·rw [OH (by lia)] at h;exact h
  ·obtain ⟨k,t,n,l,rfl⟩:=PF (ds:=ds) (by lia);replace hk:(Yp k && (Yp t && (Yp n && l.all Yp))) = true:=hk;simp only [Bool.and_eq_true] at hk;obtain ⟨_,_,hn,hl⟩:=hk;replace h:Φ (.dat (.bool (Z6 t && (Zx n && JG k l)))) M:=h;walk_at "h";cases q1:Z6 t with
   | false=>
    rw [q1] at h;walk_at "rk";exact h
   | true=>
    rw [q1] at h;walk_at "rk";refine ⟨hn,?_⟩;cases q2:Zx n with
    | false=>
     rw [q2] at h;walk_at "rk";exact h
    | true=>
     rw [q2] at h;unfold JG at h;walk_at "rk";walk_at "h";cases q3:isS k (Str.ofString "land") with
     | true=>
      rw [q3] at h;walk_at "rk";refine Zi (λ h2=>?_) λ h2=>?_
      ·obtain ⟨o,v,z,rfl⟩:=RO (ds:=l) (by lia);replace h:Φ (.dat (.bool ((isS o (Str.ofString "") || Zx o) && (ZS v && Vp z)))) M:=h;replace hl:(Yp o && _) = true:=hl;walk_at "rk";refine ⟨(Bool.and_eq_true_iff.mp hl).1,?_⟩;cases q4:(isS o (Str.ofString "") || Zx o) with
       | false=>
        rw [q4] at h;exact h
       | true=>
        rw [q4] at h;walk_at "rk";cases q5:ZS v with
        | false=>
         rw [q5] at h;exact h
        | true=>
         rw [q5] at h;exact h
      ·rw [if_pos rfl,Zch (show l.length ≠ 3 by lia)] at h;exact h
     | false=>
      rw [q3,if_neg Bool.false_ne_true] at h;walk_at "rk";walk_at "h";cases q4:isS k (Str.ofString "spot") with
      | true=>
       rw [q4] at h;walk_at "rk";refine Zi (λ h2=>?_) λ h2=>?_
       ·obtain ⟨v,rfl⟩:=ZhJ (ds:=l) (by lia);exact h
       ·rw [if_pos rfl,Zci (show l.length ≠ 1 by lia)] at h;exact h
      | false=>
       rw [q4,if_neg Bool.false_ne_true] at h;subst_vars;walk_at "rk";refine Zi (λ h2=>?_) λ h2=>?_
       ·obtain rfl:l = []:=List.length_eq_zero_iff.mp (by lia);refine ⟨[Str.ofString "drop",Str.ofString "free"],rfl,?_⟩;simp only [List.any_cons,List.any_nil,Bool.or_false];exact h
       ·have e:l.isEmpty = false:=by
         cases l with
         | nil=>exact absurd rfl h2
         | cons _ _=>rfl
        rw [e] at h;exact h
 | _=>
  walk_at "rk";exact h
theorem Zy (T:Tx K mg):Qu P w K mg base CX0 1 T.ZaW T.Zau ["_law_pen", "_law_many"] (lift K ZaI):=by
 refine okD T.ZH.F Yq (λ xs M Φ h=>by obtain ⟨_,_,rfl,_⟩:=Qk h; rfl) λ cdv A outer s H E hr=>⟨_,(Ze (ZZ (Zs Wc (Zo (Zb 0) Zc) Zc) (Ze (Zq 6 Yq.nd (Zl JS (Zo (Zb 0) Zc) (Zb 1)))
 (Ze (Wm (Zl Fg (Zo (Zb 0) Zc) (Zb 1)) (Fd (Zb 0) Zc))
 (Zh (Zn (Zb 6))))) Zt)
 (Ze (Zq 2 Yq.nd (Zo (Zb 0) Zc))
 (Ze (Wm (Zl ZJ (Zb 2) Zc) (Fd (Zb 0) Zc))
 (Ze (Zq 3 Yq.nd Zc)
 (Ze (ZZ (Zs Wc (Zk Z8 rfl T.Qo ZP (Za (Zo (Zb 0) Zc) Zd)) Zc) (Zh (Zq 3 Yq.nd (Zo (Zo (Zb 0) Zc) (Zl JS (Zb 2) (Zk Z8 rfl T.Qo ZP (Za (Zo (Zb 0) Zc) Zd)))))) Zt)
 (Ze (ZZ (DW.dt (Yi (Zs Xj (Zb 2) (Zk Z8 rfl T.Qo ZP (Za (Zo (Zb 0) Zc) Zd))) (J9 (Zs TZ (Zk EW rfl T.Rk FR (Za (Zb 3) Zd)) (Zl JL Zc Zc))))) (Ze (Wm (Zl Fg (Zk EW rfl T.Rk FR (Za (Zb 3) Zd)) (Zb 1)) (Fd (Zb 0) Zc))
 (Zh (Zn (Zl JS (Zk EW rfl T.Rk FR (Za (Zb 3) Zd)) (Zb 1))))) Zt)
 (Ze (Zq 4 Yq.nd (Zl JS (Zl Jo (Zl ZJ (Zl ZJ (Zl JS (Zb 3) Zc) (Zl Jo Zc (Zb 2))) Zc) Zc) Zc))
 (Ze (Zq 5 Yq.nd (Zl JS (Zl ZJ (Zl ZJ (Zl Jo (Zb 4) (Zb 4)) (Zl Jo Zc (Zb 4))) (Zl Jo Zc (Zb 2))) Zc))
 (Zh (Zn (Zl JS (Zl Dc (Zl JS (Zl Jo (Zb 5) (Zl ZJ (Zl JS (Zb 5) Zc) Zc)) Zc) Zc) (Zb 1)))))))))))),λ xs M Φ h=>?_⟩
 replace h:=Qk h;obtain ⟨x1,x2,rfl,h⟩:=h;replace h:=Qw h;obtain ⟨p,rfl,h⟩:=h;replace h:=ZX h;obtain ⟨m,rfl,⟨h0,h1⟩,hp,h⟩:=h;obtain ⟨ns,i,b,hi,hp⟩:=hp.get;have lg:m.natAbs.log2 < 9000:=Nat.lt_of_lt_of_le (Kh (k:=200) (by lia) (by decide)) (by decide);have fin:∀ (x j c:Int),0 <= j->Φ (.dat (.int (x % m))) (ZR M p (.lst [.list (ns.map PyData.int),.int j,.int c])):=λ x j c hj=>h _ _ (G0 x h0).1 (G0 x h0).2 (Fr.ZR ⟨ns,j,c,hj,rfl⟩);walk_at "h";simp only [hp];walk_at "rk";refine Zi (λ h2=>?_) λ h2=>?_
 ·exact ⟨h0,⟨h0,lg⟩,fin _ _ _ hi⟩
 ·walk_at "h";simp only [hp];walk_at "rk";walk_at "h";simp only [hp];walk_at "rk";walk_at "h";walk_at "h";rw [List.length_map];refine Zi (λ hl=>?_) λ hl=>?_
  ·have hm:=G0 i hl;obtain ⟨c,hc⟩:=ZdV (ns:=ns) hm.1 hm.2;refine ⟨hl,QJ hc ?_⟩;walk_at "h";rw [List.length_map];refine Zi (λ h2=>⟨Ez _ (by decide),Zi (λ h3=>⟨⟨h0,lg⟩,h0,fin _ _ _ (by lia)⟩) λ h3=>?_⟩) λ h2=>?_
   ·walk_at "h";refine ⟨.inl (by decide),.inr (by decide),?_⟩;walk_at "h";refine ⟨.inl (by lia),.inl (by decide),.inl (by decide),?_⟩;subst_vars;walk_at "rk";refine ⟨.inl (by lia),⟨by decide,by decide⟩,by assumption,?_⟩;exact fin _ _ _ (by lia)
   ·walk_at "h";refine ⟨.inl (by decide),.inr (by decide),?_⟩;walk_at "h";refine ⟨.inl (by lia),.inl (by decide),.inl (by decide),?_⟩;subst_vars;walk_at "rk";refine ⟨.inl (by lia),⟨by decide,by decide⟩,by assumption,?_⟩;exact fin _ _ _ (by lia)
  ·walk_at "h";rw [List.length_map];refine Zi (λ h2=>absurd h2 (by lia)) λ h2=>?_;walk_at "h";refine ⟨.inl (by decide),.inr (by decide),?_⟩;walk_at "h";refine ⟨.inl (by lia),.inl (by decide),.inl (by decide),?_⟩;subst_vars;walk_at "rk";refine ⟨.inl (by lia),⟨by decide,by decide⟩,by assumption,?_⟩;exact fin _ _ _ (by lia)
theorem Gk (T:Tx K mg):Qu P w K mg base CX0 2 T.Zbz T.Zbh ["_law_pen", "_law_many"] (lift K Zbf):=by
 refine okD T.Ca.F U5 (λ xs M Φ h=>by obtain ⟨_,_,rfl,_⟩:=Qk h; rfl) λ cdv A outer s H E hr=>⟨_,(Ze (ZZ (Zs Xj (Zb 1) (Zl JL Zc Zc)) (Zh (Zn (cO T.ZH (Zy T) hr (Za (Zb 0) (Za (Zb 1) Zd))))) Zt)
 (Ze (Zq 2 U5.nd Zc)
 (Ze (Kc rfl T.QY (Za (Zl ZJ (Zl Dc (Zk YG rfl T.Qo ZP (Za (ZM Xe rfl T.Bp XE (Za (Zb 1) Zd)) Zd)) Zc) Zc) Zd) (ZA 3 U5.nd) (Zh (Zq 2 U5.nd (Zl ZJ (Zl Jo (Zb 2) (Zl JL Zc Zc)) (cO T.ZH (Zy T) hr (Za (Zb 0) (Za (Zl JL Zc Zc) Zd)))))) PassesOwn.never rfl)
 (Zh (Zn (Zl JS (Zb 2) (Zb 1))))))),λ xs M Φ h=>?_⟩
 replace h:=Qk h;obtain ⟨x1,x2,rfl,h⟩:=h;replace h:=Qw h;obtain ⟨p,rfl,h⟩:=h;replace h:=ZX h;obtain ⟨m,rfl,⟨h0,h1⟩,hp,h⟩:=h;have lg:m.natAbs.log2 < 1920:=Nat.lt_of_lt_of_le (Kh (k:=200) (by lia) (by decide)) (by decide);walk_at "h";refine ⟨Ez _ (by decide),Zi (λ h2=>⟨⟨h0,h1⟩,hp,h⟩) λ h2=>?_⟩;have hz:=int_text_len_1921 lg;walk_at "h";walk_at "h";refine ⟨lg,by lia,⟨by decide,by decide⟩,⟨by lia,by lia⟩,λ i Δ M'=>∃ (v:Int) (kk:Option DV),Δ = [some (.own p),some (.dat (.int m)),some (.dat (.int v)),kk] /\ Fr p M M',⟨0,none,rfl,Fr.refl hp⟩,?_,?_⟩
 ·rintro i Δ M' hi ⟨v,kk,rfl,hf⟩;walk_at "rk";refine ⟨Ez _ (by decide),.inr (by decide),Ez _ (by decide),hf.1,λ r M2 h3 h4 f2=>?_⟩;exact ⟨_,_,rfl,hf.trans f2⟩
 ·rintro Δ M' ⟨v,kk,rfl,hf⟩;subst_vars;walk_at "rk";exact ⟨h0,h _ _ (G0 v h0).1 (G0 v h0).2 hf⟩
theorem EJ (T:Tx K mg):Qu P w K mg base CX0 2 T.Mn T.OD ["_law_pen", "_law_many"] (lift K LW):=by
 refine okD T.Di.F Js (λ xs M Φ h=>by obtain ⟨_,_,rfl,_⟩:=Qk h; rfl) λ cdv A outer s H E hr=>⟨_,(Ze (Zq 2 Js.nd Zg)
 (Ze (Zq 3 Js.nd (Qa (Za Zg (Za Zg (Za Zg (Za Zg (Za Zg (Za Zg (Za Zg (Za Zg (Za Zg (Za Zg (Za Zg (Za Zg (Za Zg Zd)))))))))))))))
 (Ze (Zq 4 Js.nd (QU Zg (Qr false (ZC (sc:=Zf Vu) (XN:=["_law_pen", "_law_many", "_law_letters", "_law_words", "_law_base", "_law_start", "_law_manner", "_law_long", "_law_at", "_law_signs"]) (N:=["_law_k", "_law_letters", "_law_pen"]) (ix:=[none,some 2,some 0]) rfl rfl (by walk_at "k")) (JA rfl T.QY (Za Zc Zd)) (λ C ex s H=>(ZA 0 (show List.Nodup (["_law_k", "_law_letters", "_law_pen"]:List Str) by walk_at "k"))) (λ C ex s H=>Z7) (λ C ex s H=>(Fe (Zb 1) (cO T.ZH (Zy T) hr (Za (Zb 2) (Za Zc Zd))))) rfl)))
 (Ze (Zq 5 Js.nd (cO T.ZH (Zy T) hr (Za (Zb 0) (Za Zc Zd))))
 (Ze (Zq 6 Js.nd (cO T.ZH (Zy T) hr (Za (Zb 0) (Za Zc Zd))))
 (Ze (ZZ (Zs (Jh hr) (Zb 6) Zc) (Zh (Zn (Qr false (ZC (sc:=Zf Vu) (XN:=["_law_pen", "_law_many", "_law_letters", "_law_words", "_law_base", "_law_start", "_law_manner", "_law_long", "_law_at", "_law_signs"]) (N:=["_law_k", "_law_base", "_law_start"]) (ix:=[none,some 4,some 5]) rfl rfl (by walk_at "k")) (JA rfl T.QY (Za (Zb 1) Zd)) (λ C ex s H=>(ZA 0 (show List.Nodup (["_law_k", "_law_base", "_law_start"]:List Str) by walk_at "k"))) (λ C ex s H=>Z7) (λ C ex s H=>(QO (Zb 1) Z1 (ZN (Zl ZJ (Zl JS (Zl ZJ (Zb 2) (Zl Jo Zc (Zb 0))) Zc) Zc)))) rfl))) Zt)
 (Ze (ZZ (Zs (Jh hr) (Zb 6) Zc) (Zh (Zn (Qr false (ZC (sc:=Zf Vu) (XN:=["_law_pen", "_law_many", "_law_letters", "_law_words", "_law_base", "_law_start", "_law_manner", "_law_long", "_law_at", "_law_signs"]) (N:=["_law_k", "_law_words", "_law_start"]) (ix:=[none,some 3,some 5]) rfl rfl (by walk_at "k")) (JA rfl T.QY (Za (Zb 1) Zd)) (λ C ex s H=>(ZA 0 (show List.Nodup (["_law_k", "_law_words", "_law_start"]:List Str) by walk_at "k"))) (λ C ex s H=>Z7) (λ C ex s H=>(Zo (Zb 1) (Zl JS (Zl ZJ (Zb 2) (Zb 0)) Zc))) rfl))) Zt)
 (Ze (Zq 7 Js.nd (Zl ZJ Zc (cO T.ZH (Zy T) hr (Za (Zb 0) (Za Zc Zd)))))
 (Ze (Zq 8 Js.nd (cO T.ZH (Zy T) hr (Za (Zb 0) (Za (Zb 7) Zd))))
 (Ze (Wt 9 false Js.nd (ZC (sc:=Zf Vu) (XN:=["_law_pen", "_law_many", "_law_letters", "_law_words", "_law_base", "_law_start", "_law_manner", "_law_long", "_law_at", "_law_signs"]) (N:=["_law_k", "_law_letters", "_law_start"]) (ix:=[none,some 2,some 5]) rfl rfl (by walk_at "k")) (JA rfl T.QY (Za (Zb 1) Zd)) (λ C ex s H=>(ZA 0 (show List.Nodup (["_law_k", "_law_letters", "_law_start"]:List Str) by walk_at "k"))) (λ C ex s H=>Z7) (λ C ex s H=>(Fe (Zb 1) (Zl JS (Zl ZJ (Zb 2) (Zl Jo Zc (Zb 0))) Zc))) rfl)
 (Zh (Zn (Qr false (ZC (sc:=Zf Vu) (XN:=["_law_pen", "_law_many", "_law_letters", "_law_words", "_law_base", "_law_start", "_law_manner", "_law_long", "_law_at", "_law_signs"]) (N:=["_law_sign", "_law_base", "_law_long", "_law_at"]) (ix:=[none,some 4,some 7,some 8]) rfl rfl (by walk_at "k")) (Vb (Zb 9)) (λ C ex s H=>(ZA 0 (show List.Nodup (["_law_sign", "_law_base", "_law_long", "_law_at"]:List Str) by walk_at "k"))) (λ C ex s H=>Z7) (λ C ex s H=>(Zl Qc (Zl Qc (QO (Zb 1) Z1 (ZN (Zb 3))) (Zb 0)) (QO (Zb 1) (ZN (Zl ZJ (Zb 3) Zc)) (ZN (Zb 2))))) rfl))))))))))))),λ xs M Φ h=>?_⟩
 replace h:=Qk h;obtain ⟨x1,x2,rfl,h⟩:=h;replace h:=Qw h;obtain ⟨p,rfl,h⟩:=h;replace h:=ZX h;obtain ⟨m,rfl,⟨hm0,hm8⟩,hp,h⟩:=h;walk_at "h";walk_at "h";walk_at "h";refine ⟨⟨by decide,by decide⟩,by rw [Qd]; decide,λ i acc M'=>∃ ss:List Str,acc = ss.map PyData.str /\ ss.length = i /\ (∀ s ∈ ss,Zix s) /\ Fr p M M',⟨[],rfl,rfl,λ s hs=>(nomatch hs),Fr.refl hp⟩,?_,?_⟩
 ·rintro i d acc M' hd ⟨ss,rfl,hl,ha,hf⟩;refine ⟨hf.1,λ r M2 h0 h1 f2=>⟨by rw [LV]; decide,?_⟩⟩;obtain ⟨c,hc,c1⟩:=ZaL h0 h1;refine ⟨c,hc,ss ++ [⟨#[c]⟩],by rw [List.map_append]; rfl,by rw [List.length_append,hl]; rfl,λ s hs=>?_,hf.trans f2⟩
  rcases List.mem_append.mp hs with hs | hs
  ·exact ha s hs
  ·rw [List.mem_singleton.mp hs];exact ⟨c,rfl,c1⟩
 ·rintro acc M1 ⟨ss,rfl,hl,ha,hf⟩;rw [Qd] at hl;refine ⟨ss,rfl,OC (B:=1) (λ y hy=>by obtain ⟨c,rfl,_⟩:=ha y hy; exact Nat.le_refl 1) (by rw [hl]; decide),?_⟩;obtain ⟨bl,bc⟩:=MJ hl ha;generalize Txt.join (Str.ofString "") ss = b at *;walk_at "h";refine ⟨hf.1,λ st M2 s0 s1 f2=>?_⟩;walk_at "h";refine ⟨f2.1,λ mn M3 m0 m1 f3=>?_⟩;have fin:∀ (ds:List PyData) (M':Mp),Nms m.toNat ds->Fr p M3 M'->Φ (.dat (.list ds)) M':=λ ds M' hn hm=>by
   obtain ⟨ss,rfl,h8,ha⟩:=hn;exact h ss M' h8 ha (((hf.trans f2).trans f3).trans hm)
  walk_at "h";refine Zi (λ z=>?_) λ z=>?_
  ·refine ⟨⟨by lia,by lia⟩,by rw [Qd]; lia,λ i acc M'=>Nms i acc /\ M' = M3,⟨⟨[],rfl,rfl,λ s hs=>(nomatch hs)⟩,rfl⟩,?_,?_⟩
   ·rintro i d acc M' hd ⟨hn,rfl⟩;have hi:i < m.toNat:=by have:=(List.getElem?_eq_some_iff.mp hd).1; rw [Qd] at this; exact this
    rw [YS hi] at hd;cases hd;walk_at "rk";refine ⟨.inl (by decide),by lia,hn.snoc ⟨?_,λ c hc=>bc c (DX hc)⟩⟩;have hm:=G0 (st + 3 * (i:Int)) (show (0:Int) < 8 by decide);rw [D0,EO (by lia),bl];show 1 <= _ - 0 /\ _ - 0 <= 8;lia
   ·rintro acc M' ⟨hn,rfl⟩;rw [Qd] at hn;exact fin _ _ hn (Fr.refl f3.1)
  ·walk_at "h";refine Zi (λ z=>?_) λ z=>?_
   ·refine ⟨⟨by lia,by lia⟩,by rw [Qd]; lia,λ i acc M'=>Nms i acc /\ M' = M3,⟨⟨[],rfl,rfl,λ s hs=>(nomatch hs)⟩,rfl⟩,?_,?_⟩
    ·rintro i d acc M' hd ⟨hn,rfl⟩;have hi:i < m.toNat:=by have:=(List.getElem?_eq_some_iff.mp hd).1; rw [Qd] at this; exact this
     rw [YS hi] at hd;cases hd;walk_at "rk";have hm:=G0 (st + (i:Int)) (show (0:Int) < 13 by decide);exact tabS (l:=["land", "drop", "free", "spot", "comes", "goes", "in", "out", "stays", "wait", "none", "a", "z"]) QD hm.1 hm.2 LK λ s hs=>hn.snoc hs
    ·rintro acc M' ⟨hn,rfl⟩;rw [Qd] at hn;exact fin _ _ hn (Fr.refl f3.1)
   ·walk_at "h";refine ⟨f3.1,λ lg M4 l0 l1 f4=>?_⟩;walk_at "h";refine ⟨⟨by lia,by lia⟩,f4.1,λ at' M5 t0 t1 f5=>?_⟩;walk_at "h";refine ⟨⟨by lia,by lia⟩,by rw [Qd]; lia,λ i acc M'=>(∃ ss:List Str,acc = ss.map PyData.str /\ ss.length = i /\ ∀ s ∈ ss,Zix s) /\ M' = M5,⟨⟨[],rfl,rfl,λ s hs=>(nomatch hs)⟩,rfl⟩,?_,?_⟩
    ·rintro i d acc M' hd ⟨⟨ss,rfl,hl,ha⟩,rfl⟩;have hi:i < m.toNat:=by have:=(List.getElem?_eq_some_iff.mp hd).1; rw [Qd] at this; exact this
     rw [YS hi] at hd;cases hd;walk_at "rk";have hm:=G0 (st + 5 * (i:Int)) (show (0:Int) < 26 by decide);obtain ⟨c,hc,c1⟩:=ZaL hm.1 hm.2;refine ⟨.inl (by decide),by rw [LV]; decide,c,by simpa using hc,ss ++ [⟨#[c]⟩],by rw [List.map_append]; rfl,by rw [List.length_append,hl]; rfl,λ s hs=>?_⟩
     rcases List.mem_append.mp hs with hs | hs
     ·exact ha s hs
     ·rw [List.mem_singleton.mp hs];exact ⟨c,rfl,c1⟩
    ·rintro acc M' ⟨⟨ss2,rfl,h8,ha2⟩,rfl⟩;rw [Qd] at h8;subst_vars;walk_at "rk";refine ⟨by rw [List.length_map,h8]; lia,λ i acc M2=>Nms i acc /\ M2 = M',⟨⟨[],rfl,rfl,λ s hs=>(nomatch hs)⟩,rfl⟩,?_,?_⟩
     ·rintro i d acc M' hd ⟨hn,rfl⟩;obtain ⟨s,es,rfl⟩:=QC hd;obtain ⟨c,rfl,c1⟩:=ha2 s (List.mem_of_getElem? es);walk_at "rk";have k1:(GN b none (some at')).length = at'.toNat:=by
       rw [D0,EO t0,bl];show _ - 0 = _;lia
      have k2:(GN b (some (at' + 1)) (some (1 + lg))).length = (lg - at').toNat:=by
       rw [D0,EO (by lia),EO (by lia),bl];lia
      refine ⟨by lia,by rw [k1,Dh]; lia,by lia,by rw [Em,k1,k2,Dh]; lia,hn.snoc ⟨?_,λ d hd=>?_⟩⟩
      ·rw [Em,Em,k1,k2,Dh];lia
      ·rw [add_list,add_list,Ka] at hd
       rcases List.mem_append.mp hd with hd | hd
       ·rcases List.mem_append.mp hd with hd | hd
        ·exact bc d (DX hd)
        ·rw [List.mem_singleton.mp hd];exact c1
       ·exact bc d (DX hd)
     ·rintro acc M' ⟨hn,rfl⟩;rw [List.length_map,h8] at hn;exact fin _ _ hn (f4.trans f5)
theorem SK (T:Tx K mg):Qu P w K mg base CX0 2 T.Og T.NO ["_law_pen", "_law_most"] (lift K Oa):=by
 refine okD T.ND.F JM (λ xs M Φ h=>by obtain ⟨_,_,rfl,_⟩:=Qk h; rfl) λ cdv A outer s H E hr=>⟨_,(Ze (Zq 2 JM.nd (Qa (Za (cO T.ZH (Zy T) hr (Za (Zb 0) (Za Zc Zd))) (Za (cO T.ZH (Zy T) hr (Za (Zb 0) (Za Zc Zd))) Zd))))
 (Ze (Zq 3 JM.nd (KW (Za (Qh (Za (ZM Qz rfl T.QZ Qy (Za (Zb 2) Zd)) (Za (Qh (Za (Zl ZJ (Zo (Zb 2) Zc) (cO T.ZH (Zy T) hr (Za (Zb 0) (Za Zc Zd)))) (Za (Zl ZJ (Zo (Zb 2) Zc) (cO T.ZH (Zy T) hr (Za (Zb 0) (Za Zc Zd)))) Zd))) Zd))) Zd)))
 (Ze (Kc rfl T.QY (Za (cO T.ZH (Zy T) hr (Za (Zb 0) (Za (Zb 1) Zd))) Zd) (ZA 4 JM.nd) (Ze (Wm (Zo (Zb 3) (Fw Zc)) (BV (n:=2) rfl (QP (ZA 6 JM.nd) (QP (ZA 7 JM.nd) Wn))))
 (Ze (Zq 5 JM.nd (Qa (Za (cO T.ZH (Zy T) hr (Za (Zb 0) (Za Zc Zd))) (Za (cO T.ZH (Zy T) hr (Za (Zb 0) (Za Zc Zd))) Zd))))
 (Ze (Rx 2 false JM.nd (ZC (sc:=Zf Gf) (XN:=["_law_pen", "_law_most", "_law_low", "_law_found", "_law_k", "_law_wide_here", "_law_first", "_law_last"]) (N:=["_law_w", "_law_pen", "_law_first", "_law_wide_here", "_law_last"]) (ix:=[none,some 0,some 6,some 5,some 7]) rfl rfl (by walk_at "k")) (JA rfl T.QY (Za Zc Zd)) (λ C ex s H=>(ZA 0 (show List.Nodup (["_law_w", "_law_pen", "_law_first", "_law_wide_here", "_law_last"]:List Str) by walk_at "k"))) (λ C ex s H=>Z7) (λ C ex s H=>(Zl ZJ (Zl Jp (Zl Jp (Zo (Zb 2) (Zb 0)) (Zo (Zb 3) (Zb 0))) Zc) (cO T.ZH (Zy T) hr (Za (Zb 1) (Za (Zl ZJ (Zl ZJ (Zl Jp (Zo (Zb 4) (Zb 0)) (Zo (Zb 2) (Zb 0))) (Zo (Zb 3) (Zb 0))) Zc) Zd))))) rfl)
 (Zh (C4 (KS (Zb 3) (Qh (Za (ZM Qz rfl T.QZ Qy (Za (Zb 2) Zd)) (Za (Qh (Za (Zl ZJ (Zo (Zb 2) Zc) (Zo (Zb 5) Zc)) (Za (Zl ZJ (Zo (Zb 2) Zc) (Zo (Zb 5) Zc)) Zd))) Zd))))))))) PassesOwn.never rfl)
 (Zh (Zn (OJ (Zb 3))))))),λ xs M Φ h=>?_⟩
 replace h:=Qk h;obtain ⟨x1,x2,rfl,h⟩:=h;replace h:=Qw h;obtain ⟨p,rfl,h⟩:=h;replace h:=ZX h;obtain ⟨m,rfl,hm,hp,h⟩:=h;walk_at "h";refine ⟨hp,λ x1 M1 a1 b1 f1=>⟨f1.1,λ y1 M2 a2 b2 f2=>?_⟩⟩;walk_at "h";refine ⟨f2.1,λ x2 M3 a3 b3 f3=>⟨f3.1,λ y2 M4 a4 b4 f4 q hq=>?_⟩⟩;have F0:=((f1.trans f2).trans f3).trans f4;have n1:q ≠ p:=Ne.symm (f4.1.ne hq);have q0:M q = none:=F0.fresh hq;walk_at "h";refine ⟨⟨by lia,by lia⟩,f4.1.put (Ne.symm n1),λ r M5 a5 b5 f5=>⟨⟨by lia,by lia⟩,?_⟩⟩
 refine ⟨λ i Δ M'=>∃ (cs:List B4) (b:B4) (k2 k4 k5 k6 k7:Option DV),Δ = [some (.own p),some (.dat (.int m)),k2,some (.own q),k4,k5,k6,k7] /\ cs.length = i /\ chB (cs ++ [b]) = true /\ (∀ c ∈ cs ++ [b],Grb i c) /\ M' q = some (.lst (cs.map bD ++ [bD b])) /\ Fr p M M',
  ⟨[],⟨x1,y1,x1 + x2,y1 + y2⟩,_,_,_,_,_,rfl,rfl,rfl,?_,f5.own ZK n1,(F0.new q0 n1).trans f5⟩,?_,?_⟩
 ·intro c hc;rw [List.mem_singleton.mp hc];unfold Grb;dsimp only;lia
 ·rintro i Δ M' hi ⟨cs,b,k2,k4,k5,k6,k7,rfl,hl,hch,hcs,hq',hF⟩;have hb:=hcs b (List.mem_append_right _ (List.mem_singleton.mpr rfl));unfold Grb at hb;rw [GI];walk_at "h";simp only [hq'];walk_at "rk";walk_at "h";refine ⟨hF.1,λ w1 M6 a6 b6 f6=>⟨f6.1,λ w2 M7 a7 b7 f7=>?_⟩⟩;walk_at "h";refine ⟨⟨by decide,by decide⟩,⟨by lia,by lia⟩,f7.1,λ u1 M8 a8 b8 f8=>⟨⟨by lia,by lia⟩,f8.1,λ u2 M9 a9 b9 f9=>?_⟩⟩;have F1:=((f6.trans f7).trans f8).trans f9;subst_vars;walk_at "rk";simp only [F1.own hq' n1];walk_at "rk";refine ⟨by rw [List.length_append,List.length_map,List.length_singleton]; lia,cs ++ [b],⟨b.x - w1 - 1 + u1,b.y - w2 - 1 + u2,b.x - w1 - 1 + u1 + w1,b.y - w2 - 1 + u2 + w2⟩,_,_,_,_,_,rfl,by rw [List.length_append]; rfl,?_,λ c hc=>?_,?_,(hF.trans F1).new q0 n1⟩
  ·rw [List.append_assoc];show chB (cs ++ [b,_]) = true;rw [Hd,hch,decide_eq_true (Rr (by dsimp only; lia) (by dsimp only; lia) (by dsimp only; lia) (by dsimp only; lia))];rfl
  ·rcases List.mem_append.mp hc with hc | hc
   ·have:=hcs c hc;unfold Grb at this ⊢;lia
   ·rw [List.mem_singleton.mp hc];unfold Grb;dsimp only;lia
  ·rw [List.map_append];rfl
 ·rintro Δ M' ⟨cs,b,k2,k4,k5,k6,k7,rfl,hl,hch,hcs,hq',hF⟩;subst_vars;walk_at "rk";simp only [hq'];walk_at "rk";rw [show cs.map bD ++ [bD b] = (cs ++ [b]).map bD by rw [List.map_append]; rfl];refine h _ _ ⟨by rw [List.length_append,List.length_singleton]; lia,hch,λ c hc=>?_⟩ (hF.gone q0 n1);have:=hcs c hc;unfold Grb at this ⊢;lia
theorem Bd (T:Tx K mg):Qu P w K mg base CX0 1 T.Wb T.KQ ["_law_boxes_here", "_law_by", "_law_off"] (lift K Wq):=by
 refine okG T.Kv.F Jg (λ xs M Φ h=>by obtain ⟨_,_,_,rfl,_⟩:=YL h; rfl) λ cdv A outer s H E hr=>⟨_,(Ze (Zq 3 Jg.nd (KW Zd))
 (Ze (MH (Zb 0) (BV (n:=2) rfl (QP (ZA 4 Jg.nd) (QP (ZA 5 Jg.nd) Wn))) (Ze (Zq 6 Jg.nd (Qh (Za (Zl ZJ (Zl Jo (Zo (Zb 4) Zc) (Zb 1)) (Zo (Zb 2) Zc)) (Za (Zl ZJ (Zl Jo (Zo (Zb 4) Zc) (Zb 1)) (Zo (Zb 2) Zc)) Zd))))
 (Zh (C4 (KS (Zb 3) (Qh (Za (Zb 6) (Za (Qh (Za (Zl ZJ (Zl Jp (Zl ZJ (Zl Jo (Zo (Zb 5) Zc) (Zb 1)) (Zb 1)) Zc) (Zo (Zb 2) Zc)) (Za (Zl ZJ (Zl Jp (Zl ZJ (Zl Jo (Zo (Zb 5) Zc) (Zb 1)) (Zb 1)) Zc) (Zo (Zb 2) Zc)) Zd))) Zd))))))) PassesOwn.never rfl)
 (Zh (Zn (ZM Qz rfl T.QZ Qy (Za (Zb 3) Zd)))))),λ xs M Φ h=>?_⟩
 replace h:=YL h;obtain ⟨x1,x2,x3,rfl,h⟩:=h;replace h:=ZcK h;obtain ⟨bs,rfl,h⟩:=h;replace h:=ZX h;obtain ⟨f,rfl,h⟩:=h;replace h:=Zah h;obtain ⟨ox,oy,rfl,hs,h⟩:=h;walk_at "h";intro q hq;walk_at "h";refine ⟨λ i Δ M'=>∃ k4 k5 k6,Δ = [some (.dat (.list (bs.map bD))),some (.dat (.int f)),some (.dat (.tuple [.int ox,.int oy])),some (.own q),k4,k5,k6] /\ M' = ZR M q (.lst (((bs.take i).map (FZ f ox oy)).map bD)),⟨none,none,none,rfl,rfl⟩,?_,?_⟩
 ·rintro i d Δ M' hd ⟨k4,k5,k6,rfl,rfl⟩;obtain ⟨b,eb,rfl⟩:=QC hd;have hb:=hs.2.2 _ (List.mem_of_getElem? eb);unfold Grb at hb;walk_at "rk";refine ⟨.inl (by lia),.inl (by lia),.inl (by lia),.inl (by lia),by rw [List.length_map,List.length_map,List.length_take]; have:=hs.1.2; lia,_,_,_,rfl,?_⟩;rw [<- take_snoc (FZ f ox oy) eb,List.map_append];rfl
 ·rintro Δ M' ⟨k4,k5,k6,rfl,rfl⟩;rw [List.length_map,List.take_length];subst_vars;walk_at "rk";exact ZfA hq h
theorem HL (T:Tx K mg):Qu P w K mg base CX0 3 T.G6 T.Ck ["_law_pen"] (lift K Cg):=by
 refine okD T.Cf.F V6 (λ xs M Φ h=>by obtain ⟨_,rfl,_⟩:=Zp h; rfl) λ cdv A outer s H E hr=>⟨_,(Ze (Zq 1 V6.nd (Zo (Qa (Za Zc (Za Zc (Za Zc (Za Zc (Za Zc (Za (Zl JL Zc Zc) Zd))))))) (cO T.ZH (Zy T) hr (Za (Zb 0) (Za Zc Zd)))))
 (Ze (Zq 2 V6.nd (Zo (Qa (Za (Qh (Za Zc (Za Zc Zd))) (Za (Qh (Za (Zl Jp (cO T.ZH (Zy T) hr (Za (Zb 0) (Za Zc Zd))) Zc) (Za (Zl Jp (cO T.ZH (Zy T) hr (Za (Zb 0) (Za Zc Zd))) Zc) Zd))) Zd))) (cO T.ZH (Zy T) hr (Za (Zb 0) (Za Zc Zd)))))
 (Ze (ZZ (Zs (Jh hr) (Zb 1) (Zl JL Zc Zc)) (Zh (Zq 2 V6.nd (Qh (Za (cO T.Ca (Gk T) hr (Za (Zb 0) (Za (Zl JL Zc Zc) Zd))) (Za (Zl Jp Zc (cO T.Ca (Gk T) hr (Za (Zb 0) (Za (Zl JL Zc Zc) Zd)))) Zd))))) Zt)
 (Zh (Zn (Qh (Za (Zb 1) (Za (Zb 2) Zd)))))))),λ xs M Φ h=>?_⟩
 replace h:=Zp h;obtain ⟨x1,rfl,h⟩:=h;replace h:=Qw h;obtain ⟨p,rfl,hp,h⟩:=h;walk_at "h";refine ⟨Ez _ (by decide),hp,λ r1 M1 a1 b1 f1=>tab (l:=[1,1,1,2,1000,10000000000]) (λ t=>1 <= t /\ t <= 10000000000) a1 (by simp only [List.length_cons,List.length_nil]; lia) (by decide) λ f hf=>?_⟩;walk_at "h";refine ⟨f1.1,λ x M2 a2 b2 f2=>⟨f2.1,λ y M3 a3 b3 f3=>⟨f3.1,λ r4 M4 a4 b4 f4=>?_⟩⟩⟩;have F:=((f1.trans f2).trans f3).trans f4;have two:∃ ox oy:Int,(-20 <= ox /\ ox <= 20) /\ (-20 <= oy /\ oy <= 20) /\ ∀ P:PyData->Prop,U8 [.tuple [.int 0,.int 0],.tuple [.int (x - 20),.int (y - 20)]] r4 P = P (.tuple [.int ox,.int oy]):=by
  have:r4 = 0 \/ r4 = 1:=by lia
  rcases this with rfl | rfl
  ·exact ⟨0,0,by lia,by lia,λ P=>rfl⟩
  ·exact ⟨x - 20,y - 20,by lia,by lia,λ P=>rfl⟩
 obtain ⟨ox,oy,hx,hy,e⟩:=two;rw [e];clear e;walk_at "h";refine ⟨Ez _ (by decide),Zi (λ z=>?_) λ z=>?_⟩
 ·walk_at "rk";refine ⟨Ez _ (by decide),f4.1,λ u M5 a5 b5 f5=>⟨Ez _ (by decide),f5.1,λ v M6 a6 b6 f6=>?_⟩⟩;subst_vars;walk_at "rk";exact h _ _ _ _ ⟨by lia,by lia,by lia⟩ ((F.trans f5).trans f6)
 ·subst_vars;walk_at "rk";exact h _ _ _ _ ⟨hf,by lia,by lia⟩ F
theorem RF (T:Tx K mg):Qu P w K mg base CX0 4 T.Pg T.MN ["_law_pen"] (lift K MF):=by
 refine okD T.OZ.F JQ (λ xs M Φ h=>by obtain ⟨_,rfl,_⟩:=Zp h; rfl) λ cdv A outer s H E hr=>⟨_,(Ze (Wm (cO T.Cf (HL T) hr (Za (Zb 0) Zd)) (BV (n:=2) rfl (QP (ZA 6 JQ.nd) (QP (ZA 7 JQ.nd) Wn))))
 (Ze (Zq 1 JQ.nd (Zl JL Zc Zc))
 (Ze (Zq 2 JQ.nd (Zo (Qa (Za Zc (Za Zc (Za (Zl Jp (Zb 1) Zc) (Za (cO T.Ca (Gk T) hr (Za (Zb 0) (Za (Zl Jp (Zb 1) Zc) Zd))) Zd))))) (cO T.ZH (Zy T) hr (Za (Zb 0) (Za Zc Zd)))))
 (Ze (Zq 3 JQ.nd (Zl ZJ Zc (cO T.ZH (Zy T) hr (Za (Zb 0) (Za Zc Zd)))))
 (Ze (Zq 4 JQ.nd (cO T.Di (EJ T) hr (Za (Zb 0) (Za (Zl ZJ Zc (cO T.ZH (Zy T) hr (Za (Zb 0) (Za Zc Zd)))) Zd))))
 (Ze (Zq 5 JQ.nd (cO T.Di (EJ T) hr (Za (Zb 0) (Za (Zl ZJ Zc (cO T.ZH (Zy T) hr (Za (Zb 0) (Za Zc Zd)))) Zd))))
 (Zh (Zn (PL Ug (WX 6) Ug (WX 7) Ug (WX 2) Ug (WX 3) Ug (WX 4) Ug (WX 5)))))))))),λ xs M Φ h=>?_⟩
 replace h:=Zp h;obtain ⟨x1,rfl,h⟩:=h;replace h:=Qw h;obtain ⟨p,rfl,hp,h⟩:=h;walk_at "h";refine ⟨hp,λ f ox oy M1 hf f1=>?_⟩;walk_at "h";refine ⟨Ez _ (by decide),?_⟩;walk_at "h";refine ⟨f1.1,λ r2 M2 a2 b2 f2=>⟨f2.1,λ r3 M3 a3 b3 f3=>tab (l:=[0,3,999999999992,r2]) (λ t=>0 <= t /\ t <= 999999999992) a3 (by simp only [List.length_cons,List.length_nil]; lia) (λ w hw=>?_) λ bg hb=>?_⟩⟩
 ·simp only [List.mem_cons,List.not_mem_nil,or_false] at hw;lia
 walk_at "h";refine ⟨f3.1,λ r4 M4 a4 b4 f4=>?_⟩;walk_at "h";refine ⟨f4.1,λ r5 M5 a5 b5 f5=>⟨⟨by lia,by lia⟩,f5.1,λ ts M6 tl th f6=>?_⟩⟩;walk_at "h";refine ⟨f6.1,λ r7 M7 a7 b7 f7=>⟨⟨by lia,by lia⟩,f7.1,λ ls M8 ll lh f8=>?_⟩⟩;have F:=((((((f1.trans f2).trans f3).trans f4).trans f5).trans f6).trans f7).trans f8;subst_vars;walk_at "rk";refine ⟨by walk_at "k",λ q hq=>?_⟩;have n1:q ≠ p:=Ne.symm (f8.1.ne hq);exact h q _ ⟨f,ox,oy,bg,1 + r4,ts,ls,ZK,hf,hb,by lia,⟨by lia,th⟩,⟨by lia,lh⟩⟩ n1 (F.new (F.fresh hq) n1)
theorem Zb1 (T:Tx K mg):Qu P w K mg base CX0 3 T.Zbb T.Zap ["_law_pen", "_law_world_here"] (lift K Za9):=by
 refine okD T.ZaK.F Nh (λ xs M Φ h=>by obtain ⟨_,_,rfl,_⟩:=Qk h; rfl) λ cdv A outer s H E hr=>⟨_,(Ze (Zq 2 Nh.nd ((JF hr) (Zb 1) Zg))
 (Zh (Zn (ZM Qz rfl T.QZ Qy (Za (Kb false (ZC (sc:=Zf E3) (XN:=["_law_pen", "_law_world_here", "_law_by"]) (N:=["_law_w", "_law_by", "_law_pen", "_law_world_here"]) (ix:=[none,some 2,some 0,some 1]) rfl rfl (by walk_at "k")) (JA rfl T.QY (Za Zc Zd)) (λ C ex s H=>(ZA 0 (show List.Nodup (["_law_w", "_law_by", "_law_pen", "_law_world_here"]:List Str) by walk_at "k"))) (λ C ex s H=>Z7) (λ C ex s H=>(Zl ZJ (Zl ZJ (Zl Jo (Zl Jp (cO T.ZH (Zy T) hr (Za (Zb 2) (Za Zc Zd))) Zc) (Zb 1)) (cO T.Ca (Gk T) hr (Za (Zb 2) (Za (Zb 1) Zd)))) (Zo ((JF hr) (Zb 3) Zg) (Zb 0)))) rfl) Zd))))),λ xs M Φ h=>?_⟩
 replace h:=Qk h;obtain ⟨x1,x2,rfl,h⟩:=h;replace h:=Qw h;obtain ⟨p,rfl,h⟩:=h;replace h:=Qw h;obtain ⟨q,rfl,hw,n1,hp,h⟩:=h;obtain ⟨f,ox,oy,bg,sp,ts,ls,hq,⟨hf,hx,hy⟩,hw⟩:=hw;walk_at "h";simp only [hq,Zky];subst_vars;walk_at "rk";refine ⟨⟨by decide,by decide⟩,hp,λ r1 M1 a1 b1 f1=>⟨.inl (by lia),⟨by lia,by lia⟩,f1.1,λ r2 M2 a2 b2 f2=>?_⟩⟩;simp only [(f1.trans f2).own hq n1,Zc5];walk_at "rk";refine ⟨f2.1,λ r3 M3 a3 b3 f3=>⟨.inl (by lia),⟨by lia,by lia⟩,f3.1,λ r4 M4 a4 b4 f4=>?_⟩⟩;have F:=((f1.trans f2).trans f3).trans f4;simp only [F.own hq n1,Zc5];walk_at "rk";have e1:=Dp (a:=r1 - 2) (lo:=-2) (hi:=14) (by lia) (by lia) hf.1;have e2:=Dp (a:=r3 - 2) (lo:=-2) (hi:=14) (by lia) (by lia) hf.1;exact h _ _ _ ⟨by lia,by lia⟩ ⟨by lia,by lia⟩ F
theorem Zek (T:Tx K mg):Qu P w K mg base CX0 3 T.Zbp T.Zab ["_law_pen", "_law_world_here", "_law_time"] (lift K Za2):=by
 refine okD T.ZaO.F YD (λ xs M Φ h=>by obtain ⟨_,_,_,rfl,_⟩:=YL h; rfl) λ cdv A outer s H E hr=>⟨_,(Ze (Zq 3 YD.nd ((JF hr) (Zb 1) Zg))
 (Ze (Zq 4 YD.nd ((JF hr) (Zb 1) Zg))
 (Ze (Zq 5 YD.nd (Zo (Zl Qq (Zl L8 (KW (Za Zg Zd)) (Zk Z8 rfl T.Qo ZP (Za (Zb 3) Zd))) (Zb 3)) (cO T.ZH (Zy T) hr (Za (Zb 0) (Za (Zl Jo Zc (Zk Z8 rfl T.Qo ZP (Za (Zb 3) Zd))) Zd)))))
 (Ze (Zq 6 YD.nd (cO T.ND (SK T) hr (Za (Zb 0) (Za (Zo (Qa (Za Zc (Za Zc (Za Zc (Za Zc Zd))))) (cO T.ZH (Zy T) hr (Za (Zb 0) (Za Zc Zd)))) Zd))))
 (Ze (Zq 7 YD.nd (Zl Dc (Zl Jo (Zo (Qa (Za Zc (Za Zc (Za Zc (Za Zc (Za Zc Zd)))))) (cO T.ZH (Zy T) hr (Za (Zb 0) (Za Zc Zd)))) (Zb 4)) (Zo (Qa (Za Zc (Za Zc Zd))) (cO T.ZH (Zy T) hr (Za (Zb 0) (Za Zc Zd))))))
 (Ze (Zq 8 YD.nd (Zo (Zb 3) (cO T.ZH (Zy T) hr (Za (Zb 0) (Za (Zk Z8 rfl T.Qo ZP (Za (Zb 3) Zd)) Zd)))))
 (Zh (Zn (Qh (Za Zg (Za (Zb 2) (Za (Zb 8) (Za (Zb 5) (Za (cO T.Kv (Bd T) hr (Za (Zb 6) (Za (Zb 4) (Za ((JF hr) (Zb 1) Zg) Zd)))) (Za (Zb 7) Zd))))))))))))))),λ xs M Φ h=>?_⟩
 replace h:=YL h;obtain ⟨x1,x2,x3,rfl,h⟩:=h;replace h:=Qw h;obtain ⟨p,rfl,h⟩:=h;replace h:=Qw h;obtain ⟨q,rfl,h⟩:=h;replace h:=ZX h;obtain ⟨t,rfl,hw,n1,hp,h⟩:=h;obtain ⟨f,ox,oy,bg,sp,ts,ls,hq,hf,hw⟩:=hw;obtain ⟨_,_,_,hl,hn⟩:=hw;walk_at "h";simp only [hq,ML];walk_at "h";simp only [hq,Zky];walk_at "h";intro g hg;have ng:g ≠ p:=Ne.symm (hp.ne hg);rw [Zag,<- List.length_append,Zag,List.length_map,List.length_map,List.length_append,List.length_replicate];refine ⟨by lia,by lia,.inl (by decide),⟨by lia,by lia⟩,hp.put (Ne.symm ng),λ r1 M1 a1 b1 f1=>?_⟩;replace f1:=(Fr.new (Fr.refl hp) hg ng).trans f1;refine tabS (λ s=>s = Str.ofString "" \/ QD s) a1 (by rw [List.length_append,List.length_replicate]; lia) (λ s hs=>?_) λ ou ho=>?_
 ·rcases List.mem_append.mp hs with hs | hs
  ·exact .inl (List.eq_of_mem_replicate hs)
  ·exact .inr (hn s hs)
 walk_at "h";refine ⟨f1.1,λ r2 M2 a2 b2 f2=>tab (l:=[3,3,3,6]) (λ t=>1 <= t /\ t <= 6) a2 (by simp only [List.length_cons,List.length_nil]; lia) (by decide) λ m hm=>?_⟩;walk_at "rk";refine ⟨hm,f2.1,λ bs M3 hb f3=>?_⟩;walk_at "h";refine ⟨f3.1,λ r4 M4 a4 b4 f4=>tab (l:=[0,0,1,2,3]) (λ t=>0 <= t /\ t <= 3) a4 (by simp only [List.length_cons,List.length_nil]; lia) (by decide) λ wb hwb=>?_⟩;walk_at "rk";refine ⟨.inl (by lia),f4.1,λ r5 M5 a5 b5 f5=>tab (l:=[1,2]) (λ t=>t = 1 \/ t = 2) a5 (by simp only [List.length_cons,List.length_nil]; lia) (by decide) λ dv hdv=>?_⟩;walk_at "rk";replace hdv:dv = 1 \/ dv = 2:=hdv;refine ⟨⟨by lia,by lia⟩,?_⟩;walk_at "h";rw [List.length_map];refine ⟨⟨by lia,by lia⟩,f5.1,λ r6 M6 a6 b6 f6=>?_⟩;have F:=((((f1.trans f2).trans f3).trans f4).trans f5).trans f6;refine tabS QD a6 b6 hn λ nm hnm=>?_;subst_vars;walk_at "rk";simp only [F.own hq n1,Zc5];walk_at "rk";exact ⟨hb,h nm ou bs f ox oy _ _ hnm ho hb hf (Zgz hwb.1 hwb.2 hf.1 hdv) F⟩
theorem Hq (T:Tx K mg):Qu P w K mg base CX0 4 T.Be T.Cq ["_law_pen", "_law_world_here"] (lift K Cj):=by
 refine okD T.CJ.F Yb (λ xs M Φ h=>by obtain ⟨_,_,rfl,_⟩:=Qk h; rfl) λ cdv A outer s H E hr=>⟨_,(Ze (Zq 2 Yb.nd (cO T.ZH (Zy T) hr (Za (Zb 0) (Za Zc Zd))))
 (Ze (Zq 3 Yb.nd (Zl ZJ ((JF hr) (Zb 1) Zg) (cO T.ZH (Zy T) hr (Za (Zb 0) (Za ((JF hr) (Zb 1) Zg) Zd)))))
 (Ze (Zq 4 Yb.nd (Zo ((JF hr) (Zb 1) Zg) (cO T.ZH (Zy T) hr (Za (Zb 0) (Za (Zk Z8 rfl T.Qo ZP (Za ((JF hr) (Zb 1) Zg) Zd)) Zd)))))
 (Ze (ZZ (Zs Xj (Zb 2) Zc) (Zh (Zn (cO T.ZaO (Zek T) hr (Za (Zb 0) (Za (Zb 1) (Za (Zb 3) Zd)))))) Zt)
 (Ze (ZZ (Zs (Jh hr) (Zb 2) Zc) (Zh (Zn (Qh (Za Zg (Za (Zb 3) (Za (Zo ((JF hr) (Zb 1) Zg) (cO T.ZH (Zy T) hr (Za (Zb 0) (Za (Zk Z8 rfl T.Qo ZP (Za ((JF hr) (Zb 1) Zg) Zd)) Zd)))) Zd)))))) Zt)
 (Ze (ZZ (Zs (Jh hr) (Zb 2) Zc) (Zh (Zn (Qh (Za Zg (Za (Zb 3) (Za (Zb 4) Zd)))))) Zt)
 (Zh (Zn (Qh (Za Zg (Za (Zb 3) (Za (Zb 4) (Za (cO T.ZaK (Zb1 T) hr (Za (Zb 0) (Za (Zb 1) Zd))) Zd))))))))))))),λ xs M Φ h=>?_⟩
 replace h:=Qk h;obtain ⟨x1,x2,rfl,h⟩:=h;replace h:=Qw h;obtain ⟨p,rfl,h⟩:=h;replace h:=Qw h;obtain ⟨q,rfl,hw,n1,hp,h⟩:=h;obtain ⟨f,ox,oy,bg,sp,ts,ls,hq,hf,hbg,hsp,hts,hls⟩:=id hw;walk_at "h";refine ⟨hp,λ r M1 a1 b1 f1=>?_⟩;have hq1:=f1.own hq n1;walk_at "h";simp only [hq1,ZdT,ZfK];walk_at "rk";refine ⟨⟨by lia,by lia⟩,f1.1,λ r2 M2 a2 b2 f2=>?_⟩;have hq2:=f2.own hq1 n1;have hl1:=hts.1;have hl2:=hls.1;walk_at "h";simp only [hq2,TC];walk_at "rk";rw [List.length_map];refine ⟨⟨by lia,by lia⟩,f2.1,λ r3 M3 a3 b3 f3=>tabS (l:=ts) QD a3 b3 hts.2 λ nm hnm=>?_⟩;have hq3:=f3.own hq2 n1;have F3:=(f1.trans f2).trans f3;have hw3:=hw.fr F3 n1;have ht:0 <= bg + r2 /\ bg + r2 <= 1000000000000:=by lia
 walk_at "h";refine Zi (λ z=>?_) λ z=>?_
 ·refine ⟨hw3,n1,f3.1,λ ln ou bs f' ox' oy' wb M4 hln hou hbs hf' hwb f4=>?_⟩;exact h _ M4 ⟨_,_,ln,_,rfl,ht,hln,.inl ⟨rfl,ou,_,wb,rfl,hou,Zcb hbs hf',hwb⟩⟩ (F3.trans f4)
 ·walk_at "h";refine Zi (λ z1=>?_) λ z1=>?_
  ·simp only [hq3,ML];walk_at "rk";rw [List.length_map];refine ⟨⟨by lia,by lia⟩,f3.1,λ r4 M4 a4 b4 f4=>tabS (l:=ls) QD a4 b4 hls.2 λ ln hln=>?_⟩;exact h _ M4 ⟨_,_,ln,[],rfl,ht,hln,.inr (.inr ⟨.inl rfl,rfl⟩)⟩ (F3.trans f4)
  ·walk_at "h";refine Zi (λ z2=>?_) λ z2=>?_
   ·exact h _ M3 ⟨_,_,nm,[],rfl,ht,hnm,.inr (.inr ⟨.inr rfl,rfl⟩)⟩ F3
   ·subst_vars;walk_at "rk";refine ⟨hw3,n1,f3.1,λ u v M4 hu hv f4=>?_⟩;exact h _ M4 ⟨_,_,nm,_,rfl,ht,hnm,.inr (.inl ⟨rfl,u,v,rfl,hu,hv⟩)⟩ (F3.trans f4)
theorem WI (T:Tx K mg):Qu P w K mg base CX0 1 T.YO T.Y0 ["text"] (lift K ZaY):=by
 refine okD T.YX.F WN (λ xs M Φ h=>by obtain ⟨_,rfl,_⟩:=Zp h; rfl) λ cdv A outer s H E hr=>⟨_,(Zh (Zn (Qs (Ye Xs Xs Zc (Zk YG rfl T.Qo ZP (Za (Zb 0) Zd)) (V8 rfl T.WG)) (QR (Zk (Fx rfl) rfl T.RP Fn (Za (Qr false (ZC (sc:=Zf Jt) (XN:=["text"]) (N:=["sign"]) (ix:=[none]) rfl rfl (by walk_at "k")) (FC (Zb 0)) (λ C ex s H=>(ZA 0 (show List.Nodup (["sign"]:List Str) by walk_at "k"))) (λ C ex s H=>Z7) (λ C ex s H=>(Ye Fm Fm Zg (Zb 0) Zg)) rfl) Zd)))))),λ xs M Φ h=>?_⟩;replace h:=Zp h;obtain ⟨x1,rfl,h⟩:=h;replace h:=ZI h;obtain ⟨s,rfl,hl,h⟩:=h;walk_at "rk";refine ⟨by lia,Zi (λ h1=>Zi (λ h2=>?_) λ h2=>?_) λ h1=>?_⟩
 ·have e:JX s = s.cps.toList.all EY:=by
   unfold JX;rw [decide_eq_true (show 1 <= s.length by lia),decide_eq_true (show s.length <= 60 by lia)];rfl
  rw [e] at h;refine ⟨by rw [List.length_map,str_len]; lia,λ i acc M'=>acc = ((s.cps.toList.take i).map EY).map PyData.bool /\ M' = M,⟨rfl,rfl⟩,?_,?_⟩
  ·rintro i d acc M' hd ⟨rfl,rfl⟩;obtain ⟨c,ec,rfl⟩:=QC hd;unfold F4;walk_at "rk";rw [ZjY,ZjL];refine Zi (λ h3=>?_) λ h3=>?_
   ·rw [<- take_snoc _ ec,List.map_append];simp [EY,h3]
   ·rw [<- take_snoc _ ec,List.map_append];simp [EY,h3]
  ·rintro acc M' ⟨rfl,rfl⟩;refine ⟨_,rfl,?_⟩;rw [List.length_map,List.take_length,List.all_map];exact h
 ·rw [GF (.inr (by lia))] at h;exact h
 ·rw [GF (.inl (by lia))] at h;exact h
theorem Jf (T:Tx K mg):Qu P w K mg base CX0 2 T.Wa T.K1 ["word"] (lift K ZcS):=by
 refine okD T.Q0.F XW (λ xs M Φ h=>by obtain ⟨_,rfl,_⟩:=Zp h; rfl) λ cdv A outer s H E hr=>⟨_,(Ze (Zq 1 XW.nd (Zej (QX (By (Zb 0) Zg)) (QO (Zb 0) (ZN Zc) Z1) (Zb 0)))
 (Ze (ZZ (DW.dt (Ji (Jz (QX (cO T.YX (WI T) hr (Za (Zb 1) Zd)))) (Jn (DW.dt (Yi (QX (By (Zb 1) Zg)) (J9 (Zs (H0 hr) (Zb 0) Zg))))))) (Zh (Zn Qb)) Zt)
 (Zh (Zn (ZM NH rfl T.Lr Uk (Za (Zb 0) Zd)))))),λ xs M Φ h=>?_⟩
 replace h:=Zp h;obtain ⟨x1,rfl,h⟩:=h;replace h:=ZI h;obtain ⟨w1,rfl,hl,h⟩:=h;have hf:=Oy w1;walk_at "h";rename_i R hR
 suffices rest:R { nx:=λ _ M'=>Φ (.dat .none) M',rt:=Φ } [some (.dat (.str w1)),some (.dat (.str (Qm w1)))] M by
  unfold Qm at rest;cases c:Txt.startswith w1 (Str.ofString "-") with
  | true=>
   rw [c,if_pos rfl] at rest;exact ⟨by lia,rest⟩
  | false=>
   rw [c,if_neg Bool.false_ne_true] at rest;exact rest
 subst hR;walk_at "h";refine ⟨by lia,NS (Φ:=λ d=>Φ (.dat d) M) h λ z=>?_⟩;subst_vars;walk_at "rk";exact z
theorem Xx (T:Tx K mg):Qu P w K mg base CX0 3 T.Kr T.KU ["word"] (lift K Uq):=by
 refine okD T.YB.F B2 (λ xs M Φ h=>by obtain ⟨_,rfl,_⟩:=Zp h; rfl) λ cdv A outer s H E hr=>⟨_,(Zh (Zn (ZM Qz rfl T.QZ Qy (Za (Qr false (ZC (sc:=Zf Vk) (XN:=["word"]) (N:=["part"]) (ix:=[none]) rfl rfl (by walk_at "k")) (Vb (Vf (Zb 0) Zg)) (λ C ex s H=>(ZA 0 (show List.Nodup (["part"]:List Str) by walk_at "k"))) (λ C ex s H=>Z7) (λ C ex s H=>(cO T.Q0 (Jf T) hr (Za (Zb 0) Zd))) rfl) Zd)))),λ xs M Φ h=>?_⟩;replace h:=Zp h;obtain ⟨x1,rfl,h⟩:=h;replace h:=ZI h;obtain ⟨w1,rfl,hl,h⟩:=h;have pl:=Jx (x:=w1) (y:=Str.ofString ",") (by lia);walk_at "rk";refine ⟨⟨by walk_at "k",by lia⟩,by rw [List.length_map]; lia,λ i acc M'=>acc = ((Txt.split w1 (Str.ofString ",")).take i).map QI /\ M' = M,⟨rfl,rfl⟩,?_,?_⟩
 ·rintro i d acc M' hd ⟨rfl,rfl⟩;obtain ⟨p,ep,rfl⟩:=QC hd;walk_at "rk";exact ⟨Nat.le_trans (JV (List.mem_of_getElem? ep)) hl,take_snoc _ ep⟩
 ·rintro acc M' ⟨rfl,rfl⟩;rw [List.length_map,List.take_length];exact h
theorem Ej (T:Tx K mg):Qu P w K mg base CX0 4 T.W6 T.WV ["word"] (lift K GZ):=by
 refine okD T.Uy.F Df (λ xs M Φ h=>by obtain ⟨_,rfl,_⟩:=Zp h; rfl) λ cdv A outer s H E hr=>⟨_,(Zh (Zn (ZM Qz rfl T.QZ Qy (Za (Qr false (ZC (sc:=Zf V5) (XN:=["word"]) (N:=["part"]) (ix:=[none]) rfl rfl (by walk_at "k")) (Vb (Vf (Zb 0) Zg)) (λ C ex s H=>(ZA 0 (show List.Nodup (["part"]:List Str) by walk_at "k"))) (λ C ex s H=>Z7) (λ C ex s H=>(cO T.YB (Xx T) hr (Za (Zb 0) Zd))) rfl) Zd)))),λ xs M Φ h=>?_⟩;replace h:=Zp h;obtain ⟨x1,rfl,h⟩:=h;replace h:=ZI h;obtain ⟨w1,rfl,hl,h⟩:=h;have pl:=Jx (x:=w1) (y:=Str.ofString "..") (by lia);walk_at "rk";refine ⟨⟨by walk_at "k",by lia⟩,by rw [List.length_map]; lia,λ i acc M'=>acc = ((Txt.split w1 (Str.ofString "..")).take i).map Zm /\ M' = M,⟨rfl,rfl⟩,?_,?_⟩
 ·rintro i d acc M' hd ⟨rfl,rfl⟩;obtain ⟨p,ep,rfl⟩:=QC hd;walk_at "rk";exact ⟨Nat.le_trans (JV (List.mem_of_getElem? ep)) hl,take_snoc _ ep⟩
 ·rintro acc M' ⟨rfl,rfl⟩;rw [List.length_map,List.take_length];exact h
theorem Gr (T:Tx K mg):Qu P w K mg base CX0 1 T.XJ T.XU ["word"] (lift K Wr):=by
 refine okD T.XZ.F Gy (λ xs M Φ h=>by obtain ⟨_,rfl,_⟩:=Zp h; rfl) λ cdv A outer s H E hr=>⟨_,(Ze (ZZ (Zs (YU hr) (Zb 0) Zg) (Zh (Zn Qb)) Zt)
 (Zh (Zn (Zej (Zs (YU hr) (Zb 0) Zg) Zg (Zb 0))))),λ xs M Φ h=>?_⟩
 replace h:=Zp h;obtain ⟨x1,rfl,h⟩:=h;replace h:=ZI h;obtain ⟨w1,rfl,hl,h⟩:=h;unfold Zw at h;walk_at "h";rw [Qx];refine Zi (λ z=>?_) λ z=>?_
 ·rw [if_pos z] at h;exact h
 ·rw [if_neg z] at h;subst_vars;walk_at "rk";rw [Qx];refine Zi (λ z2=>?_) λ z2=>?_
  ·rw [if_pos z2] at h;exact h
  ·rw [if_neg z2] at h;exact h
theorem Gx (T:Tx K mg):Qu P w K mg base CX0 5 T.XA T.Xv ["words"] (lift K KZ):=by
 refine okD T.Xy.F YJ (λ xs M Φ h=>by obtain ⟨_,rfl,_⟩:=Zp h; rfl) λ cdv A outer s H E hr=>⟨_,(Ze (ZZ (DW.dt (Yi (Zs (YU hr) (Zo (Zb 0) Zc) Zg) (J9 (Zs Wc (Zk Z8 rfl T.Qo ZP (Za (Zb 0) Zd)) Zc)))) (Ze (Zq 1 YJ.nd (ZM Qz rfl T.QZ Qy (Za (Qr false (ZC (sc:=Zf JP) (XN:=["words", "shape"]) (N:=["word"]) (ix:=[none]) rfl rfl (by walk_at "k")) (Vb (Z5 (Zb 0) (ZN Zc) Z1)) (λ C ex s H=>(ZA 0 (show List.Nodup (["word"]:List Str) by walk_at "k"))) (λ C ex s H=>Z7) (λ C ex s H=>(cO T.Uy (Ej T) hr (Za (Zb 0) Zd))) rfl) Zd)))
 (Zh (Zn (Qh (Za Zg (Za (cO T.Q0 (Jf T) hr (Za (Zo (Zb 0) Zc) Zd)) (Za (Zo (Zb 0) Zc) (Za (cO T.XZ (Gr T) hr (Za (Zo (Zb 0) Zc) Zd)) (Za (Zb 1) (Za (cO T.Q0 (Jf T) hr (Za (Zo (Zb 0) Zc) Zd)) Zd)))))))))) Zt)
 (Ze (ZZ (DW.dt (Yi (Zs (YU hr) (Zo (Zb 0) Zc) Zg) (J9 (Zs (Jh hr) (Zk Z8 rfl T.Qo ZP (Za (Zb 0) Zd)) Zc)))) (Zh (Zn (Qh (Za Zg (Za (cO T.Q0 (Jf T) hr (Za (Zo (Zb 0) Zc) Zd)) (Za (Zo (Zb 0) Zc) (Za (cO T.YB (Xx T) hr (Za (Zo (Zb 0) Zc) Zd)) Zd))))))) Zt)
 (Ze (ZZ (DW.dt (Yi (Zs (MB hr) (Zo (Zb 0) Zc) (Qh (Za Zg (Za Zg Zd)))) (J9 (Zs (Jh hr) (Zk Z8 rfl T.Qo ZP (Za (Zb 0) Zd)) Zc)))) (Zh (Zn (Qh (Za (Zo (Zb 0) Zc) (Za (cO T.Q0 (Jf T) hr (Za (Zo (Zb 0) Zc) Zd)) (Za (Zo (Zb 0) Zc) Zd)))))) Zt)
 (Zh (Zn Qb))))),λ xs M Φ h=>?_⟩
 replace h:=Zp h;obtain ⟨x1,rfl,h⟩:=h;replace h:=Me h;obtain ⟨ws,rfl,hw,h⟩:=h;have h0:=hw.1;have h1:=hw.2.1;have h2:=hw.2.2;walk_at "h";rename_i R hR;cases ws with
 | nil=>exact absurd rfl h0
 | cons k l=>
  rw [List.map_cons];walk_at "rk";simp only [Qx,List.length_map]
  suffices rest:¬ (k = Str.ofString "land" /\ 5 <= l.length)->R { nx:=λ _ M'=>Φ (.dat .none) M',rt:=Φ } [some (.dat (.list (.str k :: l.map PyData.str))),none] M by
   refine Zi (λ z=>Zi (λ z5=>?_) λ z5=>rest λ y=>z5 (by lia)) λ z=>rest λ y=>z y.1;obtain ⟨a,b,c,e,l',rfl,hl'⟩:=Zle (l:=l) (by lia);subst z;rw [ME hl'] at h;have m:=λ p hp=>h2 p (List.mem_cons_of_mem _ hp);simp only [List.length_cons] at h1;rw [Sg];show (List.map PyData.str l').length <= 16777216 /\ _;refine ⟨by rw [List.length_map]; lia,λ i acc M'=>acc = (l'.take i).map Zj /\ M' = M,⟨rfl,rfl⟩,?_,?_⟩
   ·rintro i d acc M' hd ⟨rfl,rfl⟩;obtain ⟨p,ep,rfl⟩:=QC (show (l'.map PyData.str)[i]? = some d from hd);walk_at "rk";exact ⟨m p (List.mem_cons_of_mem _ (List.mem_cons_of_mem _ (List.mem_cons_of_mem _ (List.mem_cons_of_mem _ (List.mem_of_getElem? ep))))),take_snoc _ ep⟩
   ·intro acc M' hJ;obtain ⟨rfl,rfl⟩:=hJ;rw [show (List.drop 5 (PyData.str (Str.ofString "land") :: List.map PyData.str (a :: b :: c :: e :: l'))).length = l'.length by simp,List.take_length];simp only [List.map_cons];walk_at "rk";exact ⟨m a (by simp),m c (by simp),m e (by simp),h⟩
  intro n1;subst hR;walk_at "h";rename_i R hR;simp only [Qx,List.length_map]
  suffices rest:¬ (k = Str.ofString "spot" /\ l.length = 3)->R { nx:=λ _ M'=>Φ (.dat .none) M',rt:=Φ } [some (.dat (.list (.str k :: l.map PyData.str))),none] M by
   refine Zi (λ z=>Zi (λ z5=>?_) λ z5=>rest λ y=>z5 (by lia)) λ z=>rest λ y=>z y.1;obtain ⟨a,b,c,rfl⟩:=Zi1 (l:=l) (by lia);subst z;rw [HG] at h;simp only [List.map_cons];walk_at "rk";exact ⟨h2 a (by simp),h2 c (by simp),h⟩
  intro n2;subst hR;walk_at "h";refine ⟨[Str.ofString "drop",Str.ofString "free"],rfl,?_⟩;have ea:[Str.ofString "drop",Str.ofString "free"].any (isS (.str k)) = decide (k = Str.ofString "drop" \/ k = Str.ofString "free"):=by
   simp only [List.any_cons,List.any_nil,Bool.or_false,Qx,Bool.decide_or]
  simp only [ea,List.length_map];refine Zi (λ z=>Zi (λ z5=>?_) λ z5=>?_) λ z=>?_
  ·obtain ⟨a,b,rfl⟩:=Zhp (l:=l) (by lia);rw [Si z] at h;simp only [List.map_cons];walk_at "rk";exact ⟨h2 a (by simp),h⟩
  ·rw [BA n1 n2 λ y=>z5 (by lia)] at h;subst_vars;walk_at "rk";exact h
  ·rw [BA n1 n2 λ y=>z y.1] at h;subst_vars;walk_at "rk";exact h
theorem GB (T:Tx K mg):Qu P w K mg base CX0 7 T.XH T.Xz ["line"] (lift K Yx):=by
 refine okD T.XR.F YM (λ xs M Φ h=>by obtain ⟨_,rfl,_⟩:=Zp h; rfl) λ cdv A outer s H E hr=>⟨_,(Ze (Zq 1 YM.nd (cO T.Xy (Gx T) hr (Za (Vf (Zb 0) Zg) Zd)))
 (Zh (Zn (Zej (QX (cO T.XM (Gh T) hr (Za (Zb 1) Zd))) (Zb 1) Qb)))),λ xs M Φ h=>?_⟩
 replace h:=Zp h;obtain ⟨x1,rfl,h⟩:=h;replace h:=ZI h;obtain ⟨w1,rfl,hl,h⟩:=h;have hw:Ws (Txt.split w1 (Str.ofString " ")):=⟨V3 _ _,Jx (by lia),λ p hp=>Nat.le_trans (JV hp) hl⟩
 have ok:=ZeN hw;unfold Ja at h;walk_at "h";refine ⟨⟨by walk_at "k",by lia⟩,hw,?_⟩;subst_vars;walk_at "rk";refine ⟨ok,?_⟩;cases c:Zu (Jm (Txt.split w1 (Str.ofString " "))) with
 | true=>
  rw [c,if_pos rfl] at h;exact h
 | false=>
  rw [c,if_neg Bool.false_ne_true] at h;exact h
theorem XX (T:Tx K mg):Qu P w K mg base CX0 1 T.KL T.Ww ["spot"] (lift K W0):=by
 refine okD T.Yo.F GV (λ xs M Φ h=>by obtain ⟨_,rfl,_⟩:=Zp h; rfl) λ cdv A outer s H E hr=>⟨_,(Zh (Zn (QU Zg (Kb false (ZC (sc:=Zf Vh) (XN:=["spot"]) (N:=["number"]) (ix:=[none]) rfl rfl (by walk_at "k")) (Cy (Zb 0)) (λ C ex s H=>(ZA 0 (show List.Nodup (["number"]:List Str) by walk_at "k"))) (λ C ex s H=>Z7) (λ C ex s H=>(ZM Xe rfl T.Bp XE (Za (Zb 0) Zd))) rfl)))),λ xs M Φ h=>?_⟩;replace h:=Zp h;obtain ⟨x1,rfl,h⟩:=h;replace h:=Zah h;obtain ⟨u,v,rfl,⟨hu,hv⟩,h⟩:=h;walk_at "rk";exact ⟨Vt hu,Vt hv,[QH u,QH v],rfl,jk ln1.1 (by simp) (by decide:50 <= 3000) (JZ (Vg hu).2 (Vg hv).2),h⟩
theorem En (T:Tx K mg):Qu P w K mg base CX0 2 T.Ue T.W2 ["box"] (lift K Bk):=by
 refine okD T.UG.F D6 (λ xs M Φ h=>by obtain ⟨_,rfl,_⟩:=Zp h; rfl) λ cdv A outer s H E hr=>⟨_,(Zh (Zn (QU Zg (Kb false (ZC (sc:=Zf V1) (XN:=["box"]) (N:=["spot"]) (ix:=[none]) rfl rfl (by walk_at "k")) (Cy (Zb 0)) (λ C ex s H=>(ZA 0 (show List.Nodup (["spot"]:List Str) by walk_at "k"))) (λ C ex s H=>Z7) (λ C ex s H=>(cO T.Yo (XX T) hr (Za (Zb 0) Zd))) rfl)))),λ xs M Φ h=>?_⟩;replace h:=Zp h;obtain ⟨x1,rfl,h⟩:=h;replace h:=Uw h;obtain ⟨b,rfl,hb,h⟩:=h;have h1:=hb.2.1;have h2:=hb.2.2;walk_at "rk";exact ⟨⟨h1.1.big,h1.2.big⟩,⟨h2.1.big,h2.2.big⟩,[Vl b.x b.y,Vl b.X b.Y],rfl,jk ln1.2.1 (by simp) (by decide:102 <= 3000) (JZ (VR h1.1.big h1.2.big) (VR h2.1.big h2.2.big)),h⟩
theorem HX (T:Tx K mg):Qu P w K mg base CX0 3 T.BF T.BI ["telling"] (lift K FG):=by
 refine okD T.Bz.F Xg (λ xs M Φ h=>by obtain ⟨_,rfl,_⟩:=Zp h; rfl) λ cdv A outer s H E hr=>⟨_,(Ze (ZZ (Zs (Jh hr) (Zo (Zb 0) Zc) Zg) (Ze (Zq 1 Xg.nd (Qa (Za (Zo (Zb 0) Zc) (Za (ZM Xe rfl T.Bp XE (Za (Zo (Zb 0) Zc) Zd)) (Za (Zo (Zb 0) Zc) (Za (Zf4 (Zo (Zb 0) Zc) (QR Zg)) (Za (ZM Xe rfl T.Bp XE (Za (Zo (Zb 0) Zc) Zd)) Zd)))))))
 (Zh (Zn (QU Zg (Zl Qq (Zb 1) (Qr false (ZC (sc:=Zf Vw) (XN:=["telling", "words"]) (N:=["box"]) (ix:=[none]) rfl rfl (by walk_at "k")) (Cy (Zo (Zb 0) Zc)) (λ C ex s H=>(ZA 0 (show List.Nodup (["box"]:List Str) by walk_at "k"))) (λ C ex s H=>Z7) (λ C ex s H=>(cO T.UG (En T) hr (Za (Zb 0) Zd))) rfl)))))) Zt)
 (Ze (Zq 1 Xg.nd (Qa (Za (Zo (Zb 0) Zc) (Za (ZM Xe rfl T.Bp XE (Za (Zo (Zb 0) Zc) Zd)) (Za (Zo (Zb 0) Zc) Zd)))))
 (Zh (Zn (QU Zg (Zl Qq (Zb 1) (Kb false (ZC (sc:=Zf Vw) (XN:=["telling", "words"]) (N:=["spot"]) (ix:=[none]) rfl rfl (by walk_at "k")) (Cy (Nt (Zb 0) (ZN Zc) Z1)) (λ C ex s H=>(ZA 0 (show List.Nodup (["spot"]:List Str) by walk_at "k"))) (λ C ex s H=>Z7) (λ C ex s H=>(cO T.Yo (XX T) hr (Za (Zb 0) Zd))) rfl))))))),λ xs M Φ h=>?_⟩
 replace h:=Zp h;obtain ⟨x1,rfl,h⟩:=h;obtain ⟨t,rfl,ht,h⟩:=h;have hj:=ZbZ ht;cases t with
 | land t nm ou bs wb=>
  obtain ⟨k,ho,hs,hw⟩:=ht;have len:=List.length_map (as:=bs) bD;have l6:=hs.1;have bw:Big wb:=by unfold Big; lia
  unfold tlD;walk_at "h";unfold JJ at h;rw [Ln] at h hj
  rcases We ho with ⟨e0,e⟩ | ⟨n,e⟩
  ·rw [e] at h hj;refine ⟨Vt (EX k),by rw [e0]; decide +kernel,?_⟩;rw [if_pos (by rw [e0]; decide +kernel)];refine ⟨Vt bw,by lia,λ i acc M'=>acc = ((bs.take i).map WD).map PyData.str /\ M' = M,⟨rfl,rfl⟩,?_,?_⟩
   ·rintro i d acc M' hd ⟨rfl,rfl⟩;obtain ⟨b,eb,rfl⟩:=QC hd;walk_at "rk";refine ⟨hs.2.2 b (List.mem_of_getElem? eb),?_⟩;rw [List.map_map,List.map_map,<- take_snoc _ eb]
    first | exact ⟨rfl,rfl⟩ | rfl
   ·rintro acc M' ⟨rfl,rfl⟩;rw [len,List.take_length];exact ⟨by rw [List.length_map,List.length_map]; lia,_,rfl,hj,h⟩
  ·rw [e] at h hj;refine ⟨Vt (EX k),by have:=n.1; lia,?_⟩;rw [if_neg (by have:=n.1; lia)];refine ⟨Vt bw,by lia,λ i acc M'=>acc = ((bs.take i).map WD).map PyData.str /\ M' = M,⟨rfl,rfl⟩,?_,?_⟩
   ·rintro i d acc M' hd ⟨rfl,rfl⟩;obtain ⟨b,eb,rfl⟩:=QC hd;walk_at "rk";refine ⟨hs.2.2 b (List.mem_of_getElem? eb),?_⟩;rw [List.map_map,List.map_map,<- take_snoc _ eb]
    first | exact ⟨rfl,rfl⟩ | rfl
   ·rintro acc M' ⟨rfl,rfl⟩;rw [len,List.take_length];exact ⟨by rw [List.length_map,List.length_map]; lia,_,rfl,hj,h⟩
 | spot t nm u v=>
  unfold tlD;walk_at "h";rw [decide_eq_false Zi7.1.1,if_neg Bool.false_ne_true];subst_vars;walk_at "rk";rw [ZkJ];walk_at "rk";exact ⟨Vt (EX ht.1),by decide,⟨ht.2.1.big,ht.2.2.big⟩,Jd (.spot t nm u v),rfl,hj,h⟩
 | off w t nm=>
  have nl:w ≠ Str.ofString "land" := by
   rcases ht.2 with rfl | rfl
   ·exact Zi7.1.2.1
   ·exact Zi7.1.2.2
  unfold tlD;walk_at "h";rw [decide_eq_false nl,if_neg Bool.false_ne_true];subst_vars;walk_at "rk";rw [ZkJ];walk_at "rk";exact ⟨Vt (EX ht.1),by decide,Jd (.off w t nm),rfl,hj,h⟩
theorem X4 (T:Tx K mg):Qu P w K mg base CX0 4 T.VC T.VA ["tellings"] (lift K BP):=by
 refine okD T.Vz.F X7 (λ xs M Φ h=>by obtain ⟨_,rfl,_⟩:=Zp h; rfl) λ cdv A outer s H E hr=>⟨_,(Zh (Zn (QU Zg (Qr false (ZC (sc:=Zf QL) (XN:=["tellings"]) (N:=["telling"]) (ix:=[none]) rfl rfl (by walk_at "k")) (Vb (Zb 0)) (λ C ex s H=>(ZA 0 (show List.Nodup (["telling"]:List Str) by walk_at "k"))) (λ C ex s H=>Z7) (λ C ex s H=>(cO T.Bz (HX T) hr (Za (Zb 0) Zd))) rfl)))),λ xs M Φ h=>?_⟩;replace h:=Zp h;obtain ⟨x1,rfl,h⟩:=h;obtain ⟨ts,rfl,hts,h⟩:=h;have len:=List.length_map (as:=ts) tlD;have hl:=hts.1;walk_at "rk";refine ⟨by lia,λ i acc M'=>acc = ((ts.take i).map JJ).map PyData.str /\ M' = M,⟨rfl,rfl⟩,?_,?_⟩
 ·rintro i d acc M' hd ⟨rfl,rfl⟩;obtain ⟨x,ex,rfl⟩:=QC hd;walk_at "rk";refine ⟨x,rfl,hts.2 x (List.mem_of_getElem? ex),?_⟩;rw [List.map_map,List.map_map,<- take_snoc _ ex]
  first | exact ⟨rfl,rfl⟩ | rfl
 ·rintro acc M' ⟨rfl,rfl⟩;rw [len,List.take_length];refine ⟨ts.map JJ,rfl,jk ln1.2.2.2 (by rw [List.length_map]; lia) (by decide:2400 <= 3000) λ s hs=>?_,h⟩;obtain ⟨x,hx,rfl⟩:=List.mem_map.mp hs;exact U4 (hts.2 x hx)
theorem X2 (T:Tx K mg):Qu P w K mg base (CX1 P w) 8 T.VI T.VH ["text"] (RD K (UJ T)):=by
 refine okX T.QV.F Jk (λ xs M Φ Ξ h=>by obtain ⟨_,rfl,_⟩:=Zp h; rfl) λ cdv A outer s H E Ξ hr=>⟨_,(Ze (ZZ (Jz (QX (Zk (YW (OK _)) rfl T.ZQ ZL (Za (Zb 0) (Za (WH rfl T.Bp XE) Zd))))) (Zh (BZ T.Kg T.Ki (J7 T) T.UX T.Gb (hr.mono (by walk_at "w")) rfl rfl (Za Zc Zd))) Zt)
 (Ze (ZZ (Zs (YU hr) (Zb 0) Zg) (Zh (Zn (Qa Zd))) Zt)
 (Ze (Zq 1 Jk.nd (Vf (Zb 0) Zg))
 (Ze (Wt 2 true Jk.nd (ZC (sc:=Zf QN) (XN:=["text", "lines", "told"]) (N:=["line"]) (ix:=[none]) rfl rfl (by walk_at "k")) (Vb (Zb 1)) (λ C ex s H=>(ZA 0 (show List.Nodup (["line"]:List Str) by walk_at "k"))) (λ C ex s H=>Z7) (λ C ex s H=>(cO T.XR (GB T) hr (Za (Zb 0) Zd))) rfl)
 (Ze (ZZ (Zs (ZgO hr) Qb (Zb 2)) (Zh (BZ T.Kg T.Ki (J7 T) T.UX T.Gb (hr.mono (by walk_at "w")) rfl rfl (Za (Nx hr (Zb 2) Qb) Zd))) Zt)
 (Zh (Zn (OJ (Zb 2))))))))),λ xs M Φ h=>?_⟩
 replace h:=Zp h;obtain ⟨x1,rfl,h⟩:=h;replace h:=ZY h;obtain ⟨d,rfl,hs,h1,h2⟩:=h
 rcases MX d with ⟨s,rfl⟩ | ⟨k1,k2⟩
 case inr=>
  walk_at "h";rw [k1];exact λ dx hx=>h2 0 k2 dx _ hx ZK λ a ha=>ZF λ e=>ha (by rw [e]; exact hx)
 replace hs:Zfi s:=hs;replace h1:Qe ((QE s).map Ja) = none->Φ (.dat (.list ((QE s).map Ja))) M:=h1;replace h2:∀ j:Nat,Qe ((QE s).map Ja) = some j->∀ (dx:Addr) (M':Mp),M dx = none->M' dx = some (.ext (V4 dx j))->(∀ a,M a ≠ none->M' a = M a)->Ξ (.ref T.Qi,some dx) M':=h2;walk_at "h";walk_at "h";rw [Qx];refine Zi (λ z=>?_) λ z=>?_
 ·have e:QE s = []:=if_pos z;rw [e] at h1;exact h1 rfl
 ·have e:QE s = Txt.split s (Str.ofString "\n"):=if_neg z;have hs2:=hs.2;rw [e] at h1 h2 hs2;have pl:=Jx (x:=s) (y:=Str.ofString "\n") (by have:=hs.1; lia);walk_at "h";refine ⟨⟨by walk_at "k",by have:=hs.1; lia⟩,?_⟩;walk_at "h";generalize Txt.split s (Str.ofString "\n") = ls at h1 h2 hs2 pl ⊢;refine ⟨by rw [List.length_map]; lia,λ i acc M'=>acc = (ls.take i).map Ja /\ M' = M,⟨rfl,rfl⟩,?_,?_⟩
  ·rintro i d acc M' hd ⟨rfl,rfl⟩;obtain ⟨p,ep,rfl⟩:=QC hd;walk_at "rk";exact ⟨hs2 p (List.mem_of_getElem? ep),take_snoc _ ep⟩
  ·rintro acc M' ⟨rfl,rfl⟩;rw [List.length_map,List.take_length];intro q hq;walk_at "h";have lay:okIn PyData.none (ls.map Ja) = true:=by
    obtain ⟨a,b⟩:=Rz ls;unfold okIn;rw [a];simp [PyData.canLay0,PyData.depth]
    try lia
   refine ⟨lay,?_⟩;cases f:Qe (ls.map Ja) with
   | none=>
    rw [WQ f,if_neg Bool.false_ne_true];subst_vars;walk_at "rk";rw [Bn hq];exact h1 f
   | some j=>
    obtain ⟨f1,⟨d,f2,f3⟩,f4⟩:=Y8 f;rw [f1,if_pos rfl];have kd:∀ d ∈ ls.map Ja,(∃ t,d = .tuple t) \/ d = .none:=λ d hd=>by
     obtain ⟨p,_,rfl⟩:=List.mem_map.mp hd;exact E8 p
    have e0:=(RX (kd d (List.mem_of_getElem? f2))).mp f3;rw [e0] at f2;refine ⟨j,f2,λ i hi z=>?_,λ d hd=>(kd d hd).symm,λ dx hx=>?_⟩
    ·have:=f4 i hi _ z;simp [PyData.eqv] at this
    ·have n1:=fresh_ne hx;rw [ZF n1] at hx;refine h2 j f dx _ hx ZK λ a ha=>?_;have n2:a ≠ dx:=λ e=>ha (by rw [e]; exact hx);have n3:a ≠ q:=λ e=>ha (by rw [e]; exact hq);rw [ZF n2,ZF n3]
theorem XI (T:Tx K mg):Qu P w K mg base CX0 1 T.Wj T.KC ["_law_word"] (lift K Mh):=by
 refine okD T.Yz.F Cu (λ xs M Φ h=>by obtain ⟨_,rfl,_⟩:=Zp h; rfl) λ cdv A outer s H E hr=>⟨_,(Zh (Zn (Qs (Ye Xj Xj Zc (Zk YG rfl T.Qo ZP (Za (Zb 0) Zd)) Zc) (QR (Jc (PU hr) (Qr false (ZC (sc:=Zf J5) (XN:=["_law_word"]) (N:=["_law_sign"]) (ix:=[none]) rfl rfl (by walk_at "k")) (FC (Zb 0)) (λ C ex s H=>(ZA 0 (show List.Nodup (["_law_sign"]:List Str) by walk_at "k"))) (λ C ex s H=>(Pe (Zs B7 (Zb 0) Zg))) (λ C ex s H=>(Zb 0)) rfl) (Qa Zd)))))),λ xs M Φ h=>?_⟩;replace h:=Zp h;obtain ⟨x1,rfl,h⟩:=h;replace h:=ZI h;obtain ⟨w1,rfl,hl,h⟩:=h;have e:Zx (.str w1) = ((decide (1 <= w1.length) && decide (w1.length <= 8)) && w1.cps.toList.all CM):=rfl;walk_at "rk";refine ⟨by lia,Zi (λ h1=>Zi (λ h2=>?_) λ h2=>?_) λ h1=>?_⟩
 ·refine ⟨by rw [List.length_map,str_len]; lia,λ i acc M'=>acc = ((w1.cps.toList.take i).filter λ c=>!CM c).map F4 /\ M' = M,⟨rfl,rfl⟩,?_,?_⟩
  ·rintro i d acc M' hd ⟨rfl,rfl⟩;obtain ⟨c,ec,rfl⟩:=QC hd;have fs:=BS (p:=λ c=>!CM c) ec;unfold F4;walk_at "rk";rw [ZeC,fs,List.map_append];cases CM c with
   | true=>simp
   | false=>simp
  ·rintro acc M' ⟨rfl,rfl⟩;rw [List.length_map,List.take_length,List.isEmpty_map,Xr];rw [e,decide_eq_true (show 1 <= w1.length by lia),decide_eq_true (show w1.length <= 8 by lia)] at h;exact h
 ·rw [e,decide_eq_false (show ¬ w1.length <= 8 by lia),Bool.and_false] at h;exact h
 ·rw [e,decide_eq_false (show ¬ 1 <= w1.length by lia)] at h;exact h
theorem VB (T:Tx K mg):Qu P w K mg base CX0 1 T.Kx T.KN ["_law_word"] (lift K ZcS):=by
 refine okD T.Vj.F VS (λ xs M Φ h=>by obtain ⟨_,rfl,_⟩:=Zp h; rfl) λ cdv A outer s H E hr=>⟨_,(Ze (Zq 1 VS.nd (Zb 0))
 (Ze (ZZ (Zs (Jh hr) (QO (Zb 0) Z1 (ZN Zc)) Zg) (Zh (Zq 1 VS.nd (QO (Zb 0) (ZN Zc) Z1))) Zt)
 (Ze (ZZ (DW.dt (Ji (Zs (Jh hr) (Zb 1) Zg) (Ji (Zs Wc (Zk YG rfl T.Qo ZP (Za (Zb 1) Zd)) Zc) (Jn (Zs (PQ hr) (Qr false (ZC (sc:=Zf Vo) (XN:=["_law_word", "_law_figures"]) (N:=["_law_sign"]) (ix:=[none]) rfl rfl (by walk_at "k")) (FC (Zb 1)) (λ C ex s H=>(ZA 0 (show List.Nodup (["_law_sign"]:List Str) by walk_at "k"))) (λ C ex s H=>(Pe (Zs B7 (Zb 0) Zg))) (λ C ex s H=>(Zb 0)) rfl) (Qa Zd)))))) (Zh (Zn Qb)) Zt)
 (Ze (ZZ (DW.dt (Yi (Zs (Jh hr) (Fe (Zb 1) Zc) Zg) (J9 (Zs (H0 hr) (Zb 0) Zg)))) (Zh (Zn Qb)) Zt)
 (Zh (Zn (ZM NH rfl T.Lr Uk (Za (Zb 0) Zd)))))))),λ xs M Φ h=>?_⟩
 replace h:=Zp h;obtain ⟨x1,rfl,h⟩:=h;replace h:=ZI h;obtain ⟨w1,rfl,hl,h⟩:=h;have hf:=Oy w1;walk_at "h";walk_at "h";rename_i R hR
 suffices rest:R { nx:=λ _ M'=>Φ (.dat .none) M',rt:=Φ } [some (.dat (.str w1)),some (.dat (.str (Qm w1)))] M by
  refine ⟨by lia,?_⟩;unfold Qm at rest;rw [m45,VN] at rest;rw [m45,N2]
  split
  ·rename_i c;rw [if_pos c] at rest;exact ⟨by lia,rest⟩
  ·rename_i c;rw [if_neg c] at rest;exact rest
 subst hR;walk_at "h";have no:JX (Qm w1) = false->Φ (.dat .none) M:=λ f=>by
  rw [Mf (by unfold WC; rw [f]; rfl)] at h;exact h
 refine Zi (λ h1=>no (GF (.inl ?_))) λ h1=>⟨by lia,Zi (λ h2=>no (GF (.inr (by lia)))) λ h2=>?_⟩
 ·rw [h1]
  decide +kernel
 have h3:1 <= (Qm w1).length:=Nat.pos_of_ne_zero λ z=>h1 (Qf (by
  rw [<- str_len] at z;rw [List.length_eq_zero_iff.mp z]
  decide +kernel))
 have ef:JX (Qm w1) = (Qm w1).cps.toList.all EY:=by
  unfold JX;rw [decide_eq_true h3,decide_eq_true (show (Qm w1).length <= 60 by lia)];rfl
 refine ⟨by rw [List.length_map,str_len]; lia,λ i acc M'=>acc = (((Qm w1).cps.toList.take i).filter λ c=>!EY c).map F4 /\ M' = M,⟨rfl,rfl⟩,?_,?_⟩
 ·rintro i d acc M' hd ⟨rfl,rfl⟩;obtain ⟨c,ec,rfl⟩:=QC hd;have fs:=BS (p:=λ c=>!EY c) ec;unfold F4;walk_at "rk";rw [Zc8,fs,List.map_append];cases EY c with
  | true=>simp
  | false=>simp
 rintro acc M' ⟨rfl,rfl⟩;rw [List.length_map,List.take_length,List.isEmpty_map,Xr,<- ef];cases f:JX (Qm w1) with
 | false=>exact no f
 | true=>
  rw [if_neg (by decide)];walk_at "h";rename_i R hR;refine ⟨by lia,?_⟩;have st:=VN (Qm w1) 48;rw [<- m48] at st;have k:=NS (Φ:=λ d=>Φ (.dat d) M') h (A:=R { nx:=λ _ M'=>Φ (.dat .none) M',rt:=Φ } [some (.dat (.str w1)),some (.dat (.str (Qm w1)))] M') λ z=>by
   subst hR;walk_at "rk";exact z
  rw [f,if_neg (by decide),st] at k;cases q:(Qm w1).cps.toList with
  | nil=>
   rw [<- str_len,q] at h3;exact absurd h3 (by decide)
  | cons c r=>
   refine ⟨c,Qv (j:=0) rfl,?_⟩;have e:decide ((⟨#[c]⟩:Str) = Str.ofString "0") = decide ((Qm w1).cps.toList.head? = some 48):=by
    rw [q,m48,decide_eq_decide];constructor
    ·intro z;have z:=congrArg (λ s:Str=>s.cps.toList) z;have z:[c] = [48]:=z;rw [List.cons.injEq] at z;rw [z.1];rfl
    ·intro z;rw [show c = 48 from Option.some.inj z];rfl
   rw [e];exact k
theorem Ya (T:Tx K mg):Qu P w K mg base CX0 2 T.G5 T.BW ["_law_word"] (lift K FY):=by
 refine okD T.Vs.F W4 (λ xs M Φ h=>by obtain ⟨_,rfl,_⟩:=Zp h; rfl) λ cdv A outer s H E hr=>⟨_,(Ze (Wt 1 false W4.nd (ZC (sc:=Zf VO) (XN:=["_law_word", "_law_numbers"]) (N:=["_law_part"]) (ix:=[none]) rfl rfl (by walk_at "k")) (Vb (Vf (Zb 0) Zg)) (λ C ex s H=>(ZA 0 (show List.Nodup (["_law_part"]:List Str) by walk_at "k"))) (λ C ex s H=>Z7) (λ C ex s H=>(cO T.Vj (VB T) hr (Za (Zb 0) Zd))) rfl)
 (Ze (ZZ (DW.dt (Ji (Zs (H0 hr) (Zk Z8 rfl T.Qo ZP (Za (Zb 1) Zd)) Zc) (Ji (Zs (ZfE hr) Qb (Zb 1)) (Jn (Zs TZ (Zk (ZcA rfl) rfl T.ZcO OM (Za (Qr false (ZC (sc:=Zf VO) (XN:=["_law_word", "_law_numbers"]) (N:=["_law_number"]) (ix:=[none]) rfl rfl (by walk_at "k")) (Vb (Zb 1)) (λ C ex s H=>(ZA 0 (show List.Nodup (["_law_number"]:List Str) by walk_at "k"))) (λ C ex s H=>Z7) (λ C ex s H=>(Zk EW rfl T.Rk FR (Za (Zb 0) Zd))) rfl) Zd)) (Zl JL Zc Zc)))))) (Zh (Zn Qb)) Zt)
 (Zh (Zn (ZM Qz rfl T.QZ Qy (Za (Zb 1) Zd)))))),λ xs M Φ h=>?_⟩
 replace h:=Zp h;obtain ⟨x1,rfl,h⟩:=h;replace h:=ZI h;obtain ⟨w1,rfl,hl,h⟩:=h;have pl:=Jx (x:=w1) (y:=Str.ofString ",") (by lia);have pp:∀ p ∈ Txt.split w1 (Str.ofString ","),p.length <= 2000000:=λ p hp=>Nat.le_trans (JV hp) hl;unfold Zm at h;walk_at "h";generalize Txt.split w1 (Str.ofString ",") = l at h pl pp;refine ⟨⟨by walk_at "k",by lia⟩,by rw [List.length_map]; lia,λ i acc M'=>acc = (l.take i).map QI /\ M' = M,⟨rfl,rfl⟩,?_,?_⟩
 ·rintro i d acc M' hd ⟨rfl,rfl⟩;obtain ⟨p,ep,rfl⟩:=QC hd;walk_at "rk";exact ⟨pp p (List.mem_of_getElem? ep),take_snoc _ ep⟩
 rintro acc M' ⟨rfl,rfl⟩;rw [List.length_map,List.take_length];walk_at "h";have no:ZD (.tuple (l.map QI)) = false->Φ (.dat .none) M':=λ f=>by
  unfold fit at h;rw [f] at h;exact h
 by_cases z:l.length = 2
 case neg=>
  rw [if_pos (by rw [List.length_map,decide_eq_false (by lia)]; rfl)];refine no ?_
  match l,z with
  | [],_=>rfl
  | [_],_=>rfl
  | [_,_],z=>exact absurd rfl z
  | _ :: _ :: _ :: _,_=>rfl
 rw [if_neg (by rw [List.length_map,decide_eq_true (by lia)]; decide)];obtain ⟨p,q,rfl⟩:=Zhp z;have lay:okIn PyData.none ([p,q].map QI) = true:=by
  rcases J0 p with e | ⟨u,e⟩ <;> rcases J0 q with e2 | ⟨v,e2⟩ <;> (rw [List.map_cons,List.map_cons,List.map_nil,e,e2]; rfl)
 refine ⟨lay,?_⟩
 rcases J0 p with e | ⟨u,e⟩
 ·rw [List.map_cons,List.map_cons,List.map_nil,e] at no ⊢;exact no rfl
 rcases J0 q with e2 | ⟨v,e2⟩
 ·rw [List.map_cons,List.map_cons,List.map_nil,e,e2] at no ⊢;exact no (by show (_ && ZG .none) = false; rw [show ZG PyData.none = false from rfl,Bool.and_false])
 rw [List.map_cons,List.map_cons,List.map_nil,e,e2] at no h ⊢;rw [show ([PyData.int u,PyData.int v].any λ e=>e.eqv PyData.none) = false from rfl,if_neg Bool.false_ne_true];refine ⟨by simp,λ i acc M''=>acc = ([u,v].take i).map (λ i:Int=>PyData.int (if i < 0 then -i else i)) /\ M'' = M',⟨rfl,rfl⟩,?_,?_⟩
 ·rintro i d acc M'' hd ⟨rfl,rfl⟩;obtain ⟨n,en,rfl⟩:=QC (show ([u,v].map PyData.int)[i]? = some d from hd);walk_at "rk";exact take_snoc _ en
 rintro acc M'' ⟨rfl,rfl⟩;refine ⟨[u,v].map λ i:Int=>if i < 0 then -i else i,.inl (by simp),by simp,λ m hm hx=>⟨?_,?_⟩⟩
 ·exact Ez _ (by decide)
 have fin:decide (1000000000000 <= m) = !ZD (.tuple [.int u,.int v]):=by
  show _ = !((decide (-999999999999 <= u) && decide (u <= 999999999999)) && (decide (-999999999999 <= v) && decide (v <= 999999999999)));have x1:=hx (if u < 0 then -u else u) (by simp);have x2:=hx (if v < 0 then -v else v) (by simp);have hm:m = (if u < 0 then -u else u) \/ m = (if v < 0 then -v else v):=by simpa using hm
  rw [Bool.eq_iff_iff];simp only [Bool.not_eq_true',Bool.and_eq_false_iff,decide_eq_true_eq,decide_eq_false_iff_not]
  split at x1 <;> split at x2 <;> simp only [*,if_true,if_false] at hm <;> lia
 rw [fin];cases f:ZD (.tuple [.int u,.int v]) with
 | false=>exact no f
 | true=>
  unfold fit at h;rw [f] at h;rw [if_neg (by decide)];subst_vars;walk_at "rk";exact h
theorem MY (T:Tx K mg):Qu P w K mg base CX0 3 T.Fu T.ER ["_law_word"] (lift K OQ):=by
 refine okD T.EN.F J3 (λ xs M Φ h=>by obtain ⟨_,rfl,_⟩:=Zp h; rfl) λ cdv A outer s H E hr=>⟨_,(Ze (Wm (ZbM (Zb 0) Zg) (BV (n:=3) rfl (QP (ZA 3 J3.nd) (QP (ZA 4 J3.nd) (QP (ZA 5 J3.nd) Wn)))))
 (Ze (Zq 1 J3.nd (cO T.Vs (Ya T) hr (Za (Zb 3) Zd)))
 (Ze (Zq 2 J3.nd (cO T.Vs (Ya T) hr (Za (Zb 5) Zd)))
 (Ze (ZZ (DW.dt (Ji (Zs (Jh hr) (Zb 4) Zg) (Ji (Zs KP (Zb 1) Qb) (Ji (Zs KP (Zb 2) Qb) (Ji (Zs Wc (Zo (Zb 1) Zc) (Zo (Zb 2) Zc)) (Jn (Zs Wc (Zo (Zb 1) Zc) (Zo (Zb 2) Zc)))))))) (Zh (Zn Qb)) Zt)
 (Zh (Zn (Qh (Za (Zb 1) (Za (Zb 2) Zd))))))))),λ xs M Φ h=>?_⟩
 replace h:=Zp h;obtain ⟨x1,rfl,h⟩:=h;replace h:=ZI h;obtain ⟨w1,rfl,hl,h⟩:=h;have no:Z4 (Zj w1) = false->Φ (.dat .none) M:=λ f=>by
  rw [Vq f] at h;exact h
 walk_at "h";refine ⟨⟨by walk_at "k",by lia⟩,?_⟩;rw [cm2];have pc:=Xd w1
 have np:∀ a d b,Yr w1 QM = [a,d,b]->(ZD (Zm a) = false \/ ZD (Zm b) = false) \/ d = Str.empty->Φ (.dat .none) M:=λ a d b e f=>no (Bool.eq_false_iff.mpr λ z=>by
  obtain ⟨a',b',e',h1,h2⟩:=N8 z;rw [e,List.cons.injEq,List.cons.injEq,List.cons.injEq] at e';rw [<- e'.1] at h1;rw [<- e'.2.2.1] at h2
  rcases f with (f | f) | f
  ·rw [h1] at f;cases f
  ·rw [h2] at f;cases f
  ·rw [f] at e'
   exact absurd (congrArg (λ s:Str=>s.cps.toList) e'.2.1) (by decide))
 obtain ⟨a,d,b,e⟩:∃ a d b,Yr w1 QM = [a,d,b]:=by
  rcases pc with e | ⟨a,b,e,_⟩
  ·exact ⟨_,_,_,e⟩
  ·exact ⟨_,_,_,e⟩
 have ps:=part_short e;have np:=np a d b e;rw [e];simp only [List.map_cons,List.map_nil];walk_at "rk";walk_at "h";refine ⟨by lia,?_⟩;walk_at "h";refine ⟨by lia,?_⟩;walk_at "h";rw [ZeA];refine Zi (λ z=>np (.inr z)) λ z=>?_;cases f1:ZD (Zm a) with
 | false=>
  rw [Vq f1];exact np (.inl (.inl f1))
 | true=>
  cases f2:ZD (Zm b) with
  | false=>
   rw [Jy f1,Vq f2];obtain ⟨u,v,_,e1,_⟩:=JW f1;rw [e1];exact np (.inl (.inr f2))
  | true=>
   have eb:Zj w1 = .tuple [Zm a,Zm b]:=by
    rcases pc with e' | ⟨a',b',e',ew⟩
    ·rw [e,List.cons.injEq,List.cons.injEq] at e';exact absurd e'.2.1 z
    ·rw [e,List.cons.injEq,List.cons.injEq,List.cons.injEq] at e';rw [<- e'.1,<- e'.2.2.1] at ew;exact Zdq ew f1 f2
   rw [Jy f1,Jy f2];obtain ⟨u,v,hu,e1,_⟩:=JW f1;obtain ⟨u',v',hv,e2,_⟩:=JW f2;have io:Z4 (Zj w1) = (decide (u <= u') && decide (v <= v')):=by
    rw [eb];show (ZD (Zm a) && (ZD (Zm b) && okB (toB (.tuple [Zm a,Zm b])))) = _;rw [f1,f2,e1,e2];rfl
   rw [e1,e2] at eb ⊢;walk_at "rk";refine Zi (λ z1=>no ?_) λ z1=>Zi (λ z2=>no ?_) λ z2=>?_
   ·rw [io,decide_eq_false (show ¬ u <= u' by lia)];rfl
   ·rw [io,decide_eq_false (show ¬ v <= v' by lia),Bool.and_false]
   ·rw [Jy (by rw [io,decide_eq_true (show u <= u' by lia),decide_eq_true (show v <= v' by lia)]; rfl),eb] at h;subst_vars;walk_at "rk";exact h
theorem Eb (T:Tx K mg):Qu P w K mg base CX0 4 T.Uo T.Uu ["_law_words"] (lift K GO):=by
 refine okD T.UH.F Vd (λ xs M Φ h=>by obtain ⟨_,rfl,_⟩:=Zp h; rfl) λ cdv A outer s H E hr=>⟨_,(Ze (Wt 1 false Vd.nd (ZC (sc:=Zf VZ) (XN:=["_law_words", "_law_boxes_here", "_law_k", "_law_w"]) (N:=["_law_word"]) (ix:=[none]) rfl rfl (by walk_at "k")) (Vb (Zb 0)) (λ C ex s H=>(ZA 0 (show List.Nodup (["_law_word"]:List Str) by walk_at "k"))) (λ C ex s H=>Z7) (λ C ex s H=>(cO T.EN (MY T) hr (Za (Zb 0) Zd))) rfl)
 (Ze (ZZ (DW.dt (Ji (Zs Xj (Zk Z8 rfl T.Qo ZP (Za (Zb 1) Zd)) Zc) (Ji (Zs Wc (Zk Z8 rfl T.Qo ZP (Za (Zb 1) Zd)) Zc) (Jn (Zs (ZfE hr) Qb (Zb 1)))))) (Zh (Zn Qb)) Zt)
 (Ze (Ti rfl T.QY (Za Zc (Za (Zk Z8 rfl T.Qo ZP (Za (Zb 1) Zd)) Zd)) (ZA 2 Vd.nd) (Zh (Kc rfl T.QY (Za Zc Zd) (ZA 3 Vd.nd) (Zh (ZZ (DW.dt (Ji (Zs Wc (Zo (Zo (Zo (Zb 1) (Zb 2)) Zc) (Zb 3)) (Zl ZJ (Zo (Zo (Zo (Zb 1) (Zl Jp (Zb 2) Zc)) Zc) (Zb 3)) Zc)) (Jn (Zs Wc (Zo (Zo (Zo (Zb 1) (Zl Jp (Zb 2) Zc)) Zc) (Zb 3)) (Zl ZJ (Zo (Zo (Zo (Zb 1) (Zb 2)) Zc) (Zb 3)) Zc))))) (Zh (Zn Qb)) Zt)) PassesOwn.never rfl)) PassesOwn.never rfl)
 (Zh (Zn (ZM Qz rfl T.QZ Qy (Za (Zb 1) Zd))))))),λ xs M Φ h=>?_⟩
 replace h:=Zp h;obtain ⟨x1,rfl,h⟩:=h;replace h:=Me h;obtain ⟨ws,rfl,hw,h⟩:=h;walk_at "h";refine ⟨by rw [List.length_map]; lia,λ i acc M'=>acc = (ws.take i).map (λ w=>fit Z4 (Zj w)) /\ M' = M,⟨rfl,rfl⟩,?_,?_⟩
 ·rintro i d acc M' hd ⟨rfl,rfl⟩;obtain ⟨p,ep,rfl⟩:=QC hd;walk_at "rk";exact ⟨hw.2 p (List.mem_of_getElem? ep),take_snoc _ ep⟩
 rintro acc M' ⟨rfl,rfl⟩;rw [List.length_map,List.take_length];walk_at "h";have no:ZS (.tuple (ws.map Zj)) = false->Φ (.dat .none) M':=λ f=>by
  rw [Vq f] at h;exact h
 have is:ZS (.tuple (ws.map Zj)) = ((decide (1 <= (ws.map Zj).length) && decide ((ws.map Zj).length <= 6)) && ((ws.map Zj).all Z4 && chB ((ws.map Zj).map toB))):=rfl;rw [List.length_map] at is ⊢;refine Zi (λ z1=>no ?_) λ z1=>Zi (λ z2=>no ?_) λ z2=>⟨S5 ws,?_⟩
 ·rw [is,decide_eq_false (show ¬ 1 <= ws.length by lia)];rfl
 ·rw [is,decide_eq_false (show ¬ ws.length <= 6 by lia),Bool.and_false];rfl
 rw [Fi];cases f:(ws.map Zj).all Z4 with
 | false=>
  refine no ?_;rw [is,f,Bool.false_and,Bool.and_false]
 | true=>
  rw [if_neg (by decide),Ew f];obtain ⟨bs,hb,e,d,l⟩:=K9 f;rw [decide_eq_true (show 1 <= ws.length by lia),decide_eq_true (show ws.length <= 6 by lia),f,e,Yt] at is;have is:ZS (.tuple (bs.map bD)) = chB bs:=is;rw [e] at no h ⊢;walk_at "h";have lb:(bs.map bD).length = bs.length:=List.length_map ..;rw [lb];have l6:bs.length <= 6:=by lia
  have l1:1 <= bs.length:=by lia
  refine ⟨⟨by unfold InR; lia,by unfold InR; lia⟩,λ j Δ M1=>∃ k2 k3:Option DV,Δ = [some (.dat (.list ((bs.map WD).map PyData.str))),some (.dat (.list (bs.map bD))),k2,k3] /\ M1 = M' /\ Nrs bs j,⟨_,_,rfl,rfl,λ i hi=>absurd hi (Nat.not_lt_zero _)⟩,?_,?_⟩
  ·rintro j Δ M1 hj ⟨k2,k3,rfl,rfl,hn⟩;have hj:j + 1 < bs.length:=by lia
   have eb:(bs.map bD)[j + 1]? = some (bD bs[j + 1]):=by rw [List.getElem?_map,List.getElem?_eq_getElem hj]; rfl
   have ea:(bs.map bD)[j]? = some (bD bs[j]):=by rw [List.getElem?_map,List.getElem?_eq_getElem (by lia)]; rfl
   walk_at "rk";refine ⟨by unfold InR; lia,λ i Δ M2=>∃ k3:Option DV,Δ = [some (.dat (.list ((bs.map WD).map PyData.str))),some (.dat (.list (bs.map bD))),some (.dat (.int (1 + j))),k3] /\ M2 = M1 /\ (1 <= i->NrX bs[j] bs[j + 1]) /\ (2 <= i->NrY bs[j] bs[j + 1]),⟨_,rfl,rfl,λ z=>absurd z (by decide),λ z=>absurd z (by decide)⟩,?_,?_⟩
   ·rintro i Δ M2 hi ⟨k3,rfl,rfl,n1,n2⟩;have i1:(1 + (j:Int)) = ((j + 1:Nat):Int):=by lia
    have i2:((j + 1:Nat):Int) - 1 = (j:Int):=by lia
    have bad:¬ (NrX bs[j] bs[j + 1] /\ NrY bs[j] bs[j + 1])->Φ (.dat .none) M2:=λ z=>no (by
     rw [is]
     exact Zg0 (List.getElem?_eq_getElem (by lia)) (List.getElem?_eq_getElem hj) λ y=>z (He.mp y))
    generalize bs[j] = a at *;generalize bs[j + 1] = b at *;rw [i1]
    match i,hi with
    | 0,_=>
     walk_at "rk";rw [i2];refine QJ (Qv eb) ?_;walk_at "rk";refine QJ (Qv ea) ?_;walk_at "rk";refine Zi (λ z=>bad λ y=>y.1.1 z) λ z=>?_;refine QJ (Qv ea) ?_;walk_at "rk";refine QJ (Qv eb) ?_;walk_at "rk";refine Zi (λ z'=>bad λ y=>y.1.2 z') λ z'=>?_;exact ⟨_,rfl,λ _=>⟨z,z'⟩,λ y=>y.elim⟩
    | 1,_=>
     walk_at "rk";rw [i2];refine QJ (Qv eb) ?_;walk_at "rk";refine QJ (Qv ea) ?_;walk_at "rk";refine Zi (λ z=>bad λ y=>y.2.1 z) λ z=>?_;refine QJ (Qv ea) ?_;walk_at "rk";refine QJ (Qv eb) ?_;walk_at "rk";refine Zi (λ z'=>bad λ y=>y.2.2 z') λ z'=>?_;exact ⟨_,rfl,λ _=>n1 (by decide),λ _=>⟨z,z'⟩⟩
   ·rintro Δ M2 ⟨k3,rfl,rfl,n1,n2⟩;refine ⟨_,_,rfl,rfl,λ i hi a b ha hb=>?_⟩
    by_cases z:i < j
    ·exact hn i z a b ha hb
    ·have z:i = j:=by lia
     subst z;rw [List.getElem?_eq_getElem (by lia)] at ha hb;cases ha;cases hb;exact He.mpr ⟨n1 (by decide),n2 (by decide)⟩
  ·rintro Δ M1 ⟨k2,k3,rfl,rfl,hn⟩;rw [Jy (by rw [is]; exact Zbk hn)] at h;subst_vars;walk_at "rk";exact h
theorem HD (T:Tx K mg):Qu P w K mg base CX0 5 T.CH T.BL ["_law_head", "_law_words"] (lift K E9):=by
 refine okD T.G7.F Xa (λ xs M Φ h=>by obtain ⟨_,_,rfl,_⟩:=Qk h; rfl) λ cdv A outer s H E hr=>⟨_,(Ze (ZZ (DW.dt (Ji (Zs Xj (Zk Z8 rfl T.Qo ZP (Za (Zb 1) Zd)) Zc) (Jn (DW.dt (Yi (Zs (H0 hr) (Zo (Zb 1) Zc) Zg) (J9 (Jz (QX (cO T.Yz (XI T) hr (Za (Zo (Zb 1) Zc) Zd)))))))))) (Zh (Zn Qb)) Zt)
 (Ze (Zq 2 Xa.nd (cO T.Vj (VB T) hr (Za (Zo (Zb 1) Zc) Zd)))
 (Ze (Zq 3 Xa.nd (cO T.UH (Eb T) hr (Za (Z5 (Zb 1) (ZN Zc) Z1) Zd)))
 (Ze (ZZ (DW.dt (Ji (Zs KP (Zb 2) Qb) (Ji (Zs Xj (Zb 2) Zc) (Ji (Zs TZ (Zb 2) (Zl JL Zc Zc)) (Jn (Zs KP (Zb 3) Qb)))))) (Zh (Zn Qb)) Zt)
 (Zh (Zn (Zl Fb (Zb 0) (Qh (Za (Zo (Qa (Za (Zo (Zb 1) Zc) (Za Zg Zd))) (ZM MZ rfl T.Lr Uk (Za (Jc (Jh hr) (Zo (Zb 1) Zc) Zg) Zd))) (Za (Zb 3) (Za (Zb 2) Zd))))))))))),λ xs M Φ h=>?_⟩
 replace h:=Qk h;obtain ⟨x1,x2,rfl,h⟩:=h;obtain ⟨a,b,c,ws,rfl,rfl,hw,h⟩:=h;have hw1:=hw.1;have hw2:=hw.2;walk_at "h"
 by_cases z:3 <= ws.length
 case neg=>
  rw [C6 λ y=>z y.1] at h;rw [if_pos (decide_eq_true (by rw [List.length_map]; lia))];exact h
 rw [if_neg (by rw [List.length_map,decide_eq_false (by lia)]; decide)];obtain ⟨o,w1,k,l,rfl⟩:=Zev z;have oo:=ZcN o;have no:((decide (o = Str.ofString "-") || Zx (.str o)) && (ZS (.tuple ((k :: l).map Zj)) && Vp (QI w1))) = false->Φ (.dat .none) M:=λ f=>by
  rw [<- oo.1] at f
  rw [C6 λ y=>by
   have:((isS (Zw o) (Str.ofString "") || Zx (Zw o)) && (ZS (.tuple ((k :: l).map Zj)) && Vp (QI w1))) = true:=y.2;rw [f] at this
   cases this] at h
  exact h
 simp only [List.map_cons];walk_at "rk";rename_i R hR
 suffices rest:(decide (o = Str.ofString "-") || Zx (.str o)) = true->R { nx:=λ _ M'=>Φ (.dat .none) M',rt:=Φ } [some (.dat (.tuple [a,b,c])),some (.dat (.list (.str o :: .str w1 :: .str k :: l.map PyData.str))),none,none] M by
  cases e1:decide (o = Str.ofString "-") with
  | true=>exact rest (by rw [e1]; rfl)
  | false=>
   refine ⟨hw2 o (by simp),?_⟩;cases e2:Zx (.str o) with
   | false=>exact no (by rw [e1,e2]; rfl)
   | true=>exact rest (by rw [e1,e2]; rfl)
 intro ok;have oe:=oo.2 ok;subst hR;walk_at "h";refine ⟨hw2 w1 (by simp),?_⟩;walk_at "h";rw [Zj8];refine ⟨k :: l,rfl,⟨by simp only [List.length_cons] at hw1 ⊢; lia,λ p hp=>hw2 p (List.mem_cons_of_mem _ (List.mem_cons_of_mem _ hp))⟩,?_⟩;walk_at "h"
 rcases J0 w1 with e | ⟨n,e⟩
 ·rw [e] at no ⊢;exact no (by rw [show Vp PyData.none = false from rfl,Bool.and_false,Bool.and_false])
 have ew:Vp (QI w1) = (decide (0 <= n) && decide (n <= 999999999999)):=by
  rw [e];rfl
 rw [e];walk_at "rk";refine Zi (λ z1=>no ?_) λ z1=>⟨Ez _ (by decide),Zi (λ z2=>no ?_) λ z2=>?_⟩
 ·rw [ew,decide_eq_false (show ¬ 0 <= n by lia),Bool.false_and,Bool.and_false,Bool.and_false]
 ·rw [ew,decide_eq_false (show ¬ n <= 999999999999 by lia),Bool.and_false,Bool.and_false,Bool.and_false]
 cases f:ZS (.tuple ((k :: l).map Zj)) with
 | false=>
  have f':ZS (.tuple (Zj k :: l.map Zj)) = false:=f;rw [Vq f'];exact no (by rw [f,Bool.false_and,Bool.and_false])
 | true=>
  have eg:Wf [a,b,c] (o :: w1 :: k :: l) = .tuple [a,b,c,.str (if o = Str.ofString "-" then Str.ofString "" else o),.tuple ((k :: l).map Zj),.int n]:=by
   have y:GU (Jb (o :: w1 :: k :: l)) = true:=by
    show ((isS (Zw o) (Str.ofString "") || Zx (Zw o)) && (ZS (.tuple ((k :: l).map Zj)) && Vp (QI w1))) = true;rw [oo.1,ok,f,ew,decide_eq_true (show 0 <= n by lia),decide_eq_true (show n <= 999999999999 by lia)];rfl
   rw [show Wf [a,b,c] (o :: w1 :: k :: l) = .tuple ([a,b,c] ++ Jb (o :: w1 :: k :: l)) from if_pos ⟨z,y⟩];show PyData.tuple [a,b,c,Zw o,.tuple ((k :: l).map Zj),QI w1] = _;rw [oe,e]
  rw [eg] at h;have f':ZS (.tuple (Zj k :: l.map Zj)) = true:=f;rw [Jy f'];walk_at "rk";subst_vars;walk_at "rk"
  by_cases z3:o = Str.ofString "-"
  ·rw [if_pos z3] at h;rw [decide_eq_true z3];exact h
  ·rw [if_neg z3] at h;rw [decide_eq_false z3];exact h
theorem US (T:Tx K mg):Qu P w K mg base CX0 6 T.XY T.XB ["_law_line"] (lift K Yx):=by
 refine okD T.XF.F Jr (λ xs M Φ h=>by obtain ⟨_,rfl,_⟩:=Zp h; rfl) λ cdv A outer s H E hr=>⟨_,(Ze (Zq 1 Jr.nd (Vf (Zb 0) Zg))
 (Ze (ZZ (DW.dt (Ji (Zs Xj (Zk Z8 rfl T.Qo ZP (Za (Zb 1) Zd)) Zc) (Ji (Zs (OW hr) (Zo (Zb 1) Zc) (Qh (Za Zg (Za Zg (Za Zg (Za Zg Zd)))))) (Jn (Jz (QX (cO T.Yz (XI T) hr (Za (Zo (Zb 1) Zc) Zd)))))))) (Zh (Zn Qb)) Zt)
 (Ze (Zq 2 Jr.nd (cO T.Vj (VB T) hr (Za (Zo (Zb 1) Zc) Zd)))
 (Ze (ZZ (DW.dt (Ji (Zs KP (Zb 2) Qb) (Ji (Zs Xj (Zb 2) Zc) (Jn (Zs Wc (Zb 2) (Zl JL Zc Zc)))))) (Zh (Zn Qb)) Zt)
 (Ze (Zq 3 Jr.nd (Qh (Za (Zo (Zb 1) Zc) (Za (Zb 2) (Za (Zo (Zb 1) Zc) Zd)))))
 (Ze (ZZ (Zs (Jh hr) (Zo (Zb 1) Zc) Zg) (Zh (Zn (cO T.G7 (HD T) hr (Za (Zb 3) (Za (Z5 (Zb 1) (ZN Zc) Z1) Zd))))) Zt)
 (Ze (ZZ (DW.dt (Yi (Zs (Jh hr) (Zo (Zb 1) Zc) Zg) (Yi (Zs (Jh hr) (Zk Z8 rfl T.Qo ZP (Za (Zb 1) Zd)) Zc) (J9 (Zs ZcF (cO T.Vs (Ya T) hr (Za (Zo (Zb 1) Zc) Zd)) Qb))))) (Zh (Zn (Zl Fb (Zb 3) (Qh (Za (cO T.Vs (Ya T) hr (Za (Zo (Zb 1) Zc) Zd)) Zd))))) Zt)
 (Ze (ZZ (DW.dt (Yi (Zs (MB hr) (Zo (Zb 1) Zc) (Qh (Za Zg (Za Zg Zd)))) (J9 (Zs (Jh hr) (Zk Z8 rfl T.Qo ZP (Za (Zb 1) Zd)) Zc)))) (Zh (Zn (Zb 3))) Zt)
 (Zh (Zn Qb)))))))))),λ xs M Φ h=>?_⟩
 replace h:=Zp h;obtain ⟨x1,rfl,h⟩:=h;replace h:=ZI h;obtain ⟨w1,rfl,hl,h⟩:=h;have hw:Ws (Txt.split w1 (Str.ofString " ")):=⟨V3 _ _,Jx (by lia),λ p hp=>Nat.le_trans (JV hp) hl⟩
 have h:Φ (.dat (fit Zu (Jm (Txt.split w1 (Str.ofString " "))))) M:=h;have hw1:=hw.2.1;have hw2:=hw.2.2;walk_at "h";refine ⟨⟨by walk_at "k",by lia⟩,?_⟩;walk_at "h";generalize Txt.split w1 (Str.ofString " ") = ws at h hw1 hw2 ⊢
 by_cases z:3 <= ws.length
 case neg=>
  have e:Jm ws = .none:=by
   match ws,z with
   | [],_=>rfl
   | [_],_=>rfl
   | [_,_],_=>rfl
   | _ :: _ :: _ :: _,z=>exact absurd (by simp) z
  rw [e] at h;rw [if_pos (decide_eq_true (by rw [List.length_map]; lia))];exact h
 rw [if_neg (by rw [List.length_map,decide_eq_false (by lia)]; decide)];obtain ⟨k,a,b,l,rfl⟩:=Zev z;have h:Φ (.dat (fit Zu (ZU k a b l))) M:=h;simp only [List.map_cons];walk_at "rk";refine ⟨[Str.ofString "land",Str.ofString "drop",Str.ofString "free",Str.ofString "spot"],rfl,?_⟩;have ea:(!([Str.ofString "land",Str.ofString "drop",Str.ofString "free",Str.ofString "spot"].any (isS (.str k)))) = !decide (k = Str.ofString "land" \/ k = Str.ofString "drop" \/ k = Str.ofString "free" \/ k = Str.ofString "spot"):=by
  simp only [List.any_cons,List.any_nil,Bool.or_false,Qx,Bool.decide_or]
 rw [ea]
 by_cases hk:k = Str.ofString "land" \/ k = Str.ofString "drop" \/ k = Str.ofString "free" \/ k = Str.ofString "spot"
 case neg=>
  rw [decide_eq_false hk];rw [ZaP (λ y=>hk (.inl y)) (λ y=>hk (.inr (.inr (.inr y)))) λ y=>hk (y.elim (λ y=>.inr (.inl y)) λ y=>.inr (.inr (.inl y)))] at h;exact h
 rw [decide_eq_true hk,if_neg (by decide)];refine ⟨hw2 b (by simp),?_⟩;cases hb:Zx (.str b) with
 | false=>
  rw [Fo (.inl hb)] at h;exact h
 | true=>
  rw [if_neg (by decide)];walk_at "h";refine ⟨hw2 a (by simp),?_⟩;walk_at "h"
  rcases J0 a with e | ⟨t,e⟩
  ·rw [Fo (.inr (by rw [e]; rfl))] at h;rw [e];exact h
  rw [e];walk_at "rk";refine Zi (λ z1=>?_) λ z1=>⟨Ez _ (by decide),Zi (λ z2=>?_) λ z2=>?_⟩
  ·rw [Fo (.inr (by rw [e]; show (decide (0 <= t) && _) = false; rw [decide_eq_false (show ¬ 0 <= t by lia),Bool.false_and]))] at h;exact h
  ·rw [Fo (.inr (by rw [e]; show (_ && decide (t <= 1000000000000)) = false; rw [decide_eq_false (show ¬ t <= 1000000000000 by lia),Bool.and_false]))] at h;exact h
  have ht:Z6 (.int t) = true:=by
   show (decide (0 <= t) && decide (t <= 1000000000000)) = true;rw [decide_eq_true (show 0 <= t by lia),decide_eq_true (show t <= 1000000000000 by lia)];rfl
  walk_at "h";walk_at "h";rename_i R hR
  by_cases kl:k = Str.ofString "land"
  ·rw [decide_eq_true kl,if_pos rfl];subst kl;rw [RL e ht hb] at h;rw [Zj5];exact ⟨_,_,_,l,rfl,rfl,⟨by simp only [List.length_cons] at hw1; lia,λ p hp=>hw2 p (List.mem_cons_of_mem _ (List.mem_cons_of_mem _ (List.mem_cons_of_mem _ hp)))⟩,h⟩
  rw [decide_eq_false kl,if_neg Bool.false_ne_true];subst hR;walk_at "h";rename_i R hR
  suffices rest:(k ≠ Str.ofString "spot" \/ fit Zu (ZU k a b l) = .none)->R { nx:=λ _ M'=>Φ (.dat .none) M',rt:=Φ } [some (.dat (.str w1)),some (.dat (.list (.str k :: .str a :: .str b :: l.map PyData.str))),some (.dat (.int t)),some (.dat (.tuple [.str k,.int t,.str b]))] M by
   simp only [List.length_map]
   by_cases ks:k = Str.ofString "spot"
   ·rw [decide_eq_true ks,if_pos rfl]
    by_cases l1:l.length = 1
    ·rw [if_pos (decide_eq_true (by lia))];obtain ⟨c,rfl⟩:∃ c,l = [c]:=List.length_eq_one_iff.mp l1;subst ks;have h':=h;rw [E4 e ht hb] at h';simp only [List.map_cons,List.map_nil];walk_at "rk";refine ⟨hw2 c (by simp),?_⟩;cases f:ZD (Zm c) with
     | false=>
      rw [Vq f];refine rest (.inr ?_);rw [E4 e ht hb,f];rfl
     | true=>
      rw [f,if_pos rfl] at h';rw [Jy f];obtain ⟨u,v,_,e1,_⟩:=JW f;rw [e1] at h' ⊢;exact ⟨hw2 c (by simp),h'⟩
    ·rw [if_neg (by rw [decide_eq_false (by lia)]; decide)];refine rest (.inr ?_);rw [ks,Nk l1]
   ·rw [decide_eq_false ks,if_neg Bool.false_ne_true];exact rest (.inl ks)
  intro sp;subst hR;walk_at "h";refine ⟨[Str.ofString "drop",Str.ofString "free"],rfl,?_⟩;have ea:[Str.ofString "drop",Str.ofString "free"].any (isS (.str k)) = decide (k = Str.ofString "drop" \/ k = Str.ofString "free"):=by
   simp only [List.any_cons,List.any_nil,Bool.or_false,Qx,Bool.decide_or]
  simp only [ea,List.length_map];have no:fit Zu (ZU k a b l) = .none->Φ (.dat .none) M:=λ f=>by
   rw [f] at h;exact h
  by_cases kd:k = Str.ofString "drop" \/ k = Str.ofString "free"
  ·rw [decide_eq_true kd,if_pos rfl]
   by_cases l0:l.length = 0
   ·rw [OU kd e ht hb,if_pos l0] at h;rw [if_pos (decide_eq_true (by lia))];exact h
   ·rw [if_neg (by rw [decide_eq_false (by lia)]; decide)];subst_vars;walk_at "rk";exact no (by rw [OU kd e ht hb,if_neg l0])
  ·rw [decide_eq_false kd,if_neg Bool.false_ne_true];subst_vars;walk_at "rk";refine no ?_
   rcases sp with sp | sp
   ·exact ZaP kl sp kd
   ·exact sp
theorem ZfN (T:Tx K mg):Qu P w K mg base CX0 7 T.Zie T.ZeY ["_law_text"] (lift K ZfI):=by
 refine okG T.Zh5.F FH (λ xs M Φ h=>by obtain ⟨_,rfl,_⟩:=Zp h; rfl) λ cdv A outer s H E hr=>⟨_,(Ze (Zq 1 FH.nd (KW Zd))
 (Ze (Zd1 (Tr rfl T.Du (Za (Zl L8 (Cc (Zb 0) Zg) (ZM MZ rfl T.Lr Uk (Za (Jc (H0 hr) (Zb 0) Zg) Zd))) Zd)) (BV (n:=2) rfl (QP (ZA 2 FH.nd) (QP (ZA 3 FH.nd) Wn))) (Ze (C4 (KS (Zb 1) (cO T.XF (US T) hr (Za (Zb 3) Zd))))
 (Zh (ZZ (Zs KP (Zo (Zb 1) (Fw Zc)) Qb) (Zh (Zn (Zb 2))) Zt))) PassesOwn.never rfl)
 (Zh (Zn (OJ (Zb 1)))))),λ xs M Φ h=>?_⟩
 replace h:=Zp h;obtain ⟨x1,rfl,h⟩:=h;replace h:=ZI h;obtain ⟨s,rfl,hs,h⟩:=h;have pl:=Jx (x:=s) (y:=Str.ofString "\n") (by have:=hs.1; lia);walk_at "h";intro q hq;walk_at "h";refine ⟨⟨by walk_at "k",by have:=hs.1; lia⟩,λ l hl=>⟨⟨by split <;> decide,by split <;> decide,?_⟩,?_⟩⟩
 ·rw [List.length_map]
  split
  ·exact Nat.le_trans (Nat.le_of_eq (Nat.mul_one _)) (by lia)
  ·exact Nat.zero_le _
 rw [Zc6];have lq:=fresh_ne hl;rw [ZF lq] at hl;have hs2:=hs.2;have ll:(QE s).length <= 4000000:=by
  unfold QE
  split
  ·exact Nat.zero_le _
  ·exact pl
 unfold Zhb at h;generalize QE s = ls at h hs2 ll;generalize Txt.split s (Str.ofString "\n") = sp;refine ⟨λ i Δ M'=>∃ k2 k3:Option DV,Δ = [some (.dat (.str s)),some (.own q),k2,k3] /\ M' q = some (.lst ((ls.take i).map Ja)) /\ (∀ a,a ≠ q->M' a = ZR M l (.lst (sp.map PyData.str)) a) /\ Qe ((ls.take i).map Ja) = none,⟨_,_,rfl,?_,?_,rfl⟩,?_,?_⟩
 ·rw [ZF (Ne.symm lq),ZK];rfl
 ·intro a ha
  by_cases e:a = l
  ·rw [e,ZK,ZK]
  ·rw [ZF e,ZF ha,ZF e]
 ·rintro i d Δ M' hd ⟨k2,k3,rfl,h1,h2,h3⟩;obtain ⟨p,ep,rfl⟩:=RS hd;have len:((ls.take i).map Ja).length = i:=by
   rw [List.length_map,List.length_take];have:=(List.getElem?_eq_some_iff.mp ep).1;lia
  have i0:=(List.getElem?_eq_some_iff.mp ep).1;have sn:=Uv (d:=Ja p) h3;rw [len] at sn;have ap:(ls.take i).map Ja ++ [Ja p] = (ls.take (i + 1)).map Ja:=take_snoc _ ep;walk_at "rk";rw [h1];walk_at "rk";refine ⟨hs2 p (List.mem_of_getElem? ep),by lia,?_⟩;have en:isNone (Ja p) = (Ja p).eqv PyData.none:=by
   rcases E8 p with ⟨t,e⟩ | e
   ·rw [e];simp [isNone,PyData.eqv]
   ·rw [e];simp [isNone,PyData.eqv]
  rw [en];cases c:(Ja p).eqv PyData.none with
  | true=>
   rw [c,if_pos rfl] at sn;have f:Qe (ls.map Ja) = some i:=by
    have e:ls.map Ja = (ls.take (i + 1)).map Ja ++ (ls.drop (i + 1)).map Ja:=by rw [<- List.map_append,List.take_append_drop]
    rw [e,<- ap];exact BB sn
   rw [f] at h
   exact ⟨[q,l],by
    show Φ _ (YI (YI (ZR M' q _) q) l);rw [EU hq hl λ a ha=>by rw [ZF ha]; exact h2 a ha]
    exact h⟩
  | false=>
   rw [c,if_neg Bool.false_ne_true] at sn;rw [if_neg Bool.false_ne_true];refine ⟨_,_,rfl,by rw [ap],λ a ha=>?_,by rw [<- ap]; exact sn⟩;rw [ZF ha];exact h2 a ha
 ·rintro Δ M' ⟨k2,k3,rfl,h1,h2,h3⟩;rw [Ta,List.take_length] at h1 h3;rw [h3] at h;subst_vars;walk_at "rk";rw [h1];walk_at "rk"
  exact ⟨[l],by
   show Φ _ (YI (YI M' q) l);rw [EU hq hl h2]
   exact h⟩
theorem Eo (T:Tx K mg):Qu P w K mg base CX0 1 T.Zbo T.Zbi ["_law_found", "_law_due_here"] (lift K ZaZ):=by
 refine okD T.ET.F ZcM (λ xs M Φ h=>by obtain ⟨_,_,rfl,_⟩:=Qk h; rfl) λ cdv A outer s H E hr=>⟨_,(Zh (Zn (Qs (Jc (Zf1 hr) (Zb 0) (Zb 1)) (QR (Jc (YU hr) (Zk (TR hr) rfl T.Za0 Nz (Za (Zb 0) Zd)) (Zk (Zck hr) rfl T.Za0 Nz (Za (Zb 1) Zd))))))),λ xs M Φ h=>?_⟩;replace h:=Qk h;obtain ⟨x1,x2,rfl,h⟩:=h;obtain ⟨d,hx,rfl,⟨h1,h2,h3⟩,h⟩:=h
 rcases hx with rfl | ⟨q,ds,rfl,hq,rfl⟩
 ·walk_at "rk";rw [h2,if_pos rfl];refine ⟨h1,h3,h3,?_⟩;rw [show isS (PyData.str d.shown) d.shown = true from decide_eq_true rfl];exact h
 ·have h2:PyData.eqvAll ds ds = true:=h2;walk_at "rk";rw [hq];walk_at "rk";rw [h2,if_pos rfl];refine ⟨h1,h3,h3,?_⟩;rw [show isS (PyData.str (PyData.list ds).shown) (PyData.list ds).shown = true from decide_eq_true rfl];exact h
theorem J6 (T:Tx K mg):Qu P w K mg base CX0 9 T.XG T.Xu ["_law_thing", "_law_due_here"] (lift K M0):=by
 refine okD T.JR.F Ju (λ xs M Φ h=>by obtain ⟨_,_,rfl,_⟩:=Qk h; rfl) λ cdv A outer s H E hr=>⟨_,(Ze (Zq 2 Ju.nd Qb)
 (Ze (Zq 3 Ju.nd Qb)
 (Ze (ZbP 3 2 4 (ok:=λ cls=>cls.1 = .ref T.Qi) (X2 T) (hr.mono (by walk_at "w")) rfl T.QV.m T.QV.F.kp T.QV.b (λ E=>(Za (Zb 0) Zd)) ⟨_,_,_,rfl,rfl,rfl⟩ rfl T.CW (λ cls h=>⟨_,h,T.YN⟩) Ju.nd)
 (Ze (ZZ (QX (Zk (YW (Tu _)) rfl T.ZQ ZL (Za (Zb 1) (Za (WH rfl T.Zfh Zcu) Zd)))) (Zh (Zn (Qs (Jc KP (Zb 2) Qb) (QR (cO T.ET (Eo T) hr (Za (Zb 3) (Za (Zb 1) Zd))))))) Zt)
 (Ze (ZZ (QX (Tt rfl T.ZQ ZL (Zb 2) (JY rfl T.Zd7 (JY rfl T.SG (JY rfl T.R1 (JY rfl T.Zeo (JY rfl T.Nu (JY rfl T.Eu (JY rfl T.S2 (JY rfl T.Rl (JY rfl T.L9 (JY rfl T.OT Zgy)))))))))) (by simp))) (Zh (Zn UZ)) Zt)
 (Zh (Zn (Qs (Zk N6 rfl T.ZQ ZL (Za (Zb 2) (Za (Zif rfl T.Ki) Zd))) (Qs (Zk N6 rfl T.ZQ ZL (Za (Zb 2) (Za (WH rfl T.Cz Gd) Zd))) (QR (cO T.ET (Eo T) hr (Za (Nd (Zb 2)) (Za (Zb 1) Zd))))))))))))),λ xs M Φ h=>?_⟩
 replace h:=Qk h;obtain ⟨x1,x2,rfl,h⟩:=h;replace h:=ZY h;obtain ⟨q,rfl,h⟩:=h;replace h:=ZY h;obtain ⟨d,rfl,⟨hs,hl,rfl⟩,p,hP,h⟩:=h;obtain ⟨sm1,sm2,sm3⟩:=Py hl;walk_at "h";walk_at "h";walk_at "h";obtain ⟨ns,i0,b0,hi0,hp⟩:=hP.get;refine ⟨p,_,hp,λ G=>?_⟩;unfold UJ;walk_at "rk";have agree:∀ {M2:Mp},(∀ a,ZR M p G a ≠ none->M2 a = ZR M p G a)->∀ a,M a ≠ none->ZR M2 p (.lst [.list (ns.map PyData.int),.int i0,.int b0]) a = M a:=λ {M2} k a ha=>by
  by_cases e:a = p
  ·rw [e,ZK,hp]
  ·rw [ZF e,k a (by rw [ZF e]; exact ha),ZF e]
 refine ⟨hs,λ f=>?_,λ j f dx M2 h1 h2 h3=>⟨?_,λ a ha hap=>?_⟩⟩
 ·have ed:GL q = .list (okL q):=by
   unfold GL;rw [f]
  rw [ed] at sm1 sm2 sm3 ⊢;subst_vars;walk_at "h"
  refine ⟨_,.inl rfl,rfl,⟨sm1,sm2,sm3⟩,h _ λ a _=>by
   by_cases e:a = p
   ·rw [e,ZK,hp]
   ·rw [ZF e]⟩
 ·rw [h3 p (by rw [ZK]; exact Option.some_ne_none _),ZK]
 ·have ed:GL q = .int j:=by
   unfold GL;rw [f]
  have pd:p ≠ dx:=λ e=>by
   rw [<- e,ZK] at h1;cases h1
  have ad:a ≠ dx:=λ e=>by
   rw [e,h2] at ha;cases ha
  rw [ed] at sm1 sm2 sm3 ⊢;have fin:∀ b,M b ≠ none->ZR (ZR M2 p (.lst [.list (ns.map PyData.int),.int i0,.int b0])) a (.ext (QK a (.ref T.Qi,some dx))) b = M b:=λ b hb=>by
   have e:=agree h3 b hb
   by_cases z:b = a
   ·have n1:b ≠ p:=λ y=>hap (by rw [<- z,y]);rw [ZF n1,z,ha] at e;rw [z] at hb;exact absurd e.symm hb
   ·rw [ZF z];exact e
  subst_vars;walk_at "h";have l0:ZR (ZR M2 p (.lst [.list (ns.map PyData.int),.int i0,.int b0])) a (.ext (QK a (.ref T.Qi,some dx))) dx = some (.ext (V4 dx j)):=by
   rw [ZF (Ne.symm ad),ZF (Ne.symm pd)];exact h2
  have lm:LnM (ZR (ZR M2 p (.lst [.list (ns.map PyData.int),.int i0,.int b0])) a (.ext (QK a (.ref T.Qi,some dx)))) (some dx):=λ d e=>by
   cases e;exact ⟨_,l0⟩
  walk_at "h";refine ⟨_,_,rfl,lm,T.YV.ex,_,T.q4,?_⟩;subst_vars;walk_at "rk";refine ⟨_,_,rfl,lm,T.YV.ex,_,_,rfl,T.q1,?_⟩;walk_at "rk";refine ⟨_,_,rfl,lm,T.YV.ex,_,_,rfl,T.q2,?_⟩;walk_at "rk";exact ⟨_,_,_,T.YV,rfl,l0,_,.inl rfl,rfl,⟨sm1,sm2,sm3⟩,h _ fin⟩
theorem ZdU (T:Tx K mg):Qu P w K mg base CX0 5 T.Zad T.Zaz ["_law_pen", "_law_world_here", "_law_most"] (lift K ZaB):=by
 refine okD T.ZaR.F Zdb (λ xs M Φ h=>by obtain ⟨_,_,_,rfl,_⟩:=YL h; rfl) λ cdv A outer s H E hr=>⟨_,(Zh (Zn (Qr false (ZC (sc:=Zf FW) (XN:=["_law_pen", "_law_world_here", "_law_most"]) (N:=["_law_k", "_law_pen", "_law_world_here"]) (ix:=[none,some 0,some 1]) rfl rfl (by walk_at "k")) (JA rfl T.QY (Za (cO T.ZH (Zy T) hr (Za (Zb 0) (Za (Zl ZJ (Zb 2) Zc) Zd))) Zd)) (λ C ex s H=>(ZA 0 (show List.Nodup (["_law_k", "_law_pen", "_law_world_here"]:List Str) by walk_at "k"))) (λ C ex s H=>Z7) (λ C ex s H=>(cO T.CJ (Hq T) hr (Za (Zb 1) (Za (Zb 2) Zd)))) rfl))),λ xs M Φ h=>?_⟩;replace h:=YL h;obtain ⟨x1,x2,x3,rfl,h⟩:=h;replace h:=Qw h;obtain ⟨p,rfl,h⟩:=h;replace h:=Qw h;obtain ⟨q,rfl,h⟩:=h;replace h:=ZX h;obtain ⟨m,rfl,rfl,hw,hne,hp,h⟩:=h;walk_at "rk";refine ⟨hp,λ r M1 r0 r1 f1=>⟨⟨by lia,by lia⟩,by rw [Qd]; lia,λ i acc M'=>∃ ts:List Tl,acc = ts.map tlD /\ ts.length = i /\ (∀ t ∈ ts,TlG t) /\ Fr p M M',⟨[],rfl,rfl,λ t ht=>(nomatch ht),f1⟩,?_,?_⟩⟩
 ·rintro i d acc M' hd ⟨ts,rfl,hl,ht,hF⟩;refine ⟨hw.fr hF hne,hne,hF.1,λ D M2 hD f2=>?_⟩;obtain ⟨x,hx,e⟩:=ZdC hD;refine ⟨ts ++ [x],by rw [List.map_append,e]; rfl,by rw [List.length_append,hl]; rfl,λ t m=>?_,hF.trans f2⟩
  rcases List.mem_append.mp m with m | m
  ·exact ht t m
  ·rw [List.mem_singleton.mp m];exact hx
 ·rintro acc M' ⟨ts,rfl,hl,ht,hF⟩;rw [Qd] at hl;exact h ts _ (by lia) ht hF
theorem Ec (T:Tx K mg):Qu P w K mg base CX0 2 T.Ux T.WZ ["_law_pen", "_law_word"] (lift K Zhq):=by
 refine okD T.WS.F Q1 (λ xs M Φ h=>by obtain ⟨_,_,rfl,_⟩:=Qk h; rfl) λ cdv A outer s H E hr=>⟨_,(Ze (Zq 2 Q1.nd (ZM Xe rfl T.Bp XE (Za (Zl JL Zc Zc) Zd)))
 (Ze (Zq 3 Q1.nd (Qa (Za Zg (Za Zg (Za Zg (Za Zg (Za Zg (Za Zg (Za Zg (Za (Zb 2) (Za (Zl Qc Zg (Zb 2)) (Za (Zl Zc0 Zg Zc) (Za (Zl Qc Zg (Zb 2)) (Za Zg (Za Zg (Za Zg (Za Zg Zd)))))))))))))))))
 (Ze (Zq 3 Q1.nd (Zl Qq (Zb 3) (Qa (Za Zg (Za Zg (Za Zg (Za Zg (Za Zg (Za Zg (Za Zg (Za (Zl Qc (Zb 2) Zg) (Za Zg (Za Zg (Za Zg Zd))))))))))))))
 (Ze (Zq 3 Q1.nd (Zl Qq (Zb 3) (Qa (Za Zg (Za Zg (Za Zg (Za Zg (Za (Zl Qc (Zb 1) Zg) (Za (Zl Qc Zg (Zb 1)) (Za (Zl Qc (Zb 1) Zg) (Za (Zl Qc Zg (Zb 1)) Zd)))))))))))
 (Ze (Zq 3 Q1.nd (Zl Qq (Zb 3) (Qa (Za (MM (Zb 1)) (Za (Zl Qc (Zb 1) Zg) (Za (Zl Qc Zg (Zb 1)) (Za (Zl Qc (Zl Qc (Zb 1) Zg) (Zb 1)) (Za (Zl Qc (Zb 1) Zg) (Za Zg (Za Zg (Za Zg (Za Zg (Za (QO (Zb 1) (ZN Zc) Z1) Zd)))))))))))))
 (Zh (Zn (Zo (Zb 3) (cO T.ZH (Zy T) hr (Za (Zb 0) (Za (Zk Z8 rfl T.Qo ZP (Za (Zb 3) Zd)) Zd))))))))))),λ xs M Φ h=>?_⟩
 replace h:=Qk h;obtain ⟨x1,x2,rfl,h⟩:=h;replace h:=Qw h;obtain ⟨p,rfl,h⟩:=h;replace h:=ZI h;obtain ⟨s,rfl,⟨hs,ht⟩,hP,h⟩:=h;walk_at "h";have hf:Tk 13 0 (Str.ofString (toString (1000000000000:Int))):=Zj7 (by walk_at "k") (by walk_at "k");have li:∀ {w:Str},tkB w = true->Tk (2 * s.length + 70) 0 w:=λ z=>(Zan z).le (by lia) (Nat.le_refl _);have l3:(Tk 3 0 (Str.ofString "1") /\ Tk 3 0 (Str.ofString "-") /\ Tk 3 0 (Str.ofString ",1") /\ Tk 3 0 (Str.ofString "0")) /\ Tk 3 0 (Str.ofString ",") /\ Tk 3 0 (Str.ofString " ") /\ Tk 3 0 (Str.ofString "z"):=by
  refine ⟨⟨?_,?_,?_,?_⟩,?_,?_,?_⟩ <;> exact Zj7 (by walk_at "k") (by walk_at "k")
 obtain ⟨⟨a1,a2,a3,a4⟩,a5,a6,a7⟩:=l3;have b1:=a1.len;have b2:=a2.len;have b3:=a3.len;have b4:=a4.len;have b5:=a5.len;have b6:=a6.len;have b7:=a7.len;refine ⟨Ez _ (by decide),by decide,?_⟩;generalize Str.ofString (toString (1000000000000:Int)) = far at hf ⊢;walk_at "h";rename_i R hR
 suffices rest:∀ ds:List PyData,ds.length = 15->StL (Tk (2 * s.length + 70) 0) ds->R { nx:=λ _ M'=>Φ (.dat .none) M',rt:=Φ } [some (.own p),some (.dat (.str s)),some (.dat (.str far)),some (.dat (.list ds))] M by
  have bf:=hf.len;refine ⟨by lia,by walk_at "k",by lia,rest _ rfl ?_⟩;refine .cons (li ?_) (.cons (li ?_) (.cons (li ?_) (.cons (li ?_) (.cons (li ?_) (.cons (li ?_) (.cons (li ?_) (.cons (hf.le (by lia) (Nat.le_refl _)) (.cons ((a1.add hf).le (by lia) (Nat.le_refl _)) (.cons (li ?_) (.cons ((a2.add hf).le (by lia) (Nat.le_refl _)) (.cons (li ?_) (.cons (li ?_) (.cons (li ?_) (.cons (li ?_) .nil)))))))))))))) <;> decide +kernel
 intro ds l1 h1;subst hR;walk_at "h";rename_i R hR
 suffices rest:∀ ds:List PyData,ds.length = 26->StL (Tk (2 * s.length + 70) 0) ds->R { nx:=λ _ M'=>Φ (.dat .none) M',rt:=Φ } [some (.own p),some (.dat (.str s)),some (.dat (.str far)),some (.dat (.list ds))] M by
  have bf:=hf.len;refine ⟨by lia,by lia,rest _ (by rw [List.length_append,l1]; rfl) (h1.app ?_)⟩;refine .cons (li ?_) (.cons (li ?_) (.cons (li ?_) (.cons (li ?_) (.cons (li ?_) (.cons (li ?_) (.cons (li ?_) (.cons ((hf.add a3).le (by lia) (Nat.le_refl _)) (.cons (li ?_) (.cons (li ?_) (.cons (li ?_) .nil)))))))))) <;> decide +kernel
 clear ds l1 h1;intro ds l1 h1;subst hR;walk_at "h";rename_i R hR
 suffices rest:∀ ds:List PyData,ds.length = 34->StL (Tk (2 * s.length + 70) 0) ds->R { nx:=λ _ M'=>Φ (.dat .none) M',rt:=Φ } [some (.own p),some (.dat (.str s)),some (.dat (.str far)),some (.dat (.list ds))] M by
  refine ⟨by lia,by lia,by lia,by lia,by lia,rest _ (by rw [List.length_append,l1]; rfl) (h1.app ?_)⟩;refine .cons (li ?_) (.cons (li ?_) (.cons (li ?_) (.cons (li ?_) (.cons ((ht.add a4).le (by lia) (Nat.le_refl _)) (.cons ((a4.add ht).le (by lia) (Nat.le_refl _)) (.cons ((ht.add a5).le (by lia) (Nat.le_refl _)) (.cons ((a2.add ht).le (by lia) (Nat.le_refl _)) .nil))))))) <;> decide +kernel
 clear ds l1 h1;intro ds l1 h1;subst hR;walk_at "h";rename_i R hR
 suffices rest:∀ ds:List PyData,ds.length = 44->StL (Tk (2 * s.length + 70) 0) ds->R { nx:=λ _ M'=>Φ (.dat .none) M',rt:=Φ } [some (.own p),some (.dat (.str s)),some (.dat (.str far)),some (.dat (.list ds))] M by
  refine ⟨by lia,by lia,by lia,by lia,by rw [Str.length_append]; lia,by lia,by lia,by lia,rest _ (by rw [List.length_append,l1]; rfl) (h1.app ?_)⟩;refine .cons (ht.up.le (by lia) (Nat.le_refl _)) (.cons ((ht.add a6).le (by lia) (Nat.le_refl _)) (.cons ((a6.add ht).le (by lia) (Nat.le_refl _)) (.cons (((ht.add a6).add ht).le (by lia) (Nat.le_refl _)) (.cons ((ht.add a7).le (by lia) (Nat.le_refl _)) (.cons (li ?_) (.cons (li ?_) (.cons (li ?_) (.cons (li ?_) (.cons ((ht.cut _ _).le (by lia) (Nat.le_refl _)) .nil))))))))) <;> decide +kernel
 clear ds l1 h1;intro ds l1 h1;subst hR;walk_at "rk";exact ⟨⟨by lia,by lia⟩,hP,λ r M1 r0 r1 f1=>h1.at r0 r1 λ w hw=>h w M1 hw f1⟩
theorem Bo (T:Tx K mg):Qu P w K mg base CX0 3 T.Fj T.Ff ["_law_pen", "_law_text"] (lift K FA):=by
 refine okD T.Gz.F Qn (λ xs M Φ h=>by obtain ⟨_,_,rfl,_⟩:=Qk h; rfl) λ cdv A outer s H E hr=>⟨_,(Ze (Zq 2 Qn.nd (Vf (Zb 1) Zg))
 (Ze (Zq 3 Qn.nd (cO T.ZH (Zy T) hr (Za (Zb 0) (Za (Zk Z8 rfl T.Qo ZP (Za (Zb 2) Zd)) Zd))))
 (Ze (Zq 4 Qn.nd (cO T.ZH (Zy T) hr (Za (Zb 0) (Za (Zk Z8 rfl T.Qo ZP (Za (Zb 2) Zd)) Zd))))
 (Ze (Zq 5 Qn.nd (Cc (Zo (Zb 2) (Zb 3)) Zg))
 (Ze (Zq 6 Qn.nd (cO T.ZH (Zy T) hr (Za (Zb 0) (Za (Zk Z8 rfl T.Qo ZP (Za (Zb 5) Zd)) Zd))))
 (Ze (Zq 7 Qn.nd (cO T.ZH (Zy T) hr (Za (Zb 0) (Za (Zl ZJ (Zk YG rfl T.Qo ZP (Za (Zb 1) Zd)) Zc) Zd))))
 (Ze (Zq 8 Qn.nd (Zl Qc Zg Zg))
 (Ze (Zq 8 Qn.nd (Fe (Zb 8) (cO T.ZH (Zy T) hr (Za (Zb 0) (Za (Zk YG rfl T.Qo ZP (Za (Zb 8) Zd)) Zd)))))
 (Ze (Zq 9 Qn.nd (cO T.ZH (Zy T) hr (Za (Zb 0) (Za Zc Zd))))
 (Ze (ZZ (Zs Xj (Zb 9) Zc) (Zh (Zn (Zl Qc (Zl Qc (QO (Zb 1) Z1 (ZN (Zb 7))) (Zo (Qa (Za (Zb 8) (Za Zg (Za (Zb 8) Zd)))) (Zb 9))) (QO (Zb 1) (ZN (Zl ZJ (Zb 7) (ZM MZ rfl T.Lr Uk (Za (Jc Wc (Zb 9) Zc) Zd)))) Z1)))) Zt)
 (Ze (ZZ (Zs Xj (Zb 9) Zc) (Ze (Wm (cO T.WS (Ec T) hr (Za (Zb 0) (Za (Zo (Zb 5) (Zb 6)) Zd))) (Fd (Zb 5) (Zb 6)))
 (Zh (Zn (QU Zg (Zl Qq (Zl Qq (Z5 (Zb 2) Z1 (ZN (Zb 3))) (Qa (Za (QU Zg (Zb 5)) Zd))) (Z5 (Zb 2) (ZN (Zl ZJ (Zb 3) Zc)) Z1)))))) Zt)
 (Ze (ZZ (Zs (Jh hr) (Zb 9) Zc) (Ze (Zq 5 Qn.nd (Zl Qq (Z5 (Zb 5) Z1 (ZN (Zb 6))) (Z5 (Zb 5) (ZN (Zl ZJ (Zb 6) Zc)) Z1)))
 (Zh (Zn (QU Zg (Zl Qq (Zl Qq (Z5 (Zb 2) Z1 (ZN (Zb 3))) (Qa (Za (QU Zg (Zb 5)) Zd))) (Z5 (Zb 2) (ZN (Zl ZJ (Zb 3) Zc)) Z1)))))) Zt)
 (Ze (ZZ (Zs (Jh hr) (Zb 9) Zc) (Ze (Zq 5 Qn.nd (Zl Qq (Zb 5) (Zl L8 (Oo (Zb 5) (ZN (Fw Zc)) Z1) (Zl ZJ Zc (cO T.ZH (Zy T) hr (Za (Zb 0) (Za Zc Zd)))))))
 (Zh (Zn (QU Zg (Zl Qq (Zl Qq (Z5 (Zb 2) Z1 (ZN (Zb 3))) (Qa (Za (QU Zg (Zb 5)) Zd))) (Z5 (Zb 2) (ZN (Zl ZJ (Zb 3) Zc)) Z1)))))) Zt)
 (Ze (ZZ (Zs (Jh hr) (Zb 9) Zc) (Zh (Zn (Zo (Qa (Za (Zl Qc (Zb 1) Zg) (Za (Zl Qc Zg (Zb 1)) (Za (Zl Qc (Zb 1) Zg) (Za (Zl Qc Zg (Zb 1)) (Za (Zl Qc (Zb 1) Zg) Zd)))))) (cO T.ZH (Zy T) hr (Za (Zb 0) (Za Zc Zd)))))) Zt)
 (Ze (ZZ (Zs (Jh hr) (Zb 9) Zc) (Zh (Zn (QU Zg (Zl Qq (Zl Qq (Z5 (Zb 2) Z1 (ZN (Zb 3))) (Z5 (Zb 2) (ZN (Zb 4)) (ZN (Zl ZJ (Zb 4) Zc)))) (Z5 (Zb 2) (ZN (Zb 3)) Z1))))) Zt)
 (Zh (Zn (QU Zg (Zl Qq (Zl Qq (Z5 (Zb 2) Z1 (ZN (Zb 3))) (Qa (Za (Zo (Qa (Za Zg (Za Zg (Za Zg (Za Zg (Za Zg Zd)))))) (Zl JS (Zb 6) Zc)) Zd))) (Z5 (Zb 2) (ZN (Zb 3)) Z1)))))))))))))))))))),λ xs M Φ h=>?_⟩
 replace h:=Qk h;obtain ⟨x1,x2,rfl,h⟩:=h;replace h:=Qw h;obtain ⟨p,rfl,h⟩:=h;replace h:=ZI h;obtain ⟨s,rfl,⟨hs,ha⟩,hP,h⟩:=h;have ht:Tk s.length (s.cps.toList.count 10) s:=⟨Nat.le_refl _,ha,Nat.le_refl _⟩
 have hl:=ht.lines;have n0:=V3 s (Str.ofString "\n");generalize s.cps.toList.count 10 = n at h ht hl;walk_at "h";refine ⟨⟨by walk_at "k",by lia⟩,?_⟩;generalize Txt.split s (Str.ofString "\n") = ls at hl n0 ⊢;have l0:0 < (ls.map PyData.str).length:=by rw [List.length_map]; exact List.length_pos_iff.mpr n0
 have lm:(ls.map PyData.str).length = ls.length:=List.length_map _;have l1:=hl.w;have l2:=Ym ls;walk_at "h";refine ⟨⟨by lia,by lia⟩,hP,λ r M1 r0 r1 f1=>?_⟩;walk_at "h";refine ⟨⟨by lia,by lia⟩,f1.1,λ o M2 o0 o1 f2=>?_⟩;walk_at "h";refine tabS (l:=ls) (Tk (s.length + 1) 0) r0 (by lia) hl.t λ z hz=>?_;have zl:=hz.len;walk_at "rk";refine ⟨⟨by walk_at "k",by lia⟩,λ q hq=>?_⟩;have hw:=hz.words;have w0:=V3 z (Str.ofString " ");generalize Txt.split z (Str.ofString " ") = ws at hw w0 ⊢;have f12:=f1.trans f2;have qp:q ≠ p:=Ne.symm (f12.1.ne hq);have F3:=f12.new (o:=.lst (ws.map PyData.str)) (f12.fresh hq) qp;have Q3:ZR M2 q (.lst (ws.map PyData.str)) q = some (.lst (ws.map PyData.str)):=ZK;generalize ZR M2 q (.lst (ws.map PyData.str)) = M3 at F3 Q3 ⊢;have v0:0 < (ws.map PyData.str).length:=by rw [List.length_map]; exact List.length_pos_iff.mpr w0
 have vm:(ws.map PyData.str).length = ws.length:=List.length_map _;have v1:=hw.w;have v2:=Ym ws;walk_at "h";rw [Q3];walk_at "rk";refine ⟨⟨by lia,by lia⟩,F3.1,λ pl M4 e0 e1 f4=>?_⟩;have Q4:=f4.own Q3 qp;walk_at "h";refine ⟨by lia,⟨by lia,by lia⟩,f4.1,λ sp M5 g0 g1 f5=>?_⟩;have Q5:=f5.own Q4 qp;walk_at "h";have hsg:Tk 61 1 (Str.ofString " -0123456789,.adeflnoprst" ++ Str.ofString "\n"):=⟨by walk_at "k",by walk_at "k",by walk_at "k"⟩
 have sg0:0 < (Str.ofString " -0123456789,.adeflnoprst" ++ Str.ofString "\n").length:=by walk_at "k"
 refine ⟨by walk_at "k",?_⟩;generalize Str.ofString " -0123456789,.adeflnoprst" ++ Str.ofString "\n" = sg at hsg sg0 ⊢;have sg1l:=hsg.len;walk_at "h";refine ⟨by lia,⟨by lia,by lia⟩,f5.1,λ ii M6 i0 i1 f6=>⟨by lia,?_⟩⟩;obtain ⟨c,ec,hc⟩:=Zi2 hsg.asc i0 i1;refine ⟨c,ec,?_⟩;generalize (⟨#[c]⟩:Str) = sn at hc ⊢;have Q6:=f6.own Q5 qp;have F6:=((F3.trans f4).trans f5).trans f6;walk_at "h";refine ⟨F6.1,λ wy M7 y0 y1 f7=>?_⟩;have Q7:=f7.own Q6 qp;have F7:=F6.trans f7;walk_at "h";refine Zi (λ hy=>?_) λ hy=>?_
 ·refine ⟨by lia,?_⟩;have st:StL (Tk 1 1) [.str sn,.str (Str.ofString ""),.str sn]:=.cons hc (.cons ((Zj7 (n:=1) (by walk_at "k") (by walk_at "k")).le (Nat.le_refl _) (by decide)) (.cons hc .nil));refine st.at y0 (by simp only [List.length_cons,List.length_nil]; lia) λ t hx=>?_;walk_at "rk";have c1:=ht.cut none (some sp);have c2:=ht.cut (some (sp + if decide (0 < wy) = true then 1 else 0)) none;have c3:=c1.add hx;have q1:=c1.len;have q2:=c2.len;have q3:=c3.len;have q4:=hx.len;exact ⟨by lia,by lia,by lia,h _ _ ((c3.add c2).le (by lia) (by lia)) F7⟩
 walk_at "h";refine Zi (λ hy=>?_) λ hy=>?_
 ·rw [Q7,Yu];refine tabS (l:=ws) (Tk (s.length + 1 + 1) 0) e0 (by lia) hw.t λ w hw'=>?_;have q1:=hw'.len;walk_at "rk";refine ⟨⟨by lia,Nat.le_refl _,hw'.asc,hw'.nl⟩,F7.1,λ s' M8 ho f8=>?_⟩;rw [f8.own Q7 qp,Yu];obtain ⟨j,rfl⟩:=Int.eq_ofNat_of_zero_le e0;have hj:j < (ws.map PyData.str).length:=by lia
  have tw:=hw.set ho j;obtain ⟨j1,j2⟩:=tw.words (by lia);obtain ⟨g1,g2,ss,g3,g4,g5⟩:=three hl (Tls.one j2) (by lia) none (some r) (some (r + 1)) none;refine ⟨j,Zb9 hj,ws.set j s',by rw [List.map_set],j1,g1,g2,ss,g3,g4,?_⟩;have F8:=F7.trans f8
  exact h _ _ (g5.le (by lia) (by lia)) ⟨F8.1.put (Ne.symm qp),λ a ha hn=>by
   have na:a ≠ q:=λ e=>hn (by rw [e]; exact f12.fresh hq);rw [ZF na]
   exact F8.2 a ha hn⟩
 walk_at "h";refine Zi (λ hy=>?_) λ hy=>?_
 ·rw [Q7,Yu,Yu];obtain ⟨xa,ea,sa⟩:=Xq ws none (some pl);obtain ⟨xb,eb,sb⟩:=Xq ws (some (pl + 1)) none;have tw:=(hw.sub sa).app (hw.sub sb);obtain ⟨j1,j2⟩:=tw.words (by lia);have q1:=Ym (xa ++ xb);have q2:=tw.w;obtain ⟨g1,g2,ss,g3,g4,g5⟩:=three hl (Tls.one j2) (by lia) none (some r) (some (r + 1)) none;rw [ea,eb];refine ⟨by rw [List.length_map,List.length_map,<- List.length_append]; lia,xa ++ xb,by rw [List.map_append],j1,g1,g2,ss,g3,g4,h _ _ (g5.le (by lia) (by lia)) F7⟩
 walk_at "h";refine Zi (λ hy=>?_) λ hy=>?_
 ·rw [Q7,Yu];intro x hx;have xp:x ≠ p:=Ne.symm (F7.1.ne hx);have xq:q ≠ x:=λ e=>by rw [<- e,Q7] at hx; cases hx
  refine ⟨F7.1.put (Ne.symm xp),λ k M8 k0 k1 f8=>?_⟩;have X8:=f8.own (q:=x) ZK xp;have Q8:=f8.own (q:=q) (by rw [ZF xq]; exact Q7) qp;rw [X8,Q8,Yu,Yu];obtain ⟨xa,ea,sa⟩:=Xq ws (some (-1)) none;have ta:=hw.sub sa;have tr:=ta.rep (n:=(1 + k).toNat) (by lia);have tw:=hw.app tr;obtain ⟨j1,j2⟩:=tw.words (by lia);have q1:=Ym (ws ++ (List.replicate (1 + k).toNat xa).flatten);have q2:=tw.w;have q3:=Ym (List.replicate (1 + k).toNat xa).flatten;have q4:=tr.w;have q5:xa.length * (1 + k).toNat <= 16777216:=by
   have u1:=Ym xa;have u2:=ta.w;exact Nat.le_trans (Nat.mul_le_mul (Nat.le_trans u1 u2) (show (1 + k).toNat <= 6 by lia)) (by lia)
  obtain ⟨g1,g2,ss,g3,g4,g5⟩:=three hl (Tls.one j2) (by lia) none (some r) (some (r + 1)) none;rw [ea,ZcH];refine ⟨⟨by lia,by lia,by rw [List.length_map]; exact q5⟩,by rw [List.length_map,List.length_map,<- List.length_append]; lia,ws ++ (List.replicate (1 + k).toNat xa).flatten,by rw [List.map_append],j1,g1,g2,ss,g3,g4,h _ _ (g5.le (by lia) (by lia)) ((F7.new (F7.fresh hx) xp).trans f8)⟩
 walk_at "h";refine Zi (λ hy=>?_) λ hy=>?_
 ·have nn:Tk 2 2 (Str.ofString "\n") /\ Tk 2 2 (Str.ofString " ") /\ Tk 2 2 (Str.ofString "\n\n"):=by
   refine ⟨⟨?_,?_,?_⟩,⟨?_,?_,?_⟩,⟨?_,?_,?_⟩⟩ <;> decide +kernel
  obtain ⟨n1,n2,n3⟩:=nn;have m1:=n1.len;have m2:=n2.len;have m3:=n3.len;refine ⟨by lia,by lia,by lia,by lia,by lia,F7.1,λ k M8 k0 k1 f8=>?_⟩;have st:StL (Tk (s.length + 2) (n + 2)) [.str (s ++ Str.ofString "\n"),.str (Str.ofString "\n" ++ s),.str (s ++ Str.ofString " "),.str (Str.ofString " " ++ s),.str (s ++ Str.ofString "\n\n")]:=
   .cons (ht.add n1) (.cons ((n1.add ht).le (by lia) (by lia)) (.cons (ht.add n2) (.cons ((n2.add ht).le (by lia) (by lia)) (.cons (ht.add n3) .nil))))
  exact st.at k0 (by simp only [List.length_cons,List.length_nil]; lia) λ t hx=>h _ _ (hx.le (by lia) (by lia)) (F7.trans f8)
 walk_at "h";refine Zi (λ hy=>?_) λ hy=>?_
 ·obtain ⟨xa,ea,sa⟩:=Xq ls (some o) (some (o + 1));obtain ⟨g1,g2,ss,g3,g4,g5⟩:=three hl (hl.sub sa) (by lia) none (some r) (some r) none;rw [ea];have q1:=Ym xa;have q2:=(hl.sub sa).w;rw [List.length_append] at g2;exact ⟨by lia,by rw [List.length_append]; exact g2,ss,g3,g4,h _ _ (g5.le (by lia) (by lia)) F7⟩
 subst_vars;walk_at "rk";have st:StL (Tk 61 0) [.str (Str.ofString ""),.str (Str.ofString "lands"),.str (Str.ofString "show"),.str (Str.ofString "drop 5"),.str (Str.ofString "spot 5 a")]:=by
  refine .cons (Zan ?_) (.cons (Zan ?_) (.cons (Zan ?_) (.cons (Zan ?_) (.cons (Zan ?_) .nil)))) <;> decide +kernel
 refine st.at (by lia) (by simp only [List.length_cons,List.length_nil]; lia) λ t hx=>?_;obtain ⟨g1,g2,ss,g3,g4,g5⟩:=three hl (Tls.one hx) (by lia) none (some r) (some r) none;exact ⟨g1,g2,ss,g3,g4,h _ _ (g5.le (by lia) (by lia)) F7⟩
theorem Zga (T:Tx K mg):Qu P w K mg base CX0 10 T.ZfF T.Ze7 ["_law_script"] (lift K MA):=by
 refine okD T.o_law.F Yg (λ xs M Φ ⟨ns,e,_⟩=>by rw [e]; rfl) λ cdv A outer s H E hr=>⟨_,(Ze (Zq 1 Yg.nd (KW (Za (Zb 0) (Za Zc (Za Zc Zd)))))
 (Ze (Zq 2 Yg.nd (cO T.OZ (RF T) hr (Za (Zb 1) Zd)))
 (Ze (Kc rfl T.QY (Za Zc Zd) (ZA 3 Yg.nd) (Ze (Zq 6 Yg.nd (cO T.ZaR (ZdU T) hr (Za (Zb 1) (Za (Zb 2) (Za Zc Zd)))))
 (Ze (Zq 7 Yg.nd (cO T.Vz (X4 T) hr (Za (Zb 6) Zd)))
 (Ze (Zq 8 Yg.nd (cO T.Gz (Bo T) hr (Za (Zb 1) (Za (Zb 7) Zd))))
 (Ze (ZZ (Zs (Jh hr) (cO T.ZH (Zy T) hr (Za (Zb 1) (Za Zc Zd))) Zc) (Zh (Zq 8 Yg.nd (cO T.Gz (Bo T) hr (Za (Zb 1) (Za (Zb 8) Zd))))) Zt)
 (Zh (ZZ (DW.dt (Ji (Jz (QX (cO T.JR (J6 T) hr (Za (Zb 8) (Za (cO T.Zh5 (ZfN T) hr (Za (Zb 8) Zd)) Zd))))) (Jn (Jz (QX (cO T.JR (J6 T) hr (Za (Zb 7) (Za (Zb 6) Zd)))))))) (Zh (Zn UZ)) Zt)))))) PassesOwn.never rfl)
 (Ze (MH (Qa (Za Qb (Za Zc (Za UZ (Za (Qa Zd) (Za (Qa (Za Zg Zd)) (Za (Qh (Za Zg Zd)) (Za To (Za (Zl JL Zc Zc) (Za (Qa (Za (Qh (Za Zg (Za Zc (Za Zg Zd)))) Zd)) Zd)))))))))) (ZA 4 Yg.nd) (Zh (ZZ (Jz (QX (cO T.JR (J6 T) hr (Za (Zb 4) (Za Zc Zd))))) (Zh (Zn UZ)) Zt)) PassesOwn.never rfl)
 (Ze (Zq 5 Yg.nd (cO T.ZH (Zy T) hr (Za (Zb 1) (Za Zc Zd))))
 (Zh (Zn (cO T.ET (Eo T) hr (Za (Nd (ZbW T.Kg T.Ki (J7 T) T.UX T.Gb (hr.mono (by walk_at "w")) rfl (Za (Zb 5) Zd))) (Za (Zb 5) Zd)))))))))),λ xs M Φ ⟨ns,e,hn,h⟩=>?_⟩
 subst e;walk_at "h";intro p hp;walk_at "h";refine ⟨Pen.ZR ⟨ns,0,0,Int.le_refl 0,rfl⟩,λ q M2 hw hne f2=>?_⟩;walk_at "hd";rename_i R0 hR0;walk_at "rk";refine ⟨⟨by decide,by decide⟩,λ i Δ M'=>∃ k3 k4 k5 k6 k7 k8:Option DV,Δ = [some (.dat (.list (ns.map PyData.int))),some (.own p),some (.own q),k3,k4,k5,k6,k7,k8] /\ Pen M' p /\ Wd M' q,⟨_,_,_,_,_,_,rfl,f2.1,hw⟩,?_,?_⟩
 ·rintro i Δ M1 hi ⟨k3,k4,k5,k6,k7,k8,rfl,hP,hw⟩;rw [GI];walk_at "h";refine ⟨hw,hne,hP,λ ts M3 hl ht f3=>?_⟩;have ok:ZcV ts:=⟨by lia,λ t hx=>(ht t hx).1⟩
  obtain ⟨tk,tn⟩:=Zdi hl ok.2;have due:=Se ht;walk_at "h";refine ⟨ts,rfl,ok,?_⟩;walk_at "h";have tl:=tk.len;have tc:=tk.nl;refine ⟨⟨by lia,tk.asc⟩,f3.1,λ s4 M4 h4 f4=>?_⟩;walk_at "hd";rename_i R hR;walk_at "rk";refine ⟨f4.1,λ r M5 r0 r1 f5=>?_⟩;have F5:=(f3.trans f4).trans f5;have c4:Tk 130700 18 s4:=h4.le (by lia) (by lia)
  suffices rest:∀ (s6:Str) (M6:Mp),Tk 1176500 57 s6->Fr p M1 M6->R _ [some (.dat (.list (ns.map PyData.int))),some (.own p),some (.own q),some (.dat (.int (i:Int))),k4,k5,some (.dat (.list (ts.map tlD))),some (.dat (.str (JH ts))),some (.dat (.str s6))] M6 by
   refine Zi (λ _=>⟨⟨?_,c4.asc⟩,f5.1,λ s6 M6 h6 f6=>rest s6 M6 (h6.le ?_ ?_) (F5.trans f6)⟩) λ _=>rest s4 M5 (c4.le (by decide) (by decide)) F5
   ·have:=c4.len;lia
   ·have:=c4.len;lia
   ·have:=c4.nl;lia
  intro s6 M6 h6 f6;obtain ⟨x1,x2⟩:=h6.ok (by decide) (by decide);obtain ⟨z1,z2⟩:=tk.ok (by decide) (by decide);have w6:=hw.fr f6 hne;subst hR;walk_at "rk";refine ⟨x1,⟨x1,x2,Zeh s6⟩,p,f6.1,λ M7 k7=>⟨⟨z1,z2,due.symm⟩,p,Gw.pen k7 f6.1,λ M8 k8=>?_⟩⟩;exact ⟨_,_,_,_,_,_,rfl,Gw.pen k8 (Gw.pen k7 f6.1),Gw.wd k8 (Gw.wd k7 w6)⟩
 ·rintro Δ M1 ⟨k3,k4,k5,k6,k7,k8,rfl,hP,hw⟩;subst hR0;walk_at "h";rename_i R hR;refine ⟨Ez _ (by decide),λ i Δ M'=>∃ k3 k4 k5 k6 k7 k8:Option DV,Δ = [some (.dat (.list (ns.map PyData.int))),some (.own p),some (.own q),k3,k4,k5,k6,k7,k8] /\ Pen M' p,⟨_,_,_,_,_,_,rfl,hP⟩,?_,?_⟩
  ·rintro i d Δ M2 hd ⟨k3,k4,k5,k6,k7,k8,rfl,hP⟩;have hn:=Zj2 (Zfk d (List.mem_of_getElem? hd));walk_at "rk";exact ⟨hn,p,hP,λ M3 k3=>⟨_,_,_,_,_,_,rfl,Gw.pen k3 hP⟩⟩
  ·rintro Δ M2 ⟨k3,k4,k5,k6,k7,k8,rfl,hP⟩;subst hR;walk_at "h";refine ⟨hP,λ n M3 n0 n1 f3=>?_⟩;subst_vars;walk_at "rk";intro dx e hx he ne;exact ⟨T.Qi,dx,n,T.YV,rfl,by rw [ZF ne,ZK],.int n,.inl rfl,rfl,⟨by simp [Bg,PyData.canLay0,PyData.depth],by simp [PyData.eqv],(Pu (by lia)).od.shw (by decide) (by decide)⟩,h _⟩
end
def Ow (K:Fk) (x:Str) (st:Stmt) (f:Addr) (fd:FuncData):Prop:=PySem.W.nsIn K mainGlobals x = some (some (.ref f)) /\ Fun K x x st f fd
theorem Z2 {K:Fk} {od an:Option Addr} {sl:Array (Option Value)} {oc kV dc pm cd ct:Value} (a:PySem.W.nsIn K mainGlobals x = some (some (.ref f))) (l:K.lookup f = some ⟨oc,od,.func (PySem.W.fnOf x x (VU st) (Q2 st) (Zf st) .none kV dc pm an cd ct),sl⟩) (c:PySem.W.codeIn K cd x = true) (k:PySem.W.keepIn K (.ref f) = true):Ow K x st f (PySem.W.fnOf x x (VU st) (Q2 st) (Zf st) .none kV dc pm an cd ct):=⟨a,NC l c k⟩
theorem ZE {K:Fk} (X:K.In h) (G:h.Ns mainGlobals mg) (o:Ow K x st f fd) (b:∀ (kV doc pm:Value) (an:Option Addr) (cdv ct:Value) (us:List Value),us.length = ps.length->bindArgs (PySem.W.fnOf x x (VU st) (Q2 st) (Zf st) .none kV doc pm an cdv ct) ⟨us,[]⟩ = pure (ps.zip us)):Own K mg x st ps f fd:=⟨o.2,PySem.W.mg_of X G o.1,o.2.binds b⟩
theorem Vv {α:Type} {P:List α->Prop} (h:∀ a0,P [a0]) (l:List α) (e:l.length = 1):P l:=by
 match l,e with
 | [a0],_=>exact h a0
theorem Ht {α:Type} {P:List α->Prop} (h:∀ a0 a1,P [a0,a1]) (l:List α) (e:l.length = 2):P l:=by
 match l,e with
 | [a0,a1],_=>exact h a0 a1
theorem Zis {α:Type} {P:List α->Prop} (h:∀ a0 a1 a2,P [a0,a1,a2]) (l:List α) (e:l.length = 3):P l:=by
 match l,e with
 | [a0,a1,a2],_=>exact h a0 a1 a2
theorem all_mk {l:PySem.W.OpenLaw} {w:World} {K:Fk} {fa:Addr} (X:K.In h) (G:h.Ns mainGlobals mg) (hfa:mg "law" = some (.ref fa))
  {f0 f1 f2 f3 f4 f5 f6 f7 f8 f9 f10 f11 f12 f13 f14 f15 f16 f17 f18 f19 f20 f21 f22 f23 f24 f25 f26 f27 f28 f29 f30 f31 f32 f33 f34 f35 f36 f37 f38 f39 f40 f41 f42 f43 f44 f45 f46 f47 f48 f49 f50:Addr} {d0 d1 d2 d3 d4 d5 d6 d7 d8 d9 d10 d11 d12 d13 d14 d15 d16 d17 d18 d19 d20 d21 d22 d23 d24 d25 d26 d27 d28 d29 d30 d31 d32 d33 d34 d35 d36 d37 d38 d39 d40 d41 d42 d43 d44 d45 d46 d47 d48 d49 d50:FuncData} {tk0:Tok} {tk1:Tok} {tk2:Tok} {tk3:Tok} {tk4:Tok} {ca_NoText:Addr} {ca_LandError:Addr} {ca_Clash:Addr} {ca_NoLand:Addr} {ca_NoName:Addr} {ca_NoRow:Addr} {ca_NoShape:Addr} {ca_NoTelling:Addr} {ca_NoTime:Addr} {ca_NoTurn:Addr} {ca_NoWatch:Addr} {ca_TooMany:Addr} {cv_NoText cN_NoText:Addr} {cu_NoText cq_NoText:Str} {cs_NoText cb_NoText cw_NoText:List Value} {cz_NoText:List Str} {cy_NoText:Bool} {cp_NoText:Option Bool} {cd_NoText:Option Addr} {c0_NoText c1_NoText c2_NoText c3_NoText c5_NoText:Option Value} {cg_NoText ch_NoText ci_NoText cj_NoText ce_NoText:Value} {co_NoText cr_NoText:Option Addr} {cl_NoText:Array (Option Value)}
  (o0:Ow K "is_whole" Y9 f0 d0)
  (o1:Ow K "is_short" Xp f1 d1)
  (o2:Ow K "is_any_spot" Vc f2 d2)
  (o3:Ow K "is_spot" Wl f3 d3)
  (o4:Ow K "is_box" GH f4 d4)
  (o5:Ow K "has_spots" Ys f5 d5)
  (o6:Ow K "steps_between" JD f6 d6)
  (o7:Ow K "gap" ZcB f7 d7)
  (o8:Ow K "is_shape" V7 f8 d8)
  (o9:Ow K "is_chain" Yc f9 d9)
  (o10:Ow K "is_name" YR f10 d10)
  (o11:Ow K "is_time" Kp f11 d11)
  (o12:Ow K "is_telling" Vx f12 d12)
  (o13:Ow K "is_name_or_empty" QT f13 d13)
  (o14:Ow K "is_wobble" YH f14 d14)
  (o15:Ow K "show_tellings" QL f15 d15)
  (o16:Ow K "read_tellings" QN f16 d16)
  (o17:Ow K "line_of" Vw f17 d17)
  (o18:Ow K "show_box" V1 f18 d18)
  (o19:Ow K "show_spot" Vh f19 d19)
  (o20:Ow K "telling_of" VT f20 d20)
  (o21:Ow K "read_words" JP f21 d21)
  (o22:Ow K "read_outer" Vr f22 d22)
  (o23:Ow K "read_box" V5 f23 d23)
  (o24:Ow K "read_spot" Vk f24 d24)
  (o25:Ow K "number_of" Yw f25 d25)
  (o26:Ow K "are_figures" Jt f26 d26)
  (o27:Ow K "_law_take" O3 f27 d27)
  (o28:Ow K "_law_wide" Mv f28 d28)
  (o29:Ow K "_law_same" s_same f29 d29)
  (o30:Ow K "_law_boxes" Gf f30 d30)
  (o31:Ow K "_law_stretched" Yv f31 d31)
  (o32:Ow K "_law_stretch" Kl f32 d32)
  (o33:Ow K "_law_names" Vu f33 d33)
  (o34:Ow K "_law_world" Ed f34 d34)
  (o35:Ow K "_law_spot" E3 f35 d35)
  (o36:Ow K "_law_land" NQ f36 d36)
  (o37:Ow K "_law_telling" Ky f37 d37)
  (o38:Ow K "_law_some" FW f38 d38)
  (o39:Ow K "_law_number_in" Vo f39 d39)
  (o40:Ow K "_law_is_name" J5 f40 d40)
  (o41:Ow K "_law_spot_in" VO f41 d41)
  (o42:Ow K "_law_box_in" UO f42 d42)
  (o43:Ow K "_law_shape_in" VZ f43 d43)
  (o44:Ow K "_law_land_in" Wu f44 d44)
  (o45:Ow K "_law_telling_in" VG f45 d45)
  (o46:Ow K "_law_due" Zcc f46 d46)
  (o47:Ow K "_law_odd_word" Xf f47 d47)
  (o48:Ow K "_law_spoilt" GJ f48 d48)
  (o49:Ow K "_law_read_right" VL f49 d49)
  (o50:Ow K "law" ZdW f50 d50)
  (z0:PySem.W.nsIn K mainGlobals "ValueError" = some none)
  (z1:PySem.W.nsIn K mainGlobals "abs" = some none)
  (z2:PySem.W.nsIn K mainGlobals "all" = some none)
  (z3:PySem.W.nsIn K mainGlobals "bool" = some none)
  (z4:PySem.W.nsIn K mainGlobals "enumerate" = some none)
  (z5:PySem.W.nsIn K mainGlobals "int" = some none)
  (z6:PySem.W.nsIn K mainGlobals "isinstance" = some none)
  (z7:PySem.W.nsIn K mainGlobals "len" = some none)
  (z8:PySem.W.nsIn K mainGlobals "list" = some none)
  (z9:PySem.W.nsIn K mainGlobals "max" = some none)
  (z10:PySem.W.nsIn K mainGlobals "range" = some none)
  (z11:PySem.W.nsIn K mainGlobals "repr" = some none)
  (z12:PySem.W.nsIn K mainGlobals "str" = some none)
  (z13:PySem.W.nsIn K mainGlobals "tuple" = some none)
  (u0:PySem.W.nsIn K mainGlobals "MOST" = some (some (.int 999999999999 tk0)))
  (u1:PySem.W.nsIn K mainGlobals "MOST_BOXES" = some (some (.int 6 tk1)))
  (u2:PySem.W.nsIn K mainGlobals "MOST_LETTERS" = some (some (.int 8 tk2)))
  (u3:PySem.W.nsIn K mainGlobals "LAST_TIME" = some (some (.int 1000000000000 tk3)))
  (u4:PySem.W.nsIn K mainGlobals "MOST_FIGURES" = some (some (.int 60 tk4)))
  (cm_NoText:PySem.W.nsIn K mainGlobals "NoText" = some (some (.ref ca_NoText)))
  (cm_LandError:PySem.W.nsIn K mainGlobals "LandError" = some (some (.ref ca_LandError)))
  (cm_Clash:PySem.W.nsIn K mainGlobals "Clash" = some (some (.ref ca_Clash)))
  (cm_NoLand:PySem.W.nsIn K mainGlobals "NoLand" = some (some (.ref ca_NoLand)))
  (cm_NoName:PySem.W.nsIn K mainGlobals "NoName" = some (some (.ref ca_NoName)))
  (cm_NoRow:PySem.W.nsIn K mainGlobals "NoRow" = some (some (.ref ca_NoRow)))
  (cm_NoShape:PySem.W.nsIn K mainGlobals "NoShape" = some (some (.ref ca_NoShape)))
  (cm_NoTelling:PySem.W.nsIn K mainGlobals "NoTelling" = some (some (.ref ca_NoTelling)))
  (cm_NoTime:PySem.W.nsIn K mainGlobals "NoTime" = some (some (.ref ca_NoTime)))
  (cm_NoTurn:PySem.W.nsIn K mainGlobals "NoTurn" = some (some (.ref ca_NoTurn)))
  (cm_NoWatch:PySem.W.nsIn K mainGlobals "NoWatch" = some (some (.ref ca_NoWatch)))
  (cm_TooMany:PySem.W.nsIn K mainGlobals "TooMany" = some (some (.ref ca_TooMany)))
  (xl_NoText:K.lookup ca_NoText = some (excClassObj cu_NoText cq_NoText ca_NoText cN_NoText cs_NoText cb_NoText true cz_NoText cw_NoText cy_NoText cp_NoText cd_NoText c0_NoText c1_NoText c2_NoText c3_NoText c5_NoText "ValueError.__new__"))
  (xt_NoText:PySem.W.tailIn K bmV cb_NoText = true)
  (xo_NoText:PySem.W.nsOkIn K cN_NoText = true)
  (xi_NoText:PySem.W.nsIn K cN_NoText "__init__" = some (some (.ref cv_NoText)))
  (xs_NoText:PySem.W.findIn K (.ref ca_NoText) "__setattr__" = some (some (.builtin "object.__setattr__")))
  (xn_NoText:PySem.W.findIn K (.ref ca_NoText) "line" = some none)
  (xf_NoText:K.lookup cv_NoText = some ⟨.type "function",co_NoText,.func (PySem.W.fnOf "__init__" "NoText.__init__" (VU QG) (Q2 QG) (Zf QG) .none cg_NoText ch_NoText ci_NoText cr_NoText cj_NoText ce_NoText),cl_NoText⟩)
  (xc_NoText:PySem.W.codeIn K cj_NoText "NoText.__init__" = true)
  (xk_NoText:PySem.W.keepIn K (.ref cv_NoText) = true)
  (ck_NoText_0:PySem.W.findIn K (.ref ca_NoText) "__getattribute__" = some (some (.builtin "BaseException.__getattribute__")))
  (ck_NoText_1:PySem.W.findIn K (.ref ca_NoText) "__getattr__" = some none)
  (ck_NoText_2:PySem.W.findIn K (.ref ca_NoText) "__class__" = some (some (.builtin "object.__class__")))
  (ck_NoText_3:PySem.W.specialIn K (.builtin "object.__class__") "__get__" = some (some (.builtin "getset_descriptor.__get__")))
  (ck_NoText_4:PySem.W.takesIn K (.builtin "object.__class__") = some true)
  (ck_NoText_5:PySem.W.mroIn K ca_NoText (.type "object") = some true)
  (ck_NoText_6:PySem.W.mroIn K ca_NoText (.type "BaseException") = some true)
  (ck_NoText_7:PySem.W.isClsIn K ca_NoText = true)
  (cc_NoText_LandError_0:PySem.W.subIn K (.ref ca_NoText) (.ref ca_LandError) = some true)
  (cc_NoText_LandError_1:PySem.W.subIn K (.ref ca_LandError) (.type "BaseException") = some true)
  (cc_NoText_LandError_2:PySem.W.typeIn K (.ref ca_LandError) = some (.type "type"))
  (cc_NoText_LandError_3:PySem.W.isClsIn K ca_LandError = true)
  (cf_q1:PySem.W.kitOne K (.ref ca_NoText) (.ref ca_NoText) = some true)
  (cf_q2:PySem.W.kitOne K (.ref ca_NoText) (.type "ValueError") = some true)
  (cf_q4:PySem.W.kitAny K (.ref ca_NoText) [.ref ca_Clash,.ref ca_NoLand,.ref ca_NoName,.ref ca_NoRow,.ref ca_NoShape,.ref ca_NoTelling,.ref ca_NoTime,.ref ca_NoTurn,.ref ca_NoWatch,.ref ca_TooMany] = some false) :
  ∃ fd:FuncData,(∀ (s:Shared) (v:Value),BindsTo s fd ⟨[v],[]⟩ [("_law_script",v)]) /\ ∀ base:Heap,K.In base->base.Ns mainGlobals mg->Qu l.prog w K mg base CX0 10 fa fd ["_law_script"] (lift K MA):=by
 have e:=hfa.symm.trans (PySem.W.mg_of X G o50.1);cases e;obtain ⟨_,_,_,_,_,_,_,_,_,rfl,_,_⟩:=o50.2.ex
 let T:Tx K mg:=⟨_,_,ZE X G o0 λ _ _ _ _ _ _=>Vv λ _=>rfl,_,_,ZE X G o1 λ _ _ _ _ _ _=>Vv λ _=>rfl,_,_,ZE X G o2 λ _ _ _ _ _ _=>Vv λ _=>rfl,_,_,ZE X G o3 λ _ _ _ _ _ _=>Vv λ _=>rfl,_,_,ZE X G o4 λ _ _ _ _ _ _=>Vv λ _=>rfl,_,_,ZE X G o5 λ _ _ _ _ _ _=>Vv λ _=>rfl,_,_,ZE X G o6 λ _ _ _ _ _ _=>Ht λ _ _=>rfl,_,_,ZE X G o7 λ _ _ _ _ _ _=>Zis λ _ _ _=>rfl,_,_,ZE X G o8 λ _ _ _ _ _ _=>Vv λ _=>rfl,_,_,ZE X G o9 λ _ _ _ _ _ _=>Vv λ _=>rfl,_,_,ZE X G o10 λ _ _ _ _ _ _=>Vv λ _=>rfl,_,_,ZE X G o11 λ _ _ _ _ _ _=>Vv λ _=>rfl,_,_,ZE X G o12 λ _ _ _ _ _ _=>Vv λ _=>rfl,_,_,ZE X G o13 λ _ _ _ _ _ _=>Vv λ _=>rfl,_,_,ZE X G o14 λ _ _ _ _ _ _=>Vv λ _=>rfl,_,_,ZE X G o15 λ _ _ _ _ _ _=>Vv λ _=>rfl,_,_,ZE X G o16 λ _ _ _ _ _ _=>Vv λ _=>rfl,_,_,ZE X G o17 λ _ _ _ _ _ _=>Vv λ _=>rfl,_,_,ZE X G o18 λ _ _ _ _ _ _=>Vv λ _=>rfl,_,_,ZE X G o19 λ _ _ _ _ _ _=>Vv λ _=>rfl,_,_,ZE X G o20 λ _ _ _ _ _ _=>Vv λ _=>rfl,_,_,ZE X G o21 λ _ _ _ _ _ _=>Vv λ _=>rfl,_,_,ZE X G o22 λ _ _ _ _ _ _=>Vv λ _=>rfl,_,_,ZE X G o23 λ _ _ _ _ _ _=>Vv λ _=>rfl,_,_,ZE X G o24 λ _ _ _ _ _ _=>Vv λ _=>rfl,_,_,ZE X G o25 λ _ _ _ _ _ _=>Vv λ _=>rfl,_,_,ZE X G o26 λ _ _ _ _ _ _=>Vv λ _=>rfl,_,_,ZE X G o27 λ _ _ _ _ _ _=>Ht λ _ _=>rfl,_,_,ZE X G o28 λ _ _ _ _ _ _=>Ht λ _ _=>rfl,_,_,ZE X G o29 λ _ _ _ _ _ _=>Ht λ _ _=>rfl,_,_,ZE X G o30 λ _ _ _ _ _ _=>Ht λ _ _=>rfl,_,_,ZE X G o31 λ _ _ _ _ _ _=>Zis λ _ _ _=>rfl,_,_,ZE X G o32 λ _ _ _ _ _ _=>Vv λ _=>rfl,_,_,ZE X G o33 λ _ _ _ _ _ _=>Ht λ _ _=>rfl,_,_,ZE X G o34 λ _ _ _ _ _ _=>Vv λ _=>rfl,_,_,ZE X G o35 λ _ _ _ _ _ _=>Ht λ _ _=>rfl,_,_,ZE X G o36 λ _ _ _ _ _ _=>Zis λ _ _ _=>rfl,_,_,ZE X G o37 λ _ _ _ _ _ _=>Ht λ _ _=>rfl,_,_,ZE X G o38 λ _ _ _ _ _ _=>Zis λ _ _ _=>rfl,_,_,ZE X G o39 λ _ _ _ _ _ _=>Vv λ _=>rfl,_,_,ZE X G o40 λ _ _ _ _ _ _=>Vv λ _=>rfl,_,_,ZE X G o41 λ _ _ _ _ _ _=>Vv λ _=>rfl,_,_,ZE X G o42 λ _ _ _ _ _ _=>Vv λ _=>rfl,_,_,ZE X G o43 λ _ _ _ _ _ _=>Vv λ _=>rfl,_,_,ZE X G o44 λ _ _ _ _ _ _=>Ht λ _ _=>rfl,_,_,ZE X G o45 λ _ _ _ _ _ _=>Vv λ _=>rfl,_,_,ZE X G o46 λ _ _ _ _ _ _=>Vv λ _=>rfl,_,_,ZE X G o47 λ _ _ _ _ _ _=>Ht λ _ _=>rfl,_,_,ZE X G o48 λ _ _ _ _ _ _=>Ht λ _ _=>rfl,_,_,ZE X G o49 λ _ _ _ _ _ _=>Ht λ _ _=>rfl,_,_,ZE X G o50 λ _ _ _ _ _ _=>Vv λ _=>rfl,PySem.W.mg_none_of X G z0,PySem.W.mg_none_of X G z1,PySem.W.mg_none_of X G z2,PySem.W.mg_none_of X G z3,PySem.W.mg_none_of X G z4,PySem.W.mg_none_of X G z5,PySem.W.mg_none_of X G z6,PySem.W.mg_none_of X G z7,PySem.W.mg_none_of X G z8,PySem.W.mg_none_of X G z9,PySem.W.mg_none_of X G z10,PySem.W.mg_none_of X G z11,PySem.W.mg_none_of X G z12,PySem.W.mg_none_of X G z13,_,PySem.W.mg_of X G u0,_,PySem.W.mg_of X G u1,_,PySem.W.mg_of X G u2,_,PySem.W.mg_of X G u3,_,PySem.W.mg_of X G u4,_,PySem.W.mg_of X G cm_NoText,_,PySem.W.mg_of X G cm_LandError,_,PySem.W.mg_of X G cm_Clash,_,PySem.W.mg_of X G cm_NoLand,_,PySem.W.mg_of X G cm_NoName,_,PySem.W.mg_of X G cm_NoRow,_,PySem.W.mg_of X G cm_NoShape,_,PySem.W.mg_of X G cm_NoTelling,_,PySem.W.mg_of X G cm_NoTime,_,PySem.W.mg_of X G cm_NoTurn,_,PySem.W.mg_of X G cm_NoWatch,_,PySem.W.mg_of X G cm_TooMany,_,_,⟨⟨_,_,_,_,_,_,_,_,_,_,_,_,_,_,_,xl_NoText,xt_NoText,xo_NoText,xi_NoText⟩,xs_NoText,xn_NoText⟩,NC xf_NoText xc_NoText xk_NoText,(NC (st:=QG) xf_NoText xc_NoText xk_NoText).binds λ _ _ _ _ _ _=>Ht λ _ _=>rfl,⟨_,xf_NoText,rfl⟩,⟨⟨ck_NoText_0,ck_NoText_1,ck_NoText_2,ck_NoText_3,ck_NoText_4,ck_NoText_5,ck_NoText_6,ck_NoText_7⟩,xn_NoText,by refine ⟨_,by unfold PySem.W.clsIn; rw [xl_NoText],?_⟩; rfl⟩,⟨cc_NoText_LandError_0,cc_NoText_LandError_1,cc_NoText_LandError_2,cc_NoText_LandError_3⟩,cf_q1,cf_q2,cf_q4⟩
 exact ⟨_,λ s v=>.of_eq rfl,λ base _ _=>Zga T⟩
theorem walk {l:PySem.W.OpenLaw} {q:Program} {loose:List Str} {XP:(Str->Option Value)->Heap->Prop} {YP:World->Heap->Prop} {d:DefRec} {K:Params->Fk} (hn:l.most = some 63) (hdf:d.params.defaults = [])
  (hY:∀ (w:World) (h:Heap),YP w h->(K w.params).In h)
  (F:∀ (w:World) (mg:Str->Option Value) (fa:Addr) (h:Heap),(K w.params).In h->h.Ns mainGlobals mg->mg d.name = some (.ref fa) ->
   ∃ fd:FuncData,(∀ (s:Shared) (u:Value),BindsTo s fd ⟨[u],[]⟩ [("_law_script",u)]) /\ ∀ base:Heap,(K w.params).In base->base.Ns mainGlobals mg->Qu l.prog w (K w.params) mg base CX0 10 fa fd ["_law_script"] (lift (K w.params) MA)) :
  PySem.W.WalkO q loose XP YP l.row.toRowW d [] (λ f vs=>PySem.call f vs):=
 L2.ZdF (n:=63) (k:=10) (x := "_law_script") (CX:=λ _=>CX0) (sp:=λ w=>lift (K w.params) MA) hn (by decide) hdf ⟨rfl,by decide,by decide,rfl⟩ hY F
  (λ w H a ns hl hO hS=>OP hl hO hS) λ _ _ _ _ _ z=>z
end My
set_option genInjectivity false in
structure PySem.W.Fast:Prop where
 (tw416514348025717961 tw13849141020069818961 tw2760656736512752226 tw9146093648750617987 tw4147781127114032646 tw236411284634836411 tw2393828086125632746 tw3314056288160144455 tw17659202756425988155 tw15412656276337512780 tw3698007099564903694 tw8984814606168556953 tw1336983381011245402 tw4089362156227602919 tw6129799826473188922 tw18383911397764755964 tw13607599678708602450 tw12337522160053909125 tw13963775255376099058 tw17325648008130829021 tw14561870846692004562 tw3215099226648734420 tw9500701334835792490 tw5408076587351135086 tw810495957788175224 tw117828985159063665 tw4466551788269612526 tw549337803549639030 tw4862507547410401926 tw90828276071749210 tw11549998541412679252 tw9296778067024899507 tw16541263295714054061 tw12061070975078485074 tw4486606737685044636 tw15204568009580996574 tw7376579642152887121 tw1496872880753097380 tw17264951188113595288 tw12378885625622774451 tw2055949993983881423 tw2599751429315169695 tw10357628664897865425 tw14013238461828461450 tw15268932037080162275 tw15850685832680001363 tw17206108167757157980 tw5899758400771694440 tw646727914456865155 tw10097302724226853531 tw6488683212873827659 tw4541537685284118165 tw16875763280978879124 tw4841145126153868552 tw16534632588144048243 tw3491621565427172073 tw14295631873087631781 tw15990443987090710337 tw986253832895270908 tw13265105494487897514 tw8351498058782351465 tw16220229916025661985 tw5146547629908716657 tw11946706390906445951 tw11396836250727454215 tw10714931501790280556 tw207191473287704756 tw15255161475656312572 tw11183785641339496451 tw7910402990709397709 tw8733629454949425409 tw17314565917344376672 tw3856087190339992173 tw7524272344532222568 tw65591019832907941 tw14309828398109046648 tw11915019948809314554 tw10421603449154479548 tw12243247578967992716 tw2699244538186284717 tw17075553181355751596 tw13636678952251488468 tw10831507641008163090 tw14129486653225216484 tw1614873246546741141 tw8371181484719829764 tw17561835195219827548 tw6276183678344101352 tw2127535014697116791 tw12033753075887394593 tw14672125294082753232 tw11219314605188649684 tw10701757929432924436 tw5172319158886733306 tw12454376708432083007 tw16244553595870752546 tw7365648044470839388 tw5089244800162878082 tw585594648372790899 tw15909569654159317601 tw9769622296639152408 tw6222570274707658210 tw8844688387498868140 tw9800868492531377711 tw10105755327164456699 tw8126038418264701623 tw17136116795436220230 tw8600134797757652434 tw2507941887199847939 tw4046408726003267952 tw5112882225105051794 tw10997372193076989210 tw11849913455382516622 tw15435606833642122692 tw15057480499346786273 tw3797630551279452819 tw4533080142505699615 tw17953795943394675525 tw18372803506186704001 tw16493442019130933110 tw18311733691796282099 tw4772438637217894657 tw15763897795165367675 tw6173890249894043970 tw8919970826794285426 tw14169051622160577964 tw4660275904722271693 tw6992079749523566823 tw1314327885863364209 tw6155592271852059333 tw1986241021280722698 tw18124189042029358097 tw8529715373467927405 tw657336363968417284 tw13843041963563951412 tw6511682795370789530 tw640596302147276332 tw3329832107540243679 tw2862821168076174625 tw9740396398816572805 tw12635554647027677773 tw1124402031480667430 tw12304202382848845231 tw8938796197060144741 tw875428534191404674 tw17995518998719475545 tw12194776194180885440 tw10354390451467400024 tw3897762077433252755 tw2823215933352028431 tw18234445390654827605 tw16463348845203627359 tw12265433455473051255 tw2689760546831692722 tw11737637041428078708 tw18440669737432923963 tw13328993581250083372 tw13842770277187803660 tw6188670665834445548 tw5494657001398502400 tw10549612324213637748 tw12708391478011724741 tw6629633666991361475 tw9961066734730737147 tw5845833506967007638 tw3670214313192150791 tw9046850853186931548 tw9338638100662197362 tw7536745362916750911 tw11908972109315224862 tw11153537899700755521 tw1608328796467323231 tw164586618365724005 tw2981758439830920733 tw9106949711264220493 tw2080056391103951301 tw5140124764522660693 tw16152012601080225900 tw4351396478915717474 tw3303070080852772508 tw14279298764978654987 tw7211892987557673894 tw14615249252557396853 tw8504756878659918999 tw4470530145808467701 tw248989419215778941 tw8696555264801231669 tw17289940732369877371 tw13563231456340325826 tw16095195005088351220 tw7379340934232910307 tw10293872324249712290 tw15919120303767074598 tw4245971562353001443 tw5864393831879735595 tw3756485896524872334 tw12119132960601117929 tw13409349521488046855 tw9623013429492639567 tw14887593778513016687 tw2382761379746640640 tw15900371446928957074 tw11051450746570086232 tw12979678286975726546 tw14125436506200801420 tw3028845132400419268 tw8281917325583286804 tw1896498949541427114 tw15890210446646624893 tw7706181721960294040 tw13787957657392339749 tw435444893194828817 tw2177232712848507322 tw16877973966303276019 tw8076098320088768832 tw16160065450833089704 tw7607577120714610792 tw16148890681982273334 tw7817346709160705259 tw10966866710640935752 tw14208984575169288306 tw9559419639655634404 tw7808916089539531137 tw14558065383854864749 tw11607493978668770431 tw10951120479917988756 tw16318365107530095687 tw862073044323476572 tw14264804780965278046 tw9736409641696859825 tw18307445085904317163 tw4149049811126229230 tw1733903483724543942 tw6598336248170450232 tw3064672091752131344 tw10580917577780443447 tw17249516779452560765 tw13050725699891532119 tw7446305855520109452 tw12066002455670783634 tw12395987382302033592 tw15056188431822914345 tw11229605892512211038 tw8937895118639026028 tw4005775302023184852 tw16988765562622817853 tw6283768354800969290 tw1428555971634525432 tw10795371811812669433 tw13536426720805898022 tw157677536005347388 tw13642985796200232385 tw7641110602171250334 tw5045918200814828480 tw14686332601201327129 tw13211558751385604796 tw11398200936950715226 tw4158869907566671224 tw4220367052089234465 tw7916247193794455896 tw4383697605932149231 tw4932471636157225132 tw11101544573065697667 tw18224144754685175193 tw3937894795309199378 tw10161329152309744215 tw1317048463747230080 tw482275042214322633 tw15213581642149964904 tw18170319509744898151 tw11579303551920804226 tw18411794984266603642 tw5699553082050974677 tw8520475514265394444 tw1538042406790899566 tw9411610111878811047 tw10975203123166880860 tw5641907570066023043 tw8922564975461329572 tw4391353597608447543 tw12049629225191733524 tw1088210362930464161 tw11889599201055537284 tw17246957789894074090 tw12015288942476356834 tw8061893851022740704 tw8274853376205170487 tw5789329908736597931 tw6692637336004127093 tw11508677427990767643 tw3259403035213865539 tw4468956774606968184 tw13444488021271667033 tw14230904930621353173 tw9228728659886375276 tw17787621794686073332 tw9047974050795406668 tw15547347791563408632 tw2315893949363254964 tw14853433610705992071 tw6407833911318516823 tw6755501222218281987 tw7085055612292776177 tw1695737431338011692 tw6522289876679602950 tw8584470417942298573 tw10849725838111224435 tw12306759244829483989 tw8970634073735706741 tw15532857898470767195 tw4647208788586749938 tw17284487211125559722 tw10413181378898730015 tw13563551144796441805 tw2946445334193754715 tw15027860851935596441 tw1680451228406811902 tw10717054619435015426 tw10401514370015261946 tw7681966606352166557 tw17402017200203718038 tw7042422110588887919 tw5858840008379222359 tw3710576018825025533 tw15947531316625033329 tw6977970180757012490 tw13353366704607945890 tw699992252386836304 tw12236071036743416577 tw10181459297291690182 tw18058575971990804620 tw17776850646626846328 tw9068079140753841267 tw17955779119447054031 tw3144137402732281910 tw7937522128219273872 tw7605590988652060542 tw5746183820925024756 tw7016051459010363837 tw16730622232835210711 tw12821054987185627357 tw3832275907851746686 tw16256928498494311329 tw17002655678579961919 tw15788838487877868626 tw6828768527792445157 tw8158644406479800426 tw18356540858630960343 tw18233307573437000234 tw4290279761627101170 tw15240436575694441682 tw9364111418516817398 tw5002934512587344763 tw1184571548648093892 tw1275473622083268791 tw3684276365748477423 tw5367651342031113953 tw5550558395413195453 tw13447913563583995070 tw6714412047634901735 tw8857545425638703831 tw9150732259434466250 tw5136810867720349089 tw14091463633881043768 tw5294654644336584753 tw9192989000675140754 tw3235436912418689776 tw3624648353462791961 tw5188703989776509505 tw3865044445490511935 tw4743476033554652661 tw14620439602936210498 tw1938457669474026473 tw6915269319340523253 tw6928311575410381369 tw15584717916568011309 tw15112819590427459600 tw12473069514949606043 tw10439612697867500943 tw6633142177835486792 tw5970079194650697777 tw11958200077103785368 tw16457835210244181265 tw5881248972628929682 tw17513974521916289393 tw18262059723888176153 tw3276041852658035492 tw9362747491377832850 tw8135843177229940765 tw12330985248428061997 tw3134701008827695365 tw10854556045105939501 tw9098098619977692728 tw5608549502504601047 tw1555613420936113502 tw8230100687891381176 tw13674294719548539895 tw17421776934736150776 tw11073170186641030300 tw4597917238138244905 tw14782307402285614367 tw4204899170189317936 tw14488091646532245244 tw7613555732793549710 tw9281628691700514283 tw12362356074609526340 tw113049875685144082 tw14843753240830627061 tw10667409064356115030 tw15690528706285628989 tw1455599880822026739 tw12732413440252247578 tw14131975130351171373 tw2188457000084853469 tw5730585658161697034 tw2514502442425141074 tw3527949754562792700 tw16987198389201239436 tw11030323466606310928 tw13656679933936450433 tw15060917652510432861 tw8625862199868240214 tw6206422237295835366 tw7158288660486731993 tw13369004384535670281 tw15999031565978751476 tw3585009902262684043 tw7789484374473972265 tw232229099168109434 tw13111426269526989716 tw12931802902942606321 tw1770303019422105920 tw9748207243077494804 tw11080524276140797708 tw5726408120553676686 tw8629050852889372197 tw14791311489273760533 tw722804503821271054 tw1282369842642689890 tw10754861788238462014 tw5214646992293929029 tw1585013512348953220 tw7915427824560533819 tw5727389288829986055 tw15227955857845575915 tw7110597899309673169 tw4072303535091054750 tw17238091205914953058 tw7658106671639422765 tw4226683772100234285 tw1642840778442818233 tw15276985697326307180 tw5929041923907889802 tw419581329742030393 tw1127894119622942463 tw17794264740003894295 tw10956713449422761110 tw8913505330212487460 tw7559953662092516875 tw14160555059261191397 tw3146111959734485842 tw3136975488924280755 tw12809526913511718077 tw4188375839827048907 tw6609810765830276393 tw17831664781570051131 tw14785079536400203448 tw5200463414550726092 tw15311763548777352591 tw10575358608166971104 tw13283682157388623992 tw11708917455476939635 tw17309250362713194493 tw12937619803203614465 tw11909168867017220981:True)
open PySem.W
set_option maxRecDepth 100000 in
set_option maxHeartbeats 0 in
theorem PySem.Challenge.cw_landsentered_k45_texts_of_none_holds : PySem.Challenge.rw_landsentered_k45_texts_of_none.Holds := by
 w_on; o_law; k_head; (case hw => w_witness2)
 k_fill
 refine My.walk (l := PySem.Challenge.rw_landsentered_k45_texts_of_none) rfl rfl (fun w h Y => PySem.W.kIn_of Y) ?F
 case F =>
  intro w mg fa h KX G hmg
  refine' My.all_mk KX G hmg (My.Z2 ?_ ?_ ?_ ?_) (My.Z2 ?_ ?_ ?_ ?_) (My.Z2 ?_ ?_ ?_ ?_) (My.Z2 ?_ ?_ ?_ ?_) (My.Z2 ?_ ?_ ?_ ?_) (My.Z2 ?_ ?_ ?_ ?_) (My.Z2 ?_ ?_ ?_ ?_) (My.Z2 ?_ ?_ ?_ ?_) (My.Z2 ?_ ?_ ?_ ?_) (My.Z2 ?_ ?_ ?_ ?_) (My.Z2 ?_ ?_ ?_ ?_) (My.Z2 ?_ ?_ ?_ ?_) (My.Z2 ?_ ?_ ?_ ?_) (My.Z2 ?_ ?_ ?_ ?_) (My.Z2 ?_ ?_ ?_ ?_) (My.Z2 ?_ ?_ ?_ ?_) (My.Z2 ?_ ?_ ?_ ?_) (My.Z2 ?_ ?_ ?_ ?_) (My.Z2 ?_ ?_ ?_ ?_) (My.Z2 ?_ ?_ ?_ ?_) (My.Z2 ?_ ?_ ?_ ?_) (My.Z2 ?_ ?_ ?_ ?_) (My.Z2 ?_ ?_ ?_ ?_) (My.Z2 ?_ ?_ ?_ ?_) (My.Z2 ?_ ?_ ?_ ?_) (My.Z2 ?_ ?_ ?_ ?_) (My.Z2 ?_ ?_ ?_ ?_) (My.Z2 ?_ ?_ ?_ ?_) (My.Z2 ?_ ?_ ?_ ?_) (My.Z2 ?_ ?_ ?_ ?_) (My.Z2 ?_ ?_ ?_ ?_) (My.Z2 ?_ ?_ ?_ ?_) (My.Z2 ?_ ?_ ?_ ?_) (My.Z2 ?_ ?_ ?_ ?_) (My.Z2 ?_ ?_ ?_ ?_) (My.Z2 ?_ ?_ ?_ ?_) (My.Z2 ?_ ?_ ?_ ?_) (My.Z2 ?_ ?_ ?_ ?_) (My.Z2 ?_ ?_ ?_ ?_) (My.Z2 ?_ ?_ ?_ ?_) (My.Z2 ?_ ?_ ?_ ?_) (My.Z2 ?_ ?_ ?_ ?_) (My.Z2 ?_ ?_ ?_ ?_) (My.Z2 ?_ ?_ ?_ ?_) (My.Z2 ?_ ?_ ?_ ?_) (My.Z2 ?_ ?_ ?_ ?_) (My.Z2 ?_ ?_ ?_ ?_) (My.Z2 ?_ ?_ ?_ ?_) (My.Z2 ?_ ?_ ?_ ?_) (My.Z2 ?_ ?_ ?_ ?_) (My.Z2 ?_ ?_ ?_ ?_) ?_ ?_ ?_ ?_ ?_ ?_ ?_ ?_ ?_ ?_ ?_ ?_ ?_ ?_ ?_ ?_ ?_ ?_ ?_ ?cm_NoText ?cm_LandError ?cm_Clash ?cm_NoLand ?cm_NoName ?cm_NoRow ?cm_NoShape ?cm_NoTelling ?cm_NoTime ?cm_NoTurn ?cm_NoWatch ?cm_TooMany ?xl_NoText ?xt_NoText ?xo_NoText ?xi_NoText ?xs_NoText ?xn_NoText ?xf_NoText ?xc_NoText ?xk_NoText ?ck_NoText_0 ?ck_NoText_1 ?ck_NoText_2 ?ck_NoText_3 ?ck_NoText_4 ?ck_NoText_5 ?ck_NoText_6 ?ck_NoText_7 ?cc_NoText_LandError_0 ?cc_NoText_LandError_1 ?cc_NoText_LandError_2 ?cc_NoText_LandError_3 ?cf_q1 ?cf_q2 ?cf_q4
  any_goals first | k_is | kit_is | decide +kernel
  (case xt_NoText => kernel_rfl)
  (case xo_NoText => kernel_rfl)
