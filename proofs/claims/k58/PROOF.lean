import PyProof.Rows.All
import Wide.All
import OpenK.AllK
import Wide.FinOn
import Lean
import PyProof.EqAt
import PyProof.EqKinds
import PyProof.TupleCall
import PyProof.ReprRoads
import PyProof.EqLayable
import PyProof.NeData
import PyProof.Rows.TupDisplay
import PySem.Challenge.RW_landsentered_k58_whole_things_apart_and
set_option Elab.async false
set_option linter.all false
set_option maxRecDepth 100000
set_option compiler.extract_closed false
set_option bootstrap.genMatcherCode false
set_option genSizeOf false
set_option tactic.hygienic false
local macro_rules|`(tactic|obtain $p:rcasesPatMed:=($f:ident $h:ident))=>`(tactic|(replace $h:ident:=$f $h;obtain $p:rcasesPatMed:=$h:ident))
abbrev aa:=@List.length_map
abbrev ae:=@Bool.false_ne_true
abbrev af:=@List.mem_map
abbrev ag:=@PySem.wpAny_bind
abbrev ah:=@List.mem_filter
abbrev ai:=@List.map_cons
abbrev aj:=@List.mem_cons_self
abbrev ak:=@Nat.le_refl
abbrev al:=@List.map_append
abbrev am:=@PySem.Heap.get?_push_of_some
abbrev ao:=@if_neg
abbrev aq:=@List.mem_cons_of_mem
abbrev au:=@List.mem_singleton
abbrev av:=@List.take_length
abbrev aw:=@if_pos
abbrev ax:=@List.mem_append
abbrev ay:=@List.mem_append_right
abbrev az:=@List.mem_of_getElem?
abbrev aA:=@Nat.le_trans
abbrev aB:=@List.length_append
abbrev aC:=@List.map_map
abbrev aD:=@PySem.wpAny_pure
abbrev aE:=@List.getElem?_eq_some_iff
abbrev aH:=@List.find?_cons_of_pos
abbrev aI:=@decide_eq_true
abbrev aJ:=@PyProof.Rows.wpS_bind
abbrev aK:=@List.find?_cons_of_neg
abbrev aL:=@PySem.Heap.lt_size
abbrev aM:=@List.getElem?_eq_getElem
abbrev aN:=@Option.some_ne_none
abbrev aO:=@PyProof.Rows.wpS_pure
abbrev aP:=@Nat.lt_of_lt_of_le
abbrev aQ:=@List.size_toArray
abbrev aR:=@PySem.Heap.get?_push_size
abbrev aS:=@Array.length_toList
abbrev aU:=@List.append_nil
abbrev aV:=@List.getElem?_map
abbrev aW:=@List.mem_cons
abbrev aX:=@List.length_filter_le
abbrev aY:=@of_decide_eq_true
abbrev aZ:=@decide_eq_false
abbrev a_:=@List.length_cons
abbrev ba:=@List.filter_cons_of_neg
abbrev bb:=@List.filter_cons_of_pos
abbrev bd:=@List.pairwise_map
abbrev be:=@Ne.symm
abbrev bf:=@Nat.ne_of_lt
abbrev bg:=@List.foldl_cons
abbrev bh:=@List.mem_append_left
abbrev bi:=@List.any_cons
abbrev bj:=@PySem.PassesOwn.never
abbrev bo:=@List.map_congr_left
abbrev bp:=@List.length_take
abbrev bq:=@Option.some.inj
abbrev br:=@Nat.zero_le
abbrev bt:=@List.append_assoc
abbrev bv:=@List.filter_append
abbrev bw:=@beq_iff_eq
abbrev bx:=@List.getElem?_append_right
abbrev bz:=@List.nodup_iff_pairwise_ne
abbrev bC:=@PySem.Paired.length
abbrev bE:=@List.getElem?_append_left
abbrev bF:=@Nat.sub_one_lt_of_le
abbrev bG:=@List.filter_congr
abbrev bH:=@Array.getElem?_toList
abbrev bI:=@PySem.mem_of_lookup
abbrev bJ:=@List.getElem_of_mem
abbrev bK:=@congrArg
abbrev bL:=@PySem.sizeLine_eq
abbrev bM:=@List.mem_of_mem_take
abbrev bN:=@List.rel_of_pairwise_cons
abbrev bO:=@PySem.Calls.spliced_cons
abbrev bP:=@PyProof.Rows.wpS_forRange
abbrev bQ:=@PySem.F.slot_dict_keyiterator_next
abbrev bR:=@List.cons.injEq
abbrev bS:=@Array.toList_append
abbrev bT:=@Nat.add_le_add_left
abbrev bU:=@PySem.wpAny_mono
abbrev bV:=@List.foldl_append
abbrev bW:=@Bool.and_false
abbrev bX:=@Nat.add_le_add_right
abbrev bY:=@List.getD_eq_getElem?_getD
abbrev bZ:=@PySem.W.mg_none_of
abbrev b_:=@Bool.and_eq_true
abbrev cc:=@Nat.le_add_right
abbrev ce:=@List.pairwise_iff_getElem
abbrev cf:=@Nat.lt_succ_of_lt
abbrev cg:=@Bool.beq_eq_decide_eq
abbrev ck:=@List.contains_iff_mem
abbrev cr:=@PySem.wpAny_holding
abbrev cu:=@Bool.eq_iff_iff
abbrev cv:=@List.nodup_cons
abbrev cw:=@List.map_nil
abbrev cx:=@Nat.zero_add
abbrev cz:=@List.zip_cons_cons
abbrev cA:=@List.find?_eq_none
abbrev cB:=@List.filter_filter
abbrev cC:=@Array.toList_inj
abbrev cE:=@List.any_eq_true
abbrev cF:=@List.forall_mem_cons
abbrev cG:=@PySem.wpAny_newObj_type
abbrev cH:=@PySem.Heap.get?_update_other
abbrev cI:=@PySem.Calls.callWith_builtin
abbrev cJ:=@List.take_add_one
abbrev cK:=@List.flatMap_cons
abbrev cL:=@List.filter_eq_nil_iff
abbrev cM:=@PySem.Heap.SameBut.update
abbrev cN:=@List.drop_eq_getElem_cons
abbrev cP:=@List.length_singleton
abbrev cQ:=@List.getElem?_eq_none
abbrev cR:=@Array.map_append
abbrev cS:=@Int.mul_le_mul_of_nonneg_right
abbrev cT:=@of_decide_eq_false
abbrev cU:=@PySem.wpAny_typeNameOfWhole_keyiter
abbrev cV:=@PySem.F.plainAttrs_dict
abbrev cW:=@Int.eq_ofNat_of_zero_le
abbrev cX:=@List.nodup_append
abbrev cY:=@PySem.F.slot_dict_setdefault
abbrev cZ:=@beq_eq_false_iff_ne
abbrev c6:=@PySem.Heap.get?_update_ne
abbrev c7:=@List.drop_eq_nil_of_le
abbrev c8:=@PySem.wpAny_call_entry
abbrev c9:=@PySem.tupleKind_room_in1
abbrev c_:=@PyProof.Rows.wpS_mono
abbrev de:=@PySem.F.slot_tuple_getattribute
abbrev df:=@List.extract_eq_take_drop
abbrev dg:=@List.mem_of_find?_eq_some
abbrev dh:=@List.filter_nil
abbrev di:=@List.filter_map
abbrev dj:=@Sum.inr.inj
abbrev dm:=@PySem.Calls.spliced_nil
abbrev dn:=@PySem.Calls.evalArgs_plain
abbrev dq:=@List.length_range
abbrev dw:=@List.pairwise_append
abbrev dy:=@Nat.lt_of_succ_lt
abbrev dz:=@decide_eq_true_eq
abbrev dA:=@PySem.F.slot_list_getattribute
abbrev dD:=@PySem.wpAny_typeNameOf_keyiter
abbrev dE:=@List.Perm.eq_of_pairwise
abbrev dG:=@PyProof.Rows.slot_tuple_getitem
abbrev dH:=@List.flatMap_append
abbrev dI:=@List.getElem?_cons_succ
abbrev dJ:=@Nat.succ_le_succ
abbrev dL:=@List.lt_irrefl
abbrev dM:=@Nat.le_succ
abbrev dN:=@Nat.le_of_lt
abbrev dO:=@List.getElem?_set_self
abbrev dP:=@PySem.wpAny_Call_Name_kw
abbrev dQ:=@Option.map_eq_some_iff
abbrev dR:=@Nat.le_of_eq
abbrev dS:=@PySem.wpAny_rule
abbrev dU:=@Nat.lt_of_le_of_ne
abbrev dW:=@Nat.eq_zero_of_not_pos
abbrev dY:=@Option.map_eq_none_iff
abbrev dZ:=@List.of_mem_zip
abbrev d_:=@List.length_set
abbrev eh:=@List.length_nil
abbrev ej:=@List.any_append
abbrev eA:=@Bool.false_or
abbrev eB:=@Bool.not_true
abbrev eC:=@PySem.Heap.get?_update_self
abbrev eD:=@Nat.le_of_ble_eq_true
abbrev eE:=@PySem.wpAny_notOrdered_dict
abbrev eG:=@List.take_append_drop
abbrev eI:=@PySem.wpAny_truthy_bool
abbrev eJ:=@PyProof.Rows.callWith_type1
abbrev eK:=@Array.toList_push
abbrev eM:=@List.reverse_perm
abbrev eN:=@Nat.le_of_succ_le
abbrev eO:=@Nat.le_succ_of_le
abbrev eQ:=@List.getElem?_set_ne
abbrev eT:=@Bool.false_and
abbrev eU:=@PySem.Around.under_plainId
abbrev eW:=@Array.toList_extract
abbrev eX:=@List.map_id
abbrev eY:=@Nat.ne_of_gt
abbrev eZ:=@Nat.min_le_right
abbrev e9:=@Nat.lt_succ_self
abbrev e_:=@Bool.or_true
abbrev fc:=@Bool.not_eq_true
abbrev fe:=@Bool.true_or
abbrev ff:=@List.getElem?_eq_none_iff
abbrev fg:=@PySem.F.slot_dict_getitem
abbrev fi:=@List.getElem?_range
abbrev fj:=@PySem.F.args_dict_keyiterator_next_1
abbrev fo:=@List.length_take_le
abbrev fq:=@Nat.lt_irrefl
abbrev ft:=@Option.isSome_iff_exists
abbrev fu:=@PySem.F.args_tuple_add_2
abbrev fw:=@Bool.or_false
abbrev fx:=@List.Pairwise.imp_of_mem
abbrev fy:=@PySem.F.entry_dict_keyiterator_next
abbrev fA:=@Bool.and_true
abbrev fB:=@PySem.wpAny_passesOwn
abbrev fC:=@Nat.le_add_left
abbrev fE:=@List.nil_append
abbrev fF:=@List.find?_some
abbrev fG:=@PySem.call_meets
abbrev fH:=@Exists.choose_spec
abbrev fI:=@PySem.F.entry_tuple_add
abbrev fJ:=@PySem.wpAny_callSpecial?_slot
abbrev fK:=@PySem.F.plainAttrs_list
abbrev fL:=@List.pairwise_singleton
abbrev fM:=@List.mem_range
abbrev fN:=@PySem.W.cellsFrom_some
abbrev fO:=@PySem.F.slot_tuple_add
abbrev fP:=@PySem.wpAny_Call_method
abbrev fQ:=@List.take_succ
abbrev fR:=@List.take_of_length_le
abbrev fS:=@PySem.wpAny_dictEntries
abbrev fT:=@Bool.not_eq_true'
abbrev fU:=@PySem.F.slot_dict_get
abbrev fV:=@List.Perm.append_left
abbrev fW:=@PySem.SeqAt.ReadsAll.length
abbrev fX:=@PySem.F.slot_dict_pop
abbrev fY:=@PyProof.Rows.callWith_builtin1
abbrev fZ:=@List.lookup_cons
abbrev f_:=@PyProof.Rows.wpS_modify
abbrev gb:=@PySem.F.args_dict_setdefault_3
abbrev ge:=@List.mem_flatMap
abbrev gg:=@PyProof.Rows.listUpdate_at
abbrev gh:=@Bool.and_self
abbrev gi:=@Bool.true_and
abbrev gj:=@Nat.eq_sub_of_add_eq
abbrev gm:=@PySem.F.entry_dict_setdefault
abbrev gn:=@Bool.or_eq_false_iff
abbrev gq:=@PySem.am_miss_of_fast
abbrev gr:=@PySem.codeAny_builtin
abbrev gv:=@List.filterMap_cons
abbrev gw:=@Nat.add_lt_add_left
abbrev gz:=@List.mergeSort_perm
abbrev gA:=@PySem.codeAny_mono
abbrev gC:=@PySem.call_meetsIn
abbrev gD:=@PyProof.Rows.wpS_get
abbrev gE:=@PySem.typeIs_str
abbrev gF:=@Nat.not_lt
abbrev gG:=@Nat.lt_of_le_of_lt
abbrev gH:=@Option.toList_some
abbrev gI:=@Bool.not_false
abbrev gJ:=@List.Nodup.sublist
abbrev gK:=@Sum.inl.inj
abbrev gM:=@Int.toNat_natCast
abbrev gP:=@Option.isSome_map
abbrev gQ:=@List.find?_append
abbrev gR:=@Std.lt_trichotomy
abbrev gS:=@List.Sublist.refl
abbrev gT:=@PySem.wpAny_attempt
abbrev gU:=@PySem.wpAny_newList
abbrev gV:=@List.map_take
abbrev gW:=@PySem.W.mg_of
abbrev gX:=@List.cons_ne_nil
abbrev gY:=@List.length_drop
abbrev gZ:=@List.map_snd_zip
abbrev g7:=@List.cons_append
abbrev g8:=@beq_self_eq_true
abbrev g9:=@List.perm_middle
abbrev g_:=@List.flatMap_nil
abbrev hU:=@Nat.lt_trans
abbrev hV:=@Nat.add_zero
abbrev hW:=@dif_pos
theorem qI{p:Prop}:p=p:=propext Iff.rfl
theorem zz0(h:True:=by first|exact .inl rfl|exact .inr rfl|assumption):True:=h
theorem zz1(h:True:=by decide):True:=h
theorem zz2(h:True:=by intro _;rfl):True:=h
theorem zz3(h:True:=by rfl):True:=h
theorem zz4(h:True:=by first|exact Or.inl rfl|exact Or.inr (Or.inl rfl)|exact Or.inr (Or.inr rfl)):True:=h
theorem zz5(h:True:=by first|exact qH _|rfl):True:=h
theorem zz6(h:True:=by intro _ _;rfl):True:=h
theorem zz7(h:True:=by first|exact Or.inl rfl|exact Or.inr rfl):True:=h
theorem zz8(h:True:=by exact gX _ _):True:=h
theorem zz9(h:True:=by first|decide|lia):True:=h
theorem zz10(h:True:=by exact rfl):True:=h
theorem zz11(h:True:=by first|exact .inl rfl|exact .inr rfl):True:=h
theorem zz12(h:True:=by first|exact .inr (.inl rfl)|exact .inr (.inr rfl)):True:=h
theorem zz13(h:True:=by exact⟨rfl,rfl,rfl,rfl⟩):True:=h
local macro_rules | `(tactic| walk_at"k")=>`(tactic| decide +kernel)
local macro_rules | `(tactic| walk_at"s")=>`(tactic| exact ⟨rfl,rfl,rfl,by walk_at"k",rfl,by walk_at"k",by walk_at"k"⟩)
local macro_rules | `(tactic| walk_at"w")=>`(tactic| (first | decide | lia))
abbrev Fk:=PySem.W.Frag
namespace L2
open PySem PySem.Spec PyProof.Rows
abbrev Key:=Sum Int Str
noncomputable def Eh:Key->Value->Bool
 | .inl k,v=>Value.isInt k v
 | .inr x,v=>Value.isStrOf x v
noncomputable def sE(w:World):Key->Int
 | .inl k=>hashInt k
 | .inr x=>hashStr w x
theorem Qb:∀{k:Key}{v:Value},Eh k v=true->(∃i t,k=Sum.inl i/\v=Value.int i t)\/(∃x t,k=Sum.inr x/\v=Value.str x t)
 | .inl i,v,h=>by
  obtain⟨t,e⟩:=Value.isInt_shape (k:=i) (v:=v) h;exact .inl ⟨i,t,rfl,e⟩
 | .inr x,v,h=>by
  obtain⟨t,e⟩:=Value.isStrOf_shape (x:=x) (v:=v) h;exact .inr ⟨x,t,rfl,e⟩
theorem SF(i:Int)(t:Tok):Eh (.inl i) (.int i t)=true:=by simp[Eh,Value.isInt]
theorem Nm(x:Str)(t:Tok):Eh (.inr x) (.str x t)=true:=by simp[Eh,Value.isStrOf]
theorem rm(a b:Int):decide ((Sum.inl a:Key)=Sum.inl b)=(a==b):=by
 by_cases e:a=b
 ·subst e;simp
 ·have h:¬ (Sum.inl a:Key)=Sum.inl b:=λq=>e (gK q);rw[aZ h];exact(cZ.mpr e).symm
theorem uT(a b:Str):decide ((Sum.inr a:Key)=Sum.inr b)=decide (a=b):=by
 by_cases e:a=b
 ·subst e;simp
 ·have h:¬ (Sum.inr a:Key)=Sum.inr b:=λq=>e (dj q);rw[aZ h,aZ e]
theorem xY(a:Int)(b:Str):decide ((Sum.inl a:Key)=Sum.inr b)=false:=aZ (λq=>nomatch q)
theorem rT(a:Str)(b:Int):decide ((Sum.inr a:Key)=Sum.inl b)=false:=aZ (λq=>nomatch q)
noncomputable def Zx(prog:Program)(w:World):PySem.KeyKind prog w Key where
 is:=Eh
 hash:=sE w
 inj:=λv a b ha hb=>by
  rcases Qb ha with⟨i,t,rfl,rfl⟩|⟨x,t,rfl,rfl⟩
  ·rcases Qb hb with⟨j,u,rfl,e⟩|⟨y,u,rfl,e⟩
   ·injection e with e1 _;rw[e1]
   ·exact nomatch e
  ·rcases Qb hb with⟨j,u,rfl,e⟩|⟨y,u,rfl,e⟩
   ·exact nomatch e
   ·injection e with e1 _;rw[e1]
 byValue:=λk v h=>by
  rcases Qb h with⟨i,t,rfl,rfl⟩|⟨x,t,rfl,rfl⟩<;>rfl
 pyHash:=λhv h=>by
  rcases Qb hv with⟨i,t,rfl,rfl⟩|⟨x,t,rfl,rfl⟩
  ·exact wpAny_pyHash_int h
  ·exact wpAny_pyHash_str h
 eqBool:=λhu hv h=>by
  rcases Qb hu with⟨i,t,rfl,rfl⟩|⟨x,t,rfl,rfl⟩
  ·rcases Qb hv with⟨j,u,rfl,rfl⟩|⟨y,u,rfl,rfl⟩
   ·rw[rm]at h;exact wpAny_eqBool_int h
   ·rw[xY]at h;exact SeqAt.EqAt.int_str i t y u _ _ _ _ h
  ·rcases Qb hv with⟨j,u,rfl,rfl⟩|⟨y,u,rfl,rfl⟩
   ·rw[rT]at h;exact SeqAt.EqAt.str_int x t j u _ _ _ _ h
   ·rw[uT]at h;exact wpAny_eqBool_str h
 «strs»:= λk x t v h=>by
  rcases Qb h with⟨i,u,rfl,e⟩|⟨y,u,rfl,e⟩
  ·exact nomatch e
  ·injection e with e1 _
   subst e1;cases v<;>rfl
theorem Er(prog:Program)(w:World)(i:Int)(t:Tok):(Zx prog w).is (.inl i) (.int i t)=true:=SF i t
theorem Jw(prog:Program)(w:World)(x:Str)(t:Tok):(Zx prog w).is (.inr x) (.str x t)=true:=Nm x t
inductive V where
 |non|bl (b:Bool)|int (i:Int)|str (x:Str)|byt (b:Array UInt8)|flt (b:UInt64)|ref (a:Addr)|ty (n:String)
 deriving DecidableEq
def RelV:V->Value->Prop
 | .non,u=>u=Value.none
 | .bl b,u=>u=Value.bool b
 | .int i,u=>∃ t,u=Value.int i t
 | .str x,u=>∃ t,u=Value.str x t
 | .byt b,u=>∃ t,u=Value.bytes b t
 | .flt b,u=>∃ t,u=Value.float b t
 | .ref a,u=>u=Value.ref a
 | .ty n,u=>u=Value.type n
abbrev Vals:List V->List Value->Prop:=Paired RelV
theorem Vals.length{xs:List V}{us:List Value}(r:Vals xs us):xs.length=us.length:=bC r
theorem Vals.get:∀{xs:List V}{us:List Value}{i:Nat}{x:V},Vals xs us->xs[i]?=some x->∃ u,us[i]?=some u/\RelV x u
 |_,_,_,_,.nil,e=>by simp at e
 |_,_,0,_,.cons r _,e=>by simp at e;subst e;exact⟨_,rfl,r⟩
 |_,_,i+1,x,.cons _ t,e=>by
  obtain⟨u,a,b⟩:=Vals.get (i:=i) (x:=x) t (by simpa using e);exact⟨u,by simpa using a,b⟩
theorem Vals.set{x:V}{u:Value}(r:RelV x u):∀{xs:List V}{us:List Value}(i:Nat),Vals xs us->Vals (xs.set i x) (us.set i u)
 |_,_,_,.nil=>.nil
 |_,_,0,.cons _ t=>.cons r t
 |_,_,i+1,.cons q t=>.cons q (Vals.set r i t)
theorem Vals.append:∀{xs a:List V}{us b:List Value},Vals xs us->Vals a b->Vals (xs++a) (us++b)
 |_,_,_,_,.nil,s=>s
 |_,_,_,_,.cons r t,s=>.cons r (Vals.append t s)
theorem Vals.take:∀{xs:List V}{us:List Value}(n:Nat),Vals xs us->Vals (xs.take n) (us.take n)
 |_,_,0,_=>.nil
 |_,_,_+1,.nil=>.nil
 |_,_,n+1,.cons r t=>.cons r (Vals.take n t)
theorem Vals.drop:∀{xs:List V}{us:List Value}(n:Nat),Vals xs us->Vals (xs.drop n) (us.drop n)
 |_,_,0,r=>r
 |_,_,_+1,.nil=>.nil
 |_,_,n+1,.cons _ t=>Vals.drop n t
theorem Vals.none_of:∀{xs:List V}{us:List Value}{i:Nat},Vals xs us->xs[i]?=none->us[i]?=none:=λ{xs us i} r e=>by
 have a:=r.length;have b:xs.length<=i:=ff.mp e;exact ff.mpr (by lia)
def Lp:Option V->Option Value->Prop
 |some v,some u=>RelV v u
 |none,none=>True
 |_,_=>False
def KV{a:Type}:List (a×V)->List (a×Value)->Prop:=Paired λ(p:a×V) (q:a×Value)=>p.1=q.1/\RelV p.2 q.2
noncomputable def kV:Key->V
 | .inl i=>.int i
 | .inr x=>.str x
inductive HO where
  |lst (xs:List V)
  |tup (xs:List V)
  |dK (kvs:List (Key×V))|dT (kvs:List (List Key×V))
  |set (S:Int->Bool) (n:Nat)
  |ins (C dx:Addr) (fs:List (Str×V))
  |own (x:Addr)
  |xd (fs:List (Str×V))
  |met (f x:Addr)
  |rng (lo hi:Int)
  |frz (o:Obj) (u:HO)
  |tbl (ps:Array Value)
  |ext (φ:Heap->Prop)
abbrev Hp:=Addr->Option HO
noncomputable def upd(H:Hp)(a:Addr)(o:HO):Hp:=λb=>if b=a then some o else H b
theorem Z0{H:Hp}{a:Addr}{o:HO}:upd H a o a=some o:=by unfold upd;rw[aw rfl]
theorem ZH{H:Hp}{a b:Addr}{o:HO}(h:b≠a):upd H a o b=H b:=by unfold upd;rw[ao h]
theorem pj{H:Hp}{a b:Addr}{o u:HO}(h:H a=some o)(h':H b=some u)(d:o≠u):a≠b:=by
 intro e;subst e;rw[h]at h';exact d (bq h')
theorem ZL{H:Hp}{a b:Addr}{o:HO}(h:H a=some o)(h':H b=none):a≠b:=by
 intro e;subst e;rw[h]at h';cases h'
def Y5(h:Heap)(a:Addr)(b:Array Value):Prop:=∃ o,h.get? a=some o/\o.cls=.type "tuple"/\∃n,o.data=.seq b n/\o.dict=none
theorem Y5.is{h:Heap}{a:Addr}{b:Array Value}(x:Y5 h a b):IsTup h a b:=let⟨o,c,d,n,e,_⟩:=x;⟨o,c,d,n,e⟩
theorem Y5.new(h:Heap)(a:Array Value):Y5 (h.push {cls:=.type "tuple",data:=.seq a}) h.objs.size a:=⟨_,aR _ rfl,rfl,_,rfl,rfl⟩
section
variable(P:Program)(w:World)
def Qc(H:Hp)(h:Heap)(a:Addr):HO->Prop
 | .lst d=>d.length<=sizeLine/\∃(b:List Value)(n:Nat),Vals d b/\h.get? a=some {cls:=.type "list",data:=.seq b.toArray n}
 | .tup d=>d.length<=sizeLine/\∃b:List Value,Vals d b/\Y5 h a b.toArray
 | .dK c=>c.length<=sizeLine/\(a==sysModules)=false/\∃l,KV c l/\h.DictOf (Zx P w) a l
 | .dT c=>c.length<=sizeLine/\(a==sysModules)=false/\∃d:List (List Key×Addr×Value),
   Paired (λ(p:List Key×V) (q:List Key×Addr×Value)=>p.1=q.1/\H q.2.1=some (.tup (p.1.map kV))/\RelV p.2 q.2.2) c d/\
   ∃o m y,h.get? a=some o/\o.ExactDict/\o.data=.dict m y/\m.toList=d.map (entryOfKey (tupleKind (Zx P w)))/\(d.map (·.1)).Nodup
 | .set S n=>h.SetOf (intKind P w) a S n
 | .ins C i g=>H i=some (.own a)/\g.length<=1000/\i≠a/\h.get? a=some (PySem.W.instObj C i)/\
   ∃e,h.Ns1 i e/\(∀f,Lp (g.lookup f) (e f))/\PySem.Within e (g.map (·.1))
 | .own _=>∃ o,h.get? a=some o
 | .xd g=>∃ e,h.Ns1 a e/\∀f,Lp (g.lookup f) (e f)
 | .rng lo z=>∃ t u v,h.get? a=some {cls:=.type "range",data:=.fields #[.int lo t,.int z u,.int 1 v]}
 | .frz o u=>h.get? a=some o/\Qc H h a u
 | .tbl ps=>h.get? a=some {cls:=.none,data:=.fields ps}
 | .met f x=>h.get? a=some (PySem.W.methodObj (.ref f) (.ref x))
 | .ext j=>j h/\(∃o,h.get? a=some o)/\∀r s:Heap,j r->(∀o,r.get? a=some o->s.get? a=some o)->j s
def HOk(H:Hp)(h:Heap):Prop:=∀ a o,H a=some o->Qc P w H h a o
end
section
variable{P:Program}{w:World}{H H':Hp}{h h':Heap}{a:Addr}{o:HO}
theorem Qc.lt(x:Qc P w H h a o):a<h.objs.size:=by
 cases o with
 |lst c=>obtain⟨_,_,_,_,e⟩:=x;exact aL e
 |tup c=>obtain⟨_,_,_,p⟩:=x;exact p.is.lt
 |dK b=>obtain⟨_,_,_,_,o,_,_,e,_⟩:=x;exact aL e
 |dT b=>obtain⟨_,_,_,_,o,_,_,e,_⟩:=x;exact aL e
 |set S n=>obtain⟨o,_,_,_,e,_⟩:=x;exact aL e
 |ins C g d=>obtain⟨_,_,_,e,_⟩:=x;exact aL e
 |own y=>obtain⟨_,e⟩:=x;exact aL e
 |xd d=>obtain⟨_,⟨_,_,_,e,_⟩,_⟩:=x;exact aL e
 |rng lo i=>obtain⟨_,_,_,e⟩:=x;exact aL e
 |frz j u=>obtain⟨e,_⟩:=x;exact aL e
 |tbl ps=>exact aL (show h.get? a=some _ from x)
 |met f y=>exact aL (show h.get? a=some _ from x)
 |ext l=>obtain⟨_,⟨_,e⟩,_⟩:=x;exact aL e
theorem Paired.fm{e g:Type}{F G:e->g->Prop}:∀{c:List e}{d:List g},Paired F c d->(∀a b,F a b->G a b)->Paired G c d
 |_,_,.nil,_=>.nil
 |_,_,.cons r t,f=>.cons (f _ _ r) (Paired.fm t f)
theorem Qc.stay(x:Qc P w H h a o)(k:∀ b u,(b=a\/H b=some (.own a))->h.get? b=some u->h'.get? b=some u)
  (B:∀ b,H b=some (.own a)->H' b=some (.own a)) (D:∀ b xs,H b=some (.tup xs)->H' b=some (.tup xs)):Qc P w H' h' a o:=by
 induction o with
 |lst xs=>obtain⟨z,l,n,r,e⟩:=x;exact⟨z,l,n,r,k _ _ (.inl rfl) e⟩
 |tup xs=>obtain⟨z,l,r,g,e,c⟩:=x;exact⟨z,l,r,g,k _ _ (.inl rfl) e,c⟩
 |dK m=>obtain⟨z,y,E,r,g,i,j,e,c⟩:=x;exact⟨z,y,E,r,g,i,j,k _ _ (.inl rfl) e,c⟩
 |dT m=>
  obtain⟨z,y,xs,r,g,i,j,e,c⟩:=x;exact⟨z,y,xs,Paired.fm r λp q z=>⟨z.1,D _ _ z.2.1,z.2.2⟩,g,i,j,k _ _ (.inl rfl) e,c⟩
 |set S n=>obtain⟨g,i,j,t,e,c⟩:=x;exact⟨g,i,j,t,k _ _ (.inl rfl) e,c⟩
 |ins C M G=>
  obtain⟨d,z,I,e,s,⟨A,i,j,J,c⟩,r⟩:=x;exact⟨B _ d,z,I,k _ _ (.inl rfl) e,s,⟨A,i,j,k _ _ (.inr d) J,c⟩,r⟩
 |own y=>obtain⟨g,e⟩:=x;exact⟨g,k _ _ (.inl rfl) e⟩
 |xd G=>obtain⟨s,⟨A,i,j,e,c⟩,r⟩:=x;exact⟨s,⟨A,i,j,k _ _ (.inl rfl) e,c⟩,r⟩
 |rng lo N=>obtain⟨t,u,v,e⟩:=x;exact⟨t,u,v,k _ _ (.inl rfl) e⟩
 |frz g u L=>obtain⟨e,q⟩:=x;exact⟨k _ _ (.inl rfl) e,L q⟩
 |tbl ps=>
  have e:h.get? a=some {cls:=.none,data:=.fields ps}:=x;show h'.get? a=some {cls:=.none,data:=.fields ps};exact k a _ (.inl rfl) e
 |met f y=>
  have e:h.get? a=some (PySem.W.methodObj (.ref f) (.ref y)):=x;show h'.get? a=some (PySem.W.methodObj (.ref f) (.ref y));exact k a _ (.inl rfl) e
 |ext O=>obtain⟨p,⟨o,e⟩,st⟩:=x;exact⟨st _ _ p λo q=>k _ _ (.inl rfl) q,⟨o,k _ _ (.inl rfl) e⟩,st⟩
theorem HOk.lt(x:HOk P w H h)(e:H a=some o):a<h.objs.size:=(x a o e).lt
theorem HOk.fresh(x:HOk P w H h)(e:h.objs.size<=a):H a=none:=by
 cases q:H a with
 |none=>rfl
 |some u=>exact absurd (aP (x.lt q) e) (fq _)
theorem HOk.kept(x:HOk P w H h)(k:∀ b u,h.get? b=some u->h'.get? b=some u):HOk P w H h':=λa o e=>
 (x a o e).stay (λb u _ q=>k b u q) (λ_ q=>q) λ_ _ q=>q
theorem HOk.laid(x:HOk P w H h)(k:∀ b u,h.get? b=some u->h'.get? b=some u)(i:h.objs.size<=a)(d:Qc P w (upd H a o) h' a o):HOk P w (upd H a o) h':=λb u e=>by
 have f:=x.fresh i
 by_cases g:b=a
 ·subst g;rw[Z0]at e;cases e;exact d
 ·rw[ZH g]at e;exact(x b u e).stay (λc v _ q=>k c v q) (λc q=>by rw[ZH (ZL q f)];exact q) λc j q=>by rw[ZH (ZL q f)];exact q
end
def Rd(H:Hp)(a:Addr)(u:HO):Prop:=H a=some u\/∃o,H a=some (.frz o u)
theorem Rd.ok{P:Program}{w:World}{H:Hp}{h:Heap}{a:Addr}{u:HO}(r:Rd H a u)(x:HOk P w H h):Qc P w H h a u:=by
 rcases r with r|⟨o,r⟩
 ·exact x a u r
 ·obtain⟨_,q⟩:=x a _ r;exact q
def Mut:Option HO->Prop
 |some (.lst _)=>True
 |some (.dK _)=>True
 |some (.dT _)=>True
 |some (.set _ _)=>True
 |some (.ins _ _ _)=>True
 |some (.ext _)=>True
 |_=>False
section
variable{P:Program}{w:World}{H:Hp}{h h':Heap}{x e:Addr}{o':HO}
theorem HOk.write(s:HOk P w H h)(g:Mut (H x))(o:e=x\/H e=some (.own x))(k:∀ b u,b≠e->h.get? b=some u->h'.get? b=some u)(m:∃ u,h'.get? e=some u)
  (n:Qc P w (upd H x o') h' x o'):HOk P w (upd H x o') h':=λb u q=>by
 have d:∀ c y,H c=some (.own y)->c≠x:=λc y r z=>by subst z;rw[r]at g;exact g
 have f:∀ c i,H c=some (.tup i)->c≠x:=λc i r z=>by subst z;rw[r]at g;exact g
 by_cases j:b=x
 ·subst j;rw[Z0]at q;cases q;exact n
 ·rw[ZH j]at q
  by_cases a:b=e
  ·have p:H b=some (.own x):=by
    rcases o with z|z
    ·exact absurd (a.trans z) j
    ·rw[a];exact z
   rw[q]at p;cases p;obtain⟨v,t⟩:=m;exact⟨v,by rw[a];exact t⟩
  ·refine(s b u q).stay (λc v l r=>k c v ?_ r) (λc r=>by rw[ZH (d c b r)];exact r) λc i r=>by rw[ZH (f c i r)];exact r
   rcases l with rfl|l
   ·exact a
   ·rintro rfl
    rcases o with z|z
    ·exact d c b l z
    ·rw[l]at z;cases z;exact j rfl
end
structure Un(fs ex:List Addr)(H H':Hp)(h h':Heap):Prop where
 keep:∀ b o,h.get? b=some o->H b=none->b∉fs->b∉ex->h'.get? b=some o
 slot:∀ b o,h.get? b=some o->H b=none->b∈fs->b∉ex->∃ sl,h'.get? b=some {o with slots:=sl}
 free:∀ b o,h.get? b=some o->H b=none->b∉ex->H' b=none
 there:∀ b o,h.get? b=some o->b∉ex->∃ o',h'.get? b=some o'
 tups:∀ b xs,H b=some (.tup xs)->H' b=some (.tup xs)
 frzs:∀ b o u,H b=some (.frz o u)->H' b=some (.frz o u)
 tbls:∀ b ps,H b=some (.tbl ps)->∃ more,H' b=some (.tbl (ps++more))
section
variable{fs fs' ex ex':List Addr}{H H1 H2:Hp}{h h1 h2 h':Heap}{a x e:Addr}{o:HO}
theorem Un.any(u:Un fs ex H H1 h h1){b:Addr}{ob:Obj}(q:h.get? b=some ob)(n:H b=none)(c:b∉ex):∃ f,h1.get? b=some {ob with slots:=f}:=by
 by_cases d:b∈fs
 ·exact u.slot b ob q n d c
 ·exact⟨ob.slots,u.keep b ob q n d c⟩
theorem Un.kept(k:∀ b u,h.get? b=some u->h'.get? b=some u):Un fs ex H H h h':=
 ⟨λb c q _ _ _=>k b c q,λb c q _ _ _=>⟨c.slots,k b c q⟩,λ_ _ _ n _=>n,λb c q _=>⟨c,k b c q⟩,λ_ _ q=>q,λ_ _ _ q=>q,λ_ ps q=>⟨#[],by rw[q];simp⟩⟩
theorem Un.refl:Un fs ex H H h h:=Un.kept λ_ _ q=>q
theorem Un.laid(k:∀ b u,h.get? b=some u->h'.get? b=some u)(hp:h.objs.size<=a)(hn:H a=none):Un fs ex H (upd H a o) h h' where
 keep:=λb u q _ _ _=>k b u q
 slot:=λb u q _ _ _=>⟨u.slots,k b u q⟩
 free:=λb u q n _=>by rw[ZH (bf (aP (aL q) hp))];exact n
 there:=λb u q _=>⟨u,k b u q⟩
 tups:=λb xs q=>by rw[ZH (ZL q hn)];exact q
 frzs:=λb u xs q=>by rw[ZH (ZL q hn)];exact q
 tbls:=λb ps q=>⟨#[],by rw[ZH (ZL q hn),q];simp⟩
theorem Un.write(d:Mut (H x))(l:e=x\/H e=some (.own x))(k:∀ b u,b≠e->h.get? b=some u->h'.get? b=some u)(f:∃ u,h'.get? e=some u):Un fs ex H (upd H x o) h h':=by
 have i:∀ b,H b=none->b≠x:=λb n z=>by subst z;rw[n]at d;exact d
 have j:∀ b,H b=none->b≠e:=λb n z=>by
  subst z
  rcases l with r|r
  ·exact i b n r
  ·rw[n]at r;cases r
 have g:∀ b u,H b=some u->¬ Mut (some u)->b≠x:=λb u q m z=>by subst z;rw[q]at d;exact m d
 refine⟨λb u q n _ _=>k b u (j b n) q,λb u q n _ _=>⟨u.slots,k b u (j b n) q⟩,λb u q n _=>by rw[ZH (i b n)];exact n,λb u q _=>?_,
  λb p q=>by rw[ZH (g b _ q λz=>z)];exact q,λb u p q=>by rw[ZH (g b _ q λz=>z)];exact q,λb ps q=>⟨#[],by rw[ZH (g b _ q λz=>z),q];simp⟩⟩
 by_cases c:b=e
 ·subst c;exact f
 ·exact⟨u,k b u c q⟩
end
noncomputable def trk(h:Heap)(H:Hp):List Addr:=(List.range h.objs.size).filter λa=>(H a).isSome
noncomputable def Tf(h:Heap)(H:Hp):Heap:=PySem.W.hideAll h (trk h H)
theorem Rg(h:Heap)(H:Hp):(Tf h H).objs.size=h.objs.size:=PySem.W.hideAll_size _ _
theorem xh{h:Heap}{H:Hp}{b:Addr}{o:Obj}(e:h.get? b=some o)(n:H b=none):(Tf h H).get? b=some o:=
 PySem.W.hideAll_get _ e λa=>by
  have q:(H b).isSome=true:=(ah.mp a).2;rw[n]at q;simp at q
theorem rJ{h:Heap}{H:Hp}{b:Addr}{o:Obj}(e:(Tf h H).get? b=some o):h.get? b=some o/\H b=none:=by
 have a:h.get? b=some o:=PySem.W.of_hideAll (trk h H) e;refine⟨a,?_⟩;cases q:H b with
 |none=>rfl
 |some x=>
  have c:b∈trk h H:=ah.mpr ⟨fM.mpr (aL a),by simp[q]⟩;have z:(Tf h H).get? b=none:=PySem.W.hideAll_none (trk h H) c;rw[z]at e;cases e
noncomputable def vk(g h:Heap)(L:Addr):List (Addr×Obj):=(List.range h.objs.size).filterMap λa=>if a=L\/(g.get? a).isSome=true then none else(h.get? a).map λo=>(a,o)
noncomputable def rest(g h:Heap)(L d:Addr):List (Addr×Obj):=(vk g h L).filter λp=>decide (p.1≠d)
structure Mod(K:Fk)(mg:Str->Option Value)(base:Heap):Prop where
 kin:K.In base
 glob:base.Ns mainGlobals mg
 blt:∃ mb,base.Ns builtinsNs mb/\∀x:Str,x≠"__name__"->mb x=bootBuiltins x
 nolimit:base.NoLimit
structure Cx where
 prog:Program
 w:World
 K:Fk
 mg:Str->Option Value
 base:Heap
 A:Around
 N:List Str
 s₀:Shared
 H₀:Hp
 env:Env
 outer:List Env
 stack:List Env
 ex:List Addr
 fn:Str->Bool
 calm:Bool
 pn:List (Addr×Obj)
 xe:Value->Shared->Prop
noncomputable def frs(l:List Env):List Addr:=l.filterMap (·.frame)
noncomputable abbrev Cx.fs(X:Cx):List Addr:=frs X.outer
def Vis(sc:Scope)(x:Str):Prop:=sc.names.lookup x=some .local\/sc.names.lookup x=some .cell\/sc.names.lookup x=some .free
def Loc(sc:Scope)(x:Str):Prop:=sc.names.lookup x=some .local\/sc.names.lookup x=some .cell
def Look(env:Env)(h:Heap)(m:Str->Option Value)(x:Str)(u:Value):Prop:=
 (env.kindOf x=some .local/\m x=some u)\/((env.kindOf x=some .cell\/env.kindOf x=some .free)/\∃c,env.cells.lookup x=some c/\h.IsCell c (some u))
structure Cx.Ok(X:Cx):Prop where
 mod:Mod X.K X.mg X.base
 kind:X.env.scope.kind=.function
 glob:X.env.globals=mainGlobals
 blt:X.env.builtins=builtinsNs
 above:X.s₀.heap.objs.size<=X.env.locals
 inj:∀ x y c,X.env.cells.lookup x=some c->X.env.cells.lookup y=some c->x=y
 has:∀ x,(X.env.kindOf x=some .cell\/X.env.kindOf x=some .free)->∃ c,X.env.cells.lookup x=some c
 cab:∀ x c,X.fn x=true->X.env.cells.lookup x=some c->X.s₀.heap.objs.size<=c
 hd:X.calm=true->X.A.handled=none
 frames:X.A.frames=some X.stack
 stk:X.stack=X.outer\/(X.stack=X.env::X.outer/\X.env.frame=some X.env.locals)
 exf:∀ b∈X.ex,b≠X.env.locals/\∀x c,X.env.cells.lookup x=some c->c≠b
 bs:∀ b o,X.base.get? b=some o->X.s₀.heap.get? b=some o/\X.H₀ b=none
 bsz:X.base.objs.size<=X.s₀.heap.objs.size
 noex:∀ b o,X.base.get? b=some o->b∉X.ex
 exfs:∀ b∈X.ex,b∉X.fs
 CD:X.s₀.heap.FunFrames X.base X.outer
 frf:∀ b∈X.fs,X.H₀ b=none
structure Inv(X:Cx)(pins:List (Addr×Obj))(σ:List (Option V))(H:Hp)(s:Shared):Prop where
 ok:X.Ok
 os:s.os=X.s₀.os
 bare:AllBare s.gens
 base:Un X.fs X.ex X.H₀ H X.s₀.heap s.heap
 loc:∃ m,s.heap.Ns X.env.locals m/\∀(i:Nat)(x:Str)(v:V),X.N[i]?=some x->σ[i]?=some (some v)->Vis X.env.scope x->∃ u,RelV v u/\Look X.env s.heap m x u
 cell:∀ x c,X.env.cells.lookup x=some c->∃ v,s.heap.IsCell c v
 free:H X.env.locals=none
 freeC:∀ x c,X.env.cells.lookup x=some c->H c=none
 pin:∀ p∈X.pn++pins,s.heap.get? p.1=some p.2/\H p.1=none/\p.1≠X.env.locals/\p.1∉X.fs/\∀v,p.2.data≠.cell v
 hok:HOk X.prog X.w H s.heap
 len:σ.length=X.N.length
section
variable{X:Cx}{pins:List (Addr×Obj)}{σ:List (Option V)}{H H':Hp}{s:Shared}{h':Heap}
theorem Cx.Ok.rZ(a:X.Ok){b:Addr}{o:Obj}(e:X.base.get? b=some o):b∉X.fs:=λc=>by
 have:=(a.CD.mem c).1;rw[e]at this;cases this
theorem Inv.bs(I:Inv X pins σ H s):∀ b o,X.base.get? b=some o->s.heap.get? b=some o/\H b=none:=λb o e=>
 ⟨I.base.keep b o (I.ok.bs b o e).1 (I.ok.bs b o e).2 (I.ok.rZ e) (I.ok.noex b o e),I.base.free b o (I.ok.bs b o e).1 (I.ok.bs b o e).2 (I.ok.noex b o e)⟩
theorem Inv.bk(I:Inv X pins σ H s):∀ b o,X.base.get? b=some o->s.heap.get? b=some o:=λb o e=>(I.bs b o e).1
theorem Inv.mod(I:Inv X pins σ H s):Mod X.K X.mg X.base:=I.ok.mod
theorem Inv.kIn(I:Inv X pins σ H s):X.K.In s.heap:=I.ok.mod.kin.keeps I.bk
theorem Inv.lt(I:Inv X pins σ H s):X.env.locals<s.heap.objs.size:=let⟨_,a,_⟩:=I.loc;a.lt
theorem Inv.sz(I:Inv X pins σ H s):X.s₀.heap.objs.size<=s.heap.objs.size:=aA I.ok.above (dN I.lt)
theorem Inv.vT(I:Inv X pins σ H s){a:Addr}(h:s.heap.objs.size<=a):a∉X.fs:=λb=>by
 obtain⟨_,o,c,_⟩:=I.ok.CD.mem b;exact absurd (aP (aL c) (aA I.sz h)) (fq _)
theorem Inv.cne(I:Inv X pins σ H s):∀ x c,X.env.cells.lookup x=some c->c≠X.env.locals:=λx c e z=>by
 obtain⟨v,o,d,hd⟩:=I.cell x c e;obtain⟨m,⟨f,g,h,a,b,_⟩,_⟩:=I.loc;rw[z,a]at d;cases d;rw[b]at hd;cases hd
theorem Inv.CD(I:Inv X pins σ H s):s.heap.FunFrames X.base X.outer:=by
 have all:∀(l:List Env),(∀b∈frs l,b∈X.fs)->X.s₀.heap.FunFrames X.base l->s.heap.FunFrames X.base l:=by
  intro l
  induction l with
  |nil=>intro _ _;trivial
  |cons g r h=>
   intro f i;obtain⟨j,⟨L,o,a,m,n,hd⟩,p⟩:=i;have c:L∈X.fs:=f L (by unfold frs;rw[gv,a];exact aj);obtain⟨q,e⟩:=I.base.slot L o n (I.ok.frf L c) c λz=>I.ok.exfs L z c;exact⟨j,⟨L,_,a,m,e,hd⟩,h (λb d=>f b (by unfold frs;rw[gv,a];exact aq _ d)) p⟩
 exact all X.outer (λ_ d=>d) I.ok.CD
theorem Inv.stack(I:Inv X pins σ H s):s.heap.FunFrames X.base X.stack:=by
 rcases I.ok.stk with e|⟨e,a⟩
 ·rw[e];exact I.CD
 ·rw[e];obtain⟨m,b,_⟩:=I.loc;refine .cons (by rw[I.ok.kind];decide) a b ?_ I.CD;exact Heap.get?_none_of_le (aA I.ok.bsz I.ok.above)
theorem Inv.PB(I:Inv X pins σ H s):∀ b∈frs X.stack,b∈X.env.locals::X.fs:=λb a=>by
 rcases I.ok.stk with e|⟨e,c⟩
 ·rw[e]at a;exact aq _ a
 ·rw[e]at a;unfold frs at a;rw[gv,c]at a;exact a
theorem Inv.P9(I:Inv X pins σ H s):∀ b∈frs X.stack,H b=none:=λb a=>by
 rcases aW.mp (I.PB b a)with e|a
 ·rw[e];exact I.free
 ·obtain⟨_,o,c,_⟩:=I.ok.CD.mem a;exact I.base.free b o c (I.ok.frf b a) λz=>I.ok.exfs b z a
theorem Inv.step{g':Array GenState}{t':Nat}{d':Drawn}{ch:List Addr}(I:Inv X pins σ H s)
  (g:∀ b∈ch,(b∈X.ex\/X.s₀.heap.objs.size<=b)/\b≠X.env.locals/\(∀x c,X.env.cells.lookup x=some c->c≠b)/\∀p∈X.pn++pins,p.1≠b)
  (h:∀ b o,b≠X.env.locals->b∉X.fs->b∉ch->s.heap.get? b=some o->H b=none->h'.get? b=some o)
  (B:∀ b o,b≠X.env.locals->b∈X.fs->b∉ch->s.heap.get? b=some o->H b=none->∃ T,h'.get? b=some {o with slots:=T}) (f:∀ b o,b∉ch->s.heap.get? b=some o->H b=none->H' b=none)
  (C:∀ b o,b∉ch->s.heap.get? b=some o->∃ G,h'.get? b=some G)
  (J:∀ b xs,H b=some (.tup xs)->H' b=some (.tup xs)) (L:∀ b o u,H b=some (.frz o u)->H' b=some (.frz o u)) (M:∀ b ps,H b=some (.tbl ps)->∃ N,H' b=some (.tbl (ps++N)))
  (ns:∀ m,s.heap.Ns X.env.locals m->h'.Ns X.env.locals m) (U:HOk X.prog X.w H' h') (hg:AllBare g'):
  Inv X pins σ H' {s with heap:=h',gens:=g',drawn:=d',toks:=t'}:=by
 have O:∀ b o,X.s₀.heap.get? b=some o->b≠X.env.locals:=λb o e=>bf (aP (aL e) I.ok.above);have y:∀ b o,X.s₀.heap.get? b=some o->b∉X.ex->b∉ch:=λb o e a D=>by
  rcases(g b D).1 with z|z
  ·exact a z
  ·exact absurd (aP (aL e) z) (fq _)
 have j:∀ x c,X.env.cells.lookup x=some c->∀ v,s.heap.IsCell c v->h'.IsCell c v:=λx c e v z0=>by 
  obtain⟨o,E,hd⟩:=z0
  have t:c∉ch:=λz=>(g c z).2.2.1 x c e rfl
  by_cases hc:c∈X.fs
  ·obtain⟨T,q⟩:=B c o (I.cne x c e) hc t E (I.freeC x c e);exact⟨_,q,hd⟩
  ·exact⟨o,h c o (I.cne x c e) hc t E (I.freeC x c e),hd⟩
 refine⟨I.ok,I.os,hg,⟨λb o e n D a=>?_,λb o e n D a=>?_,λb o e n a=>?_,λb o e a=>?_,λb xs e=>J b xs (I.base.tups b xs e),λb o xs e=>L b o xs (I.base.frzs b o xs e),λb ps e=>?_⟩,?_,λx c e=>?_,?_,λx c e=>?_,λp hp=>?_,U,I.len⟩
 ·exact h b o (O b o e) D (y b o e a) (I.base.keep b o e n D a) (I.base.free b o e n a)
 ·obtain⟨T,A⟩:=I.base.slot b o e n D a;obtain⟨Y,Q⟩:=B b _ (O b o e) D (y b o e a) A (I.base.free b o e n a);exact⟨Y,Q⟩
 ·obtain⟨G,A⟩:=I.base.there b o e a;exact f b G (y b o e a) A (I.base.free b o e n a)
 ·obtain⟨G,A⟩:=I.base.there b o e a;exact C b G (y b o e a) A
 ·obtain⟨m1,A⟩:=I.base.tbls b ps e;obtain⟨m2,Q⟩:=M b _ A;exact⟨m1++m2,by rw[Q,Array.append_assoc]⟩
 ·obtain⟨m,hn,hl⟩:=I.loc;refine⟨m,ns m hn,λi x v A Q e3=>?_⟩;obtain⟨u,r,l⟩:=hl i x v A Q e3;refine⟨u,r,?_⟩
  rcases l with l|⟨k,c,e,z⟩
  ·exact .inl l
  ·exact .inr ⟨k,c,e,j x c e _ z⟩
 ·obtain⟨v,z⟩:=I.cell x c e;exact⟨v,j x c e v z⟩
 ·obtain⟨m,⟨o,_,_,E,_⟩,_⟩:=I.loc;exact f _ o (λz=>(g _ z).2.1 rfl) E I.free
 ·obtain⟨v,o,E,hd⟩:=I.cell x c e;exact f c o (λz=>(g c z).2.2.1 x c e rfl) E (I.freeC x c e)
 ·obtain⟨e,n,ne,nf,d⟩:=I.pin p hp;have t:p.1∉ch:=λz=>(g p.1 z).2.2.2 p hp rfl;exact⟨h p.1 p.2 ne nf t e n,f p.1 p.2 t e n,ne,nf,d⟩
theorem Inv.un{t':Nat}(I:Inv X pins σ H s)(u:Un X.fs [] H H' s.heap h')(c:HOk X.prog X.w H' h'):Inv X pins σ H' {s with heap:=h',toks:=t'}:=by
 obtain⟨m,⟨o,p,q,h,r⟩,_⟩:=id I.loc;obtain⟨t,i⟩:=u.any h I.free (by simp)
 exact I.step (g':=s.gens) (d':=s.drawn) (ch:=[]) (λ_ z=>nomatch z) (λb o _ d _ e n=>u.keep b o e n d (by simp)) (λb o _ d _ e n=>u.slot b o e n d (by simp)) (λb o _ e n=>u.free b o e n (by simp)) (λb o _ e=>u.there b o e (by simp)) u.tups u.frzs u.tbls (λv j=>by
  obtain⟨x,f,g,a,l⟩:=j;rw[h]at a;cases a
  exact⟨_,f,g,i,l⟩) c I.bare
theorem Inv.call{g':Array GenState}{t':Nat}{d':Drawn}{ch:List Addr}(I:Inv X pins σ H s)(u:Un (frs X.stack) ch H H' s.heap h')(g:HOk X.prog X.w H' h')(q:AllBare g')
  (d:∀ b∈ch,(b∈X.ex\/X.s₀.heap.objs.size<=b)/\b≠X.env.locals/\(∀x c,X.env.cells.lookup x=some c->c≠b)/\∀p∈X.pn++pins,p.1≠b):
  Inv X pins σ H' {s with heap:=h',gens:=g',drawn:=d',toks:=t'}:=by
 obtain⟨m,⟨o,A,B,l,r⟩,_⟩:=id I.loc;obtain⟨C,h⟩:=u.any l I.free λz=>(d _ z).2.1 rfl
 exact I.step (ch:=ch) d (λb o h t a e n=>u.keep b o e n (λz=>(aW.mp (I.PB b z)).elim h t) a) (λb o _ _ a e n=>u.any e n a) (λb o a e n=>u.free b o e n a) (λb o a e=>u.there b o e a) u.tups u.frzs u.tbls (λD v=>by
  obtain⟨E,i,j,f,y⟩:=v;rw[l]at f;cases f
  exact⟨_,i,j,h,y⟩) g q
theorem Inv.turned{t':Nat}{it:Addr}(I:Inv X pins σ H s)(k:∀ b o,b≠it->s.heap.get? b=some o->h'.get? b=some o)(g:H it=none)(f:it≠X.env.locals)
  (h:it∈X.ex\/X.s₀.heap.objs.size<=it) (i:∀ x c,X.env.cells.lookup x=some c->c≠it) (j:∀ p∈X.pn++pins,p.1≠it):Inv X pins σ H {s with heap:=h',toks:=t'}:=by
 have d:∀ b u,H b=some u->b≠it:=λb u e z=>by rw[z,g]at e;cases e
 refine I.step (g':=s.gens) (d':=s.drawn) (ch:=[it]) (λb l=>?_) (λb o _ _ a e _=>k b o (λz=>a (by simp[z])) e) (λb o _ _ a e _=>⟨o.slots,k b o (λz=>a (by simp[z])) e⟩) (λ_ _ _ _ n=>n)
  (λb o a e=>⟨o,k b o (λz=>a (by simp[z])) e⟩) (λ_ _ e=>e) (λ_ _ _ e=>e) (λb ps e=>⟨#[],by rw[e];simp⟩) (λm t=>?_) (λb u e=>?_) I.bare
 ·have e:b=it:=by simpa using l
  subst e;exact⟨h,f,i,j⟩
 ·obtain⟨o,w,y,A,r⟩:=t;exact⟨o,w,y,k _ o (be f) A,r⟩
 ·refine(I.hok b u e).stay (λc v a q=>k c v ?_ q) (λ_ q=>q) λ_ _ q=>q
  rcases a with z|z
  ·rw[z];exact d b u e
  ·exact d c _ z
theorem Inv.tok(I:Inv X pins σ H s)(t:Nat):Inv X pins σ H {s with toks:=t}:=I.un (h':=s.heap) (t':=t) Un.refl I.hok
theorem Inv.kept{t':Nat}(I:Inv X pins σ H s)(k:∀ b u,s.heap.get? b=some u->h'.get? b=some u):Inv X pins σ H {s with heap:=h',toks:=t'}:=I.un (Un.kept k) (I.hok.kept k)
theorem Inv.laid{a:Addr}{o:HO}{t':Nat}(I:Inv X pins σ H s)(k:∀ b u,s.heap.get? b=some u->h'.get? b=some u)(c:s.heap.objs.size<=a)(d:Qc X.prog X.w (upd H a o) h' a o):
  Inv X pins σ (upd H a o) {s with heap:=h',toks:=t'}:=I.un (Un.laid k c (I.hok.fresh c)) (I.hok.laid k c d)
theorem Inv.write{x e:Addr}{o:HO}{t':Nat}(I:Inv X pins σ H s)(d:Mut (H x))(f:e=x\/H e=some (.own x))(k:∀ b u,b≠e->s.heap.get? b=some u->h'.get? b=some u)(a:∃ u,h'.get? e=some u)
  (c:Qc X.prog X.w (upd H x o) h' x o):Inv X pins σ (upd H x o) {s with heap:=h',toks:=t'}:=I.un (Un.write d f k a) (I.hok.write d f k a c)
theorem Inv.Xs{a:List (Addr×Obj)}(I:Inv X pins σ H s)(h:∀ p∈a,s.heap.get? p.1=some p.2/\H p.1=none/\p.1≠X.env.locals/\p.1∉X.fs/\∀v,p.2.data≠.cell v):Inv X a σ H s:=
 ⟨I.ok,I.os,I.bare,I.base,I.loc,I.cell,I.free,I.freeC,λp b=>(ax.mp b).elim (λz=>I.pin p (bh _ z)) (h p),I.hok,I.len⟩
theorem FK{N:List Str}(c:N.Nodup){i j:Nat}{x:Str}(a:N[i]?=some x)(b:N[j]?=some x):i=j:=by
 obtain⟨f,d⟩:=aE.mp a;obtain⟨g,e⟩:=aE.mp b;exact(List.getElem_inj c).mp (d.trans e.symm)
theorem R9{M:Model}{A:Around}{E:Value->Shared->Prop}{i:Nat}{x:Str}{v:V}{u:Value}{Q:Unit->Shared->Prop}(I:Inv X pins σ H s)(hN:X.N.Nodup)(Y:X.N[i]?=some x)(B:Loc X.env.scope x)(r:RelV v u)
  (h:∀ s',Inv X pins (σ.set i (some v)) H s'->(∃a,Heap.SameBut a s.heap s'.heap/\(a=X.env.locals\/X.env.cells.lookup x=some a))->Q () s') (hf:autoParam (X.fn x=true\/X.env.scope.names.lookup x=some .local) zz0._auto_1):wpAny M A (storeName X.env x u) Q E s:=by
 obtain⟨m,hn,hl⟩:=id I.loc;have a0:(X.env.scope.kind== .class||(X.env.scope.kind== .module&&X.env.locals != X.env.globals))=false:=by rw[I.ok.kind];rfl
 have G:i<σ.length:=by rw[I.len];exact(aE.mp Y).1
 have L:=I.cne;have g:∀{a:Addr}{h':Heap},(∃o,s.heap.get? a=some o/\H a=none)->Heap.SameBut a s.heap h'->HOk X.prog X.w H h':=λ{a h'} ha f b ob e=>by
  obtain⟨_,_,C⟩:=ha;refine(I.hok b ob e).stay (λc w' t q=>(f.2 c ?_).trans q) (λ_ q=>q) λ_ _ q=>q;rintro rfl
  rcases t with rfl|t
  ·rw[C]at e;cases e
  ·rw[C]at t;cases t
 rcases B with J|J
 ·refine wpAny_storeName_local J hn (λh' a5 f=>?_) a0;obtain⟨oL,_,_,a6,_⟩:=id hn;refine h _ ⟨I.ok,I.os,I.bare,⟨λb o e n O B=>?_,λb o e n O B=>?_,I.base.free,λb o e B=>?_,I.base.tups,I.base.frzs,I.base.tbls⟩,⟨_,a5,λj y v' l D e3=>?_⟩,λy c e=>?_,I.free,I.freeC,λp hp=>?_,g ⟨oL,a6,I.free⟩ f,by simpa using I.len⟩ ⟨_,f,.inl rfl⟩
  ·exact(f.2 b (bf (aP (aL e) I.ok.above))).trans (I.base.keep b o e n O B)
  ·obtain⟨sl,l⟩:=I.base.slot b o e n O B;exact⟨sl,(f.2 b (bf (aP (aL e) I.ok.above))).trans l⟩
  ·obtain⟨o',l⟩:=I.base.there b o e B;exact⟨o',(f.2 b (bf (aP (aL e) I.ok.above))).trans l⟩
  ·by_cases T:j=i
   ·subst T;rw[Y]at l;cases l;rw[dO G]at D;cases D;exact⟨u,r,.inl ⟨J,by simp⟩⟩
   ·rw[eQ (be T)]at D;obtain⟨u',r',q⟩:=hl j y v' l D e3;refine⟨u',r',?_⟩
    rcases q with⟨k,e⟩|⟨k,c,e,z⟩
    ·refine .inl ⟨k,?_⟩;have:y≠x:=λe=>T (FK hN l (e▸Y));simp[this,e]
    ·exact .inr ⟨k,c,e,z.sameBut f (L y c e)⟩
  ·obtain⟨w',z⟩:=I.cell y c e;exact⟨w',z.sameBut f (L y c e)⟩
  ·obtain⟨e,n,ne,nf,d⟩:=I.pin p hp;exact⟨(f.2 p.1 ne).trans e,n,ne,nf,d⟩
 ·have U:X.fn x=true:=by
   rcases hf with z|z
   ·exact z
   ·rw[z]at J;cases J
  obtain⟨c,t⟩:=I.ok.has x (.inl J);obtain⟨w',z⟩:=I.cell x c t;refine wpAny_storeName_cell I.ok.kind J t z (λh' a1 f=>?_);obtain⟨oc,a2,a3⟩:=id z;refine h {s with heap:=h'} ⟨I.ok,I.os,I.bare,⟨λb o e n O B=>?_,λb o e n O B=>?_,I.base.free,λb o e B=>?_,I.base.tups,I.base.frzs,I.base.tbls⟩,⟨m,hn.sameBut f (be (L x c t)),λj y v' l D e3=>?_⟩,λy c' e=>?_,I.free,I.freeC,λp hp=>?_,g ⟨oc,a2,I.freeC x c t⟩ f,by simpa using I.len⟩ ⟨c,f,.inr t⟩
  ·exact(f.2 b (bf (aP (aL e) (I.ok.cab x c U t)))).trans (I.base.keep b o e n O B)
  ·obtain⟨sl,l⟩:=I.base.slot b o e n O B;exact⟨sl,(f.2 b (bf (aP (aL e) (I.ok.cab x c U t)))).trans l⟩
  ·obtain⟨o',l⟩:=I.base.there b o e B;exact⟨o',(f.2 b (bf (aP (aL e) (I.ok.cab x c U t)))).trans l⟩
  ·by_cases T:j=i
   ·subst T;rw[Y]at l;cases l;rw[dO G]at D;cases D;exact⟨u,r,.inr ⟨.inl J,c,t,a1⟩⟩
   ·rw[eQ (be T)]at D;obtain⟨u',r',q⟩:=hl j y v' l D e3;refine⟨u',r',?_⟩
    rcases q with q|⟨k,c',e,z'⟩
    ·exact .inl q
    ·refine .inr ⟨k,c',e,z'.sameBut f ?_⟩;rintro rfl;exact T (FK hN l (I.ok.inj _ _ _ e t▸Y))
  ·by_cases a4:c' =c
   ·subst a4;exact⟨_,a1⟩
   ·obtain⟨w2,z2⟩:=I.cell y c' e;exact⟨w2,z2.sameBut f a4⟩
  ·obtain⟨e,n,ne,nf,d⟩:=I.pin p hp;refine⟨(f.2 p.1 ?_).trans e,n,ne,nf,d⟩;intro q;rw[q,a2]at e;have q':oc=p.2:=bq e;exact d w' (by rw[<-q'];exact a3)
theorem EF{M:Model}{A:Around}{E:Value->Shared->Prop}{i:Nat}{x:Str}{v:V}{u:Value}{Q:Unit->Shared->Prop}(I:Inv X pins σ H s)(a:X.N.Nodup)(b:X.N[i]?=some x)(c:Loc X.env.scope x)(r:RelV v u)
  (h:∀ s',Inv X pins (σ.set i (some v)) H s'->Q () s') (d:autoParam (X.fn x=true\/X.env.scope.names.lookup x=some .local) zz0._auto_1):wpAny M A (storeName X.env x u) Q E s:=
 R9 I a b c r (λs' e _=>h s' e) d
theorem Inv.rL{s':Shared}{ch:List Addr}(I:Inv X pins σ H s)(f:s'.os=s.os)(u:Un (frs X.stack) ch H H' s.heap s'.heap)(a:HOk X.prog X.w H' s'.heap)(g:AllBare s'.gens)
  (d:∀ b∈ch,(b∈X.ex\/X.s₀.heap.objs.size<=b)/\b≠X.env.locals/\(∀x c,X.env.cells.lookup x=some c->c≠b)/\∀p∈X.pn++pins,p.1≠b):Inv X pins σ H' s':=by
 obtain⟨h',g',d',t',h⟩:=s';have e:h=s.os:=f;subst e;exact I.call (g':=g') (t':=t') (d':=d') u a g d
end
abbrev XK:=Value->Option Addr->Hp->Prop
abbrev St:=List (Option V)
abbrev VK:=V->Hp->Prop
abbrev TE:=St->Hp->VK->Prop
abbrev TT:=St->Hp->(Bool->Hp->Prop)->Prop
abbrev TA:=St->Hp->(List V->Hp->Prop)->Prop
structure Ends where
 nx:St->Hp->Prop
 rt:VK
 bk:St->Hp->Prop:=λ_ _=>False
 ct:St->Hp->Prop:=λ_ _=>False
abbrev TS:=Ends->St->Hp->Prop
def EP(X:Cx)(a:List (Addr×Obj))(c:St)(Q:VK)(u:Value)(s':Shared):Prop:=∃ v b,Inv X a c b s' /\RelV v u/\Q v b
def TP(X:Cx)(a:List (Addr×Obj))(d:St)(Q:Bool->Hp->Prop)(b:Bool)(s':Shared):Prop:=∃ c,Inv X a d c s' /\Q b c
def AP(X:Cx)(a:List (Addr×Obj))(d:St)(Q:List V->Hp->Prop)(us:List Value)(s':Shared):Prop:=∃ b c,Inv X a d c s' /\Vals b us/\Q b c
def SP(X:Cx)(b:List (Addr×Obj))(D:Ends)(f:Flow)(s':Shared):Prop:=
 match f with
 | .next=>∃ a c,Inv X b a c s' /\D.nx a c
 | .brk=>∃ a c,Inv X b a c s' /\D.bk a c
 | .cont=>∃ a c,Inv X b a c s' /\D.ct a c
 | .ret u=>∃ v a c,Inv X b a c s' /\RelV v u/\D.rt v c
def PE(X:Cx)(e:Expr)(t:TE):Prop:=
 ∀(a:List (Addr×Obj))(s:Shared)(b:St)(H:Hp)(Q:VK),Inv X a b H s->t b H Q->wpAny (model X.prog X.w) X.A (eval e X.env) (EP X a b Q) X.xe s
def PT(X:Cx)(e:Expr)(t:TT):Prop:=
 ∀(a:List (Addr×Obj))(s:Shared)(b:St)(H:Hp)(Q:Bool->Hp->Prop),Inv X a b H s->t b H Q->wpAny (model X.prog X.w) X.A (isTrue e X.env (eval e X.env)) (TP X a b Q) X.xe s
def PW(X:Cx)(e:Expr)(t:TT):Prop:=
 ∀(b:Sem Value)(a:List (Addr×Obj))(s:Shared)(c:St)(H:Hp)(Q:Bool->Hp->Prop),Inv X a c H s->t c H Q->wpAny (model X.prog X.w) X.A (isTrue e X.env b) (TP X a c Q) X.xe s
theorem PW.pt{X:Cx}{e:Expr}{t:TT}(h:PW X e t):PT X e t:=h _
def PA(X:Cx)(d:List Expr)(t:TA):Prop:=
 ∀(b:Pos)(a:List (Addr×Obj))(s:Shared)(c:St)(H:Hp)(Q:List V->Hp->Prop),Inv X a c H s->t c H Q->wpAny (model X.prog X.w) X.A (spliced (backTo b (starEach d X.env))) (AP X a c Q) X.xe s
def PS(X:Cx)(st:Stmt)(t:TS):Prop:=
 ∀(a:List (Addr×Obj))(s:Shared)(b:St)(H:Hp)(D:Ends),Inv X a b H s->t D b H->wpAny (model X.prog X.w) X.A (exec st X.env) (SP X a D) X.xe s
def PSs(X:Cx)(st:List Stmt)(t:TS):Prop:=
 ∀(a:List (Addr×Obj))(s:Shared)(b:St)(H:Hp)(D:Ends),Inv X a b H s->t D b H->wpAny (model X.prog X.w) X.A (execs st X.env) (SP X a D) X.xe s
theorem thn{b:Type}{t:Sem b}{Q c:b->Shared->Prop}{M:Model}{A:Around}{E:Value->Shared->Prop}{s:Shared}(h:wpAny M A t Q E s)(d:∀ a s,Q a s->c a s):wpAny M A t c E s:=bU h d λ_ _ x=>x
section
variable{X:Cx}
def v1(i:Nat):TE:=λa H Q=>∃ v,a[i]?=some (some v)/\Q v H
def tC(v:V):TE:=λ_ H Q=>Q v H
theorem uh{i:Nat}{x:Str}{pos:Pos}(n:X.N[i]?=some x)(o:Vis X.env.scope x)(hd:autoParam ((x==("__debug__" :Str))=false) zz1._auto_1)(g:autoParam ((x==("__classdict__" :Str))=false) zz1._auto_1):PE X (.Name x pos) (v1 i):=by
 intro f s p H Q I h;obtain⟨v,e,h⟩:=h;obtain⟨m,q,t⟩:=I.loc;obtain⟨u,r,l⟩:=t i x v n e o;have b:EP X f p Q u s:=⟨v,H,I,r,h⟩
 rcases l with⟨d,w⟩|⟨d,c,j,a⟩
 ·exact wpAny_Name (wpAny_loadName_local I.ok.kind d q w b) hd
 ·rcases d with d|d
  ·exact wpAny_Name (wpAny_loadName_cell I.ok.kind d j a b) hd
  ·exact wpAny_Name (wpAny_loadName_free I.ok.kind d j a b g) hd
theorem sF{i j pos}:PE X (.Constant (.int i) j pos) (tC (.int i)):=λ_ _ _ H _ I h=>wpAny_Constant_int ⟨.int i,H,I.tok _,⟨_,rfl⟩,h⟩
theorem uJ{b j pos}:PE X (.Constant (.bool b) j pos) (tC (.bl b)):=λ_ _ _ H _ I h=>Constant_bool ⟨.bl b,H,I,rfl,h⟩
theorem xU{j pos}:PE X (.Constant .none j pos) (tC .non):=λ_ _ _ H _ I h=>Constant_none ⟨.non,H,I,rfl,h⟩
theorem rV{x j pos}:PE X (.Constant (.str x) j pos) (tC (.str x)):=λ_ _ _ H _ I h=>Calls.Constant_str ⟨.str x,H,I.tok _,⟨_,rfl⟩,h⟩
def Gl(X:Cx)(x:Str):Prop:=X.env.kindOf x=some .globalImplicit
theorem S5{E:Value->Shared->Prop}{a:List (Addr×Obj)}{s:Shared}{b:St}{H:Hp}{x:Str}{u:Value}{pos:Pos}{Q:Value->Shared->Prop}(I:Inv X a b H s)(c:Gl X x)(d:X.mg x=some u)(h:Q u s)
  (hd:autoParam ((x==("__debug__" :Str))=false) zz1._auto_1):wpAny (model X.prog X.w) X.A (eval (.Name x pos) X.env) Q E s:=
 Calls.Name_function_global I.ok.kind c (Calls.loadGlobal_global (by rw[I.ok.glob];exact I.mod.glob.keeps I.bk) d h) hd
theorem Ua{E:Value->Shared->Prop}{a:List (Addr×Obj)}{s:Shared}{b:St}{H:Hp}{x:Str}{u:Value}{pos:Pos}{Q:Value->Shared->Prop}(I:Inv X a b H s)(c:Gl X x)(d:X.mg x=none)(e:bootBuiltins x=some u)(h:Q u s)
  (f:autoParam (x≠"__name__") zz1._auto_1) (hd:autoParam ((x==("__debug__" :Str))=false) zz1._auto_1):wpAny (model X.prog X.w) X.A (eval (.Name x pos) X.env) Q E s:=by
 obtain⟨j,g,i⟩:=I.mod.blt;exact Calls.Name_function_global I.ok.kind c (Calls.loadGlobal_builtin (by rw[I.ok.glob];exact I.mod.glob.keeps I.bk) d (by rw[I.ok.blt];exact g.keeps I.bk) ((i x f).trans e) h) hd
theorem Sa{x:Str}{v:V}{u:Value}{pos:Pos}(a:Gl X x)(b:X.mg x=some u)(r:RelV v u)(hd:autoParam ((x==("__debug__" :Str))=false) zz1._auto_1):PE X (.Name x pos) (tC v):=
 λ_ _ _ H _ I h=>S5 I a b ⟨v,H,I,r,h⟩ hd
variable{a b:Expr}{ta tb:TE}{pos:Pos}
def tB(t:TE):TT:=λd H Q=>t d H λx e=>∃ c,x=.bl c/\Q c e
theorem xR{e:Expr}{t:TE}(h:PE X e t)(g:autoParam (∀c,isTrue e X.env c=(do let v <-c;standAt e.pos;holding [v] (truthy v))) zz2._auto_1):PT X e (tB t):=by
 intro f s i H Q I j;refine isTrue_plain (thn (h f s i H _ I j) λv r l=>?_) (g _);obtain⟨x,m,n,o,p⟩:=l;obtain⟨d,rfl,q⟩:=p;cases o;exact eI ⟨m,n,q⟩
variable{tA tB':TT}{rest:List Expr}
def w6(t u:TT):TT:=λd H Q=>t d H λc e=>if c=true then u d e Q else Q false e
def tOr(t u:TT):TT:=λd H Q=>t d H λc e=>if c=true then Q true e else u d e Q
def rh(t:TT):TT:=λd H Q=>t d H λc e=>Q (!c) e
theorem vb(f:PT X a tA):PW X (.BoolOp .And [a] pos) tA:=by
 intro i d s g H Q I h;refine isTrue_and (thn (f d s g H Q I h) λc j e=>?_);cases c with
 |true=>exact isTrue_and_nil e
 |false=>exact e
theorem vm(f:PT X a tA):PW X (.BoolOp .Or [a] pos) tA:=by
 intro i d s g H Q I h;refine isTrue_or (thn (f d s g H Q I h) λc j e=>?_);cases c with
 |false=>exact isTrue_or_nil e
 |true=>exact e
theorem xp(j:PT X a tA)(l:PW X (.BoolOp .And (b::rest) pos) tB'):PW X (.BoolOp .And (a::b::rest) pos) (w6 tA tB'):=by
 intro m d s e H Q I h;refine isTrue_and (thn (j d s e H _ I h) λc n o=>?_);obtain⟨f,g,i⟩:=o;cases c with
 |true=>exact l m d n e f Q g i
 |false=>exact⟨f,g,i⟩
theorem yF(j:PT X a tA)(l:PW X (.BoolOp .Or (b::rest) pos) tB'):PW X (.BoolOp .Or (a::b::rest) pos) (tOr tA tB'):=by
 intro m d s e H Q I h;refine isTrue_or (thn (j d s e H _ I h) λc n o=>?_);obtain⟨f,g,i⟩:=o;cases c with
 |true=>exact⟨f,g,i⟩
 |false=>exact l m d n e f Q g i
theorem uS(e:PT X a tA):PT X (.UnaryOp .Not a pos) (rh tA):=by
 intro d s f H Q I h;exact isTrue_not (e d s f H (λc g=>Q (!c) g) I h)
def tV(ta tb:TE):TE:=λd H Q=>ta d H λx e=>∃ c,x=.bl c/\if c=true then tb d e Q else Q (.bl false) e
def yL(ta tb:TE):TE:=λd H Q=>ta d H λx e=>∃ c,x=.bl c/\if c=true then Q (.bl true) e else tb d e Q
theorem yx{op}{t:TE}(h:PE X a t):PE X (.BoolOp op [a] pos) t:=λc s d H Q I e=>BoolOp_one (h c s d H Q I e)
theorem yM(j:PE X a ta)(l:PE X (.BoolOp .And (b::rest) pos) tb):PE X (.BoolOp .And (a::b::rest) pos) (tV ta tb):=by
 intro d s f H Q I h;refine BoolOp_and (thn (j d s f H _ I h) λv m n=>?_);obtain⟨x,g,i,o,e⟩:=n;obtain⟨c,rfl,e⟩:=e;cases o;refine eI ?_;cases c with
 |true=>exact l d m f g Q i e
 |false=>exact⟨.bl false,g,i,rfl,e⟩
theorem xE(j:PE X a ta)(l:PE X (.BoolOp .Or (b::rest) pos) tb):PE X (.BoolOp .Or (a::b::rest) pos) (yL ta tb):=by
 intro d s f H Q I h;refine BoolOp_or (thn (j d s f H _ I h) λv m n=>?_);obtain⟨x,g,i,o,e⟩:=n;obtain⟨c,rfl,e⟩:=e;cases o;refine eI ?_;cases c with
 |false=>exact l d m f g Q i e
 |true=>exact⟨.bl true,g,i,rfl,e⟩
end
end L2
open PySem PySem.Spec PyProof.Rows L2
variable{H H':Hp}{K:Fk}{a p b q c f:Addr}{NM N:List Str}{i n m j base kk:Nat}{vs:List V}{ds:List PyData}{v y:V}{s:Shared}{w:World}{pos apos cpos:Pos}{kvs:List (Key×V)}{d:PyData}{P:Program}{o qual th:Str}{pins:List (Addr×Obj)}{S:Str->Bool}{tg e iter elt:Expr}{σ:L2.St}{u:Value}{X:Cx}{scope:Scope}{tm T:Int}{Q:Value->Shared->Prop}{A:Around}{fd:FuncData}{us its:List Value}{env:Env}{st:Stmt}{cs:List Addr}{mg:Str->Option Value}{ix:List (Option Nat)}{h':Heap}{ks:List Int}{ifs:List Expr}
namespace L2
def SqL(K:Fk)(H:Hp)(a:Addr)(xs:List V):Prop:=
 Rd H a (.lst xs)\/
  ∃(o:Obj)(its:Array Value)(n:Nat),K.lookup a=some o/\o.cls=.type "list"/\o.dict=none/\o.data=.seq its n/\its.size<=sizeLine/\Vals xs its.toList
def SqT(K:Fk)(H:Hp)(a:Addr)(xs:List V):Prop:=
 Rd H a (.tup xs)\/
  ∃(o:Obj)(its:Array Value)(n:Nat),K.lookup a=some o/\o.cls=.type "tuple"/\o.dict=none/\o.data=.seq its n/\its.size<=sizeLine/\Vals xs its.toList
noncomputable def xI:Value->Option V
 | .none=>some .non
 | .bool b=>some (.bl b)
 | .int i _=>some (.int i)
 | .str x _=>some (.str x)
 | .bytes b _=>some (.byt b)
 | .float b _=>some (.flt b)
 | .ref a=>some (.ref a)
 | .type n=>some (.ty n)
 |_=>none
theorem RelV.abs{x:V}(r:RelV x u):xI u=some x:=by
 cases x with
 |non=>cases r;rfl
 |bl _=>cases r;rfl
 |int _=>obtain⟨t,rfl⟩:=r;rfl
 |str _=>obtain⟨t,rfl⟩:=r;rfl
 |byt _=>obtain⟨t,rfl⟩:=r;rfl
 |flt _=>obtain⟨t,rfl⟩:=r;rfl
 |ref _=>cases r;rfl
 |ty _=>cases r;rfl
theorem RelV.inj{x:V}(r:RelV x u)(q:RelV y u):x=y:=bq (r.abs.symm.trans q.abs)
theorem Vals.inj:∀{xs g:List V}{us:List Value},Vals xs us->Vals g us->xs=g
 |_,_,_,.nil,.nil=>rfl
 |_,_,_,.cons r t,.cons h l=>by rw[r.inj h,Vals.inj t l]
section
variable{xs ys:List V}
theorem SqL.of(h:H a=some (.lst xs)):SqL K H a xs:=.inl (.inl h)
theorem SqT.of(h:H a=some (.tup xs)):SqT K H a xs:=.inl (.inl h)
theorem Inv.list(I:Inv X pins σ H s)(h:SqL X.K H a xs):∃ its:List Value,Vals xs its/\PlainL s.heap a its.toArray/\xs.length<=sizeLine:=by
 rcases h with h|⟨o,its,n,g,l,hd,t,x,r⟩
 ·obtain⟨z,its,n,r,e⟩:=h.ok I.hok;exact⟨its,r,⟨_,n,e,rfl,rfl,rfl⟩,z⟩
 ·refine⟨its.toList,r,⟨o,n,I.kIn a o g,l,hd,by simpa using t⟩,?_⟩;have e:=r.length;simp only[Array.length_toList]at e;lia
theorem Inv.nT(I:Inv X pins σ H s)(h:SqT X.K H a xs):∃ its:List Value,Vals xs its/\Y5 s.heap a its.toArray/\xs.length<=sizeLine:=by
 rcases h with h|⟨o,its,n,g,l,hd,t,x,r⟩
 ·obtain⟨z,its,r,p⟩:=h.ok I.hok;exact⟨its,r,p,z⟩
 ·refine⟨its.toList,r,⟨o,I.kIn a o g,l,n,by simpa using t,hd⟩,?_⟩;have e:=r.length;simp only[Array.length_toList]at e;lia
theorem Inv.tuple(I:Inv X pins σ H s)(h:SqT X.K H a xs):∃ its:List Value,Vals xs its/\IsTup s.heap a its.toArray/\xs.length<=sizeLine:=let⟨its,r,p,z⟩:=I.nT h;⟨its,r,p.is,z⟩
theorem Inv.t7(I:Inv X pins σ H s)(h:SqL X.K H a xs)(h':SqL X.K H a ys):xs=ys:=by
 obtain⟨its,r,⟨o,n,e,_,_,d⟩,_⟩:=I.list h;obtain⟨g,x,⟨B,C,l,_,_,t⟩,_⟩:=I.list h';rw[e]at l;cases l;rw[d]at t
 injection t with z _
 have:its=g:=by simpa using bK Array.toList z
 subst this;exact r.inj x
theorem Inv.OZ(I:Inv X pins σ H s)(h:SqT X.K H a xs)(h':SqT X.K H a ys):xs=ys:=by
 obtain⟨its,r,⟨o,e,_,n,d⟩,_⟩:=I.tuple h;obtain⟨g,x,⟨B,l,_,C,t⟩,_⟩:=I.tuple h';rw[e]at l;cases l;rw[d]at t
 injection t with z _
 have:its=g:=by simpa using bK Array.toList z
 subst this;exact r.inj x
end
noncomputable abbrev Cx.Tn(X:Cx)(E:Value->Shared->Prop):Cx:={X with xe:=E}
noncomputable abbrev Cx.nox(X:Cx):Cx:=X.Tn λ_ _=>False
theorem Cx.Ok.Tn(g:X.Ok)(E:Value->Shared->Prop):(X.Tn E).Ok:=
 ⟨g.mod,g.kind,g.glob,g.blt,g.above,g.inj,g.has,g.cab,g.hd,g.frames,g.stk,g.exf,g.bs,g.bsz,g.noex,g.exfs,g.CD,g.frf⟩
theorem Cx.Ok.XC{E:Value->Shared->Prop}(g:(X.Tn E).Ok):X.Ok:=
 ⟨g.mod,g.kind,g.glob,g.blt,g.above,g.inj,g.has,g.cab,g.hd,g.frames,g.stk,g.exf,g.bs,g.bsz,g.noex,g.exfs,g.CD,g.frf⟩
section
variable{E:Value->Shared->Prop}
theorem Inv.Tn(I:Inv X pins σ H s)(E:Value->Shared->Prop):Inv (X.Tn E) pins σ H s:=⟨I.ok.Tn E,I.os,I.bare,I.base,I.loc,I.cell,I.free,I.freeC,I.pin,I.hok,I.len⟩
theorem Inv.XC(I:Inv (X.Tn E) pins σ H s):Inv X pins σ H s:=⟨I.ok.XC,I.os,I.bare,I.base,I.loc,I.cell,I.free,I.freeC,I.pin,I.hok,I.len⟩
theorem SP.XC{D:Ends}{f:Flow}{s':Shared}(h:SP (X.Tn E) pins D f s'):SP X pins D f s':=by
 cases f with
 |next=>obtain⟨g,H',I,q⟩:=h;exact⟨g,H',I.XC,q⟩
 |brk=>obtain⟨g,H',I,q⟩:=h;exact⟨g,H',I.XC,q⟩
 |cont=>obtain⟨g,H',I,q⟩:=h;exact⟨g,H',I.XC,q⟩
 |ret u=>obtain⟨v,g,H',I,r,q⟩:=h;exact⟨v,g,H',I.XC,r,q⟩
theorem PSs.nox{st:List Stmt}{t:TS}(h:PSs X.nox st t):PSs X st t:=λpins s σ H D I g=>
 bU (h pins s σ H D (I.Tn _) g) (λ_ _ q=>q.XC) λ_ _ z=>False.elim z
end
section
variable{rest:List Stmt}{t u:TS}{te:TE}
def xv:TS:=λD σ H=>D.nx σ H
def vG(t u:TS):TS:=λD σ H=>t {D with nx:=u D} σ H
theorem uv:PSs X [] xv:=λ_ _ σ H _ I h=>wpAny_execs_nil ⟨σ,H,I,h⟩
theorem wc(l:PS X st t)(r:PSs X rest u):PSs X (st::rest) (vG t u):=by
 intro pins s σ H D I h;refine wpAny_execs_cons (thn (l pins s σ H {D with nx:=u D} I h) λf x q=>?_);cases f with
 |next=>
  obtain⟨g,H',z,q⟩:=q;exact r pins x g H' D z q
 |ret v=>exact q
 |brk=>exact q
 |cont=>exact q
theorem vQ(g:PS X st t):PSs X [st] t:=by
 intro pins s σ H D I h;refine wpAny_execs_cons (thn (g pins s σ H D I h) λf l q=>?_);cases f with
 |next=>exact wpAny_execs_nil q
 |ret v=>exact q
 |brk=>exact q
 |cont=>exact q
theorem Inv.quiet(I:Inv X pins σ H s):interactive X.env=false:=by simp[interactive,I.ok.kind]
def tz(te:TE):TS:=λD σ H=>te σ H λ_ g=>D.nx σ g
theorem tY(g:PE X e te)(l:autoParam (swapsWith e none pos.line X.env=pure false) zz3._auto_1):PS X (.Expr e pos) (tz te):=by
 intro pins s σ H D I h;exact wpAny_Expr_any (thn (g pins s σ H _ I h) λv E r=>by obtain⟨x,z,B,G,C⟩:=r;exact⟨σ,z,B,C⟩) I.quiet l
def xg(te:TE):TS:=λD σ H=>te σ H D.rt
theorem v9(g:PE X e te):PS X (.Return (some e) pos) (xg te):=by
 intro pins s σ H D I h;exact wpAny_Return_some (thn (g pins s σ H _ I h) λv E l=>by obtain⟨x,r,z,B,C⟩:=l;exact⟨x,σ,r,z,B,C⟩)
def sj(c:TT)(t u:TS):TS:=λD σ H=>c σ H λb g=>if b=true then t D σ g else u D σ g
theorem vp{c:Expr}{a b:List Stmt}{g:TT}(B:PT X c g)(C:PSs X a t)(E:PSs X b u):PS X (.If c a b pos) (sj g t u):=by
 intro pins s σ H D I h;refine wpAny_If (thn (B pins s σ H _ I h) λd l G=>?_);obtain⟨r,x,z⟩:=G;cases d with
 |true=>exact C pins l σ r D x z
 |false=>exact E pins l σ r D x z
end
abbrev TG:=V->St->Hp->(St->Hp->Prop)->Prop
abbrev TGs:=List V->St->Hp->(St->Hp->Prop)->Prop
def PG(X:Cx)(g:Expr)(t:TG):Prop:=
 ∀(pins:List (Addr×Obj))(s:Shared)(σ:St)(H:Hp)(v:V)(u:Value)(Q:St->Hp->Prop),Inv X pins σ H s->RelV v u->t v σ H Q->
  wpAny (model X.prog X.w) X.A (assign g X.env u) (λ_ l=>∃ h H',Inv X pins h H' l/\Q h H') X.xe s
def PGs(X:Cx)(ts:List Expr)(t:TGs):Prop:=
 ∀(pins:List (Addr×Obj))(s:Shared)(σ:St)(H:Hp)(vs:List V)(us:List Value)(Q:St->Hp->Prop),Inv X pins σ H s->Vals vs us->t vs σ H Q->
  wpAny (model X.prog X.w) X.A (assignInOrder ((assignEach ts X.env).map (·.2)) us) (λ_ h=>∃ g H',Inv X pins g H' h/\Q g H') X.xe s
abbrev jp:=V->V->V->Hp->(Hp->Prop)->Prop
def k_(X:Cx)(t:jp):Prop:=
 ∀(pins:List (Addr×Obj))(s:Shared)(σ:St)(H:Hp)(o i v:V)(g h u:Value)(Q:Hp->Prop),Inv X pins σ H s->RelV o g->RelV i h->RelV v u->t o i v H Q->
  wpAny (model X.prog X.w) X.A (setItem g h u) (λ_ l=>∃ H',Inv X pins σ H' l/\Q H') X.xe s
def lq(i:Nat):TG:=λv σ H Q=>Q (σ.set i (some v)) H
theorem Tb{x:Str}(g:X.N.Nodup)(l:X.N[i]?=some x)(t:Loc X.env.scope x)(z:autoParam (X.fn x=true\/X.env.scope.names.lookup x=some .local) zz0._auto_1):PG X (.Name x pos) (lq i):=by
 intro pins s σ H v u Q I r h;exact wpAny_assign_Name (EF I g l t r (λC B=>⟨_,H,B,h⟩) z)
def qu:TGs:=λvs σ H Q=>vs=[]/\Q σ H
def uY(t:TG)(u:TGs):TGs:=λvs σ H Q=>∃ v r,vs=v::r/\t v σ H λg H'=>u r g H' Q
theorem xo:PGs X [] qu:=by
 intro pins s σ H vs us Q I r h;obtain⟨e,h⟩:=h;subst e;cases r;exact assignInOrder_nil ⟨σ,H,I,h⟩
theorem vW{g:List Expr}{t:TG}{u:TGs}(x:PG X e t)(z:PGs X g u)
  (B:autoParam ((assignEach (e::g) X.env).map (·.2)=assign e X.env::(assignEach g X.env).map (·.2)) zz3._auto_1):PGs X (e::g) (uY t u):=by
 intro pins s σ H vs us Q I r h;obtain⟨v,O,C,h⟩:=h;subst C;cases r with
 |cons r D=>
  rw[B];refine assignInOrder_cons (thn (x pins s σ H _ _ _ I r h) λ_ E G=>?_);obtain⟨l,J,L,M⟩:=G;exact z pins E l J _ _ Q L D M
def xk(K:Fk)(n:Nat)(t:TGs):TG:=λv σ H Q=>∃ a g,v=.ref a/\SqT K H a g/\g.length=n/\t g σ H Q
theorem wu{g:List Expr}{k:Nat}{t:TGs}{n:Nat}(B:X.calm=true)(h:PGs X g t)
  (C:autoParam ((assignEach g X.env).length=n) zz3._auto_1) (l:autoParam ((assignEach g X.env).findIdx? (·.1)=none) zz3._auto_1):PG X (.Tuple g k pos) (xk X.K n t):=by
 intro pins s σ H v u Q I r x;obtain⟨a,D,E,G,J,x⟩:=x;subst E;cases r;obtain⟨its,z,L,U⟩:=I.tuple G;refine assign_Tuple_tuple (I.ok.hd B) L (by simp[C,<-J,z.length]) l λh' M=>?_;have O:Inv X pins σ H {s with heap:=h'}:=I.kept (t':=s.toks) λb o e=>M b o (bf (aL e)) e;exact h pins _ σ H D _ Q O (by simpa using z) x
def xO(g h:TE)(t:jp):TG:=λv σ H Q=>g σ H λo l=>h σ l λi r=>t o i v r λx=>Q σ x
theorem sS{o i:Expr}{z B:TE}{t:jp}(C:PE X o z)(D:PE X i B)(E:k_ X t)
  (G:∀ v,assign (.Subscript o i pos) X.env v=(do
   let g <-holding [v] (eval o X.env)
   let l <-holding [v,g] (eval i X.env)
   standAt pos
   holding [v,g,l] (setItem g l v)
   release [v,g,l] []):=by intro _;rfl):PG X (.Subscript o i pos) (xO z B t):=by
 intro pins s σ H v u Q I r h;rw[G];refine ag (cr (thn (C pins s σ H _ I h) λg J L=>?_));obtain⟨x,M,O,U,Y⟩:=L;refine ag (cr (thn (D pins J σ M _ O Y) λl s2 z1=>?_));obtain⟨y,H2,I2,r2,q2⟩:=z1;refine ag (wpAny_standAt (ag (cr (thn (E pins s2 σ H2 x y v g l u _ I2 U r2 r q2) λ_ s3 z2=>?_))));obtain⟨H3,I3,q3⟩:=z2;exact wpAny_release ⟨σ,H3,I3,q3⟩
def mC(h:TE)(g:TG):TS:=λD σ H=>h σ H λx l=>g x σ l D.nx
theorem vy{l:TE}{g:TG}(r:PE X e l)(t:PG X tg g)(z:autoParam (swapsWithSole [tg] e pos.line X.env=pure false) zz3._auto_1)(B:autoParam (swappedStores [tg] e X.env=pure none) zz3._auto_1)
  (C:autoParam ((assignEach [tg] X.env).map (·.2)=[assign tg X.env]) zz3._auto_1):PS X (.Assign [tg] e pos) (mC l g):=by
 intro pins s σ H D I h;refine wpAny_Assign_stores (thn (r pins s σ H _ I h) λv E G=>?_) z B;obtain⟨x,J,L,M,O⟩:=G;rw[C];exact thn (t pins E σ J x v _ L M O) λ_ U q=>q
theorem qW{x:Str}{l:TE}{g:Pos}(r:X.N.Nodup)(t:X.N[i]?=some x)(z:Loc X.env.scope x)(B:PE X e l)(C:autoParam (swapsWith e (some (.Name x g)) pos.line X.env=pure false) zz3._auto_1)(E:autoParam (X.fn x=true\/X.env.scope.names.lookup x=some .local) zz0._auto_1):
  PS X (.Assign [.Name x g] e pos) (mC l (lq i)):=by
 intro pins s σ H D I h;refine wpAny_Assign_Name (thn (B pins s σ H _ I h) λv Y G=>?_) C;obtain⟨y,J,L,M,O⟩:=G;exact EF L r t z M (λs2 U=>⟨_,J,U,O⟩) E
structure It where
 go:Nat->Hp->Prop
 yld:Nat->Hp->V->Hp->Prop
 stop:Nat->Hp->Prop
def Hb(X:Cx)(pins:List (Addr×Obj))(H:Hp)(b:Addr):Prop:=
 H b=none/\b≠X.env.locals/\b∉X.fs/\(b∈X.ex\/X.s₀.heap.objs.size<=b)/\(∀x c,X.env.cells.lookup x=some c->c≠b)/\∀p∈X.pn++pins,p.1≠b
theorem Inv.eH(I:Inv X pins σ H s)(g:s.heap.objs.size<=b)(h:H' b=none):Hb X pins H' b:=by
 refine⟨h,eY (aP I.lt g),I.vT g,.inr (aA I.sz g),λx c e z=>?_,λp l z=>?_⟩
 ·obtain⟨v,q⟩:=I.cell x c e;exact absurd (aP q.lt (by rw[z];exact g)) (fq _)
 ·exact absurd (aP (aL (I.pin p l).1) (by rw[z];exact g)) (fq _)
structure Turn(P:Program)(w:World)(K:Fk)(tg:Expr)(J:It)(fp:List Addr)(it:Addr)(tn:Nat->Heap->Prop):Prop where
 mem:it∈fp
 obj:∀ i h,tn i h->∀ b∈fp,∃o,h.get? b=some o/\∀v,o.data≠.cell v
 keep:∀ i h h',tn i h->(∀b∈fp,∀o,h.get? b=some o->h'.get? b=some o)->tn i h'
 item:∀(X:Cx),X.prog=P->X.w=w->X.K=K->X.calm=true->∀(i:Nat)(pins:List (Addr×Obj))(s:Shared)(σ:St)(H:Hp)(E:Value->Shared->Prop),Inv X pins σ H s->(∀b∈fp,Hb X pins H b)->tn i s.heap->J.go i H->
  wpAny (model P w) X.A (pyNext (.ref it)) (λr s1=>∃ u,r=some u/\
   wpAny (model P w) X.A (letOwnedTupleGo tg (.ref it) u) (λ_ s2=>∃ x H',Inv X pins σ H' s2/\RelV x u/\J.yld i H x H' /\tn (i+1) s2.heap/\∀b∈fp,H' b=none) E s1) E s
 done:∀(X:Cx),X.prog=P->X.w=w->X.K=K->X.calm=true->∀(i:Nat)(pins:List (Addr×Obj))(s:Shared)(σ:St)(H:Hp)(E:Value->Shared->Prop),Inv X pins σ H s->(∀b∈fp,Hb X pins H b)->tn i s.heap->J.stop i H->
  wpAny (model P w) X.A (pyNext (.ref it)) (λr s1=>r=none/\Inv X pins σ H s1) E s
 self:∀(A:Around)(i:Nat)(s:Shared)(Q:Value->Shared->Prop)(E:Value->Shared->Prop),tn i s.heap->Q (.ref it) s->wpAny (model P w) A (pyIter (.ref it)) Q E s
abbrev TI:=St->Hp->(It->Hp->Prop)->Prop
def PIE(X:Cx)(pins:List (Addr×Obj))(σ:St)(tg:Expr)(R:It->Hp->Prop)(g:Value)(h:Shared):Prop:=
 ∃(l:Addr)(r:List Addr)(t:Nat->Heap->Prop)(J:It)(H':Hp),g=.ref l/\Inv X pins σ H' h/\Turn X.prog X.w X.K tg J r l t/\t 0 h.heap/\(∀b∈r,Hb X pins H' b)/\R J H'
def PI(X:Cx)(tg iter:Expr)(g:TI):Prop:=
 ∀(pins:List (Addr×Obj))(s:Shared)(σ:St)(H:Hp)(R:It->Hp->Prop),Inv X pins σ H s->g σ H R->
  wpAny (model X.prog X.w) X.A (eval iter X.env) (λv h=>wpAny (model X.prog X.w) X.A (pyIter v) (PIE X pins σ tg R) X.xe h) X.xe s
theorem Mn{M:Model}{A:Around}{E:Value->Shared->Prop}{tg:Expr}{it:Addr}{u:Value}{o:Obj}{n:String}{vs:Array Value}{Q:Unit->Shared->Prop}(l:s.heap.get? it=some o)(r:o.cls=.type n)(hd:o.data=.fields vs)
    (t:["enumerate","zip","dict_itemiterator","dict_reverseitemiterator","odict_iterator","itertools.zip_longest","itertools.pairwise"].contains n=false) (g:Q () s):wpAny M A (letOwnedTupleGo tg (.ref it) u) Q E s:=by
  unfold letOwnedTupleGo;cases tg<;>first
    |exact aD g
    |(cases u<;>first
        |exact aD g
        | (refine ag (wpAny_load l ?_)
           rw[r,hd];show wpAny M A (if(["enumerate","zip","dict_itemiterator","dict_reverseitemiterator","odict_iterator","itertools.zip_longest","itertools.pairwise"].contains n&&vs[0]? ==some (rawInt _))=true then _ else _) Q E s;rw[ao (by intro h;rw[t,eT]at h;cases h)]
           exact aD g))
noncomputable def Itl(K:Fk)(a:Addr):It:=
 ⟨λi H=>∃ g x,SqL K H a g/\g[i]?=some x,λi H x H'=>H' =H/\∀g,SqL K H a g->g[i]?=some x,λi H=>∃ g,SqL K H a g/\g.length<=i⟩
noncomputable def Itt(K:Fk)(a:Addr):It:=
 ⟨λi H=>∃ g x,SqT K H a g/\g[i]?=some x,λi H x H'=>H' =H/\∀g,SqT K H a g->g[i]?=some x,λi H=>∃ g,SqT K H a g/\g.length<=i⟩
noncomputable def Itr(lo:Int)(n:Nat):It:=⟨λi _=>i<n,λi H x H'=>H' =H/\x=.int (lo+i),λi _=>n<=i⟩
theorem Su(a it:Addr):Turn P w K tg (Itl K a) [it] it (λi h=>h.IsListIter it a i)where
 mem:=by simp
 obj:=λi h st b hb=>by
  have e:b=it:=by simpa using hb
  subst e;obtain⟨o,e,c,d⟩:=st;exact⟨o,e,λv z=>by rw[d]at z;cases z⟩
 keep:=λi h h' st k=>st.at λo e=>k it (by simp) o e
 item:=by
  intro X hP hw hK hc i pins s σ H E I hf st hg;subst hP hw hK;obtain⟨xs,x,hq,hx⟩:=hg;obtain⟨its,rv,p,hz⟩:=I.list hq;obtain⟨u,hu,ru⟩:=rv.get hx;obtain⟨f0,f1,f2,f3,f4,f5⟩:=hf it (by simp);refine wpAny_pyNext_list_item st p.isList (x:=u) (by simpa using hu) λh' st' sb=>?_;have I1:Inv X pins σ H {s with heap:=h'}:=I.turned (t':=s.toks) (λb o hb e=>(sb.2 b hb).trans e) f0 f1 f3 f4 f5;obtain⟨o,e,c,d⟩:=id st';exact⟨u,rfl,Mn (s:={s with heap:=h'}) e c d (by decide) ⟨x,H,I1,ru,⟨rfl,λys hy=>by rw[I.t7 hy hq];exact hx⟩,st',λb hb=>(hf b hb).1⟩⟩
 done:=by
  intro X hP hw hK hc i pins s σ H E I hf st hg;subst hP hw hK;obtain⟨xs,hq,hx⟩:=hg;obtain⟨its,rv,p,hz⟩:=I.list hq;obtain⟨f0,f1,f2,f3,f4,f5⟩:=hf it (by simp);have hl:=rv.length;exact wpAny_pyNext_list_end (I.ok.hd hc) st p.isList (by simp;lia) λh' eb=>⟨rfl,I.turned (t':=s.toks) (λb o hb e=>eb b o hb e) f0 f1 f3 f4 f5⟩
 self:=λ_ _ _ _ _ st h=>wpAny_pyIter_listiter st h
theorem LL(a it:Addr):Turn P w K tg (Itt K a) [it] it (λi h=>h.IsTupleIter it a i)where
 mem:=by simp
 obj:=λi h st b hb=>by
  have e:b=it:=by simpa using hb
  subst e;obtain⟨o,e,c,d⟩:=st;exact⟨o,e,λv z=>by rw[d]at z;cases z⟩
 keep:=λi h h' st k=>st.at λo e=>k it (by simp) o e
 item:=by
  intro X hP hw hK hc i pins s σ H E I hf st hg;subst hP hw hK;obtain⟨xs,x,hq,hx⟩:=hg;obtain⟨its,rv,p,hz⟩:=I.tuple hq;obtain⟨u,hu,ru⟩:=rv.get hx;obtain⟨f0,f1,f2,f3,f4,f5⟩:=hf it (by simp);refine wpAny_pyNext_tuple_item st (show s.heap.IsTuple a its.toArray from p) (x:=u) (by simpa using hu) λh' st' sb=>?_;have I1:Inv X pins σ H {s with heap:=h'}:=I.turned (t':=s.toks) (λb o hb e=>(sb.2 b hb).trans e) f0 f1 f3 f4 f5;obtain⟨o,e,c,d⟩:=id st';exact⟨u,rfl,Mn (s:={s with heap:=h'}) e c d (by decide) ⟨x,H,I1,ru,⟨rfl,λys hy=>by rw[I.OZ hy hq];exact hx⟩,st',λb hb=>(hf b hb).1⟩⟩
 done:=by
  intro X hP hw hK hc i pins s σ H E I hf st hg;subst hP hw hK;obtain⟨xs,hq,hx⟩:=hg;obtain⟨its,rv,p,hz⟩:=I.tuple hq;obtain⟨f0,f1,f2,f3,f4,f5⟩:=hf it (by simp);have hl:=rv.length;exact wpAny_pyNext_tuple_end (I.ok.hd hc) st (show s.heap.IsTuple a its.toArray from p) (by simp;lia) λh' eb=>⟨rfl,I.turned (t':=s.toks) (λb o hb e=>eb b o hb e) f0 f1 f3 f4 f5⟩
 self:=λ_ _ _ _ _ st h=>wpAny_pyIter_tupleiter st h
theorem Ly(it:Addr)(lo:Int)(n:Nat):Turn P w K tg (Itr lo n) [it] it (λi h=>IsRangeIter h it (lo+(i:Nat)*1) ((n:Int)-(i:Nat)) 1)where
 mem:=by simp
 obj:=λi h st b hb=>by
  have e:b=it:=by simpa using hb
  subst e
  exact⟨_,st,λv z=>by
   have z':Data.fields _=Data.cell v:=z
   cases z'⟩
 keep:=λi h h' st k=>k it (by simp) _ st
 item:=by
  intro X hP hw hK hc i pins s σ H E I hf st hg;subst hP hw hK;obtain⟨f0,f1,f2,f3,f4,f5⟩:=hf it (by simp);have W:=Walks.range (prog:=X.prog) (w:=X.w) (I.ok.hd hc) it lo 1 n;refine W.item i s _ _ hg st λv h' tk hv st' kk=>?_;obtain⟨t,rfl⟩:=hv;have I1:Inv X pins σ H {s with heap:=h',toks:=tk}:=I.turned (λb o hb e=>kk b o (by simpa using hb) e) f0 f1 f3 f4 f5;refine⟨_,rfl,Mn (s:={s with heap:=h',toks:=tk}) (n:="range_iterator") st' rfl rfl (by decide) ⟨.int (lo+i),H,I1,⟨t,?_⟩,⟨rfl,rfl⟩,st',λb hb=>(hf b hb).1⟩⟩;rw[Int.mul_one]
 done:=by
  intro X hP hw hK hc i pins s σ H E I hf st hg;subst hP hw hK;obtain⟨f0,f1,f2,f3,f4,f5⟩:=hf it (by simp);exact wpAny_pyNext_range_end (I.ok.hd hc) st (by have:n<=i:=hg;lia) λh' eb=>⟨rfl,I.turned (t':=s.toks) (λb o hb e=>eb b o hb e) f0 f1 f3 f4 f5⟩
 self:=λ_ _ _ _ _ st h=>wpAny_pyIter_rangeiter st h
def tS(K:Fk)(h:TE):TI:=λσ H R=>h σ H λx g=>∃ a,x=.ref a/\(∃l,SqL K g a l)/\R (Itl K a) g
def re(K:Fk)(h:TE):TI:=λσ H R=>h σ H λx g=>∃ a,x=.ref a/\(∃l,SqT K g a l)/\R (Itt K a) g
theorem P2{l:Expr}{t:TE}(z:PE X l t):PI X tg l (tS X.K t):=by
 intro pins s σ H R I h;refine thn (z pins s σ H _ I h) λv g B=>?_;obtain⟨x,C,r,D,E⟩:=B;obtain⟨a,e,⟨L,G⟩,q⟩:=E;subst e;cases D;obtain⟨its,M,p,O⟩:=r.list G;refine wpAny_pyIter_list p.isList ?_;refine⟨g.heap.objs.size,[g.heap.objs.size],_,_,C,rfl,r.kept (t':=g.toks) λb o e=>am _ e,Su a _,⟨_,aR _ rfl,rfl,rfl⟩,λb J=>?_,q⟩;have e:b=g.heap.objs.size:=by simpa using J
 subst e;exact r.eH (ak _) (r.hok.fresh (ak _))
theorem oq{l:Expr}{t:TE}(z:PE X l t):PI X tg l (re X.K t):=by
 intro pins s σ H R I h;refine thn (z pins s σ H _ I h) λv g B=>?_;obtain⟨x,C,r,D,E⟩:=B;obtain⟨a,e,⟨L,G⟩,q⟩:=E;subst e;cases D;obtain⟨its,M,p,O⟩:=r.tuple G;refine wpAny_pyIter_tuple (show g.heap.IsTuple a its.toArray from p) ?_;refine⟨g.heap.objs.size,[g.heap.objs.size],_,_,C,rfl,r.kept (t':=g.toks) λb o e=>am _ e,LL a _,⟨_,aR _ rfl,rfl,rfl⟩,λb J=>?_,q⟩;have e:b=g.heap.objs.size:=by simpa using J
 subst e;exact r.eH (ak _) (r.hok.fresh (ak _))
theorem Fy{R:It->Hp->Prop}{E:Value->Shared->Prop}{lo g:Int}{t u v:Tok}{tk:Nat}(I:Inv X pins σ H s)(l:-(2^62)<=lo)(r:lo<2^62)(x:-(2^62)<=g)(z:g<2^62)
  (q:R (Itr lo (g-lo).toNat) H):wpAny (model X.prog X.w) X.A (pyIter (.ref s.heap.objs.size)) (PIE X pins σ tg R) E {s with heap:=s.heap.push {cls:=.type "range",data:=.fields #[.int lo t,.int g u,.int 1 v]},toks:=tk}:=by
 refine wpAny_pyIter_range (IsRange.new ..) (small_one l r x z) ?_;have h:Inv X pins σ H {s with heap:=s.heap.push {cls:=.type "range",data:=.fields #[.int lo t,.int g u,.int 1 v]},toks:=tk}:=I.kept λb o e=>am _ e
 refine⟨(s.heap.push {cls:=.type "range",data:=.fields #[.int lo t,.int g u,.int 1 v]}).objs.size,[(s.heap.push {cls:=.type "range",data:=.fields #[.int lo t,.int g u,.int 1 v]}).objs.size],_,_,H,rfl,
  h.kept (t':=tk) λb o e=>am _ e,Ly _ lo (g-lo).toNat,?_,λb B=>?_,q⟩
 ·have C:lo+((0:Nat):Int)*1=lo:=by simp
  have D:(((g-lo).toNat:Nat):Int)-((0:Nat):Int)=Builtin.Range.rangeSize lo g 1:=by rw[rangeSize_one];split<;>lia
  show IsRangeIter _ _ (lo+((0:Nat):Int)*1) ((((g-lo).toNat:Nat):Int)-((0:Nat):Int)) 1;rw[C,D];exact aR _ rfl
 ·have e:b=(s.heap.push {cls:=.type "range",data:=.fields #[.int lo t,.int g u,.int 1 v]}).objs.size:=by simpa using B
  subst e;exact h.eH (ak _) (h.hok.fresh (ak _))
def qV(g:TA):TI:=λσ H R=>g σ H λvs h=>∃ j:Int,vs=[.int j]/\ -(2^62)<=j/\j<2^62/\R (Itr 0 j.toNat) h
def s9(g:TA):TI:=λσ H R=>g σ H λvs h=>∃ i j:Int,vs=[.int i,.int j]/\(-(2^62)<=i/\i<2^62/\ -(2^62)<=j/\j<2^62)/\R (Itr i (j-i).toNat) h
theorem B3{a:Expr}{l:TA}{p:Pos}(x:Gl X "range")(z:X.mg "range"=none)(B:PA X [a] l)(C:autoParam (starEach [a] X.env=[(false,eval a X.env)]) zz3._auto_1):PI X tg (.Call (.Name "range" p) [a] [] pos) (qV l):=by
 intro pins s σ H R I h;refine Call_ (Ua I x z boot_range (eJ (thn (B pos pins s σ H _ I h) λus M D=>?_) C rfl));obtain⟨vs,O,E,G,g⟩:=D;obtain⟨j,e,g,J,q⟩:=g;subst e;cases G with
 |cons r L=>
  cases L;obtain⟨t,rfl⟩:=r;exact call_range_1 (Fy E (by lia) (by lia) g J (by simpa using q))
theorem Sw{a b:Expr}{z:TA}{p pos:Pos}(B:Gl X "range")(C:X.mg "range"=none)(D:PA X [a,b] z)(E:autoParam (starEach [a,b] X.env=[(false,eval a X.env),(false,eval b X.env)]) zz3._auto_1)(g:autoParam (starEach [b] X.env=[(false,eval b X.env)]) zz3._auto_1):
  PI X tg (.Call (.Name "range" p) [a,b] [] pos) (s9 z):=by
 intro pins s σ H R I h;refine Call_ (Ua I B C boot_range (eJ (thn (D pos pins s σ H _ I h) λus s1 G=>?_) (by rw[E,g]) (by rw[g];rfl)));obtain⟨vs,H1,J,L,l⟩:=G;obtain⟨i,j,e,⟨l,M,O,U⟩,q⟩:=l;subst e;cases L with
 | cons r x=>
  cases x with
  |cons Y x=>
   cases x;obtain⟨t,rfl⟩:=r;obtain⟨t',rfl⟩:=Y;exact call_range_2 (Fy J l M O U q)
def v6(t:TI)(g:TG)(z:TS):TS:=λD σ H=>t σ H λJ B=>∃ W:Nat->Nat->St->Hp->Prop,(∃m,W 0 m σ B)/\∀i m σ H,W i m σ H->
 (J.stop i H/\D.nx σ H)\/(J.go i H/\∃N:St->Hp->Prop,(∀h H',N h H'->∃ r,r<m/\W (i+1) r h H')/\∀x H',J.yld i H x H'->g x σ H' λl C=>z {D with nx:=N,ct:=N,bk:=D.nx} l C)
noncomputable def BM(g:List Addr)(h:Heap):List (Addr×Obj):=g.filterMap λb=>(h.get? b).map λo=>(b,o)
theorem VI{g:List Addr}{h:Heap}{o:Obj}(l:b∈g)(e:h.get? b=some o):(b,o)∈BM g h:=List.mem_filterMap.mpr ⟨b,l,by rw[e];rfl⟩
theorem PL{g:List Addr}{h:Heap}{p:Addr×Obj}(l:p∈BM g h):p.1∈g/\h.get? p.1=some p.2:=by
 obtain⟨b,r,e⟩:=List.mem_filterMap.mp l;cases q:h.get? b with
 |none=>rw[q]at e;cases e
 |some o=>
  rw[q]at e;have t:(b,o)=p:=bq e;subst t;exact⟨r,q⟩
theorem Inv.pinned{g:List Addr}(I:Inv X pins σ H s)(r:∀ b∈g,Hb X pins H b)(t:∀ b∈g,∃o,s.heap.get? b=some o/\∀v,o.data≠.cell v):Inv X (pins++BM g s.heap) σ H s:=
 I.Xs λp x=>(ax.mp x).elim (λz=>I.pin p (ay _ z)) λz=>by
  obtain⟨h,e⟩:=PL z;obtain⟨B,C,D,_⟩:=r p.1 h;obtain⟨o,l,d⟩:=t p.1 h;rw[e]at l;cases l;exact⟨e,B,C,D,d⟩
theorem Inv.YQ{g:List (Addr×Obj)}(I:Inv X (pins++g) σ H s):Inv X pins σ H s:=I.Xs λp h=>I.pin p (ay _ (bh _ h))
theorem HG{body:List Stmt}{wi:TI}{g:TG}{tb:TS}{pos:Pos}(O:PassesOwn (model X.prog X.w) X.A X.env X.xe)(hc:X.calm=true)(hi:PI X tg iter wi)(hg:PG X tg g)(t:PSs X body tb)
  (hs:autoParam (∀x,foldedSetIterable iter X.env x=pure x) zz2._auto_1):PS X (.For tg iter body [] pos) (v6 wi g tb):=by
 intro pins s σ H D I h;refine wpAny_For (thn (hi pins s σ H _ I h) λv s1 h1=>thn h1 λa6 s2 h2=>?_) hs;obtain⟨it,U,tn,J,H2,e,I2,T,a2,f2,W,⟨m0,w0⟩,Y⟩:=h2;subst e;have z:∀{H':Hp},(∀b∈U,H' b=none)->∀ b∈U,Hb X pins H' b:=λhn b t=>⟨hn b t,(f2 b t).2⟩;refine codeAny_forLoop_any (λn s'=>∃ i B H',Inv X pins B H' s' /\tn i s'.heap/\(∀b∈U,H' b=none)/\W i n B H') ?_ m0 ⟨0,σ,H2,I2,a2,λb t=>(f2 b t).1,w0⟩;rintro n s3 ⟨i,C,H3,I3,a0,a1,w3⟩
 rcases Y i n C H3 w3 with⟨stop,qn⟩|⟨go,N,hN,step⟩
 ·refine fB O (thn (T.done X rfl rfl rfl hc i pins s3 C H3 X.xe I3 (z a1) a0 stop) λr s4 z0=>?_);obtain⟨hr,I4⟩:=z0;subst hr;exact wpAny_execs_nil ⟨C,H3,I4,qn⟩
 ·refine fB O (thn (T.item X rfl rfl rfl hc i pins s3 C H3 X.xe I3 (z a1) a0 go) λr s4 z1=>?_);obtain⟨u,hr,h4⟩:=z1;subst hr;refine fB O (thn h4 λ_ s5 z2=>?_);obtain⟨x,H5,I5,r5,y5,M,a3⟩:=z2;have a4:=I5.pinned (z a3) (T.obj _ _ M);refine fB O (thn (hg _ s5 C H5 x u _ a4 r5 (step x H5 y5)) λ_ s6 z3=>?_);obtain⟨a5,H6,I6,q6⟩:=z3;refine fB O (thn (t _ s6 a5 H6 _ I6 q6) λf s7 L=>?_);have again:∀{l:St}{E:Hp},Inv X (pins++BM U s5.heap) l E s7->N l E->∃ m,m<n/\∃i B H',Inv X pins B H' s7/\tn i s7.heap/\(∀b∈U,H' b=none)/\W i m B H':=λ{l E} G n7=>by
   obtain⟨m',hm,w7⟩:=hN l E n7;refine⟨m',hm,i+1,l,E,G.YQ,T.keep _ _ _ M λb t o e=>(G.pin (b,o) (ay _ (ay _ (VI t e)))).1,λb t=>?_,w7⟩;obtain⟨o,e,d⟩:=T.obj _ _ M b t;exact(G.pin (b,o) (ay _ (ay _ (VI t e)))).2.1
  cases f with
  |next=>obtain⟨l,E,G,n7⟩:=L;exact again G n7
  |cont=>obtain⟨l,E,G,n7⟩:=L;exact again G n7
  |brk=>obtain⟨l,E,G,L⟩:=L;exact⟨l,E,G.YQ,L⟩
  |ret v=>obtain⟨x7,l,E,G,r7,L⟩:=L;exact⟨x7,l,E,G.YQ,r7,L⟩
theorem ww{xs:List V}{g:TG}{z:TS}{D:Ends}(Pv:Nat->St->Hp->Prop)(C:Pv 0 σ H)(E:∀ i σ H,i<=xs.length->Pv i σ H->SqL K H a xs)
  (G:∀ i x σ H,xs[i]?=some x->Pv i σ H->g x σ H λh t=>z {D with nx:=Pv (i+1),ct:=Pv (i+1),bk:=D.nx} h t) (hd:∀ σ H,Pv xs.length σ H->D.nx σ H):
  ∃W:Nat->Nat->St->Hp->Prop,(∃m,W 0 m σ H)/\∀i m σ H,W i m σ H->
   ((Itl K a).stop i H/\D.nx σ H)\/((Itl K a).go i H/\∃N:St->Hp->Prop,(∀l H',N l H'->∃ B,B<m/\W (i+1) B l H')/\∀x H',(Itl K a).yld i H x H'->g x σ H' λh t=>z {D with nx:=N,ct:=N,bk:=D.nx} h t):=by
 refine⟨λi m σ H=>m=xs.length-i/\i<=xs.length/\Pv i σ H,⟨xs.length,by simp,br _,C⟩,?_⟩;rintro i m σ H ⟨rfl,I,p⟩;have q:=E i σ H I p
 by_cases r:i<xs.length
 ·refine .inr ⟨⟨xs,xs[i],q,by simp[r]⟩,Pv (i+1),λl H' J=>⟨xs.length-(i+1),by lia,rfl,r,J⟩,λx H' y=>?_⟩;obtain⟨e,y⟩:=y;subst e;exact G i x σ _ (y xs q) p
 ·have e:i=xs.length:=by lia
  subst e;exact .inl ⟨⟨xs,q,ak _⟩,hd σ H p⟩
theorem qz{xs:List V}{g:TG}{z:TS}{D:Ends}(Pv:Nat->St->Hp->Prop)(C:Pv 0 σ H)(E:∀ i σ H,i<=xs.length->Pv i σ H->SqT K H a xs)
  (G:∀ i x σ H,xs[i]?=some x->Pv i σ H->g x σ H λh t=>z {D with nx:=Pv (i+1),ct:=Pv (i+1),bk:=D.nx} h t) (hd:∀ σ H,Pv xs.length σ H->D.nx σ H):
  ∃W:Nat->Nat->St->Hp->Prop,(∃m,W 0 m σ H)/\∀i m σ H,W i m σ H->
   ((Itt K a).stop i H/\D.nx σ H)\/((Itt K a).go i H/\∃N:St->Hp->Prop,(∀l H',N l H'->∃ B,B<m/\W (i+1) B l H')/\∀x H',(Itt K a).yld i H x H'->g x σ H' λh t=>z {D with nx:=N,ct:=N,bk:=D.nx} h t):=by
 refine⟨λi m σ H=>m=xs.length-i/\i<=xs.length/\Pv i σ H,⟨xs.length,by simp,br _,C⟩,?_⟩;rintro i m σ H ⟨rfl,I,p⟩;have q:=E i σ H I p
 by_cases r:i<xs.length
 ·refine .inr ⟨⟨xs,xs[i],q,by simp[r]⟩,Pv (i+1),λl H' J=>⟨xs.length-(i+1),by lia,rfl,r,J⟩,λx H' y=>?_⟩;obtain⟨e,y⟩:=y;subst e;exact G i x σ _ (y xs q) p
 ·have e:i=xs.length:=by lia
  subst e;exact .inl ⟨⟨xs,q,ak _⟩,hd σ H p⟩
theorem O1{lo:Int}{n:Nat}{g:TG}{z:TS}{D:Ends}(Pv:Nat->St->Hp->Prop)(C:Pv 0 σ H)
  (E:∀ i σ H,i<n->Pv i σ H->g (.int (lo+i)) σ H λh t=>z {D with nx:=Pv (i+1),ct:=Pv (i+1),bk:=D.nx} h t) (hd:∀ σ H,Pv n σ H->D.nx σ H):
  ∃W:Nat->Nat->St->Hp->Prop,(∃m,W 0 m σ H)/\∀i m σ H,W i m σ H->
   ((Itr lo n).stop i H/\D.nx σ H)\/((Itr lo n).go i H/\∃N:St->Hp->Prop,(∀l H',N l H'->∃ B,B<m/\W (i+1) B l H')/\∀x H',(Itr lo n).yld i H x H'->g x σ H' λh t=>z {D with nx:=N,ct:=N,bk:=D.nx} h t):=by
 refine⟨λi m σ H=>m=n-i/\i<=n/\Pv i σ H,⟨n,by simp,br _,C⟩,?_⟩;rintro i m σ H ⟨rfl,I,p⟩
 by_cases r:i<n
 ·refine .inr ⟨r,Pv (i+1),λl H' G=>⟨n-(i+1),by lia,rfl,r,G⟩,λx H' y=>?_⟩;obtain⟨e,y⟩:=y;subst e y;exact E i σ _ r p
 ·have e:i=n:=by lia
  subst e;exact .inl ⟨ak _,hd σ H p⟩
abbrev R2:=V->V->Hp->VK->Prop
def OpR(X:Cx)(f:Value->Value->Sem Value)(r:R2):Prop:=
 ∀(pins:List (Addr×Obj))(s:Shared)(σ:St)(H:Hp)(x y:V)(v u:Value)(Q:VK),Inv X pins σ H s->RelV x v->RelV y u->r x y H Q->
  wpAny (model X.prog X.w) X.A (f v u) (EP X pins σ Q) X.xe s
def UnR(X:Cx)(f:Value->Sem Value)(r:V->Hp->VK->Prop):Prop:=
 ∀(pins:List (Addr×Obj))(s:Shared)(σ:St)(H:Hp)(x:V)(v:Value)(Q:VK),Inv X pins σ H s->RelV x v->r x H Q->
  wpAny (model X.prog X.w) X.A (f v) (EP X pins σ Q) X.xe s
def JA(X:Cx)(f:Value)(r:List V->Hp->VK->Prop):Prop:=
 ∀(pins:List (Addr×Obj))(s:Shared)(σ:St)(H:Hp)(g:List V)(us:List Value)(Q:VK),Inv X pins σ H s->Vals g us->r g H Q->
  wpAny (model X.prog X.w) X.A (call f us) (EP X pins σ Q) X.xe s
def tOp(r:R2)(g h:TE):TE:=λσ H Q=>g σ H λx l=>h σ l λy t=>r x y t Q
def tUn(r:V->Hp->VK->Prop)(g:TE):TE:=λσ H Q=>g σ H λx h=>r x h Q
def rI(C:Int->Int->Prop)(g:Int->Int->V):R2:=λx y H Q=>∃ i j,x=.int i/\y=.int j/\C i j/\Q (g i j) H
def rI0(g:Int->Int->V):R2:=λx y H Q=>∃ i j,x=.int i/\y=.int j/\Q (g i j) H
def rU(g:Int->V):V->Hp->VK->Prop:=λx H Q=>∃ i,x=.int i/\Q (g i) H
section
variable{a b c:Expr}{ta tb tc:TE}
theorem jE(B:PE X a ta)(C:PE X b tb){R:V->V->Hp->Prop}(I:Inv X pins σ H s)
  (h:ta σ H λx z=>tb σ z λy g=>R x y g) {Q:Value->Shared->Prop} {f:Value->Value->Sem Value}
  (D:∀ v u t x y g,Inv X pins σ g t->RelV x v->RelV y u->R x y g->wpAny (model X.prog X.w) X.A (f v u) Q X.xe t):
  wpAny (model X.prog X.w) X.A (eval a X.env) (λv l=>wpAny (model X.prog X.w) X.A (eval b X.env) (λu r=>wpAny (model X.prog X.w) X.A (f v u) Q X.xe r) X.xe l) X.xe s:=by
 refine thn (B pins s σ H _ I h) λv E G=>?_;obtain⟨x,z,J,L,M⟩:=G;refine thn (C pins E σ z _ J M) λu t O=>?_;obtain⟨y,g,U,Y,q2⟩:=O;exact D v u t x y g U L Y q2
theorem wX{op:Operator}{r:R2}(g:OpR X (binaryOp op) r)(l:PE X a ta)(t:PE X b tb):PE X (.BinOp a op b pos) (tOp r ta tb):=by
 intro pins s σ H Q I h;exact wpAny_BinOp (jE l t I h λv u z x y B C D E q=>g pins z σ B x y v u Q C D E q)
theorem yr{op:UnaryOp}{r:V->Hp->VK->Prop}(g:UnR X (unaryOp op) r)(l:PE X a ta):PE X (.UnaryOp op a pos) (tUn r ta):=by
 intro pins s σ H Q I h;exact UnaryOp_ (thn (l pins s σ H _ I h) λv t z=>by obtain⟨x,B,C,D,E⟩:=z;exact g pins t σ B x v Q C D E)
theorem opI{f:Value->Value->Sem Value}{C:Int->Int->Prop}{g:Int->Int->Int}
  (rule:∀(i j:Int)(t u:Tok)(s:Shared)(Q:Value->Shared->Prop)(E:Value->Shared->Prop),C i j->Q (.int (g i j) s.toks) {s with toks:=s.toks+1}->wpAny (model X.prog X.w) X.A (f (.int i t) (.int j u)) Q E s):
  OpR X f (rI C λi j=>.int (g i j)):=by
 intro pins s σ H x y v u Q I l r h;obtain⟨i,j,rfl,rfl,z,q⟩:=h;obtain⟨t,rfl⟩:=l;obtain⟨B,rfl⟩:=r;exact rule i j t B s _ _ z ⟨.int (g i j),H,I.tok _,⟨_,rfl⟩,q⟩
theorem mZ{f:Value->Value->Sem Value}{g:Int->Int->Int}
  (rule:∀(i j:Int)(t u:Tok)(s:Shared)(Q:Value->Shared->Prop)(E:Value->Shared->Prop),Q (.int (g i j) s.toks) {s with toks:=s.toks+1}->wpAny (model X.prog X.w) X.A (f (.int i t) (.int j u)) Q E s):
  OpR X f (rI0 λi j=>.int (g i j)):=by
 intro pins s σ H x y v u Q I l r h;obtain⟨i,j,rfl,rfl,q⟩:=h;obtain⟨t,rfl⟩:=l;obtain⟨z,rfl⟩:=r;exact rule i j t z s _ _ ⟨.int (g i j),H,I.tok _,⟨_,rfl⟩,q⟩
theorem iH{f:Value->Value->Sem Value}{g:Int->Int->Bool}
  (rule:∀(i j:Int)(t u:Tok)(s:Shared)(Q:Value->Shared->Prop)(E:Value->Shared->Prop),Q (.bool (g i j)) s->wpAny (model X.prog X.w) X.A (f (.int i t) (.int j u)) Q E s):
  OpR X f (rI0 λi j=>.bl (g i j)):=by
 intro pins s σ H x y v u Q I l r h;obtain⟨i,j,rfl,rfl,q⟩:=h;obtain⟨t,rfl⟩:=l;obtain⟨z,rfl⟩:=r;exact rule i j t z s _ _ ⟨.bl (g i j),H,I,rfl,q⟩
def pW(i j:Int):Prop:=0<j/\j<1073741824
def jK(i j:Int):Prop:=0<=j/\j<=1000000/\i.natAbs<2^64
def iX(i j:Int):Prop:=(-(2^64)<i/\i<2^64)\/(-(2^64)<j/\j<2^64)
theorem iX.ok{i j:Int}(h:iX i j):IntMulOk i j:=by
 rcases h with⟨g,l⟩|⟨g,l⟩
 ·exact .of_left (intBits_le_64 g l)
 ·exact .of_right (intBits_le_64 g l)
theorem yb:OpR X (binaryOp .Add) (rI0 λi j=>.int (i+j)):=mZ λ_ _ _ _ _ _ _ q=>add_int q
theorem yu:OpR X (binaryOp .Sub) (rI0 λi j=>.int (i-j)):=mZ λ_ _ _ _ _ _ _ q=>sub_int q
theorem yd:OpR X (binaryOp .Mult) (rI iX λi j=>.int (i*j)):=opI λ_ _ _ _ _ _ _ g q=>mul_int q g.ok
theorem xK:OpR X (binaryOp .FloorDiv) (rI pW λi j=>.int (i/j)):=opI λi j _ _ _ _ _ g q=>by
 have h:(0:Int)<j:=g.1;have l:j<1073741824:=g.2;exact floordiv_int (by lia) (by rw[Int.fdiv_eq_ediv_of_nonneg i (by lia)];exact q) (.inl (PyProof.noPylong_small (by lia)))
theorem sx:OpR X (binaryOp .Mod) (rI (λ_ j=>0<j) λi j=>.int (i %j)):=opI λi j _ _ _ _ _ g q=>by
 have h:(0:Int)<j:=g;exact mod_int' (by lia) (by rw[Int.fmod_eq_emod_of_nonneg i (by lia)];exact q)
theorem v7:OpR X (binaryOp .Pow) (rI jK λi j=>.int (i^j.toNat)):=opI λ_ _ _ _ _ _ _ g q=>pow_int_small g.1 g.2.1 g.2.2 q
theorem unI{f:Value->Sem Value}{g:Int->Int}
  (rule:∀(i:Int)(t:Tok)(s:Shared)(Q:Value->Shared->Prop)(E:Value->Shared->Prop),Q (.int (g i) s.toks) {s with toks:=s.toks+1}->wpAny (model X.prog X.w) X.A (f (.int i t)) Q E s):
  UnR X f (rU λi=>.int (g i)):=by
 intro pins s σ H x v Q I l h;obtain⟨i,rfl,q⟩:=h;obtain⟨t,rfl⟩:=l;exact rule i t s _ _ ⟨.int (g i),H,I.tok _,⟨_,rfl⟩,q⟩
theorem wj:UnR X (unaryOp .USub) (rU λi=>.int (-i)):=unI λ_ _ _ _ _ q=>neg_int q
end
noncomputable def kF:V->V->Bool
 | .non,.non=>true| .non,.int _=>true| .int _,.non=>true| .non,.bl _=>true| .bl _,.non=>true| .non,.str _=>true| .str _,.non=>true
 | .int _,.int _=>true| .bl _,.bl _=>true| .str _,.str _=>true| .byt _,.byt _=>true
 | .int _,.str _=>true| .str _,.int _=>true| .bl _,.str _=>true| .str _,.bl _=>true
 |_,_=>false
def rEq:R2:=λx y H Q=>kF x y=true/\Q (.bl (decide (x=y))) H
def rNe:R2:=λx y H Q=>kF x y=true/\Q (.bl (!decide (x=y))) H
theorem MS{i j:Int}:decide (V.int i=V.int j)=(i==j):=by
 rw[cu];simp
theorem oP{i j:Bool}:decide (V.bl i=V.bl j)=(i==j):=by
 rw[cu];simp
theorem UH{i j:Str}:decide (V.str i=V.str j)=(i==j):=by
 rw[cu];simp
theorem Pu{i j:Array UInt8}:decide (V.byt i=V.byt j)=(i.toList==j.toList):=by
 rw[cu];cases i;cases j;simp
section
variable{a b c:Expr}{ta tb tc:TE}
theorem Z4{Q:VK}{k g:Bool}(I:Inv X pins σ H s)(q:Q (.bl k) H)(e:k=g):EP X pins σ Q (.bool g) s:=by
 subst e;exact⟨.bl k,H,I,rfl,q⟩
theorem ud:OpR X (compareOp .Eq) rEq:=by
 intro pins s σ H x y v u Q I z g h;obtain⟨r,q⟩:=h;cases x with
 |non=>
  cases z;cases y with
  |non=>cases g;exact PySem.EqNone.eq_none_none (Z4 I q (by simp))
  |bl j=>cases g;exact PySem.EqNone.eq_none_bool (Z4 I q (by simp))
  |int j=>obtain⟨l,rfl⟩:=g;exact PySem.EqNone.eq_none_int (Z4 I q (by simp))
  |str j=>obtain⟨l,rfl⟩:=g;exact PySem.EqNone.eq_none_str (Z4 I q (by simp))
  |_=>exact absurd (show false=true from r) ae
 |bl i=>
  cases z;cases y with
  |non=>cases g;exact PySem.EqNone.eq_bool_none (Z4 I q (by simp))
  |bl j=>cases g;exact eq_bool (Z4 I q oP)
  |str j=>obtain⟨l,rfl⟩:=g;exact PySem.EqMixed.eq_bool_str (Z4 I q (by simp))
  |_=>exact absurd (show false=true from r) ae
 |int i=>
  obtain⟨t,rfl⟩:=z;cases y with
  |non=>cases g;exact PySem.EqNone.eq_int_none (Z4 I q (by simp))
  |int j=>obtain⟨l,rfl⟩:=g;exact eq_int (Z4 I q MS)
  |str j=>obtain⟨l,rfl⟩:=g;exact PySem.EqMixed.eq_int_str (Z4 I q (by simp))
  |_=>exact absurd (show false=true from r) ae
 |str i=>
  obtain⟨t,rfl⟩:=z;cases y with
  |non=>cases g;exact PySem.EqNone.eq_str_none (Z4 I q (by simp))
  |bl j=>cases g;exact PySem.EqMixed.eq_str_bool (Z4 I q (by simp))
  |int j=>obtain⟨l,rfl⟩:=g;exact PySem.EqMixed.eq_str_int (Z4 I q (by simp))
  |str j=>obtain⟨l,rfl⟩:=g;exact eq_str (Z4 I q UH)
  |_=>exact absurd (show false=true from r) ae
 |byt i=>
  obtain⟨t,rfl⟩:=z;cases y with
  |byt j=>obtain⟨l,rfl⟩:=g;exact PySem.W.eq_bytes (Z4 I q Pu)
  |_=>exact absurd (show false=true from r) ae
 |_=>cases y<;>exact absurd (show false=true from r) ae
theorem vC:OpR X (compareOp .NotEq) rNe:=by
 intro pins s σ H x y v u Q I z g h;obtain⟨r,q⟩:=h;cases x with
 |non=>
  cases z;cases y with
  |non=>cases g;exact PySem.EqNone.ne_none_none (Z4 I q (by simp))
  |bl j=>cases g;exact PySem.EqNone.ne_none_bool (Z4 I q (by simp))
  |int j=>obtain⟨l,rfl⟩:=g;exact PySem.EqNone.ne_none_int (Z4 I q (by simp))
  |str j=>obtain⟨l,rfl⟩:=g;exact PySem.EqNone.ne_none_str (Z4 I q (by simp))
  |_=>exact absurd (show false=true from r) ae
 |bl i=>
  cases z;cases y with
  |non=>cases g;exact PySem.EqNone.ne_bool_none (Z4 I q (by simp))
  |bl j=>cases g;exact ne_bool (Z4 I q (bK not oP))
  |str j=>obtain⟨l,rfl⟩:=g;exact PySem.EqMixed.ne_bool_str (Z4 I q (by simp))
  |_=>exact absurd (show false=true from r) ae
 |int i=>
  obtain⟨t,rfl⟩:=z;cases y with
  |non=>cases g;exact PySem.EqNone.ne_int_none (Z4 I q (by simp))
  |int j=>obtain⟨l,rfl⟩:=g;exact ne_int (Z4 I q (bK not MS))
  |str j=>obtain⟨l,rfl⟩:=g;exact PySem.EqMixed.ne_int_str (Z4 I q (by simp))
  |_=>exact absurd (show false=true from r) ae
 |str i=>
  obtain⟨t,rfl⟩:=z;cases y with
  |non=>cases g;exact PySem.EqNone.ne_str_none (Z4 I q (by simp))
  |bl j=>cases g;exact PySem.EqMixed.ne_str_bool (Z4 I q (by simp))
  |int j=>obtain⟨l,rfl⟩:=g;exact PySem.EqMixed.ne_str_int (Z4 I q (by simp))
  |str j=>obtain⟨l,rfl⟩:=g;exact ne_str (Z4 I q (bK not UH))
  |_=>exact absurd (show false=true from r) ae
 |byt i=>
  obtain⟨t,rfl⟩:=z;cases y with
  |byt j=>obtain⟨l,rfl⟩:=g;exact PySem.W.ne_bytes (Z4 I q (bK not Pu))
  |_=>exact absurd (show false=true from r) ae
 |_=>cases y<;>exact absurd (show false=true from r) ae
theorem xN:OpR X (compareOp .Lt) (rI0 λi j=>.bl (decide (i<j))):=iH λ_ _ _ _ _ _ _ q=>lt_int q
theorem tD:OpR X (compareOp .LtE) (rI0 λi j=>.bl (decide (i<=j))):=iH λ_ _ _ _ _ _ _ q=>le_int q
theorem qO:OpR X (compareOp .Gt) (rI0 λi j=>.bl (decide (j<i))):=iH λ_ _ _ _ _ _ _ q=>gt_int q
theorem xP:OpR X (compareOp .GtE) (rI0 λi j=>.bl (decide (j<=i))):=iH λ_ _ _ _ _ _ _ q=>ge_int q
theorem xf:OpR X (compareOp .IsNot) (λx y H Q=>y=.non/\Q (.bl (!decide (x=.non))) H):=by
 intro pins s σ H x y v u Q I g l h;obtain⟨rfl,q⟩:=h;cases l;refine isnot_none_gen (Z4 I q ?_);cases x<;>first
  |(cases g;rfl)
  |(obtain⟨t,rfl⟩:=g;rfl)
theorem qH(b:Expr){op:CmpOp}(h:autoParam (op≠.In) zz1._auto_1)(g:autoParam (op≠.NotIn) zz1._auto_1):behindInMarks op b=false:=by
 have l:(op==CmpOp.In)=false:=by cases op<;>first|rfl|exact absurd rfl h
 have r:(op==CmpOp.NotIn)=false:=by cases op<;>first|rfl|exact absurd rfl g
 cases b<;>simp[behindInMarks,l,r]
theorem vE{op:CmpOp}{r:R2}(g:OpR X (compareOp op) r)(l:PE X a ta)(t:PE X b tb)(z:behindInMarks op b=false):PE X (.Compare a [op] [b] pos) (tOp r ta tb):=by
 intro pins s σ H Q I h;exact wpAny_Compare1 (jE l t I h λv u B x y C D E G q=>g pins B σ C x y v u Q D E G q) z
def wQ(t:TE):TT:=λσ H Q=>t σ H λx H'=>∃ k,x=.bl k/\Q k H'
theorem t8{op:CmpOp}{r:R2}(g:OpR X (compareOp op) r)(l:PE X a ta)(t:PE X b tb)(B:behindInMarks op b=false):PT X (.Compare a [op] [b] pos) (wQ (tOp r ta tb)):=by
 intro pins s σ H Q I h
 refine wpAny_isTrue_Compare1 (thn (l pins s σ H _ I h) λv C ⟨x,D,E,G,J⟩=>thn (t pins C σ D _ E J) λu L ⟨y,M,O,U,Y⟩=>
  thn (g pins L σ M x y v u _ O G U Y) λc s3 ⟨z,H3,I3,r3,k,e,q3⟩=>?_) B
 subst e;cases r3;exact eI ⟨H3,I3,q3⟩
theorem BW:(sizeLine:Nat)<2^63:=by rw[bL];decide
theorem LJ:OpR X (binaryOp .Add) (λx y H Q=>∃ i j,x=.str i/\y=.str j/\i.length+j.length<=sizeLine/\Q (.str (i++j)) H):=by
 intro pins s σ H x y v u Q I g l h;obtain⟨i,j,rfl,rfl,r,q⟩:=h;obtain⟨t,rfl⟩:=g;obtain⟨z,rfl⟩:=l;exact add_str (λz B=>⟨.str (i++j),H,I.tok _,⟨_,rfl⟩,q⟩) r
theorem vals1{x:V}(r:Vals [x] us):∃ u,us=[u]/\RelV x u:=by
 cases r with
 |cons g h=>cases h;exact⟨_,rfl,g⟩
theorem vals2{x:V}(r:Vals [x,y] us):∃ u g,us=[u,g]/\RelV x u/\RelV y g:=by
 cases r with
 |cons h l=>
  cases l with
  |cons t z=>cases z;exact⟨_,_,rfl,h,t⟩
theorem wr:JA X (.builtin "abs") (λxs H Q=>∃ i,xs=[.int i]/\Q (.int (if i<0 then-i else i)) H):=by
 intro pins s σ H xs us Q I r h;obtain⟨i,rfl,q⟩:=h;obtain⟨u,rfl,t,rfl⟩:=vals1 r;exact call_abs_int λu g=>⟨.int (if i<0 then-i else i),H,I.tok _,⟨_,rfl⟩,q⟩
theorem Np(l:X.calm=true):JA X (.builtin "max") (λxs H Q=>∃ i j,xs=[.int i,.int j]/\Q (.int (if j>i then j else i)) H):=by
 intro pins s σ H xs us Q I r h;obtain⟨i,j,rfl,q⟩:=h;obtain⟨u,x,rfl,⟨t,rfl⟩,⟨z,rfl⟩⟩:=vals2 r;refine max_two_ints (I.ok.hd l) λh' B k=>⟨_,H,I.kept k,?_,q⟩
 by_cases g:j>i
 ·rw[aw g,aw g];exact⟨_,rfl⟩
 ·rw[ao g,ao g];exact⟨_,rfl⟩
theorem S4(l:X.calm=true):JA X (.builtin "min") (λxs H Q=>∃ i j,xs=[.int i,.int j]/\Q (.int (if j<i then j else i)) H):=by
 intro pins s σ H xs us Q I r h;obtain⟨i,j,rfl,q⟩:=h;obtain⟨u,x,rfl,⟨t,rfl⟩,⟨z,rfl⟩⟩:=vals2 r;refine min_two_ints (I.ok.hd l) λh' B k=>⟨_,H,I.kept k,?_,q⟩
 by_cases g:j<i
 ·rw[aw g,aw g];exact⟨_,rfl⟩
 ·rw[ao g,ao g];exact⟨_,rfl⟩
end
theorem Lp.some_of{o:Option Value}(r:Lp (some v) o):∃ u,o=some u/\RelV v u:=by
 cases o with
 |none=>exact(show False from r).elim
 |some u=>exact⟨u,rfl,r⟩
structure QL(k:Nat)(A:Around):Prop where
 hd:A.handled=none
 dp:A.depth+3*k+5<recursionLimit
 un:A.units+16*k+200<cLine
 gd:A.guards=some []
theorem QL.mono{k:Nat}(r:QL k A)(h:j<=k):QL j A:=⟨r.hd,by have:=r.dp;lia,by have:=r.un;lia,r.gd⟩
theorem QL.deeper{k:Nat}(r:QL (k+1) A)(env:Env):QL k (A.deeper env):=
 ⟨r.hd,by have:=r.dp;show A.depth+1+3*k+5<_;lia,by have:=r.un;show A.units+3+16*k+200<_;lia,r.gd⟩
theorem QL.in1{k:Nat}(r:QL (k+1) A):QL k A.in1:=
 ⟨r.hd,by have:=r.dp;show A.depth+3*k+5<_;lia,by have:=r.un;show A.units+1+16*k+200<_;lia,r.gd⟩
theorem QL.depth{k:Nat}(r:QL k A):A.depth<recursionLimit:=by have:=r.dp;lia
theorem QL.units{k:Nat}(r:QL k A):A.units+64<cLine:=by have:=r.un;lia
def vX:TA:=λ_ H Q=>Q [] H
def v3(g:TE)(h:TA):TA:=λσ H Q=>g σ H λx l=>h σ l λr t=>Q (x::r) t
section
variable{es:List Expr}{te:TE}{t:TA}
theorem WN:PA X [] vX:=λ_ _ _ _ H Q I h=>dm ⟨[],H,I,.nil,h⟩
theorem Yy(g:PE X e te)(l:PA X es t)(r:autoParam (starEach (e::es) X.env=(false,eval e X.env)::starEach es X.env) zz3._auto_1):PA X (e::es) (v3 te t):=by
 intro pos pins s σ H Q I h;rw[r];show wpAny _ _ (spliced ((false,eval e X.env)::backTo pos (starEach es X.env))) _ _ s;refine bO (thn (g pins s σ H _ I h) λu z B=>?_);obtain⟨x,C,D,E,G⟩:=B;exact thn (l pos pins z σ C _ D G) (λus s2 J=>by obtain⟨L,M,O,U,Y⟩:=J;exact⟨x::L,M,O,.cons E U,Y⟩)
def uc(t:TA):TE:=λσ H Q=>t σ H λg h=>g.length<=sizeLine/\∀p,h p=none->Q (.ref p) (upd h p (.tup g))
def vV(t:TA):TE:=λσ H Q=>t σ H λg h=>g.length<=sizeLine/\∀p,h p=none->Q (.ref p) (upd h p (.lst g))
theorem kL{B}(h:PA X es t):PE X (.Tuple es B pos) (uc t):=by
 intro pins s σ H Q I C;refine wpAny_Tuple_spliced (thn (h pos pins s σ H _ I C) λus g ⟨D,l,x,r,z,q⟩=>⟨by rw[<-r.length];exact z,?_⟩);have E:l g.heap.objs.size=none:=x.hok.fresh (ak _);refine⟨.ref g.heap.objs.size,upd l g.heap.objs.size (.tup D),x.laid (t':=g.toks) (λb u e=>am _ e) (ak _) ?_,rfl,q _ E⟩;exact⟨z,us,r,⟨_,aR _ rfl,rfl,_,rfl,rfl⟩⟩
theorem n_(h:PA X es t):PE X (.List es pos) (vV t):=by
 intro pins s σ H Q I B;refine wpAny_List_spliced (thn (h pos pins s σ H _ I B) λus g ⟨C,l,x,r,z,q⟩=>⟨by rw[<-r.length];exact z,?_⟩);have D:l g.heap.objs.size=none:=x.hok.fresh (ak _);refine⟨.ref g.heap.objs.size,upd l g.heap.objs.size (.lst C),x.laid (t':=g.toks) (λb u e=>am _ e) (ak _) ?_,rfl,q _ D⟩;exact⟨z,us,0,r,aR _ rfl⟩
end
abbrev Sp:=List V->Hp->VK->XK->Prop
abbrev CXT:=List Env->Hp->Shared->XK->Value->Shared->Prop
structure Ti(P:Program)(w:World)(K:Fk)(mg:Str->Option Value)(base:Heap)(A:Around)(outer:List Env)(s:Shared)(H:Hp):Prop where
 frames:A.frames=some outer
 mod:Mod K mg base
 bs:∀ b o,base.get? b=some o->s.heap.get? b=some o/\H b=none
 bsz:base.objs.size<=s.heap.objs.size
 CD:s.heap.FunFrames base outer
 frf:∀ b∈frs outer,H b=none
 hok:HOk P w H s.heap
 bare:AllBare s.gens
def CE(outer:List Env)(P:Program)(w:World)(H:Hp)(s:Shared)(Q:VK)(u:Value)(s':Shared):Prop:=
 ∃v H',s'.os=s.os/\AllBare s'.gens/\Un (frs outer) [] H H' s.heap s'.heap/\HOk P w H' s'.heap/\RelV v u/\Q v H'
def CR(CX:CXT)(outer:List Env)(P:Program)(w:World)(H:Hp)(s:Shared)(Q:VK)(E:XK)(r:Result)(s':Shared):Prop:=
 match r with
 | .ok (.ret u)=>CE outer P w H s Q u s'
 | .ok _=>False
 | .error e=>CX outer H s E e s'
structure Qx(P:Program)(w:World)(K:Fk)(mg:Str->Option Value)(base:Heap)(CX:CXT)(k:Nat)(f:Addr)(fd:FuncData)(ps:List Str)(sp:Sp):Prop where
 len:∀ vs H Q E,sp vs H Q E->vs.length=ps.length
 run:∀(A:Around)(outer:List Env)(s:Shared)(H:Hp)(args:Args)(us:List Value)(vs:List V)(Q:VK)(E:XK),QL k A->Ti P w K mg base A outer s H->BindsTo s fd args (ps.zip us)->Vals vs us->sp vs H Q E->
  codeAny (model P w) A (.call (.ref f) args) (CR CX outer P w H s Q E) s
section
variable{s':Shared}
theorem Inv.kM(I:Inv X pins σ H s):Ti X.prog X.w X.K X.mg X.base X.A X.stack s H:=
 ⟨I.ok.frames,I.ok.mod,I.bs,aA I.ok.bsz I.sz,I.stack,I.P9,I.hok,I.bare⟩
theorem Inv.after{Q:VK}(I:Inv X pins σ H s)(h:CE X.stack X.prog X.w H s Q u s'):EP X pins σ Q u s':=by
 obtain⟨v,H',os,l,C,x,r,q⟩:=h;obtain⟨D,g,d,t,B⟩:=s';obtain rfl:B=s.os:=os;exact⟨v,H',I.call (h':=D) (g':=g) (d':=d) (t':=t) (ch:=[]) C x l (λb z=>absurd z (by simp)),r,q⟩
end
def qj(sp:Sp)(g:List V)(E:XK)(t:TA):TE:=λσ H Q=>t σ H λvs h=>sp (vs++g) h Q E
def Binds(K:Fk)(fd:FuncData)(ps:List Str)(ds:List Value):Prop:=
 ∀(s:Shared)(us:List Value),K.In s.heap->(us++ds).length=ps.length->BindsTo s fd ⟨us,[]⟩ (ps.zip (us++ds))
theorem Binds.all{ps:List Str}(h:∀ us:List Value,us.length=ps.length->bindArgs fd ⟨us,[]⟩=pure (ps.zip us)):Binds K fd ps []:=λs us _ g=>by
 rw[aU]at g⊢;exact .of_eq (h us g)
def Passes(CX:CXT)(X:Cx)(E:XK):Prop:=∀(pins:List (Addr×Obj))(σ:St)(H:Hp)(s:Shared)(e:Value)(g:Shared),Inv X pins σ H s->CX X.stack H s E e g->X.xe e g
section
variable{CX:CXT}{k:Nat}{C:Addr}{ps:List Str}{sp:Sp}{dvs:List V}{ds:List Value}{E:XK}{x m:Str}{p:Pos}{o:Expr}{es:List Expr}{ta:TE}{t:TA}
theorem rj{pins:List (Addr×Obj)}{σ:St}{H:Hp}{s:Shared}{Q:VK}{us:List Value}{vs:List V}(F:Qx X.prog X.w X.K X.mg X.base CX k f fd ps sp)(z:QL k X.A)(B:Binds X.K fd ps ds)(hd:Vals dvs ds)(D:Passes CX X E)
  (I:Inv X pins σ H s) (r:Vals vs us) (h:sp (vs++dvs) H Q E):wpAny (model X.prog X.w) X.A (call (.ref f) us) (EP X pins σ Q) X.xe s:=by
 have l:Vals (vs++dvs) (us++ds):=r.append hd;have G:(us++ds).length=ps.length:=by rw[<-l.length];exact F.len _ _ _ _ h
 refine wpAny_call (gA (F.run X.A X.stack s H ⟨us,[]⟩ (us++ds) (vs++dvs) Q E z I.kM (B s us I.kIn G) l h) λr J g=>?_);cases r with
 |error e=>exact D pins σ H s e J I g
 |ok L=>
  cases L with
  |ret u=>exact I.after g
  |next=>exact False.elim g
  |brk=>exact False.elim g
  |cont=>exact False.elim g
theorem v8(F:Qx X.prog X.w X.K X.mg X.base CX k f fd ps sp)(B:QL k X.A)(D:Gl X x)(G:X.mg x=some (.ref f))(J:PySem.W.keepIn X.K (.ref f)=true)(L:Binds X.K fd ps ds)(hd:Vals dvs ds)(M:Passes CX X E)
  (O:PA X (e::es) t) (g:autoParam ((x==("__debug__" :Str))=false) zz1._auto_1) (U:autoParam (starEach (e::es) X.env=(false,eval e X.env)::starEach es X.env) zz3._auto_1) (l:autoParam ((backTo pos (starEach es X.env)).any (·.1)=false) zz3._auto_1):
  PE X (.Call (.Name x p) (e::es) [] pos) (qj sp dvs E t):=by
 intro pins s σ H Q I h;refine dP (S5 I D G ?_ g);refine PySem.W.callWith_K (h₀:=X.base) I.ok.mod.kin J (thn (O pos pins s σ H _ I h) λus Y ⟨vs,H1,z,r,q⟩=>⟨z.kIn,?_⟩) U l;exact rj F B L hd M z r q
end
structure Zo(N P:List Str)(sc:Scope):Prop where
 kind:sc.kind=.function
 co:sc.isCoroutine=false
 gen:sc.isGenerator=false
 nd:N.Nodup
 pre:N.take P.length=P
 par:∀ x∈P,sc.names.lookup x=some .local\/sc.names.lookup x=some .cell
 nofree:∀ y∈sc.names,y.2≠.free
theorem B7{kindOf:Str->Option NameKind}{x:Str}:∀{g:List (Str×Value)}{m:Str->Option Value},(∀v,(x,v)∉g)->bindL kindOf g m x=m x
 |[],_,_=>rfl
 | (n,v)::r,m,h=>by
  unfold bindL;rw[B7 λw l=>h w (aq _ l)]
  split
  ·have:x≠n:=by rintro rfl;exact h v aj
   simp[this]
  ·rfl
theorem Ba{kindOf:Str->Option NameKind}{x:Str}:∀{g:List (Str×Value)}{m:Str->Option Value},(∀v,(x,v)∉g)->bindC kindOf g m x=m x
 |[],_,_=>rfl
 | (n,v)::r,m,h=>by
  unfold bindC;rw[Ba λw l=>h w (aq _ l)]
  split
  ·rfl
  ·have:x≠n:=by rintro rfl;exact h v aj
   simp[this]
theorem Bu{kindOf:Str->Option NameKind}{x:Str}{v:Value}:∀{P:List Str}{vs:List Value}{i:Nat}{m:Str->Option Value},P.Nodup->P[i]?=some x->vs[i]?=some v->kindOf x=some .local->
  bindL kindOf (P.zip vs) m x=some v
 |[],_,_,_,_,h,_,_=>by simp at h
 |_::_,[],_,_,_,_,h,_=>by simp at h
 |p::P,w::vs,0,m,r,g,l,t=>by
  simp at g l;subst g;subst l;show bindL kindOf ((p,w)::P.zip vs) m p=_;unfold bindL;rw[B7 λv z=>(cv.mp r).1 (dZ z).1,aw t];simp
 |p::P,w::vs,i+1,m,r,g,l,t=>by
  show bindL kindOf ((p,w)::P.zip vs) m x=_;unfold bindL;exact Bu (i:=i) (cv.mp r).2 (by simpa using g) (by simpa using l) t
theorem Bc{kindOf:Str->Option NameKind}{x:Str}{v:Value}:∀{P:List Str}{vs:List Value}{i:Nat}{m:Str->Option Value},P.Nodup->P[i]?=some x->vs[i]?=some v->kindOf x≠some .local->
  bindC kindOf (P.zip vs) m x=some v
 |[],_,_,_,_,h,_,_=>by simp at h
 |_::_,[],_,_,_,_,h,_=>by simp at h
 |p::P,w::vs,0,m,r,g,l,t=>by
  simp at g l;subst g;subst l;show bindC kindOf ((p,w)::P.zip vs) m p=_;unfold bindC;rw[Ba λv z=>(cv.mp r).1 (dZ z).1,ao t];simp
 |p::P,w::vs,i+1,m,r,g,l,t=>by
  show bindC kindOf ((p,w)::P.zip vs) m x=_;unfold bindC;exact Bc (i:=i) (cv.mp r).2 (by simpa using g) (by simpa using l) t
noncomputable def start(N:List Str)(vs:List V):St:=vs.map some++List.replicate (N.length-vs.length) none
noncomputable def Mj(CX:CXT)(P:Program)(w:World)(K:Fk)(mg:Str->Option Value)(base:Heap)(N:List Str)(qual:Str)(scope:Scope)(f:Addr)(cd:Value)(A:Around)(outer:List Env)(s:Shared)(H:Hp)(E:XK):Cx where
 prog:=P
 w:=w
 K:=K
 mg:=mg
 base:=base
 A:=A.deeper (envOfC qual scope s.heap.objs.size f cd)
 N:=N
 s₀:=s
 H₀:=H
 env:=envOfC qual scope s.heap.objs.size f cd
 outer:=outer
 stack:=envOfC qual scope s.heap.objs.size f cd::outer
 ex:=[]
 calm:=true
 fn:=λ_=>true
 pn:=[]
 xe:=λe s'=>wpAny (model P w) (A.deeper (envOfC qual scope s.heap.objs.size f cd)) (leaving (envOfC qual scope s.heap.objs.size f cd) e) (λ_ s''=>CX outer H s E e s'') (λe' s''=>CX outer H s E e' s'') s'
theorem FQ{sc:Scope}{x:Str}(h:sc.names.lookup x=some .cell):∃ c,(cellsFrom n sc.names []).lookup x=some c:=by
 have q:=fN sc.names n [] (.inl h);exact ft.mp q
theorem BE{CX:CXT}{P:Program}{w:World}{K:Fk}{mg:Str->Option Value}{base:Heap}{N ps:List Str}{qual:Str}{scope:Scope}{f:Addr}{cd:Value}{A:Around}{outer:List Env}{s J:Shared}{H:Hp}{E:XK}{us:List Value}{vs:List V}
  (S:Zo N ps scope) (hd:A.handled=none) (l:Ti P w K mg base A outer s H) (hl:vs.length=ps.length) (r:Vals vs us)
  (x:InCallC s s.heap.objs.size (bindL (envOfC qual scope s.heap.objs.size f cd).kindOf (ps.zip us) λ_=>none) (cellsFrom (s.heap.objs.size+1) scope.names []) (bindC (envOfC qual scope s.heap.objs.size f cd).kindOf (ps.zip us) λ_=>none) J):
  Inv (Mj CX P w K mg base N qual scope f cd A outer s H E) [] (start N vs) H J:=by
 have O:ps.length<=N.length:=by have:=bK List.length S.pre;rw[bp]at this;lia
 obtain⟨G,tk,rfl,L⟩:=x.done;have t:∀ b:Addr,b∉(Mj CX P w K mg base N qual scope f cd A outer s H E).ex:=λb z=>absurd (show b∈([]:List Addr)from z) (by simp)
 refine⟨⟨l.mod,S.kind,rfl,rfl,ak _,λy z c G g=>?_,λy B=>?_,λy c _ h=>?_,λ_=>hd,Around.frames_deeper l.frames,.inr ⟨rfl,rfl⟩,λb z=>absurd z (t b),l.bs,l.bsz,λb _ _=>t b,λb z=>absurd z (t b),l.CD,l.frf⟩,
  rfl,l.bare,Un.kept L,⟨_,x.toInCall.ns,λi y v G g h3=>?_⟩,λy c h=>⟨_,x.cell y c h⟩,l.hok.fresh (ak _),λy c h=>?_,λp C=>absurd (show p∈([]:List (Addr×Obj))from C) (by simp),l.hok.kept L,?_⟩
 ·exact name_of_addr x.apart (bI G) (bI g)
 ·have B:scope.names.lookup y=some .cell\/scope.names.lookup y=some .free:=B
  rcases B with B|B
  ·exact FQ B
  ·exact absurd rfl (S.nofree _ (bI B))
 ·exact dN (x.above y c (bI h))
 ·have I:i<vs.length:=by
   unfold start at g
   by_cases I:i<vs.length
   ·exact I
   ·rw[bx (by simpa using I)]at g;rw[List.getElem?_replicate]at g
    split at g<;>cases g
  have U:vs[i]?=some v:=by
   unfold start at g;rw[bE (by simpa using I),aV]at g;cases e:vs[i]? with
   |none=>rw[e]at g;cases g
   |some a=>rw[e]at g;cases g;rfl
  obtain⟨u,M,Y⟩:=r.get U;have C:ps[i]?=some y:=by
   rw[<-S.pre,List.getElem?_take_of_lt (by lia)];exact G
  have D:ps.Nodup:=by rw[<-S.pre];exact S.nd.sublist (List.take_sublist _ _)
  refine⟨u,Y,?_⟩
  rcases S.par y (az C)with k|k
  ·exact .inl ⟨k,Bu D C M k⟩
  ·obtain⟨c,e⟩:=FQ (n:=s.heap.objs.size+1) k;refine .inr ⟨.inl k,c,e,?_⟩;have q:=x.cell y c e;rw[Bc D C M (by show scope.names.lookup y≠_;rw[k];decide)]at q;exact q
 ·exact l.hok.fresh (dN (x.above y c (bI h)))
 ·unfold start;show _=N.length;rw[aB,aa,List.length_replicate];lia
theorem rP{CX:CXT}{P:Program}{w:World}{K:Fk}{mg:Str->Option Value}{base:Heap}{k:Nat}{f:Addr}{name qual:Str}{params:Arguments}{body:List Stmt}{scope:Scope}{dV kV C pm g ct oc:Value}{an od:Option Addr}
  {M:Array (Option Value)} {N ps:List Str} {sp:Sp} (lk:K.lookup f=some ⟨oc,od,.func (PySem.W.fnOf name qual params body scope dV kV C pm an g ct),M⟩) (O:PySem.W.codeIn K g qual=true) (S:Zo N ps scope)
  (len:∀ vs H Q E,sp vs H Q E->vs.length=ps.length)
  (l:∀(A:Around)(outer:List Env)(s:Shared)(H:Hp)(vs:List V)(Q:VK)(E:XK),QL k (A.deeper (envOfC qual scope s.heap.objs.size f g))->sp vs H Q E->
   ∃t,PSs (Mj CX P w K mg base N qual scope f g A outer s H E) body t/\t {nx:=λ_ H'=>Q .non H',rt:=Q} (start N vs) H):
  Qx P w K mg base CX (k+1) f (PySem.W.fnOf name qual params body scope dV kV C pm an g ct) ps sp:=by
 refine⟨len,λA outer s H a0 us vs Q E U D hb r G=>?_⟩;have hl:=len _ _ _ _ G;have KX:K.In s.heap:=D.mod.kin.keeps λb o e=>(D.bs b o e).1;have Y:s.heap.NoLimit:=D.mod.nolimit.keeps λb o e=>(D.bs b o e).1;have z:∀ y∈ps.zip us,scope.names.lookup y.1=some .local\/(scope.names.lookup y.1=some .cell/\((cellsFrom (s.heap.objs.size+1) scope.names []).lookup y.1).isSome=true):=λz0 hy=>by 
  obtain⟨n,v⟩:=z0
  rcases S.par n (dZ hy).1 with q|q
  ·exact .inl q
  ·exact .inr ⟨q,fN _ _ _ (.inl q)⟩
 refine codeAny_call_function U.depth (KX _ _ lk) rfl S.co S.gen rfl (PySem.W.codeRec_of KX O) (hb _ _ _ _ ?_);refine wpAny_newFunctionEnv_cells S.kind z λenv he s1 x=>?_;subst he;refine⟨Y.keeps x.toInCall.keep,codeAny_func ?_⟩;obtain⟨t,ht,hq⟩:=l A outer s H vs Q E (U.deeper _) G;have I:Inv (Mj CX P w K mg base N qual scope f g A outer s H E) [] (start N vs) H s1:=BE S U.hd D hl r x;refine bU (ht [] s1 (start N vs) H _ I hq) (λfl s' B=>?_) λe s' B=>B;have L:∀{h:St}{H':Hp}{v:V}{u:Value},Inv (Mj CX P w K mg base N qual scope f g A outer s H E) [] h H' s'->RelV v u->Q v H'->CE outer P w H s Q u s':=
  λ{h H' v u} J rv q=>⟨v,H',J.os,J.bare,J.base,J.hok,rv,q⟩
 cases fl with
 |ret u=>
  obtain⟨v,h,H',J,rv,q⟩:=B;exact L J rv q
 |next=>
  obtain⟨h,H',J,q⟩:=B;exact L (v:=V.non) (u:=Value.none) J rfl q
 |brk=>
  obtain⟨_,_,_,q⟩:=B;exact False.elim q
 |cont=>
  obtain⟨_,_,_,q⟩:=B;exact False.elim q
section
variable{x:Str}{p:Pos}{es:List Expr}{t:TA}{id T:String}{r:List V->Hp->VK->Prop}
def tCB(r:List V->Hp->VK->Prop)(t:TA):TE:=λσ H Q=>t σ H λvs g=>r vs g Q
theorem Tr(z:JA X (.builtin id) r)(B:Gl X x)(C:X.mg x=none)(D:bootBuiltins x=some (.builtin id))(E:PA X (e::es) t)(G:autoParam (x≠"__name__") zz1._auto_1)(g:autoParam ((x==("__debug__" :Str))=false) zz1._auto_1)
  (J:autoParam (starEach (e::es) X.env=(false,eval e X.env)::starEach es X.env) zz3._auto_1) (l:autoParam ((backTo pos (starEach es X.env)).any (·.1)=false) zz3._auto_1):PE X (.Call (.Name x p) (e::es) [] pos) (tCB r t):=by
 intro pins s σ H Q I h;refine dP (Ua I B C D ?_ G g);exact fY (thn (E pos pins s σ H _ I h) λus L M=>by obtain⟨vs,O,U,Y,q1⟩:=M;exact z pins L σ O vs us Q U Y q1) J l
theorem RA(z:JA X (.type T) r)(B:Gl X x)(C:X.mg x=none)(D:bootBuiltins x=some (.type T))(E:PA X (e::es) t)(G:autoParam (x≠"__name__") zz1._auto_1)(g:autoParam ((x==("__debug__" :Str))=false) zz1._auto_1)
  (J:autoParam (starEach (e::es) X.env=(false,eval e X.env)::starEach es X.env) zz3._auto_1) (l:autoParam ((backTo pos (starEach es X.env)).any (·.1)=false) zz3._auto_1):PE X (.Call (.Name x p) (e::es) [] pos) (tCB r t):=by
 intro pins s σ H Q I h;refine dP (Ua I B C D ?_ G g);exact eJ (thn (E pos pins s σ H _ I h) λus L M=>by obtain⟨vs,O,U,Y,q1⟩:=M;exact z pins L σ O vs us Q U Y q1) J l
end
end L2
namespace HT
section
variable{prog:Program}{E:Value->Shared->Prop}
theorem qF{t:Addr}{vs g:List Value}{Q:Value->Shared->Prop}(O:IsTup s.heap t vs.toArray)(U:IsTup s.heap b g.toArray)(D:vs≠[])
  (Y:g=[]->Q (.ref t) s) (h2:g≠[]->Q (.ref s.heap.objs.size) {s with heap:=s.heap.push {cls:=.type "tuple",data:=.seq (vs++g).toArray} })
  (hsz:vs.length+g.length<=sizeLine):wpAny (model prog w) A (binaryOp .Add (.ref t) (.ref b)) Q E s:=by
 obtain⟨⟨cls,G,data,I⟩,B,J,n,hd⟩:=id O;obtain⟨⟨L,l,data2,r⟩,h,x,M,z⟩:=id U;simp only at J hd x z;subst J hd x z;have e:vs.toArray++g.toArray=(vs++g).toArray:=by simp
 by_cases C:g=[]
 ·exact concat_meets ⟨_,B,rfl⟩ ⟨_,h,rfl⟩ noFill_tuple_add seq_tuple_add fO fI (fu _ _)
   (tuple_addW1 t b vs.toArray g.toArray n M G l I r (by simpa using D) (by simp[C])) ⟨B,h,Y C⟩
 ·refine concat_meets ⟨_,B,rfl⟩ ⟨_,h,rfl⟩ noFill_tuple_add seq_tuple_add fO fI (fu _ _)
   (tuple_addW2 t b vs.toArray g.toArray n M G l I r (by simpa using D) (by simpa using C) (by rw[List.size_toArray,List.size_toArray];exact hsz)) ⟨B,h,?_⟩
  rw[e];exact h2 C
noncomputable def sIx(n d:Nat):Option Int->Nat
 |none=>d
 |some v=>if v<0 then(v+(n:Int)).toNat else min v.toNat n
theorem GA(n d:Nat):sIx n d none=d:=rfl
theorem Pb(n d k:Nat):sIx n d (some (k:Int))=min k n:=by
 show(if(k:Int)<0 then((k:Int)+(n:Int)).toNat else min (k:Int).toNat n)=min k n;rw[ao (by lia),gM]
theorem vh(n d:Nat)(hd:d<=n)(o:Option Int):sIx n d o<=n:=by
 cases o with
 |none=>exact hd
 |some v=>
  show(if v<0 then(v+(n:Int)).toNat else min v.toNat n)<=n
  by_cases g:v<0
  ·rw[aw g];lia
  ·rw[ao g];exact eZ _ _
theorem OU(v:Int)(n d:Nat):(if v<0 then max (v+(n:Int)) 0 else min v (n:Int))=((sIx n d (some v):Nat):Int):=by
 show(if v<0 then max (v+(n:Int)) 0 else min v (n:Int))=(((if v<0 then(v+(n:Int)).toNat else min v.toNat n):Nat):Int)
 by_cases g:v<0
 ·simp only[if_pos g];lia
 ·simp only[if_neg g];lia
theorem Ll(lo g:Option Int)(n:Nat):Builtin.Slice.sliceAdjust lo g 1 (n:Int)=(((sIx n 0 lo:Nat):Int),((sIx n n g:Nat):Int)):=by
 have h:¬ ((1:Int)<0):=by lia
 unfold Builtin.Slice.sliceAdjust;simp only[h,if_false];refine Prod.ext ?_ ?_
 ·cases lo with
  |none=>rfl
  |some v=>exact OU v n 0
 ·cases g with
  |none=>rfl
  |some v=>exact OU v n n
theorem L1(i j:Nat):Builtin.Slice.slicePlaces (i:Int) (j:Int) 1=j-i:=by
 unfold Builtin.Slice.slicePlaces;have g:(1:Int)>0:=by lia
 simp only[g,if_true,Int.ediv_one]
 split<;>lia
theorem WA{v:Value}{o:Option Int}{Q:Option Int->Shared->Prop}(p:IsPart v o)(h:Q o s):wpAny (model prog w) A (Builtin.Slice.slicePartIndex v) Q E s:=by
 cases p with
 |none=>exact slicePart_none h
 |int i t=>exact slicePart_int h
theorem XZ{B:Addr}{t z:Value}{lo g:Option Int}{n:Nat}{Q:Int×Int×Nat->Shared->Prop}(C:s.heap.IsSliceOf B t z .none)(D:IsPart t lo)(G:IsPart z g)
  (h:Q (((sIx n 0 lo:Nat):Int),1,sIx n n g-sIx n 0 lo) s):wpAny (model prog w) A (Builtin.Slice.sliceApplied (.ref B) (pure (n:Int))) Q E s:=by
 obtain⟨os,l,I,r⟩:=id C;unfold Builtin.Slice.sliceApplied Builtin.Slice.sliceFields;refine ag (ag (wpAny_field l r (x:=t) rfl (ag (wpAny_field l r (x:=z) rfl (ag (wpAny_field l r (x:=.none) rfl (aD ?_)))))));refine ag (slicePart_none ?_);show wpAny _ _ (if((1:Int)==0)=true then _ else _) _ _ s;rw[ao (by decide)];refine ag (WA D (ag (WA G (ag (aD ?_)))));show wpAny _ _ (match Builtin.Slice.sliceAdjust lo g 1 (n:Int)with|(lo,g)=>pure (lo,(1:Int),Builtin.Slice.slicePlaces lo g 1)) _ _ s;rw[Ll lo g n];show wpAny _ _ (pure (((sIx n 0 lo:Nat):Int),(1:Int),Builtin.Slice.slicePlaces ((sIx n 0 lo:Nat):Int) ((sIx n n g:Nat):Int) 1)) _ _ s;rw[L1];exact aD h
theorem TQ(xs:Array Value)(i k:Nat):((List.range k).filterMap λ(m:Nat)=>xs[((i:Int)+(m:Int)*1).toNat]?).toArray=((xs.toList.drop i).take k).toArray:=by
 have e:(λ(m:Nat)=>xs[((i:Int)+(m:Int)*1).toNat]?)=λm=>xs[i+m]?:=by
  funext m
  have:((i:Int)+(m:Int)*1).toNat=i+m:=by lia
  rw[this]
 rw[e];have:=pick_run xs i k;rw[List.filterMap_map]at this;have g:((λx=>xs[x]?)∘ λx=>i+x)=λm=>xs[i+m]?:=rfl;rw[g]at this;rw[this]
theorem Xp{t z:Addr}{g:Array Value}{I J:Value}{lo r:Option Int}{Q:Value->Shared->Prop}(x:IsTup s.heap t g)(L:s.heap.IsSliceOf z I J .none)(M:IsPart I lo)(O:IsPart J r)
  (U:¬ (sIx g.size 0 lo=0/\sIx g.size g.size r=g.size))
  (h:Q (.ref s.heap.objs.size) {s with heap:=s.heap.push {cls:=.type "tuple",data:=.seq ((g.toList.drop (sIx g.size 0 lo)).take (sIx g.size g.size r-sIx g.size 0 lo)).toArray} })
  (hsz:g.size<=sizeLine):wpAny (model prog w) A (getItem (.ref t) (.ref z)) Q E s:=by
 have l:sizeOk (.seq ((g.toList.drop (sIx g.size 0 lo)).take (sIx g.size g.size r-sIx g.size 0 lo)).toArray):=by
  show((g.toList.drop (sIx g.size 0 lo)).take (sIx g.size g.size r-sIx g.size 0 lo)).toArray.size<=sizeLine;rw[aQ,bp,gY,aS];omega
 have hj:sIx g.size g.size r<=g.size:=vh _ _ (ak _) r;obtain⟨os,B,C,Y⟩:=id L;have D:s.TypeIs (.ref z) "slice":=⟨os,B,C⟩
 unfold getItem
 try with_reducible refine cr ?_
 first|refine ag (aD ?_)|skip
 refine ag (wpAny_sequenceKey x.typeIs (by decide) ?_)
 refine ag (fJ (name:=Str.ofString "__getitem__") x.typeIs dG
  (c8 dG x.typeIs entry_tuple_getitem ?_ (args_tuple_getitem _ _)))
 show wpAny _ _ (Builtin.Tuple.tupleItemsOf (.ref t) >>= _) _ _ s;refine ag (tupleItemsOf_ x ?_);refine ag (wpAny_typeOf D ?_);rw[aw (by decide)];refine ag (XZ L M O ?_);have G:¬ ((((sIx g.size 0 lo:Nat):Int)==0&&(1:Int)==1&&(sIx g.size g.size r-sIx g.size 0 lo)==g.size)=true):=by
  intro q;rw[b_,b_]at q;have q1:((sIx g.size 0 lo:Nat):Int)=0:=eq_of_beq q.1.1;have q2:sIx g.size g.size r-sIx g.size 0 lo=g.size:=eq_of_beq q.2;exact U ⟨by omega,by omega⟩
 show wpAny _ _ (if(((sIx g.size 0 lo:Nat):Int)==0&&(1:Int)==1&&(sIx g.size g.size r-sIx g.size 0 lo)==g.size)=true then _ else _) _ _ s;rw[ao G,TQ]
 first
  |exact ag (m:=Builtin.Tuple.tupleExact _) (cG (aD ⟨_,rfl,aD h⟩) l)
  |exact ag (m:=Builtin.Tuple.tupleExact _) (cG (ag (aD (aD ⟨_,rfl,aD h⟩))) l)
  |exact ag (ag (m:=Builtin.Tuple.tupleExact _) (cG (aD (aD ⟨_,rfl,aD h⟩)) l))
  |exact ag (ag (m:=Builtin.Tuple.tupleExact _) (cG (aD ⟨_,rfl,aD h⟩) l))
end
end HT
namespace L2
abbrev TO:=St->Hp->(Option Int->Hp->Prop)->Prop
def PO(X:Cx)(e:Option Expr)(t:TO):Prop:=
 ∀(pins:List (Addr×Obj))(s:Shared)(σ:St)(H:Hp)(Q:Option Int->Hp->Prop),Inv X pins σ H s->t σ H Q->
  wpAny (model X.prog X.w) X.A (evalPart e X.env) (λu g=>∃ o H',Inv X pins σ H' g/\IsPart u o/\Q o H') X.xe s
def xj:TO:=λ_ H Q=>Q none H
def xW(t:TE):TO:=λσ H Q=>t σ H λx g=>∃ i,x=.int i/\Q (some i) g
theorem intsAre_of{ns:List Int}:∀{us:List Value},Vals (ns.map V.int) us->IntsAre us ns:=by
 induction ns with
 |nil=>intro us r;rw[cw]at r;cases r;exact .nil
 | cons n ns g=>
  intro us r;rw[ai]at r;cases r with
  |cons h l=>
   obtain⟨t,e⟩:=h;subst e;exact .cons n t (g l)
section
variable{te:TE}{lo hi:Option Expr}{tl th:TO}{p2:Pos}
theorem t9:PO X none xj:=by
 intro pins s σ H Q I h;rw[evalPart_none];exact aD ⟨none,H,I,.none,h⟩
theorem qe(h:PE X e te):PO X (some e) (xW te):=by
 intro pins s σ H Q I g;rw[evalPart_some];refine thn (h pins s σ H _ I g) λu D l=>?_;obtain⟨x,r,z,B,C⟩:=l;obtain⟨i,rfl,q⟩:=C;obtain⟨t,rfl⟩:=B;exact⟨some i,r,z,.int i t,q⟩
def SlR(X:Cx)(r:V->Option Int->Option Int->Hp->VK->Prop):Prop:=
 ∀(pins:List (Addr×Obj))(s:Shared)(σ:St)(H:Hp)(x:V)(v g h:Value)(lo hi:Option Int)(l:Addr)(Q:VK),Inv X pins σ H s->RelV x v->s.heap.IsSliceOf l g h .none->IsPart g lo->IsPart h hi->r x lo hi H Q->
  ∃T id,typeLookup (.type T) "__getitem__"=pure (some (.builtin id))/\s.TypeIs v T/\wpAny (model X.prog X.w) X.A (getItem v (.ref l)) (EP X pins σ Q) X.xe s
def tSl(r:V->Option Int->Option Int->Hp->VK->Prop)(te:TE)(tl th:TO):TE:=λσ H Q=>te σ H λx g=>tl σ g λl h=>th σ h λu t=>r x l u t Q
theorem Fc{r:V->Option Int->Option Int->Hp->VK->Prop}(C:SlR X r)(D:PE X e te)(E:PO X lo tl)(G:PO X hi th):PE X (.Subscript e (.Slice lo hi none p2) pos) (tSl r te tl th):=by
 intro pins s σ H Q I h;refine Subscript_ (thn (D pins s σ H _ I h) λv J L=>?_);obtain⟨x,M,O,U,Y⟩:=L;refine wpAny_Slice (thn (E pins J σ M _ O Y) λt s2 ⟨l,H2,I2,pl,q2⟩=>thn (G pins s2 σ H2 _ I2 q2) λz g z2=>?_);obtain⟨u,B,I3,pu,q3⟩:=z2;rw[evalPart_none];refine aD ?_;have I4:Inv X pins σ B {g with heap:=g.heap.push {cls:=.type "slice",data:=.fields #[t,z,.none]} }:=I3.kept (t':=g.toks) λb ob q=>am _ q;obtain⟨T,id,hT,ht,hg⟩:=C pins {g with heap:=g.heap.push {cls:=.type "slice",data:=.fields #[t,z,.none]} } σ B x v t z l u g.heap.objs.size Q I4 U (Heap.IsSliceOf.new ..) pl pu q3;show wpAny (model X.prog X.w) X.A (subscriptTail e (.Slice lo hi none p2) v (.ref g.heap.objs.size)) (EP X pins σ Q) X.xe {g with heap:=g.heap.push {cls:=.type "slice",data:=.fields #[t,z,.none]} };exact tail_any (ops:=[.ref g.heap.objs.size,v]) ht hT hg (by with_unfolding_all rfl)
noncomputable def gL(xs:List V)(lo hi:Option Int):List V:=(xs.drop (HT.sIx xs.length 0 lo)).take (HT.sIx xs.length xs.length hi-HT.sIx xs.length 0 lo)
theorem Wj(xs:List V)(lo hi:Option Int):(gL xs lo hi).length<=xs.length:=by
 unfold gL;rw[bp,gY];lia
def xq(K:Fk):V->Option Int->Option Int->Hp->VK->Prop:=λx lo hi H Q=>∃ a g,x=.ref a/\SqT K H a g/\
 ¬(HT.sIx g.length 0 lo=0/\HT.sIx g.length g.length hi=g.length)/\∀p,H p=none->Q (.ref p) (upd H p (.tup (gL g lo hi)))
theorem qk:SlR X (xq X.K):=by
 intro pins s σ H x v L M lo hi O Q I B C D E h;obtain⟨a,l,rfl,G,J,q⟩:=h;cases B;obtain⟨its,r,t,z⟩:=I.tuple G;have g:its.toArray.size=l.length:=by rw[aQ];exact r.length.symm
 refine⟨"tuple",_,dG.lookup,t.typeIs,?_⟩;refine HT.Xp t C D E (by rw[g];exact J) ?_ (by rw[g];exact z);rw[g];refine⟨.ref s.heap.objs.size,_,I.laid (t':=s.toks) (o:=.tup (gL l lo hi)) (λb U q=>am _ q) (ak _) ?_,rfl,q _ (I.hok.fresh (ak _))⟩;exact⟨aA (Wj l lo hi) z,_,(r.drop (HT.sIx l.length 0 lo)).take (HT.sIx l.length l.length hi-HT.sIx l.length 0 lo),Y5.new _ _⟩
def qB(K:Fk):R2:=λx y H Q=>∃ a b h g,x=.ref a/\y=.ref b/\SqT K H a h/\SqT K H b g/\h≠[]/\h.length+g.length<=sizeLine/\
 (g=[]->Q (.ref a) H)/\(g≠[]->∀ p,H p=none->Q (.ref p) (upd H p (.tup (h++g))))
theorem Vals.U1{xs:List V}(r:Vals xs us):us=[]↔xs=[]:=by
 cases r with
 |nil=>simp
 |cons _ _=>simp
theorem wE:OpR X (binaryOp .Add) (qB X.K):=by
 intro pins s σ H x y v u Q I B C h;obtain⟨a,b,D,E,rfl,rfl,G,J,L,r,M,O⟩:=h;cases B;cases C;obtain⟨its,l,U,_⟩:=I.tuple G;obtain⟨t,g,p2,_⟩:=I.tuple J;refine HT.qF U p2 (λz=>L (l.U1.mp z)) (λz=>⟨.ref a,H,I,rfl,M (g.U1.mp z)⟩) (λz=>?_) (by rw[<-l.length,<-g.length];exact r);refine⟨.ref s.heap.objs.size,_,I.laid (t':=s.toks) (o:=.tup (D++E)) (λb Y q=>am _ q) (ak _) ?_,rfl,O (λw=>z (g.U1.mpr w)) _ (I.hok.fresh (ak _))⟩;exact⟨by rw[aB];exact r,_,l.append g,Y5.new _ _⟩
end
noncomputable def ixN(n:Nat)(i:Int):Option Nat:=if 0<=i then(if i<n then some i.toNat else none)else if-(n:Int)<=i then some (i+n).toNat else none
noncomputable def atI{g:Type}(xs:List g)(i:Int):Option g:=(ixN xs.length i).bind λj=>xs[j]?
theorem Rm{i:Int}(h:ixN n i=some j):seqIndex? i n=some j/\j<n/\ -(n:Int)<=i/\i<n:=by
 unfold ixN at h
 by_cases l:0<=i
 ·rw[aw l]at h
  by_cases g:i<n
  ·rw[aw g]at h;have e:i.toNat=j:=bq h;exact⟨by rw[seqIndex_of l g,e],by lia,by lia,g⟩
  ·rw[ao g]at h;cases h
 ·rw[ao l]at h
  by_cases g:-(n:Int)<=i
  ·rw[aw g]at h;have e:(i+n).toNat=j:=bq h;exact⟨by rw[seqIndex_neg (by lia) g,e],by lia,g,by lia⟩
  ·rw[ao g]at h;cases h
theorem Dx{g:Type}{xs:List g}{i:Int}{v:g}(h:atI xs i=some v):∃ j,seqIndex? i xs.length=some j/\xs[j]?=some v/\j<xs.length/\ -(xs.length:Int)<=i/\i<xs.length:=by
 unfold atI at h;cases e:ixN xs.length i with
 |none=>rw[e]at h;cases h
 |some j=>
  rw[e]at h;obtain⟨l,r,t,x⟩:=Rm e;exact⟨j,l,h,r,t,x⟩
theorem J5{g:Type}{xs:List g}{j:Nat}{v:g}(h:xs[j]?=some v):atI xs (j:Int)=some v:=by
 have l:j<xs.length:=(aE.mp h).1;have e:ixN xs.length (j:Int)=some j:=by
  unfold ixN;rw[aw (by lia),aw (by lia)];simp
 unfold atI;rw[e];exact h
def Gh(b:Expr):Prop:=∀ o i,subscripted b false o i=operate [o,i] (getItem o i)
def IxR(X:Cx)(r:R2):Prop:=
 ∀(h g:Expr)(pins:List (Addr×Obj))(s:Shared)(σ:St)(H:Hp)(x y:V)(v u:Value)(Q:VK),Inv X pins σ H s->RelV x v->RelV y u->r x y H Q->
  subscripted g false v u=operate [v,u] (getItem v u)->wpAny (model X.prog X.w) X.A (subscriptTail h g v u) (EP X pins σ Q) X.xe s
def MtR(X:Cx)(id:String)(r:V->List V->Hp->VK->Prop):Prop:=
 ∀(pins:List (Addr×Obj))(s:Shared)(σ:St)(H:Hp)(x:V)(g:List V)(v:Value)(us:List Value)(Q:VK),Inv X pins σ H s->RelV x v->Vals g us->r x g H Q->
  wpAny (model X.prog X.w) X.A (call (.builtin id) (v::us)) (EP X pins σ Q) X.xe s
section
variable{a b:Expr}{ta tb:TE}
theorem IxR.or{r t:R2}(h:IxR X r)(h':IxR X t):IxR X (λx y H Q=>r x y H Q\/t x y H Q):=by
 intro g l pins s σ H x y v u Q I z B q C
 rcases q with q|q
 ·exact h g l pins s σ H x y v u Q I z B q C
 ·exact h' g l pins s σ H x y v u Q I z B q C
theorem jw{r:R2}(g:IxR X r)(l:PE X a ta)(t:PE X b tb)(z:Gh b):PE X (.Subscript a b pos) (tOp r ta tb):=by
 intro pins s σ H Q I h;exact Subscript_ (jE l t I h λv u B x y C D E G q=>g a b pins B σ C x y v u Q D E G q (z _ _))
def kO(K:Fk):R2:=λx y H Q=>∃ p g i v,x=.ref p/\y=.int i/\SqL K H p g/\atI g i=some v/\Q v H
def kP(K:Fk):R2:=λx y H Q=>∃ p g i v,x=.ref p/\y=.int i/\SqT K H p g/\atI g i=some v/\Q v H
def ph:R2:=λx y H Q=>∃ z i c,x=.str z/\y=.int i/\z.length<=sizeLine/\atI z.cps.toList i=some c/\Q (.str ⟨#[c]⟩) H
theorem wU:IxR X (kO X.K):=by
 intro B C pins s σ H x y v u Q I O U h J;obtain⟨p,xs,i,z,rfl,rfl,Y,he,q⟩:=h;cases O;obtain⟨t,rfl⟩:=U;obtain⟨its,r,D,hz⟩:=I.list Y;obtain⟨j,l,h2,h3,h4,h5⟩:=Dx he;obtain⟨w,L,E⟩:=r.get h2;have hl:=r.length;have hn:=BW;have g:EP X pins σ Q w s:=⟨z,H,I,E,q⟩
 by_cases M:0<=i
 ·have G:i.toNat=j:=by
   rw[seqIndex_of M h5]at l;exact bq l
  exact item_listR D.isList M (by lia) (by rw[G];simpa using L) g J
 ·have G:(i+(its.toArray.size:Int)).toNat=j:=by
   rw[seqIndex_neg (by lia) h4]at l;rw[aQ,<-hl];exact bq l
  exact subscriptTail_builtinR (x:=w) D.isList.typeIs slot_list_getitem.lookup
   (wpAny_getItem_list_neg (Q:=λr s'=>r=w/\EP X pins σ Q r s') D.isList (by lia) (by rw[aQ]<;>lia) (by lia) (by rw[G];simpa using L) ⟨rfl,g⟩) J
theorem x9:IxR X (kP X.K):=by
 intro g l pins s σ H x y v u Q I E G h J;obtain⟨p,xs,i,z,rfl,rfl,L,M,q⟩:=h;cases E;obtain⟨t,rfl⟩:=G;obtain⟨its,r,D,hz⟩:=I.tuple L;obtain⟨j,O,U,h3,h4,h5⟩:=Dx M;obtain⟨w,Y,B⟩:=r.get U;have hl:=r.length;have hn:=BW;have C:EP X pins σ Q w s:=⟨z,H,I,B,q⟩
 exact subscriptTail_builtinR (x:=w) D.typeIs slot_tuple_getitem.lookup
  (getItem_tuple (j:=j) (Q:=λr s'=>r=w/\EP X pins σ Q r s') D (by lia) (by lia) (by rw[aQ,<-hl];exact O) (by simpa using Y) ⟨rfl,C⟩) J
theorem mA:IxR X ph:=by
 intro g l pins s σ H x y v u Q I B C h D;obtain⟨z,i,c,rfl,rfl,Y,E,q⟩:=h;obtain⟨t,rfl⟩:=B;obtain⟨t',rfl⟩:=C;obtain⟨j,r,G,h3,J,L⟩:=Dx E;have M:z.cps.toList.length=z.length:=by simp[Str.length]
 rw[M]at r J L;have hn:=BW
 exact tail_any (gE s z t) slot_str_getitem.lookup (getItem_str (c:=c) (by
  have O:decide (i< -(2^63:Int))=false:=aZ (by lia);have U:decide (i ≥ 2^63)=false:=aZ (by lia)
  rw[O,U,fw]) (by rw[r];simpa using G) ⟨.str ⟨#[c]⟩,H,I.tok _,⟨_,rfl⟩,q⟩) D
def rIx(K:Fk):R2:=λx y H Q=>kO K x y H Q\/kP K x y H Q\/ph x y H Q
theorem mz:IxR X (rIx X.K):=wU.or (x9.or mA)
theorem LC(its:List Value)(n j:Nat)(u:Value):Obj.mapSeq (·.setIfInBounds j u) {cls:=.type "list",data:=.seq its.toArray n}={cls:=.type "list",data:=.seq (its.set j u).toArray n}:=by
 simp[Obj.mapSeq]
theorem Inv.lst{xs:List V}(I:Inv X pins σ H s)(h:H p=some (.lst xs)):
  ∃(its:List Value)(n:Nat),Vals xs its/\s.heap.get? p=some {cls:=.type "list",data:=.seq its.toArray n}/\xs.length<=sizeLine:=by
 obtain⟨z,its,n,r,e⟩:=I.hok p _ h;exact⟨its,n,r,e,z⟩
theorem Inv.sO{xs g:List V}{its its':List Value}{n l:Nat}{f:Obj->Obj}(I:Inv X pins σ H s)(h:H p=some (.lst xs))
  (B:s.heap.get? p=some {cls:=.type "list",data:=.seq its.toArray n}) (z:f {cls:=.type "list",data:=.seq its.toArray n}={cls:=.type "list",data:=.seq its'.toArray l}) (r:Vals g its') (hz:g.length<=sizeLine) (t:Nat):
  Inv X pins σ (upd H p (.lst g)) {s with heap:=s.heap.update p f,toks:=t}:=by
 have e:(s.heap.update p f).get? p=some {cls:=.type "list",data:=.seq its'.toArray l}:=by
  rw[eC f B (by rw[z]<;>rfl),z]
 refine I.write (x:=p) (e:=p) (by rw[h];trivial) (.inl rfl) (λb u C q=>(cH _ _ (be C)).trans q) ⟨_,e⟩ ?_;exact⟨hz,its',l,r,e⟩
def tF:V->V->V->Hp->(Hp->Prop)->Prop:=λo i v H Q=>∃ p g k j,o=.ref p/\i=.int k/\H p=some (.lst g)/\ixN g.length k=some j/\Q (upd H p (.lst (g.set j v)))
theorem set_list:k_ X tF:=by
 intro pins s σ H o i v ov iv u Q I J L M h;obtain⟨p,O,k,j,rfl,rfl,B,U,q⟩:=h;cases J;obtain⟨t,rfl⟩:=L;obtain⟨its,n,r,l,Y⟩:=I.lst B;obtain⟨g,h2,C,D⟩:=Rm U;have x:=r.length;have hn:=BW;have E:Inv X pins σ (upd H p (.lst (O.set j v))) {s with heap:=s.heap.update p (Obj.mapSeq (·.setIfInBounds j u))}:=
  I.sO B l (LC its n j u) (r.set M j) (by rw[d_];exact Y) s.toks
 by_cases G:0<=k
 ·have z:k.toNat=j:=by
   rw[seqIndex_of G D]at g;exact bq g
  exact PySem.W.ki_setAt l G (by lia) (by rw[aQ,<-x];exact D) (by rw[z];exact⟨_,E,q⟩)
 ·have z:(k+(its.toArray.size:Int)).toNat=j:=by
   rw[seqIndex_neg (by lia) C]at g;rw[aQ,<-x];exact bq g
  exact PySem.W.ki_setBack l (by lia) (by rw[aQ,<-x];exact C) (by lia) (by rw[z];exact⟨_,E,q⟩)
theorem Cb(lo g:Option Int)(n:Nat):(sliceBounds lo g none n).1=((HT.sIx n 0 lo:Nat):Int)/\(sliceBounds lo g none n).2.1=((HT.sIx n n g:Nat):Int)/\(sliceBounds lo g none n).2.2=1:=by
 refine⟨?_,?_,rfl⟩
 ·cases lo with
  |none=>simp[sliceBounds,HT.sIx]
  |some i=>
   simp only[sliceBounds,HT.sIx,Option.getD_none,show(1:Int)>0 by decide,if_true]
   by_cases h:i<0
   ·simp only[h,if_true]<;>lia
   ·simp only[h,if_false]<;>lia
 ·cases g with
  |none=>simp[sliceBounds,HT.sIx]
  |some i=>
   simp only[sliceBounds,HT.sIx,Option.getD_none,show(1:Int)>0 by decide,if_true]
   by_cases h:i<0
   ·simp only[h,if_true]<;>lia
   ·simp only[h,if_false]<;>lia
theorem UE(its:List Value)(lo g:Option Int):slicePick its.toArray lo g none=((its.drop (HT.sIx its.length 0 lo)).take (HT.sIx its.length its.length g-HT.sIx its.length 0 lo)).toArray:=by
 obtain⟨h,l,r⟩:=Cb lo g its.toArray.size;unfold slicePick;rw[h,l,r];simp only[sliceRange_one,pick_run,List.size_toArray]<;>rfl
def sX(K:Fk):V->Option Int->Option Int->Hp->VK->Prop:=λx lo h H Q=>∃ a g,x=.ref a/\SqL K H a g/\∀p,H p=none->Q (.ref p) (upd H p (.lst (gL g lo h)))
theorem wM:SlR X (sX X.K):=by
 intro pins s σ H x v L M lo t O Q I B C D E h;obtain⟨a,g,rfl,G,q⟩:=h;cases B;obtain⟨its,r,z,J⟩:=I.list G;have l:=r.length;refine⟨"list",_,slot_list_getitem.lookup,z.isList.typeIs,?_⟩;refine wpAny_getItem_list_slice z.isList C D E .none (by simp) ?_ (by rw[List.size_toArray]<;>lia);rw[UE,<-l];refine⟨.ref s.heap.objs.size,_,I.laid (t':=s.toks) (o:=.lst (gL g lo t)) (λb U q=>am _ q) (ak _) ?_,rfl,q _ (I.hok.fresh (ak _))⟩;exact⟨aA (Wj g lo t) J,_,0,(r.drop (HT.sIx g.length 0 lo)).take (HT.sIx g.length g.length t-HT.sIx g.length 0 lo),aR _ rfl⟩
theorem GQ:JA X (.builtin "len") (λxs H Q=>∃ p l,xs=[.ref p]/\(SqL X.K H p l\/SqT X.K H p l)/\Q (.int l.length) H):=by
 intro pins s σ H xs us Q I r h;obtain⟨p,l,rfl,t,q⟩:=h;obtain⟨u,rfl,B⟩:=vals1 r;cases B;have D:=BW
 rcases t with t|t
 ·obtain⟨its,x,z,C⟩:=I.list t;have g:=x.length;exact Calls.call_len_list z.isList (by simp only[List.size_toArray]<;>lia) ⟨.int l.length,H,I.tok _,⟨s.toks+1,by rw[aQ,g]⟩,q⟩
 ·obtain⟨its,x,z,C⟩:=I.tuple t;have g:=x.length;exact len_tuple z (by simp only[List.size_toArray]<;>lia) ⟨.int l.length,H,I.tok _,⟨s.toks+1,by rw[aQ,g]⟩,q⟩
theorem Ce:JA X (.type "list") (λxs H Q=>∃ p g,xs=[.ref p]/\(SqL X.K H p g\/SqT X.K H p g)/\∀l,H l=none->Q (.ref l) (upd H l (.lst g))):=by
 intro pins s σ H xs us Q I r h;obtain⟨p,g,rfl,z,q⟩:=h;obtain⟨u,rfl,O⟩:=vals1 r;cases O;have B:∀(its:List Value),Vals g its->g.length<=sizeLine->∀(h':Heap)(t:Nat),(∀b M,s.heap.get? b=some M->h'.get? b=some M)->
   h'.get? s.heap.objs.size=some {cls:=.type "list",dict:=none,data:=.seq its.toArray t,slots:=#[]}->EP X pins σ Q (.ref s.heap.objs.size) {s with heap:=h'}:=λits x C h' t D e=>
  ⟨.ref s.heap.objs.size,_,I.laid (t':=s.toks) D (ak _) (show Qc X.prog X.w _ h' _ (.lst g)from⟨C,its,t,x,e⟩),rfl,q _ (I.hok.fresh (ak _))⟩
 rcases z with z|z
 ·obtain⟨its,x,G,C⟩:=I.list z;have E:=x.length;obtain⟨o,J,L,n,hd⟩:=G.isList;exact call_list_seq p (.inl rfl) J L hd (λh' t D e=>B its x C h' t D e) (by simp only[List.size_toArray]<;>lia)
 ·obtain⟨its,x,G,C⟩:=I.tuple z;have E:=x.length;obtain⟨o,J,L,n,hd⟩:=G;exact call_list_seq p (.inr rfl) J L hd (λh' t D e=>B its x C h' t D e) (by simp only[List.size_toArray]<;>lia)
theorem Gd:JA X (.type "tuple") (λxs H Q=>∃ p g,xs=[.ref p]/\((SqL X.K H p g/\∀l,H l=none->Q (.ref l) (upd H l (.tup g)))\/(SqT X.K H p g/\Q (.ref p) H))):=by
 intro pins s σ H xs us Q I r h;obtain⟨p,g,rfl,h⟩:=h;obtain⟨u,rfl,E⟩:=vals1 r;cases E
 rcases h with⟨t,q⟩|⟨t,q⟩
 ·obtain⟨its,x,z,B⟩:=I.list t;have C:=x.length;refine call_tuple_list z.isList (λh' G=>?_) (by simp only[List.size_toArray]<;>lia);have D:Inv X pins σ H {s with heap:=h'}:=I.kept (t':=s.toks) G;have J:Inv X pins σ (upd H h'.objs.size (.tup g)) {s with heap:=h'.push {cls:=.type "tuple",data:=.seq its.toArray} }:=
   D.laid (t':=s.toks) (λb o e=>am _ e) (ak _) (show Qc X.prog X.w _ _ _ (.tup g)from⟨B,its,x,Y5.new _ _⟩)
  exact⟨.ref h'.objs.size,_,J,rfl,q _ (D.hok.fresh (ak _))⟩
 ·obtain⟨its,x,z,B⟩:=I.tuple t;exact call_tuple_same z ⟨.ref p,H,I,rfl,q⟩
def tyV(K:Fk)(T:String)(x:V)(H:Hp):Prop:=match x with
 | .str _=>T="str"
 | .int _=>T="int"
 | .ref p=>(T="list"/\∃g,SqL K H p g)\/(T="tuple"/\∃o,K.lookup p=some o/\o.cls=.type "tuple"/\o.dict=none)\/
   (T="dict"/\((∃kvs,H p=some (.dK kvs))\/∃kvs,H p=some (.dT kvs)))\/(T="set"/\∃S n,H p=some (.set S n))
 |_=>False
theorem pF{T:String}{x:V}{v:Value}(I:Inv X pins σ H s)(r:RelV x v)(l:tyV X.K T x H):
  s.TypeIs v T/\∀a,v=.ref a->∃ ob,s.heap.get? a=some ob/\ob.dict=none:=by
 cases x with
 |str z=>
  obtain⟨t,rfl⟩:=r;cases(show T="str" from l);exact⟨gE s z t,λ_ e=>nomatch e⟩
 |int i=>
  obtain⟨t,rfl⟩:=r;cases(show T="int" from l);exact⟨typeIs_int s i t,λ_ e=>nomatch e⟩
 | ref p=>
  cases r
  rcases l with⟨rfl,G,D⟩|⟨rfl,o,g,E,hd⟩|⟨rfl,g⟩|⟨rfl,S,n,g⟩
  ·obtain⟨its,_,C,_⟩:=I.list D;refine⟨C.isList.typeIs,λa e=>?_⟩;cases e;obtain⟨o,n,e,c,hd,_⟩:=C;exact⟨o,e,hd⟩
  ·refine⟨⟨o,I.kIn p o g,E⟩,λa e=>?_⟩;cases e;exact⟨o,I.kIn _ o g,hd⟩
  ·have z:∃ o,s.heap.get? p=some o/\o.ExactDict:=by
    rcases g with⟨kvs,g⟩|⟨kvs,g⟩
    ·obtain⟨_,_,_,_,o,_,_,e,h,_⟩:=I.hok p _ g;exact⟨o,e,h⟩
    ·obtain⟨_,_,_,_,o,_,_,e,h,_⟩:=I.hok p _ g;exact⟨o,e,h⟩
   obtain⟨o,e,h⟩:=z;refine⟨⟨o,e,h.1⟩,λa B=>?_⟩;cases B;exact⟨o,e,h.2.1⟩
  ·obtain⟨o,_,_,_,e,h,_⟩:=I.hok p _ g;refine⟨⟨o,e,h.1⟩,λa B=>?_⟩;cases B;exact⟨o,e,h.2.1⟩
 |_=>exact False.elim l
def tBM(K:Fk)(T:String)(r:V->List V->Hp->VK->Prop)(h:TE)(t:TA):TE:=λσ H Q=>h σ H λx g=>tyV K T x g/\t σ g λl z=>r x l z Q
variable{o:Expr}{es:List Expr}{to:TE}{t:TA}{name:Str}{T id:String}{r:V->List V->Hp->VK->Prop}
theorem iK(L:PlainAttrs T)(B:Slot T name id)(D:typeOf (.builtin id)=pure (.type "method_descriptor"))(M:MtR X id r)(O:PE X o to)(U:PA X (e::es) t)
  (l:autoParam (attributeBase o name X.env (eval o X.env)=eval o X.env) zz3._auto_1)
  (C:((backTo cpos (starEach (e::es) X.env)).all (λx=>!x.1)&&(backToKw cpos (keywordEach [] X.env)).all (λx=>x.1.isSome)
   &&decide ((e::es).length+([]:List Keyword).length+(if([]:List Keyword).isEmpty then 0 else 1)<30))=true:=by rfl)
  (z:autoParam ((apos.endLine==cpos.line)=true) zz3._auto_1) (Y:autoParam (starEach (e::es) X.env=(false,eval e X.env)::starEach es X.env) zz3._auto_1) (g:autoParam ((backTo cpos (starEach es X.env)).any (·.1)=false) zz3._auto_1):
  PE X (.Call (.Attribute o name apos) (e::es) [] cpos) (tBM X.K T r to t):=by
 intro pins s σ H Q I h;refine wpAny_Call_method_late l C z rfl (thn (O pins s σ H _ I h) λv s1 z0=>?_);obtain⟨x,H1,E,G,ty,q1⟩:=z0;obtain⟨h1,h2⟩:=pF E G ty;refine⟨T,id,L,B,D,h1,h2,?_⟩;have J:=U cpos pins s1 σ H1 _ E q1;rw[Y]at J⊢;refine cI (by show(false||(backTo cpos (starEach es X.env)).any (·.1))=false;rw[g]<;>rfl) (dn ?_);exact thn J (λus s2 z1=>by obtain⟨vs,H2,I2,r2,q2⟩:=z1;exact M pins s2 σ H2 x vs v us Q I2 G r2 q2)
end
def MtM(X:Cx)(id:String)(r:V->List V->Hp->VK->Prop):Prop:=
 ∀(pins:List (Addr×Obj))(s:Shared)(σ:St)(H:Hp)(x:V)(g:List V)(v:Value)(us:List Value)(Q:VK),Inv X pins σ H s->RelV x v->Vals g us->r x g H Q->
  wpAny (model X.prog X.w) X.A (call (.builtin id) (v::us)) (EP X pins σ Q) X.xe s
theorem Vals.one{x:V}(h:Vals [x] us):∃ u,us=[u]/\RelV x u:=by
 cases h with|cons r t=>cases t;exact⟨_,rfl,r⟩
theorem Vals.two{x:V}(h:Vals [x,y] us):∃ u v,us=[u,v]/\RelV x u/\RelV y v:=by
 cases h with|cons r t=>cases t with|cons q t=>cases t;exact⟨_,_,rfl,r,q⟩
section
variable{l:Addr}{xs ys zs:List V}
theorem Inv.jP{its its':List Value}{n:Nat}{f:Array Value->Array Value}{t':Nat}(I:Inv X pins σ H s)(g:H l=some (.lst xs))
  (e:s.heap.get? l=some {cls:=.type "list",data:=.seq its.toArray n}) (h:f its.toArray=its'.toArray) (r:Vals ys its') (hz:ys.length<=sizeLine):
  Inv X pins σ (upd H l (.lst ys)) {s with heap:=s.heap.update l (Obj.mapSeq f),toks:=t'}:=by
 have q:=PySem.IsL.update e f;rw[h]at q;refine I.write (x:=l) (e:=l) (by rw[g];exact trivial) (.inl rfl) (λB u t z=>(cH s.heap (Obj.mapSeq f) (be t)).trans z) ⟨_,q⟩ ?_;exact⟨hz,its',_,r,q⟩
theorem Inv.vH{t':Nat}(I:Inv X pins σ H s)(g:Vals ys its)(hz:ys.length<=sizeLine):
  Inv X pins σ (upd H s.heap.objs.size (.lst ys)) {s with heap:=s.heap.push {cls:=.type "list",data:=.seq its.toArray},toks:=t'}:=
 I.laid (λ_ _ q=>am _ q) (ak _) ⟨hz,its,0,g,aR _ rfl⟩
theorem Inv.fresh(I:Inv X pins σ H s):H s.heap.objs.size=none:=I.hok.fresh (ak _)
theorem Inv.ja(I:Inv X pins σ H s)(g:H l=some (.lst xs)):xs.length<=sizeLine/\∃(its:List Value)(n:Nat),Vals xs its/\xs.length=its.length/\s.heap.get? l=some {cls:=.type "list",data:=.seq its.toArray n}:=by
 obtain⟨z,its,n,r,e⟩:=I.hok l _ g;exact⟨z,its,n,r,r.length,e⟩
theorem si(h:n<=sizeLine):Builtin.List.listTooLong n=false:=by
 unfold Builtin.List.listTooLong;exact aZ (by lia)
end
def rn:V->List V->Hp->VK->Prop:=λx vs H Q=>∃ l g y,x=.ref l/\vs=[y]/\H l=some (.lst g)/\g.length<sizeLine/\Q .non (upd H l (.lst (g++[y])))
theorem PV:MtM X "list.append" rn:=by
 intro pins s σ H x vs v us Q I t B h;obtain⟨l,D,y,rfl,rfl,g,E,q⟩:=h;cases t;obtain⟨u,rfl,C⟩:=B.one;obtain⟨z,its,n,r,G,e⟩:=I.ja g;refine fG F.slot_list_append ⟨_,e,rfl⟩ F.entry_list_append (F.args_list_append_2 _ _) (PySem.list_append l its.toArray n u (by rw[aQ];lia)) ⟨e,?_⟩;refine⟨.non,_,I.jP (its':=its++[u]) g e (by simp) (r.append (.cons C .nil)) ?_,rfl,q⟩;rw[aB,cP];lia
def x6:V->List V->Hp->VK->Prop:=λx vs H Q=>∃ l b g h,x=.ref l/\vs=[.ref b]/\H l=some (.lst g)/\H b=some (.lst h)/\g.length+h.length<=sizeLine/\Q .non (upd H l (.lst (g++h)))
theorem Pa:MtM X "list.extend" x6:=by
 intro pins s σ H x vs v us Q I D E h;obtain⟨l,b,Y,zs,rfl,rfl,C,G,hz,q⟩:=h;cases D;obtain⟨u,rfl,J⟩:=E.one;cases J;obtain⟨z,its,n,r,hl,e⟩:=I.ja C;obtain⟨z2,g,L,M,O,U⟩:=I.ja G;have B:its.toArray.size+g.toArray.size<=sizeLine:=by rw[aQ,aQ];lia
 have t:¬ (!its.toArray.isEmpty&&Builtin.List.listTooLong (its.toArray.size+g.toArray.size))=true:=by
  rw[si B,bW];exact ae
 refine fG F.slot_list_extend ⟨_,e,rfl⟩ F.entry_list_extend (F.args_list_extend_2 _ _)
  (AutoSeq1.list_extend_list_list_0 l its.toArray n b g.toArray L t (by rw[aQ];lia) (by lia)) ⟨e,U,?_⟩
 refine⟨.non,_,I.jP (its':=its++g) C e (by simp) (r.append M) ?_,rfl,q⟩;rw[aB];lia
section
variable{κ:Type}[DecidableEq κ]
noncomputable def J2(kvs:List (κ×V))(k:κ):Option V:=(kvs.find? λg=>decide (g.1=k)).map (·.2)
noncomputable def putK(kvs:List (κ×V))(k:κ)(v:V):List (κ×V):=
 if(kvs.any λg=>decide (g.1=k))=true then kvs.map (λg=>if g.1=k then(g.1,v)else g)else kvs++[(k,v)]
theorem Us{p:κ×V}{r:List (κ×V)}{k:κ}(e:p.1=k):J2 (p::r) k=some p.2:=by simp[J2,List.find?_cons,e]
theorem Gx{p:κ×V}{r:List (κ×V)}{k:κ}(e:¬ p.1=k):J2 (p::r) k=J2 r k:=by simp[J2,List.find?_cons,e]
theorem Gs(k:κ):∀ kvs:List (κ×V),(kvs.any λg=>decide (g.1=k))=(J2 kvs k).isSome
 |[]=>rfl
 |p::r=>by
  rw[bi]
  by_cases e:p.1=k
  ·simp only[Us e,decide_eq_true e,Bool.true_or,Option.isSome_some]
  ·rw[Gx e,aZ e,eA];exact Gs k r
theorem Ju(kvs:List (κ×V))(k:κ)(v:V):(putK kvs k v).length<=kvs.length+1:=by
 unfold putK
 split
 ·rw[aa];lia
 ·rw[aB,a_,eh];lia
theorem Lp.KG{o:Option V}{u:Option Value}(r:Lp o u):o.isSome=u.isSome:=by
 cases o with
 |none=>cases u with
  |none=>rfl
  |some _=>exact(show False from r).elim
 |some _=>cases u with
  |none=>exact(show False from r).elim
  |some _=>rfl
theorem Lp.getD{o:Option V}{u:Option Value}{d:V}{d':Value}(r:Lp o u)(rd:RelV d d'):RelV (o.getD d) (u.getD d'):=by
 cases o with
 |none=>cases u with
  |none=>exact rd
  |some _=>exact(show False from r).elim
 |some _=>cases u with
  |none=>exact(show False from r).elim
  |some _=>exact r
theorem KV.val{kvs:List (κ×V)}{vs:List (κ×Value)}(r:KV kvs vs)(k:κ):Lp (J2 kvs k) (valueAt vs k):=by
 unfold KV at r
 induction r with
 |nil=>exact True.intro
 | @cons p q ps g h t B=>
  obtain⟨x,C⟩:=h
  by_cases e:p.1=k
  ·have l:q.1=k:=x.symm.trans e;have b:valueAt (q::g) k=some q.2:=by simp[valueAt,List.find?_cons,l]
   rw[Us e,b];exact C
  ·have l:¬ q.1=k:=λz=>e (x.trans z);have b:valueAt (q::g) k=valueAt g k:=by simp[valueAt,List.find?_cons,l]
   rw[Gx e,b];exact B
theorem KV.any{kvs:List (κ×V)}{vs:List (κ×Value)}(r:KV kvs vs)(k:κ):(kvs.any λg=>decide (g.1=k))=vs.any λg=>decide (g.1=k):=by
 unfold KV at r
 induction r with
 |nil=>rfl
 |cons h t l=>rw[bi,bi,l,h.1]
theorem KV.ie{kvs:List (κ×V)}{vs:List (κ×Value)}(r:KV kvs vs)(k:κ)(x:RelV y u):
  KV (kvs.map λg=>if g.1=k then(g.1,y)else g) (vs.map λg=>if g.1=k then(g.1,u)else g):=by
 unfold KV at r⊢
 induction r with
 |nil=>exact .nil
 | @cons p q ps D h t B=>
  rw[ai,ai];refine .cons ?_ B;obtain⟨l,C⟩:=h
  by_cases e:p.1=k
  ·rw[aw e,aw (l.symm.trans e)];exact⟨l,x⟩
  ·rw[ao e,ao (λz=>e (l.trans z))];exact⟨l,C⟩
theorem KV.put{kvs:List (κ×V)}{vs:List (κ×Value)}(r:KV kvs vs)(k:κ)(g:RelV y u):KV (putK kvs k y) (stored vs k u):=by
 unfold putK stored;rw[r.any k]
 by_cases e:(vs.any λh=>decide (h.1=k))=true
 ·rw[aw e,aw e];exact r.ie k g
 ·rw[ao e,ao e];exact Paired.snoc r ⟨rfl,g⟩
theorem KV.length{kvs:List (κ×V)}{vs:List (κ×Value)}(r:KV kvs vs):kvs.length=vs.length:=bC r
end
theorem Gf{k:Key}(r:RelV (kV k) u):(Zx P w).is k u=true:=by
 cases k with
 |inl i=>obtain⟨t,e⟩:=(show ∃t,u=Value.int i t from r);subst e;exact Er P w i t
 |inr x=>obtain⟨t,e⟩:=(show ∃t,u=Value.str x t from r);subst e;exact Jw P w x t
theorem Wb:∀{ks:List Key}{us:List Value},Vals (ks.map kV) us->ItemsAre (Zx P w) ks us
 |[],_,r=>by rw[cw]at r;cases r;exact .nil
 |k::ks,_,r=>by
  rw[ai]at r;cases r with
  |cons h t=>exact .cons (Gf h) (Wb t)
abbrev KT(H:Hp):List (List Key×V)->List (List Key×Addr×Value)->Prop:=Paired λp q=>p.1=q.1/\H q.2.1=some (.tup (p.1.map kV))/\RelV p.2 q.2.2
theorem KT.val{kvs:List (List Key×V)}{xs:List (List Key×Addr×Value)}(r:KT H kvs xs)(k:List Key):Lp (J2 kvs k) ((atKey xs k).map (·.2)):=by
 induction r with
 |nil=>exact True.intro
 | @cons p q ps g h t B=>
  obtain⟨x,_,C⟩:=h
  by_cases e:p.1=k
  ·have l:q.1=k:=x.symm.trans e;have b:atKey (q::g) k=some q.2:=by simp[atKey,List.find?_cons,l]
   rw[Us e,b];exact C
  ·have l:¬ q.1=k:=λz=>e (x.trans z);have b:atKey (q::g) k=atKey g k:=by simp[atKey,List.find?_cons,l]
   rw[Gx e,b];exact B
theorem KT.ie{kvs:List (List Key×V)}{xs:List (List Key×Addr×Value)}(r:KT H kvs xs)(k:List Key)(B:RelV y u):
  KT H (kvs.map λl=>if l.1=k then(l.1,y)else l) (xs.map (putAt k u)):=by
 induction r with
 |nil=>exact .nil
 | @cons p q ps E h t C=>
  rw[ai,ai];refine .cons ?_ C;obtain⟨g,x,D⟩:=h;unfold putAt
  by_cases e:p.1=k
  ·rw[aw e,aw (g.symm.trans e)];exact⟨g,x,B⟩
  ·rw[ao e,ao (λz=>e (g.trans z))];exact⟨g,x,D⟩
theorem KT.put{kvs:List (List Key×V)}{xs:List (List Key×Addr×Value)}(r:KT H kvs xs)(k:List Key)(h:H b=some (.tup (k.map kV)))(g:RelV y u):
  KT H (putK kvs k y) (storedH xs k b u):=by
 have e:(kvs.any λl=>decide (l.1=k))=(atKey xs k).isSome:=by
  rw[Gs,(r.val k).KG,gP]
 unfold putK storedH;rw[e]
 by_cases q:(atKey xs k).isSome=true
 ·rw[aw q,aw q];exact r.ie k g
 ·rw[ao q,ao q];exact Paired.snoc r ⟨rfl,h,g⟩
theorem KT.keeps{kvs:List (List Key×V)}{xs:List (List Key×Addr×Value)}(r:KT H kvs xs)(h:∀ b g,H b=some (.tup g)->H' b=some (.tup g)):KT H' kvs xs:=
 Paired.fm r λ_ _ z=>⟨z.1,h _ _ z.2.1,z.2.2⟩
section
variable{h:Heap}
theorem jR{u:HO}(g:HOk P w H h)(e:Rd H a u):Qc P w H h a u:=e.ok g
theorem Dk(g:HOk P w H h)(e:Rd H a (.dK kvs)):kvs.length<=sizeLine/\(a==sysModules)=false/\∃vs,KV kvs vs/\h.DictOf (Zx P w) a vs:=
 show Qc P w H h a (.dK kvs)from jR g e
theorem jH(g:HOk P w H h)(e:H a=some (.dK kvs)):kvs.length<=sizeLine/\(a==sysModules)=false/\∃vs,KV kvs vs/\h.DictOf (Zx P w) a vs:=Dk g (.inl e)
theorem WI{ks:List Key}(g:HOk P w H h)(e:H a=some (.tup (ks.map kV))):(tupleKind (Zx P w)).is h ks a:=by
 obtain⟨_,its,r,o,l,t,n,x,_⟩:=(show Qc P w H h a (.tup (ks.map kV))from g a _ e)
 exact⟨o,its.toArray,n,l,t,x,by simpa using Wb r⟩
theorem Dm{kvs:List (List Key×V)}(B:HOk P w H h)(e:Rd H a (.dT kvs)):kvs.length<=sizeLine/\(a==sysModules)=false/\
  ∃xs,KT H kvs xs/\h.DictOfH (tupleKind (Zx P w)) a xs:=by
 obtain⟨z,y,xs,r,o,D,E,G,I,J,L,M⟩:=(show Qc P w H h a (.dT kvs)from jR B e)
 refine⟨z,y,xs,r,o,D,E,G,I,J,L,λx g=>?_,M⟩;have all:∀{l:List (List Key×V)}{m:List (List Key×Addr×Value)},KT H l m->∀ x∈m,(tupleKind (Zx P w)).is h x.1 x.2.1:=by
  intro l m q
  induction q with
  |nil=>intro x g;exact nomatch g
  | @cons p q ps U C t O=>
   intro x g
   rcases aW.mp g with e|g
   ·subst e;exact WI B (by rw[<-C.1];exact C.2.1)
   ·exact O x g
 exact all r x g
theorem jY{kvs:List (List Key×V)}(g:HOk P w H h)(e:H a=some (.dT kvs)):kvs.length<=sizeLine/\(a==sysModules)=false/\
  ∃xs,KT H kvs xs/\h.DictOfH (tupleKind (Zx P w)) a xs:=Dm g (.inl e)
end
def CA(H:Hp)(a:Addr)(y:V)(r:Option V):Prop:=
 (∃kvs k,Rd H a (.dK kvs)/\y=kV k/\r=J2 kvs k)\/∃kvs k b,Rd H a (.dT kvs)/\y=.ref b/\H b=some (.tup (k.map kV))/\r=J2 kvs k
def dc(H:Hp)(a:Addr)(y v:V)(H':Hp):Prop:=
 (∃kvs k,H a=some (.dK kvs)/\y=kV k/\kvs.length<sizeLine/\H' =upd H a (.dK (putK kvs k v)))\/
 ∃kvs k b,H a=some (.dT kvs)/\y=.ref b/\H b=some (.tup (k.map kV))/\kvs.length<sizeLine/\H' =upd H a (.dT (putK kvs k v))
theorem CA.k{k:Key}(e:H a=some (.dK kvs)):CA H a (kV k) (J2 kvs k):=.inl ⟨kvs,k,.inl e,rfl,rfl⟩
theorem dc.k{k:Key}(e:H a=some (.dK kvs))(g:kvs.length<sizeLine):dc H a (kV k) v (upd H a (.dK (putK kvs k v))):=.inl ⟨kvs,k,e,rfl,g,rfl⟩
theorem dc.t{kvs:List (List Key×V)}{k:List Key}{v:V}(e:H a=some (.dT kvs))(g:H b=some (.tup (k.map kV)))(h:kvs.length<sizeLine):
  dc H a (.ref b) v (upd H a (.dT (putK kvs k v))):=.inr ⟨kvs,k,b,e,rfl,g,h,rfl⟩
section
variable{r:Value}{o:Option V}{E:Value->Shared->Prop}
theorem Inv.big(I:Inv X pins σ H s):sysModules<s.heap.objs.size:=by
 have h:mainGlobals<s.heap.objs.size:=(I.mod.glob.keeps I.bk).lt;exact hU (by decide) h
theorem PU(M:A.units+1<cLine)(I:Inv X pins σ H s)(g:CA H a y (some v))(L:RelV y u)(h:∀ B s',Inv X pins σ H s'->RelV v B->Q B s'):
  wpAny (model X.prog X.w) A (getItem (.ref a) u) Q E s:=by
 rcases g with⟨kvs,k,e,C,l⟩|⟨kvs,k,b,e,C,O,l⟩
 ·subst C;obtain⟨z,hd,vs,t,D⟩:=Dk I.hok e;obtain⟨B,G,x⟩:=Lp.some_of (v:=v) (o:=valueAt vs k) (by rw[l];exact t.val k);exact wpAny_getItem_of (Gf L) D.mapOf G (h B _ (I.tok _) x)
 ·subst C;cases(show u=Value.ref b from L);obtain⟨z,hd,U,t,D⟩:=Dm I.hok e;obtain⟨B,G,x⟩:=Lp.some_of (v:=v) (o:=(atKey U k).map (·.2)) (by rw[l];exact t.val k);obtain⟨p,Y,J⟩:=dQ.mp G;refine wpAny_getItem_heap (c9 M) (WI I.hok O) D Y ?_;rw[J];exact h B _ (I.tok _) x
theorem xH(D:A.units+1<cLine)(I:Inv X pins σ H s)(g:CA H a y o)(C:RelV y u)(h:∀ s',Inv X pins σ H s'->Q (.bool (!o.isSome)) s'):
  wpAny (model X.prog X.w) A (compareOp .NotIn u (.ref a)) Q E s:=by
 rcases g with⟨kvs,k,e,x,l⟩|⟨kvs,k,b,e,x,G,l⟩
 ·subst x;obtain⟨z,hd,vs,t,B⟩:=Dk I.hok e;refine wpAny_notIn_of (Gf C) hd B.mapOf ?_;rw[<-(t.val k).KG,<-l];exact h _ (I.tok _)
 ·subst x;cases(show u=Value.ref b from C);obtain⟨z,hd,J,t,B⟩:=Dm I.hok e;refine wpAny_notIn_heap (c9 D) (WI I.hok G) hd B ?_;have q:=(t.val k).KG;rw[gP]at q;rw[<-q,<-l];exact h _ (I.tok _)
theorem Xu{t':Nat}{ob:HO}(I:Inv X pins σ H s)(h:Mut (H a))(l:Heap.SameBut a s.heap h')(t:∃ q,h'.get? a=some q)(g:Qc X.prog X.w (upd H a ob) h' a ob):
  Inv X pins σ (upd H a ob) {s with heap:=h',toks:=t'}:=
 I.write (x:=a) (e:=a) h (.inl rfl) (λb q B z=>(l.2 b B).trans z) t g
theorem HD{H':Hp}{vs:List (Key×Value)}(z:kvs.length<=sizeLine)(hd:(a==sysModules)=false)(g:KV kvs vs)(h:h'.DictOf (Zx P w) a vs):
  Qc P w H' h' a (.dK kvs):=⟨z,hd,vs,g,h⟩
theorem Mr{Q:Unit->Shared->Prop}(hu:A.units+1<cLine)(I:Inv X pins σ H s)(g:dc H a y v H')(O:RelV y u)(U:RelV v r)(h:∀ s',Inv X pins σ H' s'->Q () s'):
  wpAny (model X.prog X.w) A (setItem (.ref a) u r) Q E s:=by
 rcases g with⟨kvs,k,e,C,l,D⟩|⟨kvs,k,b,e,C,Y,l,D⟩
 ·subst C D;obtain⟨z,hd,vs,t,G⟩:=jH I.hok e;have J:vs.length<=sizeLine:=by rw[<-t.length];exact z
  have L:(putK kvs k v).length<=sizeLine:=by have:=Ju kvs k v;lia
  refine wpAny_setItem_pairs (hsz:=J) (Gf O) G λh' x M=>h _ ?_;have he:∃ q,h'.get? a=some q:=let⟨q,_,_,B,_⟩:=x;⟨q,B⟩;exact Xu I (by rw[e];exact True.intro) M he (HD L hd (t.put k U) x)
 ·subst C D;cases(show u=Value.ref b from O);obtain⟨z,hd,xs,t,G⟩:=jY I.hok e;have J:xs.length<=sizeLine:=by rw[<-bC t];exact z
  have L:(putK kvs k v).length<=sizeLine:=by have:=Ju kvs k v;lia
  refine wpAny_setItem_heap (hsz:=J) (c9 hu) (WI I.hok Y) G λh' x M=>h _ ?_;obtain⟨q,es,ep,B,h2,h3,h4,_,h5⟩:=x;refine Xu I (by rw[e];exact True.intro) M ⟨q,B⟩ ⟨L,hd,_,(t.put k Y U).keeps λc ys ec=>?_,q,es,ep,B,h2,h3,h4,h5⟩;rw[ZH (pj ec e (λz=>nomatch z))];exact ec
end
section
variable{k:Key}{E:Value->Shared->Prop}
theorem yp(I:Inv X pins σ H s)(e:Rd H a (.dK kvs))(h:∀ t s',Inv X pins σ H s'->Q (.int kvs.length t) s'):wpAny (model X.prog X.w) A (call (.builtin "len") [.ref a]) Q E s:=by
 obtain⟨z,hd,vs,g,l⟩:=Dk I.hok e;refine call_len_dict hd l (by rw[<-g.length];rw[bL]at z;lia) ?_;rw[<-g.length];exact h _ _ (I.tok _)
end
def aG(i:Expr):Prop:=∀ g h,subscripted i false g h=operate [g,h] (getItem g h)
theorem Em{prog:Program}{w:World}{A:Around}{E:Value->Shared->Prop}{s:Shared}{env:Env}{l g:Expr}{pos:Pos}{T id:String}{Q:Value->Shared->Prop}
  (L:typeLookup (.type T) "__getitem__"=pure (some (.builtin id))) (M:aG g)
  (h:wpAny (model prog w) A (eval l env) (λo B=>wpAny (model prog w) A (eval g env) (λi t=>t.TypeIs o T/\wpAny (model prog w) A (getItem o i) Q E t) E B) E s):
  wpAny (model prog w) A (eval (.Subscript l g pos) env) Q E s:=by
 refine Subscript_ (bU h (λo B G=>bU G (λi t z=>?_) λ_ _ x=>x) λ_ _ x=>x);obtain⟨J,z⟩:=z;unfold subscriptTail;refine ag ?_;rw[getitemInPython_of_ne J.not_modules];refine ag (wpAny_specialOf J L ?_);have D:wpAny (model prog w) A (subscripted g false o i) (λr C=>wpAny (model prog w) A (letTemporaryGo l o r >>= λ_=>pure r) Q E C) E t:=by
  rw[M o i];exact wpAny_operating (bU z (λr C I=>ag (wpAny_letTemporaryGo (aD I))) λ_ _ x=>x)
 first
  |exact aD (ag D)
  |exact ag (aD (ag D))
  |exact ag D
theorem CZ{o:Option V}(I:Inv X pins σ H s)(g:CA H a y o):s.TypeIs (.ref a) "dict":=by
 rcases g with⟨kvs,k,e,_,_⟩|⟨kvs,k,b,e,_,_,_⟩
 ·obtain⟨_,_,vs,_,h⟩:=Dk I.hok e;exact h.typeIs
 ·obtain⟨_,_,l,_,h⟩:=Dm I.hok e;exact h.typeIs
def q_(h l:TE):TE:=λσ H Q=>h σ H λx r=>l σ r λy g=>∃ a v,x=.ref a/\CA g a y (some v)/\Q v g
def uF(h l r:TE):TS:=λD σ H=>r σ H λv t=>h σ t λx z=>l σ z λy B=>∃ a g,x=.ref a/\dc B a y v g/\D.nx σ g
section
variable{o i value:Expr}{pos' tpos:Pos}{td ty tv:TE}
theorem Ek(t:X.A.units+1<cLine)(z:PE X o td)(B:PE X i ty)(C:aG i):PE X (.Subscript o i pos) (q_ td ty):=by
 intro pins s σ H Q I h;refine Em fg.lookup C (thn (z pins s σ H _ I h) λu D ⟨x,E,G,J,L⟩=>thn (B pins D σ E _ G L) λiv s2 M=>?_);obtain⟨y,O,r,U,a,v,Y,g,q2⟩:=M;subst Y;obtain rfl:u=Value.ref a:=J;exact⟨CZ r g,PU t r g U λw' s3 I3 l=>⟨v,O,I3,l,q2⟩⟩
theorem Dz(l:X.A.units+1<cLine)(t:PE X o td)(z:PE X i ty)(B:PE X value tv)(C:swapsWith value (some (.Subscript o i pos')) pos.line X.env=pure false):
  PS X (.Assign [.Subscript o i pos'] value pos) (uF td ty tv):=by
 intro pins s σ H D I h;refine wpAny_Assign_Subscript (thn (B pins s σ H _ I h) λr E ⟨v,G,J,L,M⟩=>thn (t pins E σ G _ J M) λu O ⟨x,U,Y,rx,q2⟩=>thn (z pins O σ U _ Y q2) λiv s3 z2=>?_) C;obtain⟨y,H3,I3,ry,a,H4,ex,g,q3⟩:=z2;subst ex;obtain rfl:u=Value.ref a:=rx;exact Mr l I3 g ry L λs4 I4=>⟨σ,H4,I4,q3⟩
end
theorem F0(h:Heap)(g:sysModules<h.objs.size):Qc P w H (h.push {cls:=.type "dict",data:=.dict #[]}) h.objs.size (.dK []):=
 ⟨br _,cZ.mpr (be (bf g)),[],.nil,Heap.DictOf.new h⟩
theorem vu(h:Heap)(g:sysModules<h.objs.size):Qc P w H (h.push {cls:=.type "dict",data:=.dict #[]}) h.objs.size (.dT []):=
 ⟨br _,cZ.mpr (be (bf g)),[],.nil,_,#[],0,aR _ rfl,⟨rfl,rfl,rfl⟩,rfl,rfl,List.nodup_nil⟩
def yA:TE:=λ_ H Q=>∀ p,H p=none->Q (.ref p) (upd H p (.dK []))
def vi:TE:=λ_ H Q=>∀ p,H p=none->Q (.ref p) (upd H p (.dT []))
theorem xi:PE X (.Dict [] [] pos) yA:=λpins s σ H Q I h=>
 wpAny_Dict_empty ⟨.ref s.heap.objs.size,_,I.laid (a:=s.heap.objs.size) (o:=.dK []) (t':=s.toks) (λ_ _ q=>am _ q) (ak _) (F0 s.heap I.big),rfl,h _ (I.hok.fresh (ak _))⟩
theorem yt:PE X (.Dict [] [] pos) vi:=λpins s σ H Q I h=>
 wpAny_Dict_empty ⟨.ref s.heap.objs.size,_,I.laid (a:=s.heap.objs.size) (o:=.dT []) (t':=s.toks) (λ_ _ q=>am _ q) (ak _) (vu s.heap I.big),rfl,h _ (I.hok.fresh (ak _))⟩
def EH:List (TE×TE)->St->Hp->(List (V×V)->Hp->Prop)->Prop
 |[],_,H,Q=>Q [] H
 |(g,h)::r,σ,H,Q=>g σ H λx l=>h σ l λy t=>EH r σ t λps z=>Q ((x,y)::ps) z
abbrev VV:List (V×V)->List (Value×Value)->Prop:=Paired λp q=>RelV p.1 q.1/\RelV p.2 q.2
def PPs(X:Cx)(pos:Pos)(h:List (Option Expr))(g:List Expr)(l:List (TE×TE)):Prop:=
 ∀(pins:List (Addr×Obj))(s:Shared)(σ:St)(H:Hp)(Q:List (V×V)->Hp->Prop),Inv X pins σ H s->EH l σ H Q->
  wpAny (model X.prog X.w) X.A (evalPairs (pairTrees h g X.env pos)) (λvs r=>∃ ps H',Inv X pins σ H' r/\VV ps vs/\Q ps H') X.xe s
theorem yO:PPs X pos [] [] []:=λpins s σ H Q I h=>pairTrees_nil_walk ⟨[],H,I,.nil,h⟩
theorem wC{k v:Expr}{ks:List (Option Expr)}{vs:List Expr}{tk r:TE}{g:List (TE×TE)}(t:PE X k tk)(z:PE X v r)(B:PPs X pos ks vs g):
  PPs X pos (some k::ks) (v::vs) ((tk,r)::g):=λpins s σ H Q I h=>
 pairTrees_cons_walk (thn (t pins s σ H _ I h) λu C ⟨x,D,E,G,J⟩=>thn (z pins C σ D _ E J) λw2 L ⟨y,M,O,U,Y⟩=>
  thn (B pins L σ M _ O Y) λws s3 z2=>by obtain⟨ps,H3,I3,l,q3⟩:=z2;exact⟨(x,y)::ps,H3,I3,.cons ⟨G,U⟩ l,q3⟩)
noncomputable def Wo(kvs g:List (Key×V)):List (Key×V):=g.foldl (λh l=>putK h l.1 l.2) kvs
theorem KV.merge:∀{g:List (Key×V)}{rs:List (Key×Value)}{kvs:List (Key×V)}{vs:List (Key×Value)},KV g rs->KV kvs vs->KV (Wo kvs g) (merged vs rs):=by
 intro g rs kvs vs r;unfold KV at r
 induction r generalizing kvs vs with
 |nil=>intro q;exact q
 | @cons p q ps z h t l=>
  intro x;have e:KV (putK kvs p.1 p.2) (stored vs q.1 q.2):=by
   have:=x.put p.1 h.2;rw[<-h.1];exact this
  exact l e
theorem Y6:∀(g kvs:List (Key×V)),(Wo kvs g).length<=kvs.length+g.length
 |[],kvs=>by show kvs.length<=kvs.length+0;lia
 |p::r,kvs=>by
  have h:=Y6 r (putK kvs p.1 p.2);have l:=Ju kvs p.1 p.2;show(Wo (putK kvs p.1 p.2) r).length<=_;rw[a_];lia
theorem WE{P:Program}{w:World}:∀{kvs:List (Key×V)}{g:List (Value×Value)},VV (kvs.map λl=>(kV l.1,l.2)) g->∃ rs,Carries (Zx P w) g rs/\KV kvs rs
 |[],_,r=>by rw[cw]at r;cases r;exact⟨[],True.intro,.nil⟩
 | p::kvs,_,r=>by
  rw[ai]at r;cases r with
  | @cons a b z B h t=>
   obtain⟨rs,c,q⟩:=WE (P:=P) (w:=w) t;obtain⟨C,x⟩:=b;exact⟨(p.1,x)::rs,⟨Gf h.1,rfl,c⟩,.cons ⟨rfl,h.2⟩ q⟩
def qZ(g:List (TE×TE)):TE:=λσ H Q=>∀ p,H p=none->EH g σ (upd H p (.dK [])) λps h=>h p=some (.dK [])/\∃kvs:List (Key×V),ps=kvs.map (λl=>(kV l.1,l.2))/\kvs.length<=15/\Q (.ref p) (upd h p (.dK (Wo [] kvs)))
theorem uZ{g:List (Option Expr)}{l:List Expr}{r:List (TE×TE)}(h:PPs X pos g l r)(t:g.all (·.isSome)=true)(E:g.length=l.length)(G:g≠[])
  (B:g.length<=15):PE X (.Dict g l pos) (qZ r):=by
 intro pins s σ H Q I q;have J:=I.hok.fresh (ak s.heap.objs.size);have L:=I.laid (a:=s.heap.objs.size) (o:=.dK []) (h':=s.heap.push {cls:=.type "dict",data:=.dict #[]}) (t':=s.toks) (λ_ _ q=>am _ q) (ak _) (F0 s.heap I.big);refine wpAny_Dict_walk (knd:=Zx X.prog X.w) t E G B (thn (h pins _ σ _ _ L (q _ J)) λws s2 M=>?_);obtain⟨ps,H2,D,C,e,kvs,O,lk,U⟩:=M;subst O;obtain⟨Y,c,rk⟩:=WE (P:=X.prog) (w:=X.w) C;obtain⟨z,hd,a0,r0,dd⟩:=jH D.hok e;cases r0;refine⟨Y,c,dd,λh' x hs=>⟨.ref s.heap.objs.size,_,?_,rfl,U⟩⟩;have hz:(Wo [] kvs).length<=sizeLine:=by
  have h1:=Y6 kvs [];rw[eh]at h1;rw[bL];lia
 have he:∃ q,h'.get? s.heap.objs.size=some q:=let⟨q,_,_,hq,_⟩:=x;⟨q,hq⟩;exact Xu D (by rw[e];exact True.intro) hs he (HD hz hd (rk.merge .nil) x)
structure M1(X:Cx)(o:Expr)(m:Str)(apos:Pos)(e:Expr)(cpos:Pos):Prop where
 base:attributeBase o m X.env (eval o X.env)=eval o X.env
 few:((backTo cpos (starEach [e] X.env)).all (λx=>!x.1)&&(backToKw cpos (keywordEach [] X.env)).all (λx=>x.1.isSome)
  &&decide (([e]:List Expr).length+([]:List Keyword).length+(if([]:List Keyword).isEmpty then 0 else 1)<30))=true
 line:(apos.endLine==cpos.line)=true
 trees:backTo cpos (starEach [e] X.env)=[(false,eval e X.env)]
structure M2(X:Cx)(o:Expr)(m:Str)(apos:Pos)(e f:Expr)(cpos:Pos):Prop where
 base:attributeBase o m X.env (eval o X.env)=eval o X.env
 few:((backTo cpos (starEach [e,f] X.env)).all (λx=>!x.1)&&(backToKw cpos (keywordEach [] X.env)).all (λx=>x.1.isSome)
  &&decide (([e,f]:List Expr).length+([]:List Keyword).length+(if([]:List Keyword).isEmpty then 0 else 1)<30))=true
 line:(apos.endLine==cpos.line)=true
 trees:backTo cpos (starEach [e,f] X.env)=[(false,eval e X.env),(false,eval f X.env)]
def IsD(H:Hp)(a:Addr):Prop:=(∃kvs,Rd H a (.dK kvs))\/∃kvs,Rd H a (.dT kvs)
theorem FN(I:Inv X pins σ H s)(d:IsD H a):
  s.TypeIs (.ref a) "dict"/\(∀b,Value.ref a=.ref b->∃ ob,s.heap.get? b=some ob/\ob.dict=none)/\(a==sysModules)=false:=by
 rcases d with⟨kvs,e⟩|⟨kvs,e⟩
 ·obtain⟨_,hd,vs,_,g⟩:=Dk I.hok e;refine⟨g.typeIs,λb q=>?_,hd⟩;cases q;obtain⟨ob,_,_,h,l,_⟩:=g;exact⟨ob,h,l.2.1⟩
 ·obtain⟨_,hd,r,_,g⟩:=Dm I.hok e;refine⟨g.typeIs,λb q=>?_,hd⟩;cases q;obtain⟨ob,_,_,h,l,_⟩:=g;exact⟨ob,h,l.2.1⟩
section
variable{d:V}{r:Value}{o:Option V}{E:Value->Shared->Prop}
theorem vP(G:A.units+1<cLine)(I:Inv X pins σ H s)(g:CA H a y o)(C:RelV y u)(rd:RelV d r)(h:∀ D s',Inv X pins σ H s'->RelV (o.getD d) D->Q D s'):
  wpAny (model X.prog X.w) A (call (.builtin "dict.get") [.ref a,u,r]) Q E s:=by
 rcases g with⟨kvs,k,e,B,l⟩|⟨kvs,k,b,e,B,J,l⟩
 ·subst B;obtain⟨z,hd,vs,t,x⟩:=Dk I.hok e;refine gC fU x.typeIs PySem.F.entry_dict_get (PySem.F.args_dict_get_3 _ _ _) (meets_dict_get_default (Zx X.prog X.w) a (Gf C) hd r) ⟨_,x.mapOf,h _ _ (I.tok _) ?_⟩;rw[l];exact(t.val k).getD rd
 ·subst B;cases(show u=Value.ref b from C);obtain⟨z,hd,L,t,x⟩:=Dm I.hok e;refine gC fU x.typeIs PySem.F.entry_dict_get (PySem.F.args_dict_get_3 _ _ _) (meetsH_dict_get_default (tupleKind (Zx X.prog X.w)) a b hd r) ⟨c9 G,k,L,WI I.hok J,x,h _ _ (I.tok _) ?_⟩;rw[l];exact(t.val k).getD rd
end
def u9(l r t:TE):TE:=λσ H Q=>l σ H λx g=>∃ a,x=.ref a/\IsD g a/\r σ g λy B=>t σ B λz h=>∃ o,CA h a y o/\Q (o.getD z) h
section
variable{o f:Expr}{td ty tx:TE}
theorem FH(t:X.A.units+1<cLine)(B:PE X o td)(C:PE X e ty)(D:PE X f tx)(m:M2 X o "get" apos e f cpos):PE X (.Call (.Attribute o "get" apos) [e,f] [] cpos) (u9 td ty tx):=by
 intro pins s σ H Q I h;refine fP m.base m.few m.line cV fU PySem.F.type_dict_get (thn (B pins s σ H _ I h) λu E G=>?_);obtain⟨x,J,r,L,a,M,d,O⟩:=G;subst M;obtain rfl:u=Value.ref a:=L;obtain⟨U,Y,_⟩:=FN r d;refine⟨U,Y,?_⟩;rw[m.trees]
 refine cI rfl (dn (bO (thn (C pins E σ J _ r O) λiv s2 ⟨y,H2,I2,ry,q2⟩=>
  bO (thn (D pins s2 σ H2 _ I2 q2) λfv s3 ⟨z,H3,I3,rz,ov,g,q3⟩=>dm ?_))))
 exact vP t I3 g ry rz λw' s4 I4 l=>⟨_,H3,I4,l,q3⟩
end
end L2
namespace Att
open PySem.W PySem.Calls
theorem Kz{P:Params}{h:Heap}:∀(ns:List Int)(vs:List Value),WellAll P h vs (ns.map WData.int)->IntsAre vs ns:=by
 intro ns
 induction ns with
 |nil=>
  intro vs w;rw[cw]at w;cases w;exact .nil
 | cons n ns g=>
  intro vs w;rw[ai]at w;cases w with
  |cons a b=>
   cases a;exact .cons _ _ (g _ b)
theorem Rl{l:OpenLaw}(I:l.most=some n){P:Params}{h:Heap}{args:List WData}{g:List Value}
  (t:l.row.toRowW.claim.pre args=true) (D:WellAll P h g args):
  ∃a vs ns,g=[Value.ref a]/\args=[WData.list (ns.map WData.int)]/\h.get? a=some {cls:=.type "list",data:=.seq vs.toArray}/\IntsAre vs ns/\ns.length<=n:=by
 have E:WShape.hasAll [] args [.list .int]=true:=(pre_splitW t).1;have G:l.pre.holds [] {args:=args}=true:=(pre_splitW t).2;obtain⟨d,r,rfl,J,L⟩:=hasAllW_cons E;obtain rfl:=hasAllW_nil L;obtain⟨xs,rfl,M⟩:=hasW_list J;obtain⟨ns,rfl⟩:=items_int M;have x:ns.length<=n:=by
  unfold OpenLaw.pre at G;have B:(WTm.not (.lt (.lit (.int (n:Int))) (.len (.arg 0)))).holds [] {args:=[.list (ns.map .int)]}=true:=by
   have B:=(holds_andW G).1;rw[I]at B;exact B
  have C:=condW_of B (w_not (w_lt w_lit (w_len_list (w_arg rfl))));rw[aa]at C;refine Nat.le_of_not_lt λq=>?_;have O:(n:Int)<((ns.length:Nat):Int):=by lia
  first
   |(rw[aI O]at C;exact absurd C (by decide))
   |(simp at C;lia)
 cases D with
 |cons U Y=>
  cases Y;cases U with
  |list ho z=>exact⟨_,_,ns,rfl,rfl,ho,Kz ns _ z,x⟩
theorem M0(l:OpenLaw)(args:List WData):l.row.toRowW.claim.post args (.bool true) args=true:=
 postW_of (r:=l.row.toRowW) (X:=(true==true))
  (show WShape.has [] (.bool true) .bool=true by first|rfl|decide|simp[WShape.has,WShape.arms,WShape.armsAll])
  (show(WTm.eq .res (.lit (.bool true))).value [] {args:=args,res:=some (.bool true),after:=args}=some (.bool (true==true))from w_eq_bool (w_res rfl) w_lit) rfl
theorem Dj{l:OpenLaw}{n:Nat}{q:Program}{h:List Str}{O:(Str->Option Value)->Heap->Prop}{U:World->Heap->Prop}{d:DefRec}
  (hn:l.most=some n) (E:d.params.defaults=[])
  (call:∀(w:World)(s₀ g:Shared)(mg I:Str->Option Value)(z:Addr)(o:Obj)(pm cd t:Value)(a:Addr)(vs:List Value)(ns:List Int),
   Ground q h [] O w s₀ mg I g.heap->U w g.heap->
   g.heap.get? z=some o->o.data=.func (docDef d.name d.params d.body d.scope pm cd t)->g.heap.CodeRec cd d.name->mg d.name=some (.ref z)->
   g.heap.get? a=some {cls:=.type "list",data:=.seq vs.toArray}->IntsAre vs ns->ns.length<=n->g.gens= #[]->
   codeAny (model l.prog w) callerA (.call (.ref z) ⟨[.ref a],[]⟩) (λr s'=>r=.ok (.ret (.bool true))/\OldK g.heap s'.heap/\s'.os=g.os/\AllBare s'.gens) g):
  WalkO q h O U l.row.toRowW d [] (λf vs=>PySem.call f vs):=by
 intro w s₀ g mg I G Y z o pm cd t dV kV ho hd J hD L hg a0 a1 as B a2 a3 M a4;obtain rfl:dV=.none:=Dflts.none hD E;obtain rfl:kV=.none:=Dflts.noKw hD;obtain⟨a,vs,ns,rfl,rfl,C,x,D⟩:=Rl hn B M;refine enter_call (gA (call w s₀ g mg I z o pm cd t a vs ns G Y ho (fd_plain hd) J L C x D hg) λr s' hq=>?_);obtain⟨rfl,h2,h3,h4⟩:=hq;exact⟨.inl ⟨.bool true,.bool true,[],rfl,λ_=>rfl,.bool true,M0 l _,λ_=>⟨List.Pairwise.nil,λ_ hm=>(nomatch hm)⟩⟩,h2,h3,h4⟩
end Att
namespace L2
theorem GX:∀{vs:List Value}{ns:List Int},IntsAre vs ns->Vals (ns.map V.int) vs
 |_,_,.nil=>.nil
 |_,_,.cons n t h=>.cons ⟨t,rfl⟩ (GX h)
def X0(H:Hp):Prop:=∀ b,H b=none\/∃o g,H b=some (.frz o (.lst g))
noncomputable def Yk(s:Stmt):Arguments:=match s with
 | .FunctionDef _ a _ _ _ _ _ _ _ _=>a
 |_=>{posonlyargs:=[],args:=[],vararg:=none,kwonlyargs:=[],kw_defaults:=[],kwarg:=none,defaults:=[]}
noncomputable def Jp(s:Stmt):List Stmt:=match s with
 | .FunctionDef _ _ b _ _ _ _ _ _ _=>b
 |_=>[]
noncomputable def Zf(s:Stmt):Scope:=match s with
 | .FunctionDef _ _ _ _ _ _ g _ _ _=>g
 |_=>{kind:=.function,names:=[],isGenerator:=false,isCoroutine:=false}
abbrev CX0:CXT:=λ_ _ _ _ _ _=>False
abbrev E0:XK:=λ_ _ _=>False
theorem ut:Passes CX0 X E0:=λ_ _ _ _ _ _ _ h=>h.elim
structure Fun(K:Fk)(x qual:Str)(st:Stmt)(f:Addr)(fd:FuncData):Prop where
 ex:∃(oc:Value)(od:Option Addr)(kV doc pm:Value)(an:Option Addr)(cdv ct:Value)(osl:Array (Option Value)),
  fd=PySem.W.fnOf x qual (Yk st) (Jp st) (Zf st) .none kV doc pm an cdv ct/\K.lookup f=some ⟨oc,od,.func fd,osl⟩/\PySem.W.codeIn K cdv qual=true
 kp:PySem.W.keepIn K (.ref f)=true
section
variable{base:Heap}
theorem Fun.ok{x:Str}{ps:List Str}{k:Nat}{sp:Sp}(F:Fun K x qual st f fd)(S:Zo N ps (Zf st))(len:∀ vs H Q E,sp vs H Q E->vs.length=ps.length)
  (l:∀(g:Value)(A:Around)(outer:List Env)(s:Shared)(H:Hp)(vs:List V)(Q:VK)(E:XK),QL k (A.deeper (envOfC qual (Zf st) s.heap.objs.size f g))->sp vs H Q E->
   ∃t,PSs (Mj CX0 P w K mg base N qual (Zf st) f g A outer s H E).nox (Jp st) t/\t {nx:=λ_ H'=>Q .non H',rt:=Q} (start N vs) H):Qx P w K mg base CX0 (k+1) f fd ps sp:=by
 obtain⟨G,I,kV,B,J,L,g,M,C,rfl,lk,r⟩:=F.ex;refine rP lk r S len λA outer s H vs Q E D z=>?_;obtain⟨t,h,q⟩:=l g A outer s H vs Q E D z;exact⟨t,h.nox,q⟩
theorem Fun.binds{x:Str}{ps:List Str}(F:Fun K x qual st f fd)
  (h:∀(kV g pm:Value)(r:Option Addr)(l ct:Value)(us:List Value),us.length=ps.length->bindArgs (PySem.W.fnOf x qual (Yk st) (Jp st) (Zf st) .none kV g pm r l ct) ⟨us,[]⟩=pure (ps.zip us)):Binds K fd ps []:=by
 obtain⟨B,C,kV,g,pm,r,l,ct,t,rfl,lk,z⟩:=F.ex;exact .all (h kV g pm r l ct)
theorem yg{x:Str}{z:Value}{B t:Option Addr}{r:Array (Option Value)}{kV h pm g ct:Value}(l:K.lookup f=some ⟨z,B,.func (PySem.W.fnOf x qual (Yk st) (Jp st) (Zf st) .none kV h pm t g ct),r⟩)
  (c:PySem.W.codeIn K g qual=true) (k:PySem.W.keepIn K (.ref f)=true):Fun K x qual st f (PySem.W.fnOf x qual (Yk st) (Jp st) (Zf st) .none kV h pm t g ct):=⟨⟨z,B,kV,h,pm,t,g,ct,r,rfl,l,c⟩,k⟩
end
end L2
namespace DL
inductive DV where
 |dat (d:PyData)
 |own (a:Addr)
 |ty (n:String)
  |mix (xs:List DV)
inductive OO where
 |lst (ds:List PyData)
  |dct (ks:List (List Key))
  |dtv (kvs:List (List Key×PyData))
  |dkv (kvs:List (Key×PyData))
  |dko (kvs:List (Key×DV))
  |fdk (o:Obj) (kvs:List (Key×PyData))
  |lsv (n:Nat) (xs:List DV)
  |ext (φ:Heap->Prop)
  |gst (N₀:Addr->Prop) (H₀:Hp)
  |fdc (o:Obj) (ks:List (List Key))
 |fdt (o:Obj) (ps:List (List Key×PyData))
  |tab (φ:Fk->Addr->Array Value->(Addr->Prop)->Hp->Prop)
abbrev Mp:=Addr->Option OO
noncomputable def Zs(M:Mp)(a:Addr)(o:OO):Mp:=λb=>if b=a then some o else M b
noncomputable def Q4(M:Mp)(a:Addr):Mp:=λb=>if b=a then none else M b
theorem Zk{M:Mp}{o:OO}:Zs M a o a=some o:=by unfold Zs;rw[aw rfl]
theorem Zj{M:Mp}{o:OO}(h:b≠a):Zs M a o b=M b:=by unfold Zs;rw[ao h]
theorem Mw{M:Mp}{o u:OO}:Zs (Zs M a o) a u=Zs M a u:=by
 funext b;unfold Zs;split<;>rfl
theorem Jb{M:Mp}:Q4 M a a=none:=by unfold Q4;rw[aw rfl]
theorem ZG{M:Mp}(h:b≠a):Q4 M a b=M b:=by unfold Q4;rw[ao h]
noncomputable def kD:Key->PyData
 | .inl i=>.int i
 | .inr x=>.str x
def KTu(K:Fk)(a:Addr)(xs:List V):Prop:=
 ∃(o:Obj)(its:Array Value)(n:Nat),K.lookup a=some o/\o.cls=.type "tuple"/\o.dict=none/\o.data=.seq its n/\its.size<=sizeLine/\Vals xs its.toList
def KLs(K:Fk)(a:Addr)(xs:List V):Prop:=
 ∃(o:Obj)(its:Array Value)(n:Nat),K.lookup a=some o/\o.cls=.type "list"/\o.dict=none/\o.data=.seq its n/\its.size<=sizeLine/\Vals xs its.toList
def TupAt(K:Fk)(M:Mp)(H:Hp)(a:Addr)(xs:List V):Prop:=(M a=none/\Rd H a (.tup xs))\/KTu K a xs
def LstAt(K:Fk)(M:Mp)(H:Hp)(a:Addr)(xs:List V):Prop:=(M a=none/\Rd H a (.lst xs))\/KLs K a xs
theorem TupAt.sq{M:Mp}{xs:List V}(h:TupAt K M H a xs):SqT K H a xs:=by
 rcases h with⟨_,h⟩|h
 ·exact .inl h
 ·exact .inr h
theorem LstAt.sq{M:Mp}{xs:List V}(h:LstAt K M H a xs):SqL K H a xs:=by
 rcases h with⟨_,h⟩|h
 ·exact .inl h
 ·exact .inr h
mutual
inductive Dt (K:Fk) (M:Mp) (H:Hp):V->PyData->Prop
 |non:Dt K M H .non .none
 |bl (b:Bool):Dt K M H (.bl b) (.bool b)
 |int (i:Int):Dt K M H (.int i) (.int i)
 |str (x:Str):Dt K M H (.str x) (.str x)
 |tup {a:Addr} {xs:List V} {ds:List PyData}:TupAt K M H a xs->Dts K M H xs ds->Dt K M H (.ref a) (.tuple ds)
 |lst {a:Addr} {xs:List V} {ds:List PyData}:LstAt K M H a xs->Dts K M H xs ds->Dt K M H (.ref a) (.list ds)
 |dK {a:Addr} {kvs:List (Key×V)} {ds:List PyData}:M a=none->H a=some (.dK kvs)->Dts K M H (kvs.map (·.2)) ds->Dt K M H (.ref a) (.dict ((kvs.map λkv=>kD kv.1).zip ds))
 |dT {a:Addr} {kvs:List (List Key×V)} {ds:List PyData}:M a=none->H a=some (.dT kvs)->Dts K M H (kvs.map (·.2)) ds->kvs≠[]->Dt K M H (.ref a) (.dict ((kvs.map λkv=>PyData.tuple (kv.1.map kD)).zip ds))
 | dX {a b:Addr} {φ:Heap->Prop} {v:V} {dk d:PyData}:M a=none->H a=some (.ext φ)->(a==sysModules)=false->
   (∀h,φ h->∃ o es n u,h.get? a=some o/\o.cls=.type "dict"/\o.data=.dict es n/\es.toList.map (·.key)=[.ref b]/\es.toList.map (·.val)=[u]/\RelV v u)->Dt K M H (.ref b) dk->Dt K M H v d->Dt K M H (.ref a) (.dict [(dk,d)])
inductive Dts (K:Fk) (M:Mp) (H:Hp):List V->List PyData->Prop
 |nil:Dts K M H [] []
 |cons {x:V} {xs:List V} {d:PyData} {ds:List PyData}:Dt K M H x d->Dts K M H xs ds->Dts K M H (x::xs) (d::ds)
end
structure Step(M:Mp)(H:Hp)(M':Mp)(H':Hp):Prop where
 keep:∀ b o,M b=none->H b=some o->H' b=some o
 free:∀ b o,M b=none->H b=some o->M' b=none
theorem Step.refl{M:Mp}:Step M H M H:=⟨λ_ _ _ h=>h,λ_ _ h _=>h⟩
theorem Step.trans{M M1 M2:Mp}{l r:Hp}(a:Step M H M1 l)(b:Step M1 l M2 r):Step M H M2 r:=
 ⟨λc o g h=>b.keep c o (a.free c o g h) (a.keep c o g h),λc o g h=>b.free c o (a.free c o g h) (a.keep c o g h)⟩
section
variable{M M':Mp}
theorem Oz{u:HO}(st:Step M H M' H')(g:M a=none)(h:Rd H a u):M' a=none/\Rd H' a u:=by
 rcases h with h|⟨o,h⟩
 ·exact⟨st.free _ _ g h,.inl (st.keep _ _ g h)⟩
 ·exact⟨st.free _ _ g h,.inr ⟨o,st.keep _ _ g h⟩⟩
theorem TupAt.step{xs:List V}(h:TupAt K M H a xs)(st:Step M H M' H'):TupAt K M' H' a xs:=by
 rcases h with⟨g,l⟩|h
 ·exact .inl (Oz st g l)
 ·exact .inr h
theorem LstAt.step{xs:List V}(h:LstAt K M H a xs)(st:Step M H M' H'):LstAt K M' H' a xs:=by
 rcases h with⟨g,l⟩|h
 ·exact .inl (Oz st g l)
 ·exact .inr h
theorem Dts.step(st:Step M H M' H')(h:Dts K M H vs ds):Dts K M' H' vs ds:=
 Dts.rec (motive_1:=λv d _=>Dt K M' H' v d) (motive_2:=λvs ds _=>Dts K M' H' vs ds) .non .bl .int .str
  (λg _ i=>.tup (g.step st) i) (λg _ i=>.lst (g.step st) i)
  (λl g _ i=>.dK (st.free _ _ l g) (st.keep _ _ l g) i)
  (λl g _ r i=>.dT (st.free _ _ l g) (st.keep _ _ l g) i r)
  (λl g t r _ _ i j=>.dX (st.free _ _ l g) (st.keep _ _ l g) t r i j)
  .nil (λ_ _ i j=>.cons i j) h
theorem Dt.step(st:Step M H M' H')(h:Dt K M H v d):Dt K M' H' v d:=by
 cases Dts.step st (.cons h .nil)with
 |cons h _=>exact h
theorem Dts.ind{p:List V->List PyData->Prop}(n:p [] [])(c:∀{x xs d ds},Dt K M H x d->Dts K M H xs ds->p xs ds->p (x::xs) (d::ds))(h:Dts K M H vs ds):p vs ds:=
 Dts.rec (motive_1:=λ_ _ _=>True) (motive_2:=λvs ds _=>p vs ds) trivial (λ_=>trivial) (λ_=>trivial) (λ_=>trivial) (λ_ _ _=>trivial) (λ_ _ _=>trivial)
  (λ_ _ _ _=>trivial) (λ_ _ _ _ _=>trivial) (λ_ _ _ _ _ _ _ _=>trivial) n (λh t _ i=>c h t i) h
theorem Dts.length(h:Dts K M H vs ds):vs.length=ds.length:=
 Dts.ind (p:=λvs ds=>vs.length=ds.length) rfl (λ_ _ i=>by rw[a_,a_,i]) h
theorem Dts.get(h:Dts K M H vs ds)(e:ds[i]?=some d):∃ v,vs[i]?=some v/\Dt K M H v d:=
 Dts.ind (p:=λvs ds=>∀ i,ds[i]?=some d->∃ v,vs[i]?=some v/\Dt K M H v d) (λ_ e=>by simp at e) (λh _ g i e=>by
  cases i with
  |zero=>simp at e;subst e;exact⟨_,rfl,h⟩
  |succ i=>
   obtain⟨x,l,r⟩:=g i (by simpa using e)
   exact⟨x,by simpa using l,r⟩) h i e
theorem Dts.iq(h:Dts K M H vs ds)(e:vs[i]?=some v):∃ d,ds[i]?=some d/\Dt K M H v d:=
 Dts.ind (p:=λvs ds=>∀ i,vs[i]?=some v->∃ d,ds[i]?=some d/\Dt K M H v d) (λ_ e=>by simp at e) (λh _ g i e=>by
  cases i with
  |zero=>simp at e;subst e;exact⟨_,rfl,h⟩
  |succ i=>
   obtain⟨x,l,r⟩:=g i (by simpa using e)
   exact⟨x,by simpa using l,r⟩) h i e
theorem Dts.append{g:List V}{l:List PyData}(h:Dts K M H vs ds)(k:Dts K M H g l):Dts K M H (vs++g) (ds++l):=
 Dts.ind (p:=λvs ds=>Dts K M H (vs++g) (ds++l)) k (λh _ i=>.cons h i) h
theorem Dts.take:∀{vs:List V}{ds:List PyData}(n:Nat),Dts K M H vs ds->Dts K M H (vs.take n) (ds.take n)
 |_,_,0,_=>.nil
 |_,_,_+1,.nil=>.nil
 |_,_,n+1,.cons g h=>.cons g (Dts.take n h)
theorem Dts.drop:∀{vs:List V}{ds:List PyData}(n:Nat),Dts K M H vs ds->Dts K M H (vs.drop n) (ds.drop n)
 |_,_,0,h=>h
 |_,_,_+1,.nil=>.nil
 |_,_,n+1,.cons _ g=>Dts.drop n g
theorem Dts.set(h:Dt K M H v d):∀{vs:List V}{ds:List PyData}(i:Nat),Dts K M H vs ds->Dts K M H (vs.set i v) (ds.set i d)
 |_,_,_,.nil=>.nil
 |_,_,0,.cons _ t=>.cons h t
 |_,_,i+1,.cons q t=>.cons q (Dts.set h i t)
theorem Dts.ints:∀(ns:List Int),Dts K M H (ns.map V.int) (ns.map PyData.int)
 |[]=>.nil
 |n::ns=>.cons (.int n) (Dts.ints ns)
theorem Xn:∀{vs:List V}{ns:List Int},Dts K M H vs (ns.map PyData.int)->vs=ns.map V.int
 |vs,[],h=>by
  rw[cw]at h;cases h;rfl
 | vs,n::ns,h=>by
  rw[ai]at h;cases h with
  |cons g l=>
   cases g;rw[Xn l,ai]
mutual
inductive Mx (K:Fk) (M:Mp) (H:Hp):V->List DV->Prop
 |mk {a:Addr} {vs:List V} {xs:List DV}:M a=none->H a=some (.tup vs)->Mxs K M H vs xs->Mx K M H (.ref a) xs
inductive Mxs (K:Fk) (M:Mp) (H:Hp):List V->List DV->Prop
 |nil:Mxs K M H [] []
 |dat {v:V} {d:PyData} {vs:List V} {xs:List DV}:Dt K M H v d->Mxs K M H vs xs->Mxs K M H (v::vs) (.dat d::xs)
 |own {b:Addr} {vs:List V} {xs:List DV}:Mxs K M H vs xs->Mxs K M H (.ref b::vs) (.own b::xs)
 |mix {v:V} {ys:List DV} {vs:List V} {xs:List DV}:Mx K M H v ys->Mxs K M H vs xs->Mxs K M H (v::vs) (.mix ys::xs)
end
theorem Mxs.step(st:Step M H M' H'){xs:List DV}(h:Mxs K M H vs xs):Mxs K M' H' vs xs:=
 Mxs.rec (motive_1:=λv xs _=>Mx K M' H' v xs) (motive_2:=λvs xs _=>Mxs K M' H' vs xs)
  (λg l _ i=>.mk (st.free _ _ g l) (st.keep _ _ g l) i) .nil (λg _ i=>.dat (Dt.step st g) i) (λ_ i=>.own i) (λ_ _ i j=>.mix i j) h
theorem Mx.step(st:Step M H M' H'){xs:List DV}:Mx K M H v xs->Mx K M' H' v xs:=by
 intro h;cases h with
 |mk g l r=>exact .mk (st.free _ _ g l) (st.keep _ _ g l) (Mxs.step st r)
def VR0(K:Fk)(M:Mp)(H:Hp)(v:V):DV->Prop
 | .dat d=>Dt K M H v d
 | .own b=>v=.ref b
 | .ty _=>False
 | .mix g=>Mx K M H v g
theorem VR0.step{x:DV}(h:VR0 K M H v x)(st:Step M H M' H'):VR0 K M' H' v x:=by
 cases x with
 |dat d=>exact Dt.step st h
 |own b=>exact h
 |ty n=>exact h
 |mix g=>exact Mx.step st h
def OOk(K:Fk)(M:Mp)(H:Hp)(a:Addr):OO->Prop
 | .lst ds=>∃ vs,H a=some (.lst vs)/\Dts K M H vs ds
 | .dct ks=>∃ kvs,H a=some (.dT kvs)/\kvs.map (·.1)=ks
 | .dtv ps=>∃ kvs,H a=some (.dT kvs)/\kvs.map (·.1)=ps.map (·.1)/\Dts K M H (kvs.map (·.2)) (ps.map (·.2))
 | .dkv ps=>∃ kvs,H a=some (.dK kvs)/\kvs.map (·.1)=ps.map (·.1)/\Dts K M H (kvs.map (·.2)) (ps.map (·.2))
 | .dko ps=>∃ kvs,H a=some (.dK kvs)/\Paired (λ(p:Key×V) (q:Key×DV)=>p.1=q.1/\VR0 K M H p.2 q.2) kvs ps
 | .fdk o ps=>∃ kvs,H a=some (.frz o (.dK kvs))/\kvs.map (·.1)=ps.map (·.1)/\Dts K M H (kvs.map (·.2)) (ps.map (·.2))
 | .lsv _ t=>∃ vs,H a=some (.lst vs)/\Paired (VR0 K M H) vs t
 | .ext h=>H a=some (.ext h)
 | .gst l g=>(∃vs,H a=some (.lst vs)/\g a=some (.lst vs))/\∀b o,l b->g b=some o->H b=some o/\M b=none
 | .fdc o ks=>∃ kvs,H a=some (.frz o (.dT kvs))/\kvs.map (·.1)=ks
 | .fdt o ps=>∃ kvs,H a=some (.frz o (.dT kvs))/\kvs.map (·.1)=ps.map (·.1)/\Dts K M H (kvs.map (·.2)) (ps.map (·.2))
 | .tab h=>(∃ps,H a=some (.tbl ps)/\h K a ps (λb=>M b=none) H)/\∀ps (N r:Addr->Prop) H H',h K a ps N H->(∀b o,N b->H b=some o->r b/\H' b=some o)->h K a ps r H'
theorem OOk.step{o:OO}(h:OOk K M H a o)(st:Step M H M' H')(e:∀ u,H a=some u->H' a=some u):OOk K M' H' a o:=by
 cases o with
 |lst ds=>obtain⟨vs,g,l⟩:=h;exact⟨vs,e _ g,l.step st⟩
 |dct ks=>obtain⟨vs,g,l⟩:=h;exact⟨vs,e _ g,l⟩
 |dtv ps=>obtain⟨vs,g,l,r⟩:=h;exact⟨vs,e _ g,l,r.step st⟩
 |dkv ps=>obtain⟨vs,g,l,r⟩:=h;exact⟨vs,e _ g,l,r.step st⟩
 |dko ps=>obtain⟨vs,g,l⟩:=h;exact⟨vs,e _ g,Paired.fm l λ_ _ z=>⟨z.1,z.2.step st⟩⟩
 |fdk o ps=>obtain⟨vs,g,l,r⟩:=h;exact⟨vs,e _ g,l,r.step st⟩
 |lsv n C=>obtain⟨vs,g,l⟩:=h;exact⟨vs,e _ g,Paired.fm l λ_ _ z=>z.step st⟩
 |ext B=>exact e _ h
 |gst t x=>obtain⟨⟨u,g,l⟩,k⟩:=h;exact⟨⟨u,e _ g,l⟩,λb o n q=>⟨st.keep b o (k b o n q).2 (k b o n q).1,st.free b o (k b o n q).2 (k b o n q).1⟩⟩
 |fdc o ks=>obtain⟨vs,g,l⟩:=h;exact⟨vs,e _ g,l⟩
 |fdt o ps=>obtain⟨vs,g,l,r⟩:=h;exact⟨vs,e _ g,l,r.step st⟩
 |tab B=>obtain⟨⟨ps,g,l⟩,r⟩:=h;exact⟨⟨ps,e _ g,r _ _ _ _ _ l λb o n q=>⟨st.free b o n q,st.keep b o n q⟩⟩,r⟩
theorem OOk.some{o:OO}(h:OOk K M H a o):∃ u,H a=some u:=by
 cases o with
 |lst ds=>obtain⟨vs,g,_⟩:=h;exact⟨_,g⟩
 |dct ks=>obtain⟨vs,g,_⟩:=h;exact⟨_,g⟩
 |dtv ps=>obtain⟨vs,g,_⟩:=h;exact⟨_,g⟩
 |dkv ps=>obtain⟨vs,g,_⟩:=h;exact⟨_,g⟩
 |dko ps=>obtain⟨vs,g,_⟩:=h;exact⟨_,g⟩
 |fdk o ps=>obtain⟨vs,g,_⟩:=h;exact⟨_,g⟩
 |lsv n x=>obtain⟨vs,g,_⟩:=h;exact⟨_,g⟩
 |ext t=>exact⟨_,h⟩
 |gst l r=>obtain⟨⟨u,g,_⟩,_⟩:=h;exact⟨_,g⟩
 |fdc o ks=>obtain⟨vs,g,_⟩:=h;exact⟨_,g⟩
 |fdt o ps=>obtain⟨vs,g,_⟩:=h;exact⟨_,g⟩
 |tab t=>obtain⟨⟨ps,g,_⟩,_⟩:=h;exact⟨_,g⟩
structure ZR(K:Fk)(M:Mp)(H:Hp):Prop where
 ok:∀ a o,M a=some o->OOk K M H a o
theorem ZR.ls(r:ZR K M H)(a:Addr)(ds:List PyData)(h:M a=some (.lst ds)):∃ vs,H a=some (.lst vs)/\Dts K M H vs ds:=r.ok a _ h
theorem ZR.tracked(r:ZR K M H)(h:H a=none):M a=none:=by
 cases q:M a with
 |none=>rfl
 |some o=>
  obtain⟨u,e⟩:=(r.ok a o q).some;rw[h]at e;cases e
theorem Step.new{o:HO}(h:H p=none):Step M H M (upd H p o):=
 ⟨λb u _ e=>by rw[ZH (ZL e h)];exact e,λ_ _ h _=>h⟩
theorem ZR.step_same(r:ZR K M H)(st:Step M H M H')(g:∀ a u,M a≠none->H a=some u->H' a=some u):ZR K M H':=
 ⟨λa o e=>(r.ok a o e).step st λu h=>g a u (by rw[e];simp) h⟩
theorem ZR.new(r:ZR K M H){o:HO}(h:H p=none):ZR K M (upd H p o):=
 r.step_same (Step.new h) λa vs _ e=>by rw[ZH (ZL e h)];exact e
theorem Step.Qp{o:HO}{q:OO}(h:H p=none):Step M H (Zs M p q) (upd H p o):=
 ⟨λb u _ e=>by rw[ZH (ZL e h)];exact e,λb u g e=>by rw[Zj (ZL e h)];exact g⟩
theorem Step.Vb{o:HO}{q r:OO}(h:M p=some q):Step M H (Zs M p r) (upd H p o):=by
 have l:∀ b,M b=none->b≠p:=λb g e=>by rw[e,h]at g;cases g
 exact⟨λb u g e=>by rw[ZH (l b g)];exact e,λb u g e=>by rw[Zj (l b g)];exact g⟩
theorem ZR.Vk(r:ZR K M H){u:HO}{o:OO}(st:Step M H (Zs M p o) (upd H p u))(h:OOk K (Zs M p o) (upd H p u) p o):ZR K (Zs M p o) (upd H p u):=by
 refine⟨λa q e=>?_⟩
 by_cases g:a=p
 ·subst g;rw[Zk]at e;cases e;exact h
 ·rw[Zj g]at e;exact(r.ok a q e).step st λv l=>by rw[ZH g];exact l
theorem ZR.XM(r:ZR K M H)(st:Step M H (Zs M p (.lst ds)) (upd H p (.lst vs)))(g:Dts K M H vs ds):
  ZR K (Zs M p (.lst ds)) (upd H p (.lst vs)):=r.Vk st ⟨vs,Z0,g.step st⟩
theorem Step.frz:Step M H (Q4 M p) H:=
 ⟨λ_ _ _ h=>h,λb o g _=>by unfold Q4;split<;>first|rfl|exact g⟩
theorem ZR.frz(r:ZR K M H):ZR K (Q4 M p) H:=by
 refine⟨λa o e=>?_⟩;have g:a≠p:=λz=>by rw[z,Jb]at e;cases e
 rw[ZG g]at e;exact(r.ok a o e).step Step.frz λ_ h=>h
def QE(K:Fk)(M:Mp)(H:Hp)(v:V):DV->Prop
 | .dat d=>Dt K M H v d
 | .own a=>v=.ref a
 | .ty n=>v=.ty n
 | .mix g=>Mx K M H v g
theorem QE.step{x:DV}(h:QE K M H v x)(st:Step M H M' H'):QE K M' H' v x:=by
 cases x with
 |dat d=>exact Dt.step st h
 |own a=>exact h
 |ty n=>exact h
 |mix g=>exact Mx.step st h
abbrev JQ(K:Fk)(M:Mp)(H:Hp):List V->List DV->Prop:=Paired (QE K M H)
theorem JQ.step{xs:List DV}(h:JQ K M H vs xs)(st:Step M H M' H'):JQ K M' H' vs xs:=Paired.fm h λ_ _ q=>QE.step q st
theorem JQ.je:∀{vs:List V}{ds:List PyData},JQ K M H vs (ds.map DV.dat)->Dts K M H vs ds
 |vs,[],h=>by rw[cw]at h;cases h;exact .nil
 |vs,d::ds,h=>by
  rw[ai]at h;cases h with
  |cons g l=>exact .cons g (JQ.je l)
noncomputable def onV(o:Option (Option DV))(P:DV->Prop):Prop:=match o with|some (some x)=>P x|_=>False
theorem ni{o:Option (Option DV)}{P:DV->Prop}(h:onV o P):∃ x,o=some (some x)/\P x:=by
 rcases o with _|_|x
 all_goals first|exact⟨_,rfl,h⟩|exact False.elim h
def onI(x:DV)(P:Int->Prop):Prop:=match x with| .dat (.int i)=>P i|_=>False
theorem om(i:Int)(P:Int->Prop):onI (.dat (.int i)) P=P i:=rfl
theorem ZJ{x:DV}{P:Int->Prop}(h:onI x P):∃ i,x=.dat (.int i)/\P i:=by
 cases x with
 |dat d=>cases d<;>first|exact⟨_,rfl,h⟩|exact False.elim h
 |_=>exact False.elim h
def onB(x:DV)(P:Bool->Prop):Prop:=match x with| .dat (.bool i)=>P i|_=>False
theorem S7{x:DV}{P:Bool->Prop}(h:onB x P):∃ i,x=.dat (.bool i)/\P i:=by
 cases x with
 |dat d=>cases d<;>first|exact⟨_,rfl,h⟩|exact False.elim h
 |_=>exact False.elim h
def onS(x:DV)(P:Str->Prop):Prop:=match x with| .dat (.str i)=>P i|_=>False
theorem Qu{x:DV}{P:Str->Prop}(h:onS x P):∃ i,x=.dat (.str i)/\P i:=by
 cases x with
 |dat d=>cases d<;>first|exact⟨_,rfl,h⟩|exact False.elim h
 |_=>exact False.elim h
def onT(x:DV)(P:List PyData->Prop):Prop:=match x with| .dat (.tuple i)=>P i|_=>False
theorem tK(i:List PyData)(P:List PyData->Prop):onT (.dat (.tuple i)) P=P i:=rfl
theorem XT{x:DV}{P:List PyData->Prop}(h:onT x P):∃ i,x=.dat (.tuple i)/\P i:=by
 cases x with
 |dat d=>cases d<;>first|exact⟨_,rfl,h⟩|exact False.elim h
 |_=>exact False.elim h
def onL(x:DV)(P:List PyData->Prop):Prop:=match x with| .dat (.list i)=>P i|_=>False
theorem WC{x:DV}{P:List PyData->Prop}(h:onL x P):∃ i,x=.dat (.list i)/\P i:=by
 cases x with
 |dat d=>cases d<;>first|exact⟨_,rfl,h⟩|exact False.elim h
 |_=>exact False.elim h
def onD(x:DV)(P:PyData->Prop):Prop:=match x with| .dat i=>P i|_=>False
theorem QD{x:DV}{P:PyData->Prop}(h:onD x P):∃ i,x=.dat i/\P i:=by
 cases x<;>first|exact⟨_,rfl,h⟩|exact False.elim h
def onO(x:DV)(P:Addr->Prop):Prop:=match x with| .own i=>P i|_=>False
theorem BD(i:Addr)(P:Addr->Prop):onO (.own i) P=P i:=rfl
theorem ZM{x:DV}{P:Addr->Prop}(h:onO x P):∃ i,x=.own i/\P i:=by
 cases x<;>first|exact⟨_,rfl,h⟩|exact False.elim h
def Vi(o:Option OO)(P:List PyData->Prop):Prop:=match o with|some (.lst ds)=>P ds|_=>False
theorem Zv(ds:List PyData)(P:List PyData->Prop):Vi (some (.lst ds)) P=P ds:=rfl
theorem Jd{o:Option OO}{P:List PyData->Prop}(h:Vi o P):∃ ds,o=some (.lst ds)/\P ds:=by
 rcases o with _|o
 ·exact False.elim h
 ·cases o<;>first|exact⟨_,rfl,h⟩|exact False.elim h
def onQ(x:DV)(M:Mp)(P:List PyData->Prop):Prop:=match x with| .dat (.tuple ds)=>P ds| .dat (.list ds)=>P ds| .own l=>Vi (M l) P|_=>False
theorem Fb{x:DV}{M:Mp}{P:List PyData->Prop}(h:onQ x M P):∃ ds,(x=.dat (.tuple ds)\/x=.dat (.list ds)\/∃l,x=.own l/\M l=some (.lst ds))/\P ds:=by
 cases x with
 |dat d=>cases d<;>first|exact⟨_,.inl rfl,h⟩|exact⟨_,.inr (.inl rfl),h⟩|exact False.elim h
 |own l=>
  obtain⟨ds,e,h⟩:=Jd h;exact⟨ds,.inr (.inr ⟨_,rfl,e⟩),h⟩
 |_=>exact False.elim h
def onK(x:DV)(M:Mp)(P:List PyData->Prop):Prop:=match x with| .dat (.list ds)=>P ds| .own l=>Vi (M l) P|_=>False
theorem V8{x:DV}{M:Mp}{P:List PyData->Prop}(h:onK x M P):∃ ds,(x=.dat (.list ds)\/∃l,x=.own l/\M l=some (.lst ds))/\P ds:=by
 cases x with
 |dat d=>cases d<;>first|exact⟨_,.inl rfl,h⟩|exact False.elim h
 |own l=>
  obtain⟨ds,e,h⟩:=Jd h;exact⟨ds,.inr ⟨_,rfl,e⟩,h⟩
 |_=>exact False.elim h
def on1(xs:List DV)(P:DV->Prop):Prop:=match xs with|[x]=>P x|_=>False
theorem ZP{xs:List DV}{P:DV->Prop}(h:on1 xs P):∃ x,xs=[x]/\P x:=by
 rcases xs with _|⟨_,_|⟨_,_⟩⟩
 all_goals first|exact⟨_,rfl,h⟩|exact False.elim h
def on2(xs:List DV)(P:DV->DV->Prop):Prop:=match xs with|[x,y]=>P x y|_=>False
theorem Zz{xs:List DV}{P:DV->DV->Prop}(h:on2 xs P):∃ x y,xs=[x,y]/\P x y:=by
 rcases xs with _|⟨_,_|⟨_,_|⟨_,_⟩⟩⟩
 all_goals first|exact⟨_,_,rfl,h⟩|exact False.elim h
def on3(xs:List DV)(P:DV->DV->DV->Prop):Prop:=match xs with|[x,y,z]=>P x y z|_=>False
theorem QA{xs:List DV}{P:DV->DV->DV->Prop}(h:on3 xs P):∃ x y z,xs=[x,y,z]/\P x y z:=by
 rcases xs with _|⟨_,_|⟨_,_|⟨_,_|⟨_,_⟩⟩⟩⟩
 all_goals first|exact⟨_,_,_,rfl,h⟩|exact False.elim h
def on4(xs:List DV)(P:DV->DV->DV->DV->Prop):Prop:=match xs with|[g,h,l,r]=>P g h l r|_=>False
theorem FC{xs:List DV}{P:DV->DV->DV->DV->Prop}(h:on4 xs P):∃ g l r t,xs=[g,l,r,t]/\P g l r t:=by
 rcases xs with _|⟨_,_|⟨_,_|⟨_,_|⟨_,_|⟨_,_⟩⟩⟩⟩⟩
 all_goals first|exact⟨_,_,_,_,rfl,h⟩|exact False.elim h
def on5(xs:List DV)(P:DV->DV->DV->DV->DV->Prop):Prop:=match xs with|[g,h,l,r,t]=>P g h l r t|_=>False
theorem oa{xs:List DV}{P:DV->DV->DV->DV->DV->Prop}(h:on5 xs P):∃ g l r t x,xs=[g,l,r,t,x]/\P g l r t x:=by
 rcases xs with _|⟨_,_|⟨_,_|⟨_,_|⟨_,_|⟨_,_|⟨_,_⟩⟩⟩⟩⟩⟩
 all_goals first|exact⟨_,_,_,_,_,rfl,h⟩|exact False.elim h
noncomputable def iQ:List DV->Option (List PyData)
 |[]=>some []
 | .dat d::r=>match iQ r with|some ds=>some (d::ds)|none=>none
 |_::_=>none
set_option tactic.hygienic true in
theorem ES:∀{xs:List DV}{ds:List PyData},iQ xs=some ds->xs=ds.map DV.dat
 |[],_,h=>by cases h;rfl
 | .dat d::r,ds,h=>by
  rw[iQ]at h
  split at h
  ·rename_i g e;cases h;rw[ai,<-ES e]
  ·cases h
 | .own _::_,_,h=>by cases h
 | .ty _::_,_,h=>by cases h
 | .mix _::_,_,h=>by cases h
def Wx(xs:List DV)(P:List PyData->Prop):Prop:=match Nat.ble xs.length 100 with
 |true=>(match iQ xs with|some ds=>P ds|none=>False)
 |false=>False
set_option tactic.hygienic true in
theorem D8{xs:List DV}{P:List PyData->Prop}(h:Wx xs P):∃ ds,xs=ds.map DV.dat/\ds.length<=100/\P ds:=by
 unfold Wx at h
 split at h
 ·rename_i e
  split at h
  ·rename_i ds l;have g:=ES l;refine⟨ds,g,?_,h⟩;have r:=eD e
   rwa [g,aa]at r
  ·exact h.elim
 ·exact h.elim
abbrev DSt:=List (Option DV)
structure Jy(K:Fk)(M:Mp)(H:Hp)(σ:L2.St)(Δ:DSt):Prop where
 len:σ.length=Δ.length
 at':∀(i:Nat)(x:DV),Δ[i]?=some (some x)->∃ v,σ[i]?=some (some v)/\QE K M H v x
theorem Jy.step{σ:L2.St}{g:DSt}(h:Jy K M H σ g)(st:Step M H M' H'):Jy K M' H' σ g:=
 ⟨h.len,λi x e=>let⟨v,l,r⟩:=h.at' i x e;⟨v,l,r.step st⟩⟩
theorem Jy.set{σ:L2.St}{g:DSt}{x:DV}(h:Jy K M H σ g)(r:QE K M H v x):Jy K M H (σ.set i (some v)) (g.set i (some x)):=by
 refine⟨by rw[d_,d_,h.len],λj y e=>?_⟩
 by_cases l:i=j
 ·subst l
  by_cases t:i<g.length
  ·rw[dO t]at e;cases e;exact⟨v,dO (by rw[h.len];exact t),r⟩
  ·rw[cQ (by rw[d_];lia)]at e;cases e
 ·rw[eQ l]at e;rw[eQ l];exact h.at' j y e
noncomputable def VB(N:List Str)(xs:List DV):DSt:=xs.map some++List.replicate (N.length-xs.length) none
theorem Paired.lJ{r g:Type}{F:r->g->Prop}{l:List r}{m:List g}{i:Nat}{b:g}(h:Paired F l m)(e:m[i]?=some b):∃ a,l[i]?=some a/\F a b:=by
 induction h generalizing i with
 |nil=>simp at e
 | cons h _ t=>
  cases i with
  |zero=>simp at e;subst e;exact⟨_,rfl,h⟩
  |succ i=>
   obtain⟨x,z,B⟩:=t (i:=i) (by simpa using e);exact⟨x,by simpa using z,B⟩
theorem Jy.start{xs:List DV}(h:JQ K M H vs xs):Jy K M H (start N vs) (VB N xs):=by
 have l:vs.length=xs.length:=bC h;refine⟨by unfold L2.start VB;simp[l],λi x e=>?_⟩;unfold VB at e;unfold L2.start
 by_cases g:i<xs.length
 ·rw[bE (by simpa using g),aV]at e;cases q:xs[i]? with
  |none=>rw[q]at e;cases e
  |some y=>
   rw[q]at e;cases e;obtain⟨v,r,t⟩:=Paired.lJ h q;exact⟨v,by rw[bE (by simpa[l]using g),aV,r];rfl,t⟩
 ·rw[bx (by simpa using g),List.getElem?_replicate]at e
  split at e<;>cases e
end
abbrev DK:=DV->Mp->Prop
abbrev DTE:=DSt->Mp->DK->Prop
abbrev DTT:=DSt->Mp->(Bool->Mp->Prop)->Prop
abbrev DTA:=DSt->Mp->(List DV->Mp->Prop)->Prop
structure Qt where
 nx:DSt->Mp->Prop
 rt:DK
 bk:DSt->Mp->Prop:=λ_ _=>False
 ct:DSt->Mp->Prop:=λ_ _=>False
abbrev DTS:=Qt->DSt->Mp->Prop
def Rch(K:Fk)(M:Mp)(H:Hp)(h:DK)(Q:VK):Prop:=∀ v H' x g,ZR K g H'->Step M H g H'->QE K g H' v x->h x g->Q v H'
theorem Rch.step{M g:Mp}{l:DK}{Q:VK}(h:Rch K M H l Q)(st:Step M H g H'):Rch K g H' l Q:=λv t x M2 r z q f=>h v t x M2 r (st.trans z) q f
theorem Rch.dat{M g:Mp}{l:DK}{Q:VK}(h:Rch K M H l Q)(r:ZR K g H')(st:Step M H g H')(hd:Dt K g H' v d)(f:l (.dat d) g):Q v H':=h v H' (.dat d) g r st hd f
def DE(X:Cx)(e:Expr)(l:DTE):Prop:=∃ t,PE X e t/\∀σ H g M h Q,ZR X.K M H->Jy X.K M H σ g->l g M h->Rch X.K M H h Q->t σ H Q
def DT(X:Cx)(e:Expr)(r:DTT):Prop:=∃ t,PT X e t/\∀σ H h M l (Q:Bool->Hp->Prop),ZR X.K M H->Jy X.K M H σ h->r h M l->
 (∀b H' g,ZR X.K g H'->Step M H g H'->l b g->Q b H')->t σ H Q
def DW(X:Cx)(e:Expr)(r:DTT):Prop:=∃ t,PW X e t/\∀σ H h M l (Q:Bool->Hp->Prop),ZR X.K M H->Jy X.K M H σ h->r h M l->
 (∀b H' g,ZR X.K g H'->Step M H g H'->l b g->Q b H')->t σ H Q
def DA(X:Cx)(x:List Expr)(z:DTA):Prop:=∃ t,PA X x t/\∀σ H h M l (Q:List V->Hp->Prop),ZR X.K M H->Jy X.K M H σ h->z h M l->
 (∀vs H' r g,ZR X.K g H'->Step M H g H'->JQ X.K g H' vs r->l r g->Q vs H')->t σ H Q
structure K9(K:Fk)(M:Mp)(H:Hp)(D:Qt)(E:Ends):Prop where
 nx:∀ σ' H' Δ' M',ZR K M' H'->Step M H M' H'->Jy K M' H' σ' Δ'->D.nx Δ' M'->E.nx σ' H'
 rt:Rch K M H D.rt E.rt
 bk:∀ σ' H' Δ' M',ZR K M' H'->Step M H M' H'->Jy K M' H' σ' Δ'->D.bk Δ' M'->E.bk σ' H'
 ct:∀ σ' H' Δ' M',ZR K M' H'->Step M H M' H'->Jy K M' H' σ' Δ'->D.ct Δ' M'->E.ct σ' H'
theorem K9.step{M g:Mp}{D:Qt}{E:Ends}(h:K9 K M H D E)(st:Step M H g H'):K9 K g H' D E:=
 ⟨λa b c d r s=>h.nx a b c d r (st.trans s),h.rt.step st,λa b c d r s=>h.bk a b c d r (st.trans s),λa b c d r s=>h.ct a b c d r (st.trans s)⟩
def DS(X:Cx)(st:Stmt)(h:DTS):Prop:=∃ t,PS X st t/\∀σ H g M D E,ZR X.K M H->Jy X.K M H σ g->h D g M->K9 X.K M H D E->t E σ H
def DSs(X:Cx)(st:List Stmt)(h:DTS):Prop:=∃ t,PSs X st t/\∀σ H g M D E,ZR X.K M H->Jy X.K M H σ g->h D g M->K9 X.K M H D E->t E σ H
section
variable{a b c:Expr}{ta tb tc:DTE}
def kA(i:Nat):DTE:=λg M h=>onV g[i]? λx=>h x M
def dC(d:PyData):DTE:=λ_ M g=>g (.dat d) M
theorem Zb(i:Nat){x:Str}{pos:Pos}(l:autoParam (X.N[i]?=some x) zz3._auto_1)(t:autoParam (Vis X.env.scope x) zz4._auto_1)(hd:autoParam ((x==("__debug__" :Str))=false) zz1._auto_1)
  (g:autoParam ((x==("__classdict__" :Str))=false) zz1._auto_1):DE X (.Name x pos) (kA i):=by
 refine⟨_,uh l t hd g,λσ H C M D Q r e h k=>?_⟩;obtain⟨x,z,h⟩:=(ni h);obtain⟨v,B,q⟩:=e.at' i x z;exact⟨v,B,k v H x M r Step.refl q h⟩
theorem X3(h:PE X e (tC v))(q:∀ M H,Dt X.K M H v d):DE X e (dC d):=
 ⟨_,h,λ_ H _ M _ _ r _ h k=>k v H (.dat d) M r Step.refl (q M H) h⟩
theorem Zc{i j pos}:DE X (.Constant (.int i) j pos) (dC (.int i)):=X3 sF λ_ _=>.int i
theorem Gi{b j pos}:DE X (.Constant (.bool b) j pos) (dC (.bool b)):=X3 uJ λ_ _=>.bl b
theorem W7{j pos}:DE X (.Constant .none j pos) (dC .none):=X3 xU λ_ _=>.non
theorem Zu{x j pos}:DE X (.Constant (.str x) j pos) (dC (.str x)):=X3 rV λ_ _=>.str x
end
end DL
open DL
variable{M M':Mp}{x:Str}{te:DTE}{Δ:DSt}{tc:DTT}{Φ:DK}{xs:List DV}
namespace DL
theorem QE.bool{b:Bool}(h:QE K M H v (.dat (.bool b))):v=.bl b:=by cases(show Dt K M H v (.bool b)from h);rfl
theorem QE.int{i:Int}(h:QE K M H v (.dat (.int i))):v=.int i:=by cases(show Dt K M H v (.int i)from h);rfl
theorem QE.str(h:QE K M H v (.dat (.str x))):v=.str x:=by cases(show Dt K M H v (.str x)from h);rfl
theorem QE.tup(h:QE K M H v (.dat (.tuple ds))):∃ a xs,v=.ref a/\TupAt K M H a xs/\Dts K M H xs ds:=by
 cases(show Dt K M H v (.tuple ds)from h)with
 |tup g l=>exact⟨_,_,rfl,g,l⟩
theorem QE.lst(h:QE K M H v (.dat (.list ds))):∃ a xs,v=.ref a/\LstAt K M H a xs/\Dts K M H xs ds:=by
 cases(show Dt K M H v (.list ds)from h)with
 |lst g l=>exact⟨_,_,rfl,g,l⟩
theorem Dt.GV{xs:List V}(r:ZR K M H)(g:H p=none)(h:Dts K M H xs ds):Dt K M (upd H p (.tup xs)) (.ref p) (.tuple ds):=
 .tup (.inl ⟨r.tracked g,.inl Z0⟩) (h.step (Step.new g))
theorem Dt.JG{xs:List V}(r:ZR K M H)(g:H p=none)(h:Dts K M H xs ds):Dt K M (upd H p (.lst xs)) (.ref p) (.list ds):=
 .lst (.inl ⟨r.tracked g,.inl Z0⟩) (h.step (Step.new g))
def Snd(K:Fk)(t:TE)(g:DTE):Prop:=∀ σ H Δ M Φ Q,ZR K M H->Jy K M H σ Δ->g Δ M Φ->Rch K M H Φ Q->t σ H Q
theorem Snd.bin{C D:TE}{l t:DTE}(E:Snd K C l)(G:Snd K D t){σ:L2.St}{S:DV->DV->Mp->Prop}{R:V->V->Hp->Prop}(r:ZR K M H)(e:Jy K M H σ Δ)
  (h:l Δ M λx M1=>t Δ M1 λy M2=>S x y M2)
  (k:∀ v u g x y M2,ZR K M2 g->Step M H M2 g->QE K M2 g v x->QE K M2 g u y->S x y M2->R v u g):C σ H λv B=>D σ B λu g=>R v u g:=
 E σ H Δ M _ _ r e h λv B x M1 I st J L=>G σ B Δ M1 _ _ I (e.step st) L λu g y M2 O z U Y=>k v u g x y M2 O (st.trans z) (J.step z) U Y
abbrev D2:=DV->DV->Mp->DK->Prop
def OpD(X:Cx)(f:Value->Value->Sem Value)(g:D2):Prop:=∃ r:R2,OpR X f r/\∀v u H x y M Φ Q,ZR X.K M H->QE X.K M H v x->QE X.K M H u y->g x y M Φ->Rch X.K M H Φ Q->r v u H Q
def dOp(g:D2)(h l:DTE):DTE:=λΔ M Φ=>h Δ M λx M1=>l Δ M1 λy M2=>g x y M2 Φ
section
variable{a b c:Expr}{ta tb tc:DTE}{op op':CmpOp}{δ δ':D2}
theorem Snd.opn{g l:TE}{r:R2}(t:Snd X.K g ta)(z:Snd X.K l tb)(q:∀ v u H x y M Φ Q,ZR X.K M H->QE X.K M H v x->QE X.K M H u y->δ x y M Φ->Rch X.K M H Φ Q->r v u H Q):Snd X.K (tOp r g l) (dOp δ ta tb):=
 λ_ _ _ _ _ _ B e h k=>Snd.bin t z B e h λv u C x y M2 D st E G I=>q v u C x y M2 _ _ D E G I (k.step st)
theorem Zr{g:Operator}(h:OpD X (binaryOp g) δ)(l:DE X a ta)(t:DE X b tb):DE X (.BinOp a g b pos) (dOp δ ta tb):=by
 obtain⟨z,B,C⟩:=l;obtain⟨D,E,G⟩:=t;obtain⟨r,I,q⟩:=h;exact⟨_,wX I B E,Snd.opn C G q⟩
theorem V4(g:OpD X (compareOp op) δ)(h:DE X a ta)(l:DE X b tb)(t:autoParam (behindInMarks op b=false) zz5._auto_1):DE X (.Compare a [op] [b] pos) (dOp δ ta tb):=by
 obtain⟨z,B,C⟩:=h;obtain⟨D,E,G⟩:=l;obtain⟨r,I,q⟩:=g;exact⟨_,vE I B E t,Snd.opn C G q⟩
def dB(t:DTE):DTT:=λΔ M Φ=>t Δ M λx M1=>onB x λc=>Φ c M1
theorem Snd.test{t:TE}{z:DTE}(h:Snd X.K t z){σ:L2.St}{Φ:Bool->Mp->Prop}{Q:Bool->Hp->Prop}(r:ZR X.K M H)(e:Jy X.K M H σ Δ)(B:dB z Δ M Φ)
  (k:∀ b H' M',ZR X.K M' H'->Step M H M' H'->Φ b M'->Q b H'):t σ H λx l=>∃ c,x=.bl c/\Q c l:=by
 refine h σ H Δ M _ _ r e B λv l x M1 C st D g=>?_;obtain⟨c,rfl,g⟩:=(S7 g);exact⟨c,D.bool,k c l M1 C st g⟩
theorem ZC(g:OpD X (compareOp op) δ)(l:DE X a ta)(t:DE X b tb)(z:autoParam (behindInMarks op b=false) zz5._auto_1):DT X (.Compare a [op] [b] pos) (dB (dOp δ ta tb)):=by
 obtain⟨B,C,D⟩:=l;obtain⟨E,G,I⟩:=t;obtain⟨r,J,q⟩:=g;exact⟨_,t8 J C G z,λ_ _ _ _ _ _ L e h k=>Snd.test (Snd.opn D I q) L e h k⟩
theorem Cr{l:DTE}(h:DE X e l)(r:autoParam (∀g,isTrue e X.env g=(do let v <-g;standAt e.pos;holding [v] (truthy v))) zz2._auto_1):DT X e (dB l):=by
 obtain⟨t,p,q⟩:=h;exact⟨_,xR p r,λ_ _ _ _ _ _ z e h k=>Snd.test q z e h k⟩
variable{tA tB':DTT}{rest:List Expr}
def nu(t u:DTT):DTT:=λΔ M Φ=>t Δ M λc M1=>if c=true then u Δ M1 Φ else Φ false M1
def dOr(t u:DTT):DTT:=λΔ M Φ=>t Δ M λc M1=>if c=true then Φ true M1 else u Δ M1 Φ
def kG(t:DTT):DTT:=λΔ M Φ=>t Δ M λc M1=>Φ (!c) M1
theorem DW.dt{g:DTT}(h:DW X e g):DT X e g:=by
 obtain⟨t,p,q⟩:=h;exact⟨t,p.pt,q⟩
theorem Ut(g:DT X a tA):DW X (.BoolOp .And [a] pos) tA:=by
 obtain⟨t,p,q⟩:=g;exact⟨t,vb p,q⟩
theorem N4(g:DT X a tA):DW X (.BoolOp .Or [a] pos) tA:=by
 obtain⟨t,p,q⟩:=g;exact⟨t,vm p,q⟩
theorem E4(D:DT X a tA)(g:DW X (.BoolOp .And (b::rest) pos) tB'):DW X (.BoolOp .And (a::b::rest) pos) (nu tA tB'):=by
 obtain⟨t,p,q⟩:=D;obtain⟨u,E,G⟩:=g;refine⟨_,xp p E,λσ H Δ M Φ Q r e h k=>?_⟩;refine q σ H Δ M _ _ r e h λc z M1 B st C=>?_;cases c with
 |true=>rw[aw rfl];exact G σ z Δ M1 Φ Q B (e.step st) (by simpa using C) λb I M2 J l g=>k b I M2 J (st.trans l) g
 |false=>rw[ao ae];exact k false z M1 B st (by simpa using C)
theorem jr(D:DT X a tA)(g:DW X (.BoolOp .Or (b::rest) pos) tB'):DW X (.BoolOp .Or (a::b::rest) pos) (dOr tA tB'):=by
 obtain⟨t,p,q⟩:=D;obtain⟨u,E,G⟩:=g;refine⟨_,yF p E,λσ H Δ M Φ Q r e h k=>?_⟩;refine q σ H Δ M _ _ r e h λc z M1 B st C=>?_;cases c with
 |false=>rw[ao ae];exact G σ z Δ M1 Φ Q B (e.step st) (by simpa using C) λb I M2 J l g=>k b I M2 J (st.trans l) g
 |true=>rw[aw rfl];exact k true z M1 B st (by simpa using C)
theorem lZ(g:DT X a tA):DT X (.UnaryOp .Not a pos) (kG tA):=by
 obtain⟨t,p,q⟩:=g;exact⟨_,uS p,λσ H Δ M Φ Q r e h k=>q σ H Δ M _ _ r e h λc l M1 z st B=>k _ l M1 z st B⟩
def lE(ta tb:DTE):DTE:=λΔ M Φ=>ta Δ M λx M1=>onB x λc=>if c=true then tb Δ M1 Φ else Φ (.dat (.bool false)) M1
def pL(ta tb:DTE):DTE:=λΔ M Φ=>ta Δ M λx M1=>onB x λc=>if c=true then Φ (.dat (.bool true)) M1 else tb Δ M1 Φ
theorem WB{g}(h:DE X a ta):DE X (.BoolOp g [a] pos) ta:=by
 obtain⟨t,p,q⟩:=h;exact⟨t,yx p,q⟩
theorem E3(z:DE X a ta)(B:DE X (.BoolOp .And (b::rest) pos) tb):DE X (.BoolOp .And (a::b::rest) pos) (lE ta tb):=by
 obtain⟨t,p,q⟩:=z;obtain⟨u,C,D⟩:=B;refine⟨_,yM p C,λσ H Δ M Φ Q r e h k=>?_⟩;refine q σ H Δ M _ _ r e h λv E x M1 l st G g=>?_;obtain⟨c,rfl,g⟩:=(S7 g);refine⟨c,G.bool,?_⟩;cases c with
 |true=>rw[aw rfl];exact D σ E Δ M1 Φ Q l (e.step st) (by simpa using g) (k.step st)
 |false=>rw[ao ae];exact k.dat l st (Dt.bl false) (by simpa using g)
theorem pE(z:DE X a ta)(B:DE X (.BoolOp .Or (b::rest) pos) tb):DE X (.BoolOp .Or (a::b::rest) pos) (pL ta tb):=by
 obtain⟨t,p,q⟩:=z;obtain⟨u,C,D⟩:=B;refine⟨_,xE p C,λσ H Δ M Φ Q r e h k=>?_⟩;refine q σ H Δ M _ _ r e h λv E x M1 l st G g=>?_;obtain⟨c,rfl,g⟩:=(S7 g);refine⟨c,G.bool,?_⟩;cases c with
 |false=>rw[ao ae];exact D σ E Δ M1 Φ Q l (e.step st) (by simpa using g) (k.step st)
 |true=>rw[aw rfl];exact k.dat l st (Dt.bl true) (by simpa using g)
def pV(g:Int->Int)(ta:DTE):DTE:=λΔ M Φ=>ta Δ M λx M1=>onI x λi=>Φ (.dat (.int (g i))) M1
theorem t6(l:DE X a ta):DE X (.UnaryOp .USub a pos) (pV (λi=>-i) ta):=by
 obtain⟨t,p,q⟩:=l;refine⟨_,yr wj p,λσ H Δ M Φ Q r e h k=>?_⟩;refine q σ H Δ M _ _ r e h λv C x M1 z st B g=>?_;obtain⟨i,rfl,g⟩:=(ZJ g);exact⟨i,B.int,k.dat z st (Dt.int (-i)) g⟩
def δI(C:Int->Int->Prop)(g:Int->Int->PyData):D2:=λx y M Φ=>onI x λi=>onI y λj=>C i j/\Φ (.dat (g i j)) M
def δI0(g:Int->Int->PyData):D2:=λx y M Φ=>onI x λi=>onI y λj=>Φ (.dat (g i j)) M
theorem iu{f:Value->Value->Sem Value}{C:Int->Int->Prop}{g:Int->Int->Int}(h:OpR X f (rI C λi j=>.int (g i j))):OpD X f (δI C λi j=>.int (g i j)):=
 ⟨_,h,λv u H x y M Φ Q r l t h k=>by
  obtain⟨i,z,h⟩:=(ZJ h);obtain⟨j,B,D,q⟩:=(ZJ h);subst z B
  exact⟨i,j,l.int,t.int,D,k.dat r Step.refl (Dt.int _) q⟩⟩
theorem oB{f:Value->Value->Sem Value}{g:Int->Int->Int}(h:OpR X f (rI0 λi j=>.int (g i j))):OpD X f (δI0 λi j=>.int (g i j)):=
 ⟨_,h,λv u H x y M Φ Q r l t h k=>by
  obtain⟨i,z,h⟩:=(ZJ h);obtain⟨j,B,q⟩:=(ZJ h);subst z B
  exact⟨i,j,l.int,t.int,k.dat r Step.refl (Dt.int _) q⟩⟩
theorem iE{f:Value->Value->Sem Value}{g:Int->Int->Bool}(h:OpR X f (rI0 λi j=>.bl (g i j))):OpD X f (δI0 λi j=>.bool (g i j)):=
 ⟨_,h,λv u H x y M Φ Q r l t h k=>by
  obtain⟨i,z,h⟩:=(ZJ h);obtain⟨j,B,q⟩:=(ZJ h);subst z B
  exact⟨i,j,l.int,t.int,k.dat r Step.refl (Dt.bl _) q⟩⟩
theorem ZV:OpD X (binaryOp .Add) (δI0 λi j=>.int (i+j)):=oB yb
theorem Qy:OpD X (binaryOp .Sub) (δI0 λi j=>.int (i-j)):=oB yu
theorem JR:OpD X (binaryOp .Mult) (δI iX λi j=>.int (i*j)):=iu yd
theorem RT:OpD X (binaryOp .FloorDiv) (δI pW λi j=>.int (i/j)):=iu xK
theorem YU:OpD X (binaryOp .Mod) (δI (λ_ j=>0<j) λi j=>.int (i %j)):=iu sx
theorem Wk:OpD X (binaryOp .Pow) (δI jK λi j=>.int (i^j.toNat)):=iu v7
theorem jT:OpD X (compareOp .Lt) (δI0 λi j=>.bool (decide (i<j))):=iE xN
theorem jO:OpD X (compareOp .LtE) (δI0 λi j=>.bool (decide (i<=j))):=iE tD
theorem DR:OpD X (compareOp .Gt) (δI0 λi j=>.bool (decide (j<i))):=iE qO
theorem mH:OpD X (compareOp .GtE) (δI0 λi j=>.bool (decide (j<=i))):=iE xP
theorem Fi:OpR X (binaryOp .Add) (λx y H Q=>∃ l b xs B,x=.ref l/\y=.ref b/\SqL X.K H l xs/\SqL X.K H b B/\xs.length+B.length<=sizeLine/\∀p,H p=none->Q (.ref p) (upd H p (.lst (xs++B)))):=by
 intro pins s σ H x y v u Q I rx ry h;obtain⟨l,b,xs,B,rfl,rfl,hl,hb,G,q⟩:=h;cases rx;cases ry;obtain⟨its,J,p1,_⟩:=I.list hl;obtain⟨g,L,p2,_⟩:=I.list hb;obtain⟨⟨a1,dd,O,sl⟩,U,Y,n,hd⟩:=p1.isList;obtain⟨⟨a0,C,data2,D⟩,r,t,n2,z⟩:=p2.isList;simp only at Y hd t z;subst Y hd t z;have e:its.toArray++g.toArray=(its++g).toArray:=by simp
 have E:its.toArray.size+g.toArray.size<=sizeLine:=by rw[aQ,aQ,<-J.length,<-L.length];exact G
 refine concat_meets ⟨_,U,rfl⟩ ⟨_,r,rfl⟩ noFill_list_add seq_list_add PySem.F.slot_list_add PySem.F.entry_list_add (PySem.F.args_list_add_2 _ _) (list_addW l b its.toArray g.toArray n n2 dd C sl D E) ⟨U,r,?_⟩;rw[e];exact⟨.ref _,_,I.vH (t':=s.toks) (J.append L) (by rw[aB];exact G),rfl,q _ I.fresh⟩
end
def pR:DTA:=λ_ M Φ=>Φ [] M
def lC(g:DTE)(h:DTA):DTA:=λΔ M Φ=>g Δ M λx M1=>h Δ M1 λxs M2=>Φ (x::xs) M2
section
variable{es:List Expr}{t:DTA}
theorem Ze:DA X [] pR:=⟨_,WN,λ_ H _ M _ _ r _ h k=>k [] H [] M r Step.refl .nil h⟩
theorem Za(B:DE X e te)(C:DA X es t)(D:autoParam (starEach (e::es) X.env=(false,eval e X.env)::starEach es X.env) zz3._auto_1):DA X (e::es) (lC te t):=by
 obtain⟨u,p,q⟩:=B;obtain⟨w,E,G⟩:=C;refine⟨_,Yy p E D,λσ H Δ M Φ Q r e h k=>?_⟩;refine q σ H Δ M _ _ r e h λv I x M1 J st L O=>?_;exact G σ I Δ M1 _ _ J (e.step st) O λvs U xs M2 Y g l z=>k (v::vs) U (x::xs) M2 Y (st.trans g) (.cons (L.step g) l) z
def oz(t:DTA):DTE:=λΔ M Φ=>t Δ M λxs M1=>Wx xs λds=>Φ (.dat (.tuple ds)) M1
def iZ(t:DTA):DTE:=λΔ M Φ=>t Δ M λxs M1=>Wx xs λds=>Φ (.dat (.list ds)) M1
def ot(t:DTA):DTE:=λΔ M Φ=>t Δ M λxs M1=>Wx xs λds=>∀ p,M1 p=none->Φ (.own p) (Zs M1 p (.lst ds))
theorem Zw{B}(h:DA X es t):DE X (.Tuple es B pos) (oz t):=by
 obtain⟨u,p,q⟩:=h;refine⟨_,kL p,λσ H Δ M Φ Q r e h k=>?_⟩;refine q σ H Δ M _ _ r e h λvs G xs M1 z st C g=>?_;obtain⟨ds,rfl,D,g⟩:=(D8 g);have E:ds.length<=sizeLine:=by rw[bL];lia
 have hd:=C.je;refine⟨by rw[hd.length];exact E,λp l=>?_⟩;exact k.dat (z.new l) (st.trans (Step.new l)) (Dt.GV z l hd) g
theorem QU(h:DA X es t):DE X (.List es pos) (iZ t):=by
 obtain⟨u,p,q⟩:=h;refine⟨_,n_ p,λσ H Δ M Φ Q r e h k=>?_⟩;refine q σ H Δ M _ _ r e h λvs E xs M1 z st B g=>?_;obtain⟨ds,rfl,C,g⟩:=(D8 g);have D:ds.length<=sizeLine:=by rw[bL];lia
 have hd:=B.je;refine⟨by rw[hd.length];exact D,λp l=>?_⟩;exact k.dat (z.new l) (st.trans (Step.new l)) (Dt.JG z l hd) g
theorem Qi(h:DA X es t):DE X (.List es pos) (ot t):=by
 obtain⟨u,p,q⟩:=h;refine⟨_,n_ p,λσ H Δ M Φ Q r e h k=>?_⟩;refine q σ H Δ M _ _ r e h λvs E xs M1 z st B g=>?_;obtain⟨ds,rfl,C,g⟩:=(D8 g);have D:ds.length<=sizeLine:=by rw[bL];lia
 have hd:=B.je;refine⟨by rw[hd.length];exact D,λp l=>?_⟩;exact k _ _ (.own p) _ (z.XM (Step.Qp l) hd) (st.trans (Step.Qp l)) rfl (g p (z.tracked l))
def nS(t:DTE):DTE:=λΔ M Φ=>t Δ M λx M1=>onO x λl=>Vi (M1 l) λds=>Φ (.dat (.list ds)) (Q4 M1 l)
theorem Q9(h:DE X e te):DE X e (nS te):=by
 obtain⟨u,p,q⟩:=h;refine⟨u,p,λσ H Δ M Φ Q r e h k=>?_⟩;refine q σ H Δ M _ _ r e h λv G x M1 z st B g=>?_;obtain⟨l,rfl,g⟩:=(ZM g);obtain⟨ds,C,g⟩:=(Jd g);obtain⟨vs,D,E⟩:=z.ls l ds C;cases(show v=.ref l from B);exact k.dat z.frz (st.trans Step.frz) (Dt.lst (.inl ⟨Jb,.inl D⟩) (E.step Step.frz)) g
def Lc:List PyData->Nat->(PyData->Prop)->Prop
 |[],_,_=>False
 |d::_,0,P=>P d
 |_::r,n+1,P=>Lc r n P
def Cz(ds:List PyData)(i:Int)(P:PyData->Prop):Prop:=match i with
 |Int.ofNat n=>Lc ds n P
 |Int.negSucc n=>Lc ds.reverse n P
theorem Ga:∀{ds:List PyData}{n:Nat}{P:PyData->Prop},Lc ds n P->∃ d,ds[n]?=some d/\P d
 |[],_,_,h=>h.elim
 |d::_,0,_,h=>⟨d,rfl,h⟩
 |_::r,n+1,_,h=>by
  obtain⟨d,e,g⟩:=Ga (ds:=r) (n:=n) h;exact⟨d,by rw[dI];exact e,g⟩
theorem U8:∀{ds:List PyData}{n:Nat}{P:PyData->Prop}{d:PyData},ds[n]?=some d->P d->Lc ds n P
 |[],_,_,_,e,_=>by simp at e
 |d::_,0,_,_,e,h=>by simp at e;subst e;exact h
 |_::r,n+1,_,_,e,h=>U8 (ds:=r) (n:=n) (by rw[dI]at e;exact e) h
set_option tactic.hygienic true in
theorem w4{i:Int}{P:PyData->Prop}(h:Cz ds i P):∃ d,atI ds i=some d/\P d:=by
 unfold Cz at h
 split at h
 ·rename_i n;obtain⟨d,e,g⟩:=(Ga h);exact⟨d,J5 e,g⟩
 ·rename_i n;obtain⟨d,e,g⟩:=(Ga h);refine⟨d,?_,g⟩;have l:=(aE.mp e).1;rw[List.length_reverse]at l;rw[List.getElem?_reverse l]at e;unfold L2.atI ixN;have r:¬ (0<=Int.negSucc n):=by lia
  rw[ao r];have z:-(ds.length:Int)<=Int.negSucc n:=by lia
  rw[aw z];have B:(Int.negSucc n+(ds.length:Int)).toNat=ds.length-1-n:=by lia
  simp only[B];exact e
theorem J7{i:Int}{P:PyData->Prop}(e:atI ds i=some d)(h:P d):Cz ds i P:=by
 unfold L2.atI at e;cases i with
 | ofNat n=>
  have l:ixN ds.length (Int.ofNat n)=if n<ds.length then some n else none:=by
   unfold ixN;rw[aw (show(0:Int)<=Int.ofNat n from Int.natCast_nonneg n)]
   by_cases g:n<ds.length
   ·rw[aw g,aw (show Int.ofNat n<_ by show((n:Nat):Int)<_;lia)];rfl
   ·rw[ao g,ao (show ¬Int.ofNat n<_ by show ¬((n:Nat):Int)<_;lia)]
  rw[l]at e
  split at e
  ·exact U8 (by exact e) h
  ·cases e
 | negSucc n=>
  unfold ixN at e;rw[ao (by lia)]at e
  by_cases g:-(ds.length:Int)<=Int.negSucc n
  ·rw[aw g]at e;have r:(Int.negSucc n+(ds.length:Int)).toNat=ds.length-1-n:=by lia
   simp only[r]at e;refine U8 (d:=d) ?_ h;rw[List.getElem?_reverse (by lia)];exact e
  ·rw[ao g]at e;cases e
def δIx:D2:=λx y M Φ=>onQ x M λds=>onI y λi=>Cz ds i λd=>Φ (.dat d) M
theorem Dts.atI{i:Int}(h:Dts K M H vs ds)(e:L2.atI ds i=some d):∃ v,L2.atI vs i=some v/\Dt K M H v d:=by
 unfold L2.atI at e⊢;rw[h.length];cases q:ixN ds.length i with
 |none=>rw[q]at e;cases e
 |some j=>
  rw[q]at e;exact h.get e
theorem Zh{a b:Expr}{G I:DTE}(J:DE X a G)(L:DE X b I)(O:autoParam (Gh b) zz6._auto_1):DE X (.Subscript a b pos) (dOp δIx G I):=by
 obtain⟨U,Y,qa⟩:=J;obtain⟨a0,pb,qb⟩:=L;refine⟨_,jw mz Y pb O,Snd.opn qa qb λv u H x y M Φ Q r C ru h k=>?_⟩;obtain⟨ds,hx,h⟩:=(Fb h);obtain⟨i,rfl,h⟩:=(ZJ h);obtain⟨d,hd,q⟩:=(w4 h);cases ru.int
 rcases hx with rfl|rfl|⟨l,rfl,hm⟩
 ·obtain⟨p,xs,rfl,D,E⟩:=C.tup;obtain⟨g,z,B⟩:=E.atI hd;exact .inr (.inl ⟨p,xs,i,g,rfl,rfl,D.sq,z,k.dat r Step.refl B q⟩)
 ·obtain⟨p,xs,rfl,D,E⟩:=C.lst;obtain⟨g,z,B⟩:=E.atI hd;exact .inl ⟨p,xs,i,g,rfl,rfl,D.sq,z,k.dat r Step.refl B q⟩
 ·cases(show v=.ref l from C);obtain⟨vs,g1,g2⟩:=r.ls l ds hm;obtain⟨g,z,B⟩:=g2.atI hd;exact .inl ⟨l,vs,i,g,rfl,rfl,SqL.of g1,z,k.dat r Step.refl B q⟩
end
abbrev D1:=List DV->Mp->DK->Prop
def J6(X:Cx)(f:Value)(g:D1):Prop:=∃ r,JA X f r/\∀vs H xs M Φ Q,ZR X.K M H->JQ X.K M H vs xs->g xs M Φ->Rch X.K M H Φ Q->r vs H Q
def dCB(g:D1)(t:DTA):DTE:=λΔ M Φ=>t Δ M λxs M1=>g xs M1 Φ
section
variable{es:List Expr}{t:DTA}{p:Pos}{id:String}{δ:D1}
theorem ZD(z:J6 X (.builtin id) δ)(B:Gl X x)(C:X.mg x=none)(D:bootBuiltins x=some (.builtin id))(E:DA X (e::es) t)(G:autoParam (x≠"__name__") zz1._auto_1)(g:autoParam ((x==("__debug__" :Str))=false) zz1._auto_1)
  (I:autoParam (starEach (e::es) X.env=(false,eval e X.env)::starEach es X.env) zz3._auto_1) (l:autoParam ((backTo pos (starEach es X.env)).any (·.1)=false) zz3._auto_1):DE X (.Call (.Name x p) (e::es) [] pos) (dCB δ t):=by
 obtain⟨u,p,q⟩:=E;obtain⟨r,J,L⟩:=z;refine⟨_,Tr J B C D p G g I l,λσ H Δ M Φ Q r e h k=>?_⟩;exact q σ H Δ M _ _ r e h λvs O xs M1 U st Y hx=>L vs O xs M1 _ _ U Y hx (k.step st)
theorem Qd(z:J6 X (.type id) δ)(B:Gl X x)(C:X.mg x=none)(D:bootBuiltins x=some (.type id))(E:DA X (e::es) t)(G:autoParam (x≠"__name__") zz1._auto_1)(g:autoParam ((x==("__debug__" :Str))=false) zz1._auto_1)
  (I:autoParam (starEach (e::es) X.env=(false,eval e X.env)::starEach es X.env) zz3._auto_1) (l:autoParam ((backTo pos (starEach es X.env)).any (·.1)=false) zz3._auto_1):DE X (.Call (.Name x p) (e::es) [] pos) (dCB δ t):=by
 obtain⟨u,p,q⟩:=E;obtain⟨r,J,L⟩:=z;refine⟨_,RA J B C D p G g I l,λσ H Δ M Φ Q r e h k=>?_⟩;exact q σ H Δ M _ _ r e h λvs O xs M1 U st Y hx=>L vs O xs M1 _ _ U Y hx (k.step st)
theorem Paired.one{g r:Type}{F:g->r->Prop}{l:List g}{b:r}(h:Paired F l [b]):∃ a,l=[a]/\F a b:=by
 cases h with
 |cons z B=>cases B;exact⟨_,rfl,z⟩
theorem Paired.two{g r:Type}{F:g->r->Prop}{l:List g}{b c:r}(h:Paired F l [b,c]):∃ a z,l=[a,z]/\F a b/\F z c:=by
 cases h with
 |cons B C=>
  obtain⟨a,rfl,D⟩:=Paired.one C;exact⟨_,a,rfl,B,D⟩
def kH:D1:=λxs M Φ=>on1 xs λx=>onQ x M λds=>Φ (.dat (.int ds.length)) M
theorem JD:J6 X (.builtin "len") kH:=by
 refine⟨_,GQ,λvs H xs M Φ Q r D h k=>?_⟩;obtain⟨x,rfl,h⟩:=(ZP h);obtain⟨ds,G,q⟩:=(Fb h);have g:Q (.int ds.length) H:=k.dat r Step.refl (Dt.int _) q
 rcases G with rfl|rfl|⟨l,rfl,I⟩
 ·obtain⟨v,rfl,z⟩:=Paired.one D;obtain⟨p,E,rfl,B,C⟩:=QE.tup z;exact⟨p,E,rfl,.inr B.sq,by rw[C.length];exact g⟩
 ·obtain⟨v,rfl,z⟩:=Paired.one D;obtain⟨p,E,rfl,B,C⟩:=QE.lst z;exact⟨p,E,rfl,.inl B.sq,by rw[C.length];exact g⟩
 ·obtain⟨v,rfl,z⟩:=Paired.one D;cases(show v=.ref l from z);obtain⟨J,B,C⟩:=r.ls l ds I;exact⟨l,J,rfl,.inl (SqL.of B),by rw[C.length];exact g⟩
def pr:D1:=λxs M Φ=>on1 xs λx=>onI x λi=>Φ (.dat (.int (if i<0 then-i else i))) M
theorem nR:J6 X (.builtin "abs") pr:=by
 refine⟨_,wr,λvs H xs M Φ Q r g h k=>?_⟩;obtain⟨x,rfl,h⟩:=(ZP h);obtain⟨i,rfl,q⟩:=(ZJ h);obtain⟨v,rfl,l⟩:=Paired.one g;exact⟨i,by rw[QE.int l],k.dat r Step.refl (Dt.int _) q⟩
def δ2I(g:Int->Int->Int):D1:=λxs M Φ=>on2 xs λx y=>onI x λi=>onI y λj=>Φ (.dat (.int (g i j))) M
theorem Dw(g:X.calm=true):J6 X (.builtin "max") (δ2I λi j=>max i j):=by
 refine⟨_,Np g,λvs H xs M Φ Q r l h k=>?_⟩;obtain⟨x,y,rfl,h⟩:=(Zz h);obtain⟨i,rfl,h⟩:=(ZJ h);obtain⟨j,rfl,q⟩:=(ZJ h);obtain⟨v,u,rfl,z,B⟩:=Paired.two l;have e:(if j>i then j else i)=max i j:=by rw[Int.max_def];split<;>split<;>lia
 exact⟨i,j,by rw[QE.int z,QE.int B],by rw[e];exact k.dat r Step.refl (Dt.int _) q⟩
theorem SA(g:X.calm=true):J6 X (.builtin "min") (δ2I λi j=>min i j):=by
 refine⟨_,S4 g,λvs H xs M Φ Q r l h k=>?_⟩;obtain⟨x,y,rfl,h⟩:=(Zz h);obtain⟨i,rfl,h⟩:=(ZJ h);obtain⟨j,rfl,q⟩:=(ZJ h);obtain⟨v,u,rfl,z,B⟩:=Paired.two l;have e:(if j<i then j else i)=min i j:=by rw[Int.min_def];split<;>split<;>lia
 exact⟨i,j,by rw[QE.int z,QE.int B],by rw[e];exact k.dat r Step.refl (Dt.int _) q⟩
def HA:D1:=λxs M Φ=>on1 xs λx=>onQ x M λds=>Φ (.dat (.list ds)) M
theorem OT:J6 X (.type "list") HA:=by
 refine⟨_,Ce,λvs H xs M Φ Q r D h k=>?_⟩;obtain⟨x,rfl,h⟩:=(ZP h);obtain⟨ds,I,q⟩:=(Fb h)
 rcases I with rfl|rfl|⟨E,rfl,J⟩
 ·obtain⟨v,rfl,z⟩:=Paired.one D;obtain⟨p,G,rfl,B,C⟩:=QE.tup z;exact⟨p,G,rfl,.inr B.sq,λl g=>k.dat (r.new g) (Step.new g) (Dt.JG r g C) q⟩
 ·obtain⟨v,rfl,z⟩:=Paired.one D;obtain⟨p,G,rfl,B,C⟩:=QE.lst z;exact⟨p,G,rfl,.inl B.sq,λl g=>k.dat (r.new g) (Step.new g) (Dt.JG r g C) q⟩
 ·obtain⟨v,rfl,z⟩:=Paired.one D;cases(show v=.ref E from z);obtain⟨L,B,C⟩:=r.ls E ds J;exact⟨E,L,rfl,.inl (SqL.of B),λl g=>k.dat (r.new g) (Step.new g) (Dt.JG r g C) q⟩
end
mutual
noncomputable def Ja:PyData->Bool
 | .none| .bool _| .int _| .str _=>false
 | .list _=>true
 | .tuple xs=>Qf xs
 | .dict kvs=>VJ kvs
noncomputable def Qf:List PyData->Bool
 |[]=>false
 |x::xs=>Ja x||Qf xs
noncomputable def VJ:List (PyData×PyData)->Bool
 |[]=>false
 |(k,v)::r=>Ja k||Ja v||VJ r
end
theorem Vu:∀(ks ds:List PyData),ks.length=ds.length->VJ (ks.zip ds)=false->Qf ds=false
 |[],[],_,_=>by simp[Qf]
 |k::ks,d::ds,h,e=>by
  rw[cz,VJ]at e;have g:(Ja k=false/\Ja d=false)/\VJ (ks.zip ds)=false:=by simpa using e
  rw[Qf,g.1.2,Vu ks ds (by simpa using h) g.2];rfl
 |[],_::_,h,_=>by simp at h
 |_::_,[],h,_=>by simp at h
section
variable{σ:L2.St}
theorem Ng{h:Heap}{z:List DictEntry}{kvs:List (Key×Value)}(q:Pairs (Zx P w) z kvs):ReadsAll h (z.map (·.key)) (kvs.map λg=>kD g.1) []:=by
 induction q with
 |nil=>exact .nil
 | @cons e g _ _ B _ _ C=>
  rw[ai,ai];have D:Reads h e.key (kD g.1) []:=by
   rcases Qb (k:=g.1) (v:=e.key) B with⟨i,t,l,r⟩|⟨x,t,l,r⟩
   ·rw[l,r];exact .int i t
   ·rw[l,r];exact .str x t
  exact .cons (as:=[]) (bs:=[]) D C
theorem W0:∀{g:List DictEntry}{kvs:List (Key×Value)},Pairs (Zx P w) g kvs->g.map (·.val)=kvs.map (·.2)
 |_,_,.nil=>rfl
 |_,_,.cons r h l=>by rw[ai,ai,h,W0 l]
theorem KV.vals{vs:List (Key×Value)}(r:KV kvs vs):Vals (kvs.map (·.2)) (vs.map (·.2))/\(kvs.map λg=>kD g.1)=vs.map λg=>kD g.1:=by
 unfold KV at r
 induction r with
 |nil=>exact⟨.nil,rfl⟩
 |cons h _ l=>exact⟨.cons h.2 l.1,by rw[ai,ai,h.1,l.2]⟩
theorem Ss{h:Heap}:∀{ks:List Key}{us:List Value},Vals (ks.map kV) us->ReadsAll h us (ks.map kD) []
 |[],_,r=>by rw[cw]at r;cases r;exact .nil
 | k::ks,_,r=>by
  rw[ai]at r;cases r with
  |cons g l=>
   rw[ai];refine .cons (as:=[]) (bs:=[]) ?_ (Ss l);cases k with
   |inl i=>obtain⟨t,rfl⟩:=g;exact .int i t
   |inr x=>obtain⟨t,rfl⟩:=g;exact .str x t
theorem KT.read(I:Inv X pins σ H s){kvs:List (List Key×V)}{xs:List (List Key×Addr×Value)}(r:KT H kvs xs):
  ReadsAll s.heap (xs.map λx=>Value.ref x.2.1) (kvs.map λl=>PyData.tuple (l.1.map kD)) []/\Vals (kvs.map (·.2)) (xs.map λx=>x.2.2):=by
 induction r with
 |nil=>exact⟨.nil,.nil⟩
 | @cons p q ps B h _ g=>
  obtain⟨its,r,⟨o,t,z,n,hd⟩,_⟩:=I.tuple (SqT.of (K:=X.K) h.2.1);rw[ai,ai,ai,ai];exact⟨.cons (as:=[]) (bs:=[]) (.tuple t z hd (by simpa using Ss r)) g.1,.cons h.2.2 g.2⟩
theorem Dts.reads(I:Inv X pins σ H s)(h:Dts X.K M H vs ds):∀{us:List Value},Vals vs us->∃ as,ReadsAll s.heap us ds as/\(Qf ds=false->sysModules∉as):=
 Dts.rec (motive_1:=λv d _=>∀{u:Value},RelV v u->∃ as,Reads s.heap u d as/\(Ja d=false->sysModules∉as))
  (motive_2:=λvs ds _=>∀{us:List Value},Vals vs us->∃ as,ReadsAll s.heap us ds as/\(Qf ds=false->sysModules∉as))
  (λ{u} r=>by cases r;exact⟨[],.none,λ_ h=>nomatch h⟩)
  (λb {u} r=>by cases r;exact⟨[],.bool b,λ_ h=>nomatch h⟩)
  (λi {u} r=>by obtain⟨t,rfl⟩:=r;exact⟨[],.int i t,λ_ h=>nomatch h⟩)
  (λx {u} r=>by obtain⟨t,rfl⟩:=r;exact⟨[],.str x t,λ_ h=>nomatch h⟩)
  (λ{a xs ds} z U i {u} r=>by
   cases r;obtain⟨its,D,⟨o,B,C,n,hd⟩,_⟩:=I.tuple z.sq;obtain⟨as,E,Y⟩:=i D
   exact⟨as,.tuple B C hd (by simpa using E),λh=>Y (by simpa[Ja]using h)⟩)
  (λ{a xs ds} z U i {u} r=>by
   cases r;obtain⟨its,D,⟨o,n,B,C,_,hd⟩,_⟩:=I.list z.sq;obtain⟨as,E,Y⟩:=i D
   exact⟨_,.list B C hd (by simpa using E),λh=>by simp[Ja]at h⟩)
  (λ{a kvs ds} h0 z U i {u} r=>by
   cases r;obtain⟨_,g,vs,G,o,es,ep,B,C,hd,_,hp,_⟩:=(show Qc X.prog X.w H s.heap a (.dK kvs)from I.hok a _ z)
   obtain⟨D,hk⟩:=KV.vals G;obtain⟨J,L,Y⟩:=i D;have O:(kvs.map λkv=>kD kv.1).length=ds.length:=by rw[aa,<-U.length,aa]
   refine⟨a::[]++J,.dict (as:=[]) B C.1 hd ?_ ?_,λh=>?_⟩
   ·rw[List.map_fst_zip (dR O),hk];exact Ng hp
   ·rw[gZ (dR O.symm),W0 hp];exact L
   ·have h':Qf ds=false:=Vu _ _ O (by rw[Ja]at h;exact h);intro l
    rcases aW.mp l with e|l
    ·rw[<-e]at g;simp at g
    ·exact Y h' l)
  (λ{a kvs ds} h0 z U _ i {u} r=>by
   cases r;obtain⟨_,g,xs,G,o,es,ep,B,C,hd,he,_⟩:=(show Qc X.prog X.w H s.heap a (.dT kvs)from I.hok a _ z)
   obtain⟨rk,D⟩:=KT.read I G;obtain⟨J,L,Y⟩:=i D;have O:(kvs.map λkv=>PyData.tuple (kv.1.map kD)).length=ds.length:=by rw[aa,<-U.length,aa]
   refine⟨a::[]++J,.dict (as:=[]) B C.1 hd ?_ ?_,λh=>?_⟩
   ·rw[List.map_fst_zip (dR O),he,aC];exact rk
   ·rw[gZ (dR O.symm),he,aC];exact L
   ·have h':Qf ds=false:=Vu _ _ O (by rw[Ja]at h;exact h);intro l
    rcases aW.mp l with e|l
    ·rw[<-e]at g;simp at g
    ·exact Y h' l)
  (λ{a b φ v dk d} h0 z g h3 h4 h5 i j {u} r=>by
   cases r;obtain⟨a0,_⟩:=(show Qc X.prog X.w H s.heap a (.ext _)from I.hok a _ z)
   obtain⟨o,es,n,u,B,C,hd,ek,ev,ru⟩:=h3 s.heap a0;obtain⟨as,E,ha⟩:=i (u:=.ref _) rfl;obtain⟨J,L,hb⟩:=j ru;refine⟨a::(as++[])++(J++[]),.dict B C hd ?_ ?_,λh=>?_⟩
   ·rw[ek];exact .cons E .nil
   ·rw[ev];exact .cons L .nil
   ·have h':Ja dk=false/\Ja d=false:=by simpa[Ja,VJ]using h
    intro l;rw[aU,aU,g7]at l
    rcases aW.mp l with e|l
    ·rw[<-e]at g;simp at g
    ·rcases ax.mp l with l|l
     ·exact ha h'.1 l
     ·exact hb h'.2 l)
  (λ{us} r=>by cases r;exact⟨[],.nil,λ_ h=>nomatch h⟩)
  (λ{x xs d ds} z U i j {us} r=>by
   cases r with
   |cons r1 r2=>
    obtain⟨as,E,ha⟩:=i r1;obtain⟨J,L,hb⟩:=j r2;refine⟨as++J,.cons E L,λh l=>?_⟩;have h':Ja d=false/\Qf ds=false:=by simpa[Qf]using h
    rcases ax.mp l with l|l
    ·exact ha h'.1 l
    ·exact hb h'.2 l) h
theorem Dt.reads(I:Inv X pins σ H s)(h:Dt X.K M H v d)(r:RelV v u):∃ as,Reads s.heap u d as/\(Ja d=false->sysModules∉as):=by
 obtain⟨as,g,l⟩:=Dts.reads I (.cons h .nil) (.cons r .nil);cases g with
 |cons t z=>
  cases z;exact⟨_,t,λB C=>l (by rw[Qf,Qf,B];rfl) (bh _ C)⟩
end
noncomputable def tyN:PyData->String
 | .none=>"NoneType"
 | .bool _=>"bool"
 | .int _=>"int"
 | .str _=>"str"
 | .list _=>"list"
 | .tuple _=>"tuple"
 | .dict _=>"dict"
noncomputable def ZY(T:String)(d:PyData):Bool:=tyN d==T||(T=="int"&&tyN d=="bool")
def Zob(T:String):D1:=λxs M Φ=>match xs with|[.dat d,.ty t]=>t=T/\Φ (.dat (.bool (ZY T d))) M|_=>False
theorem qS(G:X.A.units+64<cLine):OpR X (compareOp .Eq) (λx y H Q=>∃ M d e,Dt X.K M H x d/\Dt X.K M H y e/\d.canLay0=true/\e.canLay0=true/\min d.depth e.depth<=64/\Q (.bl (PyData.eqv d e)) H):=by
 intro pins s σ H x y v u Q I g l h;obtain⟨M,d,e,r,t,z,B,C,q⟩:=h;obtain⟨J,D,_⟩:=r.reads I g;obtain⟨L,E,_⟩:=t.reads I l;exact PySem.SeqAt.compareEq_reads D E z B (by lia) ⟨.bl _,H,I,rfl,q⟩
theorem sf(G:X.A.units+64<cLine):OpR X (compareOp .NotEq) (λx y H Q=>∃ M d e,Dt X.K M H x d/\Dt X.K M H y e/\d.canLay0=true/\e.canLay0=true/\min d.depth e.depth<=64/\Q (.bl (!PyData.eqv d e)) H):=by
 intro pins s σ H x y v u Q I g l h;obtain⟨M,d,e,r,t,z,B,C,q⟩:=h;obtain⟨J,D,_⟩:=r.reads I g;obtain⟨L,E,_⟩:=t.reads I l;exact PySem.SeqAt.compareNe_reads D E z B (by lia) ⟨.bl _,H,I,rfl,q⟩
noncomputable def Te(d e:PyData):Bool:=d.canLay0&&e.canLay0&&Nat.ble (min d.depth e.depth) 64
def eqD:PyData->PyData->(Bool->Prop)->Prop
 | .int i,.int j,P=>P (decide (i=j))
 | .str s,.str t,P=>P (decide (s=t))
 | .bool a,.bool b,P=>P (a==b)
 |d,e,P=>Te d e=true/\P (PyData.eqv d e)
theorem PF{e:PyData}{P:Bool->Prop}(h:Te d e=true)(p:P (PyData.eqv d e)):eqD d e P:=by
 unfold eqD
 split
 ·simp only[PyData.eqv]at p;rw[show decide (_=_)=(_==_)from(cg _ _).symm]at*;exact p
 ·simp only[PyData.eqv]at p;rw[show decide (_=_)=(_==_)from(cg _ _).symm]at*;exact p
 ·simp only[PyData.eqv]at p;exact p
 ·exact⟨h,p⟩
theorem kW{e:PyData}{P:Bool->Prop}(h:eqD d e P):(d.canLay0=true/\e.canLay0=true/\min d.depth e.depth<=64/\P (PyData.eqv d e))\/∃s t,d=.str s/\e=.str t/\P (decide (s=t)):=by
 unfold eqD at h
 split at h
 ·refine .inl ⟨by simp[PyData.canLay0],by simp[PyData.canLay0],by simp[PyData.depth],?_⟩;simp only[PyData.eqv];rw[cg];exact h
 ·exact .inr ⟨_,_,rfl,rfl,h⟩
 ·refine .inl ⟨by simp[PyData.canLay0],by simp[PyData.canLay0],by simp[PyData.depth],?_⟩;simp only[PyData.eqv];exact h
 ·have g:=h.1;unfold Te at g;simp only[Bool.and_eq_true]at g;exact .inl ⟨g.1.1,g.1.2,eD g.2,h.2⟩
theorem nU{f:Value->Value->Sem Value}{g l:R2}(z:OpR X f g)(B:OpR X f l):OpR X f (λx y H Q=>g x y H Q\/l x y H Q):=
 λpins s σ H x y v u Q I r t h=>h.elim (z pins s σ H x y v u Q I r t) (B pins s σ H x y v u Q I r t)
def δEq:D2:=λx y M Φ=>onD x λd=>onD y λe=>eqD d e λb=>Φ (.dat (.bool b)) M
def δNe:D2:=λx y M Φ=>onD x λd=>onD y λe=>eqD d e λb=>Φ (.dat (.bool (!b))) M
theorem JK{k:Nat}(B:QL k X.A):OpD X (compareOp .Eq) δEq:=
 ⟨_,nU (qS B.units) ud,λv u H x y M Φ Q r g l h k=>by
  obtain⟨d,C,h⟩:=QD h;obtain⟨e,D,h⟩:=QD h;subst C D
  rcases kW h with⟨E,G,z,q⟩|⟨s,t,rfl,rfl,q⟩
  ·exact .inl ⟨M,d,e,g,l,E,G,z,k.dat r Step.refl (Dt.bl _) q⟩
  ·have I:Q (.bl (decide (s=t))) H:=k.dat r Step.refl (Dt.bl _) q;refine .inr ⟨by rw[g.str,l.str];rfl,?_⟩;rw[g.str,l.str,UH,cg]
   exact I⟩
theorem Sb{k:Nat}(B:QL k X.A):OpD X (compareOp .NotEq) δNe:=
 ⟨_,nU (sf B.units) vC,λv u H x y M Φ Q r g l h k=>by
  obtain⟨d,C,h⟩:=QD h;obtain⟨e,D,h⟩:=QD h;subst C D
  rcases kW h with⟨E,G,z,q⟩|⟨s,t,rfl,rfl,q⟩
  ·exact .inl ⟨M,d,e,g,l,E,G,z,k.dat r Step.refl (Dt.bl _) q⟩
  ·have I:Q (.bl (!decide (s=t))) H:=k.dat r Step.refl (Dt.bl _) q;refine .inr ⟨by rw[g.str,l.str];rfl,?_⟩;rw[g.str,l.str,UH,cg]
   exact I⟩
abbrev DTO:=DSt->Mp->(Option Int->Mp->Prop)->Prop
def DO(X:Cx)(e:Option Expr)(g:DTO):Prop:=∃ t,PO X e t/\∀σ H Δ M Φ (Q:Option Int->Hp->Prop),ZR X.K M H->Jy X.K M H σ Δ->g Δ M Φ->(∀o H' M',ZR X.K M' H'->Step M H M' H'->Φ o M'->Q o H')->t σ H Q
def Oe:DTO:=λ_ M Φ=>Φ none M
def oY(t:DTE):DTO:=λΔ M Φ=>t Δ M λx M1=>onI x λi=>Φ (some i) M1
theorem Jo:DO X none Oe:=⟨_,t9,λ_ H _ M _ _ r _ h k=>k none H M r Step.refl h⟩
theorem Jn(h:DE X e te):DO X (some e) (oY te):=by
 obtain⟨t,p,q⟩:=h;refine⟨_,qe p,λσ H Δ M Φ Q r e h k=>?_⟩;refine q σ H Δ M _ _ r e h λv l x M1 z st B g=>?_;obtain⟨i,rfl,g⟩:=(ZJ g);exact⟨i,B.int,k _ l M1 z st g⟩
noncomputable def cutD(xs:List PyData)(lo g:Option Int):List PyData:=(xs.drop (HT.sIx xs.length 0 lo)).take (HT.sIx xs.length xs.length g-HT.sIx xs.length 0 lo)
theorem Dts.cut(h:Dts K M H vs ds)(lo g:Option Int):Dts K M H (gL vs lo g) (cutD ds lo g):=by
 unfold gL cutD;rw[h.length];exact(h.drop _).take _
def pe(te:DTE)(g th:DTO):DTE:=λΔ M Φ=>te Δ M λx M1=>g Δ M1 λl M2=>th Δ M2 λu h=>onT x λds=>¬ (HT.sIx ds.length 0 l=0/\HT.sIx ds.length ds.length u=ds.length)/\Φ (.dat (.tuple (cutD ds l u))) h
theorem Q8{lo E:Option Expr}{G th:DTO}{B:Pos}(L:DE X e te)(C:DO X lo G)(g:DO X E th):DE X (.Subscript e (.Slice lo E none B) pos) (pe te G th):=by
 obtain⟨t1,O,U⟩:=L;obtain⟨t2,B,Y⟩:=C;obtain⟨t3,p3,q3⟩:=g;refine⟨_,Fc qk O B p3,λσ H Δ M Φ Q r e h k=>?_⟩;refine U σ H Δ M _ _ r e h λv H1 x M1 r1 st rv hx=>?_;refine Y σ H1 Δ M1 _ _ r1 (e.step st) hx λl H2 M2 r2 t C=>?_;refine q3 σ H2 Δ M2 _ _ r2 (e.step (st.trans t)) C λu H3 M3 I z g=>?_;obtain⟨ds,rfl,hw,g⟩:=(XT g);obtain⟨a,xs,rfl,h1,J⟩:=(rv.step (t.trans z)).tup;refine⟨a,xs,rfl,h1.sq,by rw[J.length];exact hw,λp D=>?_⟩;exact k.dat (I.new D) ((st.trans (t.trans z)).trans (Step.new D)) (Dt.GV I D (J.cut l u)) g
def lD:DTS:=λD Δ M=>D.nx Δ M
def ii(t u:DTS):DTS:=λD Δ M=>t {D with nx:=u D} Δ M
section
variable{rest:List Stmt}{t u:DTS}
theorem ZO:DSs X [] lD:=⟨_,uv,λσ H Δ M D E r e h k=>k.nx σ H Δ M r Step.refl e h⟩
theorem Zd(B:DS X st t)(C:DSs X rest u):DSs X (st::rest) (ii t u):=by
 obtain⟨t1,G,I⟩:=B;obtain⟨J,L,O⟩:=C;refine⟨_,wc G L,λσ H Δ M D E r e h k=>?_⟩;refine I σ H Δ M {D with nx:=u D} {E with nx:=J E} r e h ⟨λg H' l M' U z Y hn=>?_,k.rt,k.bk,k.ct⟩;exact O g H' l M' D E U Y hn (k.step z)
theorem Zi(g:DS X st t):DSs X [st] t:=by
 obtain⟨r,h,l⟩:=g;exact⟨_,vQ h,l⟩
def mX(te:DTE):DTS:=λD Δ M=>te Δ M λ_ M1=>D.nx Δ M1
theorem Qh(g:DE X e te)(l:autoParam (swapsWith e none pos.line X.env=pure false) zz3._auto_1):DS X (.Expr e pos) (mX te):=by
 obtain⟨t,p,q⟩:=g;refine⟨_,tY p l,λσ H Δ M D E r e h k=>?_⟩;exact q σ H Δ M _ _ r e h λv z x M1 B st G C=>k.nx σ z Δ M1 B st (e.step st) C
def jj(te:DTE):DTS:=λD Δ M=>te Δ M D.rt
theorem Zq(g:DE X e te):DS X (.Return (some e) pos) (jj te):=by
 obtain⟨t,p,q⟩:=g;exact⟨_,v9 p,λσ H Δ M D E r e h k=>q σ H Δ M _ _ r e h k.rt⟩
def kt(c:DTT)(t u:DTS):DTS:=λD Δ M=>c Δ M λb M1=>if b=true then t D Δ M1 else u D Δ M1
theorem QJ{c:Expr}{a b:List Stmt}(g:DT X c tc)(B:DSs X a t)(C:DSs X b u):DS X (.If c a b pos) (kt tc t u):=by
 obtain⟨Y,G,I⟩:=g;obtain⟨t1,J,L⟩:=B;obtain⟨t2,O,U⟩:=C;refine⟨_,vp G J O,λσ H Δ M D E r e h k=>?_⟩;refine I σ H Δ M _ _ r e h λc l M1 z st g=>?_;cases c with
 |true=>rw[aw rfl];exact L σ l Δ M1 D E z (e.step st) (by simpa using g) (k.step st)
 |false=>rw[ao ae];exact U σ l Δ M1 D E z (e.step st) (by simpa using g) (k.step st)
abbrev DTG:=DV->DSt->Mp->(DSt->Mp->Prop)->Prop
abbrev ew:=List DV->DSt->Mp->(DSt->Mp->Prop)->Prop
def DG(X:Cx)(tg:Expr)(l:DTG):Prop:=∃ t,PG X tg t/\∀v σ H x Δ M Φ (Q:L2.St->Hp->Prop),ZR X.K M H->Jy X.K M H σ Δ->QE X.K M H v x->l x Δ M Φ->
 (∀g H' h M',ZR X.K M' H'->Step M H M' H'->Jy X.K M' H' g h->Φ h M'->Q g H')->t v σ H Q
def DGs(X:Cx)(ts:List Expr)(l:ew):Prop:=∃ t,PGs X ts t/\∀vs σ H xs Δ M Φ (Q:L2.St->Hp->Prop),ZR X.K M H->Jy X.K M H σ Δ->JQ X.K M H vs xs->l xs Δ M Φ->
 (∀g H' h M',ZR X.K M' H'->Step M H M' H'->Jy X.K M' H' g h->Φ h M'->Q g H')->t vs σ H Q
def BA(i:Nat):DTG:=λx Δ M Φ=>Φ (Δ.set i (some x)) M
theorem Zm(i:Nat)(g:X.N.Nodup)(l:autoParam (X.N[i]?=some x) zz3._auto_1)(z:autoParam (Loc X.env.scope x) zz7._auto_1)(B:autoParam (X.fn x=true\/X.env.scope.names.lookup x=some .local) zz0._auto_1):
  DG X (.Name x pos) (BA i):=
 ⟨_,Tb g l z B,λv σ H x Δ M Φ Q r e C h k=>k _ H _ M r Step.refl (e.set C) h⟩
def kN:ew:=λxs Δ M Φ=>match xs with|[]=>Φ Δ M|_=>False
def ku(t:DTG)(u:ew):ew:=λxs Δ M Φ=>match xs with|x::r=>t x Δ M λg M'=>u r g M' Φ|[]=>False
theorem CT:DGs X [] kN:=⟨_,xo,λvs σ H xs Δ M Φ Q r e g h k=>by
 cases xs with
 |cons x r=>exact h.elim
 |nil=>
 have l:Φ Δ M:=h;cases g
 exact⟨rfl,k σ H Δ M r Step.refl e l⟩⟩
theorem VY{z:List Expr}{t:DTG}{u:ew}(I:DG X e t)(J:DGs X z u)
  (L:autoParam ((assignEach (e::z) X.env).map (·.2)=assign e X.env::(assignEach z X.env).map (·.2)) zz3._auto_1):DGs X (e::z) (ku t u):=by
 obtain⟨t1,O,U⟩:=I;obtain⟨t2,Y,q2⟩:=J;refine⟨_,vW O Y L,λvs σ H xs Δ M Φ Q r e rv h k=>?_⟩;obtain⟨x,l,e1,h⟩:∃ x l,xs=x::l/\t x Δ M λg M'=>u l g M' Φ:=by
  cases xs with
  |nil=>exact h.elim
  |cons x l=>exact⟨x,l,rfl,h⟩
 subst e1;cases rv with
 |cons ra rr=>
  refine⟨_,_,rfl,U _ σ H x Δ M _ _ r e ra h λB H' g M' r' st e' h'=>?_⟩;exact q2 _ B H' l g M' Φ Q r' e' (JQ.step rr st) h' λC H2 D M2 r2 E e2 G=>k C H2 D M2 r2 (st.trans E) e2 G
def im:Nat->List PyData->(List DV->Prop)->Prop
 |0,[],P=>P []
 |n+1,d::r,P=>im n r λxs=>P (.dat d::xs)
 |0,_::_,_=>False
 |_+1,[],_=>False
theorem Nh:∀{n:Nat}{ds:List PyData}{P:List DV->Prop},im n ds P->ds.length=n/\P (ds.map DV.dat)
 |0,[],_,h=>⟨rfl,h⟩
 |n+1,d::r,P,h=>by
  obtain⟨a,b⟩:=Nh (n:=n) (ds:=r) h;exact⟨by rw[a_,a],b⟩
 |0,_::_,_,h=>h.elim
 |_+1,[],_,h=>h.elim
def mB(n:Nat)(t:ew):DTG:=λx Δ M Φ=>onT x λds=>im n ds λxs=>t xs Δ M Φ
theorem Dts.uN(h:Dts K M H vs ds):JQ K M H vs (ds.map DV.dat):=
 Dts.ind (p:=λvs ds=>JQ K M H vs (ds.map DV.dat)) .nil (λh _ i=>.cons h i) h
theorem Rq{g:List Expr}{k:Nat}{t:ew}(B:X.calm=true)(h:DGs X g t)(C:autoParam ((assignEach g X.env).length=n) zz3._auto_1)(l:autoParam ((assignEach g X.env).findIdx? (·.1)=none) zz3._auto_1):DG X (.Tuple g k pos) (mB n t):=by
 obtain⟨L,D,E⟩:=h;refine⟨_,wu B D C l,λv σ H x Δ M Φ Q r e G h k=>?_⟩;obtain⟨ds,rfl,h⟩:=(XT h);obtain⟨I,h⟩:=(Nh h);obtain⟨a,xs,rfl,J,z⟩:=G.tup;exact⟨a,xs,rfl,J.sq,by rw[z.length];exact I,E xs σ H _ Δ M Φ Q r e z.uN h k⟩
def oZ(g h:DTE):DTG:=λx Δ M Φ=>g Δ M λo M1=>h Δ M1 λi M2=>onO o λl=>onI i λk=>onD x λd=>Vi (M2 l) λds=>∃ j,ixN ds.length k=some j/\Φ Δ (Zs M2 l (.lst (ds.set j d)))
theorem BR{o i:Expr}{I J:DTE}(Y:DE X o I)(hi:DE X i J)
  (ha:∀ v,assign (.Subscript o i pos) X.env v=(do
   let B <-holding [v] (eval o X.env)
   let C <-holding [v,B] (eval i X.env)
   standAt pos
   holding [v,B,C] (setItem B C v)
   release [v,B,C] []):=by intro _;rfl):DG X (.Subscript o i pos) (oZ I J):=by
 obtain⟨t1,p1,q1⟩:=Y;obtain⟨t2,p2,q2⟩:=hi;refine⟨_,sS p1 p2 set_list ha,λv σ H x Δ M Φ Q r e rv h k=>?_⟩;refine Snd.bin q1 q2 r e h λw1 w2 D o' i' M2 L st ro ri g=>?_;obtain⟨l,rfl,g⟩:=(ZM g);obtain⟨kk,rfl,g⟩:=(ZJ g);obtain⟨d,rfl,g⟩:=(QD g);obtain⟨ds,O,j,hj,E⟩:=(Jd g);obtain⟨vs,g1,U⟩:=L.ls l ds O;cases(show w1=.ref l from ro);have G:Dt X.K M2 D v d:=Dt.step st rv;have z:Step M2 D (Zs M2 l (.lst (ds.set j d))) (upd D l (.lst (vs.set j v))):=Step.Vb O;refine⟨l,vs,kk,j,rfl,ri.int,g1,by rw[U.length];exact hj,?_⟩;exact k σ _ Δ _ (L.XM z (U.set G j)) (st.trans z) (e.step (st.trans z)) E
def ic(te:DTE)(g:DTG):DTS:=λD Δ M=>te Δ M λx M1=>g x Δ M1 D.nx
theorem WG{g:DTG}(C:DE X e te)(G:DG X tg g)(I:autoParam (swapsWithSole [tg] e pos.line X.env=pure false) zz3._auto_1)(J:autoParam (swappedStores [tg] e X.env=pure none) zz3._auto_1)
  (L:autoParam ((assignEach [tg] X.env).map (·.2)=[assign tg X.env]) zz3._auto_1):DS X (.Assign [tg] e pos) (ic te g):=by
 obtain⟨t1,O,U⟩:=C;obtain⟨t2,Y,q2⟩:=G;refine⟨_,vy O Y I J L,λσ H Δ M D E r e h k=>?_⟩;refine U σ H Δ M _ _ r e h λv H1 x M1 r1 st rv hx=>?_;exact q2 v σ H1 x Δ M1 _ _ r1 (e.step st) rv hx λl H' z M' r' B e' hn=>k.nx l H' z M' r' (st.trans B) e' hn
theorem Zl(i:Nat){g:Pos}(z:X.N.Nodup)(B:DE X e te)(C:autoParam (X.N[i]?=some x) zz3._auto_1)(l:autoParam (Loc X.env.scope x) zz7._auto_1)(G:autoParam (swapsWith e (some (.Name x g)) pos.line X.env=pure false) zz3._auto_1)
  (I:autoParam (X.fn x=true\/X.env.scope.names.lookup x=some .local) zz0._auto_1):DS X (.Assign [.Name x g] e pos) (ic te (BA i)):=by
 obtain⟨t1,J,L⟩:=B;refine⟨_,qW z C l J G I,λσ H Δ M D E r e h k=>?_⟩;refine L σ H Δ M _ _ r e h λv O x M1 U st Y l=>?_;exact k.nx _ O _ M1 U st ((e.step st).set Y) l
def SQ(g te:DTE):DTE:=λΔ M Φ=>g Δ M λx M1=>onO x λl=>Vi (M1 l) λ_=>te Δ M1 λy M2=>onD y λd=>Vi (M2 l) λds=>ds.length<sizeLine/\Φ (.dat .none) (Zs M2 l (.lst (ds++[d])))
theorem QB{o:Expr}{U:DTE}{apos cpos:Pos}(I:DE X o U)(he:DE X e te)(C:autoParam (attributeBase o "append" X.env (eval o X.env)=eval o X.env) zz3._auto_1)
  (E:((backTo cpos (starEach [e] X.env)).all (λx=>!x.1)&&(backToKw cpos (keywordEach [] X.env)).all (λx=>x.1.isSome)
   &&decide ([e].length+([]:List Keyword).length+(if([]:List Keyword).isEmpty then 0 else 1)<30))=true:=by rfl)
  (D:autoParam ((apos.endLine==cpos.line)=true) zz3._auto_1) (Y:autoParam (starEach [e] X.env=(false,eval e X.env)::starEach [] X.env) zz3._auto_1) (g:autoParam ((backTo cpos (starEach [] X.env)).any (·.1)=false) zz3._auto_1):
  DE X (.Call (.Attribute o "append" apos) [e] [] cpos) (SQ U te):=by
 obtain⟨t1,p1,q1⟩:=I;obtain⟨t2,p2,q2⟩:=he;refine⟨_,iK fK PySem.F.slot_list_append PySem.F.type_list_append PV p1 (Yy p2 WN Y) C E D Y g,λσ H Δ M Φ Q r e h k=>?_⟩;refine q1 σ H Δ M _ _ r e h λv H1 x M1 r1 st rv z=>?_;obtain⟨l,rfl,z⟩:=(ZM z);obtain⟨oo,I,z⟩:=(Jd z);cases(show v=.ref l from rv);have ty:tyV X.K "list" (.ref l) H1:=by
  obtain⟨vs,J,_⟩:=r1.ls l oo I;exact .inl ⟨rfl,vs,SqL.of J⟩
 refine⟨ty,q2 σ H1 Δ M1 _ _ r1 (e.step st) z λw H2 y M2 r2 L O B=>?_⟩;obtain⟨d,rfl,B⟩:=(QD B);obtain⟨ds,hm,hz,B⟩:=(Jd B);obtain⟨vs,J,g2⟩:=r2.ls l ds hm;have G:Step M2 H2 (Zs M2 l (.lst (ds++[d]))) (upd H2 l (.lst (vs++[w]))):=Step.Vb hm;refine⟨l,vs,w,rfl,rfl,J,by rw[g2.length];exact hz,?_⟩;exact k.dat (r2.XM G (g2.append (.cons O .nil))) (st.trans (L.trans G)) Dt.non B
end
section
variable{body:List Stmt}{g:DTG}{tb:DTS}
def kr(g:DTG)(tb:DTS)(D:Qt)(ds:List PyData)(Δ:DSt)(M:Mp):Prop:=
 ∃J:Nat->DSt->Mp->Prop,J 0 Δ M/\(∀i d Δ M,ds[i]?=some d->J i Δ M->g (.dat d) Δ M λh M2=>tb {D with nx:=J (i+1),ct:=J (i+1),bk:=D.nx} h M2)/\∀Δ M,J ds.length Δ M->D.nx Δ M
def iO(te:DTE)(g:DTG)(tb:DTS):DTS:=λD Δ M=>te Δ M λx M1=>onL x λds=>kr g tb D ds Δ M1
def pM(te:DTE)(g:DTG)(tb:DTS):DTS:=λD Δ M=>te Δ M λx M1=>onT x λds=>kr g tb D ds Δ M1
theorem Jc(he:DE X iter te)(hg:DG X tg g)(hb:DSs X body tb)(hp:PassesOwn (model X.prog X.w) X.A X.env X.xe)(hc:X.calm=true)(hs:autoParam (∀x,foldedSetIterable iter X.env x=pure x) zz2._auto_1):
  DS X (.For tg iter body [] pos) (iO te g tb):=by
 obtain⟨t1,p1,q1⟩:=he;obtain⟨t2,p2,q2⟩:=hg;obtain⟨t3,p3,q3⟩:=hb;refine⟨_,HG hp hc (P2 p1) p2 p3 hs,λσ H Δ M D E r e h k=>?_⟩;refine q1 σ H Δ M _ _ r e h λv H1 x M1 r1 st rv C=>?_;obtain⟨ds,rfl,J,j0,jt,jd⟩:=(WC C);obtain⟨a,xs,rfl,h1,h2⟩:=rv.lst
 refine⟨a,rfl,⟨xs,h1.sq⟩,ww (xs:=xs) (λi σ H=>∃ Δ M,ZR X.K M H/\Step M1 H1 M H/\Jy X.K M H σ Δ/\J i Δ M) ⟨Δ,M1,r1,Step.refl,e.step st,j0⟩
  (λi σ H _ z0=>by obtain⟨Δ,M,_,l,_,_⟩:=z0;exact(h1.step l).sq) (λi y σ H hi ⟨Δ,M,G,l,I,j⟩=>?_) (λσ H ⟨Δ,M,G,l,I,j⟩=>?_)⟩
 ·obtain⟨d,hd,hy⟩:=h2.iq hi;refine q2 y σ H (.dat d) Δ M _ _ G I (Dt.step l hy) (jt i d Δ M hd j) λL H2 O M2 r2 U e2 Y=>?_;refine q3 L H2 O M2 _ _ r2 e2 Y ?_;have z:Step M1 H1 M2 H2:=l.trans U
  exact⟨λB H' t M' a b c d=>⟨t,M',a,z.trans b,c,d⟩,k.rt.step (st.trans z),λB H' t M' a b c d=>k.nx B H' t M' a ((st.trans z).trans b) c d,
   λB H' t M' a b c d=>⟨t,M',a,z.trans b,c,d⟩⟩
 ·rw[h2.length]at j;exact k.nx σ H Δ M G (st.trans l) I (jd Δ M j)
theorem Gk(he:DE X iter te)(hg:DG X tg g)(hb:DSs X body tb)(hp:PassesOwn (model X.prog X.w) X.A X.env X.xe)(hc:X.calm=true)(hs:autoParam (∀x,foldedSetIterable iter X.env x=pure x) zz2._auto_1):
  DS X (.For tg iter body [] pos) (pM te g tb):=by
 obtain⟨t1,p1,q1⟩:=he;obtain⟨t2,p2,q2⟩:=hg;obtain⟨t3,p3,q3⟩:=hb;refine⟨_,HG hp hc (oq p1) p2 p3 hs,λσ H Δ M D E r e h k=>?_⟩;refine q1 σ H Δ M _ _ r e h λv H1 x M1 r1 st rv C=>?_;obtain⟨ds,rfl,J,j0,jt,jd⟩:=(XT C);obtain⟨a,xs,rfl,h1,h2⟩:=rv.tup
 refine⟨a,rfl,⟨xs,h1.sq⟩,qz (xs:=xs) (λi σ H=>∃ Δ M,ZR X.K M H/\Step M1 H1 M H/\Jy X.K M H σ Δ/\J i Δ M) ⟨Δ,M1,r1,Step.refl,e.step st,j0⟩
  (λi σ H _ z0=>by obtain⟨Δ,M,_,l,_,_⟩:=z0;exact(h1.step l).sq) (λi y σ H hi ⟨Δ,M,G,l,I,j⟩=>?_) (λσ H ⟨Δ,M,G,l,I,j⟩=>?_)⟩
 ·obtain⟨d,hd,hy⟩:=h2.iq hi;refine q2 y σ H (.dat d) Δ M _ _ G I (Dt.step l hy) (jt i d Δ M hd j) λL H2 O M2 r2 U e2 Y=>?_;refine q3 L H2 O M2 _ _ r2 e2 Y ?_;have z:Step M1 H1 M2 H2:=l.trans U
  exact⟨λB H' t M' a b c d=>⟨t,M',a,z.trans b,c,d⟩,k.rt.step (st.trans z),λB H' t M' a b c d=>k.nx B H' t M' a ((st.trans z).trans b) c d,
   λB H' t M' a b c d=>⟨t,M',a,z.trans b,c,d⟩⟩
 ·rw[h2.length]at j;exact k.nx σ H Δ M G (st.trans l) I (jd Δ M j)
def Cp(g:DTG)(tb:DTS)(D:Qt)(lo:Int)(n:Nat)(Δ:DSt)(M:Mp):Prop:=
 ∃J:Nat->DSt->Mp->Prop,J 0 Δ M/\(∀i Δ M,i<n->J i Δ M->g (.dat (.int (lo+i))) Δ M λh M2=>tb {D with nx:=J (i+1),ct:=J (i+1),bk:=D.nx} h M2)/\∀Δ M,J n Δ M->D.nx Δ M
theorem kI{g':TG}{L:TS}{lo:Int}{n:Nat}(q2:∀ v σ H x Δ M Φ (Q:L2.St->Hp->Prop),ZR X.K M H->Jy X.K M H σ Δ->QE X.K M H v x->g x Δ M Φ->
  (∀l H' t M',ZR X.K M' H'->Step M H M' H'->Jy X.K M' H' l t->Φ t M'->Q l H')->g' v σ H Q)
  (q3:∀ σ H Δ M D E,ZR X.K M H->Jy X.K M H σ Δ->tb D Δ M->K9 X.K M H D E->L E σ H) {D:Qt} {E:Ends} {σ:L2.St} {H:Hp} {Δ:DSt} {M:Mp} (r:ZR X.K M H) (e:Jy X.K M H σ Δ) (h:Cp g tb D lo n Δ M) (k:K9 X.K M H D E):
  ∃W:Nat->Nat->L2.St->Hp->Prop,(∃m,W 0 m σ H)/\∀i m σ H,W i m σ H->
   ((Itr lo n).stop i H/\E.nx σ H)\/((Itr lo n).go i H/\∃N:L2.St->Hp->Prop,(∀l H',N l H'->∃ m',m' <m/\W (i+1) m' l H')/\∀x H',(Itr lo n).yld i H x H'->g' x σ H' λC O=>L {E with nx:=N,ct:=N,bk:=E.nx} C O):=by
 obtain⟨J,j0,jt,jd⟩:=h;refine O1 (λi l H'=>∃ t M',ZR X.K M' H' /\Step M H M' H' /\Jy X.K M' H' l t/\J i t M') ⟨Δ,M,r,Step.refl,e,j0⟩ (λi G U hi ⟨z,M1,Y,I,e',j⟩=>?_) (λG U ⟨z,M1,Y,I,e',j⟩=>?_)
 ·refine q2 _ G U (.dat (.int (lo+i))) z M1 _ _ Y e' (Dt.int _) (jt i z M1 hi j) λC O a0 M2 r2 a1 e2 a2=>?_;refine q3 C O a0 M2 _ _ r2 e2 a2 ?_;have B:Step M H M2 O:=I.trans a1
  exact⟨λl H' t M' a b c d=>⟨t,M',a,B.trans b,c,d⟩,k.rt.step B,λl H' t M' a b c d=>k.nx l H' t M' a (B.trans b) c d,
   λl H' t M' a b c d=>⟨t,M',a,B.trans b,c,d⟩⟩
 ·exact k.nx G U z M1 Y I e' (jd z M1 j)
def InR(j:Int):Prop:=-(2^62)<=j/\j<2^62
def kC(h:DTA)(g:DTG)(tb:DTS):DTS:=λD Δ M=>h Δ M λxs M1=>on1 xs λx=>onI x λj=>InR j/\Cp g tb D 0 j.toNat Δ M1
theorem X6{a:Expr}{C:DTA}{p t:Pos}(z:Gl X "range")(G:X.mg "range"=none)(I:DA X [a] C)(J:DG X tg g)(L:DSs X body tb)(O:PassesOwn (model X.prog X.w) X.A X.env X.xe)(U:X.calm=true)
  (Y:autoParam (starEach [a] X.env=[(false,eval a X.env)]) zz3._auto_1) (B:autoParam (∀x,foldedSetIterable (.Call (.Name "range" p) [a] [] t) X.env x=pure x) zz2._auto_1):DS X (.For tg (.Call (.Name "range" p) [a] [] t) body [] pos) (kC C g tb):=by
 obtain⟨t1,p1,q1⟩:=I;obtain⟨t2,t,q2⟩:=J;obtain⟨t3,p3,q3⟩:=L;refine⟨_,HG O U (B3 z G p1 Y) t p3 B,λσ H Δ M D E r e h k=>?_⟩;refine q1 σ H Δ M _ _ r e h λvs H1 xs M1 r1 st rv l=>?_;obtain⟨x,rfl,l⟩:=(ZP l);obtain⟨j,rfl,⟨h1,h2⟩,l⟩:=(ZJ l);obtain⟨v,rfl,hv⟩:=Paired.one rv;exact⟨j,by rw[QE.int hv],h1,h2,kI q2 q3 r1 (e.step st) l (k.step st)⟩
def oM(h:DTA)(g:DTG)(tb:DTS):DTS:=λD Δ M=>h Δ M λxs M1=>on2 xs λx y=>onI x λi=>onI y λj=>(InR i/\InR j)/\Cp g tb D i (j-i).toNat Δ M1
end
abbrev DSp:=List DV->Mp->DK->Prop
def lift(K:Fk)(S:DSp):Sp:=λvs H Q _=>∃ xs M Φ,ZR K M H/\JQ K M H vs xs/\S xs M Φ/\Rch K M H Φ Q
def io(S:DSp)(t:DTA):DTE:=λΔ M Φ=>t Δ M λxs M1=>S xs M1 Φ
section
variable{CX:CXT}{k:Nat}{ps:List Str}{S:DSp}{E:XK}{p:Pos}{es:List Expr}{t:DTA}
theorem tH(F:Qx X.prog X.w X.K X.mg X.base CX k f fd ps (lift X.K S))(B:QL k X.A)(C:Gl X x)(D:X.mg x=some (.ref f))(G:PySem.W.keepIn X.K (.ref f)=true)(I:Binds X.K fd ps [])(g:Passes CX X E)
  (J:DA X (e::es) t) (l:autoParam ((x==("__debug__" :Str))=false) zz1._auto_1) (L:autoParam (starEach (e::es) X.env=(false,eval e X.env)::starEach es X.env) zz3._auto_1) (z:autoParam ((backTo pos (starEach es X.env)).any (·.1)=false) zz3._auto_1):
  DE X (.Call (.Name x p) (e::es) [] pos) (io S t):=by
 obtain⟨t1,O,U⟩:=J;refine⟨_,v8 F B C D G I .nil g O l L z,λσ H Δ M Φ Q r e h k=>?_⟩;refine U σ H Δ M _ _ r e h λvs Y xs M1 r1 st rv g=>?_;show lift X.K S (vs++[]) Y Q E;rw[aU];exact⟨xs,M1,Φ,r1,rv,g,k.step st⟩
end
section
variable{base:Heap}
theorem okD{ps:List Str}{k:Nat}{S:DSp}(F:Fun K x qual st f fd)(I:Zo N ps (Zf st))(len:∀ xs M Φ,S xs M Φ->xs.length=ps.length)
  (l:∀(g:Value)(A:Around)(outer:List Env)(s:Shared)(H:Hp)(E:XK),QL k (A.deeper (envOfC qual (Zf st) s.heap.objs.size f g))->
   ∃z,DSs (Mj CX0 P w K mg base N qual (Zf st) f g A outer s H E).nox (Jp st) z/\∀xs M Φ,S xs M Φ->z {nx:=λ_ M'=>Φ (.dat .none) M',rt:=Φ} (VB N xs) M):Qx P w K mg base CX0 (k+1) f fd ps (lift K S):=by
 refine F.ok I (λvs H Q E h=>?_) λg A outer s H vs Q E J h=>?_
 ·obtain⟨xs,M,Φ,_,B,C,_⟩:=h;rw[bC B];exact len xs M Φ C
 ·obtain⟨xs,M,Φ,r,B,C,kk⟩:=h;obtain⟨z,⟨t,p,q⟩,D⟩:=l g A outer s H E J;refine⟨t,p,q (start N vs) H (VB N xs) M _ _ r (Jy.start B) (D xs M Φ C) ⟨λL H' O M' U G e' Y=>?_,kk,λ_ _ _ _ _ _ _ h=>h.elim,λ_ _ _ _ _ _ _ h=>h.elim⟩⟩;exact kk.dat U G Dt.non Y
end
section
variable{k v:Expr}
theorem vA{K:Fk}{M:Mp}{H:Hp}{v:V}{k:Key}(h:Dt K M H v (kD k)):v=kV k:=by
 cases k with
 |inl i=>cases(show Dt K M H v (.int i)from h);rfl
 |inr x=>cases(show Dt K M H v (.str x)from h);rfl
def XX(x:DV)(P:Key->Prop):Prop:=match x with| .dat (.int i)=>P (.inl i)| .dat (.str s)=>P (.inr s)|_=>False
theorem tT{x:DV}{P:Key->Prop}(h:XX x P):∃ k,x=.dat (kD k)/\P k:=by
 cases x with
 |dat d=>
  cases d with
  |int i=>exact⟨.inl i,rfl,h⟩
  |str i=>exact⟨.inr i,rfl,h⟩
  |_=>exact False.elim h
 |_=>exact False.elim h
noncomputable def ji:List PyData->Option (List Key)
 |[]=>some []
 | .int i::r=>(ji r).map (.inl i:: ·)
 | .str s::r=>(ji r).map (.inr s:: ·)
 |_::_=>none
def ym(ds:List PyData)(P:List Key->Prop):Prop:=match ji ds with|some ks=>P ks|none=>False
end
structure Own(K:Fk)(mg:Str->Option Value)(x:Str)(st:Stmt)(ps:List Str)(f:Addr)(fd:FuncData):Prop where
 F:Fun K x x st f fd
 m:mg x=some (.ref f)
 b:Binds K fd ps []
theorem Ox{h:Type}{l:List h}{i:Int}(r:0<=i)(t:i<l.length):∃ d,atI l i=some d/\d∈l:=by
 have g:i.toNat<l.length:=by lia
 refine⟨l[i.toNat],?_,List.getElem_mem g⟩;have q:atI l ((i.toNat:Nat):Int)=some l[i.toNat]:=J5 (by simp[g]);rw[show((i.toNat:Nat):Int)=i by lia]at q;exact q
theorem yn:ixN 3 0=some 0:=rfl
theorem qR:ixN 3 1=some 1:=rfl
theorem sw:ixN 3 2=some 2:=rfl
theorem N5{ns:List Int}{j:Int}(g:0<=j)(h:j<ns.length):∃ c:Int,atI (ns.map PyData.int) j=some (.int c):=by
 obtain⟨d,e,r⟩:=Ox (l:=ns.map PyData.int) g (by rw[aa];exact h);obtain⟨c,_,rfl⟩:=af.mp r;exact⟨c,e⟩
theorem SG(x:Int){m:Int}(h:0<m):0<=x %m/\x %m<m:=⟨Int.emod_nonneg _ (by lia),Int.emod_lt_of_pos _ h⟩
theorem cj(k:Int)(h:0<=k/\k<=1000000):jK 10 k:=⟨h.1,h.2,by decide⟩
theorem YL{o:OO}(h:M a=none):Q4 (Zs M a o) a=M:=by
 funext b
 unfold Q4 Zs
 split
 ·rename_i e;rw[e,h]
 ·rfl
theorem ZA{p:Prop}[Decidable p]{A B:Prop}(g:p->A)(l:¬ p->B):if decide p=true then A else B:=by
 by_cases h:p
 ·rw[aI h,aw rfl];exact g h
 ·rw[aZ h,ao ae];exact l h
noncomputable def Ka(env:Env):List (Str×NameKind)->List (Str×Addr)->List (Str×Addr)
 |[],cs=>cs
 |(n,k)::r,cs=>Ka env r (if(k==NameKind.free)=true then(n,(env.cells.lookup n).getD 0)::cs else cs)
theorem WW{env:Env}(f:Str×NameKind->List (Str×Addr)->Sem (ForInStep (List (Str×Addr)))):∀(l:List (Str×NameKind))(cs:List (Str×Addr)),
  (∀y∈l,∀cs,f y cs=pure (.yield (if(y.2==NameKind.free)=true then(y.1,(env.cells.lookup y.1).getD 0)::cs else cs)))->forIn l cs f=pure (Ka env l cs)
 |[],cs,_=>by rw[List.forIn_nil];rfl
 |(n,k)::r,cs,h=>by
  rw[List.forIn_cons,h _ aj,pure_bind];exact WW f r _ λy g=>h y (aq _ g)
theorem K7(h:∀ y∈scope.names,y.2=.free->∃ c,env.cells.lookup y.1=some c):closureFor scope env=pure (Ka env scope.names []):=by
 simp only[closureFor]
 rw[WW (env:=env) _ scope.names [] (λy l cs=>by
  obtain⟨n,k⟩:=y
  by_cases g:k=.free
  ·subst g;obtain⟨c,e⟩:=h _ l rfl;have r:env.cells.lookup n=some c:=e;simp only[beq_self_eq_true,if_true,cellOf,r,Option.getD_some,pure_bind]
  ·have:(k==NameKind.free)=false:=by simpa using g
   simp only[this,Bool.false_eq_true,if_false])]
 rfl
theorem Fx:∀{l:List (Str×NameKind)}{cs:List (Str×Addr)}{x:Str}{c:Addr},(x,c)∈Ka env l cs->(x,c)∈cs\/((x,NameKind.free)∈l/\c=(env.cells.lookup x).getD 0)
 |[],_,_,_,h=>.inl h
 | (n,k)::r,cs,x,c,h=>by
  rcases Fx (l:=r) h with h|⟨t,z⟩
  ·by_cases g:k=.free
   ·subst g;rw[aw (by simp)]at h
    rcases aW.mp h with h|h
    ·cases h;exact .inr ⟨aj,rfl⟩
    ·exact .inl h
   ·have:(k==NameKind.free)=false:=by simpa using g
    rw[ao (by rw[this];exact ae)]at h;exact .inl h
  ·exact .inr ⟨aq _ t,z⟩
theorem EW:∀{l:List (Str×NameKind)}{cs:List (Str×Addr)}{x:Str},((x,NameKind.free)∈l\/∃c,(x,c)∈cs)->∃ c,(x,c)∈Ka env l cs
 |[],_,_,h=>h.elim (λz=>nomatch z) id
 | (n,k)::r,cs,x,h=>by
  refine EW (l:=r) ?_
  rcases h with h|⟨c,h⟩
  ·rcases aW.mp h with h|h
   ·cases h;exact .inr ⟨_,by rw[aw (by simp)];exact aj⟩
   ·exact .inl h
  ·refine .inr ⟨c,?_⟩
   split
   ·exact aq _ h
   ·exact h
theorem Ks{g:Type}:∀{l:List (Str×g)}{x:Str}{c:g},(x,c)∈l->∃ c',l.lookup x=some c'
 |[],_,_,h=>nomatch h
 | (n,d)::r,x,c,h=>by
  rw[fZ];cases e:x==n with
  |true=>exact⟨d,rfl⟩
  |false=>
   rcases aW.mp h with h|h
   ·cases h;simp at e
   ·exact Ks h
theorem QW{names:List (Str×NameKind)}(t:∀ y∈names,y.2=.free->∃ c,env.cells.lookup y.1=some c)(h:(Ka env names []).lookup x=some c):
  env.cells.lookup x=some c/\(x,NameKind.free)∈names:=by
 rcases Fx (bI h)with h|⟨g,l⟩
 ·exact nomatch h
 ·obtain⟨z,e⟩:=t _ g rfl;have r:env.cells.lookup x=some z:=e;rw[r,Option.getD_some]at l;subst l;exact⟨r,g⟩
theorem F2{names:List (Str×NameKind)}(g:∀ y∈names,y.2=.free->∃ c,env.cells.lookup y.1=some c)(h:(x,NameKind.free)∈names):∃ c,(Ka env names []).lookup x=some c/\env.cells.lookup x=some c:=by
 obtain⟨c,l⟩:=EW (env:=env) (cs:=[]) (.inl h);obtain⟨r,e⟩:=Ks l;exact⟨r,e,(QW g e).1⟩
noncomputable def Z9(X:Cx)(scope:Scope)(C:Addr)(N:List Str)(ex:List Addr)(s:Shared)(H:Hp):Cx:=
 {X with N:=N,s₀:=s,H₀:=H,env:=compEnvC scope (Ka X.env scope.names []) C X.env,outer:=X.stack,ex:=ex,fn:=λ_=>false,pn:=[],xe:=λ_ _=>False}
noncomputable def Vz(ix:List (Option Nat))(σ:L2.St):L2.St:=ix.map λo=>o.bind λi=>(σ[i]?).join
noncomputable def L8(ix:List (Option Nat))(Δ:DSt):DSt:=ix.map λo=>o.bind λi=>(Δ[i]?).join
structure V1(X:Cx)(scope:Scope)(N:List Str)(ix:List (Option Nat)):Prop where
 kind:scope.kind=.function
 cellF:∀ y∈scope.names,y.2≠.cell
 names:∀ y∈scope.names,y.2=.local->scope.names.lookup y.1=some .local
 free:∀ y∈scope.names,y.2=.free->X.env.kindOf y.1=some .cell
 len:N.length=ix.length
 cap:∀(j:Nat)(x:Str)(i:Nat),N[j]?=some x->ix[j]?=some (some i)->X.N[i]?=some x/\(x,NameKind.free)∈scope.names/\(relabel scope X.env).names.lookup x=some .cell
theorem Mt{σ:L2.St}(h:(Vz ix σ)[j]?=some (some v)):∃ i,ix[j]?=some (some i)/\σ[i]?=some (some v):=by
 unfold Vz at h;rw[aV]at h;cases e:ix[j]? with
 |none=>rw[e]at h;cases h
 | some o=>
  rw[e]at h;cases o with
  |none=>simp at h
  |some i=>
   refine⟨i,rfl,?_⟩;have h':(σ[i]?).join=some v:=by simpa using h
   cases q:σ[i]? with
   |none=>rw[q]at h';cases h'
   |some g=>rw[q]at h';exact bK some h'
theorem Jy.cap{σ:L2.St}(h:Jy K M H σ Δ)(ix:List (Option Nat)):Jy K M H (Vz ix σ) (L8 ix Δ):=by
 refine⟨by unfold Vz L8;rw[aa,aa],λj x e=>?_⟩;unfold L8 at e;rw[aV]at e;cases q:ix[j]? with
 |none=>rw[q]at e;cases e
 | some o=>
  rw[q]at e;cases o with
  |none=>simp at e
  | some i=>
   have g:(Δ[i]?).join=some x:=by simpa using e
   have r:Δ[i]?=some (some x):=by
    cases l:Δ[i]? with
    |none=>rw[l]at g;cases g
    |some B=>rw[l]at g;exact bK some g
   obtain⟨v,t,z⟩:=h.at' i x r;refine⟨v,?_,z⟩;unfold Vz;rw[aV,q];simp[t]
section
variable{σ:L2.St}{H2:Hp}{s2:Shared}{C:Addr}{fp:List Addr}
theorem iz(g:V1 X scope N ix)(h:Inv X pins σ H2 s2):∀ y∈scope.names,y.2=.free->∃ c,X.env.cells.lookup y.1=some c:=λy l r=>h.ok.has y.1 (.inl (g.free y l r))
theorem LU(E:V1 X scope N ix)(g:Inv X pins σ H2 s2)(t:∀ b∈fp,Hb X pins H2 b)(ex:∀ b∈fp,∃o,s2.heap.get? b=some o)(U:s2.heap.objs.size<=C):(Z9 X scope C N fp s2 H2).Ok:=by
 have B:=iz E g
 refine⟨g.ok.mod,E.kind,g.ok.glob,g.ok.blt,U,λx y c G h2=>g.ok.inj x y c (QW B G).1 (QW B h2).1,λx hx=>?_,λx c h=>absurd h ae,g.ok.hd,g.ok.frames,.inl rfl,λb l=>?_,λb o e=>g.bs b o e,aA g.ok.bsz g.sz,
  λb o e l=>?_,λb l z=>?_,g.stack,g.P9⟩
 ·have I:(relabel scope X.env).names.lookup x=some .cell\/(relabel scope X.env).names.lookup x=some .free:=hx;have J:(x,NameKind.free)∈scope.names:=by
   have Y:∀ r,(relabel scope X.env).names.lookup x=some r->(r=.cell\/r=.free)->(x,NameKind.free)∈scope.names:=λr e hk=>by
    have hm:=bI e;obtain⟨⟨n,k⟩,L,q⟩:=af.mp hm
    by_cases D:(k==NameKind.free&&X.env.scope.kind== .function&&X.env.kindOf n==some .cell)=true
    ·have O:(n,NameKind.cell)=(x,r):=by rw[<-q];simp[D]
     cases O;have:k=.free:=by simp only[Bool.and_eq_true]at D;simpa using D.1.1
     subst this;exact L
    ·have O:(n,k)=(x,r):=by rw[<-q];simp[D]
     cases O
     rcases hk with rfl|rfl
     ·exact absurd rfl (E.cellF _ L)
     ·exact L
   rcases I with h|h
   ·exact Y _ h (.inl rfl)
   ·exact Y _ h (.inr rfl)
  obtain⟨c,G,_⟩:=F2 B J;exact⟨c,G⟩
 ·obtain⟨o,e⟩:=ex b l;exact⟨bf (aP (aL e) U),λx c h=>(t b l).2.2.2.2.1 x c (QW B h).1⟩
 ·rcases(t b l).2.2.2.1 with z|z
  ·exact g.ok.noex b o e z
  ·exact absurd (aP (aL e) (aA g.ok.bsz z)) (fq _)
 ·rcases aW.mp (g.PB b z)with z|z
  ·exact(t b l).2.1 z
  ·exact(t b l).2.2.1 z
theorem EV(g:V1 X scope N ix)(h:Inv X pins σ H2 s2)(E:∀ b∈fp,Hb X pins H2 b){m:Str->Option Value}(u:Un (frs X.stack) fp H2 H s2.heap s.heap):
  ∀(i:Nat)(x:Str)(v:V),N[i]?=some x->(Vz ix σ)[i]?=some (some v)->∃ w,RelV v w/\Look (Z9 X scope C N fp s2 H2).env s.heap m x w:=λj x v G I=>by
 obtain⟨i,J,L⟩:=Mt I;obtain⟨O,t,U⟩:=g.cap j x i G J;have B:X.env.kindOf x=some .cell:=g.free _ t rfl;obtain⟨m0,_,Y⟩:=h.loc;obtain⟨w,r,l⟩:=Y i x v O L (.inr (.inl B));refine⟨w,r,.inr ⟨.inl U,?_⟩⟩
 rcases l with⟨z,_⟩|⟨_,c,e,hc⟩
 ·rw[B]at z;cases z
 ·obtain⟨c',h1,D⟩:=F2 (iz g h) t;rw[e]at D;cases D;refine⟨c,h1,?_⟩;obtain⟨o,ho,hd⟩:=hc;obtain⟨sl,q⟩:=u.any ho (h.freeC x c e) λz=>(E c z).2.2.2.2.1 x c e rfl;exact⟨_,q,hd⟩
end
section
variable{prog:Program}{R:Result->Shared->Prop}
theorem GU{elt g iter:Expr}{ifs:List Expr}{scope:Scope}{pos:Pos}{it J:Value}{env:Env}(I:Nat->Shared->Prop)
  (O:∀ n s,I n s->wpAny (model prog w) A (pyNext it) (λr l=>match r with
   |none=>R (.ok .next) l
   | some v=>wpAny (model prog w) A (letOwnedTupleGo g it v) (λ_ t=>wpAny (model prog w) A (assign g env v) (λ_ B=>
     wpAny (model prog w) A (forIn ifs true λc r=>if r=true then do let U <-isTrue c env (eval c env);pure (ForInStep.yield U)else pure (ForInStep.yield r)) (λU z=>
      if U=true then wpAny (model prog w) A (eval elt env) (λx C=>
       wpAny (model prog w) A (call (.builtin "list.append") [J,x]) (λ_ D=>∃ m,m<n/\I m D) (λ_ _=>False) C) (λ_ _=>False) z
      else ∃m,m<n/\I m z) (λ_ _=>False) B) (λ_ _=>False) t) (λ_ _=>False) l) (λ_ _=>False) s)
  (n:Nat) (h:I n s):codeAny (model prog w) A (.compLoop (.ListComp elt [⟨g,iter,ifs,0⟩] scope pos) 0 it J env) R s:=by
 refine codeAny_loop rfl I (λn s hI=>?_) n h;show wpAny _ A ((compTurn (.ListComp elt [⟨g,iter,ifs,0⟩] scope pos) 0 it J env).onRaise (λx=>do noteFrame x env;theTreesLotGoes x)) _ _ s;refine wpAny_noted ?_;rw[compTurn_list];refine ag (wpAny_standAt (ag (bU (O n s hI) (λr l E=>?_) λ_ _ h'=>h'.elim)));cases r with
 |none=>exact aD E
 | some v=>
  refine ag (bU E (λ_ t L=>?_) λ_ _ h'=>h'.elim);refine ag (bU L (λ_ B Y=>ag (bU Y (λU z G=>?_) λ_ _ h'=>h'.elim)) λ_ _ h'=>h'.elim);cases U with
  |false=>exact aD ⟨rfl,G⟩
  |true=>
   exact ag (ag (bU G (λx C a0=>ag (bU a0 (λ_ D a1=>aD (aD ⟨rfl,a1⟩)) λ_ _ h'=>h'.elim)) λ_ _ h'=>h'.elim))
end
def Yl(K:Fk)(J:It)(ds:List PyData)(M:Mp)(H:Hp):Prop:=∀ M2 g,Step M H M2 g->∀ i,
 (i<ds.length->J.go i g/\∀x H',J.yld i g x H'->ZR K M2 g->ZR K M2 H' /\Step M2 g M2 H' /\∃d,ds[i]?=some d/\Dt K M2 H' x d)/\(ds.length<=i->J.stop i g)
abbrev GH:=DSt->Mp->(List PyData->Mp->Prop)->Prop
def DI(X:Cx)(tg iter:Expr)(g:GH):Prop:=∃ h,PI X tg iter h/\∀σ H Δ M l (R:It->Hp->Prop),ZR X.K M H->Jy X.K M H σ Δ->g Δ M l->
 (∀J H' M' ds,ZR X.K M' H'->Step M H M' H'->Yl X.K J ds M' H'->l ds M'->R J H')->h σ H R
def mF(te:DTE):GH:=λΔ M g=>te Δ M λx M1=>onL x λds=>g ds M1
def nX(te:DTE):GH:=λΔ M g=>te Δ M λx M1=>onT x λds=>g ds M1
theorem ZU(E:DE X iter te):DI X tg iter (mF te):=by
 obtain⟨t,p,q⟩:=E;refine⟨_,P2 p,λσ H Δ M Y R G I h k=>?_⟩;refine q σ H Δ M _ _ G I h λv J x M1 L st O l=>?_;obtain⟨ds,rfl,B⟩:=(WC l);obtain⟨a,xs,rfl,z,C⟩:=O.lst;refine⟨a,rfl,⟨xs,z.sq⟩,k _ J M1 ds L st (λM2 H2 g i=>⟨λD=>?_,λD=>?_⟩) B⟩
 ·have l:i<xs.length:=by rw[C.length];exact D
  refine⟨⟨xs,xs[i],(z.step g).sq,by simp[l]⟩,λx H' y=>?_⟩;obtain⟨e,y⟩:=y;obtain⟨d,hd,U⟩:=(C.step g).iq (y xs (z.step g).sq);subst e;exact λr=>⟨r,Step.refl,d,hd,U⟩
 ·exact⟨xs,(z.step g).sq,by rw[C.length];exact D⟩
theorem Yc(E:DE X iter te):DI X tg iter (nX te):=by
 obtain⟨t,p,q⟩:=E;refine⟨_,oq p,λσ H Δ M Y R G I h k=>?_⟩;refine q σ H Δ M _ _ G I h λv J x M1 L st O l=>?_;obtain⟨ds,rfl,B⟩:=(XT l);obtain⟨a,xs,rfl,z,C⟩:=O.tup;refine⟨a,rfl,⟨xs,z.sq⟩,k _ J M1 ds L st (λM2 H2 g i=>⟨λD=>?_,λD=>?_⟩) B⟩
 ·have l:i<xs.length:=by rw[C.length];exact D
  refine⟨⟨xs,xs[i],(z.step g).sq,by simp[l]⟩,λx H' y=>?_⟩;obtain⟨e,y⟩:=y;obtain⟨d,hd,U⟩:=(C.step g).iq (y xs (z.step g).sq);subst e;exact λr=>⟨r,Step.refl,d,hd,U⟩
 ·exact⟨xs,(z.step g).sq,by rw[C.length];exact D⟩
noncomputable def WS(lo:Int)(n:Nat):List PyData:=(List.range n).map λ(i:Nat)=>PyData.int (lo+(i:Int))
theorem VR(lo:Int)(n:Nat):(WS lo n).length=n:=by unfold WS;rw[aa,dq]
theorem F9{lo:Int}(h:i<n):(WS lo n)[i]?=some (.int (lo+(i:Int))):=by
 unfold WS;rw[aV,fi h];rfl
theorem yJ(lo:Int)(n:Nat):Yl K (Itr lo n) (WS lo n) M H:=λM2 l h i=>by
 rw[VR];refine⟨λg=>⟨g,λx H' y=>?_⟩,λg=>g⟩;obtain⟨e,y⟩:=y;subst y e;exact λr=>⟨r,Step.refl,_,F9 g,Dt.int _⟩
def my(g:DTA):GH:=λΔ M h=>g Δ M λxs M1=>on1 xs λx=>onI x λj=>InR j/\h (WS 0 j.toNat) M1
theorem KU{a:Expr}{t:DTA}{p z:Pos}(l:Gl X "range")(B:X.mg "range"=none)(C:DA X [a] t)(D:autoParam (starEach [a] X.env=[(false,eval a X.env)]) zz3._auto_1):DI X tg (.Call (.Name "range" p) [a] [] z) (my t):=by
 obtain⟨t1,E,G⟩:=C;refine⟨_,B3 l B E D,λσ H Δ M Ψ R I J h k=>?_⟩;refine G σ H Δ M _ _ I J h λvs L xs M1 O st U g=>?_;obtain⟨x,rfl,g⟩:=(ZP g);obtain⟨j,rfl,⟨Y,h2⟩,r⟩:=(ZJ g);obtain⟨v,rfl,hv⟩:=Paired.one U;exact⟨j,by rw[QE.int hv],Y,h2,k _ L M1 _ O st (yJ 0 j.toNat) r⟩
def CO(h:Bool)(Φ:DK)(g:List PyData)(M:Mp):Prop:=match h with|true=>∀ p,M p=none->Φ (.own p) (Zs M p (.lst g))|false=>Φ (.dat (.list g)) M
def Pw(z:Bool)(r:GH)(ix:List (Option Nat))(g:DTG)(tc:DTT)(te:DTE):DTE:=λΔ M Φ=>r Δ M λds M1=>ds.length<=sizeLine/\∃J:Nat->List PyData->Mp->Prop,J 0 [] M1/\
 (∀i d h M',ds[i]?=some d->J i h M'->g (.dat d) (L8 ix Δ) M' λl M2=>tc l M2 λb t=>if b=true then te l t λy B=>onD y λe=>J (i+1) (h++[e]) B else J (i+1) h t)/\
 ∀h M',J ds.length h M'->CO z Φ h M'
def DTs(X:Cx)(ifs:List Expr)(g:DTT):Prop:=∀(pins:List (Addr×Obj))(s:Shared)(σ:L2.St)(H:Hp)(Δ:DSt)(M:Mp)(Φ:Bool->Mp->Prop),L2.Inv X pins σ H s->ZR X.K M H->Jy X.K M H σ Δ->g Δ M Φ->
 wpAny (model X.prog X.w) X.A (forIn ifs true λc r=>if r=true then do let h <-isTrue c X.env (eval c X.env);pure (ForInStep.yield h)else pure (ForInStep.yield r))
  (λb l=>∃ H' M',L2.Inv X pins σ H' l/\ZR X.K M' H' /\Step M H M' H' /\Φ b M') X.xe s
def lj:DTT:=λ_ M Φ=>Φ true M
theorem Z8:DTs X [] lj:=λpins s σ H Δ M Φ I g l h=>wpAny_tests_nil ⟨H,M,I,g,Step.refl,h⟩
theorem Qo{c:Expr}{g:DTT}(l:DT X c g):DTs X [c] g:=λpins s σ H Δ M Φ I r z h=>by
 obtain⟨t,p,q⟩:=l;refine wpAny_tests_one (thn (p pins s σ H (λb H'=>∃ M',ZR X.K M' H' /\Step M H M' H' /\Φ b M') I (q σ H Δ M Φ _ r z h λb H' M' a c d=>⟨M',a,c,d⟩)) λb C h=>?_);obtain⟨H',B,M',a,c,d⟩:=h;exact⟨H',M',B,a,c,d⟩
def YlG(K:Fk)(J:It)(ds:List PyData)(G:Mp->Prop)(M:Mp)(H:Hp):Prop:=∀ M2 g,Step M H M2 g->ZR K M2 g->G M2->∀ i,
 (i<ds.length->J.go i g/\∀x H',J.yld i g x H'->ZR K M2 g->ZR K M2 H' /\Step M2 g M2 H' /\∃d,ds[i]?=some d/\Dt K M2 H' x d)/\(ds.length<=i->J.stop i g)
abbrev GO:=DSt->Mp->(List PyData->(Mp->Prop)->Mp->Prop)->Prop
def DIG(X:Cx)(tg iter:Expr)(g:GO):Prop:=∃ h,PI X tg iter h/\∀σ H Δ M l (R:It->Hp->Prop),ZR X.K M H->Jy X.K M H σ Δ->g Δ M l->
 (∀J H' M' ds G,ZR X.K M' H'->Step M H M' H'->YlG X.K J ds G M' H'->l ds G M'->R J H')->h σ H R
section
set_option maxHeartbeats 2000000
abbrev wn(ds:List PyData)(G:Mp->Prop)(M1:Mp)(Δ:DSt)(ix:List (Option Nat))(g:DTG)(tc:DTT)(te:DTE)(ψ:List PyData->Mp->Prop):Prop:=ds.length<=sizeLine/\∃J:Nat->List PyData->Mp->Prop,(∀i h M',J i h M'->G M')/\J 0 [] M1/\
 (∀i d h M',ds[i]?=some d->J i h M'->g (.dat d) (L8 ix Δ) M' λl M2=>tc l M2 λb r=>if b=true then te l r λy t=>onD y λe=>J (i+1) (h++[e]) t else J (i+1) h r)/\∀h M',J ds.length h M'->ψ h M'
theorem WX{elt:Expr}{ifs:List Expr}{pos ps:Pos}{e0:GO}{g:DTG}{tc:DTT}{te:DTE}{use:Option (Value->Sem Unit)}{QQ:Value->Shared->Prop}{ψ:List PyData->Mp->Prop}(ok:V1 X scope N ix)(hi:DIG X tg iter e0)
  (hg:∀ C ex s H,DG (Z9 X scope C N ex s H) tg g) (ht:∀ C ex s H,DTs (Z9 X scope C N ex s H) ifs tc) (he:∀ C ex s H,DE (Z9 X scope C N ex s H) elt te) (hc:X.calm=true)
  (hs:∀ x,foldedSetIterable iter X.env x=pure x) {σ:L2.St} {H:Hp} {Δ:DSt} {M:Mp} {pins:List (Addr×Obj)} {s:Shared} (dr:ZR X.K M H) (er:Jy X.K M H σ Δ) (h:e0 Δ M λds G M1=>wn ds G M1 Δ ix g tc te ψ) (I:L2.Inv X pins σ H s)
  (e1:∀(s4:Shared)(C D:Addr)(H':Hp)(M':Mp)(vs:List V)(l:List PyData),L2.Inv X pins σ (upd H' D (.lst vs)) s4->H' D=none->ZR X.K M' H'->Step M H M' H'->Dts X.K M' H' vs l->ψ l M'->(∃m,s4.heap.Ns C m)->Hb X pins (upd H' D (.lst vs)) C->
   compPost (model X.prog X.w) X.A X.xe use QQ (.ref D) C (.ok .next) s4):
  wpAny (model X.prog X.w) X.A (comprehension (.ListComp elt [⟨tg,iter,ifs,0⟩] scope pos) scope X.env ps (newList []) false (eval iter X.env) use) QQ X.xe s:=by
 obtain⟨wi,pi,qi⟩:=hi;refine wpAny_comprehension_free (use:=use) (cl:=Ka X.env scope.names []) rfl hs (K7 (iz ok I)) ok.kind ok.names ?_;show wpAny _ _ (eval iter X.env) _ _ s
 refine thn (pi pins s σ H (λJ H'=>∃ M' ds G,ZR X.K M' H' /\Step M H M' H' /\YlG X.K J ds G M' H' /\ds.length<=sizeLine/\∃W:Nat->List PyData->Mp->Prop,(∀i l M',W i l M'->G M')/\W 0 [] M' /\
   (∀i d l M',ds[i]?=some d->W i l M'->g (.dat d) (L8 ix Δ) M' λe2 M2=>tc e2 M2 λb M3=>if b=true then te e2 M3 λy M4=>onD y λe=>W (i+1) (l++[e]) M4 else W (i+1) l M3)/\
   ∀l M',W ds.length l M'->ψ l M') I (qi σ H Δ M _ _ dr er h λJ H' M' ds G a b c d=>⟨M',ds,G,a,b,c,d⟩)) λx s1 h1=>thn h1 λi4 B h2=>?_
 obtain⟨it,L,tn,J,U,e,I2,T,d2,f2,M1,ds,G,f6,e3,yl,hz,W,wg,w0,wt,wd⟩:=h2;subst e;have e4:∀ b∈L,∃o,B.heap.get? b=some o:=λb t=>let⟨o,q,_⟩:=T.obj 0 _ d2 b t;⟨o,q⟩;refine cG (wpAny_newFunctionEnv ok.cellF (by intro y hy;simp at hy) (λa6 Y E=>?_) ok.kind);dsimp only at Y E⊢;generalize d3:B.heap.push {cls:=.type "list",dict:=none,data:=.seq ([]:List Value).toArray}=HH at Y E⊢;have hC:HH.objs.size=B.heap.objs.size+1:=by rw[<-d3,Heap.size_push]
 have a8:B.heap.objs.size≠HH.objs.size:=by rw[hC];exact bf (e9 _)
 have c1:B.heap.objs.size<=HH.objs.size:=by rw[hC];exact dM _
 have a0:∀ b,b<B.heap.objs.size->b≠HH.objs.size/\b≠B.heap.objs.size:=λb t=>⟨by rw[hC];exact bf (cf t),bf t⟩;have a9:∀ b o,B.heap.get? b=some o->a6.get? b=some o:=λb o e=>E.extBut b o (a0 b (aL e)).1 (am _ (d3▸am _ e));have c2:a6.get? B.heap.objs.size=some {cls:=.type "list",data:=.seq ([]:List Value).toArray}:=E.extBut _ _ a8 (am _ (d3▸aR _ rfl));generalize i5:HH.objs.size=C at*;generalize b8:B.heap.objs.size=D at a8 c2 a0 c1;have b0:B.heap.objs.size<=D:=dR b8;have b9:B.heap.objs.size<=C:=by rw[b8];exact c1
 have fD:∀ b∈L,b≠D/\b≠C:=λb t=>by
  obtain⟨o,q⟩:=e4 b t;exact⟨(a0 b (by rw[<-b8];exact aL q)).2,(a0 b (by rw[<-b8];exact aL q)).1⟩
 have d4:(Z9 X scope C N L B U).Ok:=LU ok I2 f2 e4 b9;have e5:∀ b∈frs X.stack,b<B.heap.objs.size:=λb t=>by
  obtain⟨_,o,ho,_⟩:=I2.stack.mem t;exact aL ho
 have b1:∀ x c,(Z9 X scope C N L B U).env.cells.lookup x=some c->c<B.heap.objs.size/\U c=none:=λx c e=>by
  have e':=(QW (iz ok I2) e).1;obtain⟨v,q⟩:=I2.cell x c e';exact⟨q.lt,I2.freeC x c e'⟩
 have e6:∀{H':Hp}{ps:List (Addr×Obj)},(∀b∈L,H' b=none)->(∀p∈ps,p.1=D)->∀ b∈L,Hb (Z9 X scope C N L B U) ps H' b:=λ{H' ps} hn hp b t=>
  ⟨hn b t,(fD b t).2,d4.exfs b t,.inl t,(d4.exf b t).2,λp f7 z=>by
   have q:p∈ps:=f7;rw[hp p q]at z
   exact(fD b t).1 z.symm⟩
 have b2:∀(o:Obj),∀p∈[(D,o)],p.1=D:=λo p hp=>by
  have q:p=(D,o):=by simpa using hp
  rw[q]
 have b3:∀{ps:List (Addr×Obj)}{e7:L2.St}{H':Hp}{s':Shared}{o:Obj},L2.Inv (Z9 X scope C N L B U) ps e7 H' s'->s'.heap.get? D=some o->H' D=none->(∀v,o.data≠.cell v)->
   L2.Inv (Z9 X scope C N L B U) [(D,o)] (Vz ix σ) H' s':=λ{ps e7 H' s' o} J' hD hn hd=>by
  obtain⟨m,hm,_⟩:=J'.loc;refine⟨J'.ok,J'.os,J'.bare,J'.base,⟨m,hm,λi x v a b _=>EV ok I2 f2 J'.base i x v a b⟩,J'.cell,J'.free,J'.freeC,λp hp=>?_,J'.hok,?_⟩
  ·have q:p=(D,o):=by
    have z:p∈([]:List (Addr×Obj))++[(D,o)]:=hp
    simpa using z
   subst q;exact⟨hD,hn,a8,λz=>absurd (e5 D z) (gF.mpr b0),hd⟩
  ·show(Vz ix σ).length=N.length;unfold Vz;rw[aa,ok.len]
 have start:L2.Inv (Z9 X scope C N L B U) [(D,{cls:=.type "list",data:=.seq ([]:List Value).toArray})] (Vz ix σ) U {B with heap:=a6,toks:=B.toks+([]:List (Str×Value)).length}:=by
  refine⟨d4,rfl,I2.bare,Un.kept a9,⟨_,Y,λi x v a b _=>EV ok I2 f2 (Un.kept a9) i x v a b⟩,λx c e=>?_,I2.hok.fresh b9,λx c e=>(b1 x c e).2,λp hp=>?_,I2.hok.kept a9,?_⟩
  ·obtain⟨v,o,ho,hd⟩:=I2.cell x c (QW (iz ok I2) e).1;exact⟨v,o,a9 c o ho,hd⟩
  ·have q:p=(D,{cls:=.type "list",data:=.seq ([]:List Value).toArray}):=by
    have z:p∈([]:List (Addr×Obj))++[(D,{cls:=.type "list",data:=.seq ([]:List Value).toArray})]:=hp
    simpa using z
   subst q;exact⟨c2,I2.hok.fresh b0,a8,λz=>absurd (e5 D z) (gF.mpr b0),λv z=>nomatch z⟩
  ·show(Vz ix σ).length=N.length;unfold Vz;rw[aa,ok.len]
 have c3:∀ b4:Shared,b4={B with heap:=a6,toks:=B.toks+([]:List (Str×Value)).length}->
   codeAny (model X.prog X.w) X.A (.compLoop (.ListComp elt [⟨tg,iter,ifs,0⟩] scope pos) 0 (.ref it) (.ref D) (compEnvC scope (Ka X.env scope.names []) C X.env)) (compPost (model X.prog X.w) X.A X.xe use QQ (.ref D) C) b4:=by
  rintro b4 rfl
  refine GU (λn s'=>∃(i:Nat)(l:List PyData)(vs:List V)(its:List Value)(nn:Nat)(H':Hp)(M':Mp),L2.Inv (Z9 X scope C N L B U) [(D,{cls:=.type "list",data:=.seq its.toArray nn})] (Vz ix σ) H' s' /\
   tn i s'.heap/\(∀b∈L,H' b=none)/\ZR X.K M' H' /\Step M1 U M' H' /\Vals vs its/\Dts X.K M' H' vs l/\W i l M' /\i<=ds.length/\l.length<=i/\n=ds.length-i) ?_ ds.length
   ⟨0,[],[],[],0,U,M1,start,T.keep _ _ _ d2 (λb _ o e=>a9 b o e),λb t=>(f2 b t).1,f6,Step.refl,.nil,.nil,w0,br _,ak _,rfl⟩
  rintro n s' ⟨i,l,vs,its,nn,H',M',IY,ti,fr,b5,O,rv,rd,d5,i6,i7,rfl⟩;have i3:=IY.pin (D,{cls:=.type "list",data:=.seq its.toArray nn}) (by simp);have e8:=e6 (ps:=[(D,{cls:=.type "list",data:=.seq its.toArray nn})]) fr (b2 _);obtain⟨f8,d6⟩:=yl M' H' O b5 (wg i l M' d5) i
  by_cases d7:i<ds.length
  ·obtain⟨f9,g0⟩:=f8 d7;refine thn (T.item (Z9 X scope C N L B U) rfl rfl rfl hc i _ s' (Vz ix σ) H' (λ_ _=>False) IY e8 ti f9) λr s4 z0=>?_;obtain⟨u,hr,h4⟩:=z0;subst hr;refine thn h4 λ_ s5 z1=>?_;obtain⟨x,H5,I5,r5,y5,d8,g1⟩:=z1;obtain⟨g2,c4,d,hd,g3⟩:=g0 x H5 y5 b5;replace b5:=g2;replace O:=O.trans c4;replace rd:=rd.step c4;have g4:=I5.pinned (e6 (ps:=[(D,{cls:=.type "list",data:=.seq its.toArray nn})]) g1 (b2 _)) (T.obj _ _ d8);obtain⟨i8,pg,qg⟩:=hg C L B U
   refine thn (pg _ s5 (Vz ix σ) H5 x u (λa7 H6=>∃ a5 M6,ZR X.K M6 H6/\Step M' H5 M6 H6/\Jy X.K M6 H6 a7 a5/\tc a5 M6 λb M3=>if b=true then te a5 M3 λy M4=>onD y λe=>W (i+1) (l++[e]) M4 else W (i+1) l M3) g4 r5
    (qg x (Vz ix σ) H5 (.dat d) (L8 ix Δ) M' _ _ b5 ((er.step (e3.trans O)).cap ix) g3 (wt i d l M' hd d5) λa7 H6 a5 M6 a b c d=>⟨a5,M6,a,b,c,d⟩)) λ_ s6 w0=>?_
   obtain⟨a7,H6,I6,a5,M6,g5,c5,f0,q6⟩:=w0;refine thn (ht C L B U _ s6 a7 H6 a5 M6 _ I6 g5 f0 q6) λb s7 z2=>?_;obtain⟨H7,M7,I7,f1,b6,q7⟩:=z2;have b7:∀{f3:L2.St}{Hz:Hp}{sz:Shared},L2.Inv (Z9 X scope C N L B U) ([(D,{cls:=.type "list",data:=.seq its.toArray nn})]++BM L s5.heap) f3 Hz sz->
     sz.heap.get? D=some {cls:=.type "list",data:=.seq its.toArray nn}/\Hz D=none/\tn (i+1) sz.heap/\∀b∈L,Hz b=none:=λ{f3 Hz sz} Iz=>by
    have a:=Iz.pin (D,{cls:=.type "list",data:=.seq its.toArray nn}) (by simp);refine⟨a.1,a.2.1,T.keep _ _ _ d8 λb t o e=>(Iz.pin (b,o) (ay _ (ay _ (VI t e)))).1,λb t=>?_⟩;obtain⟨o,e,_⟩:=T.obj _ _ d8 b t;exact(Iz.pin (b,o) (ay _ (ay _ (VI t e)))).2.1
   cases b with
   |false=>
    have d9:W (i+1) l M7:=by simpa using q7
    obtain⟨a1,a2,a3,a4⟩:=b7 I7;have d0:Step M' H5 M7 H7:=c5.trans b6;exact⟨ds.length-(i+1),by omega,i+1,l,vs,its,nn,H7,M7,b3 I7 a1 a2 (λv z=>nomatch z),a3,a4,f1,O.trans d0,rv,rd.step d0,d9,d7,by omega,rfl⟩
   | true=>
    have d9:te a5 M7 λy M4=>onD y λe=>W (i+1) (l++[e]) M4:=by simpa using q7
    obtain⟨i9,g6,h0⟩:=he C L B U
    refine thn (g6 _ s7 a7 H7 (λv H8=>∃ e M8,ZR X.K M8 H8/\Step M7 H7 M8 H8/\Dt X.K M8 H8 v e/\W (i+1) (l++[e]) M8) I7 (h0 a7 H7 a5 M7 _ _ f1 (f0.step b6) d9 λv H8 x8 M8 a b c d=>by
     obtain⟨e,rfl,w8⟩:=(QD d)
     exact⟨e,M8,a,b,c,w8⟩)) λy s8 w0=>?_
    obtain⟨v,H8,I8,r8,e,M8,h3,f4,h5,w8⟩:=w0;obtain⟨a1,a2,a3,a4⟩:=b7 I8;have d1:Step M' H5 M8 H8:=c5.trans (b6.trans f4);have lv:=rv.length;have ld:=rd.length;refine fG PySem.F.slot_list_append ⟨_,a1,rfl⟩ PySem.F.entry_list_append (PySem.F.args_list_append_2 _ _) (PySem.list_append D its.toArray nn y (by rw[aQ];omega)) ⟨a1,?_⟩;have q:=PySem.IsL.update a1 (·.push y);have h6:L2.Inv (Z9 X scope C N L B U) [] a7 H8 s8:=I8.Xs λp hp=>nomatch hp;have I9:=h6.turned (it:=D) (h':=s8.heap.update D (Obj.mapSeq (·.push y))) (t':=s8.toks) (λb o t hu=>(cH s8.heap (Obj.mapSeq (·.push y)) (be t)).trans hu) a2 a8 (.inr b0)
     (λx c e z=>absurd (z▸(b1 x c e).1) (gF.mpr b0)) (λp hp=>by have z:p∈([]:List (Addr×Obj))++[]:=hp;simp at z)
    have ea:(its.toArray.push y)=(its++[y]).toArray:=by simp
    rw[ea]at q
    refine⟨ds.length-(i+1),by omega,i+1,l++[e],vs++[v],its++[y],_,H8,M8,b3 I9 q a2 (λv z=>nomatch z),T.keep _ _ _ a3 (λb t o e=>(cH s8.heap (Obj.mapSeq (·.push y)) (be (fD b t).1)).trans e),a4,h3,O.trans d1,
     rv.append (.cons r8 .nil),(rd.step d1).append (.cons h5 .nil),w8,d7,by rw[aB,cP];omega,rfl⟩
  ·have h7:i=ds.length:=by omega
   refine thn (T.done (Z9 X scope C N L B U) rfl rfl rfl hc i _ s' (Vz ix σ) H' (λ_ _=>False) IY e8 ti (d6 (by omega))) λr s4 z3=>?_;obtain⟨hr,I4⟩:=z3;subst hr;obtain⟨m4,h8,_⟩:=I4.loc;have pD:=I4.pin (D,{cls:=.type "list",data:=.seq its.toArray nn}) (by simp);have h9:H' C=none:=I4.free;have i0:H' D=none:=pD.2.1;have f5:HOk X.prog X.w (upd H' D (.lst vs)) s4.heap:=λb u e=>by
    by_cases t:b=D
    ·subst t;rw[Z0]at e;cases e;exact⟨by have:=rv.length;have:=rd.length;omega,its,nn,rv,pD.1⟩
    ·rw[ZH t]at e;refine(I4.hok b u e).stay (λc v j0 q=>q) (λc q=>?_) λc xs q=>?_
     ·rw[ZH (ZL q pD.2.1)];exact q
     ·rw[ZH (ZL q pD.2.1)];exact q
   have bu:Un (frs X.stack) L U H' B.heap s4.heap:=I4.base;have i1:Un (frs X.stack) L U (upd H' D (.lst vs)) B.heap s4.heap:=by
    have nD:∀ b o,B.heap.get? b=some o->b≠D/\b≠C:=λb o e=>⟨λz=>absurd (z▸aL e) (gF.mpr b0),λz=>absurd (z▸aL e) (gF.mpr b9)⟩;refine⟨λb o e n t hx=>bu.keep b o e n t hx,λb o e n t hx=>bu.slot b o e n t hx,λb o e n hx=>by rw[ZH (nD b o e).1];exact bu.free b o e n hx,λb o e hx=>bu.there b o e hx,λb xs e=>?_,λb o xs e=>?_,λb ps e=>?_⟩
    ·have q:=bu.tups b xs e;rw[ZH (ZL q pD.2.1)];exact q
    ·have q:=bu.frzs b o xs e;rw[ZH (ZL q pD.2.1)];exact q
    ·obtain⟨mo,q⟩:=bu.tbls b ps e;exact⟨mo,by rw[ZH (ZL q pD.2.1)];exact q⟩
   have i2:s4.os=B.os:=I4.os;have IX:L2.Inv X pins σ (upd H' D (.lst vs)) s4:=I2.rL (s':=s4) i2 i1 f5 I4.bare λb t=>⟨(f2 b t).2.2.2.1,(f2 b t).2.1,(f2 b t).2.2.2.2.1,(f2 b t).2.2.2.2.2⟩;subst h7;exact e1 s4 C D H' M' vs l IX i0 b5 (e3.trans O) rd (wd l M' d5) ⟨m4,h8⟩ (I2.eH b9 (by rw[ZH (be a8)];exact h9))
 have c0:tn 0 a6:=T.keep _ _ _ d2 λb _ o e=>a9 b o e;exact codeAny_compStart_list (c3 _ rfl) (T.self _ 0 _ _ _ c0 (c3 _ rfl))
theorem rR{h:Heap}{C:Addr}{m:Str->Option Value}(n:h.Ns C m)(k:∀ o,h.get? C=some o->h'.get? C=some o):h'.Ns C m:=by
 obtain⟨o,g,l,t,r⟩:=n;exact⟨o,g,l,k o t,r⟩
theorem gone{σ:L2.St}{C:Addr}(I:L2.Inv X pins σ H s)(f:Hb X pins H C)(g:Heap.SameBut C s.heap h'):L2.Inv X pins σ H {s with heap:=h'}:=
 I.turned (t':=s.toks) (λb o h e=>g.extBut b o h e) f.1 f.2.1 f.2.2.2.1 f.2.2.2.2.1 f.2.2.2.2.2
theorem xm{z:Bool}{Q:VK}{D:Addr}{l:List PyData}(r:ZR X.K M' H')(st:Step M H M' H')(rd:Dts X.K M' H' vs l)(g:H' D=none)(t:CO z Φ l M')(k:Rch X.K M H Φ Q):Q (.ref D) (upd H' D (.lst vs)):=by
 cases z with
 |true=>
  have h:∀ p,M' p=none->Φ (.own p) (Zs M' p (.lst l)):=by simpa[CO]using t
  exact k _ _ (.own D) _ (r.XM (Step.Qp g) rd) (st.trans (Step.Qp g)) rfl (h D (r.tracked g))
 |false=>
  have h:Φ (.dat (.list l)) M':=by simpa[CO]using t
  exact k.dat (r.new g) (st.trans (Step.new g)) (Dt.JG r g rd) h
def Cf(z:Bool)(r:GO)(ix:List (Option Nat))(g:DTG)(tc:DTT)(te:DTE):DTE:=λΔ M Φ=>r Δ M λds G M1=>ds.length<=sizeLine/\∃J:Nat->List PyData->Mp->Prop,(∀i h M',J i h M'->G M')/\J 0 [] M1/\
 (∀i d h M',ds[i]?=some d->J i h M'->g (.dat d) (L8 ix Δ) M' λl M2=>tc l M2 λb t=>if b=true then te l t λy B=>onD y λe=>J (i+1) (h++[e]) B else J (i+1) h t)/\∀h M',J ds.length h M'->CO z Φ h M'
theorem u4(G:Bool){elt:Expr}{ifs:List Expr}{pos:Pos}{l:GO}{g:DTG}{tc:DTT}{te:DTE}(J:V1 X scope N ix)(L:DIG X tg iter l)
  (O:∀ C ex s H,DG (Z9 X scope C N ex s H) tg g) (U:∀ C ex s H,DTs (Z9 X scope C N ex s H) ifs tc) (Y:∀ C ex s H,DE (Z9 X scope C N ex s H) elt te) (hc:X.calm=true)
  (hs:autoParam (∀x,foldedSetIterable iter X.env x=pure x) zz2._auto_1):DE X (.ListComp elt [⟨tg,iter,ifs,0⟩] scope pos) (Cf G l ix g tc te):=by
 refine⟨λσ H Q=>∀ pins s,L2.Inv X pins σ H s->wpAny (model X.prog X.w) X.A (eval (.ListComp elt [⟨tg,iter,ifs,0⟩] scope pos) X.env) (EP X pins σ Q) X.xe s,λpins s σ H Q I h=>h pins s I,λσ H Δ M Φ Q dr er h k pins s I=>?_⟩;rw[eval_ListComp];refine WX (ψ:=CO G Φ) J L O U Y hc hs dr er h I λs4 C D H' M' vs a0 IX r t st rd z B f=>?_;obtain⟨m,B⟩:=B;exact⟨m,B,λh' E=>⟨.ref D,_,gone IX f E,rfl,xm t st rd r z k⟩⟩
theorem vB(i:Nat)(ow:Bool){x:Str}{l B:Pos}(hN:X.N.Nodup){elt:Expr}{ifs:List Expr}{pos:Pos}{a0:GO}{g:DTG}{tc:DTT}{te:DTE}(ok:V1 X scope N ix)(hi:DIG X tg iter a0)
  (hg:∀ C ex s H,DG (Z9 X scope C N ex s H) tg g) (ht:∀ C ex s H,DTs (Z9 X scope C N ex s H) ifs tc) (he:∀ C ex s H,DE (Z9 X scope C N ex s H) elt te) (hc:X.calm=true)
  (hs:autoParam (∀x,foldedSetIterable iter X.env x=pure x) zz2._auto_1) (a4:autoParam (X.N[i]?=some x) zz3._auto_1) (hx:autoParam (Loc X.env.scope x) zz7._auto_1)
  (a5:autoParam (swapsWith (.ListComp elt [⟨tg,iter,ifs,0⟩] scope pos) (some (.Name x l)) B.line X.env=pure true) zz3._auto_1)
  (hf:autoParam (X.fn x=true\/X.env.scope.names.lookup x=some .local) zz0._auto_1):
  DS X (.Assign [.Name x l] (.ListComp elt [⟨tg,iter,ifs,0⟩] scope pos) B) (ic (Cf ow a0 ix g tc te) (BA i)):=by
 refine⟨λE σ H=>∀ pins s,L2.Inv X pins σ H s->wpAny (model X.prog X.w) X.A (exec (.Assign [.Name x l] (.ListComp elt [⟨tg,iter,ifs,0⟩] scope pos) B) X.env) (SP X pins E) X.xe s,λpins s σ H E I h=>h pins s I,λσ H Δ M D E dr er h k pins s I=>?_⟩;rw[exec_Assign_Name_used _ _ _ _ a5];refine ag (wpAny_standAt (ag ?_));show wpAny _ _ (do let _ <-comprehension (.ListComp elt [⟨tg,iter,ifs,0⟩] scope pos) scope X.env _ (newList []) false (eval iter X.env) (some (assign (.Name x l) X.env))) _ _ s
 refine ag (bU (WX (QQ:=λ_ s'=>SP X pins E .next s') (use:=some (assign (.Name x l) X.env)) (ψ:=CO ow λy M1=>D.nx (Δ.set i (some y)) M1) ok hi hg ht he hc hs dr er h I λs4 C r H' M' vs O IX t U st rd a1 hm f=>?_)
  (λ_ s' hq=>aD (aD hq)) λ_ _ e=>e)
 obtain⟨m,hm⟩:=hm;have a6:=hm;obtain⟨oC,es,ep,a2,a7,b0⟩:=a6;have IP:L2.Inv X (pins++[(C,oC)]) σ (upd H' r (.lst vs)) s4:=IX.Xs λp Y=>by
  rcases ax.mp Y with Y|Y
  ·exact IX.pin p (ay _ Y)
  ·rw[au.mp Y];exact⟨a2,f.1,f.2.1,f.2.2.1,λv z=>nomatch(a7.symm.trans z)⟩
 have a8:∀ Q':L2.St->Hp->Prop,(Q' (σ.set i (some (.ref r))) (upd H' r (.lst vs)))->wpAny (model X.prog X.w) X.A (assign (.Name x l) X.env (.ref r)) (λ_ s'=>∃ G H',L2.Inv X (pins++[(C,oC)]) G H' s' /\Q' G H') X.xe s4:=λQ' hq=>
  Tb (pos:=l) hN a4 hx hf _ s4 σ _ (.ref r) (.ref r) Q' IP rfl hq
 have kq:E.nx (σ.set i (some (.ref r))) (upd H' r (.lst vs)):=by
  cases ow with
  |true=>
   have J:∀ p,M' p=none->D.nx (Δ.set i (some (.own p))) (Zs M' p (.lst O)):=by simpa[CO]using a1
   have L:Step M H (Zs M' r (.lst O)) (upd H' r (.lst vs)):=st.trans (Step.Qp t);exact k.nx _ _ _ _ (U.XM (Step.Qp t) rd) L ((er.step L).set (v:=.ref r) (x:=.own r) rfl) (J r (U.tracked t))
  |false=>
   have J:D.nx (Δ.set i (some (.dat (.list O)))) M':=by simpa[CO]using a1
   have L:Step M H M' (upd H' r (.lst vs)):=st.trans (Step.new t);exact k.nx _ _ _ _ (U.new t) L ((er.step L).set (v:=.ref r) (x:=.dat (.list O)) (Dt.JG U t rd)) J
 show wpAny _ _ (assign (.Name x l) X.env (.ref r)) _ _ s4;refine thn (a8 (λG H'=>G=σ.set i (some (.ref r))/\E.nx G H') ⟨rfl,kq⟩) λ_ s5 ⟨a3,H5,I5,_,q5⟩=>?_;have p5:=I5.pin (C,oC) (by simp);refine⟨m,rR hm λo ho=>?_,λh' a9=>⟨a3,H5,?_,q5⟩⟩
 ·rw[a2]at ho;cases ho;exact p5.1
 ·have I6:L2.Inv X pins a3 H5 s5:=I5.Xs λp Y=>I5.pin p (ay _ (bh _ Y));exact gone I6 ⟨p5.2.1,f.2⟩ a9
def toG(g:GH):GO:=λΔ M h=>g Δ M λds M1=>h ds (λ_=>True) M1
theorem DI.toG{g:GH}(h:DI X tg iter g):DIG X tg iter (toG g):=by
 obtain⟨l,p,q⟩:=h;exact⟨l,p,λσ H Δ M C R r t z k=>q σ H Δ M _ R r t z λJ H' M' ds a b c d=>k J H' M' ds _ a b (λM2 B st _ _=>c M2 B st) d⟩
theorem N1(l:Bool)(h:GH)(ix:List (Option Nat))(g:DTG)(tc:DTT)(te:DTE):Pw l h ix g tc te=Cf l (toG h) ix g tc te:=by
 funext Δ M Φ
 unfold Pw Cf toG;simp only[implies_true,true_and]
theorem ZI(l:Bool){elt:Expr}{ifs:List Expr}{pos:Pos}{h:GH}{g:DTG}{tc:DTT}{te:DTE}(r:V1 X scope N ix)(t:DI X tg iter h)
  (z:∀ C ex s H,DG (Z9 X scope C N ex s H) tg g) (B:∀ C ex s H,DTs (Z9 X scope C N ex s H) ifs tc) (D:∀ C ex s H,DE (Z9 X scope C N ex s H) elt te) (E:X.calm=true)
  (G:autoParam (∀x,foldedSetIterable iter X.env x=pure x) zz2._auto_1):DE X (.ListComp elt [⟨tg,iter,ifs,0⟩] scope pos) (Pw l h ix g tc te):=by
 rw[N1];exact u4 l r t.toG z B D E G
theorem Yr(i:Nat)(B:Bool){x:Str}{h l:Pos}(D:X.N.Nodup){elt:Expr}{ifs:List Expr}{pos:Pos}{r:GH}{g:DTG}{tc:DTT}{te:DTE}(E:V1 X scope N ix)(G:DI X tg iter r)
  (I:∀ C ex s H,DG (Z9 X scope C N ex s H) tg g) (J:∀ C ex s H,DTs (Z9 X scope C N ex s H) ifs tc) (L:∀ C ex s H,DE (Z9 X scope C N ex s H) elt te) (O:X.calm=true)
  (U:autoParam (∀x,foldedSetIterable iter X.env x=pure x) zz2._auto_1) (t:autoParam (X.N[i]?=some x) zz3._auto_1) (Y:autoParam (Loc X.env.scope x) zz7._auto_1)
  (z:autoParam (swapsWith (.ListComp elt [⟨tg,iter,ifs,0⟩] scope pos) (some (.Name x h)) l.line X.env=pure true) zz3._auto_1)
  (hf:autoParam (X.fn x=true\/X.env.scope.names.lookup x=some .local) zz0._auto_1):
  DS X (.Assign [.Name x h] (.ListComp elt [⟨tg,iter,ifs,0⟩] scope pos) l) (ic (Pw B r ix g tc te) (BA i)):=by
 rw[N1];exact vB i B D E G.toG I J L O U t Y z hf
end
def V7(xs:List DV)(M:Mp)(ns:List Int):Prop:=xs=[.dat (.list (ns.map PyData.int))]\/∃l,xs=[.own l]/\M l=some (.lst (ns.map PyData.int))
theorem V7.sq{ns:List Int}(h:V7 xs M ns)(r:ZR X.K M H)(B:JQ X.K M H vs xs):∃ p,vs=[.ref p]/\SqL X.K H p (ns.map V.int):=by
 rcases h with rfl|⟨l,rfl,C⟩
 ·obtain⟨v,rfl,t⟩:=Paired.one B;obtain⟨p,D,rfl,g,z⟩:=QE.lst t;rw[Xn z]at g;exact⟨p,rfl,g.sq⟩
 ·obtain⟨v,rfl,t⟩:=Paired.one B;cases(show v=.ref l from t);obtain⟨E,g,z⟩:=r.ls l _ C;rw[Xn z]at g;exact⟨l,rfl,SqL.of g⟩
theorem MX(E:X.calm=true):JA X (.builtin "min") (λxs H Q=>∃(p:Addr)(ns:List Int),xs=[.ref p]/\SqL X.K H p (ns.map V.int)/\0<ns.length/\∀m∈ns,(∀a∈ns,m<=a)->Q (.int m) H):=by
 intro pins s σ H xs us Q I r h;obtain⟨p,ns,rfl,G,J,q⟩:=h;obtain⟨u,rfl,L⟩:=vals1 r;cases L;obtain⟨its,O,U,hz⟩:=I.list G;have z:IntsAre its ns:=intsAre_of O;obtain⟨xs,e⟩:=z.allInts.items;have g:ns=xs.toList.map (·.1):=by rw[<-z.numsOf,<-nums_intItems,<-e]
 have l:0<xs.size:=by
  have B:=J;rw[g,aa,aS]at B;exact B
 have C:=U.isList;rw[e]at C;refine min_intList (I.ok.hd E) C l λv h' tk Y hk=>?_;obtain⟨t,rfl⟩:=intItems_at Y;obtain⟨h1,h2⟩:=argBest_lt (numAt xs) (xs.size-1);refine⟨.int _,H,I.kept hk,⟨t,rfl⟩,q _ ?_ λa D=>?_⟩
 ·rw[g,numAt_eq];exact getD_mem (by rw[aa,aS];omega)
 ·rw[g]at D;obtain⟨j,hj,rfl⟩:=mem_getD D;rw[aa,aS]at hj;rw[<-numAt_eq];exact h2 j (by omega)
def nZ:D1:=λxs M Φ=>∃ g:List Int,V7 xs M g/\0<g.length/\∀m∈g,(∀a∈g,m<=a)->Φ (.dat (.int m)) M
theorem sJ(g:X.calm=true):J6 X (.builtin "min") nZ:=by
 refine⟨_,MX g,λvs H xs M Φ Q r l h k=>?_⟩;obtain⟨t,z,B,q⟩:=h;obtain⟨p,rfl,C⟩:=z.sq r l;exact⟨p,t,rfl,C,B,λm a b=>k.dat r Step.refl (Dt.int m) (q m a b)⟩
theorem Paired.three{t z:Type}{F:t->z->Prop}{l:List t}{b c d:z}(h:Paired F l [b,c,d]):∃ a r g,l=[a,r,g]/\F a b/\F r c/\F g d:=by
 cases h with
 |cons B C=>
  obtain⟨a,r,rfl,D,E⟩:=Paired.two C;exact⟨_,a,r,rfl,B,D,E⟩
def δ3I(g:Int->Int->Int->Int):D1:=λxs M Φ=>on3 xs λx y z=>onI x λi=>onI y λj=>onI z λl=>Φ (.dat (.int (g i j l))) M
theorem Po(B:X.calm=true):JA X (.builtin "max") (λxs H Q=>∃ i j l,xs=[.int i,.int j,.int l]/\Q (.int (max i (max j l))) H):=by
 intro pins s σ H xs us Q I r h;obtain⟨i,j,l,rfl,q⟩:=h;obtain⟨u,O⟩:∃ u,us=u:=⟨us,rfl⟩
 cases r with
 | cons C D=>
  obtain⟨U,Y,rfl,E,G⟩:=vals2 D;obtain⟨J,rfl⟩:=C;obtain⟨L,rfl⟩:=E;obtain⟨t,rfl⟩:=G;refine max_three_ints (I.ok.hd B) λh' tk k=>⟨.int (max i (max j l)),H,I.kept k,?_,q⟩
  by_cases z:j>i
  ·rw[aw z]
   by_cases g:l>j
   ·rw[aw g];exact⟨t,by rw[show max i (max j l)=l by lia]⟩
   ·rw[ao g];exact⟨L,by rw[show max i (max j l)=j by lia]⟩
  ·rw[ao z]
   by_cases g:l>i
   ·rw[aw g];exact⟨t,by rw[show max i (max j l)=l by lia]⟩
   ·rw[ao g];exact⟨J,by rw[show max i (max j l)=i by lia]⟩
theorem qJ(g:X.calm=true):J6 X (.builtin "max") (δ3I λi j l=>max i (max j l)):=by
 refine⟨_,Po g,λvs H xs M Φ Q r t h k=>?_⟩;obtain⟨x,y,z,rfl,h⟩:=(QA h);obtain⟨i,rfl,h⟩:=(ZJ h);obtain⟨j,rfl,h⟩:=(ZJ h);obtain⟨l,rfl,q⟩:=(ZJ h);obtain⟨v,u,E,rfl,B,C,D⟩:=Paired.three t;exact⟨i,j,l,by rw[QE.int B,QE.int C,QE.int D],k.dat r Step.refl (Dt.int _) q⟩
def N2:D1:=λxs M Φ=>on1 xs λx=>onQ x M λds=>Φ (.dat (.tuple ds)) M
theorem Jm:J6 X (.type "tuple") N2:=by
 refine⟨_,Gd,λvs H xs M Φ Q r C h k=>?_⟩;obtain⟨x,rfl,h⟩:=(ZP h);obtain⟨ds,G,q⟩:=(Fb h);have D:x=.dat (.list ds)\/x=.dat (.tuple ds)\/∃l,x=.own l/\M l=some (.lst ds):=by
  rcases G with a|a|a
  ·exact .inr (.inl a)
  ·exact .inl a
  ·exact .inr (.inr a)
 rcases D with rfl|rfl|⟨l,rfl,I⟩
 ·obtain⟨v,rfl,z⟩:=Paired.one C;obtain⟨p,E,rfl,t,B⟩:=QE.lst z;exact⟨p,E,rfl,.inl ⟨t.sq,λl g=>k.dat (r.new g) (Step.new g) (Dt.GV r g B) q⟩⟩
 ·obtain⟨v,rfl,z⟩:=Paired.one C;obtain⟨p,E,rfl,t,B⟩:=QE.tup z;exact⟨p,E,rfl,.inr ⟨t.sq,k.dat r Step.refl (Dt.tup t B) q⟩⟩
 ·obtain⟨v,rfl,z⟩:=Paired.one C;cases(show v=.ref l from z);obtain⟨J,t,B⟩:=r.ls l _ I;exact⟨l,J,rfl,.inl ⟨SqL.of t,λl g=>k.dat (r.new g) (Step.new g) (Dt.GV r g B) q⟩⟩
theorem lh(J:X.A.units+66<cLine):OpR X (compareOp .In) (λx y H Q=>∃ M d ds,Dt X.K M H x d/\(Dt X.K M H y (.list ds)\/Dt X.K M H y (.tuple ds))/\d.canLay0=true/\PyData.canLayAll0 ds=true/\d.depth<=64/\Q (.bl (ds.any λe=>PyData.eqv e d)) H):=by
 intro pins s σ H x y v u Q I C r h;obtain⟨M,d,ds,D,g,t,z,E,q⟩:=h;obtain⟨L,B,_⟩:=D.reads I C
 rcases g with g|g
 ·obtain⟨G,l,_⟩:=g.reads I r;exact PySem.SeqAt.in_list_reads l B z t (by have:=eZ (PyData.depthAll ds) d.depth;lia) ⟨.bl _,H,I,rfl,q⟩
 ·obtain⟨G,l,_⟩:=g.reads I r;exact PySem.SeqAt.in_tuple_reads l B z t (by have:=eZ (PyData.depthAll ds) d.depth;lia) ⟨.bl _,H,I,rfl,q⟩
def onW(x:DV)(P:List PyData->Prop):Prop:=match x with| .dat (.tuple ds)=>P ds| .dat (.list ds)=>P ds|_=>False
theorem oR{x:DV}{P:List PyData->Prop}(h:onW x P):∃ ds,(x=.dat (.list ds)\/x=.dat (.tuple ds))/\P ds:=by
 cases x with
 |dat d=>cases d<;>first|exact⟨_,.inr rfl,h⟩|exact⟨_,.inl rfl,h⟩|exact False.elim h
 |_=>exact False.elim h
noncomputable def okIn(d:PyData)(ds:List PyData):Bool:=d.canLay0&&PyData.canLayAll0 ds&&Nat.ble d.depth 64
theorem Ex(h:okIn d ds=true):d.canLay0=true/\PyData.canLayAll0 ds=true/\d.depth<=64:=by
 unfold okIn at h;simp only[Bool.and_eq_true]at h;exact⟨h.1.1,h.1.2,eD h.2⟩
def δIn:D2:=λx y M Φ=>onD x λd=>onW y λds=>okIn d ds=true/\Φ (.dat (.bool (ds.any λe=>PyData.eqv e d))) M
theorem jl{k:Nat}(t:QL k X.A):OpD X (compareOp .In) δIn:=
 ⟨_,lh (by have:=t.un;lia),λv u H x y M Φ Q r z l h k=>by
  obtain⟨d,B,h⟩:=QD h;obtain⟨ds,C,D,q⟩:=oR h;obtain⟨E,G,g⟩:=Ex D;subst B;refine⟨M,d,ds,z,?_,E,G,g,k.dat r Step.refl (Dt.bl _) q⟩
  rcases C with rfl|rfl
  ·exact .inl l
  ·exact .inr l⟩
def NP(h te:DTE):DTE:=λΔ M Φ=>h Δ M λx M1=>onO x λl=>Vi (M1 l) λ_=>te Δ M1 λy M2=>onO y λb=>Vi (M2 l) λds=>Vi (M2 b) λg=>b≠l/\ds.length+g.length<=sizeLine/\Φ (.dat .none) (Q4 (Zs M2 l (.lst (ds++g))) b)
theorem Js{o:Expr}{U:DTE}{apos cpos:Pos}(G:DE X o U)(he:DE X e te)(B:autoParam (attributeBase o "extend" X.env (eval o X.env)=eval o X.env) zz3._auto_1)
  (D:((backTo cpos (starEach [e] X.env)).all (λx=>!x.1)&&(backToKw cpos (keywordEach [] X.env)).all (λx=>x.1.isSome)
   &&decide ([e].length+([]:List Keyword).length+(if([]:List Keyword).isEmpty then 0 else 1)<30))=true:=by rfl)
  (C:autoParam ((apos.endLine==cpos.line)=true) zz3._auto_1) (Y:autoParam (starEach [e] X.env=(false,eval e X.env)::starEach [] X.env) zz3._auto_1) (t:autoParam ((backTo cpos (starEach [] X.env)).any (·.1)=false) zz3._auto_1):
  DE X (.Call (.Attribute o "extend" apos) [e] [] cpos) (NP U te):=by
 obtain⟨t1,p1,q1⟩:=G;obtain⟨t2,p2,q2⟩:=he;refine⟨_,iK fK PySem.F.slot_list_extend PySem.F.type_list_extend Pa p1 (Yy p2 WN Y) B D C Y t,λσ H Δ M Φ Q r e h k=>?_⟩;refine q1 σ H Δ M _ _ r e h λv H1 x M1 r1 st rv z=>?_;obtain⟨l,rfl,z⟩:=(ZM z);obtain⟨oo,G,z⟩:=(Jd z);cases(show v=.ref l from rv);have ty:tyV X.K "list" (.ref l) H1:=by
  obtain⟨vs,I,_⟩:=r1.ls l oo G;exact .inl ⟨rfl,vs,SqL.of I⟩
 refine⟨ty,q2 σ H1 Δ M1 _ _ r1 (e.step st) z λw H2 y M2 J L O g=>?_⟩;obtain⟨b,rfl,g⟩:=(ZM g);obtain⟨ds,hm,g⟩:=(Jd g);obtain⟨es,hb,a0,hz,g⟩:=(Jd g);cases(show w=.ref b from O);obtain⟨vs,I,g2⟩:=J.ls l ds hm;obtain⟨ws,g3,g4⟩:=J.ls b es hb;have E:Step M2 H2 (Zs M2 l (.lst (ds++es))) (upd H2 l (.lst (vs++ws))):=Step.Vb hm;refine⟨l,b,vs,ws,rfl,rfl,I,g3,by rw[g2.length,g4.length];exact hz,?_⟩;exact k.dat (J.XM E (g2.append g4)).frz (st.trans (L.trans (E.trans Step.frz))) Dt.non g
theorem yP{a b:Expr}{body:List Stmt}{g:DTG}{G:DTS}{pos:Pos}{I:DTA}{p t:Pos}(z:Gl X "range")(J:X.mg "range"=none)(L:DA X [a,b] I)(O:DG X tg g)(U:DSs X body G)(Y:PassesOwn (model X.prog X.w) X.A X.env X.xe)(hc:X.calm=true)
  (hs:autoParam (starEach [a,b] X.env=[(false,eval a X.env),(false,eval b X.env)]) zz3._auto_1) (B:autoParam (starEach [b] X.env=[(false,eval b X.env)]) zz3._auto_1) (C:autoParam (∀x,foldedSetIterable (.Call (.Name "range" p) [a,b] [] t) X.env x=pure x) zz2._auto_1):
  DS X (.For tg (.Call (.Name "range" p) [a,b] [] t) body [] pos) (oM I g G):=by
 obtain⟨t1,p1,q1⟩:=L;obtain⟨t2,t,q2⟩:=O;obtain⟨t3,p3,q3⟩:=U;refine⟨_,HG Y hc (Sw z J p1 hs B) t p3 C,λσ H Δ M D E r e h k=>?_⟩;refine q1 σ H Δ M _ _ r e h λvs H1 xs M1 r1 st rv l=>?_;obtain⟨xx,yy,rfl,l⟩:=(Zz l);obtain⟨i,rfl,l⟩:=(ZJ l);obtain⟨j,rfl,⟨⟨a1,a2⟩,a3,a4⟩,l⟩:=(ZJ l);have h1:-(2^62)<=i/\i<2^62/\ -(2^62)<=j/\j<2^62:=⟨a1,a2,a3,a4⟩
 obtain⟨v,u,rfl,hv,hu⟩:=Paired.two rv;exact⟨i,j,by rw[QE.int hv,QE.int hu],h1,kI q2 q3 r1 (e.step st) l (k.step st)⟩
noncomputable def X7(scope sc:Scope):List (Str×NameKind):=scope.names.map λ(n,k)=>if(k== .free&&sc.kind== .function&&sc.names.lookup n==some .cell)then(n,.cell)else(n,k)
noncomputable def jI(sc:Scope)(XN:List Str)(scope:Scope)(N:List Str)(ix:List (Option Nat))(j:Nat):Bool:=
 match N[j]?,ix[j]? with
 |some x,some (some i)=>decide (XN[i]?=some x)&&(decide ((x,NameKind.free)∈scope.names)&&decide ((X7 scope sc).lookup x=some .cell))
 |_,_=>true
theorem Zn{sc:Scope}{XN:List Str}{scope:Scope}{N:List Str}{ix:List (Option Nat)}(g:X.env.scope=sc)(r:X.N=XN)
  (h:scope.kind=.function/\(∀y∈scope.names,y.2≠.cell)/\(∀y∈scope.names,y.2=.local->scope.names.lookup y.1=some .local)/\(∀y∈scope.names,y.2=.free->sc.names.lookup y.1=some .cell)/\N.length=ix.length/\
   ∀j∈List.range N.length,jI sc XN scope N ix j=true):V1 X scope N ix:=by
 obtain⟨t,z,B,C,D,E⟩:=h;subst g r;refine⟨t,z,B,C,D,λj x i l G=>?_⟩;have I:j<N.length:=(aE.mp l).1;have q:=E j (fM.mpr I);unfold jI at q;rw[l,G]at q;simp only[Bool.and_eq_true,decide_eq_true_eq]at q;exact⟨q.1,q.2.1,q.2.2⟩
theorem uj{o z t:OO}(h:Zs M p o b=none):Q4 (Zs (Zs (Zs M p o) b z) p t) b=Zs M p t:=by
 have g:b≠p:=λe=>by rw[e,Zk]at h;cases h
 rw[Zj g]at h
 funext c
 unfold Q4 Zs
 by_cases l:c=b
 ·rw[aw l,ao (by rw[l];exact g),l,h]
 ·rw[ao l]
  by_cases r:c=p
  ·rw[aw r,aw r]
  ·rw[ao r,ao l,ao r,ao r]
theorem fresh_ne{o:OO}(h:Zs M p o b=none):b≠p:=λe=>by rw[e,Zk]at h;cases h
theorem take_snoc{g r:Type}{l:List g}{i:Nat}{a:g}(f:g->r)(h:l[i]?=some a):(l.take i).map f++[f a]=(l.take (i+1)).map f:=by
 rw[cJ,h,al];rfl
theorem RM{g r:Type}{l:List g}{i:Nat}{a:g}(f:g->List r)(h:l[i]?=some a):(l.take i).flatMap f++f a=(l.take (i+1)).flatMap f:=by
 rw[cJ,h,dH];simp
theorem Zp{g r:Type}{l:List g}{f:g->r}{i:Nat}{b:r}(h:(l.map f)[i]?=some b):∃ a,l[i]?=some a/\f a=b:=by
 rw[aV]at h;cases q:l[i]? with
 |none=>rw[q]at h;cases h
 |some a=>rw[q]at h;exact⟨a,rfl,by simpa using h⟩
theorem Gj{g r:Type}(f:g->List r)(n:Nat):∀ l:List g,(∀a∈l,(f a).length<=n)->(l.flatMap f).length<=l.length*n
 |[],_=>by simp
 |a::l,h=>by
  have z:=h a aj;have B:=Gj f n l λb t=>h b (aq _ t);rw[cK,aB,a_,Nat.succ_mul];lia
def gc(Φ:DK):DK:=λx M=>∃ ps:List Addr,Φ x (ps.foldl Q4 M)
theorem jW{Q:VK}(k:Rch K M H Φ Q){x:DV}:∀(ps:List Addr)(M':Mp),ZR K M' H'->Step M H M' H'->QE K M' H' v x->Φ x (ps.foldl Q4 M')->Q v H'
 |[],M',r,st,g,f=>k v H' x M' r st g f
 |p::ps,M',r,st,g,f=>jW k ps (Q4 M' p) r.frz (st.trans Step.frz) (g.step Step.frz) f
theorem Hu{Q:VK}(k:Rch K M H Φ Q):Rch K M H (gc Φ) Q:=(λ_ _ _ M' r st g h=>by obtain⟨ps,f⟩:=h;exact jW k ps M' r st g f)
theorem okG{P:Program}{w:World}{mg:Str->Option Value}{base:Heap}{ps:List Str}{k:Nat}{S:DSp}(F:Fun K x qual st f fd)(I:Zo N ps (Zf st))(len:∀ xs M Φ,S xs M Φ->xs.length=ps.length)
  (l:∀(g:Value)(A:Around)(outer:List Env)(s:Shared)(H:Hp)(E:XK),QL k (A.deeper (envOfC qual (Zf st) s.heap.objs.size f g))->
   ∃z,DSs (Mj CX0 P w K mg base N qual (Zf st) f g A outer s H E).nox (Jp st) z/\∀xs M Φ,S xs M Φ->z {nx:=λ_ M'=>gc Φ (.dat .none) M',rt:=gc Φ} (VB N xs) M):Qx P w K mg base CX0 (k+1) f fd ps (lift K S):=by
 refine F.ok I (λvs H Q E h=>?_) λg A outer s H vs Q E J h=>?_
 ·obtain⟨xs,M,Φ,_,B,C,_⟩:=h;rw[bC B];exact len xs M Φ C
 ·obtain⟨xs,M,Φ,r,B,C,kk⟩:=h;obtain⟨z,⟨t,p,q⟩,D⟩:=l g A outer s H E J;refine⟨t,p,q (start N vs) H (VB N xs) M _ _ r (Jy.start B) (D xs M Φ C) ⟨λL H' O M' U G e' Y=>?_,Hu kk,λ_ _ _ _ _ _ _ h=>h.elim,λ_ _ _ _ _ _ _ h=>h.elim⟩⟩;exact(Hu kk).dat U G Dt.non Y
theorem Bb{x:DV}{o:OO}(g:M p=none)(h:Φ x M):gc Φ x (Zs M p o):=⟨[p],by
 show Φ x (Q4 (Zs M p o) p)
 rw[YL g];exact h⟩
theorem vt{x:DV}(h:Φ x M):gc Φ x M:=⟨[],h⟩
theorem FU{k:Nat}(h:n<2^k)(l:0<k):n.log2<k:=by
 by_cases g:n=0
 ·subst g;simpa using l
 ·exact(Nat.log2_lt g).mpr h
def Ml(x:DV)(M:Mp)(ds:List PyData):Prop:=x=.dat (.list ds)\/∃l,x=.own l/\M l=some (.lst ds)
theorem Ml.sq{x:DV}(h:Ml x M ds)(r:ZR X.K M H)(B:QE X.K M H v x):∃ p g,v=.ref p/\SqL X.K H p g/\Dts X.K M H g ds:=by
 rcases h with rfl|⟨l,rfl,C⟩
 ·obtain⟨p,g,rfl,t,z⟩:=QE.lst B;exact⟨p,g,rfl,t.sq,z⟩
 ·cases(show v=.ref l from B);obtain⟨D,t,z⟩:=r.ls l _ C;exact⟨l,D,rfl,SqL.of t,z⟩
def nK:D2:=λx y M Φ=>onK x M λds=>onK y M λg=>ds.length+g.length<=sizeLine/\Φ (.dat (.list (ds++g))) M
theorem Sn:OpD X (binaryOp .Add) nK:=by
 refine⟨_,Fi,λv u H x y M Φ Q r C D h k=>?_⟩;obtain⟨ds,g,h⟩:=(V8 h);obtain⟨E,l,G,q⟩:=(V8 h);replace g:Ml x M ds:=g;replace l:Ml y M E:=l;obtain⟨a,xs,rfl,I,z⟩:=g.sq r C;obtain⟨b,J,rfl,L,B⟩:=l.sq r D;exact⟨a,b,xs,J,rfl,rfl,I,L,by rw[z.length,B.length];exact G,λp t=>k.dat (r.new t) (Step.new t) (Dt.JG r t (z.append B)) q⟩
def oe(te:DTE)(h th:DTO):DTE:=λΔ M Φ=>te Δ M λx M1=>h Δ M1 λl M2=>th Δ M2 λu g=>onK x g λds=>Φ (.dat (.list (cutD ds l u))) g
theorem Ki{lo G:Option Expr}{I th:DTO}{B:Pos}(J:DE X e te)(C:DO X lo I)(g:DO X G th):DE X (.Subscript e (.Slice lo G none B) pos) (oe te I th):=by
 obtain⟨t1,L,O⟩:=J;obtain⟨t2,B,U⟩:=C;obtain⟨t3,Y,q3⟩:=g;refine⟨_,Fc wM L B Y,λσ H Δ M Φ Q r e h k=>?_⟩;refine O σ H Δ M _ _ r e h λv H1 x M1 r1 st rv hx=>?_;refine U σ H1 Δ M1 _ _ r1 (e.step st) hx λl H2 M2 r2 t C=>?_;refine q3 σ H2 Δ M2 _ _ r2 (e.step (st.trans t)) C λu H3 M3 D z g=>?_;obtain⟨ds,hd,g⟩:=(V8 g);replace hd:Ml x M3 ds:=hd;obtain⟨a,xs,rfl,h1,h2⟩:=hd.sq D (rv.step (t.trans z));refine⟨a,xs,rfl,h1,λp E=>?_⟩;exact k.dat (D.new E) ((st.trans (t.trans z)).trans (Step.new E)) (Dt.JG D E (h2.cut l u)) g
noncomputable def ltP(p q:Int×Int):Bool:=if p.1=q.1 then decide (p.2<q.2)else decide (p.1<q.1)
theorem EE(p:Int×Int):ltP p p=false:=by unfold ltP;rw[aw rfl];exact aZ (by lia)
def mO(i j:Int):Prop:=0<j/\j.natAbs.log2<9000
theorem r_:OpR X (binaryOp .FloorDiv) (rI mO λi j=>.int (i/j)):=opI λi j _ _ _ _ _ g q=>by
 have h:(0:Int)<j:=g.1;exact floordiv_int (by lia) (by rw[Int.fdiv_eq_ediv_of_nonneg i (by lia)];exact q) (.inl (PyProof.noPylong_of_log2 g.2))
theorem ue:OpD X (binaryOp .FloorDiv) (δI mO λi j=>.int (i/j)):=iu r_
theorem Vals.back{xs:List V}(r:Vals xs us)(e:us[i]?=some u):∃ x,xs[i]?=some x/\RelV x u:=by
 cases q:xs[i]? with
 |none=>rw[r.none_of q]at e;cases e
 |some x=>
  obtain⟨l,g,h⟩:=r.get q;rw[e]at g;cases g;exact⟨x,rfl,h⟩
theorem vv{σ:L2.St}{ks:List Key}(I:L2.Inv X pins σ H s)(h:SqT X.K H b (ks.map kV)):(tupleKind (Zx X.prog X.w)).is s.heap ks b:=by
 obtain⟨its,r,⟨o,e,c,n,d⟩,_⟩:=I.tuple h;exact⟨o,its.toArray,n,e,c,d,by simpa using Wb r⟩
def onP(x:DV)(P:Int->Int->Prop):Prop:=match x with| .dat (.tuple [.int i,.int j])=>P i j|_=>False
theorem XF{x:DV}{P:Int->Int->Prop}(h:onP x P):∃ i j,x=.dat (.tuple [.int i,.int j])/\P i j:=by
 unfold onP at h
 split at h
 ·exact⟨_,_,rfl,h⟩
 ·exact h.elim
theorem vM(lo:Int):WS lo 0=[]:=rfl
theorem tW{A B:DTS}{D:Qt}(h:∀ R,R=B->ii A R D Δ M):ii A B D Δ M:=h B rfl
theorem vN{l:List Int}{r:Int}(g:0<=r)(h:r<l.length):∃ w∈l,atI (l.map PyData.int) r=some (.int w):=by
 obtain⟨d,e,t⟩:=Ox (l:=l.map PyData.int) g (by rw[aa];exact h);obtain⟨w,z,rfl⟩:=af.mp t;exact⟨w,z,e⟩
theorem Dq:ZY "int" .none=false:=rfl
theorem Ds(b:Bool):ZY "int" (.bool b)=true:=rfl
theorem LH(i:Int):ZY "int" (.int i)=true:=rfl
theorem LV(z:Str):ZY "int" (.str z)=false:=rfl
theorem C4(l:List PyData):ZY "int" (.list l)=false:=rfl
theorem G1(l:List PyData):ZY "int" (.tuple l)=false:=rfl
theorem CP(l:List (PyData×PyData)):ZY "int" (.dict l)=false:=rfl
theorem BX:ZY "bool" .none=false:=rfl
theorem Bv(b:Bool):ZY "bool" (.bool b)=true:=rfl
theorem C8(i:Int):ZY "bool" (.int i)=false:=rfl
theorem DP(z:Str):ZY "bool" (.str z)=false:=rfl
theorem Ct(l:List PyData):ZY "bool" (.list l)=false:=rfl
theorem Uv(l:List PyData):ZY "bool" (.tuple l)=false:=rfl
theorem G5(l:List (PyData×PyData)):ZY "bool" (.dict l)=false:=rfl
theorem US:ZY "tuple" .none=false:=rfl
theorem UA(b:Bool):ZY "tuple" (.bool b)=false:=rfl
theorem BH(i:Int):ZY "tuple" (.int i)=false:=rfl
theorem Bm(z:Str):ZY "tuple" (.str z)=false:=rfl
theorem Ur(l:List PyData):ZY "tuple" (.list l)=false:=rfl
theorem Wv(l:List PyData):ZY "tuple" (.tuple l)=true:=rfl
theorem Gy(l:List (PyData×PyData)):ZY "tuple" (.dict l)=false:=rfl
theorem Bf:ZY "list" .none=false:=rfl
theorem B6(b:Bool):ZY "list" (.bool b)=false:=rfl
theorem CY(i:Int):ZY "list" (.int i)=false:=rfl
theorem C0(z:Str):ZY "list" (.str z)=false:=rfl
theorem BV(l:List PyData):ZY "list" (.list l)=true:=rfl
theorem UC(l:List PyData):ZY "list" (.tuple l)=false:=rfl
theorem G9(l:List (PyData×PyData)):ZY "list" (.dict l)=false:=rfl
theorem DM:ZY "str" .none=false:=rfl
theorem C1(b:Bool):ZY "str" (.bool b)=false:=rfl
theorem Ma(i:Int):ZY "str" (.int i)=false:=rfl
theorem Lr(z:Str):ZY "str" (.str z)=true:=rfl
theorem Eb(l:List PyData):ZY "str" (.list l)=false:=rfl
theorem Co(l:List PyData):ZY "str" (.tuple l)=false:=rfl
theorem CS(l:List (PyData×PyData)):ZY "str" (.dict l)=false:=rfl
theorem G3:ZY "dict" .none=false:=rfl
theorem Bn(b:Bool):ZY "dict" (.bool b)=false:=rfl
theorem CF(i:Int):ZY "dict" (.int i)=false:=rfl
theorem D4(z:Str):ZY "dict" (.str z)=false:=rfl
theorem GZ(l:List PyData):ZY "dict" (.list l)=false:=rfl
theorem Gq(l:List PyData):ZY "dict" (.tuple l)=false:=rfl
theorem Cq(l:List (PyData×PyData)):ZY "dict" (.dict l)=true:=rfl
theorem jq(x y:Str):(PyData.str x).eqv (.str y)=decide (x=y):=by
 simp only[PyData.eqv]
 first|rfl|(rw[cu];simp)
theorem pH(x y:List PyData):(PyData.tuple x).eqv (.tuple y)=PyData.eqvAll x y:=by simp only[PyData.eqv]
theorem i_(x y:List PyData):(PyData.list x).eqv (.list y)=PyData.eqvAll x y:=by simp only[PyData.eqv]
theorem SR:PyData.eqvAll [] []=true:=by simp only[PyData.eqvAll]
theorem lx(x:PyData)(xs:List PyData):PyData.eqvAll (x::xs) []=false:=by simp only[PyData.eqvAll]
noncomputable def isNone:PyData->Bool
 | .none=>true
 |_=>false
theorem sY(h:Dt K M H v d):decide (v=.non)=isNone d:=by
 cases h<;>rfl
def onN(x:DV)(P:Prop):Prop:=match x with| .dat .none=>P|_=>False
theorem uU{x:DV}{P:Prop}(h:onN x P):x=.dat .none/\P:=by
 cases x with
 |dat d=>cases d<;>first|exact⟨rfl,h⟩|exact False.elim h
 |_=>exact False.elim h
def pJ(b:Bool):D2:=λx y M Φ=>onD x λd=>onN y<|Φ (.dat (.bool (isNone d != b))) M
theorem u5:OpD X (compareOp .IsNot) (pJ true):=by
 refine⟨_,xf,λv u H x y M Φ Q r g l h k=>?_⟩;obtain⟨d,rfl,h⟩:=(QD h);obtain⟨rfl,q⟩:=(uU h);cases(show Dt X.K M H u .none from l);refine⟨rfl,?_⟩;rw[sY g];rw[show(!isNone d)=(isNone d != true) by cases isNone d<;>rfl];exact k.dat r Step.refl (Dt.bl _) q
theorem isNone_none:isNone .none=true:=rfl
theorem EB(b:Bool):isNone (.bool b)=false:=rfl
theorem HY(b:Int):isNone (.int b)=false:=rfl
theorem LR(b:Str):isNone (.str b)=false:=rfl
theorem DZ(b:List PyData):isNone (.list b)=false:=rfl
theorem GK(b:List PyData):isNone (.tuple b)=false:=rfl
theorem En(b:List (PyData×PyData)):isNone (.dict b)=false:=rfl
theorem PM(J:X.A.units+66<cLine):OpR X (compareOp .NotIn) (λx y H Q=>∃ M d ds,Dt X.K M H x d/\(Dt X.K M H y (.list ds)\/Dt X.K M H y (.tuple ds))/\d.canLay0=true/\PyData.canLayAll0 ds=true/\d.depth<=64/\Q (.bl (!(ds.any λe=>PyData.eqv e d))) H):=by
 intro pins s σ H x y v u Q I C r h;obtain⟨M,d,ds,D,g,t,z,E,q⟩:=h;obtain⟨L,B,_⟩:=D.reads I C
 rcases g with g|g
 ·obtain⟨G,l,_⟩:=g.reads I r;exact PySem.SeqAt.notIn_list_reads l B z t (by have:=eZ (PyData.depthAll ds) d.depth;lia) ⟨.bl _,H,I,rfl,q⟩
 ·obtain⟨G,l,_⟩:=g.reads I r;exact PySem.SeqAt.notIn_tuple_reads l B z t (by have:=eZ (PyData.depthAll ds) d.depth;lia) ⟨.bl _,H,I,rfl,q⟩
def SN:D2:=λx y M Φ=>onD x λd=>onW y λds=>okIn d ds=true/\Φ (.dat (.bool (!(ds.any λe=>PyData.eqv e d)))) M
theorem Kc{k:Nat}(t:QL k X.A):OpD X (compareOp .NotIn) SN:=
 ⟨_,PM (by have:=t.un;lia),λv u H x y M Φ Q r z l h k=>by
  obtain⟨d,B,h⟩:=QD h;obtain⟨ds,C,D,q⟩:=oR h;obtain⟨E,G,g⟩:=Ex D;subst B;refine⟨M,d,ds,z,?_,E,G,g,k.dat r Step.refl (Dt.bl _) q⟩
  rcases C with rfl|rfl
  ·exact .inl l
  ·exact .inr l⟩
theorem wZ(x:DV)(P:DV->Prop):onV (some (some x)) P=P x:=rfl
theorem u6(i:Int)(P:Int->Prop):onI (.dat (.int i)) P=P i:=rfl
theorem uy(i:Bool)(P:Bool->Prop):onB (.dat (.bool i)) P=P i:=rfl
theorem wv(i:Str)(P:Str->Prop):onS (.dat (.str i)) P=P i:=rfl
theorem tZ(i:List PyData)(P:List PyData->Prop):onT (.dat (.tuple i)) P=P i:=rfl
theorem tp(i:List PyData)(P:List PyData->Prop):onL (.dat (.list i)) P=P i:=rfl
theorem v_(i:PyData)(P:PyData->Prop):onD (.dat i) P=P i:=rfl
theorem wR(i:Addr)(P:Addr->Prop):onO (.own i) P=P i:=rfl
theorem O3(ds:List PyData)(P:List PyData->Prop):Vi (some (.lst ds)) P=P ds:=rfl
theorem qE(ds:List PyData)(M:Mp)(P:List PyData->Prop):onQ (.dat (.tuple ds)) M P=P ds:=rfl
theorem xQ(ds:List PyData)(M:Mp)(P:List PyData->Prop):onQ (.dat (.list ds)) M P=P ds:=rfl
theorem vY(l:Addr)(M:Mp)(P:List PyData->Prop):onQ (.own l) M P=Vi (M l) P:=rfl
theorem qo(ds:List PyData)(M:Mp)(P:List PyData->Prop):onK (.dat (.list ds)) M P=P ds:=rfl
theorem rA(l:Addr)(M:Mp)(P:List PyData->Prop):onK (.own l) M P=Vi (M l) P:=rfl
theorem wl(x:DV)(P:DV->Prop):on1 [x] P=P x:=rfl
theorem T1(x y:DV)(P:DV->DV->Prop):on2 [x,y] P=P x y:=rfl
theorem x_(x y z:DV)(P:DV->DV->DV->Prop):on3 [x,y,z] P=P x y z:=rfl
theorem su(g h l r:DV)(P:DV->DV->DV->DV->Prop):on4 [g,h,l,r] P=P g h l r:=rfl
theorem yI(g h l r t:DV)(P:DV->DV->DV->DV->DV->Prop):on5 [g,h,l,r,t] P=P g h l r t:=rfl
theorem yD(P:List PyData->Prop):Wx [] P=P []:=rfl
theorem sr(g:PyData)(P:List PyData->Prop):Wx [.dat g] P=P [g]:=rfl
theorem um(g h:PyData)(P:List PyData->Prop):Wx [.dat g,.dat h] P=P [g,h]:=rfl
theorem ya(g h l:PyData)(P:List PyData->Prop):Wx [.dat g,.dat h,.dat l] P=P [g,h,l]:=rfl
theorem xt(g h l r:PyData)(P:List PyData->Prop):Wx [.dat g,.dat h,.dat l,.dat r] P=P [g,h,l,r]:=rfl
theorem rQ(g h l r t:PyData)(P:List PyData->Prop):Wx [.dat g,.dat h,.dat l,.dat r,.dat t] P=P [g,h,l,r,t]:=rfl
theorem xb(g h l r t z:PyData)(P:List PyData->Prop):Wx [.dat g,.dat h,.dat l,.dat r,.dat t,.dat z] P=P [g,h,l,r,t,z]:=rfl
theorem yq(g h l r t z B C:PyData)(P:List PyData->Prop):Wx [.dat g,.dat h,.dat l,.dat r,.dat t,.dat z,.dat B,.dat C] P=P [g,h,l,r,t,z,B,C]:=rfl
theorem TN(a:PyData)(l:List PyData)(P:PyData->Prop):Cz (a::l) 0 P=P a:=rfl
theorem rG(a b:PyData)(l:List PyData)(P:PyData->Prop):Cz (a::b::l) 1 P=P b:=rfl
theorem sQ(a b c:PyData)(l:List PyData)(P:PyData->Prop):Cz (a::b::c::l) 2 P=P c:=rfl
theorem rg(a b c d:PyData)(l:List PyData)(P:PyData->Prop):Cz (a::b::c::d::l) 3 P=P d:=rfl
theorem rE(i j:Int)(P:Bool->Prop):eqD (.int i) (.int j) P=P (decide (i=j)):=rfl
theorem yi(i j:Str)(P:Bool->Prop):eqD (.str i) (.str j) P=P (decide (i=j)):=rfl
theorem L9(Δ:DSt)(M:Mp)(Φ:DSt->Mp->Prop):kN [] Δ M Φ=Φ Δ M:=rfl
theorem DH(t:DTG)(u:ew)(x:DV)(r:List DV)(Δ:DSt)(M:Mp)(Φ:DSt->Mp->Prop):ku t u (x::r) Δ M Φ=t x Δ M λg M'=>u r g M' Φ:=rfl
theorem uH(P:List DV->Prop):im 0 [] P=P []:=rfl
theorem xS(n:Nat)(d:PyData)(r:List PyData)(P:List DV->Prop):im (n+1) (d::r) P=im n r λxs=>P (.dat d::xs):=rfl
theorem OV(i:Str)(P:Key->Prop):XX (.dat (.str i)) P=P (.inr i):=rfl
theorem TJ(Φ:DK)(g:List PyData)(M:Mp):CO true Φ g M=∀p,M p=none->Φ (.own p) (Zs M p (.lst g)):=rfl
theorem T7(Φ:DK)(g:List PyData)(M:Mp):CO false Φ g M=Φ (.dat (.list g)) M:=rfl
theorem vJ(ds:List PyData)(P:List PyData->Prop):onW (.dat (.list ds)) P=P ds:=rfl
theorem vO(i j:Int)(P:Int->Int->Prop):onP (.dat (.tuple [.int i,.int j])) P=P i j:=rfl
theorem yQ(P:Prop):onN (.dat .none) P=P:=rfl
section
variable{a b:Expr}{ta tb:DTE}
def oi:D2:=λx y M Φ=>onS x λs=>onI y λi=>s.length<=sizeLine/\∃c,L2.atI s.cps.toList i=some c/\Φ (.dat (.str ⟨#[c]⟩)) M
theorem PC(g:DE X a ta)(l:DE X b tb)(t:autoParam (Gh b) zz6._auto_1):DE X (.Subscript a b pos) (dOp oi ta tb):=by
 obtain⟨z,B,C⟩:=g;obtain⟨D,E,G⟩:=l;refine⟨_,jw mA B E t,Snd.opn C G λv u H x y M Φ Q r I J h k=>?_⟩;obtain⟨s,rfl,h⟩:=(Qu h);obtain⟨i,rfl,L,c,O,q⟩:=(ZJ h);exact⟨s,i,c,I.str,J.int,L,O,k.dat r Step.refl (Dt.str _) q⟩
def mY:D2:=λx y M Φ=>onS x λs=>onS y λt=>s.length+t.length<=sizeLine/\Φ (.dat (.str (s++t))) M
theorem qx:OpD X (binaryOp .Add) mY:=
 ⟨_,LJ,λv u H x y M Φ Q r g l h k=>by
  obtain⟨s,rfl,h⟩:=(Qu h);obtain⟨t,rfl,z,q⟩:=(Qu h)
  exact⟨s,t,g.str,l.str,z,k.dat r Step.refl (Dt.str _) q⟩⟩
noncomputable def Its(x:Str):It:=⟨λi _=>i<x.length,λi H y H'=>H' =H/\∃c,x.cps[i]?=some c/\y=.str ⟨#[c]⟩,λi _=>x.length<=i⟩
theorem Oi(x:Str)(t:Tok)(it:Addr):Turn P w K tg (Its x) [it] it (λi h=>h.IsStrIter it "str_ascii_iterator" x t i)where
 mem:=by simp
 obj:=λi h st b hb=>by
  have e:b=it:=by simpa using hb
  subst e;obtain⟨o,e,c,d⟩:=st;exact⟨o,e,λv z=>by rw[d]at z;cases z⟩
 keep:=λi h h' st k=>let⟨o,ho,r⟩:=st;⟨o,k it (by simp) o ho,r⟩
 item:=by
  intro X hP hw hK hc i pins s σ H E I hf st hg;subst hP hw hK;have hi:i<x.cps.size:=hg;obtain⟨f0,f1,f2,f3,f4,f5⟩:=hf it (by simp);refine wpAny_pyNext_ascii_item st (c:=x.cps[i]) (by simp[hi]) λh' st' sb=>?_;have I1:Inv X pins σ H {s with heap:=h',toks:=s.toks+1}:=I.turned (t':=s.toks+1) (λb o hb e=>(sb.2 b hb).trans e) f0 f1 f3 f4 f5;obtain⟨o,e,c,d⟩:=id st';exact⟨_,rfl,Mn (s:={s with heap:=h',toks:=s.toks+1}) e c d (by decide) ⟨.str ⟨#[x.cps[i]]⟩,H,I1,⟨_,rfl⟩,⟨rfl,_,by simp[hi],rfl⟩,st',λb hb=>(hf b hb).1⟩⟩
 done:=by
  intro X hP hw hK hc i pins s σ H E I hf st hg;subst hP hw hK;obtain⟨f0,f1,f2,f3,f4,f5⟩:=hf it (by simp);have hi:x.cps.size<=i:=hg;exact wpAny_pyNext_ascii_end (I.ok.hd hc) st (by simp[hi]) λh' eb=>⟨rfl,I.turned (t':=s.toks) (λb o hb e=>eb b o hb e) f0 f1 f3 f4 f5⟩
 self:=λ_ _ _ _ _ st h=>wpAny_pyIter_striter_ascii st h
theorem PQ(x:Str)(t:Tok)(it:Addr):Turn P w K tg (Its x) [it] it (λi h=>h.IsStrIter it "str_iterator" x t i)where
 mem:=by simp
 obj:=λi h st b hb=>by
  have e:b=it:=by simpa using hb
  subst e;obtain⟨o,e,c,d⟩:=st;exact⟨o,e,λv z=>by rw[d]at z;cases z⟩
 keep:=λi h h' st k=>let⟨o,ho,r⟩:=st;⟨o,k it (by simp) o ho,r⟩
 item:=by
  intro X hP hw hK hc i pins s σ H E I hf st hg;subst hP hw hK;have hi:i<x.cps.size:=hg;obtain⟨f0,f1,f2,f3,f4,f5⟩:=hf it (by simp);refine wpAny_pyNext_wide_item st (c:=x.cps[i]) (by simp[hi]) λh' st' sb=>?_;have I1:Inv X pins σ H {s with heap:=h',toks:=s.toks+1}:=I.turned (t':=s.toks+1) (λb o hb e=>(sb.2 b hb).trans e) f0 f1 f3 f4 f5;obtain⟨o,e,c,d⟩:=id st';exact⟨_,rfl,Mn (s:={s with heap:=h',toks:=s.toks+1}) e c d (by decide) ⟨.str ⟨#[x.cps[i]]⟩,H,I1,⟨_,rfl⟩,⟨rfl,_,by simp[hi],rfl⟩,st',λb hb=>(hf b hb).1⟩⟩
 done:=by
  intro X hP hw hK hc i pins s σ H E I hf st hg;subst hP hw hK;obtain⟨f0,f1,f2,f3,f4,f5⟩:=hf it (by simp);have hi:x.cps.size<=i:=hg;exact wpAny_pyNext_wide_end (I.ok.hd hc) st (by simp[hi]) λh' eb=>⟨rfl,I.turned (t':=s.toks) (λb o hb e=>eb b o hb e) f0 f1 f3 f4 f5⟩
 self:=λ_ _ _ _ _ st h=>wpAny_pyIter_striter_wide st h
def yE(g:TE):TI:=λσ H R=>g σ H λx h=>∃ z,x=.str z/\R (Its z) h
theorem xV{l:Expr}{C:TE}(G:PE X l C):PI X tg l (yE C):=by
 intro pins s σ H R I h;refine thn (G pins s σ H _ I h) λv g J=>?_;obtain⟨x,D,r,L,O⟩:=J;obtain⟨z,e,q⟩:=O;subst e;obtain⟨t,rfl⟩:=L;cases E:z.cps.all (· <128)
 ·refine wpAny_pyIter_wide E ?_;refine⟨g.heap.objs.size,[g.heap.objs.size],_,_,D,rfl,r.kept (t':=g.toks) λb o e=>am _ e,PQ z t _,⟨_,aR _ rfl,rfl,rfl⟩,λb B=>?_,q⟩;have e:b=g.heap.objs.size:=by simpa using B
  subst e;exact r.eH (ak _) (r.hok.fresh (ak _))
 ·refine wpAny_pyIter_ascii E ?_;refine⟨g.heap.objs.size,[g.heap.objs.size],_,_,D,rfl,r.kept (t':=g.toks) λb o e=>am _ e,Oi z t _,⟨_,aR _ rfl,rfl,rfl⟩,λb B=>?_,q⟩;have e:b=g.heap.objs.size:=by simpa using B
  subst e;exact r.eH (ak _) (r.hok.fresh (ak _))
noncomputable def iV(c:Nat):PyData:=.str ⟨#[c]⟩
def nI(te:DTE):GH:=λΔ M g=>te Δ M λx M1=>onS x λs=>g (s.cps.toList.map iV) M1
theorem wH(C:DE X iter te):DI X tg iter (nI te):=by
 obtain⟨t,p,q⟩:=C;refine⟨_,xV p,λσ H Δ M U R D E h k=>?_⟩;refine q σ H Δ M _ _ D E h λv G x M1 I st J l=>?_;obtain⟨s,rfl,z⟩:=(Qu l);have B:(s.cps.toList.map iV).length=s.length:=by simp[Str.length]
 refine⟨s,J.str,k _ G M1 _ I st (λM2 Y L i=>⟨λg=>⟨by rw[B]at g;exact g,λx H' y=>?_⟩,λg=>by rw[B]at g;exact g⟩) z⟩;obtain⟨e,c,O,rfl⟩:=y;subst e;refine λr=>⟨r,Step.refl,iV c,?_,Dt.str _⟩;rw[aV,bH,O];rfl
def rJoin(K:Fk):V->List V->Hp->VK->Prop:=λx xs H Q=>∃ z p g,x=.str z/\xs=[.ref p]/\SqL K H p (g.map V.str)/\JoinOk z g=true/\Q (.str (Txt.join z g)) H
theorem NY:∀{ss:List Str}{us:List Value},Vals (ss.map V.str) us->∃ l:List (Str×Tok),us=strValues l/\l.map (·.1)=ss
 |[],_,r=>by rw[cw]at r;cases r;exact⟨[],rfl,rfl⟩
 | s::ss,_,r=>by
  rw[ai]at r;cases r with
  |cons g h=>
   obtain⟨t,rfl⟩:=g;obtain⟨l,rfl,e⟩:=NY h;exact⟨(s,t)::l,rfl,by rw[ai,e]⟩
theorem u8:MtR X "str.join" (rJoin X.K):=by
 intro pins s σ H x xs v us Q I g r h;obtain⟨z,p,L,rfl,rfl,B,C,q⟩:=h;obtain⟨t,rfl⟩:=g;obtain⟨u,rfl,D⟩:=vals1 r;cases D;obtain⟨its,E,G,O⟩:=I.list B;obtain⟨l,rfl,J⟩:=NY E;exact SC.join G.isList J C λU k=>⟨.str _,H,I.tok _,⟨_,rfl⟩,q⟩
def vL(ds:List PyData)(P:List Str->Prop):Prop:=∃ g,ds=g.map PyData.str/\P g
def li(h te:DTE):DTE:=λΔ M Φ=>h Δ M λx M1=>onS x λz=>te Δ M1 λy M2=>onK y M2 λds=>vL ds λg=>JoinOk z g=true/\Φ (.dat (.str (Txt.join z g))) M2
theorem Xv:∀{vs:List V}{ss:List Str},Dts K M H vs (ss.map PyData.str)->vs=ss.map V.str
 |vs,[],h=>by
  rw[cw]at h;cases h;rfl
 | vs,n::r,h=>by
  rw[ai]at h;cases h with
  |cons g l=>
   cases g;rw[Xv l,ai]
theorem Nu{o:Expr}{I:DTE}{apos cpos:Pos}(U:DE X o I)(Y:DE X e te)(l:autoParam (attributeBase o "join" X.env (eval o X.env)=eval o X.env) zz3._auto_1)
  (B:((backTo cpos (starEach [e] X.env)).all (λx=>!x.1)&&(backToKw cpos (keywordEach [] X.env)).all (λx=>x.1.isSome)
   &&decide ([e].length+([]:List Keyword).length+(if([]:List Keyword).isEmpty then 0 else 1)<30))=true:=by rfl)
  (t:autoParam ((apos.endLine==cpos.line)=true) zz3._auto_1) (J:autoParam (starEach [e] X.env=(false,eval e X.env)::starEach [] X.env) zz3._auto_1) (g:autoParam ((backTo cpos (starEach [] X.env)).any (·.1)=false) zz3._auto_1):
  DE X (.Call (.Attribute o "join" apos) [e] [] cpos) (li I te):=by
 obtain⟨t1,p1,q1⟩:=U;obtain⟨t2,p2,q2⟩:=Y;refine⟨_,iK PySem.F.plainAttrs_str PySem.F.slot_str_join PySem.F.type_str_join u8 p1 (Yy p2 WN J) l B t J g,λσ H Δ M Φ Q r e h k=>?_⟩;refine q1 σ H Δ M _ _ r e h λv H1 x M1 r1 st rv C=>?_;obtain⟨z,rfl,C⟩:=(Qu C);cases rv.str;refine⟨rfl,q2 σ H1 Δ M1 _ _ r1 (e.step st) C λw H2 y M2 L E G D=>?_⟩;obtain⟨ds,hd,O,rfl,hj,D⟩:=(V8 D);replace hd:Ml y M2 (O.map PyData.str):=hd;obtain⟨a,xs,rfl,h1,h2⟩:=hd.sq L G;cases Xv h2;exact⟨z,a,O,rfl,rfl,h1,hj,k.dat L (st.trans E) (Dt.str _) D⟩
end
theorem str_len(s:Str):s.cps.toList.length=s.length:=by simp[Str.length]
theorem add_list(s t:Str):(s++t).cps.toList=s.cps.toList++t.cps.toList:=by rw[Str.cps_append,bS]
theorem pP{d:Nat}{i:Int}(g:0<=i):HT.sIx n d (some i)=min i.toNat n:=by
 obtain⟨k,rfl⟩:=cW g;rw[HT.Pb];rfl
theorem join_list:∀ ss:List Str,(Txt.join (Str.ofString "") ss).cps.toList=(ss.map (·.cps.toList)).flatten:=by
 have g:(Str.ofString "").cps.toList=[]:=by walk_at"k"
 have h:∀ ss:List Str,(Str.join (Str.ofString "") ss).cps.toList=(ss.map (·.cps.toList)).flatten:=λss=>by
  induction ss with
  |nil=>rfl
  | cons s ss l=>
   cases ss with
   |nil=>simp[Str.join]
   |cons t ss=>
    rw[Str.join,add_list,add_list,g,l]
    ·simp
    ·simp
 intro ss;have:Txt.join (Str.ofString "") ss=Str.join (Str.ofString "") ss:=by
  exact StrLaws.glued_eq_join _ _
 rw[this,h]
theorem qD{g:Str}{ss:List Str}{B:Nat}(l:∀ y∈ss,y.length<=B)(h:ss.length*B+ss.length*g.length<=16777216):JoinOk g ss=true:=by
 unfold JoinOk;rw[StrLaws.joinFits l h];rfl
open PySem.W
section
variable{lt:Nat->Nat->Bool}
def Le(lt:Nat->Nat->Bool)(a b:Nat):Prop:=lt b a=false
structure Ord(lt:Nat->Nat->Bool):Prop where
 asym:∀ a b,lt a b=true->lt b a=false
 tran:∀ a b c,Le lt a b->Le lt b c->Le lt a c
theorem Ord.refl(o:Ord lt)(a:Nat):Le lt a a:=by
 unfold Le;cases h:lt a a with
 |false=>rfl
 |true=>have:=o.asym a a h;rw[h]at this;cases this
noncomputable abbrev at'(p:Array Nat)(k:Nat):Nat:=p.getD k 0
def Up(lt:Nat->Nat->Bool)(p:Array Nat)(m:Nat):Prop:=∀ i j,i<=j->j<m->Le lt (at' p i) (at' p j)
def Pm(n:Nat)(p:Array Nat):Prop:=p.Perm (List.range n).toArray
theorem Pm.size{p:Array Nat}(h:Pm n p):p.size=n:=by
 have:=h.size_eq
 simpa using this
theorem Pm.below{p:Array Nat}(h:Pm n p){k:Nat}(l:k<n):at' p k<n:=by
 have g:k<p.size:=by rw[h.size];exact l
 have e:at' p k=p[k]:=by simp[at',g]
 have r:p[k]∈p:=Array.getElem_mem g;have t:=h.mem_iff.mp r;rw[e]
 simpa using t
theorem Pm.rev{p:Array Nat}(h:Pm n p)(i j:Nat):Pm n (kas_rev p i j):=(mirror_perm _ _ _ _).trans h
theorem Pm.bub{p:Array Nat}(h:Pm n p)(i j:Nat):Pm n (bubble p i j):=(bubble_perm _ _ _).trans h
theorem WQ{p:Array Nat}(h:j<=p.size)(k:Nat):at' (kas_rev p i j) k=if i<=k/\k<j then at' p (i+j-1-k)else at' p k:=by
 have l:=getElem?_mirror (i:=i) h ((j-i)/2) (by lia) k;have e:∀(q:Array Nat)(k:Nat),at' q k=q[k]?.getD 0:=λq k=>by simp[at',Array.getD_eq_getD_getElem?]
 rw[e,e,e];unfold kas_rev;rw[l]
 by_cases c:i<=k/\k<j
 ·rw[aw c]
  by_cases g:(i<=k/\k<i+(j-i)/2)\/(j-(j-i)/2<=k/\k<j)
  ·rw[aw g]
  ·rw[ao g]
   congr 2
   lia
 ·rw[ao c,ao (by lia)]
theorem Sf{p:Array Nat}{k l:Nat}(h:k<p.size)(r:l<=k)(x:Nat):at' (bubble p k (k-l)) x=if x=l then at' p k else if l<x/\x<=k then at' p (x-1)else at' p x:=by
 have g:=getElem?_bubble h (k-l) (by lia) x;have e:∀(q:Array Nat)(k:Nat),at' q k=q[k]?.getD 0:=λq k=>by simp[at',Array.getD_eq_getD_getElem?]
 rw[show k-(k-l)=l by lia]at g;rw[e,g,e,e,e]
 split
 ·rfl
 ·split<;>rfl
end
section
variable{prog:Program}{E:Value->Shared->Prop}{lt:Nat->Nat->Bool}
theorem G2{p:Array Nat}(o:Ord lt)(h:m<2):Up lt p m:=λi j g l=>by
 rw[show i=j by lia];exact o.refl _
noncomputable abbrev UB(vs:List Value)(q:Array Nat):Array Value:=List.toArray (q.toList.map λi=>vs.getD i Value.none)
theorem RL(vs:List Value):UB vs (List.range vs.length).toArray=vs.toArray:=by
 apply cC.mp;show(List.range vs.length).map (λi=>vs.getD i Value.none)=vs;apply List.ext_getElem?;intro i;rw[aV]
 by_cases h:i<vs.length
 ·rw[fi h,aM h];simp[h]
 ·rw[cQ (by simpa using h),cQ (by simpa using h)];rfl
end
theorem map_range{g:Type}(l:List g)(d:g):(List.range l.length).map (λi=>l.getD i d)=l:=by
 apply List.ext_getElem?;intro i;rw[aV]
 by_cases h:i<l.length
 ·rw[fi h,aM h];simp[h]
 ·rw[cQ (by simpa using h),cQ (by simpa using h)];rfl
section
variable{prog:Program}{E:Value->Shared->Prop}
theorem sP:typeLookup (.type "list") "keys"=pure none:=gq (by walk_at"k")
theorem xZ:typeLookup (.type "list") "__getattr__"=pure none:=gq (by walk_at"k")
theorem wO:typeLookup (.type "tuple") "keys"=pure none:=gq (by walk_at"k")
theorem w9:typeLookup (.type "tuple") "__getattr__"=pure none:=gq (by walk_at"k")
def SqA(T:String)(a:Addr)(h:Heap):Prop:=(T="list"\/T="tuple")/\∃o,h.get? a=some o/\o.cls=.type T/\o.dict=none/\∃xs n,o.data=.seq xs n
set_option maxHeartbeats 2000000 in
theorem RP{T:String}{u:Tok}{Q:PySem.Fin->Shared->Prop}(C:SqA T a s.heap)(z:A.handled=none)(h:∀ h' tk e,Heap.NewAttrErr s.heap h' e (.ref a) "keys"->E (.ref e) {s with heap:=h',toks:=tk}):
  wpAny (model prog w) A (Builtin.«object.__getattribute__» ⟨[.ref a,.str "keys" u],[]⟩) Q E s:=by
 obtain⟨B,D,G,l,r,xs,n,t⟩:=C;cases D;cases l;cases r;cases t;obtain⟨I,g,d,tk,os⟩:=s;have J:(⟨I,g,d,tk,os⟩:Shared).TypeIs (.ref a) T:=⟨_,G,rfl⟩
 have L:typeLookup (.type T) "keys"=pure none:=B.elim (λe=>e▸sP) λe=>e▸wO;unfold Builtin.«object.__getattribute__»
 rcases B with rfl|rfl
 ·repeat any_goals first|wp_step|assumption
  exact wpAny_raiseAttrError z h (attrMsg_fits (by walk_at"k") (by walk_at"k"))
 ·repeat any_goals first|wp_step|assumption
  exact wpAny_raiseAttrError z h (attrMsg_fits (by walk_at"k") (by walk_at"k"))
set_option maxHeartbeats 2000000 in
theorem tU{T:String}{Q:Option Value->Shared->Prop}(t:SqA T a s.heap)(I:A.handled=none)(h:∀ h' tk,(∀b ob,s.heap.get? b=some ob->h'.get? b=some ob)->Q none {s with heap:=h',toks:=tk}):
  wpAny (model prog w) A (getAttr? (.ref a) "keys") Q E s:=by
 obtain⟨L,g,d,tk,os⟩:=s;obtain⟨O,ob,l,z,B,xs,n,C⟩:=id t;cases ob;cases z;cases B;cases C;have J:∀ r,(⟨L,g,d,r,os⟩:Shared).TypeIs (.ref a) T:=λr=>⟨_,l,rfl⟩;have f1:=sub_AttributeError;unfold getAttr? getAttrBy? getAttrBy
 rcases O with rfl|rfl
 ·have U:=dA.lookup;have Y:=dA.bind (.ref a);have f5:=xZ
  repeat any_goals first|wp_step|assumption
  refine codeAny_call_builtin dA.plain F.entry_list_ga (dA.check _ _ _ _ _ _ _ _ (J _) (F.args_list_getattribute_2 _ _) (RP t I λh' D e l=>?_));obtain⟨r,u',he⟩:=l.there;have G:=l.keeps;show wpAny _ _ (getattributeRaised _ _ _ _ _ _ _) _ _ _;unfold getattributeRaised
  repeat any_goals first|wp_step|assumption
  exact h _ _ G
 ·have U:=de.lookup;have Y:=de.bind (.ref a);have f5:=w9
  repeat any_goals first|wp_step|assumption
  refine codeAny_call_builtin de.plain F.entry_tuple_ga (de.check _ _ _ _ _ _ _ _ (J _) (F.args_tuple_getattribute_2 _ _) (RP t I λh' D e l=>?_));obtain⟨r,u',he⟩:=l.there;have G:=l.keeps;show wpAny _ _ (getattributeRaised _ _ _ _ _ _ _) _ _ _;unfold getattributeRaised
  repeat any_goals first|wp_step|assumption
  exact h _ _ G
theorem Fq:entryFor table "dict.update.loop"=some Builtin.«dict.update.loop»:=entryFor_of_tree (by kernel_rfl)
theorem U0:plainId "dict.update.loop"=true:=by walk_at"k"
variable{K:Type}[DecidableEq K]{knd:KeyKind prog w K}
theorem L6(kvs:List (K×Value))(k:K)(v:Value):(stored kvs k v).length<=kvs.length+1:=by
 unfold stored
 split
 ·rw[aa];lia
 ·rw[aB,cP];exact ak _
def MD(h:Heap)(v key g:Value):Prop:=∃ a o c,v=.ref a/\h.get? a=some o/\o.cls=.type "tuple"/\o.data=.seq #[key,g] c
theorem KY{h:Heap}{kvs:List (K×Value)}(g:h.DictOf knd a kvs)(l:∀ o,h.get? a=some o->h'.get? a=some o):h'.DictOf knd a kvs:=
 let⟨o,t,z,B,r⟩:=g
 ⟨o,t,z,l o B,r⟩
theorem Fv{D it l:Addr}{its:List Value}{res:Value}{R:Result->Shared->Prop}{St:Nat->Heap->Prop}(W:Walks prog w A.in1 it [it,l] [it] its.toArray.size (λi v=>its.toArray[i]?=some v) St)(g:D≠it)(h:D≠l):∀(ps:List (K×Value))(i:Nat)(s:Shared)(kvs:List (K×Value)),i+ps.length=its.length->
  St i s.heap->s.heap.DictOf knd D kvs->kvs.length+ps.length<=sizeLine->
  (∀j p,ps[j]?=some p->∃ v key,its[i+j]?=some v/\MD s.heap v key p.2/\knd.is p.1 key=true/\v≠.ref D/\v≠.ref it)->
  (∀h' t',(∀b o,b≠D->b≠it->s.heap.get? b=some o->h'.get? b=some o)->h'.DictOf knd D (ps.foldl (λm p=>stored m p.1 p.2) kvs)->R (.ok (.ret res)) {s with heap:=h',toks:=t'})->
  codeAny (model prog w) A (.builtin "dict.update.loop" ⟨[.ref D,.ref it,rawInt i,res],[]⟩) R s
 |[],i,s,kvs,hn,h1,r,h4,h5,hR=>by
  refine gr Fq ?_;rw[eU U0 _];show wpAny _ A.in1 (pyNext (.ref it) >>= _) _ _ s;cases(show i=its.length from hn);refine ag (W.done s _ _ h1 λh' L O=>?_);refine ag ?_;unfold Builtin.Dict.addKeywords;refine aD ?_;exact aD (hR h' L (λb o t hi e=>O b o (by simpa using hi) e) (KY r λo e=>O D o (by simpa using g) e))
 | p::ps,i,s,kvs,hn,h1,r,h4,h5,hR=>by
  refine gr Fq ?_;rw[eU U0 _];show wpAny _ A.in1 (pyNext (.ref it) >>= _) _ _ s;obtain⟨v,key,e1,⟨a,o,c,rfl,ho,hc,hd⟩,hk,n1,n2⟩:=h5 0 p rfl;rw[a_]at hn h4;refine ag (W.item i s _ _ (by rw[aQ];lia) h1 λv h' L ev st O=>?_);rw[List.getElem?_toArray]at ev;cases(show Value.ref a=v from bq (e1.symm.trans ev));have sb:∀ b o,b≠it->s.heap.get? b=some o->h'.get? b=some o:=λb o t e=>O b o (by simpa using t) e;have B:=sb a o (λz=>n2 (by rw[z])) ho;dsimp only;refine ag (cr ?_);have hT:({s with heap:=h',toks:=L}:Shared).TypeIs (.ref a) "tuple":=⟨o,B,hc⟩
  refine ag (wpAny_tryCatch ?_);unfold Builtin.Dict.pairItems;refine ag (wpAny_typeOf hT ?_);rw[aw (by decide)];refine ag (wpAny_seqItems B hd (aD ?_));show wpAny _ _ (holding [key,p.2] (dictSet D key p.2)) _ _ _;refine cr (wpAny_dictSet_pairs hk (KY r λo e=>sb D o g e) (λC dd G=>?_) (by lia));refine aD ⟨plainId_quiet U0 _,?_⟩;have I:∀ b o,b≠D->b≠it->s.heap.get? b=some o->C.get? b=some o:=λb o U Y e=>(G.2 b U).trans (sb b o Y e);have go:=Fv (its:=its) (res:=res) (R:=R) W g h ps (i+1) {s with heap:=C,toks:=L+1} (stored kvs p.1 p.2) (by lia) ?_ dd ?_ (λj q hj=>?_) λr t3 k3 d3=>?_
  ·rw[show(i:Int)+1=((i+1:Nat):Int) by lia];exact go
  ·refine W.frame _ _ _ st λb t o e=>(G.2 b ?_).trans e;simp at t
   rcases t with rfl|rfl
   ·exact be g
   ·exact be h
  ·have:=L6 kvs p.1 p.2;lia
  ·obtain⟨v,J,e1,⟨a',o',c',rfl,a0,a1,a2⟩,a3,m1,m2⟩:=h5 (j+1) q (by simpa using hj);exact⟨_,J,by rw[show i+1+j=i+(j+1) by lia];exact e1,⟨a',o',c',rfl,I a' o' (λz=>m1 (by rw[z])) (λz=>m2 (by rw[z])) a0,a1,a2⟩,a3,m1,m2⟩
  ·exact hR r t3 (λb o U Y e=>k3 b o U Y (I b o U Y e)) d3
def ItA(prog:Program)(w:World)(l:Addr)(its:List Value)(h:Heap):Prop:=∀(A:Around)(s:Shared),A.handled=none->(∀o,h.get? l=some o->s.heap.get? l=some o)->∃(g:Obj)(St:Nat->Heap->Prop),
 (∀(E:Value->Shared->Prop)(Q:Value->Shared->Prop),Q (.ref s.heap.objs.size) {s with heap:=s.heap.push g}->wpAny (model prog w) A (pyIter (.ref l)) Q E s)/\
 Walks prog w A s.heap.objs.size [s.heap.objs.size,l] [s.heap.objs.size] its.toArray.size (λi v=>its.toArray[i]?=some v) St/\St 0 (s.heap.push g)
theorem Vl{T:String}{l:Addr}{ps:List (K×Value)}{Q:Value->Shared->Prop}(hA:A.handled=none)(hl:SqA T l s.heap)(hi:ItA prog w l its s.heap)(hn:ps.length=its.length)(hz:ps.length<=sizeLine)
  (hr:∀(j:Nat)(p:K×Value),ps[j]?=some p->∃ v key,its[j]?=some v/\MD s.heap v key p.2/\knd.is p.1 key=true)
  (hQ:∀ h' t',(∀b o,s.heap.get? b=some o->h'.get? b=some o)->h'.DictOf knd s.heap.objs.size (ps.foldl (λm p=>stored m p.1 p.2) [])->Q (.ref s.heap.objs.size) {s with heap:=h',toks:=t'}):
  wpAny (model prog w) A (call (.type "dict") [.ref l]) Q E s:=by
 refine callType_codes (Q₁:=λG t=>G=.ref s.heap.objs.size/\t={s with heap:=s.heap.push {cls:=.type "dict",data:=.dict #[]} }) F.kt_called_dict (F.kt_typeCall_dict_1 _) F.entry_dict_init (kt_code_dict_new _ ⟨rfl,rfl⟩) λG t e=>?_;obtain⟨rfl,rfl⟩:=e;have h:(s.heap.push {cls:=.type "dict",data:=.dict #[]}).DictOf knd s.heap.objs.size []:=Heap.DictOf.new s.heap;obtain⟨hT,o,hx,I,B⟩:=hl;have J:(s.heap.push {cls:=.type "dict",data:=.dict #[]}).get? l=some o:=am _ hx;refine⟨h.typeIs,F.args_dict_init_2 _ _,?_⟩;unfold Builtin.«dict.__init__»;refine ag ?_;unfold Builtin.Dict.selfAndRest;refine ag (eE h.typeIs ?_);show wpAny _ _ (pure (s.heap.objs.size,[Value.ref l])) _ _ _;refine aD ?_;show wpAny _ _ (Builtin.Dict.updateFrom "dict.__init__" s.heap.objs.size (.ref l) [] .none) _ _ _;unfold Builtin.Dict.updateFrom;refine ag (wpAny_typeOf (T:=T) ⟨_,J,I⟩ ?_);rw[aw (by rcases hT with rfl|rfl<;>decide)];refine ag (tU ⟨hT,o,J,I,B⟩ hA λD t2 U=>?_);rw[aw (show(none:Option Value).isNone=true from rfl)];have C:∀ b O,s.heap.get? b=some O->D.get? b=some O:=λb O e=>U b O (am _ e);obtain⟨oI,St,pi,W,st⟩:=hi A.in1.in1 {s with heap:=D,toks:=t2} hA (C l);have L:s.heap.objs.size<D.objs.size:=by
  obtain⟨o,_,_,e,_⟩:=h;exact aL (U _ o e)
 refine ag (dS (ag (pi _ _ ?_)));refine aD ⟨plainId_quiet U0 _,?_⟩;have g:∀{a:Addr}{o:Obj},s.heap.get? a=some o->a≠s.heap.objs.size/\a≠D.objs.size:=λe=>by
  have:=aL e;exact⟨bf this,bf (hU this L)⟩
 show codeAny _ A.in1 (.builtin "dict.update.loop" ⟨[.ref s.heap.objs.size,.ref D.objs.size,rawInt ((0:Nat):Int),.none],[]⟩) _ {s with heap:=D.push oI,toks:=t2};refine Fv (A:=A.in1) (its:=its) (l:=l) (knd:=knd) (ps:=ps) (kvs:=[]) (i:=0) W (bf L) (be (g hx).1) _ (by lia) st
  ?_ (by simpa using hz) (λj p hj=>?_) λh3 t3 k3 d3=>?_
 ·exact KY h λo e=>am _ (U _ o e)
 ·obtain⟨v,key,e1,⟨a,o,c,rfl,Y,r⟩,hk⟩:=hr j p hj;exact⟨_,key,by rw[cx];exact e1,⟨a,o,c,rfl,am _ (C a o Y),r⟩,hk,λz=>(g Y).1 (by cases z;rfl),λz=>(g Y).2 (by cases z;rfl)⟩
 ·exact⟨rfl,hQ h3 t3 (λb o e=>k3 b o (g e).1 (g e).2 (am _ (C b o e))) d3⟩
end
def V2(K:Fk)(H:Hp)(v:V)(p:Key×V):Prop:=∃ a,v=.ref a/\SqT K H a [kV p.1,p.2]
def uW(K:Fk):List V->Hp->VK->Prop:=λxs H Q=>∃(a:Addr)(vs:List V)(ps:List (Key×V)),xs=[.ref a]/\(SqL K H a vs\/SqT K H a vs)/\vs.length=ps.length/\(∀(j:Nat)(p:Key×V),ps[j]?=some p->∃ v,vs[j]?=some v/\V2 K H v p)/\
 ∀l,H l=none->Q (.ref l) (upd H l (.dK (ps.foldl (λm p=>putK m p.1 p.2) [])))
theorem Nj:∀{ps:List (Key×V)}{g:List (Key×Value)}{m:List (Key×V)}{n:List (Key×Value)},KV ps g->KV m n->KV (ps.foldl (λm p=>putK m p.1 p.2) m) (g.foldl (λm p=>stored m p.1 p.2) n)
 |[],_,_,_,r,h=>by cases r;exact h
 | p::ps,_,_,_,r,h=>by
  cases r with
  |cons l t=>
   rw[bg,bg];refine Nj t ?_;rw[l.1];exact h.put _ l.2
theorem Y4:∀(ps m:List (Key×V)),(ps.foldl (λm p=>putK m p.1 p.2) m).length<=m.length+ps.length
 |[],m=>by simp
 |p::ps,m=>by
  rw[bg,a_];have:=Y4 ps (putK m p.1 p.2);have:=Ju m p.1 p.2;lia
theorem qf{σ:L2.St}{ps:List (Key×V)}(I:L2.Inv X pins σ H s)(G:Vals vs its)(J:∀(j:Nat)(p:Key×V),ps[j]?=some p->∃ v,vs[j]?=some v/\V2 X.K H v p):
  ∃h:List (Key×Value),KV ps h/\∀(j:Nat)(p:Key×Value),h[j]?=some p->∃ v key,its[j]?=some v/\MD s.heap v key p.2/\(Zx X.prog X.w).is p.1 key=true:=by
 have t:∀(j:Nat)(p:Key×V),ps[j]?=some p->∃ v key r,its[j]?=some v/\MD s.heap v key r/\(Zx X.prog X.w).is p.1 key=true/\RelV p.2 r:=λj p g=>by
  obtain⟨v,L,D,rfl,O⟩:=J j p g;obtain⟨u,U,Y⟩:=G.get L;cases(show u=.ref D from Y);obtain⟨js,rt,⟨ob,ho,z,c,hd⟩,_⟩:=I.tuple O;cases rt with
  | cons b1 b2=>cases b2 with
   |cons b3 b4=>
    cases b4;exact⟨_,_,_,U,⟨D,ob,c,rfl,ho,z,hd⟩,Gf b1,b3⟩
 have all:∀(l:List (Key×V))(i:Nat),(∀(j:Nat)(p:Key×V),l[j]?=some p->ps[i+j]?=some p)->∃ h:List (Key×Value),KV l h/\∀(j:Nat)(p:Key×Value),h[j]?=some p->∃ v key,its[i+j]?=some v/\MD s.heap v key p.2/\(Zx X.prog X.w).is p.1 key=true:=λl=>by
  induction l with
  |nil=>intro i _;exact⟨[],.nil,λj p g=>by simp at g⟩
  | cons p l ih=>
   intro i E;obtain⟨h,B,C⟩:=ih (i+1) λj p g=>by rw[show i+1+j=i+(j+1) by lia];exact E (j+1) p (by simpa using g)
   obtain⟨v,key,r,e1,e2,e3,e4⟩:=t i p (by have:=E 0 p rfl;simpa using this);refine⟨(p.1,r)::h,.cons ⟨rfl,e4⟩ B,λj p' g=>?_⟩;cases j with
   |zero=>
    cases bq g;exact⟨v,key,e1,e2,e3⟩
   |succ j=>
    obtain⟨v,key,e⟩:=C j p' (by simpa using g);exact⟨v,key,by rw[show i+(j+1)=i+1+j by lia];exact e.1,e.2⟩
 obtain⟨h,B,C⟩:=all ps 0 λj p g=>by rw[cx];exact g
 exact⟨h,B,λj p g=>by have:=C j p g;rwa [cx]at this⟩
theorem kj{σ:L2.St}(I:L2.Inv X pins σ H s)(t:SqL X.K H a vs\/SqT X.K H a vs):∃ its,Vals vs its/\vs.length<=sizeLine/\∃T,SqA T a s.heap/\ItA X.prog X.w a its s.heap:=by
 rcases t with t|t
 ·obtain⟨its,D,z,E⟩:=I.list t;obtain⟨o,n,B,g,h,l⟩:=id z;refine⟨its,D,E, "list",⟨.inl rfl,o,B,g,h,_,n,l⟩,λA G J k=>?_⟩;have C:G.heap.IsList a its.toArray:=let⟨o,e,r⟩:=z.isList;⟨o,k o e,r⟩;exact⟨_,_,λ_ _ q=>wpAny_pyIter_list C q,Walks.list J _ a (bf (aL (k o B))) its.toArray,⟨⟨_,aR _ rfl,rfl,rfl⟩,let⟨o,e,r⟩:=C;⟨o,am _ e,r⟩⟩⟩
 ·obtain⟨its,D,z,E⟩:=I.nT t;obtain⟨o,B,g,n,l,h⟩:=id z;refine⟨its,D,E, "tuple",⟨.inr rfl,o,B,g,h,_,n,l⟩,λA G J k=>?_⟩;have C:G.heap.IsTuple a its.toArray:=let⟨o,e,r⟩:=z.is;⟨o,k o e,r⟩;exact⟨_,_,λ_ _ q=>wpAny_pyIter_tuple C q,Walks.tuple J _ a (bf (aL (k o B))) its.toArray,⟨⟨_,aR _ rfl,rfl,rfl⟩,let⟨o,e,r⟩:=C;⟨o,am _ e,r⟩⟩⟩
theorem W9(C:X.calm=true):JA X (.type "dict") (uW X.K):=by
 intro pins s σ H xs us Q I r h;obtain⟨a,vs,ps,rfl,D,hn,E,q⟩:=h;obtain⟨u,rfl,G⟩:=vals1 r;cases G;obtain⟨its,t,hz,T,J,L⟩:=kj I D;have n1:=t.length;obtain⟨z,B,O⟩:=qf I t E;have n2:z.length=ps.length:=(bC B).symm;have l:=I.big;refine Vl (knd:=Zx X.prog X.w) (ps:=z) (I.ok.hd C) J L (by lia) (by lia) O λh' t' U Y=>?_;have g:=Y4 ps [];refine⟨.ref s.heap.objs.size,_,I.laid (t':=t') U (ak _) (HD (by rw[eh]at g;lia) ?_ (Nj B .nil) Y),rfl,q _ (I.hok.fresh (ak _))⟩;exact cZ.mpr (eY l)
def XG(o:Option OO)(P:List (Key×PyData)->Prop):Prop:=match o with|some (.dkv ps)=>P ps|_=>False
theorem OM(ps:List (Key×PyData))(P:List (Key×PyData)->Prop):XG (some (.dkv ps)) P=P ps:=rfl
theorem JH{o:Option OO}{P:List (Key×PyData)->Prop}(h:XG o P):∃ ps,o=some (.dkv ps)/\P ps:=by
 rcases o with _|o
 ·exact False.elim h
 ·cases o<;>first|exact⟨_,rfl,h⟩|exact False.elim h
noncomputable def Jh(ps:List (Key×PyData))(k:Key):Option PyData:=(ps.find? λg=>decide (g.1=k)).map (·.2)
noncomputable def VZ(ps:List (Key×PyData))(k:Key)(d:PyData):List (Key×PyData):=if(ps.any λg=>decide (g.1=k))=true then ps.map (λg=>if g.1=k then(g.1,d)else g)else ps++[(k,d)]
inductive KD (K:Fk) (M:Mp) (H:Hp):List (Key×V)->List (Key×PyData)->Prop
 |nil:KD K M H [] []
 |cons {k:Key} {v:V} {d:PyData} {kvs:List (Key×V)} {ps:List (Key×PyData)}:Dt K M H v d->KD K M H kvs ps->KD K M H ((k,v)::kvs) ((k,d)::ps)
theorem KD.of:∀{kvs:List (Key×V)}{ps:List (Key×PyData)},kvs.map (·.1)=ps.map (·.1)->Dts K M H (kvs.map (·.2)) (ps.map (·.2))->KD K M H kvs ps
 |[],[],_,_=>.nil
 |[],_::_,h,_=>by simp at h
 |_::_,[],h,_=>by simp at h
 |(k,v)::kvs,(g,d)::ps,h,hd=>by
  rw[ai,ai,bR]at h;cases(show k=g from h.1);cases hd with
  |cons l r=>exact .cons l (KD.of h.2 r)
theorem KD.keys{ps:List (Key×PyData)}(h:KD K M H kvs ps):kvs.map (·.1)=ps.map (·.1):=by
 induction h with
 |nil=>rfl
 |cons _ _ g=>rw[ai,ai,g]
theorem KD.vals:∀{kvs:List (Key×V)}{ps:List (Key×PyData)},KD K M H kvs ps->Dts K M H (kvs.map (·.2)) (ps.map (·.2))
 |_,_,.nil=>.nil
 |_,_,.cons g h=>.cons g h.vals
theorem KD.any(k:Key):∀{kvs:List (Key×V)}{ps:List (Key×PyData)},KD K M H kvs ps->(kvs.any λg=>decide (g.1=k))=ps.any λg=>decide (g.1=k)
 |_,_,.nil=>rfl
 |_,_,.cons _ h=>by rw[bi,bi,h.any k]
theorem KD.snoc{k:Key}(hd:Dt K M H v d):∀{kvs:List (Key×V)}{ps:List (Key×PyData)},KD K M H kvs ps->KD K M H (kvs++[(k,v)]) (ps++[(k,d)])
 |_,_,.nil=>.cons hd .nil
 |_,_,.cons g h=>.cons g (h.snoc hd)
theorem KD.ie(k:Key)(hd:Dt K M H v d):∀{kvs:List (Key×V)}{ps:List (Key×PyData)},KD K M H kvs ps->KD K M H (kvs.map λg=>if g.1=k then(g.1,v)else g) (ps.map λg=>if g.1=k then(g.1,d)else g)
 |_,_,.nil=>.nil
 |_,_,.cons (k:=l) r h=>by
  rw[ai,ai]
  by_cases e:l=k
  ·rw[aw e,aw e];exact .cons hd (h.ie k hd)
  ·rw[ao e,ao e];exact .cons r (h.ie k hd)
theorem KD.put(k:Key)(hd:Dt K M H v d){ps:List (Key×PyData)}(h:KD K M H kvs ps):KD K M H (putK kvs k v) (VZ ps k d):=by
 unfold putK VZ;rw[h.any k]
 split
 ·exact h.ie k hd
 ·exact h.snoc hd
theorem KD.val(k:Key):∀{kvs:List (Key×V)}{ps:List (Key×PyData)},KD K M H kvs ps->(J2 kvs k=none/\Jh ps k=none)\/∃v d,J2 kvs k=some v/\Jh ps k=some d/\Dt K M H v d
 |_,_,.nil=>.inl ⟨rfl,rfl⟩
 |_,_,.cons (k:=g) (v:=v) (d:=d) l h=>by
  unfold J2 Jh
  by_cases e:g=k
  ·rw[aH (by simpa using e),aH (by simpa using e)];exact .inr ⟨v,d,rfl,rfl,l⟩
  ·rw[aK (by simpa using e),aK (by simpa using e)];exact h.val k
theorem KD.step(st:Step M H M' H'):∀{kvs:List (Key×V)}{ps:List (Key×PyData)},KD K M H kvs ps->KD K M' H' kvs ps
 |_,_,.nil=>.nil
 |_,_,.cons g h=>.cons (g.step st) (h.step st)
theorem KD.length{ps:List (Key×PyData)}(h:KD K M H kvs ps):kvs.length=ps.length:=by
 have:=bK List.length h.keys
 simpa using this
theorem ZR.dk(r:ZR K M H){ps:List (Key×PyData)}(h:M a=some (.dkv ps)):∃ kvs,H a=some (.dK kvs)/\KD K M H kvs ps:=by
 obtain⟨kvs,g,l,t⟩:=r.ok a _ h;exact⟨kvs,g,.of l t⟩
theorem ZR.jh(r:ZR K M H){ps:List (Key×PyData)}(st:Step M H (Zs M p (.dkv ps)) (upd H p (.dK kvs)))(h:KD K M H kvs ps):ZR K (Zs M p (.dkv ps)) (upd H p (.dK kvs)):=
 r.Vk st ⟨kvs,Z0,h.keys,h.vals.step st⟩
section
variable{o i value:Expr}{td ti tv:DTE}{pos':Pos}
def oD(td ti tv:DTE):DTS:=λD Δ M=>tv Δ M λx M1=>td Δ M1 λy M2=>ti Δ M2 λz g=>onD x λd=>onO y λl=>onS z λs=>XG (g l) λps=>ps.length<sizeLine/\D.nx Δ (Zs g l (.dkv (VZ ps (.inr s) d)))
theorem OQ{k:Nat}(hr:QL k X.A)(ho:DE X o td)(hi:DE X i ti)(hv:DE X value tv)(hs:autoParam (swapsWith value (some (.Subscript o i pos')) pos.line X.env=pure false) zz3._auto_1):DS X (.Assign [.Subscript o i pos'] value pos) (oD td ti tv):=by
 obtain⟨t1,p1,q1⟩:=hv;obtain⟨t2,p2,q2⟩:=ho;obtain⟨t3,p3,q3⟩:=hi;refine⟨_,Dz (by have:=hr.un;lia) p2 p3 p1 hs,λσ H Δ M D E r e h k=>?_⟩;refine q1 σ H Δ M _ _ r e h λv H1 x M1 r1 t rv hx=>?_;refine q2 σ H1 Δ M1 _ _ r1 (e.step t) hx λw H2 y M2 r2 B O hy=>?_;refine q3 σ H2 Δ M2 _ _ r2 (e.step (t.trans B)) hy λu J z L U C ru g=>?_;obtain⟨d,rfl,g⟩:=(QD g);obtain⟨l,rfl,g⟩:=(ZM g);obtain⟨s,rfl,g⟩:=(Qu g);obtain⟨ps,Y,hl,hn⟩:=(JH g);cases(show w=.ref l from O);cases ru.str;obtain⟨kvs,g1,g2⟩:=U.dk Y;have dv:Dt X.K L J v d:=(rv.step (B.trans C):QE X.K L J v (.dat d))
 refine⟨l,_,rfl,dc.k (k:=.inr s) g1 (by rw[g2.length];exact hl),?_⟩;have G:Step L J (Zs L l (.dkv (VZ ps (.inr s) d))) (upd J l (.dK (putK kvs (.inr s) v))):=Step.Vb Y;have I:=t.trans (B.trans (C.trans G));exact k.nx _ _ _ _ (U.jh G (g2.put _ dv)) I (e.step I) hn
theorem Mv(g:X.A.units+1<cLine):OpR X (compareOp .NotIn) (λx y H Q=>∃ a kvs s,x=.str s/\y=.ref a/\H a=some (.dK kvs)/\Q (.bl (!(J2 kvs (.inr s)).isSome)) H):=by
 intro pins s σ H x y v u Q I l r h;obtain⟨a,kvs,z,rfl,rfl,t,q⟩:=h;cases(show u=.ref a from r);exact xH g I (CA.k (k:=.inr z) t) l λC B=>⟨.bl _,H,B,rfl,q⟩
theorem KD.some{ps:List (Key×PyData)}(h:KD K M H kvs ps)(k:Key):(J2 kvs k).isSome=(Jh ps k).isSome:=by
 rcases h.val k with⟨a,b⟩|⟨v,d,a,b,_⟩
 ·rw[a,b];rfl
 ·rw[a,b];rfl
def nF(g:Bool):D2:=λx y M Φ=>onS x λs=>onO y λl=>XG (M l) λps=>Φ (.dat (.bool ((Jh ps (.inr s)).isSome != g))) M
theorem Ou{k:Nat}(g:QL k X.A):OpD X (compareOp .NotIn) (nF true):=by
 refine⟨_,Mv (by have:=g.un;lia),λv u H x y M Φ Q r t z h k=>?_⟩;obtain⟨s,rfl,h⟩:=(Qu h);obtain⟨l,rfl,h⟩:=(ZM h);obtain⟨ps,B,q⟩:=(JH h);cases(show u=.ref l from z);obtain⟨kvs,C,D⟩:=r.dk B;refine⟨l,kvs,s,t.str,rfl,C,?_⟩;rw[D.some];simp only[Bool.bne_true]at q;exact k.dat r Step.refl (Dt.bl _) q
def pp(td ti:DTE):DTE:=λΔ M Φ=>td Δ M λx M1=>ti Δ M1 λy M2=>onO x λl=>onS y λs=>XG (M2 l) λps=>∃ d,Jh ps (.inr s)=some d/\Φ (.dat d) M2
theorem qd{k:Nat}(D:QL k X.A)(E:DE X o td)(G:DE X i ti)(I:autoParam (aG i) zz6._auto_1):DE X (.Subscript o i pos) (pp td ti):=by
 obtain⟨t1,J,L⟩:=E;obtain⟨t2,O,U⟩:=G;refine⟨_,Ek (by have:=D.un;lia) J O I,λσ H Δ M Φ Q r e h k=>?_⟩;refine L σ H Δ M _ _ r e h λv Y x M1 r1 t rv hx=>?_;refine U σ Y Δ M1 _ _ r1 (e.step t) hx λw H2 y M2 C z B g=>?_;obtain⟨l,rfl,g⟩:=(ZM g);obtain⟨s,rfl,g⟩:=(Qu g);obtain⟨ps,hm,d,hd,q⟩:=(JH g);cases(show v=.ref l from rv);cases B.str;obtain⟨kvs,g1,g2⟩:=C.dk hm
 rcases g2.val (.inr s)with⟨_,b⟩|⟨u,d',a,b,du⟩
 ·rw[hd]at b;cases b
 ·rw[hd]at b;cases b;exact⟨l,u,rfl,by rw[<-a];exact CA.k (k:=.inr s) g1,k.dat C (t.trans z) du q⟩
theorem MN:JA X (.builtin "len") (λxs H Q=>∃ a kvs,xs=[.ref a]/\H a=some (.dK kvs)/\Q (.int kvs.length) H):=by
 intro pins s σ H xs us Q I r h;obtain⟨a,kvs,rfl,g,q⟩:=h;obtain⟨u,rfl,l⟩:=vals1 r;cases l;exact yp I (.inl g) λt B z=>⟨.int kvs.length,H,z,⟨t,rfl⟩,q⟩
def o_:D1:=λxs M Φ=>on1 xs λx=>onO x λl=>XG (M l) λps=>Φ (.dat (.int ps.length)) M
theorem xM:J6 X (.builtin "len") o_:=by
 refine⟨_,MN,λvs H xs M Φ Q r g h k=>?_⟩;obtain⟨x,rfl,h⟩:=(ZP h);obtain⟨l,rfl,h⟩:=(ZM h);obtain⟨ps,t,q⟩:=(JH h);obtain⟨v,rfl,z⟩:=Paired.one g;cases(show v=.ref l from z);obtain⟨kvs,B,C⟩:=r.dk t;exact⟨l,kvs,rfl,B,by rw[C.length];exact k.dat r Step.refl (Dt.int _) q⟩
noncomputable def pairD(p:Str×PyData):PyData:=.tuple [.str p.1,p.2]
noncomputable def YF(l:List (Str×PyData)):List (Key×PyData):=l.foldl (λm p=>VZ m (.inr p.1) p.2) []
def Pt:D1:=λxs M Φ=>on1 xs λx=>onK x M λds=>∃ l:List (Str×PyData),ds=l.map pairD/\∀p,M p=none->Φ (.own p) (Zs M p (.dkv (YF l)))
theorem HL:∀(l:List (Str×PyData))(g:List V),Dts X.K M H g (l.map pairD)->∃ ps:List (Key×V),ps.length=g.length/\(∀(j:Nat)(p:Key×V),ps[j]?=some p->∃ v,g[j]?=some v/\V2 X.K H v p)/\KD X.K M H ps (l.map λp=>((.inr p.1:Key),p.2)):=λl=>by
 induction l with
 |nil=>
  intro g h;cases h;exact⟨[],rfl,λj p r=>by simp at r,.nil⟩
 | cons p l t=>
  intro g h;rw[ai]at h;cases h with
  | cons z B=>
   obtain⟨ps,C,D,E⟩:=t _ B;cases z with
   | tup G I=>
    cases I with
    | cons J L=>cases L with
     | cons O U=>
      cases U;cases J;refine⟨(.inr p.1,_)::ps,by rw[a_,a_,C],λj q r=>?_,.cons O E⟩;cases j with
      |zero=>
       cases bq r;exact⟨_,rfl,_,rfl,G.sq⟩
      |succ j=>
       obtain⟨v,Y,e2⟩:=D j q (by simpa using r);exact⟨v,by simpa using Y,e2⟩
theorem Fe:∀(ps:List (Key×V))(l:List (Str×PyData))(m:List (Key×V))(n:List (Key×PyData)),KD X.K M H ps (l.map λp=>((.inr p.1:Key),p.2))->KD X.K M H m n->KD X.K M H (ps.foldl (λm p=>putK m p.1 p.2) m) (l.foldl (λm p=>VZ m (.inr p.1) p.2) n):=λps=>by
 induction ps with
 |nil=>
  intro l m n h g;cases l with
  |nil=>exact g
  |cons _ _=>cases h
 | cons p ps r=>
  intro l m n h g;cases l with
  |nil=>cases h
  | cons q l=>
   rw[ai]at h;cases h with
   |cons t z=>
    rw[bg,bg];exact r l _ _ z (g.put _ t)
theorem U6(B:X.calm=true):J6 X (.type "dict") Pt:=by
 refine⟨_,W9 B,λvs H xs M Φ Q r C h k=>?_⟩;obtain⟨x,rfl,h⟩:=(ZP h);obtain⟨ds,g,l,rfl,q⟩:=(V8 h);replace g:Ml x M (l.map pairD):=g;obtain⟨v,rfl,D⟩:=Paired.one C;obtain⟨a,t,rfl,E,G⟩:=g.sq r D;obtain⟨ps,I,J,L⟩:=HL l t G;refine⟨a,t,ps,rfl,.inl E,I.symm,J,λp z=>?_⟩;have st:Step M H (Zs M p (.dkv (YF l))) (upd H p (.dK (ps.foldl (λm p=>putK m p.1 p.2) []))):=Step.Qp z;exact k _ _ (.own p) _ (r.jh st (Fe ps l [] [] L .nil)) st rfl (q p (r.tracked z))
end
theorem Nt{g:Scope}{C:Addr}{r:List Str}{ex:List Addr}{s:Shared}{H:Hp}{sc scope:Scope}{N:List Str}{ix:List (Option Nat)}(l:X.env.scope=sc)
  (h:scope.kind=.function/\(∀y∈scope.names,y.2≠.cell)/\(∀y∈scope.names,y.2=.local->scope.names.lookup y.1=some .local)/\(∀y∈scope.names,y.2=.free->(X7 g sc).lookup y.1=some .cell)/\N.length=ix.length/\
   ∀j∈List.range N.length,jI {g with names:=X7 g sc} r scope N ix j=true):V1 (Z9 X g C r ex s H) scope N ix:=
 Zn (sc:={g with names:=X7 g sc}) (by subst l;rfl) rfl h
section
variable{σ:L2.St}
theorem F1{t':Nat}{ch:List Addr}(I:L2.Inv X pins σ H s)(k:∀ b o,b∉ch->s.heap.get? b=some o->h'.get? b=some o)(f:∀ b∈ch,Hb X pins H b):L2.Inv X pins σ H {s with heap:=h',toks:=t'}:=by
 have h:∀ b u,H b=some u->b∉ch:=λb u e z=>by rw[(f b z).1]at e;cases e
 refine I.step (g':=s.gens) (d':=s.drawn) (ch:=ch) (λb l=>?_) (λb o _ _ g e _=>k b o g e) (λb o _ _ g e _=>⟨o.slots,k b o g e⟩) (λ_ _ _ _ n=>n)
  (λb o g e=>⟨o,k b o g e⟩) (λ_ _ e=>e) (λ_ _ _ e=>e) (λb ps e=>⟨#[],by rw[e];simp⟩) (λm t=>?_) (λb u e=>?_) I.bare
 ·obtain⟨_,B,_,C,D,E⟩:=f b l;exact⟨C,B,D,E⟩
 ·obtain⟨o,G,J,L,r⟩:=t;exact⟨o,G,J,k _ o (λz=>(f _ z).2.1 rfl) L,r⟩
 ·refine(I.hok b u e).stay (λc v g q=>k c v ?_ q) (λ_ q=>q) λ_ _ q=>q
  rcases g with z|z
  ·rw[z];exact h b u e
  ·exact h c _ z
end
def RW:D2:=λx y M Φ=>onK x M λds=>onK y M λg=>ds.length+g.length<=sizeLine/\∀p,M p=none->Φ (.own p) (Zs M p (.lst (ds++g)))
theorem UY:OpD X (binaryOp .Add) RW:=by
 refine⟨_,Fi,λv u H x y M Φ Q r C D h k=>?_⟩;obtain⟨ds,g,h⟩:=(V8 h);obtain⟨E,l,G,q⟩:=(V8 h);replace g:Ml x M ds:=g;replace l:Ml y M E:=l;obtain⟨a,xs,rfl,I,z⟩:=g.sq r C;obtain⟨b,J,rfl,L,B⟩:=l.sq r D;refine⟨a,b,xs,J,rfl,rfl,I,L,by rw[z.length,B.length];exact G,λp t=>?_⟩;exact k _ _ (.own p) _ (r.XM (Step.Qp t) (z.append B)) (Step.Qp t) rfl (q p (r.tracked t))
noncomputable def isS(h:PyData)(s:Str):Bool:=match h with| .str t=>decide (t=s)|_=>false
open PySem.SeqAt PySem.MeetsSeq
theorem Jg(l:Addr)(t:Array DictEntry)(n:Nat)(z:Option Addr)(B:Array (Option Value))(b:Str)(u:Tok):
  Meets (Builtin.«dict.__eq__» ⟨[.ref l,.str b u],[]⟩) (λ_ R s=>s.heap.get? l=some {cls:=.type "dict",dict:=z,data:=.dict t n,slots:=B}/\R (.ok (.ret .notImplemented)) s):=
 .of_wp λr w A R s h=>by
  obtain⟨D,g,d,E,os⟩:=s;obtain⟨C,h⟩:=h;have G:=F.sub_str_dict
  wp_walk using wpAny_loadPart' C
  exact⟨_,rfl,h⟩
theorem Jf(b:Str)(u:Tok)(l:Addr)(c:Value)(z:Array DictEntry)(n:Nat)(B:Option Addr)(C:Array (Option Value)):
  Meets (Builtin.«str.__eq__» ⟨[.str b u,.ref l],[]⟩) (λ_ R s=>s.heap.get? l=some {cls:=c,dict:=B,data:=.dict z n,slots:=C}/\R (.ok (.ret .notImplemented)) s):=
 .of_wp λr w A R s h=>by obtain⟨D,g,d,E,os⟩:=s;obtain⟨t,h⟩:=h;wp_walk using wpAny_loadPart' t,wpAny_load t;exact⟨_,rfl,h⟩
def jg(h:Heap)(l:Addr):Prop:=∃(o:Obj)(g:Array DictEntry)(n:Nat),h.get? l=some o/\o.cls=.type "dict"/\o.data=.dict g n
theorem Ep{l:Addr}(b:Str)(u:Tok)(I:jg s.heap l)(J:A.units<cLine):RcAt A s (.ref l) (.str b u) false:=λt w E Q h=>by
 obtain⟨⟨L,z,B,C⟩,D,n,r,G,hd⟩:=I;simp only at G hd;subst G hd;exact rc_eq_decline_or (k:=false) ⟨_,r,rfl⟩ (gE s b u) (by decide) F.sub_str_dict F.slot_dict_eq F.slot_str_eq_refl
  (λ_ g=>fG F.slot_dict_eq ⟨_,r,rfl⟩ F.entry_dict_eq (F.args_dict_eq_2 _ _) (Jg l D n z C b u) ⟨r,g⟩)
  (λ_ g=>fG F.slot_str_eq_refl (gE s b u) F.entry_str_eq (F.args_str_eq_2 _ _) (Jf b u l (.type "dict") D n z C) ⟨r,g⟩)
  (λ_ g=>wpAny_of_eq (rfl:isSame (.ref l) (.str b u)=pure false) g) (.inr J) h
theorem DF{l:Addr}(b:Str)(u:Tok)(I:jg s.heap l)(J:A.units<cLine):RcAt A s (.str b u) (.ref l) false:=λt w E Q h=>by
 obtain⟨⟨L,z,B,C⟩,D,n,r,G,hd⟩:=I;simp only at G hd;subst G hd;exact rc_eq_decline_or (k:=false) (gE s b u) ⟨_,r,rfl⟩ (by decide) F.sub_dict_str F.slot_str_eq F.slot_dict_eq_refl
  (λ_ g=>fG F.slot_str_eq (gE s b u) F.entry_str_eq (F.args_str_eq_2 _ _) (Jf b u l (.type "dict") D n z C) ⟨r,g⟩)
  (λ_ g=>fG F.slot_dict_eq_refl ⟨_,r,rfl⟩ F.entry_dict_eq (F.args_dict_eq_2 _ _) (Jg l D n z C b u) ⟨r,g⟩)
  (λ_ g=>wpAny_of_eq (rfl:isSame (.str b u) (.ref l)=pure false) g) (.inr J) h
theorem D7{l:Addr}(b:Str)(u:Tok)(t:jg s.heap l)(z:A.units<cLine):EqAt A s (.str b u) (.ref l) false:=λg w E Q h=>by
 unfold eqBool;refine cr ?_;refine wpAny_ite_split (λr=>absurd (eq_of_beq r) nofun) (λ_=>?_);exact ag (DF b u t z g w E _ (eI h))
inductive Bs (h:Heap) (b:Bool) (t:Str):Value->Prop
 |non:b=false->Bs h b t .none
 |bl (k:Bool):b=false->Bs h b t (.bool k)
 |int (i:Int) (u:Tok):b=false->Bs h b t (.int i u)
 |str (x:Str) (u:Tok):b=decide (x=t)->Bs h b t (.str x u)
 |tup {a:Addr} {items:Array Value}:h.IsTuple a items->b=false->Bs h b t (.ref a)
 |lst {a:Addr} {items:Array Value}:h.IsList a items->b=false->Bs h b t (.ref a)
 |dic {a:Addr}:jg h a->b=false->Bs h b t (.ref a)
theorem oh{σ:L2.St}{x:V}{v:Value}(t:Str)(I:L2.Inv X pins σ H s)(r:RelV x v)(h:Dt X.K M H x d):Bs s.heap (isS d t) t v:=by
 cases h with
 |non=>cases r;exact .non rfl
 |bl b=>cases r;exact .bl b rfl
 |int i=>obtain⟨u,rfl⟩:=r;exact .int i u rfl
 |str z=>obtain⟨u,rfl⟩:=r;exact .str z u rfl
 |tup g B=>
  cases r;obtain⟨its,D,p,_⟩:=I.tuple g.sq;exact .tup (show s.heap.IsTuple _ its.toArray from p) rfl
 |lst g B=>
  cases r;obtain⟨its,D,p,_⟩:=I.list g.sq;exact .lst p.isList rfl
 |dK C g B=>
  cases r;obtain⟨_,_,_,_,o,l,n,e,c,d,_⟩:=I.hok _ _ g;exact .dic ⟨o,l,n,e,c.1,d⟩ rfl
 |dT C g B _=>
  cases r;obtain⟨_,_,_,_,o,l,n,e,c,d,_⟩:=I.hok _ _ g;exact .dic ⟨o,l,n,e,c.1,d⟩ rfl
 |dX C g B E J L=>
  cases r;obtain⟨G,_⟩:=I.hok _ _ g;obtain⟨o,l,n,u,e,c,d,_⟩:=E _ G;exact .dic ⟨o,l,n,e,c,d⟩ rfl
theorem Bs.rc{b:Bool}{t:Str}{v:Value}(u:Tok)(h:Bs s.heap b t v)(g:A.units<cLine):RcAt A s v (.str t u) b:=by
 cases h with
 |non e=>rw[e];exact RcAt.none_str t u
 |bl k e=>rw[e];exact RcAt.bool_str k t u
 |int i w e=>rw[e];exact RcAt.int_str i w t u
 |str x w e=>rw[e,<-cg];exact RcAt.str_str x w t u
 |tup p e=>rw[e];exact RcAt.tuple_str t u p g
 |lst p e=>rw[e];exact RcAt.list_str t u p g
 |dic p e=>rw[e];exact Ep t u p g
theorem Bs.eq{b:Bool}{t:Str}{v:Value}(u:Tok)(h:Bs s.heap b t v)(g:A.units<cLine):EqAt A s (.str t u) v b:=by
 cases h with
 |non e=>rw[e];exact EqAt.str_none t u
 |bl k e=>rw[e];exact EqAt.str_bool t u k
 |int i w e=>rw[e];exact EqAt.str_int t u i w
 |str x w e=>
  have l:b=(t==x):=by rw[e,cg,decide_eq_decide];exact eq_comm
  rw[l];exact EqAt.str_str t u x w
 |tup p e=>rw[e];exact EqAt.str_tuple t u p g
 |lst p e=>rw[e];exact EqAt.str_list t u p g
 |dic p e=>rw[e];exact D7 t u p g
theorem vd(g:X.A.units<cLine):OpR X (compareOp .Eq) (λx y H Q=>∃ M d t,Dt X.K M H x d/\y=.str t/\Q (.bl (isS d t)) H):=by
 intro pins s σ H x y v u Q I l r h;obtain⟨M,d,t,z,rfl,q⟩:=h;obtain⟨w,rfl⟩:=r;exact(oh t I l z).rc w g _ _ _ _ ⟨.bl _,H,I,rfl,q⟩
def kZ:D2:=λx y M Φ=>onD x λd=>onS y λt=>Φ (.dat (.bool (isS d t))) M
theorem ER{k:Nat}(g:QL k X.A):OpD X (compareOp .Eq) kZ:=
 ⟨_,vd (by have:=g.un;lia),λv u H x y M Φ Q r l z h k=>by
  obtain⟨d,B,h⟩:=QD h;obtain⟨t,C,q⟩:=Qu h;subst B C
  exact⟨M,d,t,l,z.str,k.dat r Step.refl (Dt.bl _) q⟩⟩
theorem rH(z:X.A.in1.units<cLine):OpR X (compareOp .In) (λx y H Q=>∃(M:Mp)(d:PyData)(b:Addr)(ts:List Str),Dt X.K M H x d/\y=.ref b/\SqT X.K H b (ts.map V.str)/\Q (.bl (ts.any (isS d))) H):=by
 intro pins s σ H x y v u Q I B C h;obtain⟨M,d,b,ts,D,rfl,E,q⟩:=h;cases C;obtain⟨its,r,p,_⟩:=I.tuple E;have l:∀(ts:List Str)(its:List Value),Vals (ts.map V.str) its->(∀y∈its,EqAt X.A.in1 s y v (match y with| .str t _=>isS d t|_=>false))/\(its.any λy=>match y with| .str t _=>isS d t|_=>false)=ts.any (isS d):=by
  intro ts
  induction ts with
  |nil=>intro its r;cases r;exact⟨λy g=>(nomatch g),rfl⟩
  | cons t ts G=>
   intro its r;rw[ai]at r;cases r with
   |cons J L=>
    obtain⟨w,rfl⟩:=J;obtain⟨O,U⟩:=G _ L;refine⟨λy g=>?_,by rw[bi,bi,U]⟩
    rcases aW.mp g with rfl|g
    ·exact(oh t I B D).eq w z
    ·exact O y g
 obtain⟨Y,k2⟩:=l ts its r;refine in_tupleAt (λy=>match y with| .str t _=>isS d t|_=>false) (show s.heap.IsTuple b its.toArray from p) (λy g=>Y y (by simpa using g)) ⟨.bl _,H,I,?_,q⟩;rw[<-k2];simp only[List.any_toArray];rfl
def oJ:D2:=λx y M Φ=>onD x λd=>onT y λds=>∃ g:List Str,ds=g.map PyData.str/\Φ (.dat (.bool (g.any (isS d)))) M
theorem FV{k:Nat}(l:QL k X.A):OpD X (compareOp .In) oJ:=
 ⟨_,rH (by have:=l.un;show X.A.units+1<_;lia),λv u H x y M Φ Q r t z h k=>by
  obtain⟨d,B,h⟩:=QD h;obtain⟨ds,C,D,rfl,q⟩:=XT h;subst B C;obtain⟨b,xs,rfl,g,E⟩:=z.tup;rw[Xv E]at g
  exact⟨M,d,b,D,t,rfl,g.sq,k.dat r Step.refl (Dt.bl _) q⟩⟩
theorem Cs:∀(l g:List (Key×V)),(l.map (·.1)).Nodup->(∀p∈l,∀q∈g,q.1≠p.1)->l.foldl (λg B=>putK g B.1 B.2) g=g++l
 |[],g,_,_=>by simp
 | p::l,g,t,hd=>by
  rw[ai,cv]at t;have e:putK g p.1 p.2=g++[p]:=by
   unfold putK;rw[ao];intro z;obtain⟨q,h,e⟩:=cE.mp z;exact hd p aj q h (aY e)
  rw[bg,e,Cs l _ t.2 λC r q h=>?_]
  ·simp
  ·rcases ax.mp h with h|h
   ·exact hd C (aq _ r) q h
   ·rw[au.mp h];intro z;exact t.1 (af.mpr ⟨C,r,z.symm⟩)
theorem Li(l:List (Key×V))(h:(l.map (·.1)).Nodup):Wo [] l=l:=by
 unfold Wo;rw[Cs l [] h λp _ q g=>(nomatch g)];rfl
theorem we:OpR X (binaryOp .Add) (λx y H Q=>∃ a b xs g,x=.ref a/\y=.ref b/\SqT X.K H a xs/\SqT X.K H b g/\xs.length+g.length<=sizeLine/\
  (xs=[]->Q (.ref b) H)/\(xs≠[]->g=[]->Q (.ref a) H)/\(xs≠[]->g≠[]->∀ p,H p=none->Q (.ref p) (upd H p (.tup (xs++g))))):=by
 intro pins s σ H x y v u Q I E G h;obtain⟨a,b,xs,g,rfl,rfl,J,L,hz,q0,q1,q2⟩:=h
 by_cases l:xs=[]
 ·cases E;cases G;obtain⟨its,r1,p1,_⟩:=I.tuple J;obtain⟨r,r2,p2,_⟩:=I.tuple L;obtain⟨⟨a1,dd,O,sl⟩,U,Y,n,hd⟩:=id p1;obtain⟨⟨a0,C,data2,D⟩,t,z,n2,B⟩:=id p2;simp only at Y hd z B;subst Y hd z B;have he:its=[]:=r1.U1.mpr l;exact concat_meets ⟨_,U,rfl⟩ ⟨_,t,rfl⟩ noFill_tuple_add seq_tuple_add fO fI (fu _ _)
   (tuple_addW0 a b its.toArray r.toArray n n2 dd C sl D (by rw[he];rfl)) ⟨U,t,⟨.ref b,H,I,rfl,q0 l⟩⟩
 ·exact wE pins s σ H _ _ v u Q I E G ⟨a,b,xs,g,rfl,rfl,J,L,l,hz,q1 l,q2 l⟩
def MP:D2:=λx y M Φ=>onT x λds=>onT y λg=>ds.length+g.length<=sizeLine/\Φ (.dat (.tuple (ds++g))) M
theorem JF:OpD X (binaryOp .Add) MP:=by
 refine⟨_,we,λv u H x y M Φ Q r z B h k=>?_⟩;obtain⟨ds,rfl,h⟩:=(XT h);obtain⟨J,rfl,D,q⟩:=(XT h);obtain⟨a,xs,rfl,E,g⟩:=id z.tup;obtain⟨b,G,rfl,I,l⟩:=id B.tup;refine⟨a,b,xs,G,rfl,rfl,E.sq,I.sq,by rw[g.length,l.length];exact D,λe=>?_,λe C=>?_,λe C p t=>?_⟩
 ·subst e;cases g;exact k _ _ _ _ r Step.refl B q
 ·subst C;cases l;rw[aU]at q;exact k _ _ _ _ r Step.refl z q
 ·exact k.dat (r.new t) (Step.new t) (Dt.GV r t (g.append l)) q
abbrev DTP:=DSt->Mp->(List (DV×DV)->Mp->Prop)->Prop
def DPs(X:Cx)(pos:Pos)(h:List (Option Expr))(g:List Expr)(t:DTP):Prop:=
 ∃l,PPs X pos h g l/\l.length=h.length/\∀σ H Δ M Φ (Q:List (V×V)->Hp->Prop),ZR X.K M H->Jy X.K M H σ Δ->t Δ M Φ->
  (∀ps H' r M',ZR X.K M' H'->Step M H M' H'->Paired (λ(p:V×V) (q:DV×DV)=>QE X.K M' H' p.1 q.1/\QE X.K M' H' p.2 q.2) ps r->Φ r M'->Q ps H')->EH l σ H Q
def nJ:DTP:=λ_ M Φ=>Φ [] M
def nE(tk g:DTE)(t:DTP):DTP:=λΔ M Φ=>tk Δ M λx M1=>g Δ M1 λy M2=>t Δ M2 λh l=>Φ ((x,y)::h) l
theorem qT:DPs X pos [] [] nJ:=⟨[],yO,rfl,λ_ H _ M _ _ r _ h k=>k [] H [] M r Step.refl .nil h⟩
theorem Y1{k v:Expr}{ks:List (Option Expr)}{vs:List Expr}{tk B:DTE}{t:DTP}(C:DE X k tk)(D:DE X v B)(E:DPs X pos ks vs t):DPs X pos (some k::ks) (v::vs) (nE tk B t):=by
 obtain⟨a,p,q⟩:=C;obtain⟨b,G,I⟩:=D;obtain⟨c,J,L,O⟩:=E;refine⟨_,wC p G J,by rw[a_,a_,L],λσ H Δ M Φ Q r e h k=>?_⟩;refine q σ H Δ M _ _ r e h λx U x' M1 Y g rx hx=>?_;refine I σ U Δ M1 _ _ Y (e.step g) hx λy H2 y' M2 r2 l ry hy=>?_;exact O σ H2 Δ M2 _ _ r2 ((e.step g).step l) hy λps H3 qs M3 r3 z rp hq=>k _ H3 _ M3 r3 ((g.trans l).trans z) (.cons ⟨(rx.step l).step z,ry.step z⟩ rp) hq
def mq(h r t:DTE):DTE:=λΔ M Φ=>h Δ M λx M1=>onO x λl=>XG (M1 l) λ_=>r Δ M1 λy M2=>t Δ M2 λz g=>onS y λs=>onD z λd=>XG (g l) λps=>Φ (.dat ((Jh ps (.inr s)).getD d)) g
theorem u_{k:Nat}{o f:Expr}{td tf:DTE}{apos cpos:Pos}(hr:QL k X.A)(ho:DE X o td)(he:DE X e te)(hf:DE X f tf)(C:autoParam (attributeBase o "get" X.env (eval o X.env)=eval o X.env) zz3._auto_1)
  (G:((backTo cpos (starEach [e,f] X.env)).all (λx=>!x.1)&&(backToKw cpos (keywordEach [] X.env)).all (λx=>x.1.isSome)
   &&decide (([e,f]:List Expr).length+([]:List Keyword).length+(if([]:List Keyword).isEmpty then 0 else 1)<30))=true:=by rfl)
  (D:autoParam ((apos.endLine==cpos.line)=true) zz3._auto_1) (L:autoParam (backTo cpos (starEach [e,f] X.env)=[(false,eval e X.env),(false,eval f X.env)]) zz3._auto_1):DE X (.Call (.Attribute o "get" apos) [e,f] [] cpos) (mq td te tf):=by
 obtain⟨t1,p1,q1⟩:=ho;obtain⟨t2,p2,q2⟩:=he;obtain⟨t3,p3,q3⟩:=hf;refine⟨_,FH (by have:=hr.un;lia) p1 p2 p3 ⟨C,G,D,L⟩,λσ H Δ M Φ Q r e h k=>?_⟩;refine q1 σ H Δ M _ _ r e h λv H1 x M1 r1 t rv B=>?_;obtain⟨l,rfl,B⟩:=(ZM B);obtain⟨a0,O,B⟩:=(JH B);cases(show v=.ref l from rv);obtain⟨I,g0,_⟩:=r1.dk O;refine⟨l,rfl,.inl ⟨I,.inl g0⟩,q2 σ H1 Δ M1 _ _ r1 (e.step t) B λw H2 y M2 r2 E U hy=>?_⟩;refine q3 σ H2 Δ M2 _ _ r2 ((e.step t).step E) hy λz H3 z' M3 Y J rz g=>?_;obtain⟨s,rfl,g⟩:=(Qu g);obtain⟨d,rfl,g⟩:=(QD g);obtain⟨ps,hm,q⟩:=(JH g);cases U.str;obtain⟨kvs,g1,g2⟩:=Y.dk hm;refine⟨_,CA.k (k:=.inr s) g1,?_⟩
 rcases g2.val (.inr s)with⟨a,b⟩|⟨u,d',a,b,du⟩
 ·rw[b]at q;rw[a];exact k.dat Y ((t.trans E).trans J) rz q
 ·rw[b]at q;rw[a];exact k.dat Y ((t.trans E).trans J) du q
def Rsg(l:List Nat):Prop:=l.Pairwise (· < ·)
theorem Rsg.lt{l:List Nat}(h:Rsg l){u v:Nat}(r:l[i]?=some u)(t:l[j]?=some v)(g:i<j):u<v:=by
 obtain⟨z,rfl⟩:=aE.mp r;obtain⟨B,rfl⟩:=aE.mp t;exact(ce.mp h) i j z B g
def Spl(l:List Nat)(j r:Nat):Prop:=(∀k v,k<r->l[k]?=some v->v<j)/\(∀k v,r<=k->l[k]?=some v->j<=v)/\r<=l.length
theorem Gv{xs:Array Nat}(h:Rsg xs.toList)(j:Nat):∀ g lo l,l-lo<=g->lo<=l->l<=xs.size->(∀k v,k<lo->xs.toList[k]?=some v->v<j)->(∀k v,l<=k->xs.toList[k]?=some v->j<=v)->Spl xs.toList j (SetTable.below.go xs j g lo l)
 |0,lo,l,I,J,z,B,C=>by
  have e:l=lo:=by omega
  subst e;exact⟨B,C,by rw[aS];exact z⟩
 | g+1,lo,l,I,J,z,B,C=>by
  unfold SetTable.below.go
  by_cases t:lo<l
  ·rw[aw t];dsimp only;have G:(lo+l)/2<xs.size:=by omega
   have D:xs.toList[(lo+l)/2]?=some (xs.getD ((lo+l)/2) j):=by
    rw[bH,Array.getElem?_eq_getElem G];simp[Array.getD,G]
   by_cases E:xs.getD ((lo+l)/2) j<j
   ·rw[aw E];refine Gv h j g _ _ (by omega) (by omega) z (λk v L r=>?_) C
    by_cases e:k=(lo+l)/2
    ·rw[e,D]at r;cases r;exact E
    ·exact hU (h.lt r D (by omega)) E
   ·rw[ao E];refine Gv h j g _ _ (by omega) (by omega) (by omega) B (λk v L r=>?_)
    by_cases e:k=(lo+l)/2
    ·rw[e,D]at r;cases r;omega
    ·have:=h.lt D r (by omega);omega
  ·rw[ao t];have e:l=lo:=by omega
   subst e;exact⟨B,C,by rw[aS];exact z⟩
theorem SH{xs:Array Nat}(h:Rsg xs.toList)(j:Nat):Spl xs.toList j (SetTable.below xs j):=by
 unfold SetTable.below;exact Gv h j _ _ _ (by lia) (by lia) (ak _) (λk v g=>absurd g (by lia)) λk v g l=>by
  have:=(aE.mp l).1;rw[aS]at this;lia
def D0(o:Option OO)(P:List (Key×DV)->Prop):Prop:=match o with|some (.dko ps)=>P ps|_=>False
theorem Nq(ps:List (Key×DV))(P:List (Key×DV)->Prop):D0 (some (.dko ps)) P=P ps:=rfl
theorem Xx{o:Option OO}{P:List (Key×DV)->Prop}(h:D0 o P):∃ ps,o=some (.dko ps)/\P ps:=by
 rcases o with _|o
 ·exact False.elim h
 ·cases o<;>first|exact⟨_,rfl,h⟩|exact False.elim h
noncomputable def QY(ps:List (Key×DV))(k:Key):Option DV:=(ps.find? λp=>decide (p.1=k)).map (·.2)
noncomputable def Xo(ps:List (Key×DV))(k:Key)(x:DV):List (Key×DV):=if(ps.any λp=>decide (p.1=k))=true then ps.map (λp=>if p.1=k then(p.1,x)else p)else ps++[(k,x)]
abbrev KO(K:Fk)(M:Mp)(H:Hp):List (Key×V)->List (Key×DV)->Prop:=Paired λ(p:Key×V) (q:Key×DV)=>p.1=q.1/\VR0 K M H p.2 q.2
theorem VR0.rel{x:DV}(h:VR0 K M H v x):QE K M H v x:=by
 cases x with
 |dat d=>exact h
 |own b=>exact h
 |ty n=>exact h.elim
 |mix xs=>exact h
theorem pq{ps:List (Key×DV)}(h:KO K M H kvs ps)(k:Key):(kvs.any λp=>decide (p.1=k))=ps.any λp=>decide (p.1=k):=by
 induction h with
 |nil=>rfl
 | @cons p q ps r g t l=>rw[bi,bi,l,g.1]
theorem Fl{ps:List (Key×DV)}(h:KO K M H kvs ps)(k:Key){x:DV}(e:QY ps k=some x):∃ v,J2 kvs k=some v/\VR0 K M H v x:=by
 induction h with
 |nil=>cases e
 | @cons p q ps r g t l=>
  unfold QY at e;unfold J2
  by_cases z:q.1=k
  ·rw[aH (by simpa using z)]at e;rw[aH (by simpa using g.1.trans z)];cases e;exact⟨p.2,rfl,g.2⟩
  ·rw[aK (by simpa using z)]at e;rw[aK (by simpa using λy=>z (g.1.symm.trans y))];exact l e
theorem sZ{ps:List (Key×DV)}(h:KO K M H kvs ps)(k:Key){x:DV}(l:VR0 K M H v x):KO K M H (kvs.map λp=>if p.1=k then(p.1,v)else p) (ps.map λp=>if p.1=k then(p.1,x)else p):=by
 induction h with
 |nil=>exact .nil
 | @cons p q ps t g B r=>
  refine .cons ?_ r;dsimp only
  by_cases z:q.1=k
  ·rw[aw z,aw (g.1.trans z)];exact⟨g.1,l⟩
  ·rw[ao z,ao λy=>z (g.1.symm.trans y)];exact g
theorem oA{ps:List (Key×DV)}(h:KO K M H kvs ps)(k:Key){x:DV}(g:VR0 K M H v x):KO K M H (putK kvs k v) (Xo ps k x):=by
 unfold putK Xo;rw[pq h k]
 split
 ·exact sZ h k g
 ·exact Paired.snoc h ⟨rfl,g⟩
theorem HK{ps:List (Key×DV)}(h:KO K M H kvs ps):kvs.length=ps.length:=by
 induction h with
 |nil=>rfl
 |cons l r g=>rw[a_,a_,g]
theorem Rx{ps:List (Key×DV)}(h:KO K M H kvs ps):kvs.map (·.1)=ps.map (·.1):=by
 induction h with
 |nil=>rfl
 |cons g r l=>rw[ai,ai,l,g.1]
theorem wD{ps:List (Key×DV)}(h:KO K M H kvs ps)(st:Step M H M' H'):KO K M' H' kvs ps:=Paired.fm h λ_ _ z=>⟨z.1,z.2.step st⟩
theorem ZR.ko(r:ZR K M H){ps:List (Key×DV)}(h:M a=some (.dko ps)):∃ kvs,H a=some (.dK kvs)/\KO K M H kvs ps:=r.ok a _ h
theorem ZR.O8(r:ZR K M H){ps:List (Key×DV)}(st:Step M H (Zs M p (.dko ps)) (upd H p (.dK kvs)))(h:KO K M H kvs ps):ZR K (Zs M p (.dko ps)) (upd H p (.dK kvs)):=
 r.Vk st ⟨kvs,Z0,wD h st⟩
theorem QE.zero{x:DV}(h:QE K M H v x)(n:∀ t,x≠.ty t):VR0 K M H v x:=by
 cases x with
 |dat d=>exact h
 |own b=>exact h
 |ty t=>exact absurd rfl (n t)
 |mix xs=>exact h
section
variable{o i value:Expr}{td ti tv:DTE}{pos':Pos}
def Mh(x:DV)(P:Prop):Prop:=match x with| .ty _=>False|_=>P
theorem sG(d:PyData)(P:Prop):Mh (.dat d) P=P:=rfl
theorem wW(a:Addr)(P:Prop):Mh (.own a) P=P:=rfl
theorem Uu{x:DV}{P:Prop}(h:Mh x P):(∀t,x≠.ty t)/\P:=by
 cases x with
 |dat d=>exact⟨λt e=>(by cases e),h⟩
 |own a=>exact⟨λt e=>(by cases e),h⟩
 |ty t=>exact h.elim
 |mix xs=>exact⟨λt e=>(by cases e),h⟩
def jV(td ti tv:DTE):DTS:=λD Δ M=>tv Δ M λx M1=>td Δ M1 λy M2=>ti Δ M2 λz g=>Mh x (onO y λl=>onS z λs=>D0 (g l) λps=>ps.length<sizeLine/\D.nx Δ (Zs g l (.dko (Xo ps (.inr s) x))))
theorem ua{k:Nat}(hr:QL k X.A)(ho:DE X o td)(hi:DE X i ti)(hv:DE X value tv)(hs:autoParam (swapsWith value (some (.Subscript o i pos')) pos.line X.env=pure false) zz3._auto_1):DS X (.Assign [.Subscript o i pos'] value pos) (jV td ti tv):=by
 obtain⟨t1,p1,q1⟩:=hv;obtain⟨t2,p2,q2⟩:=ho;obtain⟨t3,p3,q3⟩:=hi;refine⟨_,Dz (by have:=hr.un;lia) p2 p3 p1 hs,λσ H Δ M D E r e h k=>?_⟩;refine q1 σ H Δ M _ _ r e h λv H1 x M1 r1 t rv hx=>?_;refine q2 σ H1 Δ M1 _ _ r1 (e.step t) hx λw H2 y M2 r2 B J hy=>?_;refine q3 σ H2 Δ M2 _ _ r2 (e.step (t.trans B)) hy λu L z O U C ru g=>?_;obtain⟨nt,g⟩:=(Uu g);obtain⟨l,rfl,g⟩:=(ZM g);obtain⟨s,rfl,g⟩:=(Qu g);obtain⟨ps,Y,hl,hn⟩:=Xx g;cases(show w=.ref l from J);cases ru.str;obtain⟨kvs,g1,g2⟩:=U.ko Y;have dv:VR0 X.K O L v x:=(rv.step (B.trans C)).zero nt;refine⟨l,_,rfl,dc.k (k:=.inr s) g1 (by rw[HK g2];exact hl),?_⟩;have G:Step O L (Zs O l (.dko (Xo ps (.inr s) x))) (upd L l (.dK (putK kvs (.inr s) v))):=Step.Vb Y;have I:=t.trans (B.trans (C.trans G));exact k.nx _ _ _ _ (U.O8 G (oA g2 _ dv)) I (e.step I) hn
def iI(td ti:DTE):DTE:=λΔ M Φ=>td Δ M λx M1=>ti Δ M1 λy M2=>onO x λl=>onS y λs=>D0 (M2 l) λps=>∃ z,QY ps (.inr s)=some z/\Φ z M2
theorem Z7{k:Nat}(E:QL k X.A)(G:DE X o td)(I:DE X i ti)(J:autoParam (aG i) zz6._auto_1):DE X (.Subscript o i pos) (iI td ti):=by
 obtain⟨t1,L,O⟩:=G;obtain⟨t2,U,Y⟩:=I;refine⟨_,Ek (by have:=E.un;lia) L U J,λσ H Δ M Φ Q r e h k=>?_⟩;refine O σ H Δ M _ _ r e h λv H1 x M1 r1 t rv hx=>?_;refine Y σ H1 Δ M1 _ _ r1 (e.step t) hx λw H2 y M2 D B C g=>?_;obtain⟨l,rfl,g⟩:=(ZM g);obtain⟨s,rfl,g⟩:=(Qu g);obtain⟨ps,hm,z,hd,q⟩:=Xx g;cases(show v=.ref l from rv);cases C.str;obtain⟨kvs,g1,g2⟩:=D.ko hm;obtain⟨u,a,du⟩:=Fl g2 (.inr s) hd;exact⟨l,u,rfl,by rw[<-a];exact CA.k (k:=.inr s) g1,k _ _ z _ D (t.trans B) du.rel q⟩
def Br:List (DV×DV)->(List (Key×DV)->Prop)->Prop
 |[],P=>P []
 |(x,y)::r,P=>XX x λk=>Mh y (Br r λl=>P ((k,y)::l))
theorem CH(P:List (Key×DV)->Prop):Br [] P=P []:=rfl
theorem Cu(x y:DV)(r:List (DV×DV))(P:List (Key×DV)->Prop):Br ((x,y)::r) P=(XX x λk=>Mh y (Br r λl=>P ((k,y)::l))):=rfl
theorem FT:∀{B:List (DV×DV)}{P:List (Key×DV)->Prop},Br B P->∃ l,B=l.map (λkd=>(DV.dat (kD kd.1),kd.2))/\(∀p∈l,∀t,p.2≠.ty t)/\P l
 |[],P,h=>⟨[],rfl,λ_ z=>(nomatch z),h⟩
 |(x,y)::r,P,h=>by
  obtain⟨k,rfl,C⟩:=tT (show XX x λk=>Mh y (Br r λl=>P ((k,y)::l))from h);obtain⟨n,D⟩:=Uu C;obtain⟨l,rfl,E,G⟩:=FT D;refine⟨(k,y)::l,rfl,λp g=>?_,G⟩
  rcases aW.mp g with rfl|g
  ·exact n
  ·exact E p g
theorem EK:∀{l:List (Key×DV)}{ps:List (V×V)},(∀p∈l,∀t,p.2≠.ty t)->Paired (λ(p:V×V) (q:DV×DV)=>QE K M H p.1 q.1/\QE K M H p.2 q.2) ps (l.map λkd=>(DV.dat (kD kd.1),kd.2))->
  ∃kvs:List (Key×V),ps=kvs.map (λg=>(kV g.1,g.2))/\KO K M H kvs l
 |[],ps,_,h=>by rw[cw]at h;cases h;exact⟨[],rfl,.nil⟩
 | (k,d)::l,ps,n,h=>by
  rw[ai]at h;cases h with
  | @cons p q z B r C=>
   obtain⟨kvs,rfl,D⟩:=EK (λp E=>n p (aq _ E)) C;obtain⟨G,I⟩:=p;have e:G=kV k:=vA r.1;exact⟨(k,I)::kvs,by rw[e];rfl,.cons ⟨rfl,r.2.zero (n _ aj)⟩ D⟩
def nz(t:DTP):DTE:=λΔ M Φ=>∀ p,M p=none->t Δ (Zs M p (.dko [])) λg M2=>Br g λl=>M2 p=some (.dko [])/\((l.map (·.1)).Nodup/\l.length<=15)/\Φ (.own p) (Zs M2 p (.dko l))
theorem wY{g:List (Option Expr)}{z:List Expr}{t:DTP}(h:DPs X pos g z t)(B:autoParam (g.all (·.isSome)=true) zz3._auto_1)(hl:autoParam (g.length=z.length) zz3._auto_1)(h0:autoParam (g≠[]) zz8._auto_1)
  (C:autoParam (g.length<=15) zz1._auto_1):DE X (.Dict g z pos) (nz t):=by
 obtain⟨a0,p,_,q⟩:=h;refine⟨_,uZ p B hl h0 C,λσ H Δ M Φ Q r e h k a D=>?_⟩;have ma:=r.tracked D;have r0:ZR X.K (Zs M a (.dko [])) (upd H a (.dK [])):=r.O8 (kvs:=[]) (ps:=[]) (Step.Qp D) .nil;have J:Step M H (Zs M a (.dko [])) (upd H a (.dK [])):=Step.Qp D;refine q σ _ Δ _ _ _ r0 (e.step J) (h a ma) λps L qs M2 O E rp hq=>?_;obtain⟨l,rfl,nt,U,⟨nd,G⟩,f⟩:=FT hq;obtain⟨kvs,rfl,I⟩:=EK nt rp;obtain⟨Y,g0,k0⟩:=O.ko U;cases k0;refine⟨g0,kvs,rfl,by rw[HK I];exact G,?_⟩;rw[Li kvs (by rw[Rx I];exact nd)];have s3:Step M2 L (Zs M2 a (.dko l)) (upd L a (.dK kvs)):=Step.Vb U;exact k _ _ (.own a) _ (O.O8 s3 I) ((J.trans E).trans s3) rfl f
end
theorem Step.all:Step M H (λ_=>none) H:=⟨λ_ _ _ h=>h,λ_ _ _ _=>rfl⟩
def iP(x:DV)(M:Mp)(P:List PyData->Prop):Prop:=match x with| .dat (.list ds)=>P ds| .own q=>Vi (M q) P|_=>False
theorem tq(q:Addr)(M:Mp)(P:List PyData->Prop):iP (.own q) M P=Vi (M q) P:=rfl
set_option tactic.hygienic true in
theorem yf{x:DV}{P:List PyData->Prop}(h:iP x M P)(r:ZR X.K M H)(g:QE X.K M H v x):∃ ds,Dt X.K (λ_=>none) H v (.list ds)/\P ds:=by
 unfold iP at h
 split at h
 ·exact⟨_,Dt.step Step.all g,h⟩
 ·rename_i q;obtain⟨ds,l,h⟩:=(Jd h);cases(show v=.ref q from g);obtain⟨vs,t,z⟩:=r.ls q ds l;exact⟨ds,.lst (.inl ⟨rfl,.inl t⟩) (z.step Step.all),h⟩
 ·exact h.elim
def km:D2:=λx y M Φ=>onD x λd=>iP y M λds=>okIn d ds=true/\Φ (.dat (.bool (ds.any λe=>PyData.eqv e d))) M
theorem uu{k:Nat}(l:QL k X.A):OpD X (compareOp .In) km:=
 ⟨_,lh (by have:=l.un;lia),λv u H x y M Φ Q r t z h k=>by
  obtain⟨d,B,h⟩:=QD h;subst B;obtain⟨ds,C,D,q⟩:=yf h r z;obtain⟨E,G,g⟩:=Ex D
  exact⟨_,d,ds,Dt.step Step.all t,.inl C,E,G,g,k.dat r Step.refl (Dt.bl _) q⟩⟩
theorem uR{k:Key}(h:Eh k u=true):RelV (kV k) u:=by
 cases k with
 |inl i=>exact PySem.Value.isInt_shape h
 |inr x=>exact PySem.Value.isStrOf_shape h
theorem mE(k:Key):Dt K M H (kV k) (kD k):=by
 cases k with
 |inl i=>exact Dt.int i
 |inr x=>exact Dt.str x
open Builtin Builtin.Str
theorem Paired.getL{g r:Type}{F:g->r->Prop}{l:List g}{m:List r}{i:Nat}{a:g}(h:Paired F l m)(e:l[i]?=some a):∃ b,m[i]?=some b/\F a b:=by
 induction h generalizing i with
 |nil=>simp at e
 | cons h _ t=>
  cases i with
  |zero=>simp at e;subst e;exact⟨_,rfl,h⟩
  |succ i=>
   obtain⟨x,z,B⟩:=t (i:=i) (by simpa using e);exact⟨x,by simpa using z,B⟩
theorem Paired.atI{r g:Type}{F:r->g->Prop}{l:List r}{m:List g}{i:Int}{b:g}(h:Paired F l m)(e:L2.atI m i=some b):∃ a,L2.atI l i=some a/\F a b:=by
 unfold L2.atI at e⊢;rw[bC h];cases q:ixN m.length i with
 |none=>rw[q]at e;cases e
 |some j=>
  rw[q]at e;exact Paired.lJ h e
theorem Paired.app{g r:Type}{F:g->r->Prop}{l t:List g}{m z:List r}(h:Paired F l m)(k:Paired F t z):Paired F (l++t) (m++z):=by
 induction h with
 |nil=>exact k
 |cons h _ B=>exact .cons h B
theorem Mxs.of(h:Paired (VR0 K M H) vs xs):Mxs K M H vs xs:=by
 induction h with
 |nil=>exact .nil
 | @cons a b _ _ g _ l=>
  cases b with
  |dat d=>exact .dat g l
  |own b=>cases(show _=V.ref b from g);exact .own l
  |mix r=>exact .mix g l
  |ty t=>exact g.elim
theorem Mxs.vr(h:Mxs K M H vs xs):Paired (VR0 K M H) vs xs:=
 Mxs.rec (motive_1:=λ_ _ _=>True) (motive_2:=λvs xs _=>Paired (VR0 K M H) vs xs) (λ_ _ _ _=>trivial) .nil (λh _ i=>.cons h i) (λ_ i=>.cons rfl i) (λh _ _ i=>.cons h i) h
theorem Dts.vr(h:Dts K M H vs ds):Paired (VR0 K M H) vs (ds.map DV.dat):=
 Dts.ind (p:=λvs ds=>Paired (VR0 K M H) vs (ds.map DV.dat)) .nil (λh _ i=>.cons h i) h
theorem Ta(r:ZR K M H){xs:List V}(h:Rd H a (.tup xs)):M a=none:=by
 cases q:M a with
 |none=>rfl
 | some o=>
  have g:=r.ok a o q;exfalso;have l:∀ u,H a=some u->(∀t,u≠.tup t)->(∀o t,u≠.frz o (.tup t))->False:=λu e D E=>by
   rcases h with h|⟨o,h⟩
   ·rw[h]at e;cases e;exact D _ rfl
   ·rw[h]at e;cases e;exact E _ _ rfl
  cases o with
  |lst ds=>obtain⟨vs,e,_⟩:=g;exact l _ e (λ_ z=>nomatch z) (λ_ _ z=>nomatch z)
  |dct ks=>obtain⟨vs,e,_⟩:=g;exact l _ e (λ_ z=>nomatch z) (λ_ _ z=>nomatch z)
  |dtv ps=>obtain⟨vs,e,_⟩:=g;exact l _ e (λ_ z=>nomatch z) (λ_ _ z=>nomatch z)
  |dkv ps=>obtain⟨vs,e,_⟩:=g;exact l _ e (λ_ z=>nomatch z) (λ_ _ z=>nomatch z)
  |dko ps=>obtain⟨vs,e,_⟩:=g;exact l _ e (λ_ z=>nomatch z) (λ_ _ z=>nomatch z)
  |fdk o ps=>obtain⟨vs,e,_⟩:=g;exact l _ e (λ_ z=>nomatch z) (λ_ _ z=>(by cases z))
  |lsv n xs=>obtain⟨vs,e,_⟩:=g;exact l _ e (λ_ z=>nomatch z) (λ_ _ z=>nomatch z)
  |ext G=>exact l _ g (λ_ z=>nomatch z) (λ_ _ z=>nomatch z)
  |gst B C=>obtain⟨⟨vs,e,_⟩,_⟩:=g;exact l _ e (λ_ z=>nomatch z) (λ_ _ z=>nomatch z)
  |fdc o ks=>obtain⟨vs,e,_⟩:=g;exact l _ e (λ_ z=>nomatch z) (λ_ _ z=>(by cases z))
  |fdt o ps=>obtain⟨vs,e,_⟩:=g;exact l _ e (λ_ z=>nomatch z) (λ_ _ z=>(by cases z))
  |tab G=>obtain⟨⟨vs,e,_⟩,_⟩:=g;exact l _ e (λ_ z=>nomatch z) (λ_ _ z=>nomatch z)
section
variable{o i:Expr}{es:List Expr}{to ti:DTE}{t:DTA}{pos':Pos}
def iG:List DV->Prop->Prop
 |[],P=>P
 |x::r,P=>Mh x (iG r P)
theorem RU{K:Fk}{M:Mp}{H:Hp}:∀{xs:List DV}{P:Prop},iG xs P->(∀{vs:List V},JQ K M H vs xs->Paired (VR0 K M H) vs xs)/\P
 |[],P,h=>⟨λq=>by cases q;exact .nil,h⟩
 |x::r,P,h=>by
  obtain⟨n,g⟩:=Uu (show Mh x (iG r P)from h);obtain⟨l,z⟩:=RU (K:=K) (M:=M) (H:=H) g;refine⟨λq=>?_,z⟩;cases q with
  |cons a b=>exact .cons (QE.zero a n) (l b)
end
theorem YI{g r:Type}{F:g->r->Prop}:∀{l:List g}{m:List r},l.length=m.length->(∀(j:Nat)(a:g)(b:r),l[j]?=some a->m[j]?=some b->F a b)->Paired F l m
 |[],[],_,_=>.nil
 |a::l,b::m,e,h=>.cons (h 0 a b rfl rfl) (YI (by simpa using e) λj x y t z=>h (j+1) x y (by simpa using t) (by simpa using z))
 |[],_::_,e,_=>by simp at e
 |_::_,[],e,_=>by simp at e
theorem jQ{σ:L2.St}(I:L2.Inv X pins σ H s)(e:H a=some (.dK kvs)):
  ∃vs ep,KV kvs vs/\s.heap.DictAt (Zx X.prog X.w) a vs ep/\(a==sysModules)=false:=by
 obtain⟨_,h,vs,g,o,l,ep,r,t,hd,z⟩:=(show Qc X.prog X.w H s.heap a (.dK kvs)from I.hok a _ e)
 exact⟨vs,ep,g,⟨o,l,r,t,hd,z⟩,h⟩
section
variable{o:Expr}{td:DTE}{p:Pos}
theorem Uw:∀{kvs:List (Key×V)}{ps:List (Key×PyData)},kvs.map (·.1)=ps.map (·.1)->Dts K M H (kvs.map λg=>kV g.1) (ps.map λq=>kD q.1)
 |[],[],_=>.nil
 |g::kvs,q::ps,e=>by
  rw[ai,ai,bR]at e;rw[ai,ai,e.1];exact .cons (mE _) (Uw e.2)
 |[],_::_,e=>by simp at e
 |_::_,[],e=>by simp at e
end
noncomputable def kvD(ps:List (Key×PyData)):PyData:=.dict (ps.map λq=>(kD q.1,q.2))
def pQ(x:DV)(P:List (Key×PyData)->Prop):Prop:=∃ ps,x=.dat (kvD ps)/\P ps
theorem NS{a b:Key}(h:kD a=kD b):a=b:=by
 cases a<;>cases b<;>first|(cases h;rfl)|(cases h)
theorem pT:∀{kvs:List (Key×V)}{ds:List PyData}{ps:List (Key×PyData)},Dts K M H (kvs.map (·.2)) ds->(kvs.map λr=>kD r.1).zip ds=ps.map (λq=>(kD q.1,q.2))->KD K M H kvs ps
 |[],_,[],_,_=>.nil
 |[],_,_::_,_,h=>by simp at h
 |(k,v)::kvs,_,[],.cons _ _,h=>by simp at h
 |(k,v)::kvs,_,(C,D)::ps,.cons t z,h=>by
  rw[ai,ai,cz,bR,Prod.mk.injEq]at h;obtain⟨⟨g,l⟩,B⟩:=h;dsimp only at g l;cases NS g;subst l;exact .cons t (pT z B)
theorem Dt.kv{ps:List (Key×PyData)}(h:Dt K M H v (kvD ps)):∃ a kvs,v=.ref a/\M a=none/\H a=some (.dK kvs)/\KD K M H kvs ps:=by
 generalize e:kvD ps=d at h;cases h with
 |dK r t l=>
  unfold kvD at e;rw[PyData.dict.injEq]at e;exact⟨_,_,rfl,r,t,pT l e.symm⟩
 | @dT a kvs ds r t l B=>
  unfold kvD at e;rw[PyData.dict.injEq]at e;cases kvs with
  |nil=>exact absurd rfl B
  | cons C kvs=>
   cases l with
   | cons l z=>
    cases ps with
    |nil=>simp at e
    |cons q ps=>
     rw[ai,ai,cz,bR,Prod.mk.injEq]at e;obtain⟨⟨g,_⟩,_⟩:=e;obtain⟨k,d⟩:=q;cases k<;>cases g
 | dX r t l B z D=>
  unfold kvD at e;rw[PyData.dict.injEq]at e;cases ps with
  |nil=>simp at e
  |cons q ps=>
   rw[ai,bR,Prod.mk.injEq]at e;obtain⟨⟨g,_⟩,_⟩:=e;obtain⟨k,d⟩:=q;cases k with
   |inl i=>dsimp only[kD]at g;subst g;cases z
   |inr i=>dsimp only[kD]at g;subst g;cases z
 |_=>unfold kvD at e;cases e
theorem wx{ps:List (Key×PyData)}(g:M a=none)(l:H a=some (.dK kvs))(h:KD K M H kvs ps):Dt K M H (.ref a) (kvD ps):=by
 have z:=Dt.dK (K:=K) g l h.vals;have e:(kvs.map λr=>kD r.1)=ps.map λq=>kD q.1:=by
  have:=bK (List.map kD) h.keys
  rwa [aC,aC]at this
 rw[e,List.zip_map']at z;exact z
section
variable{o f:Expr}{td tf:DTE}{p:Pos}
def mW(t:DTE):DTE:=λΔ M Φ=>t Δ M λx M1=>onO x λl=>XG (M1 l) λps=>Φ (.dat (kvD ps)) (Q4 M1 l)
theorem vF(h:DE X e te):DE X e (mW te):=by
 obtain⟨u,p,q⟩:=h;refine⟨u,p,λσ H Δ M Φ Q r e h k=>?_⟩;refine q σ H Δ M _ _ r e h λv E x M1 t st z g=>?_;obtain⟨l,rfl,g⟩:=(ZM g);obtain⟨ps,B,g⟩:=(JH g);obtain⟨kvs,C,D⟩:=t.dk B;cases(show v=.ref l from z);exact k.dat t.frz (st.trans Step.frz) (wx Jb C (D.step Step.frz)) g
def lQ(td g h:DTE):DTE:=λΔ M Φ=>td Δ M λx M1=>pQ x λps=>g Δ M1 λy M2=>h Δ M2 λz l=>onS y λs=>onD z λd=>Φ (.dat ((Jh ps (.inr s)).getD d)) l
theorem tw{k:Nat}(hr:QL k X.A)(ho:DE X o td)(he:DE X e te)(hf:DE X f tf)(B:autoParam (attributeBase o "get" X.env (eval o X.env)=eval o X.env) zz3._auto_1)
  (G:((backTo cpos (starEach [e,f] X.env)).all (λx=>!x.1)&&(backToKw cpos (keywordEach [] X.env)).all (λx=>x.1.isSome)
   &&decide (([e,f]:List Expr).length+([]:List Keyword).length+(if([]:List Keyword).isEmpty then 0 else 1)<30))=true:=by rfl)
  (C:autoParam ((apos.endLine==cpos.line)=true) zz3._auto_1) (J:autoParam (backTo cpos (starEach [e,f] X.env)=[(false,eval e X.env),(false,eval f X.env)]) zz3._auto_1):DE X (.Call (.Attribute o "get" apos) [e,f] [] cpos) (lQ td te tf):=by
 obtain⟨t1,p1,q1⟩:=ho;obtain⟨t2,p2,q2⟩:=he;obtain⟨t3,p3,q3⟩:=hf;refine⟨_,FH (by have:=hr.un;lia) p1 p2 p3 ⟨B,G,C,J⟩,λσ H Δ M Φ Q r e h k=>?_⟩;refine q1 σ H Δ M _ _ r e h λv U x M1 r1 g rv L=>?_;obtain⟨ps,rfl,L⟩:=L;have I:Dt X.K M1 U v (kvD ps):=rv;obtain⟨l,kvs,rfl,m0,g0,_⟩:=I.kv;refine⟨l,rfl,.inl ⟨kvs,.inl g0⟩,q2 σ U Δ M1 _ _ r1 (e.step g) L λw H2 y M2 r2 t O hy=>?_⟩;refine q3 σ H2 Δ M2 _ _ r2 ((e.step g).step t) hy λz H3 z' M3 Y D rz E=>?_;obtain⟨s,rfl,E⟩:=(Qu E);obtain⟨d,rfl,q⟩:=(QD E);cases O.str;obtain⟨l',a0,e',m1,g1,g2⟩:=(I.step (t.trans D)).kv;cases e';refine⟨_,CA.k (k:=.inr s) g1,?_⟩
 rcases g2.val (.inr s)with⟨a,b⟩|⟨u,d',a,b,du⟩
 ·rw[b]at q;rw[a];exact k.dat Y ((g.trans t).trans D) rz q
 ·rw[b]at q;rw[a];exact k.dat Y ((g.trans t).trans D) du q
end
theorem cO{k r:Nat}{ps:List Str}{S:DSp}{g:List Expr}{t:DTA}{p pos:Pos}(O:Own X.K X.mg x st ps f fd)(F:Qx X.prog X.w X.K X.mg X.base CX0 k f fd ps (lift X.K S))(z:QL r X.A)(B:DA X (e::g) t)
  (C:autoParam (k<=r) zz9._auto_1) (D:autoParam (Gl X x) zz10._auto_1) (h:autoParam ((x==("__debug__" :Str))=false) zz1._auto_1) (E:autoParam (starEach (e::g) X.env=(false,eval e X.env)::starEach g X.env) zz3._auto_1) (l:autoParam ((backTo pos (starEach g X.env)).any (·.1)=false) zz3._auto_1):DE X (.Call (.Name x p) (e::g) [] pos) (io S t):=
 tH F (z.mono C) D O.m O.F.kp O.b ut B h E l
abbrev XCl:=Value×Option Addr
open PySem.Calls
open Builtin.ObjectAttr
section
variable{o:Expr}{to:DTE}
theorem ul(l:X.A.units<cLine):OpR X (compareOp .Eq) (λx y H Q=>∃ a b xs,x=.ref a/\y=.ref b/\SqL X.K H a xs/\SqL X.K H b []/\Q (.bl xs.isEmpty) H):=by
 intro pins s σ H x y v u Q I C D h;obtain⟨a,b,xs,rfl,rfl,t,g,q⟩:=h;cases C;cases D;obtain⟨its,r,p,_⟩:=I.list t;obtain⟨E,G,z,_⟩:=I.list g;cases G;have B:=r.length;cases xs with
 |nil=>
  have e:its.toArray.size=([]:List Value).toArray.size:=by rw[aQ,aQ];exact B.symm
  refine PySem.SeqAt.RcAt.lists (e:=λ_=>true) p.isList z.isList e l (λj t g=>absurd g (Nat.not_lt_zero _)) _ _ _ _ ⟨.bl _,H,I,?_,q⟩;show Value.bool ((List.range its.toArray.size).all λ_=>true)=_;rw[e];rfl
 |cons x xs=>
  refine PySem.SeqAt.RcAt.lists_lengths p.isList z.isList ?_ l _ _ _ _ ⟨.bl _,H,I,rfl,q⟩;rw[aQ,<-B];rfl
def MW:D2:=λx y M Φ=>onK x M λds=>onK y M λg=>g=[]/\Φ (.dat (.bool ds.isEmpty)) M
theorem wm{k:Nat}(t:QL k X.A):OpD X (compareOp .Eq) MW:=by
 refine⟨_,ul (by have:=t.un;lia),λv u H x y M Φ Q r z B h k=>?_⟩;obtain⟨ds,g,h⟩:=(V8 h);obtain⟨I,l,rfl,q⟩:=(V8 h);replace g:Ml x M ds:=g;replace l:Ml y M []:=l;obtain⟨a,xs,rfl,C,D⟩:=g.sq r z;obtain⟨b,J,rfl,E,G⟩:=l.sq r B;cases G;refine⟨a,b,xs,rfl,rfl,C,E,?_⟩;have e:xs.isEmpty=ds.isEmpty:=by cases D<;>rfl
 rw[e];exact k.dat r Step.refl (Dt.bl _) q
end
noncomputable def Kk(l:List (Pos×Addr)):Array Value:=(l.flatMap λq=>[rawInt q.1.line,rawInt q.1.col,.ref q.2]).toArray
def Yn(P:Addr)(l:List (Pos×Addr))(h:Heap):Prop:=h.get? P=some (tabObj (Kk l))
theorem R1{h:Heap}{l:List (Pos×Addr)}(x:Yn a l h):Qc P w H h a (.ext (Yn a l)):=⟨x,⟨_,x⟩,λ_ _ y k=>k _ y⟩
def BmB(base:Heap)(mg:Str->Option Value):Prop:=∃ g o,mg "__builtins__"=some (.ref g)/\g≠builtinsNs/\base.get? g=some o/\o.cls=.type "module"/\o.dict=some builtinsNs/\o.data=.plain
theorem OX{P:Program}{w:World}{K:Fk}{mg mb:Str->Option Value}{CX:CXT}{k:Nat}{fa a:Addr}{fd:FuncData}{x:Str}{sp:Sp}{g:Shared}{vs:List Value}{ns:List Int}{ts:List Addr}
  (KX:K.In g.heap) (a0:g.heap.Ns mainGlobals mg) (t:g.heap.Ns builtinsNs mb) (a6:∀ x:Str,x≠"__name__"->mb x=bootBuiltins x) (a1:g.heap.NoLimit) (hg:g.gens= #[])
  (U:g.heap.get? a=some {cls:=.type "list",data:=.seq vs.toArray}) (hi:IntsAre vs ns) (hl:ns.length<=sizeLine) (hr:QL k callerA)
  (a7:BmB g.heap mg) (F:∀ base:Heap,K.In base->base.Ns mainGlobals mg->BmB base mg->Qx P w K mg base CX k fa fd [x] sp) (L:∀(s:Shared)(u:Value),BindsTo s fd ⟨[u],[]⟩ [(x,u)])
  (O:∀ p∈ts,g.heap.get? p=some (tabObj #[])/\isCodeTable g.heap p/\K.lookup p=none)
  (a8:∀ H:Hp,(∀p∈ts,H p=some (.ext (Yn p [])))->SqL K H a (ns.map V.int)->sp [.ref a] H (λv H'=>v=.bl true/\∀p∈ts,∃l,H' p=some (.ext (Yn p l))) λ_ _ _=>False)
  (a9:∀ H e s',CX [] H g (λ_ _ _=>False) e s'->False):
  codeAny (model P w) callerA (.call (.ref fa) ⟨[.ref a],[]⟩) (λr s'=>r=.ok (.ret (.bool true))/\OldK g.heap s'.heap/\s'.os=g.os/\AllBare s'.gens) g:=by
 have rv:=GX hi;have a2:=hi.length;have na:a∉ts:=λz=>by
  have q:=(O a z).1;rw[U]at q;cases q
 have E:∀ H:Hp,(∀b,H b=none\/(b=a/\∃o xs,H b=some (.frz o (.lst xs)))\/b∈ts)->(∀p∈ts,H p=some (.ext (Yn p [])))->SqL K H a (ns.map V.int)->HOk P w H g.heap->(H a≠none->K.lookup a=none)->
   codeAny (model P w) callerA (.call (.ref fa) ⟨[.ref a],[]⟩) (λr s'=>r=.ok (.ret (.bool true))/\OldK g.heap s'.heap/\s'.os=g.os/\AllBare s'.gens) g:=by
  intro H hO hH hS a3 hK;have B:∀{b:Addr}{o:Obj},g.heap.get? b=some o->H b=none->(Tf g.heap H).get? b=some o:=λe n=>xh e n;have b0:∀{b:Addr}{o:Obj}{Y:Array DictEntry}{ep:Nat},g.heap.get? b=some o->o.data=.dict Y ep->H b=none:=λ{b o Y ep} e d=>by
   rcases hO b with q|⟨rfl,_⟩|q
   ·exact q
   ·rw[U]at e;cases e;have d':Data.seq vs.toArray _=Data.dict Y ep:=d;cases d'
   ·rw[(O b q).1]at e;cases e;have d':Data.fields #[]=Data.dict Y ep:=d;cases d'
  have D:∀{b:Addr}{m:Str->Option Value},g.heap.Ns b m->(Tf g.heap H).Ns b m:=λ{b m} ⟨o,Y,ep,e,d,r⟩=>⟨o,Y,ep,B e (b0 e d),d,r⟩
  have a4:K.In (Tf g.heap H):=λb o e=>B (KX b o e) (by
   rcases hO b with q|⟨rfl,o',xs,q⟩|q
   ·exact q
   ·rw[hK (by rw[q];simp)]at e;cases e
   ·rw[(O b q).2.2]at e;cases e)
  have hM:Mod K mg (Tf g.heap H):=⟨a4,D a0,⟨mb,D t,a6⟩,let⟨mc,h1,h2⟩:=a1;⟨mc,D h1,h2⟩⟩
  have e0:Ti P w K mg (Tf g.heap H) callerA [] g H:=⟨rfl,hM,λb o e=>rJ e,dR (Rg _ _),trivial,λb t=>absurd (show b∈([]:List Addr)from t) (by simp),a3,.of_eq hg⟩
  have hB:BmB (Tf g.heap H) mg:=by
   obtain⟨bm,o,b1,b2,b3,b4,b5,b6⟩:=a7;refine⟨bm,o,b1,b2,B b3 ?_,b4,b5,b6⟩
   rcases hO bm with q|⟨rfl,_⟩|q
   ·exact q
   ·rw[U]at b3;cases b3;injection b4 with z;exact absurd z (by decide)
   ·rw[(O bm q).1]at b3;cases b3;cases b4
  refine gA ((F _ a4 (D a0) hB).run callerA [] g H ⟨[.ref a],[]⟩ [.ref a] [.ref a] _ _ hr e0 (L g (.ref a)) (.cons rfl .nil) (a8 H hH hS)) λr s' h=>?_;cases r with
  |error e=>exact(a9 H e s' h).elim
  | ok fl=>
   cases fl with
   |next=>exact False.elim h
   |brk=>exact False.elim h
   |cont=>exact False.elim h
   | ret u=>
    obtain⟨v,H',os,a5,un,G,r',q⟩:=h;obtain⟨q',b7⟩:v=.bl true/\_:=q;subst q';obtain rfl:u=Value.bool true:=r';have I:∀ b o,g.heap.get? b=some o->b∉ts->s'.heap.get? b=some o:=λb o e nb=>by
     rcases hO b with q|⟨_,ob,xs,z⟩|q
     ·exact un.keep b o e q (by intro z;exact absurd (show b∈([]:List Addr)from z) (by simp)) (by simp)
     ·have z2:=un.frzs b ob _ z;obtain⟨e1,_⟩:=a3 b _ z;obtain⟨e2,_⟩:=G b _ z2;rw[e]at e1;cases e1;exact e2
     ·exact absurd q nb
    have C:∀ b∈ts,∃l,s'.heap.get? b=some (tabObj (Kk l)):=λb t=>by
     obtain⟨l,z⟩:=b7 b t;exact⟨l,(show Qc P w H' s'.heap b (.ext _)from G b _ z).1⟩
    refine⟨rfl,⟨λb o e=>?_,λb o e=>?_⟩,os,a5⟩
    ·by_cases t:b∈ts
     ·obtain⟨l,z⟩:=C b t;rw[(O b t).1]at e;cases e;exact .inr (.inl ⟨(O b t).2.1,rfl,#[],Kk l,rfl,by rw[z];simp⟩)
     ·exact .inl (I b o e t)
    ·by_cases t:b∈ts
     ·obtain⟨l,z⟩:=C b t;exact⟨_,z⟩
     ·exact⟨o,I b o e t⟩
 have J:∀{H:Hp}{b:Addr}{u:HO},b∈ts->some (HO.ext (Yn b []))=some u->Qc P w H g.heap b u:=λ{H b u} t z=>by
  cases z;exact R1 (O b t).1
 cases hk:K.lookup a with
 | some o=>
  have e:=KX a o hk;rw[U]at e;cases e;refine E (λb=>if b∈ts then some (.ext (Yn b []))else none) (λb=>?_) (λp hp=>aw hp) (.inr ⟨_,vs.toArray,_,hk,rfl,rfl,rfl,by rw[aQ,a2];exact hl,by simpa using rv⟩) (λb u z=>?_) λz=>absurd (ao na) z
  ·by_cases t:b∈ts
   ·exact .inr (.inr t)
   ·exact .inl (ao t)
  ·by_cases t:b∈ts
   ·exact J t ((aw t).symm.trans z)
   ·have z':=(ao t).symm.trans z;cases z'
 | none=>
  refine E (λb=>if b=a then some (.frz {cls:=.type "list",data:=.seq vs.toArray} (.lst (ns.map V.int)))else if b∈ts then some (.ext (Yn b []))else none) (λb=>?_) (λp hp=>?_) (.inl (.inr ⟨{cls:=.type "list",data:=.seq vs.toArray},aw rfl⟩)) (λb u z=>?_) λ_=>hk
  ·by_cases t:b=a
   ·exact .inr (.inl ⟨t,_,_,aw t⟩)
   ·by_cases ht:b∈ts
    ·exact .inr (.inr ht)
    ·exact .inl ((ao t).trans (ao ht))
  ·have n1:p≠a:=λz=>na (z▸hp);exact(ao n1).trans (aw hp)
  ·by_cases t:b=a
   ·have z':=(aw t).symm.trans z;cases z';subst t;exact⟨U,by rw[aa];exact hl,vs,_,rv,U⟩
   ·have z':=(ao t).symm.trans z
    by_cases ht:b∈ts
    ·exact J ht ((aw ht).symm.trans z')
    ·have z2:=(ao ht).symm.trans z';cases z2
theorem Tu{l:PySem.W.OpenLaw}{n k:Nat}{q:Program}{t:List Str}{XP:(Str->Option Value)->Heap->Prop}{YP:World->Heap->Prop}{d:DefRec}{K:Params->Fk}{CX:World->CXT}{sp:World->Sp}{x:Str}{ts:List Addr}
  (hn:l.most=some n) (J:n<=sizeLine) (L:d.params.defaults=[]) (hr:QL k callerA)
  (hY:∀(w:World)(h:Heap),YP w h->(K w.params).In h/\∀p∈ts,h.get? p=some (tabObj #[])/\(∃c,codeHdIn (K w.params) c p=true)/\(K w.params).lookup p=none)
  (F:∀(w:World)(mg:Str->Option Value)(D:Addr)(h:Heap),(K w.params).In h->h.Ns mainGlobals mg->mg d.name=some (.ref D)->
   ∃fd:FuncData,(∀(s:Shared)(u:Value),BindsTo s fd ⟨[u],[]⟩ [(x,u)])/\
    ∀base:Heap,(K w.params).In base->base.Ns mainGlobals mg->BmB base mg->Qx l.prog w (K w.params) mg base (CX w) k D fd [x] (sp w))
  (O:∀(w:World)(H:Hp)(a:Addr)(ns:List Int),ns.length<=n->(∀p∈ts,H p=some (.ext (Yn p [])))->SqL (K w.params) H a (ns.map V.int)->sp w [.ref a] H (λv H'=>v=.bl true/\∀p∈ts,∃l,H' p=some (.ext (Yn p l))) λ_ _ _=>False)
  (U:∀(w:World)(H:Hp)(s:Shared)(e:Value)(s':Shared),CX w [] H s (λ_ _ _=>False) e s'->False):
  PySem.W.WalkO q t XP YP l.row.toRowW d [] (λf vs=>PySem.call f vs):=by
 refine Att.Dj hn L λw a1 B mg mb D o pm cd a2 a vs ns G Y ho hd a3 a0 C z r hg=>?_;obtain⟨KX,E⟩:=hY w _ Y;obtain⟨fd,hb,hF⟩:=F w mg D _ KX G.T.g a0;exact OX (ts:=ts) KX G.T.g G.T.b G.T.builtins G.T.nolimit hg C z (aA r J) hr (let⟨bm,ob,b1,b2,b3,b4,b5,b6⟩:=G.T.bmain;⟨bm,ob,b1,b2,b3,b4,b5,b6⟩) hF hb (λp I=>⟨(E p I).1,let⟨c,hc⟩:=(E p I).2.1;((codeHd_of_K KX hc).tab (E p I).1).isCodeTable,(E p I).2.2⟩) (λH hH hS=>O w H a ns r hH hS) λH e s'=>U w H B e s'
def B0(ts:List Addr):DSp:=λxs M Φ=>∃ g:List Int,xs=[.dat (.list (g.map PyData.int))]/\g.length<=63/\(∀p∈ts,M p=some (.ext (Yn p [])))/\∀M',(∀p∈ts,∃l,M' p=some (.ext (Yn p l)))->Φ (.dat (.bool true)) M'
theorem H9{ns:List Int}{ts:List Addr}(C:ns.length<=63)(g:∀ p∈ts,H p=some (.ext (Yn p [])))(D:SqL K H a (ns.map V.int)):lift K (B0 ts) [.ref a] H (λv H'=>v=.bl true/\∀p∈ts,∃l,H' p=some (.ext (Yn p l))) λ_ _ _=>False:=by
 refine⟨[.dat (.list (ns.map PyData.int))],λb=>if b∈ts then some (.ext (Yn b []))else none,λx M'=>x=.dat (.bool true)/\∀p∈ts,∃l,M' p=some (.ext (Yn p l)),⟨λb o e=>?_⟩,Paired.cons (Dt.lst ?_ (Dts.ints ns)) Paired.nil,⟨ns,rfl,C,λp r=>aw r,λM' h=>⟨rfl,h⟩⟩,λv H' x M' E _ G t=>?_⟩
 ·by_cases B:b∈ts
  ·have z:=(aw B).symm.trans e;cases z;exact g b B
  ·have z:=(ao B).symm.trans e;cases z
 ·rcases D with h|h
  ·have n:a∉ts:=λz=>by
    rcases h with h|⟨I,h⟩
    ·rw[g a z]at h;cases h
    ·rw[g a z]at h;cases h
   exact .inl ⟨ao n,h⟩
  ·exact .inr h
 ·obtain⟨rfl,t⟩:=t;refine⟨G.bool,λp r=>?_⟩;obtain⟨l,z⟩:=t p r;exact⟨l,E.ok p _ z⟩
def CJ(c:Addr)(q:Str)(h:Heap):Prop:=h.CodeRec (.ref c) q
def UM(f:Addr)(fd:FuncData)(h:Heap):Prop:=h.get? f=some {cls:=.type "function",data:=.func fd}
theorem tX{h:Heap}{q:Str}(x:CJ a q h):Qc P w H h a (.ext (CJ a q)):=by
 obtain⟨c,o,vs,t,e,l,E⟩:=id x;cases e;exact⟨x,⟨_,l⟩,λ_ _ z k=>by obtain⟨G,B,g,C,D,y,r⟩:=z;cases D;exact⟨_,B,g,C,rfl,k _ y,r⟩⟩
theorem R5{h:Heap}(x:UM a fd h):Qc P w H h a (.ext (UM a fd)):=⟨x,⟨_,x⟩,λ_ _ y k=>k _ y⟩
theorem N3(l:List (Pos×Addr))(p:Pos)(c:Addr):Kk (l++[(p,c)])=Kk l++ #[rawInt p.line,rawInt p.col,.ref c]:=by
 unfold Kk;rw[dH];simp
theorem Ew:∀ l:List (Pos×Addr),TriplesOk (Kk l).toList
 |[]=>trivial
 |q::l=>by
  have:=Ew l;show TriplesOk (rawInt q.1.line::rawInt q.1.col:: .ref q.2::(Kk l).toList);exact this
noncomputable abbrev GG(X:Cx):Str:=X.env.qual++"<lambda>"
section
variable{params:Arguments}{body:Expr}{P:Addr}{Ka cl:List (Str×Addr)}
theorem vz(a2:∀ q∈cl,X.env.cells.lookup q.1=some q.2/\X.env.kindOf q.1≠some .local/\Vis X.env.scope q.1)(r:X.env.code=.ref c)(hC:codeHdIn X.K c P=true)(B:BmB X.base X.mg)(O:autoParam (defaultsOf params X.env=([],[])) zz3._auto_1)(U:autoParam (closureFor scope X.env=pure Ka) zz3._auto_1):
  PE X (.Lambda params body scope pos) (λ_ H Q=>∃ l,H P=some (.ext (Yn P l))/\
   ((codeAmong pos (Kk l).toList=none/\∀c' f pm ct,H c' =none->H f=none->c' ≠f->(∀q∈cl,q.2≠c' /\q.2≠f)->Q (.ref f) (upd (upd (upd H P (.ext (Yn P (l++[(pos,c')])))) c' (.ext (CJ c' (GG X)))) f (.ext (UM f (kla_fn "<lambda>" (GG X) params body scope Ka pm (.ref c') ct)))))
   \/∃c',codeAmong pos (Kk l).toList=some (.ref c')/\∀f pm ct,H f=none->(∀q∈cl,q.2≠f)->Q (.ref f) (upd H f (.ext (UM f (kla_fn "<lambda>" (GG X) params body scope Ka pm (.ref c') ct)))))):=by
 intro pins s σ H Q I h;obtain⟨l,hP,h⟩:=h;have Y:Yn P l s.heap:=(show Qc X.prog X.w H s.heap P (.ext _)from I.hok P _ hP).1;have C:s.heap.Ns mainGlobals X.mg:=I.mod.glob.keeps I.bk;have a3:mainGlobals≠P:=λq=>by
  obtain⟨o,es,ep,e,hd,_⟩:=C;rw[q,Y]at e;cases e;cases hd
 have a0:s.heap.BuiltinsAt X.mg P:=by
  obtain⟨bm,o,h1,h2,h4,h5,h6,h7⟩:=B;have e:=I.bk _ _ h4;refine⟨bm,o,h1,h2,λz=>?_,λz=>?_,e,h5,h6,h7⟩
  ·obtain⟨o',es,ep,e',hd,_⟩:=C;rw[z,e']at e;cases e;rw[hd]at h7;cases h7
  ·rw[z,Y]at e;cases e;cases h5
 have D:∀ q∈cl,q.2<s.heap.objs.size:=λq L=>by
  obtain⟨v,o,ho,_⟩:=I.cell q.1 q.2 (a2 q L).1;exact aL ho
 refine kla_eval O ?_
 rcases h with⟨hn,h⟩|⟨c',hf,h⟩
 ·refine kla_makeFunction (mg:=X.mg) U I.ok.glob C r (codeHd_of_K I.kIn hC) Y (Ew l) hn a3 a0 λc' g h' tk hx t E a1 a4=>?_;have G:H c' =none:=I.hok.fresh t;have a6:c' ≠P:=λz=>by rw[z,hP]at G;cases G
  have a5:H h'.objs.size=none:=I.hok.fresh (aA t (dN E));have e1:(s.heap.update P λ_=>tabObj (Kk (l++[(pos,c')]))).get? P=some (tabObj (Kk (l++[(pos,c')]))):=eC _ Y rfl;have I1:=I.write (x:=P) (e:=P) (o:=.ext (Yn P (l++[(pos,c')]))) (h':=s.heap.update P λ_=>tabObj (Kk (l++[(pos,c')]))) (t':=s.toks) (by rw[hP];trivial) (.inl rfl) (λb u nb e=>by rw[cH _ _ (be nb)];exact e) ⟨_,e1⟩ (R1 e1)
  have I2:=I1.laid (a:=c') (o:=.ext (CJ c' (GG X))) (h':=h') (t':=tk) (λb u e=>by
   by_cases nb:b=P
   ·subst nb;rw[show _=_ from e1]at e;cases e;rw[a4,N3]
   ·rw[show({s with heap:=s.heap.update P λ_=>tabObj (Kk (l++[(pos,c')])),toks:=s.toks}:Shared).heap.get? b=_ from cH _ _ (be nb)]at e
    exact hx b u nb e) (by
   show(s.heap.update P _).objs.size<=c';rw[show(s.heap.update P λ_=>tabObj (Kk (l++[(pos,c')]))).objs.size=s.heap.objs.size from Array.size_modify]
   exact t) (tX a1)
  have I3:=I2.laid (a:=h'.objs.size) (o:=.ext (UM h'.objs.size (kla_fn "<lambda>" (GG X) params body scope Ka ((X.mg "__name__").getD .none) (.ref c') g))) (h':=h'.push (kla_obj "<lambda>" (GG X) params body scope Ka ((X.mg "__name__").getD .none) c' g)) (t':=tk) (λb u e=>am _ e) (ak _) (R5 (aR _ rfl));exact⟨.ref _,_,I3,rfl,h c' _ _ g G a5 (bf E) λq L=>⟨bf (aP (D q L) t),bf (hU (aP (D q L) t) E)⟩⟩
 ·refine kla_makeFunctionHit (mg:=X.mg) U I.ok.glob C r (codeHd_of_K I.kIn hC) Y (Ew l) hf a0 λg h' tk hk J=>?_;have I3:=I.laid (a:=h'.objs.size) (o:=.ext (UM h'.objs.size (kla_fn "<lambda>" (GG X) params body scope Ka ((X.mg "__name__").getD .none) (.ref c') g))) (h':=h'.push (kla_obj "<lambda>" (GG X) params body scope Ka ((X.mg "__name__").getD .none) c' g)) (t':=tk) (λb u e=>am _ (hk b u e)) J (R5 (aR _ rfl));exact⟨.ref _,_,I3,rfl,h _ _ g (I.hok.fresh J) λq L=>bf (aP (D q L) J)⟩
end
def kR(c:Addr)(v:V)(h:Heap):Prop:=∃ u,h.IsCell c (some u)/\RelV v u
def GR(c:Addr)(o:Obj)(h:Heap):Prop:=h.get? c=some o
def pv(o:Obj)(v:V):Prop:=∃ u,o.data=.cell (some u)/\RelV v u
theorem uz{h:Heap}{o:Obj}(x:GR a o h):Qc P w H h a (.ext (GR a o)):=⟨x,⟨_,x⟩,λ_ _ y k=>k _ y⟩
noncomputable def hole(H:Hp)(cs:List Addr):Hp:=λb=>if b∈cs then none else H b
noncomputable def fill(H H':Hp)(cs:List Addr):Hp:=λb=>if b∈cs then H b else H' b
theorem Vt(h:b∈cs):hole H cs b=none:=aw h
theorem Z5(h:b∉cs):hole H cs b=H b:=ao h
theorem Ob(h:b∈cs):fill H H' cs b=H b:=aw h
theorem JE(h:b∉cs):fill H H' cs b=H' b:=ao h
section
variable{base:Heap}{outer:List Env}
theorem MV(g:Ti P w K mg base A outer s H)(r:∀ c∈cs,∃h,H c=some (.ext h)):Ti P w K mg base A outer s (hole H cs):=by
 have l:∀ b u,H b=some u->(∀h,u≠.ext h)->b∉cs:=λb u e n z=>by
  obtain⟨h,q⟩:=r b z;rw[e]at q;exact n h (bq q)
 refine⟨g.frames,g.mod,λb o e=>⟨(g.bs b o e).1,?_⟩,g.bsz,g.CD,λb t=>?_,λb u e=>?_,g.bare⟩
 ·unfold hole
  split
  ·rfl
  ·exact(g.bs b o e).2
 ·unfold hole
  split
  ·rfl
  ·exact g.frf b t
 ·have B:b∉cs:=λz=>by rw[Vt z]at e;cases e
  rw[Z5 B]at e;refine(g.hok b u e).stay (λc v _ y=>y) (λc y=>?_) λc xs y=>?_
  ·rw[Z5 (l c _ y λ_ z=>nomatch z)];exact y
  ·rw[Z5 (l c _ y λ_ z=>nomatch z)];exact y
theorem v4{E:List Addr}{h:Heap}(u:Un E [] (hole H cs) H' h h')(C:∀ c∈cs,(∃g,H c=some (.ext g))/\c∉E)(L:HOk P w H h)(G:HOk P w H' h'):Un E [] H (fill H H' cs) h h' /\HOk P w (fill H H' cs) h' /\∀c∈cs,H' c=none:=by
 have I:∀ b u,H b=some u->(∀g,u≠.ext g)->b∉cs:=λb u e n z=>by
  obtain⟨⟨g,q⟩,_⟩:=C b z;rw[e]at q;exact n g (bq q)
 have D:∀ b,H b=none->b∉cs:=λb e z=>by
  obtain⟨⟨g,q⟩,_⟩:=C b z;rw[e]at q;cases q
 have l:∀ c∈cs,H' c=none:=λc z=>by
  obtain⟨⟨g,q⟩,_⟩:=C c z;obtain⟨_,⟨o,e⟩,_⟩:=(show Qc P w H h c (.ext g)from L c _ q)
  exact u.free c o e (Vt z) (by simp)
 refine⟨⟨λb o e n J B=>u.keep b o e (by rw[Z5 (D b n)];exact n) J B,λb o e n J B=>u.slot b o e (by rw[Z5 (D b n)];exact n) J B,λb o e n B=>?_,λb o e B=>u.there b o e B,λb xs q=>?_,λb o v q=>?_,λb ps q=>?_⟩,λb v q=>?_,l⟩
 ·rw[JE (D b n)];exact u.free b o e (by rw[Z5 (D b n)];exact n) B
 ·have r:=I b _ q λ_ z=>nomatch z;rw[JE r];exact u.tups b xs (by rw[Z5 r];exact q)
 ·have r:=I b _ q λ_ z=>nomatch z;rw[JE r];exact u.frzs b o v (by rw[Z5 r];exact q)
 ·have r:=I b _ q λ_ z=>nomatch z;rw[JE r];exact u.tbls b ps (by rw[Z5 r];exact q)
 ·have t:∀ c v,H' c=some v->c∉cs:=λc v y z=>by rw[l c z]at y;cases y
  by_cases z:b∈cs
  ·rw[Ob z]at q;obtain⟨⟨g,e⟩,nf⟩:=C b z;rw[e]at q;cases q;obtain⟨x1,⟨o,O⟩,U⟩:=(show Qc P w H h b (.ext g)from L b _ e)
   have k:=u.keep b o O (Vt z) nf (by simp);exact⟨U h h' x1 λo' Y=>by rw[O]at Y;cases Y;exact k,⟨o,k⟩,U⟩
  ·rw[JE z]at q;refine(G b v q).stay (λc v _ y=>y) (λc y=>?_) λc xs y=>?_
   ·rw[JE (t c _ y)];exact y
   ·rw[JE (t c _ y)];exact y
end
structure GF(N ps fr:List Str)(sc:Scope):Prop where
 kind:sc.kind=.function
 co:sc.isCoroutine=false
 gen:sc.isGenerator=false
 nd:N.Nodup
 all:N=ps++fr
 par:∀ x∈ps,sc.names.lookup x=some .local
 fre:∀ x∈fr,sc.names.lookup x=some .free
 only:∀ y∈sc.names,y.2=.free->y.1∈fr
 nocell:∀ y∈sc.names,y.2≠.cell
noncomputable def cxL(P:Program)(w:World)(K:Fk)(mg:Str->Option Value)(base:Heap)(N:List Str)(qual:Str)(scope:Scope)(f:Addr)(cd:Value)(cl:List (Str×Addr))(A:Around)(outer:List Env)(s:Shared)(H:Hp):Cx where
 prog:=P
 w:=w
 K:=K
 mg:=mg
 base:=base
 A:=A.deeper (envX qual scope s.heap.objs.size f cd cl)
 N:=N
 s₀:=s
 H₀:=H
 env:=envX qual scope s.heap.objs.size f cd cl
 outer:=outer
 stack:=envX qual scope s.heap.objs.size f cd cl::outer
 ex:=[]
 calm:=true
 fn:=λ_=>false
 pn:=[]
 xe:=λ_ _=>False
def Clo(h:Heap)(H:Hp)(fr:List Str)(cl:List (Str×Addr))(g:List V):Prop:=g.length=fr.length/\∀(i:Nat)(x:Str)(v:V),fr[i]?=some x->g[i]?=some v->∃ c,cl.lookup x=some c/\H c=none/\kR c v h
theorem Clo.at{h:Heap}{fr:List Str}{cl:List (Str×Addr)}{g:List V}(C:Clo h H fr cl g)(r:x∈fr):∃ v c,cl.lookup x=some c/\H c=none/\kR c v h:=by
 obtain⟨i,l,e⟩:=bJ r;have t:i<g.length:=by rw[C.1];exact l
 obtain⟨c,z,B,D⟩:=C.2 i x g[i] (by rw[aM l,e]) (aM t);exact⟨_,c,z,B,D⟩
theorem FP:∀{ps:List Str}{us:List Value}{i:Nat},ps.Nodup->ps[i]?=some x->us[i]?=some u->(ps.zip us).reverse.lookup x=some u
 |[],_,_,_,h,_=>by simp at h
 |_::_,[],_,_,_,h=>by simp at h
 | p::ps,w::us,i,r,g,l=>by
  rw[cz,List.reverse_cons,List.lookup_append];cases i with
  | zero=>
   simp at g l;subst g l;have n:(ps.zip us).reverse.lookup p=none:=by
    rw[List.lookup_eq_none_iff];intro q t;have:=(dZ (a:=q.1) (b:=q.2) (List.mem_reverse.mp t)).1;have B:p≠q.1:=λz=>(cv.mp r).1 (z▸this)
    simpa using B
   rw[n];simp
  |succ i=>
   rw[FP (cv.mp r).2 (by simpa using g) (by simpa using l)];rfl
section
variable{base:Heap}{ps fr:List Str}{cd:Value}{cl:List (Str×Addr)}{outer:List Env}{cvs:List V}
theorem LS{h':Heap}{tk:Nat}(S:GF N ps fr scope)(hd:A.handled=none)(l:Ti P w K mg base A outer s H)(Y:vs.length=ps.length)(r:Vals vs us)(C:Clo s.heap H fr cl cvs)(E:∀ x y c,cl.lookup x=some c->cl.lookup y=some c->x=y)(I:∀ x c,cl.lookup x=some c->x∈fr)
  (J:h'.Ns s.heap.objs.size λx=>(ps.zip us).reverse.lookup x) (G:∀ b o,s.heap.get? b=some o->h'.get? b=some o):L2.Inv (cxL P w K mg base N qual scope f cd cl A outer s H) [] ((vs++cvs).map some) H {s with heap:=h',toks:=tk}:=by
 have B:∀ b:Addr,b∉(cxL P w K mg base N qual scope f cd cl A outer s H).ex:=λb z=>absurd (show b∈([]:List Addr)from z) (by simp);have t:∀ x c,cl.lookup x=some c->H c=none/\∃v,s.heap.IsCell c v:=λx c e=>by
  obtain⟨v,c',g,h,u,h3,_⟩:=C.at (I x c e);rw[e]at g;cases g;exact⟨h,_,h3⟩
 refine⟨⟨l.mod,S.kind,rfl,rfl,ak _,E,λy D=>?_,λy c z _=>(nomatch z),λ_=>hd,Around.frames_deeper l.frames,.inr ⟨rfl,rfl⟩,λb z=>absurd z (B b),l.bs,l.bsz,λb _ _=>B b,λb z=>absurd z (B b),l.CD,l.frf⟩,
  rfl,l.bare,Un.kept G,⟨_,J,λi y v g h h3=>?_⟩,λy c e=>?_,l.hok.fresh (ak _),λy c e=>(t y c e).1,λp hp=>absurd (show p∈([]:List (Addr×Obj))from hp) (by simp),l.hok.kept G,?_⟩
 ·have D:scope.names.lookup y=some .cell\/scope.names.lookup y=some .free:=D
  rcases D with D|D
  ·exact absurd rfl (S.nocell _ (bI D))
  ·obtain⟨_,c,e,_⟩:=C.at (S.only _ (bI D) rfl);exact⟨c,e⟩
 ·have g:N[i]?=some y:=g;rw[S.all]at g;have L:ps.Nodup:=(cX.mp (S.all▸S.nd)).1
  by_cases hi:i<ps.length
  ·rw[bE hi]at g;rw[al,bE (by rw[aa];lia),aV]at h;have O:vs[i]?=some v:=by
    cases e:vs[i]? with
    |none=>rw[e]at h;cases h
    |some a=>rw[e]at h;cases h;rfl
   obtain⟨u,hu,U⟩:=r.get O;exact⟨u,U,.inl ⟨S.par y (az g),FP L g hu⟩⟩
  ·rw[bx (by lia)]at g;rw[al,bx (by rw[aa];lia),aV,aa,Y]at h;have O:cvs[i-ps.length]?=some v:=by
    cases e:cvs[i-ps.length]? with
    |none=>rw[e]at h;cases h
    |some a=>rw[e]at h;cases h;rfl
   obtain⟨c,e,_,u,hc,U⟩:=C.2 _ y v g O;exact⟨u,U,.inr ⟨.inr (S.fre y (az g)),c,e,hc.keeps G⟩⟩
 ·obtain⟨_,v,hv⟩:=t y c e;exact⟨v,hv.keeps G⟩
 ·rw[aa,aB,Y,C.1];show _=N.length;rw[S.all,aB]
theorem qY{k:Nat}{c':Addr}{params:Arguments}{body:Expr}{pm ct:Value}{sp:List V->List V->Hp->VK->Prop}(S:GF N ps fr scope)(D:∀ x y c,cl.lookup x=some c->cl.lookup y=some c->x=y)(G:∀ x c,cl.lookup x=some c->x∈fr)(a0:∀ q∈cl,cl.lookup q.1=some q.2)
  (l:∀(A:Around)(outer:List Env)(s:Shared)(H:Hp)(vs cvs:List V)(Q:VK),QL k (A.deeper (envX qual scope s.heap.objs.size f (.ref c') cl))->sp vs cvs H Q->
   ∃t,PE (cxL P w K mg base N qual scope f (.ref c') cl A outer s H) body t/\t ((vs++cvs).map some) H Q):
  Qx P w K mg base CX0 (k+1) f (kla_fn "<lambda>" qual params body scope cl pm (.ref c') ct) ps (λvs H Q _=>vs.length=ps.length/\H f=some (.ext (UM f (kla_fn "<lambda>" qual params body scope cl pm (.ref c') ct)))/\H c' =some (.ext (CJ c' qual))/\
   ∃cvs:List V,cvs.length=fr.length/\(∀(i:Nat)(x:Str)(v:V),fr[i]?=some x->cvs[i]?=some v->∃ c o,cl.lookup x=some c/\H c=some (.ext (GR c o))/\pv o v)/\sp vs cvs (hole H (cl.map (·.2))) (λv H'=>(∀c∈cl.map (·.2),H' c=none)->Q v (fill H H' (cl.map (·.2))))):=by
 refine⟨λvs H Q E h=>h.1,λA outer s H a4 us vs Q E hr g hb r B=>?_⟩;obtain⟨hl,hF,hC,cvs,L,O,B⟩:=B;have KX:K.In s.heap:=g.mod.kin.keeps λb o e=>(g.bs b o e).1;have a1:s.heap.NoLimit:=g.mod.nolimit.keeps λb o e=>(g.bs b o e).1;have xF:UM f _ s.heap:=(show Qc P w H s.heap f (.ext _)from g.hok f _ hF).1;have xC:CJ c' qual s.heap:=(show Qc P w H s.heap c' (.ext _)from g.hok c' _ hC).1;have tr:∀ c∈cl.map (·.2),(∃φ,H c=some (.ext φ))/\c∉frs outer:=λc U=>by
  obtain⟨q,hq,rfl⟩:=af.mp U;have e:=a0 q hq;obtain⟨i,hi,ei⟩:=bJ (G _ _ e);obtain⟨c,_,C,Y,_⟩:=O i q.1 (cvs[i]'(by rw[L];exact hi)) (by rw[aM hi,ei]) (aM _);rw[e]at C;cases C;exact⟨⟨_,Y⟩,λz=>by rw[g.frf _ z]at Y;cases Y⟩
 have e1:=MV (cs:=cl.map (·.2)) g λc U=>(tr c U).1
 have CL:Clo s.heap (hole H (cl.map (·.2))) fr cl cvs:=⟨L,λi x v C Y=>by
  obtain⟨c,o,e,U,u,hu,ru⟩:=O i x v C Y
  exact⟨c,e,Vt (af.mpr ⟨(x,c),bI e,rfl⟩),u,⟨o,(show Qc P w H s.heap c (.ext _)from g.hok c _ U).1,hu⟩,ru⟩⟩
 refine kla_callFunE hr.depth xF rfl S.co S.gen rfl xC (hb _ _ _ _ ?_);refine wpAny_newFunctionEnv S.nocell (λy hy=>S.par y.1 (dZ (a:=y.1) (b:=y.2) hy).1) (λC a2 a3=>?_) S.kind;have hk:∀ b o,s.heap.get? b=some o->C.get? b=some o:=λb o e=>a3.extBut b o (bf (aL e)) (am _ e);refine⟨a1.keeps hk,?_⟩;obtain⟨t,ht,hq⟩:=l A outer s (hole H (cl.map (·.2))) vs cvs _ (hr.deeper _) B;have I:=LS (P:=P) (w:=w) (qual:=qual) (f:=f) (cd:=.ref c') (tk:=s.toks+(ps.zip us).length) S hr.hd e1 hl r CL D G a2 hk;refine kla_codeExpr (bU (ht [] _ _ _ _ I hq) (λu s' hs=>?_) λe s' hs=>hs.elim);obtain⟨v,H',J,rv,q⟩:=hs;obtain⟨u1,u2,u3⟩:=v4 (P:=P) (w:=w) (cs:=cl.map (·.2)) J.base tr g.hok J.hok;exact⟨v,_,J.os,J.bare,u1,u2,rv,q u3⟩
end
noncomputable def lend(H:Hp)(cs:List Addr)(ob:Addr->Obj):Hp:=λb=>if b∈cs then some (.ext (GR b (ob b)))else H b
theorem DJ{ob:Addr->Obj}(h:b∈cs):lend H cs ob b=some (.ext (GR b (ob b))):=aw h
theorem Qw{ob:Addr->Obj}(h:b∉cs):lend H cs ob b=H b:=ao h
section
variable{base:Heap}{outer:List Env}{s':Shared}{ob:Addr->Obj}
theorem RV(g:Ti P w K mg base A outer s H)(h:∀ c∈cs,H c=none/\base.get? c=none/\c∉frs outer/\s.heap.get? c=some (ob c)):Ti P w K mg base A outer s (lend H cs ob):=by
 have l:∀ b u,H b=some u->b∉cs:=λb u e z=>by
  rw[(h b z).1]at e;cases e
 refine⟨g.frames,g.mod,λb o e=>⟨(g.bs b o e).1,?_⟩,g.bsz,g.CD,λb r=>?_,λb u e=>?_,g.bare⟩
 ·rw[Qw λz=>by rw[(h b z).2.1]at e;cases e];exact(g.bs b o e).2
 ·rw[Qw λz=>(h b z).2.2.1 r];exact g.frf b r
 ·by_cases z:b∈cs
  ·rw[DJ z]at e;cases e;exact uz (h b z).2.2.2
  ·rw[Qw z]at e;refine(g.hok b u e).stay (λc v _ y=>y) (λc y=>?_) λc xs y=>?_
   ·rw[Qw (l c _ y)];exact y
   ·rw[Qw (l c _ y)];exact y
theorem rY{Q:VK}{u:Value}(E:∀ c∈cs,H c=none/\base.get? c=none/\c∉frs outer/\s.heap.get? c=some (ob c))
  (h:CE outer P w (lend H cs ob) s (λv H'=>(∀c∈cs,H' c=some (.ext (GR c (ob c))))/\Q v (hole H' cs)) u s'):CE outer P w H s Q u s':=by
 obtain⟨v,H',os,t,g,B,r,I,q⟩:=h;have G:∀ b u,H b=some u->b∉cs:=λb u e z=>by
  rw[(E b z).1]at e;cases e
 have C:∀ b u,H' b=some u->(∀J,u≠.ext J)->b∉cs:=λb u e n z=>by
  rw[I b z]at e;exact n _ (bq e).symm
 refine⟨v,hole H' cs,os,t,⟨λb o e n D l=>?_,λb o e n D l=>?_,λb o e n l=>?_,λb o e l=>g.there b o e l,λb xs e=>?_,λb o x e=>?_,λb ps e=>?_⟩,λb x e=>?_,r,q⟩
 ·by_cases z:b∈cs
  ·have k:GR b (ob b) s'.heap:=(show Qc P w H' s'.heap b (.ext _)from B b _ (I b z)).1;rw[(E b z).2.2.2]at e;cases e;exact k
  ·exact g.keep b o e (by rw[Qw z];exact n) D l
 ·have z:b∉cs:=λz=>(E b z).2.2.1 D;exact g.slot b o e (by rw[Qw z];exact n) D l
 ·by_cases z:b∈cs
  ·exact Vt z
  ·rw[Z5 z];exact g.free b o e (by rw[Qw z];exact n) l
 ·have z:=G b _ e;rw[Z5 z];exact g.tups b xs (by rw[Qw z];exact e)
 ·have z:=G b _ e;rw[Z5 z];exact g.frzs b o x (by rw[Qw z];exact e)
 ·have z:=G b _ e;rw[Z5 z];exact g.tbls b ps (by rw[Qw z];exact e)
 ·have z:b∉cs:=λz=>by rw[Vt z]at e;cases e
  rw[Z5 z]at e;refine(B b x e).stay (λc v _ y=>y) (λc y=>?_) λc xs y=>?_
  ·rw[Z5 (C c _ y λ_ z=>nomatch z)];exact y
  ·rw[Z5 (C c _ y λ_ z=>nomatch z)];exact y
end
def Under(base:Heap)(outer:List Env)(s:Shared):Prop:=base.objs.size<=s.heap.objs.size/\∀b∈frs outer,b<s.heap.objs.size
theorem vn{CX:CXT}{P:Program}{w:World}{K:Fk}{mg:Str->Option Value}{base:Heap}{k:Nat}{f:Addr}{name qual:Str}{params:Arguments}{body:List Stmt}{scope:Scope}{dV kV D pm g ct oc:Value}{an od:Option Addr}
  {O:Array (Option Value)} {N ps:List Str} {sp:Sp} (lk:K.lookup f=some ⟨oc,od,.func (PySem.W.fnOf name qual params body scope dV kV D pm an g ct),O⟩) (U:PySem.W.codeIn K g qual=true) (S:Zo N ps scope)
  (len:∀ vs H Q E,sp vs H Q E->vs.length=ps.length)
  (l:∀(A:Around)(outer:List Env)(s:Shared)(H:Hp)(vs:List V)(Q:VK)(E:XK),QL k (A.deeper (envOfC qual scope s.heap.objs.size f g))->Under base outer s->sp vs H Q E->
   ∃t,PSs (Mj CX P w K mg base N qual scope f g A outer s H E) body t/\t {nx:=λ_ H'=>Q .non H',rt:=Q} (start N vs) H):
  Qx P w K mg base CX (k+1) f (PySem.W.fnOf name qual params body scope dV kV D pm an g ct) ps sp:=by
 refine⟨len,λA outer s H a1 us vs Q E Y z hb r G=>?_⟩;have hu:Under base outer s:=⟨z.bsz,λb hb=>let⟨_,_,ho,_⟩:=z.CD.mem hb;aL ho⟩
 have hl:=len _ _ _ _ G;have KX:K.In s.heap:=z.mod.kin.keeps λb o e=>(z.bs b o e).1;have a0:s.heap.NoLimit:=z.mod.nolimit.keeps λb o e=>(z.bs b o e).1;have B:∀ y∈ps.zip us,scope.names.lookup y.1=some .local\/(scope.names.lookup y.1=some .cell/\((cellsFrom (s.heap.objs.size+1) scope.names []).lookup y.1).isSome=true):=λz0 hy=>by 
  obtain⟨n,v⟩:=z0
  rcases S.par n (dZ hy).1 with q|q
  ·exact .inl q
  ·exact .inr ⟨q,fN _ _ _ (.inl q)⟩
 refine codeAny_call_function Y.depth (KX _ _ lk) rfl S.co S.gen rfl (PySem.W.codeRec_of KX U) (hb _ _ _ _ ?_);refine wpAny_newFunctionEnv_cells S.kind B λenv he s1 x=>?_;subst he;refine⟨a0.keeps x.toInCall.keep,codeAny_func ?_⟩;obtain⟨t,ht,hq⟩:=l A outer s H vs Q E (Y.deeper _) hu G;have I:L2.Inv (Mj CX P w K mg base N qual scope f g A outer s H E) [] (start N vs) H s1:=BE S Y.hd z hl r x;refine bU (ht [] s1 (start N vs) H _ I hq) (λfl s' C=>?_) λe s' C=>C;have L:∀{h:L2.St}{H':Hp}{v:V}{u:Value},L2.Inv (Mj CX P w K mg base N qual scope f g A outer s H E) [] h H' s'->RelV v u->Q v H'->CE outer P w H s Q u s':=
  λ{h H' v u} J rv q=>⟨v,H',J.os,J.bare,J.base,J.hok,rv,q⟩
 cases fl with
 |ret u=>
  obtain⟨v,h,H',J,rv,q⟩:=C;exact L J rv q
 |next=>
  obtain⟨h,H',J,q⟩:=C;exact L (v:=V.non) (u:=Value.none) J rfl q
 |brk=>
  obtain⟨_,_,_,q⟩:=C;exact False.elim q
 |cont=>
  obtain⟨_,_,_,q⟩:=C;exact False.elim q
theorem okL{P:Program}{w:World}{mg:Str->Option Value}{base:Heap}{ps:List Str}{k:Nat}{S:DSp}(F:Fun K x qual st f fd)(I:Zo N ps (Zf st))(len:∀ xs M Φ,S xs M Φ->xs.length=ps.length)
  (g:∀(A:Around)(outer:List Env)(s:Shared)(H:Hp)(E:XK),QL k (A.deeper (envOfC qual (Zf st) s.heap.objs.size f fd.code))->Under base outer s->
   ∃l,DSs (Mj CX0 P w K mg base N qual (Zf st) f fd.code A outer s H E).nox (Jp st) l/\∀xs M Φ,S xs M Φ->l {nx:=λ_ M'=>gc Φ (.dat .none) M',rt:=gc Φ} (VB N xs) M):Qx P w K mg base CX0 (k+1) f fd ps (lift K S):=by
 obtain⟨oc,od,kV,J,pm,an,L,ct,O,rfl,lk,z⟩:=F.ex;refine vn lk z I (λvs H Q E h=>?_) λA outer s H vs Q E U Y h=>?_
 ·obtain⟨xs,M,Φ,_,B,C,_⟩:=h;rw[bC B];exact len xs M Φ C
 ·obtain⟨xs,M,Φ,r,B,C,kk⟩:=h;obtain⟨l,⟨t,p,q⟩,D⟩:=g A outer s H E U Y;refine⟨t,PSs.nox p,q (start N vs) H (VB N xs) M _ _ r (Jy.start B) (D xs M Φ C) ⟨λa0 H' a1 M' r' G e' hn=>?_,Hu kk,λ_ _ _ _ _ _ _ h=>h.elim,λ_ _ _ _ _ _ _ h=>h.elim⟩⟩;exact(Hu kk).dat r' G Dt.non hn
section
variable{params:Arguments}{body:Expr}{P:Addr}{Ka cl:List (Str×Addr)}
def iS(cl:List (Str×Addr))(P:Addr)(q:Str)(pos:Pos)(fd:Value->Value->Value->FuncData):DTE:=λ_ M Φ=>∃ l,M P=some (.ext (Yn P l))/\
 ((codeAmong pos (Kk l).toList=none/\∀g f h r,M g=none->M f=none->g≠f->(∀q∈cl,q.2≠g/\q.2≠f)->Φ (.own f) (Zs (Zs (Zs M P (.ext (Yn P (l++[(pos,g)])))) g (.ext (CJ g q))) f (.ext (UM f (fd h (.ref g) r)))))
 \/∃g,codeAmong pos (Kk l).toList=some (.ref g)/\∀f h r,M f=none->(∀q∈cl,q.2≠f)->Φ (.own f) (Zs M f (.ext (UM f (fd h (.ref g) r)))))
theorem wP(J:∀ q∈cl,X.env.cells.lookup q.1=some q.2/\X.env.kindOf q.1≠some .local/\Vis X.env.scope q.1)(D:X.env.code=.ref c)(hC:codeHdIn X.K c P=true)(B:BmB X.base X.mg)(E:autoParam (defaultsOf params X.env=([],[])) zz3._auto_1)(L:autoParam (closureFor scope X.env=pure Ka) zz3._auto_1):
  DE X (.Lambda params body scope pos) (iS cl P (GG X) pos λpm cd ct=>kla_fn "<lambda>" (GG X) params body scope Ka pm cd ct):=by
 refine⟨_,vz J D hC B E L,λσ H Δ M Φ Q r er h kk=>?_⟩;obtain⟨l,O,h⟩:=h;refine⟨l,r.ok P _ O,?_⟩
 rcases h with⟨hn,h⟩|⟨g,G,h⟩
 ·refine .inl ⟨hn,λg f pm ct U G ne C=>?_⟩;have nP:∀{b:Addr},H b=none->b≠P:=λe z=>by rw[z,r.ok P _ O]at e;cases e
  have s1:Step M H (Zs M P (.ext (Yn P (l++[(pos,g)])))) (upd H P (.ext (Yn P (l++[(pos,g)])))):=Step.Vb O;have r1:=r.Vk (o:=.ext (Yn P (l++[(pos,g)]))) s1 (show upd H P _ P=_ from Z0);have I:upd H P (.ext (Yn P (l++[(pos,g)]))) g=none:=by rw[ZH (nP U)];exact U
  have r2:=r1.Vk (o:=.ext (CJ g (GG X))) (Step.Qp I) (show upd (upd H P _) g _ g=_ from Z0);have t:upd (upd H P (.ext (Yn P (l++[(pos,g)])))) g (.ext (CJ g (GG X))) f=none:=by rw[ZH (be ne),ZH (nP G)];exact G
  have Y:=r2.Vk (o:=.ext (UM f (kla_fn "<lambda>" (GG X) params body scope Ka pm (.ref g) ct))) (Step.Qp t) (show upd (upd (upd H P _) g _) f _ f=_ from Z0);exact kk _ _ (.own f) _ Y (s1.trans ((Step.Qp I).trans (Step.Qp t))) rfl (h g f pm ct (r.tracked U) (r.tracked G) ne C)
 ·refine .inr ⟨g,G,λf pm ct t C=>?_⟩;have Y:=r.Vk (o:=.ext (UM f (kla_fn "<lambda>" (GG X) params body scope Ka pm (.ref g) ct))) (Step.Qp t) (show upd H f _ f=_ from Z0);exact kk _ _ (.own f) _ Y (Step.Qp t) rfl (h f pm ct (r.tracked t) C)
end
theorem w_{g:List V}{l:List DV}(h:JQ K M H vs xs)(k:JQ K M H g l):JQ K M H (vs++g) (xs++l):=Paired.app h k
theorem Nn:∀ q∈([]:List (Str×Addr)),X.env.cells.lookup q.1=some q.2/\X.env.kindOf q.1≠some .local/\Vis X.env.scope q.1:=λ_ h=>nomatch h
theorem HS{cl:List (Str×Addr)}(x:Str)(t:∀ q∈cl,X.env.cells.lookup q.1=some q.2/\X.env.kindOf q.1≠some .local/\Vis X.env.scope q.1)(l:autoParam (X.env.cells.lookup x=some c) zz3._auto_1)(g:autoParam (X.env.kindOf x=some .cell\/X.env.kindOf x=some .free) zz11._auto_1)(r:autoParam (Vis X.env.scope x) zz12._auto_1):
  ∀q∈(x,c)::cl,X.env.cells.lookup q.1=some q.2/\X.env.kindOf q.1≠some .local/\Vis X.env.scope q.1:=λq h=>by
 rcases aW.mp h with rfl|h
 ·refine⟨l,λe=>?_,r⟩
  rcases g with g|g
  ·rw[g]at e;cases e
  ·rw[g]at e;cases e
 ·exact t q h
section
variable{prog:Program}{E:Value->Shared->Prop}{κ:SortKind}{f:Nat->Keyed}{lt:Nat->Nat->Bool}{st:SortSt}
def Ans(prog:Program)(w:World)(A:Around)(s:Shared)(κ:SortKind)(f:Nat->Keyed)(lt:Nat->Nat->Bool)(n:Nat):Prop:=
 ∀i j,i<n->j<n->∀ C:Bool->Shared->Prop,C (lt i j) s->wpAny (model prog w) A (keyLt' κ (f i).1 (f j).1) C (λ_ _=>False) s
theorem Cv(h:Ans prog w A s κ f lt n)(l:kindOf st=κ)(r:i<n)(t:j<n){Q:Option Bool->SortSt->Prop}(q:Q (some (lt i j)) st):wpS (model prog w) A E s (lt' (f i) (f j)) Q st:=by
 rw[lt'_eq];refine aJ (gD ?_);rw[l];refine aJ (wpS_lift (gT (bU (h i j r t (λb g=>b=lt i j/\g=s) ⟨rfl,rfl⟩) (λb g z=>?_) λ_ _ z=>z.elim)));obtain⟨rfl,rfl⟩:=z;exact⟨rfl,aO q⟩
theorem ZZ{g:Array Keyed}{p:Array Nat}(e:g=p.map f)(h:i<p.size){Q:Keyed->SortSt->Prop}(q:Q (f (at' p i)) st):wpS (model prog w) A E s (elem' g i) Q st:=by
 rw[elem'_eq,e];have:(p.map f)[i]?=some (f (at' p i)):=by simp[at',h]
 rw[this];exact aO q
theorem Zt{g:Type}{c:Prop}{r:Decidable c}{x y:StateT SortSt Sem g}{Q:g->SortSt->Prop}(h:c->wpS (model prog w) A E s x Q st)(l:¬ c->wpS (model prog w) A E s y Q st):wpS (model prog w) A E s (if c then x else y) Q st:=by
 split
 ·exact h ‹_›
 ·exact l ‹_›
theorem TB{l:Type}{X:Nat->Nat->StateT SortSt Sem l}{Q:l->SortSt->Prop}(R:Nat->Nat->Prop){g:Prop}(k:(∀x y,R x y->wpS (model prog w) A E s (X x y) Q st)->g)(h:∀ x y,R x y->wpS (model prog w) A E s (X x y) Q st):g:=k h
noncomputable def rK:Bool->Keyed->Array Keyed->Nat->Nat->Nat->StateT SortSt Sem (Option Nat):=sortPriv%PySem.Builtin.gallop
noncomputable def byd(lt:Nat->Nat->Bool)(left:Bool)(k:Nat)(p:Array Nat)(base i:Nat):Bool:=if left then lt (at' p (base+i)) k else !lt k (at' p (base+i))
theorem UP(h:Ans prog w A s κ f lt n)(t:kindOf st=κ){left:Bool}{k:Nat}{p:Array Nat}{g:Array Keyed}(B:g=p.map f)(z:k<n)(pn:∀ i,i<p.size->at' p i<n)(l:base+i<p.size){Q:Option Bool->SortSt->Prop}(q:Q (some (byd lt left k p base i)) st):
  wpS (model prog w) A E s (do let x <-elem' g (base+i);if left=true then lt' x (f k)else do let r <-lt' (f k) x;pure (r.map (!·))) Q st:=by
 refine aJ (ZZ B l ?_);unfold byd at q;cases left with
 |true=>rw[aw rfl]at q⊢;exact Cv h t (pn _ l) z q
 |false=>rw[ao ae]at q⊢;exact aJ (Cv h t z (pn _ l) (aO q))
theorem Jl(h:Ans prog w A s κ f lt n)(hk:kindOf st=κ){left:Bool}{k:Nat}{p:Array Nat}{a0:Array Keyed}(ea:a0=p.map f){hint:Nat}(kn:k<n)(pn:∀ i,i<p.size->at' p i<n)(hb:base+m<=p.size)(hh:hint<m)
  (J:∀ i j,i<=j->j<m->byd lt left k p base j=true->byd lt left k p base i=true) {Q:Option Nat->SortSt->Prop}
  (q:∀ r,r<=m->(∀i,i<r->byd lt left k p base i=true)->(∀i,r<=i->i<m->byd lt left k p base i=false)->Q (some r) st):wpS (model prog w) A E s (rK left (f k) a0 base m hint) Q st:=by
 have U:∀ i j,i<=j->j<m->byd lt left k p base i=false->byd lt left k p base j=false:=λi j h1 L G=>by
  cases e:byd lt left k p base j with
  |false=>rfl
  |true=>rw[J i j h1 L e]at G;cases G
 refine aJ (UP h hk ea kn pn (by lia) ?_);apply TB (st:=st) λlo B=>lo<=B/\B<=m/\(∀i,i<lo->byd lt left k p base i=true)/\∀i,B<=i->i<m->byd lt left k p base i=false
 ·intro go;dsimp only;cases hr:byd lt left k p base hint with
  | true=>
   rw[aw rfl]
   refine aJ (c_ (bP (I:=λx c D=>st=D/\∃C t,c=(none,C,t)/\x<t/\C<t/\hint+C<m/\byd lt left k p base (hint+C)=true)
    (Q:=λc D=>st=D/\∃C t,c=(none,C,t)/\C<t/\hint+C<m/\byd lt left k p base (hint+C)=true/\(m-hint<=t\/(hint+t<m/\byd lt left k p base (hint+t)=false))) ?_ ?_ ⟨rfl,0,1,rfl,Nat.one_pos,Nat.one_pos,hh,hr⟩) ?_)
   ·rintro x _ _ _ hx ⟨rfl,C,t,rfl,h1,L,G,O⟩
    by_cases g:t ≥ m-hint
    ·dsimp only;rw[aw g];exact aO ⟨rfl,C,t,rfl,L,G,O,.inl g⟩
    ·have l:hint+t<m:=by lia
     dsimp only;rw[ao g];refine aJ (UP h hk ea kn pn (by lia) ?_);dsimp only;cases hm:byd lt left k p base (hint+t)with
     |false=>exact aO ⟨rfl,C,t,rfl,L,G,O,.inr ⟨l,hm⟩⟩
     |true=>exact aO ⟨rfl,t,2*t+1,rfl,by lia,by lia,l,hm⟩
   ·rintro _ _ ⟨rfl,C,t,rfl,h1,L,G,O⟩;exact⟨rfl,C,t,rfl,L,G,O,.inl (by lia)⟩
   ·rintro _ _ ⟨rfl,C,t,rfl,L,G,O,h5⟩;have z1:hint+C+1<=hint+min t (m-hint):=by lia
    have z2:hint+min t (m-hint)<=m:=by lia
    have z3:∀ i,i<hint+C+1->byd lt left k p base i=true:=λi B=>J _ _ (Nat.le_of_lt_succ B) G O;have z4:∀ i,hint+min t (m-hint)<=i->i<m->byd lt left k p base i=false:=λi h6 h7=>by
     rcases h5 with z|⟨z1,z2⟩
     ·lia
     ·exact U (hint+t) i (by lia) h7 z2
    dsimp only;generalize hint+C+1=lo at z1 z3⊢;generalize hint+min t (m-hint)=B at z1 z2 z4⊢;exact go lo B ⟨z1,z2,z3,z4⟩
  | false=>
   rw[ao ae]
   refine aJ (c_ (bP (I:=λx c D=>st=D/\∃C t,c=(none,C,t)/\x<t/\C<t/\C<=hint/\byd lt left k p base (hint-C)=false)
    (Q:=λc D=>st=D/\∃C t,c=(none,C,t)/\C<t/\C<=hint/\byd lt left k p base (hint-C)=false/\(hint+1<=t\/(t<=hint/\byd lt left k p base (hint-t)=true))) ?_ ?_ ⟨rfl,0,1,rfl,Nat.one_pos,Nat.one_pos,br _,hr⟩) ?_)
   ·rintro x _ _ _ hx ⟨rfl,C,t,rfl,h1,L,G,O⟩
    by_cases g:t ≥ hint+1
    ·dsimp only;rw[aw g];exact aO ⟨rfl,C,t,rfl,L,G,O,.inl g⟩
    ·have l:t<=hint:=by lia
     dsimp only;rw[ao g];refine aJ (UP h hk ea kn pn (by lia) ?_);dsimp only;cases hm:byd lt left k p base (hint-t)with
     |true=>exact aO ⟨rfl,C,t,rfl,L,G,O,.inr ⟨l,hm⟩⟩
     |false=>exact aO ⟨rfl,t,2*t+1,rfl,by lia,by lia,l,hm⟩
   ·rintro _ _ ⟨rfl,C,t,rfl,h1,L,G,O⟩;exact⟨rfl,C,t,rfl,L,G,O,.inl (by lia)⟩
   ·rintro _ _ ⟨rfl,C,t,rfl,L,G,O,h5⟩;refine go _ _ ⟨?_,?_,λi B=>?_,λi h6 h7=>U _ _ h6 h7 O⟩
    ·show hint+1-min t (hint+1)<=hint-C;lia
    ·show hint-C<=m;lia
    ·have B:i<hint+1-min t (hint+1):=B
     rcases h5 with z|⟨z1,z2⟩
     ·lia
     ·exact J i (hint-t) (by lia) (by lia) z2
 rintro lo B ⟨g1,Y,g4,g5⟩
 refine aJ (c_ (bP (I:=λx c D=>st=D/\∃lo B,c=(none,lo,B)/\lo<=B/\B<=m/\B-lo+x<=m/\(∀i,i<lo->byd lt left k p base i=true)/\(∀i,B<=i->i<m->byd lt left k p base i=false))
  (Q:=λc D=>st=D/\∃lo B,c=(none,lo,B)/\B<=lo/\B<=m/\(∀i,i<lo->byd lt left k p base i=true)/\(∀i,B<=i->i<m->byd lt left k p base i=false)) ?_ ?_ ⟨rfl,lo,B,rfl,g1,Y,by lia,g4,g5⟩) ?_)
 ·rintro x _ _ _ hx ⟨rfl,lo,B,rfl,g1,Y,g3,g4,g5⟩;refine Zt (λg=>aO ⟨rfl,lo,B,rfl,g,Y,g4,g5⟩) λg=>?_;have g6:lo<B:=Nat.lt_of_not_le g;have l1:lo+(B-lo)/2<B:=by lia
  have l2:=aP l1 Y;refine aJ (UP h hk ea kn pn (by lia) ?_);dsimp only;cases hm:byd lt left k p base (lo+(B-lo)/2)with
  |true=>exact aO ⟨rfl,_,_,rfl,l1,Y,by lia,λi B=>J _ _ (Nat.le_of_lt_succ B) l2 hm,g5⟩
  |false=>exact aO ⟨rfl,_,_,rfl,cc _ _,dN l2,by lia,g4,λi h6 h7=>U _ _ h6 h7 hm⟩
 ·rintro _ _ ⟨rfl,lo,B,rfl,g1,Y,g3,g4,g5⟩;exact⟨rfl,lo,B,rfl,by lia,Y,g4,g5⟩
 ·rintro _ _ ⟨rfl,lo,B,rfl,Y,g3,g4,g5⟩;exact aO (q B g3 (λi B=>g4 i (aP B Y)) g5)
end
section
variable{lt:Nat->Nat->Bool}
structure Mg(lt:Nat->Nat->Bool)(po ra rb tot:List Nat):Prop where
 perm:(po++(ra++rb)).Perm tot
 up:po.Pairwise (Le lt)
 lo:∀ x∈po,∀y,y∈ra\/y∈rb->Le lt x y
variable{po ra rb tot:List Nat}{x:Nat}
theorem Mg.swap(h:Mg lt po ra rb tot):Mg lt po rb ra tot:=⟨(fV po List.perm_append_comm).trans h.perm,h.up,λx g y l=>h.lo x g y l.symm⟩
theorem Mg.take(o:Ord lt)(h:Mg lt po (x::ra) rb tot)(D:(x::ra).Pairwise (Le lt))(E:rb.Pairwise (Le lt))(G:∀ z l,rb=z::l->Le lt x z):Mg lt (po++[x]) ra rb tot:=by
 refine⟨?_,?_,λy r z g=>?_⟩
 ·have e:po++[x]++(ra++rb)=po++(x::ra++rb):=by simp
  rw[e];exact h.perm
 ·rw[dw];refine⟨h.up,fL _ _,λa t b B=>?_⟩;rw[au.mp B];exact h.lo a t x (.inl (.head _))
 ·rcases ax.mp r with r|r
  ·exact h.lo y r z (g.imp (λq=>.tail _ q) id)
  ·rw[au.mp r]
   rcases g with g|g
   ·exact bN D g
   ·cases rb with
    |nil=>cases g
    |cons c l=>
     have C:=G c l rfl
     rcases aW.mp g with rfl|g
     ·exact C
     ·exact o.tran _ _ _ C (bN E g)
theorem Mg.fin(h:Mg lt po ra [] tot)(g:ra.Pairwise (Le lt)):(po++ra).Perm tot/\(po++ra).Pairwise (Le lt):=by
 refine⟨?_,?_⟩
 ·have:=h.perm
  rwa [aU]at this
 ·rw[dw];exact⟨h.up,g,λa l b r=>h.lo a l b (.inl r)⟩
theorem Mg.last(h:Mg lt po [x] rb tot)(r:rb.Pairwise (Le lt))(t:∀ y∈rb,Le lt y x):(po++rb++[x]).Perm tot/\(po++rb++[x]).Pairwise (Le lt):=by
 refine⟨?_,?_⟩
 ·rw[bt];exact(fV po List.perm_append_comm).trans h.perm
 ·rw[dw,dw];refine⟨⟨h.up,r,λa g b l=>h.lo a g b (.inr l)⟩,fL _ _,λa g b l=>?_⟩;rw[au.mp l]
  rcases ax.mp g with g|g
  ·exact h.lo a g x (.inl (.head _))
  ·exact t a g
theorem Ym{p:Array Nat}(h:i<p.size):p.toList.drop i=at' p i::p.toList.drop (i+1):=by
 rw[cN (by simpa using h)];simp[at',h]
theorem jN(o:Ord lt){p:Array Nat}(h:p.toList.Pairwise (Le lt))(l:i<=j)(g:j<p.size):Le lt (at' p i) (at' p j):=by
 by_cases e:i=j
 ·rw[e];exact o.refl _
 ·have:=ce.mp h i j (by simp;lia) (by simpa using g) (by lia);have r:i<p.size:=by lia
  simpa[at',r,g]using this
end
section
variable{f:Nat->Keyed}{lt:Nat->Nat->Bool}{pa pb:Array Nat}{out:Array Keyed}{ia ib k:Nat}
def ML(f:Nat->Keyed)(lt:Nat->Nat->Bool)(pa pb:Array Nat)(out:Array Keyed)(ia ib:Nat):Prop:=∃ g:Array Nat,out=g.map f/\Mg lt g.toList (pa.toList.drop ia) (pb.toList.drop ib) (pa.toList++pb.toList)
def Mgd(f:Nat->Keyed)(lt:Nat->Nat->Bool)(pa pb:Array Nat)(r:Array Keyed):Prop:=∃ q:Array Nat,r=q.map f/\q.toList.Perm (pa.toList++pb.toList)/\q.toList.Pairwise (Le lt)
theorem HQ{p:Array Nat}{a:Array Keyed}(e:a=p.map f)(i j:Nat):a.extract i j=(p.extract i j).map f:=by
 rw[e];simp
theorem ML.LG(o:Ord lt)(h:ML f lt pa pb out ia ib)(B:pa.toList.Pairwise (Le lt))(C:pb.toList.Pairwise (Le lt))(t:ia<pa.size)(D:ib<pb.size->Le lt (at' pa ia) (at' pb ib)):ML f lt pa pb (out.push (f (at' pa ia))) (ia+1) ib:=by
 obtain⟨E,rfl,g⟩:=h;rw[Ym t]at g;refine⟨E.push (at' pa ia),by simp,?_⟩;rw[eK];refine g.take o (by rw[<-Ym t];exact B.drop) C.drop λz l e=>?_
 by_cases r:ib<pb.size
 ·rw[Ym r]at e;cases e;exact D r
 ·rw[c7 (by simpa using r)]at e;cases e
theorem ML.L0(o:Ord lt)(h:ML f lt pa pb out ia ib)(B:pa.toList.Pairwise (Le lt))(C:pb.toList.Pairwise (Le lt))(t:ib<pb.size)(D:ia<pa.size->Le lt (at' pb ib) (at' pa ia)):ML f lt pa pb (out.push (f (at' pb ib))) ia (ib+1):=by
 obtain⟨E,rfl,g⟩:=h;rw[Ym t]at g;refine⟨E.push (at' pb ib),by simp,?_⟩;rw[eK];refine(g.swap.take o (by rw[<-Ym t];exact C.drop) B.drop λz l e=>?_).swap
 by_cases r:ia<pa.size
 ·rw[Ym r]at e;cases e;exact D r
 ·rw[c7 (by simpa using r)]at e;cases e
theorem E9{p:Array Nat}{a:Array Keyed}(e:a=p.map f){k:Nat}(h:i+k<p.size)(out:Array Keyed):out++a.extract i (i+(k+1))=(out++a.extract i (i+k)).push (f (at' p (i+k))):=by
 subst e;apply cC.mp;simp only[Array.toList_append,Array.toList_push,Array.toList_extract,Array.toList_map,List.append_assoc,List.extract_eq_take_drop]
 congr 1
 rw[show i+(k+1)-i=k+1 by lia,show i+k-i=k by lia,fQ]
 congr 1
 simp[at',h]
theorem ML.Nv(o:Ord lt){a:Array Keyed}(l:a=pa.map f)(h:ML f lt pa pb out ia ib)(r:pa.toList.Pairwise (Le lt))(t:pb.toList.Pairwise (Le lt))(g:∀ i,i<k->ib<pb.size->Le lt (at' pa (ia+i)) (at' pb ib)):ia+k<=pa.size->ML f lt pa pb (out++a.extract ia (ia+k)) (ia+k) ib:=by
 induction k with
 |zero=>intro _;rw[show a.extract ia (ia+0)= #[] by apply cC.mp;simp[List.extract_eq_take_drop],Array.append_empty];exact h
 |succ k z=>
  intro B;rw[E9 l (by lia)];exact(z (λi C=>g i (by lia)) (by lia)).LG o r t (by lia) (g k (by lia))
theorem ML.Pq(o:Ord lt){b:Array Keyed}(l:b=pb.map f)(h:ML f lt pa pb out ia ib)(r:pa.toList.Pairwise (Le lt))(t:pb.toList.Pairwise (Le lt))(g:∀ i,i<k->ia<pa.size->Le lt (at' pb (ib+i)) (at' pa ia)):ib+k<=pb.size->ML f lt pa pb (out++b.extract ib (ib+k)) ia (ib+k):=by
 induction k with
 |zero=>intro _;rw[show b.extract ib (ib+0)= #[] by apply cC.mp;simp[List.extract_eq_take_drop],Array.append_empty];exact h
 |succ k z=>
  intro B;rw[E9 l (by lia)];exact(z (λi C=>g i (by lia)) (by lia)).L0 o r t (by lia) (g k (by lia))
theorem Ge{p:Array Nat}{a:Array Keyed}(e:a=p.map f)(i:Nat):a.extract i a.size=(p.extract i p.size).map f/\(p.extract i p.size).toList=p.toList.drop i:=by
 subst e;refine⟨by simp,?_⟩;rw[eW,df,fR (by simp)]
theorem ML.done{a b:Array Keyed}(r:a=pa.map f)(t:b=pb.map f)(h:ML f lt pa pb out ia ib)(z:pa.toList.Pairwise (Le lt))(B:pb.toList.Pairwise (Le lt))(l:pb.size<=ib\/pa.size<=ia):Mgd f lt pa pb (out++a.extract ia a.size++b.extract ib b.size):=by
 obtain⟨C,rfl,g⟩:=h;obtain⟨D,E⟩:=Ge r ia;obtain⟨G,I⟩:=Ge t ib;refine⟨C++pa.extract ia pa.size++pb.extract ib pb.size,by rw[D,G,cR,cR],?_⟩;rw[bS,bS,E,I]
 rcases l with l|l
 ·rw[c7 (show pb.toList.length<=ib by simpa using l)]at g⊢;rw[aU];exact g.fin z.drop
 ·rw[c7 (show pa.toList.length<=ia by simpa using l)]at g⊢;rw[aU];exact g.swap.fin B.drop
theorem ML.last{a b:Array Keyed}(r:a=pa.map f)(t:b=pb.map f)(h:ML f lt pa pb out ia ib)(z:pb.toList.Pairwise (Le lt))(L:ia+1=pa.size)(B:∀ y∈pb.toList,Le lt y (at' pa ia)):Mgd f lt pa pb (out++b.extract ib b.size++a.extract ia a.size):=by
 obtain⟨C,rfl,g⟩:=h;obtain⟨D,E⟩:=Ge r ia;obtain⟨G,I⟩:=Ge t ib;refine⟨C++pb.extract ib pb.size++pa.extract ia pa.size,by rw[D,G,cR,cR],?_⟩;have l:pa.toList.drop ia=[at' pa ia]:=by rw[Ym (by lia),c7 (show pa.toList.length<=ia+1 by simp;lia)]
 rw[bS,bS,E,I,l];rw[l]at g;exact g.last z.drop λy J=>B y (List.mem_of_mem_drop J)
end
section
variable{prog:Program}{E:Value->Shared->Prop}{κ:SortKind}{f:Nat->Keyed}{lt:Nat->Nat->Bool}{st:SortSt}
structure Sm(st st':SortSt):Prop where
 kd:kindOf st' =kindOf st
 ar:arrOf st' =arrOf st
 pd:pendingOf st' =pendingOf st
 fl:failedOf st' =failedOf st
theorem Sm.refl{st:SortSt}:Sm st st:=⟨rfl,rfl,rfl,rfl⟩
theorem Sm.trans{a b c:SortSt}(h:Sm a b)(k:Sm b c):Sm a c:=⟨k.kd.trans h.kd,k.ar.trans h.ar,k.pd.trans h.pd,k.fl.trans h.fl⟩
noncomputable def qh:Nat->StateT SortSt Sem Unit:=sortPriv%PySem.Builtin.setMinGallop
theorem Ub{g:Nat}{Q:Unit->SortSt->Prop}(q:∀ h,Sm st h->Q () h):wpS (model prog w) A E s (qh g) Q st:=f_ (q _ ⟨rfl,rfl,rfl,rfl⟩)
theorem EL{r:Type}{X:Nat->StateT SortSt Sem r}{Q:r->SortSt->Prop}{l:Prop}(k:(∀m g,Sm st g->wpS (model prog w) A E s (X m) Q g)->l)(h:∀ m g,Sm st g->wpS (model prog w) A E s (X m) Q g):l:=k h
theorem Kg{l:Type}{X:Array Keyed->Nat->StateT SortSt Sem l}{Q:l->SortSt->Prop}(R:Array Keyed->Nat->Prop){g:Prop}(k:(∀o i,R o i->wpS (model prog w) A E s (X o i) Q st)->g)(h:∀ o i,R o i->wpS (model prog w) A E s (X o i) Q st):g:=k h
noncomputable def xz:Array Keyed->Array Keyed->StateT SortSt Sem (Array Keyed):=sortPriv%PySem.Builtin.mergeLo
variable{pa pb:Array Nat}
theorem pU(o:Ord lt)(h:pa.toList.Pairwise (Le lt)){k:Nat}(l:base+m<=pa.size):∀ i j,i<=j->j<m->byd lt false k pa base j=true->byd lt false k pa base i=true:=λi j r t g=>by
 unfold byd at g⊢;rw[ao (by decide)]at g⊢;have e:Le lt (at' pa (base+j)) k:=by simpa[Le]using g
 have:=o.tran _ _ _ (jN o h (i:=base+i) (j:=base+j) (bT r _) (aP (gw t _) l)) e
 simpa[Le]using this
theorem lM(o:Ord lt)(h:pb.toList.Pairwise (Le lt)){k:Nat}(l:base+m<=pb.size):∀ i j,i<=j->j<m->byd lt true k pb base j=true->byd lt true k pb base i=true:=λi j r t g=>by
 unfold byd at g⊢;rw[aw (by rfl)]at g⊢;cases e:lt (at' pb (base+i)) k with
 |true=>rfl
 |false=>
  have z:Le lt k (at' pb (base+i)):=e;have:=o.tran _ _ _ z (jN o h (i:=base+i) (j:=base+j) (bT r _) (aP (gw t _) l));rw[show lt (at' pb (base+j)) k=false from this]at g;cases g
theorem jD{k:Nat}{p:Array Nat}(o:Ord lt)(h:byd lt true k p base i=true):Le lt (at' p (base+i)) k:=o.asym _ _ (by simpa[byd]using h)
theorem By{k:Nat}{p:Array Nat}(h:byd lt true k p base i=false):Le lt k (at' p (base+i)):=by simpa[byd,Le]using h
theorem Ol{k:Nat}{p:Array Nat}(h:byd lt false k p base i=true):Le lt (at' p (base+i)) k:=by simpa[byd,Le]using h
theorem RG{k:Nat}{p:Array Nat}(o:Ord lt)(h:byd lt false k p base i=false):Le lt k (at' p (base+i)):=o.asym _ _ (by simpa[byd]using h)
theorem Le.not{x y:Nat}(h:¬ lt x y=true):Le lt y x:=by simpa[Le]using h
theorem MK(e:m=n)(h:i<n)(c:¬ (i+1==m)=true):i+1<n:=dU h λz=>c (bw.mpr (z.trans e.symm))
structure Mc(prog:Program)(w:World)(A:Around)(s:Shared)(κ:SortKind)(f:Nat->Keyed)(lt:Nat->Nat->Bool)(n:Nat)(pa pb:Array Nat)(a b:Array Keyed):Prop where
 h:Ans prog w A s κ f lt n
 o:Ord lt
 ea:a=pa.map f
 eb:b=pb.map f
 an:∀ i,i<pa.size->at' pa i<n
 bn:∀ i,i<pb.size->at' pb i<n
 sa:pa.toList.Pairwise (Le lt)
 sb:pb.toList.Pairwise (Le lt)
 a1:0<pa.size
 b1:0<pb.size
variable{a b out:Array Keyed}{ia ib z:Nat}{γ:Type}{X Y:Keyed->StateT SortSt Sem γ}{Q:γ->SortSt->Prop}
theorem Mc.za(M:Mc prog w A s κ f lt n pa pb a b):a.size=pa.size:=by rw[M.ea];exact Array.size_map
theorem Mc.zb(M:Mc prog w A s κ f lt n pa pb a b):b.size=pb.size:=by rw[M.eb];exact Array.size_map
def LoI(f:Nat->Keyed)(lt:Nat->Nat->Bool)(pa pb:Array Nat)(z:Nat)(out:Array Keyed)(ia ib:Nat):Prop:=ML f lt pa pb out ia ib/\(ia+1<pa.size/\ib<pb.size)/\z<=ia+ib
theorem LoI.no{z:Nat}(h:LoI f lt pa pb z out ia ib):z<pa.size+pb.size:=gG h.2.2 (Nat.add_lt_add (dy h.2.1.1) h.2.1.2)
theorem LoI.le{z g:Nat}(h:LoI f lt pa pb z out ia ib)(e:g<=z):LoI f lt pa pb g out ia ib:=⟨h.1,h.2.1,aA e h.2.2⟩
theorem Mc.nr(M:Mc prog w A s κ f lt n pa pb a b)(i:LoI f lt pa pb z out ia ib)(g:Le lt (at' pb ib) (at' pa ia))(h:Mgd f lt pa pb (out.push (f (at' pb ib))++a.extract ia a.size++b.extract (ib+1) b.size)->wpS (model prog w) A E s (X (f (at' pb ib))) Q st)
  (l:LoI f lt pa pb (z+1) (out.push (f (at' pb ib))) ia (ib+1)->wpS (model prog w) A E s (Y (f (at' pb ib))) Q st):wpS (model prog w) A E s (elem' b ib >>= λx=>if(ib+1==b.size)=true then X x else Y x) Q st:=by
 have m:=i.1.L0 M.o M.sa M.sb i.2.1.2 λ_=>g;exact aJ (ZZ M.eb i.2.1.2 (Zt (λc=>h (m.done M.ea M.eb M.sa M.sb (.inl (by rw[bw.mp c,M.zb];exact ak _)))) λc=>l ⟨m,⟨i.2.1.1,MK M.zb i.2.1.2 c⟩,dJ i.2.2⟩))
theorem Mc.mG(M:Mc prog w A s κ f lt n pa pb a b)(g:∀ y∈pb.toList,Le lt y (at' pa (pa.size-1)))(i:LoI f lt pa pb z out ia ib)(h:Le lt (at' pa ia) (at' pb ib))(r:Mgd f lt pa pb (out.push (f (at' pa ia))++b.extract ib b.size++a.extract (ia+1) a.size)->wpS (model prog w) A E s (X (f (at' pa ia))) Q st)
  (t:LoI f lt pa pb (z+1) (out.push (f (at' pa ia))) (ia+1) ib->wpS (model prog w) A E s (Y (f (at' pa ia))) Q st):wpS (model prog w) A E s (elem' a ia >>= λx=>if(ia+1+1==a.size)=true then X x else Y x) Q st:=by
 have l:=dy i.2.1.1;have m:=i.1.LG M.o M.sa M.sb l λ_=>h;refine aJ (ZZ M.ea l (Zt (λc=>r ?_) λc=>t ⟨m,⟨MK M.za i.2.1.1 c,i.2.1.2⟩,by rw[Nat.add_right_comm];exact dJ i.2.2⟩));have c:=(bw.mp c).trans M.za;exact m.last M.ea M.eb M.sb c (by rw[show ia+1=pa.size-1 from gj c];exact g)
set_option maxHeartbeats 4000000 in
theorem El(M:Mc prog w A s κ f lt n pa pb a b)(hk:kindOf st=κ)(hf:Le lt (at' pb 0) (at' pa 0))(hl:∀ y∈pb.toList,Le lt y (at' pa (pa.size-1))){Q:Array Keyed->SortSt->Prop}(q:∀ r g,Sm st g->Mgd f lt pa pb r->Q r g):wpS (model prog w) A E s (xz a b) Q st:=by
 have m0:ML f lt pa pb #[f (at' pb 0)] 0 1:=ML.L0 (out:=#[]) (ia:=0) (ib:=0) M.o ⟨#[],by simp,⟨by simp,by simp,λx hx=>nomatch hx⟩⟩ M.sa M.sb M.b1 λ_=>hf;have za:=M.za;have zb:=M.zb;have zz:∀{x:Nat}{o:Array Keyed}{i j:Nat},¬LoI f lt pa pb (x+max 0 (a.size+b.size)) o i j:=λh=>absurd (h.le (fC _ _)).no (by lia);refine aJ (wpS_lift (dS ⟨rfl,aJ (ZZ M.eb M.b1 (Zt (λc=>aO (q _ _ Sm.refl (m0.done M.ea M.eb M.sa M.sb (.inl (by rw[bw.mp c,zb];exact ak _))))) λc=>Zt (λc2=>?_) λc2=>aJ (gD (aJ (c_ (bP (I:=λx c g=>Sm st g/\c.1=none/\LoI f lt pa pb (0+x) c.2.1 c.2.2.1 c.2.2.2.1) (Q:=λc g=>Sm st g/\∃r,c.1=some r/\Mgd f lt pa pb r) ?_ ?_ ⟨Sm.refl,rfl,m0,⟨MK za M.a1 c2,MK zb M.b1 c⟩,br _⟩) ?_)))))⟩))
 ·have c:=(bw.mp c2).trans za;exact aO (q _ _ Sm.refl (m0.last M.ea M.eb M.sb c (by rw[show 0=pa.size-1 from gj c];exact hl)))
 ·rintro x c O _ hx ⟨hs,e1,i1⟩
  refine aJ (c_ (bP (I:=λy c g=>O=g/\c.1=none/\LoI f lt pa pb (x+y) c.2.1 c.2.2.1 c.2.2.2.1)
   (Q:=λc g=>O=g/\((∃r,c.1=some r/\Mgd f lt pa pb r)\/(c.1=none/\LoI f lt pa pb x c.2.1 c.2.2.1 c.2.2.2.1))) ?_ ?_ ⟨rfl,rfl,i1.le (by lia)⟩) ?_)
  ·rintro y c _ _ hy ⟨rfl,J,t⟩;have l:=dy t.2.1.1;refine aJ (ZZ M.eb t.2.1.2 (aJ (ZZ M.ea l (aJ (Cv M.h (hs.kd.trans hk) (M.bn _ t.2.1.2) (M.an _ l) (Zt (λhw=>M.nr t (M.o.asym _ _ hw) (λm=>aO ⟨rfl,.inl ⟨_,rfl,m⟩⟩) λi3=>?_) λhw=>M.mG hl t (Le.not hw) (λm=>aO ⟨rfl,.inl ⟨_,rfl,m⟩⟩) λi3=>?_))))))
   all_goals exact Zt (λ_=>aO ⟨rfl,.inr ⟨rfl,i3.le (cc x (y+1))⟩⟩) λ_=>aO ⟨rfl,rfl,i3⟩
  ·rintro c _ ⟨rfl,J,t⟩;exact(zz t).elim
  ·rintro⟨c1,c⟩ _ ⟨rfl,⟨r,J,hr⟩|⟨J,t⟩⟩
   ·cases(show c1=_ from J);exact aO ⟨hs,r,rfl,hr⟩
   ·cases(show c1=_ from J)
    refine aJ (wpS_lift (dS ⟨rfl,aJ (c_ (bP (I:=λy c g=>Sm st g/\c.1=none/\LoI f lt pa pb (x+y) c.2.1 c.2.2.1 c.2.2.2.1)
     (Q:=λc g=>Sm st g/\((∃r,c.1=some r/\Mgd f lt pa pb r)\/(c.1=none/\LoI f lt pa pb (0+(x+1)) c.2.1 c.2.2.1 c.2.2.2.1))) ?_ ?_ ⟨hs,rfl,t⟩) ?_)⟩))
    ·rintro y ⟨_,out,L,C,a2,ac,bc⟩ a3 _ hy ⟨U,J,m2,⟨g1,g2⟩,g3⟩;dsimp only at m2 g1 g2 g3⊢;clear t hs J i1 e1;apply EL (st:=a3)
     ·intro go;refine Zt (λ_=>aJ (Ub λD B=>?_)) λ_=>aJ (Ub λD B=>?_)
      ·generalize a2-1=m;exact go m D B
      ·exact go a2 D B
     intro a5 D B;have a4:=B.kd.trans (U.kd.trans hk);have G:=U.trans B;refine aJ (ZZ M.eb g2 (aJ (Jl M.h a4 M.ea (M.bn _ g2) M.an (by lia) (by lia) (pU M.o M.sa (by lia)) λk k1 k2 k3=>?_)));have m4:=m2.Nv (k:=k) M.o M.ea M.sa M.sb (λi hi _=>Ol (k2 i hi)) (by lia);have a0:L+k<pa.size->Le lt (at' pb C) (at' pa (L+k)):=λz=>RG M.o (k3 k (ak _) (by lia));apply Kg (st:=D) (λo i=>LoI f lt pa pb (x+y) o i C/\Le lt (at' pb C) (at' pa i))
     ·intro go;refine Zt (λc3=>Zt (λc4=>?_) λc4=>Zt (λc5=>?_) λc5=>?_) λc3=>?_
      ·have c:=(bw.mp c4).trans za;exact aO ⟨G,.inl ⟨_,rfl,m4.last M.ea M.eb M.sb c (by rw[show L+k=pa.size-1 from gj c];exact hl)⟩⟩
      ·exact aO ⟨G,.inl ⟨_,rfl,m4.done M.ea M.eb M.sa M.sb (.inr (by rw[bw.mp c5,za];exact ak _))⟩⟩
      ·have c5:L+k<pa.size:=dU (by lia) λz=>c5 (bw.mpr (z.trans za.symm));have aT:=a0 c5;have iT:LoI f lt pa pb (x+y) (out++a.extract L (L+k)) (L+k) C:=⟨m4,⟨MK za c5 c4,g2⟩,aA g3 (bX (cc L k) C)⟩
       generalize out++a.extract L (L+k)=o2 at iT⊢;generalize L+k=t at iT aT⊢;exact go o2 t ⟨iT,aT⟩
      ·cases dW c3;exact go out L ⟨⟨m2,⟨g1,g2⟩,g3⟩,a0 (dy g1)⟩
     clear m2 g1 g2 g3 k1 k2 k3 m4 a0;rintro o2 k4 ⟨iT,aT⟩;refine M.nr iT aT (λm=>aO ⟨G,.inl ⟨_,rfl,m⟩⟩) λ⟨m5,⟨g1,g2⟩,g3⟩=>aJ (ZZ M.ea (dy g1) (aJ (Jl M.h a4 M.eb (M.an _ (dy g1)) M.bn (by lia) (by lia) (lM M.o M.sb (by lia)) λj j1 j2 j3=>?_)));have m6:=m5.Pq (k:=j) M.o M.eb M.sa M.sb (λi hi _=>jD M.o (j2 i hi)) (by lia);have b6:=λz:C+1+j<pb.size=>By (j3 j (ak _) (by lia));apply Kg (st:=D) (λo i=>LoI f lt pa pb (x+y+1) o k4 i/\Le lt (at' pa k4) (at' pb i))
     ·intro go;refine Zt (λc3=>Zt (λc4=>?_) λc4=>?_) λc3=>?_
      ·exact aO ⟨G,.inl ⟨_,rfl,m6.done M.ea M.eb M.sa M.sb (.inl (by rw[bw.mp c4,zb];exact ak _))⟩⟩
      ·have c5:C+1+j<pb.size:=dU (by lia) λz=>c4 (bw.mpr (z.trans zb.symm));have aT:=b6 c5;have iT:LoI f lt pa pb (x+y+1) (o2.push (f (at' pb C))++b.extract (C+1) (C+1+j)) k4 (C+1+j):=⟨m6,⟨g1,c5⟩,aA g3 (bT (cc (C+1) j) k4)⟩
       generalize o2.push (f (at' pb C))++b.extract (C+1) (C+1+j)=o3 at iT⊢;generalize C+1+j=t at iT aT⊢;exact go o3 t ⟨iT,aT⟩
      ·cases dW c3;exact go _ _ ⟨⟨m5,⟨g1,g2⟩,g3⟩,b6 g2⟩
     rintro o3 j4 ⟨i6,a6⟩;exact M.mG hl i6 a6 (λm=>aO ⟨G,.inl ⟨_,rfl,m⟩⟩) λi7=>Zt (λ_=>aO ⟨G,.inr ⟨rfl,i7.le (by lia)⟩⟩) λ_=>aO ⟨G,rfl,i7.le (dM _)⟩
    ·rintro c _ ⟨_,J,t⟩;exact(zz t).elim
    ·rintro⟨c1,c⟩ a3 ⟨U,⟨r,J,hr⟩|⟨J,t⟩⟩
     ·cases(show c1=_ from J);exact aO ⟨U,r,rfl,hr⟩
     ·cases(show c1=_ from J);exact aJ (Ub λD B=>aO ⟨U.trans B,rfl,t⟩)
 ·rintro c O ⟨hs,e1,i1⟩;exact(zz i1).elim
 ·rintro⟨c1,c⟩ O ⟨hs,r,e1,hr⟩;cases(show c1=_ from e1);exact aO (q r O hs hr)
end
noncomputable def flp(lt:Nat->Nat->Bool)(x y:Nat):Bool:=lt y x
theorem Ord.flp{lt:Nat->Nat->Bool}(o:Ord lt):Ord (flp lt):=⟨λa b h=>o.asym b a h,λa b c g l=>o.tran c b a l g⟩
section
variable{f:Nat->Keyed}{lt:Nat->Nat->Bool}{pa pb:Array Nat}{out:Array Keyed}{na nb k:Nat}
theorem KW{l:List Nat}(h:l.Pairwise (Le lt)):l.reverse.Pairwise (Le (flp lt)):=by
 rw[List.pairwise_reverse];exact h
theorem NT{l:List Nat}(h:l.Pairwise (Le (flp lt))):l.reverse.Pairwise (Le lt):=by
 rw[List.pairwise_reverse];exact h
theorem Kv{p:Array Nat}(h:i<p.size):(p.toList.take (i+1)).reverse=at' p i::(p.toList.take i).reverse:=by
 rw[fQ];simp[at',h]
def MH(f:Nat->Keyed)(lt:Nat->Nat->Bool)(pa pb:Array Nat)(out:Array Keyed)(na nb:Nat):Prop:=∃ g:Array Nat,out=g.map f/\Mg (flp lt) g.toList (pa.toList.take na).reverse (pb.toList.take nb).reverse (pa.toList++pb.toList)
theorem MH.LG(o:Ord lt)(h:MH f lt pa pb out (na+1) nb)(t:pa.toList.Pairwise (Le lt))(B:pb.toList.Pairwise (Le lt))(r:na<pa.size)(hz:nb<=pb.size)(C:0<nb->Le lt (at' pb (nb-1)) (at' pa na)):MH f lt pa pb (out.push (f (at' pa na))) na nb:=by
 obtain⟨D,rfl,g⟩:=h;rw[Kv r]at g;refine⟨D.push (at' pa na),by simp,?_⟩;rw[eK];refine g.take o.flp (by rw[<-Kv r];exact KW t.take) (KW B.take) λz l e=>?_;cases nb with
 |zero=>cases e
 |succ nb=>
  rw[Kv (by lia)]at e;cases e;exact C (by lia)
theorem MH.L0(o:Ord lt)(h:MH f lt pa pb out na (nb+1))(t:pa.toList.Pairwise (Le lt))(B:pb.toList.Pairwise (Le lt))(r:nb<pb.size)(hz:na<=pa.size)(C:0<na->Le lt (at' pa (na-1)) (at' pb nb)):MH f lt pa pb (out.push (f (at' pb nb))) na nb:=by
 obtain⟨D,rfl,g⟩:=h;rw[Kv r]at g;refine⟨D.push (at' pb nb),by simp,?_⟩;rw[eK];refine(g.swap.take o.flp (by rw[<-Kv r];exact KW B.take) (KW t.take) λz l e=>?_).swap;cases na with
 |zero=>cases e
 |succ na=>
  rw[Kv (by lia)]at e;cases e;exact C (by lia)
theorem MH.iU(o:Ord lt)(h:MH f lt pa pb out na nb)(g:pa.toList.Pairwise (Le lt))(l:pb.toList.Pairwise (Le lt))(t:1<=na)(B:na<=pa.size)(hz:nb<=pb.size)(r:0<nb->Le lt (at' pb (nb-1)) (at' pa (na-1))):MH f lt pa pb (out.push (f (at' pa (na-1)))) (na-1) nb:=by
 obtain⟨z,rfl⟩:∃ z,na=z+1:=⟨na-1,by lia⟩
 exact h.LG o g l (by lia) hz r
theorem MH.iF(o:Ord lt)(h:MH f lt pa pb out na nb)(g:pa.toList.Pairwise (Le lt))(l:pb.toList.Pairwise (Le lt))(t:1<=nb)(B:nb<=pb.size)(hz:na<=pa.size)(r:0<na->Le lt (at' pa (na-1)) (at' pb (nb-1))):MH f lt pa pb (out.push (f (at' pb (nb-1)))) na (nb-1):=by
 obtain⟨z,rfl⟩:∃ z,nb=z+1:=⟨nb-1,by lia⟩
 exact h.L0 o g l (by lia) hz r
theorem R0{p:Array Nat}{a:Array Keyed}(e:a=p.map f){k:Nat}(h:i+k<p.size+1)(l:0<k)(out:Array Keyed):out++(a.extract i (i+k)).reverse=(out++(a.extract (i+1) (i+k)).reverse).push (f (at' p i)):=by
 subst e;apply cC.mp;simp only[Array.toList_append,Array.toList_push,Array.toList_extract,Array.toList_map,Array.toList_reverse,List.append_assoc,List.extract_eq_take_drop]
 congr 1
 rw[show i+k-i=(i+k-(i+1))+1 by lia,cN (show i<(List.map f p.toList).length by simp;lia),List.take_succ_cons,List.reverse_cons];have g:i<p.size:=by lia
 simp[at',g]
theorem HC{a:Array Keyed}(out:Array Keyed):out++(a.extract i i).reverse=out:=by
 apply cC.mp;simp[List.extract_eq_take_drop]
theorem MH.Nv(o:Ord lt){a:Array Keyed}(l:a=pa.map f)(t:pa.toList.Pairwise (Le lt))(z:pb.toList.Pairwise (Le lt))(hz:nb<=pb.size){r:Nat}(h:MH f lt pa pb out (r+k) nb):(∀i,r<=i->i<r+k->0<nb->Le lt (at' pb (nb-1)) (at' pa i))->r+k<=pa.size->MH f lt pa pb (out++(a.extract r (r+k)).reverse) r nb:=by
 induction k generalizing r with
 |zero=>intro _ _;rw[hV,HC];exact h
 |succ k B=>
  intro g C;rw[R0 l (by lia) (by lia)];refine MH.LG o ?_ t z (by lia) hz (g r (by lia) (by lia));have:=B (r:=r+1) (by rw[show r+1+k=r+(k+1) by lia];exact h) (λi D E=>g i (by lia) (by lia)) (by lia)
  rwa [show r+1+k=r+(k+1) by lia]at this
theorem MH.Pq(o:Ord lt){b:Array Keyed}(l:b=pb.map f)(t:pa.toList.Pairwise (Le lt))(z:pb.toList.Pairwise (Le lt))(hz:na<=pa.size){r:Nat}(h:MH f lt pa pb out na (r+k)):(∀i,r<=i->i<r+k->0<na->Le lt (at' pa (na-1)) (at' pb i))->r+k<=pb.size->MH f lt pa pb (out++(b.extract r (r+k)).reverse) na r:=by
 induction k generalizing r with
 |zero=>intro _ _;rw[hV,HC];exact h
 |succ k B=>
  intro g C;rw[R0 l (by lia) (by lia)];refine MH.L0 o ?_ t z (by lia) hz (g r (by lia) (by lia));have:=B (r:=r+1) (by rw[show r+1+k=r+(k+1) by lia];exact h) (λi D E=>g i (by lia) (by lia)) (by lia)
  rwa [show r+1+k=r+(k+1) by lia]at this
theorem MH.bA(o:Ord lt){a:Array Keyed}(g:a=pa.map f)(h:MH f lt pa pb out na nb)(l:pa.toList.Pairwise (Le lt))(t:pb.toList.Pairwise (Le lt))(hz:nb<=pb.size){r:Nat}(C:r<=na)(z:na<=pa.size)(B:∀ i,r<=i->i<na->0<nb->Le lt (at' pb (nb-1)) (at' pa i)):MH f lt pa pb (out++(a.extract r na).reverse) r nb:=by
 obtain⟨k,rfl⟩:∃ k,na=r+k:=⟨na-r,by lia⟩
 exact MH.Nv o g l t hz h B z
theorem MH.bB(o:Ord lt){b:Array Keyed}(g:b=pb.map f)(h:MH f lt pa pb out na nb)(l:pa.toList.Pairwise (Le lt))(t:pb.toList.Pairwise (Le lt))(hz:na<=pa.size){r:Nat}(C:r<=nb)(z:nb<=pb.size)(B:∀ i,r<=i->i<nb->0<na->Le lt (at' pa (na-1)) (at' pb i)):MH f lt pa pb (out++(b.extract r nb).reverse) na r:=by
 obtain⟨k,rfl⟩:∃ k,nb=r+k:=⟨nb-r,by lia⟩
 exact MH.Pq o g l t hz h B z
theorem Gg{p:Array Nat}{a:Array Keyed}(e:a=p.map f)(i:Nat):a.extract 0 i=(p.extract 0 i).map f/\(p.extract 0 i).toList=p.toList.take i:=by
 subst e;refine⟨by simp,?_⟩;rw[eW,df];simp
theorem MH.done{a b:Array Keyed}(r:a=pa.map f)(t:b=pb.map f)(h:MH f lt pa pb out na nb)(z:pa.toList.Pairwise (Le lt))(B:pb.toList.Pairwise (Le lt))(C:na=0\/nb=0):Mgd f lt pa pb (a.extract 0 na++b.extract 0 nb++out.reverse):=by
 obtain⟨l,rfl,g⟩:=h;obtain⟨D,E⟩:=Gg r na;obtain⟨G,I⟩:=Gg t nb;refine⟨pa.extract 0 na++pb.extract 0 nb++l.reverse,by rw[D,G,cR,cR,Array.map_reverse],?_⟩;rw[bS,bS,E,I,Array.toList_reverse]
 rcases C with rfl|rfl
 ·have k:=g.swap.fin (KW B.take);have e:List.take 0 pa.toList++List.take nb pb.toList++l.toList.reverse=(l.toList++(List.take nb pb.toList).reverse).reverse:=by simp
  rw[e];exact⟨(eM _).trans k.1,NT k.2⟩
 ·have k:=g.fin (KW z.take);have e:List.take na pa.toList++List.take 0 pb.toList++l.toList.reverse=(l.toList++(List.take na pa.toList).reverse).reverse:=by simp
  rw[e];exact⟨(eM _).trans k.1,NT k.2⟩
theorem MH.first{a b:Array Keyed}(t:a=pa.map f)(z:b=pb.map f)(h:MH f lt pa pb out na 1)(B:pa.toList.Pairwise (Le lt))(C:0<pb.size)(D:∀ y∈pa.toList,Le lt (at' pb 0) y):Mgd f lt pa pb (b.extract 0 1++a.extract 0 na++out.reverse):=by
 obtain⟨l,rfl,g⟩:=h;obtain⟨E,G⟩:=Gg t na;obtain⟨I,J⟩:=Gg z 1;refine⟨pb.extract 0 1++pa.extract 0 na++l.reverse,by rw[E,I,cR,cR,Array.map_reverse],?_⟩;rw[bS,bS,G,J,Array.toList_reverse];have r:(pb.toList.take 1).reverse=[at' pb 0]:=by rw[Kv C];simp
 rw[r]at g;have k:=g.swap.last (KW B.take) λy L=>D y (bM (List.mem_reverse.mp L));have e:List.take 1 pb.toList++List.take na pa.toList++l.toList.reverse=(l.toList++(List.take na pa.toList).reverse++[at' pb 0]).reverse:=by
  rw[<-r];simp
 rw[e];exact⟨(eM _).trans k.1,NT k.2⟩
end
section
variable{prog:Program}{E:Value->Shared->Prop}{κ:SortKind}{f:Nat->Keyed}{lt:Nat->Nat->Bool}{st:SortSt}{pa pb:Array Nat}
noncomputable def s0:Array Keyed->Array Keyed->StateT SortSt Sem (Array Keyed):=sortPriv%PySem.Builtin.mergeHi
variable{a b out:Array Keyed}{na nb z:Nat}{γ:Type}{X Y:Keyed->StateT SortSt Sem γ}{Q:γ->SortSt->Prop}
def HiI(f:Nat->Keyed)(lt:Nat->Nat->Bool)(pa pb:Array Nat)(z:Nat)(out:Array Keyed)(na nb:Nat):Prop:=MH f lt pa pb out na nb/\((1<=na/\na<=pa.size)/\2<=nb/\nb<=pb.size)/\z+(na+nb)<=pa.size+pb.size
theorem HiI.le{g:Nat}(h:HiI f lt pa pb z out na nb)(e:g<=z):HiI f lt pa pb g out na nb:=⟨h.1,h.2.1,aA (bX e _) h.2.2⟩
theorem HiI.no(h:HiI f lt pa pb z out na nb):z<pa.size+pb.size:=aP (Nat.lt_add_of_pos_right (aP h.2.1.1.1 (cc _ _))) h.2.2
theorem ps{x:Nat}(c:¬ (x==0)=true):1<=x:=Nat.pos_of_ne_zero λz=>c (bw.mpr z)
theorem Mc.iU(M:Mc prog w A s κ f lt n pa pb a b)(i:HiI f lt pa pb z out na nb)(t:Le lt (at' pb (nb-1)) (at' pa (na-1)))(B:Mgd f lt pa pb (a.extract 0 (na-1)++b.extract 0 nb++(out.push (f (at' pa (na-1)))).reverse)->wpS (model prog w) A E s (X (f (at' pa (na-1)))) Q st)
  (C:HiI f lt pa pb (z+1) (out.push (f (at' pa (na-1)))) (na-1) nb->wpS (model prog w) A E s (Y (f (at' pa (na-1)))) Q st):wpS (model prog w) A E s (elem' a (na-1) >>= λx=>if(na-1==0)=true then X x else Y x) Q st:=by
 obtain⟨m,⟨⟨l,h⟩,D,r⟩,g⟩:=i;have m:=m.iU M.o M.sa M.sb l h r λ_=>t;exact aJ (ZZ M.ea (bF l h) (Zt (λc=>B (m.done M.ea M.eb M.sa M.sb (.inl (bw.mp c)))) λc=>C ⟨m,⟨⟨ps c,aA (Nat.sub_le _ _) h⟩,D,r⟩,by omega⟩))
theorem Mc.iF(M:Mc prog w A s κ f lt n pa pb a b)(t:∀ y∈pa.toList,Le lt (at' pb 0) y)(i:HiI f lt pa pb z out na nb)(B:Le lt (at' pa (na-1)) (at' pb (nb-1)))(C:Mgd f lt pa pb (b.extract 0 (nb-1)++a.extract 0 na++(out.push (f (at' pb (nb-1)))).reverse)->wpS (model prog w) A E s (X (f (at' pb (nb-1)))) Q st)
  (D:HiI f lt pa pb (z+1) (out.push (f (at' pb (nb-1)))) na (nb-1)->wpS (model prog w) A E s (Y (f (at' pb (nb-1)))) Q st):wpS (model prog w) A E s (elem' b (nb-1) >>= λx=>if(nb-1==1)=true then X x else Y x) Q st:=by
 obtain⟨m,⟨⟨G,l⟩,r,h⟩,g⟩:=i;have m:=m.iF M.o M.sa M.sb (eN r) h l λ_=>B;refine aJ (ZZ M.eb (bF (eN r) h) (Zt (λc=>C ?_) λc=>D ⟨m,⟨⟨G,l⟩,?_,aA (Nat.sub_le _ _) h⟩,by lia⟩))
 ·rw[bw.mp c]at m⊢;exact m.first M.ea M.eb M.sa M.b1 t
 ·have c:¬ nb-1=1:=λz=>c (bw.mpr z);lia
set_option maxHeartbeats 4000000 in
theorem Dv(M:Mc prog w A s κ f lt n pa pb a b)(hk:kindOf st=κ)(hf:∀ y∈pa.toList,Le lt (at' pb 0) y)(hl:Le lt (at' pb (pb.size-1)) (at' pa (pa.size-1))){Q:Array Keyed->SortSt->Prop}(q:∀ r g,Sm st g->Mgd f lt pa pb r->Q r g):wpS (model prog w) A E s (s0 a b) Q st:=by
 have a1:=M.a1;have za:=M.za;have zb:=M.zb;have m0:MH f lt pa pb #[f (at' pa (a.size-1))] (a.size-1) b.size:=by
  rw[za,zb];exact MH.LG (out:=#[]) M.o ⟨#[],by simp,⟨by rw[Nat.sub_add_cancel a1,List.take_of_length_le (by simp),List.take_of_length_le (by simp)];exact(eM pa.toList).append (eM pb.toList),by simp,λx hx=>nomatch hx⟩⟩ M.sa M.sb (bF a1 (ak _)) (ak _) λ_=>hl
 have zz:∀{x:Nat}{o:Array Keyed}{i j:Nat},¬HiI f lt pa pb (x+max 0 (a.size+b.size)) o i j:=λh=>absurd (h.le (fC _ _)).no (by lia);have b1:=M.b1;refine aJ (wpS_lift (dS ⟨rfl,aJ (ZZ M.ea (by lia) (Zt (λc=>aO (q _ _ Sm.refl (m0.done M.ea M.eb M.sa M.sb (.inl (bw.mp c))))) λc=>Zt (λc2=>?_) λc2=>aJ (gD (aJ (c_ (bP (I:=λx c g=>Sm st g/\c.1=none/\HiI f lt pa pb (0+x) c.2.2.2.1 c.2.1 c.2.2.1) (Q:=λc g=>Sm st g/\∃r,c.1=some r/\Mgd f lt pa pb r) ?_ ?_ ⟨Sm.refl,rfl,m0,⟨⟨ps c,?_⟩,?_⟩,?_⟩) ?_)))))⟩))
 ·have c:=bw.mp c2;rw[c]at m0;exact aO (q _ _ Sm.refl (c.symm▸m0.first M.ea M.eb M.sa b1 hf))
 ·rintro x c G _ hx ⟨hs,e1,i1⟩
  refine aJ (c_ (bP (I:=λy c g=>G=g/\c.1=none/\HiI f lt pa pb (x+y) c.2.2.2.1 c.2.1 c.2.2.1)
   (Q:=λc g=>G=g/\((∃r,c.1=some r/\Mgd f lt pa pb r)\/(c.1=none/\HiI f lt pa pb x c.2.2.2.1 c.2.1 c.2.2.1))) ?_ ?_ ⟨rfl,rfl,i1.le (by lia)⟩) ?_)
  ·rintro y c _ _ hy ⟨rfl,D,l⟩;have l1:=bF l.2.1.1.1 l.2.1.1.2;have l2:=bF (eN l.2.1.2.1) l.2.1.2.2;refine aJ (ZZ M.eb l2 (aJ (ZZ M.ea l1 (aJ (Cv M.h (hs.kd.trans hk) (M.bn _ l2) (M.an _ l1) (Zt (λhw=>M.iU l (M.o.asym _ _ hw) (λm=>aO ⟨rfl,.inl ⟨_,rfl,m⟩⟩) λi3=>?_) λhw=>M.iF hf l (Le.not hw) (λm=>aO ⟨rfl,.inl ⟨_,rfl,m⟩⟩) λi3=>?_))))))
   all_goals exact Zt (λ_=>aO ⟨rfl,.inr ⟨rfl,i3.le (cc x (y+1))⟩⟩) λ_=>aO ⟨rfl,rfl,i3⟩
  ·rintro c _ ⟨rfl,D,l⟩;exact(zz l).elim
  ·rintro⟨c1,c⟩ _ ⟨rfl,⟨r,D,hr⟩|⟨D,l⟩⟩
   ·cases(show c1=_ from D);exact aO ⟨hs,r,rfl,hr⟩
   ·cases(show c1=_ from D)
    refine aJ (wpS_lift (dS ⟨rfl,aJ (c_ (bP (I:=λy c g=>Sm st g/\c.1=none/\HiI f lt pa pb (x+y) c.2.2.2.1 c.2.1 c.2.2.1)
     (Q:=λc g=>Sm st g/\((∃r,c.1=some r/\Mgd f lt pa pb r)\/(c.1=none/\HiI f lt pa pb (0+(x+1)) c.2.2.2.1 c.2.1 c.2.2.1))) ?_ ?_ ⟨hs,rfl,l⟩) ?_)⟩))
    ·rintro y ⟨_,ka,kb,out,a4,ac,bc⟩ a5 _ hy ⟨J,D,m2,⟨⟨a2,L⟩,b3,O⟩,g5⟩;dsimp only at m2 a2 L O b3 g5⊢;clear l hs D i1 e1;apply EL (st:=a5)
     ·intro go;refine Zt (λ_=>aJ (Ub λB t=>?_)) λ_=>aJ (Ub λB t=>?_)
      ·generalize a4-1=m;exact go m B t
      ·exact go a4 B t
     intro a8 B t;have a7:=t.kd.trans (J.kd.trans hk);have C:=J.trans t;have l2:=bF (eN b3) O;refine aJ (ZZ M.eb l2 (aJ (Jl M.h a7 M.ea (M.bn _ l2) M.an (by lia) (by lia) (pU M.o M.sa (by lia)) λk k1 k2 k3=>?_)));have m4:=m2.bA (r:=k) M.o M.ea M.sa M.sb O k1 L λi h1 h2 _=>cx i▸RG M.o (k3 i h1 h2);have a0:=λz:1<=k=>Ol (k2 (k-1) (bF z (ak _)));rw[cx]at a0;apply Kg (st:=B) (λo i=>HiI f lt pa pb (x+y) o i kb/\Le lt (at' pa (i-1)) (at' pb (kb-1)))
     ·intro go;refine Zt (λc3=>Zt (λU=>?_) λU=>?_) λc3=>?_
      ·exact aO ⟨C,.inl ⟨_,rfl,m4.done M.ea M.eb M.sa M.sb (.inl (bw.mp U))⟩⟩
      ·have iT:HiI f lt pa pb (x+y) (out++(a.extract k ka).reverse) k kb:=⟨m4,⟨⟨ps U,aA k1 L⟩,b3,O⟩,aA (bT (bX k1 _) _) g5⟩
       have aT:=a0 (ps U);generalize out++(a.extract k ka).reverse=o2 at iT⊢;generalize k=l at iT aT⊢;exact go o2 l ⟨iT,aT⟩
      ·have kz:k=ka:=Nat.le_antisymm k1 (Nat.le_of_sub_eq_zero (dW c3));subst kz;exact go out k ⟨⟨m2,⟨⟨a2,L⟩,b3,O⟩,g5⟩,a0 a2⟩
     clear m2 a2 L O b3 g5 k1 k2 k3 m4 a0 l2;rintro o2 k4 ⟨iT,aT⟩;refine M.iF hf iT aT (λm=>aO ⟨C,.inl ⟨_,rfl,m⟩⟩) λ⟨m5,⟨⟨a2,L⟩,b3,O⟩,g5⟩=>aJ (ZZ M.ea (bF a2 L) (aJ (Jl M.h a7 M.eb (M.an _ (bF a2 L)) M.bn (by lia) (by lia) (lM M.o M.sb (by lia)) λj j1 j2 j3=>?_)));have m6:=m5.bB (r:=j) M.o M.eb M.sa M.sb L j1 O λi h1 h2 _=>cx i▸By (j3 i h1 h2);have b6:=λz:1<=j=>jD M.o (j2 (j-1) (bF z (ak _)));rw[cx]at b6;apply Kg (st:=B) (λo i=>HiI f lt pa pb (x+y+1) o k4 i/\Le lt (at' pb (i-1)) (at' pa (k4-1)))
     ·intro go;refine Zt (λc3=>Zt (λU=>?_) λU=>Zt (λc5=>?_) λc5=>?_) λc3=>?_
      ·cases bw.mp U;exact aO ⟨C,.inl ⟨_,rfl,m6.first M.ea M.eb M.sa b1 hf⟩⟩
      ·exact aO ⟨C,.inl ⟨_,rfl,m6.done M.ea M.eb M.sa M.sb (.inr (bw.mp c5))⟩⟩
      ·have U:¬ j=1:=λz=>U (bw.mpr z);have iT:HiI f lt pa pb (x+y+1) (o2.push (f (at' pb (kb-1)))++(b.extract j (kb-1)).reverse) k4 j:=⟨m6,⟨⟨a2,L⟩,dU (ps c5) (be U),aA j1 O⟩,aA (bT (bT j1 _) _) g5⟩
       have aT:=b6 (ps c5);generalize o2.push (f (at' pb (kb-1)))++(b.extract j (kb-1)).reverse=o3 at iT⊢;generalize j=l at iT aT⊢;exact go o3 l ⟨iT,aT⟩
      ·have kz:j=kb-1:=Nat.le_antisymm j1 (Nat.le_of_sub_eq_zero (dW c3));subst kz;exact go _ _ ⟨⟨m5,⟨⟨a2,L⟩,b3,O⟩,g5⟩,b6 (eN b3)⟩
     rintro o3 j4 ⟨i6,a6⟩;exact M.iU i6 a6 (λm=>aO ⟨C,.inl ⟨_,rfl,m⟩⟩) λi7=>Zt (λ_=>aO ⟨C,.inr ⟨rfl,i7.le (by lia)⟩⟩) λ_=>aO ⟨C,rfl,i7.le (dM _)⟩
    ·rintro c _ ⟨_,D,l⟩;exact(zz l).elim
    ·rintro⟨c1,c⟩ a5 ⟨J,⟨r,D,hr⟩|⟨D,l⟩⟩
     ·cases(show c1=_ from D);exact aO ⟨J,r,rfl,hr⟩
     ·cases(show c1=_ from D);exact aJ (Ub λB t=>aO ⟨J.trans t,rfl,l⟩)
 ·rintro c G ⟨hs,e1,i1⟩;exact(zz i1).elim
 ·show a.size-1<=pa.size;lia
 ·have c2:¬ b.size=1:=λz=>c2 (bw.mpr z);show 2<=b.size/\b.size<=pb.size;lia
 ·show 0+0+(a.size-1+b.size)<=_;lia
 ·rintro⟨c1,c⟩ G ⟨hs,r,e1,hr⟩;cases(show c1=_ from e1);exact aO (q r G hs hr)
end
section
variable{lt:Nat->Nat->Bool}{p:Array Nat}{lo:Nat}
def Sg(lt:Nat->Nat->Bool)(p:Array Nat)(lo m:Nat):Prop:=∀ i j,i<=j->j<m->Le lt (at' p (lo+i)) (at' p (lo+j))
abbrev Dg(lt:Nat->Nat->Bool)(p:Array Nat)(lo m:Nat):Prop:=Sg (flp lt) p lo m
def Bk(lt:Nat->Nat->Bool)(p:Array Nat)(lo a b:Nat):Prop:=∀ i j,a<=i->i<b->a<=j->j<b->Le lt (at' p (lo+i)) (at' p (lo+j))
theorem Sg.one(o:Ord lt):Sg lt p lo 1:=λi j g h=>by
 rw[show i=j by lia];exact o.refl _
theorem Sg.snoc(o:Ord lt)(h:Sg lt p lo m)(t:1<=m)(l:Le lt (at' p (lo+m-1)) (at' p (lo+m))):Sg lt p lo (m+1):=λi j g z=>by
 by_cases e:j=m
 ·subst e
  by_cases r:i=j
  ·rw[r];exact o.refl _
  ·have:=h i (j-1) (by lia) (by lia);rw[show lo+(j-1)=lo+j-1 by lia]at this;exact o.tran _ _ _ this l
 ·exact h i j g (by lia)
theorem Sg.congr{l:Array Nat}(h:Sg lt p lo m)(e:∀ k,k<m->at' l (lo+k)=at' p (lo+k)):Sg lt l lo m:=λi j g r=>by
 rw[e i (by lia),e j r];exact h i j g r
theorem Sg.rev(h:Sg lt p lo m)(hz:lo+m<=p.size):Sg (flp lt) (kas_rev p lo (lo+m)) lo m:=λi j g l=>by
 rw[WQ hz,WQ hz,aw (by lia),aw (by lia)];have:=h (m-1-j) (m-1-i) (by lia) (by lia)
 rwa [show lo+(m-1-i)=lo+(lo+m)-1-(lo+i) by lia,show lo+(m-1-j)=lo+(lo+m)-1-(lo+j) by lia]at this
theorem Dg.blk{a b:Nat}(h:Dg lt p lo m)(z:Bk lt p lo a b)(L:b<=m)(B:a<=b)(hz:lo+m<=p.size):Dg lt (kas_rev p (lo+a) (lo+b)) lo m:=λi j C D=>by
 have g:∀ k,k<m->∃ l,at' (kas_rev p (lo+a) (lo+b)) (lo+k)=at' p (lo+l)/\l<m/\((a<=k/\k<b/\a<=l/\l<b)\/(l=k/\¬(a<=k/\k<b))):=λk E=>by
  rw[WQ (by lia)]
  by_cases c:a<=k/\k<b
  ·rw[aw (by lia)];exact⟨a+b-1-k,by rw[show lo+a+(lo+b)-1-(lo+k)=lo+(a+b-1-k) by lia],by lia,.inl (by lia)⟩
  ·rw[ao (by lia)];exact⟨k,rfl,E,.inr ⟨rfl,c⟩⟩
 obtain⟨r,G,O,U⟩:=g i (by lia);obtain⟨t,I,J,Y⟩:=g j D;rw[G,I]
 by_cases c:r<=t
 ·exact h r t c J
 ·exact z t r (by lia) (by lia) (by lia) (by lia)
def Out(p h:Array Nat)(lo g:Nat):Prop:=∀ k,(k<lo\/lo+g<=k)->at' h k=at' p k
theorem Out.refl{g:Nat}:Out p p lo g:=λ_ _=>rfl
theorem Out.rev{l:Array Nat}{g a b:Nat}(h:Out p l lo g)(t:lo<=a)(z:b<=lo+g)(hz:b<=l.size):Out p (kas_rev l a b) lo g:=λk r=>by
 rw[WQ hz,ao (by lia)];exact h k r
end
section
variable{prog:Program}{E:Value->Shared->Prop}{κ:SortKind}{f:Nat->Keyed}{lt:Nat->Nat->Bool}{p:Array Nat}{pd:Array (Nat×Nat×Nat)}{g lo nrem:Nat}
noncomputable abbrev SS(κ:SortKind)(f:Nat->Keyed)(p:Array Nat)(pd:Array (Nat×Nat×Nat))(g:Nat):SortSt:=SortSt.mk' κ (p.map f) pd g none
theorem W8(h:Ans prog w A s κ f lt n)(l:Pm n p)(r:i<n)(t:j<n){Q:Option Bool->SortSt->Prop}(q:Q (some (lt (at' p i) (at' p j))) (SS κ f p pd g)):wpS (model prog w) A E s (ltAt' i j) Q (SS κ f p pd g):=by
 rw[ltAt'_eq];have z:=l.size;refine aJ (gD ?_);exact aJ (ZZ (p:=p) rfl (by lia) (aJ (ZZ (p:=p) rfl (by lia) (Cv h rfl (l.below r) (l.below t) q))))
theorem Uz{Q:Unit->SortSt->Prop}(q:Q () (SS κ f (kas_rev p i j) pd g)):wpS (model prog w) A E s (reverseSlice' i j) Q (SS κ f p pd g):=by
 rw[reverseSlice'_eq];refine f_ ?_;have h:mirror (p.map f) i j ((j-i)/2)=(mirror p i j ((j-i)/2)).map f:=kas_swaps_map f (λk=>i+k) (λk=>j-1-k) _ p;show Q () (SortSt.mk' κ (mirror (p.map f) i j ((j-i)/2)) pd g none);rw[h];exact q
theorem tP{k l:Nat}{Q:Unit->SortSt->Prop}(q:Q () (SS κ f (bubble p k (k-l)) pd g)):wpS (model prog w) A E s (moveDown' k l) Q (SS κ f p pd g):=by
 rw[moveDown'_eq];refine f_ ?_;have h:bubble (p.map f) k (k-l)=(bubble p k (k-l)).map f:=kas_swaps_map f (λi=>k-i) (λi=>k-i-1) _ p;show Q () (SortSt.mk' κ (bubble (p.map f) k (k-l)) pd g none);rw[h];exact q
theorem E2{t:Type}{X:StateT SortSt Sem t}{Q:t->SortSt->Prop}(R:Array Nat->Prop){l:Prop}(k:(∀r,R r->wpS (model prog w) A E s X Q (SS κ f r pd g))->l)(h:∀ r,R r->wpS (model prog w) A E s X Q (SS κ f r pd g)):l:=k h
def CI(lt:Nat->Nat->Bool)(n:Nat)(p:Array Nat)(lo nrem:Nat)(h:Array Nat)(x k:Nat):Prop:=Pm n h/\Out p h lo nrem/\(k+1<=x/\x<=nrem)/\Dg lt h lo x/\Bk lt h lo (x-(k+1)) x
theorem bk1(o:Ord lt){x:Nat}:Bk lt p lo (x-(0+1)) x:=λi j _ _ _ _=>by
 rw[show i=j by lia];exact o.refl _
variable{p2:Array Nat}{x k:Nat}
theorem CI.flat(o:Ord lt)(hz:lo+nrem<=n)(r:x<=m)(t:m<=nrem)(d:Dg lt p2 lo m)(h:CI lt n p lo nrem p2 x k):CI lt n p lo nrem (kas_rev p2 (lo+x-(k+1)) (lo+x)) m 0:=by
 obtain⟨l,z,⟨D,B⟩,G,C⟩:=h;have I:=l.size;have e:lo+(x-(k+1))=lo+x-(k+1):=by lia
 exact⟨l.rev _ _,z.rev (by lia) (bT B _) (by lia),⟨by lia,t⟩,e▸Dg.blk d C r (Nat.sub_le _ _) (by lia),bk1 o⟩
theorem CI.down(o:Ord lt)(h:CI lt n p lo nrem p2 x k)(l:x<nrem)(c:lt (at' p2 (lo+x)) (at' p2 (lo+x-1))=true):CI lt n p lo nrem p2 (x+1) 0:=
 ⟨h.1,h.2.1,⟨dJ (br _),l⟩,Sg.snoc o.flp h.2.2.2.1 (aA (fC _ _) h.2.2.1.1) (o.asym _ _ c),bk1 o⟩
theorem CI.same(o:Ord lt)(h:CI lt n p lo nrem p2 x k)(l:x<nrem)(c:¬ lt (at' p2 (lo+x)) (at' p2 (lo+x-1))=true)(G:¬ lt (at' p2 (lo+x-1)) (at' p2 (lo+x))=true):CI lt n p lo nrem p2 (x+1) (k+1):=by
 obtain⟨O,U,⟨I,e4⟩,Y,r⟩:=h;refine⟨O,U,⟨dJ I,l⟩,Sg.snoc o.flp Y (aA (fC _ _) I) (Le.not G),λi j t a2 z a4=>?_⟩;rw[Nat.add_sub_add_right]at t z;have e:lo+x-1=lo+(x-1):=by lia
 have B:=e▸Le.not c;have C:=e▸Le.not G;have J:x-(k+1)<=x-1:=by lia
 have L:x-1<x:=by lia
 by_cases ci:i=x
 ·subst ci
  by_cases D:j=i
  ·rw[D];exact o.refl _
  ·exact o.tran _ _ _ C (r _ j J L z (by lia))
 ·by_cases D:j=x
  ·subst D;exact o.tran _ _ _ (r i _ t (by lia) J L) B
  ·exact r i j t (by lia) z (by lia)
theorem mD(h:Ans prog w A s κ f lt n)(o:Ord lt)(L:Pm n p)(C:1<=m)(D:m<=nrem)(hz:lo+nrem<=n)(G:Sg lt p lo m){F:Nat->Option (Option Nat)×Nat->StateT SortSt Sem (ForInStep (Option (Option Nat)×Nat))}{Q:Option (Option Nat)×Nat->SortSt->Prop}
  (J:∀ x,x<nrem->∀{R:ForInStep (Option (Option Nat)×Nat)->SortSt->Prop},(lt (at' p (lo+x)) (at' p (lo+x-1))=true->R (.done (none,x)) (SS κ f p pd g))->(¬lt (at' p (lo+x)) (at' p (lo+x-1))=true->R (.yield (none,x+1)) (SS κ f p pd g))->wpS (model prog w) A E s (F x (none,x)) R (SS κ f p pd g))
  (q:∀ m,1<=m->m<=nrem->Sg lt p lo m->(m=nrem\/lt (at' p (lo+m)) (at' p (lo+m-1))=true)->Q (none,m) (SS κ f p pd g)):wpS (model prog w) A E s (forIn [m:nrem] (none,m) F) Q (SS κ f p pd g):=by
 refine bP (I:=λx c z=>SS κ f p pd g=z/\c=(none,x)/\1<=x/\x<=nrem/\Sg lt p lo x) ?_ ?_ ⟨rfl,rfl,C,D,G⟩
 ·rintro x _ _ _ B ⟨rfl,rfl,l,r,t⟩;exact J x B (λc=>q x l r t (.inr c)) λc=>⟨rfl,rfl,eO l,B,t.snoc o l (Le.not c)⟩
 ·rintro _ _ ⟨rfl,rfl,l,r,t⟩;exact q _ l r t (.inl (Nat.le_antisymm r (Nat.le_max_right _ _)))
set_option maxHeartbeats 4000000 in
theorem R3(h:Ans prog w A s κ f lt n)(o:Ord lt)(t:Pm n p)(h1:1<=nrem)(hz:lo+nrem<=n){Q:Option Nat->SortSt->Prop}
  (q:∀ m B,1<=m->m<=nrem->Pm n B->Out p B lo nrem->Sg lt B lo m->Q (some m) (SS κ f B pd g)):wpS (model prog w) A E s (countRun' lo nrem) Q (SS κ f p pd g):=by
 have G:∀{x},x<nrem->lo+x<n:=λh=>aP (gw h _) hz;have J:∀{x},x<nrem->lo+x-1<n:=λh=>gG (Nat.sub_le _ _) (G h);refine aJ (mD h o t (ak 1) h1 hz (Sg.one o) (λx l _ r1 r2=>aJ (W8 h t (G l) (J l) (Zt (λc=>aO (r1 c)) λc=>aO (r2 c)))) λm m1 O m3 m4=>Zt (λc=>aO (q m p m1 O t Out.refl m3)) λc=>?_);have c:¬ m=nrem:=λz=>c (bw.mpr z);have U:lt (at' p (lo+m)) (at' p (lo+m-1))=true:=m4.resolve_left c;have m6:m<nrem:=dU O c;have z1:=t.size;clear m4;apply E2 (pd:=pd) (g:=g) λB=>CI lt n p lo nrem B (m+1) 0
 ·intro L;refine Zt (λC=>aJ (W8 h t (by lia) (J m6) (Zt (λc3=>aO (q m p m1 O t Out.refl m3)) λc3=>aJ (Uz (L _ ?_))))) λC=>L _ ?_
  ·refine⟨t.rev _ _,Out.refl.rev (ak _) (bT O _) (by lia),⟨dJ (br _),m6⟩,Sg.snoc o.flp (m3.rev (by lia)) m1 ?_,bk1 o⟩;show Le lt _ _;rw[WQ (by lia),WQ (by lia),ao (by lia),aw (by lia),show lo+(lo+m)-1-(lo+m-1)=lo by lia];exact o.tran _ _ _ (o.asym _ _ U) (Le.not c3)
  ·cases(show m=1 by lia);exact CI.down o (k:=0) ⟨t,Out.refl,⟨ak _,h1⟩,Sg.one o.flp,bk1 o⟩ m6 U
 intro p1 i1;refine aJ (wpS_lift (dS ⟨rfl,aJ (c_ (bP (I:=λx c D=>∃ p2 k,SS κ f p2 pd g=D/\c=(none,x,k)/\CI lt n p lo nrem p2 x k) (Q:=λc D=>∃ p2 x k,SS κ f p2 pd g=D/\c=(none,x,k)/\CI lt n p lo nrem p2 x k) ?_ ?_ ⟨p1,0,rfl,rfl,i1⟩) ?_)⟩))
 ·rintro x _ _ _ l ⟨p2,k,rfl,rfl,r⟩;refine aJ (W8 h r.1 (G l) (J l) (Zt (λc=>?_) λc=>aJ (W8 h r.1 (J l) (G l) (Zt (λC=>aO ⟨p2,x,k,rfl,rfl,r⟩) λC=>aO ⟨p2,k+1,rfl,rfl,r.same o l c C⟩))));have i3:=r.down o l c;exact Zt (λC=>aJ (Uz (aO ⟨_,0,rfl,rfl,r.flat o hz (dM _) l i3.2.2.2.1⟩))) λC=>aO ⟨p2,0,rfl,rfl,i3⟩
 ·rintro _ _ ⟨p2,k,rfl,rfl,r⟩;exact⟨p2,_,k,rfl,rfl,r⟩
 ·rintro _ _ ⟨p2,U,k,rfl,rfl,r⟩;apply E2 (pd:=pd) (g:=g) λB=>∃ k,CI lt n p lo nrem B U k
  ·intro L;exact Zt (λC=>aJ (Uz (L _ ⟨_,r.flat o hz (ak _) r.2.2.1.2 r.2.2.2.1⟩))) λC=>L _ ⟨_,r⟩
  rintro p3 ⟨k3,Y,e2,⟨e3,e4⟩,e5,e6⟩;have z2:=Y.size;have n1:=aA (fC _ _) e3;exact aJ (Uz (aJ (mD h o (Y.rev _ _) n1 e4 hz (e5.rev (by lia)) (λx l _ r1 r2=>aJ (W8 h (Y.rev _ _) (G l) (J l) (Zt (λc=>aO (r1 c)) λc=>aO (r2 c)))) λmm n1 n2 n3 _=>aO (q mm _ n1 n2 (Y.rev _ _) (e2.rev (ak _) (bT e4 _) (by lia)) n3))))
end
section
variable{prog:Program}{E:Value->Shared->Prop}{κ:SortKind}{f:Nat->Keyed}{lt:Nat->Nat->Bool}{p:Array Nat}{pd:Array (Nat×Nat×Nat)}{g lo nrem:Nat}
set_option maxHeartbeats 4000000 in
theorem LN(h:Ans prog w A s κ f lt n)(o:Ord lt)(hp:Pm n p){G:Nat}(h1:1<=G)(h2:G<=nrem)(hz:lo+nrem<=n)(hs:Sg lt p lo G){Q:Bool->SortSt->Prop}
  (q:∀ p',Pm n p'->Out p p' lo nrem->Sg lt p' lo nrem->Q true (SS κ f p' pd g)):wpS (model prog w) A E s (binarySort' lo nrem G) Q (SS κ f p pd g):=by
 refine aJ (c_ (bP (I:=λx c B=>∃ t,SS κ f t pd g=B/\c.1=none/\Pm n t/\Out p t lo nrem/\(1<=x/\x<=nrem)/\Sg lt t lo x)
  (Q:=λc B=>∃ t,SS κ f t pd g=B/\c.1=none/\Pm n t/\Out p t lo nrem/\Sg lt t lo nrem) ?_ ?_ ⟨p,rfl,rfl,hp,Out.refl,⟨by lia,by lia⟩,by rw[show max G 1=G by lia];exact hs⟩) ?_)
 ·rintro k ⟨c1,D⟩ _ k0 hk ⟨t,rfl,O,J,e2,⟨e3,e4⟩,C⟩;have L:=J.size;dsimp only at O⊢
  refine aJ (c_ (bP (I:=λx c B=>SS κ f t pd g=B/\∃l r,c=(none,l,r)/\l<=r/\r<=k/\r-l+x<=k/\(∀i,i<l->Le lt (at' t (lo+i)) (at' t (lo+k)))/\(∀i,r<=i->i<k->Le lt (at' t (lo+k)) (at' t (lo+i))))
   (Q:=λc B=>SS κ f t pd g=B/\∃l r,c=(none,l,r)/\l<=k/\(∀i,i<l->Le lt (at' t (lo+i)) (at' t (lo+k)))/\(∀i,l<=i->i<k->Le lt (at' t (lo+k)) (at' t (lo+i)))) ?_ ?_ ⟨rfl,0,k,rfl,by lia,by lia,by lia,λi z=>absurd z (by lia),λi U L=>absurd U (by lia)⟩) ?_)
  ·rintro x c _ _ hx ⟨rfl,l,r,rfl,g1,g2,g3,Y,g5⟩;dsimp only;refine Zt (λc=>aO ⟨rfl,l,r,rfl,by lia,Y,λi U L=>g5 i (by lia) L⟩) λc=>aJ (W8 h J (by lia) (by lia) ?_);dsimp only;refine Zt (λD=>aO ⟨rfl,_,_,rfl,by lia,by lia,by lia,Y,λi U L=>?_⟩) λD=>aO ⟨rfl,_,_,rfl,by lia,by lia,by lia,λi U=>?_,g5⟩
   ·exact o.tran _ _ _ (o.asym _ _ D) (C _ _ U L)
   ·exact o.tran _ _ _ (C _ _ (show i<=(l+r)/2 by lia) (by lia)) (show Le lt _ _ by simpa[Le]using D)
  ·rintro c _ ⟨rfl,l,r,rfl,g1,g2,g3,Y,g5⟩;exact⟨rfl,l,r,rfl,by lia,Y,λi U L=>g5 i (by lia) L⟩
  ·rintro c _ ⟨rfl,l,r,rfl,g1,Y,g5⟩;dsimp only;refine aJ (tP (aO ⟨_,rfl,rfl,J.bub _ _,λu hu=>?_,⟨by lia,by lia⟩,λi j a0 hj=>?_⟩))
   ·rw[Sf (by lia) (by lia),ao (by lia),ao (by lia)];exact e2 u hu
   ·rw[Sf (by lia) (by lia),Sf (by lia) (by lia)]
    by_cases c1:i=l
    ·rw[aw (by lia)]
     by_cases D:j=l
     ·rw[aw (by lia)];exact o.refl _
     ·rw[ao (by lia),aw (by lia),show lo+j-1=lo+(j-1) by lia];exact g5 _ (by lia) (by lia)
    ·rw[ao (by lia)]
     by_cases c3:l<i
     ·rw[aw (by lia),ao (by lia),aw (by lia),show lo+i-1=lo+(i-1) by lia,show lo+j-1=lo+(j-1) by lia];exact C _ _ (by lia) (by lia)
     ·rw[ao (by lia)]
      by_cases D:j=l
      ·rw[aw (by lia)];exact Y _ (by lia)
      ·rw[ao (by lia)]
       by_cases c4:l<j
       ·rw[aw (by lia),show lo+j-1=lo+(j-1) by lia];exact C _ _ (by lia) (by lia)
       ·rw[ao (by lia)];exact C _ _ (by lia) (by lia)
 ·rintro⟨c1,D⟩ _ ⟨t,rfl,O,J,e2,⟨e3,e4⟩,C⟩;rw[show max (max G 1) nrem=nrem by lia]at C;exact⟨t,rfl,O,J,e2,C⟩
 ·rintro⟨c1,D⟩ _ ⟨t,rfl,O,J,e2,C⟩;dsimp only at O⊢;subst O;exact aO (q t J e2 C)
end
theorem Hy{l:Type}(b:Nat):∀(L:List l)(k:Nat)(g:Array l),b+k+L.length<=g.size->((L.zipIdx k).foldl (λa x=>a.setIfInBounds (b+x.2) x.1) g).toList=g.toList.take (b+k)++L++g.toList.drop (b+k+L.length)
 |[],k,g,_=>by simp
 | x::L,k,g,h=>by
  have h:b+k+(L.length+1)<=g.size:=h;rw[List.zipIdx_cons,bg,Hy b L (k+1) _ (by simp;lia)];dsimp only;rw[Array.toList_setIfInBounds,List.take_set,List.drop_set_of_lt (by lia),show b+(k+1)=b+k+1 by lia,a_,show b+k+1+L.length=b+k+(L.length+1) by lia];have e:(g.toList.take (b+k+1)).set (b+k) x=g.toList.take (b+k)++[x]:=by
   rw[fQ,aM (by simp;lia),gH];rw[List.set_append_right _ _ (by simp;lia)];simp[show min (b+k) g.size=b+k by lia]
  rw[e];simp
section
variable{lt:Nat->Nat->Bool}{p q:Array Nat}{a b:Nat}
theorem Vd(g:b<=p.size)(h:a+i<b):at' (p.extract a b) i=at' p (a+i):=by
 have l:a+i<p.size:=by lia
 show(p.extract a b).getD i 0=p.getD (a+i) 0;rw[Array.getD_eq_getD_getElem?,Array.getD_eq_getD_getElem?,Array.getElem?_extract,aw (by lia)]
theorem kS(o:Ord lt){lo:Nat}(h:Sg lt p lo m)(hz:lo+m<=p.size)(B:lo<=a)(C:b<=lo+m):(p.extract a b).toList.Pairwise (Le lt):=by
 rw[ce];intro i j g l t;have g:i<min (b-a) (p.size-a):=by simpa using g
 have l:j<min (b-a) (p.size-a):=by simpa using l
 have e:∀ k (r:k<min (b-a) (p.size-a)),(p.extract a b).toList[k]'(by simpa using r)=at' p (lo+(a-lo+k)):=λk r=>by
  have z:a+k<p.size:=by lia
  rw[show lo+(a-lo+k)=a+k by lia];simp[at',z]
 rw[e i g,e j l];exact h _ _ (by lia) (by lia)
noncomputable def hX(p q:Array Nat)(a:Nat):Array Nat:=(p.toList.take a++q.toList++p.toList.drop (a+q.size)).toArray
theorem Kw(h:a+q.size<=p.size)(x:Nat):at' (hX p q a) x=if x<a then at' p x else if x<a+q.size then at' q (x-a)else at' p x:=by
 have B:(p.toList.take a).length=a:=by simp;lia
 unfold hX;have e:∀(l:List Nat),at' l.toArray x=(l[x]?).getD 0:=λl=>by simp[at']
 have t:∀(r:Array Nat)(y:Nat),at' r y=(r.toList[y]?).getD 0:=λr y=>by simp[at']
 rw[e,t p,t q,bt]
 by_cases g:x<a
 ·rw[aw g,bE (by lia),List.getElem?_take,aw g]
 ·rw[ao g,bx (by lia),B]
  by_cases z:x<a+q.size
  ·rw[aw z,bE (by simp;lia)]
  ·rw[ao z,bx (by simp;lia),List.getElem?_drop,aS,show a+q.size+(x-a-q.size)=x by lia]
theorem NU(z:a<=m)(B:m<=b)(hz:b<=p.size)(g:q.toList.Perm ((p.extract a m).toList++(p.extract m b).toList))(h:Pm n p):Pm n (hX p q a):=by
 have l:q.size=b-a:=by
  have:=g.length_eq;simp at this;lia
 refine Array.Perm.trans ?_ h;rw[Array.perm_iff_toList_perm];unfold hX;have r:(p.extract a m).toList++(p.extract m b).toList=(p.toList.drop a).take (b-a):=by
  rw[eW,eW,df,df,show b-a=(m-a)+(b-m) by lia,List.take_add,List.drop_drop,show a+(m-a)=m by lia]
 have t:p.toList=p.toList.take a++((p.toList.drop a).take (b-a)++p.toList.drop (a+(b-a))):=by
  rw[<-List.drop_drop,eG,eG]
 rw[l]
 conv=>rhs;rw[t]
 rw[bt];rw[r]at g;exact fV _ (List.Perm.append_right _ g)
end
section
variable{lt:Nat->Nat->Bool}{p:Array Nat}
def Runs(lt:Nat->Nat->Bool)(p:Array Nat):List (Nat×Nat×Nat)->Nat->Nat->Prop
 |[],a,b=>a=b
 |x::r,a,b=>x.1=a/\1<=x.2.1/\Sg lt p a x.2.1/\Runs lt p r (a+x.2.1) b
theorem Runs.app:∀{l r:List (Nat×Nat×Nat)}{a c:Nat},Runs lt p (l++r) a c↔ ∃b,Runs lt p l a b/\Runs lt p r b c
 |[],r,a,c=>⟨λh=>⟨a,rfl,h⟩,λC=>by obtain⟨b,g,t⟩:=C;cases g;exact t⟩
 |x::l,r,a,c=>by
  constructor
  ·rintro⟨g,t,z,B⟩;obtain⟨b,D,E⟩:=Runs.app.mp B;exact⟨b,⟨g,t,z,D⟩,E⟩
  ·rintro⟨b,⟨g,t,z,B⟩,k⟩;exact⟨g,t,z,Runs.app.mpr ⟨b,B,k⟩⟩
theorem Runs.le:∀{l:List (Nat×Nat×Nat)}{a b:Nat},Runs lt p l a b->a+l.length<=b
 |[],a,b,h=>by cases h;exact ak _
 |x::l,a,b,h=>by
  have:=h.2.2.2.le;have:=h.2.1;rw[a_];lia
theorem L7{r:Array Nat}{u:Nat}(g:u<r.toList.length):r.toList[u]=at' r u:=by
 have h:u<r.size:=by simpa using g
 simp[at',h]
theorem Sg.join(o:Ord lt){a g r:Nat}(t:Sg lt p a g)(z:Sg lt p (a+g) r)(B:1<=g->Le lt (at' p (a+(g-1))) (at' p (a+g))):Sg lt p a (g+r):=λi j l E=>by
 by_cases C:j<g
 ·exact t i j l C
 ·by_cases G:i<g
  ·have D:=t i (g-1) (by lia) (by lia);have h:=z 0 (j-g) (by lia) (by lia);rw[show a+g+(j-g)=a+j by lia,hV]at h;exact o.tran _ _ _ (o.tran _ _ _ D (B (by lia))) h
  ·have h:=z (i-g) (j-g) (by lia) (by lia)
   rwa [show a+g+(j-g)=a+j by lia,show a+g+(i-g)=a+i by lia]at h
theorem tE(o:Ord lt){k:Nat}(g:Sg lt p base m):∀ i j,i<=j->j<m->byd lt false k p base j=true->byd lt false k p base i=true:=λi j h l r=>by
 have:=o.tran _ _ _ (g i j h l) (Ol r)
 simpa[byd,Le]using this
theorem wh(o:Ord lt){k:Nat}(h:Sg lt p base m):∀ i j,i<=j->j<m->byd lt true k p base j=true->byd lt true k p base i=true:=λi j l r t=>by
 cases e:byd lt true k p base i with
 |true=>rfl
 |false=>
  have:=o.tran _ _ _ (By e) (h i j l r);have g:lt (at' p (base+j)) k=true:=by simpa[byd]using t
  rw[show lt (at' p (base+j)) k=false from this]at g;cases g
theorem Sg.mrg(o:Ord lt){g h l k:Nat}{q:Array Nat}(C:Sg lt p g h)(D:Sg lt p (g+h) l)(hz:g+h+l<=p.size)(hk:k<h)(hj:1<=j)(a0:j<=l)(k2:∀ i,i<k->Le lt (at' p (g+i)) (at' p (g+h)))(j3:∀ i,j<=i->i<l->Le lt (at' p (g+(h-1))) (at' p (g+h+i)))
  (O:q.toList.Perm ((p.extract (g+k) (g+h)).toList++(p.extract (g+h) (g+h+j)).toList)) (sq:q.toList.Pairwise (Le lt)):Sg lt (hX p q (g+k)) g (h+l):=by
 have zq:q.size=h-k+j:=by
  have:=O.length_eq;simp at this;lia
 have r:∀ t,t<q.size->(∃u,k<=u/\u<h/\at' q t=at' p (g+u))\/∃u,u<j/\at' q t=at' p (g+h+u):=λt ht=>by
  have m1:at' q t∈q.toList:=by simp[at',ht]
  rcases ax.mp (O.mem_iff.mp m1)with E|E
  ·obtain⟨u,z,e⟩:=bJ E;have G:u<h-k:=by simp at z;lia
   refine .inl ⟨k+u,by lia,by lia,?_⟩;rw[<-e,L7,Vd (by lia) (by lia),Nat.add_assoc]
  ·obtain⟨u,z,e⟩:=bJ E;have G:u<j:=by simp at z;lia
   refine .inr ⟨u,by lia,?_⟩;rw[<-e,L7,Vd (by lia) (by lia)]
 have U:∀ i u,i<k->u<l->Le lt (at' p (g+i)) (at' p (g+h+u)):=λi u hi z=>o.tran _ _ _ (k2 i hi) (by have:=D 0 u (by lia) z;rwa [hV]at this);intro x y I hy;rw[Kw (by lia),Kw (by lia)]
 by_cases Y:x<k
 ·rw[aw (by lia)]
  by_cases J:y<k
  ·rw[aw (by lia)];exact C x y I (by lia)
  ·rw[ao (by lia)]
   by_cases B:g+y<g+k+q.size
   ·rw[aw B]
    rcases r (g+y-(g+k)) (by lia)with⟨u,L,u2,e⟩|⟨u,L,e⟩
    ·rw[e];exact C x u (by lia) u2
    ·rw[e];exact U x u Y (by lia)
   ·rw[ao B];have:=U x (y-h) Y (by lia)
    rwa [show g+h+(y-h)=g+y by lia]at this
 ·rw[ao (by lia)];have J:¬ g+y<g+k:=by lia
  by_cases x2:g+x<g+k+q.size
  ·rw[aw x2,ao J]
   by_cases B:g+y<g+k+q.size
   ·rw[aw B];exact jN o sq (by lia) (by lia)
   ·rw[ao B]
    rcases r (g+x-(g+k)) (by lia)with⟨u,L,u2,e⟩|⟨u,L,e⟩
    ·rw[e];have:=o.tran _ _ _ (C u (h-1) (by lia) (by lia)) (j3 (y-h) (by lia) (by lia))
     rwa [show g+h+(y-h)=g+y by lia]at this
    ·rw[e];have:=D u (y-h) (by lia) (by lia)
     rwa [show g+h+(y-h)=g+y by lia]at this
  ·rw[ao x2,ao J,ao (by lia)];have:=D (x-h) (y-h) (by lia) (by lia)
   rwa [show g+h+(y-h)=g+y by lia,show g+h+(x-h)=g+x by lia]at this
theorem Runs.congr{g:Array Nat}:∀{l:List (Nat×Nat×Nat)}{a b:Nat},Runs lt p l a b->(∀k,a<=k->k<b->at' g k=at' p k)->Runs lt g l a b
 |[],a,b,h,_=>h
 |x::l,a,b,h,e=>by
  have t:=h.2.2.2.le;exact⟨h.1,h.2.1,h.2.2.1.congr λk z=>e _ (by lia) (by lia),h.2.2.2.congr λk B r=>e k (by lia) r⟩
end
section
variable{prog:Program}{E:Value->Shared->Prop}{κ:SortKind}{f:Nat->Keyed}{lt:Nat->Nat->Bool}{p:Array Nat}{pd:Array (Nat×Nat×Nat)}{g:Nat}
theorem rq{x:SortSt}{st:SortSt}{Q:PUnit->SortSt->Prop}(q:Q ⟨⟩ x):wpS (model prog w) A E s (set x:StateT SortSt Sem PUnit) Q st:=by
 unfold wpS;rw[StateT.run_set];exact aD ⟨rfl,q⟩
theorem uw{h l:List (Nat×Nat×Nat)}{x y z:Nat×Nat×Nat}(ep:pd.toList=h++x::y::l):((pd.setIfInBounds h.length z).eraseIdxIfInBounds (h.length+1)).toList=h++z::l:=by
 have r:pd.size=h.length+(l.length+1+1):=by rw[<-aS,ep];simp
 unfold Array.eraseIdxIfInBounds;rw[hW (by simp;lia),Array.toList_eraseIdx,Array.toList_setIfInBounds,ep,List.set_append_right _ _ (ak _),Nat.sub_self,List.set_cons_zero,List.eraseIdx_append_of_length_le (by lia)];simp
theorem TV{p q:Array Nat}{a:Nat}(h:a+q.size<=p.size):List.foldl (λr x=>r.setIfInBounds (a+x.2) x.1) (p.map f) (q.map f).toList.zipIdx=(hX p q a).map f:=by
 apply cC.mp;rw[Hy a _ 0 _ (by simpa using h)];unfold hX;simp
set_option maxHeartbeats 4000000 in
theorem Wq(h:Ans prog w A s κ f lt n)(o:Ord lt)(J:Pm n p){Y l2:List (Nat×Nat×Nat)}{l t pa sb L pb D:Nat}(ep:pd.toList=Y++(l,t,pa)::(sb,L,pb)::l2)(hr:Runs lt p pd.toList 0 D)(hn:D<=n){Q:Bool->SortSt->Prop}
  (q:∀ p' C g',Pm n p'->(∀k,D<=k->at' p' k=at' p k)->Runs lt p' C.toList 0 D->C.toList=Y++(l,t+L,pa)::l2->Q true (SS κ f p' C g')):wpS (model prog w) A E s (mergeAt' Y.length) Q (SS κ f p pd g):=by
 have e1:pd[Y.length]?=some (l,t,pa):=by rw[<-bH,ep];simp
 have e2:pd[Y.length+1]?=some (sb,L,pb):=by rw[<-bH,ep];simp
 have I:=uw (z:=(l,t+L,pa)) ep;have hz:=J.size;rw[ep]at hr;obtain⟨b1,r1,e3,n1,g1,e4,n2,g2,r2⟩:=Runs.app.mp hr;dsimp only at e3 n1 g1 e4 n2 g2 r2;subst e3;subst e4;have hl:=r2.le;refine aJ (gD ?_);dsimp only;rw[e1,e2];dsimp only;refine aJ (rq ?_);generalize(pd.setIfInBounds Y.length (l,t+L,pa)).eraseIdxIfInBounds (Y.length+1)=C at I⊢;refine aJ (ZZ rfl (by lia) (aJ (Jl h rfl rfl (J.below (by lia)) (λi D=>J.below (by lia)) (by lia) (by lia) (tE o g1) λk k1 k2 k3=>?_)));dsimp only;have same:∀{g'},Sg lt p l (t+L)->Q true (SS κ f p C g'):=λ{g'} sg=>q p C g' J (λ_ _=>rfl) (by rw[I];exact Runs.app.mpr ⟨l,r1,rfl,by dsimp only;lia,sg,by dsimp only;rw[<-Nat.add_assoc];exact r2⟩) I;refine Zt (λc=>?_) λc=>?_
 ·have c:=bw.mp c;exact aO (same (g1.join o g2 λ_=>Ol (k2 (t-1) (by lia))))
 have c:¬ t-k=0:=λz=>c (bw.mpr z);refine aJ (ZZ rfl (by lia) (aJ (Jl h rfl rfl (J.below (by lia)) (λi D=>J.below (by lia)) (by lia) (by lia) (wh o g2) λj j1 j2 j3=>?_)));dsimp only;refine Zt (λc2=>?_) λc2=>?_
 ·have c2:=bw.mp c2;refine aO (same (g1.join o g2 λ_=>?_));have:=By (j3 0 (by lia) (by lia))
  rwa [show l+k+(t-k)-1=l+(t-1) by lia]at this
 have c2:¬ j=0:=λz=>c2 (bw.mpr z);have zx:(p.extract (l+k) (l+t)).size=t-k:=by simp;lia
 have zy:(p.extract (l+t) (l+t+j)).size=j:=by simp;lia
 have lo1:∀ i,k+i<t->Le lt (at' p (l+t+0)) (at' p (l+k+i)):=λi D=>by
  have:=RG o (k3 (k+i) (by lia) D)
  rwa [show l+(k+i)=l+k+i by lia]at this
 have a3:∀ y∈(p.extract (l+k) (l+t)).toList,Le lt (at' p (l+t+0)) y:=λy hy=>by
  obtain⟨u,O,rfl⟩:=bJ hy;have a1:u<t-k:=by rw[aS,zx]at O;exact O
  rw[L7,Vd (by lia) (by lia)];exact lo1 u (by lia)
 have G:∀{u},u<j->Le lt (at' p (l+t+u)) (at' p (l+(t-1))):=λ{u} O=>by
  have:=jD o (j2 u O)
  rwa [show l+k+(t-k)-1=l+(t-1) by lia]at this
 have a4:∀ y∈(p.extract (l+t) (l+t+j)).toList,Le lt y (at' p (l+(t-1))):=λy hy=>by
  obtain⟨u,O,rfl⟩:=bJ hy;have a1:u<j:=by rw[aS,zy]at O;exact O
  rw[L7,Vd (by lia) (by lia)];exact G a1
 have M:Mc prog w A s κ f lt n (p.extract (l+k) (l+t)) (p.extract (l+t) (l+t+j)) ((p.map f).extract (l+k) (l+t)) ((p.map f).extract (l+t) (l+t+j)):=
  ⟨h,o,HQ rfl _ _,HQ rfl _ _,λi D=>by rw[zx]at D;rw[Vd (by lia) (by lia)];exact J.below (by lia),λi D=>by rw[zy]at D;rw[Vd (by lia) (by lia)];exact J.below (by lia),kS o g1 (by lia) (by lia) (by lia),kS o g2 (by lia) (by lia) (by lia),by lia,by lia⟩
 have a5:∀ r B,Sm (SS κ f p C g) B->Mgd f lt (p.extract (l+k) (l+t)) (p.extract (l+t) (l+t+j)) r->Q true (SortSt.mk' (kindOf B) (List.foldl (λr x=>r.setIfInBounds (l+k+x.2) x.1) (arrOf B) r.toList.zipIdx) (pendingOf B) (gallopOf B) (failedOf B)):=by
  rintro _ B U ⟨q',rfl,a0,a6⟩;have zq:q'.size=t-k+j:=by
   have:=a0.length_eq;rw[aB,aS,aS,aS,zx,zy]at this;exact this
  rw[U.kd,U.ar,U.pd,U.fl];show Q true (SortSt.mk' κ (List.foldl (λr x=>r.setIfInBounds (l+k+x.2) x.1) (p.map f) (q'.map f).toList.zipIdx) C (gallopOf B) none);rw[TV (by lia)];refine q _ C _ (NU (by lia) (by lia) (by lia) a0 J) (λu O=>?_) ?_ I
  ·rw[Kw (by lia),ao (by lia),ao (by lia)]
  ·rw[I];refine Runs.app.mpr ⟨l,r1.congr λu u1 u2=>?_,rfl,by dsimp only;lia,Sg.mrg o g1 g2 (by lia) (by lia) (by lia) j1 (λi D=>Ol (k2 i D)) (λi h1 h2=>?_) a0 a6,(show Runs lt _ l2 (l+(t+L)) D from(Nat.add_assoc l t L▸r2).congr λu u1 u2=>?_)⟩
   ·rw[Kw (by lia),aw (by lia)]
   ·have:=By (j3 i h1 h2)
    rwa [show l+k+(t-k)-1=l+(t-1) by lia]at this
   ·rw[Kw (by lia),ao (by lia),ao (by lia)]
 refine Zt (λc3=>aJ (El M rfl ?_ ?_ λr B U a2=>?_)) λc3=>aJ (Dv M rfl ?_ ?_ λr B U a2=>?_)
 ·rw[Vd (by lia) (by lia),Vd (by lia) (by lia)];exact lo1 0 (by lia)
 ·intro y hy;rw[zx,Vd (by lia) (by lia),show l+k+(t-k-1)=l+(t-1) by lia];exact a4 y hy
 rotate_left
 ·intro y hy;rw[Vd (by lia) (by lia)];exact a3 y hy
 ·rw[zx,zy,Vd (by lia) (by lia),Vd (by lia) (by lia),show l+k+(t-k-1)=l+(t-1) by lia];exact G (by lia)
 all_goals
  refine aJ (f_ (aJ (gD (aO ?_))));have e:(failedOf B).isNone=true:=by rw[U.fl];rfl
  have:=a5 r B U a2;rw[<-e]at this;exact this
end
theorem Runs.mod{lt:Nat->Nat->Bool}{p:Array Nat}{c:Nat}:∀{l:List (Nat×Nat×Nat)}{i a b:Nat},Runs lt p l a b->Runs lt p (l.modify i λx=>(x.1,x.2.1,c)) a b
 |[],i,a,b,h=>by simpa using h
 |x::l,0,a,b,h=>h
 |x::l,i+1,a,b,h=>⟨h.1,h.2.1,h.2.2.1,Runs.mod h.2.2.2⟩
theorem oF{r:Type}{l:List r}{i:Nat}(h:i+1<l.length):∃ g x y t,l=g++x::y::t/\g.length=i:=by
 refine⟨l.take i,l[i],l[i+1],l.drop (i+2),?_,by simp;lia⟩;rw[<-cN,<-cN,eG]
theorem qA{lt:Nat->Nat->Bool}{p:Array Nat}(h:Sg lt p 0 n)(hz:p.size=n):p.toList.Pairwise (Le lt):=by
 rw[ce];intro i j r g l;rw[L7,L7];have:=h i j (by lia) (by rw[aS]at g;lia)
 rwa [cx,cx]at this
section
variable{prog:Program}{E:Value->Shared->Prop}{κ:SortKind}{f:Nat->Keyed}{lt:Nat->Nat->Bool}{p:Array Nat}{g:Nat}
theorem sL{pd:Array (Nat×Nat×Nat)}{t:Type}{X:Nat->StateT SortSt Sem t}{Q:t->SortSt->Prop}(R:Nat->Array Nat->Prop){l:Prop}(k:(∀m r,R m r->wpS (model prog w) A E s (X m) Q (SS κ f r pd g))->l)(h:∀ m r,R m r->wpS (model prog w) A E s (X m) Q (SS κ f r pd g)):l:=k h
def Wt(κ:SortKind)(f:Nat->Keyed)(lt:Nat->Nat->Bool)(n h:Nat)(st:SortSt):Prop:=∃ p l g,SS κ f p l g=st/\Pm n p/\Runs lt p l.toList 0 h/\h<=n
set_option maxHeartbeats 4000000 in
theorem uL(h:Ans prog w A s κ f lt n)(o:Ord lt)(U:Pm n p)(h2:2<=n){Q:Unit->SortSt->Prop}(q:∀ p' a9 g',Pm n p'->p'.toList.Pairwise (Le lt)->Q () (SS κ f p' a9 g')):wpS (model prog w) A E s sortRuns' Q (SS κ f p #[] g):=by
 have hz:(arrOf (SS κ f p #[] g)).size=n:=by
  show(p.map f).size=n;rw[Array.size_map,U.size]
 refine aJ (gD ?_);dsimp only;rw[show(p.map f).size=n from hz];refine aJ (c_ (bP (I:=λx c B=>c.1=none/\x<=c.2/\Wt κ f lt n c.2 B) (Q:=λc B=>c.1=none/\Wt κ f lt n n B) ?_ ?_ ⟨rfl,ak _,p,#[],g,rfl,U,(by exact(rfl:(0:Nat)=0)),br _⟩) ?_)
 ·rintro x ⟨c1,lo⟩ _ _ hx ⟨e1,l1,p,pd,g,rfl,U,Y,hl⟩;dsimp only at e1 l1 hl Y⊢;have a0:∀{p:Array Nat}{pd:Array (Nat×Nat×Nat)}{g D:Nat},Runs lt p pd.toList 0 lo->Pm n p->Sg lt p lo D->1<=D->lo+D<=n->Wt κ f lt n (lo+D) (SortSt.mk' κ (p.map f) (pd.push (lo,D,0)) g none):=λ{p pd g D} r q s m1 m2=>
   ⟨p,_,g,rfl,q,by rw[eK];exact Runs.app.mpr ⟨lo,r,rfl,m1,s,rfl⟩,m2⟩
  refine Zt (λc=>?_) λc=>?_
  ·have e:lo=n:=by lia
   exact aO ⟨rfl,p,pd,g,rfl,U,by rw[<-e];exact Y,ak _⟩
  refine aJ (R3 h o U (by lia) (by lia) λm p2 m1 m2 a5 o2 s2=>?_);have r2:Runs lt p2 pd.toList 0 lo:=Y.congr λk _ hk=>o2 k (.inl hk);dsimp only;apply sL (pd:=pd) (g:=g) λD p6=>Pm n p6/\Runs lt p6 pd.toList 0 lo/\Sg lt p6 lo D/\1<=D/\lo+D<=n
  ·intro go;refine Zt (λc2=>aJ (wpS_lift (dS ⟨rfl,?_⟩))) λc2=>?_;have c3:m<minRun' n n 0:=c2;generalize b0:min (n-lo) (minRun' n n 0)=D;have a6:min (n-lo) ((sortPriv%PySem.Builtin.minRun) n n 0)=D:=b0;rw[a6];exact aJ (LN h o a5 m1 (by lia) (by lia) s2 λp6 q6 o6 s6=>Zt (λz=>absurd z (by decide)) λ_=>go D p6 ⟨q6,r2.congr λk _ hk=>o6 k (.inl hk),s6,by lia,by lia⟩);exact go m p2 ⟨a5,r2,s2,m1,by lia⟩
  clear r2 s2 a5 o2 m1 m2;rintro D p6 ⟨p2,r2,s2,m1,m2⟩;refine aJ (gD ?_);dsimp only;cases eb:pd.back? with
  |none=>exact aJ (f_ (aO ⟨rfl,by dsimp only;lia,a0 r2 p2 s2 m1 (by lia)⟩))
  | some z=>
   obtain⟨s1,n1,z1⟩:=z;dsimp only;refine aJ (c_ (bP (I:=λx c B=>c.1=none/\∃p pd g,SS κ f p pd g=B/\Pm n p/\Runs lt p pd.toList 0 lo/\Sg lt p lo D) (Q:=λc B=>c.1=none/\∃p pd g,SS κ f p pd g=B/\Pm n p/\Runs lt p pd.toList 0 lo/\Sg lt p lo D) ?_ (λ_ _ z=>z) ⟨rfl,_,_,_,rfl,p2,r2,s2⟩) ?_)
   ·rintro y ⟨d1,d2⟩ _ _ hy ⟨J,p3,t,g3,rfl,G,C,O⟩;dsimp only at J⊢;refine aJ (gD ?_);dsimp only
    by_cases a7:t.size>1
    ·rw[aw a7];obtain⟨l1,⟨sa,na,pa⟩,⟨sb,nb,pb⟩,l2,e5,e6⟩:=oF (l:=t.toList) (i:=t.size-2) (by rw[aS];lia);have e7:t[t.size-2]?=some (sa,na,pa):=by rw[<-e6,<-bH,e5];simp
     rw[e7];dsimp only;refine Zt (λ_=>aO ⟨rfl,_,_,_,rfl,G,C,O⟩) λ_=>aJ ?_;rw[<-e6];refine Wq h o G e5 C hl λp5 a8 g5 a1 a2 a3 _=>?_;refine Zt (λz=>absurd z (by decide)) λ_=>aO ⟨rfl,_,_,_,rfl,a1,a3,O.congr λk _=>a2 _ (by lia)⟩
    ·rw[ao a7];exact aO ⟨rfl,_,_,_,rfl,G,C,O⟩
   ·rintro⟨d1,d2⟩ _ ⟨J,p3,t,g3,rfl,G,C,O⟩;dsimp only at J⊢;subst J;dsimp only;refine aJ (f_ (aJ (f_ (aO ⟨rfl,by dsimp only;lia,a0 (pd:=t.modify (t.size-1) λx=>(x.1,x.2.1,_)) ?_ G O m1 (by lia)⟩))));rw[Array.toList_modify];exact C.mod
 ·rintro⟨c1,lo⟩ _ ⟨e1,l1,p,pd,g,rfl,U,Y,hl⟩;dsimp only at e1 l1 hl Y⊢;have e:lo=n:=by lia
  exact⟨e1,p,pd,g,rfl,U,by rw[<-e];exact Y,ak _⟩
 ·rintro⟨c1,lo⟩ _ ⟨e1,p,pd,g,rfl,U,Y,hl⟩;dsimp only at e1⊢;subst e1;dsimp only;refine aJ (c_ (bP (I:=λx c B=>c.1=none/\∃p pd g,SS κ f p pd g=B/\Pm n p/\Runs lt p pd.toList 0 n/\pd.size+x<=n) (Q:=λc B=>c.1=none/\∃p pd g,SS κ f p pd g=B/\Pm n p/\Runs lt p pd.toList 0 n/\pd.size<=1) ?_ ?_ ⟨rfl,p,pd,g,rfl,U,Y,by have:=Y.le;rw[aS]at this;lia⟩) ?_)
  ·rintro y ⟨d1,d2⟩ _ _ hy ⟨J,p3,t,g3,rfl,G,C,O⟩;dsimp only at J⊢;refine aJ (gD ?_);dsimp only;refine Zt (λc=>aO ⟨rfl,p3,t,g3,rfl,G,C,c⟩) λc=>?_;have go:∀ i,i+1<t.size->wpS (model prog w) A E s (mergeAt' i) (λb B=>b=true/\∃p pd g,SS κ f p pd g=B/\Pm n p/\Runs lt p pd.toList 0 n/\pd.size+(y+1)<=n) (SS κ f p3 t g3):=λi hi=>by
    obtain⟨l1,⟨sa,na,pa⟩,⟨sb,nb,pb⟩,l2,e5,e6⟩:=oF (l:=t.toList) (i:=i) (by rw[aS];lia);rw[<-e6];refine Wq h o G e5 C (ak _) λp5 a8 g5 a1 a2 a3 a4=>⟨rfl,p5,a8,g5,rfl,a1,a3,?_⟩;have z1:=bK List.length a4;have z2:=bK List.length e5;simp at z1 z2;lia
   refine aJ (c_ (go _ ?_) λb B hb=>?_)
   ·repeat' split
    all_goals lia
   ·obtain⟨rfl,hb⟩:=hb;exact Zt (λz=>absurd z (by decide)) λ_=>aO ⟨rfl,hb⟩
  ·rintro⟨d1,d2⟩ _ ⟨J,p3,t,g3,rfl,G,C,O⟩;exact⟨J,p3,t,g3,rfl,G,C,by lia⟩
  ·rintro⟨d1,d2⟩ _ ⟨J,p3,t,g3,rfl,G,C,O⟩;dsimp only at J⊢;subst J;dsimp only;refine aO (q _ _ _ G ?_);rw[<-aS]at O;generalize t.toList=L at C O
   match L,C,O with
   |[],C,_=>exact absurd (show(0:Nat)=n from C) (by lia)
   |[x],C,_=>
    obtain⟨_,_,sg,e⟩:=C;have e:0+x.2.1=n:=e;rw[cx]at e;rw[e]at sg;exact qA sg G.size
   |_::_::_,_,z=>exact absurd z (by simp)
end
mutual
noncomputable def pln:PyData->Bool
 | .int _=>true
 | .str _=>true
 | .tuple l=>Vj l
 |_=>false
noncomputable def Vj:List PyData->Bool
 |[]=>true
 |d::l=>pln d&&Vj l
end
mutual
noncomputable def ZW:PyData->PyData->Bool
 | .int _,.int _=>true
 | .str _,.str _=>true
 | .tuple a,.tuple b=>ZN a b
 |_,_=>false
noncomputable def ZN:List PyData->List PyData->Bool
 |a::l,b::r=>if PyData.eqv a b then ZN l r else ZW a b
 |_,_=>true
end
mutual
noncomputable def ltD:PyData->PyData->Bool
 | .int i,.int j=>decide (i<j)
 | .str s,.str t=>decide (s.cps.toList<t.cps.toList)
 | .tuple a,.tuple b=>Yt a b
 |_,_=>false
noncomputable def Yt:List PyData->List PyData->Bool
 |a::l,b::r=>if PyData.eqv a b then Yt l r else ltD a b
 |[],_::_=>true
 |_,[]=>false
end
theorem Qj{l:List PyData}(h:Vj (d::l)=true):pln d=true/\Vj l=true:=by
 rw[Vj,b_]at h;exact h
theorem Wn{s t:Str}(h:s.cps.toList=t.cps.toList):s=t:=by
 obtain⟨⟨a⟩⟩:=s;obtain⟨⟨b⟩⟩:=t;cases h;rfl
mutual
theorem CU:∀(a b:PyData),pln a=true->pln b=true->PyData.eqv a b=true->a=b
 | .int i,b,_,hb,h=>by
  cases b with
  |int j=>rw[PyData.eqv]at h;rw[beq_iff_eq.mp h]
  |bool _=>simp[pln]at hb
  |_=>rw[PyData.eqv]at h;cases h
 | .str s,b,_,hb,h=>by
  cases b with
  |str t=>rw[PyData.eqv]at h;rw[beq_iff_eq.mp h]
  |_=>rw[PyData.eqv]at h;cases h
 | .tuple l,b,ha,hb,h=>by
  cases b with
  |tuple r=>
   rw[pln]at ha hb;rw[PyData.eqv]at h;rw[ET l r ha hb h]
  |_=>rw[PyData.eqv]at h;cases h
 | .none,_,ha,_,_=>by simp[pln]at ha
 | .bool _,_,ha,_,_=>by simp[pln]at ha
 | .list _,_,ha,_,_=>by simp[pln]at ha
 | .dict _,_,ha,_,_=>by simp[pln]at ha
theorem ET:∀(l r:List PyData),Vj l=true->Vj r=true->PyData.eqvAll l r=true->l=r
 |[],[],_,_,_=>rfl
 |[],_::_,_,_,h=>by rw[PyData.eqvAll]at h;cases h
 |_::_,[],_,_,h=>by rw[PyData.eqvAll]at h;cases h
 |a::l,b::r,ha,hb,h=>by
  rw[PyData.eqvAll,Bool.and_eq_true]at h;rw[CU a b (Qj ha).1 (Qj hb).1 h.1,ET l r (Qj ha).2 (Qj hb).2 h.2]
end
mutual
theorem VU:∀(a:PyData),pln a=true->PyData.eqv a a=true
 | .int i,_=>by rw[PyData.eqv];exact beq_self_eq_true i
 | .str s,_=>by rw[PyData.eqv];exact beq_self_eq_true s
 | .tuple l,h=>by rw[pln]at h;rw[PyData.eqv];exact B1 l h
 | .none,h=>by simp[pln]at h
 | .bool _,h=>by simp[pln]at h
 | .list _,h=>by simp[pln]at h
 | .dict _,h=>by simp[pln]at h
theorem B1:∀(l:List PyData),Vj l=true->PyData.eqvAll l l=true
 |[],_=>by rw[PyData.eqvAll]
 |a::l,h=>by rw[PyData.eqvAll,VU a (Qj h).1,B1 l (Qj h).2];rfl
end
theorem oN{a b:PyData}(g:pln a=true)(l:pln b=true)(h:a≠b):PyData.eqv a b=false:=by
 cases e:PyData.eqv a b with
 |false=>rfl
 |true=>exact absurd (CU a b g l e) h
theorem JM{a:PyData}{l r:List PyData}(g:pln a=true):Yt (a::l) (a::r)=Yt l r:=by rw[Yt,VU a g,aw rfl]
theorem Q0{a b:PyData}{l r:List PyData}(g:pln a=true)(t:pln b=true)(h:a≠b):Yt (a::l) (b::r)=ltD a b:=by rw[Yt,oN g t h,ao (by decide)]
theorem KL{a:PyData}{l r:List PyData}(g:pln a=true):ZN (a::l) (a::r)=ZN l r:=by rw[ZN,VU a g,aw rfl]
theorem YK{a b:PyData}{l r:List PyData}(g:pln a=true)(t:pln b=true)(h:a≠b):ZN (a::l) (b::r)=ZW a b:=by rw[ZN,oN g t h,ao (by decide)]
mutual
theorem YD:∀(a b:PyData),pln a=true->pln b=true->ltD a b=true->ltD b a=false
 | .int i,b,_,_,h=>by
  cases b with
  |int j=>rw[ltD]at h⊢;have:=of_decide_eq_true h;exact decide_eq_false (by lia)
  |_=>simp[ltD]at h
 | .str s,b,_,_,h=>by
  cases b with
  |str t=>rw[ltD]at h⊢;have:=of_decide_eq_true h;exact decide_eq_false λz=>absurd (List.lt_trans this z) (List.lt_irrefl _)
  |_=>simp[ltD]at h
 | .tuple l,b,ha,hb,h=>by
  cases b with
  |tuple r=>
   rw[pln]at ha hb;rw[ltD]at h⊢;exact Bw l r ha hb h
  |_=>simp[ltD]at h
 | .none,_,ha,_,_=>by simp[pln]at ha
 | .bool _,_,ha,_,_=>by simp[pln]at ha
 | .list _,_,ha,_,_=>by simp[pln]at ha
 | .dict _,_,ha,_,_=>by simp[pln]at ha
theorem Bw:∀(l r:List PyData),Vj l=true->Vj r=true->Yt l r=true->Yt r l=false
 |[],[],_,_,h=>by rw[Yt]at h;cases h
 |[],_::_,_,_,_=>by rw[Yt]
 |_::_,[],_,_,h=>by rw[Yt]at h;cases h
 |a::l,b::r,ha,hb,h=>by
  have a1:=Qj ha;have b1:=Qj hb
  by_cases e:a=b
  ·subst e;rw[JM a1.1]at h⊢;exact Bw l r a1.2 b1.2 h
  ·rw[Q0 a1.1 b1.1 e]at h;rw[Q0 b1.1 a1.1 (Ne.symm e)];exact YD a b a1.1 b1.1 h
end
mutual
theorem Yw:∀(a b:PyData),pln a=true->pln b=true->ZW a b=true->ltD a b=false->ltD b a=false->a=b
 | .int i,b,_,_,c,h,k=>by
  cases b with
  |int j=>
   rw[ltD]at h k;have:=of_decide_eq_false h;have:=of_decide_eq_false k;rw[show i=j by lia]
  |_=>simp[ZW]at c
 | .str s,b,_,_,c,h,k=>by
  cases b with
  |str t=>
   rw[ltD]at h k;rw[Wn (List.le_antisymm (List.not_lt.mp (of_decide_eq_false k)) (List.not_lt.mp (of_decide_eq_false h)))]
  |_=>simp[ZW]at c
 | .tuple l,b,ha,hb,c,h,k=>by
  cases b with
  |tuple r=>
   rw[pln]at ha hb;rw[ltD]at h k;rw[ZW]at c;rw[EI l r ha hb c h k]
  |_=>simp[ZW]at c
 | .none,_,ha,_,_,_,_=>by simp[pln]at ha
 | .bool _,_,ha,_,_,_,_=>by simp[pln]at ha
 | .list _,_,ha,_,_,_,_=>by simp[pln]at ha
 | .dict _,_,ha,_,_,_,_=>by simp[pln]at ha
theorem EI:∀(l r:List PyData),Vj l=true->Vj r=true->ZN l r=true->Yt l r=false->Yt r l=false->l=r
 |[],[],_,_,_,_,_=>rfl
 |[],_::_,_,_,_,h,_=>by rw[Yt]at h;cases h
 |_::_,[],_,_,_,_,h=>by rw[Yt]at h;cases h
 |a::l,b::r,ha,hb,c,h,k=>by
  have a1:=Qj ha;have b1:=Qj hb
  by_cases e:a=b
  ·subst e;rw[JM a1.1]at h k;rw[KL a1.1]at c;rw[EI l r a1.2 b1.2 c h k]
  ·rw[Q0 a1.1 b1.1 e]at h;rw[Q0 b1.1 a1.1 (Ne.symm e)]at k;rw[YK a1.1 b1.1 e]at c;exact absurd (Yw a b a1.1 b1.1 c h k) e
end
mutual
theorem UI:∀(a b c:PyData),pln a=true->pln b=true->pln c=true->ZW a b=true->ZW b c=true->ZW a c=true->ltD b a=false->ltD c b=false->ltD c a=false
 | .int i,b,c,_,_,_,k1,k2,_,h1,h2=>by
  cases b with
  | int j=>
   cases c with
   |int k=>
    rw[ltD]at h1 h2⊢;have:=of_decide_eq_false h1;have:=of_decide_eq_false h2;exact decide_eq_false (by lia)
   |_=>simp[ZW]at k2
  |_=>simp[ZW]at k1
 | .str s,b,c,_,_,_,k1,k2,_,h1,h2=>by
  cases b with
  | str t=>
   cases c with
   |str u=>
    rw[ltD]at h1 h2⊢;exact decide_eq_false (List.not_lt.mpr (List.le_trans (List.not_lt.mp (of_decide_eq_false h1)) (List.not_lt.mp (of_decide_eq_false h2))))
   |_=>simp[ZW]at k2
  |_=>simp[ZW]at k1
 | .tuple x,b,c,ha,hb,hc,k1,k2,k3,h1,h2=>by
  cases b with
  | tuple y=>
   cases c with
   |tuple z=>
    rw[pln]at ha hb hc;rw[ZW]at k1 k2 k3;rw[ltD]at h1 h2⊢;exact BO x y z ha hb hc k1 k2 k3 h1 h2
   |_=>simp[ZW]at k2
  |_=>simp[ZW]at k1
 | .none,_,_,ha,_,_,_,_,_,_,_=>by simp[pln]at ha
 | .bool _,_,_,ha,_,_,_,_,_,_,_=>by simp[pln]at ha
 | .list _,_,_,ha,_,_,_,_,_,_,_=>by simp[pln]at ha
 | .dict _,_,_,ha,_,_,_,_,_,_,_=>by simp[pln]at ha
theorem BO:∀(x y z:List PyData),Vj x=true->Vj y=true->Vj z=true->ZN x y=true->ZN y z=true->ZN x z=true->Yt y x=false->Yt z y=false->Yt z x=false
 |[],_,z,_,_,_,_,_,_,_,_=>by cases z<;>rw[Yt]
 |_::_,[],_,_,_,_,_,_,_,h,_=>by rw[Yt]at h;cases h
 |_::_,_::_,[],_,_,_,_,_,_,_,h=>by rw[Yt]at h;cases h
 | a::x,b::y,c::z,ha,hb,hc,k1,k2,k3,h1,h2=>by
  have a1:=Qj ha;have b1:=Qj hb;have c1:=Qj hc
  by_cases e1:a=b
  ·subst e1;rw[JM a1.1]at h1;rw[KL a1.1]at k1
   by_cases e2:a=c
   ·subst e2;rw[JM a1.1]at h2⊢;rw[KL a1.1]at k2 k3;exact BO x y z a1.2 b1.2 c1.2 k1 k2 k3 h1 h2
   ·rw[Q0 c1.1 a1.1 (Ne.symm e2)]at h2⊢;exact h2
  ·rw[Q0 b1.1 a1.1 (Ne.symm e1)]at h1;rw[YK a1.1 b1.1 e1]at k1
   by_cases e2:b=c
   ·subst e2;rw[Q0 b1.1 a1.1 (Ne.symm e1)];exact h1
   ·rw[Q0 c1.1 b1.1 (Ne.symm e2)]at h2;rw[YK b1.1 c1.1 e2]at k2
    by_cases e3:a=c
    ·subst e3;exact absurd (Yw a b a1.1 b1.1 k1 h2 h1) e1
    ·rw[Q0 c1.1 a1.1 (Ne.symm e3)];rw[YK a1.1 c1.1 e3]at k3;exact UI a b c a1.1 b1.1 c1.1 k1 k2 k3 h1 h2
end
def LtA(A:Around)(s:Shared)(y x:Value)(b:Bool):Prop:=∀(g:Program)(w:World)(E:Value->Shared->Prop)(Q:Value->Shared->Prop),Q (.bool b) s->wpAny (model g w) A (richCompare .Lt y x) Q E s
inductive Rb (A:Around) (s:Shared):List Value->List Value->Bool->Prop
 |nn:Rb A s [] [] false
 |nc {x:Value} {ws:List Value}:Rb A s [] (x::ws) true
 |cn {y:Value} {vs:List Value}:Rb A s (y::vs) [] false
 |eq {y x:Value} {vs ws:List Value} {b:Bool}:SeqAt.EqAt A s y x true->Rb A s vs ws b->Rb A s (y::vs) (x::ws) b
 |ne {y x:Value} {vs ws:List Value} {b:Bool}:SeqAt.EqAt A s y x false->LtA A s y x b->Rb A s (y::vs) (x::ws) b
section
open PySem.AutoSeq1 (wpAny_loadPart')
open PySem.MeetsSeq2 PySem.MeetsSeq3
theorem Bj(l b:Addr)(t r:Array Value)(n n2:Nat)(dd O:Option Addr)(sl U:Array (Option Value))(k:Bool):
  Meets (Builtin.«tuple.__lt__» ⟨[.ref l,.ref b],[]⟩)
   (λA R s=>s.heap.get? l=some {cls:=.type "tuple",dict:=dd,data:=.seq t n,slots:=sl}/\s.heap.get? b=some {cls:=.type "tuple",dict:=O,data:=.seq r n2,slots:=U}/\
    Rb A.in1 s t.toList r.toList k/\R (.ok (.ret (.bool k))) s):=
 .of_wp λC w A R s h=>by
  obtain⟨hp,g,d,tk,os⟩:=s;obtain⟨hl,hb,J,h⟩:=h;have f2:=AutoSeq1.sub_tuple_tuple
  wp_walk using wpAny_loadPart' hl,wpAny_loadPart' hb,wpAny_forIn_list _ (λrest b Y=>b.1=none/\Y=⟨hp,g,d,tk,os⟩/\∃(vs L:List Value),rest=vs.zip L/\Rb A.in1 ⟨hp,g,d,tk,os⟩ vs L k/\vs.length+r.size=L.length+t.size) _
  case turn=>
   rintro⟨y,x⟩ rest b Y ⟨E,rfl,vs,L,B,G,z⟩;cases G with
   |nn=>cases B
   |nc=>cases B
   |cn=>cases B
   |eq he hr=>
    rw[cz]at B
    injection B with I D
    injection I with hy J
    subst hy J;refine ag (he C w _ _ ?_)
    wp_walk
    exact⟨rfl,rfl,_,_,D,hr,by simp only[List.length_cons]at z;lia⟩
   |ne he hr=>
    rw[cz]at B
    injection B with I D
    injection I with hy J
    subst hy J;refine ag (he C w _ _ ?_);have a0:=hr C w
    wp_walk using a0
    exact⟨_,rfl,by simpa using h⟩
  case fin=>
   rintro⟨b1,b2⟩ Y ⟨E,rfl,vs,L,B,G,z⟩;simp only at E;subst E;have hv:k=decide (t.size<r.size):=by
    cases G with
    |nn=>exact(aZ (by simp only[List.length_nil]at z;lia)).symm
    |nc=>exact(aI (by simp only[List.length_nil,List.length_cons]at z;lia)).symm
    |cn=>exact(aZ (by simp only[List.length_nil,List.length_cons]at z;lia)).symm
    |eq _ _=>rw[cz]at B;cases B
    |ne _ _=>rw[cz]at B;cases B
   rw[hv]at h
   wp_walk
   exact⟨_,rfl,by simpa[Builtin.Tuple.tupleCompareSizes]using h⟩
  case h=>
   exact⟨rfl,rfl,t.toList,r.toList,rfl,J,by simp;lia⟩
end
theorem LtA.tup{l:Addr}{r g:Array Value}{k:Bool}(U:IsTup s.heap l r)(Y:IsTup s.heap b g)(hx:Rb A.in1 s r.toList g.toList k)(hu:A.units<cLine):LtA A s (.ref l) (.ref b) k:=λG w E Q h=>by
 obtain⟨⟨a0,dd,I,sl⟩,J,L,n,hd⟩:=id U;obtain⟨⟨O,C,data2,D⟩,t,z,n2,B⟩:=id Y;simp only at L hd z B;subst L hd z B;exact richCompare_meets_room (op:=.Lt) ⟨_,J,rfl⟩ ⟨_,t,rfl⟩ PySem.F.slot_tuple_lt PySem.F.entry_tuple_lt (PySem.F.args_tuple_lt_2 _ _) (Bj l b r g n n2 dd C sl D k)
  ⟨J,t,hx,show Value.bool k≠Value.notImplemented/\Q (.bool k) s from⟨(λx=>nomatch x),h⟩⟩ hu
theorem in1_units(A:Around):A.in1.units=A.units+1:=rfl
mutual
theorem Nc:∀(da db:PyData)(A:Around)(s:Shared)(a b:Value)(as bs:List Addr),Reads s.heap a da as->Reads s.heap b db bs->da.canLay0=true->db.canLay0=true->ZW da db=true->A.units+min da.depth db.depth<cLine->LtA A s a b (ltD da db)
 | .int i,db,A,s,a,b,as,bs,ra,rb,_,_,c,hu=>by
  cases db with
  |int j=>
   cases ra;cases rb;rw[ltD];exact λprog w E Q h=>lt_int h
  |_=>simp[ZW]at c
 | .str x,db,A,s,a,b,as,bs,ra,rb,_,_,c,hu=>by
  cases db with
  |str j=>
   cases ra;cases rb;rw[ltD];exact λprog w E Q h=>lt_str h
  |_=>simp[ZW]at c
 | .tuple xs,db,A,s,a,b,as,bs,ra,rb,ca,cb,c,hu=>by
  cases db with
  | tuple ys=>
   cases ra with
   | tuple ho hc hd hr=>
    cases rb with
    |tuple ho2 hc2 hd2 hr2=>
     rw[PyData.canLay0]at ca cb;rw[PyData.depth,PyData.depth]at hu;rw[ZW]at c;rw[ltD];refine LtA.tup ⟨_,ho,hc,_,hd⟩ ⟨_,ho2,hc2,_,hd2⟩ (VQ xs ys A.in1 s _ _ _ _ hr hr2 ca cb c ?_) (by lia);rw[in1_units];lia
  |_=>simp[ZW]at c
 | .none,_,_,_,_,_,_,_,_,_,_,_,c,_=>by simp[ZW]at c
 | .bool _,_,_,_,_,_,_,_,_,_,_,_,c,_=>by simp[ZW]at c
 | .list _,_,_,_,_,_,_,_,_,_,_,_,c,_=>by simp[ZW]at c
 | .dict _,_,_,_,_,_,_,_,_,_,_,_,c,_=>by simp[ZW]at c
theorem VQ:∀(xs ys:List PyData)(A:Around)(s:Shared)(vs ws:List Value)(as bs:List Addr),ReadsAll s.heap vs xs as->ReadsAll s.heap ws ys bs->PyData.canLayAll0 xs=true->PyData.canLayAll0 ys=true->ZN xs ys=true->A.units+min (PyData.depthAll xs) (PyData.depthAll ys)<cLine->Rb A s vs ws (Yt xs ys)
 |[],[],A,s,vs,ws,as,bs,ra,rb,_,_,_,_=>by
  cases ra;cases rb;rw[Yt];exact .nn
 |[],y::ys,A,s,vs,ws,as,bs,ra,rb,_,_,_,_=>by
  cases ra;cases rb;rw[Yt];exact .nc
 |x::xs,[],A,s,vs,ws,as,bs,ra,rb,_,_,_,_=>by
  cases ra;cases rb;rw[Yt];exact .cn
 | x::xs,y::ys,A,s,vs,ws,as,bs,ra,rb,ca,cb,c,hu=>by
  cases ra with
  | cons r1 r2=>
   cases rb with
   | cons q1 q2=>
    rw[PyData.canLayAll0,Bool.and_eq_true]at ca cb;rw[PyData.depthAll,PyData.depthAll]at hu;rw[ZN]at c;have he:=SeqAt.eqAt_reads x y A s _ _ _ _ r1 q1 ca.1 cb.1 (by omega);rw[Yt];cases e:PyData.eqv x y with
    |true=>
     rw[e]at he;rw[e,if_pos rfl]at c;rw[if_pos rfl];exact .eq he (VQ xs ys A s _ _ _ _ r2 q2 ca.2 cb.2 c (by omega))
    |false=>
     rw[e]at he;rw[e,if_neg (by decide)]at c;rw[if_neg (by decide)];exact .ne he (Nc x y A s _ _ _ _ r1 q1 ca.1 cb.1 c (by omega))
end
section
variable{prog:Program}{E:Value->Shared->Prop}{lt:Nat->Nat->Bool}
theorem Hn{vs:List Value}{q:Array Nat}(h:Pm vs.length q)(g:vs.length<=sizeLine):(UB vs q).size<=sizeLine:=by
 have:=h.size;rw[aQ,aa,aS];lia
theorem GJ{F:Array Value->Nat->Value->Sem PySem.Fin}{vs:List Value}{c:Nat}{P:PySem.Fin->Shared->Prop}(D:s.heap.get? a=some (seqObj "list" vs.toArray c))(B:vs.length<=sizeLine)
  (h:∀ t h',(∀b u,b≠a->s.heap.get? b=some u->h'.get? b=some u)->h'.get? a=some (seqObj "list" #[] t)->h'.get? (s.heap.objs.size+1)=some (seqObj "list" #[] 0)->h'.objs.size=s.heap.objs.size+2->wpAny (model prog w) A (F vs.toArray t (.ref (s.heap.objs.size+1))) P E {s with heap:=h'}):
  wpAny (model prog w) A (do
   let l <-Builtin.List.listItems (.ref a)
   Builtin.List.listUpdate (.ref a) λ_=>#[]
   let r <-seqEpoch a
   let C <-newTuple l.toList
   let g <-newList []
   holding [C,g] (F l r g)) P E s:=by
 obtain⟨t,G⟩:∃ t,(s.heap.update a (Obj.mapSeq λ_=>(#[]:Array Value))).get? a=some (seqObj "list" #[] t):=⟨_,get?_update_seq D λ_=>#[]⟩
 have z:((s.heap.update a (Obj.mapSeq λ_=>(#[]:Array Value))).push (seqObj "tuple" vs.toArray 0)).objs.size=s.heap.objs.size+1:=by rw[size_push',Heap.size_update]
 refine ag (listItems_at D rfl (ag (gg D rfl (ag (seqEpoch_at G rfl (ag (wpAny_newTuple (ag (gU (cr ?_) (br _))) (by simpa using B))))) (by rw[List.size_toArray];exact B) (br _))));show wpAny (model prog w) A (F _ _ (.ref ((s.heap.update a (Obj.mapSeq λ_=>(#[]:Array Value))).push (seqObj "tuple" vs.toArray 0)).objs.size)) P E {s with heap:=((s.heap.update a (Obj.mapSeq λ_=>(#[]:Array Value))).push (seqObj "tuple" vs.toArray 0)).push (seqObj "list" #[] 0)};have y:=aR ((s.heap.update a (Obj.mapSeq λ_=>(#[]:Array Value))).push (seqObj "tuple" vs.toArray 0)) (o:=seqObj "list" #[] 0) rfl;rw[z]at y⊢;exact h t _ (λb u I e=>am _ (am _ (by rw[c6 _ _ _ _ I];exact e))) (am _ (am _ G)) y (by rw[size_push',z])
theorem oO{kd:SortKind}(o:Ord lt){G:Unit×SortSt->Sem PySem.Fin}{vs ks:List Value}{P:PySem.Fin->Shared->Prop}(t:ks.length=vs.length)
  (kind:2<=vs.length->∀(U:Value->Shared->Prop)(R:SortKind->Shared->Prop),R kd s->wpAny (model prog w) A (keyKind' ks.toArray) R U s)
  (ask:∀ i j,i<vs.length->j<vs.length->∀ C:Bool->Shared->Prop,C (lt i j) s->wpAny (model prog w) A (keyLt' kd (ks.getD i Value.none) (ks.getD j Value.none)) C (λ_ _=>False) s)
  (B:∀(st:SortSt)(q:Array Nat),Pm vs.length q->q.toList.Pairwise (Le lt)->(arrOf st).map (·.2)=UB vs q->failedOf st=none->wpAny (model prog w) A (G ((),st)) P E s):
  wpAny (model prog w) A (if vs.toArray.size<2 then pure general' >>= λkind=>(if vs.toArray.size<2 then pure ()else sortRuns').run (SortSt.mk' kind (ks.toArray.zip vs.toArray) #[] 7 none) >>= G
   else keyKind' ks.toArray >>= λkind=>(if vs.toArray.size<2 then pure ()else sortRuns').run (SortSt.mk' kind (ks.toArray.zip vs.toArray) #[] 7 none) >>= G) P E s:=by
 by_cases h:vs.toArray.size<2
 ·have D:Pm vs.length (List.range vs.length).toArray:=Array.Perm.refl _;rw[aw h,aw h];refine ag (aD ?_);rw[StateT.run_pure];refine ag (aD (B _ _ D ?_ ?_ rfl))
  ·have z:(List.range vs.length).length<2:=by simpa using h
   show(List.range vs.length).Pairwise (Le lt);generalize List.range vs.length=L at z
   match L,z with
   |[],_=>exact .nil
   |[x],_=>exact fL _ _
   |_::_::_,z=>exact absurd z (by simp)
  ·rw[RL];show(ks.toArray.zip vs.toArray).map (·.2)=vs.toArray;apply cC.mp;rw[Array.toList_map,Array.toList_zip];exact gZ (dR t.symm)
 ·rw[ao h,ao h];have r:2<=vs.length:=by simpa using h
  refine ag (kind r _ _ ?_);have I:Ans prog w A s kd (kas_item (ks.toArray.zip vs.toArray)) lt vs.length:=λi j Y hj C hC=>by
   rw[kat_item (ks:=ks) (vs:=vs) t i,kat_item (ks:=ks) (vs:=vs) t j];exact ask i j Y hj C hC
  have run:=uL (E:=E) (p:=(List.range vs.length).toArray) (g:=7) I o (Array.Perm.refl _) r (Q:=λ_ l=>∃ p:Array Nat,Pm vs.length p/\p.toList.Pairwise (Le lt)/\arrOf l=p.map (kas_item (ks.toArray.zip vs.toArray))/\failedOf l=none) λp' a0 g' a b=>⟨p',a,b,rfl,rfl⟩;have J:SS kd (kas_item (ks.toArray.zip vs.toArray)) (List.range vs.length).toArray #[] 7=SortSt.mk' kd (ks.toArray.zip vs.toArray) #[] 7 none:=by
   have e:=kas_range (ks.toArray.zip vs.toArray);rw[show(ks.toArray.zip vs.toArray).size=vs.length by simp[t]]at e;show SortSt.mk' kd ((List.toArray (List.range vs.length)).map (kas_item (ks.toArray.zip vs.toArray))) #[] 7 none=_;rw[e]
  rw[J]at run;refine ag (bU run ?_ λ_ _ z=>z);rintro⟨⟨⟩,l⟩ s' ⟨rfl,p,D,pu,O,hf⟩;exact B l p D pu (kat_snds t O) hf
theorem CK{kd:SortKind}(o:Ord lt){vs:List Value}{c:Nat}{P:PySem.Fin->Shared->Prop}(J:s.heap.get? a=some (seqObj "list" vs.toArray c))(h:vs.length<=sizeLine)
  (kind:∀ g:Heap,(∀b u,b≠a->s.heap.get? b=some u->g.get? b=some u)->2<=vs.length->∀(L:Value->Shared->Prop)(R:SortKind->Shared->Prop),R kd {s with heap:=g}->wpAny (model prog w) A (keyKind' vs.toArray) R L {s with heap:=g})
  (ask:∀ g:Heap,(∀b u,b≠a->s.heap.get? b=some u->g.get? b=some u)->∀ i j,i<vs.length->j<vs.length->∀ C:Bool->Shared->Prop,C (lt i j) {s with heap:=g}->
   wpAny (model prog w) A (keyLt' kd (vs.getD i Value.none) (vs.getD j Value.none)) C (λ_ _=>False) {s with heap:=g})
  (l:∀(q:Array Nat) h' e,Pm vs.length q->q.toList.Pairwise (Le lt)->(∀b u,b≠a->s.heap.get? b=some u->h'.get? b=some u)->h'.get? a=some (seqObj "list" (UB vs q) e)->P (.done (.ret .none)) {s with heap:=h'}):wpAny (model prog w) A (Builtin.«list.sort» ⟨[.ref a],[]⟩) P E s:=by
 rw[list_sort_plain];refine GJ J h λY h' r t _ _=>?_;refine oO (kd:=kd) o rfl (kind h' r) (ask h' r) λst q D O G U=>?_;refine ag (seqEpoch_at t rfl (ag (gg t rfl ?_ (br _) ?_)))
 ·rw[U];simp only[bne_self_eq_false,Bool.false_eq_true,if_false];obtain⟨z,B⟩:∃ z,(h'.update a (Obj.mapSeq λ_=>(arrOf st).map (·.2))).get? a=some (seqObj "list" ((arrOf st).map (·.2)) z):=⟨_,get?_update_seq t λ_=>_⟩
  exact aD (l q _ z D O (λb u I e=>by rw[c6 _ _ _ _ I];exact r b u I e) (B.trans (by rw[G])))
 ·rw[G];exact eO (Hn D h)
theorem xG{v:Value}{C:List Value->Prop}{Q:Value->Shared->Prop}(h:∀ vs,C vs->vs.length<=sizeLine)
  (z:∀ R:List Value->Shared->Prop,(∀(h':Heap) tk vs,(∀b o,s.heap.get? b=some o->h'.get? b=some o)->C vs->R vs {s with heap:=h',toks:=tk})->wpAny (model prog w) A.in1 (collect v) R E s)
  (B:∀(h':Heap) tk vs,(∀b o,s.heap.get? b=some o->h'.get? b=some o)->C vs->∃(kd:SortKind)(lt:Nat->Nat->Bool),Ord lt/\
   (∀g:Heap,(∀b o,h'.get? b=some o->g.get? b=some o)->2<=vs.length->∀(J:Value->Shared->Prop)(R:SortKind->Shared->Prop),R kd {s with heap:=g,toks:=tk}->wpAny (model prog w) A.in1.in1 (keyKind' vs.toArray) R J {s with heap:=g,toks:=tk})/\
   (∀g:Heap,(∀b o,h'.get? b=some o->g.get? b=some o)->∀ i j,i<vs.length->j<vs.length->∀ C:Bool->Shared->Prop,C (lt i j) {s with heap:=g,toks:=tk}->wpAny (model prog w) A.in1.in1 (keyLt' kd (vs.getD i Value.none) (vs.getD j Value.none)) C (λ_ _=>False) {s with heap:=g,toks:=tk})/\
   ∀(q:Array Nat)(l:Heap)(e:Nat),Pm vs.length q->q.toList.Pairwise (Le lt)->(∀b o,h'.get? b=some o->l.get? b=some o)->l.get? h'.objs.size=some (seqObj "list" (UB vs q) e)->Q (.ref h'.objs.size) {s with heap:=l,toks:=tk}):
  wpAny (model prog w) A (call (.builtin "sorted") [v]) Q E s:=by
 refine Calls.call_function_entry kind_sorted plain_sorted entry_sorted (args_sorted1 _) ?_;unfold Builtin.«sorted»;refine ag (m:=checkCount "sorted" 1 1 _) (aD (ag (z _ λh' tk vs L D=>?_)));obtain⟨kd,lt,o,r,ask,t⟩:=B h' tk vs L D;refine ag (gU ?_ (h vs D));have I:(h'.push (seqObj "list" vs.toArray 0)).get? h'.objs.size=some (seqObj "list" vs.toArray 0):=aR _ rfl;have G:∀{g:Heap},(∀b u,b≠h'.objs.size->(h'.push (seqObj "list" vs.toArray 0)).get? b=some u->g.get? b=some u)->∀ b o,h'.get? b=some o->g.get? b=some o:=λk b o e=>k b o (bf (aL e)) (am _ e);exact ag (cr (c8 (s:={s with heap:=h'.push (seqObj "list" vs.toArray 0),toks:=tk}) slot_list_sort ⟨_,I,rfl⟩ entry_list_sort (CK (kd:=kd) o I (h vs D) (λg k=>r g (G k)) (λg k=>ask g (G k)) λq l e O U k Y=>⟨_,rfl,aD ⟨_,rfl,t q l e O U (G k) Y⟩⟩) (args_list_sort _)))
end
inductive Kn:List PyData->Prop
 |int {ds:List PyData}:(∀d∈ds,∃i,d=.int i)->Kn ds
 |str {ds:List PyData}:(∀d∈ds,∃s,d=.str s)->Kn ds
 |tint {ds:List PyData}:(∀d∈ds,∃i l,d=.tuple (.int i::l))->Kn ds
 |tstr {ds:List PyData}:(∀d∈ds,∃s l,d=.tuple (.str s::l))->Kn ds
 |ttup {ds:List PyData}:(∀d∈ds,∃m l,d=.tuple (.tuple m::l))->Kn ds
structure Qk(ds:List PyData):Prop where
 few:ds.length<=sizeLine
 kn:Kn ds
 pl:∀ d∈ds,pln d=true/\d.canLay0=true/\d.depth<=64
 cm:∀ d∈ds,∀e∈ds,ZW d e=true
noncomputable def ltI(ds:List PyData)(i j:Nat):Bool:=match ds[i]?,ds[j]? with
 |some a,some b=>ltD a b
 |some _,none=>true
 |_,_=>false
theorem Rj{a b:PyData}(g:ds[i]?=some a)(h:ds[j]?=some b):ltI ds i j=ltD a b:=by
 unfold ltI;rw[g,h]
theorem Sl(h:Qk ds):Ord (ltI ds):=by
 refine⟨λa b k=>?_,λa b c t l=>?_⟩
 ·unfold ltI at k⊢;cases r:ds[a]? with
  |none=>rw[r]at k;cases g:ds[b]? <;>rw[g]at k<;>cases k
  | some x=>
   cases g:ds[b]? with
   |none=>rfl
   |some y=>
    rw[r,g]at k;exact YD x y (h.pl x (az r)).1 (h.pl y (az g)).1 k
 ·unfold Le ltI at t l⊢;cases r:ds[a]? with
  | none=>
   cases g:ds[b]? with
   |none=>cases B:ds[c]? with
    |none=>rfl
    |some z=>rw[g,B]at l;cases l
   |some y=>rw[r,g]at t;cases t
  | some x=>
   cases B:ds[c]? with
   |none=>rfl
   | some z=>
    cases g:ds[b]? with
    |none=>rw[g,B]at l;cases l
    |some y=>
     rw[r,g]at t;rw[g,B]at l;have C:=az r;have D:=az g;have E:=az B;exact UI x y z (h.pl x C).1 (h.pl y D).1 (h.pl z E).1 (h.cm x C y D) (h.cm y D z E) (h.cm x C z E) t l
section
variable{prog:Program}{E:Value->Shared->Prop}
theorem O2{b g k:Bool}{Q:Bool->Shared->Prop}{vs t:List Value}(h:Rb A s vs t k):(b&&i==0)=false->(vs.length<t.length↔g=true)->Q k s->KatLex prog w A b g Q (vs.zip t) i s:=by
 induction h generalizing i with
 |nn=>
  intro r l q;have e:g=false:=by cases g with|false=>rfl|true=>exact absurd (l.mpr rfl) (by simp)
  rw[e];exact kat_nil q
 |nc=>
  intro r l q;have e:g=true:=l.mp (by simp);rw[e];exact kat_nil q
 |cn=>
  intro r l q;have e:g=false:=by cases g with|false=>rfl|true=>exact absurd (l.mpr rfl) (by simp)
  rw[e];exact kat_nil q
 |eq z _ B=>exact λr l q=>kat_cons (z prog w _ _ (kat_yes (B (by cases b<;>simp) (by simpa using l) q)))
 |ne z C=>
  intro r l q;refine kat_cons (z prog w _ _ (kat_no ?_));rw[r];exact kat_one _ _ (C prog w _ _ q)
theorem NV{h:Bool}{Q:Bool->Shared->Prop}{v:Value}{vs l:List Value}{x y:PyData}{xs g:List PyData}{as bs ds:List Addr}(r:(∃i j,x=.int i/\y=.int j)\/∃a b,x=.str a/\y=.str b)(t:Reads s.heap v x as)(z:Reads s.heap u y bs)(D:ReadsAll s.heap vs xs cs)(G:ReadsAll s.heap l g ds)
  (B:PyData.canLayAll0 (x::xs)=true) (C:PyData.canLayAll0 (y::g)=true) (c:ZN (x::xs) (y::g)=true) (I:A.units+min (PyData.depthAll (x::xs)) (PyData.depthAll (y::g))<cLine) (J:(v::vs).length<(u::l).length↔h=true) (q:Q (Yt (x::xs) (y::g)) s):
  KatLex prog w A true h Q ((v::vs).zip (u::l)) 0 s:=by
 rw[PyData.canLayAll0,b_]at B C;rw[PyData.depthAll,PyData.depthAll]at I;rw[ZN]at c;rw[Yt]at q;have L:=SeqAt.eqAt_reads x y A s _ _ _ _ t z B.1 C.1 (by lia);refine kat_cons (L prog w _ _ ?_);cases e:PyData.eqv x y with
 |true=>
  rw[e,aw rfl]at c q;exact kat_yes (O2 (VQ xs g A s _ _ _ _ D G B.2 C.2 c (by lia)) (by simp) (by simpa using J) q)
 |false=>
  rw[e,ao (by decide)]at q;refine kat_no ?_
  rcases r with⟨i,j,rfl,rfl⟩|⟨a,b,rfl,rfl⟩
  ·cases t;cases z;rw[ltD]at q;exact oneLt_int q
  ·cases t;cases z;rw[ltD]at q;exact oneLt_str q
end
theorem ReadsAll.at{h:Heap}:∀{vs:List Value}{ds:List PyData}{as:List Addr},ReadsAll h vs ds as->∀{i:Nat}{d:PyData},ds[i]?=some d->∃ bs,Reads h (vs.getD i Value.none) d bs
 |_,_,_,.nil,i,d,e=>by simp at e
 |_,_,_,.cons g l,0,d,e=>by
  cases e;exact⟨_,g⟩
 |_,_,_,.cons g l,i+1,d,e=>by
  obtain⟨bs,q⟩:=ReadsAll.at l (i:=i) (d:=d) (by simpa using e);exact⟨bs,by simpa using q⟩
theorem YE{h:Heap}{v:Value}{l:List PyData}{as:List Addr}(r:Reads h v (.tuple l) as):∃(a:Addr)(o:Obj)(xs:Array Value)(n:Nat)(bs:List Addr),v=.ref a/\h.get? a=some o/\o.cls=.type "tuple"/\o.data=.seq xs n/\ReadsAll h xs.toList l bs:=by
 cases r with
 |tuple g t z B=>exact⟨_,_,_,_,_,rfl,g,t,z,B⟩
theorem XA{h:Heap}{xs:Array Value}{x:PyData}{l:List PyData}{bs:List Addr}(r:ReadsAll h xs.toList (x::l) bs):∃ v vs as cs,xs.toList=v::vs/\xs[0]?=some v/\Reads h v x as/\ReadsAll h vs l cs:=by
 generalize e:xs.toList=L at r;cases r with
 |cons g t=>exact⟨_,_,_,_,rfl,by rw[<-bH,e];rfl,g,t⟩
theorem kat_tups{h:Heap}{T:Value}{P:PyData->Prop}(t:∀ v x as,Reads h v x as->P x->∀ M:Model,Looks M h (typeOf v) T):∀{vs:List Value}{ds:List PyData}{as:List Addr},ReadsAll h vs ds as->(∀d∈ds,∃x l,d=.tuple (x::l)/\P x)->∃ g,KatTups h vs g/\g.length=vs.length/\∀v∈g,∀M:Model,Looks M h (typeOf v) T
 |_,_,_,.nil,_=>⟨[],.nil,rfl,λv z=>nomatch z⟩
 |_,_,_,.cons B C,hd=>by
  obtain⟨g,D,E,G⟩:=kat_tups t C λd I=>hd d (aq _ I);obtain⟨x,l,rfl,J⟩:=hd _ aj;obtain⟨a,o,xs,n,bs,rfl,L,O,U,Y⟩:=YE B;obtain⟨v,a0,a1,cs,e1,e2,e3,e4⟩:=XA Y;refine⟨v::g,.cons L O U e2 D,by simp[E],λu r=>?_⟩
  rcases aW.mp r with rfl|r
  ·exact t _ _ _ e3 J
  ·exact G u r
section
variable{prog:Program}
theorem BP{h:Heap}{vs:List Value}{as:List Addr}(r:ReadsAll h vs ds as)(g:i<vs.length):∃ d bs,ds[i]?=some d/\Reads h (vs.getD i Value.none) d bs:=by
 have n:=fW _ _ _ r;obtain⟨bs,q⟩:=ReadsAll.at r (i:=i) (d:=ds[i]) (by simp[show i<ds.length by omega]);exact⟨_,bs,by simp[show i<ds.length by omega],q⟩
theorem lW(h:Qk ds){vs:List Value}(hu:A.units+64<cLine):
  ∃kd:SortKind,∀(s:Shared)(as:List Addr),ReadsAll s.heap vs ds as->(2<=vs.length->∀(B:Value->Shared->Prop)(R:SortKind->Shared->Prop),R kd s->wpAny (model prog w) A (keyKind' vs.toArray) R B s)/\
   ∀i j,i<vs.length->j<vs.length->∀ C:Bool->Shared->Prop,C (ltI ds i j) s->wpAny (model prog w) A (keyLt' kd (vs.getD i Value.none) (vs.getD j Value.none)) C (λ_ _=>False) s:=by
 have Y:∀(T:Value)(P:PyData->Prop),(T != Value.type "tuple")=true->(T==T)=true->(∀d∈ds,P d)->(∀h v x as,Reads h v x as->P x->∀ M:Model,Looks M h (typeOf v) T)->(∀(s:Shared) v u x y as L (C:Bool->Shared->Prop),Reads s.heap v x as->Reads s.heap u y L->P x->P y->C (ltD x y) s->wpAny (model prog w) A (keyLt' oneType' v u) C (λ_ _=>False) s)->
   ∃kd:SortKind,∀(s:Shared)(as:List Addr),ReadsAll s.heap vs ds as->(2<=vs.length->∀(B:Value->Shared->Prop)(R:SortKind->Shared->Prop),R kd s->wpAny (model prog w) A (keyKind' vs.toArray) R B s)/\
    ∀i j,i<vs.length->j<vs.length->∀ C:Bool->Shared->Prop,C (ltI ds i j) s->wpAny (model prog w) A (keyLt' kd (vs.getD i Value.none) (vs.getD j Value.none)) C (λ_ _=>False) s:=by
  intro T P t1 t2 hd hP hl;refine⟨oneType',λs as r=>⟨λh2 B R hR=>kas_kind (T:=T) h2 (λv hv=>?_) t1 t2 hR,λi j O hj C g=>?_⟩⟩
  ·obtain⟨i,O,rfl⟩:=bJ hv;obtain⟨d,L,D,U⟩:=BP r O;have e3:vs.getD i Value.none=vs[i]:=by simp[O]
   rw[e3]at U;exact hP _ _ _ _ U (hd d (az D)) _
  ·obtain⟨d,L,D,U⟩:=BP r O;obtain⟨d',a1,t,E⟩:=BP r hj;rw[Rj D t]at g;exact hl s _ _ _ _ _ _ C U E (hd d (az D)) (hd d' (az t)) g
 have G:∀(T:Value)(P:PyData->Prop),(T==T)=true->(∀d∈ds,∃x l,d=.tuple (x::l)/\P x)->(∀h v x as,Reads h v x as->P x->∀ M:Model,Looks M h (typeOf v) T)->
   ((T != Value.type "tuple")=true->∀ x y,P x->P y->(∃i j,x=PyData.int i/\y=.int j)\/∃a b,x=.str a/\y=.str b)->
   ∃kd:SortKind,∀(s:Shared)(as:List Addr),ReadsAll s.heap vs ds as->(2<=vs.length->∀(B:Value->Shared->Prop)(R:SortKind->Shared->Prop),R kd s->wpAny (model prog w) A (keyKind' vs.toArray) R B s)/\
    ∀i j,i<vs.length->j<vs.length->∀ C:Bool->Shared->Prop,C (ltI ds i j) s->wpAny (model prog w) A (keyLt' kd (vs.getD i Value.none) (vs.getD j Value.none)) C (λ_ _=>False) s:=by
  intro T P t2 hd hP a2;refine⟨tuples' (T != Value.type "tuple"),λs as r=>⟨λh2 B R hR=>?_,λi j O hj C g=>?_⟩⟩
  ·obtain⟨fs,k1,k2,k3⟩:=kat_tups (hP s.heap) r hd;exact kat_kind (T:=T) k1 (by omega) (λv hv=>k3 v hv _) t2 hR
  ·obtain⟨d,L,D,U⟩:=BP r O;obtain⟨d',a1,t,E⟩:=BP r hj;rw[Rj D t]at g;have m1:=az D;have m2:=az t;obtain⟨x,l,rfl,px⟩:=hd d m1;obtain⟨y,l',rfl,py⟩:=hd d' m2;have c:=h.cm _ m1 _ m2;have p1:=h.pl _ m1;have p2:=h.pl _ m2;rw[PyData.canLay0,PyData.depth]at p1 p2;rw[ZW]at c;rw[ltD]at g;obtain⟨a,o,xs,nn,cs,ea,h1,h2,h3,h4⟩:=YE U;obtain⟨a',o',a0,b5,b6,a3,a4,b7,a5,I⟩:=YE E;rw[ea,a3];have z1:=fW _ _ _ h4;have z2:=fW _ _ _ I;refine kat_lt h1 h3 a4 a5 ?_;have fz:xs.toList.length<a0.toList.length↔decide (xs.size<a0.size)=true:=by rw[dz,aS,aS]
   cases et:(T != Value.type "tuple")with
   |false=>exact O2 (VQ _ _ A s _ _ _ _ h4 I p1.2.1 p2.2.1 c (by omega)) rfl fz g
   |true=>
    obtain⟨v,b8,b9,c0,f1,f2,f3,f4⟩:=XA h4;obtain⟨v',b2,b3,b4,a6,c1,a7,a8⟩:=XA I;rw[f1,a6]at fz⊢;exact NV (a2 et x y px py) f3 a7 f4 a8 p1.2.1 p2.2.1 c (by omega) fz g
 rcases h.kn with hd|hd|hd|hd|hd
 ·refine Y (.type "int") (λd=>∃ i,d=.int i) rfl rfl hd (λh v x as r ⟨i,e⟩ M=>?_) λs v u x y as L C r1 r2 ⟨i,e⟩ ⟨j,J⟩ g=>?_
  ·subst e;cases r;exact .now
  ·subst e J;cases r1;cases r2;rw[ltD]at g;exact kat_lt_int g
 ·refine Y (.type "str") (λd=>∃ i,d=.str i) rfl rfl hd (λh v x as r ⟨i,e⟩ M=>?_) λs v u x y as L C r1 r2 ⟨i,e⟩ ⟨j,J⟩ g=>?_
  ·subst e;cases r;exact .now
  ·subst e J;cases r1;cases r2;rw[ltD]at g;exact kas_lt_str g
 ·refine G (.type "int") (λd=>∃ i,d=.int i) rfl (λd m=>by obtain⟨i,l,e⟩:=hd d m;exact⟨_,l,e,i,rfl⟩) (λh v x as r ⟨i,e⟩ M=>?_) (λ_ x y z9 a9=>by obtain⟨i,e⟩:=z9;obtain⟨j,J⟩:=a9;exact .inl ⟨i,j,e,J⟩);subst e;cases r;exact .now
 ·refine G (.type "str") (λd=>∃ i,d=.str i) rfl (λd m=>by obtain⟨i,l,e⟩:=hd d m;exact⟨_,l,e,i,rfl⟩) (λh v x as r ⟨i,e⟩ M=>?_) (λ_ x y b0 b1=>by obtain⟨i,e⟩:=b0;obtain⟨j,J⟩:=b1;exact .inr ⟨i,j,e,J⟩);subst e;cases r;exact .now
 ·refine G (.type "tuple") (λd=>∃ i,d=.tuple i) rfl (λd m=>by obtain⟨i,l,e⟩:=hd d m;exact⟨_,l,e,i,rfl⟩) (λh v x as r ⟨i,e⟩ M=>?_) λz=>absurd z (by decide);subst e;obtain⟨a,o,xs,nn,cs,rfl,h1,h2,h3,h4⟩:=YE r;exact h2▸(Looks.ld h1).andThen .now
end
theorem Ra(r:Vals vs its):∀{l:List Nat},(∀i∈l,i<vs.length)->Vals (l.map λi=>vs.getD i V.non) (l.map λi=>its.getD i Value.none):=λ{l}=>by
 induction l with
 |nil=>intro _;exact .nil
 |cons i l t=>
  intro g;have h:=g i aj;obtain⟨u,z,B⟩:=r.get (aM h);refine .cons ?_ (t λj C=>g j (aq _ C));show L2.RelV (vs.getD i V.non) (its.getD i Value.none);rw[bY,bY,z,aM h];exact B
theorem oW(g:Dts K M H vs ds):∀{l:List Nat},(∀i∈l,i<ds.length)->Dts K M H (l.map λi=>vs.getD i V.non) (l.map λi=>ds.getD i PyData.none):=λ{l}=>by
 induction l with
 |nil=>intro _;exact .nil
 |cons i l t=>
  intro h;have r:=h i aj;obtain⟨v,z,B⟩:=g.get (aM r);refine .cons ?_ (t λj C=>h j (aq _ C));show Dt K M H (vs.getD i V.non) (ds.getD i PyData.none);rw[bY,bY,z,aM r];exact B
theorem Kd{q:Array Nat}(pm:Pm n q):q.toList.Perm (List.range n)/\∀i∈q.toList,i<n:=by
 have g:q.toList.Perm (List.range n):=by
  have:=Array.perm_iff_toList_perm.mp pm
  simpa using this
 exact⟨g,λi h=>fM.mp (g.mem_iff.mp h)⟩
def leD(a b:PyData):Prop:=ltD b a=false
theorem nv{l:List Nat}(g:∀ i∈l,i<ds.length)(z:l.Pairwise (Le (ltI ds))):l.Pairwise (λi j=>leD (ds.getD i .none) (ds.getD j .none)):=by
 refine fx (λ{i j} r t h=>?_) z;unfold Le at h;rw[Rj (aM (g j t)) (aM (g i r))]at h;unfold leD;rw[bY,bY,aM (g i r),aM (g j t)];exact h
theorem VG{p:Array Nat}(l:Dts K M H vs ds)(pm:Pm ds.length p)(r:p.toList.Pairwise (Le (ltI ds))):
  ∃g,g.Perm ds/\g.Pairwise leD/\Dts K M H (p.toList.map λi=>vs.getD i V.non) g:=by
 obtain⟨t,h⟩:=Kd pm;refine⟨_,?_,bd.mpr (nv h r),oW l h⟩;have:=t.map λi=>ds.getD i PyData.none
 rwa [map_range]at this
section
variable{prog:Program}{E:Value->Shared->Prop}{T:String}{r d:Addr}{P:Nat->Value->Prop}{OK:Heap->Prop}
def iN(P:Nat->Value->Prop)(n:Nat)(us:List Value):Prop:=us.length=n/\∀(i:Nat)(v:Value),us[i]?=some v->P i v
theorem Yp(K:KdlSrc prog w T r d n P OK)(J:A.handled=none)(t:OK s.heap)(L:n<=sizeLine)(Q:List Value->Shared->Prop)
  (h:∀(h':Heap) tk us,(∀b o,s.heap.get? b=some o->h'.get? b=some o)->iN P n us->Q us {s with heap:=h',toks:=tk}):wpAny (model prog w) A (collect (.ref r)) Q E s:=by
 obtain⟨O,U⟩:=K.there _ t;unfold collect;refine ag (wpAny_runValue (gr PySem.F.entry_proto_collect ?_));rw[eU PySem.F.plain_proto_collect _];show wpAny _ A.in1 (newList [] >>= λl=>again (.builtin "list.__iadd__" ⟨[l,.ref r],[]⟩)) _ _ s;refine ag (gU (aD ⟨plainId_quiet PySem.F.plain_list_iadd _,gr PySem.F.entry_list_iadd ?_⟩));rw[eU PySem.F.plain_list_iadd _];show wpAny _ A.in1 (Builtin.List.listExtendWith (.ref s.heap.objs.size) (.ref r) (.ref s.heap.objs.size)) _ _ {s with heap:=s.heap.push (seqObj "list" #[] 0)};refine bU (kdl_extend (R:=λD B=>match D with| .ok (.ret v)=>wpAny (model prog w) A (match v with| .ref a=>(do match(<-load a).data with| .seq xs _=>pure xs.toList|_=>unsupported "internal:collect")|_=>unsupported "internal:collect") Q E B| .ok _=>False| .error e=>E e B) (s:={s with heap:=s.heap.push (seqObj "list" #[] 0)}) K J (K.keep _ _ t λb _ o e=>am _ e) s.heap.objs.size (eY O) (eY U) (.ref s.heap.objs.size) 0 (aR _ rfl) (λh' tk C Y k hS g=>?_) L) (λfn B G=>?_) λe B he=>he
 ·show wpAny _ A (load s.heap.objs.size >>= _) _ _ _;exact ag (wpAny_load hS (aD (h h' tk C.toList (λb o e=>k b o (bf (aL e)) (am _ e)) ⟨(aS (xs:=C)).trans g.1,λi v z=>g.2 i v (by rw[<-bH];exact z)⟩)))
 ·cases fn with
  |done f=>cases f<;>exact G
  | again Y=>exact⟨G.1,gA G.2 λD B I=>by
    cases D with
    |error e=>exact I
    |ok f=>cases f<;>exact I⟩
end
section
variable{σ:L2.St}
theorem Kb{v:Value}{C:List Value->Prop}{vs:List V}{ds:List PyData}{Q:VK}(U:QL kk X.A)(I:L2.Inv X pins σ H s)
  (z:∀ R:List Value->Shared->Prop,(∀(h':Heap) tk us,(∀b o,s.heap.get? b=some o->h'.get? b=some o)->C us->R us {s with heap:=h',toks:=tk})->wpAny (model X.prog X.w) X.A.in1 (collect v) R X.xe s)
  (r:∀ us,C us->Vals vs us/\∃as,ReadsAll s.heap us ds as) (hd:vs.length=ds.length) (t:Qk ds)
  (Y:∀ q:Array Nat,Pm ds.length q->q.toList.Pairwise (Le (ltI ds))->∀ l,H l=none->Q (.ref l) (upd H l (.lst (q.toList.map λi=>vs.getD i .non)))):
  wpAny (model X.prog X.w) X.A (call (.builtin "sorted") [v]) (EP X pins σ Q) X.xe s:=by
 have hu:X.A.in1.in1.units+64<cLine:=by
  have:=U.un;rw[in1_units,in1_units];lia
 have E:∀ us,C us->us.length=ds.length:=λus h=>(r us h).1.length.symm.trans hd;refine xG (C:=C) (λus h=>by rw[E us h];exact t.few) z λh' tk us G J=>?_;obtain⟨rv,as,rd⟩:=r us J;obtain⟨kd,ask⟩:=lW (prog:=X.prog) (w:=X.w) (A:=X.A.in1.in1) t (vs:=us) hu;have L:=λg (k:∀ b o,h'.get? b=some o->Heap.get? g b=some o)=>ask {s with heap:=g,toks:=tk} as (ReadsAll.keeps (λb o e=>k b o (G b o e)) rd);refine⟨kd,ltI ds,Sl t,λg k=>(L g k).1,λg k=>(L g k).2,λq h2 e B pu k he=>?_⟩;have O:L2.Inv X pins σ H {s with heap:=h',toks:=tk}:=I.kept G;rw[E us J]at B;obtain⟨pl,D⟩:=Kd B;refine⟨.ref h'.objs.size,_,O.laid (t':=tk) (a:=h'.objs.size) (o:=.lst (q.toList.map λi=>vs.getD i .non)) k (ak _) ⟨?_,q.toList.map λi=>us.getD i Value.none,e,Ra rv λi hi=>by rw[hd];exact D i hi,he⟩,rfl,Y q B pu _ (O.hok.fresh (ak _))⟩;rw[aa,pl.length_eq,dq];exact t.few
def v5(K:Fk):List V->Hp->VK->Prop:=λxs H Q=>∃(p:Addr)(M:Mp)(vs:List V)(ds:List PyData),xs=[.ref p]/\SqL K H p vs/\Dts K M H vs ds/\Qk ds/\
 ∀q:Array Nat,Pm ds.length q->q.toList.Pairwise (Le (ltI ds))->∀ l,H l=none->Q (.ref l) (upd H l (.lst (q.toList.map λi=>vs.getD i .non)))
theorem Cj(t:QL kk X.A):JA X (.builtin "sorted") (v5 X.K):=by
 intro pins s σ H xs us Q I r h;obtain⟨p,M,vs,ds,rfl,z,hd,l,q⟩:=h;obtain⟨u,rfl,B⟩:=vals1 r;cases B;obtain⟨its,g,D,_⟩:=I.list z;refine Kb (C:=λus=>us=its) t I (λR h=>collect_list D.isList (h _ s.toks its (λb u e=>?_) rfl) (by rw[<-g.length,hd.length];exact l.few)) (λus e=>e▸⟨g,(Dts.reads I hd g).imp λ_ h=>h.1⟩) hd.length l q;rw[c6 _ _ _ _ (bf (aL e))];exact am _ e
def NL:D1:=λxs M Φ=>on1 xs λx=>onK x M λds=>Qk ds/\∀g:List PyData,g.Perm ds->g.Pairwise leD->Φ (.dat (.list g)) M
theorem Xm(C:QL kk X.A):J6 X (.builtin "sorted") NL:=by
 refine⟨_,Cj C,λvs H xs M Φ Q r D h k=>?_⟩;obtain⟨x,rfl,h⟩:=(ZP h);obtain⟨ds,g,E,q⟩:=(V8 h);replace g:Ml x M ds:=g;obtain⟨v,rfl,G⟩:=Paired.one D;obtain⟨a,I,rfl,J,B⟩:=g.sq r G;refine⟨a,M,I,ds,rfl,J,B,E,λp L O l t=>?_⟩;obtain⟨z,U,Y,e3⟩:=VG B L O;exact k.dat (r.new t) (Step.new t) (Dt.JG r t e3) (q z U Y)
end
section
variable{prog:Program}{E:Value->Shared->Prop}{lt:Nat->Nat->Bool}
theorem sB{f:Addr}{l:Addr}{vs:List Value}{Q:Value->Shared->Prop}(J:Nat->Nat->List Value->Shared->Prop)(gl:s.heap.IsList l vs.toArray)(h:vs.length<=sizeLine)
  (J0:∀ r g,(∀b u,s.heap.get? b=some u->r.get? b=some u)->r.get? (s.heap.objs.size+1)=some (seqObj "list" #[] g)->r.get? (s.heap.objs.size+3)=some (seqObj "list" #[] 0)->s.heap.objs.size+4<=r.objs.size->J g 0 [] {s with heap:=r})
  (hJ:∀ g i ks s',J g i ks s'->s'.heap.get? (s.heap.objs.size+1)=some (seqObj "list" #[] g)/\(∃e,s'.heap.get? (s.heap.objs.size+3)=some (seqObj "list" ks.toArray e))/\ks.length=i)
  (I:∀ g i v ks s',vs[i]?=some v->J g i ks s'->wpAny (model prog w) A.in1.in1 (call (.ref f) [v]) (λk D=>(∃e,D.heap.get? (s.heap.objs.size+3)=some (seqObj "list" ks.toArray e))/\J g (i+1) (ks++[k]) {D with heap:=D.heap.update (s.heap.objs.size+3) (Obj.mapSeq (·.push k))}) (λ_ _=>False) s')
  (a0:∀ g ks s',J g vs.length ks s'->∃(kd:SortKind)(lt:Nat->Nat->Bool),Ord lt/\(2<=vs.length->∀(E':Value->Shared->Prop)(R:SortKind->Shared->Prop),R kd s'->wpAny (model prog w) A.in1.in1 (keyKind' ks.toArray) R E' s')/\
   (∀i j,i<vs.length->j<vs.length->∀ C:Bool->Shared->Prop,C (lt i j) s'->wpAny (model prog w) A.in1.in1 (keyLt' kd (ks.getD i Value.none) (ks.getD j Value.none)) C (λ_ _=>False) s')/\
   ∀(q:Array Nat) h' c,Pm vs.length q->q.toList.Pairwise (Le lt)->(∀b u,b≠s.heap.objs.size+1->b≠s.heap.objs.size+3->s'.heap.get? b=some u->h'.get? b=some u)->h'.get? (s.heap.objs.size+1)=some (seqObj "list" (UB vs q) c)->Q (.ref (s.heap.objs.size+1)) { s' with heap:=h'}):
  wpAny (model prog w) A (call (.builtin "sorted") [.ref l] [(Str.ofString "key",.ref f)]) Q E s:=by
 have U:((s.heap.push (seqObj "list" #[] 0)).update s.heap.objs.size (Obj.mapSeq (· ++vs.toArray))).objs.size=s.heap.objs.size+1:=(Heap.size_update _ _ _).trans (size_push' _ _);have g0:(((s.heap.push (seqObj "list" #[] 0)).update s.heap.objs.size (Obj.mapSeq (· ++vs.toArray))).push (seqObj "list" vs.toArray 0)).get? (s.heap.objs.size+1)=some (seqObj "list" vs.toArray 0):=U▸aR _ rfl;have t:∀ b u,s.heap.get? b=some u->b≠s.heap.objs.size+1/\(((s.heap.push (seqObj "list" #[] 0)).update s.heap.objs.size (Obj.mapSeq (· ++vs.toArray))).push (seqObj "list" vs.toArray 0)).get? b=some u:=λb u e=>by
  have hb:=aL e;refine⟨bf (cf hb),am _ ?_⟩;rw[c6 _ _ _ _ (bf hb)];exact am _ e
 refine call_function_entry_kw kind_sorted plain_sorted entry_sorted (ksk_s1 _ _) ?_;unfold Builtin.«sorted»;refine ag (m:=checkCount "sorted" 1 1 _) (aD (ag (collect_list gl (ag (gU ?_ h)) h)));show wpAny _ _ _ _ _ {s with heap:=((s.heap.push (seqObj "list" #[] 0)).update s.heap.objs.size (Obj.mapSeq (· ++vs.toArray))).push (seqObj "list" vs.toArray 0)};rw[U];refine ag (cr (wpAny_call_entry_kw slot_list_sort ⟨_,g0,rfl⟩ entry_list_sort ?_ (ksk_l1 _ _)));show wpAny (model prog w) A.in1.in1 (Builtin.«list.sort» ⟨[.ref (s.heap.objs.size+1)],[(Str.ofString "key",.ref f)]⟩) _ _ _;rw[ksk_t1];generalize a1:((s.heap.push (seqObj "list" #[] 0)).update s.heap.objs.size (Obj.mapSeq (· ++vs.toArray))).push (seqObj "list" vs.toArray 0)=Y at g0 t⊢;have z1:Y.objs.size=s.heap.objs.size+2:=by rw[<-a1,size_push',U]
 have a2:s.heap.objs.size+3≠s.heap.objs.size+1:=eY (cf (e9 _));refine GJ (s:={s with heap:=Y}) g0 h λg r kp ga G z3=>?_;dsimp only at G z3⊢;rw[z1]at G z3⊢;unfold ksk_rest;refine ag (dS ?_);rw[<-Array.forIn_toList];simp only[List.toList_toArray];refine ag (ksk_fold (λi s'=>∃ ks,J g i ks s') vs 0 _ ⟨[],J0 r g (λb u q=>kp b u (t b u q).1 (t b u q).2) ga G (dR z3.symm)⟩ ?step ?done)
 case step=>
  rintro j x s' hx ⟨ks,z⟩;rw[cx]at z⊢;obtain⟨_,_,U⟩:=hJ g j ks s' z;have hj:j<vs.length:=(aE.mp hx).1;refine ag (gT (bU (I g j x ks s' hx z) (λv D he=>?_) λ_ _ hF=>hF.elim));obtain⟨⟨e,nk⟩,a3⟩:=he;dsimp only;refine ag (gg nk rfl ?_ (by rw[aQ];lia) (by rw[Array.size_push,aQ];lia));exact aD ⟨rfl,_,a3⟩
 case done=>
  rintro s' ⟨ks,z⟩;rw[cx]at z;obtain⟨ga,⟨e,G⟩,hl⟩:=hJ g _ ks s' z;obtain⟨kd,lt,o,L,ask,O⟩:=a0 g ks s' z;refine ag (listItems_at G rfl ?_);unfold ksk_end;dsimp only;simp only[Bool.false_eq_true,if_false];refine oO (kd:=kd) o hl L ask λst q pm pu es hf=>?_;have s1:=cM s'.heap (s.heap.objs.size+3) (Obj.mapSeq λ_=>(#[]:Array Value));have B:(s'.heap.update (s.heap.objs.size+3) (Obj.mapSeq λ_=>(#[]:Array Value))).get? (s.heap.objs.size+1)=some (seqObj "list" #[] g):=(s1.2 _ a2.symm).trans ga;have D:=cM (s'.heap.update (s.heap.objs.size+3) (Obj.mapSeq λ_=>(#[]:Array Value))) (s.heap.objs.size+1) (Obj.mapSeq λ_=>UB vs q);unfold ksk_tail;dsimp only;refine ag (gg G rfl (ag (wpAny_letGo (ag (seqEpoch_at B rfl ?_)))) (by rw[aQ,hl];exact h) (br _));simp only[Bool.false_eq_true,if_false];rw[es];refine ag (gg B rfl ?_ (br _) (eO (Hn pm h)));rw[hf];simp only[bne_self_eq_false,Bool.false_eq_true,if_false];obtain⟨c2,a4⟩:∃ c2,((s'.heap.update (s.heap.objs.size+3) (Obj.mapSeq λ_=>(#[]:Array Value))).update (s.heap.objs.size+1) (Obj.mapSeq λ_=>UB vs q)).get? (s.heap.objs.size+1)=some (seqObj "list" (UB vs q) c2):=⟨_,get?_update_seq B λ_=>_⟩
  exact aD ⟨_,rfl,aD ⟨_,rfl,O q _ c2 pm pu (λb u Y h2 q=>(D.2 b Y).trans ((s1.2 b h2).trans q)) a4⟩⟩
end
section
variable{σ:L2.St}
theorem adopt{o:HO}(I:L2.Inv X pins σ H s)(r:X.s₀.heap.objs.size<=b)(t:H b=none)(B:b≠X.env.locals)(C:∀ x c,X.env.cells.lookup x=some c->c≠b)(D:∀ p∈X.pn++pins,p.1≠b)(E:Qc X.prog X.w (upd H b o) s.heap b o):L2.Inv X pins σ (upd H b o) s:=by
 have g:∀{c:Addr}{u:HO},H c=some u->c≠b:=λ{c u} e z=>by rw[z,t]at e;cases e
 have l:∀{c:Addr}{u:Obj},X.s₀.heap.get? c=some u->c≠b:=λ{c u} e z=>by
  have:=aL e;rw[z]at this;exact absurd this (gF.mpr r)
 have U:=I.base;refine⟨I.ok,I.os,I.bare,⟨U.keep,U.slot,λc u e n G=>?_,U.there,λc xs e=>?_,λc u x e=>?_,λc ps e=>?_⟩,I.loc,I.cell,?_,λx c e=>?_,λp h=>?_,λc u e=>?_,I.len⟩
 ·rw[ZH (l e)];exact U.free c u e n G
 ·have z:=U.tups c xs e;rw[ZH (g z)];exact z
 ·have z:=U.frzs c u x e;rw[ZH (g z)];exact z
 ·obtain⟨J,z⟩:=U.tbls c ps e;exact⟨J,by rw[ZH (g z)];exact z⟩
 ·rw[ZH (be B)];exact I.free
 ·rw[ZH (C x c e)];exact I.freeC x c e
 ·obtain⟨L,O,Y⟩:=I.pin p h;exact⟨L,by rw[ZH (D p h)];exact O,Y⟩
 ·by_cases z:c=b
  ·subst z;rw[Z0]at e;cases e;exact E
  ·rw[ZH z]at e;exact(I.hok c u e).stay (λ_ _ _ y=>y) (λd y=>by rw[ZH (g y)];exact y) λd xs y=>by rw[ZH (g y)];exact y
end
section
variable{p kp:Pos}{a L:Expr}{ta:TA}{tl:TE}{k0:Nat}{cl:List (Str×Addr)}
def ub(X:Cx)(k0:Nat)(cl:List (Str×Addr))(ta:TA)(tl:TE):TE:=λσ H Q=>(∀q∈cl,X.base.get? q.2=none/\q.2∉frs X.stack)/\ta σ H λxs D=>tl σ D λE z=>∃(l:Addr)(vs:List V)(f:Addr)(fd:FuncData)(B:Str)(C:Sp)(k:Nat),
 xs=[.ref l]/\SqL X.K z l vs/\E=.ref f/\k<=k0/\Qx X.prog X.w X.K X.mg X.base CX0 k f fd [B] C/\(∀(s:Shared)(us:List Value),us.length=1->BindsTo s fd ⟨us,[]⟩ ([B].zip us))/\
 ∃J:Nat->List V->Hp->Prop,J 0 [] z/\
  (∀i v g H',vs[i]?=some v->J i g H'->∀ r:Addr->Obj,(∀c∈cl.map (·.2),H' c=none)->(∀q∈cl,∀(i:Nat)(v:V),X.N[i]?=some q.1->σ[i]?=some (some v)->pv (r q.2) v)->
   C [v] (lend H' (cl.map (·.2)) r) (λG h=>(∀c∈cl.map (·.2),h c=some (.ext (GR c (r c))))/\J (i+1) (g++[G]) (hole h (cl.map (·.2)))) λ_ _ _=>False)/\
  ∀g H',J vs.length g H'->∃(M:Mp)(ds:List PyData),Dts X.K M H' g ds/\Qk ds/\∀q:Array Nat,Pm ds.length q->q.toList.Pairwise (Le (ltI ds))->∀ t,H' t=none->Q (.ref t) (upd H' t (.lst (q.toList.map λi=>vs.getD i .non)))
theorem Lx(hr:QL (k0+2) X.A)(hg:Gl X "sorted")(hm:X.mg "sorted"=none)(ha:PA X [a] ta)(hL:PE X L tl)
  (O:∀ q∈cl,X.env.cells.lookup q.1=some q.2/\X.env.kindOf q.1≠some .local/\Vis X.env.scope q.1)
  (he:autoParam (∀pos,backTo pos (starEach [a] X.env)=(false,eval a X.env)::backTo pos (starEach [] X.env)) zz2._auto_1) (a8:autoParam (∀pos,(backTo pos (starEach [a] X.env)).any (·.1)=false) zz2._auto_1):
  PE X (.Call (.Name "sorted" p) [a] [⟨some (Str.ofString "key"),L,kp⟩] pos) (ub X k0 cl ta tl):=by
 intro pins s σ H Q I ⟨a3,h⟩;refine dP (Ua I hg hm (by decide+kernel:bootBuiltins "sorted"=some (.builtin "sorted")) ?_);refine callWith_kw (thn (ha pos pins s σ H _ I h) λus s1 z0=>?_) (he pos) (a8 pos);obtain⟨xs,H1,I1,r1,q1⟩:=z0;refine kws_cons (thn (hL pins s1 σ H1 _ I1 q1) λu g z2=>kws_nil ?_);obtain⟨vf,H2,I2,r2,l,vs,f,fd,pn,sp,k,C,t,e2,hk,F,U,J,J0,a1,a4⟩:=z2;subst C e2;obtain⟨u',rfl,rx⟩:=vals1 r1;cases rx;obtain rfl:u=Value.ref f:=r2;obtain⟨its,rv,pl,_⟩:=I2.list t;have n1:=rv.length;have a9:its.length<=sizeLine:=by
  obtain⟨_,_,_,z⟩:=I2.list t;lia
 have hu:X.A.in1.in1.units+64<cLine:=by
  have:=hr.un;rw[in1_units,in1_units];lia
 have room:QL k0 X.A.in1.in1:=hr.in1.in1;have f1:∀ H',H' (g.heap.objs.size+1)=none->Hb X pins H' (g.heap.objs.size+1):=λH' hn=>I2.eH (dM _) hn;have f3:∀ H',H' (g.heap.objs.size+3)=none->Hb X pins H' (g.heap.objs.size+3):=λH' hn=>I2.eH (cc _ _) hn;have a5:g.heap.objs.size+3≠g.heap.objs.size+1:=eY (cf (e9 _));have a6:∀{H':Hp}{B:Shared}{C e:Nat}{ks:List Value},L2.Inv X pins σ H' B->H' (g.heap.objs.size+1)=none->H' (g.heap.objs.size+3)=none->B.heap.get? (g.heap.objs.size+1)=some (seqObj "list" #[] C)->B.heap.get? (g.heap.objs.size+3)=some (seqObj "list" ks.toArray e)->
   L2.Inv X (pins++[(g.heap.objs.size+1,seqObj "list" #[] C),(g.heap.objs.size+3,seqObj "list" ks.toArray e)]) σ H' B:=λ{H' B C e ks} E n1 n3 g1 g3=>E.Xs λq t=>by
  rcases ax.mp t with t|t
  ·exact E.pin q (ay _ t)
  ·simp only[List.mem_cons,List.not_mem_nil,or_false]at t
   rcases t with rfl|rfl
   ·have z:=f1 H' n1;exact⟨g1,n1,z.2.1,z.2.2.1,λv z=>nomatch z⟩
   ·have z:=f3 H' n3;exact⟨g3,n3,z.2.1,z.2.2.1,λv z=>nomatch z⟩
 refine sB (λC i ks B=>∃(D:List V)(H':Hp)(e:Nat),L2.Inv X (pins++[(g.heap.objs.size+1,seqObj "list" #[] C),(g.heap.objs.size+3,seqObj "list" ks.toArray e)]) σ H' B/\Vals D ks/\J i D H' /\ks.length=i) pl.isList a9 (λh3 C kp g1 g3 _=>?_) (λC i ks B ⟨D,H',e,E,_,_,hl⟩=>?_) (λC i v ks B hv ⟨D,H',e,E,ra,hj,hl⟩=>?_) λC ks B ⟨D,H',e,E,ra,hj,hl⟩=>?_
 ·have I3:L2.Inv X pins σ H2 {g with heap:=h3,toks:=g.toks}:=I2.kept kp;exact⟨[],H2,0,a6 (ks:=[]) I3 (I2.hok.fresh (dM _)) (I2.hok.fresh (cc _ _)) g1 g3,.nil,J0,rfl⟩
 ·exact⟨(E.pin (g.heap.objs.size+1,seqObj "list" #[] C) (ay _ (ay _ aj))).1,⟨e,(E.pin (g.heap.objs.size+3,seqObj "list" ks.toArray e) (ay _ (ay _ (aq _ aj)))).1⟩,hl⟩
 ·obtain⟨x,ex,rx⟩:=Vals.back rv hv;have hc:∀ c∈cl.map (·.2),H' c=none/\X.base.get? c=none/\c∉frs X.stack/\B.heap.get? c=some ((B.heap.get? c).getD default):=λc hc=>by
   obtain⟨Y,t,rfl⟩:=af.mp hc;obtain⟨v,o,ho,_⟩:=E.cell Y.1 Y.2 (O Y t).1;exact⟨E.freeC _ _ (O Y t).1,(a3 Y t).1,(a3 Y t).2,by rw[ho];rfl⟩
  have q:=a1 i x D H' ex hj (λc=>(B.heap.get? c).getD default) (λc z=>(hc c z).1) λY t i v h1 h2=>by
   obtain⟨m,hn,hl⟩:=E.loc;obtain⟨u,ru,l⟩:=hl i Y.1 v h1 h2 (O Y t).2.2
   rcases l with⟨l,_⟩|⟨_,c,C,o,e2,e3⟩
   ·exact absurd l (O Y t).2.1
   ·rw[(O Y t).1]at C;cases C;exact⟨u,by rw[e2];exact e3,ru⟩
  have e0:Ti X.prog X.w X.K X.mg X.base X.A.in1.in1 X.stack B H':=by
   have z:=E.kM;exact⟨z.frames,z.mod,z.bs,z.bsz,z.CD,z.frf,z.hok,z.bare⟩
  refine wpAny_call (gA (F.run X.A.in1.in1 X.stack B _ ⟨[v],[]⟩ [v] [x] _ _ (room.mono hk) (RV e0 hc) (U B [v] rfl) (.cons rx .nil) q) λr G t=>?_);cases r with
  |error e=>exact False.elim t
  | ok fl=>
   cases fl with
   |next=>exact False.elim t
   |brk=>exact False.elim t
   |cont=>exact False.elim t
   | ret kv=>
    obtain⟨v',a0,a2,rk,hJ⟩:=E.after (rY (base:=X.base) hc t);have p1:=a2.pin (g.heap.objs.size+1,seqObj "list" #[] C) (ay _ (ay _ aj));have p3:=a2.pin (g.heap.objs.size+3,seqObj "list" ks.toArray e) (ay _ (ay _ (aq _ aj)));refine⟨⟨e,p3.1⟩,D++[v'],a0,?_⟩;obtain⟨c2,a7⟩:∃ c2,(G.heap.update (g.heap.objs.size+3) (Obj.mapSeq (·.push kv))).get? (g.heap.objs.size+3)=some (seqObj "list" (ks.toArray.push kv) c2):=⟨_,get?_update_seq p3.1 (·.push kv)⟩
    have Iu:L2.Inv X pins σ a0 G:=a2.YQ
    have I3:L2.Inv X pins σ a0 {G with heap:=G.heap.update (g.heap.objs.size+3) (Obj.mapSeq (·.push kv)),toks:=G.toks}:=F1 (ch:=[g.heap.objs.size+3]) Iu (λb o U q=>by
     rw[c6 _ _ _ _ (λz=>U (by rw[z];exact aj))]
     exact q) λb U=>by
      rw[au.mp U];exact f3 a0 p3.2.1
    have ek:ks.toArray.push kv=(ks++[kv]).toArray:=by simp
    rw[ek]at a7;exact⟨c2,a6 I3 p1.2.1 p3.2.1 (by show(G.heap.update _ _).get? _=_;rw[c6 _ _ _ _ (be a5)];exact p1.1) a7,ra.snoc rk,hJ,by rw[aB,hl];rfl⟩
 ·obtain⟨M,ds,hd,ok,hQ⟩:=a4 D H' (by rw[n1];exact hj);obtain⟨as,rd,_⟩:=Dts.reads E hd ra;obtain⟨kd,ask⟩:=lW (prog:=X.prog) (w:=X.w) (A:=X.A.in1.in1) ok (vs:=ks) hu;have el:its.length=ds.length:=by
   have:=hd.length;have:=ra.length;lia
  refine⟨kd,ltI ds,Sl ok,λh2=>(ask B as rd).1 (by lia),λi j hi hj=>(ask B as rd).2 i j (by lia) (by lia),λq h' c pm pu kp hc=>?_⟩;have p1:=E.pin (g.heap.objs.size+1,seqObj "list" #[] C) (ay _ (ay _ aj));have p3:=E.pin (g.heap.objs.size+3,seqObj "list" ks.toArray e) (ay _ (ay _ (aq _ aj)));have Iu:L2.Inv X pins σ H' B:=E.YQ;have I3:L2.Inv X pins σ H' {B with heap:=h',toks:=B.toks}:=F1 (ch:=[g.heap.objs.size+1,g.heap.objs.size+3]) Iu (λb o U q=>kp b o (λz=>U (by simp[z])) (λz=>U (by simp[z])) q) λb U=>by
   simp only[List.mem_cons,List.not_mem_nil,or_false]at U
   rcases U with rfl|rfl
   ·exact f1 H' p1.2.1
   ·exact f3 H' p3.2.1
  have z1:=f1 H' p1.2.1;rw[el]at pm;obtain⟨pl,b0⟩:=Kd pm;refine⟨.ref (g.heap.objs.size+1),_,adopt I3 (aA I2.sz (dM _)) p1.2.1 z1.2.1 (λx c e=>z1.2.2.2.2.1 x c e) (λq t=>z1.2.2.2.2.2 q t) ?_,rfl,hQ q pm pu _ p1.2.1⟩;refine⟨?_,q.toList.map λi=>its.getD i Value.none,c,Ra rv λi hi=>?_,hc⟩
  ·rw[aa,pl.length_eq,dq];exact ok.few
  ·have:=b0 i hi;have:=rv.length;lia
end
theorem Pp{ob:Addr->Obj}(h:∀ c∈cs,H c=none):hole (lend H cs ob) cs=H:=by
 funext b
 by_cases z:b∈cs
 ·rw[Vt z,h b z]
 ·rw[Z5 z,Qw z]
theorem Sk(h:∀ c∈cs,H' c=none):hole (fill H H' cs) cs=H':=by
 funext b
 by_cases z:b∈cs
 ·rw[Vt z,h b z]
 ·rw[Z5 z,JE z]
theorem yH(h:Dts K M H vs ds)(k:Dt K M H v d):Dts K M H (vs++[v]) (ds++[d]):=h.append (.cons k .nil)
def lI(base:Heap)(stack:List Env)(a P:Addr)(xc q:Str)(pos:Pos)(fd:Value->Value->Value->FuncData)(j:Nat)(te t:DTE):DTE:=λΔ M Φ=>(base.get? a=none/\a∉frs stack)/\te Δ M λx M1=>onL x λds=>iS [(xc,a)] P q pos fd Δ M1 λy M2=>onO y λf=>onV Δ[j]? λB=>∃ h C D,
 ∃J:Nat->List PyData->Mp->Prop,J 0 [] M2/\(∀i d g M',ds[i]?=some d->J i g M'->M' f=some (.ext (UM f (fd C (.ref h) D)))/\M' h=some (.ext (CJ h q))/\t [some (.dat d),some B] M' λz l=>onD z λE=>J (i+1) (g++[E]) l)/\
  ∀g M',J ds.length g M'->Qk g/\∀r:List Nat,r.Perm (List.range ds.length)->r.Pairwise (λi j=>leD (g.getD i .none) (g.getD j .none))->Φ (.dat (.list (r.map λi=>ds.getD i .none))) M'
theorem HX{body:Expr}{τ:DTE}{params:Arguments}{scope:Scope}{D p kp pos:Pos}{k:Nat}{xc pn:Str}{a c P:Addr}(j:Nat)(hr:QL (k+3) X.A)(hg:Gl X "sorted")(hm:X.mg "sorted"=none)(b4:DE X e te)
  (a4:∀ q∈[(xc,a)],X.env.cells.lookup q.1=some q.2/\X.env.kindOf q.1≠some .local/\Vis X.env.scope q.1) (O:X.env.code=.ref c) (hC:codeHdIn X.K c P=true) (B:BmB X.base X.mg) (Sc:GF [pn,xc] [pn] [xc] scope) (hj:X.N[j]?=some xc)
  (U:∀(q:Str)(f c':Addr)(A:Around)(outer:List Env)(s:Shared)(H:Hp),QL k (A.deeper (envX q scope s.heap.objs.size f (.ref c') [(xc,a)]))->DE (cxL X.prog X.w X.K X.mg X.base [pn,xc] q scope f (.ref c') [(xc,a)] A outer s H) body τ)
  (Y:∀(q:Str)(pm cd ct:Value)(s:Shared)(us:List Value),us.length=1->BindsTo s (kla_fn "<lambda>" q params body scope [(xc,a)] pm cd ct) ⟨us,[]⟩ ([pn].zip us))
  (a5:autoParam (defaultsOf params X.env=([],[])) zz3._auto_1) (a6:autoParam (closureFor scope X.env=pure [(xc,a)]) zz3._auto_1) (he:autoParam (∀pos,backTo pos (starEach [e] X.env)=(false,eval e X.env)::backTo pos (starEach [] X.env)) zz2._auto_1) (b5:autoParam (∀pos,(backTo pos (starEach [e] X.env)).any (·.1)=false) zz2._auto_1) (hs:autoParam (starEach [e] X.env=[(false,eval e X.env)]) zz3._auto_1):
  DE X (.Call (.Name "sorted" p) [e] [⟨some (Str.ofString "key"),.Lambda params body scope D,kp⟩] pos) (lI X.base X.stack a P xc (GG X) D (λpm cd ct=>kla_fn "<lambda>" (GG X) params body scope [(xc,a)] pm cd ct) j te τ):=by
 obtain⟨t1,p1,q1⟩:=b4;obtain⟨tl,pl,ql⟩:=wP (X:=X) (pos:=D) (params:=params) (body:=body) (scope:=scope) (Ka:=[(xc,a)]) (cl:=[(xc,a)]) a4 O hC B a5 a6;refine⟨_,Lx (k0:=k+1) (cl:=[(xc,a)]) hr hg hm (Yy p1 WN hs) pl a4 he b5,λσ H Δ M Φ Q r er h kk=>?_⟩;refine⟨λq hq=>by rw[au.mp hq];exact h.1,q1 σ H Δ M _ _ r er h.2 λv H1 x M1 r1 a0 rv hx=>?_⟩;obtain⟨ds,rfl,hx⟩:=(WC hx);obtain⟨l,vs,rfl,g1,g2⟩:=rv.lst;refine ql σ H1 Δ M1 _ _ r1 (er.step a0) hx λvf H2 y M2 r2 E rf hy=>?_;obtain⟨f,rfl,hy⟩:=(ZM hy);obtain⟨yc,b6,c',pm,ct,J,J0,a1,a7⟩:=(ni hy);cases(show vf=.ref f from rf);obtain⟨vc,b7,b8⟩:=er.at' j yc b6;have b9:=g1.step E;have a8:=g2.step E;have lk:∀{x':Str}{c:Addr},List.lookup x' [(xc,a)]=some c->x' =xc/\c=a:=λ{x' c} hh=>by
  rw[fZ]at hh
  by_cases z:x' =xc
  ·rw[z,g8]at hh;cases hh;exact⟨z,rfl⟩
  ·rw[beq_false_of_ne z]at hh;cases hh
 have a9:List.lookup xc [(xc,a)]=some a:=by rw[fZ,g8]
 have F:=qY (P:=X.prog) (w:=X.w) (K:=X.K) (mg:=X.mg) (base:=X.base) (N:=[pn,xc]) (ps:=[pn]) (fr:=[xc]) (qual:=GG X) (scope:=scope) (f:=f) (cl:=[(xc,a)]) (k:=k) (c':=c') (params:=params) (body:=body) (pm:=pm) (ct:=ct)
  (sp:=λvs b0 H Q=>∃ xs G M Φ,ZR X.K M H/\JQ X.K M H vs xs/\JQ X.K M H b0 G/\τ ((xs++G).map some) M Φ/\Rch X.K M H Φ Q) Sc (λx y c h1 h2=>(lk h1).1.trans (lk h2).1.symm) (λx c h=>by rw[(lk h).1];exact aj) (λq hq=>by rw[au.mp hq];exact a9) λA outer s H vs b0 Q hr h=>by
   obtain⟨xs,G,M,Φ,r,rv,rc,hs,kk⟩:=h;obtain⟨t,p1,q1⟩:=U (GG X) f c' A outer s H hr;refine⟨t,p1,q1 _ H ((xs++G).map some) M _ _ r ?_ hs kk⟩;have ra:=w_ rv rc;have z:=Jy.start (N:=[]) ra;show Jy X.K M H _ _
   simpa[L2.start,VB]using z
 refine⟨l,vs,f,_,pn,_,k+1,rfl,b9.sq,rfl,ak _,F,Y _ _ _ _,λi a2 H'=>∃ M' g,ZR X.K M' H' /\Step M2 H2 M' H' /\Dts X.K M' H' a2 g/\g.length=i/\J i g M',⟨M2,[],r2,Step.refl,.nil,rfl,J0⟩,λi v a2 H' ev hJ ob hn c0=>?_,λa2 H' hJ=>?_⟩
 ·obtain⟨M',g,r',C,hd,hl,I⟩:=hJ;have hi:i<ds.length:=by
   have:=(aE.mp ev).1;have:=g2.length;lia
  obtain⟨d,ed,dv⟩:=(a8.step C).iq ev;obtain⟨hF,c1,ht⟩:=a1 i d g M' ed I;have na:∀{b:Addr}{o:HO},H' b=some o->lend H' [a] ob b=some o:=λ{b o} e=>by
   rw[Qw λz=>by rw[hn b z]at e;cases e];exact e
  refine⟨rfl,na (r'.ok f _ hF),na (r'.ok c' _ c1),[vc],rfl,λi' x' v' h1 h2=>?_,?_⟩
  ·match i',h1,h2 with
   |0,h1,h2=>
    cases h1;cases h2;exact⟨a,ob a,a9,DJ aj,c0 (xc,a) aj j vc hj b7⟩
   |i' +1,h1,_=>simp at h1
  ·rw[Pp hn];refine⟨[.dat d],[yc],M',_,r',.cons dv .nil,.cons (b8.step (a0.trans (E.trans C))) .nil,ht,λkv c2 z c3 c4 L rz hz=>λb1=>?_⟩;obtain⟨kd,rfl,hz⟩:=(QD hz);refine⟨λc hc=>?_,?_⟩
   ·have hc:c∈[a]:=hc;show fill (lend H' [a] ob) c2 [a] c=_;rw[Ob hc,DJ hc]
   ·rw[Sk b1];exact⟨c3,g++[kd],c4,C.trans L,yH (hd.step L) rz,by rw[aB,hl];rfl,hz⟩
 ·obtain⟨M',g,r',C,hd,hl,I⟩:=hJ;have e1:vs.length=ds.length:=g2.length;rw[e1]at hl I;obtain⟨ok,hq⟩:=a7 g M' I;refine⟨M',g,hd,ok,λq b2 pu l' a3=>?_⟩;rw[hl]at b2;obtain⟨c5,b3⟩:=Kd b2;exact(kk.step (a0.trans (E.trans C))).dat (r'.new a3) (Step.new a3) (Dt.JG r' a3 (oW (a8.step C) b3)) (hq q.toList c5 (nv (by rw[hl];exact b3) pu))
def Bz(h:Heap)(d:Addr)(ks:List Value)(ep:Nat):Prop:=∃ o g,h.get? d=some o/\o.ExactDict/\o.data=.dict g ep/\g.toList.map (·.key)=ks
section
variable{E:Value->Shared->Prop}{d it:Addr}{ks:List Value}{ep:Nat}
theorem Bz.ty(h:Bz s.heap d ks ep):s.TypeIs (.ref d) "dict":=let⟨o,_,g,l,_⟩:=h;⟨o,g,l.1⟩
theorem qt{Q:Value->Shared->Prop}(hd:(d==sysModules)=false)(r:Bz s.heap d ks ep)
  (z:Q (.ref s.heap.objs.size) {s with heap:=s.heap.push {cls:=.type "dict_keyiterator",data:=.fields #[.ref d,.int 0 0,.int ks.length 0,.int ep 0]} }):wpAny (model P w) A (pyIter (.ref d)) Q E s:=by
 obtain⟨o,B,t,D,g,C⟩:=id r;have h:=r.ty;refine wpAny_pyIter_slot h PySem.F.slot_dict_iter (c8 PySem.F.slot_dict_iter h PySem.F.entry_dict_iter ?_ (PySem.F.args_dict_iter_1 _));unfold Builtin.«dict.__iter__»;refine ag ?_;unfold Builtin.Dict.dictSlotNone;refine ag (eE h ?_);show wpAny _ _ (pure (Value.ref d)) _ _ s;refine aD ?_;show wpAny _ _ (Builtin.Dict.showsAll d >>= _) _ _ s;unfold Builtin.Dict.showsAll;rw[ao (by rw[hd];exact ae)];refine ag (aD ?_);refine ag (fS t g ?_);refine ag (wpAny_dictEpoch t g ?_);have l:B.size=ks.length:=by rw[<-C];simp
 refine ag (cG (aD ⟨_,rfl, "dict_keyiterator",_,⟨_,aR _ rfl,rfl⟩,bQ.lookup,?_⟩));simpa[rawInt,l]using z
theorem tI{k:Value}{Q:Option Value->Shared->Prop}(g:s.heap.IsKeyIter it d i ks.length ep)(J:Bz s.heap d ks ep)(D:ks[i]?=some k)
  (L:∀ h',h'.IsKeyIter it d (i+1) ks.length ep->Heap.SameBut it s.heap h'->Q (some k) {s with heap:=h'}):wpAny (model P w) A (pyNext (.ref it)) Q E s:=by
 obtain⟨o,G,O,hd⟩:=id g;obtain⟨od,C,r,U,t,I⟩:=id J;unfold pyNext;refine ag (gT (fJ (name:=Str.ofString "__next__") g.typeIs bQ (c8 bQ g.typeIs fy ?_ (fj _))));refine ag (aD ?_);refine ag ?_;refine ag ?_
 first|refine ag (cU g.typeIs (aD ?_));skip|refine ag (dD g.typeIs (aD ?_));skip
 refine ag (wpAny_fieldsOf G hd ?_);have z:Builtin.Dict_items.ownsTuple "dict_keyiterator"=false:=by decide
 simp only[z,Bool.false_eq_true,if_false];show wpAny _ _ (if(Value.ref d==Value.none)=true then _ else _) _ _ s;rw[ao (show ¬((Value.ref d==Value.none)=true)from ae)];refine ag (aD ?_);refine ag (fS r t ?_);have B:C.size=ks.length:=by rw[<-I];simp
 rw[ao (by rw[B];simp)];refine ag (aD ?_);refine ag (wpAny_dictEpoch r t ?_);rw[ao (by simp)];refine aD ?_;have h:i<C.size:=by
  rw[B];exact(aE.mp D).1
 have Y:C[i].key=k:=by
  rw[<-I,aV,bH,Array.getElem?_eq_getElem h]at D;exact bq D
 simp only[show ¬((i:Int)<0)from by lia,if_false,Int.toNat_natCast,Array.getElem?_eq_getElem h];refine ag ?_
 first|refine ag (cU g.typeIs (aD ?_));skip|refine ag (dD g.typeIs (aD ?_));skip
 refine ag (wpAny_isOneOf_keyiter g.typeIs ?_);show wpAny _ _ (setField (.ref it) 1 (rawInt ((i:Int)+1)) >>= _) _ _ s;refine ag (wpAny_setField G hd (by simp) ?_);have l:(s.heap.update it (Obj.mapFields (·.setIfInBounds 1 (rawInt ((i:Int)+1))))).IsKeyIter it d (i+1) ks.length ep:=⟨_,eC _ G (Obj.isFreed_of_fields (Obj.data_mapFields hd _)),(Obj.cls_mapFields ..).trans O,by rw[Obj.data_mapFields hd];simp[rawInt]⟩
 refine ag (cr ?_);refine ag (wpAny_isOneOf_keyiter (s:={s with heap:=s.heap.update it (Obj.mapFields (·.setIfInBounds 1 (rawInt ((i:Int)+1))))}) l.typeIs ?_);show wpAny _ _ (pure C[i].key) _ _ _;rw[Y];exact aD (aD ⟨_,rfl,aD (L _ l (cM ..))⟩)
end
section
variable{E:Value->Shared->Prop}{d it:Addr}{ks:List Value}{ep:Nat}
theorem qK{Q:Option Value->Shared->Prop}(D:A.handled=none)(g:s.heap.IsKeyIter it d i ks.length ep)(G:Bz s.heap d ks ep)(I:ks[i]?=none)(J:∀ h',Heap.ExtBut it s.heap h'->Q none {s with heap:=h'}):wpAny (model P w) A (pyNext (.ref it)) Q E s:=by
 obtain⟨o,B,U,hd⟩:=id g;obtain⟨Y,C,h,L,l,O⟩:=id G;unfold pyNext;refine ag (gT (fJ (name:=Str.ofString "__next__") g.typeIs bQ (c8 bQ g.typeIs fy ?_ (fj _))));refine ag (aD ?_);refine ag ?_;refine ag ?_
 first|refine ag (cU g.typeIs (aD ?_));skip|refine ag (dD g.typeIs (aD ?_));skip
 refine ag (wpAny_fieldsOf B hd ?_);have r:Builtin.Dict_items.ownsTuple "dict_keyiterator"=false:=by decide
 simp only[r,Bool.false_eq_true,if_false];show wpAny _ _ (if(Value.ref d==Value.none)=true then _ else _) _ _ s;rw[ao (show ¬((Value.ref d==Value.none)=true)from ae)];refine ag (aD ?_);refine ag (fS h l ?_);have t:C.size=ks.length:=by rw[<-O];simp
 rw[ao (by rw[t];simp)];refine ag (aD ?_);refine ag (wpAny_dictEpoch h l ?_);rw[ao (by simp)];refine aD ?_;have z:C.size<=i:=by rw[t];exact ff.mp I
 simp only[show ¬((i:Int)<0)from by lia,if_false,Int.toNat_natCast,Array.getElem?_eq_none z];refine ag ?_
 first|refine ag (cU g.typeIs (aD ?_));skip|refine ag (dD g.typeIs (aD ?_));skip
 show wpAny _ _ (setField (.ref it) 0 .none >>= _) _ _ s;refine ag (wpAny_setField B hd (by simp) ?_);show wpAny _ _ (newExc (.type "StopIteration") [] >>= _) _ _ _;refine ag ?_;simp only[newExc,newTuple];refine ag (cG ?_ (by size_fits));refine ag (m:=firstArgMember _ _) (wpAny_of_eq (a:=Value.none) (by first|rfl|(simp only[firstArgMember];rfl)) ?_);refine cG ?_ (by size_fits);simp only[raiseNew];refine ag (wpAny_handled ?_);rw[show A.in1.handled=none from D];refine ag (aD (wpAny_throw ?_));refine ag (wpAny_isInstance (T:="StopIteration") (b:=true) ⟨_,aR _ rfl,rfl⟩ isSubtype_stop ?_);exact aD (J _ (((cM ..).extBut.push _).push _))
end
noncomputable def tkD(k:List Key):PyData:=.tuple (k.map kD)
theorem Hg:∀ k:List Key,Dts K M H (k.map kV) (k.map kD)
 |[]=>.nil
 |x::k=>.cons (mE x) (Hg k)
theorem yk(r:ZR K M H){k:List Key}(h:H b=some (.tup (k.map kV))):Dt K M H (.ref b) (tkD k):=.tup (.inl ⟨Ta r (.inl h),.inl h⟩) (Hg k)
section
variable{E:Value->Shared->Prop}
theorem Rz{ks:List Value}{ep:Nat}(hh:A.handled=none)(it d:Addr)(hd:d≠it):Walks P w A it [it,d] [it] ks.length (λi v=>ks[i]?=some v) (λi h=>h.IsKeyIter it d i ks.length ep/\Bz h d ks ep)where
 sub:=λb hb=>by simp at hb;simp[hb]
 frame:=(λi h h' z0 hk=>by obtain⟨⟨o,g,r⟩,o',es,g',r'⟩:=z0;exact⟨⟨o,hk it (by simp) _ g,r⟩,o',es,hk d (by simp) _ g',r'⟩)
 item:=λi s Q E hi ⟨h1,h2⟩ hQ=>tI h1 h2 (k:=ks[i]) (aM hi) λh' st sb=>by
  obtain⟨o,es,g,r⟩:=h2;exact hQ _ h' s.toks (aM hi) ⟨st,o,es,(sb.2 d hd).trans g,r⟩ λb o hb q=>(sb.2 b λe=>hb (by simp[e])).trans q
 done:=λs Q E ⟨h1,h2⟩ hQ=>qK hh h1 h2 (cQ (ak _)) λh' eb=>hQ h' s.toks λb o hb q=>eb b o (λe=>hb (by simp[e])) q
 self:=(λi s Q E z3 hQ=>by obtain⟨h1,_⟩:=z3;exact wpAny_pyIter_keyiter h1 hQ)
theorem xl{d:Addr}{ks:List Value}{ep:Nat}(hs:(d==sysModules)=false):KdlSrc P w "dict" d d ks.length (λi v=>ks[i]?=some v) (λh=>Bz h d ks ep)where
 type:=λ_ h=>h.ty
 there:=λ_ h=>let⟨_,_,g,_⟩:=h;⟨aL g,aL g⟩
 keep:=λ_ _ h hk=>let⟨o,es,g,r⟩:=h;⟨o,es,hk d (.inl rfl) o g,r⟩
 notList:=by decide
 notTuple:=by decide
 hint:=λ_ _ _ _ h hq=>kdl_hint_dict h.ty hq
 iter:=λ_ s hh h=>let⟨o,es,g,r⟩:=id h;⟨_,_,λ_ _ hq=>qt hs h hq,Rz hh _ d (bf (aL g)),⟨_,aR _ rfl,rfl,rfl⟩,o,es,am _ g,r⟩
end
theorem KT.dts(r:ZR K M H){kvs:List (List Key×V)}{xs:List (List Key×Addr×Value)}(h:KT H kvs xs):Dts K M H (xs.map λx=>V.ref x.2.1) ((kvs.map (·.1)).map tkD):=by
 induction h with
 |nil=>exact .nil
 |cons h _ g=>exact .cons (yk r h.2.1) g
def xw(K:Fk):List V->Hp->VK->Prop:=λxs H Q=>∃(p:Addr)(kvs:List (List Key×V))(M:Mp),xs=[.ref p]/\Rd H p (.dT kvs)/\ZR K M H/\Qk ((kvs.map (·.1)).map tkD)/\
 ∀vs,Dts K M H vs ((kvs.map (·.1)).map tkD)->∀ q:Array Nat,Pm ((kvs.map (·.1)).map tkD).length q->q.toList.Pairwise (Le (ltI ((kvs.map (·.1)).map tkD)))->∀ l,H l=none->Q (.ref l) (upd H l (.lst (q.toList.map λi=>vs.getD i .non)))
theorem Bp(D:QL kk X.A):JA X (.builtin "sorted") (xw X.K):=by
 intro pins s σ H xs us Q I r h;obtain⟨p,kvs,M,rfl,O,U,E,q⟩:=h;obtain⟨u,rfl,Y⟩:=vals1 r;cases Y;obtain⟨hz,hs,g,t,o,es,ep,ho,l,hd,he,hn⟩:=(show Qc X.prog X.w H s.heap p (.dT kvs)from jR I.hok O)
 have z:=KT.dts U t;have G:=z.length;have B:Bz s.heap p (g.map λx=>Value.ref x.2.1) ep:=⟨o,es,ho,l,hd,by rw[he,aC];rfl⟩
 refine Kb (C:=iN (λi v=>(g.map λx=>Value.ref x.2.1)[i]?=some v) (g.map λx=>Value.ref x.2.1).length) D I (Yp (xl hs) D.hd B ?_) (λus J=>?_) G E (q _ z)
 ·rw[aa,<-aa (f:=λx=>V.ref x.2.1),G];exact E.few
 ·have L:Vals (g.map λx=>V.ref x.2.1) us:=YI (by rw[J.1,aa,aa]) λj x u l hu=>by
   have:(g.map λx=>Value.ref x.2.1)[j]?=some u:=J.2 j u hu;rw[aV]at this l;cases e:g[j]? <;>rw[e]at this l<;>cases this;cases l;rfl
  exact⟨L,(Dts.reads I z L).imp λ_ h=>h.1⟩
def yh(rd:Option OO->(List (List Key)->Prop)->Prop):D1:=λxs M Φ=>on1 xs λx=>onO x λl=>rd (M l) λks=>Qk (ks.map tkD)/\∀g:List PyData,g.Perm (ks.map tkD)->g.Pairwise leD->Φ (.dat (.list g)) M
theorem LX{rd:Option OO->(List (List Key)->Prop)->Prop}(hd:∀{M:Mp}{H:Hp}{l:Addr}{P:List (List Key)->Prop},ZR X.K M H->rd (M l) P->∃ kvs,Rd H l (.dT kvs)/\P (kvs.map (·.1))){kk:Nat}(z:QL kk X.A):J6 X (.builtin "sorted") (yh rd):=by
 refine⟨_,Bp z,λvs H xs M Φ Q r B h k=>?_⟩;obtain⟨x,rfl,h⟩:=(ZP h);obtain⟨l,rfl,h⟩:=(ZM h);obtain⟨v,rfl,C⟩:=Paired.one B;cases(show v=.ref l from C);obtain⟨kvs,D,E,q⟩:=hd r h;refine⟨l,kvs,M,rfl,D,r,E,λvs G p I J a g=>?_⟩;obtain⟨t,L,O,U⟩:=VG G I J;exact k.dat (r.new g) (Step.new g) (Dt.JG r g U) (q t L O)
section
variable{es:List Expr}{t:DTA}{x1:Nat}{pos':Pos}{o i:Expr}{to ti:DTE}
theorem Mxs.of0(h:Paired (VR0 K M H) vs xs):Mxs K M H vs xs:=Mxs.of h
theorem Mxs.paired(h:Mxs K M H vs xs):Paired (VR0 K M H) vs xs:=h.vr
def lG(t:DTA):DTE:=λΔ M Φ=>t Δ M λxs M1=>iG xs (Nat.ble xs.length 100=true/\Φ (.mix xs) M1)
theorem VE(h:DA X es t):DE X (.Tuple es x1 pos) (lG t):=by
 obtain⟨u,p,q⟩:=h;refine⟨_,kL p,λσ H Δ M Φ Q r e h k=>?_⟩;refine q σ H Δ M _ _ r e h λvs B xs M1 E st G C=>?_;obtain⟨I,J,C⟩:=RU (K:=X.K) (M:=M1) (H:=B) C;have g:vs.length=xs.length:=bC G;have L:=eD J;refine⟨by rw[g,bL];lia,λa D=>?_⟩;have l:Step M1 B M1 (upd B a (.tup vs)):=Step.new D;exact k _ _ (.mix xs) _ (E.new D) (st.trans l) (show Mx _ _ _ _ _ from .mk (E.tracked D) Z0 (Mxs.of0 (Paired.fm (I G) λ_ _ z=>z.step l))) C
def jz(x:DV)(P:List DV->Prop):Prop:=match x with| .dat (.tuple ds)=>P (ds.map DV.dat)| .mix xs=>P xs|_=>False
theorem qr(xs:List DV)(P:List DV->Prop):jz (.mix xs) P=P xs:=rfl
theorem vg{x:DV}{P:List DV->Prop}(h:jz x P):∃ xs,P xs/\((∃ds,x=.dat (.tuple ds)/\xs=ds.map DV.dat)\/x=.mix xs):=by
 cases x with
 |dat d=>cases d<;>first|exact⟨_,h,.inl ⟨_,rfl,rfl⟩⟩|exact False.elim h
 |mix _=>exact⟨_,h,.inr rfl⟩
 |_=>exact False.elim h
def oQ(to ti:DTE):DTE:=λΔ M Φ=>to Δ M λx M1=>ti Δ M1 λy M2=>onI y λi=>jz x λxs=>∃ z,L2.atI xs i=some z/\Φ z M2
theorem Lz(h:Dts K M H vs ds):Paired (VR0 K M H) vs (ds.map DV.dat):=h.vr
theorem Yb(O:DE X o to)(U:DE X i ti)(Y:autoParam (Gh i) zz6._auto_1):DE X (.Subscript o i pos') (oQ to ti):=by
 obtain⟨u,p,q⟩:=O;obtain⟨u2,p2,q2⟩:=U;refine⟨_,jw mz p p2 Y,λσ H Δ M Φ Q r e h k=>?_⟩;refine q σ H Δ M _ _ r e h λv H1 x M1 r1 st rv E=>?_;refine q2 σ H1 Δ M1 _ _ r1 (e.step st) E λw G y M2 r2 g I l=>?_;obtain⟨j,rfl,l⟩:=(ZJ l);obtain⟨xs,⟨z,hz,J⟩,E⟩:=vg l;cases I.int;have B:=QE.step rv g;have L:∃ a vs,v=.ref a/\SqT X.K G a vs/\Paired (VR0 X.K M2 G) vs xs:=by
  rcases E with⟨ds,rfl,rfl⟩|rfl
  ·obtain⟨a,vs,rfl,D,C⟩:=QE.tup B;exact⟨a,vs,rfl,D.sq,Lz C⟩
  ·cases(show Mx X.K M2 G v xs from B)with
   |mk D C h3=>exact⟨_,_,rfl,SqT.of C,h3.paired⟩
 obtain⟨a,vs,rfl,D,C⟩:=L;obtain⟨v',e1,e2⟩:=Paired.atI C hz;exact .inr (.inl ⟨a,vs,j,v',rfl,rfl,D,e1,k _ _ z _ r2 (st.trans g) e2.rel J⟩)
end
section
variable{prog:Program}{E:Value->Shared->Prop}{KK:Type}[DecidableEq KK]{knd:HeapKind prog w KK}
theorem Et{d:Addr}{xs:List (KK×Addr×Value)}{k:KK}{v:Value}{Q:Value->Shared->Prop}(D:knd.room A)(g:knd.is s.heap k a)(I:s.heap.DictOfH knd d xs)(hsz:xs.length<=sizeLine)
  (J:∀ p,atKey xs k=some p->Q p.2 {s with toks:=s.toks+knd.draws k})
  (L:atKey xs k=none->∀ h',h'.DictOfH knd d (xs++[(k,a,v)])->Heap.SameBut d s.heap h'->Q v {s with heap:=h',toks:=s.toks+knd.draws k}):
  wpAny (model prog w) A (dictSetDefault d (.ref a) v) Q E s:=by
 obtain⟨o,es,O,l,U,hd,B,r,C⟩:=I;unfold dictSetDefault
 try with_reducible refine cr ?_
 refine ag (knd.pyHash D g (ag (wpAny_dictFind_heap (s:={s with toks:=s.toks+knd.draws k}) D g l hd B r C (λt=>?_) λj p G=>?_)))
 ·have z:k∉xs.map (·.1):=not_mem_keys_of_get t
  refine ag (dS (ag (wpAny_updateDictKeys (hz:=by rw[size_of_entries B];exact hsz) (s:={s with toks:=s.toks+knd.draws k}) l hd (aD (L (atKey_none_of_get t) _ ⟨_,_,O+1,eC _ l (Obj.isFreed_of_dict (Obj.data_mapDictKeys hd _)),
   U.mapDictKeys _,Obj.data_mapDictKeys hd _,by simp[B,entryOfKey],λx h=>?_,?_⟩ (cM ..))))))
  ·rcases ax.mp h with h|h
   ·exact knd.keeps (r x h) l hd (cM ..)
   ·cases au.mp h;exact knd.keeps g l hd (cM ..)
  ·rw[al,cX];refine⟨C,by simp,λx h y Y=>?_⟩;cases au.mp Y;exact λe=>z (by rw[show k=x from e.symm];exact h)
 ·refine ag (fS (s:={s with toks:=s.toks+knd.draws k}) l hd ?_);rw[entry_at B j,G];exact ag (dS (aD (J p (atKey_of_get C G))))
end
section
variable{o f:Expr}{td ty tx:TE}
def sI(td ty tx:TE):TE:=λσ H Q=>td σ H λx h=>∃ a,x=.ref a/\IsD h a/\ty σ h λy l=>tx σ l λz g=>∃ kvs k b,g a=some (.dT kvs)/\y=.ref b/\g b=some (.tup (k.map kV))/\kvs.length<sizeLine/\
 (∀v,J2 kvs k=some v->Q v g)/\(J2 kvs k=none->Q z (upd g a (.dT (kvs++[(k,z)]))))
theorem Ro(hu:X.A.units+1<cLine)(ho:PE X o td)(he:PE X e ty)(hf:PE X f tx)(m:M2 X o "setdefault" apos e f cpos):PE X (.Call (.Attribute o "setdefault" apos) [e,f] [] cpos) (sI td ty tx):=by
 intro pins s σ H Q I h;refine fP m.base m.few m.line cV cY PySem.F.type_dict_setdefault (thn (ho pins s σ H _ I h) λu s1 z0=>?_);obtain⟨x,H1,E,rx,a,ex,d,q1⟩:=z0;subst ex;obtain rfl:u=Value.ref a:=rx;obtain⟨t1,t2,_⟩:=FN E d;refine⟨t1,t2,?_⟩;rw[m.trees];refine cI rfl (dn (bO (thn (he pins s1 σ H1 _ E q1) λiv s2 w2=>?_)));obtain⟨y,H2,I2,ry,q2⟩:=w2;refine bO (thn (hf pins s2 σ H2 _ I2 q2) λG J w3=>dm ?_);obtain⟨z,H3,t,L,kvs,k,b,B,ey,O,U,q3,q4⟩:=w3;subst ey;cases(show iv=Value.ref b from ry);obtain⟨z1,hd,xs,l,C⟩:=jY t.hok B;have n1:xs.length=kvs.length:=(bC l).symm;refine c8 cY C.typeIs gm ?_ (gb _ _ _);unfold Builtin.«dict.setdefault»;refine ag ?_;unfold Builtin.Dict.keyAndDefault;refine ag (eE C.typeIs ?_);show wpAny _ _ (pure (a,Value.ref b,some G)) _ _ J;refine aD ?_;show wpAny _ _ (if(a==sysModules)=true then _ else(dictSetDefault a (.ref b) G >>= _)) _ _ J;rw[ao (by rw[hd];exact ae)];have g:=l.val k;refine ag (Et (c9 hu) (WI t.hok O) C (by rw[n1];exact dN U) (λp hp=>aD ⟨_,rfl,?_⟩) λhn h' D hs=>aD ⟨_,rfl,?_⟩)
 ·rw[hp]at g;cases r:J2 kvs k with
  |none=>rw[r]at g;exact g.elim
  |some v=>rw[r]at g;exact⟨v,H3,t.tok _,g,q3 v r⟩
 ·rw[hn]at g;have hv:J2 kvs k=none:=by
   cases r:J2 kvs k with
   |none=>rfl
   |some v=>rw[r]at g;exact g.elim
  obtain⟨q,es,ep,Y,h2,h3,h4,_,h5⟩:=D;refine⟨z,_,Xu (ob:=.dT (kvs++[(k,z)])) t (by rw[B];exact True.intro) hs ⟨q,Y⟩ ⟨?_,hd,_,KT.keeps (Paired.snoc l ⟨rfl,O,L⟩) λc ys ec=>?_,q,es,ep,Y,h2,h3,h4,h5⟩,L,q4 hv⟩
  ·rw[aB,cP];exact U
  ·rw[ZH (pj ec B (λz=>nomatch z))];exact ec
end
noncomputable def dvT(ps:List (List Key×PyData))(k:List Key):Option PyData:=(ps.find? λg=>decide (g.1=k)).map (·.2)
def iA(o:Option OO)(P:List (List Key×PyData)->Prop):Prop:=match o with|some (.dtv ps)=>P ps|_=>False
theorem Pn(ps:List (List Key×PyData))(P:List (List Key×PyData)->Prop):iA (some (.dtv ps)) P=P ps:=rfl
theorem Ed{o:Option OO}{P:List (List Key×PyData)->Prop}(h:iA o P):∃ ps,o=some (.dtv ps)/\P ps:=by
 rcases o with _|o
 ·exact False.elim h
 ·cases o<;>first|exact⟨_,rfl,h⟩|exact False.elim h
noncomputable abbrev kDV(k:List Key):DV:=.mix (k.map λa=>.dat (kD a))
theorem DQ:∀{k:List Key}{vs:List V},Mxs K M H vs (k.map λa=>DV.dat (kD a))->vs=k.map kV
 |[],_,h=>by cases h;rfl
 | .inl i::k,_,h=>by cases h with|dat g l=>cases g;rw[DQ l];rfl
 | .inr x::k,_,h=>by cases h with|dat g l=>cases g;rw[DQ l];rfl
theorem kw{k:List Key}(h:QE K M H v (kDV k)):∃ b,v=.ref b/\H b=some (.tup (k.map kV)):=by
 cases(show Mx K M H v _ from h)with
 |mk r g l=>exact⟨_,rfl,by rw[<-DQ l];exact g⟩
theorem Fs(k:List Key):∀{kvs:List (List Key×V)}{ps:List (List Key×PyData)},kvs.map (·.1)=ps.map (·.1)->Dts K M H (kvs.map (·.2)) (ps.map (·.2))->(J2 kvs k=none/\dvT ps k=none)\/∃v d,J2 kvs k=some v/\dvT ps k=some d/\Dt K M H v d
 |[],[],_,_=>.inl ⟨rfl,rfl⟩
 |[],_::_,h,_=>by simp at h
 |_::_,[],h,_=>by simp at h
 | (g,v)::kvs,(l,d)::ps,h,hd=>by
  rw[ai,ai,bR]at h;cases(show g=l from h.1);cases hd with
  |cons r t=>
   unfold J2 dvT
   by_cases e:g=k
   ·rw[aH (by simpa using e),aH (by simpa using e)];exact .inr ⟨v,d,rfl,rfl,r⟩
   ·rw[aK (by simpa using e),aK (by simpa using e)];exact Fs k h.2 t
section
variable{o f i:Expr}{td ty tx:DTE}
def Sh:DTE:=λ_ M Φ=>∀ p,M p=none->Φ (.own p) (Zs M p (.dtv []))
theorem S6:DE X (.Dict [] [] pos) Sh:=
 ⟨_,yt,λ_ _ _ _ _ _ r _ h k p g=>k _ _ (.own p) _ (r.Vk (o:=.dtv []) (Step.Qp g) ⟨[],Z0,rfl,.nil⟩) (Step.Qp g) rfl (h p (r.tracked g))⟩
def Of(td ty tx:DTE):DTE:=λΔ M Φ=>td Δ M λx M1=>onO x λl=>iA (M1 l) λ_=>ty Δ M1 λy M2=>tx Δ M2 λz g=>onD z λd=>iA (g l) λps=>∃ k,y=kDV k/\ps.length<sizeLine/\
 (∀h,dvT ps k=some h->Φ (.dat h) g)/\(dvT ps k=none->Φ (.dat d) (Zs g l (.dtv (ps++[(k,d)]))))
theorem Rk{k:Nat}(hr:QL k X.A)(ho:DE X o td)(he:DE X e ty)(hf:DE X f tx)(m:autoParam (M2 X o "setdefault" apos e f cpos) zz13._auto_1):DE X (.Call (.Attribute o "setdefault" apos) [e,f] [] cpos) (Of td ty tx):=by
 obtain⟨t1,p1,q1⟩:=ho;obtain⟨t2,p2,q2⟩:=he;obtain⟨t3,p3,q3⟩:=hf;refine⟨_,Ro (by have:=hr.un;lia) p1 p2 p3 m,λσ H Δ M Φ Q r Y h kk=>?_⟩;refine q1 σ H Δ M _ _ r Y h λv H1 x M1 r1 C rv B=>?_;obtain⟨l,rfl,B⟩:=(ZM B);obtain⟨a0,a1,B⟩:=(Ed B);obtain⟨G,g0,_⟩:=(show OOk X.K M1 H1 l (.dtv a0)from r1.ok l _ a1)
 refine⟨l,rv,.inr ⟨G,.inl g0⟩,?_⟩;refine q2 σ H1 Δ M1 _ _ r1 (Y.step C) B λw H2 y M2 r2 I ry hy=>?_;refine q3 σ H2 Δ M2 _ _ r2 (Y.step (C.trans I)) hy λu H3 z M3 r3 J rz D=>?_;obtain⟨d,rfl,D⟩:=(QD D);obtain⟨ps,hm,g,rfl,hl,c1,c2⟩:=(Ed D);obtain⟨b,rfl,hb⟩:=kw (QE.step ry J);obtain⟨kvs,g1,U,g3⟩:=(show OOk X.K M3 H3 l (.dtv ps)from r3.ok l _ hm)
 have n1:kvs.length=ps.length:=by have:=bK List.length U;simpa using this
 have L:=C.trans (I.trans J);refine⟨kvs,g,b,g1,rfl,hb,by rw[n1];exact hl,λv' O=>?_,λO=>?_⟩
 ·rcases Fs g U g3 with⟨E,_⟩|⟨v2,d2,E,e2,e3⟩
  ·rw[E]at O;cases O
  ·rw[O]at E;cases E;exact kk _ _ (.dat d2) _ r3 L e3 (c1 d2 e2)
 ·rcases Fs g U g3 with⟨_,e2⟩|⟨v2,d2,E,_⟩
  ·have t:Step M3 H3 (Zs M3 l (.dtv (ps++[(g,d)]))) (upd H3 l (.dT (kvs++[(g,u)]))):=Step.Vb hm;refine kk _ _ (.dat d) _ (r3.Vk t ⟨_,Z0,?_,?_⟩) (L.trans t) (Dt.step t rz) (c2 e2)
   ·rw[al,al,U];rfl
   ·rw[al,al];exact(g3.step t).append (.cons (Dt.step t rz) .nil)
  ·rw[O]at E;cases E
def iB(o:Option OO)(P:List (List Key×PyData)->Prop):Prop:=match o with|some (.dtv ps)=>P ps|some (.fdt _ ps)=>P ps|_=>False
theorem Fd(ps:List (List Key×PyData))(P:List (List Key×PyData)->Prop):iB (some (.dtv ps)) P=P ps:=rfl
theorem Ov{l:Addr}{P:List (List Key×PyData)->Prop}(r:ZR K M H)(h:iB (M l) P):∃ ps kvs,P ps/\Rd H l (.dT kvs)/\kvs.map (·.1)=ps.map (·.1)/\Dts K M H (kvs.map (·.2)) (ps.map (·.2)):=by
 cases e:M l with
 |none=>rw[e]at h;exact h.elim
 |some u=>
  rw[e]at h;cases u with
  |dtv ps=>obtain⟨kvs,g,t,z⟩:=(show OOk K M H l (.dtv ps)from r.ok l _ e);exact⟨ps,kvs,h,.inl g,t,z⟩
  |fdt o ps=>obtain⟨kvs,g,t,z⟩:=(show OOk K M H l (.fdt o ps)from r.ok l _ e);exact⟨ps,kvs,h,.inr ⟨o,g⟩,t,z⟩
  |_=>exact h.elim
def yB(K:Fk)(td ty:TE):TE:=λσ H Q=>td σ H λx h=>ty σ h λy g=>∃ a b kvs k v,x=.ref a/\y=.ref b/\Rd g a (.dT kvs)/\SqT K g b (k.map kV)/\J2 kvs k=some v/\Q v g
theorem qv{td ty:TE}(D:X.A.units+1<cLine)(E:PE X o td)(G:PE X i ty)(J:aG i):PE X (.Subscript o i pos) (yB X.K td ty):=by
 intro pins s σ H Q I h;refine Em fg.lookup J (thn (E pins s σ H _ I h) λu L ⟨x,O,U,Y,q1⟩=>thn (G pins L σ O _ U q1) λiv s2 z1=>?_);obtain⟨y,H2,l,ry,a,b,kvs,k,v,ex,ey,g,hb,hv,q2⟩:=z1;subst ex ey;obtain rfl:u=Value.ref a:=Y;obtain rfl:iv=Value.ref b:=ry;obtain⟨z,hd,xs,r,C⟩:=Dm l.hok g;obtain⟨w',hw,t⟩:=Lp.some_of (v:=v) (o:=(atKey xs k).map (·.2)) (by rw[<-hv];exact r.val k);obtain⟨p,hp,B⟩:=dQ.mp hw;refine⟨C.typeIs,wpAny_getItem_heap (c9 D) (vv l hb) C hp ?_⟩;rw[B];exact⟨v,H2,l.tok _,t,q2⟩
def mj(td g:DTE):DTE:=λΔ M Φ=>td Δ M λx M1=>g Δ M1 λy M2=>onO x λl=>iB (M2 l) λps=>∃ k d,y=.dat (tkD k)/\dvT ps k=some d/\Φ (.dat d) M2
theorem D6:∀{K:Fk}{M:Mp}{H:Hp}{k:List Key}{vs:List V},Dts K M H vs (k.map kD)->vs=k.map kV
 |_,_,_,[],_,h=>by cases h;rfl
 |_,_,_,.inl i::k,_,h=>by cases h with|cons g l=>cases g;rw[D6 l];rfl
 |_,_,_,.inr x::k,_,h=>by cases h with|cons g l=>cases g;rw[D6 l];rfl
theorem Ea{k:Nat}{D:DTE}(J:QL k X.A)(L:DE X o td)(O:DE X i D)(U:autoParam (aG i) zz6._auto_1):DE X (.Subscript o i pos) (mj td D):=by
 obtain⟨t1,Y,q1⟩:=L;obtain⟨t2,p2,q2⟩:=O;refine⟨_,qv (by have:=J.un;lia) Y p2 U,λσ H Δ M Φ Q r e h kk=>?_⟩;refine q1 σ H Δ M _ _ r e h λv H1 x M1 r1 t rv hx=>?_;refine q2 σ H1 Δ M1 _ _ r1 (e.step t) hx λw H2 y M2 E B C z=>?_;obtain⟨l,rfl,z⟩:=(ZM z);obtain⟨ps,kvs,⟨g,d,rfl,hd,q⟩,g1,g2,g3⟩:=Ov E z;cases(show v=.ref l from rv);obtain⟨b,xs,rfl,G,h2⟩:=QE.tup (ds:=g.map kD) C;rw[D6 h2]at G
 rcases Fs g g2 g3 with⟨_,c⟩|⟨u,d',c1,I,du⟩
 ·rw[hd]at c;cases c
 ·rw[hd]at I;cases I;exact⟨l,b,kvs,g,u,rfl,rfl,g1,G.sq,c1,kk.dat E (t.trans B) du q⟩
def PJ:D1:=λxs M Φ=>on1 xs λx=>onO x λl=>iB (M l) λps=>Qk ((ps.map (·.1)).map tkD)/\∀g:List PyData,g.Perm ((ps.map (·.1)).map tkD)->g.Pairwise leD->Φ (.dat (.list g)) M
theorem Lv{kk:Nat}(g:QL kk X.A):J6 X (.builtin "sorted") PJ:=LX (rd:=λ(o:Option OO) (P:List (List Key)->Prop)=>iB o λ(ps:List (List Key×PyData))=>P (ps.map (λx:List Key×PyData=>x.1))) (λr h=>by
 obtain⟨ps,kvs,q,l,t,_⟩:=Ov r h
 exact⟨kvs,l,by rw[t];exact q⟩) g
end
section
def uI:V->List V->Hp->VK->Prop:=λx vs H Q=>∃ l xs i y,x=.ref l/\vs=[.int i,y]/\H l=some (.lst xs)/\0<=i/\i<=(xs.length:Int)/\xs.length<sizeLine/\Q .non (upd H l (.lst (xs.take i.toNat++y::xs.drop i.toNat)))
theorem Pd:MtM X "list.insert" uI:=by
 intro pins s σ H x vs v us Q I C D h;obtain⟨l,xs,i,y,rfl,rfl,B,J,L,O,q⟩:=h;cases C;obtain⟨a,u,rfl,E,G⟩:=D.two;obtain⟨t,rfl⟩:=E;obtain⟨z,its,n,r,U,e⟩:=I.ja B;have Y:=bL;have ln:xs.length=its.length:=r.length;have g:¬ (!Builtin.List.listFitsIndex i)=true:=by
  unfold Builtin.List.listFitsIndex;simp;lia
 refine fG F.slot_list_insert ⟨_,e,rfl⟩ F.entry_list_insert (F.args_list_insert_3 _ _ _) (PySem.AutoListH.list_insert_list_int_val_1 l its.toArray n i t u g (by rw[aQ];lia)) ⟨e,?_⟩;refine⟨.non,_,I.jP (its':=its.take i.toNat++u::its.drop i.toNat) B e ?_ ((r.take _).append (.cons G (r.drop _))) ?_,rfl,q⟩
 ·apply cC.mp;rw[ao (by lia),show min i.toNat its.toArray.size=i.toNat by rw[aQ];lia];simp[List.extract_eq_take_drop];exact fR (by simp)
 ·rw[aB,bp,a_,gY];lia
variable{o f:Expr}{to tf:DTE}
def OS(to te tf:DTE):DTE:=λΔ M Φ=>to Δ M λx M1=>onO x λl=>Vi (M1 l) λ_=>te Δ M1 λy M2=>tf Δ M2 λz g=>onI y λi=>onD z λd=>Vi (g l) λds=>(0<=i/\i<=ds.length)/\ds.length<sizeLine/\Φ (.dat .none) (Zs g l (.lst (ds.take i.toNat++d::ds.drop i.toNat)))
theorem Pg(L:DE X o to)(he:DE X e te)(hf:DE X f tf)(C:autoParam (attributeBase o "insert" X.env (eval o X.env)=eval o X.env) zz3._auto_1)
  (E:((backTo cpos (starEach [e,f] X.env)).all (λx=>!x.1)&&(backToKw cpos (keywordEach [] X.env)).all (λx=>x.1.isSome)
   &&decide ([e,f].length+([]:List Keyword).length+(if([]:List Keyword).isEmpty then 0 else 1)<30))=true:=by rfl)
  (D:autoParam ((apos.endLine==cpos.line)=true) zz3._auto_1) (hs:autoParam (starEach [e,f] X.env=(false,eval e X.env)::starEach [f] X.env) zz3._auto_1) (O:autoParam (starEach [f] X.env=(false,eval f X.env)::starEach [] X.env) zz3._auto_1) (t:autoParam ((backTo cpos (starEach [f] X.env)).any (·.1)=false) zz3._auto_1):
  DE X (.Call (.Attribute o "insert" apos) [e,f] [] cpos) (OS to te tf):=by
 obtain⟨t1,p1,q1⟩:=L;obtain⟨t2,p2,q2⟩:=he;obtain⟨t3,p3,q3⟩:=hf;refine⟨_,iK fK PySem.F.slot_list_insert PySem.F.type_list_insert Pd p1 (Yy p2 (Yy p3 WN O) hs) C E D hs t,λσ H Δ M Φ Q r U h k=>?_⟩;refine q1 σ H Δ M _ _ r U h λv H1 x M1 r1 st rv B=>?_;obtain⟨l,rfl,B⟩:=(ZM B);obtain⟨oo,L,B⟩:=(Jd B);cases(show v=.ref l from rv);have ty:tyV X.K "list" (.ref l) H1:=by
  obtain⟨vs,Y,_⟩:=r1.ls l oo L;exact .inl ⟨rfl,vs,SqL.of Y⟩
 refine⟨ty,q2 σ H1 Δ M1 _ _ r1 (U.step st) B λw H2 y M2 r2 G ry hy=>q3 σ H2 Δ M2 _ _ r2 (U.step (st.trans G)) hy λu H3 z M3 r3 a0 rz g=>?_⟩;obtain⟨i,rfl,g⟩:=(ZJ g);obtain⟨d,rfl,g⟩:=(QD g);obtain⟨ds,hm,⟨i0,i1⟩,hl,g⟩:=(Jd g);cases(show w=.int i from QE.int ry);obtain⟨vs,Y,J⟩:=r3.ls l ds hm;have I:Step M3 H3 (Zs M3 l (.lst (ds.take i.toNat++d::ds.drop i.toNat))) (upd H3 l (.lst (vs.take i.toNat++u::vs.drop i.toNat))):=Step.Vb hm;refine⟨l,vs,i,u,rfl,rfl,Y,i0,by rw[J.length];exact i1,by rw[J.length];exact hl,?_⟩;exact k.dat (r3.XM I ((J.take _).append (.cons rz (J.drop _)))) (st.trans (G.trans (a0.trans I))) Dt.non g
end
def GEs(w:World):List DictEntry->List (Str×Int)->Prop
 |[],[]=>True
 |e::g,p::ps=>(∃t u,e=⟨hashStr w p.1,.str p.1 t,.int p.2 u⟩)/\GEs w g ps
 |_,_=>False
def jM(w:World)(K:Fk)(a:Addr)(kvs:List (Str×Int)):Prop:=∃ g h,K.lookup a=some {cls:=.type "dict",data:=.dict g h}/\GEs w g.toList kvs
theorem HP:∀{l:List DictEntry}{kvs:List (Str×Int)},GEs w l kvs->∀ e∈l,∃k,(Zx P w).is k e.key=true/\e.hash=(Zx P w).hash k
 |[],_,_,e,g=>nomatch g
 |x::l,p::ps,h,e,g=>by
  rcases aW.mp g with rfl|g
  ·obtain⟨t,u,rfl⟩:=h.1;exact⟨.inr p.1,Jw P w p.1 t,rfl⟩
  ·exact HP h.2 e g
theorem Hv{s:Str}{n:Int}:∀{g:List DictEntry}{kvs:List (Str×Int)},GEs w g kvs->kvs.lookup s=some n->∃ e u,g.find? (λe=>(Zx P w).is (.inr s) e.key)=some e/\e.val=.int n u
 |[],[],_,e=>by simp at e
 | x::g,(k,m)::ps,h,e=>by
  obtain⟨t,u,rfl⟩:=h.1
  by_cases c:s=k
  ·subst c;rw[List.lookup_cons_self]at e;cases e;exact⟨_,u,aH (by exact Jw P w s t),rfl⟩
  ·rw[fZ,cZ.mpr c]at e;obtain⟨l,r,B,C⟩:=Hv h.2 e;refine⟨l,r,?_,C⟩;rw[aK (λz=>c ?_)]
   ·exact B
   ·have:=(Zx P w).inj _ _ _ z (Jw P w k t);cases this;rfl
section
variable{i:Expr}{ti:TE}{pn:Pos}{kvs:List (Str×Int)}
def xu(kvs:List (Str×Int))(ti:TE):TE:=λσ H Q=>ti σ H λy g=>∃ s n,y=.str s/\kvs.lookup s=some n/\Q (.int n) g
theorem wA(E:Gl X x)(G:X.mg x=some (.ref a))(J:jM X.w X.K a kvs)(L:PE X i ti)(O:aG i)(hd:autoParam ((x==("__debug__" :Str))=false) zz1._auto_1):PE X (.Subscript (.Name x pn) i pos) (xu kvs ti):=by
 intro pins s σ H Q I h;refine Em fg.lookup O (thn (Sa (v:=.ref a) E G rfl hd pins s σ H (λy l=>y=.ref a/\l=H) I ⟨rfl,rfl⟩) λu U Y=>?_);obtain⟨y,l,I1,r,e1,e2⟩:=Y;subst e1 e2;obtain rfl:u=Value.ref a:=r;refine thn (L pins U σ l _ I1 h) λiv s2 z1=>?_;obtain⟨y,H2,B,r,t,n,ey,hn,q⟩:=z1;subst ey;obtain⟨z,ep,ho,g⟩:=J;have hk:=B.kIn a _ ho;obtain⟨e',C,f1,f2⟩:=Hv (P:=X.prog) g hn;have D:s2.heap.MapOf (Zx X.prog X.w) a (λk=>findBy (Zx X.prog X.w).is z k):=⟨_,z,ep,hk,⟨rfl,rfl,by simp⟩,rfl,λe he=>HP g e (Array.mem_toList_iff.mpr he),λ_=>rfl⟩
 refine⟨D.typeIs,wpAny_getItem_of (k:=Sum.inr t) (Gf (k:=Sum.inr t) r) D (v:=.int n C) ?_ ⟨.int n,H2,B.tok _,⟨C,rfl⟩,q⟩⟩;show(z.find? λe=>(Zx X.prog X.w).is (.inr t) e.key).map (·.val)=_;rw[<-Array.find?_toList,f1];exact bK some f2
def lT(kvs:List (Str×Int))(ti:DTE):DTE:=λΔ M Φ=>ti Δ M λy M1=>onS y λs=>∃ n,kvs.lookup s=some n/\Φ (.dat (.int n)) M1
theorem vR{ti:DTE}(z:Gl X x)(B:X.mg x=some (.ref a))(C:jM X.w X.K a kvs)(D:DE X i ti)(E:autoParam (aG i) zz6._auto_1)(hd:autoParam ((x==("__debug__" :Str))=false) zz1._auto_1):DE X (.Subscript (.Name x pn) i pos) (lT kvs ti):=by
 obtain⟨O,G,I⟩:=D;refine⟨_,wA z B C G E hd,λσ H Δ M Φ Q r e h k=>?_⟩;refine I σ H Δ M _ _ r e h λw U y M2 J g l t=>?_;obtain⟨s,rfl,n,L,q⟩:=(Qu t);cases l.str;exact⟨s,n,rfl,L,k.dat J g (Dt.int n) q⟩
end
theorem Dc{z:Program}{vs:List (Key×Value)}(g:KV kvs vs)(h:iN (λi v=>∃ k x,vs[i]?=some (k,x)/\(Zx z w).is k v=true) vs.length us):Vals (kvs.map λr=>kV r.1) us:=by
 refine YI (by rw[aa,h.1];exact bC g) λj x u l B=>?_;obtain⟨kk,G,C,D⟩:=h.2 j u B;rw[aV]at l;cases e:kvs[j]? with
 |none=>rw[e]at l;cases l
 |some r=>
  rw[e]at l;cases l;obtain⟨I,t,E⟩:=Paired.getL g e;rw[C]at t;cases t;show RelV (kV r.1) u;rw[show r.1=kk from E.1];exact uR D
theorem yK{P:Nat->Value->Prop}{g:Array Value}(h:ItemsOf P g n):iN P n g.toList:=⟨(aS (xs:=g)).trans h.1,λi v z=>h.2 i v (by rw[<-bH];exact z)⟩
theorem L5(E:X.calm=true):JA X (.type "list") (λxs H Q=>∃ a kvs,xs=[.ref a]/\H a=some (.dK kvs)/\kvs.length<=sizeLine/\∀l,H l=none->Q (.ref l) (upd H l (.lst (kvs.map λz=>kV z.1)))):=by
 intro pins s σ H xs us Q I r h;obtain⟨a,kvs,rfl,G,D,q⟩:=h;obtain⟨u,rfl,J⟩:=vals1 r;cases J;obtain⟨vs,ep,g,B,L⟩:=jQ I G;have O:kvs.length=vs.length:=bC g;refine kdl_call (kdl_dict (knd:=Zx X.prog X.w) (kvs:=vs) (ep:=ep) L) (I.ok.hd E) B (by rw[<-O];exact D) λh' U C c k Y t=>?_;refine⟨.ref _,_,I.laid (t':=U) (o:=.lst (kvs.map λz=>kV z.1)) k (ak _) ⟨by rw[aa];exact D,C.toList,c,Dc g (yK t),?_⟩,rfl,q _ (I.hok.fresh (ak _))⟩;rw[Array.toArray_toList];exact Y
def HB:D1:=λxs M Φ=>on1 xs λx=>pQ x λps=>ps.length<=sizeLine/\Φ (.dat (.list (ps.map λq=>kD q.1))) M
theorem MO(z:X.calm=true):J6 X (.type "list") HB:=by
 refine⟨_,L5 z,λvs H xs M Φ Q r B h k=>?_⟩;obtain⟨x,rfl,h⟩:=(ZP h);obtain⟨ps,rfl,C,h⟩:=h;obtain⟨v,rfl,D⟩:=Paired.one B;obtain⟨l,kvs,rfl,G,E,t⟩:=(show Dt X.K M H v (kvD ps)from D).kv;exact⟨l,kvs,rfl,E,by rw[t.length];exact C,λa g=>k.dat (r.new g) (Step.new g) (Dt.JG r g (Uw t.keys)) h⟩
def mI(K:Fk)(g:Key×V->V):V->Hp->VK->Prop:=λx H Q=>∃(a:Addr)(kvs:List (Key×V))(M:Mp)(ds:List PyData),x=.ref a/\H a=some (.dK kvs)/\kvs.length<=sizeLine/\Dts K M H (kvs.map g) ds/\Qk ds/\
 ∀q:Array Nat,Pm ds.length q->q.toList.Pairwise (Le (ltI ds))->∀ l,H l=none->Q (.ref l) (upd H l (.lst (q.toList.map λi=>(kvs.map g).getD i .non)))
theorem GN(z:QL kk X.A)(B:X.calm=true):JA X (.builtin "sorted") (λxs H Q=>∃ x,xs=[x]/\mI X.K (λC=>kV C.1) x H Q):=by
 intro pins s σ H xs us Q I r h;obtain⟨x,rfl,a,kvs,M,ds,rfl,D,E,hd,G,J⟩:=h;obtain⟨u,rfl,L⟩:=vals1 r;cases L;obtain⟨vs,ep,g,l,O⟩:=jQ I D;exact Kb z I (Yp (kdl_dict (knd:=Zx X.prog X.w) (kvs:=vs) (ep:=ep) O) (I.ok.hd B) l (by rw[<-bC g];exact E)) (λus t=>⟨Dc g t,(Dts.reads I hd (Dc g t)).imp λ_ h=>h.1⟩) hd.length G J
theorem Gm{o:Expr}{L:TE}{p pos:Pos}(hr:QL kk X.A)(hc:X.calm=true)(E:Gl X "sorted")(G:X.mg "sorted"=none)(ho:PE X o L)(g:autoParam (attributeBase o "values" X.env (eval o X.env)=eval o X.env) zz3._auto_1)(l:autoParam ((apos.endLine==cpos.line)=true) zz3._auto_1):
  PE X (.Call (.Name "sorted" p) [.Call (.Attribute o "values" apos) [] [] cpos] [] pos) (λσ H Q=>L σ H λx J=>mI X.K (λB=>B.2) x J Q):=by
 intro pins s σ H Q I h;refine dP (Ua I E G (u:=.builtin "sorted") (by walk_at"k") ?_ (by decide) (by decide));refine fY (bO ?_) (by rfl) (by rfl);refine wpAny_Call_method0_late g l (thn (ho pins s σ H _ I h) λv C z0=>?_);obtain⟨x,J,D,r1,q1⟩:=z0;obtain⟨a,kvs,M,ds,rfl,O,hz,hd,ok,hQ⟩:=q1;cases r1;obtain⟨h1,h2⟩:=pF D (x:=.ref a) (v:=.ref a) (T:="dict") rfl (.inr (.inr (.inl ⟨rfl,.inl ⟨kvs,O⟩⟩)));obtain⟨vs,ep,t,r,hs⟩:=jQ D O;have U:kvs.length=vs.length:=bC t;refine⟨"dict","dict.values",cV,PySem.F.slot_dict_values,PySem.F.type_dict_values,h1,h2,cI rfl (PySem.evalArgs_none ?_)⟩;refine gC PySem.F.slot_dict_values r.dictOf.typeIs PySem.F.entry_dict_values (PySem.F.args_dict_values_1 _) (meets_dict_values (Zx X.prog X.w) a hs) ⟨⟨vs,r.dictOf⟩,?_⟩;refine dm ?_;have Y:L2.Inv X pins σ J {C with heap:=C.heap.push {cls:=.type "dict_values",data:=.fields #[.ref a]},toks:=C.toks}:=D.kept (t':=C.toks) λb u e=>am _ e;refine Kb hr Y (Yp (kdl_values (knd:=Zx X.prog X.w) (kvs:=vs) (ep:=ep)) (D.ok.hd hc) ⟨⟨_,aR _ rfl,rfl,rfl⟩,r.push _⟩ (by rw[<-U];exact hz)) (λus hi=>?_) hd.length ok hQ;have rv:Vals (kvs.map λB=>B.2) us:=by
  refine YI (by rw[aa,hi.1,U]) λj x u z hu=>?_;obtain⟨kk,ev⟩:=hi.2 j u hu;rw[aV]at z;cases e:kvs[j]? with
  |none=>rw[e]at z;cases z
  |some B=>
   rw[e]at z;cases z;obtain⟨q',e2,e3⟩:=Paired.getL t e;rw[ev]at e2;cases e2;exact e3.2
 exact⟨rv,(Dts.reads Y hd rv).imp λ_ h=>h.1⟩
def BY(h:DTE):DTE:=λΔ M Φ=>h Δ M λx M1=>onO x λl=>XG (M1 l) λps=>(ps.length<=sizeLine/\Qk (ps.map (·.2)))/\∀g,g.Perm (ps.map (·.2))->g.Pairwise leD->Φ (.dat (.list g)) M1
theorem YJ{o:Expr}{J:DTE}{p pos:Pos}(O:QL kk X.A)(B:Gl X "sorted")(C:X.mg "sorted"=none)(U:DE X o J)(Y:autoParam (X.calm=true) zz3._auto_1)(t:autoParam (attributeBase o "values" X.env (eval o X.env)=eval o X.env) zz3._auto_1)(z:autoParam ((apos.endLine==cpos.line)=true) zz3._auto_1):
  DE X (.Call (.Name "sorted" p) [.Call (.Attribute o "values" apos) [] [] cpos] [] pos) (BY J):=by
 obtain⟨t1,D,q1⟩:=U;refine⟨_,Gm O Y B C D t z,λσ H Δ M Φ Q r e h k=>?_⟩;refine q1 σ H Δ M _ _ r e h λv H1 x M1 E st rv g=>?_;obtain⟨l,rfl,g⟩:=(ZM g);obtain⟨ps,hm,⟨hz,ok⟩,g⟩:=(JH g);cases(show v=.ref l from rv);obtain⟨kvs,g1,g2,L⟩:=(show OOk X.K M1 H1 l (.dkv ps)from E.ok l _ hm)
 have kl:kvs.length=ps.length:=by
  have:=bK List.length g2
  rwa [aa,aa]at this
 refine⟨l,kvs,M1,ps.map (·.2),rfl,g1,by rw[kl];exact hz,L,ok,λq pm pu a G=>?_⟩;obtain⟨I,D,p2,p3⟩:=VG L pm pu;exact(k.step st).dat (E.new G) (Step.new G) (Dt.JG E G p3) (g I D p2)
noncomputable def woK(kvs:List (Key×V))(k:Key):List (Key×V):=kvs.filter λg=>decide (g.1≠k)
theorem L4{k:Key}{vs:List (Key×Value)}(h:KV kvs vs):KV (woK kvs k) (PySem.without vs k):=by
 unfold KV woK PySem.without at*
 induction h with
 |nil=>exact .nil
 | @cons a b _ _ g _ l=>
  by_cases e:a.1=k
  ·rw[ba (by simpa using e),ba (by rw[<-g.1];simpa using e)];exact l
  ·rw[bb (by simpa using e),bb (by rw[<-g.1];simpa using e)];exact .cons g l
theorem rN{k:Key}{vs:List (Key×Value)}(h:KV kvs vs):(J2 kvs k=none/\PySem.valueAt vs k=none)\/∃v u,J2 kvs k=some v/\PySem.valueAt vs k=some u/\RelV v u:=by
 unfold KV J2 PySem.valueAt at*
 induction h with
 |nil=>exact .inl ⟨rfl,rfl⟩
 | @cons a b _ _ g _ l=>
  by_cases e:a.1=k
  ·rw[aH (by simpa using e),aH (by rw[<-g.1];simpa using e)];exact .inr ⟨_,_,rfl,rfl,g.2⟩
  ·rw[aK (by simpa using e),aK (by rw[<-g.1];simpa using e)];exact l
section
variable{o f:Expr}{td ty tx:TE}
def xX(td ty tx:TE):TE:=λσ H Q=>td σ H λx h=>∃ a,x=.ref a/\IsD h a/\ty σ h λy l=>tx σ l λz g=>∃ kvs s,g a=some (.dK kvs)/\y=.str s/\
 (∀v,J2 kvs (.inr s)=some v->Q v (upd g a (.dK (woK kvs (.inr s)))))/\(J2 kvs (.inr s)=none->Q z g)
theorem xA(ho:PE X o td)(he:PE X e ty)(hf:PE X f tx)(m:M2 X o "pop" apos e f cpos):PE X (.Call (.Attribute o "pop" apos) [e,f] [] cpos) (xX td ty tx):=by
 intro pins s σ H Q I h;refine fP m.base m.few m.line cV fX PySem.F.type_dict_pop (thn (ho pins s σ H _ I h) λu s1 z0=>?_);obtain⟨x,H1,Y,rx,a,ex,d,q1⟩:=z0;subst ex;obtain rfl:u=Value.ref a:=rx;obtain⟨t1,t2,_⟩:=FN Y d;refine⟨t1,t2,?_⟩;rw[m.trees];refine cI rfl (dn (bO (thn (he pins s1 σ H1 _ Y q1) λiv s2 w2=>?_)));obtain⟨y,H2,I2,ry,q2⟩:=w2;refine bO (thn (hf pins s2 σ H2 _ I2 q2) λE s3 w3=>dm ?_);obtain⟨z,H3,G,rz,kvs,r,ha,ey,q3,q4⟩:=w3;subst ey;obtain⟨tk,rfl⟩:∃ t,iv=.str r t:=ry;obtain⟨hz,B,vs,l,D⟩:=(show Qc X.prog X.w H3 s3.heap a (.dK kvs)from G.hok a _ ha)
 have kl:kvs.length=vs.length:=bC l;have g:(Zx X.prog X.w).is (.inr r) (.str r tk)=true:=Jw _ _ _ _
 rcases rN (k:=.inr r) l with⟨J,L⟩|⟨v,u,J,L,ru⟩
 ·exact gC fX D.typeIs PySem.F.entry_dict_pop (PySem.F.args_dict_pop_3 _ _ _) (meets_dict_pop_default (Zx X.prog X.w) a g B (by rfl) E) ⟨vs,D,L,z,H3,G.tok _,rz,q4 J⟩
 ·refine gC fX D.typeIs PySem.F.entry_dict_pop (PySem.F.args_dict_pop_3 _ _ _) (meets_dict_pop_there (Zx X.prog X.w) a g [E] (.inr ⟨E,rfl⟩) (by rfl)) ⟨vs,u,D,by rw[<-kl];exact hz,L,λh' C O=>?_⟩;have lw:(woK kvs (.inr r)).length<=sizeLine:=aA (aX _ _) hz;obtain⟨o',es,ep,U,r1,r2,r3⟩:=id C;exact⟨v,_,Xu (ob:=.dK (woK kvs (.inr r))) G (by rw[ha];exact True.intro) O ⟨o',U⟩ ⟨lw,B,_,L4 l,C⟩,ru,q3 v J⟩
end
theorem tO{k:Key}{ps:List (Key×PyData)}(h:KD K M H kvs ps):KD K M H (woK kvs k) (ps.filter λq=>decide (q.1≠k)):=by
 unfold woK
 induction h with
 |nil=>exact .nil
 | @cons l _ _ _ _ r _ g=>
  by_cases e:l=k
  ·rw[ba (by simpa using e),ba (by simpa using e)];exact g
  ·rw[bb (by simpa using e),bb (by simpa using e)];exact .cons r g
section
variable{o f:Expr}{td ty tx:DTE}
def nB(td ty tx:DTE):DTE:=λΔ M Φ=>td Δ M λx M1=>onO x λl=>XG (M1 l) λ_=>ty Δ M1 λy M2=>tx Δ M2 λz g=>onS y λs=>onD z λd=>XG (g l) λps=>Φ (.dat ((Jh ps (.inr s)).getD d)) (Zs g l (.dkv (ps.filter λq=>decide (q.1≠.inr s))))
theorem filter_none{ps:List (Key×PyData)}{k:Key}(h:Jh ps k=none):(ps.filter λq=>decide (q.1≠k))=ps:=by
 rw[List.filter_eq_self];intro q g;unfold Jh at h;rw[dY,cA]at h
 simpa using h q g
theorem se(ho:DE X o td)(he:DE X e ty)(hf:DE X f tx)(m:autoParam (M2 X o "pop" apos e f cpos) zz13._auto_1):DE X (.Call (.Attribute o "pop" apos) [e,f] [] cpos) (nB td ty tx):=by
 obtain⟨t1,p1,q1⟩:=ho;obtain⟨t2,p2,q2⟩:=he;obtain⟨t3,p3,q3⟩:=hf;refine⟨_,xA p1 p2 p3 m,λσ H Δ M Φ Q r O h k=>?_⟩;refine q1 σ H Δ M _ _ r O h λv H1 x M1 r1 C rv t=>?_;obtain⟨l,rfl,t⟩:=(ZM t);obtain⟨a1,U,t⟩:=(JH t);cases(show v=.ref l from rv);obtain⟨E,g0,_⟩:=r1.dk U;refine⟨l,rfl,.inl ⟨E,.inl g0⟩,q2 σ H1 Δ M1 _ _ r1 (O.step C) t λw H2 y M2 r2 G Y hy=>?_⟩;refine q3 σ H2 Δ M2 _ _ r2 ((O.step C).step G) hy λz H3 z' I r3 a0 rz g=>?_;obtain⟨s,rfl,g⟩:=(Qu g);obtain⟨d,rfl,g⟩:=(QD g);obtain⟨ps,hm,g⟩:=(JH g);cases Y.str;obtain⟨kvs,g1,g2⟩:=r3.dk hm;have st:=(C.trans G).trans a0;refine⟨kvs,s,g1,rfl,λv J=>?_,λJ=>?_⟩
 ·rcases g2.val (.inr s)with⟨B,_⟩|⟨u,d',B,L,du⟩
  ·rw[J]at B;cases B
  ·rw[J]at B;cases B;rw[L]at g;have D:Step I H3 (Zs I l (.dkv (ps.filter λq=>decide (q.1≠.inr s)))) (upd H3 l (.dK (woK kvs (.inr s)))):=Step.Vb hm;exact k.dat (r3.jh D (tO g2)) (st.trans D) (du.step D) g
 ·rcases g2.val (.inr s)with⟨_,L⟩|⟨u,d',B,_⟩
  ·rw[L,filter_none L]at g;have em:Zs I l (.dkv ps)=I:=by
    funext b
    by_cases e:b=l
    ·rw[e,Zk,hm]
    ·rw[Zj e]
   rw[em]at g;exact k.dat r3 st rz g
  ·rw[J]at B;cases B
end
section
variable{pn:Pos}
def MM(K:Fk)(a:Addr)(d:PyData):Prop:=∀ M H,Dt K M H (.ref a) d
theorem MM.nil{o:Obj}(h:K.lookup a=some o)(g:o.cls=.type "tuple")(l:o.dict=none)(hd:o.data=.seq #[] n):MM K a (.tuple []):=λ_ _=>
 Dt.tup (xs:=[]) (.inr ⟨o,#[],n,h,g,l,hd,br _,.nil⟩) .nil
theorem MM.two{o:Obj}{e:PyData}(h:K.lookup a=some o)(l:o.cls=.type "tuple")(r:o.dict=none)(hd:o.data=.seq #[.ref b,.ref c] n)(t:MM K b d)(g:MM K c e):MM K a (.tuple [d,e]):=λM H=>
 Dt.tup (xs:=[.ref b,.ref c]) (.inr ⟨o,#[.ref b,.ref c],n,h,l,r,hd,(by decide:2<=sizeLine),.cons rfl (.cons rfl .nil)⟩) (.cons (t M H) (.cons (g M H) .nil))
theorem Dd(g:Gl X x)(l:X.mg x=some (.ref a))(h:MM X.K a d)(hd:autoParam ((x==("__debug__" :Str))=false) zz1._auto_1):DE X (.Name x pn) (dC d):=
 ⟨_,Sa (v:=.ref a) g l rfl hd,λσ H Δ M Φ Q r e h' k=>k.dat r Step.refl (h M H) h'⟩
end
def R7:D1:=λxs M Φ=>on1 xs λx=>onT x λds=>∃ l:List (Str×PyData),ds=l.map pairD/\∀p,M p=none->Φ (.own p) (Zs M p (.dkv (YF l)))
theorem xr(t:X.calm=true):J6 X (.type "dict") R7:=by
 refine⟨_,W9 t,λvs H xs M Φ Q r z h k=>?_⟩;obtain⟨x,rfl,h⟩:=(ZP h);obtain⟨ds,rfl,l,rfl,q⟩:=(XT h);obtain⟨v,rfl,B⟩:=Paired.one z;cases(show Dt X.K M H v (.tuple (l.map pairD))from B)with
 |tup C D=>
  obtain⟨ps,E,G,I⟩:=HL l _ D;refine⟨_,_,ps,rfl,.inr C.sq,E.symm,G,λp g=>?_⟩;have st:Step M H (Zs M p (.dkv (YF l))) (upd H p (.dK (ps.foldl (λm p=>putK m p.1 p.2) []))):=Step.Qp g;exact k _ _ (.own p) _ (r.jh st (Fe ps l [] [] I .nil)) st rfl (q p (r.tracked g))
theorem C6(z:X.calm=true):JA X (.type "dict") (λxs H Q=>∃ a,xs=[.ref a]/\SqL X.K H a []/\∀l,H l=none->Q (.ref l) (upd H l (.dT []))):=by
 intro pins s σ H xs us Q I r h;obtain⟨a,rfl,B,q⟩:=h;obtain⟨u,rfl,C⟩:=vals1 r;cases C;obtain⟨its,D,hz,T,E,G⟩:=kj I (.inl B);cases D;have g:=I.big;refine Vl (knd:=Zx X.prog X.w) (ps:=[]) (I.ok.hd z) E G rfl (br _) (λj p J=>by simp at J) λh' t' L O=>?_;obtain⟨o,U,Y,e1,e2,e3,e4⟩:=O;have t:U= #[]:=Array.toList_eq_nil_iff.mp (List.eq_nil_of_length_eq_zero (by have:=e4.2.1.length;simpa using this));subst t;refine⟨.ref s.heap.objs.size,_,I.laid (o:=.dT []) (t':=t') L (ak _) ⟨br _,?_,[],.nil,o,#[],Y,e1,e2,e3,rfl,List.nodup_nil⟩,rfl,q _ (I.hok.fresh (ak _))⟩;exact cZ.mpr (eY g)
def EX:D1:=λxs M Φ=>on1 xs λx=>onL x λds=>ds=[]/\∀p,M p=none->Φ (.own p) (Zs M p (.dtv []))
theorem OR(l:X.calm=true):J6 X (.type "dict") EX:=by
 refine⟨_,C6 l,λvs H xs M Φ Q r t h k=>?_⟩;obtain⟨x,rfl,h⟩:=(ZP h);obtain⟨ds,rfl,rfl,q⟩:=(WC h);obtain⟨v,rfl,z⟩:=Paired.one t;cases(show Dt X.K M H v (.list [])from z)with
 |lst B C=>
  cases C;exact⟨_,rfl,B.sq,λp g=>k _ _ (.own p) _ (r.Vk (o:=.dtv []) (Step.Qp g) ⟨[],Z0,rfl,.nil⟩) (Step.Qp g) rfl (q p (r.tracked g))⟩
section
variable{o f:Expr}{td ty tx:TE}
def Ts(td ty tx:TE):TE:=λσ H Q=>td σ H λx h=>∃ a,x=.ref a/\IsD h a/\ty σ h λy l=>tx σ l λz g=>∃ kvs k,g a=some (.dK kvs)/\y=kV k/\kvs.length<sizeLine/\
 (∀v,J2 kvs k=some v->Q v g)/\(J2 kvs k=none->Q z (upd g a (.dK (putK kvs k z))))
theorem Lo(ho:PE X o td)(B:PE X e ty)(hf:PE X f tx)(m:M2 X o "setdefault" apos e f cpos):PE X (.Call (.Attribute o "setdefault" apos) [e,f] [] cpos) (Ts td ty tx):=by
 intro pins s σ H Q I h;refine fP m.base m.few m.line cV cY PySem.F.type_dict_setdefault (thn (ho pins s σ H _ I h) λu s1 z0=>?_);obtain⟨x,H1,G,rx,a,ex,d,q1⟩:=z0;subst ex;obtain rfl:u=Value.ref a:=rx;obtain⟨t1,t2,_⟩:=FN G d;refine⟨t1,t2,?_⟩;rw[m.trees];refine cI rfl (dn (bO (thn (B pins s1 σ H1 _ G q1) λJ s2 w2=>?_)));obtain⟨y,H2,I2,ry,q2⟩:=w2;refine bO (thn (hf pins s2 σ H2 _ I2 q2) λL O w3=>dm ?_);obtain⟨z,H3,C,U,kvs,k,Y,ey,hl,q3,q4⟩:=w3;subst ey;obtain⟨z1,hd,vs,l,D⟩:=jH C.hok Y;have n1:vs.length=kvs.length:=(bC l).symm;refine c8 cY D.typeIs gm ?_ (gb _ _ _);unfold Builtin.«dict.setdefault»;refine ag ?_;unfold Builtin.Dict.keyAndDefault;refine ag (eE D.typeIs ?_);show wpAny _ _ (pure (a,J,some L)) _ _ O;refine aD ?_;show wpAny _ _ (if(a==sysModules)=true then _ else(dictSetDefault a J L >>= _)) _ _ O;rw[ao (by rw[hd];exact ae)];have g:=l.val k;refine ag (PySem.kt_dictSetDefault_pairs (hsz:=by rw[n1];exact dN hl) (Gf ry) D (λv E=>aD ⟨_,rfl,?_⟩) λhn h' r hs=>aD ⟨_,rfl,?_⟩)
 ·rw[E]at g;cases t:J2 kvs k with
  |none=>rw[t]at g;exact g.elim
  |some v'=>rw[t]at g;exact⟨v',H3,C.tok _,g,q3 v' t⟩
 ·rw[hn]at g;have E:J2 kvs k=none:=by
   cases t:J2 kvs k with
   |none=>rfl
   |some v=>rw[t]at g;exact g.elim
  have B:∃ q,h'.get? a=some q:=let⟨q,_,_,hq,_⟩:=r;⟨q,hq⟩;exact⟨z,_,Xu C (by rw[Y];exact True.intro) hs B (HD (by have:=Ju kvs k z;lia) hd (l.put k U) r),U,q4 E⟩
end
theorem rM{ps:List (Key×DV)}(h:KO K M H kvs ps)(k:Key)(e:QY ps k=none):J2 kvs k=none:=by
 have a:=pq h k;rw[Gs]at a;cases g:J2 kvs k with
 |none=>rfl
 |some v=>
  rw[g]at a;obtain⟨q,l,z⟩:=cE.mp a.symm;unfold QY at e;rw[dY,cA]at e;exact absurd z (e q l)
section
variable{o f i:Expr}{td ty tx:DTE}
def P5:DTE:=λ_ M Φ=>∀ p,M p=none->Φ (.own p) (Zs M p (.dko []))
theorem S9:DE X (.Dict [] [] pos) P5:=
 ⟨_,xi,λ_ _ _ _ _ _ r _ h k p g=>k _ _ (.own p) _ (r.O8 (kvs:=[]) (ps:=[]) (Step.Qp g) .nil) (Step.Qp g) rfl (h p (r.tracked g))⟩
def FO(td ty tx:DTE):DTE:=λΔ M Φ=>td Δ M λx M1=>onO x λl=>D0 (M1 l) λ_=>ty Δ M1 λy M2=>tx Δ M2 λz g=>Mh z (onI y λn=>D0 (g l) λps=>ps.length<sizeLine/\
 (∀h,QY ps (.inl n)=some h->Φ h g)/\(QY ps (.inl n)=none->Φ z (Zs g l (.dko (Xo ps (.inl n) z)))))
theorem LW(ho:DE X o td)(he:DE X e ty)(hf:DE X f tx)(m:autoParam (M2 X o "setdefault" apos e f cpos) zz13._auto_1):DE X (.Call (.Attribute o "setdefault" apos) [e,f] [] cpos) (FO td ty tx):=by
 obtain⟨t1,p1,q1⟩:=ho;obtain⟨t2,p2,q2⟩:=he;obtain⟨t3,p3,q3⟩:=hf;refine⟨_,Lo p1 p2 p3 m,λσ H Δ M Φ Q r O h kk=>?_⟩;refine q1 σ H Δ M _ _ r O h λv H1 x M1 r1 t rv B=>?_;obtain⟨l,rfl,B⟩:=(ZM B);obtain⟨a1,U,B⟩:=Xx B;obtain⟨D,g0,_⟩:=r1.ko U;refine⟨l,rv,.inl ⟨D,.inl g0⟩,?_⟩;refine q2 σ H1 Δ M1 _ _ r1 (O.step t) B λw H2 y M2 r2 E ry hy=>?_;refine q3 σ H2 Δ M2 _ _ r2 (O.step (t.trans E)) hy λu Y z M3 r3 a0 rz g=>?_;obtain⟨nt,g⟩:=(Uu g);obtain⟨n,rfl,g⟩:=(ZJ g);obtain⟨ps,hm,hl,c1,c2⟩:=Xx g;cases ry.int;obtain⟨kvs,g1,G⟩:=r3.ko hm;have I:=t.trans (E.trans a0);have dv:VR0 X.K M3 Y u z:=rz.zero nt;refine⟨kvs,.inl n,g1,rfl,by rw[HK G];exact hl,λv' J=>?_,λJ=>?_⟩
 ·cases e:QY ps (.inl n)with
  |none=>
   rw[rM G _ e]at J;cases J
  |some z'=>
   obtain⟨v2,L,e2⟩:=Fl G _ e;rw[J]at L;cases L;exact kk _ _ z' _ r3 I e2.rel (c1 z' e)
 ·cases e:QY ps (.inl n)with
  |none=>
   have C:Step M3 Y (Zs M3 l (.dko (Xo ps (.inl n) z))) (upd Y l (.dK (putK kvs (.inl n) u))):=Step.Vb hm;exact kk _ _ z _ (r3.O8 C (oA G _ dv)) (I.trans C) (rz.step C) (c2 e)
  |some z'=>
   obtain⟨v2,L,_⟩:=Fl G _ e;rw[J]at L;cases L
def nQ(td g:DTE):DTE:=λΔ M Φ=>td Δ M λx M1=>g Δ M1 λy M2=>onO x λl=>onI y λn=>D0 (M2 l) λps=>∃ z,QY ps (.inl n)=some z/\Φ z M2
theorem qC{k:Nat}(E:QL k X.A)(G:DE X o td)(I:DE X i ty)(J:autoParam (aG i) zz6._auto_1):DE X (.Subscript o i pos) (nQ td ty):=by
 obtain⟨t1,L,O⟩:=G;obtain⟨t2,U,Y⟩:=I;refine⟨_,Ek (by have:=E.un;lia) L U J,λσ H Δ M Φ Q r e h k=>?_⟩;refine O σ H Δ M _ _ r e h λv H1 x M1 r1 t rv hx=>?_;refine Y σ H1 Δ M1 _ _ r1 (e.step t) hx λw H2 y M2 D B C g=>?_;obtain⟨l,rfl,g⟩:=(ZM g);obtain⟨n,rfl,g⟩:=(ZJ g);obtain⟨ps,hm,z,hd,q⟩:=Xx g;cases(show v=.ref l from rv);cases C.int;obtain⟨kvs,g1,g2⟩:=D.ko hm;obtain⟨u,a,du⟩:=Fl g2 (.inl n) hd;exact⟨l,u,rfl,by rw[<-a];exact CA.k (k:=.inl n) g1,k _ _ z _ D (t.trans B) du.rel q⟩
def Ho:D1:=λxs M Φ=>on1 xs λx=>onO x λl=>D0 (M l) λps=>(ps.length<=sizeLine/\Qk (ps.map λq=>kD q.1))/\∀g,g.Perm (ps.map λq=>kD q.1)->g.Pairwise leD->Φ (.dat (.list g)) M
theorem DX(C:QL kk X.A)(D:autoParam (X.calm=true) zz3._auto_1):J6 X (.builtin "sorted") Ho:=by
 refine⟨_,GN C D,λvs H xs M Φ Q r E h k=>?_⟩;obtain⟨x,rfl,h⟩:=(ZP h);obtain⟨l,rfl,h⟩:=(ZM h);obtain⟨ps,G,⟨I,J⟩,q⟩:=Xx h;obtain⟨v,rfl,L⟩:=Paired.one E;cases(show v=.ref l from L);obtain⟨kvs,O,z⟩:=r.ko G;have B:Dts X.K M H (kvs.map λU=>kV U.1) (ps.map λq=>kD q.1):=by
  have:=Uw (K:=X.K) (M:=M) (H:=H) (kvs:=kvs) (ps:=ps.map λq=>(q.1,PyData.none)) (by rw[aC];exact Rx z)
  rwa [aC]at this
 refine⟨_,rfl,l,kvs,M,_,rfl,O,by rw[HK z];exact I,B,J,λp Y pu a g=>?_⟩;obtain⟨t,e1,e2,e3⟩:=VG B Y pu;exact k.dat (r.new g) (Step.new g) (Dt.JG r g e3) (q t e1 e2)
noncomputable def Xr(ps:List (List Key×PyData))(k:List Key)(d:PyData):List (List Key×PyData):=if(ps.any λg=>decide (g.1=k))=true then ps.map (λg=>if g.1=k then(g.1,d)else g)else ps++[(k,d)]
theorem nh{k:List Key}:∀{kvs:List (List Key×V)}{ps:List (List Key×PyData)},kvs.map (·.1)=ps.map (·.1)->(kvs.any λg=>decide (g.1=k))=ps.any λg=>decide (g.1=k)
 |[],[],_=>rfl
 |[],_::_,h=>by simp at h
 |_::_,[],h=>by simp at h
 |a::kvs,b::ps,h=>by
  rw[ai,ai,bR]at h;rw[bi,bi,h.1,nh h.2]
theorem kQ{k:List Key}(hd:Dt K M H v d):∀{kvs:List (List Key×V)}{ps:List (List Key×PyData)},kvs.map (·.1)=ps.map (·.1)->Dts K M H (kvs.map (·.2)) (ps.map (·.2))->
  (kvs.map λl=>if l.1=k then(l.1,v)else l).map (·.1)=(ps.map λl=>if l.1=k then(l.1,d)else l).map (·.1)/\Dts K M H ((kvs.map λl=>if l.1=k then(l.1,v)else l).map (·.2)) ((ps.map λl=>if l.1=k then(l.1,d)else l).map (·.2))
 |[],[],_,h=>⟨rfl,h⟩
 |[],_::_,h,_=>by simp at h
 |_::_,[],h,_=>by simp at h
 | a::kvs,b::ps,h,g=>by
  simp only[List.map_cons,List.cons.injEq]at h g⊢;cases g with
  |cons B C=>
   obtain⟨r,t⟩:=kQ hd (k:=k) h.2 C
   by_cases e:b.1=k
   ·rw[aw (h.1.trans e),aw e];exact⟨⟨h.1,r⟩,.cons hd t⟩
   ·rw[ao λz=>e (h.1.symm.trans z),ao e];exact⟨⟨h.1,r⟩,.cons B t⟩
def pS(td r t:DTE):DTS:=λD Δ M=>t Δ M λx M1=>td Δ M1 λy M2=>r Δ M2 λz h=>onD x λd=>onO y λl=>iA (h l) λps=>∃ g,z=kDV g/\ps.length<sizeLine/\D.nx Δ (Zs h l (.dtv (Xr ps g d)))
theorem uC{k:Nat}{o i B:Expr}{td ti tv:DTE}{I pos:Pos}(hr:QL k X.A)(ho:DE X o td)(hi:DE X i ti)(hv:DE X B tv)
  (hs:autoParam (swapsWith B (some (.Subscript o i I)) pos.line X.env=pure false) zz3._auto_1):DS X (.Assign [.Subscript o i I] B pos) (pS td ti tv):=by
 obtain⟨t1,p1,q1⟩:=hv;obtain⟨t2,p2,q2⟩:=ho;obtain⟨t3,p3,q3⟩:=hi;refine⟨_,Dz (by have:=hr.un;lia) p2 p3 p1 hs,λσ H Δ M D E r e h k=>?_⟩;refine q1 σ H Δ M _ _ r e h λv H1 x M1 r1 J rv hx=>?_;refine q2 σ H1 Δ M1 _ _ r1 (e.step J) hx λw H2 y M2 r2 L a2 hy=>?_;refine q3 σ H2 Δ M2 _ _ r2 (e.step (J.trans L)) hy λu O z U r3 Y rz G=>?_;obtain⟨d,rfl,G⟩:=(QD G);obtain⟨l,rfl,G⟩:=(ZM G);obtain⟨ps,hm,g,rfl,hl,hn⟩:=Ed G;cases(show w=.ref l from a2);obtain⟨b,rfl,hb⟩:=kw rz;obtain⟨kvs,g1,g2,g3⟩:=(show OOk X.K U O l (.dtv ps)from r3.ok l _ hm)
 have n1:kvs.length=ps.length:=by have:=bK List.length g2;simpa using this
 refine⟨l,_,rfl,dc.t (k:=g) g1 hb (by rw[n1];exact hl),?_⟩;have C:Step U O (Zs U l (.dtv (Xr ps g d))) (upd O l (.dT (putK kvs g v))):=Step.Vb hm;have a0:=J.trans (L.trans (Y.trans C));have dv:Dt X.K _ _ v d:=Dt.step C (Dt.step (L.trans Y) rv);have a1:(putK kvs g v).map (·.1)=(Xr ps g d).map (·.1)/\Dts X.K (Zs U l (.dtv (Xr ps g d))) (upd O l (.dT (putK kvs g v))) ((putK kvs g v).map (·.2)) ((Xr ps g d).map (·.2)):=by
  have e1:putK kvs g v=if(ps.any λkv=>decide (kv.1=g))=true then kvs.map (λkv=>if kv.1=g then(kv.1,v)else kv)else kvs++[(g,v)]:=by
   rw[<-nh (k:=g) g2];rfl
  generalize Zs U l (.dtv (Xr ps g d))=M4 at*;generalize upd O l (.dT (putK kvs g v))=H4 at*;rw[e1];unfold Xr
  split
  ·exact kQ dv g2 (g3.step C)
  ·rw[al,al,al,al,g2];exact⟨rfl,(g3.step C).append (.cons dv .nil)⟩
 exact k.nx _ _ _ _ (r3.Vk C ⟨_,Z0,a1.1,a1.2⟩) a0 (e.step a0) hn
def jv(x:DV)(P:PyData->Prop):Prop:=match x with| .dat d=>P d| .mix [.dat a,.dat b]=>P (.tuple [a,b])|_=>False
theorem uM(a b:PyData)(P:PyData->Prop):jv (.mix [.dat a,.dat b]) P=P (.tuple [a,b]):=rfl
def dMD(t:DTE):DTE:=λΔ M Φ=>t Δ M λx M1=>jv x λd=>Φ (.dat d) M1
theorem jx(h:DE X e td):DE X e (dMD td):=by
 obtain⟨u,p,q⟩:=h;refine⟨u,p,λσ H Δ M Φ Q r e h k=>?_⟩;refine q σ H Δ M _ _ r e h λv z x M1 l st t g=>?_;unfold jv at g
 split at g
 ·exact k.dat l st t g
 ·cases(show Mx X.K M1 z v _ from t)with
  | mk B C D=>cases D with
   | dat E G=>cases G with
    |dat I J=>
     cases J;exact k.dat l st (Dt.tup (.inl ⟨B,.inl C⟩) (.cons E (.cons I .nil))) g
 ·exact g.elim
end
end DL
namespace My
open DL
set_option maxHeartbeats 8000000
noncomputable def top(i:Nat):Stmt:=PySem.Challenge.pw_landsentered_k58_whole_things_apart_and.main.body.getD i (.Pass ⟨0,0,0,0⟩)
noncomputable abbrev YA:Stmt:=top 1
noncomputable abbrev Xl:Stmt:=top 2
noncomputable abbrev Jt:Stmt:=top 3
noncomputable abbrev ju:Stmt:=top 4
noncomputable abbrev UO:Stmt:=top 5
noncomputable abbrev UR:Stmt:=top 6
noncomputable abbrev Y2:Stmt:=top 7
noncomputable abbrev Yx:Stmt:=top 8
noncomputable abbrev OP:Stmt:=top 10
noncomputable abbrev JC:Stmt:=top 11
noncomputable abbrev UD:Stmt:=top 13
noncomputable abbrev U2:Stmt:=top 14
noncomputable abbrev Qv:Stmt:=top 15
noncomputable abbrev C3:Stmt:=top 16
noncomputable abbrev VW:Stmt:=top 19
noncomputable abbrev Xt:Stmt:=top 20
noncomputable abbrev Wc:Stmt:=top 23
noncomputable abbrev Y3:Stmt:=top 24
noncomputable abbrev JJ:Stmt:=top 25
noncomputable abbrev JU:Stmt:=top 26
noncomputable abbrev Xf:Stmt:=top 27
noncomputable abbrev QN:Stmt:=top 28
noncomputable abbrev VT:Stmt:=top 29
noncomputable abbrev Q3:Stmt:=top 30
noncomputable abbrev Vq:Stmt:=top 31
noncomputable abbrev J8:Stmt:=top 32
noncomputable abbrev Qa:Stmt:=top 33
noncomputable abbrev VX:Stmt:=top 34
noncomputable abbrev Dl:Stmt:=top 36
noncomputable abbrev Q6:Stmt:=top 37
noncomputable abbrev U5:Stmt:=top 38
noncomputable abbrev jk:Stmt:=top 40
noncomputable abbrev MR:Stmt:=top 41
noncomputable abbrev Yo:Stmt:=top 42
noncomputable abbrev DC:Stmt:=top 43
noncomputable abbrev CM:Stmt:=top 44
noncomputable abbrev Pz:Stmt:=top 45
noncomputable abbrev RX:Stmt:=top 46
noncomputable abbrev FD:Stmt:=top 47
noncomputable abbrev Dy:Stmt:=top 48
noncomputable abbrev KN:Stmt:=top 49
noncomputable abbrev Xj:Stmt:=top 50
noncomputable abbrev GD:Stmt:=top 51
noncomputable abbrev jf:Stmt:=top 52
noncomputable abbrev QR:Stmt:=top 53
noncomputable abbrev OB:Stmt:=top 54
noncomputable abbrev Kf:Stmt:=top 55
noncomputable abbrev ZT:Stmt:=top 56
noncomputable abbrev jF:Stmt:=top 57
theorem Be:Zo ["box"] ["box"] (Zf YA):=by walk_at"s"
theorem Df:Zo ["box","spot"] ["box","spot"] (Zf Xl):=by walk_at"s"
theorem X1:Zo ["one","other"] ["one","other"] (Zf Jt):=by walk_at"s"
theorem ux:Zo ["one","other","way"] ["one","other","way"] (Zf ju):=by walk_at"s"
theorem Mo:Zo ["spot","r"] ["spot","r"] (Zf UO):=by walk_at"s"
theorem Wl:Zo ["one","other","low","high"] ["one","other"] (Zf UR):=by walk_at"s"
theorem Jk:Zo ["one","other","middle","left","right","below","above"] ["one","other"] (Zf Y2):=by walk_at"s"
theorem QI:Zo ["box","others","pieces","other","rest","piece"] ["box","others"] (Zf Yx):=by walk_at"s"
theorem wS:Zo ["shape","wobble","spot"] ["shape","wobble","spot"] (Zf OP):=by walk_at"s"
theorem Gz:Zo ["pieces","spot"] ["pieces","spot"] (Zf JC):=by walk_at"s"
theorem YY:Zo ["lands","land","outers","at","many"] ["lands","land"] (Zf UD):=by walk_at"s"
theorem Wd:Zo ["lands","held","spot","told","row"] ["lands","held","spot"] (Zf U2):=by walk_at"s"
theorem Yi:Zo ["lands","ranked"] ["lands"] (Zf Qv):=by walk_at"s"
theorem Hk:Zo ["row","held","spot","found"] ["row","held","spot"] (Zf C3):=by walk_at"s"
theorem Ys:Zo ["tellings","counting","telling"] ["tellings"] (Zf VW):=by walk_at"s"
theorem D9:Zo ["telling"] ["telling"] (Zf Xt):=by walk_at"s"
theorem L3:Zo ["tellings"] ["tellings"] (Zf Wc):=by walk_at"s"
theorem Lk:Zo ["tellings","time"] ["tellings","time"] (Zf Y3):=by walk_at"s"
theorem Z2:Zo ["view","tellings","at_times","telling","rows","time","step"] ["view","tellings"] (Zf JJ):=by walk_at"s"
theorem J1:Zo ["view","tellings","counting","first","second","third"] ["view","tellings"] (Zf JU):=by walk_at"s"
theorem QX:Zo ["view","told","lands","things","rows","known","seen"] ["view","told"] (Zf Xf):=by walk_at"s"
theorem Q5:Zo ["view","told","names","rows","known"] ["view","told"] (Zf QN):=by walk_at"s"
theorem QG:Zo ["view","told","things","rows","telling","thing","known","seen"] ["view","told"] (Zf VT):=by walk_at"s"
theorem Jq:Zo ["lands","told","there","telling"] ["lands","told"] (Zf Q3):=by walk_at"s"
theorem UN:Zo ["thing","spot"] ["thing","spot"] (Zf Vq):=by walk_at"s"
theorem Vy:Zo ["lands","known","time","begins","names"] ["lands","known","time"] (Zf J8):=by walk_at"s"
theorem Qg:Zo ["known","seen","time","lands_ahead","lands","before","behind","left","entered","goings"] ["known","seen","time","lands_ahead","lands"] (Zf Qa):=by walk_at"s"
theorem Dn:Zo ["known"] ["known"] (Zf VX):=by walk_at"s"
theorem u0:Zo ["tellings"] ["tellings"] (Zf Dl):=by walk_at"s"
theorem Qe:Zo ["view","rows","told","latest","row","place","ended"] ["view","rows"] (Zf Q6):=by walk_at"s"
theorem UX:Zo ["view","told","known"] ["view"] (Zf U5):=by walk_at"s"
theorem Fm:Zo ["_law_script","_law_k","_law_cell"] ["_law_script","_law_k"] (Zf jk):=by walk_at"s"
theorem UJ:Zo ["_law_pen_here","_law_many","_law_mixed","_law_drawn"] ["_law_pen_here","_law_many"] (Zf MR):=by walk_at"s"
theorem JB:Zo ["_law_pen_here","_law_many","_law_letters","_law_base","_law_long","_law_at","_law_found","_law_k","_law_signs"] ["_law_pen_here","_law_many"] (Zf Yo):=by walk_at"s"
theorem HF:Zo ["_law_pen_here","_law_far"] ["_law_pen_here"] (Zf DC):=by walk_at"s"
theorem QM:Zo ["_law_pen_here","_law_found","_law_k","_law_wide","_law_high","_law_x","_law_y","_law_low","_law_top"] ["_law_pen_here"] (Zf CM):=by walk_at"s"
theorem sT:Zo ["_law_frame_here","_law_spot_here","_law_more"] ["_law_frame_here","_law_spot_here","_law_more"] (Zf Pz):=by walk_at"s"
theorem Wa:Zo ["_law_pen_here","_law_house_here","_law_one","_law_other","_law_small","_law_frame_here"] ["_law_pen_here","_law_house_here"] (Zf RX):=by walk_at"s"
theorem JI:Zo ["_law_pen_here","_law_house_here","_law_boxes_here","_law_frame_here","_law_outers","_law_outer","_law_shape","_law_wobble","_law_far","_law_low","_law_top"] ["_law_pen_here","_law_house_here"] (Zf FD):=by walk_at"s"
theorem J3:Zo ["_law_pen_here","_law_lands","_law_things","_law_step","_law_start","_law_house_here"] ["_law_pen_here"] (Zf Dy):=by walk_at"s"
theorem VF:Zo ["_law_pen_here","_law_house_here","_law_time","_law_way","_law_land_here","_law_thing"] ["_law_pen_here","_law_house_here","_law_time"] (Zf KN):=by walk_at"s"
theorem J9:Zo ["_law_pen_here","_law_house_here","_law_many","_law_times","_law_found","_law_k","_law_time"] ["_law_pen_here","_law_house_here","_law_many","_law_times"] (Zf Xj):=by walk_at"s"
theorem KA:Zo ["_law_pen_here","_law_some","_law_found","_law_one"] ["_law_pen_here","_law_some"] (Zf GD):=by walk_at"s"
theorem sV:Zo ["_law_tellings_here","_law_thing"] ["_law_tellings_here","_law_thing"] (Zf jf):=by walk_at"s"
theorem Qm:Zo ["_law_tellings_here","_law_things","_law_time","_law_rows","_law_view","_law_thing","_law_alone","_law_own"] ["_law_tellings_here","_law_things","_law_time"] (Zf QR):=by walk_at"s"
theorem KQ:Zo ["_law_tellings_here","_law_thing","_law_time","_law_other","_law_found","_law_one","_law_far"] ["_law_tellings_here","_law_thing","_law_time","_law_other"] (Zf OB):=by walk_at"s"
theorem P1:Zo ["_law_rows","_law_thing","_law_other"] ["_law_rows","_law_thing","_law_other"] (Zf Kf):=by walk_at"s"
theorem ZQ:Zo ["_law_tellings_here","_law_thing","_law_time","_law_freed","_law_taken","_law_some","_law_other","_law_parted","_law_rows","_law_due","_law_own","_law_both"] ["_law_tellings_here","_law_thing","_law_time"] (Zf ZT):=by walk_at"s"
theorem WT:Zo ["_law_script","_law_k","_law_pen_here","_law_house_here","_law_tellings_here","_law_time"] ["_law_script"] (Zf jF):=by walk_at"s"
theorem oX:bootBuiltins "abs"=some (.builtin "abs"):=by walk_at"k"
theorem Kj:bootBuiltins "dict"=some (.type "dict"):=by walk_at"k"
theorem Jr:bootBuiltins "len"=some (.builtin "len"):=by walk_at"k"
theorem S8:bootBuiltins "list"=some (.type "list"):=by walk_at"k"
theorem Fo:bootBuiltins "max"=some (.builtin "max"):=by walk_at"k"
theorem Sx:bootBuiltins "min"=some (.builtin "min"):=by walk_at"k"
theorem Vp:bootBuiltins "sorted"=some (.builtin "sorted"):=by walk_at"k"
theorem VO:bootBuiltins "tuple"=some (.type "tuple"):=by walk_at"k"
set_option genInjectivity false in
structure Tx(w:World)(K:Fk)(mg:Str->Option Value)(base:Heap)where
 bm:BmB base mg
 KP:Addr
 KH:FuncData
 Wh:Own K mg "has_spots" YA ["box"] KP KH
 WL:Addr
 W4:FuncData
 WO:Own K mg "steps_to" Xl ["box","spot"] WL W4
 Vs:Addr
 Vo:FuncData
 Jv:Own K mg "steps_between" Jt ["one","other"] Vs Vo
 ki:Addr
 lH:FuncData
 jn:Own K mg "gap" ju ["one","other","way"] ki lH
 Hr:Addr
 Hh:FuncData
 Hq:Own K mg "square" UO ["spot","r"] Hr Hh
 FJ:Addr
 Hx:FuncData
 Fp:Own K mg "common" UR ["one","other"] FJ Hx
 BB:Addr
 Cm:FuncData
 Cg:Own K mg "cut_out" Y2 ["one","other"] BB Cm
 Kx:Addr
 Wg:FuncData
 Km:Own K mg "left_over" Yx ["box","others"] Kx Wg
 pX:Addr
 pB:FuncData
 kB:Own K mg "side" OP ["shape","wobble","spot"] pX pB
 XR:Addr
 XD:FuncData
 XS:Own K mg "steps_away" JC ["pieces","spot"] XR XD
 Pl:Addr
 RK:FuncData
 U3:Own K mg "level" UD ["lands","land"] Pl RK
 F6:Addr
 HM:FuncData
 Hm:Own K mg "looked" U2 ["lands","held","spot"] F6 HM
 Xb:Addr
 YZ:FuncData
 Y9:Own K mg "outer_first" Qv ["lands"] Xb YZ
 RZ:Addr
 O6:FuncData
 SO:Own K mg "keeps" C3 ["row","held","spot"] RZ O6
 Ug:Addr
 WZ:FuncData
 WK:Own K mg "in_order" VW ["tellings"] Ug WZ
 W6:Addr
 Uk:FuncData
 Uc:Own K mg "place_of" Xt ["telling"] W6 Uk
 BI:Addr
 Bd:FuncData
 JX:Own K mg "history" Wc ["tellings"] BI Bd
 Cw:Addr
 B2:FuncData
 YM:Own K mg "view_at" Y3 ["tellings","time"] Cw B2
 Yh:Addr
 Yd:FuncData
 JO:Own K mg "gone_through" JJ ["view","tellings"] Yh Yd
 BC:Addr
 B9:FuncData
 G6:Own K mg "gone_on" JU ["view","tellings"] BC B9
 Ui:Addr
 W5:FuncData
 Um:Own K mg "by_lands" Xf ["view","told"] Ui W5
 YT:Addr
 Y7:FuncData
 YR:Own K mg "by_freeings" QN ["view","told"] YT Y7
 WV:Addr
 Uj:FuncData
 WM:Own K mg "by_spots" VT ["view","told"] WV Uj
 V3:Addr
 Ya:FuncData
 Yg:Own K mg "lands_behind" Q3 ["lands","told"] V3 Ya
 XQ:Addr
 XJ:FuncData
 Vr:Own K mg "in_no_land" Vq ["thing","spot"] XQ XJ
 K8:Addr
 Wf:FuncData
 Yv:Own K mg "looked_at" J8 ["lands","known","time"] K8 Wf
 Ye:Addr
 JL:FuncData
 Q2:Own K mg "rows_between" Qa ["known","seen","time","lands_ahead","lands"] Ye JL
 Uo:Addr
 W3:FuncData
 Xw:Own K mg "lands_of" VX ["known"] Uo W3
 P7:Addr
 SE:FuncData
 De:Own K mg "stays" Dl ["tellings"] P7 SE
 V5:Addr
 Yj:FuncData
 V9:Own K mg "stays_behind" Q6 ["view","rows"] V5 Yj
 OA:Addr
 P4:FuncData
 NF:Own K mg "begun" U5 ["view"] OA P4
 lO:Addr
 pY:FuncData
 jZ:Own K mg "_law_pen" jk ["_law_script","_law_k"] lO pY
 nN:Addr
 oE:FuncData
 ZK:Own K mg "_law_draw" MR ["_law_pen_here","_law_many"] nN oE
 PN:Addr
 O9:FuncData
 Ey:Own K mg "_law_names" Yo ["_law_pen_here","_law_many"] PN O9
 MI:Addr
 NJ:FuncData
 Og:Own K mg "_law_frame" DC ["_law_pen_here"] MI NJ
 R8:Addr
 Nl:FuncData
 MA:Own K mg "_law_boxes" CM ["_law_pen_here"] R8 Nl
 lV:Addr
 lK:FuncData
 HE:Own K mg "_law_laid" Pz ["_law_frame_here","_law_spot_here","_law_more"] lV lK
 pO:Addr
 mh:FuncData
 pI:Own K mg "_law_spot" RX ["_law_pen_here","_law_house_here"] pO mh
 mP:Addr
 kY:FuncData
 NQ:Own K mg "_law_land" FD ["_law_pen_here","_law_house_here"] mP kY
 RF:Addr
 Nx:FuncData
 ME:Own K mg "_law_house" Dy ["_law_pen_here"] RF Nx
 Bt:Addr
 B5:FuncData
 GY:Own K mg "_law_telling" KN ["_law_pen_here","_law_house_here","_law_time"] Bt B5
 WR:Addr
 Ue:FuncData
 WJ:Own K mg "_law_tellings" Xj ["_law_pen_here","_law_house_here","_law_many","_law_times"] WR Ue
 FY:Addr
 HN:FuncData
 Fz:Own K mg "_law_turned" GD ["_law_pen_here","_law_some"] FY HN
 pz:Addr
 nH:FuncData
 oj:Own K mg "_law_of" jf ["_law_tellings_here","_law_thing"] pz nH
 Y8:Addr
 Xa:FuncData
 YH:Own K mg "_law_apart_right" QR ["_law_tellings_here","_law_things","_law_time"] Y8 Xa
 oH:Addr
 oU:FuncData
 ol:Own K mg "_law_anew" OB ["_law_tellings_here","_law_thing","_law_time","_law_other"] oH oU
 FX:Addr
 FL:FuncData
 Hd:Own K mg "_law_called" Kf ["_law_rows","_law_thing","_law_other"] FX FL
 XB:Addr
 XI:FuncData
 XE:Own K mg "_law_anew_right" ZT ["_law_tellings_here","_law_thing","_law_time"] XB XI
 mx:Addr
 mi:FuncData
 o_law:Own K mg "law" jF ["_law_script"] mx mi
 VA:Addr
 Zg:Addr
 Qs:JL.code=.ref VA
 Qr:PySem.W.codeHdIn K VA Zg=true
 kd:([Zg]:List Addr).Nodup
 mT:mg "abs"=none
 Bo:mg "dict"=none
 Yq:mg "len"=none
 mv:mg "list"=none
 iM:mg "max"=none
 jA:mg "min"=none
 VD:mg "range"=none
 Jj:mg "sorted"=none
 Xz:mg "tuple"=none
 RO:Addr
 wo:mg "RANKS"=some (.ref RO)
 tR:jM w K RO [(Str.ofString "land",0),(Str.ofString "drop",0),(Str.ofString "free",1),(Str.ofString "spot",2)]
 OE:Addr
 C9:mg "EMPTY"=some (.ref OE)
 DU:MM K OE (.tuple [.tuple [],.tuple []])
local macro_rules | `(tactic| walk_at"hd")=>`(tactic| (subst_vars; (try dsimp only); refine DL.tW λ R hR=>?_))
local macro_rules | `(tactic| walk_at"h")=>`(tactic| (walk_at"hd"; walk_at"rk"))
noncomputable def ab(i:Int):Int:=if i<0 then-i else i
noncomputable def gp(a b g h:Int):Int:=max 0 (max (g-b) (a-h))
noncomputable def btw(x y X Y g h l r:Int):Int:=max (gp x X g l) (gp y Y h r)
structure B4 where
 x:Int
 y:Int
 X:Int
 Y:Int
noncomputable def bD(b:B4):PyData:=.tuple [.tuple [.int b.x,.int b.y],.tuple [.int b.X,.int b.Y]]
noncomputable def S0(a b:B4):Int:=btw a.x a.y a.X a.Y b.x b.y b.X b.Y
noncomputable def Bl(p:B4)(u v:Int):Int:=btw p.x p.y p.X p.Y u v u v
noncomputable def okB(b:B4):Bool:=decide (b.x<=b.X)&&decide (b.y<=b.Y)
noncomputable def rF(a b:B4):B4:=⟨max a.x b.x,max a.y b.y,min a.X b.X,min a.Y b.Y⟩
noncomputable def jb(a b:B4):List B4:=
 let g:=max a.x b.x
 let l:=max a.y b.y
 let h:=min a.X b.X
 let r:=min a.Y b.Y
 [⟨a.x,a.y,g-1,a.Y⟩,⟨h+1,a.y,a.X,a.Y⟩,⟨g,a.y,h,l-1⟩,⟨g,r+1,h,a.Y⟩]
noncomputable def He(a b:B4):List B4:=if 0<S0 a b then[a]else(jb a b).filter okB
noncomputable def KZ(a:B4)(bs:List B4):List B4:=bs.foldl (λps b=>ps.flatMap λp=>He p b) [a]
noncomputable def DB(u v r:Int):B4:=⟨u-r,v-r,u+r,v+r⟩
def onX(x:DV)(P:B4->Prop):Prop:=∃ b,x=.dat (bD b)/\P b
theorem oV{a b:B4}(h:bD a=bD b):a=b:=by
 obtain⟨x,y,X,Y⟩:=a;obtain⟨r,t,z,B⟩:=b
 injection h with h
 injection h with g h
 injection h with l _
 injection g with g
 injection g with a g
 injection g with b _
 injection l with l
 injection l with c l
 injection l with d _
 injection a with a
 injection b with b
 injection c with c
 injection d with d
 dsimp only at a b c d;rw[a,b,c,d]
theorem FE(b:B4)(P:B4->Prop):onX (.dat (bD b)) P=P b:=propext ⟨λg=>by 
 obtain⟨c,e,h⟩:=g
 rw[DV.dat.injEq]at e;rw[oV e]
 exact h,λh=>⟨b,rfl,h⟩⟩
theorem qQ(x y X Y:Int)(P:B4->Prop):onX (.dat (.tuple [.tuple [.int x,.int y],.tuple [.int X,.int Y]])) P=P ⟨x,y,X,Y⟩:=FE ⟨x,y,X,Y⟩ P
theorem Vm{x:DV}{P:B4->Prop}(h:onX x P):∃ b,x=.dat (bD b)/\P b:=h
theorem ur(b:B4)(M:Mp)(P:List PyData->Prop):onQ (.dat (bD b)) M P=P [.tuple [.int b.x,.int b.y],.tuple [.int b.X,.int b.Y]]:=rfl
theorem T4(b:B4)(P:List PyData->Prop):onT (.dat (bD b)) P=P [.tuple [.int b.x,.int b.y],.tuple [.int b.X,.int b.Y]]:=rfl
def Tg(x:DV)(P:List B4->Prop):Prop:=∃ g,x=.dat (.tuple (g.map bD))/\P g
theorem Ec{x:DV}{P:List B4->Prop}(h:Tg x P):∃ bs,x=.dat (.tuple (bs.map bD))/\P bs:=h
theorem VN:∀{as bs:List B4},as.map bD=bs.map bD->as=bs
 |[],[],_=>rfl
 |[],_::_,h=>by simp at h
 |_::_,[],h=>by simp at h
 |a::as,b::bs,h=>by
  rw[ai,ai,bR]at h;rw[oV h.1,VN h.2]
theorem sR(bs:List B4)(P:List B4->Prop):Tg (.dat (.tuple (bs.map bD))) P=P bs:=propext ⟨λg=>by 
 obtain⟨cs,e,h⟩:=g
 rw[DV.dat.injEq,PyData.tuple.injEq]at e;rw[VN e]
 exact h,λh=>⟨bs,rfl,h⟩⟩
def Shp(bs:List B4):Prop:=1<=bs.length/\bs.length<=6/\∀b∈bs,okB b=true
def nj:DSp:=λxs M Φ=>on1 xs λx=>onX x λb=>Φ (.dat (.bool (okB b))) M
def kJ:DSp:=λxs M Φ=>on3 xs λx y z=>onX x λa=>onX y λb=>onI z λi=>(i=0\/i=1)/\Φ (.dat (.int (if i=0 then gp a.x a.X b.x b.X else gp a.y a.Y b.y b.Y))) M
def GS:DSp:=λxs M Φ=>on2 xs λx y=>onX x λa=>onX y λb=>Φ (.dat (.int (S0 a b))) M
def mu:DSp:=λxs M Φ=>on2 xs λx y=>onX x λa=>onP y λu v=>Φ (.dat (.int (Bl a u v))) M
def FR:DSp:=λxs M Φ=>on2 xs λx y=>onP x λu v=>onI y λr=>Φ (.dat (bD (DB u v r))) M
def Ft:DSp:=λxs M Φ=>on2 xs λx y=>onX x λa=>onX y λb=>Φ (.dat (bD (rF a b))) M
def lP:DSp:=λxs M Φ=>on2 xs λx y=>onX x λa=>onX y λb=>∀ p,M p=none->Φ (.own p) (Zs M p (.lst ((He a b).map bD)))
def nM:DSp:=λxs M Φ=>on2 xs λx y=>onX x λa=>Tg y λg=>g.length<=6/\Φ (.dat (.list ((KZ a g).map bD))) M
theorem CQ{g:Type}{l:List g}{i:Nat}{q:g}(f:g->Bool)(h:l[i]?=some q):(l.take (i+1)).filter f=(l.take i).filter f++(if f q=true then[q]else[]):=by
 rw[cJ,h,bv];cases e:f q<;>simp[e]
theorem UL(a b:B4):(He a b).length<=4:=by
 unfold He
 split
 ·simp
 ·exact aA (aX _ _) (ak 4)
theorem FA:∀(bs ps:List B4),(bs.foldl (λps b=>ps.flatMap λp=>He p b) ps).length<=ps.length*4^bs.length
 |[],ps=>by simp
 |b::bs,ps=>by
  have g:=Gj (λp=>He p b) 4 ps λp _=>UL p b;have h:=FA bs (ps.flatMap λp=>He p b);rw[bg,a_,Nat.pow_succ];refine aA h (aA (Nat.mul_le_mul_right _ g) ?_);rw[Nat.mul_assoc,Nat.mul_comm 4];exact ak _
theorem SD(a:B4)(bs:List B4)(h:bs.length<=6):(KZ a bs).length<=4096:=by
 have g:=FA bs [a];rw[cP,Nat.one_mul]at g;have l:4^bs.length<=4^6:=Nat.pow_le_pow_right (by decide) h;exact aA g (aA l (by decide))
theorem Lh{a b:B4}{bs:List B4}(h:bs[i]?=some b):KZ a (bs.take (i+1))=(KZ a (bs.take i)).flatMap λp=>He p b:=by
 unfold KZ;rw[cJ,h,bV];rfl
theorem q8{b:B4}:okB b=true↔b.x<=b.X/\b.y<=b.Y:=by
 unfold okB;rw[b_,dz,dz]
open Classical in
noncomputable def lsI(l:List Int):Int:=if h:∃ m,m∈l/\∀x∈l,m<=x then h.choose else 0
theorem qL{l:List Int}{m:Int}(g:m∈l)(r:∀ x∈l,m<=x):lsI l=m:=by
 have h:∃ m,m∈l/\∀x∈l,m<=x:=⟨m,g,r⟩
 unfold lsI;rw[hW h];exact Int.le_antisymm (h.choose_spec.2 m g) (r _ h.choose_spec.1)
noncomputable def Eo(bs:List B4)(g u v:Int):Str:=if KZ (DB u v g) bs=[]then Str.ofString "in" else if g<lsI (bs.map λp=>Bl p u v)then Str.ofString "out" else Str.ofString "between"
def So:DSp:=λxs M Φ=>on2 xs λx y=>Tg x λps=>onP y λu v=>(ps≠[]/\ps.length<=4096)/\Φ (.dat (.int (lsI (ps.map λp=>Bl p u v)))) M
def nC:DSp:=λxs M Φ=>on3 xs λx y z=>Tg x λg=>onI y λh=>onP z λu v=>Shp g/\Φ (.dat (.str (Eo g h u v))) M
section
variable{base:Heap}
theorem mw:∀ ps:List B4,PyData.canLayAll0 (ps.map bD)=true
 |[]=>by simp[PyData.canLayAll0]
 |p::ps=>by
  rw[ai];simp only[PyData.canLayAll0,Bool.and_eq_true];exact⟨by simp[bD,PyData.canLay0,PyData.canLayAll0],mw ps⟩
theorem vx(ps:List B4){P:Bool->Prop}(h:P (decide (ps=[]))):eqD (.list (ps.map bD)) (.list []) P:=by
 refine PF ?_ ?_
 ·unfold Te;simp only[PyData.canLay0,mw,Bool.true_and];simp[PyData.canLayAll0,PyData.depth,PyData.depthAll]
 ·cases ps with
  |nil=>simpa[i_,SR]using h
  |cons p ps=>simpa[i_,lx]using h
theorem EO{h C:Type}{f:h->C}{ds D:List C}(p:ds.Perm D):∀ l:List h,D=l.map f->∃ g:List h,ds=g.map f/\g.Perm l:=by
 induction p with
 |nil=>
  intro l e;cases l with
  |nil=>exact⟨[],rfl,.nil⟩
  |cons _ _=>cases e
 | cons x p G=>
  intro l e;cases l with
  |nil=>cases e
  |cons a l=>
   rw[ai,bR]at e;obtain⟨g,r,E⟩:=G l e.2;exact⟨a::g,by rw[ai,e.1,r],E.cons a⟩
 | swap x y Y=>
  intro l e
  match l,e with
  |[],e=>cases e
  |[_],e=>simp at e
  |a::b::t,e=>
   rw[ai,ai,bR,bR]at e;exact⟨b::a::t,by rw[ai,ai,e.1,e.2.1,e.2.2],.swap a b t⟩
 |trans E p2 z B=>
  intro l e;obtain⟨I,J,L⟩:=B l e;obtain⟨O,r,U⟩:=z I J;exact⟨O,r,U.trans L⟩
structure Row where
 n:Str
 o:Str
 sh:PyData
 wb:PyData
noncomputable def iy(r:Row):PyData:=.tuple [.str r.n,.str r.o,r.sh,r.wb]
noncomputable def iD(rs:List Row)(s:Str):Option Str:=(rs.find? λr=>decide (r.n=s)).map (·.o)
noncomputable def lev(rs:List Row):Nat->Str->Option Nat
 |0,_=>none
 |k+1,s=>match iD rs s with
  |none=>none
  |some o=>if o=Str.ofString "" then some 1 else(lev rs k o).map (· +1)
noncomputable def BG(rs:List Row)(s:Str):PyData:=match lev rs rs.length s with
 |some m=>.int m
 |none=>.none
def jG(x:DV)(P:List Row->Prop):Prop:=∃ g,x=.dat (.tuple (g.map iy))/\P g
noncomputable def prs(rs:List Row):List (Str×PyData):=rs.map λr=>(r.n,.str r.o)
theorem Xc:∀(l:List (Str×PyData))(m:List (Key×PyData)),(l.map (·.1)).Nodup->(∀p∈l,∀q∈m,q.1≠.inr p.1)->l.foldl (λm p=>VZ m (.inr p.1) p.2) m=m++l.map λp=>((.inr p.1:Key),p.2)
 |[],m,_,_=>by simp
 | p::l,m,r,hd=>by
  rw[ai,cv]at r;have e:VZ m (.inr p.1) p.2=m++[(.inr p.1,p.2)]:=by
   unfold VZ;rw[ao];intro z;obtain⟨q,g,e⟩:=cE.mp z;exact hd p aj q g (aY e)
  rw[bg,e,Xc l _ r.2 λt h q g=>?_]
  ·simp
  ·rcases ax.mp g with g|g
   ·exact hd t (aq _ h) q g
   ·rw[au.mp g];intro z;exact r.1 (af.mpr ⟨t,h,(dj z).symm⟩)
theorem TM{rs:List Row}(h:(rs.map (·.n)).Nodup):YF (prs rs)=rs.map λr=>((.inr r.n:Key),PyData.str r.o):=by
 unfold YF;rw[Xc _ _ (by unfold prs;rw[aC];exact h) λp _ q g=>by cases g];unfold prs;rw[fE,aC];rfl
theorem EG(rs:List Row)(s:Str):Jh (rs.map λr=>((.inr r.n:Key),PyData.str r.o)) (.inr s)=(iD rs s).map PyData.str:=by
 unfold Jh iD
 induction rs with
 |nil=>rfl
 |cons r rs g=>
  rw[ai]
  by_cases e:r.n=s
  ·rw[aH (by simpa using e),aH (by simpa using e)];rfl
  ·rw[aK (by simpa using e),aK (by simpa using e)];exact g
def Oj:DSp:=λxs M Φ=>on2 xs λx y=>jG x λg=>onS y λs=>(g.length<=60/\(g.map (·.n)).Nodup)/\Φ (.dat (BG g s)) M
inductive Tl where
 |land (t:Int) (nm ou:Str) (bs:List B4) (wb:Int)
 |spot (t:Int) (nm:Str) (u v:Int)
 |off (w:Str) (t:Int) (nm:Str)
noncomputable def tlD:Tl->PyData
 | .land t g h l r=>.tuple [.str (Str.ofString "land"),.int t,.str g,.str h,.tuple (l.map bD),.int r]
 | .spot t g u v=>.tuple [.str (Str.ofString "spot"),.int t,.str g,.tuple [.int u,.int v]]
 | .off w t g=>.tuple [.str w,.int t,.str g]
theorem Yz{h:Type}{P:h->Prop}{a b:h}(l:P a)(r:P b):∀ p∈[a,b],P p:=λp g=>by
 rcases aW.mp g with rfl|g
 ·exact l
 ·rw[au.mp g];exact r
def vl(x:DV)(P:Tl->Prop):Prop:=∃ t,x=.dat (tlD t)/\P t
def QK(x:DV)(P:List Tl->Prop):Prop:=∃ g:List Tl,x=.dat (.list (g.map tlD))/\P g
theorem UQ:∀{l:List PyData}{n:Nat},(∀d∈l,d.canLay0=true/\d.depth<=n)->PyData.canLayAll0 l=true/\PyData.depthAll l<=n
 |[],_,_=>by simp[PyData.canLayAll0,PyData.depthAll]
 |d::l,n,h=>by
  have g:=h d (.head _);have r:=UQ (l:=l) (n:=n) λd hd=>h d (.tail _ hd);rw[PyData.canLayAll0,PyData.depthAll,g.1,r.1];exact⟨rfl,by have:=g.2;have:=r.2;lia⟩
theorem QZ{l:List PyData}(h:∀ d∈l,d.canLay0=true/\d.depth<=n):(PyData.tuple l).canLay0=true/\(PyData.tuple l).depth<=n+1:=by
 obtain⟨a,b⟩:=UQ h;rw[PyData.canLay0,PyData.depth];exact⟨a,by lia⟩
theorem Q1(i:Int)(n:Nat):(PyData.int i).canLay0=true/\(PyData.int i).depth<=n:=by simp[PyData.canLay0,PyData.depth]
theorem FI(u v:Int):(PyData.tuple [.int u,.int v]).canLay0=true/\(PyData.tuple [.int u,.int v]).depth<=1:=QZ (n:=0) (Yz (Q1 u 0) (Q1 v 0))
noncomputable def wdT:Tl->Str
 | .land _ _ _ _ _=>Str.ofString "land"
 | .spot _ _ _ _=>Str.ofString "spot"
 | .off w _ _=>w
noncomputable def tmT:Tl->Int
 | .land t _ _ _ _=>t
 | .spot t _ _ _=>t
 | .off _ t _=>t
noncomputable def nmT:Tl->Str
 | .land _ n _ _ _=>n
 | .spot _ n _ _=>n
 | .off _ _ n=>n
noncomputable def Ei:Tl->List PyData
 | .land _ _ g h l=>[.str g,.tuple (h.map bD),.int l]
 | .spot _ _ u v=>[.tuple [.int u,.int v]]
 | .off _ _ _=>[]
theorem Z6(x:Tl):tlD x=.tuple (.str (wdT x):: .int (tmT x):: .str (nmT x)::Ei x):=by cases x<;>rfl
noncomputable def rkW(w:Str):Int:=if w=Str.ofString "free" then 1 else if w=Str.ofString "spot" then 2 else 0
noncomputable def plT(x:Tl):List Key:=[.inl (tmT x),.inl (rkW (wdT x)),.inr (nmT x)]
def pf(w:Str):Prop:=w=Str.ofString "land"\/w=Str.ofString "drop"\/w=Str.ofString "free"\/w=Str.ofString "spot"
def TlK:Tl->Prop
 | .off w _ _=>w=Str.ofString "drop"\/w=Str.ofString "free"
 |_=>True
theorem GW{x:Tl}(h:TlK x):pf (wdT x):=by
 cases x with
 |land=>exact .inl rfl
 |spot=>exact .inr (.inr (.inr rfl))
 |off w t n=>exact h.elim (λe=>.inr (.inl e)) λe=>.inr (.inr (.inl e))
theorem QO:∀ l:List PyData,(∀d∈l,pln d=true)->Vj l=true
 |[],_=>by rw[Vj]
 |d::l,h=>by rw[Vj,h d (.head _),QO l λe g=>h e (.tail _ g)];rfl
theorem pC(u v:Int):pln (.tuple [.int u,.int v])=true:=by simp[pln,Vj]
theorem G8(b:B4):pln (bD b)=true:=by simp[bD,pln,Vj]
theorem JZ(x:Tl):pln (tlD x)=true:=by
 have h:∀ g:List B4,Vj (g.map bD)=true:=λg=>QO _ λd hd=>by
  obtain⟨b,_,rfl⟩:=af.mp hd;exact G8 b
 cases x<;>simp[tlD,pln,Vj,h]
theorem Va(k:List Key):pln (tkD k)=true:=by
 unfold tkD;rw[pln];refine QO _ λd hd=>?_;obtain⟨a,_,rfl⟩:=af.mp hd;cases a<;>simp[kD,pln]
theorem VH:∀{a b:List PyData},(∀x∈a,∀y∈b,ZW x y=true)->ZN a b=true
 |[],_,_=>by rw[ZN];simp
 |_::_,[],_=>by rw[ZN];simp
 |x::a,y::b,h=>by
  rw[ZN]
  split
  ·exact VH λu g v l=>h u (.tail _ g) v (.tail _ l)
  ·exact h x (.head _) y (.head _)
theorem ZF{x y:PyData}{l r:List PyData}(g:pln x=true)(t:pln y=true)(h:ZW x y=true)(k:x=y->ZN l r=true):ZN (x::l) (y::r)=true:=by
 rw[ZN]
 split
 ·rename_i e;exact k (CU x y g t e)
 ·exact h
theorem YG(i j:Int):ZW (.int i) (.int j)=true:=by rw[ZW]
theorem Yf(i j:Str):ZW (.str i) (.str j)=true:=by rw[ZW]
theorem Vc{a b:List PyData}(h:ZN a b=true):ZW (.tuple a) (.tuple b)=true:=by rw[ZW];exact h
theorem Hf{a b:List PyData}(g:∀ x∈a,∃i,x=.int i)(h:∀ x∈b,∃i,x=.int i):ZW (.tuple a) (.tuple b)=true:=Vc (VH λx l y r=>by
 obtain⟨i,rfl⟩:=g x l;obtain⟨j,rfl⟩:=h y r
 exact YG i j)
theorem U4(u v:Int):∀ x∈[PyData.int u,PyData.int v],∃i,x=.int i:=Yz ⟨u,rfl⟩ ⟨v,rfl⟩
theorem nG(a b:B4):ZW (bD a) (bD b)=true:=Vc (VH λx h y l=>by
 have g:∀ c:B4,∀x∈[PyData.tuple [.int c.x,.int c.y],PyData.tuple [.int c.X,.int c.Y]],∃u v:Int,x=.tuple [.int u,.int v]:=λc=>Yz ⟨_,_,rfl⟩ ⟨_,_,rfl⟩;obtain⟨u,v,rfl⟩:=g a x h;obtain⟨r,t,rfl⟩:=g b y l
 exact Hf (U4 _ _) (U4 _ _))
theorem lF:Str.ofString "land"≠Str.ofString "spot"/\Str.ofString "land"≠Str.ofString "drop"/\Str.ofString "land"≠Str.ofString "free"/\Str.ofString "spot"≠Str.ofString "drop"/\Str.ofString "spot"≠Str.ofString "free"/\Str.ofString "drop"≠Str.ofString "free":=by walk_at"k"
theorem sU{a b:Tl}(ha:TlK a)(r:TlK b)(e:wdT a=wdT b):ZN (Ei a) (Ei b)=true:=by
 obtain⟨B,C,D,E,G,_⟩:=lF;cases a with
 | land t n I J L=>
  cases b with
  |land g l O U Y=>
   refine ZF (by simp[pln]) (by simp[pln]) (Yf _ _) λ_=>ZF (JZ (.land t n I J L) |> λh=>?_) ?_ (Vc (VH λx hx y hy=>?_)) λ_=>ZF (by simp[pln]) (by simp[pln]) (YG _ _) λ_=>by rw[ZN];simp
   ·rw[pln];exact QO _ λd hd=>by obtain⟨b,_,rfl⟩:=af.mp hd;exact G8 b
   ·rw[pln];exact QO _ λd hd=>by obtain⟨b,_,rfl⟩:=af.mp hd;exact G8 b
   ·obtain⟨p,_,rfl⟩:=af.mp hx;obtain⟨q,_,rfl⟩:=af.mp hy;exact nG p q
  |spot=>exact absurd e B
  |off w g l=>exact(r.elim (λz=>absurd (e.trans z) C) λz=>absurd (e.trans z) D)
 |spot t n u v=>
  cases b with
  |land=>exact absurd e.symm B
  |spot g l u' v'=>exact ZF (pC _ _) (pC _ _) (Hf (U4 _ _) (U4 _ _)) λ_=>by rw[ZN];simp
  |off w g l=>exact(r.elim (λz=>absurd (e.trans z) E) λz=>absurd (e.trans z) G)
 |off w t n=>
  show ZN [] _=true;rw[ZN];simp
theorem Mu{a b:Tl}(g:TlK a)(h:TlK b):ZW (tlD a) (tlD b)=true:=by
 rw[Z6,Z6];refine Vc (ZF (by simp[pln]) (by simp[pln]) (Yf _ _) λe=>ZF (by simp[pln]) (by simp[pln]) (YG _ _) λ_=>ZF (by simp[pln]) (by simp[pln]) (Yf _ _) λ_=>sU g h ?_)
 injection e
theorem Rr(a b:Tl):ZW (tkD (plT a)) (tkD (plT b))=true:=
 Vc (ZF (by simp[kD,pln]) (by simp[kD,pln]) (YG _ _) λ_=>ZF (by simp[kD,pln]) (by simp[kD,pln]) (YG _ _) λ_=>ZF (by simp[kD,pln]) (by simp[kD,pln]) (Yf _ _) λ_=>by simp[ZN])
theorem NS:∀{a b:Key},kD a=kD b->a=b
 | .inl i,.inl j,h=>by injection h with h;rw[h]
 | .inr i,.inr j,h=>by injection h with h;rw[h]
 | .inl i,.inr j,h=>nomatch h
 | .inr i,.inl j,h=>nomatch h
theorem Ph{a b:List Key}(h:tkD a=tkD b):a=b:=by
 injection h with h
 exact List.map_inj_right (λ_ _=>NS) |>.mp h
theorem KS(h:pln d=true):ltD d d=false:=by
 cases e:ltD d d with
 |false=>rfl
 |true=>have:=YD d d h h e;rw[e]at this;cases this
noncomputable def ltP(a b:Tl):Bool:=ltD (tkD (plT a)) (tkD (plT b))
theorem NI{a b:Tl}(h:plT a≠plT b)(k:ltP b a=false):ltP a b=true:=by
 cases e:ltP a b with
 |true=>rfl
 |false=>exact absurd (Ph (Yw _ _ (Va _) (Va _) (Rr a b) e k)) h
theorem T6{a b:Tl}(h:ltP a b=true):ltP b a=false:=YD _ _ (Va _) (Va _) h
theorem EE{a b:Tl}(h:plT a=plT b):ltP a b=false:=by unfold ltP;rw[h];exact KS (Va _)
structure Due(ts R:List Tl):Prop where
 up:R.Pairwise λa b=>ltP a b=true
 mem:∀ x∈R,x∈ts
 lo:∀ x∈R,∀y∈ts,plT y=plT x->ltD (tlD y) (tlD x)=false
 all:∀ y∈ts,∃x∈R,plT x=plT y
theorem OC{t:Type}{lt:t->t->Bool}(as:∀ a b,lt a b=true->lt b a=false):∀{l r:List t},l.Pairwise (λa b=>lt a b=true)->r.Pairwise (λa b=>lt a b=true)->(∀x,x∈l↔x∈r)->l=r
 |[],[],_,_,_=>rfl
 |[],b::r,_,_,h=>nomatch(h b).mpr (.head _)
 |a::l,[],_,_,h=>nomatch(h a).mp (.head _)
 | a::l,b::r,g,z,h=>by
  have D:∀ a,lt a a=false:=λa=>by
   cases e:lt a a with
   |false=>rfl
   |true=>have:=as a a e;rw[e]at this;cases this
  have e:a=b:=by
   rcases aW.mp ((h a).mp (.head _))with e|E
   ·exact e
   ·rcases aW.mp ((h b).mpr (.head _))with e|G
    ·exact e.symm
    ·have:=as _ _ (bN g G);rw[bN z E]at this;cases this
  subst e;have B:∀{l r:List t},(a::l).Pairwise (λa b=>lt a b=true)->(∀x,x∈a::l->x∈a::r)->∀ x,x∈l->x∈r:=λg h x C=>by
   rcases aW.mp (h x (.tail _ C))with e|m
   ·have:=bN g C;rw[e,D]at this;cases this
   ·exact m
  rw[OC as g.of_cons z.of_cons λx=>⟨B g (λy=>(h y).mp) x,B z (λy=>(h y).mpr) x⟩]
theorem OL{a b:Tl}(J:TlK a)(L:TlK b)(h:tlD a=tlD b):a=b:=by
 have h0:=h;rw[Z6,Z6]at h
 injection h with h
 injection h with l h
 injection h with E h
 injection h with G h
 injection l with l
 injection E with E
 injection G with G
 obtain⟨O,U,Y,n4,n5,_⟩:=lF;cases a with
 | land t n ou bs wb=>
  cases b with
  |land r B a0 a1 a2=>
   injection h with C g
   injection g with D g
   injection g with I _
   injection C with C
   injection D with D
   injection I with I
   rw[show t=r from E,show n=B from G,C,VN D,I]
  |spot=>exact absurd l O
  |off w r B=>exact(L.elim (λz=>absurd (l.trans z) U) λz=>absurd (l.trans z) Y)
 | spot t n u v=>
  cases b with
  |land=>exact absurd l.symm O
  |spot r B u' v'=>
   injection h with g _
   injection g with g
   injection g with C g
   injection g with D _
   injection C with C
   injection D with D
   rw[show t=r from E,show n=B from G,C,D]
  |off w r B=>exact(L.elim (λz=>absurd (l.trans z) n4) λz=>absurd (l.trans z) n5)
 |off w t n=>
  cases b with
  |land=>exact(J.elim (λz=>absurd (l.symm.trans z) U) λz=>absurd (l.symm.trans z) Y)
  |spot=>exact(J.elim (λz=>absurd (l.symm.trans z) n4) λz=>absurd (l.symm.trans z) n5)
  |off w' r B=>rw[show w=w' from l,show t=r from E,show n=B from G]
theorem Due.sub{ts R t:List Tl}(r:∀ x∈ts,TlK x)(h:Due ts R)(k:Due ts t):∀ x,x∈R->x∈t:=λx g=>by
 obtain⟨y,l,e⟩:=k.all x (h.mem x g);have z:=Yw _ _ (JZ x) (JZ y) (Mu (r x (h.mem x g)) (r y (k.mem y l))) (k.lo y l x (h.mem x g) e.symm) (h.lo x g y (k.mem y l) e);rw[OL (r x (h.mem x g)) (r y (k.mem y l)) z];exact l
theorem Due.uniq{ts R g:List Tl}(l:∀ x∈ts,TlK x)(h:Due ts R)(k:Due ts g):R=g:=OC (lt:=ltP) (λ_ _=>T6) h.up k.up λx=>⟨h.sub l k x,k.sub l h x⟩
theorem Due.nil:Due [] []:=⟨.nil,λ_ h=>(nomatch h),λ_ h=>(nomatch h),λ_ h=>(nomatch h)⟩
structure Ld where
 n:Str
 o:Str
 bs:List B4
 wb:Int
noncomputable def ldR(l:Ld):Row:=⟨l.n,l.o,.tuple (l.bs.map bD),.int l.wb⟩
noncomputable def ldD(l:Ld):PyData:=.tuple [.str l.n,.str l.o,.tuple (l.bs.map bD),.int l.wb]
theorem kg(l:Ld):ldD l=.tuple [.str l.n,.str l.o,.tuple (l.bs.map bD),.int l.wb]:=rfl
def jS(l:Ld):Prop:=Shp l.bs/\0<=l.wb
noncomputable def LQ(g:List Str)(u v:Int)(l:Ld):Bool:=decide (Eo l.bs l.wb u v=Str.ofString "in")||(decide (Eo l.bs l.wb u v=Str.ofString "between")&&decide (l.n∈g))
def l_(x:DV)(P:List Str->Prop):Prop:=∃ g,x=.dat (.list (g.map PyData.str))/\P g
def vK(x:DV)(P:Ld->Prop):Prop:=∃ l,x=.dat (ldD l)/\P l
def Bq(x:DV)(P:List Ld->Prop):Prop:=∃ g:List Ld,x=.dat (.tuple (g.map ldD))/\P g
def Wr(ls:List Ld):Prop:=ls.length<=24/\(∀l∈ls,jS l)/\ls.Pairwise λa b=>a.n.cps.toList<b.n.cps.toList
theorem Wr.nodup{ls:List Ld}(h:Wr ls):(ls.map (·.n)).Nodup:=by
 rw[bz,bd];exact h.2.2.imp λg e=>absurd g (by rw[e];exact dL _)
theorem Wr.ng{ls:List Ld}(h:Wr ls):((ls.map ldR).map (·.n)).Nodup:=by
 rw[aC];exact h.nodup
theorem Wr.inj{ls:List Ld}(h:Wr ls){a b:Ld}(t:a∈ls)(z:b∈ls)(e:a.n=b.n):a=b:=by
 obtain⟨i,g,rfl⟩:=bJ t;obtain⟨j,l,rfl⟩:=bJ z;have r:=ce.mp h.2.2
 rcases Nat.lt_trichotomy i j with q|rfl|q
 ·have:=r i j g l q;rw[e]at this;exact absurd this (dL _)
 ·rfl
 ·have:=r j i l g q;rw[e]at this;exact absurd this (dL _)
noncomputable def lvl(ls:List Ld)(l:Ld):Option Nat:=lev (ls.map ldR) (ls.map ldR).length l.n
noncomputable def Pk(ls:List Ld)(l:Ld):Bool:=(lvl ls l).isSome
noncomputable def lvN(ls:List Ld)(l:Ld):Int:=((lvl ls l).getD 0:Nat)
noncomputable def pr1(ls:List Ld)(l:Ld):PyData:=.tuple [.int (lvN ls l),ldD l]
def CC(ls g:List Ld):Prop:=g.Perm (ls.filter (Pk ls))/\(g.map (pr1 ls)).Pairwise leD
def LdS(l:Ld):Prop:=(ldD l).canLay0=true/\(ldD l).depth<=5
theorem B8(l:Ld):pln (ldD l)=true:=by
 have g:Vj (l.bs.map bD)=true:=QO _ λd hd=>by
  obtain⟨b,_,rfl⟩:=af.mp hd;exact G8 b
 simp[ldD,pln,Vj,g]
theorem mM(a b:Ld):ZW (ldD a) (ldD b)=true:=by
 have g:∀ h:List B4,pln (.tuple (h.map bD))=true:=λh=>by
  rw[pln];exact QO _ λd hd=>by
   obtain⟨b,_,rfl⟩:=af.mp hd;exact G8 b
 refine Vc (ZF (by simp[pln]) (by simp[pln]) (Yf _ _) λ_=>ZF (by simp[pln]) (by simp[pln]) (Yf _ _) λ_=>ZF (g _) (g _) (Vc (VH λx l y r=>?_)) λ_=>ZF (by simp[pln]) (by simp[pln]) (YG _ _) λ_=>by simp[ZN]);obtain⟨u,_,rfl⟩:=af.mp l;obtain⟨v,_,rfl⟩:=af.mp r;exact nG u v
theorem PH(ls:List Ld)(l:Ld):pln (pr1 ls l)=true:=by
 simp[pr1,pln,Vj,B8 l]
theorem lA(ls:List Ld)(a b:Ld):ZW (pr1 ls a) (pr1 ls b)=true:=Vc (ZF (by simp[pln]) (by simp[pln]) (YG _ _) λ_=>ZF (B8 a) (B8 b) (mM a b) λ_=>by simp[ZN])
theorem yz{g ls:List Ld}(z:ls.length<=24)(h:∀ l∈ls,LdS l):Qk (ls.map (pr1 g)):=by
 refine⟨by rw[aa,bL];exact aA z (by decide),.tint λd hd=>?_,λd hd=>?_,λd hd e B=>?_⟩
 ·obtain⟨t,_,rfl⟩:=af.mp hd;exact⟨_,_,rfl⟩
 ·obtain⟨t,m,rfl⟩:=af.mp hd;have r:=QZ (n:=5) (Yz (P:=λd:PyData=>d.canLay0=true/\d.depth<=5) (Q1 (lvN g t) 5) (h t m));exact⟨PH g t,r.1,aA r.2 (by decide)⟩
 ·obtain⟨t,m,rfl⟩:=af.mp hd;obtain⟨u,n,rfl⟩:=af.mp B;exact lA g t u
theorem RS{l:List Str}(g:l.length<=24)(h:∀ s∈l,(PyData.str s).canLay0=true):Qk (l.map PyData.str):=by
 refine⟨by rw[aa,bL];exact aA g (by decide),.str λd hd=>?_,λd hd=>?_,λd hd e r=>?_⟩
 ·obtain⟨t,_,rfl⟩:=af.mp hd;exact⟨t,rfl⟩
 ·obtain⟨t,m,rfl⟩:=af.mp hd;exact⟨by simp[pln],h t m,by simp[PyData.depth]⟩
 ·obtain⟨t,m,rfl⟩:=af.mp hd;obtain⟨u,n,rfl⟩:=af.mp r;exact Yf t u
theorem Rv{s:Str}{ss:List Str}(h:∀ t∈s::ss,(PyData.str t).canLay0=true):okIn (.str s) (ss.map PyData.str)=true/\((ss.map PyData.str).any λe=>PyData.eqv e (.str s))=decide (s∈ss):=by
 have r:∀ l:List Str,(∀t∈l,(PyData.str t).canLay0=true)->PyData.canLayAll0 (l.map PyData.str)=true:=λl=>by
  induction l with
  |nil=>intro _;simp[PyData.canLayAll0]
  |cons x l z=>intro h;rw[ai,PyData.canLayAll0,z λt g=>h t (.tail _ g),h x (.head _)];rfl
 constructor
 ·unfold okIn;rw[r ss λt g=>h t (.tail _ g),h s (.head _)];simp[PyData.depth]
 ·rw[cu,List.any_map,cE,dz];constructor
  ·rintro⟨t,g,e⟩;have e:PyData.eqv (.str t) (.str s)=true:=e;rw[jq,dz]at e;rw[<-e];exact g
  ·intro g;exact⟨s,g,by show PyData.eqv (.str s) (.str s)=true;rw[jq];exact aI rfl⟩
theorem CC.mem{ls g:List Ld}(h:CC ls g){l:Ld}(r:l∈g):l∈ls:=(ah.mp (h.1.mem_iff.mp r)).1
theorem CC.len{ls g:List Ld}(h:CC ls g):g.length<=ls.length:=by
 rw[h.1.length_eq];exact aX _ _
theorem CC.uniq{ls a b:List Ld}(l:Wr ls)(g:CC ls a)(h:CC ls b):a=b:=by
 refine dE (le:=λx y=>leD (pr1 ls x) (pr1 ls y)) (λx y r t z B=>?_) (bd.mp g.2) (bd.mp h.2) (g.1.trans h.1.symm);have e:=Yw _ _ (PH ls x) (PH ls y) (lA ls x y) B z;simp only[pr1,ldD,PyData.tuple.injEq,List.cons.injEq,PyData.str.injEq]at e;exact l.inj (g.mem r) (h.mem t) e.2.1.1
theorem LD{a b:List Str}(h:a.Perm b)(g:(a.map PyData.str).Pairwise leD)(l:(b.map PyData.str).Pairwise leD):a=b:=
 dE (le:=λx y:Str=>leD (.str x) (.str y)) (λx y _ _ r t=>PyData.str.inj (Yw _ _ (by simp[pln]) (by simp[pln]) (Yf x y) t r)) (bd.mp g) (bd.mp l) h
noncomputable def Xk(ss:List Str)(u v:Int)(g:List Str)(l:Ld):List Str:=if((decide (l.o=Str.ofString "")||decide (l.o∈g))&&LQ ss u v l)=true then g++[l.n]else g
noncomputable def JN(ss:List Str)(u v:Int)(ls:List Ld):List Str:=ls.foldl (Xk ss u v) []
theorem Sv(ss:List Str)(u v:Int)(g:List Str)(l:Ld):(Xk ss u v g l).length<=g.length+1:=by
 unfold Xk
 split
 ·rw[aB,cP];exact ak _
 ·lia
theorem Ca(ss:List Str)(u v:Int):∀(ls:List Ld)(g:List Str),(ls.foldl (Xk ss u v) g).length<=g.length+ls.length
 |[],g=>ak _
 |l::ls,g=>by
  have:=Ca ss u v ls (Xk ss u v g l);have:=Sv ss u v g l;rw[bg,a_];lia
theorem Kt(ss:List Str)(u v:Int)(ls:List Ld):(JN ss u v ls).length<=ls.length:=by
 have:=Ca ss u v ls []
 simpa[JN]using this
theorem Cn(ss:List Str)(u v:Int){P:Str->Prop}:∀(ls:List Ld)(g:List Str),(∀s∈g,P s)->(∀l∈ls,P l.n)->∀ s∈ls.foldl (Xk ss u v) g,P s
 |[],_,h,_=>h
 | l::ls,g,h,k=>by
  rw[bg];refine Cn ss u v ls _ (λs r=>?_) λt z=>k t (.tail _ z);unfold Xk at r
  split at r
  ·rcases ax.mp r with r|r
   ·exact h s r
   ·rw[au.mp r];exact k l (.head _)
  ·exact h s r
theorem Kr{ss:List Str}{u v:Int}{P:Str->Prop}{ls:List Ld}(k:∀ l∈ls,P l.n):∀ s∈JN ss u v ls,P s:=Cn ss u v ls [] (λs g=>(nomatch g)) k
theorem WD(ss:List Str)(u v:Int){ls:List Ld}{l:Ld}(h:ls[i]?=some l):JN ss u v (ls.take (i+1))=Xk ss u v (JN ss u v (ls.take i)) l:=by
 have e:ls.take (i+1)=ls.take i++[l]:=by rw[fQ,h];rfl
 unfold JN;rw[e,bV];rfl
def QF(s:Str):Prop:=(PyData.str s).canLay0=true
def h_(ls:List Ld):Prop:=∀ l∈ls,QF l.n/\QF l.o
def Oh:DSp:=λxs M Φ=>on3 xs λx y z=>vK x λl=>l_ y λg=>onP z λu v=>(jS l/\QF l.n/\∀s∈g,QF s)/\Φ (.dat (.bool (LQ g u v l))) M
def Om:DSp:=λxs M Φ=>on1 xs λx=>Bq x λh=>(Wr h/\∀l∈h,LdS l)/\∀g,CC h g->Φ (.dat (.list (g.map ldD))) M
def E6:DSp:=λxs M Φ=>on3 xs λx y z=>Bq x λh=>l_ y λt=>onP z λu v=>(Wr h/\h_ h/\(∀l∈h,LdS l)/\∀s∈t,QF s)/\∀(g:List Ld)(r:List Str),CC h g->r.Perm (JN t u v g)->(r.map PyData.str).Pairwise leD->Φ (.dat (.list (r.map PyData.str))) M
theorem BL(ls:List Ld)(l:Ld):(Pk ls l=true/\BG (ls.map ldR) l.n=.int (lvN ls l))\/(Pk ls l=false/\BG (ls.map ldR) l.n=.none):=by
 unfold Pk lvN lvl BG;cases lev (ls.map ldR) (ls.map ldR).length l.n with
 |none=>exact .inr ⟨rfl,rfl⟩
 |some m=>exact .inl ⟨rfl,rfl⟩
theorem xa{a b o:Bool}{A B:Prop}(g:o=true)(h:(a||b)=true->A)(l:(a||b)=false->B):if a=true then A else o=true/\if b=true then A else B:=by
 subst g;cases a<;>cases b<;>simp only[Bool.false_eq_true,if_true,if_false,true_and]<;>first|exact h rfl|exact l rfl
theorem t4{a:Bool}{A B:Prop}(g:a=true->A)(h:a=false->B):if a=true then A else B:=by
 cases a
 ·rw[ao ae];exact h rfl
 ·rw[aw rfl];exact g rfl
def RI:DSp:=λxs M Φ=>on1 xs λx=>vl x λt=>TlK t/\Φ (kDV (plT t)) M
def TlS(t:Tl):Prop:=TlK t/\(tlD t).canLay0=true/\(tlD t).depth<=5
def GP:DSp:=λxs M Φ=>on1 xs λx=>QK x λg=>g.length<=16777216/\(∀t∈g,TlS t)/\∀R q,Due g R->M q=none->Φ (.own q) (Zs M q (.lst (R.map tlD)))
theorem yv{w:Str}(h:pf w):List.lookup w [(Str.ofString "land",(0:Int)),(Str.ofString "drop",0),(Str.ofString "free",1),(Str.ofString "spot",2)]=some (rkW w):=by
 rcases h with rfl|rfl|rfl|rfl<;>decide+kernel
theorem sd{ts:List Tl}(g:ts.length<=16777216)(h:∀ t∈ts,TlS t):Qk (ts.map tlD):=by
 refine⟨by rw[aa,bL];exact g,.tstr λd hd=>?_,λd hd=>?_,λd hd e l=>?_⟩
 ·obtain⟨t,_,rfl⟩:=af.mp hd;exact⟨_,_,Z6 t⟩
 ·obtain⟨t,m,rfl⟩:=af.mp hd;exact⟨JZ t,(h t m).2.1,aA (h t m).2.2 (by decide)⟩
 ·obtain⟨t,m,rfl⟩:=af.mp hd;obtain⟨u,n,rfl⟩:=af.mp l;exact Mu (h t m).1 (h u n).1
theorem JT{r z:Type}{f:r->z}:∀{l:List z}{m:List r},l.Perm (m.map f)->∃ g:List r,l=g.map f/\g.Perm m
 |[],m,h=>by
  have:=h.length_eq;cases m with
  |nil=>exact⟨[],rfl,.nil⟩
  |cons=>simp at this
 | a::l,m,h=>by
  obtain⟨x,B,rfl⟩:=af.mp (h.mem_iff.mp (.head _));obtain⟨s,t,rfl⟩:=List.append_of_mem B
  have C:(f x::l).Perm (f x::(s++t).map f):=h.trans (by
   rw[al,ai,al]
   exact g9)
  obtain⟨g,e,p⟩:=JT (List.Perm.cons_inv C);exact⟨x::g,by rw[e,ai],(p.cons x).trans g9.symm⟩
structure Tbl(S:List Tl)(ps:List (List Key×PyData)):Prop where
 nd:(ps.map (·.1)).Nodup
 get:∀ k∈ps.map (·.1),∃x∈S,plT x=k/\dvT ps k=some (tlD x)/\∀y∈S,plT y=k->ltD (tlD y) (tlD x)=false
 all:∀ x∈S,plT x∈ps.map (·.1)
theorem Tbl.nil:Tbl [] []:=⟨.nil,λ_ h=>(nomatch h),λ_ h=>(nomatch h)⟩
theorem qX{ps:List (List Key×PyData)}{k:List Key}(h:dvT ps k=none):k∉ps.map (·.1):=λm=>by
 obtain⟨p,g,rfl⟩:=af.mp m;unfold dvT at h;rw[dY,cA]at h;exact h p g (by simp)
theorem rB{ps:List (List Key×PyData)}{k:List Key}(h:dvT ps k=some d):k∈ps.map (·.1):=by
 unfold dvT at h;obtain⟨p,g,_⟩:=dQ.mp h;exact af.mpr ⟨p,dg g,by simpa using fF g⟩
theorem qU{ps:List (List Key×PyData)}{k g:List Key}(m:k∈ps.map (·.1)):dvT (ps++[(g,d)]) k=dvT ps k:=by
 unfold dvT;rw[gQ];obtain⟨p,h,rfl⟩:=af.mp m;cases e:ps.find? λl=>decide (l.1=p.1)with
 |none=>rw[cA]at e;exact absurd (aI rfl) (e p h)
 |some q=>rfl
theorem xT{ps:List (List Key×PyData)}{k:List Key}(m:k∉ps.map (·.1)):dvT (ps++[(k,d)]) k=some d:=by
 unfold dvT;rw[gQ,cA.mpr λp g=>by simpa using λe:p.1=k=>m (af.mpr ⟨p,g,e⟩),Option.none_or,aH (by simp)];rfl
theorem Tbl.old{S:List Tl}{ps:List (List Key×PyData)}{x:Tl}(h:Tbl S ps)(m:plT x∈ps.map (·.1))(t:∀ z∈S,ltD (tlD x) (tlD z)=false):Tbl (S++[x]) ps:=by
 refine⟨h.nd,λk B=>?_,λy l=>?_⟩
 ·obtain⟨y,l,e,g,lo⟩:=h.get k B;refine⟨y,bh _ l,e,g,λz r C=>?_⟩
  rcases ax.mp r with r|r
  ·exact lo z r C
  ·rw[au.mp r];exact t y l
 ·rcases ax.mp l with l|l
  ·exact h.all y l
  ·rw[au.mp l];exact m
theorem Tbl.new{S:List Tl}{ps:List (List Key×PyData)}{x:Tl}(h:Tbl S ps)(m:plT x∉ps.map (·.1))(C:∀ z∈S,ltD (tlD x) (tlD z)=false):Tbl (S++[x]) (ps++[(plT x,tlD x)]):=by
 refine⟨?_,λk B=>?_,λy r=>?_⟩
 ·rw[al,cX];refine⟨h.nd,by simp,λa D b E=>?_⟩;rw[au.mp E];exact λe=>m (by rw[show plT x=a from e.symm];exact D)
 ·by_cases c:k∈ps.map (·.1)
  ·rw[qU c];obtain⟨y,r,e,g,lo⟩:=h.get k c;refine⟨y,bh _ r,e,g,λz l t=>?_⟩
   rcases ax.mp l with l|l
   ·exact lo z l t
   ·rw[au.mp l];exact C y r
  ·rw[al]at B;have e:plT x=k:=(au.mp ((ax.mp B).resolve_left c)).symm;subst e;rw[xT c];refine⟨x,ay _ (.head _),rfl,rfl,λz l t=>?_⟩
   rcases ax.mp l with l|l
   ·exact absurd (h.all z l) (by rw[t];exact c)
   ·rw[au.mp l];exact KS (JZ x)
 ·rw[al]
  rcases ax.mp r with r|r
  ·exact bh _ (h.all y r)
  ·rw[au.mp r];exact ay _ (.head _)
theorem sH{ts S R:List Tl}{ps:List (List Key×PyData)}{ks:List (List Key)}(h:Tbl S ps)(z:S.Perm ts)(B:ks.Perm (ps.map (·.1)))(C:(ks.map tkD).Pairwise leD)(e:R.map plT=ks)(g:∀ x∈R,dvT ps (plT x)=some (tlD x))(G:∀ x∈ts,TlK x)(I:∀ x∈R,TlK x):Due ts R:=by
 have t:∀ x∈R,x∈S/\∀y∈S,plT y=plT x->ltD (tlD y) (tlD x)=false:=λx l=>by
  obtain⟨y,r,_,D,lo⟩:=h.get (plT x) (B.mem_iff.mp (by rw[<-e];exact af.mpr ⟨x,l,rfl⟩));rw[g x l]at D;cases OL (I x l) (G y (z.mem_iff.mp r)) (bq D);exact⟨r,lo⟩
 have E:(R.map plT).Nodup:=by rw[e];exact B.nodup_iff.mpr h.nd
 refine⟨?_,λx l=>z.mem_iff.mp (t x l).1,λx l y r J=>(t x l).2 y (z.mem_iff.mpr r) J,λy r=>?_⟩
 ·rw[<-e,aC,bd]at C;rw[List.Nodup,bd]at E;exact C.imp₂ (λa b L O=>NI O L) E
 ·have m:=B.mem_iff.mpr (h.all y (z.mem_iff.mpr r));rw[<-e]at m;obtain⟨x,l,U⟩:=af.mp m;exact⟨x,l,U⟩
theorem mJ{x:Tl}(g:TlS x):(tkD (plT x)).canLay0=true/\(tkD (plT x)).depth<=1:=by
 have c:=g.2.1;rw[Z6]at c;simp only[PyData.canLay0,PyData.canLayAll0,Bool.and_eq_true]at c;show(PyData.tuple [.int (tmT x),.int (rkW (wdT x)),.str (nmT x)]).canLay0=true/\(PyData.tuple [.int (tmT x),.int (rkW (wdT x)),.str (nmT x)]).depth<=1;simp only[PyData.canLay0,PyData.canLayAll0,Bool.and_eq_true];exact⟨⟨trivial,trivial,c.2.2.1,trivial⟩,by simp[PyData.depth,PyData.depthAll]⟩
theorem P6{ks:List (List Key)}(r:ks.length<=16777216){F:List Key->Tl->Prop}(h:∀ k∈ks,∃x,TlS x/\plT x=k/\F k x):Qk (ks.map tkD):=by
 have g:∀{d:PyData},d∈ks.map tkD->∃ x,TlS x/\d=tkD (plT x):=λ{d} hd=>by
  obtain⟨k,t,rfl⟩:=af.mp hd;obtain⟨x,l,rfl,_⟩:=h k t;exact⟨x,l,rfl⟩
 refine⟨by rw[aa,bL];exact r,.tint λd hd=>?_,λd hd=>?_,λd hd e z=>?_⟩
 ·obtain⟨x,_,rfl⟩:=g hd;exact⟨_,_,rfl⟩
 ·obtain⟨x,l,rfl⟩:=g hd;exact⟨Va _,(mJ l).1,aA (mJ l).2 (by decide)⟩
 ·obtain⟨x,_,rfl⟩:=g hd;obtain⟨y,_,rfl⟩:=g z;exact Rr x y
structure Th where
 n:Str
 u:Int
 v:Int
 ss:List (Str×Int)
noncomputable def stD(p:Str×Int):PyData:=.tuple [.str p.1,.int p.2]
noncomputable def thD(t:Th):PyData:=.tuple [.str t.n,.tuple [.int t.u,.int t.v],.tuple (t.ss.map stD)]
def iC(x:DV)(P:Th->Prop):Prop:=∃ t,x=.dat (thD t)/\P t
noncomputable def lnT(t:Th):List Str:=t.ss.map (·.1)
def BS:DSp:=λxs M Φ=>on1 xs λx=>iC x λt=>t.ss.length<=100/\Φ (.dat (.list ((lnT t).map PyData.str))) M
def Vf(M:Mp)(p:Addr)(q:Str):Prop:=∃ l:List (Pos×Addr),M p=some (.ext (Yn p l))/\∀e∈l,e.2≠p/\M e.2=some (.ext (CJ e.2 q))
theorem Ff{v:Value}:∀ l:List (Pos×Addr),PySem.codeAmong pos (Kk l).toList=some v->∃ e∈l,v=.ref e.2
 |[],h=>by simp[Kk,PySem.codeAmong]at h
 |e::l,h=>by
  have h':PySem.codeAmong pos (PySem.rawInt e.1.line::PySem.rawInt e.1.col:: .ref e.2::(Kk l).toList)=some v:=h;simp only[PySem.rawInt,PySem.codeAmong]at h'
  split at h'
  ·cases h';exact⟨e,aj,rfl⟩
  ·obtain⟨x,g,r⟩:=Ff l h';exact⟨x,aq _ g,r⟩
theorem Cy{Δ:DSt}{pos:Pos}{q:Str}{fd:Value->Value->Value->FuncData}{cl:List (Str×Addr)}{J:DK}(U:Vf M p q)
  (h:∀ f c' M1 pm ct,M1 f=some (.ext (UM f (fd pm (.ref c') ct)))->M1 c' =some (.ext (CJ c' q))->(∀a,a≠p->M a≠none->M1 a=M a)->Vf M1 p q->J (.own f) M1):iS cl p q pos fd Δ M J:=by
 rw[iS];obtain⟨l,e,D⟩:=U;refine⟨l,e,?_⟩;have E:∀{b:Addr},M b=none->b≠p:=λ{b} n z=>by rw[z,e]at n;cases n
 cases Y:PySem.codeAmong pos (Kk l).toList with
 | none=>
  refine .inl ⟨rfl,λc' f pm ct G C L _=>?_⟩;have g:∀ a,a≠p->M a≠none->Zs (Zs (Zs M p (.ext (Yn p (l++[(pos,c')])))) c' (.ext (CJ c' q))) f (.ext (UM f (fd pm (.ref c') ct))) a=M a:=λa na t=>by
   rw[Zj (λz=>t (by rw[z];exact C)),Zj (λz=>t (by rw[z];exact G)),Zj na]
  refine h f c' _ pm ct Zk (by rw[Zj L,Zk]) g ⟨l++[(pos,c')],?_,λx r=>?_⟩
  ·rw[Zj (be (E C)),Zj (be (E G)),Zk]
  ·rcases ax.mp r with r|r
   ·obtain⟨I,B⟩:=D x r;exact⟨I,by rw[g x.2 I (by rw[B];exact aN _)];exact B⟩
   ·rw[au.mp r];exact⟨E G,by rw[Zj L,Zk]⟩
 |some v=>
  obtain⟨x,r,rfl⟩:=Ff l Y;obtain⟨I,B⟩:=D x r;refine .inr ⟨x.2,rfl,λf pm ct C _=>?_⟩;have g:∀ a,M a≠none->Zs M f (.ext (UM f (fd pm (.ref x.2) ct))) a=M a:=λa t=>Zj λz=>t (by rw[z];exact C);refine h f x.2 _ pm ct Zk (by rw[g x.2 (by rw[B];exact aN _)];exact B) (λa _ t=>g a t) ⟨l,by rw[g p (by rw[e];exact aN _)];exact e,λy hy=>?_⟩;obtain⟨n2,O⟩:=D y hy;exact⟨n2,by rw[g y.2 (by rw[O];exact aN _)];exact O⟩
theorem HW{g:Heap}{outer:List Env}(h:Under g outer s)(l:frs (env::outer)=s.heap.objs.size::frs outer)(r:s.heap.objs.size<a):g.get? a=none/\¬a∈frs (env::outer):=by
 have t:=h.1;refine⟨?_,λz=>?_⟩
 ·cases e:g.get? a with
  |none=>rfl
  |some o=>have:=aL e;lia
 ·rw[l]at z
  rcases aW.mp z with z|z
  ·lia
  ·have:=h.2 _ z;lia
noncomputable abbrev YV:Str:=Str.ofString "rows_between"++Str.ofString ".<locals>."++Str.ofString "<lambda>"
def Kq(T:Tx w K mg base)(M M':Mp):Prop:=Vf M' T.Zg YV/\∀a,a≠T.Zg->M a≠none->M' a=M a
theorem Kq.refl{T:Tx w K mg base}(h:Vf M T.Zg YV):Kq T M M:=⟨h,λ_ _ _=>rfl⟩
theorem Kq.trans{T:Tx w K mg base}{M1 M2:Mp}(h:Kq T M M1)(k:Kq T M1 M2):Kq T M M2:=⟨k.1,λa g l=>by
 have e:=h.2 a g l
 rw[k.2 a g (by rw[e];exact l),e]⟩
def Ee(key:Str->PyData)(l g:List Str):Prop:=g.Perm l/\g.Pairwise λa b=>leD (key a) (key b)
theorem WU{key:Str->PyData}{left:List Str}{B:List Nat}(D:B.Perm (List.range left.length))(G:B.Pairwise λi j=>leD ((left.map key).getD i .none) ((left.map key).getD j .none)):
  ∃E,(B.map λi=>(left.map PyData.str).getD i .none)=E.map PyData.str/\Ee key left E:=by
 have l:∀ i∈B,i<left.length:=λi r=>by
  have:=D.mem_iff.mp r
  rwa [fM]at this
 have t:∀{C:Type}(g:Str->C)(z:C)(i:Nat),i<left.length->(left.map g).getD i z=g (left.getD i default):=λ{C} g z i r=>by
  simp[List.getD_eq_getElem?_getD,r]
 refine⟨B.map λi=>left.getD i default,?_,?_,?_⟩
 ·rw[aC];exact bo λi r=>t PyData.str .none i (l i r)
 ·have z:=D.map λi=>left.getD i default;have e:(List.range left.length).map (λi=>left.getD i default)=left:=by
   apply List.ext_getElem
   ·simp
   ·intro i L I;simp[List.getD_eq_getElem?_getD,I]
  rw[e]at z;exact z
 ·rw[bd];refine fx (λ{i j} r J h=>?_) G
  rwa [t key .none i (l i r),t key .none j (l j J)]at h
noncomputable def lvI(rs:List Row)(s:Str):Int:=((lev rs rs.length s).getD 0:Nat)
noncomputable def kyG(rs:List Row)(s:Str):PyData:=.tuple [.int (-(lvI rs s)),.str s]
noncomputable def kyC(rs:List Row)(s:Str):PyData:=.tuple [.int (lvI rs s),.str s]
theorem lY{f:Str->Int}{l:List Str}(z:l.length<=100)(h:∀ s∈l,QF s):Qk (l.map λs=>PyData.tuple [.int (f s),.str s]):=by
 refine⟨by rw[aa,bL];lia,.tint λd hd=>?_,λd hd=>?_,λd hd e g=>?_⟩
 ·obtain⟨s,_,rfl⟩:=af.mp hd;exact⟨f s,[.str s],rfl⟩
 ·obtain⟨s,m,rfl⟩:=af.mp hd;have r:(PyData.str s).canLay0=true:=h s m;refine⟨by simp[pln,Vj],?_,by simp[PyData.depth,PyData.depthAll]⟩;rw[PyData.canLay0,PyData.canLayAll0,PyData.canLayAll0,PyData.canLayAll0,r];rfl
 ·obtain⟨s,_,rfl⟩:=af.mp hd;obtain⟨t,_,rfl⟩:=af.mp g;simp[ZW,ZN]
noncomputable def Fu(tm:Int)(n w:Str)(l:Str):PyData:=.tuple [.int tm,.str n,.str w,.str l]
noncomputable abbrev goS:Str:=Str.ofString "goes"
noncomputable abbrev coS:Str:=Str.ofString "comes"
noncomputable def QC(a b:List Str):List Str:=a.filter λs=>!b.contains s
def ir(rs:List Row)(t:Th):Prop:=t.ss.length<=100/\∀s∈lnT t,QF s/\∃n,lev rs rs.length s=some n
def ik(rs:List Row):Prop:=rs.length<=60/\(rs.map (·.n)).Nodup
def mN(T:Tx w K mg base):DSp:=λxs M Φ=>on5 xs λx y z a b=>iC x λk=>iC y λt=>onI z λtm=>jG a λg=>jG b λh=>(ik g/\ik h/\ir g k/\ir h t)/\Vf M T.Zg YV/\
 ∀l cs M',Ee (kyG g) (QC (lnT k) (lnT t)) l->Ee (kyC h) (QC (lnT t) (lnT k)) cs->Kq T M M'->∀ q,M' q=none->Φ (.own q) (Zs M' q (.lst (l.map (Fu tm k.n goS)++cs.map (Fu tm k.n coS))))
def iR(o:OO):Prop:=∃ a b c:Int,o=.lst [.int a,.int b,.int c]
def Pen(M:Mp)(p:Addr):Prop:=∃ o,iR o/\M p=some o
theorem Pen.Zs{o:OO}(h:iR o):Pen (Zs M p o) p:=⟨o,h,Zk⟩
theorem Pen.ne(h:Pen M p)(l:M q=none):p≠q:=λe=>by
 obtain⟨o,_,g⟩:=h;rw[e,l]at g;cases g
theorem Pen.put{o:OO}(h:Pen M p)(g:p≠q):Pen (DL.Zs M q o) p:=by
 obtain⟨l,r,t⟩:=h;exact⟨l,r,by rw[Zj g];exact t⟩
theorem Pen.del(h:Pen M p)(g:p≠q):Pen (DL.Q4 M q) p:=by
 obtain⟨l,r,t⟩:=h;exact⟨l,r,by rw[ZG g];exact t⟩
def jU(x:DV)(P:List Int->Prop):Prop:=∃ g,x=.dat (.list (g.map PyData.int))/\P g
theorem qG{x:DV}{P:List Int->Prop}(h:jU x P):∃ ns,x=.dat (.list (ns.map PyData.int))/\P ns:=h
theorem Kl:∀{as bs:List Int},as.map PyData.int=bs.map PyData.int->as=bs
 |[],[],_=>rfl
 |[],_::_,h=>by simp at h
 |_::_,[],h=>by simp at h
 |a::as,b::bs,h=>by
  rw[ai,ai,bR,PyData.int.injEq]at h;rw[h.1,Kl h.2]
theorem yG(bs:List Int)(P:List Int->Prop):jU (.dat (.list (bs.map PyData.int))) P=P bs:=propext ⟨λg=>by 
 obtain⟨cs,e,h⟩:=g
 rw[DV.dat.injEq,PyData.list.injEq]at e;rw[Kl e]
 exact h,λh=>⟨bs,rfl,h⟩⟩
theorem tab{l:List Int}{r:Int}(P:Int->Prop)(g:0<=r)(h:r<l.length)(t:∀ w∈l,P w){Q:PyData->Prop}(k:∀ w,P w->Q (.int w)):Cz (l.map PyData.int) r Q:=by
 obtain⟨w,z,e⟩:=vN g h;exact J7 e (k w (t w z))
def pA:DSp:=λxs M Φ=>on2 xs λx y=>jU x λg=>onI y λk=>0<=k/\∀p o,M p=none->iR o->Φ (.own p) (Zs M p o)
def Fr(p:Addr)(M M':Mp):Prop:=Pen M' p/\∀a,a≠p->M a≠none->M' a=M a
theorem Fr.refl(h:Pen M p):Fr p M M:=⟨h,λ_ _ _=>rfl⟩
theorem Fr.trans{M1 M2:Mp}(h:Fr p M M1)(k:Fr p M1 M2):Fr p M M2:=⟨k.1,λa g l=>by
 have e:=h.2 a g l;rw[<-e]
 exact k.2 a g (by rw[e];exact l)⟩
theorem Fr.Zs{o:OO}(h:iR o):Fr p M (Zs M p o):=⟨Pen.Zs h,λa g _=>Zj g⟩
theorem Fr.own{o:OO}(h:Fr p M M')(l:M q=some o)(g:q≠p):M' q=some o:=by
 rw[h.2 q g (by rw[l];exact aN _)];exact l
def mL:DSp:=λxs M Φ=>on2 xs λx y=>onO x λp=>onI y λm=>(0<m/\m<10^20)/\Pen M p/\∀r M',0<=r->r<m->Fr p M M'->Φ (.dat (.int r)) M'
theorem Pen.get(h:Pen M p):∃ a b c:Int,M p=some (.lst [.int a,.int b,.int c]):=by
 obtain⟨o,⟨a,b,c,g⟩,l⟩:=h;exact⟨a,b,c,by rw[l,g]⟩
def CW(s:Str):Prop:=(1<=s.length/\s.length<=8)/\∀c∈s.cps.toList,97<=c/\c<=122
def OY:DSp:=λxs M Φ=>on2 xs λx y=>onO x λp=>onI y λm=>(1<=m/\m<=6)/\Pen M p/\∀(g:List Str)(M':Mp),(g.length:Int)=m->(∀s∈g,CW s)->Fr p M M'->Φ (.dat (.list (g.map PyData.str))) M'
theorem abc:(Str.ofString "abcdefghijklmnopqrstuvwxyz").cps.toList=(List.range 26).map λk=>97+k:=by walk_at"k"
theorem EC:(Str.ofString "abcdefghijklmnopqrstuvwxyz").length=26:=by walk_at"k"
theorem Oy{i:Int}(g:0<=i)(h:i<26):L2.atI (Str.ofString "abcdefghijklmnopqrstuvwxyz").cps.toList i=some (97+i.toNat):=by
 obtain⟨k,rfl⟩:=cW g;rw[abc];refine J5 ?_;rw[aV,fi (by lia)];rfl
noncomputable def cy(b:Int):Str:=⟨#[97+b.toNat]⟩
theorem E1{bs:List Int}{j:Int}(g:0<=j)(h:j<=bs.length):DL.cutD (bs.map PyData.int) none (some j)=(bs.take j.toNat).map PyData.int:=by
 unfold DL.cutD;rw[pP g,HT.GA,List.drop_zero,aa,Nat.sub_zero,<-gV]
 congr 2
 lia
theorem G4:∀ bs:List Int,((bs.map cy).map (·.cps.toList)).flatten=bs.map λb=>97+b.toNat
 |[]=>rfl
 |b::bs=>by
  rw[ai,ai,List.flatten_cons,G4 bs];rfl
noncomputable def nmS(bs:List Int):Str:=Txt.join (Str.ofString "") (bs.map cy)
theorem O5(bs:List Int):(nmS bs).cps.toList=bs.map λb=>97+b.toNat:=by
 unfold nmS;rw[DL.join_list,G4]
theorem pZ(bs:List Int):(nmS bs).length=bs.length:=by rw[<-str_len,O5,aa]
theorem mR{bs:List Int}(h:bs.length<=8):JoinOk (Str.ofString "") (bs.map cy)=true:=by
 have e:(Str.ofString "").length=0:=by walk_at"k"
 refine qD (B:=1) (λy g=>?_) (by rw[aa,e];lia);obtain⟨c,_,rfl⟩:=af.mp g;exact ak 1
theorem SM{bs:List Int}(h:1<=bs.length/\bs.length<=8)(l:∀ b∈bs,0<=b/\b<26):CW (nmS bs):=by
 refine⟨by rw[pZ];exact h,λc g=>?_⟩;rw[O5]at g;obtain⟨b,r,rfl⟩:=af.mp g;have:=l b r;lia
theorem kc{g:Type}(f:Nat->g)(i:Nat):(List.range i).map f++[f i]=(List.range (i+1)).map f:=by rw[List.range_succ,al];rfl
theorem rW{bs:List Int}(a:Nat)(b:Int):((bs.map cy).map PyData.str).set a (.str ⟨#[97+b.toNat]⟩)=((bs.set a b).map cy).map PyData.str:=by
 show((bs.map cy).map PyData.str).set a (.str (cy b))=_;rw[List.map_set,List.map_set]
def iY(x:DV)(P:Int->Int->Int->Prop):Prop:=match x with| .dat (.tuple [.int i,.int j,.int k])=>P i j k|_=>False
theorem RQ(i j k:Int)(P:Int->Int->Int->Prop):iY (.dat (.tuple [.int i,.int j,.int k])) P=P i j k:=rfl
theorem vZ{x:DV}{P:Int->Int->Int->Prop}(h:iY x P):∃ i j k,x=.dat (.tuple [.int i,.int j,.int k])/\P i j k:=by
 unfold iY at h
 split at h
 ·exact⟨_,_,_,rfl,h⟩
 ·exact h.elim
def Frm(f g h:Int):Prop:=(1<=f/\f<=1000000000)/\(-100000000000<=g/\g<=100000000000)/\(-100000000000<=h/\h<=100000000000)
def Bx(n:Int)(b:B4):Prop:=(b.x<=b.X/\b.y<=b.Y)/\(b.X-b.x<=11/\b.Y-b.y<=11)/\(-(12*n)<=b.x/\b.X<=22+12*n)/\(-(12*n)<=b.y/\b.Y<=22+12*n)
def Sm(c:Int×Int):Prop:=(-99<=c.1/\c.1<=99)/\(-99<=c.2/\c.2<=99)
noncomputable def cD(c:Int×Int):PyData:=.tuple [.int c.1,.int c.2]
def EM:DSp:=λxs M Φ=>on1 xs λx=>onO x λp=>Pen M p/\∀f g h M',Frm f g h->Fr p M M'->Φ (.dat (.tuple [.int f,.int g,.int h])) M'
def Hc:DSp:=λxs M Φ=>on1 xs λx=>onO x λp=>Pen M p/\∀(g:List B4) M',(1<=g.length/\g.length<=6)->(∀b∈g,Bx 6 b)->Fr p M M'->Φ (.dat (.list (g.map bD))) M'
def NR:DSp:=λxs M Φ=>on3 xs λx y z=>iY x λf g h=>onP y λa b=>onI z λm=>((-200<=a/\a<=200)/\ -200<=b/\b<=200)/\Φ (.dat (.tuple [.int (a*f+m+g),.int (b*f+m+h)])) M
structure Hw where
 ls:List Str
 ts:List Str
 st:Int
 at0:Int
noncomputable def hs5(w:Hw)(c:Addr):List (Key×DV):=[(.inr (Str.ofString "lands"),.dat (.list (w.ls.map PyData.str))),(.inr (Str.ofString "things"),.dat (.list (w.ts.map PyData.str))),(.inr (Str.ofString "step"),.dat (.int w.st)),(.inr (Str.ofString "start"),.dat (.int w.at0)),(.inr (Str.ofString "corners"),.own c)]
noncomputable def hsL(w:Hw)(c:Addr)(f g h:Int):List (Key×DV):=hs5 w c++[(.inr (Str.ofString "frame"),.dat (.tuple [.int f,.int g,.int h]))]
noncomputable def hsO(w:Hw)(c:Addr)(f g h:Int):OO:=.dko (hsL w c f g h)
theorem uG(w:Hw)(c:Addr)(f g h:Int)(P:List (Key×DV)->Prop):D0 (some (hsO w c f g h)) P=P (hsL w c f g h):=rfl
theorem Z3{a b:Str}(h:a.cps.toList≠b.cps.toList){x:DV}{r:List (Key×DV)}:QY ((.inr a,x)::r) (.inr b)=QY r (.inr b):=by
 unfold QY;have n:¬ decide ((.inr a:Key)=.inr b)=true:=λe=>h (by rw[dj (aY e)]);exact bK _ (aK (a:=((.inr a:Key),x)) (p:=λp=>decide (p.1=.inr b)) n)
theorem VM{a:Str}{x:DV}{r:List (Key×DV)}:QY ((.inr a,x)::r) (.inr a)=some x:=by
 unfold QY;rw[aH (a:=((.inr a:Key),x)) (p:=λp=>decide (p.1=.inr a)) (aI rfl)];rfl
theorem wG(w:Hw)(c:Addr)(f g h:Int):QY (hsL w c f g h) (.inr (Str.ofString "lands"))=some (.dat (.list (w.ls.map PyData.str))):=VM
theorem qM(w:Hw)(c:Addr)(f g h:Int):QY (hsL w c f g h) (.inr (Str.ofString "things"))=some (.dat (.list (w.ts.map PyData.str))):=(Z3 (by walk_at"k")).trans VM
theorem wq(w:Hw)(c:Addr)(f g h:Int):QY (hsL w c f g h) (.inr (Str.ofString "step"))=some (.dat (.int w.st)):=(Z3 (by walk_at"k")).trans ((Z3 (by walk_at"k")).trans VM)
theorem xy(w:Hw)(c:Addr)(f g h:Int):QY (hsL w c f g h) (.inr (Str.ofString "start"))=some (.dat (.int w.at0)):=(Z3 (by walk_at"k")).trans ((Z3 (by walk_at"k")).trans ((Z3 (by walk_at"k")).trans VM))
theorem wF(w:Hw)(c:Addr)(f g h:Int):QY (hsL w c f g h) (.inr (Str.ofString "corners"))=some (.own c):=(Z3 (by walk_at"k")).trans ((Z3 (by walk_at"k")).trans ((Z3 (by walk_at"k")).trans ((Z3 (by walk_at"k")).trans VM)))
theorem vq(w:Hw)(c:Addr)(f g h:Int):QY (hsL w c f g h) (.inr (Str.ofString "frame"))=some (.dat (.tuple [.int f,.int g,.int h])):=(Z3 (by walk_at"k")).trans ((Z3 (by walk_at"k")).trans ((Z3 (by walk_at"k")).trans ((Z3 (by walk_at"k")).trans ((Z3 (by walk_at"k")).trans VM))))
def uO(w:Hw):Prop:=((1<=w.ls.length/\w.ls.length<=5)/\(1<=w.ts.length/\w.ts.length<=4))/\(∀s∈w.ls,CW s)/\∀s∈w.ts,CW s
structure Hs(M:Mp)(p q c:Addr)(w:Hw)(n:Nat):Prop where
 h1:∃ f ox oy,M q=some (hsO w c f ox oy)/\Frm f ox oy
 h2:∃ cs:List (Int×Int),M c=some (.lst (cs.map cD))/\(∀k∈cs,Sm k)/\1<=cs.length/\cs.length<=n
 qp:q≠p
 cp:c≠p
 cq:c≠q
 nm:uO w
def Fh(p c:Addr)(M M':Mp):Prop:=Pen M' p/\∀a,a≠p->a≠c->M a≠none->M' a=M a
theorem Fr.fh(h:Fr p M M'):Fh p c M M':=⟨h.1,λa g _ l=>h.2 a g l⟩
theorem Fh.trans{M1 M2:Mp}(h:Fh p c M M1)(k:Fh p c M1 M2):Fh p c M M2:=⟨k.1,λa g l r=>by
 have e:=h.2 a g l r;rw[<-e]
 exact k.2 a g l (by rw[e];exact r)⟩
theorem Hs.fr{w:Hw}(h:Hs M p q c w n)(k:Fr p M M'):Hs M' p q c w n:=by
 obtain⟨f,g,l,r,t⟩:=h.h1;obtain⟨cs,z,B⟩:=h.h2;exact⟨⟨f,g,l,k.own r h.qp,t⟩,⟨cs,k.own z h.cp,B⟩,h.qp,h.cp,h.cq,h.nm⟩
def Pc:DSp:=λxs M Φ=>on1 xs λx=>onO x λp=>Pen M p/\∀q c w M',M q=none->M c=none->Hs M' p q c w 1->Fr p M M'->Φ (.own q) M'
def O4:DSp:=λxs M Φ=>on2 xs λx y=>onO x λp=>onO y λq=>∃ c w n,(Pen M p/\Hs M p q c w n/\n<=2000)/\∀(g:Str)(h:List B4)(l:Int) M',(g=Str.ofString ""\/g∈w.ls)->Shp h->0<=l->Hs M' p q c w (n+12)->Fh p c M M'->Φ (.dat (.tuple [.str g,.tuple (h.map bD),.int l])) M'
def Ot:DSp:=λxs M Φ=>on2 xs λx y=>onO x λp=>onO y λq=>∃ c w n,(Pen M p/\Hs M p q c w n/\n<=2000)/\∀u v M',Fr p M M'->Φ (.dat (.tuple [.int u,.int v])) M'
theorem Fr.fresh(h:Fr p M M')(g:M' q=none):M q=none:=by
 cases e:M q with
 |none=>rfl
 |some o=>
  have l:q≠p:=be (h.1.ne g);rw[h.own e l]at g;cases g
theorem Fr.gone(h:Fr p M M')(r:M q=none)(g:q≠p):Fr p M (DL.Q4 M' q):=⟨h.1.del (be g),λa t l=>by
 rw[ZG (λe=>l (by rw[e];exact r))]
 exact h.2 a t l⟩
theorem Fr.put{o:OO}(h:Fr p M M')(r:M q=none)(g:q≠p):Fr p M (DL.Zs M' q o):=⟨h.1.put (be g),λa t l=>by
 rw[Zj (λe=>l (by rw[e];exact r))]
 exact h.2 a t l⟩
theorem eu{h:Type}{g:h->PyData}{l:List h}{r:Int}(z:0<=r)(B:r<l.length){Q:PyData->Prop}(k:∀ a∈l,Q (g a)):Cz (l.map g) r Q:=by
 obtain⟨j,rfl⟩:=cW z;have t:j<l.length:=by lia
 refine J7 (d:=g l[j]) (J5 ?_) (k _ (List.getElem_mem t));rw[aV,aM t];rfl
theorem Fh.ext{o B:OO}(h:Fh p c M M')(C:p≠c)(g:M' b=none):Fh p c M (Q4 (Zs (Zs M' b o) c B) b):=⟨((h.1.put (h.1.ne g)).put C).del (h.1.ne g),λa D l r=>by
 have e:=h.2 a D l r;have t:a≠b:=λz=>r (by rw[<-e,z];exact g);rw[ZG t,Zj l,Zj t]
 exact e⟩
noncomputable def layB(f g h:Int)(b:B4):B4:=⟨b.x*f+0+g,b.y*f+0+h,b.X*f+(f-1)+g,b.Y*f+(f-1)+h⟩
theorem qw{x f:Int}(g:-94<=x/\x<=94)(h:1<=f/\f<=1000000000):-94000000000<=x*f/\x*f<=94000000000:=by
 have:=cS g.1 (show 0<=f by lia);have:=cS g.2 (show 0<=f by lia);lia
theorem Py{f x X:Int}(o:Int)(h:x<=X)(g:1<=f):x*f+0+o<=X*f+(f-1)+o:=by
 have:=cS h (show 0<=f by lia);lia
theorem wJ(w:Hw)(c:Addr)(f g h:Int):Xo (hs5 w c) (.inr (Str.ofString "frame")) (.dat (.tuple [.int f,.int g,.int h]))=hsL w c f g h:=by
 have n:¬ ((hs5 w c).any λp=>decide (p.1=.inr (Str.ofString "frame")))=true:=λe=>by
  obtain⟨x,l,e⟩:=cE.mp e;have e:=bK (λk:Key=>(k.elim (λ_=>[]) λs=>s.cps.toList:List Nat)) (aY e);have r:x.1∈(hs5 w c).map (·.1):=af.mpr ⟨x,l,rfl⟩;have all:∀ k∈(hs5 w c).map (·.1),(k.elim (λ_=>[]) λs=>s.cps.toList:List Nat)≠(Str.ofString "frame").cps.toList:=by
   show ∀k∈[(.inr (Str.ofString "lands"):Key),.inr (Str.ofString "things"),.inr (Str.ofString "step"),.inr (Str.ofString "start"),.inr (Str.ofString "corners")],_
   decide+kernel
  exact all _ r e
 unfold Xo;rw[ao n];rfl
theorem ii_p:type_of% @ii.eq_1:=by intros;exact qI
theorem ic_p:type_of% @ic.eq_1:=by intros;exact qI
theorem iO_p:type_of% @iO.eq_1:=by intros;exact qI
theorem Pw_p:type_of% @Pw.eq_1:=by intros;exact qI
theorem iI_p:type_of% @iI.eq_1:=by intros;exact qI
theorem NP_p:type_of% @NP.eq_1:=by intros;exact qI
theorem iZ_p:type_of% @iZ.eq_1:=by intros;exact qI
theorem jj_p:type_of% @jj.eq_1:=by intros;exact qI
theorem io_p:type_of% @io.eq_1:=by intros;exact qI
local macro_rules | `(tactic| walk_at $s:str)=>do
 let p:=s.getString=="rp"
 if s.getString != "rk" && !p then Lean.Macro.throwUnsupported
 let a<-("wZ u6 uy wv tZ tp v_ wR O3 qE xQ vY qo rA wl T1 x_ su yI yD sr um ya xt rQ xb yq TN rG sQ rg rE yi L9 DH uH xS OV TJ T7 vJ vO yQ reduceIte FE qQ ur T4 OM CH Cu sG wW Nq tq Pn Fd RQ qr uM".splitOn " ").toArray.mapM λ s=>`(Lean.Parser.Tactic.simpLemma|↓$(Lean.mkIdent s.toName):ident)
 let b<-("kA dC dOp dB nu dOr kG lE pL pV δI δI0 pR lC oz iZ ot nS δIx dCB kH pr δ2I HA δEq δNe Oe oY pe lD ii mX jj kt BA mB oZ ic SQ iO pM kC oM io mF nX my Pw lj nZ δ3I N2 δIn NP nK oe pJ SN L8 VB ym ji vM isNone_none EB HY LR DZ GK En Option.bind_some Option.bind_none Option.join_some Option.join_none Option.getD_some Option.map_some Option.map_none List.getElem?_cons_zero List.getElem?_cons_succ List.set_cons_zero List.set_cons_succ List.map_cons List.map_nil List.length_cons List.length_nil List.replicate List.cons_append List.nil_append List.any_cons List.any_nil Zk Mw Bool.not_true Bool.not_false Bool.or_false Bool.or_true Bool.true_or Bool.false_or Bool.and_true Bool.and_false Bool.true_and Bool.false_and Bool.bne_true Bool.bne_false Bool.false_eq_true eq_self true_and and_true yn qR sw exists_eq_left' exists_eq_left Option.some.injEq Nat.reduceAdd Nat.reduceSub Nat.zero_add Nat.reduceLT Nat.reduceLeDiff Int.reduceToNat Int.reducePow Int.reduceSub Int.reduceMul Int.reduceAdd Int.reduceNeg Int.reduceLT Int.reduceLE Int.reduceEq Int.zero_add Int.cast_ofNat_Int decide_true decide_false sizeLine_eq SR lx pH i_ jq Dq Ds LH LV C4 G1 CP BX Bv C8 DP Ct Uv G5 US UA BH Bm Ur Wv Gy Bf B6 CY C0 BV UC G9 DM C1 Ma Lr Eb Co CS G3 Bn CF D4 GZ Gq Cq sR nj kJ GS mu FR Ft lP nM So nC oi mY nI li oD nF pp o_ Pt nz jV iI km Oj Oh Om E6 RI GP Sh Of mj PJ NL lT OS lG BS mN lI pA mL yG OY nE nJ uG wG qM wq xy wF vq EM Hc NR Pc O4 Ot R7 mW HB lQ oQ EX P5 FO nQ Ho pS dMD BY nB kZ MW oJ mq".splitOn " ").toArray.mapM λ s=>`(Lean.Parser.Tactic.simpLemma|$(Lean.mkIdent (if p && ("ii ic iO Pw iI NP iZ jj io".splitOn " ").contains s then s ++ "_p" else s).toName):ident)
 `(tactic|try simp (config:={maxSteps:=10000000}) only [$[$a:simpLemma],*,$[$b:simpLemma],*])
theorem BZ(T:Tx w K mg base):Qx P w K mg base CX0 1 T.KP T.KH ["box"] (lift K nj):=by
 refine okD T.Wh.F Be (λxs M Φ h=>by obtain⟨_,rfl,_⟩:=ZP h;rfl) λr A g s H E t=>⟨_,(Zi (Zq (E3 (V4 jO (Zh (Zh (Zb 0) Zc) Zc) (Zh (Zh (Zb 0) Zc) Zc)) (WB (V4 jO (Zh (Zh (Zb 0) Zc) Zc) (Zh (Zh (Zb 0) Zc) Zc)))))),λxs M Φ h=>?_⟩;obtain⟨z,rfl,h⟩:=(ZP h);obtain⟨b,rfl,h⟩:=(Vm h);walk_at"rk";refine ZA (λl=>?_) (λl=>?_)
 ·unfold okB at h
  simpa[l]using h
 ·unfold okB at h
  simpa[l]using h
theorem og(T:Tx w K mg base):Qx P w K mg base CX0 1 T.ki T.lH ["one","other","way"] (lift K kJ):=by
 refine okD T.jn.F ux (λxs M Φ h=>by obtain⟨_,_,_,rfl,_⟩:=QA h;rfl) λl A g s H E t=>⟨_,(Zi (Zq (ZD (qJ rfl) rfl T.iM Fo (Za Zc (Za (Zr Qy (Zh (Zh (Zb 1) Zc) (Zb 2)) (Zh (Zh (Zb 0) Zc) (Zb 2))) (Za (Zr Qy (Zh (Zh (Zb 0) Zc) (Zb 2)) (Zh (Zh (Zb 1) Zc) (Zb 2))) Ze)))))),λxs M Φ h=>?_⟩;obtain⟨z,B,C,rfl,h⟩:=(QA h);obtain⟨a,rfl,h⟩:=(Vm h);obtain⟨b,rfl,h⟩:=(Vm h);obtain⟨i,rfl,r,h⟩:=(ZJ h)
 rcases r with rfl|rfl
 ·walk_at"rk";exact h
 ·walk_at"rk";exact h
theorem Ve(T:Tx w K mg base):Qx P w K mg base CX0 2 T.Vs T.Vo ["one","other"] (lift K GS):=by
 refine okD T.Jv.F X1 (λxs M Φ h=>by obtain⟨_,_,rfl,_⟩:=Zz h;rfl) λr A g s H E l=>⟨_,(Zi (Zq (ZD (Dw rfl) rfl T.iM Fo (Za (cO T.jn (og T) l (Za (Zb 0) (Za (Zb 1) (Za Zc Ze)))) (Za (cO T.jn (og T) l (Za (Zb 0) (Za (Zb 1) (Za Zc Ze)))) Ze))))),λxs M Φ h=>?_⟩;obtain⟨t,z,rfl,h⟩:=(Zz h);obtain⟨a,rfl,h⟩:=(Vm h);obtain⟨b,rfl,h⟩:=(Vm h);walk_at"rk";exact⟨.inl trivial,.inr trivial,h⟩
theorem ED(T:Tx w K mg base):Qx P w K mg base CX0 3 T.WL T.W4 ["box","spot"] (lift K mu):=by
 refine okD T.WO.F Df (λxs M Φ h=>by obtain⟨_,_,rfl,_⟩:=Zz h;rfl) λl A g s H E r=>⟨_,(Zi (Zq (cO T.Jv (Ve T) r (Za (Zb 0) (Za (Zw (Za (Zb 1) (Za (Zb 1) Ze))) Ze))))),λxs M Φ h=>?_⟩;obtain⟨t,z,rfl,h⟩:=(Zz h);obtain⟨a,rfl,h⟩:=(Vm h);obtain⟨u,v,rfl,h⟩:=(XF h);walk_at"rk";exact h
theorem Ry(T:Tx w K mg base):Qx P w K mg base CX0 1 T.FJ T.Hx ["one","other"] (lift K Ft):=by
 refine okD T.Fp.F Wl (λxs M Φ h=>by obtain⟨_,_,rfl,_⟩:=Zz h;rfl) λl A g s H E r=>⟨_,(Zd (Zl 2 Wl.nd (Zw (Za (ZD (Dw rfl) rfl T.iM Fo (Za (Zh (Zh (Zb 0) Zc) Zc) (Za (Zh (Zh (Zb 1) Zc) Zc) Ze))) (Za (ZD (Dw rfl) rfl T.iM Fo (Za (Zh (Zh (Zb 0) Zc) Zc) (Za (Zh (Zh (Zb 1) Zc) Zc) Ze))) Ze))))
 (Zd (Zl 3 Wl.nd (Zw (Za (ZD (SA rfl) rfl T.jA Sx (Za (Zh (Zh (Zb 0) Zc) Zc) (Za (Zh (Zh (Zb 1) Zc) Zc) Ze))) (Za (ZD (SA rfl) rfl T.jA Sx (Za (Zh (Zh (Zb 0) Zc) Zc) (Za (Zh (Zh (Zb 1) Zc) Zc) Ze))) Ze))))
 (Zi (Zq (Zw (Za (Zb 2) (Za (Zb 3) Ze))))))),λxs M Φ h=>?_⟩
 obtain⟨t,z,rfl,h⟩:=(Zz h);obtain⟨a,rfl,h⟩:=(Vm h);obtain⟨b,rfl,h⟩:=(Vm h);walk_at"h";walk_at"h";subst_vars;walk_at"rk";exact h
theorem Lu(T:Tx w K mg base):Qx P w K mg base CX0 3 T.BB T.Cm ["one","other"] (lift K lP):=by
 refine okD T.Cg.F Jk (λxs M Φ h=>by obtain⟨_,_,rfl,_⟩:=Zz h;rfl) λD A l s H E r=>⟨_,(Zd (QJ (ZC DR (cO T.Jv (Ve T) r (Za (Zb 0) (Za (Zb 1) Ze))) Zc) (Zi (Zq (Qi (Za (Zb 0) Ze)))) ZO)
 (Zd (Zl 2 Jk.nd (cO T.Fp (Ry T) r (Za (Zb 0) (Za (Zb 1) Ze))))
 (Zd (Zl 3 Jk.nd (Zw (Za (Zh (Zb 0) Zc) (Za (Zw (Za (Zr Qy (Zh (Zh (Zb 2) Zc) Zc) Zc) (Za (Zh (Zh (Zb 0) Zc) Zc) Ze))) Ze))))
 (Zd (Zl 4 Jk.nd (Zw (Za (Zw (Za (Zr ZV (Zh (Zh (Zb 2) Zc) Zc) Zc) (Za (Zh (Zh (Zb 0) Zc) Zc) Ze))) (Za (Zh (Zb 0) Zc) Ze))))
 (Zd (Zl 5 Jk.nd (Zw (Za (Zw (Za (Zh (Zh (Zb 2) Zc) Zc) (Za (Zh (Zh (Zb 0) Zc) Zc) Ze))) (Za (Zw (Za (Zh (Zh (Zb 2) Zc) Zc) (Za (Zr Qy (Zh (Zh (Zb 2) Zc) Zc) Zc) Ze))) Ze))))
 (Zd (Zl 6 Jk.nd (Zw (Za (Zw (Za (Zh (Zh (Zb 2) Zc) Zc) (Za (Zr ZV (Zh (Zh (Zb 2) Zc) Zc) Zc) Ze))) (Za (Zw (Za (Zh (Zh (Zb 2) Zc) Zc) (Za (Zh (Zh (Zb 0) Zc) Zc) Ze))) Ze))))
 (Zi (Zq (ZI true (Zn (sc:=Zf Y2) (XN:=["one","other","middle","left","right","below","above"]) (N:=["piece"]) (ix:=[none]) rfl rfl (by walk_at"k")) (ZU (QU (Za (Zb 3) (Za (Zb 4) (Za (Zb 5) (Za (Zb 6) Ze)))))) (λC B s H=>(Zm 0 (show List.Nodup (["piece"]:List Str) by walk_at"k"))) (λC B s H=>(Qo (Cr (cO T.Wh (BZ T) r (Za (Zb 0) Ze))))) (λC B s H=>(Zb 0)) rfl))))))))),λxs M Φ h=>?_⟩
 obtain⟨L,O,rfl,h⟩:=(Zz h);obtain⟨a,rfl,h⟩:=(Vm h);obtain⟨b,rfl,h⟩:=(Vm h);walk_at"h";refine ZA (λt=>?_) (λt=>?_)
 ·intro p G;have h':=h p G;rw[show He a b=[a]from aw t]at h';exact h'
 ·have I:He a b=(jb a b).filter okB:=ao t;walk_at"h";walk_at"h";walk_at"h";walk_at"h";walk_at"h";subst_vars;walk_at"rk";refine⟨λi g M'=>g=(((jb a b).take i).filter okB).map bD/\M' =M,⟨rfl,rfl⟩,?_,?_⟩
  ·rintro i d g M' hd ⟨rfl,rfl⟩;have z:((jb a b).map bD)[i]?=some d:=hd;obtain⟨q,J,rfl⟩:=Zp z;walk_at"rk";rw[CQ okB J,al];cases okB q with
   |true=>rfl
   |false=>simp
  ·rintro g M' ⟨rfl,rfl⟩;rw[I]at h;exact h
theorem Bh(T:Tx w K mg base):Qx P w K mg base CX0 4 T.Kx T.Wg ["box","others"] (lift K nM):=by
 refine okD T.Km.F QI (λxs M Φ h=>by obtain⟨_,_,rfl,_⟩:=Zz h;rfl) λG A t s H E I=>⟨_,(Zd (Zl 2 QI.nd (QU (Za (Zb 0) Ze)))
 (Zd (Gk (Zb 1) (Zm 3 QI.nd) (Zd (Zl 4 QI.nd (Qi Ze))
 (Zd (Jc (Zb 2) (Zm 5 QI.nd) (Zi (Qh (Js (Zb 4) (cO T.Cg (Lu T) I (Za (Zb 5) (Za (Zb 3) Ze)))))) bj rfl)
 (Zi (Zl 2 QI.nd (Q9 (Zb 4)))))) bj rfl)
 (Zi (Zq (Zb 2))))),λxs M Φ h=>?_⟩
 obtain⟨Y,x2,rfl,h⟩:=(Zz h);obtain⟨a,rfl,h⟩:=(Vm h);obtain⟨l,rfl,hl,h⟩:=(Ec h);walk_at"h";walk_at"h";refine⟨λi Δ M'=>∃ z B g,Δ=[some (.dat (bD a)),some (.dat (.tuple (l.map bD))),some (.dat (.list ((KZ a (l.take i)).map bD))),z,B,g]/\M' =M,⟨none,none,none,rfl,rfl⟩,?_,?_⟩
 ·rintro i d Δ M' hd ⟨z,B,g,rfl,rfl⟩;obtain⟨b,J,rfl⟩:=Zp hd;have len:=SD a (l.take i) (by rw[bp];lia);walk_at"rk";intro q L;refine⟨λj Δ M2=>∃ g,Δ=[some (.dat (bD a)),some (.dat (.tuple (l.map bD))),some (.dat (.list ((KZ a (l.take i)).map bD))),some (.dat (bD b)),some (.own q),g]/\M2=Zs M' q (.lst ((((KZ a (l.take i)).take j).flatMap λp=>He p b).map bD)),⟨g,rfl,rfl⟩,?_,?_⟩
  ·rintro j d Δ M2 C ⟨g,rfl,rfl⟩;obtain⟨p,O,rfl⟩:=Zp C;walk_at"rk";intro c D;have r:=fresh_ne D;simp only[Zj (Ne.symm r)];walk_at"rk";refine⟨r,?_,_,rfl,?_⟩
   ·have U:=Gj (λp=>He p b) 4 ((KZ a (l.take i)).take j) λp _=>UL p b;have h2:=UL p b;rw[bp]at U;rw[aa,aa];lia
   ·rw[uj D,<-al,RM (λp=>He p b) O]
  ·rintro Δ M2 ⟨g,rfl,rfl⟩;rw[aa,av];walk_at"rk";exact⟨_,_,_,by rw[Lh J],YL L⟩
 ·rintro Δ M' ⟨z,B,g,rfl,rfl⟩;rw[aa,av];subst_vars;walk_at"rk";exact h
theorem MQ(T:Tx w K mg base):Qx P w K mg base CX0 1 T.Hr T.Hh ["spot","r"] (lift K FR):=by
 refine okD T.Hq.F Mo (λxs M Φ h=>by obtain⟨_,_,rfl,_⟩:=Zz h;rfl) λl A g s H E t=>⟨_,(Zi (Zq (Zw (Za (Zw (Za (Zr Qy (Zh (Zb 0) Zc) (Zb 1)) (Za (Zr Qy (Zh (Zb 0) Zc) (Zb 1)) Ze))) (Za (Zw (Za (Zr ZV (Zh (Zb 0) Zc) (Zb 1)) (Za (Zr ZV (Zh (Zb 0) Zc) (Zb 1)) Ze))) Ze))))),λxs M Φ h=>?_⟩;obtain⟨z,B,rfl,h⟩:=(Zz h);obtain⟨u,v,rfl,h⟩:=(XF h);obtain⟨r,rfl,h⟩:=(ZJ h);walk_at"rk";exact h
theorem GB(T:Tx w K mg base):Qx P w K mg base CX0 4 T.XR T.XD ["pieces","spot"] (lift K So):=by
 refine okD T.XS.F Gz (λxs M Φ h=>by obtain⟨_,_,rfl,_⟩:=Zz h;rfl) λt A l s H E z=>⟨_,(Zi (Zq (ZD (sJ rfl) rfl T.jA Sx (Za (ZI false (Zn (sc:=Zf JC) (XN:=["pieces","spot"]) (N:=["piece","spot"]) (ix:=[none,some 1]) rfl rfl (by walk_at"k")) (Yc (Zb 0)) (λC r s H=>(Zm 0 (show List.Nodup (["piece","spot"]:List Str) by walk_at"k"))) (λC r s H=>Z8) (λC r s H=>(cO T.WO (ED T) z (Za (Zb 0) (Za (Zb 1) Ze)))) rfl) Ze)))),λxs M Φ h=>?_⟩;obtain⟨L,O,rfl,h⟩:=(Zz h);obtain⟨ps,rfl,h⟩:=(Ec h);obtain⟨u,v,rfl,⟨B,U⟩,h⟩:=(XF h);walk_at"rk";refine⟨by rw[aa];lia,λi g M'=>g=((ps.take i).map λp=>Bl p u v).map PyData.int/\M' =M,⟨rfl,rfl⟩,?_,?_⟩
 ·rintro i d g M' hd ⟨rfl,rfl⟩;obtain⟨b,D,rfl⟩:=Zp hd;walk_at"rk";rw[<-take_snoc _ D,al];rfl
 ·rintro g M1 ⟨rfl,rfl⟩;rw[aa,av];have G:0<ps.length:=List.length_pos_iff.mpr B;refine⟨_,.inl rfl,by rw[aa];exact G,λm I J=>?_⟩;rw[qL I J]at h;exact h
theorem x0(T:Tx w K mg base):Qx P w K mg base CX0 5 T.pX T.pB ["shape","wobble","spot"] (lift K nC):=by
 refine okD T.kB.F wS (λxs M Φ h=>by obtain⟨_,_,_,rfl,_⟩:=QA h;rfl) λt A l s H E g=>⟨_,(Zd (QJ (ZC (JK g) (cO T.Km (Bh T) g (Za (cO T.Hq (MQ T) g (Za (Zb 2) (Za (Zb 1) Ze))) (Za (Zb 0) Ze))) (QU Ze)) (Zi (Zq Zu)) ZO)
 (Zd (QJ (ZC DR (cO T.XS (GB T) g (Za (Zb 0) (Za (Zb 2) Ze))) (Zb 1)) (Zi (Zq Zu)) ZO)
 (Zi (Zq Zu)))),λxs M Φ h=>?_⟩
 obtain⟨D,G,I,rfl,h⟩:=(QA h);obtain⟨B,rfl,h⟩:=(Ec h);obtain⟨J,rfl,h⟩:=(ZJ h);obtain⟨u,v,rfl,r,h⟩:=(XF h);have C:B≠[]:=List.length_pos_iff.mp r.1;unfold Eo at h;walk_at"h";refine⟨r.2.1,vx _ ?_⟩;refine ZA (λq=>?_) λq=>?_
 ·rw[aw q]at h;exact h
 ·rw[ao q]at h;subst_vars;walk_at"rk";refine⟨⟨C,aA r.2.1 (by decide)⟩,?_⟩;refine ZA (λz=>?_) λz=>?_
  ·rw[aw z]at h;exact h
  ·rw[ao z]at h;exact h
theorem Gu(T:Tx w K mg base):Qx P w K mg base CX0 1 T.Pl T.RK ["lands","land"] (lift K Oj):=by
 refine okG T.U3.F YY (λxs M Φ h=>by obtain⟨_,_,rfl,_⟩:=Zz h;rfl) λa0 A G s H E I=>⟨_,(Zd (Zl 2 YY.nd (Qd (U6 rfl) rfl T.Bo Kj (Za (ZI false (Zn (sc:=Zf UD) (XN:=["lands","land","outers","at","many"]) (N:=["row"]) (ix:=[none]) rfl rfl (by walk_at"k")) (Yc (Zb 0)) (λC Y s H=>(Zm 0 (show List.Nodup (["row"]:List Str) by walk_at"k"))) (λC Y s H=>Z8) (λC Y s H=>(Zw (Za (Zh (Zb 0) Zc) (Za (Zh (Zb 0) Zc) Ze)))) rfl) Ze)))
 (Zd (Zl 3 YY.nd (Zb 1))
 (Zd (yP rfl T.VD (Za Zc (Za (Zr ZV (ZD xM rfl T.Yq Jr (Za (Zb 2) Ze)) Zc) Ze)) (Zm 4 YY.nd) (Zd (QJ (ZC (Ou I) (Zb 3) (Zb 2)) (Zi (Zq W7)) ZO)
 (Zd (Zl 3 YY.nd ((qd I) (Zb 2) (Zb 3)))
 (Zi (QJ (ZC (JK I) (Zb 3) Zu) (Zi (Zq (Zb 4))) ZO)))) bj rfl)
 (Zi (Zq W7))))),λxs M Φ h=>?_⟩
 obtain⟨x1,x2,rfl,h⟩:=(Zz h);obtain⟨g,rfl,h⟩:=h;obtain⟨s,rfl,⟨hl,hn⟩,h⟩:=(Qu h);walk_at"h";refine⟨by rw[aa];lia,λi l M'=>l=((prs g).take i).map DL.pairD/\M' =M,⟨rfl,rfl⟩,?_,?_⟩
 ·rintro i d l M' hd ⟨rfl,rfl⟩;obtain⟨r,er,rfl⟩:=Zp hd;unfold iy;walk_at"rk";have J:(prs g)[i]?=some (r.n,.str r.o):=by unfold prs;rw[aV,er];rfl
  rw[<-take_snoc _ J];rfl
 ·rintro l M' ⟨rfl,rfl⟩;have e1:(g.map iy).length=(prs g).length:=by unfold prs;rw[aa,aa]
  rw[e1,av];refine⟨prs g,rfl,λp L=>?_⟩;rw[TM hn];walk_at"h";walk_at"h";have dl:(g.map λr=>((Sum.inr r.n:Key),PyData.str r.o)).length=g.length:=aa ..;rw[dl]
  refine⟨⟨⟨by decide,by decide⟩,by lia,by lia⟩,λi Δ M2=>∃(t:Str)(O:Option DV),Δ=[some (.dat (.tuple (g.map iy))),some (.dat (.str s)),some (.own p),some (.dat (.str t)),O]/\M2=Zs M' p (.dkv (g.map λr=>((Sum.inr r.n:Key),PyData.str r.o)))/\lev g g.length s=(lev g (g.length-i) t).map (· +i),
   ⟨s,none,rfl,rfl,by simp⟩,?_,?_⟩
  ·rintro i Δ M2 hi ⟨t,O,rfl,rfl,B⟩;have a1:i<g.length:=by lia
   obtain⟨m,em⟩:∃ m,g.length-i=m+1:=⟨g.length-i-1,by lia⟩
   rw[em]at B;rw[BA];walk_at"h";rw[EG];cases q:iD g t with
   | none=>
    have D:BG g s=.none:=by
     unfold BG;rw[B];unfold lev;rw[q];rfl
    rw[D]at h;exact Bb L h
   | some o=>
    rw[ao (show ¬(!(Option.map PyData.str (some o)).isSome)=true by simp)];walk_at"h";rw[EG,q];refine⟨_,rfl,?_⟩;subst_vars;walk_at"rk";refine ZA (λz=>?_) λz=>?_
    ·have D:BG g s=.int (1+(i:Int)):=by
      unfold BG;rw[B];unfold lev;rw[q];dsimp only;rw[aw z];show PyData.int ((1+i:Nat):Int)=_;rw[Int.natCast_add];rfl
     rw[D]at h;exact Bb L h
    ·refine⟨o,_,rfl,?_⟩;rw[B,show g.length-(i+1)=m by lia]
     conv=>lhs;unfold lev
     rw[q];dsimp only;rw[ao z,Option.map_map]
     congr 1
     funext x
     show x+1+i=x+(i+1);lia
  ·rintro Δ M2 ⟨t,O,rfl,rfl,B⟩;have U:lev g g.length s=none:=by
    rw[B,show g.length-(↑g.length+1-1:Int).toNat=0 by lia];rfl
   subst_vars;walk_at"rk";have D:BG g s=.none:=by
    unfold BG;rw[U]
   rw[D]at h;exact Bb L h
theorem sA(T:Tx w K mg base):Qx P w K mg base CX0 6 T.RZ T.O6 ["row","held","spot"] (lift K Oh):=by
 refine okD T.SO.F Hk (λxs M Φ h=>by obtain⟨_,_,_,rfl,_⟩:=QA h;rfl) λt A r s H E g=>⟨_,(Zd (Zl 3 Hk.nd (cO T.kB (x0 T) g (Za (Zh (Zb 0) Zc) (Za (Zh (Zb 0) Zc) (Za (Zb 2) Ze)))))
 (Zi (Zq (pE (V4 (JK g) (Zb 3) Zu) (WB (E3 (V4 (JK g) (Zb 3) Zu) (WB (V4 (jl g) (Zh (Zb 0) Zc) (Zb 1))))))))),λxs M Φ h=>?_⟩
 obtain⟨D,G,I,rfl,h⟩:=(QA h);obtain⟨l,rfl,ss,rfl,h⟩:=h;obtain⟨u,v,rfl,⟨z,B,C⟩,h⟩:=(XF h);unfold ldD;walk_at"h";refine⟨z.1,?_⟩;unfold LQ at h;subst_vars;walk_at"rk";obtain⟨a,b⟩:=Rv (s:=l.n) (ss:=ss) (cF.mpr ⟨B,C⟩);rw[a,b];revert h;cases decide (Eo l.bs l.wb u v=Str.ofString "in")with
 |true=>exact λh=>h
 |false=>
  cases decide (Eo l.bs l.wb u v=Str.ofString "between")with
  |true=>exact λh=>⟨rfl,h⟩
  |false=>exact λh=>h
theorem Wy(T:Tx w K mg base):Qx P w K mg base CX0 2 T.Xb T.YZ ["lands"] (lift K Om):=by
 refine okD T.Y9.F Yi (λxs M Φ h=>by obtain⟨_,rfl,_⟩:=ZP h;rfl) λa0 A J s H E U=>⟨_,(Zd (Yr 1 false Yi.nd (Zn (sc:=Zf Qv) (XN:=["lands","ranked"]) (N:=["row","lands"]) (ix:=[none,some 0]) rfl rfl (by walk_at"k")) (Yc (Zb 0)) (λC B s H=>(Zm 0 (show List.Nodup (["row","lands"]:List Str) by walk_at"k"))) (λC B s H=>Z8) (λC B s H=>(Zw (Za (cO T.U3 (Gu T) U (Za (Zb 1) (Za (Zh (Zb 0) Zc) Ze))) (Za (Zb 0) Ze)))) rfl)
 (Zi (Zq (ZI false (Zn (sc:=Zf Qv) (XN:=["lands","ranked"]) (N:=["pair"]) (ix:=[none]) rfl rfl (by walk_at"k")) (ZU (ZD (Xm U) rfl T.Jj Vp (Za (ZI false (Zn (sc:=Zf Qv) (XN:=["lands","ranked"]) (N:=["pair"]) (ix:=[none]) rfl rfl (by walk_at"k")) (ZU (Zb 1)) (λC B s H=>(Zm 0 (show List.Nodup (["pair"]:List Str) by walk_at"k"))) (λC B s H=>(Qo (ZC u5 (Zh (Zb 0) Zc) W7))) (λC B s H=>(Zb 0)) rfl) Ze))) (λC B s H=>(Zm 0 (show List.Nodup (["pair"]:List Str) by walk_at"k"))) (λC B s H=>Z8) (λC B s H=>(Zh (Zb 0) Zc)) rfl)))),λxs M Φ h=>?_⟩
 obtain⟨x1,rfl,h⟩:=(ZP h);obtain⟨r,rfl,⟨Y,L⟩,h⟩:=h;have len:=aa (as:=r) ldD;have l8:=Y.1;walk_at"h";refine⟨by lia,λi g M'=>g=(r.take i).map (λl=>.tuple [BG (r.map ldR) l.n,ldD l])/\M' =M,⟨rfl,rfl⟩,?_,?_⟩
 ·rintro i d g M' hd ⟨rfl,rfl⟩;obtain⟨l,D,rfl⟩:=Zp hd;unfold ldD;walk_at"rk";refine⟨r.map ldR,by rw[aC];rfl,?_⟩;walk_at"rk";refine⟨⟨by rw[aa];lia,Y.ng⟩,?_⟩;rw[<-take_snoc _ D]
 ·rintro g M' ⟨rfl,rfl⟩;rw[len,av];have G:=aa (as:=r) (λl=>PyData.tuple [BG (r.map ldR) l.n,ldD l]);subst_vars;walk_at"rk";refine⟨by lia,λi g M2=>g=((r.take i).filter (Pk r)).map (pr1 r)/\M2=M',⟨rfl,rfl⟩,?_,?_⟩
  ·rintro i d g M2 hd ⟨rfl,rfl⟩;obtain⟨l,D,rfl⟩:=Zp hd;have e:r.take (i+1)=r.take i++[l]:=by rw[fQ,D];rfl
   rcases BL r l with⟨z,O⟩|⟨z,O⟩
   ·rw[O];walk_at"rk";rw[e,bv,bb z,dh,al];rfl
   ·rw[O];walk_at"rk";rw[e,bv,ba (by rw[z];exact ae),dh,aU]
  ·rintro g M2 ⟨rfl,rfl⟩;rw[G,av];have fl:=aX (Pk r) r;walk_at"rk";refine⟨yz (by lia) λl hl=>L l (ah.mp hl).1,λa1 hp hs=>?_⟩
   ·obtain⟨t,rfl,p1⟩:=EO hp _ rfl;have hO:CC r t:=⟨p1,hs⟩
    have I:=aa (as:=t) (pr1 r);have:=hO.len;refine⟨by lia,λi g M3=>g=(t.take i).map ldD/\M3=M2,⟨rfl,rfl⟩,?_,?_⟩
    ·rintro i d g M2 hd ⟨rfl,rfl⟩;obtain⟨l,D,rfl⟩:=Zp hd;unfold pr1;walk_at"rk";rw[<-take_snoc _ D]
    ·rintro g M3 ⟨rfl,rfl⟩;rw[I,av];exact h t hO
theorem PD(T:Tx w K mg base):Qx P w K mg base CX0 7 T.F6 T.HM ["lands","held","spot"] (lift K E6):=by
 refine okG T.Hm.F Wd (λxs M Φ h=>by obtain⟨_,_,_,rfl,_⟩:=QA h;rfl) λa1 A G s H E r=>⟨_,(Zd (Zl 3 Wd.nd (Qi Ze))
 (Zd (Jc (cO T.Y9 (Wy T) r (Za (Zb 0) Ze)) (Zm 4 Wd.nd) (Zi (QJ (DW.dt (E4 (DW.dt (jr (ZC (JK r) (Zh (Zb 4) Zc) Zu) (N4 (ZC (uu r) (Zh (Zb 4) Zc) (Zb 3))))) (Ut (Cr (cO T.SO (sA T) r (Za (Zb 4) (Za (Zb 1) (Za (Zb 2) Ze)))))))) (Zi (Qh (QB (Zb 3) (Zh (Zb 4) Zc)))) ZO)) bj rfl)
 (Zi (Zq (ZD (Xm r) rfl T.Jj Vp (Za (Zb 3) Ze)))))),λxs M Φ h=>?_⟩
 obtain⟨x1,x2,x3,rfl,h⟩:=(QA h);obtain⟨ls,rfl,ss,rfl,h⟩:=h;obtain⟨u,v,rfl,⟨I,J,L,h2⟩,h⟩:=(XF h);have l8:=I.1;walk_at"h";intro p hp;walk_at"h";refine⟨ls,rfl,⟨I,L⟩,λg B=>?_⟩;have len:=aa (as:=g) ldD;have l9:=B.len;walk_at"rk";refine⟨λi Δ M'=>∃ O,Δ=[some (.dat (.tuple (ls.map ldD))),some (.dat (.list (ss.map PyData.str))),some (.dat (.tuple [.int u,.int v])),some (.own p),O]/\M' =Zs M p (.lst ((JN ss u v (g.take i)).map PyData.str)),⟨none,rfl,rfl⟩,?_,?_⟩
 ·rintro i d Δ M' hd ⟨O,rfl,rfl⟩;obtain⟨l,U,rfl⟩:=Zp hd;have ml:=B.mem (az U);have C:=J l ml;have D:=Rv (s:=l.o) (ss:=JN ss u v (g.take i)) λt Y=>by
   rcases aW.mp Y with rfl|Y
   ·exact C.2
   ·exact Kr (P:=QF) (λl hl=>(J l (B.mem (bM hl))).1) t Y
  have ln:(JN ss u v (g.take i)).length<=24:=by
   have:=Kt ss u v (g.take i);rw[bp]at this;lia
  have a0:LQ ss u v l=true->(decide (l.o=Str.ofString "")||decide (l.o∈JN ss u v (g.take i)))=true->(JN ss u v (g.take i)).map PyData.str++[.str l.n]=(JN ss u v (g.take (i+1))).map PyData.str:=λa b=>by
   rw[WD ss u v U];unfold Xk;rw[a,b,gh,aw rfl,al];rfl
  have fin2:((decide (l.o=Str.ofString "")||decide (l.o∈JN ss u v (g.take i)))&&LQ ss u v l)=false->JN ss u v (g.take i)=JN ss u v (g.take (i+1)):=λa=>by
   rw[WD ss u v U];unfold Xk;rw[a,ao ae]
  rw[BA,kg l];walk_at"rk";rw[D.2];refine xa D.1 (λz=>⟨l,rfl,ss,rfl,⟨I.2.1 l ml,C.1,h2⟩,?_⟩) λz=>⟨_,rfl,by rw[fin2 (by rw[z];rfl)]⟩;refine t4 (λy=>⟨by rw[aa];lia,_,rfl,by rw[a0 y z]⟩) λy=>⟨_,rfl,by rw[fin2 (by rw[y,bW])]⟩
 ·rintro Δ M' ⟨O,rfl,rfl⟩;rw[len,av];subst_vars;walk_at"rk";have fl:=Kt ss u v g;refine⟨RS (by lia) (Kr (P:=QF) λl hl=>(J l (B.mem hl)).1),λa2 pm pw=>?_⟩;obtain⟨ns,rfl,p1⟩:=EO pm _ rfl;exact Bb hp (h g ns B p1 pw)
theorem Eu(T:Tx w K mg base):Qx P w K mg base CX0 1 T.W6 T.Uk ["telling"] (lift K RI):=by
 refine okD T.Uc.F D9 (λxs M Φ h=>by obtain⟨_,rfl,_⟩:=ZP h;rfl) λl A g s H E z=>⟨_,(Zi (Zq (VE (Za (Zh (Zb 0) Zc) (Za (vR rfl T.wo T.tR (Zh (Zb 0) Zc)) (Za (Zh (Zb 0) Zc) Ze)))))),λxs M Φ h=>?_⟩;obtain⟨B,rfl,h⟩:=(ZP h);obtain⟨t,rfl,r,h⟩:=h;rw[Z6];walk_at"rk";exact⟨_,yv (GW r),rfl,h⟩
theorem Eg(T:Tx w K mg base):Qx P w K mg base CX0 2 T.Ug T.WZ ["tellings"] (lift K GP):=by
 refine okG T.WK.F Ys (λxs M Φ h=>by obtain⟨_,rfl,_⟩:=ZP h;rfl) λa2 A U s H E G=>⟨_,(Zd (Zl 1 Ys.nd S6)
 (Zd (Jc (ZD (Xm G) rfl T.Jj Vp (Za (Zb 0) Ze)) (Zm 2 Ys.nd) (Zi (Qh (Rk G (Zb 1) (cO T.Uc (Eu T) G (Za (Zb 2) Ze)) (Zb 2)))) bj rfl)
 (Zi (Zq (ZI true (Zn (sc:=Zf VW) (XN:=["tellings","counting","telling"]) (N:=["place","counting"]) (ix:=[none,some 1]) rfl rfl (by walk_at"k")) (ZU (ZD (Lv G) rfl T.Jj Vp (Za (Zb 1) Ze))) (λC r s H=>(Zm 0 (show List.Nodup (["place","counting"]:List Str) by walk_at"k"))) (λC r s H=>Z8) (λC r s H=>((Ea G) (Zb 1) (Zb 0))) rfl))))),λxs M Φ h=>?_⟩
 obtain⟨x1,rfl,h⟩:=(ZP h);obtain⟨Y,rfl,hl,L,h⟩:=h;walk_at"h";intro c hc;walk_at"h";refine⟨sd hl L,λa0 pm up=>?_⟩;obtain⟨S,rfl,O⟩:=JT pm;have mS:∀{i:Nat}{x:Tl},S[i]?=some x->x∈Y:=λe=>O.mem_iff.mp (az e);have lS:S.length=Y.length:=O.length_eq;have lo:∀{i:Nat}{x:Tl},S[i]?=some x->∀ z∈S.take i,ltD (tlD x) (tlD z)=false:=λ{i x} e z B=>by
  rw[bd]at up;obtain⟨j,hj,rfl⟩:=bJ B;rw[bp]at hj;obtain⟨hi,rfl⟩:=aE.mp e;rw[List.getElem_take];exact ce.mp up j i (by lia) hi (by lia)
 refine⟨λi Δ M'=>∃ k2 ps,Δ=[some (.dat (.list (Y.map tlD))),some (.own c),k2]/\M' =Zs M c (.dtv ps)/\ps.length<=i/\Tbl (S.take i) ps,⟨_,[],rfl,rfl,ak _,Tbl.nil⟩,?_,?_⟩
 ·rintro i d Δ M' hd ⟨k2,ps,rfl,rfl,B,D⟩;obtain⟨x,r,rfl⟩:=Zp hd;have hi:=(aE.mp r).1;have e:S.take (i+1)=S.take i++[x]:=by rw[cJ,r];rfl
  rw[BA];walk_at"rk";refine⟨x,rfl,(L x (mS r)).1,plT x,rfl,by lia,λd' a1=>⟨_,ps,rfl,rfl,by lia,?_⟩,λhn=>⟨_,_,rfl,rfl,by rw[aB];exact dJ B,?_⟩⟩
  ·rw[e];exact D.old (rB a1) (lo r)
  ·rw[e];exact D.new (qX hn) (lo r)
 ·rintro Δ M' ⟨k2,ps,rfl,rfl,B,D⟩;rw[aa,av]at D;subst_vars;walk_at"rk";have kx:∀ k∈ps.map (λp=>p.1),∃x,TlS x/\plT x=k/\dvT ps k=some (tlD x):=λk hk=>by
   obtain⟨x,l,e,g,_⟩:=D.get k hk;exact⟨x,L x (O.mem_iff.mp l),e,g⟩
  refine⟨P6 (by rw[aa]at B⊢;lia) kx,λa0 pk uk=>⟨?_,?_⟩⟩
  ·rw[pk.length_eq,aa,aa];rw[aa]at B;lia
  obtain⟨ks,rfl,pK⟩:=JT pk;refine⟨λi t M'=>M' =Zs M c (.dtv ps)/\∃R:List Tl,t=R.map tlD/\R.map plT=ks.take i/\∀x∈R,dvT ps (plT x)=some (tlD x)/\TlK x,⟨rfl,[],rfl,rfl,λ_ h=>(nomatch h)⟩,?_,?_⟩
  ·rintro i d t M' hd ⟨rfl,R,rfl,e,g⟩;obtain⟨k,ek,rfl⟩:=Zp hd;obtain⟨x,l,rfl,gx⟩:=kx k (pK.mem_iff.mp (az ek));rw[Zk,Fd];refine⟨plT x,tlD x,rfl,gx,rfl,R++[x],by rw[al];rfl,by rw[al,e,cJ,ek];rfl,λy I=>?_⟩
   rcases ax.mp I with I|I
   ·exact g y I
   ·rw[au.mp I];exact⟨gx,l.1⟩
  ·rintro t M' ⟨rfl,R,rfl,e,g⟩ p hp;rw[aa,av]at e;have ne:=fresh_ne hp;refine⟨[c],?_⟩;show Φ (.own p) (Q4 (Zs (Zs M c _) p _) c);rw[show Q4 (Zs (Zs M c (.dtv ps)) p (.lst (R.map tlD))) c=Zs M p (.lst (R.map tlD))from ?_]
   ·exact h R p (sH D O pK uk e (λx l=>(g x l).1) (λx l=>(L x l).1) λx l=>(g x l).2) (by rw[Zj ne]at hp;exact hp)
   ·funext a
    unfold Q4 Zs
    by_cases J:a=c
    ·rw[aw J,ao (by rw[J];exact be ne),J,hc]
    ·rw[ao J,ao J]
theorem tN(T:Tx w K mg base):Qx P w K mg base CX0 1 T.lO T.pY ["_law_script","_law_k"] (lift K pA):=by
 refine okD T.jZ.F Fm (λxs M Φ h=>by obtain⟨_,_,rfl,_⟩:=Zz h;rfl) λC A l s H E G=>⟨_,(Zd (Zl 2 Fm.nd (Zr ZV (Zr JR Zc (Zb 1)) Zc))
 (Zd (QJ (ZC jT (Zb 1) (ZD JD rfl T.Yq Jr (Za (Zb 0) Ze))) (Zi (Zl 2 Fm.nd (Zh (Zb 0) (Zb 1)))) (Zi (QJ (ZC DR (ZD JD rfl T.Yq Jr (Za (Zb 0) Ze)) Zc) (Zi (Zl 2 Fm.nd (Zr ZV (Zr YU (Zh (Zb 0) (Zr YU (Zb 1) (ZD JD rfl T.Yq Jr (Za (Zb 0) Ze)))) (Zr Wk Zc Zc)) (Zr JR Zc (Zb 1))))) ZO)))
 (Zd (QJ (ZC mH (ZD nR rfl T.mT oX (Za (Zb 2) Ze)) (Zr Wk Zc Zc)) (Zi (Zq (Qi (Za (ZD nR rfl T.mT oX (Za (Zb 2) Ze)) (Za Zc (Za Zc Ze)))))) ZO)
 (Zi (Zq (Qi (Za (Zr YU (Zb 2) Zc) (Za (Zr ZV (Zr JR Zc (Zb 1)) Zc) (Za Zc Ze))))))))),λxs M Φ h=>?_⟩
 obtain⟨I,J,rfl,h⟩:=(Zz h);obtain⟨ns,rfl,h⟩:=(qG h);obtain⟨k,rfl,D,h⟩:=(ZJ h);walk_at"h";refine⟨.inl (by decide),?_⟩;walk_at"h";rw[aa];refine ZA (λz=>?_) λz=>ZA (λr=>?_) λr=>?_
 ·obtain⟨c,t⟩:=N5 (ns:=ns) D z;refine J7 t ?_;walk_at"h";refine⟨cj _ (by decide),ZA (λ_ p g=>h p _ g ⟨_,_,_,rfl⟩) λ_=>?_⟩;subst_vars;walk_at"rk";exact⟨.inl (by decide),λp g=>h p _ g ⟨_,_,_,rfl⟩⟩
 ·have B:=SG k r;obtain⟨c,t⟩:=N5 (ns:=ns) B.1 B.2;refine⟨r,J7 t ⟨cj _ (by decide),?_⟩⟩;walk_at"rk";refine⟨.inl (by decide),?_⟩;walk_at"h";refine⟨cj _ (by decide),ZA (λ_ p g=>h p _ g ⟨_,_,_,rfl⟩) λ_=>?_⟩;subst_vars;walk_at"rk";exact⟨.inl (by decide),λp g=>h p _ g ⟨_,_,_,rfl⟩⟩
 ·walk_at"h";refine⟨cj _ (by decide),ZA (λ_ p g=>h p _ g ⟨_,_,_,rfl⟩) λ_=>?_⟩;subst_vars;walk_at"rk";exact⟨.inl (by decide),λp g=>h p _ g ⟨_,_,_,rfl⟩⟩
theorem Zy(T:Tx w K mg base):Qx P w K mg base CX0 1 T.nN T.oE ["_law_pen_here","_law_many"] (lift K mL):=by
 refine okD T.ZK.F UJ (λxs M Φ h=>by obtain⟨_,_,rfl,_⟩:=Zz h;rfl) λz A t s H E B=>⟨_,(Zd (QJ (ZC (JK B) (Zh (Zb 0) Zc) Zc) (Zd (Zl 3 UJ.nd (Zr YU (Zh (Zb 0) Zc) (Zb 1)))
 (Zd (WG (Zr ue (Zh (Zb 0) Zc) (Zb 1)) (BR (Zb 0) Zc))
 (Zi (Zq (Zb 3))))) ZO)
 (Zd (WG (Zr ZV (Zh (Zb 0) Zc) Zc) (BR (Zb 0) Zc))
 (Zd (Zl 2 UJ.nd (Zr YU (Zr JR (Zr ZV (Zr ZV (Zh (Zb 0) Zc) (Zr JR Zc (Zh (Zb 0) Zc))) Zc) Zc) Zc))
 (Zd (Zl 2 UJ.nd (Zr YU (Zr JR (Zb 2) (Zr ZV (Zr ZV (Zr YU (Zb 2) Zc) Zc) (Zh (Zb 0) Zc))) Zc))
 (Zd (WG (Zb 2) (BR (Zb 0) Zc))
 (Zi (Zq (Zr YU (Zr RT (Zb 2) Zc) (Zb 1))))))))),λxs M Φ h=>?_⟩
 obtain⟨G,I,rfl,h⟩:=(Zz h);obtain⟨p,rfl,h⟩:=(ZM h);obtain⟨m,rfl,⟨g,J⟩,r,h⟩:=(ZJ h);obtain⟨a,b,c,r⟩:=r.get;have C:m.natAbs.log2<9000:=aP (FU (k:=70) (by lia) (by decide)) (by decide);have l:∀(x a b c:Int),Φ (.dat (.int (x %m))) (Zs M p (.lst [.int a,.int b,.int c])):=λx a b c=>h _ _ (SG x g).1 (SG x g).2 (Fr.Zs ⟨a,b,c,rfl⟩);walk_at"h";simp only[r];walk_at"rk";refine ZA (λD=>⟨g,⟨g,C⟩,l _ _ _ _⟩) λD=>?_;walk_at"h";simp only[r];walk_at"rk";walk_at"h";refine⟨.inl (by decide),.inr (by decide),?_⟩;walk_at"h";refine⟨.inl (by lia),?_⟩;walk_at"h";subst_vars;walk_at"rk";exact⟨⟨by decide,by decide⟩,g,l _ _ _ _⟩
theorem HR(T:Tx w K mg base):Qx P w K mg base CX0 2 T.PN T.O9 ["_law_pen_here","_law_many"] (lift K OY):=by
 refine okD T.Ey.F JB (λxs M Φ h=>by obtain⟨_,_,rfl,_⟩:=Zz h;rfl) λa2 A a0 s H E L=>⟨_,(Zd (Zl 2 JB.nd Zu)
 (Zd (Zl 3 JB.nd (ZI false (Zn (sc:=Zf Yo) (XN:=["_law_pen_here","_law_many","_law_letters","_law_base","_law_long","_law_at","_law_found","_law_k","_law_signs"]) (N:=["_law_k","_law_pen_here"]) (ix:=[none,some 0]) rfl rfl (by walk_at"k")) (KU rfl T.VD (Za Zc Ze)) (λC l s H=>(Zm 0 (show List.Nodup (["_law_k","_law_pen_here"]:List Str) by walk_at"k"))) (λC l s H=>Z8) (λC l s H=>(cO T.ZK (Zy T) L (Za (Zb 1) (Za Zc Ze)))) rfl))
 (Zd (QJ (ZC (JK L) (cO T.ZK (Zy T) L (Za (Zb 0) (Za Zc Ze))) Zc) (Zi (Zq (ZI false (Zn (sc:=Zf Yo) (XN:=["_law_pen_here","_law_many","_law_letters","_law_base","_law_long","_law_at","_law_found","_law_k","_law_signs"]) (N:=["_law_k","_law_letters","_law_base"]) (ix:=[none,some 2,some 3]) rfl rfl (by walk_at"k")) (KU rfl T.VD (Za (Zb 1) Ze)) (λC l s H=>(Zm 0 (show List.Nodup (["_law_k","_law_letters","_law_base"]:List Str) by walk_at"k"))) (λC l s H=>Z8) (λC l s H=>(Nu Zu (ZI false (Nt (sc:=Zf Yo) (N:=["_law_sign","_law_letters"]) (ix:=[none,some 1]) rfl (by walk_at"k")) (ZU (Ki (Zb 2) Jo (Jn (Zr Qy Zc (Zb 0))))) (λC l s H=>(Zm 0 (show List.Nodup (["_law_sign","_law_letters"]:List Str) by walk_at"k"))) (λC l s H=>Z8) (λC l s H=>(PC (Zb 1) (Zb 0))) rfl))) rfl))) ZO)
 (Zd (Zl 4 JB.nd (Zr ZV Zc (cO T.ZK (Zy T) L (Za (Zb 0) (Za Zc Ze)))))
 (Zd (Zl 5 JB.nd (cO T.ZK (Zy T) L (Za (Zb 0) (Za (Zb 4) Ze))))
 (Zd (Zl 6 JB.nd (Qi Ze))
 (Zd (X6 rfl T.VD (Za (Zb 1) Ze) (Zm 7 JB.nd) (Zd (Yr 8 true JB.nd (Zn (sc:=Zf Yo) (XN:=["_law_pen_here","_law_many","_law_letters","_law_base","_law_long","_law_at","_law_found","_law_k","_law_signs"]) (N:=["_law_sign","_law_letters"]) (ix:=[none,some 2]) rfl rfl (by walk_at"k")) (ZU (Ki (Zb 3) Jo (Jn (Zb 4)))) (λC l s H=>(Zm 0 (show List.Nodup (["_law_sign","_law_letters"]:List Str) by walk_at"k"))) (λC l s H=>Z8) (λC l s H=>(PC (Zb 1) (Zb 0))) rfl)
 (Zd (WG (PC (Zb 2) (Zr YU (Zr ZV (Zh (Zb 3) (Zb 5)) (Zr JR Zc (Zb 7))) Zc)) (BR (Zb 8) (Zb 5)))
 (Zi (Qh (QB (Zb 6) (Nu Zu (Q9 (Zb 8)))))))) bj rfl)
 (Zi (Zq (Q9 (Zb 6))))))))))),λxs M Φ h=>?_⟩
 obtain⟨x1,x2,rfl,h⟩:=(Zz h);obtain⟨p,rfl,h⟩:=(ZM h);obtain⟨m,rfl,⟨a3,a4⟩,hp,h⟩:=(ZJ h);obtain⟨n,rfl⟩:=cW (show 0<=m by lia);walk_at"h";walk_at"h";refine⟨⟨by decide,by decide⟩,by rw[VR];decide,λi g M'=>∃ bs:List Int,g=bs.map PyData.int/\bs.length=i/\(∀b∈bs,0<=b/\b<26)/\Fr p M M',⟨[],rfl,rfl,λs O=>(nomatch O),Fr.refl hp⟩,?_,?_⟩
 ·rintro i d g M' hd ⟨bs,rfl,hl,G,I⟩;refine⟨I.1,λr M2 h0 h1 U=>⟨bs++[r],by rw[al];rfl,by rw[aB,hl];rfl,λb t=>?_,I.trans U⟩⟩
  rcases ax.mp t with t|t
  ·exact G b t
  ·rw[au.mp t];exact⟨h0,h1⟩
 ·rintro g M1 ⟨bs,rfl,h8,G,I⟩;rw[VR]at h8;walk_at"h";refine⟨I.1,λr M2 r0 r1 U=>ZA (λz=>?_) λz=>?_⟩
  ·rw[gM];refine⟨⟨by lia,by lia⟩,by rw[VR];lia,λi g M'=>g=(List.range i).map (λk=>PyData.str (nmS (bs.take (8-k))))/\M' =M2,⟨rfl,rfl⟩,?_,?_⟩
   ·rintro i d g M' hd ⟨rfl,rfl⟩;have hi:i<n:=by have:=(aE.mp hd).1;rw[VR]at this;exact this
    rw[F9 hi]at hd;cases hd;walk_at"rk";rw[E1 (by lia) (by lia),show(8-(i:Int)).toNat=8-i by lia];refine⟨by rw[aa,bp];lia,λj g M2=>g=((bs.take (8-i)).take j |>.map cy).map PyData.str/\M2=M',⟨rfl,rfl⟩,?_,?_⟩
    ·rintro j d g M' hd ⟨rfl,rfl⟩;obtain⟨b,Y,rfl⟩:=Zp hd;have t:=G b (bM (az Y));walk_at"rk";refine⟨by rw[EC];decide,_,Oy t.1 t.2,?_⟩;rw[aC,aC,<-take_snoc _ Y]
     first|exact⟨rfl,rfl⟩|rfl
    ·rintro g M' ⟨rfl,rfl⟩;rw[aa,av];refine⟨_,rfl,mR (by rw[bp];lia),?_⟩;exact⟨kc (λk=>PyData.str (nmS (bs.take (8-k)))) i,rfl⟩
   ·rintro g M' ⟨rfl,rfl⟩;rw[VR];have e0:(List.range n).map (λk=>PyData.str (nmS (bs.take (8-k))))=((List.range n).map λk=>nmS (bs.take (8-k))).map PyData.str:=by rw[aC];rfl
    rw[e0];refine h _ _ (by rw[aa,dq]) (λs O=>?_) (I.trans U)
    ·obtain⟨k,hk,rfl⟩:=af.mp O;have hk:=fM.mp hk;exact SM (by rw[bp];lia) λb t=>G b (bM t)
  ·walk_at"h";refine⟨U.1,λB M3 l0 l1 f3=>?_⟩;walk_at"h";refine⟨⟨by lia,by lia⟩,f3.1,λa5 M4 t0 t1 f4=>?_⟩;walk_at"h";intro q hq;walk_at"h";obtain⟨a,rfl⟩:=cW t0;obtain⟨b,Y⟩:∃ b,bs[a]?=some b:=⟨_,aM (by lia)⟩
   have hL:(1+B).toNat<=8:=by lia
   have a6:a<(1+B).toNat:=by lia
   refine⟨⟨by lia,by lia⟩,λi Δ M'=>∃ k7 k8:Option DV,Δ=[some (.own p),some (.dat (.int (n:Int))),some (.dat (.str (Str.ofString "abcdefghijklmnopqrstuvwxyz"))),some (.dat (.list (bs.map PyData.int))),some (.dat (.int (1+B))),some (.dat (.int (a:Int))),some (.own q),k7,k8]/\
    M' =Zs M4 q (.lst ((List.range i).map λ(k:Nat)=>PyData.str (nmS ((bs.take (1+B).toNat).set a ((b+9*(k:Int)) %26))))),⟨none,none,rfl,rfl⟩,?_,?_⟩
   ·rintro i Δ M' hi ⟨k7,k8,rfl,rfl⟩;rw[BA];walk_at"h";rw[E1 (by lia) (by lia)];refine⟨by rw[aa,bp];lia,λj g M2=>g=((bs.take (1+B).toNat).take j |>.map cy).map PyData.str/\M2=_,⟨rfl,rfl⟩,?_,?_⟩
    ·rintro j d g M' hd ⟨rfl,rfl⟩;obtain⟨c,ec,rfl⟩:=Zp hd;have J:=G c (bM (az ec));walk_at"rk";refine⟨by rw[EC];decide,_,Oy J.1 J.2,?_⟩;rw[aC,aC,<-take_snoc _ ec]
     first|exact⟨rfl,rfl⟩|rfl
    ·rintro g M' ⟨rfl,rfl⟩;rw[aa,av];intro q2 D;have a1:q2≠q:=λe=>by rw[e,Zk]at D;cases D
     walk_at"h";refine J7 (d:=.int b) (J5 (by rw[aV,Y];rfl)) ⟨.inl (by decide),?_⟩;have hm:=SG (b+9*(i:Int)) (show(0:Int)<26 by decide);refine⟨by rw[EC];decide,_,Oy hm.1 hm.2,a,by unfold ixN;rw[aa,aa,bp,aw (by lia),aw (by lia)];rfl,?_⟩;have e2:=rW (bs:=bs.take (1+B).toNat) a ((b+9*(i:Int)) %26);rw[e2];subst_vars;walk_at"rk";simp only[Zj (Ne.symm a1),Zk];walk_at"rk";refine⟨_,rfl,mR (bs:=(bs.take (1+B).toNat).set a ((b+9*(i:Int)) %26)) (by rw[d_,bp];lia),?_⟩;rw[YL D];walk_at"rk";refine⟨by rw[aa,dq];lia,_,_,rfl,?_⟩;rw[<-kc];rfl
   ·rintro Δ M' ⟨k7,k8,rfl,rfl⟩;subst_vars;walk_at"rk";rw[YL hq];have e0:((List.range n).map λ(k:Nat)=>PyData.str (nmS ((bs.take (1+B).toNat).set a ((b+9*(k:Int)) %26))))=((List.range n).map λ(k:Nat)=>nmS ((bs.take (1+B).toNat).set a ((b+9*(k:Int)) %26))).map PyData.str:=by rw[aC];rfl
    rw[gM,e0];refine h _ _ (by rw[aa,dq]) (λs O=>?_) (((I.trans U).trans f3).trans f4)
    ·obtain⟨k,hk,rfl⟩:=af.mp O;refine SM (by rw[d_,bp];lia) λc J=>?_
     rcases List.mem_or_eq_of_mem_set J with J|rfl
     ·exact G c (bM J)
     ·exact SG _ (by decide)
theorem uf(T:Tx w K mg base):Qx P w K mg base CX0 2 T.MI T.NJ ["_law_pen_here"] (lift K EM):=by
 refine okD T.Og.F HF (λxs M Φ h=>by obtain⟨_,rfl,_⟩:=ZP h;rfl) λB A g s H E r=>⟨_,(Zd (Zl 1 HF.nd (QU (Za Zc (Za Zc (Za (Zr Wk Zc Zc) (Za (Zr Qy Zc (Zr Wk Zc Zc)) Ze))))))
 (Zi (Zq (Zw (Za (Zh (QU (Za Zc (Za Zc (Za (Zr Wk Zc Zc) (Za Zc (Za Zc Ze)))))) (cO T.ZK (Zy T) r (Za (Zb 0) (Za Zc Ze)))) (Za (Zh (Zb 1) (cO T.ZK (Zy T) r (Za (Zb 0) (Za Zc Ze)))) (Za (Zh (Zb 1) (cO T.ZK (Zy T) r (Za (Zb 0) (Za Zc Ze)))) Ze))))))),λxs M Φ h=>?_⟩
 obtain⟨x1,rfl,h⟩:=(ZP h);obtain⟨p,rfl,C,h⟩:=(ZM h);walk_at"h";refine⟨cj _ (by decide),cj _ (by decide),?_⟩;subst_vars;walk_at"rk";refine⟨cj _ (by decide),C,λr1 M1 D b1 t=>tab (l:=[1,1,1000000000,1,6]) (λf=>1<=f/\f<=1000000000) D (by simp only[List.length_cons,List.length_nil];omega) (by decide) λf G=>⟨t.1,λr2 M2 I b2 z=>tab (l:=[0,0,100000000000,-100000000000]) (λo=>-100000000000<=o/\o<=100000000000) I (by simp only[List.length_cons,List.length_nil];omega) (by decide) λJ L=>⟨z.1,λr3 O U b3 Y=>tab (l:=[0,0,100000000000,-100000000000]) (λo=>-100000000000<=o/\o<=100000000000) U (by simp only[List.length_cons,List.length_nil];omega) (by decide) λoy hy=>h f J oy O ⟨G,L,hy⟩ ((t.trans z).trans Y)⟩⟩⟩
theorem wk(T:Tx w K mg base):Qx P w K mg base CX0 2 T.R8 T.Nl ["_law_pen_here"] (lift K Hc):=by
 refine okD T.MA.F QM (λxs M Φ h=>by obtain⟨_,rfl,_⟩:=ZP h;rfl) λa9 A a0 s H E B=>⟨_,(Zd (Zl 1 QM.nd (Qi Ze))
 (Zd (X6 rfl T.VD (Za (Zh (QU (Za Zc (Za Zc (Za Zc (Za Zc (Za Zc (Za Zc (Za Zc (Za Zc Ze))))))))) (cO T.ZK (Zy T) B (Za (Zb 0) (Za Zc Ze)))) Ze) (Zm 2 QM.nd) (Zd (Zl 3 QM.nd (Zh (QU (Za Zc (Za Zc (Za Zc (Za Zc (Za Zc (Za Zc (Za Zc (Za Zc Ze))))))))) (cO T.ZK (Zy T) B (Za (Zb 0) (Za Zc Ze)))))
 (Zd (Zl 4 QM.nd (Zh (QU (Za Zc (Za Zc (Za Zc (Za Zc (Za Zc (Za Zc (Za Zc (Za Zc Ze))))))))) (cO T.ZK (Zy T) B (Za (Zb 0) (Za Zc Ze)))))
 (Zd (Zl 5 QM.nd (cO T.ZK (Zy T) B (Za (Zb 0) (Za Zc Ze))))
 (Zd (Zl 6 QM.nd (cO T.ZK (Zy T) B (Za (Zb 0) (Za Zc Ze))))
 (Zd (QJ (ZC DR (Zb 2) Zc) (Zd (WG (Zh (Zb 1) (Zr Qy (Zb 2) Zc)) (Rq (n:=2) rfl (VY (Zm 7 QM.nd) (VY (Zm 8 QM.nd) CT))))
 (Zd (Zl 5 QM.nd (Zr ZV (Zr Qy (Zr Qy (Zh (Zb 7) Zc) (Zb 3)) Zc) (cO T.ZK (Zy T) B (Za (Zb 0) (Za (Zr ZV (Zr ZV (Zr Qy (Zh (Zb 8) Zc) (Zh (Zb 7) Zc)) (Zb 3)) Zc) Ze)))))
 (Zi (Zl 6 QM.nd (Zr ZV (Zr Qy (Zr Qy (Zh (Zb 7) Zc) (Zb 4)) Zc) (cO T.ZK (Zy T) B (Za (Zb 0) (Za (Zr ZV (Zr ZV (Zr Qy (Zh (Zb 8) Zc) (Zh (Zb 7) Zc)) (Zb 4)) Zc) Ze)))))))) ZO)
 (Zi (Qh (QB (Zb 1) (Zw (Za (Zw (Za (Zb 5) (Za (Zb 6) Ze))) (Za (Zw (Za (Zr ZV (Zb 5) (Zb 3)) (Za (Zr ZV (Zb 6) (Zb 4)) Ze))) Ze))))))))))) bj rfl)
 (Zi (Zq (Q9 (Zb 1)))))),λxs M Φ h=>?_⟩
 obtain⟨x1,rfl,h⟩:=(ZP h);obtain⟨p,rfl,hp,h⟩:=(ZM h);walk_at"h";intro q Y;have g:q≠p:=be (hp.ne Y);walk_at"h";refine⟨hp.put (be g),λr M1 a1 b1 f1=>tab (l:=[1,2,1,3,2,6,1,2]) (λm=>1<=m/\m<=6) a1 (by simp only[List.length_cons,List.length_nil];omega) (by decide) λm hm=>?_⟩;walk_at"rk"
 refine⟨⟨by omega,by omega⟩,λi Δ M'=>∃(cs:List B4)(k2 k3 k4 k5 k6 I J:Option DV),Δ=[some (.own p),some (.own q),k2,k3,k4,k5,k6,I,J]/\cs.length=i/\(∀c∈cs,Bx i c)/\M' q=some (.lst (cs.map bD))/\Fr p M M',
  ⟨[],_,_,_,_,_,_,_,rfl,rfl,λc C=>(nomatch C),f1.own Zk g,((Fr.refl hp).put Y g).trans f1⟩,?_,?_⟩
 ·rintro i Δ M' hi ⟨cs,k2,k3,k4,k5,k6,I,J,rfl,hl,t,D,hF⟩;rw[BA];walk_at"h";refine⟨hF.1,λr2 M2 a2 b2 f2=>tab (l:=[4,2,0,6,1,8,3,11]) (λm=>0<=m/\m<=11) a2 (by simp only[List.length_cons,List.length_nil];omega) (by decide) λL b0=>?_⟩;walk_at"h";refine⟨f2.1,λr3 M3 a3 b3 f3=>tab (l:=[4,2,6,0,8,1,11,3]) (λm=>0<=m/\m<=11) a3 (by simp only[List.length_cons,List.length_nil];omega) (by decide) λO b8=>?_⟩;walk_at"h";refine⟨f3.1,λx4 M4 a4 b4 f4=>?_⟩;walk_at"h";refine⟨f4.1,λy5 M5 a5 b5 f5=>?_⟩;have F5:=(((hF.trans f2).trans f3).trans f4).trans f5;have q5:M5 q=some (.lst (cs.map bD)):=f5.own (f4.own (f3.own (f2.own D g) g) g) g;have q0:M q=none:=Y;have U:∀(x y:Int)(M6:Mp)(I J:Option DV),(-(12*((cs.length:Int)+1))<=x/\x+L<=22+12*((cs.length:Int)+1))->(-(12*((cs.length:Int)+1))<=y/\y+O<=22+12*((cs.length:Int)+1))->Fr p M M6->(cs.map bD).length<16777216/\∃(G:List B4)(j2 j3 j4 j5 j6 j7 j8:Option DV),([some (.own p),some (.own q),some (.dat (.int (cs.length:Int))),some (.dat (.int L)),some (.dat (.int O)),some (.dat (.int x)),some (.dat (.int y)),I,J]:DSt)=[some (.own p),some (.own q),j2,j3,j4,j5,j6,j7,j8]/\G.length=cs.length+1/\(∀c∈G,Bx ((cs.length+1:Nat):Int) c)/\OO.lst (cs.map bD++[.tuple [.tuple [.int x,.int y],.tuple [.int (x+L),.int (y+O)]]])=.lst (G.map bD)/\Fr p M (Zs M6 q (.lst (cs.map bD++[.tuple [.tuple [.int x,.int y],.tuple [.int (x+L),.int (y+O)]]]))):=λx y M6 I J hx hy a8=>by
   refine⟨by rw[aa];omega,cs++[⟨x,y,x+L,y+O⟩],_,_,_,_,_,_,_,rfl,by rw[aB];rfl,λc C=>?_,by rw[al];rfl,a8.put q0 g⟩
   rcases ax.mp C with C|C
   ·have:=t c C;unfold Bx at this⊢;omega
   ·rw[au.mp C];unfold Bx;dsimp only;omega
  walk_at"h";refine ZA (λz=>?_) λz=>?_
  ·rw[q5];obtain⟨b,eb⟩:∃ b,cs[cs.length-1]?=some b:=⟨cs[cs.length-1],aM (by omega)⟩
   have hb:=t b (az eb);unfold Bx at hb;rw[Zv]
   refine J7 (d:=bD b) (by
    rw[show((cs.length:Int)-1)=((cs.length-1:Nat):Int) by omega];refine J5 ?_;rw[aV,eb]
    rfl) ?_
   walk_at"rk";refine⟨⟨by omega,by omega⟩,f5.1,λr6 M6 a6 b6 f6=>⟨⟨by omega,by omega⟩,f6.1,λr7 M7 a7 b7 f7=>?_⟩⟩;have q7:M7 q=some (.lst (cs.map bD)):=f7.own (f6.own q5 g) g;subst_vars;walk_at"rk";rw[q7];walk_at"rk";exact U (b.x-L-1+r6) (b.y-O-1+r7) M7 _ _ ⟨by omega,by omega⟩ ⟨by omega,by omega⟩ ((F5.trans f6).trans f7)
  ·subst_vars;walk_at"rk";rw[q5];walk_at"rk";exact U x4 y5 M5 _ _ ⟨by omega,by omega⟩ ⟨by omega,by omega⟩ F5
 ·rintro Δ M' ⟨cs,k2,k3,k4,k5,k6,I,J,rfl,hl,t,D,hF⟩;subst_vars;walk_at"rk";simp only[D];walk_at"rk";refine h cs _ (by omega) (λb hb=>?_) (hF.gone Y g);have:=t b hb;unfold Bx at this⊢;omega
theorem D3(T:Tx w K mg base):Qx P w K mg base CX0 1 T.lV T.lK ["_law_frame_here","_law_spot_here","_law_more"] (lift K NR):=by
 refine okD T.HE.F sT (λxs M Φ h=>by obtain⟨_,_,_,rfl,_⟩:=QA h;rfl) λl A g s H E r=>⟨_,(Zi (Zq (Zw (Za (Zr ZV (Zr ZV (Zr JR (Zh (Zb 1) Zc) (Zh (Zb 0) Zc)) (Zb 2)) (Zh (Zb 0) Zc)) (Za (Zr ZV (Zr ZV (Zr JR (Zh (Zb 1) Zc) (Zh (Zb 0) Zc)) (Zb 2)) (Zh (Zb 0) Zc)) Ze))))),λxs M Φ h=>?_⟩;obtain⟨t,z,B,rfl,h⟩:=(QA h);obtain⟨f,C,D,rfl,h⟩:=(vZ h);obtain⟨a,b,rfl,h⟩:=(XF h);obtain⟨m,rfl,G,h⟩:=(ZJ h);walk_at"rk";exact⟨.inl (by omega),.inl (by omega),h⟩
theorem OF(T:Tx w K mg base):Qx P w K mg base CX0 3 T.mP T.kY ["_law_pen_here","_law_house_here"] (lift K O4):=by
 refine okD T.NQ.F JI (λxs M Φ h=>by obtain⟨_,_,rfl,_⟩:=Zz h;rfl) λa9 A a3 s H E D=>⟨_,(Zd (Zl 2 JI.nd (cO T.MA (wk T) D (Za (Zb 0) Ze)))
 (Zd (Zl 3 JI.nd ((Z7 D) (Zb 1) Zu))
 (Zd (Jc (Zb 2) (Rq (n:=2) rfl (VY (Zm 9 JI.nd) (VY (Zm 10 JI.nd) CT))) (Zi (Qh (Js ((Z7 D) (Zb 1) Zu) (Qi (Za (Zb 9) (Za (Zb 10) Ze)))))) bj rfl)
 (Zd (Zl 4 JI.nd (Zr Sn (QU (Za Zu (Za Zu (Za Zu Ze)))) ((Z7 D) (Zb 1) Zu)))
 (Zd (Zl 5 JI.nd (Zh (Zb 4) (cO T.ZK (Zy T) D (Za (Zb 0) (Za (ZD JD rfl T.Yq Jr (Za (Zb 4) Ze)) Ze)))))
 (Zd (Zl 6 JI.nd (Qd Jm rfl T.Xz VO (Za (ZI false (Zn (sc:=Zf FD) (XN:=["_law_pen_here","_law_house_here","_law_boxes_here","_law_frame_here","_law_outers","_law_outer","_law_shape","_law_wobble","_law_far","_law_low","_law_top"]) (N:=["_law_low","_law_top","_law_frame_here"]) (ix:=[none,none,some 3]) rfl rfl (by walk_at"k")) (ZU (Zb 2)) (λC ex s H=>(Rq (n:=2) rfl (VY (Zm 0 (show List.Nodup (["_law_low","_law_top","_law_frame_here"]:List Str) by walk_at"k")) (VY (Zm 1 (show List.Nodup (["_law_low","_law_top","_law_frame_here"]:List Str) by walk_at"k")) CT)))) (λC ex s H=>Z8) (λC ex s H=>(Zw (Za (cO T.HE (D3 T) D (Za (Zb 2) (Za (Zb 0) (Za Zc Ze)))) (Za (cO T.HE (D3 T) D (Za (Zb 2) (Za (Zb 1) (Za (Zr Qy (Zh (Zb 2) Zc) Zc) Ze)))) Ze)))) rfl) Ze)))
 (Zd (Zl 7 JI.nd (Zh (QU (Za Zc (Za Zc (Za Zc (Za Zc (Za Zc (Za Zc Ze))))))) (cO T.ZK (Zy T) D (Za (Zb 0) (Za Zc Ze)))))
 (Zd (Zl 8 JI.nd (Zr JR (Zb 7) (Zh (Zb 3) Zc)))
 (Zi (Zq (Zw (Za (Zb 5) (Za (Zb 6) (Za (Zh (QU (Za (Zb 7) (Za (Zb 8) (Za (Zr Qy (Zr ZV (Zb 8) (Zh (Zb 3) Zc)) Zc) Ze)))) (cO T.ZK (Zy T) D (Za (Zb 0) (Za Zc Ze)))) Ze)))))))))))))),λxs M Φ h=>?_⟩
 obtain⟨x1,x2,rfl,h⟩:=(Zz h);obtain⟨p,rfl,h⟩:=(ZM h);obtain⟨q,rfl,c,w',n,⟨hp,I,hn⟩,h⟩:=(ZM h);walk_at"hd";walk_at"rp";refine⟨hp,λbs M1 hl hb f1=>?_⟩;have a1:=I.fr f1;obtain⟨f,J,L,eq,hf⟩:=a1.h1;obtain⟨cs,ec,hc,l1,l2⟩:=a1.h2;walk_at"hd";walk_at"rp";rw[eq];walk_at"rp";walk_at"hd";walk_at"rp"
 refine⟨λi Δ M'=>∃(k9 O:Option DV)(ks:List (Int×Int)),Δ=[some (.own p),some (.own q),some (.dat (.list (bs.map bD))),some (.dat (.tuple [.int f,.int J,.int L])),none,none,none,none,none,k9,O]/\M' c=some (.lst (ks.map cD))/\(∀k∈ks,Sm k)/\(1<=ks.length/\ks.length<=n+2*i)/\M' q=some (hsO w' c f J L)/\Fh p c M1 M',
  ⟨_,_,cs,rfl,ec,hc,⟨l1,by lia⟩,eq,(Fr.refl f1.1).fh⟩,?_,?_⟩
 ·rintro i d Δ M' hd ⟨k9,O,ks,rfl,hk,U,G,hq,hF⟩;obtain⟨b,eb,rfl⟩:=Zp hd;have hi:i<bs.length:=(aE.mp eb).1;have B:=hb b (az eb);unfold Bx at B;walk_at"rp";rw[hq];walk_at"rp";rw[hk];walk_at"rp";intro b' t;have n4:b' ≠c:=λe=>by
   rw[e,hk]at t;cases t
  have n5:q≠b':=λe=>by
   rw[<-e,hq]at t;cases t
  rw[Zj (be n4),hk];walk_at"rp";refine⟨n4,by rw[aa];lia,_,_,ks++[(b.x,b.y),(b.X,b.Y)],rfl,by rw[ZG (be n4),Zk,al];rfl,λk z=>?_,?_,by rw[ZG n5,Zj (be I.cq),Zj n5];exact hq,hF.ext (be I.cp) t⟩
  ·rcases ax.mp z with z|z
   ·exact U k z
   ·rcases aW.mp z with rfl|z
    ·unfold Sm;dsimp only;lia
    ·rw[au.mp z];unfold Sm;dsimp only;lia
  ·rw[aB];exact⟨by lia,bX G.2 2⟩
 ·rintro Δ M' ⟨k9,O,ks,rfl,hk,U,G,hq,hF⟩;walk_at"hd";walk_at"rp";rw[hq];walk_at"rp";have lb:=aa (as:=bs) bD;have ll:=aa (as:=w'.ls) PyData.str;have l6:=I.nm.1.1;rw[lb]at G;have a6:Hs M' p q c w' (n+12):=⟨⟨f,J,L,hq,hf⟩,⟨ks,hk,U,G.1,by lia⟩,I.qp,I.cp,I.cq,I.nm⟩
  refine⟨by lia,?_⟩;walk_at"hd";walk_at"rp";refine⟨⟨by lia,by lia⟩,hF.1,λr2 M2 a2 b2 f2=>?_⟩;refine eu (l:=Str.ofString ""::Str.ofString ""::Str.ofString ""::w'.ls) (g:=PyData.str) a2 (by simp only[List.length_cons];lia) λou r=>?_;have r:ou=Str.ofString ""\/ou∈w'.ls:=by
   rcases aW.mp r with e|r
   ·exact .inl e
   ·rcases aW.mp r with e|r
    ·exact .inl e
    ·rcases aW.mp r with e|r
     ·exact .inl e
     ·exact .inr r
  walk_at"hd";walk_at"rp";refine⟨by lia,λi a0 M'=>a0=(bs.take i).map (λb=>bD (layB f J L b))/\M' =M2,⟨rfl,rfl⟩,?_,?_⟩
  ·rintro i d a0 M' hd ⟨rfl,rfl⟩;obtain⟨b,eb,rfl⟩:=Zp hd;have B:=hb b (az eb);unfold Bx at B;walk_at"rp";refine⟨by lia,by lia,?_⟩;rw[<-take_snoc _ eb];rfl
  ·rintro a0 M3 ⟨rfl,rfl⟩;rw[lb,av];walk_at"hd";walk_at"rp";refine⟨f2.1,λr4 M4 a4 b4 f4=>tab (l:=[0,1,0,2,3,1]) (λw=>0<=w/\w<=3) a4 (by simp only[List.length_cons,List.length_nil];lia) (by decide) λw hw=>?_⟩;walk_at"hd";walk_at"rp";unfold Frm at hf;have wf:0<=w*f:=Int.mul_nonneg hw.1 (by lia);have b1:=qw (x:=w) (by lia) hf.1;have b3:=cS hw.2 (show 0<=f by lia);refine⟨.inl (by lia),?_⟩;subst_vars;walk_at"rp";refine⟨f4.1,λr5 M5 a5 b5 f5=>tab (l:=[w,w*f,w*f+f-1]) (λw=>0<=w/\w<=10000000000) a5 (by simp only[List.length_cons,List.length_nil];lia) (λx hx=>?_) λwb a7=>?_⟩
   ·simp only[List.mem_cons,List.not_mem_nil,or_false]at hx;lia
   ·have F:=(f2.trans f4).trans f5;have e:=aC (f:=layB f J L) (g:=bD) (l:=bs);have h':=h ou (bs.map (layB f J L)) wb M5 r ⟨by rw[aa];lia,by rw[aa];lia,λb t=>?_⟩ a7.1 (a6.fr F) ((f1.fh.trans hF).trans F.fh)
    ·rw[e]at h';exact h'
    ·obtain⟨b0,a8,rfl⟩:=af.mp t;have B:=hb b0 a8;exact q8.mpr ⟨Py J B.1.1 hf.1.1,Py L B.1.2 hf.1.1⟩
theorem yC(T:Tx w K mg base):Qx P w K mg base CX0 2 T.pO T.mh ["_law_pen_here","_law_house_here"] (lift K Ot):=by
 refine okD T.pI.F Wa (λxs M Φ h=>by obtain⟨_,_,rfl,_⟩:=Zz h;rfl) λa0 A G s H E r=>⟨_,(Zd (Zl 2 Wa.nd (Zh ((Z7 r) (Zb 1) Zu) (cO T.ZK (Zy T) r (Za (Zb 0) (Za (ZD JD rfl T.Yq Jr (Za ((Z7 r) (Zb 1) Zu) Ze)) Ze)))))
 (Zd (Zl 3 Wa.nd (Zh (QU (Za (Zb 2) (Za (Zh ((Z7 r) (Zb 1) Zu) (cO T.ZK (Zy T) r (Za (Zb 0) (Za (ZD JD rfl T.Yq Jr (Za ((Z7 r) (Zb 1) Zu) Ze)) Ze)))) Ze))) (cO T.ZK (Zy T) r (Za (Zb 0) (Za Zc Ze)))))
 (Zd (Zl 4 Wa.nd (Zw (Za (Zr Qy (Zr ZV (Zh (Zb 2) Zc) (cO T.ZK (Zy T) r (Za (Zb 0) (Za Zc Ze)))) Zc) (Za (Zr Qy (Zr ZV (Zh (Zb 3) Zc) (cO T.ZK (Zy T) r (Za (Zb 0) (Za Zc Ze)))) Zc) Ze))))
 (Zd (Zl 5 Wa.nd ((Z7 r) (Zb 1) Zu))
 (Zi (Zq (cO T.HE (D3 T) r (Za (Zb 5) (Za (Zb 4) (Za (Zh (QU (Za Zc (Za (Zr Qy (Zh (Zb 5) Zc) Zc) (Za (Zr RT (Zh (Zb 5) Zc) Zc) Ze)))) (cO T.ZK (Zy T) r (Za (Zb 0) (Za Zc Ze)))) Ze)))))))))),λxs M Φ h=>?_⟩
 obtain⟨x1,x2,rfl,h⟩:=(Zz h);obtain⟨p,rfl,h⟩:=(ZM h);obtain⟨q,rfl,c,w',n,⟨hp,t,hn⟩,h⟩:=(ZM h);obtain⟨f,ox,oy,eq,hf⟩:=t.h1;obtain⟨cs,ec,I,l1,l2⟩:=t.h2;walk_at"h";rw[eq];walk_at"rk";rw[ec];walk_at"rk";have cl:=aa (as:=cs) cD;refine⟨⟨by lia,by lia⟩,hp,λr1 M1 a1 b1 C=>?_⟩;have e1:=C.own eq t.qp;have J:=C.own ec t.cp;rw[J];walk_at"rk";refine eu a1 (by lia) λk1 B=>?_;have s1:=I k1 B;unfold Sm at s1;unfold cD;walk_at"h";rw[e1];walk_at"rk";rw[J];walk_at"rk";refine⟨⟨by lia,by lia⟩,C.1,λr2 M2 a2 b2 D=>?_⟩;have e2:=D.own e1 t.qp;have c2:=D.own J t.cp;rw[c2];walk_at"rk";refine eu a2 (by lia) λk2 L=>⟨D.1,λr3 M3 a3 b3 O=>?_⟩;have e3:=O.own e2 t.qp;refine eu (l:=[k1,k2]) (g:=cD) a3 (by simp only[List.length_cons,List.length_nil];lia) λk3 z=>?_;have s3:Sm k3:=by
  rcases aW.mp z with rfl|z
  ·exact I _ B
  ·rw[au.mp z];exact I _ L
 unfold Sm at s3;unfold cD;walk_at"h";refine⟨O.1,λr4 M4 a4 b4 U=>⟨U.1,λr5 M5 a5 b5 Y=>?_⟩⟩;walk_at"h";rw[Y.own (U.own e3 t.qp) t.qp];walk_at"rk";subst_vars;walk_at"rk";refine⟨⟨by decide,by decide⟩,Y.1,λr6 M6 a6 b6 f6=>tab (l:=[0,f-1,f/2]) (λ_=>True) a6 (by simp only[List.length_cons,List.length_nil];lia) (λ_ _=>trivial) λm _=>?_⟩;walk_at"rk";exact⟨by lia,h _ _ _ (((((C.trans D).trans O).trans U).trans Y).trans f6)⟩
theorem xL(T:Tx w K mg base):Qx P w K mg base CX0 3 T.RF T.Nx ["_law_pen_here"] (lift K Pc):=by
 refine okD T.ME.F J3 (λxs M Φ h=>by obtain⟨_,rfl,_⟩:=ZP h;rfl) λa0 A O s H E g=>⟨_,(Zd (Zl 1 J3.nd (cO T.Ey (HR T) g (Za (Zb 0) (Za (Zr ZV Zc (cO T.ZK (Zy T) g (Za (Zb 0) (Za Zc Ze)))) Ze))))
 (Zd (Zl 2 J3.nd (cO T.Ey (HR T) g (Za (Zb 0) (Za (Zr ZV Zc (cO T.ZK (Zy T) g (Za (Zb 0) (Za Zc Ze)))) Ze))))
 (Zd (QJ (ZC (JK g) (cO T.ZK (Zy T) g (Za (Zb 0) (Za Zc Ze))) Zc) (Zi (Zl 2 J3.nd (Ki (Zb 1) Jo (Jn Zc)))) ZO)
 (Zd (Zl 3 J3.nd (Zh (QU (Za Zc (Za Zc (Za Zc (Za (Zr Wk Zc Zc) Ze))))) (cO T.ZK (Zy T) g (Za (Zb 0) (Za Zc Ze)))))
 (Zd (Zl 4 J3.nd (Zh (QU (Za Zc (Za Zc (Za (Zr Qy (Zr Wk Zc Zc) (Zr JR Zc (Zb 3))) Ze)))) (cO T.ZK (Zy T) g (Za (Zb 0) (Za Zc Ze)))))
 (Zd (Zl 5 J3.nd (wY (Y1 Zu (Zb 1) (Y1 Zu (Zb 2) (Y1 Zu (Zb 3) (Y1 Zu (Zb 4) (Y1 Zu (Qi (Za (Zw (Za Zc (Za Zc Ze))) Ze)) qT)))))))
 (Zd (ua g (Zb 5) Zu (cO T.Og (uf T) g (Za (Zb 0) Ze)))
 (Zi (Zq (Zb 5)))))))))),λxs M Φ h=>?_⟩
 obtain⟨x1,rfl,h⟩:=(ZP h);obtain⟨p,rfl,hp,h⟩:=(ZM h);walk_at"h";refine⟨hp,λr1 M1 a1 b1 f1=>⟨⟨by lia,by lia⟩,f1.1,λB M2 hl hL f2=>?_⟩⟩;walk_at"h";refine⟨f2.1,λr3 M3 a3 b3 f3=>⟨⟨by lia,by lia⟩,f3.1,λss M4 hs hS f4=>?_⟩⟩;walk_at"h";refine⟨f4.1,λr5 M5 a5 b5 f5=>?_⟩;have F5:Fr p M M5:=(((f1.trans f2).trans f3).trans f4).trans f5;rename_i R hR;have C:∀ r:List Str,(1<=r.length/\r.length<=4)->(∀s∈r,CW s)->R {nx:=λ_ M'=>Φ (.dat .none) M',rt:=Φ} [some (.own p),some (.dat (.list (B.map PyData.str))),some (.dat (.list (r.map PyData.str))),none,none,none] M5:=λr ht hn=>by
  subst hR;walk_at"h";refine⟨cj _ (by decide),f5.1,λr6 M6 a6 b6 f6=>tab (l:=[1,1,10,10000000000]) (λ_=>True) a6 (by simp only[List.length_cons,List.length_nil];lia) (λ_ _=>trivial) λst _=>?_⟩;walk_at"h";refine⟨cj _ (by decide),.inl (by decide),f6.1,λr7 U a7 b7 f7=>tab (l:=[0,3,1000000000000-7*st]) (λ_=>True) a7 (by simp only[List.length_cons,List.length_nil];lia) (λ_ _=>trivial) λt _=>?_⟩;have D:Fr p M U:=(F5.trans f6).trans f7;walk_at"h";intro q hq c Y;have G:q≠p:=be (D.1.ne hq);have I:c≠q:=λe=>by
   rw[e,Zk]at Y;cases Y
  have J:U c=none:=by rwa [Zj I]at Y
  have n2:c≠p:=be (D.1.ne J);have c0:=D.fresh J;have L:=D.fresh hq;refine⟨by rw[Zj (be I),Zk],by walk_at"k",?_⟩;walk_at"h";have F8:Fr p M (Zs (Zs (Zs U q (.dko [])) c (.lst [PyData.tuple [PyData.int 0,PyData.int 0]])) q (.dko (hs5 ⟨B,r,st,t⟩ c))):=((D.put L G).put c0 n2).put L G;refine⟨F8.1,λf ox oy M9 hf f9=>?_⟩;have q2:=f9.own Zk G;have c2:=f9.own ((Zj I).trans Zk) n2;rw[q2];walk_at"rk";subst_vars;walk_at"rk";refine(bK (λo=>Φ (.own q) (Zs M9 q (.dko o))) (wJ ⟨B,r,st,t⟩ c f ox oy)).mpr ?_;exact h q c ⟨B,r,st,t⟩ _ L c0 ⟨⟨f,ox,oy,Zk,hf⟩,⟨[(0,0)],(Zj I).trans c2,λk hk=>by rw[au.mp hk];unfold Sm;decide,ak _,ak _⟩,G,n2,I,⟨⟨⟨by lia,by lia⟩,ht⟩,hL,hn⟩⟩ ((F8.trans f9).put L G)
 refine ZA (λz=>?_) λz=>C ss ⟨by lia,by lia⟩ hS;have e:DL.cutD (B.map PyData.str) none (some 4)=(B.take 4).map PyData.str:=by
  unfold DL.cutD;rw[pP (by decide),HT.GA,List.drop_zero,aa,Nat.sub_zero,<-gV]
  congr 1
  rw[List.take_eq_take_iff];lia
 rw[e];exact C _ (by rw[bp];lia) λs hs=>hL s (bM hs)
theorem Ko(T:Tx w K mg base):Qx P w K mg base CX0 1 T.Uo T.W3 ["known"] (lift K BS):=by
 refine okD T.Xw.F Dn (λxs M Φ h=>by obtain⟨_,rfl,_⟩:=ZP h;rfl) λz A l s H E D=>⟨_,(Zi (Zq (ZI false (Zn (sc:=Zf VX) (XN:=["known"]) (N:=["stay"]) (ix:=[none]) rfl rfl (by walk_at"k")) (Yc (Zh (Zb 0) Zc)) (λC r s H=>(Zm 0 (show List.Nodup (["stay"]:List Str) by walk_at"k"))) (λC r s H=>Z8) (λC r s H=>(Zh (Zb 0) Zc)) rfl))),λxs M Φ h=>?_⟩;obtain⟨G,rfl,h⟩:=(ZP h);obtain⟨t,rfl,I,h⟩:=h;unfold thD;walk_at"rk";have len:=aa (as:=t.ss) stD;refine⟨by lia,λi g M'=>g=((t.ss.take i).map (·.1)).map PyData.str/\M' =M,⟨rfl,rfl⟩,?_,?_⟩
 ·rintro i d g M' hd ⟨rfl,rfl⟩;obtain⟨p,B,rfl⟩:=Zp hd;unfold stD;walk_at"rk";rw[aC,aC];exact take_snoc (PyData.str∘(·.1)) B
 ·rintro g M' ⟨rfl,rfl⟩;rw[len,av];exact h
theorem YN(s:Str):∀ l:List Str,((l.map PyData.str).any λe=>e.eqv (.str s))=l.contains s
 |[]=>rfl
 |a::l=>by
  rw[ai,bi,YN s l,List.contains_cons]
  congr 1
  rw[cu];simp only[PyData.eqv,beq_iff_eq,decide_eq_true_eq];exact eq_comm
theorem Rn:∀{l:List Str},(∀s∈l,QF s)->PyData.canLayAll0 (l.map PyData.str)=true
 |[],_=>by simp[PyData.canLayAll0]
 |a::l,h=>by
  have g:(PyData.str a).canLay0=true:=h a aj;rw[ai,PyData.canLayAll0,g,Rn λs r=>h s (aq _ r)];rfl
theorem iW{s:Str}{l:List Str}(g:QF s)(h:∀ s∈l,QF s):okIn (.str s) (l.map PyData.str)=true:=by
 have r:(PyData.str s).canLay0=true:=g;unfold okIn;rw[r,Rn h];simp[PyData.depth]
theorem wy{l b:List Str}(e:l[i]?=some x)(h:b.contains x=true):QC (l.take (i+1)) b=QC (l.take i) b:=by
 unfold QC;rw[cJ,e,gH,bv,ba (by rw[h];exact ae),dh,aU]
theorem qy{l b:List Str}(e:l[i]?=some x)(h:b.contains x=false):QC (l.take (i+1)) b=QC (l.take i) b++[x]:=by
 unfold QC;rw[cJ,e,gH,bv,bb (by rw[h];rfl),dh]
theorem EA{l b:List Str}{M:Mp}(e:l[i]?=some x)(h:QF x)(r:∀ s∈b,QF s):okIn (.str x) (b.map PyData.str)=true/\if(!(b.map PyData.str).any λe=>e.eqv (PyData.str x))=true then
   (λi g M'=>g=(QC (l.take i) b).map PyData.str/\M' =M) (i+1) ((QC (l.take i) b).map PyData.str++[PyData.str x]) M
  else(λi g M'=>g=(QC (l.take i) b).map PyData.str/\M' =M) (i+1) ((QC (l.take i) b).map PyData.str) M:=by
 refine⟨iW h r,?_⟩;rw[YN];cases c:b.contains x with
 |true=>
  rw[eB,ao ae];exact⟨by rw[wy e c],rfl⟩
 |false=>
  rw[gI,aw rfl];exact⟨by rw[qy e c,al];rfl,rfl⟩
theorem XU{a b:List Str}{s:Str}(h:s∈QC a b):s∈a:=(ah.mp h).1
theorem kT(a b:List Str):(QC a b).length<=a.length:=aX _ _
theorem ND{rs:List Row}{s:Str}(h:lev rs rs.length s=some n):BG rs s=.int (lvI rs s):=by
 unfold BG lvI;rw[h];rfl
theorem Jx(T:Tx w K mg base):Qx P w K mg base CX0 14 T.Ye T.JL ["known","seen","time","lands_ahead","lands"] (lift K (mN T)):=by
 refine okL T.Q2.F Qg (λxs M Φ h=>by obtain⟨_,_,_,_,_,rfl,_⟩:=oa h;rfl) λA r s H E B hu=>⟨_,(Zd (Zl 5 Qg.nd (cO T.Xw (Ko T) B (Za (Zb 0) Ze)))
 (Zd (Zl 6 Qg.nd (cO T.Xw (Ko T) B (Za (Zb 1) Ze)))
 (Zd (Zl 7 Qg.nd (HX (k:=6) (xc:="lands_ahead") (pn:="land") 3 (B.mono (by walk_at"w")) rfl T.Jj (ZI false (Zn (sc:=Zf Qa) (XN:=["known","seen","time","lands_ahead","lands","before","behind","left","entered","goings"]) (N:=["land","behind"]) (ix:=[none,some 6]) rfl rfl (by walk_at"k")) (ZU (Zb 5)) (λC z s H=>(Zm 0 (show List.Nodup (["land","behind"]:List Str) by walk_at"k"))) (λC z s H=>(Qo (ZC (Kc B) (Zb 0) (Zb 1)))) (λC z s H=>(Zb 0)) rfl) (HS "lands_ahead" Nn) T.Qs T.Qr T.bm ⟨rfl,rfl,rfl,by walk_at"k",rfl,by walk_at"k",by walk_at"k",by walk_at"k",by walk_at"k"⟩ rfl (λq f c' A r s H B=>(Zw (Za (t6 (cO T.U3 (Gu T) B (Za (Zb 1) (Za (Zb 0) Ze)))) (Za (Zb 0) Ze)))) (λq pm cd ct s us hl=>by match us,hl with|[u],_=>exact .of_eq rfl)))
 (Zd (Zl 8 Qg.nd (HX (k:=6) (xc:="lands") (pn:="land") 4 (B.mono (by walk_at"w")) rfl T.Jj (ZI false (Zn (sc:=Zf Qa) (XN:=["known","seen","time","lands_ahead","lands","before","behind","left","entered","goings"]) (N:=["land","before"]) (ix:=[none,some 5]) rfl rfl (by walk_at"k")) (ZU (Zb 6)) (λC z s H=>(Zm 0 (show List.Nodup (["land","before"]:List Str) by walk_at"k"))) (λC z s H=>(Qo (ZC (Kc B) (Zb 0) (Zb 1)))) (λC z s H=>(Zb 0)) rfl) (HS "lands" Nn) T.Qs T.Qr T.bm ⟨rfl,rfl,rfl,by walk_at"k",rfl,by walk_at"k",by walk_at"k",by walk_at"k",by walk_at"k"⟩ rfl (λq f c' A r s H B=>(Zw (Za (cO T.U3 (Gu T) B (Za (Zb 1) (Za (Zb 0) Ze))) (Za (Zb 0) Ze)))) (λq pm cd ct s us hl=>by match us,hl with|[u],_=>exact .of_eq rfl)))
 (Zd (Yr 9 false Qg.nd (Zn (sc:=Zf Qa) (XN:=["known","seen","time","lands_ahead","lands","before","behind","left","entered","goings"]) (N:=["land","time","known"]) (ix:=[none,some 2,some 0]) rfl rfl (by walk_at"k")) (ZU (Zb 7)) (λC z s H=>(Zm 0 (show List.Nodup (["land","time","known"]:List Str) by walk_at"k"))) (λC z s H=>Z8) (λC z s H=>(Zw (Za (Zb 1) (Za (Zh (Zb 2) Zc) (Za Zu (Za (Zb 0) Ze)))))) rfl)
 (Zi (Zq (Zr UY (Zb 9) (ZI false (Zn (sc:=Zf Qa) (XN:=["known","seen","time","lands_ahead","lands","before","behind","left","entered","goings"]) (N:=["land","time","known"]) (ix:=[none,some 2,some 0]) rfl rfl (by walk_at"k")) (ZU (Zb 8)) (λC z s H=>(Zm 0 (show List.Nodup (["land","time","known"]:List Str) by walk_at"k"))) (λC z s H=>Z8) (λC z s H=>(Zw (Za (Zb 1) (Za (Zh (Zb 2) Zc) (Za Zu (Za (Zb 0) Ze)))))) rfl))))))))),λxs M Φ h=>?_⟩
 obtain⟨x1,x2,x3,x4,x5,rfl,h⟩:=(oa h);obtain⟨k,rfl,h⟩:=h;obtain⟨t,rfl,h⟩:=h;obtain⟨tm,rfl,h⟩:=(ZJ h);obtain⟨L,rfl,lb,rfl,⟨a0,a1,I,J⟩,hT,h⟩:=h;walk_at"h";refine⟨k,rfl,I.1,?_⟩;walk_at"h";refine⟨t,rfl,J.1,?_⟩;walk_at"h";have lk:(lnT k).length<=100:=by unfold lnT;rw[aa];exact I.1
 have lt:(lnT t).length<=100:=by unfold lnT;rw[aa];exact J.1
 have ll:=kT (lnT k) (lnT t);have lr:=kT (lnT t) (lnT k);refine⟨HW hu rfl (cf (cf (e9 _))),by rw[aa];lia,λi g M'=>g=(QC ((lnT k).take i) (lnT t)).map PyData.str/\M' =M,⟨rfl,rfl⟩,?_,?_⟩
 ·rintro i d g M' hd ⟨rfl,rfl⟩;obtain⟨D,l,rfl⟩:=Zp hd;exact EA l (I.2 D (az l)).1 λs G=>(J.2 s G).1
 rintro g M' ⟨rfl,rfl⟩;rw[aa,av];refine Cy hT λf c' M1 pm ct hf hc hM a2=>?_;rw[BD];refine⟨c',pm,ct,λi g M'=>g=((QC (lnT k) (lnT t)).take i).map (kyG L)/\M' =M1,⟨rfl,rfl⟩,?_,?_⟩
 ·rintro i d g M2 hd ⟨rfl,rfl⟩;obtain⟨D,l,rfl⟩:=Zp hd;obtain⟨n,en⟩:=(I.2 D (XU (az l))).2;refine⟨hf,hc,L,rfl,?_⟩;show ik L/\onI (DV.dat (BG L D)) _;refine⟨a0,?_⟩;rw[ND en,om];exact⟨take_snoc (kyG L) l,rfl⟩
 rintro g M2 ⟨rfl,rfl⟩;rw[aa,av];refine⟨lY (by lia) λs G=>(I.2 s (XU G)).1,λqs hq hp=>?_⟩;obtain⟨gs,eg,hg⟩:=WU hq hp;rw[eg];walk_at"h";refine⟨HW hu rfl (cf (cf (cf (e9 _)))),by rw[aa];lia,λi g M'=>g=(QC ((lnT t).take i) (lnT k)).map PyData.str/\M' =M2,⟨rfl,rfl⟩,?_,?_⟩
 ·rintro i d g M3 hd ⟨rfl,rfl⟩;obtain⟨D,l,rfl⟩:=Zp hd;exact EA l (J.2 D (az l)).1 λs G=>(I.2 s G).1
 rintro g M3 ⟨rfl,rfl⟩;rw[aa,av];refine Cy a2 λf2 c2 M4 a3 a4 a5 a6 a7 a8=>?_;rw[BD];refine⟨c2,a3,a4,λi g M'=>g=((QC (lnT t) (lnT k)).take i).map (kyC lb)/\M' =M4,⟨rfl,rfl⟩,?_,?_⟩
 ·rintro i d g M5 hd ⟨rfl,rfl⟩;obtain⟨D,l,rfl⟩:=Zp hd;obtain⟨n,en⟩:=(J.2 D (XU (az l))).2;refine⟨a5,a6,lb,rfl,?_⟩;show ik lb/\_;refine⟨a1,?_⟩;rw[ND en];exact⟨take_snoc (kyC lb) l,rfl⟩
 rintro g M5 ⟨rfl,rfl⟩;rw[aa,av];refine⟨lY (by lia) λs G=>(J.2 s (XU G)).1,λb2 a9 b0=>?_⟩;obtain⟨cs,ec,O⟩:=WU a9 b0;rw[ec];have lg:gs.length<=100:=by rw[hg.1.length_eq];lia
 have lc:cs.length<=100:=by rw[O.1.length_eq];lia
 have U:=aa (as:=gs) PyData.str;have Y:=aa (as:=cs) PyData.str
 have b1:=h gs cs M5 hg O ⟨a8,λa na ha=>by
  have e:=hM a na ha
  rw[a7 a na (by rw[e];exact ha),e]⟩
 walk_at"h";refine⟨by lia,λi g M'=>g=(gs.take i).map (Fu tm k.n goS)/\M' =M5,⟨rfl,rfl⟩,?_,?_⟩
 ·rintro i d g M6 hd ⟨rfl,rfl⟩;obtain⟨D,l,rfl⟩:=Zp hd;exact⟨take_snoc (Fu tm k.n goS) l,rfl⟩
 rintro g M6 ⟨rfl,rfl⟩;rw[U,av];subst_vars;walk_at"rk";refine⟨by lia,λi g M'=>g=(cs.take i).map (Fu tm k.n coS)/\M' =M6,⟨rfl,rfl⟩,?_,?_⟩
 ·rintro i d g M7 hd ⟨rfl,rfl⟩;obtain⟨D,l,rfl⟩:=Zp hd;exact⟨take_snoc (Fu tm k.n coS) l,rfl⟩
 rintro g M7 ⟨rfl,rfl⟩;rw[Y,av];refine⟨by rw[aa,aa,bL];lia,λq hq=>vt (b1 q hq)⟩
noncomputable def Mf(m:List Ld):Tl->List Ld
 | .land _ g h r t=>(m.filter λl=>decide (l.n≠g))++[⟨g,h,r,t⟩]
 | .spot _ g _ _=>m.filter λl=>decide (l.n≠g)
 | .off _ _ g=>m.filter λl=>decide (l.n≠g)
noncomputable def D5(ls:List Ld)(ts:List Tl):List Ld:=ts.foldl Mf ls
def TlL(t:Tl):Prop:=TlK t/\∀tm g h l r,t=.land tm g h l r->LdS ⟨g,h,l,r⟩
noncomputable def Mi(m:List Ld):List (Key×PyData):=m.map λl=>(.inr l.n,ldD l)
theorem Px{ls:List Ld}(h:(ls.map (·.n)).Nodup):YF (ls.map λl=>(l.n,ldD l))=Mi ls:=by
 unfold YF;rw[Xc _ _ (by rw[aC];exact h) λp _ q g=>absurd g List.not_mem_nil];rw[fE,aC];rfl
theorem U7(m:List Ld)(nm:Str):((Mi m).filter λq=>decide (q.1≠.inr nm))=Mi (m.filter λl=>decide (l.n≠nm)):=by
 unfold Mi;rw[di]
 congr 1
 refine bG λl _=>?_;show decide ((.inr l.n:Key)≠.inr nm)=decide (l.n≠nm)
 by_cases e:l.n=nm
 ·subst e;simp
 ·simp[e]
theorem Tv{m:List Ld}{l:Ld}(h:∀ x∈m,x.n≠l.n):VZ (Mi m) (.inr l.n) (ldD l)=Mi (m++[l]):=by
 unfold VZ;rw[ao]
 ·unfold Mi;rw[al];rfl
 ·intro z;obtain⟨q,g,e⟩:=cE.mp z;obtain⟨x,r,rfl⟩:=af.mp g;exact h x r (dj (aY e))
theorem Nf(m:List Ld)(nm:Str):∀ x∈m.filter (λl=>decide (l.n≠nm)),x.n≠nm:=λx g=>aY (ah.mp g).2
theorem u7(m:List Ld)(t:Tl):(Mf m t).length<=m.length+1:=by
 have h:=λg:Str=>aX (λl:Ld=>decide (l.n≠g)) m;cases t with
 |land _ g=>
  unfold Mf;rw[aB];exact bX (h g) 1
 |spot _ g=>exact eO (h g)
 |off _ _ g=>exact eO (h g)
theorem Gr:∀(ts:List Tl)(ls:List Ld),(D5 ls ts).length<=ls.length+ts.length
 |[],ls=>ak _
 |t::ts,ls=>by
  have g:=Gr ts (Mf ls t);have h:=u7 ls t;show(D5 (Mf ls t) ts).length<=ls.length+(ts.length+1);lia
theorem xD{m:List Ld}(t:Tl)(h:(m.map (·.n)).Nodup):((Mf m t).map (·.n)).Nodup:=by
 have r:∀ g:Str,((m.filter λl=>decide (l.n≠g)).map (·.n)).Nodup:=λg=>gJ (List.filter_sublist.map _) h;cases t with
 |land _ g D E G=>
  unfold Mf;rw[al,cX];refine⟨r g,by simp,λa z b B=>?_⟩;obtain⟨x,C,rfl⟩:=af.mp z;rw[au.mp B];exact Nf m g x C
 |spot _ g=>exact r g
 |off _ _ g=>exact r g
theorem C7:∀{ts:List Tl}{ls:List Ld},(ls.map (·.n)).Nodup->((D5 ls ts).map (·.n)).Nodup
 |[],_,h=>h
 |t::ts,ls,h=>C7 (ts:=ts) (ls:=Mf ls t) (xD t h)
theorem kU:∀{ts:List Tl}{ls:List Ld},(∀l∈ls,LdS l)->(∀t∈ts,TlL t)->∀ l∈D5 ls ts,LdS l
 |[],_,h,_=>h
 | t::ts,ls,h,k=>by
  refine kU (ts:=ts) (ls:=Mf ls t) (λl g=>?_) λt B=>k t (aq _ B);have z:∀ r:Str,∀l∈ls.filter (λl=>decide (l.n≠r)),LdS l:=λr l g=>h l (ah.mp g).1;cases t with
  |land tm r C D E=>
   rcases ax.mp g with g|g
   ·exact z r l g
   ·rw[au.mp g];exact(k _ aj).2 tm r C D E rfl
  |spot _ r=>exact z r l g
  |off _ _ r=>exact z r l g
theorem PY(ls:List Ld)(ts:List Tl)(t:Tl):D5 ls (ts++[t])=Mf (D5 ls ts) t:=by
 unfold D5;rw[bV];rfl
theorem xB{ls:List Ld}(g:ls.length<=16777216)(h:∀ l∈ls,LdS l):Qk (ls.map ldD):=by
 refine⟨by rw[aa,bL];exact g,.tstr λd hd=>?_,λd hd=>?_,λd hd e r=>?_⟩
 ·obtain⟨t,_,rfl⟩:=af.mp hd;exact⟨_,_,rfl⟩
 ·obtain⟨t,m,rfl⟩:=af.mp hd;exact⟨B8 t,(h t m).1,aA (h t m).2 (by decide)⟩
 ·obtain⟨t,m,rfl⟩:=af.mp hd;obtain⟨u,n,rfl⟩:=af.mp r;exact mM t u
theorem ky{a b:Str}{as bs:List PyData}(h:leD (.tuple (.str a::as)) (.tuple (.str b::bs)))(n:a≠b):a.cps.toList<b.cps.toList:=by
 have g:ltD (.tuple (.str b::bs)) (.tuple (.str a::as))=decide (b.cps.toList<a.cps.toList):=by
  rw[ltD,Q0 (by simp[pln]) (by simp[pln]) (λz=>n (PyData.str.inj z).symm),ltD]
 have l:¬ b.cps.toList<a.cps.toList:=λz=>by
  have:=(show ltD (.tuple (.str b::bs)) (.tuple (.str a::as))=false from h)
  rw[g,aI z]at this;cases this
 rcases gR a.cps.toList b.cps.toList with z|z|z
 ·exact z
 ·exact absurd (Wn z) n
 ·exact absurd z l
theorem iJ:isS (.str (Str.ofString "land")) (Str.ofString "land")=true/\isS (.str (Str.ofString "spot")) (Str.ofString "land")=false/\isS (.str (Str.ofString "drop")) (Str.ofString "land")=false/\isS (.str (Str.ofString "free")) (Str.ofString "land")=false:=by walk_at"k"
theorem FZ(m:List Ld):(Mi m).length=m.length:=aa ..
theorem Mm(m:List Ld):(Mi m).map (·.2)=m.map ldD:=by
 unfold Mi;rw[aC];rfl
def s_:DSp:=λxs M Φ=>on2 xs λx y=>Bq x λh=>QK y λr=>(h.length+r.length<=1000/\(∀l∈h,LdS l)/\(h.map (·.n)).Nodup/\∀t∈r,TlL t)/\∀g:List Ld,g.Perm (D5 h r)->g.Pairwise (λa b=>a.n.cps.toList<b.n.cps.toList)->Φ (.dat (.tuple (g.map ldD))) M
theorem KR(T:Tx w K mg base):Qx P w K mg base CX0 1 T.V3 T.Ya ["lands","told"] (lift K s_):=by
 refine okG T.Yg.F Jq (λxs M Φ h=>by obtain⟨_,_,rfl,_⟩:=Zz h;rfl) λa0 A U s H E Y=>⟨_,(Zd (Zl 2 Jq.nd (Qd (U6 rfl) rfl T.Bo Kj (Za (ZI false (Zn (sc:=Zf Q3) (XN:=["lands","told","there","telling"]) (N:=["row"]) (ix:=[none]) rfl rfl (by walk_at"k")) (Yc (Zb 0)) (λC G s H=>(Zm 0 (show List.Nodup (["row"]:List Str) by walk_at"k"))) (λC G s H=>Z8) (λC G s H=>(Zw (Za (Zh (Zb 0) Zc) (Za (Zb 0) Ze)))) rfl) Ze)))
 (Zd (Jc (Zb 1) (Zm 3 Jq.nd) (Zd (Qh (se (Zb 2) (Zh (Zb 3) Zc) W7))
 (Zi (QJ (ZC (ER Y) (Zh (Zb 3) Zc) Zu) (Zi (OQ Y (Zb 2) (Zh (Zb 3) Zc) (Q8 (Zb 3) (Jn Zc) Jo))) ZO))) bj rfl)
 (Zi (Zq (Qd Jm rfl T.Xz VO (Za (YJ Y rfl T.Jj (Zb 2)) Ze)))))),λxs M Φ h=>?_⟩
 obtain⟨x1,x2,rfl,h⟩:=(Zz h);obtain⟨r,rfl,h⟩:=h;obtain⟨z,rfl,⟨hl,hs,hn,ht⟩,h⟩:=h;walk_at"h";refine⟨by rw[aa];lia,λi B M'=>B=(r.take i).map (λl=>PyData.tuple [.str l.n,ldD l])/\M' =M,⟨rfl,rfl⟩,?_,?_⟩
 ·rintro i d B M' hd ⟨rfl,rfl⟩;obtain⟨l,el,rfl⟩:=Zp hd;rw[kg];walk_at"rk";rw[<-take_snoc (λl=>PyData.tuple [.str l.n,ldD l]) el];rfl
 ·rintro B M' ⟨rfl,rfl⟩;rw[aa,av];refine⟨r.map λl=>(l.n,ldD l),by rw[aC];rfl,λp hp=>?_⟩;rw[Px hn];walk_at"h";have len:=aa (as:=z) tlD;refine⟨λi Δ M2=>∃ k3,Δ=[some (.dat (.tuple (r.map ldD))),some (.dat (.list (z.map tlD))),some (.own p),k3]/\M2=Zs M' p (.dkv (Mi (D5 r (z.take i)))),⟨_,rfl,rfl⟩,?_,?_⟩
  ·rintro i d Δ M2 hd ⟨k3,rfl,rfl⟩;obtain⟨x,G,rfl⟩:=Zp hd;have hx:=ht x (az G);have bl:=Gr (z.take i) r;rw[bp]at bl;have D:Mf (D5 r (z.take i)) x=D5 r (z.take (i+1)):=by
    rw[<-PY];have:=take_snoc id G;simp only[List.map_id_fun,id]at this;rw[this]
   generalize D5 r (z.take i)=m at*;cases x with
   |land t g J L O=>
    rw[show tlD (.land t g J L O)=.tuple [.str (Str.ofString "land"),.int t,.str g,.str J,.tuple (L.map bD),.int O]from rfl];walk_at"rk";rw[aw iJ.1,U7,FZ];refine⟨by decide,gG (aX _ _) (by lia),_,rfl,?_⟩;rw[<-D];show Zs M' p (.dkv (VZ (Mi (m.filter λl=>decide (l.n≠g))) (.inr g) (ldD ⟨g,J,L,O⟩)))=_;rw[Tv (l:=⟨g,J,L,O⟩) (Nf m g)];rfl
   |spot t g u v=>
    rw[show tlD (.spot t g u v)=.tuple [.str (Str.ofString "spot"),.int t,.str g,.tuple [.int u,.int v]]from rfl];walk_at"rk";rw[iJ.2.1,ao ae,U7,<-D];exact⟨_,rfl,rfl⟩
   | off w t g=>
    have hw:isS (.str w) (Str.ofString "land")=false:=by
     rcases hx.1 with rfl|rfl
     ·exact iJ.2.2.1
     ·exact iJ.2.2.2
    rw[show tlD (.off w t g)=.tuple [.str w,.int t,.str g]from rfl];walk_at"rk";rw[hw,ao ae,U7,<-D];exact⟨_,rfl,rfl⟩
  ·rintro Δ M2 ⟨k3,rfl,rfl⟩;rw[len,av];subst_vars;walk_at"rk";have bl:=Gr z r;rw[Mm,FZ];refine⟨⟨by lia,xB (by lia) (kU hs ht)⟩,λa1 pm pw=>?_⟩;obtain⟨I,rfl,p1⟩:=JT pm;have nd:I.Pairwise λa b=>a.n≠b.n:=by
    have:=(p1.map (·.n)).nodup_iff.mpr (C7 hn);rw[bz,bd]at this;exact this
   rw[bd]at pw;exact Bb hp (h I p1 ((pw.and nd).imp λz0=>by obtain⟨h1,h2⟩:=z0;exact ky h1 h2))
theorem tL{key:Str->PyData}(r:∀ s,pln (key s)=true)(t:∀ a b,ZW (key a) (key b)=true)(z:∀ a b,key a=key b->a=b){l g g':List Str}(h:Ee key l g)(h':Ee key l g'):g=g':=
 dE (le:=λa b=>leD (key a) (key b)) (λa b _ _ B C=>z a b (Yw (key a) (key b) (r a) (r b) (t a b) C B)) h.2 h'.2 (h.1.trans h'.1.symm)
noncomputable def gN(key:Str->PyData)(l:List Str):List Str:=open Classical in if h:∃ g,Ee key l g then h.choose else[]
theorem j_{key:Str->PyData}(r:∀ s,pln (key s)=true)(t:∀ a b,ZW (key a) (key b)=true)(z:∀ a b,key a=key b->a=b){l g:List Str}(h:Ee key l g):g=gN key l:=by
 unfold gN;rw[hW ⟨g,h⟩];exact tL r t z h (fH (⟨g,h⟩:∃ g,Ee key l g))
theorem Uh(i:Int)(s:Str):pln (.tuple [.int i,.str s])=true:=by simp[pln,Vj]
theorem Ul(i j:Int)(s t:Str):ZW (.tuple [.int i,.str s]) (.tuple [.int j,.str t])=true:=Vc (ZF (by simp[pln]) (by simp[pln]) (YG _ _) λ_=>ZF (by simp[pln]) (by simp[pln]) (Yf _ _) λ_=>by simp[ZN])
theorem wN{rs:List Row}{l g:List Str}(h:Ee (kyG rs) l g):g=gN (kyG rs) l:=j_ (λs=>Uh _ s) (λa b=>Ul _ _ a b) (λa b e=>by
 simp only[PyData.tuple.injEq,List.cons.injEq,PyData.str.injEq]at e
 exact e.2.1) h
theorem ui{rs:List Row}{l g:List Str}(h:Ee (kyC rs) l g):g=gN (kyC rs) l:=j_ (λs=>Uh _ s) (λa b=>Ul _ _ a b) (λa b e=>by
 simp only[PyData.tuple.injEq,List.cons.injEq,PyData.str.injEq]at e
 exact e.2.1) h
structure Rw where
 t:Int
 n:Str
 c:Bool
 l:Str
noncomputable def rwD(r:Rw):PyData:=Fu r.t r.n (if r.c then coS else goS) r.l
noncomputable def QP(la lb:List Row)(tm:Int)(k t:Th):List Rw:=(gN (kyG la) (QC (lnT k) (lnT t))).map (λl=>⟨tm,k.n,false,l⟩)++(gN (kyC lb) (QC (lnT t) (lnT k))).map λl=>⟨tm,k.n,true,l⟩
theorem Ha(a b:List Str):(QC a b).length<=a.length:=aX ..
theorem C2{la lb:List Row}{k t:Th}{h cs:List Str}(l:Ee (kyG la) (QC (lnT k) (lnT t)) h)(r:Ee (kyC lb) (QC (lnT t) (lnT k)) cs)(z:k.ss.length<=100)(B:t.ss.length<=100):h.map (Fu tm k.n goS)++cs.map (Fu tm k.n coS)=(QP la lb tm k t).map rwD/\(QP la lb tm k t).length<=200:=by
 have g:h.map (Fu tm k.n goS)++cs.map (Fu tm k.n coS)=(QP la lb tm k t).map rwD:=by
  unfold QP;rw[al,aC,aC,<-wN l,<-ui r];rfl
 refine⟨g,?_⟩;have C:=Ha (lnT k) (lnT t);have D:=Ha (lnT t) (lnT k);have E:(lnT k).length=k.ss.length:=aa ..;have G:(lnT t).length=t.ss.length:=aa ..;rw[<-aa (as:=QP la lb tm k t) rwD,<-g,aB,aa,aa,l.1.length_eq,r.1.length_eq];lia
structure Vw where
 ls:List Ld
 ts:List Th
noncomputable def vwD(v:Vw):PyData:=.tuple [.tuple (v.ls.map ldD),.tuple (v.ts.map thD)]
theorem Ky(v:Vw):vwD v=.tuple [.tuple (v.ls.map ldD),.tuple (v.ts.map thD)]:=rfl
def Mb(x:DV)(P:Vw->Prop):Prop:=∃ v,x=.dat (vwD v)/\P v
noncomputable def lsR(ls:List Ld):List Row:=ls.map ldR
def kK(v:Vw):Prop:=ik (lsR v.ls)/\v.ts.length<=1000/\∀t∈v.ts,ir (lsR v.ls) t/\QF t.n
noncomputable def gk(t:Th):Th:=⟨t.n,t.u,t.v,[]⟩
noncomputable def QS(v:Vw)(tm:Int)(ns:List Str):List Rw:=(v.ts.filter λk=>ns.contains k.n).flatMap λk=>QP (lsR v.ls) (lsR v.ls) tm k (gk k)
noncomputable def Ww(v:Vw)(ns:List Str):Vw:=⟨v.ls,v.ts.filter λk=>!ns.contains k.n⟩
noncomputable def tmH(ts:List Tl):Int:=(ts.head?.map tmT).getD 0
def EN:DSp:=λxs M Φ=>on2 xs λx y=>onS x λn=>onP y λu v=>Φ (.dat (thD ⟨n,u,v,[]⟩)) M
def nw(T:Tx w K mg base):DSp:=λxs M Φ=>on2 xs λx y=>Mb x λv=>QK y λg=>(kK v/\g.length<=1000/\∀t∈g,QF (nmT t))/\Vf M T.Zg YV/\
 ∀q M',M q=none->Kq T M M'->(QS v (tmH g) (g.map nmT)).length<=200*v.ts.length->M' q=some (.lst ((QS v (tmH g) (g.map nmT)).map rwD))->Φ (.mix [.dat (vwD (Ww v (g.map nmT))),.own q]) M'
theorem YO(T:Tx w K mg base):Qx P w K mg base CX0 1 T.XQ T.XJ ["thing","spot"] (lift K EN):=by
 refine okD T.Vr.F UN (λxs M Φ h=>by obtain⟨_,_,rfl,_⟩:=Zz h;rfl) λl A g s H E r=>⟨_,(Zi (Zq (Zw (Za (Zb 0) (Za (Zb 1) (Za (Zw Ze) Ze)))))),λxs M Φ h=>?_⟩;obtain⟨t,z,rfl,h⟩:=(Zz h);obtain⟨n,rfl,h⟩:=(Qu h);obtain⟨u,v,rfl,h⟩:=(XF h);walk_at"rk";exact h
theorem Vf.set{q:Str}{o:OO}(h:Vf M p q)(t:∀ B,M a≠some (.ext B)):Vf (Zs M a o) p q:=by
 obtain⟨l,e,g⟩:=h;exact⟨l,by rw[Zj (λz=>t _ (z▸e))];exact e,λx r=>⟨(g x r).1,by rw[Zj (λz=>t _ (z▸(g x r).2))];exact(g x r).2⟩⟩
theorem Kq.set{T:Tx w K mg base}{M2:Mp}{o:OO}(k:Kq T M M2)(h:M a=none)(l:∀ r,M2 a≠some (.ext r)):Kq T M (Zs M2 a o):=⟨k.1.set l,λb t g=>by
 rw[Zj (λz=>g (by rw[z];exact h))]
 exact k.2 b t g⟩
theorem LM{v:Vw}{ns:List Str}{k:Th}(h:v.ts[i]?=some k):QS ⟨v.ls,v.ts.take (i+1)⟩ tm ns=QS ⟨v.ls,v.ts.take i⟩ tm ns++(if ns.contains k.n then QP (lsR v.ls) (lsR v.ls) tm k (gk k)else[]):=by
 have e:v.ts.take (i+1)=v.ts.take i++[k]:=by
  have:=take_snoc id h;simp only[List.map_id_fun,id]at this;exact this.symm
 unfold QS;show(((v.ts.take (i+1)).filter _).flatMap _)=((v.ts.take i).filter _).flatMap _++_;rw[e,bv,dH]
 congr 1
 by_cases c:ns.contains k.n=true
 ·simp only[List.filter_cons,List.filter_nil,c,if_true,List.flatMap_cons,List.flatMap_nil,List.append_nil]
 ·simp only[List.filter_cons,List.filter_nil,c,if_false,Bool.false_eq_true,List.flatMap_nil]
theorem Xy(ls:List Ld):(lsR ls).map iy=ls.map ldD:=by
 unfold lsR;rw[aC];rfl
theorem T5{rs:List Row}(k:Th):ir rs (gk k):=⟨br _,λs g=>(nomatch g)⟩
theorem Kq.but{T:Tx w K mg base}{g M4:Mp}(k:Kq T M g)(D:M q=none)(B:∀ E,g q≠some (.ext E))(h:∀ a,a≠q->M4 a=g a):Kq T M M4:=by
 obtain⟨⟨l,e,r⟩,G⟩:=k;refine⟨⟨l,by rw[h _ (λz=>B _ (z▸e))];exact e,λx t=>⟨(r x t).1,by rw[h _ (λz=>B _ (z▸(r x t).2))];exact(r x t).2⟩⟩,λa I C=>?_⟩;rw[h a (λz=>C (by rw[z];exact D))];exact G a I C
theorem Ws(T:Tx w K mg base):Qx P w K mg base CX0 15 T.YT T.Y7 ["view","told"] (lift K (nw T)):=by
 refine okD T.YR.F Q5 (λxs M Φ h=>by obtain⟨_,_,rfl,_⟩:=Zz h;rfl) λa4 A a2 s H E hr=>⟨_,(Zd (Zl 2 Q5.nd (ZI false (Zn (sc:=Zf QN) (XN:=["view","told","names","rows","known"]) (N:=["telling"]) (ix:=[none]) rfl rfl (by walk_at"k")) (ZU (Zb 1)) (λC J s H=>(Zm 0 (show List.Nodup (["telling"]:List Str) by walk_at"k"))) (λC J s H=>Z8) (λC J s H=>(Zh (Zb 0) Zc)) rfl))
 (Zd (Zl 3 Q5.nd (Qi Ze))
 (Zd (Gk (Zh (Zb 0) Zc) (Zm 4 Q5.nd) (Zi (QJ (ZC (jl hr) (Zh (Zb 4) Zc) (Zb 2)) (Zi (Qh (Js (Zb 3) (cO T.Q2 (Jx T) hr (Za (Zb 4) (Za (cO T.Vr (YO T) hr (Za (Zh (Zb 4) Zc) (Za (Zh (Zb 4) Zc) Ze))) (Za (Zh (Zh (Zb 1) Zc) Zc) (Za (Zh (Zb 0) Zc) (Za (Zh (Zb 0) Zc) Ze))))))))) ZO)) bj rfl)
 (Zi (Zq (VE (Za (Zw (Za (Zh (Zb 0) Zc) (Za (Qd Jm rfl T.Xz VO (Za (ZI false (Zn (sc:=Zf QN) (XN:=["view","told","names","rows","known"]) (N:=["known","names"]) (ix:=[none,some 2]) rfl rfl (by walk_at"k")) (Yc (Zh (Zb 0) Zc)) (λC J s H=>(Zm 0 (show List.Nodup (["known","names"]:List Str) by walk_at"k"))) (λC J s H=>(Qo (ZC (Kc hr) (Zh (Zb 0) Zc) (Zb 1)))) (λC J s H=>(Zb 0)) rfl) Ze)) Ze))) (Za (Zb 3) Ze)))))))),λxs M Φ h=>?_⟩
 obtain⟨x1,x2,rfl,h⟩:=(Zz h);obtain⟨v,rfl,h⟩:=h;obtain⟨r,rfl,⟨⟨hR,a5,Y⟩,hl,ht⟩,hT,h⟩:=h;rw[Ky];walk_at"h";have len:=aa (as:=r) tlD;refine⟨by rw[len];lia,λi B M'=>B=((r.take i).map nmT).map PyData.str/\M' =M,⟨rfl,rfl⟩,?_,?_⟩
 ·rintro i d B M' hd ⟨rfl,rfl⟩;obtain⟨x,J,rfl⟩:=Zp hd;rw[Z6];walk_at"rk";rw[aC,aC];exact take_snoc (PyData.str∘nmT) J
 ·rintro B M' ⟨rfl,rfl⟩;rw[len,av];have a0:∀ s∈r.map nmT,QF s:=λs hs=>by
   obtain⟨t,m,rfl⟩:=af.mp hs;exact ht t m
  walk_at"h";intro q O;walk_at"h";have G:=aa (as:=v.ts) thD;have nl:∀{M2:Mp}{ds:List PyData},M2 q=some (.lst ds)->∀ φ,M2 q≠some (.ext φ):=λe φ z=>by
   rw[e]at z;cases z
  have nk:q≠T.Zg:=λz=>by
   obtain⟨l,e,_⟩:=hT;rw[z,e]at O;cases O
  refine⟨λi Δ M2=>∃ k4,Δ=[some (.dat (.tuple [.tuple (v.ls.map ldD),.tuple (v.ts.map thD)])),some (.dat (.list (r.map tlD))),some (.dat (.list ((r.map nmT).map PyData.str))),some (.own q),k4]/\Kq T M' M2/\(QS ⟨v.ls,v.ts.take i⟩ (tmH r) (r.map nmT)).length<=200*i/\M2 q=some (.lst ((QS ⟨v.ls,v.ts.take i⟩ (tmH r) (r.map nmT)).map rwD)),⟨_,rfl,(Kq.refl hT).set O (λφ z=>by rw[O]at z;cases z),ak _,Zk⟩,?_,?_⟩
  ·rintro i d Δ M2 hd ⟨k4,rfl,hK,L,g⟩;obtain⟨k,U,rfl⟩:=Zp hd;have hk:=Y k (az U);have hi:i<v.ts.length:=(aE.mp U).1;have sn:=LM (tm:=tmH r) (ns:=r.map nmT) U;generalize QS ⟨v.ls,v.ts.take i⟩ (tmH r) (r.map nmT)=rs at*;rw[show thD k=.tuple [.str k.n,.tuple [.int k.u,.int k.v],.tuple (k.ss.map stD)]from rfl];walk_at"rk";refine⟨iW hk.2 a0,?_⟩;rw[YN]
   by_cases c:(r.map nmT).contains k.n=true
   ·rw[aw c]at sn;rw[aw c,g,Zv];simp only[EN];walk_at"rk";obtain⟨I,D,rfl⟩:∃ I D,r=I::D:=by
     cases r with
     |nil=>simp at c
     |cons I D=>exact⟨I,D,rfl⟩
    rw[ai,Z6 I];walk_at"rk";refine⟨k,rfl,gk k,rfl,lsR v.ls,by rw[Xy],lsR v.ls,by rw[Xy],⟨hR,hR,hk.1,T5 k⟩,hK.1,λgs cs M3 hg hc k3 b hb=>?_⟩;have e3:M3 q=M2 q:=k3.2 q nk (by rw[g];exact aN _);have nb:b≠q:=λz=>by
     rw[z,e3,g]at hb;cases hb
    obtain⟨a3,lr⟩:=C2 (tm:=tmT I) hg hc hk.1.1 (br _);rw[Zj (be nb),e3,g,Zv,a3];have a1:QS ⟨v.ls,v.ts.take (i+1)⟩ (tmH (I::D)) (nmT I::D.map nmT)=rs++QP (lsR v.ls) (lsR v.ls) (tmT I) k (gk k):=sn;refine⟨nb,by rw[aa,aa];lia,_,rfl,(hK.trans k3).but O (nl (e3.trans g)) λa na=>?_,?_,?_⟩
    ·by_cases z:a=b
     ·rw[z,Jb,hb]
     ·rw[ZG z,Zj na,Zj z]
    ·rw[a1,aB];lia
    ·rw[ZG (be nb),Zk,a1,al]
   ·rw[ao c]at sn;rw[ao c,sn,aU];exact⟨_,rfl,hK,by lia,g⟩
  ·rintro Δ M2 ⟨k4,rfl,hK,L,g⟩;rw[G,av]at g L;subst_vars;walk_at"rk";refine⟨by rw[G];lia,λi B M'=>B=((v.ts.take i).filter λk=>!(r.map nmT).contains k.n).map thD/\M' =M2,⟨rfl,rfl⟩,?_,?_⟩
   ·rintro i d B M3 hd ⟨rfl,rfl⟩;obtain⟨k,U,rfl⟩:=Zp hd;have hk:=Y k (az U);have e:v.ts.take (i+1)=v.ts.take i++[k]:=by
     have:=take_snoc id U;simp only[List.map_id_fun,id]at this;exact this.symm
    rw[show DV.dat (thD k)=.dat (.tuple [.str k.n,.tuple [.int k.u,.int k.v],.tuple (k.ss.map stD)])from rfl];walk_at"rk";refine⟨iW hk.2 a0,?_⟩;rw[YN];cases c:(r.map nmT).contains k.n with
    |true=>
     rw[eB,ao ae];rw[e,bv,al];simp only[List.filter_cons,c,Bool.not_true,Bool.false_eq_true,if_false,List.filter_nil,List.map_nil,List.append_nil]
    |false=>
     rw[gI,aw rfl];rw[e,bv,al];simp only[List.filter_cons,c,Bool.not_false,if_true,List.filter_nil,List.map_cons,List.map_nil]
   ·rintro B M3 ⟨rfl,rfl⟩;rw[G,av];exact⟨rfl,h q M3 O hK L g⟩
noncomputable def TK(n:Str)(p:Str×Int):PyData:=.tuple [.str n,.str p.1,.int p.2,.none]
noncomputable def gy(ts:List Th):List PyData:=ts.flatMap λk=>k.ss.map (TK k.n)
theorem Nb{ts:List Th}{k:Th}(h:ts[i]?=some k):gy (ts.take (i+1))=gy (ts.take i)++k.ss.map (TK k.n):=by
 have e:ts.take (i+1)=ts.take i++[k]:=by
  have:=take_snoc id h;simp only[List.map_id_fun,id]at this;exact this.symm
 unfold gy;rw[e,dH,cK,g_,aU]
theorem Od{X Y Z:OO}(g:Zs M q X p=none)(n:p≠q):Q4 (Zs (Zs (Zs M q X) p Y) q Z) p=Zs M q Z:=by
 funext a
 by_cases z:a=p
 ·rw[z,Jb,Zj n,<-g,Zj n]
 ·rw[ZG z]
  by_cases y:a=q
  ·rw[y,Zk,Zk]
  ·rw[Zj y,Zj z,Zj y,Zj y]
def SY:DSp:=λxs M Φ=>on1 xs λx=>Mb x λv=>(v.ts.length<=1000/\∀t∈v.ts,t.ss.length<=100)/\∀q,M q=none->Φ (.own q) (Zs M q (.lst (gy v.ts)))
theorem tu(T:Tx w K mg base):Qx P w K mg base CX0 1 T.OA T.P4 ["view"] (lift K SY):=by
 refine okD T.NF.F UX (λxs M Φ h=>by obtain⟨_,rfl,_⟩:=ZP h;rfl) λU A r s H E hr=>⟨_,(Zd (Zl 1 UX.nd (Qi Ze))
 (Zd (Gk (Zh (Zb 0) Zc) (Zm 2 UX.nd) (Zi (Qh (Js (Zb 1) (ZI true (Zn (sc:=Zf U5) (XN:=["view","told","known"]) (N:=["stay","known"]) (ix:=[none,some 2]) rfl rfl (by walk_at"k")) (Yc (Zh (Zb 2) Zc)) (λC L s H=>(Zm 0 (show List.Nodup (["stay","known"]:List Str) by walk_at"k"))) (λC L s H=>Z8) (λC L s H=>(Zw (Za (Zh (Zb 1) Zc) (Za (Zh (Zb 0) Zc) (Za (Zh (Zb 0) Zc) (Za W7 Ze)))))) rfl)))) bj rfl)
 (Zi (Zq (Zb 1))))),λxs M Φ h=>?_⟩
 obtain⟨x1,rfl,h⟩:=(ZP h);obtain⟨v,rfl,⟨hv,Y⟩,h⟩:=h;rw[Ky];walk_at"h";intro q hq;walk_at"h";have l:=aa (as:=v.ts) thD;refine⟨λi Δ M2=>∃ t,Δ=[some (.dat (.tuple [.tuple (v.ls.map ldD),.tuple (v.ts.map thD)])),some (.own q),t]/\(gy (v.ts.take i)).length<=100*i/\M2=Zs M q (.lst (gy (v.ts.take i))),⟨_,rfl,ak _,rfl⟩,?_,?_⟩
 ·rintro i d Δ M2 hd ⟨t,rfl,B,rfl⟩;obtain⟨k,D,rfl⟩:=Zp hd;have hk:=Y k (az D);have hi:i<v.ts.length:=(aE.mp D).1;have O:=Nb D;rw[show thD k=.tuple [.str k.n,.tuple [.int k.u,.int k.v],.tuple (k.ss.map stD)]from rfl];walk_at"rk";refine⟨by rw[aa];lia,λj g M'=>g=(k.ss.take j).map (TK k.n)/\M' =Zs M q (.lst (gy (v.ts.take i))),⟨rfl,rfl⟩,?_,?_⟩
  ·rintro j d g M' G ⟨rfl,rfl⟩;obtain⟨p,ep,rfl⟩:=Zp G;rw[show stD p=.tuple [.str p.1,.int p.2]from rfl];walk_at"rk";exact take_snoc (TK k.n) ep
  ·rintro g M' ⟨rfl,rfl⟩ p I;rw[aa,av];have J:p≠q:=λz=>by
    rw[z,Zk]at I;cases I
   rw[Zj (be J),Zk,Zv];refine⟨J,by rw[aa];lia,_,rfl,by rw[O,aB,aa];lia,?_⟩;rw[Od I J,O]
 ·rintro Δ M2 ⟨t,rfl,B,rfl⟩;rw[l,av];subst_vars;walk_at"rk";exact h q hq
theorem Qn{g:DTG}{v:DV}{r:DTS}{D:Qt}(h:∀ E:Qt,(True->E=D)->g v Δ M λl M2=>r E l M2):g v Δ M λl M2=>r D l M2:=h D λ_=>rfl
theorem BJ(ss:List Str)(u v:Int):∀(ls:List Ld)(g:List Str),(ls.foldl (Xk ss u v) g).Sublist (g++ls.map (·.n))
 |[],g=>by
  rw[cw,aU];exact gS _
 |l::ls,g=>by
  rw[bg];refine(BJ ss u v ls (Xk ss u v g l)).trans ?_;rw[ai];unfold Xk
  split
  ·rw[bt];exact gS _
  ·exact(gS g).append (List.sublist_cons_self ..)
theorem sC{ss:List Str}{u v:Int}{ls:List Ld}(h:(ls.map (·.n)).Nodup):(JN ss u v ls).Nodup:=gJ (BJ ss u v ls []) h
open Classical in
noncomputable def Vx(ls:List Ld)(ss:List Str)(u v:Int):List Str:=if h:∃ l g,CC ls g/\l.Perm (JN ss u v g)/\(l.map PyData.str).Pairwise leD then h.choose else[]
theorem SX{ls g:List Ld}{ss ns:List Str}{u v:Int}(z:Wr ls)(h:CC ls g)(l:ns.Perm (JN ss u v g))(r:(ns.map PyData.str).Pairwise leD):ns=Vx ls ss u v:=by
 unfold Vx;rw[hW ⟨ns,g,h,l,r⟩];obtain⟨D,B,t,C⟩:=fH (⟨ns,g,h,l,r⟩:∃ ns g,CC ls g/\ns.Perm (JN ss u v g)/\(ns.map PyData.str).Pairwise leD);rw[CC.uniq z B h]at t;exact LD (l.trans t.symm) r C
theorem Cd{ls:List Ld}(z:Wr ls)(ss:List Str)(u v:Int):(Vx ls ss u v).Nodup/\(∀s∈Vx ls ss u v,∃l∈ls,l.n=s/\Pk ls l=true)/\(Vx ls ss u v).length<=24:=by
 unfold Vx
 split
 ·next h=>
  obtain⟨C,g,r,E⟩:=h.choose_spec;have D:(C.map (·.n)).Nodup:=(g.1.map (·.n)).nodup_iff.mpr (gJ (List.filter_sublist.map _) z.nodup);refine⟨r.nodup_iff.mpr (sC D),λs t=>?_,?_⟩
  ·exact Kr (P:=λs=>∃ l∈ls,l.n=s/\Pk ls l=true) (λl B=>⟨l,g.mem B,rfl,(ah.mp (g.1.mem_iff.mp B)).2⟩) s (r.mem_iff.mp t)
  ·rw[r.length_eq];exact aA (Kt ..) (aA g.len z.1)
 ·exact⟨.nil,λs t=>(nomatch t),br _⟩
noncomputable def iw(ss:List (Str×Int))(s:Str)(tm:Int):Int:=((ss.find? λp=>decide (p.1=s)).map (·.2)).getD tm
theorem Ht(s:Str)(tm:Int):∀ ss:List (Str×Int),(Jh (ss.map λp=>((.inr p.1:Key),PyData.int p.2)) (.inr s)).getD (.int tm)=.int (iw ss s tm)
 |[]=>rfl
 |p::ss=>by
  have g:=Ht s tm ss;unfold Jh iw at g⊢;rw[ai]
  by_cases e:p.1=s
  ·rw[aH (by simpa using e),aH (by simpa using e)];rfl
  ·rw[aK (by simpa using e),aK (by simpa using e)];exact g
theorem uV{ss:List (Str×Int)}(h:(ss.map (·.1)).Nodup):YF (ss.map λp=>(p.1,PyData.int p.2))=ss.map λp=>((.inr p.1:Key),PyData.int p.2):=by
 unfold YF;rw[Xc _ _ (by rw[aC];exact h) λp _ q g=>by cases g];rw[fE,aC];rfl
noncomputable def Qz(ls:List Ld)(k:Th)(tm:Int):Th:=⟨k.n,k.u,k.v,(Vx ls (lnT k) k.u k.v).map λs=>(s,iw k.ss s tm)⟩
theorem UW{o:OO}(h:M p=none):Q4 (Zs M p o) p=M:=by
 funext a
 by_cases z:a=p
 ·rw[z,Jb,h]
 ·rw[ZG z,Zj z]
def SW:DSp:=λxs M Φ=>on3 xs λx y z=>Bq x λg=>iC y λk=>onI z λtm=>(Wr g/\h_ g/\(∀l∈g,LdS l)/\k.ss.length<=100/\(lnT k).Nodup/\∀s∈lnT k,QF s)/\Φ (.dat (thD (Qz g k tm))) M
theorem XO(T:Tx w K mg base):Qx P w K mg base CX0 8 T.K8 T.Wf ["lands","known","time"] (lift K SW):=by
 refine okD T.Yv.F Vy (λxs M Φ h=>by obtain⟨_,_,_,rfl,_⟩:=QA h;rfl) λG A r s H E B=>⟨_,(Zd (Zl 3 Vy.nd (vF (Qd (xr rfl) rfl T.Bo Kj (Za (Zh (Zb 1) Zc) Ze))))
 (Zd (Zl 4 Vy.nd (cO T.Hm (PD T) B (Za (Zb 0) (Za (Qd (MO rfl) rfl T.mv S8 (Za (Zb 3) Ze)) (Za (Zh (Zb 1) Zc) Ze)))))
 (Zi (Zq (Zw (Za (Zh (Zb 1) Zc) (Za (Zh (Zb 1) Zc) (Za (Qd Jm rfl T.Xz VO (Za (ZI false (Zn (sc:=Zf J8) (XN:=["lands","known","time","begins","names"]) (N:=["name","time","begins"]) (ix:=[none,some 2,some 3]) rfl rfl (by walk_at"k")) (ZU (Zb 4)) (λC D s H=>(Zm 0 (show List.Nodup (["name","time","begins"]:List Str) by walk_at"k"))) (λC D s H=>Z8) (λC D s H=>(Zw (Za (Zb 0) (Za (tw B (Zb 2) (Zb 0) (Zb 1)) Ze)))) rfl) Ze)) Ze)))))))),λxs M Φ h=>?_⟩
 obtain⟨x1,x2,x3,rfl,h⟩:=(QA h);obtain⟨l,rfl,k,rfl,h⟩:=h;obtain⟨tm,rfl,⟨t,I,z,J,L,O⟩,h⟩:=(ZJ h);rw[show thD k=.tuple [.str k.n,.tuple [.int k.u,.int k.v],.tuple (k.ss.map stD)]from rfl];walk_at"h";refine⟨k.ss.map λp=>(p.1,PyData.int p.2),by rw[aC];rfl,λp U=>?_⟩;rw[UW U,uV L];walk_at"h";refine⟨_,rfl,by rw[aa];exact aA J (by decide),l,rfl,lnT k,by unfold lnT;rw[aC,aC];rfl,?_⟩;walk_at"rk";refine⟨⟨t,I,z,O⟩,λY ns h1 h2 h3=>?_⟩;rw[SX t h1 h2 h3];obtain⟨_,_,nl⟩:=Cd t (lnT k) k.u k.v;have len:=aa (as:=Vx l (lnT k) k.u k.v) PyData.str;subst_vars;walk_at"rk";refine⟨by lia,λi g M'=>g=((Vx l (lnT k) k.u k.v).take i).map (λs=>PyData.tuple [.str s,.int (iw k.ss s tm)])/\M' =M,⟨rfl,rfl⟩,?_,?_⟩
 ·rintro i d g M' hd ⟨rfl,rfl⟩;obtain⟨s',es,rfl⟩:=Zp hd;walk_at"rk";refine⟨_,rfl,?_⟩;dsimp only;rw[Ht];exact take_snoc _ es
 ·rintro g M' ⟨rfl,rfl⟩;rw[len,av];have e:thD (Qz l k tm)=.tuple [.str k.n,.tuple [.int k.u,.int k.v],.tuple ((Vx l (lnT k) k.u k.v).map λs=>PyData.tuple [.str s,.int (iw k.ss s tm)])]:=by
   unfold thD Qz;rw[aC];rfl
  rw[<-e];exact h
open Classical in
noncomputable def upF{g:Type}(f:g->Str)(l:List g):List g:=if h:∃ a:List g,a.Perm l/\a.Pairwise (λx y=>(f x).cps.toList<(f y).cps.toList)then h.choose else l
theorem Ck{h:Type}{f:h->Str}{l a:List h}(r:a.Perm l)(g:a.Pairwise λx y=>(f x).cps.toList<(f y).cps.toList):a=upF f l:=by
 unfold upF;rw[hW ⟨a,r,g⟩];obtain⟨t,z⟩:=fH (⟨a,r,g⟩:∃ a:List h,a.Perm l/\a.Pairwise (λx y=>(f x).cps.toList<(f y).cps.toList));exact dE (le:=λx y=>(f x).cps.toList<(f y).cps.toList) (λx y _ _ B C=>absurd (List.lt_trans B C) (dL _)) g z (r.trans t.symm)
def LdG(NM:List Str)(l:Ld):Prop:=l.n∈NM/\jS l/\LdS l/\QF l.n/\QF l.o
def ThG(NM:List Str)(ls:List Ld)(t:Th):Prop:=t.n∈NM/\QF t.n/\(lnT t).Nodup/\t.ss.length<=24/\∀s∈lnT t,∃l∈ls,l.n=s/\Pk ls l=true
structure VwS(NM:List Str)(v:Vw):Prop where
 few:NM.length<=24
 lup:v.ls.Pairwise λa b=>a.n.cps.toList<b.n.cps.toList
 lok:∀ l∈v.ls,LdG NM l
 tup:v.ts.Pairwise λa b=>a.n.cps.toList<b.n.cps.toList
 tok:∀ t∈v.ts,ThG NM v.ls t
def TlG(NM:List Str)(t:Tl):Prop:=nmT t∈NM/\TlS t/\QF (nmT t)/\∀tm g h l r,t=.land tm g h l r->LdG NM ⟨g,h,l,r⟩
theorem Cc{g:Type}[DecidableEq g]:∀{l m:List g},l.Nodup->(∀x∈l,x∈m)->l.length<=m.length
 |[],_,_,_=>br _
 |a::l,m,h,s=>by
  obtain⟨z,B⟩:=cv.mp h;have r:=s a aj;have:=Cc (l:=l) (m:=m.erase a) B λx t=>(List.mem_erase_of_ne λ(e:x=a)=>z (e▸t)).mpr (s x (aq _ t));rw[List.length_erase_of_mem r]at this;have:=List.length_pos_of_mem r;rw[a_];lia
theorem G2{r:Type}{f:r->Str}{l:List r}{NM:List Str}(h:l.Pairwise λa b=>(f a).cps.toList<(f b).cps.toList)(m:∀ a∈l,f a∈NM):l.length<=NM.length:=by
 have t:(l.map f).Nodup:=by
  rw[bz,bd];exact h.imp λg e=>absurd g (by rw[e];exact dL _)
 have:=Cc t (m:=NM) λx z=>by
  obtain⟨a,B,rfl⟩:=af.mp z;exact m a B
 rwa [aa]at this
theorem VwS.ord{v:Vw}(h:VwS NM v):Wr v.ls:=⟨aA (G2 h.lup λl g=>(h.lok l g).1) h.few,λl g=>(h.lok l g).2.1,h.lup⟩
theorem VwS.lay{v:Vw}(h:VwS NM v):h_ v.ls:=λl g=>(h.lok l g).2.2.2
theorem VwS.il{v:Vw}(h:VwS NM v):v.ts.length<=24:=aA (G2 h.tup λl g=>(h.tok l g).1) h.few
theorem ThG.Td{ls:List Ld}{t:Th}(h:ThG NM ls t)(g:h_ ls):∀ s∈lnT t,QF s:=λs r=>by
 obtain⟨l,z,rfl,_⟩:=h.2.2.2.2 s r;exact(g l z).1
theorem rX{ls:List Ld}{l:Ld}(h:Pk ls l=true):∃ n,lev (lsR ls) (lsR ls).length l.n=some n:=ft.mp h
theorem ThG.h{ls:List Ld}{t:Th}(h:ThG NM ls t):t.ss.length<=100:=aA h.2.2.2.1 (by decide)
theorem ThG.ok{ls:List Ld}{t:Th}(h:ThG NM ls t)(r:h_ ls):ir (lsR ls) t:=⟨h.h,λs g=>⟨h.Td r s g,by
 obtain⟨l,z,rfl,e⟩:=h.2.2.2.2 s g
 exact rX e⟩⟩
theorem N6{ls:List Ld}(h:Wr ls):ik (lsR ls):=⟨by unfold lsR;rw[aa];exact aA h.1 (by decide),h.ng⟩
theorem VwS.ok{v:Vw}(h:VwS NM v):kK v:=⟨N6 h.ord,aA h.il (by decide),λt g=>⟨(h.tok t g).ok h.lay,(h.tok t g).2.1⟩⟩
theorem Xg{ls:List Ld}{k:Th}(g:Wr ls)(h:k.n∈NM)(l:QF k.n):ThG NM ls (Qz ls k tm):=by
 obtain⟨r,t,z⟩:=Cd g (lnT k) k.u k.v;have e:lnT (Qz ls k tm)=Vx ls (lnT k) k.u k.v:=by
  unfold lnT Qz;rw[aC];exact eX _
 exact⟨h,l,by rw[e];exact r,by show(List.map _ _).length<=24;rw[aa];exact z,by rw[e];exact t⟩
noncomputable def GI(ls:List Ld)(ts:List Tl):List Ld:=upF (·.n) (D5 ls ts)
noncomputable def VC(v:Vw)(ts:List Tl):Vw:=if ts=[]then v else⟨GI v.ls ts,v.ts.map λk=>Qz (GI v.ls ts) k (tmH ts)⟩
noncomputable def JY(v:Vw)(ts:List Tl):List Rw:=if ts=[]then[]else v.ts.flatMap λk=>QP (lsR v.ls) (lsR (GI v.ls ts)) (tmH ts) k (Qz (GI v.ls ts) k (tmH ts))
theorem TlG.l{t:Tl}(h:TlG NM t):TlL t:=⟨h.2.1.1,λtm g r z B e=>(h.2.2.2 tm g r z B e).2.2.1⟩
theorem Tc:∀{ts:List Tl}{ls:List Ld},(∀l∈ls,LdG NM l)->(∀t∈ts,TlG NM t)->∀ l∈D5 ls ts,LdG NM l
 |[],_,h,_=>h
 | t::ts,ls,h,k=>by
  refine Tc (ts:=ts) (ls:=Mf ls t) (λl g=>?_) λt B=>k t (aq _ B);have z:∀ r:Str,∀l∈ls.filter (λl=>decide (l.n≠r)),LdG NM l:=λr l g=>h l (ah.mp g).1;cases t with
  |land tm r C D E=>
   rcases ax.mp g with g|g
   ·exact z r l g
   ·rw[au.mp g];exact(k _ aj).2.2.2 tm r C D E rfl
  |spot _ r=>exact z r l g
  |off _ _ r=>exact z r l g
theorem KJ(h:M a=none)(g:Heap->Prop):M a≠some (.ext g):=λz=>by
 rw[h]at z;cases z
theorem QH(h:M a=some (.lst ds))(g:Heap->Prop):M a≠some (.ext g):=λz=>by
 rw[h]at z;cases z
def MY(T:Tx w K mg base):DSp:=λxs M Φ=>on2 xs λx y=>Mb x λv=>QK y λg=>(∃NM,VwS NM v/\g.length<=900/\∀t∈g,TlG NM t)/\Vf M T.Zg YV/\
 ∀q M',M q=none->Kq T M M'->(JY v g).length<=4800->M' q=some (.lst ((JY v g).map rwD))->Φ (.mix [.dat (vwD (VC v g)),.own q]) M'
theorem CV(T:Tx w K mg base):Qx P w K mg base CX0 15 T.Ui T.W5 ["view","told"] (lift K (MY T)):=by
 refine okD T.Um.F QX (λxs M Φ h=>by obtain⟨_,_,rfl,_⟩:=Zz h;rfl) λa6 A a2 s H E hr=>⟨_,(Zd (QJ (ZC (wm hr) (Zb 1) (QU Ze)) (Zi (Zq (VE (Za (Zb 0) (Za (Qi Ze) Ze))))) ZO)
 (Zd (Zl 2 QX.nd (cO T.Yg (KR T) hr (Za (Zh (Zb 0) Zc) (Za (Zb 1) Ze))))
 (Zd (Zl 3 QX.nd (Qi Ze))
 (Zd (Zl 4 QX.nd (Qi Ze))
 (Zd (Gk (Zh (Zb 0) Zc) (Zm 5 QX.nd) (Zd (Zl 6 QX.nd (cO T.Yv (XO T) hr (Za (Zb 2) (Za (Zb 5) (Za (Zh (Zh (Zb 1) Zc) Zc) Ze)))))
 (Zd (Qh (QB (Zb 3) (Zb 6)))
 (Zi (Qh (Js (Zb 4) (cO T.Q2 (Jx T) hr (Za (Zb 5) (Za (Zb 6) (Za (Zh (Zh (Zb 1) Zc) Zc) (Za (Zh (Zb 0) Zc) (Za (Zb 2) Ze))))))))))) bj rfl)
 (Zi (Zq (VE (Za (Zw (Za (Zb 2) (Za (Qd Jm rfl T.Xz VO (Za (Q9 (Zb 3)) Ze)) Ze))) (Za (Zb 4) Ze)))))))))),λxs M Φ h=>?_⟩
 obtain⟨x1,x2,rfl,h⟩:=(Zz h);obtain⟨v,rfl,h⟩:=h;obtain⟨ts,rfl,⟨NM,J,D,ht⟩,hT,h⟩:=h;rw[Ky];walk_at"h";rw[List.isEmpty_map];cases ts with
 |nil=>
  rw[List.isEmpty_nil,aw rfl];intro p L;exact⟨by decide,h p _ L ((Kq.refl hT).set L (λφ z=>by rw[L]at z;cases z)) (br _) Zk⟩
 |cons r B=>
 rw[List.isEmpty_cons,ao ae];have eV:VC v (r::B)=⟨GI v.ls (r::B),v.ts.map λk=>Qz (GI v.ls (r::B)) k (tmT r)⟩:=ao (gX _ _);have eR:JY v (r::B)=v.ts.flatMap λk=>QP (lsR v.ls) (lsR (GI v.ls (r::B))) (tmT r) k (Qz (GI v.ls (r::B)) k (tmT r)):=ao (gX _ _);rw[eV,eR]at h;have a3:=Tc J.lok ht;have lv:=J.il;walk_at"h";refine⟨v.ls,rfl,r::B,rfl,⟨aA (Nat.add_le_add J.ord.1 D) (by decide),λl D=>(J.lok l D).2.2.1,J.ord.nodup,λt h=>(ht t h).l⟩,λg p1 p2=>?_⟩;have hG:∀ l∈g,LdG NM l:=λl D=>a3 l (p1.mem_iff.mp D);rw[show GI v.ls (r::B)=g from(Ck p1 p2).symm]at h;have ho:Wr g:=⟨aA (G2 p2 λl D=>(hG l D).1) J.few,λl D=>(hG l D).2.1,p2⟩
 have hy:h_ g:=λl D=>(hG l D).2.2.2;walk_at"h";intro p L;walk_at"h";intro q hq;walk_at"h";have Y:=aa (as:=v.ts) thD;have I:p≠q:=λz=>by
  rw[<-z,Zk]at hq;cases hq
 have O:M q=none:=by rwa [Zj (be I)]at hq
 have nk:∀{a:Addr},M a=none->a≠T.Zg:=λe z=>by
  obtain⟨l,e',_⟩:=hT;rw[z,e']at e;cases e
 generalize hf:(λk=>QP (lsR v.ls) (lsR g) (tmT r) k (Qz g k (tmT r)))=f at h;refine⟨λi Δ M2=>∃ k5 k6,Δ=[some (.dat (.tuple [.tuple (v.ls.map ldD),.tuple (v.ts.map thD)])),some (.dat (.list ((r::B).map tlD))),some (.dat (.tuple (g.map ldD))),some (.own p),some (.own q),k5,k6]/\Kq T M M2/\((v.ts.take i).flatMap f).length<=200*i/\M2 p=some (.lst (((v.ts.take i).map λk=>Qz g k (tmT r)).map thD))/\M2 q=some (.lst (((v.ts.take i).flatMap f).map rwD)),⟨_,_,rfl,((Kq.refl hT).set L (KJ L)).set O (KJ hq),ak _,by rw[Zj I,Zk];rfl,Zk⟩,?_,?_⟩
 ·rintro i d Δ M2 hd ⟨k5,k6,rfl,hK,a0,C,G⟩;obtain⟨k,ek,rfl⟩:=Zp hd;have U:=J.tok k (az ek);have hi:i<v.ts.length:=(aE.mp ek).1;have tk:v.ts.take (i+1)=v.ts.take i++[k]:=by
   have:=take_snoc id ek;simp only[List.map_id_fun,id]at this;exact this.symm
  have sk:ThG NM g (Qz g k (tmT r)):=Xg ho U.1 U.2.1;have sn:(v.ts.take (i+1)).flatMap f=(v.ts.take i).flatMap f++f k:=by rw[tk,dH,cK,g_,aU]
  have sp:((v.ts.take (i+1)).map λk=>Qz g k (tmT r)).map thD=((v.ts.take i).map λk=>Qz g k (tmT r)).map thD++[thD (Qz g k (tmT r))]:=by rw[tk,al,al];rfl
  have lp:=fo i v.ts;have a7:(((v.ts.take i).map λk=>Qz g k (tmT r)).map thD).length=(v.ts.take i).length:=by rw[aa,aa]
  generalize(v.ts.take i).flatMap f=rs at*;generalize((v.ts.take i).map λk=>Qz g k (tmT r)).map thD=us at*;rw[show(r::B).map tlD=tlD r::B.map tlD from rfl,Z6 r];refine Qn λE hE=>?_;walk_at"rk";simp only[SW];walk_at"rk";refine⟨g,rfl,k,rfl,⟨ho,hy,λl D=>(hG l D).2.2.1,U.h,U.2.2.1,U.Td J.lay⟩,?_⟩;have q2:Zs M2 p (.lst (us++[thD (Qz g k (tmT r))])) q=M2 q:=Zj I.symm;rw[C,Zv,Zv,q2,G,Zv];have a4:Vf (Zs M2 p (.lst (us++[thD (Qz g k (tmT r))]))) T.Zg YV:=hK.1.set (QH C);refine⟨by lia,k,rfl,Qz g k (tmT r),rfl,lsR v.ls,by rw[Xy],lsR g,by rw[Xy],⟨N6 J.ord,N6 ho,U.ok J.lay,sk.ok hy⟩,a4,λgs cs M3 hg hc k3 b hb=>?_⟩;have e3:M3 q=some (.lst (rs.map rwD)):=by rw[k3.2 q (nk O) (by rw[q2,G];exact aN _),q2,G]
  have e4:M3 p=some (.lst (us++[thD (Qz g k (tmT r))])):=by rw[k3.2 p (nk L) (by rw[Zk];exact aN _),Zk]
  have nb:b≠q:=λz=>by
   rw[z,e3]at hb;cases hb
  have a1:b≠p:=λz=>by
   rw[z,e4]at hb;cases hb
  obtain⟨a5,lr⟩:=C2 (tm:=tmT r) hg hc U.h sk.h;rw[Zj (be nb),e3,Zv,a5];obtain rfl:=hE trivial;have fk:f k=QP (lsR v.ls) (lsR g) (tmT r) k (Qz g k (tmT r)):=by rw[<-hf]
  refine⟨nb,by rw[aa,aa];lia,_,_,by rw[<-Z6],((hK.set L (QH C)).trans k3).but O (QH e3) λa na=>?_,?_,?_,?_⟩
  ·by_cases z:a=b
   ·rw[z,Jb,hb]
   ·rw[ZG z,Zj na,Zj z]
  ·rw[sn,fk,aB];lia
  ·rw[sp,ZG (be a1),Zj I,Zj (be a1),e4]
  ·rw[sn,fk,ZG (be nb),Zk,al]
 ·rintro Δ M2 ⟨k5,k6,rfl,hK,a0,C,G⟩;rw[Y,av]at C G a0;subst_vars;walk_at"rk";rw[C,Zv];exact⟨by decide,h q (Q4 M2 p) O (hK.but L (QH C) λa na=>ZG na) (by lia) (by rw[ZG I.symm];exact G)⟩
noncomputable def XY(m:List Th)(t:Th):List Th:=if(m.any λx=>decide (x.n=t.n))=true then m.map (λx=>if x.n=t.n then t else x)else m++[t]
noncomputable def Ez(m:List Th):List (Key×PyData):=m.map λt=>(.inr t.n,thD t)
theorem rC(a b:Str):decide ((.inr a:Key)=.inr b)=decide (a=b):=decide_eq_decide.mpr ⟨dj,λe=>by rw[e]⟩
theorem sv(m:List Th)(t:Th):VZ (Ez m) (.inr t.n) (thD t)=Ez (XY m t):=by
 unfold VZ XY Ez;rw[List.any_map];have e:(λx=>decide (x.1=(.inr t.n:Key)))∘(λt:Th=>((.inr t.n:Key),thD t))=λx:Th=>decide (x.n=t.n):=by
  funext x
  exact rC x.n t.n
 rw[e]
 split
 ·rw[aC,aC];refine bo λx _=>?_;show(if(.inr x.n:Key)=.inr t.n then((.inr x.n:Key),thD t)else(.inr x.n,thD x))=(λt:Th=>((.inr t.n:Key),thD t)) (if x.n=t.n then t else x)
  by_cases z:x.n=t.n
  ·rw[aw (by rw[z]),aw z,z]
  ·rw[ao λe=>z (dj e),ao z]
 ·rw[al];rfl
noncomputable def knS(m:List Th)(nm:Str)(u w:Int):Th:=(m.find? λx=>decide (x.n=nm)).getD ⟨nm,u,w,[]⟩
theorem EU(nm:Str)(u w:Int):∀ m:List Th,(Jh (Ez m) (.inr nm)).getD (thD ⟨nm,u,w,[]⟩)=thD (knS m nm u w)
 |[]=>rfl
 |x::m=>by
  have g:=EU nm u w m;unfold Jh Ez knS at g⊢;rw[ai]
  by_cases e:x.n=nm
  ·rw[aH (by simpa using e),aH (by simpa using e)];rfl
  ·rw[aK (by simpa using e),aK (by simpa using e)];exact g
theorem S1{ts:List Th}(h:(ts.map (·.n)).Nodup):YF (ts.map λl=>(l.n,thD l))=Ez ts:=by
 unfold YF;rw[Xc _ _ (by rw[aC];exact h) λp _ q g=>absurd g List.not_mem_nil];rw[fE,aC];rfl
noncomputable def Qq(ls:List Ld)(m:List Th)(tm:Int)(nm:Str)(u w:Int):Th:=Qz ls ⟨nm,u,w,(knS m nm u w).ss⟩ tm
noncomputable def QT(ls:List Ld)(st:List Th×List Rw):Tl->List Th×List Rw
 | .spot tm g u w=>(XY st.1 (Qq ls st.1 tm g u w),st.2++QP (lsR ls) (lsR ls) tm (knS st.1 g u w) (Qq ls st.1 tm g u w))
 |_=>st
noncomputable def Q7(v:Vw)(ts:List Tl):List Th×List Rw:=ts.foldl (QT v.ls) (v.ts,[])
noncomputable def Ci(v:Vw)(ts:List Tl):Vw:=⟨v.ls,upF (·.n) (Q7 v ts).1⟩
noncomputable def BN(v:Vw)(ts:List Tl):List Rw:=(Q7 v ts).2
theorem t_(m:List Th)(t:Th):((XY m t).map (·.n))=if t.n∈m.map (·.n)then m.map (·.n)else m.map (·.n)++[t.n]:=by
 unfold XY;have e:(m.any λx=>decide (x.n=t.n))=decide (t.n∈m.map (·.n)):=by
  rw[cu,cE,dz,af];exact⟨λl=>by obtain⟨x,g,z⟩:=l;exact⟨x,g,aY z⟩,λr=>by obtain⟨x,g,z⟩:=r;exact⟨x,g,aI z⟩⟩
 rw[e]
 by_cases z:t.n∈m.map (·.n)
 ·rw[aw (aI z),aw z,aC];refine bo λx _=>?_;show(if x.n=t.n then t else x).n=x.n
  split
  ·next h=>exact h.symm
  ·rfl
 ·rw[ao (by rw[aZ z];exact ae),ao z,al];rfl
theorem FF{m:List Th}{t x:Th}(h:x∈XY m t):x=t\/x∈m:=by
 unfold XY at h
 split at h
 ·obtain⟨y,g,rfl⟩:=af.mp h
  split
  ·exact .inl rfl
  ·exact .inr g
 ·rcases ax.mp h with h|h
  ·exact .inr h
  ·exact .inl (au.mp h)
def N9(NM:List Str)(ls:List Ld)(m:List Th):Prop:=(m.map (·.n)).Nodup/\∀t∈m,ThG NM ls t
theorem N9.put{ls:List Ld}{m:List Th}{t:Th}(h:N9 NM ls m)(l:ThG NM ls t):N9 NM ls (XY m t):=by
 refine⟨?_,λx g=>?_⟩
 ·rw[t_]
  split
  ·exact h.1
  ·next z=>
   rw[cX];refine⟨h.1,by simp,λa r b B=>?_⟩;rw[au.mp B];exact λe=>z (e▸r)
 ·rcases FF g with rfl|g
  ·exact l
  ·exact h.2 x g
theorem N9.len{ls:List Ld}{m:List Th}(h:N9 NM ls m)(g:NM.length<=24):m.length<=24:=by
 have:=Cc h.1 (m:=NM) λx l=>by
  obtain⟨t,r,rfl⟩:=af.mp l;exact(h.2 t r).1
 rw[aa]at this;exact aA this g
theorem mU{ls:List Ld}{m:List Th}{nm:Str}(u w:Int)(h:N9 NM ls m)(g:nm∈NM)(l:QF nm):ThG NM ls (knS m nm u w)/\(knS m nm u w).n=nm:=by
 unfold knS;cases e:m.find? λx=>decide (x.n=nm)with
 |none=>exact⟨⟨g,l,.nil,br _,λs r=>(nomatch r)⟩,rfl⟩
 |some x=>exact⟨h.2 x (dg e),by simpa using fF e⟩
theorem VwS.ths{v:Vw}(h:VwS NM v):N9 NM v.ls v.ts:=⟨by
 rw[bz,bd]
 exact h.tup.imp λg e=>absurd g (by rw[e];exact dL _),h.tok⟩
theorem QV{s:Str}(h:QF s)(n:Nat):(PyData.str s).canLay0=true/\(PyData.str s).depth<=n:=⟨h,by simp[PyData.depth]⟩
theorem mr{t:Th}(h:QF t.n)(l:∀ s∈lnT t,QF s):(thD t).canLay0=true/\(thD t).depth<=3:=by
 have r:(PyData.tuple (t.ss.map stD)).canLay0=true/\(PyData.tuple (t.ss.map stD)).depth<=2:=QZ λd hd=>by
  obtain⟨p,z,rfl⟩:=af.mp hd;exact QZ (n:=0) (Yz (QV (l p.1 (af.mpr ⟨p,z,rfl⟩)) 0) (Q1 p.2 0))
 have g:=FI t.u t.v;refine QZ (n:=2) λd hd=>?_
 rcases aW.mp hd with rfl|hd
 ·exact QV h 2
 ·exact Yz (P:=λd:PyData=>d.canLay0=true/\d.depth<=2) ⟨g.1,aA g.2 (by decide)⟩ r d hd
theorem me(t:Th):pln (thD t)=true:=by
 have g:Vj (t.ss.map stD)=true:=QO _ λd hd=>by
  obtain⟨b,_,rfl⟩:=af.mp hd;simp[stD,pln,Vj]
 simp[thD,pln,Vj,g]
theorem ug(a b:Th):ZW (thD a) (thD b)=true:=by
 have g:∀ t:Th,pln (.tuple (t.ss.map stD))=true:=λt=>by
  rw[pln];exact QO _ λd hd=>by
   obtain⟨b,_,rfl⟩:=af.mp hd;simp[stD,pln,Vj]
 refine Vc (ZF (by simp[pln]) (by simp[pln]) (Yf _ _) λ_=>ZF (by simp[pln,Vj]) (by simp[pln,Vj]) (by simp[ZW,ZN]) λ_=>ZF (g _) (g _) (Vc (VH λx h y l=>?_)) λ_=>by simp[ZN]);obtain⟨u,_,rfl⟩:=af.mp h;obtain⟨v,_,rfl⟩:=af.mp l;simp[stD,ZW,ZN]
theorem wz{m:List Th}(g:m.length<=24)(h:∀ t∈m,QF t.n/\∀s∈lnT t,QF s):Qk (m.map thD):=by
 refine⟨by rw[aa,bL];exact aA g (by decide),.tstr λd hd=>?_,λd hd=>?_,λd hd e l=>?_⟩
 ·obtain⟨t,_,rfl⟩:=af.mp hd;exact⟨_,_,rfl⟩
 ·obtain⟨t,m,rfl⟩:=af.mp hd;have:=mr (h t m).1 (h t m).2;exact⟨me t,this.1,aA this.2 (by decide)⟩
 ·obtain⟨t,m,rfl⟩:=af.mp hd;obtain⟨u,n,rfl⟩:=af.mp l;exact ug t u
def ip(t:Tl):Prop:=∃ tm g u w,t=.spot tm g u w
def Rp(T:Tx w K mg base):DSp:=λxs M Φ=>on2 xs λx y=>Mb x λv=>QK y λg=>(∃NM,VwS NM v/\g.length<=900/\∀t∈g,TlG NM t/\ip t)/\Vf M T.Zg YV/\
 ∀q M',M q=none->Kq T M M'->(BN v g).length<=200*g.length->M' q=some (.lst ((BN v g).map rwD))->Φ (.mix [.dat (vwD (Ci v g)),.own q]) M'
theorem CG(T:Tx w K mg base):Qx P w K mg base CX0 15 T.WV T.Uj ["view","told"] (lift K (Rp T)):=by
 refine okG T.WM.F QG (λxs M Φ h=>by obtain⟨_,_,rfl,_⟩:=Zz h;rfl) λa7 A a4 s H E Y=>⟨_,(Zd (Zl 2 QG.nd (Qd (U6 rfl) rfl T.Bo Kj (Za (ZI false (Zn (sc:=Zf VT) (XN:=["view","told","things","rows","telling","thing","known","seen"]) (N:=["known"]) (ix:=[none]) rfl rfl (by walk_at"k")) (Yc (Zh (Zb 0) Zc)) (λC ex s H=>(Zm 0 (show List.Nodup (["known"]:List Str) by walk_at"k"))) (λC ex s H=>Z8) (λC ex s H=>(Zw (Za (Zh (Zb 0) Zc) (Za (Zb 0) Ze)))) rfl) Ze)))
 (Zd (Zl 3 QG.nd (Qi Ze))
 (Zd (Jc (Zb 1) (Zm 4 QG.nd) (Zd (Zl 5 QG.nd (Zh (Zb 4) Zc))
 (Zd (Zl 6 QG.nd (u_ Y (Zb 2) (Zb 5) (cO T.Vr (YO T) Y (Za (Zb 5) (Za (Zh (Zb 4) Zc) Ze)))))
 (Zd (Zl 7 QG.nd (cO T.Yv (XO T) Y (Za (Zh (Zb 0) Zc) (Za (Zw (Za (Zb 5) (Za (Zh (Zb 4) Zc) (Za (Zh (Zb 6) Zc) Ze)))) (Za (Zh (Zb 4) Zc) Ze)))))
 (Zd (OQ Y (Zb 2) (Zb 5) (Zb 7))
 (Zi (Qh (Js (Zb 3) (cO T.Q2 (Jx T) Y (Za (Zb 6) (Za (Zb 7) (Za (Zh (Zb 4) Zc) (Za (Zh (Zb 0) Zc) (Za (Zh (Zb 0) Zc) Ze))))))))))))) bj rfl)
 (Zi (Zq (VE (Za (Zw (Za (Zh (Zb 0) Zc) (Za (Qd Jm rfl T.Xz VO (Za (YJ Y rfl T.Jj (Zb 2)) Ze)) Ze))) (Za (Zb 3) Ze)))))))),λxs M Φ h=>?_⟩
 obtain⟨x1,x2,rfl,h⟩:=(Zz h);obtain⟨v,rfl,h⟩:=h;obtain⟨B,rfl,⟨NM,D,hl,ht⟩,hT,h⟩:=h;rw[Ky];walk_at"h";have a0:=aa (as:=v.ts) thD;have lv:=D.il;refine⟨by lia,λi O M'=>O=(v.ts.take i).map (λl=>PyData.tuple [.str l.n,thD l])/\M' =M,⟨rfl,rfl⟩,?_,?_⟩
 ·rintro i d O M' hd ⟨rfl,rfl⟩;obtain⟨l,el,rfl⟩:=Zp hd;rw[show thD l=.tuple [.str l.n,.tuple [.int l.u,.int l.v],.tuple (l.ss.map stD)]from rfl];walk_at"rk";exact take_snoc (λl=>PyData.tuple [.str l.n,thD l]) el
 rintro O M' ⟨rfl,rfl⟩;rw[a0,av];refine⟨v.ts.map λl=>(l.n,thD l),by rw[aC];rfl,λp hp=>?_⟩;rw[S1 D.ths.1];walk_at"h";intro q hq;walk_at"h";have I:p≠q:=λz=>by
  rw[<-z,Zk]at hq;cases hq
 have J:M' q=none:=by rwa [Zj (be I)]at hq
 have nk:∀{a:Addr},M' a=none->a≠T.Zg:=λe z=>by
  obtain⟨l,e',_⟩:=hT;rw[z,e']at e;cases e
 have a1:=aa (as:=B) tlD;refine⟨λi Δ M2=>∃ k4 k5 k6 k7,Δ=[some (.dat (.tuple [.tuple (v.ls.map ldD),.tuple (v.ts.map thD)])),some (.dat (.list (B.map tlD))),some (.own p),some (.own q),k4,k5,k6,k7]/\Kq T M' M2/\N9 NM v.ls (Q7 v (B.take i)).1/\(Q7 v (B.take i)).2.length<=200*i/\M2 p=some (.dkv (Ez (Q7 v (B.take i)).1))/\M2 q=some (.lst ((Q7 v (B.take i)).2.map rwD)),⟨_,_,_,_,rfl,((Kq.refl hT).set hp (KJ hp)).set J (KJ hq),D.ths,ak _,by rw[Zj I,Zk];rfl,Zk⟩,?_,?_⟩
 ·rintro i d Δ M2 hd ⟨k4,k5,k6,k7,rfl,hK,L,U,r,G⟩;obtain⟨x,ex,rfl⟩:=Zp hd;have hi:i<B.length:=(aE.mp ex).1;obtain⟨hx,tm,nm,u,g,rfl⟩:=ht x (az ex);have sn:Q7 v (B.take (i+1))=QT v.ls (Q7 v (B.take i)) (.spot tm nm u g):=by
   have tk:B.take (i+1)=B.take i++[.spot tm nm u g]:=by
    have:=take_snoc id ex;simp only[List.map_id_fun,id]at this;exact this.symm
   unfold Q7;rw[tk,bV];rfl
  generalize Q7 v (B.take i)=st at*;obtain⟨hk,en⟩:=mU (nm:=nm) u g L hx.1 hx.2.2.1;have sk:ThG NM v.ls (Qq v.ls st.1 tm nm u g):=Xg D.ord hx.1 hx.2.2.1;rw[show tlD (.spot tm nm u g)=.tuple [.str (Str.ofString "spot"),.int tm,.str nm,.tuple [.int u,.int g]]from rfl];refine Qn λE hE=>?_;walk_at"rk";rw[r];walk_at"rk";simp only[EN];walk_at"rk";rw[r];walk_at"rk";rw[EU,show thD (knS st.1 nm u g)=.tuple [.str (knS st.1 nm u g).n,.tuple [.int (knS st.1 nm u g).u,.int (knS st.1 nm u g).v],.tuple ((knS st.1 nm u g).ss.map stD)]from rfl];walk_at"rk";simp only[SW];walk_at"rk";refine⟨v.ls,rfl,⟨nm,u,g,(knS st.1 nm u g).ss⟩,rfl,⟨D.ord,D.lay,λl hl=>(D.lok l hl).2.2.1,hk.h,hk.2.2.1,hk.Td D.lay⟩,?_⟩;rw[r];walk_at"rk";rw[show Qz v.ls ⟨nm,u,g,(knS st.1 nm u g).ss⟩ tm=Qq v.ls st.1 tm nm u g from rfl];have eS:QT v.ls st (.spot tm nm u g)=(XY st.1 (Qq v.ls st.1 tm nm u g),st.2++QP (lsR v.ls) (lsR v.ls) tm (knS st.1 nm u g) (Qq v.ls st.1 tm nm u g)):=rfl;have a5:=L.put sk;have lm:=L.len D.few;have eP:VZ (Ez st.1) (.inr nm) (thD (Qq v.ls st.1 tm nm u g))=Ez (XY st.1 (Qq v.ls st.1 tm nm u g)):=sv st.1 (Qq v.ls st.1 tm nm u g);rw[eS]at sn;generalize a8:knS st.1 nm u g=kn at*;generalize Qq v.ls st.1 tm nm u g=sg at*;rw[eP];have a2:∀ φ,M2 p≠some (.ext φ):=λφ z=>by rw[r]at z;cases z
  have q2:Zs M2 p (.dkv (Ez (XY st.1 sg))) q=M2 q:=Zj I.symm;rw[q2,G,Zv];refine⟨by rw[show(Ez st.1).length=st.1.length from aa ..];lia,kn,rfl,sg,rfl,lsR v.ls,by rw[Xy],lsR v.ls,by rw[Xy],⟨N6 D.ord,N6 D.ord,hk.ok D.lay,sk.ok D.lay⟩,hK.1.set a2,λgs cs M3 hg hc k3 b hb=>?_⟩;have e3:M3 q=some (.lst (st.2.map rwD)):=by rw[k3.2 q (nk J) (by rw[q2,G];exact aN _),q2,G]
  have e4:M3 p=some (.dkv (Ez (XY st.1 sg))):=by rw[k3.2 p (nk hp) (by rw[Zk];exact aN _),Zk]
  have nb:b≠q:=λz=>by
   rw[z,e3]at hb;cases hb
  have a3:b≠p:=λz=>by
   rw[z,e4]at hb;cases hb
  obtain⟨a6,lr⟩:=C2 (tm:=tm) hg hc hk.h sk.h;rw[Zj (be nb),e3,Zv,a6];obtain rfl:=hE trivial;refine⟨nb,by rw[aa,aa];lia,_,_,_,_,rfl,((hK.set hp a2).trans k3).but J (QH e3) λa na=>?_,?_,?_,?_,?_⟩
  ·by_cases z:a=b
   ·rw[z,Jb,hb]
   ·rw[ZG z,Zj na,Zj z]
  ·rw[sn];exact a5
  ·rw[sn,aB];lia
  ·rw[sn,ZG (be a3),Zj I,Zj (be a3),e4]
  ·rw[sn,ZG (be nb),Zk,al]
 ·rintro Δ M2 ⟨k4,k5,k6,k7,rfl,hK,L,U,r,G⟩;rw[a1,av]at L r G U;subst_vars;walk_at"rk";rw[r];walk_at"rk";have ev:(Ez (Q7 v B).1).map (·.2)=(Q7 v B).1.map thD:=by
   unfold Ez;rw[aC];rfl
  have lm:=L.len D.few;rw[ev,show(Ez (Q7 v B).1).length=(Q7 v B).1.length from aa ..];refine⟨⟨by lia,wz lm λt h=>⟨(L.2 t h).2.1,(L.2 t h).Td D.lay⟩⟩,λa9 pm pw=>⟨by decide,?_⟩⟩;obtain⟨m',rfl,p1⟩:=JT pm;have nd:m'.Pairwise λa b=>a.n≠b.n:=by
   have:=(p1.map (·.n)).nodup_iff.mpr L.1
   rwa [bz,bd]at this
  rw[bd]at pw;rw[Ck p1 ((pw.and nd).imp λz0=>by obtain⟨h1,h2⟩:=z0;exact ky h1 h2)];exact⟨[p],h q (Q4 M2 p) J (hK.but hp (λφ z=>by rw[r]at z;cases z) λa na=>ZG na) U (by show Q4 M2 p q=_;rw[ZG I.symm];exact G)⟩
theorem Mq{g:Type}{f:g->Str}{l:List g}(B:(l.map f).Nodup):(upF f l).Perm l/\(upF f l).Pairwise λx y=>(f x).cps.toList<(f y).cps.toList:=by
 have t:∃ a:List g,a.Perm l/\a.Pairwise (λx y=>(f x).cps.toList<(f y).cps.toList):=by
  refine⟨l.mergeSort λx y=>decide (¬(f y).cps.toList<(f x).cps.toList),gz _ _,?_⟩
  have C:=List.pairwise_mergeSort (le:=λx y:g=>decide (¬(f y).cps.toList<(f x).cps.toList)) (λa b c h r=>aI (List.le_trans (aY h) (aY r))) (λa b=>by
   rcases gR (f a).cps.toList (f b).cps.toList with z|z|z
   ·simp[List.lt_asymm z]
   ·simp[z]
   ·simp[List.lt_asymm z]) l
  have D:(l.mergeSort λx y=>decide (¬(f y).cps.toList<(f x).cps.toList)).Pairwise λa b=>f a≠f b:=by
   have:=((gz l λx y=>decide (¬(f y).cps.toList<(f x).cps.toList)).map f).nodup_iff.mpr B
   rwa [bz,bd]at this
  refine(C.and D).imp λ{a b} ⟨E,G⟩=>?_
  rcases gR (f a).cps.toList (f b).cps.toList with z|z|z
  ·exact z
  ·exact absurd (Wn z) G
  ·exact absurd z (aY E)
 unfold upF;rw[hW t];exact t.choose_spec
theorem wL{r:Type}{f:r->Str}{l:List r}(h:l.Pairwise λx y=>(f x).cps.toList<(f y).cps.toList):(l.map f).Nodup:=by
 rw[bz,bd];exact h.imp λg e=>absurd g (by rw[e];exact dL _)
theorem vI{v:Vw}{ts:List Tl}(g:VwS NM v)(h:∀ t∈ts,TlG NM t):(GI v.ls ts).Pairwise (λa b=>a.n.cps.toList<b.n.cps.toList)/\∀l∈GI v.ls ts,LdG NM l:=by
 obtain⟨r,z⟩:=Mq (f:=Ld.n) (C7 (ts:=ts) (wL g.lup));exact⟨z,λl B=>Tc g.lok h l (r.mem_iff.mp B)⟩
theorem VwS.land{v:Vw}{ts:List Tl}(g:VwS NM v)(D:∀ t∈ts,TlG NM t):VwS NM (VC v ts):=by
 obtain⟨r,z⟩:=vI g D;have E:Wr (GI v.ls ts):=⟨aA (G2 r λl B=>(z l B).1) g.few,λl B=>(z l B).2.1,r⟩
 unfold VC
 split
 ·exact g
 ·refine⟨g.few,r,z,bd.mpr g.tup,λt h=>?_⟩;obtain⟨k,C,rfl⟩:=af.mp h;exact Xg E (g.tok k C).1 (g.tok k C).2.1
theorem VwS.free{v:Vw}(ns:List Str)(g:VwS NM v):VwS NM (Ww v ns):=⟨g.few,g.lup,g.lok,g.tup.filter _,λt h=>g.tok t (ah.mp h).1⟩
theorem UU{ls:List Ld}(g:Wr ls):∀{ts:List Tl}{st:List Th×List Rw},N9 NM ls st.1->(∀t∈ts,TlG NM t)->N9 NM ls (ts.foldl (QT ls) st).1
 |[],_,h,_=>h
 |t::ts,st,h,k=>by
  refine UU g (ts:=ts) (st:=QT ls st t) ?_ λt r=>k t (aq _ r);have l:=k t aj;cases t with
  |land=>exact h
  |off=>exact h
  |spot tm z u w=>exact h.put (Xg g l.1 l.2.2.1)
theorem VwS.spot{v:Vw}{ts:List Tl}(g:VwS NM v)(l:∀ t∈ts,TlG NM t):VwS NM (Ci v ts):=by
 have h:=UU (ts:=ts) (st:=(v.ts,[])) g.ord g.ths l;obtain⟨r,z⟩:=Mq (f:=Th.n) h.1;exact⟨g.few,g.lup,g.lok,z,λt l=>h.2 t (r.mem_iff.mp l)⟩
open Classical in
noncomputable def Je(ts:List Tl):List Tl:=if h:∃ R,Due ts R then h.choose else[]
theorem Yu{ts R:List Tl}(g:∀ x∈ts,TlK x)(h:Due ts R):R=Je ts:=by
 unfold Je;rw[hW ⟨R,h⟩];exact h.uniq g (fH (⟨R,h⟩:∃ R,Due ts R))
theorem Gw(ts:List Tl):∀ x∈Je ts,x∈ts:=by
 unfold Je
 split
 ·next h=>exact h.choose_spec.mem
 ·exact λx g=>(nomatch g)
noncomputable def isL(t:Tl):Bool:=decide (wdT t=Str.ofString "land")||decide (wdT t=Str.ofString "drop")
noncomputable def isW(w:Str)(t:Tl):Bool:=decide (wdT t=w)
noncomputable abbrev isF:Tl->Bool:=isW (Str.ofString "free")
noncomputable abbrev isP:Tl->Bool:=isW (Str.ofString "spot")
noncomputable def Vg(v:Vw)(R:List Tl):Vw:=VC v (R.filter isL)
noncomputable def Jz(v:Vw)(R:List Tl):Vw:=Ww (Vg v R) ((R.filter isF).map nmT)
noncomputable def onV(v:Vw)(R:List Tl):Vw:=Ci (Jz v R) (R.filter isP)
noncomputable def onR(v:Vw)(R:List Tl):List Rw:=JY v (R.filter isL)++QS (Vg v R) (tmH (R.filter isF)) ((R.filter isF).map nmT)++BN (Jz v R) (R.filter isP)
theorem VwS.on{v:Vw}{R:List Tl}(l:VwS NM v)(g:∀ t∈R,TlG NM t):VwS NM (onV v R):=
 ((l.land λt h=>g t (ah.mp h).1).free _).spot λt h=>g t (ah.mp h).1
theorem Pj{t:Tl}(l:TlK t)(h:isP t=true):ip t:=by
 have e:wdT t=Str.ofString "spot":=aY h;cases t with
 |land=>exact absurd (show Str.ofString "land"=Str.ofString "spot" from e) (by walk_at"k")
 |spot tm g u w=>exact⟨tm,g,u,w,rfl⟩
 |off w tm g=>
  rcases(show w=_\/w=_ from l)with rfl|rfl
  ·exact absurd (show Str.ofString "drop"=Str.ofString "spot" from e) (by walk_at"k")
  ·exact absurd (show Str.ofString "free"=Str.ofString "spot" from e) (by walk_at"k")
theorem Pr{g:Type}{p:g->Bool}{f:g->PyData}{R:List g}{i:Nat}{x:g}(h:R[i]?=some x):((R.take (i+1)).filter p).map f=((R.take i).filter p).map f++if p x=true then[f x]else[]:=by
 have e:R.take (i+1)=R.take i++[x]:=by
  have:=take_snoc id h;simp only[List.map_id_fun,id]at this;exact this.symm
 rw[e,bv,al]
 congr 1
 cases c:p x with
 |true=>rw[bb c,aw rfl];rfl
 |false=>rw[ba (by rw[c];exact ae),ao ae];rfl
theorem jB(a b:Str):isS (.str a) b=decide (a=b):=rfl
theorem Ql{g:Type}(p:g->Bool){f:g->PyData}{R:List g}{i:Nat}{x:g}{b:Bool}(h:R[i]?=some x)(e:b=p x):if b=true then((R.take i).filter p).map f++[f x]=((R.take (i+1)).filter p).map f else((R.take i).filter p).map f=((R.take (i+1)).filter p).map f:=by
 rw[Pr h,e];cases p x with
 |true=>rw[aw rfl,aw rfl]
 |false=>rw[ao ae,ao ae,aU]
theorem va{ts R:List Tl}(h:Due ts R):R.length<=ts.length:=by
 have l:(R.map plT).Nodup:=by
  rw[bz,bd];exact h.up.imp λ{a b} g e=>by
   rw[EE e]at g;cases g
 have:=Cc l (m:=ts.map plT) λk r=>by
  obtain⟨x,t,rfl⟩:=af.mp r;exact af.mpr ⟨x,h.mem x t,rfl⟩
 rwa [aa,aa]at this
theorem Kq.none{T:Tx w K mg base}{M1:Mp}(k:Kq T M M1)(h:M1 a=none):M a=none:=by
 cases e:M a with
 |none=>rfl
 |some o=>
  by_cases z:a=T.Zg
  ·obtain⟨l,g,_⟩:=k.1;rw[z,g]at h;cases h
  ·rw[k.2 a z (by rw[e];exact aN _),e]at h;cases h
theorem Rc{l r:Addr}{g:List PyData}(t:M l=some (.lst ds))(z:M r=some (.lst g))(B:ds.length+g.length<=16777216)(h:∀ p,M p=none->Φ (.own p) (Zs M p (.lst (ds++g)))):RW (.own l) (.own r) M Φ:=by
 show Vi (M l) λds=>Vi (M r) λg=>ds.length+g.length<=sizeLine/\∀p,M p=none->Φ (.own p) (Zs M p (.lst (ds++g)));rw[t,Zv,z,Zv,bL];exact⟨B,h⟩
def EJ(T:Tx w K mg base):DSp:=λxs M Φ=>on2 xs λx y=>Mb x λv=>QK y λg=>(∃NM,VwS NM v/\g.length<=900/\∀t∈g,TlG NM t)/\Vf M T.Zg YV/\
 ∀q M',M q=none->Kq T M M'->(∃R,Due g R)->(onR v (Je g)).length<=9600+200*g.length->M' q=some (.lst ((onR v (Je g)).map rwD))->Φ (.mix [.dat (vwD (onV v (Je g))),.own q]) M'
theorem LY(T:Tx w K mg base):Qx P w K mg base CX0 16 T.BC T.B9 ["view","tellings"] (lift K (EJ T)):=by
 refine okD T.G6.F J1 (λxs M Φ h=>by obtain⟨_,_,rfl,_⟩:=Zz h;rfl) λa7 A a0 s H E B=>⟨_,(Zd (Zl 2 J1.nd (Q9 (cO T.WK (Eg T) B (Za (Zb 1) Ze))))
 (Zd (Zl 3 J1.nd (cO T.Um (CV T) B (Za (Zb 0) (Za (ZI false (Zn (sc:=Zf JU) (XN:=["view","tellings","counting","first","second","third"]) (N:=["telling"]) (ix:=[none]) rfl rfl (by walk_at"k")) (ZU (Zb 2)) (λC r s H=>(Zm 0 (show List.Nodup (["telling"]:List Str) by walk_at"k"))) (λC r s H=>(Qo (ZC (FV B) (Zh (Zb 0) Zc) (Zw (Za Zu (Za Zu Ze)))))) (λC r s H=>(Zb 0)) rfl) Ze))))
 (Zd (Zl 4 J1.nd (cO T.YR (Ws T) B (Za (Yb (Zb 3) Zc) (Za (ZI false (Zn (sc:=Zf JU) (XN:=["view","tellings","counting","first","second","third"]) (N:=["telling"]) (ix:=[none]) rfl rfl (by walk_at"k")) (ZU (Zb 2)) (λC r s H=>(Zm 0 (show List.Nodup (["telling"]:List Str) by walk_at"k"))) (λC r s H=>(Qo (ZC (ER B) (Zh (Zb 0) Zc) Zu))) (λC r s H=>(Zb 0)) rfl) Ze))))
 (Zd (Zl 5 J1.nd (cO T.WM (CG T) B (Za (Yb (Zb 4) Zc) (Za (ZI false (Zn (sc:=Zf JU) (XN:=["view","tellings","counting","first","second","third"]) (N:=["telling"]) (ix:=[none]) rfl rfl (by walk_at"k")) (ZU (Zb 2)) (λC r s H=>(Zm 0 (show List.Nodup (["telling"]:List Str) by walk_at"k"))) (λC r s H=>(Qo (ZC (ER B) (Zh (Zb 0) Zc) Zu))) (λC r s H=>(Zb 0)) rfl) Ze))))
 (Zi (Zq (VE (Za (Yb (Zb 5) Zc) (Za (Zr UY (Zr UY (Yb (Zb 3) Zc) (Yb (Zb 4) Zc)) (Yb (Zb 5) Zc)) Ze))))))))),λxs M Φ h=>?_⟩
 obtain⟨x1,x2,rfl,h⟩:=(Zz h);obtain⟨v,rfl,h⟩:=h;obtain⟨ts,rfl,⟨NM,hv,hl,ht⟩,hT,h⟩:=h;walk_at"h";refine⟨ts,rfl,aA hl (by decide),λt h=>(ht t h).2.1,λR q L hq=>?_⟩;walk_at"rk";rw[UW hq];have G:∀ t∈R,TlG NM t:=λt h=>ht t (L.mem t h);cases Yu (λx hx=>(ht x hx).2.1.1) L;have I:=va L;have lR:(Je ts).length<=900:=aA I hl;generalize Je ts=R at*;have len:=aa (as:=R) tlD;walk_at"h";refine⟨by lia,λi g M'=>g=((R.take i).filter isL).map tlD/\M' =M,⟨rfl,rfl⟩,?_,?_⟩
 ·rintro i d g M' hd ⟨rfl,rfl⟩;obtain⟨x,r,rfl⟩:=Zp hd;rw[Z6];walk_at"rk";refine⟨[Str.ofString "land",Str.ofString "drop"],rfl,?_⟩;walk_at"rk";rw[<-Z6];exact Ql isL r (by simp only[List.any_cons,List.any_nil,Bool.or_false,jB,isL])
 rintro g M' ⟨rfl,rfl⟩;rw[len,av];have a1:=aA (aX isL R) lR;have a2:=aA (aX isF R) lR;have a3:=aA (aX isP R) lR;have a8:=aA (aX isP R) I;have D:VwS NM (Vg v R):=hv.land λt h=>G t (ah.mp h).1;have a4:VwS NM (Jz v R):=D.free _;simp only[MY];walk_at"rk";refine⟨v,rfl,_,rfl,⟨NM,hv,a1,λt h=>G t (ah.mp h).1⟩,hT,λq1 M1 n1 O l1 e1=>?_⟩;walk_at"h";refine⟨_,rfl,?_⟩;walk_at"rk";refine⟨by lia,λi g M'=>g=((R.take i).filter isF).map tlD/\M' =M1,⟨rfl,rfl⟩,?_,?_⟩
 ·rintro i d g M2 hd ⟨rfl,rfl⟩;obtain⟨x,r,rfl⟩:=Zp hd;rw[Z6];walk_at"rk";rw[<-Z6];exact Ql isF r rfl
 rintro g M2 ⟨rfl,rfl⟩;rw[len,av];simp only[nw];walk_at"rk";refine⟨Vg v R,rfl,_,rfl,⟨D.ok,aA a2 (by decide),λt h=>(G t (ah.mp h).1).2.2.1⟩,O.1,λq2 M3 n2 U l2 e2=>?_⟩;walk_at"h";refine⟨_,rfl,?_⟩;walk_at"rk";refine⟨by lia,λi g M'=>g=((R.take i).filter isP).map tlD/\M' =M3,⟨rfl,rfl⟩,?_,?_⟩
 ·rintro i d g M4 hd ⟨rfl,rfl⟩;obtain⟨x,r,rfl⟩:=Zp hd;rw[Z6];walk_at"rk";rw[<-Z6];exact Ql isP r rfl
 rintro g M4 ⟨rfl,rfl⟩;rw[len,av];simp only[Rp];walk_at"rk";refine⟨Jz v R,rfl,_,rfl,⟨NM,a4,a3,λt h=>⟨G t (ah.mp h).1,Pj (G t (ah.mp h).1).2.1.1 (ah.mp h).2⟩⟩,U.1,λq3 M5 n3 k3 l3 e3=>?_⟩;subst_vars;walk_at"rk";have nk:∀{a:Addr},M' a=none->a≠T.Zg:=λe z=>by
  obtain⟨l,e',_⟩:=hT;rw[z,e']at e;cases e
 have a5:M' q2=none:=O.none n2;have a9:M' q3=none:=(O.trans U).none n3;have f2:M5 q2=some (.lst ((QS (Vg v R) (tmH (R.filter isF)) ((R.filter isF).map nmT)).map rwD)):=by rw[k3.2 q2 (nk a5) (by rw[e2];exact aN _),e2]
 have f1:M5 q1=some (.lst ((JY v (R.filter isL)).map rwD)):=by rw[(U.trans k3).2 q1 (nk n1) (by rw[e1];exact aN _),e1]
 have kk:=(O.trans U).trans k3;have lt:=D.il;refine⟨_,rfl,_,rfl,_,rfl,Rc f1 f2 (by rw[aa,aa];lia) λp1 Y=>⟨_,rfl,?_⟩⟩;have np:q3≠p1:=λz=>by
  rw[<-z,e3]at Y;cases Y
 refine Rc Zk (by rw[Zj np];exact e3) (by rw[aB,aa,aa,aa];lia) λp2 m2=>?_;have a6:p1≠p2:=λz=>by
  rw[<-z,Zk]at m2;cases m2
 have J:M5 p2=none:=by rwa [Zj (be a6)]at m2
 refine⟨by decide,h p2 _ (kk.none J) ((kk.set (kk.none Y) (KJ Y)).set (kk.none J) (KJ m2)) ⟨_,L⟩ ?_ (by rw[Zk];unfold onR;rw[al,al])⟩;unfold onR;rw[aB,aB];lia
noncomputable def atT(ts:List Tl)(t:Int):List Tl:=ts.filter λx=>decide (tmT x=t)
def Tms(ts:List Tl)(ks:List Int):Prop:=ks.Pairwise (· < ·)/\∀t,t∈ks↔ ∃x∈ts,tmT x=t
noncomputable def Vh(ts:List Tl)(st:Vw×List Rw)(ks:List Int):Vw×List Rw:=ks.foldl (λst t=>(onV st.1 (Je (atT ts t)),st.2++onR st.1 (Je (atT ts t)))) st
noncomputable def enO(g:List (Int×Addr)):List (Key×DV):=g.map λe=>(.inl e.1,.own e.2)
theorem E8(ts:List Tl)(x:Tl)(t:Int):atT (ts++[x]) t=atT ts t++if tmT x=t then[x]else[]:=by
 unfold atT;rw[bv]
 congr 1
 by_cases e:tmT x=t
 ·simp[e]
 ·simp[e]
theorem DY(g:List (Int×Addr))(t:Int):QY (enO g) (.inl t)=(g.find? λe=>decide (e.1=t)).map λe=>.own e.2:=by
 unfold QY enO
 induction g with
 |nil=>rfl
 |cons e g h=>
  rw[ai]
  by_cases z:e.1=t
  ·rw[aH (by simpa using z),aH (by simpa using z)];rfl
  ·rw[aK (by simpa using z),aK (by simpa using z)];exact h
theorem yw{g:List (Int×Addr)}{t:Int}(h:g.find? (λe=>decide (e.1=t))=none):Xo (enO g) (.inl t) (.own b)=enO (g++[(t,b)]):=by
 unfold Xo;rw[ao]
 ·unfold enO;rw[al];rfl
 ·intro z;obtain⟨q,l,e⟩:=cE.mp z;obtain⟨x,r,rfl⟩:=af.mp l;rw[cA]at h;exact h x r (aI (gK (aY e)))
structure hZ(M M2:Mp)(p:Addr)(ts:List Tl)(es:List (Int×Addr)):Prop where
 keep:∀ a,M a≠none->M2 a=M a
 own:M2 p=some (.dko (enO es))
 n1:(es.map (·.1)).Nodup
 n2:(es.map (·.2)).Nodup
 new:∀ e∈es,M e.2=none/\e.2≠p/\M2 e.2=some (.lst ((atT ts e.1).map tlD))
 all:∀ t,t∈es.map (·.1)↔ ∃x∈ts,tmT x=t
 len:es.length<=ts.length
theorem S3{g:List (Int×Addr)}{t:Int}{e:Int×Addr}(h:g.find? (λe=>decide (e.1=t))=some e):e∈g/\e.1=t:=⟨dg h,by simpa using fF h⟩
theorem Hl{t z:Type}{f:t->z}:∀{l:List t},(l.map f).Nodup->∀{a b:t},a∈l->b∈l->f a=f b->a=b
 |c::l,h,a,b,B,C,e=>by
  rw[ai,cv]at h
  rcases aW.mp B with g|g<;>rcases aW.mp C with r|r
  ·rw[g,r]
  ·exact absurd (af.mpr ⟨b,r,by rw[<-e,g]⟩) h.1
  ·exact absurd (af.mpr ⟨a,g,by rw[e,r]⟩) h.1
  ·exact Hl h.2 g r e
theorem hZ.old{M2:Mp}{ts:List Tl}{C:List (Int×Addr)}{x:Tl}{e:Int×Addr}(h:hZ M M2 p ts C)(Y:M p=none)(I:M2 b=none)(l:e∈C)(r:e.1=tmT x):
  hZ M (Zs (Zs M2 b (.lst [])) e.2 (.lst ((atT ts (tmT x)).map tlD++[tlD x]))) p (ts++[x]) C:=by
 obtain⟨J,L,h3⟩:=h.new e l;have D:∀{a:Addr},M2 a≠none->a≠b:=λn z=>n (by rw[z];exact I);refine⟨λa B=>?_,?_,h.n1,h.n2,λf E=>?_,λt=>?_,?_⟩
 ·rw[Zj (λz=>B (by rw[z];exact J)),Zj (D (by rw[h.keep a B];exact B)),h.keep a B]
 ·rw[Zj (be L),Zj (D (by rw[h.own];exact aN _)),h.own]
 ·obtain⟨O,U,G⟩:=h.new f E;refine⟨O,U,?_⟩;rw[E8]
  by_cases z:f=e
  ·rw[z,Zk,aw r.symm,al,r];rfl
  ·rw[Zj λy=>z (Hl h.n2 E l y),Zj (D (by rw[G];exact aN _)),G,ao λy=>z (Hl h.n1 E l (by rw[r,y])),aU]
 ·rw[h.all];constructor
  ·rintro⟨y,g,e⟩;exact⟨y,bh _ g,e⟩
  ·rintro⟨y,g,rfl⟩
   rcases ax.mp g with g|g
   ·exact⟨y,g,rfl⟩
   ·rw[au.mp g,<-r];exact(h.all e.1).mp (af.mpr ⟨e,l,rfl⟩)
 ·rw[aB];exact Nat.le_add_right_of_le h.len
theorem hZ.fresh{M2:Mp}{ts:List Tl}{D:List (Int×Addr)}{x:Tl}(h:hZ M M2 p ts D)(hp:M p=none)(hb:M2 b=none)(O:D.find? (λe=>decide (e.1=tmT x))=none):
  hZ M (Zs (Zs (Zs M2 b (.lst [])) p (.dko (enO (D++[(tmT x,b)])))) b (.lst ([]++[tlD x]))) p (ts++[x]) (D++[(tmT x,b)]):=by
 rw[cA]at O;have l:∀ e∈D,e.1≠tmT x:=λe r z=>O e r (aI z);have I:∀{a:Addr},M2 a≠none->a≠b:=λn z=>n (by rw[z];exact hb);have U:p≠b:=I (by rw[h.own];exact aN _);have E:M b=none:=by
  cases e:M b with
  |none=>rfl
  |some o=>exact absurd rfl (I (by rw[h.keep b (by rw[e];exact aN _),e];exact aN _))
 have J:atT ts (tmT x)=[]:=by
  unfold atT;rw[cL];intro y g z;obtain⟨e,r,ez⟩:=af.mp ((h.all (tmT x)).mpr ⟨y,g,aY z⟩);exact l e r ez
 refine⟨λa B=>?_,?_,?_,?_,λf C=>?_,λt=>?_,?_⟩
 ·have G:a≠b:=λz=>B (by rw[z];exact E);rw[Zj G,Zj (λz=>B (by rw[z];exact hp)),Zj G,h.keep a B]
 ·rw[Zj U,Zk]
 ·rw[al,cX];refine⟨h.n1,by simp,λa B c L=>?_⟩;obtain⟨e,r,rfl⟩:=af.mp B;rw[au.mp L];exact l e r
 ·rw[al,cX];refine⟨h.n2,by simp,λa B c L=>?_⟩;obtain⟨e,r,rfl⟩:=af.mp B;rw[au.mp L];exact I (by rw[(h.new e r).2.2];exact aN _)
 ·rw[E8]
  rcases ax.mp C with C|C
  ·obtain⟨g1,Y,g3⟩:=h.new f C;have G:f.2≠b:=I (by rw[g3];exact aN _);exact⟨g1,Y,by rw[Zj G,Zj Y,Zj G,g3,ao λy=>l f C y.symm,aU]⟩
  ·rw[au.mp C];refine⟨E,be U,?_⟩;show _=some (OO.lst ((atT ts (tmT x)++if tmT x=tmT x then[x]else[]).map tlD));rw[Zk,aw rfl,J];rfl
 ·rw[al,ax,h.all];constructor
  ·rintro(⟨y,g,e⟩|e)
   ·exact⟨y,bh _ g,e⟩
   ·exact⟨x,ay _ (au.mpr rfl),(au.mp e).symm⟩
  ·rintro⟨y,g,rfl⟩
   rcases ax.mp g with g|g
   ·exact .inl ⟨y,g,rfl⟩
   ·rw[au.mp g];exact .inr (au.mpr rfl)
 ·rw[aB,aB];exact bX h.len 1
theorem OG{l:List Int}(g:l.length<=16777216):Qk (l.map PyData.int):=by
 refine⟨by rw[aa,bL];exact g,.int λd hd=>?_,λd hd=>?_,λd hd e h=>?_⟩
 ·obtain⟨t,_,rfl⟩:=af.mp hd;exact⟨t,rfl⟩
 ·obtain⟨t,m,rfl⟩:=af.mp hd;exact⟨by simp[pln],(Q1 t 64).1,(Q1 t 64).2⟩
 ·obtain⟨t,m,rfl⟩:=af.mp hd;obtain⟨u,n,rfl⟩:=af.mp h;exact YG t u
theorem Kq.keep{T:Tx w K mg base}(h:Vf M T.Zg YV)(g:∀ a,M a≠Option.none->M' a=M a):Kq T M M':=by
 obtain⟨l,z,r⟩:=h;exact⟨⟨l,by rw[g _ (by rw[z];exact aN _)];exact z,λx t=>⟨(r x t).1,by rw[g _ (by rw[(r x t).2];exact aN _)];exact(r x t).2⟩⟩,λa _ B=>g a B⟩
def JV(ts:List Tl)(ks:List Int):Prop:=∀ t∈ks,∃R,Due (atT ts t) R
def jm(T:Tx w K mg base):DSp:=λxs M Φ=>on2 xs λx y=>Mb x λv=>QK y λg=>(∃NM,VwS NM v/\g.length<=200/\∀t∈g,TlG NM t)/\Vf M T.Zg YV/\
 ∀ks q M',Tms g ks/\JV g ks->M q=none->Kq T M M'->(Vh g (v,[]) ks).2.length<=10000000->M' q=some (.lst ((Vh g (v,[]) ks).2.map rwD))->Φ (.mix [.dat (vwD (Vh g (v,[]) ks).1),.own q]) M'
theorem Vn(T:Tx w K mg base):Qx P w K mg base CX0 17 T.Yh T.Yd ["view","tellings"] (lift K (jm T)):=by
 refine okD T.JO.F Z2 (λxs M Φ h=>by obtain⟨_,_,rfl,_⟩:=Zz h;rfl) λb0 A a6 s H E hr=>⟨_,(Zd (Zl 2 Z2.nd S9)
 (Zd (Jc (Zb 1) (Zm 3 Z2.nd) (Zi (Qh (QB (LW (Zb 2) (Zh (Zb 3) Zc) (Qi Ze)) (Zb 3)))) bj rfl)
 (Zd (Zl 4 Z2.nd (Qi Ze))
 (Zd (Jc (ZD (DX hr) rfl T.Jj Vp (Za (Zb 2) Ze)) (Zm 5 Z2.nd) (Zd (Zl 6 Z2.nd (cO T.G6 (LY T) hr (Za (Zb 0) (Za (Q9 (qC hr (Zb 2) (Zb 5))) Ze))))
 (Zd (Zl 0 Z2.nd (Yb (Zb 6) Zc))
 (Zi (Qh (Js (Zb 4) (Yb (Zb 6) Zc)))))) bj rfl)
 (Zi (Zq (VE (Za (Zb 0) (Za (Zb 4) Ze))))))))),λxs M Φ h=>?_⟩
 obtain⟨x1,x2,rfl,h⟩:=(Zz h);obtain⟨v,rfl,h⟩:=h;obtain⟨r,rfl,⟨NM,hv,hl,ht⟩,hT,h⟩:=h;walk_at"h";intro p hp;walk_at"h";have a4:=aa (as:=r) tlD;refine⟨λi Δ M2=>∃ k3 B,Δ=[some (.dat (vwD v)),some (.dat (.list (r.map tlD))),some (.own p),k3,none,none,none]/\hZ M M2 p (r.take i) B,⟨_,[],rfl,λa ha=>Zj λz=>ha (by rw[z];exact hp),Zk,.nil,.nil,λ_ h=>(nomatch h),λt=>⟨λh=>(nomatch h),λz0=>by obtain⟨_,h,_⟩:=z0;exact(nomatch h)⟩,ak _⟩,?_,?_⟩
 ·rintro i d Δ M2 hd ⟨k3,B,rfl,g⟩;obtain⟨x,ex,rfl⟩:=Zp hd;have hi:i<r.length:=(aE.mp ex).1;have tk:r.take (i+1)=r.take i++[x]:=by
   have:=take_snoc id ex;simp only[List.map_id_fun,id]at this;exact this.symm
  rw[Z6];refine Qn λE hE=>?_;walk_at"rk";rw[g.own];walk_at"rk";intro b hb;have np:p≠b:=λz=>by
   rw[<-z,g.own]at hb;cases hb
  rw[Zj np,g.own];walk_at"rk";have lt:=fo i r;have le:=g.len;refine⟨by rw[show(enO B).length=B.length from aa ..];lia,λz' I=>?_,λI=>?_⟩
  ·rw[DY]at I;cases ef:B.find? λe=>decide (e.1=tmT x)with
   |none=>
    rw[ef]at I;cases I
   | some e=>
    rw[ef]at I;cases I;obtain⟨C,et⟩:=S3 ef;obtain⟨g1,g2,g3⟩:=g.new e C;have nb:e.2≠b:=λz=>by
     rw[<-z,g3]at hb;cases hb
    have la:((atT (r.take i) e.1).map tlD).length<=(r.take i).length:=by
     rw[aa];exact aX ..
    rw[BD,Zj nb,g3,Zv,Zv];obtain rfl:=hE trivial;refine⟨by lia,_,B,rfl,?_⟩;rw[<-Z6,tk,et];exact g.old hp hb C et
  ·rw[DY,dY]at I;have e1:Zs (Zs M2 b (.lst [])) p (.dko (Xo (enO B) (.inl (tmT x)) (.own b))) b=some (.lst []):=by rw[Zj (be np),Zk]
   rw[e1,Zv,Zv,yw I];obtain rfl:=hE trivial;refine⟨by decide,_,B++[(tmT x,b)],rfl,?_⟩;rw[<-Z6,tk];exact g.fresh hp hb I
 ·rintro Δ M2 ⟨k3,B,rfl,g⟩;rw[a4,av]at g;walk_at"h";intro q D;have a0:p≠q:=λz=>by
   rw[<-z,g.own]at D;cases D
  have le:=g.len;have J:M q=none:=by
   cases e:M q with
   |none=>rfl
   |some o=>
    rw[g.keep q (by rw[e];exact aN _),e]at D;cases D
  walk_at"h";rw[Zj a0,g.own];walk_at"rk";rw[show(enO B).map (λq=>kD q.1)=(B.map (·.1)).map PyData.int by unfold enO;rw[aC,aC];rfl];refine⟨⟨by rw[show(enO B).length=B.length from aa ..];lia,OG (by rw[aa];lia)⟩,λb1 pm pw=>?_⟩;obtain⟨ks,rfl,pk⟩:=JT pm;have up:ks.Pairwise (· < ·):=by
   rw[bd]at pw;refine(pw.and (pk.nodup_iff.mpr g.n1)).imp λ{a b} ⟨h1,h2⟩=>?_;have h3:ltD (.int b) (.int a)=false:=h1;rw[ltD]at h3;have:=cT h3;lia
  have a7:Tms r ks:=⟨up,λt=>(pk.mem_iff).trans (g.all t)⟩
  have lk:ks.length<=200:=by
   rw[pk.length_eq,aa];lia
  have nk:∀{a:Addr},M a=none->a≠T.Zg:=λe z=>by
   obtain⟨l,e',_⟩:=hT;rw[z,e']at e;cases e
  have kq:Kq T M (Zs M2 q (.lst [])):=Kq.keep hT λa ha=>by rw[Zj λz=>ha (by rw[z];exact J),g.keep a ha]
  have Y:=aa (as:=ks) PyData.int;refine⟨λi Δ G=>∃ k3 k5 k6,Δ=[some (.dat (vwD (Vh r (v,[]) (ks.take i)).1)),some (.dat (.list (r.map tlD))),some (.own p),k3,some (.own q),k5,k6]/\Kq T M G/\JV r (ks.take i)/\VwS NM (Vh r (v,[]) (ks.take i)).1/\(Vh r (v,[]) (ks.take i)).2.length<=49600*i/\G p=some (.dko (enO B))/\(∀e∈B,e.1∈ks.drop i->G e.2=some (.lst ((atT r e.1).map tlD)))/\G q=some (.lst ((Vh r (v,[]) (ks.take i)).2.map rwD)),⟨_,_,_,rfl,kq,λ_ h=>(nomatch h),hv,ak _,by rw[Zj a0,g.own],λe C _=>?_,Zk⟩,?_,?_⟩
  ·obtain⟨g1,g2,g3⟩:=g.new e C;have:e.2≠q:=λz=>by
    rw[<-z,g3]at D;cases D
   rw[Zj this,g3]
  ·rintro i d Δ G hd ⟨k3,k5,k6,rfl,hK,L,O,a5,a1,a2,U⟩;obtain⟨t,et,rfl⟩:=Zp hd;have hi:i<ks.length:=(aE.mp et).1;have tk:ks.take (i+1)=ks.take i++[t]:=by
    have:=take_snoc id et;simp only[List.map_id_fun,id]at this;exact this.symm
   have dk:ks.drop i=t::ks.drop (i+1):=by
    rw[cN hi]
    congr 1
    exact(aE.mp et).2
   have sn:Vh r (v,[]) (ks.take (i+1))=(onV (Vh r (v,[]) (ks.take i)).1 (Je (atT r t)),(Vh r (v,[]) (ks.take i)).2++onR (Vh r (v,[]) (ks.take i)).1 (Je (atT r t))):=by
    unfold Vh;rw[tk,bV];rfl
   have upd:(t::ks.drop (i+1)).Pairwise (· < ·):=by
    rw[<-dk];exact up.drop
   generalize Vh r (v,[]) (ks.take i)=st at*;obtain⟨e,ef⟩:∃ e,B.find? (λe=>decide (e.1=t))=some e:=by
    obtain⟨e,C,ee⟩:=af.mp (pk.mem_iff.mp (az et));cases c:B.find? (λe=>decide (e.1=t))with
    |none=>
     rw[cA]at c;exact absurd (aI ee) (c e C)
    |some f=>exact⟨f,rfl⟩
   obtain⟨C,rfl⟩:=S3 ef;obtain⟨g1,g2,g3⟩:=g.new e C;have e3:=a2 e C (by rw[dk];exact aj);refine Qn λE hE=>?_;walk_at"rk";rw[a1];walk_at"rk";refine⟨.own e.2,by rw[DY,ef];rfl,?_⟩;rw[BD,e3,Zv];simp only[EJ];walk_at"rk";have la:(atT r e.1).length<=200:=aA (aX ..) hl;have kd:Kq T M (Q4 G e.2):=hK.but g1 (QH e3) λa na=>ZG na;refine⟨st.1,rfl,atT r e.1,rfl,⟨NM,O,aA la (by decide),λt h=>ht t (ah.mp h).1⟩,kd.1,λq' M4 n4 k4 a8 l4 e4=>?_⟩;have kk:=kd.trans k4;have a9:M q' =none:=kd.none n4;have eq:e.2≠q:=λz=>by
    rw[<-z,g3]at D;cases D
   have a3:∀ a o,a≠e.2->G a=some o->M a=none->M4 a=some o/\a≠q':=λa o na ea ha=>by
    have h1:Q4 G e.2 a=some o:=by rw[ZG na,ea]
    exact⟨by rw[k4.2 a (nk ha) (by rw[h1];exact aN _),h1],λz=>by
     rw[<-z,h1]at n4
     cases n4⟩
   obtain⟨f1,f2⟩:=a3 q _ (be eq) U J;obtain⟨f3,f4⟩:=a3 p _ (be g2) a1 hp;walk_at"rk";refine⟨_,rfl,?_⟩;rw[f1,Zv];refine⟨_,rfl,?_⟩;rw[BD,Zv,e4,Zv];obtain rfl:=hE trivial;have e5:∀ a,a≠q'->a≠q->Q4 (Zs M4 q (.lst (st.2.map rwD++(onR st.1 (Je (atT r e.1))).map rwD))) q' a=M4 a:=λa n1 n2=>by rw[ZG n1,Zj n2]
   refine⟨be f2,by rw[aa,aa];lia,_,_,_,by rw[sn],((kk.set J (QH f1)).but (M4:=Q4 (Zs M4 q (.lst (st.2.map rwD++(onR st.1 (Je (atT r e.1))).map rwD))) q') a9 (by rw[Zj (be f2)];exact QH e4) λa na=>ZG na),λu hu=>?_,?_,?_,?_,λf hf mf=>?_,?_⟩
   ·rw[tk]at hu
    rcases ax.mp hu with hu|hu
    ·exact L u hu
    ·rw[au.mp hu];exact a8
   ·rw[sn];exact O.on λt h=>ht t (ah.mp (Gw _ t h)).1
   ·rw[sn,aB];lia
   ·rw[e5 p f4 a0,f3]
   ·obtain⟨h1,h2,h3⟩:=g.new f hf;have nf:f≠e:=λz=>by
     have:=bN upd mf;rw[z]at this;lia
    have n1:f.2≠q:=λz=>by
     rw[<-z,h3]at D;cases D
    obtain⟨f5,f6⟩:=a3 f.2 _ (λz=>nf (Hl g.n2 hf C z)) (a2 f hf (by rw[dk];exact aq _ mf)) h1;rw[e5 f.2 f6 n1,f5]
   ·rw[sn,ZG f2,Zk,al]
  ·rintro Δ G ⟨k3,k5,k6,rfl,hK,L,O,a5,a1,a2,U⟩;rw[Y,av]at L O a5 U;rw[Y,av];subst_vars;walk_at"rk";exact⟨by decide,h ks q G ⟨a7,L⟩ J hK (by lia) U⟩
noncomputable def v0:Vw:=⟨[],[]⟩
theorem LP(h:NM.length<=24):VwS NM v0:=⟨h,.nil,λ_ h=>(nomatch h),.nil,λ_ h=>(nomatch h)⟩
noncomputable def ZS(ts:List Tl)(ks:List Int):Vw×List Rw:=Vh ts (v0,[]) ks
noncomputable def Xd(ts:List Tl)(tm:Int):List Tl:=ts.filter λx=>decide (tmT x<=tm)
def Wz(ts:List Tl):Prop:=∃ NM:List Str,NM.length<=24/\ts.length<=200/\∀t∈ts,TlG NM t
def ij(T:Tx w K mg base):DSp:=λxs M Φ=>on1 xs λx=>QK x λg=>(Wz g/\Vf M T.Zg YV)/\
 ∀ks q M',Tms g ks/\JV g ks->M q=none->Kq T M M'->(ZS g ks).2.length<=10000000->M' q=some (.lst ((ZS g ks).2.map rwD))->Φ (.own q) M'
def jc(T:Tx w K mg base):DSp:=λxs M Φ=>on2 xs λx y=>QK x λg=>onI y λtm=>(Wz g/\Vf M T.Zg YV)/\
 ∀ks M',Tms (Xd g tm) ks/\JV (Xd g tm) ks->Kq T M M'->Φ (.dat (vwD (ZS (Xd g tm) ks).1)) M'
theorem JS(T:Tx w K mg base):Qx P w K mg base CX0 18 T.BI T.Bd ["tellings"] (lift K (ij T)):=by
 refine okD T.JX.F L3 (λxs M Φ h=>by obtain⟨_,rfl,_⟩:=ZP h;rfl) λl A g s H E r=>⟨_,(Zi (Zq (Yb (cO T.JO (Vn T) r (Za (Dd rfl T.C9 T.DU) (Za (Zb 0) Ze))) Zc))),λxs M Φ h=>?_⟩;obtain⟨U,rfl,h⟩:=(ZP h);obtain⟨t,rfl,⟨⟨NM,z,B,C⟩,D⟩,h⟩:=h;walk_at"rk";simp only[jm];walk_at"rk";refine⟨v0,rfl,t,rfl,⟨NM,LP z,B,C⟩,D,λks q M' G I J L O=>?_⟩;walk_at"rk";exact⟨_,rfl,h ks q M' G I J L O⟩
theorem Xe(T:Tx w K mg base):Qx P w K mg base CX0 18 T.Cw T.B2 ["tellings","time"] (lift K (jc T)):=by
 refine okD T.YM.F Lk (λxs M Φ h=>by obtain⟨_,_,rfl,_⟩:=Zz h;rfl) λB A z s H E D=>⟨_,(Zi (Zq (Yb (cO T.JO (Vn T) D (Za (Dd rfl T.C9 T.DU) (Za (ZI false (Zn (sc:=Zf Y3) (XN:=["tellings","time"]) (N:=["telling","time"]) (ix:=[none,some 1]) rfl rfl (by walk_at"k")) (ZU (Zb 0)) (λC r s H=>(Zm 0 (show List.Nodup (["telling","time"]:List Str) by walk_at"k"))) (λC r s H=>(Qo (ZC jO (Zh (Zb 0) Zc) (Zb 1)))) (λC r s H=>(Zb 0)) rfl) Ze))) Zc))),λxs M Φ h=>?_⟩;obtain⟨x1,x2,rfl,h⟩:=(Zz h);obtain⟨l,rfl,h⟩:=h;obtain⟨tm,rfl,⟨⟨NM,G,I,J⟩,L⟩,h⟩:=(ZJ h);walk_at"rk";have len:=aa (as:=l) tlD;refine⟨by lia,λi g M'=>g=(Xd (l.take i) tm).map tlD/\M' =M,⟨rfl,rfl⟩,?_,?_⟩
 ·rintro i d g M' hd ⟨rfl,rfl⟩;obtain⟨x,r,rfl⟩:=Zp hd;rw[Z6];walk_at"rk";rw[<-Z6];exact Ql (λx=>decide (tmT x<=tm)) r rfl
 rintro g M' ⟨rfl,rfl⟩;rw[len,av];have O:∀ t∈Xd l tm,t∈l:=λt h=>(ah.mp h).1;simp only[jm];walk_at"rk";refine⟨v0,rfl,Xd l tm,rfl,⟨NM,LP G,aA (aX ..) I,λt h=>J t (O t h)⟩,L,λks q M2 U hq Y hl hm=>?_⟩;walk_at"rk";exact⟨_,rfl,h ks M2 U Y⟩
structure Sy where
 n:Str
 l:Str
 b:Int
 e:Option Int
noncomputable def syD(s:Sy):PyData:=.tuple [.str s.n,.str s.l,.int s.b,match s.e with
 |none=>.none
 |some t=>.int t]
noncomputable def isA(n l:Str)(s:Sy):Bool:=decide (s.n=n)&&decide (s.l=l)
noncomputable def YB(n l:Str)(t:Int):List Sy->List Sy
 |[]=>[]
 |s::g=>if g.any (isA n l)then s::YB n l t g else if isA n l s then⟨s.n,s.l,s.b,some t⟩::g else s::g
noncomputable def V0(n l:Str):List Sy->Option Nat
 |[]=>none
 |s::g=>if g.any (isA n l)then(V0 n l g).map (· +1)else if isA n l s then some 0 else none
noncomputable def Vv(ss:List Sy)(r:Rw):List Sy:=if r.c then ss++[⟨r.n,r.l,r.t,none⟩]else YB r.n r.l r.t ss
noncomputable def stF(rs:List Rw):List Sy:=rs.foldl Vv []
theorem WY(n l:Str):∀ ss:List Sy,(V0 n l ss).isSome=ss.any (isA n l)
 |[]=>rfl
 | s::ss=>by
  rw[V0,bi];cases c:ss.any (isA n l)with
  |true=>rw[aw rfl,gP,WY n l ss,c,e_]
  |false=>
   rw[ao ae,fw];cases isA n l s<;>rfl
theorem FG{n l:Str}(t:Int):∀{ss:List Sy}{k:Nat},V0 n l ss=some k->∃ s,ss[k]?=some s/\isA n l s=true/\YB n l t ss=ss.set k ⟨s.n,s.l,s.b,some t⟩
 | s::ss,k,h=>by
  rw[V0]at h;rw[YB];cases c:ss.any (isA n l)with
  |true=>
   rw[c,aw rfl]at h;obtain⟨j,g,rfl⟩:=dQ.mp h;obtain⟨x,r,z,B⟩:=FG t g;exact⟨x,by rw[dI];exact r,z,by rw[aw rfl,B];rfl⟩
  | false=>
   rw[c,ao ae]at h;rw[ao ae];cases d:isA n l s with
   |true=>
    rw[d,aw rfl]at h;cases h;exact⟨s,rfl,d,rfl⟩
   |false=>
    rw[d,ao ae]at h;cases h
theorem Ud(n l:Str)(x:Sy):∀ ss:List Sy,V0 n l (ss++[x])=if isA n l x then some ss.length else V0 n l ss
 |[]=>by
  show V0 n l [x]=if isA n l x=true then some 0 else none
  rw[V0,List.any_nil,ao ae]
 |s::ss=>by
  rw[g7,V0,V0,Ud n l x ss,ej,bi,List.any_nil,fw,a_];cases isA n l x with
  |true=>rw[e_,aw rfl,aw rfl,aw rfl];rfl
  |false=>rw[fw];rfl
theorem X9(n l:Str)(t:Int)(g h:Str):∀ ss:List Sy,(YB n l t ss).any (isA g h)=ss.any (isA g h)
 |[]=>rfl
 | s::ss=>by
  rw[YB]
  split
  ·rw[bi,bi,X9 n l t g h ss]
  ·split
   ·rfl
   ·rfl
theorem BU(n l:Str)(t:Int)(g h:Str):∀ ss:List Sy,V0 g h (YB n l t ss)=V0 g h ss
 |[]=>rfl
 | s::ss=>by
  rw[YB]
  split
  ·rw[V0,V0,X9,BU n l t g h ss]
  ·split
   ·rfl
   ·rfl
theorem UT(n l:Str)(t:Int):∀ ss:List Sy,(YB n l t ss).length=ss.length
 |[]=>rfl
 |s::ss=>by
  rw[YB]
  split
  ·rw[a_,a_,UT n l t ss]
  ·split<;>rfl
noncomputable def kNL(n l:Str):List Key:=[.inr n,.inr l]
theorem uD{n l r t:Str}(h:kNL n l=kNL r t):n=r/\l=t:=by
 injection h with z g
 injection g with g _
 exact⟨dj z,dj g⟩
theorem qm(ps:List (List Key×PyData))(k l:List Key)(d:PyData):dvT (Xr ps k d) l=if l=k then some d else dvT ps l:=by
 have B:∀ g:List (List Key×PyData),(g.any λt=>decide (t.1=k))=(g.find? λt=>decide (t.1=k)).isSome:=λg=>by
  rw[cu,cE,List.find?_isSome]
 unfold Xr
 split
 ·next h=>
  have D:∀ g:List (List Key×PyData),(g.any λt=>decide (t.1=k))=true->dvT (g.map λt=>if t.1=k then(t.1,d)else t) l=if l=k then some d else dvT g l:=λg=>by
   induction g with
   |nil=>intro h;cases h
   | cons q g C=>
    intro h;unfold dvT at C⊢;rw[ai]
    by_cases e:q.1=k
    ·rw[aw e]
     by_cases z:l=k
     ·rw[aH (by simpa using e.trans z.symm),aw z];rfl
     ·rw[ao z,aK (by simpa using λy=>z (y.symm.trans e)),aK (by simpa using λy=>z (y.symm.trans e))];clear C h
      induction g with
      |nil=>rfl
      |cons r g C=>
       rw[ai]
       by_cases y:r.1=l
       ·rw[ao λx=>z (y.symm.trans x),aH (by simpa using y),aH (by simpa using y)]
       ·rw[aK (by split<;>simpa using y),aK (by simpa using y)];exact C
    ·rw[ao e];rw[bi,aZ e,eA]at h
     by_cases y:q.1=l
     ·rw[aH (by simpa using y),aH (by simpa using y),ao λz=>e (y.trans z)]
     ·rw[aK (by simpa using y),aK (by simpa using y)];exact C h
  exact D ps h
 ·next h=>
  rw[B,fc,Option.isSome_eq_false_iff,Option.isNone_iff_eq_none]at h;unfold dvT;rw[gQ]
  by_cases z:l=k
  ·rw[aw z,z,h,Option.none_or,aH (by simp)];rfl
  ·rw[ao z,aK (by simpa using λy=>z y.symm),List.find?_nil,Option.or_none]
def Lts(ss:List Sy)(ps:List (List Key×PyData)):Prop:=ps.length<=ss.length/\∀n l,dvT ps (kNL n l)=(V0 n l ss).map λk=>.int (k:Nat)
def W2(rs:List Rw):Prop:=∀(i:Nat)(r:Rw),rs[i]?=some r->r.c=false->∃ x∈rs.take i,x.c=true/\x.n=r.n/\x.l=r.l
theorem uA(rs:List Rw)(r:Rw):stF (rs++[r])=Vv (stF rs) r:=by
 unfold stF;rw[bV];rfl
theorem vD{ss:List Sy}{r:Rw}{n l:Str}(h:ss.any (isA n l)=true):(Vv ss r).any (isA n l)=true:=by
 unfold Vv
 split
 ·rw[ej,h,fe]
 ·rw[X9,h]
theorem NZ{n l:Str}:∀{rs:List Rw}{ss:List Sy},(ss.any (isA n l)=true\/∃x∈rs,x.c=true/\x.n=n/\x.l=l)->(rs.foldl Vv ss).any (isA n l)=true
 |[],ss,h=>by
  rcases h with h|⟨x,g,_⟩
  ·exact h
  ·cases g
 | r::rs,ss,h=>by
  refine NZ (rs:=rs) (ss:=Vv ss r) ?_
  rcases h with h|⟨x,g,t,z,B⟩
  ·exact .inl (vD h)
  ·rcases aW.mp g with rfl|g
   ·left
    unfold Vv;rw[aw t,ej,bi,isA,aI z,aI B,gh,fe,e_]
   ·exact .inr ⟨x,g,t,z,B⟩
theorem Gb:∀(rs:List Rw)(ss:List Sy),(rs.foldl Vv ss).length<=ss.length+rs.length
 |[],ss=>ak _
 | r::rs,ss=>by
  have g:=Gb rs (Vv ss r);have h:(Vv ss r).length<=ss.length+1:=by
   unfold Vv
   split
   ·rw[aB];exact ak _
   ·rw[UT];exact dM _
  rw[bg,a_];lia
theorem vw{k:Nat}(h:k<n):ixN n (k:Int)=some k:=by
 unfold ixN;rw[aw (by lia),aw (by lia)];rfl
theorem Bi{A B C:OO}(h:p≠q):Zs (Zs (Zs M q A) p B) q C=Zs (Zs M q C) p B:=by
 funext a
 by_cases z:a=q
 ·rw[z,Zk,Zj (be h),Zk]
 ·rw[Zj z]
  by_cases y:a=p
  ·rw[y,Zk,Zk]
  ·rw[Zj y,Zj z,Zj y,Zj z]
theorem MZ(ps:List (List Key×PyData))(k:List Key)(d:PyData):(Xr ps k d).length<=ps.length+1:=by
 unfold Xr
 split
 ·rw[aa];exact dM _
 ·rw[aB];exact ak _
theorem nY:isS (.str coS) (Str.ofString "comes")=true/\isS (.str goS) (Str.ofString "comes")=false:=by walk_at"k"
def oT:DSp:=λxs M Φ=>on2 xs λx y=>x=.dat (vwD v0)/\onL y λds=>∃ g:List Rw,ds=g.map rwD/\(g.length<=10000000/\W2 g)/\
 ∀q M',M q=none->(∀a,M a≠none->M' a=M a)->M' q=some (.lst ((stF g).map syD))->Φ (.own q) M'
theorem Wm(T:Tx w K mg base):Qx P w K mg base CX0 2 T.V5 T.Yj ["view","rows"] (lift K oT):=by
 refine okD T.V9.F Qe (λxs M Φ h=>by obtain⟨_,_,rfl,_⟩:=Zz h;rfl) λa5 A a0 s H E O=>⟨_,(Zd (Zl 2 Qe.nd (cO T.NF (tu T) O (Za (Zb 0) Ze)))
 (Zd (Zl 3 Qe.nd (Qd (OR rfl) rfl T.Bo Kj (Za (ZI false (Zn (sc:=Zf Q6) (XN:=["view","rows","told","latest","row","place","ended"]) (N:=["k","told"]) (ix:=[none,some 2]) rfl rfl (by walk_at"k")) (KU rfl T.VD (Za (ZD JD rfl T.Yq Jr (Za (Zb 2) Ze)) Ze)) (λC ex s H=>(Zm 0 (show List.Nodup (["k","told"]:List Str) by walk_at"k"))) (λC ex s H=>Z8) (λC ex s H=>(Zw (Za (Zw (Za (Zh (Zh (Zb 1) (Zb 0)) Zc) (Za (Zh (Zh (Zb 1) (Zb 0)) Zc) Ze))) (Za (Zb 0) Ze)))) rfl) Ze)))
 (Zd (Jc (Zb 1) (Zm 4 Qe.nd) (Zd (Zl 5 Qe.nd (VE (Za (Zh (Zb 4) Zc) (Za (Zh (Zb 4) Zc) Ze))))
 (Zi (QJ (ZC (ER O) (Zh (Zb 4) Zc) Zu) (Zd (uC O (Zb 3) (Zb 5) (ZD JD rfl T.Yq Jr (Za (Zb 2) Ze)))
 (Zi (Qh (QB (Zb 2) (Zr JF (jx (Zb 5)) (Zw (Za (Zh (Zb 4) Zc) (Za W7 Ze)))))))) (Zd (Zl 6 Qe.nd (Zh (Zb 2) (Ea O (Zb 3) (jx (Zb 5)))))
 (Zi (WG (Zr JF (Q8 (Zb 6) Jo (Jn Zc)) (Zw (Za (Zh (Zb 4) Zc) Ze))) (BR (Zb 2) (Ea O (Zb 3) (jx (Zb 5)))))))))) bj rfl)
 (Zi (Zq (Zb 2)))))),λxs M Φ h=>?_⟩
 obtain⟨x1,x2,rfl,h⟩:=(Zz h);obtain⟨rfl,h⟩:=h;obtain⟨ds,rfl,B,rfl,⟨hl,a1⟩,h⟩:=(WC h);walk_at"h";simp only[SY];walk_at"rk";refine⟨v0,rfl,⟨br _,λ_ h=>(nomatch h)⟩,λq hq=>?_⟩;walk_at"h";rw[show gy v0.ts=[]from rfl];refine⟨⟨by decide,by decide⟩,by decide,λi G M'=>G=[]/\M' =Zs M q (.lst []),⟨rfl,rfl⟩,λi d G M' hd=>?_,?_⟩
 ·rw[show WS 0 (([]:List PyData).length:Int).toNat=[]from rfl]at hd;cases hd
 rintro G M' ⟨rfl,rfl⟩;refine⟨rfl,λp hp=>?_⟩;have D:p≠q:=λz=>by
  rw[z,Zk]at hp;cases hp
 have a2:M p=none:=by rwa [Zj D]at hp
 walk_at"h";have len:=aa (as:=B) rwD;refine⟨λi Δ M2=>∃ k4 k5 k6 ps,Δ=[some (.dat (vwD v0)),some (.dat (.list (B.map rwD))),some (.own q),some (.own p),k4,k5,k6]/\Lts (stF (B.take i)) ps/\M2=Zs (Zs M q (.lst ((stF (B.take i)).map syD))) p (.dtv ps),⟨_,_,_,_,rfl,⟨ak _,λn l=>rfl⟩,rfl⟩,?_,?_⟩
 ·rintro i d Δ M2 hd ⟨k4,k5,k6,ps,rfl,⟨U,I⟩,rfl⟩;obtain⟨r,er,rfl⟩:=Zp hd;have hi:i<B.length:=(aE.mp er).1;have tk:B.take (i+1)=B.take i++[r]:=by
   have:=take_snoc id er;simp only[List.map_id_fun,id]at this;exact this.symm
  have J:=uA (B.take i) r;rw[<-tk]at J;have ls:=Gb (B.take i) [];rw[bp,eh,cx]at ls;have a3:=a1 i r er;rw[show rwD r=.tuple [.int r.t,.str r.n,.str (if r.c then coS else goS),.str r.l]from rfl];have hw:isS (.str (if r.c then coS else goS)) (Str.ofString "comes")=r.c:=by
   cases r.c
   ·exact nY.2
   ·exact nY.1
  generalize(if r.c then coS else goS)=w' at*;have ha:r.c=false->(stF (B.take i)).any (isA r.n r.l)=true:=λc=>NZ (.inr (a3 c));have a6:(stF (B.take i)).length<=10000000:=by unfold stF;lia
  generalize stF (B.take i)=L at*;have a4:=aa (as:=L) syD;refine Qn λE hE=>?_;walk_at"rk";refine⟨by decide,?_⟩;have Y:∀ o:OO,Zs (Zs M q (.lst (L.map syD))) p o q=some (.lst (L.map syD)):=λo=>by rw[Zj (be D),Zk]
  rw[hw];cases c:r.c with
  | true=>
   rw[aw rfl,Y,Zv];refine⟨kNL r.n r.l,rfl,by lia,?_⟩;rw[Y,Zv,MP];walk_at"rk";rw[Y,Zv];obtain rfl:=hE trivial;refine⟨by lia,_,_,_,Xr ps (kNL r.n r.l) (.int L.length),rfl,⟨?_,λn l=>?_⟩,?_⟩
   ·rw[J,Vv,aw c,aB];have:=MZ ps (kNL r.n r.l) (.int L.length);exact aA this (bX U 1)
   ·rw[J,Vv,aw c,qm,Ud,isA]
    by_cases z:kNL n l=kNL r.n r.l
    ·obtain⟨rfl,rfl⟩:=uD z;rw[aw rfl,aI rfl,aI rfl,gh,aw rfl];rfl
    ·rw[ao z,I,ao];intro y;rw[b_]at y;exact z (by rw[<-aY y.1,<-aY y.2])
   ·rw[J,Vv,aw c,al,Bi D,a4];rfl
  |false=>
   rw[ao ae];obtain⟨k,ek⟩:=ft.mp ((WY r.n r.l L).trans (ha c));obtain⟨g,e1,e2,e3⟩:=FG r.t ek;have lk:k<L.length:=(aE.mp e1).1;have dv:dvT ps (kNL r.n r.l)=some (.int (k:Nat)):=by rw[I,ek];rfl
   refine⟨kNL r.n r.l,_,rfl,dv,?_⟩;rw[Y,Zv,om];refine J7 (d:=syD g) (J5 (by rw[aV,e1];rfl)) ?_;rw[show syD g=.tuple [.str g.n,.str g.l,.int g.b,match g.e with|none=>.none|some t=>.int t]from rfl,tK];refine⟨show ¬(HT.sIx 4 0 none=0/\HT.sIx 4 4 (some 3)=4) by decide,?_⟩;rw[show DL.cutD [.str g.n,.str g.l,.int g.b,match g.e with|none=>.none|some t=>.int t] none (some 3)=[.str g.n,.str g.l,.int g.b]from rfl,MP];walk_at"rk";refine⟨kNL r.n r.l,_,rfl,dv,?_⟩;walk_at"rk";rw[Y,Zv];obtain rfl:=hE trivial;refine⟨k,vw (by lia),_,_,_,ps,rfl,⟨?_,λn l=>?_⟩,?_⟩
   ·rw[J,Vv,c,ao ae,UT];exact U
   ·rw[J,Vv,c,ao ae,BU,I]
   ·rw[J,Vv,c,ao ae,Bi D,e3,List.map_set];rfl
 ·rintro Δ M2 ⟨k4,k5,k6,ps,rfl,_,rfl⟩;rw[len,av];subst_vars;walk_at"rk";refine h q _ hq (λa ha=>?_) (by rw[Zj (be D),Zk]);rw[Zj λz=>ha (by rw[z];exact a2),Zj λz=>ha (by rw[z];exact hq)]
noncomputable def ofS(S:Str->Bool)(ts:List Tl):List Tl:=ts.filter λt=>isL t||S (nmT t)
noncomputable def prS(S:Str->Bool)(v:Vw):Vw:=⟨v.ls,v.ts.filter λk=>S k.n⟩
noncomputable def rwS(S:Str->Bool)(rs:List Rw):List Rw:=rs.filter λr=>S r.n
theorem UK{la lb:List Row}{k t:Th}:∀ r∈QP la lb tm k t,r.n=k.n:=λr g=>by
 rcases ax.mp g with g|g<;>(obtain⟨_,_,rfl⟩:=af.mp g;rfl)
theorem X8{S:Str->Bool}{n:Str}:∀{rs:List Rw},(∀r∈rs,r.n=n)->rwS S rs=if S n then rs else[]
 |[],_=>by
  cases S n<;>rfl
 | r::rs,h=>by
  have g:=X8 (S:=S) λx l=>h x (aq _ l);have e:=h r aj;unfold rwS at g⊢;cases c:S n with
  |true=>
   rw[c,aw rfl]at g;rw[bb (by rw[e];exact c),g,aw rfl]
  |false=>
   rw[c,ao ae]at g;rw[ba (by rw[e,c];exact ae),g,ao ae]
theorem Xq(S:Str->Bool)(a b:List Rw):rwS S (a++b)=rwS S a++rwS S b:=bv ..
theorem Fj{k:Th}{l:List Th}(h:S k.n=true):((k::l).filter λk=>S k.n)=k::l.filter λk=>S k.n:=bb (p:=λk:Th=>S k.n) h
theorem R4{k:Th}{l:List Th}(h:S k.n=false):((k::l).filter λk=>S k.n)=l.filter λk=>S k.n:=ba (p:=λk:Th=>S k.n) (by rw[h];exact ae)
theorem U9{g:Th->List Rw}:∀{l:List Th},(∀k∈l,∀r∈g k,r.n=k.n)->rwS S (l.flatMap g)=(l.filter λk=>S k.n).flatMap g
 |[],_=>rfl
 |k::l,h=>by
  rw[cK,Xq,U9 λx t=>h x (aq _ t),X8 (h k aj)];cases c:S k.n with
  |true=>rw[aw rfl,Fj c,cK]
  |false=>rw[ao ae,R4 c,fE]
theorem vS(S:Str->Bool)(v:Vw)(ts:List Tl):VC (prS S v) ts=prS S (VC v ts)/\JY (prS S v) ts=rwS S (JY v ts):=by
 unfold VC JY
 split
 ·exact⟨rfl,rfl⟩
 ·refine⟨?_,(U9 λk _ r g=>UK r g).symm⟩;show Vw.mk _ _=Vw.mk _ _
  congr 1
  exact(di (f:=λk=>Qz (GI v.ls ts) k (tmH ts)) (l:=v.ts) (p:=λk=>S k.n)).symm
theorem KC{g:Type}{p q r:g->Bool}{l:List g}(h:∀ x∈l,p x=true->q x=r x):(l.filter p).filter q=(l.filter r).filter p:=by
 rw[cB,cB];refine bG λx t=>?_;cases c:p x with
 |true=>rw[h x t c,fA,gi]
 |false=>rw[bW,eT]
theorem xJ(v:Vw)(tm:Int){ns g:List Str}(h:∀ n,S n=true->g.contains n=ns.contains n):Ww (prS S v) g=prS S (Ww v ns)/\QS (prS S v) tm g=rwS S (QS v tm ns):=by
 constructor
 ·unfold Ww prS
  congr 1
  exact KC λk _ c=>by rw[h k.n c]
 ·unfold QS;rw[U9 λk _ r l=>UK r l];show List.flatMap _ ((v.ts.filter _).filter _)=_;rw[KC (p:=λk:Th=>S k.n) (q:=λk:Th=>g.contains k.n) (r:=λk:Th=>ns.contains k.n) λk _ c=>h k.n c];rfl
theorem m_{nm:Str}(u w:Int)(h:S nm=true):∀ m:List Th,knS (m.filter λk=>S k.n) nm u w=knS m nm u w
 |[]=>rfl
 | k::m=>by
  have g:=m_ u w h m;unfold knS at g⊢
  by_cases e:k.n=nm
  ·rw[Fj (by rw[e];exact h),aH (by simpa using e),aH (by simpa using e)]
  ·rw[aK (l:=m) (by simpa using e),<-g];cases c:S k.n with
   |true=>rw[Fj c,aK (by simpa using e)]
   |false=>rw[R4 c]
theorem rO{t:Th}(h:S t.n=true)(m:List Th):((m.filter λk=>S k.n).any λx=>decide (x.n=t.n))=m.any λx=>decide (x.n=t.n):=by
 rw[List.any_filter]
 congr 1
 funext x
 by_cases e:x.n=t.n
 ·rw[e,h,gi]
 ·rw[aZ e,bW]
theorem md(S:Str->Bool)(m:List Th)(t:Th):((XY m t).filter λk=>S k.n)=if S t.n then XY (m.filter λk=>S k.n) t else m.filter λk=>S k.n:=by
 have g:∀ l:List Th,((l.map λx=>if x.n=t.n then t else x).filter λk=>S k.n)=(l.filter λk=>S k.n).map λx=>if x.n=t.n then t else x:=λl=>by
  rw[di]
  congr 1
  refine bG λx _=>?_;show S (if x.n=t.n then t else x).n=S x.n
  split
  ·next e=>rw[e]
  ·rfl
 cases c:S t.n with
 |true=>
  rw[aw rfl];unfold XY;rw[rO c]
  split
  ·exact g m
  ·rw[bv,Fj c,dh]
 |false=>
  rw[ao ae];unfold XY
  split
  ·rw[g];refine(bo λx h=>?_).trans (eX _);have:=(ah.mp h).2;exact ao λe=>by
    rw[e,c]at this;cases this
  ·rw[bv,R4 c,dh,aU]
theorem Ms{ls:List Ld}:∀(R:List Tl)(st:List Th×List Rw),(∀t∈R,ip t)->((R.foldl (QT ls) st).1.filter (λk=>S k.n),rwS S (R.foldl (QT ls) st).2)=(R.filter λt=>S (nmT t)).foldl (QT ls) (st.1.filter (λk=>S k.n),rwS S st.2)
 |[],st,_=>rfl
 | t::R,st,h=>by
  obtain⟨tm,g,u,w,rfl⟩:=h t aj;rw[bg,Ms R _ λt z=>h t (aq _ z)];have l:∀ r∈QP (lsR ls) (lsR ls) tm (knS st.1 g u w) (Qq ls st.1 tm g u w),r.n=g:=λr B=>by
   rw[UK r B];unfold knS;cases e:st.1.find? λx=>decide (x.n=g)with
   |none=>rfl
   |some x=>simpa using fF e
  cases c:S g with
  |true=>
   rw[bb (p:=λt=>S (nmT t)) (a:=.spot tm g u w) c,bg]
   congr 1
   show((XY st.1 _).filter _,rwS S (st.2++_))=(XY (st.1.filter _) _,rwS S st.2++_)
   rw[md,show(Qq ls st.1 tm g u w).n=g from rfl,c,aw rfl,Xq,X8 l,c,aw rfl];unfold Qq;rw[m_ u w c]
  |false=>
   rw[ba (p:=λt=>S (nmT t)) (by rw[show nmT (.spot tm g u w)=g from rfl,c];exact ae)]
   congr 1
   show((XY st.1 _).filter _,rwS S (st.2++_))=_;rw[md,show(Qq ls st.1 tm g u w).n=g from rfl,c,ao ae,Xq,X8 l,c,ao ae,aU]
theorem qc{g:Type}{f:g->Str}{l:List g}(p:g->Bool)(h:(l.map f).Nodup):(upF f l).filter p=upF f (l.filter p):=by
 obtain⟨r,t⟩:=Mq h;exact Ck (r.filter p) (t.filter p)
theorem rl{v:Vw}{R:List Tl}(g:VwS NM v)(l:∀ t∈R,TlG NM t)(r:∀ t∈R,ip t):Ci (prS S v) (R.filter λt=>S (nmT t))=prS S (Ci v R)/\BN (prS S v) (R.filter λt=>S (nmT t))=rwS S (BN v R):=by
 have h:=Ms (S:=S) (ls:=v.ls) R (v.ts,[]) r;have z:=(UU (ts:=R) (st:=(v.ts,[])) g.ord g.ths l).1;have B:=bK Prod.fst h;have C:=bK Prod.snd h;refine⟨?_,C.symm⟩;unfold Ci;show Vw.mk v.ls (upF _ (((R.filter λt=>S (nmT t)).foldl (QT v.ls) (v.ts.filter _,[])).1))=Vw.mk v.ls _
 congr 1
 refine Eq.trans ?_ (qc (f:=Th.n) (λk=>S k.n) z).symm;exact bK _ B.symm
theorem V6{t:Tl}(h:TlK t):isL t=decide (rkW (wdT t)=0):=by
 have k:=GW h;unfold isL
 rcases k with e|e|e|e<;>(rw[e];decide+kernel)
theorem sD{x y:Tl}(l:TlK x)(r:TlK y)(e:plT x=plT y):(isL x||S (nmT x))=(isL y||S (nmT y)):=by
 injection e with t g
 injection g with g h
 injection h with h _
 rw[V6 l,V6 r,show rkW (wdT x)=rkW (wdT y)from gK g,show nmT x=nmT y from dj h]
theorem kE{ts R:List Tl}(B:∀ t∈ts,TlK t)(h:Due ts R):Due (ofS S ts) (ofS S R):=by
 refine⟨h.up.filter _,λx g=>?_,λx g y r e=>?_,λy r=>?_⟩
 ·obtain⟨l,z⟩:=ah.mp g;exact ah.mpr ⟨h.mem x l,z⟩
 ·exact h.lo x (ah.mp g).1 y (ah.mp r).1 e
 ·obtain⟨l,z⟩:=ah.mp r;obtain⟨x,g,e⟩:=h.all y l;exact⟨x,ah.mpr ⟨g,by rw[sD (S:=S) (B x (h.mem x g)) (B y l) e];exact z⟩,e⟩
theorem ke(S:Str->Bool)(R:List Tl):(ofS S R).filter isL=R.filter isL:=by
 unfold ofS;rw[cB];exact bG λx _=>by cases isL x<;>simp
theorem Xh{w:Str}{t:Tl}(g:w=Str.ofString "free"\/w=Str.ofString "spot")(h:isW w t=true):isL t=false:=by
 have e:wdT t=w:=aY h;unfold isL;rw[e]
 rcases g with rfl|rfl<;>decide+kernel
theorem jo{w:Str}(g:w=Str.ofString "free"\/w=Str.ofString "spot")(S:Str->Bool)(R:List Tl):(ofS S R).filter (isW w)=(R.filter (isW w)).filter λt=>S (nmT t):=by
 unfold ofS;refine KC (p:=λt=>isL t||S (nmT t)) (q:=isW w) (r:=isW w) (λ_ _ _=>rfl) |>.trans ?_;exact bG λx h=>by rw[Xh g (ah.mp h).2,eA]
theorem YS(v:Vw){t:Int}{l:List Tl}(h:∀ x∈l,tmT x=t):QS v (tmH l) (l.map nmT)=QS v t (l.map nmT):=by
 cases l with
 |nil=>
  unfold QS;have:(v.ts.filter λk=>([]:List Tl).map nmT |>.contains k.n)=[]:=cL.mpr λ_ _ z=>by cases z
  rw[this];rfl
 |cons x l=>rw[show tmH (x::l)=tmT x from rfl,h x aj]
theorem rD{v:Vw}{R:List Tl}{t:Int}(E:VwS NM v)(G:∀ x∈R,TlG NM x)(B:∀ x∈R,tmT x=t):onV (prS S v) (ofS S R)=prS S (onV v R)/\onR (prS S v) (ofS S R)=rwS S (onR v R):=by
 obtain⟨I,J⟩:=vS S v (R.filter isL);have h:∀{p:Tl->Bool},∀x∈R.filter p,TlG NM x:=λx g=>G x (ah.mp g).1;have r:VwS NM (Vg v R):=E.land h;have z:VwS NM (Jz v R):=r.free _;have C:Vg (prS S v) (ofS S R)=prS S (Vg v R):=by
  unfold Vg;rw[ke];exact I
 have L:∀ n,S n=true->(((ofS S R).filter isF).map nmT).contains n=((R.filter isF).map nmT).contains n:=λn O=>by
  rw[jo (.inl rfl),cu,ck,ck,af,af];constructor
  ·rintro⟨x,g,rfl⟩;exact⟨x,(ah.mp g).1,rfl⟩
  ·rintro⟨x,g,rfl⟩;exact⟨x,ah.mpr ⟨g,O⟩,rfl⟩
 obtain⟨U,Y⟩:=xJ (S:=S) (Vg v R) t L;have D:Jz (prS S v) (ofS S R)=prS S (Jz v R):=by
  unfold Jz;rw[C];exact U
 obtain⟨s1,s2⟩:=rl (S:=S) (R:=R.filter isP) z h λx g=>Pj (h x g).2.1.1 (ah.mp g).2;refine⟨?_,?_⟩
 ·unfold onV;rw[D,jo (.inr rfl)];exact s1
 ·unfold onR;rw[C,D,ke,J,YS (l:=(ofS S R).filter isF) _ λx g=>B x (ah.mp (ah.mp g).1).1,Y,YS (Vg v R) λx g=>B x (ah.mp g).1,jo (.inr rfl),s2,Xq,Xq]
theorem pc{v:Vw}(g:VwS NM v):onV v []=v/\onR v []=[]:=by
 have h:Jz v []=v:=by
  have:(v.ts.filter λk=>!((([]:List Tl).filter isF).map nmT).contains k.n)=v.ts:=List.filter_eq_self.mpr λk _=>rfl;show Vw.mk v.ls (v.ts.filter λk=>!((([]:List Tl).filter isF).map nmT).contains k.n)=v;rw[this]
 constructor
 ·show Ci (Jz v []) []=v;rw[h];show Vw.mk v.ls (upF _ v.ts)=v;rw[<-Ck (.refl _) g.tup]
 ·unfold onR;show[]++QS v 0 []++[]=[]
  unfold QS;rw[cL.mpr λk _ z=>by cases z];rfl
theorem Tms.uniq{ts:List Tl}{l:List Int}(h:Tms ts ks)(h':Tms ts l):ks=l:=OC (lt:=λa b=>decide (a<b)) (λa b g=>aZ (by have:=aY g;lia)) (h.1.imp λg=>aI g) (h'.1.imp λg=>aI g) λt=>(h.2 t).trans (h'.2 t).symm
theorem at_of(S:Str->Bool)(ts:List Tl)(t:Int):atT (ofS S ts) t=ofS S (atT ts t):=by
 unfold atT ofS;rw[cB,cB];exact bG λx _=>Bool.and_comm _ _
theorem Gp{ts:List Tl}{t:Int}{x:Tl}(h:x∈atT ts t):x∈ts/\tmT x=t:=⟨(ah.mp h).1,aY (ah.mp h).2⟩
theorem yN:Je []=[]:=(Yu (ts:=[]) (λ_ h=>(nomatch h)) Due.nil).symm
theorem BQ{ts:List Tl}{t:Int}(h:∀ x∈ts,TlG NM x):(∀x∈Je (atT ts t),TlG NM x)/\∀x∈Je (atT ts t),tmT x=t:=⟨λx g=>h x (Gp (Gw _ x g)).1,λx g=>(Gp (Gw _ x g)).2⟩
theorem kX{ts:List Tl}(g:∀ x∈ts,TlG NM x):∀(ks:List Int)(st:Vw×List Rw),VwS NM st.1->VwS NM (Vh ts st ks).1
 |[],_,h=>h
 |t::ks,st,h=>kX g ks _ (h.on (BQ g).1)
theorem nA{NM:List Str}{S:Str->Bool}{ts:List Tl}(g:∀ x∈ts,TlG NM x):∀(ks:List Int)(st:Vw×List Rw),VwS NM st.1->JV ts ks->Vh (ofS S ts) (prS S st.1,rwS S st.2) ks=(prS S (Vh ts st ks).1,rwS S (Vh ts st ks).2)
 |[],_,_,_=>rfl
 | t::ks,st,h,hd=>by
  obtain⟨R,z⟩:=hd t aj;have l:∀ x∈atT ts t,TlK x:=λx r=>(g x (Gp r).1).2.1.1;have C:=Yu l z;have D:Je (atT (ofS S ts) t)=ofS S (Je (atT ts t)):=by
   rw[at_of,<-C];exact(Yu (λx r=>l x (ah.mp r).1) (kE l z)).symm
  obtain⟨B,E⟩:=BQ (t:=t) g;obtain⟨G,I⟩:=rD (S:=S) h B E;have J:=nA (S:=S) g ks (onV st.1 (Je (atT ts t)),st.2++onR st.1 (Je (atT ts t))) (h.on B) λu L=>hd u (aq _ L);show Vh (ofS S ts) (onV (prS S st.1) (Je (atT (ofS S ts) t)),rwS S st.2++onR (prS S st.1) (Je (atT (ofS S ts) t))) ks=_;rw[D,G,I,<-Xq];exact J
theorem PR{ts:List Tl}(g:∀ x∈ts,TlG NM x):∀(ks:List Int)(st:Vw×List Rw),VwS NM st.1->Vh ts st ks=Vh ts st (ks.filter λt=>!(atT ts t).isEmpty)
 |[],_,_=>rfl
 | t::ks,st,h=>by
  have r:=PR g ks;cases c:atT ts t with
  |nil=>
   rw[ba (by rw[c];exact ae),<-r st h];show Vh ts (onV st.1 (Je (atT ts t)),st.2++onR st.1 (Je (atT ts t))) ks=_;rw[c,yN,(pc h).1,(pc h).2,aU]
  |cons x l=>
   rw[bb (by rw[c];rfl)];exact r _ (h.on (BQ g).1)
theorem Tms.jJ{ts us:List Tl}(h:Tms ts ks)(z:∀ x∈us,x∈ts):Tms us (ks.filter λt=>!(atT us t).isEmpty):=by
 refine⟨h.1.filter _,λt=>?_⟩;rw[ah];constructor
 ·rintro⟨_,g⟩;cases c:atT us t with
  |nil=>
   rw[c]at g;cases g
  |cons x l=>
   have:=Gp (ts:=us) (t:=t) (x:=x) (by rw[c];exact aj);exact⟨x,this.1,this.2⟩
 ·rintro⟨x,r,rfl⟩;refine⟨(h.2 _).mpr ⟨x,z x r,rfl⟩,?_⟩;cases c:atT us (tmT x)with
  |nil=>
   have:x∈atT us (tmT x):=ah.mpr ⟨r,aI rfl⟩;rw[c]at this;cases this
  |cons=>rfl
theorem apart{ts:List Tl}{g:List Int}(z:Wz ts)(B:Tms ts ks)(h:Tms (ofS S ts) g)(hd:JV ts ks):ZS (ofS S ts) g=(prS S (ZS ts ks).1,rwS S (ZS ts ks).2):=by
 obtain⟨NM,r,_,t⟩:=z;have sub:∀ x∈ofS S ts,x∈ts:=λx l=>(ah.mp l).1;have e:=nA (S:=S) t ks (v0,[]) (LP r) hd;have C:=PR (ts:=ofS S ts) (λx l=>t x (sub x l)) ks (v0,[]) (LP r);rw[Tms.uniq h (B.jJ sub)];exact C.symm.trans e
theorem E5{key:Str->PyData}(r:∀ s,pln (key s)=true)(t:∀ a b,ZW (key a) (key b)=true)(l:List Str):(gN key l).Perm l:=by
 have z:∃ g,Ee key l g:=by
  refine⟨l.mergeSort λa b=>!ltD (key b) (key a),gz _ _,?_⟩;refine(List.pairwise_mergeSort (le:=λa b:Str=>!ltD (key b) (key a)) (λa b c B C=>?_) (λa b=>?_) l).imp λ{a b} h=>?_
  ·rw[fT]at B C⊢;exact UI _ _ _ (r a) (r b) (r c) (t a b) (t b c) (t a c) B C
  ·cases h:ltD (key b) (key a)with
   |false=>rfl
   |true=>rw[YD _ _ (r b) (r a) h];rfl
  ·rw[fT]at h;exact h
 unfold gN;rw[hW z];exact z.choose_spec.1
def T9(A:List Rw)(n l:Str):Prop:=∃ x∈A,x.c=true/\x.n=n/\x.l=l
theorem T9.more{A:List Rw}{n l:Str}(B:List Rw)(h:T9 A n l):T9 (A++B) n l:=let⟨x,g,k⟩:=h;⟨x,bh _ g,k⟩
def Cov(A:List Rw)(ts:List Th):Prop:=∀ k∈ts,∀s∈lnT k,T9 A k.n s
theorem W2.app{A B:List Rw}(h:W2 A)(k:∀ r∈B,r.c=false->T9 A r.n r.l):W2 (A++B):=λi r g c=>by
 by_cases z:i<A.length
 ·rw[bE z]at g;obtain⟨x,t,e⟩:=h i r g c;exact⟨x,by rw[List.take_append_of_le_length (dN z)];exact t,e⟩
 ·rw[bx (by lia)]at g;obtain⟨x,t,e⟩:=k r (az g) c;refine⟨x,?_,e⟩;rw[List.take_append,fR (by lia)];exact bh _ t
theorem Fw{A:List Rw}{la lb:List Row}{k t:Th}(C:W2 A)(l:∀ s∈lnT k,T9 A k.n s)(B:t.n=k.n):W2 (A++QP la lb tm k t)/\∀s∈lnT t,T9 (A++QP la lb tm k t) t.n s:=by
 have D:=E5 (key:=kyG la) (λs=>Uh _ s) (λa b=>Ul _ _ a b) (QC (lnT k) (lnT t));have E:=E5 (key:=kyC lb) (λs=>Uh _ s) (λa b=>Ul _ _ a b) (QC (lnT t) (lnT k));refine⟨C.app λr g c=>?_,λs h=>?_⟩
 ·rcases ax.mp g with g|g
  ·obtain⟨s,h,rfl⟩:=af.mp g;exact l s (XU (D.mem_iff.mp h))
  ·obtain⟨s,h,rfl⟩:=af.mp g;cases c
 ·by_cases z:s∈lnT k
  ·rw[B];exact(l s z).more _
  ·have m:s∈QC (lnT t) (lnT k):=ah.mpr ⟨h,by rw[fT,<-fc,ck];exact z⟩;exact⟨⟨tm,k.n,true,s⟩,ay _ (ay _ (af.mpr ⟨s,E.mem_iff.mpr m,rfl⟩)),rfl,B.symm,rfl⟩
theorem Cov.more{A:List Rw}{ts:List Th}(B:List Rw)(h:Cov A ts):Cov (A++B) ts:=λk g s l=>(h k g s l).more B
theorem UG{la lb:List Row}{tm:Int}{f:Th->Th}(r:∀ k,(f k).n=k.n):∀{l:List Th}{A:List Rw},W2 A->Cov A l->W2 (A++l.flatMap λk=>QP la lb tm k (f k))/\Cov (A++l.flatMap λk=>QP la lb tm k (f k)) (l.map f)
 |[],A,h,_=>by
  rw[g_,aU];exact⟨h,λ_ h=>(nomatch h)⟩
 |k::l,A,h,c=>by
  obtain⟨z,B⟩:=Fw (la:=la) (lb:=lb) (tm:=tm) h (c k aj) (r k);obtain⟨C,D⟩:=UG (la:=la) (lb:=lb) (tm:=tm) r (l:=l) z (Cov.more _ (show Cov A l from λx g=>c x (aq _ g)));rw[cK,<-bt];refine⟨C,λx g s t=>?_⟩
  rcases aW.mp g with rfl|g
  ·exact(B s t).more _
  ·exact D x g s t
theorem ye{g:Type}{f:g->Str}{l:List g}{x:g}:x∈upF f l↔x∈l:=by
 unfold upF
 split
 ·next h=>exact h.choose_spec.1.mem_iff
 ·exact Iff.rfl
theorem X4{ls:List Ld}{A:List Rw}:∀(R:List Tl)(st:List Th×List Rw),W2 (A++st.2)->Cov (A++st.2) st.1->W2 (A++(R.foldl (QT ls) st).2)/\Cov (A++(R.foldl (QT ls) st).2) (R.foldl (QT ls) st).1
 |[],_,h,c=>⟨h,c⟩
 | t::R,st,h,c=>by
  cases t with
  |land=>exact X4 R st h c
  |off=>exact X4 R st h c
  | spot tm g u w=>
   have r:(knS st.1 g u w).n=g/\∀s∈lnT (knS st.1 g u w),T9 (A++st.2) (knS st.1 g u w).n s:=by
    unfold knS;cases e:st.1.find? λx=>decide (x.n=g)with
    |none=>exact⟨rfl,λ_ h=>(nomatch h)⟩
    |some x=>exact⟨by simpa using fF e,c x (dg e)⟩
   obtain⟨z,B⟩:=Fw (la:=lsR ls) (lb:=lsR ls) (tm:=tm) (t:=Qq ls st.1 tm g u w) h r.2 r.1.symm;rw[bt]at z B;refine X4 R (QT ls st (.spot tm g u w)) z λk l s C=>?_
   rcases FF l with rfl|l
   ·exact B s C
   ·have:=(c k l s C).more (QP (lsR ls) (lsR ls) tm (knS st.1 g u w) (Qq ls st.1 tm g u w))
    rwa [bt]at this
theorem vo{A:List Rw}{v:Vw}{R:List Tl}(h:W2 A)(c:Cov A v.ts):W2 (A++onR v R)/\Cov (A++onR v R) (onV v R).ts:=by
 have l:W2 (A++JY v (R.filter isL))/\Cov (A++JY v (R.filter isL)) (Vg v R).ts:=by
  unfold Vg VC JY
  split
  ·rw[aU];exact⟨h,c⟩
  ·exact UG (f:=λk=>Qz (GI v.ls (R.filter isL)) k (tmH (R.filter isL))) (λ_=>rfl) h c
 unfold onR;rw[<-bt,<-bt];generalize A++JY v (R.filter isL)=B at*;have r:W2 (B++QS (Vg v R) (tmH (R.filter isF)) ((R.filter isF).map nmT)):=(UG (f:=gk) (λ_=>rfl) l.1 λk g=>l.2 k (ah.mp g).1).1;have t:Cov (B++QS (Vg v R) (tmH (R.filter isF)) ((R.filter isF).map nmT)) (Jz v R).ts:=Cov.more _ λk g=>l.2 k (ah.mp g).1;generalize B++QS (Vg v R) (tmH (R.filter isF)) ((R.filter isF).map nmT)=C at*;obtain⟨z,D⟩:=X4 (ls:=(Jz v R).ls) (A:=C) (R.filter isP) ((Jz v R).ts,[]) (by rw[aU];exact r) (by rw[aU];exact t);exact⟨z,λk g=>D k (ye.mp g)⟩
theorem RE{ts:List Tl}:∀(ks:List Int)(st:Vw×List Rw),W2 st.2->Cov st.2 st.1.ts->W2 (Vh ts st ks).2
 |[],_,h,_=>h
 |t::ks,st,h,c=>by
  obtain⟨g,l⟩:=vo (R:=Je (atT ts t)) h c;exact RE ks _ g l
theorem Mz(ts:List Tl)(ks:List Int):W2 (ZS ts ks).2:=RE ks (v0,[]) (λi r h=>by simp at h) λ_ h=>(nomatch h)
noncomputable def rnK(o:Str)(k:Th):Th:=⟨o,k.u,k.v,k.ss⟩
noncomputable def rnR(o:Str)(r:Rw):Rw:=⟨r.t,o,r.c,r.l⟩
noncomputable def rnV(o:Str)(v:Vw):Vw:=⟨v.ls,v.ts.map (rnK o)⟩
noncomputable def rnT(o:Str):Tl->Tl
 | .land a b c d e=>.land a b c d e
 | .spot tm _ u w=>.spot tm o u w
 | .off w tm _=>.off w tm o
noncomputable def gO(o:Str)(x:Tl):Tl:=if isL x then x else rnT o x
theorem jy(o:Str)(x:Tl):wdT (rnT o x)=wdT x/\tmT (rnT o x)=tmT x:=by cases x<;>exact⟨rfl,rfl⟩
theorem jL(o:Str)(x:Tl):wdT (gO o x)=wdT x/\tmT (gO o x)=tmT x:=by
 unfold gO
 split
 ·exact⟨rfl,rfl⟩
 ·exact jy o x
theorem Kh{x y:Tl}(h:wdT x=wdT y):isL x=isL y:=by unfold isL;rw[h]
theorem lB{w:Str}{x y:Tl}(h:wdT x=wdT y):isW w x=isW w y:=by unfold isW;rw[h]
theorem VP{p:Tl->Bool}{g:Tl->Tl}(h:∀ x,p (g x)=p x)(R:List Tl):(R.map g).filter p=(R.filter p).map g:=by
 rw[di]
 congr 1
 exact bG λx _=>h x
theorem lU(o:Str)(R:List Tl):(R.map (gO o)).filter isL=R.filter isL:=by
 rw[VP λx=>Kh (jL o x).1];refine(bo λx g=>?_).trans (eX _);unfold gO;rw[aw (ah.mp g).2];rfl
theorem DN{la lb:List Row}(o:Str)(k t:Th):QP la lb tm (rnK o k) (rnK o t)=(QP la lb tm k t).map (rnR o):=by
 unfold QP;rw[al,aC,aC];rfl
theorem NX{g g':Th->List Rw}(h:∀ k,g' (rnK o k)=(g k).map (rnR o))(l:List Th):(l.map (rnK o)).flatMap g' =(l.flatMap g).map (rnR o):=by
 induction l with
 |nil=>rfl
 |cons k l r=>rw[ai,cK,cK,al,r,h]
theorem qq(o:Str)(v:Vw)(ts:List Tl):VC (rnV o v) ts=rnV o (VC v ts)/\JY (rnV o v) ts=(JY v ts).map (rnR o):=by
 unfold VC JY
 split
 ·exact⟨rfl,rfl⟩
 ·refine⟨?_,NX (λk=>DN o k (Qz (GI v.ls ts) k (tmH ts))) v.ts⟩;show Vw.mk _ _=Vw.mk _ _
  congr 1
  show(v.ts.map (rnK o)).map _=(v.ts.map _).map (rnK o);rw[aC,aC];rfl
theorem wV{v:Vw}(tm:Int){ns g:List Str}(h:∀ k∈v.ts,g.contains o=ns.contains k.n):Ww (rnV o v) g=rnV o (Ww v ns)/\QS (rnV o v) tm g=(QS v tm ns).map (rnR o):=by
 constructor
 ·unfold Ww rnV
  congr 1
  rw[di]
  congr 1
  exact bG λk l=>by
   show(!g.contains o)= !ns.contains k.n;rw[h k l]
 ·unfold QS;show List.flatMap _ ((v.ts.map (rnK o)).filter _)=_;have e:(v.ts.filter ((λk=>g.contains k.n)∘rnK o))=v.ts.filter λk=>ns.contains k.n:=bG λk l=>h k l;rw[di,e];exact NX (λk=>DN o k (gk k)) _
def X0(n:Str)(m:List Th):Prop:=m=[]\/∃k,m=[k]/\k.n=n
theorem Nw{n:Str}{ls:List Ld}{m:List Th}{rs:List Rw}{u w:Int}(h:X0 n m):X0 n (QT ls (m,rs) (.spot tm n u w)).1/\QT ls (m.map (rnK o),rs.map (rnR o)) (.spot tm o u w)=((QT ls (m,rs) (.spot tm n u w)).1.map (rnK o),(QT ls (m,rs) (.spot tm n u w)).2.map (rnR o)):=by
 have r:knS (m.map (rnK o)) o u w=rnK o (knS m n u w):=by
  rcases h with rfl|⟨k,rfl,e⟩
  ·rfl
  ·unfold knS;rw[ai,aH (by exact aI rfl),aH (by simpa using e)];rfl
 have B:Qq ls (m.map (rnK o)) tm o u w=rnK o (Qq ls m tm n u w):=by
  unfold Qq;rw[r];rfl
 have z:∀ t:Th,t.n=n->XY m t=[t]:=λt g=>by
  rcases h with rfl|⟨k,rfl,e⟩
  ·rfl
  ·unfold XY;rw[aw (by rw[bi,aI (e.trans g.symm)];rfl),ai,aw (e.trans g.symm)];rfl
 have l:∀ t:Th,t.n=o->XY (m.map (rnK o)) t=[t]:=λt g=>by
  rcases h with rfl|⟨k,rfl,e⟩
  ·rfl
  ·unfold XY;rw[ai,aw (by rw[bi,aI (show(rnK o k).n=t.n from g.symm)];rfl),ai,aw (show(rnK o k).n=t.n from g.symm)];rfl
 refine⟨.inr ⟨_,z _ rfl,rfl⟩,?_⟩;show(XY (m.map (rnK o)) (Qq ls (m.map (rnK o)) tm o u w),rs.map (rnR o)++QP _ _ tm (knS (m.map (rnK o)) o u w) (Qq ls (m.map (rnK o)) tm o u w))=((XY m (Qq ls m tm n u w)).map (rnK o),(rs++QP _ _ tm (knS m n u w) (Qq ls m tm n u w)).map (rnR o))
 rw[B,r,l _ rfl,z _ rfl,al,DN];rfl
theorem YC{n:Str}{ls:List Ld}:∀(R:List Tl)(m:List Th)(rs:List Rw),X0 n m->(∀t∈R,ip t/\nmT t=n)->X0 n (R.foldl (QT ls) (m,rs)).1/\(R.map (rnT o)).foldl (QT ls) (m.map (rnK o),rs.map (rnR o))=((R.foldl (QT ls) (m,rs)).1.map (rnK o),(R.foldl (QT ls) (m,rs)).2.map (rnR o))
 |[],m,rs,h,_=>⟨h,rfl⟩
 |t::R,m,rs,h,k=>by
  obtain⟨⟨tm,g,u,w,rfl⟩,e⟩:=k t aj;cases(show g=n from e);obtain⟨l,r⟩:=Nw (o:=o) (ls:=ls) (rs:=rs) (tm:=tm) (u:=u) (w:=w) h;rw[ai,bg,bg,show rnT o (.spot tm n u w)=.spot tm o u w from rfl,r];exact YC R _ _ l λt z=>k t (aq _ z)
theorem Ku{n:Str}{m:List Th}(h:X0 n m):upF (·.n) m=m:=(Ck (.refl _) (by rcases h with rfl|⟨k,rfl,_⟩<;>simp)).symm
theorem N7{n:Str}{m:List Th}(h:X0 n m):X0 o (m.map (rnK o)):=by
 rcases h with rfl|⟨k,rfl,_⟩
 ·exact .inl rfl
 ·exact .inr ⟨_,rfl,rfl⟩
def eF(n:Str)(t:Int)(R:List Tl):Prop:=∀ x∈R,TlK x/\tmT x=t/\(isL x=false->nmT x=n)
theorem Dp{n:Str}{t:Int}{v:Vw}{R:List Tl}(h:X0 n v.ts)(g:eF n t R):X0 n (onV v R).ts:=by
 have r:X0 n (Vg v R).ts:=by
  unfold Vg VC
  split
  ·exact h
  ·rcases h with e|⟨k,e,z⟩
   ·exact .inl (by show v.ts.map _=[];rw[e];rfl)
   ·exact .inr ⟨Qz (GI v.ls (R.filter isL)) k (tmH (R.filter isL)),by show v.ts.map _=_;rw[e];rfl,z⟩
 have B:X0 n (Jz v R).ts:=by
  show X0 n ((Vg v R).ts.filter _)
  rcases r with e|⟨k,e,z⟩
  ·rw[e];exact .inl rfl
  ·rw[e];cases c:!((R.filter isF).map nmT).contains k.n with
   |true=>exact .inr ⟨k,by rw[bb (by exact c)];rfl,z⟩
   |false=>exact .inl (by rw[ba (by rw[c];exact ae)];rfl)
 have l:=(YC (o:=n) (ls:=(Jz v R).ls) (R.filter isP) (Jz v R).ts [] B λx C=>by
  obtain⟨m,c⟩:=ah.mp C
  exact⟨Pj (g x m).1 c,(g x m).2.2 (Xh (.inr rfl) c)⟩).1
 show X0 n (upF _ _);rw[show upF (·.n) (Q7 (Jz v R) (R.filter isP)).1=_ from Ku l];exact l
theorem HU{n:Str}:∀{l:List Tl},(∀x∈l,nmT x=n)->(l.map nmT).contains n= !l.isEmpty
 |[],_=>rfl
 |x::l,h=>by
  rw[ai,h x aj,List.contains_cons,g8,fe];rfl
theorem iL{x:Tl}(h:isL x=false):nmT (gO o x)=o/\gO o x=rnT o x:=by
 unfold gO;rw[h,ao ae];cases x with
 |land=>exact absurd (show isL (.land _ _ _ _ _)=true by unfold isL;simp[wdT]) (by rw[h];exact ae)
 |spot=>exact⟨rfl,rfl⟩
 |off=>exact⟨rfl,rfl⟩
theorem nL{n:Str}{t:Int}{v:Vw}{R:List Tl}(h:X0 n v.ts)(r:eF n t R):onV (rnV o v) (R.map (gO o))=rnV o (onV v R)/\onR (rnV o v) (R.map (gO o))=(onR v R).map (rnR o):=by
 obtain⟨Y,l2⟩:=qq o v (R.filter isL);have D:Vg (rnV o v) (R.map (gO o))=rnV o (Vg v R):=by
  unfold Vg;rw[lU];exact Y
 have E:X0 n (Vg v R).ts:=by
  unfold Vg VC
  split
  ·exact h
  ·rcases h with e|⟨k,e,z⟩
   ·exact .inl (by show v.ts.map _=[];rw[e];rfl)
   ·exact .inr ⟨Qz (GI v.ls (R.filter isL)) k (tmH (R.filter isL)),by show v.ts.map _=_;rw[e];rfl,z⟩
 have G:∀{w:Str},(R.map (gO o)).filter (isW w)=(R.filter (isW w)).map (gO o):=VP (λx=>lB (jL o x).1) R;have I:∀ x∈R.filter isF,isL x=false:=λx g=>Xh (.inl rfl) (ah.mp g).2;have cn:∀ k∈(Vg v R).ts,(((R.map (gO o)).filter isF).map nmT).contains o=((R.filter isF).map nmT).contains k.n:=λk B=>by
  have ek:k.n=n:=by
   rcases E with e|⟨x,e,z⟩
   ·rw[e]at B;cases B
   ·rw[e]at B;rw[au.mp B];exact z
  rw[G,ek,HU (l:=R.filter isF) λx g=>(r x (ah.mp g).1).2.2 (I x g),HU (l:=(R.filter isF).map (gO o)) λx g=>by
   obtain⟨y,C,rfl⟩:=af.mp g
   exact(iL (I y C)).1,List.isEmpty_map]
 obtain⟨f1,f2⟩:=wV (o:=o) (v:=Vg v R) t cn;have J:Jz (rnV o v) (R.map (gO o))=rnV o (Jz v R):=by
  unfold Jz;rw[D];exact f1
 have h2:X0 n (Jz v R).ts:=by
  show X0 n ((Vg v R).ts.filter _)
  rcases E with e|⟨k,e,z⟩
  ·rw[e];exact .inl rfl
  ·rw[e];cases c:!((R.filter isF).map nmT).contains k.n with
   |true=>exact .inr ⟨k,by rw[bb (by exact c)];rfl,z⟩
   |false=>exact .inl (by rw[ba (by rw[c];exact ae)];rfl)
 have L:(R.map (gO o)).filter isP=(R.filter isP).map (rnT o):=by
  rw[G];exact bo λx g=>(iL (Xh (.inr rfl) (ah.mp g).2)).2
 obtain⟨O,U⟩:=YC (o:=o) (ls:=(Jz v R).ls) (R.filter isP) (Jz v R).ts [] h2 λx g=>by
  obtain⟨m,c⟩:=ah.mp g;exact⟨Pj (r x m).1 c,(r x m).2.2 (Xh (.inr rfl) c)⟩
 refine⟨?_,?_⟩
 ·unfold onV;rw[J,L];show Vw.mk _ (upF _ (((R.filter isP).map (rnT o)).foldl (QT (Jz v R).ls) ((Jz v R).ts.map (rnK o),[])).1)=Vw.mk _ ((upF _ (Q7 (Jz v R) (R.filter isP)).1).map (rnK o));rw[show((R.filter isP).map (rnT o)).foldl (QT (Jz v R).ls) ((Jz v R).ts.map (rnK o),[])=_ from U,show upF (λx=>x.n) (Q7 (Jz v R) (R.filter isP)).1=_ from Ku O]
  congr 1
  exact Ku (N7 O)
 ·unfold onR
  rw[D,J,lU,l2,YS (l:=(R.map (gO o)).filter isF) _ λx g=>by
   obtain⟨y,C,rfl⟩:=af.mp (ah.mp g).1;rw[(jL o y).2]
   exact(r y C).2.1,f2,YS (Vg v R) λx g=>(r x (ah.mp g).1).2.1,L,al,al]
  congr 1
  exact bK Prod.snd U
theorem uq{g:Tl->Tl}{ts R:List Tl}(h:Due ts R)(C:∀ x∈ts,∀y∈ts,plT (g x)=plT (g y)↔plT x=plT y)(E:∀ x∈ts,∀y∈ts,ltP x y=true->ltP (g x) (g y)=true)(hd:∀ x∈ts,∀y∈ts,plT x=plT y->ltD (tlD x) (tlD y)=false->ltD (tlD (g x)) (tlD (g y))=false):Due (ts.map g) (R.map g):=by
 refine⟨?_,λx t=>?_,λx t y B e=>?_,λy B=>?_⟩
 ·rw[bd];exact fx (λl r z=>E _ (h.mem _ l) _ (h.mem _ r) z) h.up
 ·obtain⟨a,l,rfl⟩:=af.mp t;exact af.mpr ⟨a,h.mem a l,rfl⟩
 ·obtain⟨a,l,rfl⟩:=af.mp t;obtain⟨b,r,rfl⟩:=af.mp B;have D:=(C b r a (h.mem a l)).mp e;exact hd b r a (h.mem a l) D (h.lo a l b r D)
 ·obtain⟨b,r,rfl⟩:=af.mp B;obtain⟨a,l,e⟩:=h.all b r;exact⟨g a,af.mpr ⟨a,l,rfl⟩,(C a (h.mem a l) b r).mpr e⟩
noncomputable def gB(g:Str->Bool)(o:Str)(x:Tl):Tl:=if !isL x&&g (wdT x)then rnT o x else x
theorem X2(g:Str->Bool)(o:Str)(x:Tl):wdT (gB g o x)=wdT x/\tmT (gB g o x)=tmT x:=by
 unfold gB
 split
 ·exact jy o x
 ·exact⟨rfl,rfl⟩
theorem ms{x:Tl}(h:isL x=false):nmT (rnT o x)=o:=by
 have:=(iL (o:=o) h).2;rw[<-this];exact(iL h).1
theorem RN{x y:Tl}:plT x=plT y↔tmT x=tmT y/\rkW (wdT x)=rkW (wdT y)/\nmT x=nmT y:=by
 unfold plT;constructor
 ·intro e
  injection e with l g
  injection g with g h
  injection h with h _
  exact⟨gK l,gK g,dj h⟩
 ·rintro⟨l,g,h⟩;rw[l,g,h]
theorem Tp{x y:Tl}(h:TlK x)(l:TlK y)(e:rkW (wdT x)=rkW (wdT y))(n:isL x=false):wdT x=wdT y:=by
 have g:isL y=false:=by rw[V6 l,<-e,<-V6 h];exact n
 have r:=GW h;have t:=GW l;unfold isL at n g;rw[gn]at n g
 rcases r with a|a|a|a
 ·exact absurd a (cT n.1)
 ·exact absurd a (cT n.2)
 all_goals rcases t with b|b|b|b
 all_goals first|exact absurd b (cT g.1)|exact absurd b (cT g.2)|(rw[a,b];done)|(rw[a,b]at e;exact absurd e (by walk_at"k"))
theorem lL{a b:Tl}(e:tmT a=tmT b)(n:rkW (wdT a)≠rkW (wdT b)):ltP a b=decide (rkW (wdT a)<rkW (wdT b)):=by
 show ltD (.tuple [.int (tmT a),.int (rkW (wdT a)),.str (nmT a)]) (.tuple [.int (tmT b),.int (rkW (wdT b)),.str (nmT b)])=_;rw[e,ltD,JM (by simp[pln]),Q0 (by simp[pln]) (by simp[pln]) (λz=>n (PyData.int.inj z)),ltD]
theorem X5{a:Int}{b c:Str}{d:List B4}{e:Int}:isL (.land a b c d e)=true:=by
 unfold isL;rw[show wdT (.land a b c d e)=Str.ofString "land" from rfl,aI rfl];rfl
theorem uP{x y:Tl}(I:TlK x)(J:TlK y)(c:isL x=false)(t:tmT x=tmT y)(w:wdT x=wdT y)(L:nmT x=nmT y)(z:ltD (tlD x) (tlD y)=false):ltD (tlD (rnT o x)) (tlD (rnT o y))=false:=by
 have l:isL y=false:=by rw[<-Kh w];exact c
 have B:∀{w:Str},(w=Str.ofString "drop"\/w=Str.ofString "free")->Str.ofString "spot"≠w:=λh=>by
  rcases h with rfl|rfl<;>decide+kernel
 cases x with
 |land=>rw[X5]at c;cases c
 | spot tm n u v=>
  cases y with
  |land=>rw[X5]at l;cases l
  |off O _ _=>exact absurd (show Str.ofString "spot"=O from w) (B J)
  | spot g C D E=>
   cases(show tm=g from t);cases(show n=C from L);have r:∀ s:Str,ltD (tlD (.spot tm s u v)) (tlD (.spot tm s D E))=Yt [.tuple [.int u,.int v]] [.tuple [.int D,.int E]]:=λs=>by
    show ltD (.tuple _) (.tuple _)=_;rw[ltD,JM (by simp[pln]),JM (by simp[pln]),JM (by simp[pln])]
   rw[r]at z;exact(r o).trans z
 | off G tm n=>
  cases y with
  |land=>rw[X5]at l;cases l
  |spot=>exact absurd (show Str.ofString "spot"=G from w.symm) (B I)
  |off U g C=>
   cases(show G=U from w);cases(show tm=g from t);exact KS (by simp[rnT,tlD,pln,Vj])
theorem sM{n:Str}{t:Int}{l:Str->Bool}{ts R:List Tl}(g:eF n t ts)(h:Due ts R):Due (ts.map (gB l o)) (R.map (gB l o)):=by
 have D:∀{x:Tl},isL x=true->gB l o x=x:=λc=>by
  unfold gB;rw[c];rfl
 have I:∀{x:Tl},x∈ts->isL x=false->nmT (gB l o x)=if l (wdT x)then o else n:=λ{x} r c=>by
  unfold gB;rw[c,gI,gi]
  split
  ·exact ms c
  ·exact(g x r).2.2 c
 have E:∀ x∈ts,∀y∈ts,plT (gB l o x)=plT (gB l o y)↔plT x=plT y:=λx r y B=>by
  rw[RN,RN,(X2 l o x).1,(X2 l o x).2,(X2 l o y).1,(X2 l o y).2];refine and_congr_right λ_=>and_congr_right λe=>?_;cases c:isL x with
  |true=>
   have C:isL y=true:=by rw[V6 (g y B).1,<-e,<-V6 (g x r).1];exact c
   rw[D c,D C]
  |false=>
   have w:=Tp (g x r).1 (g y B).1 e c;have C:isL y=false:=by rw[<-Kh w];exact c
   rw[I r c,I B C,w,(g x r).2.2 c,(g y B).2.2 C];exact⟨λ_=>rfl,λ_=>rfl⟩
 refine uq h E (λx r y B z=>?_) λx r y B e z=>?_
 ·have G:tmT x=tmT y:=by rw[(g x r).2.1,(g y B).2.1]
  by_cases e:rkW (wdT x)=rkW (wdT y)
  ·cases c:isL x with
   |true=>
    have C:isL y=true:=by rw[V6 (g y B).1,<-e,<-V6 (g x r).1];exact c
    rw[D c,D C];exact z
   |false=>
    have w:=Tp (g x r).1 (g y B).1 e c;have C:isL y=false:=by rw[<-Kh w];exact c
    rw[EE (RN.mpr ⟨G,e,by rw[(g x r).2.2 c,(g y B).2.2 C]⟩)]at z;cases z
  ·rw[lL G e]at z;rw[lL (by rw[(X2 l o x).2,(X2 l o y).2];exact G) (by rw[(X2 l o x).1,(X2 l o y).1];exact e),(X2 l o x).1,(X2 l o y).1];exact z
 ·obtain⟨L,J,O⟩:=RN.mp e;cases c:isL x with
  |true=>
   have C:isL y=true:=by rw[V6 (g y B).1,<-J,<-V6 (g x r).1];exact c
   rw[D c,D C];exact z
  |false=>
   have w:=Tp (g x r).1 (g y B).1 J c;have C:isL y=false:=by rw[<-Kh w];exact c
   unfold gB;rw[c,C,w];cases l (wdT y)with
   |false=>exact z
   |true=>exact uP (g x r).1 (g y B).1 c L w O z
noncomputable def anF(th:Str)(T:Int)(o:Str)(x:Tl):Tl:=if((isP x&&decide (T<=tmT x))||(isF x&&decide (T<tmT x)))&&decide (nmT x=th)then rnT o x else x
theorem PX(th:Str)(T:Int)(o:Str)(x:Tl):wdT (anF th T o x)=wdT x/\tmT (anF th T o x)=tmT x:=by
 unfold anF
 split
 ·exact jy o x
 ·exact⟨rfl,rfl⟩
theorem vU(th:Str)(T:Int)(o:Str)(F:List Tl)(t:Int):atT (F.map (anF th T o)) t=(atT F t).map (anF th T o):=VP (λx=>by rw[(PX th T o x).2]) F
noncomputable def βT(T t:Int)(w:Str):Bool:=(decide (w=Str.ofString "spot")&&decide (T<=t))||(decide (w=Str.ofString "free")&&decide (T<t))
theorem sN{t:Int}{x:Tl}(h:TlK x/\tmT x=t/\(isL x=false->nmT x=th)):anF th T o x=gB (βT T t) o x:=by
 unfold anF gB βT isP isF isW;rw[h.2.1];cases c:isL x with
 | true=>
  have g:decide (wdT x=Str.ofString "spot")=false:=by
   cases d:decide (wdT x=Str.ofString "spot")with
   |false=>rfl
   |true=>rw[Xh (.inr rfl) d]at c;cases c
  have l:decide (wdT x=Str.ofString "free")=false:=by
   cases d:decide (wdT x=Str.ofString "free")with
   |false=>rfl
   |true=>rw[Xh (.inl rfl) d]at c;cases c
  rw[g,l];rfl
 |false=>rw[aI (h.2.2 c),fA,gI,gi]
def ig(n:Str)(F:List Tl):Prop:=∀ x∈F,TlK x/\(isL x=false->nmT x=n)
theorem ig.at{n:Str}{F:List Tl}(h:ig n F)(t:Int):eF n t (atT F t):=λx g=>⟨(h x (Gp g).1).1,(Gp g).2,(h x (Gp g).1).2⟩
theorem Nz{t:Int}{F R:List Tl}(h:ig th F)(hd:Due (atT F t) R):Je (atT (F.map (anF th T o)) t)=(Je (atT F t)).map (gB (βT T t) o)/\eF th t (Je (atT F t)):=by
 have e:=Yu (λx g=>(h.at t x g).1) hd;rw[vU,bo λx g=>sN (T:=T) (o:=o) (h.at t x g),<-e];refine⟨(Yu (λx g=>?_) (sM (h.at t) hd)).symm,λx g=>h.at t x (hd.mem x g)⟩;obtain⟨y,l,rfl⟩:=af.mp g;have:=(h.at t y l).1;unfold gB
 split
 ·cases y<;>exact this
 ·exact this
theorem wa{t:Int}(h:t<T)(o:Str)(x:Tl):gB (βT T t) o x=x:=by
 unfold gB βT;rw[aZ (show ¬T<=t by lia),aZ (show ¬T<t by lia),bW,bW,fw,bW];rfl
theorem uE{t:Int}(h:T<t){x:Tl}(g:TlK x):gB (βT T t) o x=gO o x:=by
 unfold gB gO βT;rw[aI (show T<=t by lia),aI h,fA,fA];cases c:isL x with
 |true=>rfl
 |false=>
  have k:=GW g;unfold isL at c;rw[gn]at c
  rcases k with e|e|e|e
  ·exact absurd e (cT c.1)
  ·exact absurd e (cT c.2)
  ·rw[e];rfl
  ·rw[e];rfl
theorem pN{v:Vw}{R:List Tl}{t:Int}(h:∀ x∈R,tmT x=t):∀ r∈onR v R,r.t=t:=by
 have z:∀{G I:List Row}{tm:Int}{k u:Th},∀r∈QP G I tm k u,r.t=tm:=λr g=>by
  rcases ax.mp g with g|g<;>(obtain⟨_,_,rfl⟩:=af.mp g;rfl)
 have th:∀{p:Tl->Bool},R.filter p≠[]->tmH (R.filter p)=t:=λ{p} n=>by
  cases e:R.filter p with
  |nil=>exact absurd e n
  |cons x l=>exact h x (ah.mp (by rw[e];exact aj:x∈R.filter p)).1
 have J:∀(B:List Ld)(Q:List Tl)(st:List Th×List Rw),(∀x∈Q,tmT x=t)->(∀r∈st.2,r.t=t)->∀ r∈(Q.foldl (QT B) st).2,r.t=t:=λB Q=>by
  induction Q with
  |nil=>exact λ_ _ k=>k
  | cons x Q L=>
   intro st E k;refine L (QT B st x) (λy O=>E y (aq _ O)) λr g=>?_;cases x with
   |land=>exact k r g
   |off=>exact k r g
   |spot tm U u w=>
    rcases ax.mp g with g|g
    ·exact k r g
    ·rw[z r g];exact E (.spot tm U u w) aj
 intro r g
 rcases ax.mp g with g|g
 ·rcases ax.mp g with g|g
  ·unfold JY at g
   split at g
   ·cases g
   ·next n=>
    obtain⟨k,_,C⟩:=ge.mp g;rw[z r C];exact th n
  ·rw[YS _ λx D=>h x (ah.mp D).1]at g;obtain⟨k,_,C⟩:=ge.mp g;exact z r C
 ·exact J _ (R.filter isP) ((Jz v R).ts,[]) (λx D=>h x (ah.mp D).1) (λ_ h=>(nomatch h)) r g
theorem MT{n:Str}{v:Vw}(h:X0 n v.ts):rnV n v=v:=by
 have:v.ts.map (rnK n)=v.ts:=by
  rcases h with e|⟨k,e,rfl⟩
  ·rw[e];rfl
  ·rw[e];rfl
 unfold rnV;rw[this]
theorem NK{n:Str}{t:Int}{R:List Tl}(h:eF n t R):R.map (gO n)=R:=(bo λx l=>by
 show gO n x=id x;unfold gO;cases c:isL x with
 |true=>rfl
 |false=>
  have e:=(h x l).2.2 c;cases x with
  |land=>rfl
  |spot tm g u w=>cases(show g=n from e);rfl
  |off w tm g=>cases(show g=n from e);rfl).trans (eX _)
theorem jC{n:Str}{t:Int}{v:Vw}{R:List Tl}(h:X0 n v.ts)(g:eF n t R):∀ r∈onR v R,r.n=n:=λr l=>by
 have e:=(nL (o:=n) h g).2;rw[MT h,NK g]at e;rw[e]at l;obtain⟨x,_,rfl⟩:=af.mp l;rfl
section
variable{F:List Tl}
theorem oK(D:ig th F):∀(ks:List Int)(v:Vw)(A:List Rw),(∀t∈ks,t<T)->JV F ks->X0 th v.ts->∃ l C,Vh F (v,A) ks=(l,A++C)/\Vh (F.map (anF th T o)) (v,A) ks=(l,A++C)/\X0 th l.ts/\∀r∈C,r.n=th/\r.t<=T
 |[],v,A,_,_,h=>⟨v,[],by rw[aU];rfl,by rw[aU];rfl,h,λ_ h=>(nomatch h)⟩
 | t::ks,v,A,E,hd,h=>by
  obtain⟨R,G⟩:=hd t aj;obtain⟨e,z⟩:=Nz (o:=o) (T:=T) D G;have I:=E t aj;rw[bo λx _=>wa I o x,List.map_id']at e;obtain⟨l,C,J,L,O,U⟩:=oK D ks (onV v (Je (atT F t))) (A++onR v (Je (atT F t))) (λu B=>E u (aq _ B)) (λu B=>hd u (aq _ B)) (Dp h z);refine⟨l,onR v (Je (atT F t))++C,by rw[<-bt];exact J,?_,O,λr g=>?_⟩
  ·show Vh (F.map (anF th T o)) (onV v (Je (atT (F.map (anF th T o)) t)),A++onR v (Je (atT (F.map (anF th T o)) t))) ks=_;rw[e,<-bt];exact L
  ·rcases ax.mp g with g|g
   ·exact⟨jC h z r g,by rw[pN (λx Y=>(z x Y).2.1) r g];lia⟩
   ·exact U r g
theorem lX(E:ig th F):∀(ks:List Int)(v:Vw)(A B:List Rw),(∀t∈ks,T<t)->JV F ks->X0 th v.ts->∃ g C,Vh F (v,A) ks=(g,A++C)/\Vh (F.map (anF th T o)) (rnV o v,B) ks=(rnV o g,B++C.map (rnR o))/\X0 th g.ts/\∀r∈C,r.n=th
 |[],v,A,B,_,_,h=>⟨v,[],by rw[aU];rfl,by rw[cw,aU];rfl,h,λ_ h=>(nomatch h)⟩
 | t::ks,v,A,B,G,hd,h=>by
  obtain⟨R,I⟩:=hd t aj;obtain⟨e,z⟩:=Nz (o:=o) (T:=T) E I;rw[bo λx J=>uE (G t aj) (z x J).1]at e;obtain⟨L,O⟩:=nL (o:=o) h z;obtain⟨g,C,U,Y,g3,g4⟩:=lX E ks (onV v (Je (atT F t))) (A++onR v (Je (atT F t))) (B++(onR v (Je (atT F t))).map (rnR o)) (λu D=>G u (aq _ D)) (λu D=>hd u (aq _ D)) (Dp h z);refine⟨g,onR v (Je (atT F t))++C,by rw[<-bt];exact U,?_,g3,λr l=>?_⟩
  ·show Vh (F.map (anF th T o)) (onV (rnV o v) (Je (atT (F.map (anF th T o)) t)),B++onR (rnV o v) (Je (atT (F.map (anF th T o)) t))) ks=_;rw[e,L,O,al,<-bt];exact Y
  ·rcases ax.mp l with l|l
   ·exact jC h z r l
   ·exact g4 r l
theorem wK{v:Vw}{R:List Tl}(h:X0 th v.ts)(t:eF th T R)(hf:∃ x∈R,isF x=true):∃ D S,onR v R=D++S/\onR v (R.map (gB (βT T T) o))=D++S.map (rnR o)/\onV v (R.map (gB (βT T T) o))=rnV o (onV v R):=by
 have g0:∀{x:Tl},isP x=false->gB (βT T T) o x=x:=λ{x} c=>by
  have c:decide (wdT x=Str.ofString "spot")=false:=c;unfold gB βT;rw[c,aZ (show ¬T<T by lia),eT,bW,fw,bW];rfl
 have C:∀{w:Str},(R.map (gB (βT T T) o)).filter (isW w)=(R.filter (isW w)).map (gB (βT T T) o):=VP (λx=>lB (X2 _ o x).1) R;have E:(R.map (gB (βT T T) o)).filter isF=R.filter isF:=by
  rw[C];refine(bo λx g=>?_).trans (eX _);have e:wdT x=Str.ofString "free":=aY (ah.mp g).2;exact g0 (by show decide (wdT x=Str.ofString "spot")=false;rw[e];decide+kernel)
 have G:(R.map (gB (βT T T) o)).filter isL=R.filter isL:=by
  rw[VP λx=>Kh (X2 _ o x).1];refine(bo λx g=>?_).trans (eX _);unfold gB;rw[(ah.mp g).2];rfl
 have I:(R.map (gB (βT T T) o)).filter isP=(R.filter isP).map (rnT o):=by
  rw[C];refine bo λx g=>?_;have c:=(ah.mp g).2;unfold gB βT;rw[Xh (.inr rfl) c,show decide (wdT x=Str.ofString "spot")=true from c,aI (show T<=T by lia)];rfl
 have J:Vg v (R.map (gB (βT T T) o))=Vg v R:=by unfold Vg;rw[G]
 have L:Jz v (R.map (gB (βT T T) o))=Jz v R:=by unfold Jz;rw[J,E]
 have O:(Jz v R).ts=[]:=by
  show(Vg v R).ts.filter _=[]
  refine cL.mpr λk l=>?_;have ek:k.n=th:=by
   unfold Vg VC at l
   split at l
   ·rcases h with e|⟨x,e,z⟩
    ·rw[e]at l;cases l
    ·rw[e]at l;rw[au.mp l];exact z
   ·obtain⟨y,r,rfl⟩:=af.mp l
    rcases h with e|⟨x,e,z⟩
    ·rw[e]at r;cases r
    ·rw[e]at r;rw[au.mp r];exact z
  have c:((R.filter isF).map nmT).contains k.n=true:=by
   obtain⟨x,g,c⟩:=hf;rw[ck,ek];exact af.mpr ⟨x,ah.mpr ⟨g,c⟩,(t x g).2.2 (Xh (.inl rfl) c)⟩
  rw[c];exact ae
 obtain⟨U,h4⟩:=YC (n:=th) (o:=o) (ls:=(Jz v R).ls) (R.filter isP) [] [] (.inl rfl) λx g=>by
  obtain⟨m,c⟩:=ah.mp g;exact⟨Pj (t x m).1 c,(t x m).2.2 (Xh (.inr rfl) c)⟩
 have B:Q7 (Jz v R) (R.filter isP)=(R.filter isP).foldl (QT (Jz v R).ls) ([],[]):=by unfold Q7;rw[O]
 have Y:Q7 (Jz v R) ((R.filter isP).map (rnT o))=((Q7 (Jz v R) (R.filter isP)).1.map (rnK o),(Q7 (Jz v R) (R.filter isP)).2.map (rnR o)):=by
  rw[B];unfold Q7;rw[O];exact h4
 refine⟨JY v (R.filter isL)++QS (Vg v R) (tmH (R.filter isF)) ((R.filter isF).map nmT),BN (Jz v R) (R.filter isP),rfl,?_,?_⟩
 ·unfold onR;rw[J,L,G,E,I];exact bK _ (bK Prod.snd Y)
 ·unfold onV;rw[L,I];show Vw.mk _ (upF _ (Q7 (Jz v R) ((R.filter isP).map (rnT o))).1)=Vw.mk _ ((upF _ (Q7 (Jz v R) (R.filter isP)).1).map (rnK o));rw[Y,show upF (λx=>x.n) (Q7 (Jz v R) (R.filter isP)).1=_ from Ku (by rw[B];exact U)]
  congr 1
  exact Ku (N7 (by rw[B];exact U))
end
section
variable{F:List Tl}
theorem t5(z:ig th F)(hk:Tms F ks)(hd:JV F ks)(hf: .off (Str.ofString "free") T th∈F):∃ L O,(ZS F ks).2=L++O/\(ZS (F.map (anF th T o)) ks).2=L++O.map (rnR o)/\(∀r∈L,r.n=th/\r.t<=T)/\(∀r∈O,r.n=th)/\(ZS (F.map (anF th T o)) ks).1=rnV o (ZS F ks).1:=by
 obtain⟨B,h,rfl⟩:=List.append_of_mem ((hk.2 T).mpr ⟨_,hf,rfl⟩);have U:=hk.1;rw[dw]at U;have lo:∀ t∈B,t<T:=λt l=>U.2.2 t l T aj;have hi:∀ t∈h,T<t:=λt l=>bN U.2.1 l;obtain⟨E,A,a1,a2,Y,a4⟩:=oK (o:=o) z B v0 [] lo (λt l=>hd t (bh _ l)) (.inl rfl);obtain⟨R,I⟩:=hd T (ay _ aj);obtain⟨e,J⟩:=Nz (o:=o) (T:=T) z I;have a0:∃ x∈Je (atT F T),isF x=true:=by
  rw[<-Yu (λx G=>(z.at T x G).1) I];have m: .off (Str.ofString "free") T th∈atT F T:=ah.mpr ⟨hf,aI rfl⟩;obtain⟨x,G,ex⟩:=I.all _ m;have w:=Tp (z.at T _ m).1 (z.at T x (I.mem x G)).1 (RN.mp ex).2.1.symm (Xh (w:=Str.ofString "free") (.inl rfl) (aI rfl));exact⟨x,G,aI w.symm⟩
 obtain⟨D,S,s1,s2,s3⟩:=wK (o:=o) Y J a0;have nt:=jC Y J;have tt:=pN (v:=E) λx G=>(J x G).2.1;rw[s1]at nt tt;obtain⟨v',C,c1,c2,c3,c4⟩:=lX (o:=o) z h (onV E (Je (atT F T))) (A++(D++S)) (A++(D++S.map (rnR o))) hi (λt l=>hd t (ay _ (aq _ l))) (Dp Y J);have hF:ZS F (B++T::h)=(v',A++(D++S)++C):=by
  show Vh F (v0,[]) (B++T::h)=_;unfold Vh at a1 c1⊢;rw[bV,bg,a1];show List.foldl _ (onV E (Je (atT F T)),A++onR E (Je (atT F T))) h=_;rw[s1];exact c1
 have hG:ZS (F.map (anF th T o)) (B++T::h)=(rnV o v',A++(D++S.map (rnR o))++C.map (rnR o)):=by
  show Vh (F.map (anF th T o)) (v0,[]) (B++T::h)=_;unfold Vh at a2 c2⊢;rw[bV,bg,a2];show List.foldl _ (onV E (Je (atT (F.map (anF th T o)) T)),A++onR E (Je (atT (F.map (anF th T o)) T))) h=_;rw[e,s2,s3];exact c2
 refine⟨A++D,S++C,?_,?_,λr g=>?_,λr g=>?_,?_⟩
 ·rw[hF];simp only[List.append_assoc]
 ·rw[hG];simp only[List.append_assoc,List.map_append]
 ·rcases ax.mp g with g|g
  ·exact a4 r g
  ·exact⟨nt r (bh _ g),by rw[tt r (bh _ g)];exact Int.le_refl _⟩
 ·rcases ax.mp g with g|g
  ·exact nt r (ay _ g)
  ·exact c4 r g
 ·rw[hG,hF]
end
noncomputable def ysS(S:Str->Bool)(ss:List Sy):List Sy:=ss.filter λs=>S s.n
theorem ny{n l:Str}{s:Sy}(h:isA n l s=true):s.n=n:=by
 unfold isA at h;rw[b_]at h;exact aY h.1
theorem Pf{n l:Str}(h:S n=true)(ss:List Sy):(ysS S ss).any (isA n l)=ss.any (isA n l):=by
 unfold ysS;rw[List.any_filter]
 congr 1
 funext s
 cases c:isA n l s with
 |true=>rw[ny c,h];rfl
 |false=>rw[bW]
theorem tQ{n l:Str}{t:Int}:∀{xs:List Sy},xs.any (isA n l)=false->YB n l t xs=xs
 |[],_=>rfl
 |s::xs,h=>by
  rw[bi,gn]at h;rw[YB,h.1,h.2,ao ae,ao ae]
theorem HI{S:Str->Bool}{n l:Str}{t:Int}:∀ ss:List Sy,ysS S (YB n l t ss)=if S n then YB n l t (ysS S ss)else ysS S ss
 |[]=>by cases S n<;>rfl
 | s::ss=>by
  have B:=HI (S:=S) (n:=n) (l:=l) (t:=t) ss;have g:∀{x:Sy}{xs:List Sy},S x.n=true->ysS S (x::xs)=x::ysS S xs:=λh=>bb (p:=λs:Sy=>S s.n) h;have r:∀{x:Sy}{xs:List Sy},S x.n=false->ysS S (x::xs)=ysS S xs:=λh=>ba (p:=λs:Sy=>S s.n) (by rw[h];exact ae);rw[YB];cases a:ss.any (isA n l)with
  | true=>
   rw[aw rfl];cases c:S s.n with
   |true=>
    rw[g c,g c,B];cases d:S n with
    |true=>rw[aw rfl,aw rfl,YB,Pf d,a,aw rfl]
    |false=>rw[ao ae,ao ae]
   |false=>rw[r c,r c,B]
  | false=>
   rw[ao ae];cases b:isA n l s with
   |true=>
    rw[aw rfl];have z:=ny b;cases d:S n with
    |true=>rw[g (x:=⟨s.n,s.l,s.b,some t⟩) (by rw[<-d,<-z]),g (by rw[<-d,<-z]),aw rfl,YB,Pf d,a,ao ae,b,aw rfl]
    |false=>rw[r (x:=⟨s.n,s.l,s.b,some t⟩) (by rw[<-d,<-z]),r (by rw[<-d,<-z]),ao ae]
   | false=>
    rw[ao ae];cases d:S n with
    |true=>
     rw[aw rfl];exact(tQ (by rw[Pf d,bi,b,a];rfl)).symm
    |false=>rw[ao ae]
theorem Du:∀(rs:List Rw)(ss:List Sy),ysS S (rs.foldl Vv ss)=(rwS S rs).foldl Vv (ysS S ss)
 |[],_=>rfl
 | r::rs,ss=>by
  rw[bg,Du rs (Vv ss r)];have st:ysS S (Vv ss r)=if S r.n then Vv (ysS S ss) r else ysS S ss:=by
   unfold Vv;cases r.c with
   |true=>
    rw[aw rfl,aw rfl];show List.filter _ (ss++[_])=_;rw[bv];cases d:S r.n with
    |true=>rw[aw rfl,bb (by exact d)];rfl
    |false=>rw[ao ae,ba (by rw[d];exact ae),dh,aU];rfl
   |false=>
    rw[ao ae,ao ae];exact HI ss
  rw[st];unfold rwS;cases d:S r.n with
  |true=>rw[aw rfl,bb (by exact d),bg]
  |false=>rw[ao ae,ba (by rw[d];exact ae)]
noncomputable def rnY(o:Str)(s:Sy):Sy:=⟨o,s.l,s.b,s.e⟩
theorem nW{n l:Str}{s:Sy}(h:s.n=n):isA o l (rnY o s)=isA n l s:=by
 unfold isA;rw[h,aI rfl,show(rnY o s).n=o from rfl,aI rfl];rfl
theorem Di{n l:Str}:∀{b:List Sy},(∀s∈b,s.n=n)->(b.map (rnY o)).any (isA o l)=b.any (isA n l)
 |[],_=>rfl
 |s::b,h=>by rw[ai,bi,bi,nW (h s aj),Di λx g=>h x (aq _ g)]
theorem MU{n o l:Str}{t:Int}:∀{b:List Sy},(∀s∈b,s.n=n)->YB o l t (b.map (rnY o))=(YB n l t b).map (rnY o)/\∀s∈YB n l t b,s.n=n
 |[],_=>⟨rfl,λ_ h=>(nomatch h)⟩
 | s::b,h=>by
  have g:∀ x∈b,x.n=n:=λx r=>h x (aq _ r);obtain⟨z,B⟩:=MU (o:=o) (l:=l) (t:=t) g;rw[ai,YB,YB,Di g,nW (h s aj)];cases b.any (isA n l)with
  |true=>
   rw[aw rfl,aw rfl,z];exact⟨rfl,cF.mpr ⟨h s aj,B⟩⟩
  |false=>
   rw[ao ae,ao ae];cases isA n l s with
   |true=>exact⟨rfl,cF.mpr ⟨h s aj,g⟩⟩
   |false=>exact⟨rfl,h⟩
theorem Dr{n l:Str}{t:Int}{b:List Sy}(h:b.any (isA n l)=true):∀ a:List Sy,YB n l t (a++b)=a++YB n l t b
 |[]=>rfl
 |s::a=>by
  rw[g7,YB,ej,h,e_,aw rfl,Dr h a];rfl
def WfY(b:List Sy)(rs:List Rw):Prop:=∀(i:Nat)(r:Rw),rs[i]?=some r->r.c=false->b.any (isA r.n r.l)=true\/T9 (rs.take i) r.n r.l
theorem UZ{n:Str}:∀(rs:List Rw)(a b:List Sy),(∀s∈b,s.n=n)->(∀r∈rs,r.n=n)->WfY b rs->∃ O,rs.foldl Vv (a++b)=a++O/\(rs.map (rnR o)).foldl Vv (a++b.map (rnY o))=a++O.map (rnY o)
 |[],a,b,_,_,_=>⟨b,rfl,rfl⟩
 | r::rs,a,b,E,D,U=>by
  have G:=D r aj;have Y:∀ c:List Sy,(∀{l:Str},b.any (isA n l)=true->c.any (isA n l)=true)->(r.c=true->c.any (isA n r.l)=true)->WfY c rs:=λc h1 h2 i x g z=>by
   have I:=D x (aq _ (az g));rw[I]
   rcases U (i+1) x (by rw[dI];exact g) z with w|⟨y,B,y1,y2,y3⟩
   ·rw[I]at w;exact .inl (h1 w)
   ·rw[List.take_succ_cons]at B
    rcases aW.mp B with rfl|B
    ·exact .inl (by rw[<-y3];exact h2 y1)
    ·exact .inr ⟨y,B,y1,by rw[y2,I],y3⟩
  rw[ai,bg,bg];cases c:r.c with
  | true=>
   have J:Vv (a++b) r=a++(b++[(⟨n,r.l,r.t,none⟩:Sy)]):=by rw[Vv,c,aw rfl,G,bt]
   have L:Vv (a++b.map (rnY o)) (rnR o r)=a++(b++[(⟨n,r.l,r.t,none⟩:Sy)]).map (rnY o):=by
    rw[Vv,show(rnR o r).c=true from c,aw rfl,bt,al];rfl
   rw[J,L];refine UZ rs a _ (λs C=>?_) (λx g=>D x (aq _ g)) (Y _ (λh=>by rw[ej,h,fe]) λ_=>by rw[ej,bi,isA,aI rfl,aI rfl,gh,fe,e_])
   rcases ax.mp C with C|C
   ·exact E s C
   ·rw[au.mp C]
  | false=>
   have ab:b.any (isA n r.l)=true:=by
    rcases U 0 r rfl c with w|⟨y,B,_⟩
    ·rwa [G]at w
    ·cases B
   obtain⟨i1,i2⟩:=MU (o:=o) (l:=r.l) (t:=r.t) E;have J:Vv (a++b) r=a++YB n r.l r.t b:=by rw[Vv,c,ao ae,G,Dr ab]
   have L:Vv (a++b.map (rnY o)) (rnR o r)=a++(YB n r.l r.t b).map (rnY o):=by
    rw[Vv,show(rnR o r).c=false from c,ao ae];show YB o r.l r.t (a++b.map (rnY o))=_;rw[Dr (by rw[Di E];exact ab),i1]
   rw[J,L];exact UZ rs a _ i2 (λx g=>D x (aq _ g)) (Y _ (λh=>by rw[X9];exact h) λz=>by rw[c]at z;cases z)
theorem Ny{n:Str}(I:o≠n){g z:List Rw}(J:∀ r∈g,r.n=n)(B:∀ r∈z,r.n=n)(L:W2 (g++z.map (rnR o))):∃ a b,stF (g++z)=a++b/\stF (g++z.map (rnR o))=a++b.map (rnY o):=by
 obtain⟨b,C,D⟩:=UZ (n:=n) (o:=o) z (stF g) [] (λ_ h=>(nomatch h)) B λi r E c=>by
  refine .inr ?_;have l:(g++z.map (rnR o))[g.length+i]?=some (rnR o r):=by
   rw[bx (cc _ _),Nat.add_sub_cancel_left,aV,E];rfl
  obtain⟨x,t,O,U,Y⟩:=L _ _ l c;rw[List.take_append,Nat.add_sub_cancel_left]at t
  rcases ax.mp t with t|t
  ·exact absurd ((U:x.n=o).symm.trans (J x (bM t))) I
  ·rw[<-gV]at t;obtain⟨y,G,rfl⟩:=af.mp t;exact⟨y,G,O,by rw[B y (bM G),B r (az E)],Y⟩
 refine⟨stF g,b,?_,?_⟩
 ·unfold stF at C⊢;rw[aU]at C;rw[bV,C]
 ·unfold stF at D⊢;rw[cw,aU]at D;rw[bV,D]
theorem ZX{l:List PyData}(h:d.canLay0=true/\d.depth<=n)(k:∀ d∈l,d.canLay0=true/\d.depth<=n):∀ e∈d::l,e.canLay0=true/\e.depth<=n:=cF.mpr ⟨h,k⟩
theorem Fg(h:d.canLay0=true/\d.depth<=n)(k:n<=m):d.canLay0=true/\d.depth<=m:=⟨h.1,aA h.2 k⟩
theorem KI:∀ e∈([]:List PyData),e.canLay0=true/\e.depth<=n:=λ_ h=>nomatch h
theorem wB{la lb:List Row}{k t:Th}:∀ r∈QP la lb tm k t,r.l∈lnT k\/r.l∈lnT t:=λr g=>by
 rcases ax.mp g with g|g
 ·obtain⟨s,h,rfl⟩:=af.mp g;exact .inl (XU ((E5 (λs=>Uh _ s) (λa b=>Ul _ _ a b) _).mem_iff.mp h))
 ·obtain⟨s,h,rfl⟩:=af.mp g;exact .inr (XU ((E5 (λs=>Uh _ s) (λa b=>Ul _ _ a b) _).mem_iff.mp h))
def RwL(r:Rw):Prop:=QF r.n/\QF r.l
theorem Uq{la lb:List Row}{k t:Th}(h:QF k.n)(l:∀ s∈lnT k,QF s)(z:∀ s∈lnT t,QF s):∀ r∈QP la lb tm k t,RwL r:=λr g=>⟨by rw[UK r g];exact h,(wB r g).elim (l _) (z _)⟩
theorem fold_lay{ls:List Ld}(z:Wr ls)(t:h_ ls):∀(R:List Tl)(st:List Th×List Rw),N9 NM ls st.1->(∀x∈R,TlG NM x)->(∀r∈st.2,RwL r)->∀ r∈(R.foldl (QT ls) st).2,RwL r
 |[],_,_,_,k=>k
 | x::R,st,h,B,k=>by
  have l:=B x aj;refine fold_lay z t R (QT ls st x) ?_ (λy t=>B y (aq _ t)) λr g=>?_
  ·cases x with
   |land=>exact h
   |off=>exact h
   |spot tm nm u w=>exact h.put (Xg z l.1 l.2.2.1)
  ·cases x with
   |land=>exact k r g
   |off=>exact k r g
   |spot tm nm u w=>
    rcases ax.mp g with g|g
    ·exact k r g
    ·obtain⟨C,_⟩:=mU (nm:=nm) u w h l.1 l.2.2.1;exact Uq C.2.1 (C.Td t) ((Xg (NM:=NM) z l.1 l.2.2.1:ThG NM ls (Qq ls st.1 tm nm u w)).Td t) r g
theorem uQ{v:Vw}{R:List Tl}(D:VwS NM v)(G:∀ x∈R,TlG NM x):∀ r∈onR v R,RwL r:=λr l=>by
 have C:∀{p:Tl->Bool},∀x∈R.filter p,TlG NM x:=λx I=>G x (ah.mp I).1;have g:VwS NM (Vg v R):=D.land C;have B:VwS NM (Jz v R):=g.free _
 rcases ax.mp l with l|l
 ·rcases ax.mp l with l|l
  ·unfold JY at l
   split at l
   ·cases l
   ·next n=>
    obtain⟨k,z,E⟩:=ge.mp l;have m:Qz (GI v.ls (R.filter isL)) k (tmH (R.filter isL))∈(Vg v R).ts:=by
     unfold Vg VC;rw[ao n];exact af.mpr ⟨k,z,rfl⟩
    exact Uq (D.tok k z).2.1 ((D.tok k z).Td D.lay) ((g.tok _ m).Td g.lay) r E
  ·obtain⟨k,z,E⟩:=ge.mp l;have z:=(ah.mp z).1;exact Uq (t:=gk k) (g.tok k z).2.1 ((g.tok k z).Td g.lay) (λs J=>nomatch(show s∈([]:List Str)from J)) r E
 ·exact fold_lay B.ord B.lay (R.filter isP) ((Jz v R).ts,[]) B.ths C (λ_ h=>(nomatch h)) r l
theorem RY{ts:List Tl}(l:∀ x∈ts,TlG NM x):∀(ks:List Int)(st:Vw×List Rw),VwS NM st.1->(∀r∈st.2,RwL r)->∀ r∈(Vh ts st ks).2,RwL r
 |[],_,_,k=>k
 |t::ks,st,h,k=>RY l ks _ (h.on (BQ l).1) λr g=>by
  rcases ax.mp g with g|g
  ·exact k r g
  ·exact uQ h (BQ l).1 r g
theorem Y0{ts:List Tl}(h:Wz ts)(ks:List Int):(∀r∈(ZS ts ks).2,RwL r)/\∃NM,VwS NM (ZS ts ks).1:=by
 obtain⟨NM,g,_,l⟩:=h;exact⟨RY l ks (v0,[]) (LP g) λ_ h=>(nomatch h),NM,kX l ks (v0,[]) (LP g)⟩
def Sm1(d:PyData):Prop:=(d.canLay0=true/\d.depth<=8)/\PyData.eqv d d=true
theorem Uy:∀{l:List PyData},(∀d∈l,Sm1 d)->PyData.eqvAll l l=true
 |[],_=>by simp[PyData.eqvAll]
 |d::l,h=>by
  rw[PyData.eqvAll,(h d aj).2,Uy λx g=>h x (aq _ g)];rfl
theorem YX{l:List PyData}(h:∀ d∈l,Sm1 d){P:Bool->Prop}(p:P true):eqD (.list l) (.list l) P:=by
 obtain⟨a,b⟩:=UQ λd hd=>(h d hd).1;have c:(PyData.list l).canLay0=true:=by rw[PyData.canLay0];exact a
 have g:(PyData.list l).depth<=9:=by rw[PyData.depth];lia
 refine PF ?_ ?_
 ·unfold Te;rw[c];exact Nat.ble_eq_true_of_le (by lia)
 ·rw[i_,Uy h];exact p
theorem uB{l:List PyData}(h:∀ d∈l,Sm1 d){P:Bool->Prop}(p:P true):eqD (.tuple l) (.tuple l) P:=by
 obtain⟨a,b⟩:=UQ λd hd=>(h d hd).1;have c:(PyData.tuple l).canLay0=true:=by rw[PyData.canLay0];exact a
 have g:(PyData.tuple l).depth<=9:=by rw[PyData.depth];lia
 refine PF ?_ ?_
 ·unfold Te;rw[c];exact Nat.ble_eq_true_of_le (by lia)
 ·rw[pH,Uy h];exact p
theorem lN:QF coS/\QF goS:=(by decide+kernel:(PyData.str coS).canLay0=true/\(PyData.str goS).canLay0=true)
theorem nO{r:Rw}(h:RwL r):Sm1 (rwD r):=by
 have g:QF (if r.c then coS else goS):=by
  cases r.c
  ·exact lN.2
  ·exact lN.1
 have l:=QZ (ZX (Q1 r.t 7) (ZX (QV h.1 7) (ZX (QV g 7) (ZX (QV h.2 7) KI))));exact⟨l,VU _ (by simp[rwD,Fu,pln,Vj])⟩
theorem vj{v:Vw}(g:VwS NM v){t:Th}(h:t∈v.ts):Sm1 (thD t):=⟨Fg (mr (g.tok t h).2.1 ((g.tok t h).Td g.lay)) (by decide),VU _ (me t)⟩
theorem xn{v:Vw}(g:VwS NM v){l:Ld}(h:l∈v.ls):Sm1 (ldD l):=⟨Fg (g.lok l h).2.2.1 (by decide),VU _ (B8 l)⟩
noncomputable def eqS(th:Str)(n:Str):Bool:=decide (n=th)
noncomputable def We(a b:Str)(n:Str):Bool:=decide (n=a)||decide (n=b)
theorem pG{ts:List Tl}(g:∀ x∈ts,nmT x≠o):ofS (We th o) (ts.map (anF th T o))=(ofS (eqS th) ts).map (anF th T o):=by
 unfold ofS;rw[di]
 congr 1
 refine bG λx h=>?_;show(isL (anF th T o x)||We th o (nmT (anF th T o x)))=(isL x||eqS th (nmT x))
 rw[Kh (PX th T o x).1];cases c:isL x with
 |true=>rfl
 | false=>
  rw[eA,eA];unfold anF eqS We
  by_cases z:nmT x=th
  ·rw[aI z,fA]
   split
   ·rw[ms c,aI (rfl:o=o),e_]
   ·rw[aI z,fe]
  ·rw[aZ z,bW,ao ae,aZ z,aZ (g x h)];rfl
theorem w5{ts:List Tl}(g:∀ t∈ts,TlK t)(hd:JV ts ks):JV (ofS S ts) (ks.filter λt=>!(atT (ofS S ts) t).isEmpty):=λt h=>by
 obtain⟨R,l⟩:=hd t (ah.mp h).1;rw[at_of];exact⟨_,kE (λx r=>g x (Gp r).1) l⟩
theorem HV{ts:List Tl}{g:List Int}(O:Wz ts)(G:Wz (ts.map (anF th T o)))(U: .off (Str.ofString "free") T th∈ts)(I:∀ x∈ts,nmT x≠o)(D:Tms ts ks/\JV ts ks)(B:Tms (ts.map (anF th T o)) g/\JV (ts.map (anF th T o)) g):
  ∃l z,rwS (eqS th) (ZS ts ks).2=l++z/\rwS (We th o) (ZS (ts.map (anF th T o)) g).2=l++z.map (rnR o)/\(∀r∈l,r.n=th/\r.t<=T)/\(∀r∈z,r.n=th)/\W2 (l++z.map (rnR o))/\∀k∈(ZS (ts.map (anF th T o)) g).1.ts,k.n≠th:=by
 have C:∀ t∈ts,TlK t:=λt ht=>let⟨_,_,_,h3⟩:=O;(h3 t ht).2.1.1;have sub:∀ x∈ofS (eqS th) ts,x∈ts:=λx h=>(ah.mp h).1
 have J:ig th (ofS (eqS th) ts):=λx h=>⟨C x (sub x h),λc=>by
  have:=(ah.mp h).2;rw[c,eA]at this
  exact aY this⟩
 have E:=D.1.jJ sub;have dF:=w5 (S:=eqS th) C D.2;have tG:Tms (ofS (We th o) (ts.map (anF th T o))) (ks.filter λt=>!(atT (ofS (eqS th) ts) t).isEmpty):=by
  rw[pG I];refine⟨E.1,λt=>(E.2 t).trans ?_⟩;constructor
  ·rintro⟨x,h,e⟩;exact⟨_,af.mpr ⟨x,h,rfl⟩,by rw[(PX th T o x).2];exact e⟩
  ·rintro⟨y,hy,e⟩;obtain⟨x,h,rfl⟩:=af.mp hy;exact⟨x,h,by rw[<-e,(PX th T o x).2]⟩
 have aF:=apart (S:=eqS th) O D.1 E D.2;have L:=apart (S:=We th o) G B.1 tG B.2;obtain⟨l,z,e1,Y,e3,e4,e5⟩:=t5 (o:=o) J E dF (ah.mpr ⟨U,by rw[show eqS th (nmT (.off (Str.ofString "free") T th))=true from aI rfl,e_]⟩);rw[pG I]at L;refine⟨l,z,by rw[<-e1,aF],by rw[<-Y,L],e3,e4,by rw[<-Y];exact Mz _ _,λk mk ek=>?_⟩;have m:k∈(prS (We th o) (ZS (ts.map (anF th T o)) g).1).ts:=ah.mpr ⟨mk,by show We th o k.n=true;unfold We;rw[aI ek];rfl⟩;rw[show prS (We th o) (ZS (ts.map (anF th T o)) g).1=_ from(bK Prod.fst L).symm,e5]at m;obtain⟨y,_,rfl⟩:=af.mp m;exact I _ U (ek.symm:th=o)
theorem tM(ts:List Tl)(th:Str)(T:Int)(o:Str)(t:Int):Xd (ts.map (anF th T o)) t=(Xd ts t).map (anF th T o):=VP (λx=>by rw[(PX th T o x).2]) ts
theorem uX{ts:List Tl}(t:Int)(h:Tms ts ks/\JV ts ks):∃ g,Tms (Xd ts t) g/\JV (Xd ts t) g:=by
 refine⟨_,h.1.jJ (us:=Xd ts t) λx B=>(ah.mp B).1,λu C=>?_⟩;obtain⟨D,r⟩:=ah.mp C;have E:u<=t:=by
  cases c:atT (Xd ts t) u with
  |nil=>
   rw[c]at r;cases r
  |cons x l=>
   obtain⟨G,I⟩:=Gp (ts:=Xd ts t) (t:=u) (x:=x) (by rw[c];exact aj);rw[<-I];exact aY (ah.mp G).2
 have e:atT (Xd ts t) u=atT ts u:=by
  unfold atT Xd;rw[cB];refine bG λx _=>?_
  by_cases z:tmT x=u
  ·rw[z,aI E,fA]
  ·rw[aZ z,eT]
 rw[e];exact h.2 u D
theorem yj{g h:List Rw}(t:∀ r∈g,r.n=th)(z:∀ r∈h,r.n=th):(g++h.map (rnR o)).map (rnR th)=g++h:=by
 have s:∀{r:Rw},r.n=th->rnR th r=r:=λ{r} e=>by
  cases r;cases(show _=th from e);rfl
 rw[al,aC]
 congr 1
 ·exact(bo λr l=>s (t r l)).trans (eX _)
 ·exact(bo λr l=>s (z r l)).trans (eX _)
theorem RR{n l:Str}{t:Int}:∀{ss:List Sy},(∀s∈ss,QF s.l)->∀ s∈YB n l t ss,QF s.l
 |[],h=>h
 | x::ss,h=>by
  rw[YB];obtain⟨g,r⟩:=cF.mp h
  split
  ·exact cF.mpr ⟨g,RR r⟩
  ·split
   ·exact cF.mpr ⟨g,r⟩
   ·exact h
theorem nV:∀{rs:List Rw}{ss:List Sy},(∀r∈rs,RwL r)->(∀s∈ss,QF s.l)->∀ s∈rs.foldl Vv ss,QF s.l
 |[],_,_,h=>h
 | r::rs,ss,t,h=>by
  refine nV (rs:=rs) (λx z=>t x (aq _ z)) λs g=>?_;unfold Vv at g
  split at g
  ·rcases ax.mp g with g|g
   ·exact h s g
   ·rw[au.mp g];exact(t r aj).2
  ·exact RR h s g
noncomputable def tlY(s:Sy):PyData:=.tuple [.str s.l,.int s.b,match s.e with
 |none=>.none
 |some t=>.int t]
theorem ve{s:Sy}(h:QF s.l):Sm1 (tlY s):=by
 have e:∀ e:Option Int,(match e with|none=>PyData.none|some t=>.int t).canLay0=true/\(match e with|none=>PyData.none|some t=>.int t).depth<=7:=λe=>by
  cases e
  ·simp[PyData.canLay0,PyData.depth]
  ·exact Q1 _ 7
 refine⟨QZ (ZX (QV h 7) (ZX (Q1 s.b 7) (ZX (e s.e) KI))),?_⟩;cases s with
 |mk n l b e=>cases e<;>simp[tlY,PyData.eqv,PyData.eqvAll]
def NW(T:Tx w K mg base):DSp:=λxs M Φ=>on1 xs λx=>QK x λg=>(Wz g/\Vf M T.Zg YV)/\
 ∀ks q M',Tms g ks/\JV g ks->M q=none->Kq T M M'->(ZS g ks).2.length<=10000000->M' q=some (.lst ((stF (ZS g ks).2).map syD))->Φ (.own q) M'
theorem Hj(T:Tx w K mg base):Qx P w K mg base CX0 19 T.P7 T.SE ["tellings"] (lift K (NW T)):=by
 refine okD T.De.F u0 (λxs M Φ h=>by obtain⟨_,rfl,_⟩:=ZP h;rfl) λC A g s H E r=>⟨_,(Zi (Zq (cO T.V9 (Wm T) r (Za (Dd rfl T.C9 T.DU) (Za (Q9 (cO T.JX (JS T) r (Za (Zb 0) Ze))) Ze))))),λxs M Φ h=>?_⟩;obtain⟨x1,rfl,h⟩:=(ZP h);obtain⟨t,rfl,⟨D,G⟩,h⟩:=h;walk_at"rk";simp only[ij,oT];walk_at"rk";refine⟨t,rfl,⟨D,G⟩,λks q M' I J L z B=>?_⟩;rw[B,Zv];have l:Kq T M (Q4 M' q):=L.but J (QH B) λa O=>ZG O;exact⟨rfl,_,rfl,⟨z,Mz t ks⟩,λU M2 Y kp e2=>h ks U M2 I (l.none Y) (l.trans (Kq.keep l.1 kp)) z e2⟩
noncomputable def E7(w:Hw):List Str:=w.ls++w.ts
theorem VS{s:Str}(h:CW s):QF s:=by
 show s.cps.all (λc=>decide (c<0x110000))=true;rw[<-Array.all_toList];exact List.all_eq_true.mpr λc g=>aI (by have:=h.2 c g;lia)
theorem qP(b:B4):(bD b).canLay0=true/\(bD b).depth<=2:=QZ (n:=1) (Yz (FI b.x b.y) (FI b.X b.Y))
theorem qN(bs:List B4):(PyData.tuple (bs.map bD)).canLay0=true/\(PyData.tuple (bs.map bD)).depth<=3:=QZ λd hd=>by
 obtain⟨b,_,rfl⟩:=af.mp hd;exact qP b
theorem PK:QF (Str.ofString ""):=(by decide+kernel:(PyData.str (Str.ofString "")).canLay0=true)
theorem TH:QF (Str.ofString "land")/\QF (Str.ofString "spot")/\QF (Str.ofString "drop")/\QF (Str.ofString "free"):=(by decide+kernel:(PyData.str (Str.ofString "land")).canLay0=true/\(PyData.str (Str.ofString "spot")).canLay0=true/\(PyData.str (Str.ofString "drop")).canLay0=true/\(PyData.str (Str.ofString "free")).canLay0=true)
theorem EY{nm l:Str}{bs:List B4}{g:Int}(r:nm∈NM)(h:QF nm)(t:QF l)(C:Shp bs)(D:0<=g):TlG NM (.land tm nm l bs g):=by
 have E:=ZX (QV t 4) (ZX (Fg (qN bs) (by decide)) (ZX (Q1 g 4) KI));have z:=ZX (QV h 4) E;have B:=QZ (ZX (QV TH.1 4) (ZX (Q1 tm 4) z));refine⟨r,⟨trivial,B.1,B.2⟩,h,λ_ _ _ _ _ e=>?_⟩;cases e;exact⟨r,⟨C,D⟩,QZ z,h,t⟩
theorem Hi{nm:Str}(u v:Int)(l:nm∈NM)(g:QF nm):TlG NM (.spot tm nm u v):=by
 have h:=QZ (ZX (QV TH.2.1 4) (ZX (Q1 tm 4) (ZX (QV g 4) (ZX (Fg (FI u v) (by decide)) KI))));exact⟨l,⟨trivial,h.1,h.2⟩,g,λ_ _ _ _ _ e=>by cases e⟩
theorem GC{w:Str}{nm:Str}(g:w=Str.ofString "drop"\/w=Str.ofString "free")(r:nm∈NM)(h:QF nm):TlG NM (.off w tm nm):=by
 have t:QF w:=by
  rcases g with rfl|rfl
  ·exact TH.2.2.1
  ·exact TH.2.2.2
 have l:=QZ (ZX (QV t 4) (ZX (Q1 tm 4) (ZX (QV h 4) KI)));exact⟨r,⟨g,l.1,l.2⟩,h,λ_ _ _ _ _ e=>by cases e⟩
def mK:DSp:=λxs M Φ=>on3 xs λx y z=>onO x λp=>onO y λq=>onI z λtm=>∃ c w n,(Pen M p/\Hs M p q c w n/\n<=2000)/\∀t M',TlG (E7 w) t->Hs M' p q c w (n+12)->Fh p c M M'->Φ (.dat (tlD t)) M'
theorem Hs.up{w:Hw}(h:Hs M p q c w n)(k:n<=m):Hs M p q c w m:=by
 obtain⟨cs,e,g,l,r⟩:=h.h2;exact⟨h.h1,⟨cs,e,g,l,aA r k⟩,h.qp,h.cp,h.cq,h.nm⟩
theorem Lq(T:Tx w K mg base):Qx P w K mg base CX0 4 T.Bt T.B5 ["_law_pen_here","_law_house_here","_law_time"] (lift K mK):=by
 refine okD T.GY.F VF (λxs M Φ h=>by obtain⟨_,_,_,rfl,_⟩:=QA h;rfl) λa4 A U s H E g=>⟨_,(Zd (Zl 3 VF.nd (cO T.ZK (Zy T) g (Za (Zb 0) (Za Zc Ze))))
 (Zd (Zl 4 VF.nd (Zh ((Z7 g) (Zb 1) Zu) (cO T.ZK (Zy T) g (Za (Zb 0) (Za (ZD JD rfl T.Yq Jr (Za ((Z7 g) (Zb 1) Zu) Ze)) Ze)))))
 (Zd (Zl 5 VF.nd (Zh ((Z7 g) (Zb 1) Zu) (cO T.ZK (Zy T) g (Za (Zb 0) (Za (ZD JD rfl T.Yq Jr (Za ((Z7 g) (Zb 1) Zu) Ze)) Ze)))))
 (Zd (QJ (ZC jT (Zb 3) Zc) (Zi (Zq (Zr JF (Zw (Za Zu (Za (Zb 2) (Za (Zb 4) Ze)))) (cO T.NQ (OF T) g (Za (Zb 0) (Za (Zb 1) Ze)))))) ZO)
 (Zd (QJ (ZC (JK g) (Zb 3) Zc) (Zi (Zq (Zw (Za Zu (Za (Zb 2) (Za (Zb 4) Ze)))))) ZO)
 (Zd (QJ (ZC (JK g) (Zb 3) Zc) (Zi (Zq (Zw (Za Zu (Za (Zb 2) (Za (Zb 5) Ze)))))) ZO)
 (Zi (Zq (Zw (Za Zu (Za (Zb 2) (Za (Zb 5) (Za (cO T.pI (yC T) g (Za (Zb 0) (Za (Zb 1) Ze))) Ze))))))))))))),λxs M Φ h=>?_⟩
 obtain⟨x1,x2,x3,rfl,h⟩:=(QA h);obtain⟨p,rfl,h⟩:=(ZM h);obtain⟨q,rfl,h⟩:=(ZM h);obtain⟨tm,rfl,c,t,n,⟨hp,Y,hn⟩,h⟩:=(ZJ h);walk_at"h";refine⟨hp,λr1 M1 a1 b1 f1=>?_⟩;have B:=Y.fr f1;obtain⟨f,ox,oy,eq,hf⟩:=B.h1;have ll:=aa (as:=t.ls) PyData.str;have lt:=aa (as:=t.ts) PyData.str;obtain⟨⟨⟨g1,g2⟩,g3,g4⟩,g5,g6⟩:=Y.nm;walk_at"h";rw[eq];walk_at"rk";refine⟨⟨by lia,by lia⟩,f1.1,λr2 M2 a2 b2 G=>eu a2 (by lia) λI C=>?_⟩;have e2:=G.own eq Y.qp;walk_at"h";rw[e2];walk_at"rk";refine⟨⟨by lia,by lia⟩,G.1,λr3 M3 a3 b3 J=>eu a3 (by lia) λth D=>?_⟩;have L:=(f1.trans G).trans J;have l:=(B.fr G).fr J;have i1:I∈E7 t:=bh _ C;have i2:th∈E7 t:=ay _ D;have y1:=VS (g5 I C);have y2:=VS (g6 th D);have up:=l.up (cc n 12);walk_at"h";refine ZA (λz=>?_) λz=>?_
 ·refine⟨c,t,n,⟨J.1,l,hn⟩,λou bs wb M4 r hb hw a0 O=>?_⟩;rw[MP];walk_at"rk"
  exact h (.land tm I ou bs wb) M4 (EY i1 y1 (by
   rcases r with rfl|r
   ·exact PK
   ·exact VS (g5 ou r)) hb hw) a0 (L.fh.trans O)
 walk_at"h";refine ZA (λz=>h (.off (Str.ofString "drop") tm I) M3 (GC (.inl rfl) i1 y1) up L.fh) λz=>?_;walk_at"h";refine ZA (λz=>h (.off (Str.ofString "free") tm th) M3 (GC (.inr rfl) i2 y2) up L.fh) λz=>?_;subst_vars;walk_at"rk";exact⟨c,t,n,⟨J.1,l,hn⟩,λu v M4 O=>h (.spot tm th u v) M4 (Hi u v i2 y2) (up.fr O) (L.trans O).fh⟩
theorem Fh.new{r:Addr}{o:OO}(h:Fh p c M M')(l:M r=none)(t:r≠p):Fh p c M (Zs M' r o):=⟨h.1.put (be t),λa B C g=>by
 rw[Zj λz=>g (by rw[z];exact l)]
 exact h.2 a B C g⟩
theorem Fh.gone{r:Addr}(h:Fh p c M M')(l:M r=none)(t:r≠p):Fh p c M (Q4 M' r):=⟨h.1.del (be t),λa B C g=>by
 rw[ZG λz=>g (by rw[z];exact l)]
 exact h.2 a B C g⟩
theorem Hs.set{r:Addr}{w:Hw}{o:OO}(h:Hs M p q c w n)(g:q≠r)(l:c≠r):Hs (Zs M r o) p q c w n:=by
 obtain⟨f,t,z,B,C⟩:=h.h1;obtain⟨cs,D,E⟩:=h.h2;exact⟨⟨f,t,z,(Zj g).trans B,C⟩,⟨cs,(Zj l).trans D,E⟩,h.qp,h.cp,h.cq,h.nm⟩
theorem Hs.del{r:Addr}{w:Hw}(h:Hs M p q c w n)(g:q≠r)(l:c≠r):Hs (Q4 M r) p q c w n:=by
 obtain⟨f,t,z,B,C⟩:=h.h1;obtain⟨cs,D,E⟩:=h.h2;exact⟨⟨f,t,z,(ZG g).trans B,C⟩,⟨cs,(ZG l).trans D,E⟩,h.qp,h.cp,h.cq,h.nm⟩
def mV:DSp:=λxs M Φ=>on4 xs λx y z a=>onO x λp=>onO y λq=>onI z λm=>onI a λk=>∃ c w,(Pen M p/\Hs M p q c w 1/\(0<=m/\m<=40)/\k=8)/\∀(g:List Tl) M',(∀t∈g,TlG (E7 w) t)->g.length<=80->Hs M' p q c w 2000->Fh p c M M'->Φ (.dat (.list (g.map tlD))) M'
theorem Ej(T:Tx w K mg base):Qx P w K mg base CX0 5 T.WR T.Ue ["_law_pen_here","_law_house_here","_law_many","_law_times"] (lift K mV):=by
 refine okD T.WJ.F J9 (λxs M Φ h=>by obtain⟨_,_,_,_,rfl,_⟩:=FC h;rfl) λa7 A a3 s H E g=>⟨_,(Zd (Zl 4 J9.nd (Qi Ze))
 (Zd (X6 rfl T.VD (Za (Zb 2) Ze) (Zm 5 J9.nd) (Zd (Zl 6 J9.nd (Zr ZV ((Z7 g) (Zb 1) Zu) (Zr JR ((Z7 g) (Zb 1) Zu) (cO T.ZK (Zy T) g (Za (Zb 0) (Za (Zb 3) Ze))))))
 (Zd (QJ (DW.dt (E4 (ZC jT (Zb 5) (ZD JD rfl T.Yq Jr (Za ((Z7 g) (Zb 1) Zu) Ze))) (Ut (ZC DR (cO T.ZK (Zy T) g (Za (Zb 0) (Za Zc Ze))) Zc)))) (Zi (Qh (QB (Zb 4) (Zr JF (Zw (Za Zu (Za ((Z7 g) (Zb 1) Zu) (Za (Zh ((Z7 g) (Zb 1) Zu) (Zb 5)) Ze)))) (cO T.NQ (OF T) g (Za (Zb 0) (Za (Zb 1) Ze))))))) (Zi (Qh (QB (Zb 4) (cO T.GY (Lq T) g (Za (Zb 0) (Za (Zb 1) (Za (Zb 6) Ze))))))))
 (Zi (QJ (ZC (JK g) (cO T.ZK (Zy T) g (Za (Zb 0) (Za Zc Ze))) Zc) (Zi (Qh (QB (Zb 4) (Zh (Zb 4) (cO T.ZK (Zy T) g (Za (Zb 0) (Za (ZD JD rfl T.Yq Jr (Za (Zb 4) Ze)) Ze))))))) ZO)))) bj rfl)
 (Zi (Zq (Q9 (Zb 4)))))),λxs M Φ h=>?_⟩
 obtain⟨x1,x2,x3,x4,rfl,h⟩:=(FC h);obtain⟨p,rfl,h⟩:=(ZM h);obtain⟨q,rfl,h⟩:=(ZM h);obtain⟨m,rfl,h⟩:=(ZJ h);obtain⟨k,rfl,c,D,⟨hp,hs,⟨m0,m1⟩,rfl⟩,h⟩:=(ZJ h);obtain⟨⟨⟨g1,g2⟩,g3,g4⟩,g5,g6⟩:=hs.nm;have ll:=aa (as:=D.ls) PyData.str;walk_at"h";intro r g;have C:r≠p:=be (hp.ne g);obtain⟨f0,a9,b0,a4,_⟩:=hs.h1;obtain⟨b3,a5,_⟩:=hs.h2;have n2:q≠r:=λz=>by
  rw[<-z,a4]at g;cases g
 have n3:c≠r:=λz=>by
  rw[<-z,a5]at g;cases g
 walk_at"h";refine⟨⟨by lia,by lia⟩,λi Δ M2=>∃(k5 k6:Option DV)(l:List Tl),Δ=[some (.own p),some (.own q),some (.dat (.int m)),some (.dat (.int 8)),some (.own r),k5,k6]/\M2 r=some (.lst (l.map tlD))/\(∀t∈l,TlG (E7 D) t)/\l.length<=2*i/\Hs M2 p q c D (1+12*i)/\Fh p c M M2,⟨_,_,[],rfl,Zk,λ_ h=>(nomatch h),ak _,hs.set n2 n3,(Fr.refl hp).fh.new g C⟩,?_,?_⟩
 ·rintro i Δ M2 hi ⟨k5,k6,l,rfl,J,ht,hl,I,hF⟩;obtain⟨f,ox,oy,eq,hf⟩:=I.h1;have b4:=aa (as:=l) tlD;refine Qn λE hE=>?_;rw[BA];walk_at"h";rw[eq];walk_at"rk";refine⟨hF.1,λr1 M3 a1 b1 f1=>⟨.inr (by lia),?_⟩⟩;have L:=I.fr f1;have r3:=f1.own J C;have e3:=f1.own eq hs.qp;have F3:=hF.trans f1.fh;walk_at"hd";rename_i R hR;have O:∀(t:Tl)(U B:Mp)(d:PyData),TlG (E7 D) t->Hs B p q c D (1+12*i+12)->U r=some (.lst (l.map tlD))->Fh p c M U->Fh p c U B->Vi (B r) λds=>ds.length<16777216/\R E [some (.own p),some (.own q),some (.dat (.int m)),some (.dat (.int 8)),some (.own r),some (.dat (.int (i:Int))),some (.dat d)] (Zs B r (.lst (ds++[tlD t]))):=λt U B d gt hs5 e4 F4 g5=>by
   rw[g5.2 r C (be n3) (by rw[e4];exact aN _),e4,Zv];refine⟨by lia,?_⟩;have F5:=(F4.trans g5).new (o:=.lst (l.map tlD++[tlD t])) g C;replace hs5:=hs5.set (o:=.lst (l.map tlD++[tlD t])) n2 n3;have r5:Zs B r (.lst (l.map tlD++[tlD t])) r=some (.lst ((l++[t]).map tlD)):=by rw[Zk,al];rfl
   have gu:∀ x∈l++[t],TlG (E7 D) x:=λx Y=>by
    rcases ax.mp Y with Y|Y
    ·exact ht x Y
    ·rw[au.mp Y];exact gt
   have lu:(l++[t]).length=l.length+1:=by rw[aB];rfl
   have b5:=aa (as:=l++[t]) tlD;generalize Zs B r (.lst (l.map tlD++[tlD t]))=M6 at*;generalize l++[t]=us at*;subst hR;walk_at"rk";refine⟨F5.1,λr6 M7 a6 b6 f6=>?_⟩;have r7:=f6.own r5 C;obtain rfl:=hE trivial;refine ZA (λz=>?_) λz=>⟨_,_,us,rfl,r7,gu,by lia,hs5.fr f6,F5.trans f6.fh⟩;rw[r7,Zv,Zv];refine⟨⟨by lia,by lia⟩,f6.1,λr8 M8 a8 b8 f8=>?_⟩;rw[f8.own r7 C,Zv];refine eu a8 (by lia) λx Y=>?_;rw[Zv];refine⟨by lia,_,_,us++[x],rfl,by rw[Zk,al];rfl,λy hy=>?_,by rw[aB,lu];simp only[List.length_cons,List.length_nil];lia,((hs5.fr f6).fr f8).set n2 n3,((F5.trans f6.fh).trans f8.fh).new g C⟩
   rcases ax.mp hy with hy|hy
   ·exact gu y hy
   ·rw[au.mp hy];exact gu x Y
  walk_at"rk";rw[e3];walk_at"rk";simp only[mK,MP];refine ZA (λz=>?_) λz=>?_
  ·refine⟨f1.1,λr2 U a2 b2 G=>ZA (λy=>?_) λy=>?_⟩
   ·rw[G.own r3 C,Zv,G.own e3 hs.qp];walk_at"rk";obtain⟨nm,en⟩:∃ nm,D.ls[i]?=some nm:=⟨_,aM (by lia)⟩
    refine J7 (d:=.str nm) (J5 (by rw[aV,en];rfl)) ?_;walk_at"rk";have mn:=az en;refine⟨c,D,1+12*i,⟨G.1,L.fr G,by lia⟩,λou bs wb B a0 hb hw hs5 f5=>?_⟩
    exact O (.land D.at0 nm ou bs wb) U B _ (EY (bh _ mn) (VS (g5 nm mn)) (by
     rcases a0 with rfl|a0
     ·exact PK
     ·exact VS (g5 ou a0)) hb hw) hs5 (G.own r3 C) (F3.trans G.fh) f5
   ·rw[G.own r3 C,Zv];walk_at"rk";exact⟨c,D,1+12*i,⟨G.1,L.fr G,by lia⟩,λt B gt hs5 f5=>O t U B _ gt hs5 (G.own r3 C) (F3.trans G.fh) f5⟩
  ·rw[r3,Zv];walk_at"rk";exact⟨c,D,1+12*i,⟨f1.1,L,by lia⟩,λt B gt hs5 f5=>O t M3 B _ gt hs5 r3 F3 f5⟩
 ·rintro Δ M2 ⟨k5,k6,l,rfl,J,ht,hl,I,hF⟩;subst_vars;walk_at"rk";rw[J,Zv];exact h l _ ht (by lia) ((I.up (by lia)).del n2 n3) (hF.gone g C)
def FW:DSp:=λxs M Φ=>on2 xs λx y=>onO x λp=>QK y λg=>(Pen M p/\g.length<=80)/\∀(us:List Tl) M',us.Perm g->Fr p M M'->Φ (.dat (.list (us.map tlD))) M'
theorem SJ(T:Tx w K mg base):Qx P w K mg base CX0 2 T.FY T.HN ["_law_pen_here","_law_some"] (lift K FW):=by
 refine okD T.Fz.F KA (λxs M Φ h=>by obtain⟨_,_,rfl,_⟩:=Zz h;rfl) λU A D s H E l=>⟨_,(Zd (Zl 2 KA.nd (Qi Ze))
 (Zd (Jc (Zb 1) (Zm 3 KA.nd) (Zi (Qh (Pg (Zb 2) (cO T.ZK (Zy T) l (Za (Zb 0) (Za (Zr ZV (ZD JD rfl T.Yq Jr (Za (Zb 2) Ze)) Zc) Ze))) (Zb 3)))) bj rfl)
 (Zi (Zq (Q9 (Zb 2)))))),λxs M Φ h=>?_⟩
 obtain⟨x1,x2,rfl,h⟩:=(Zz h);obtain⟨p,rfl,h⟩:=(ZM h);obtain⟨g,rfl,⟨I,hl⟩,h⟩:=h;walk_at"h";intro r l;have z:r≠p:=be (I.ne l);walk_at"h";have len:=aa (as:=g) tlD;refine⟨λi Δ M2=>∃(G:Option DV)(us:List Tl),Δ=[some (.own p),some (.dat (.list (g.map tlD))),some (.own r),G]/\us.Perm (g.take i)/\M2 r=some (.lst (us.map tlD))/\Fr p M M2,⟨_,[],rfl,.nil,Zk,(Fr.refl I).put l z⟩,?_,?_⟩
 ·rintro i d Δ M2 hd ⟨G,us,rfl,t,B,C⟩;obtain⟨x,J,rfl⟩:=Zp hd;have hi:i<g.length:=(aE.mp J).1;have lu:us.length<=i:=by rw[t.length_eq];exact fo ..
  have Y:=aa (as:=us) tlD;refine Qn λE hE=>?_;walk_at"rk";rw[B,Zv];walk_at"rk";refine⟨⟨by lia,by lia⟩,C.1,λL M3 a1 b1 O=>?_⟩;rw[O.own B z,Zv];obtain rfl:=hE trivial;refine⟨⟨a1,by lia⟩,by lia,_,us.take L.toNat++x::us.drop L.toNat,rfl,?_,by rw[Zk,al,ai,gV,List.map_drop],(C.trans O).put l z⟩;have tk:g.take (i+1)=g.take i++[x]:=by
   have:=take_snoc id J;simp only[List.map_id_fun,id]at this;exact this.symm
  rw[tk];refine g9.trans ?_;rw[eG];exact(t.cons x).trans (List.perm_append_singleton x (g.take i)).symm
 ·rintro Δ M2 ⟨G,us,rfl,t,B,C⟩;rw[len,av]at t;subst_vars;walk_at"rk";rw[B,Zv];exact h us _ t (C.gone l z)
def jX:DSp:=λxs M Φ=>on2 xs λx y=>QK x λg=>onS y λth=>(g.length<=200/\∀t∈g,TlK t)/\Φ (.dat (.list ((ofS (eqS th) g).map tlD))) M
theorem q9{a b:Bool}{P Q:Prop}(h:if(a||b)=true then P else Q):if a=true then P else if b=true then P else Q:=by
 cases a
 ·rw[eA]at h;rw[ao ae];exact h
 ·rw[fe,aw rfl]at h;rw[aw rfl];exact h
theorem uK{a b:Bool}{P Q:Prop}(h:if(a&&b)=true then P else Q):if a=true then if b=true then P else Q else Q:=by
 cases a
 ·rw[eT,ao ae]at h;rw[ao ae];exact h
 ·rw[gi]at h;rw[aw rfl];exact h
theorem wI(T:Tx w K mg base):Qx P w K mg base CX0 1 T.pz T.nH ["_law_tellings_here","_law_thing"] (lift K jX):=by
 refine okD T.oj.F sV (λxs M Φ h=>by obtain⟨_,_,rfl,_⟩:=Zz h;rfl) λD A r s H E z=>⟨_,(Zi (Zq (ZI false (Zn (sc:=Zf jf) (XN:=["_law_tellings_here","_law_thing"]) (N:=["_law_one","_law_thing"]) (ix:=[none,some 1]) rfl rfl (by walk_at"k")) (ZU (Zb 0)) (λC l s H=>(Zm 0 (show List.Nodup (["_law_one","_law_thing"]:List Str) by walk_at"k"))) (λC l s H=>(Qo (DW.dt (jr (ZC (FV z) (Zh (Zb 0) Zc) (Zw (Za Zu (Za Zu Ze)))) (N4 (ZC (JK z) (Zh (Zb 0) Zc) (Zb 1))))))) (λC l s H=>(Zb 0)) rfl))),λxs M Φ h=>?_⟩;obtain⟨G,I,rfl,h⟩:=(Zz h);obtain⟨B,rfl,h⟩:=h;obtain⟨th,rfl,⟨J,L⟩,h⟩:=(Qu h);walk_at"rk";have len:=aa (as:=B) tlD;refine⟨by lia,λi g M'=>g=(ofS (eqS th) (B.take i)).map tlD/\M' =M,⟨rfl,rfl⟩,?_,?_⟩
 ·rintro i d g M' hd ⟨rfl,rfl⟩;obtain⟨x,l,rfl⟩:=Zp hd;rw[Z6];walk_at"rk";refine⟨[Str.ofString "land",Str.ofString "drop"],rfl,?_⟩;walk_at"rk";rw[<-Z6];exact q9 (Ql (λt=>isL t||eqS th (nmT t)) l rfl)
 ·rintro g M' ⟨rfl,rfl⟩;rw[len,av];exact h
def p_(x:DV)(P:List Str->Prop):Prop:=∃ g:List Str,x=.dat (.list (g.map PyData.str))/\P g
def Sq(T:Tx w K mg base):DSp:=λxs M Φ=>on3 xs λx y z=>QK x λg=>p_ y λh=>onI z λtm=>(Wz g/\Vf M T.Zg YV)/\∀M',Kq T M M'->Φ (.dat (.bool true)) M'
theorem Wz.of{ts us:List Tl}(h:Wz ts)(g:∀ x∈us,x∈ts)(l:us.length<=ts.length):Wz us:=let⟨NM,r,z,B⟩:=h;⟨NM,r,aA l z,λt C=>B t (g t C)⟩
theorem Wu(T:Tx w K mg base):Qx P w K mg base CX0 19 T.Y8 T.Xa ["_law_tellings_here","_law_things","_law_time"] (lift K (Sq T)):=by
 refine okD T.YH.F Qm (λxs M Φ h=>by obtain⟨_,_,_,rfl,_⟩:=QA h;rfl) λa5 A a1 s H E B=>⟨_,(Zd (Zl 3 Qm.nd (Q9 (cO T.JX (JS T) B (Za (Zb 0) Ze))))
 (Zd (Zl 4 Qm.nd (cO T.YM (Xe T) B (Za (Zb 0) (Za (Zb 2) Ze))))
 (Zd (Jc (Zb 1) (Zm 5 Qm.nd) (Zd (Zl 6 Qm.nd (cO T.oj (wI T) B (Za (Zb 0) (Za (Zb 5) Ze))))
 (Zd (QJ (ZC (Sb B) (Q9 (cO T.JX (JS T) B (Za (Zb 6) Ze))) (ZI false (Zn (sc:=Zf QR) (XN:=["_law_tellings_here","_law_things","_law_time","_law_rows","_law_view","_law_thing","_law_alone","_law_own"]) (N:=["_law_row","_law_thing"]) (ix:=[none,some 5]) rfl rfl (by walk_at"k")) (ZU (Zb 3)) (λC I s H=>(Zm 0 (show List.Nodup (["_law_row","_law_thing"]:List Str) by walk_at"k"))) (λC I s H=>(Qo (ZC (JK B) (Zh (Zb 0) Zc) (Zb 1)))) (λC I s H=>(Zb 0)) rfl)) (Zi (Zq Gi)) ZO)
 (Zd (Zl 7 Qm.nd (cO T.YM (Xe T) B (Za (Zb 6) (Za (Zb 2) Ze))))
 (Zi (QJ (DW.dt (jr (ZC (Sb B) (Zh (Zb 7) Zc) (Zh (Zb 4) Zc)) (N4 (ZC (Sb B) (Qd OT rfl T.mv S8 (Za (Zh (Zb 7) Zc) Ze)) (ZI false (Zn (sc:=Zf QR) (XN:=["_law_tellings_here","_law_things","_law_time","_law_rows","_law_view","_law_thing","_law_alone","_law_own"]) (N:=["_law_row","_law_thing"]) (ix:=[none,some 5]) rfl rfl (by walk_at"k")) (Yc (Zh (Zb 4) Zc)) (λC I s H=>(Zm 0 (show List.Nodup (["_law_row","_law_thing"]:List Str) by walk_at"k"))) (λC I s H=>(Qo (ZC (JK B) (Zh (Zb 0) Zc) (Zb 1)))) (λC I s H=>(Zb 0)) rfl))))) (Zi (Zq Gi)) ZO))))) bj rfl)
 (Zi (Zq Gi))))),λxs M Φ h=>?_⟩
 obtain⟨x1,x2,x3,rfl,h⟩:=(QA h);obtain⟨g,rfl,ns,rfl,h⟩:=h;obtain⟨tm,rfl,⟨D,hT⟩,h⟩:=(ZJ h);walk_at"h";simp only[ij];walk_at"rk";refine⟨g,rfl,⟨D,hT⟩,λks q M1 hk hq k1 a6 e1=>?_⟩;rw[e1,Zv];have K1:Kq T M (Q4 M1 q):=k1.but hq (QH e1) λa na=>ZG na;walk_at"h";simp only[jc];walk_at"rk";refine⟨g,rfl,⟨D,K1.1⟩,λG M2 J k2=>?_⟩;have K2:=K1.trans k2;walk_at"h";refine⟨λi Δ L=>∃ k5 O k7,Δ=[some (.dat (.list (g.map tlD))),some (.dat (.list (ns.map PyData.str))),some (.dat (.int tm)),some (.dat (.list ((ZS g ks).2.map rwD))),some (.dat (vwD (ZS (Xd g tm) G).1)),k5,O,k7]/\Kq T M L,⟨_,_,_,rfl,K2⟩,?_,?_⟩
 ·rintro i d Δ L hd ⟨k5,O,k7,rfl,K3⟩;obtain⟨th,en,rfl⟩:=Zp hd;refine Qn λE hE=>?_;walk_at"rk";simp only[jX];walk_at"rk";have a2:∀ t∈g,TlK t:=λt ht=>let⟨_,_,_,h3⟩:=D;(h3 t ht).2.1.1;have l0:g.length<=200:=let⟨_,_,h2,_⟩:=D;h2;have so:∀{us:List Tl},∀x∈ofS (eqS th) us,x∈us:=λx hx=>(ah.mp hx).1;have U:Wz (ofS (eqS th) g):=D.of so (aX ..);refine⟨g,rfl,⟨l0,a2⟩,?_⟩;simp only[ij];walk_at"rk";refine⟨_,rfl,⟨U,K3.1⟩,λa7 q3 M4 a3 a4 k4 a8 e4=>?_⟩;rw[e4,Zv];have K4:Kq T L (Q4 M4 q3):=k4.but a4 (QH e4) λa na=>ZG na;have K5:=K3.trans K4;have ap:=apart (S:=eqS th) D hk.1 a3.1 hk.2;have lr:=aa (as:=(ZS g ks).2) rwD;refine⟨by lia,λi z M'=>z=(rwS (eqS th) ((ZS g ks).2.take i)).map rwD/\M' =Q4 M4 q3,⟨rfl,rfl⟩,?_,?_⟩
  ·rintro i d z M' hd ⟨rfl,rfl⟩;obtain⟨r,er,rfl⟩:=Zp hd;rw[show rwD r=.tuple [.int r.t,.str r.n,.str (if r.c then coS else goS),.str r.l]from rfl];walk_at"rk";exact Ql (λr=>eqS th r.n) er rfl
  rintro z M' ⟨rfl,rfl⟩;rw[lr,av,ap];refine YX (λd hd=>?_) ?_
  ·obtain⟨r,B,rfl⟩:=af.mp hd;exact nO ((Y0 D ks).1 r (ah.mp B).1)
  rw[eB,ao ae];simp only[jc];walk_at"rk";refine⟨_,rfl,⟨U,K5.1⟩,λa9 M6 Y O=>?_⟩;have K6:=K5.trans O;have uo:Xd (ofS (eqS th) g) tm=ofS (eqS th) (Xd g tm):=by
   unfold Xd ofS;rw[cB,cB];exact bG λx _=>Bool.and_comm _ _
  have a0:Wz (Xd g tm):=D.of (λx hx=>(ah.mp hx).1) (aX ..);rw[uo]at Y⊢;rw[apart (S:=eqS th) a0 J.1 Y.1 J.2];obtain⟨NM,hv⟩:=(Y0 a0 G).2;generalize(ZS (Xd g tm) G).1=v at*;rw[Ky,Ky];walk_at"rk";refine uB (l:=v.ls.map ldD) (λd hd=>?_) ?_
  ·obtain⟨l,hl,rfl⟩:=af.mp hd;exact xn hv hl
  rw[eB,ao ae];have lt:=aa (as:=v.ts) thD;have lv:=hv.il;refine⟨by lia,λi z M'=>z=((v.ts.take i).filter λk=>eqS th k.n).map thD/\M' =M6,⟨rfl,rfl⟩,?_,?_⟩
  ·rintro i d z M' hd ⟨rfl,rfl⟩;obtain⟨k,ek,rfl⟩:=Zp hd;rw[show thD k=.tuple [.str k.n,.tuple [.int k.u,.int k.v],.tuple (k.ss.map stD)]from rfl];walk_at"rk";exact Ql (λk=>eqS th k.n) ek rfl
  rintro z M' ⟨rfl,rfl⟩;rw[lt,av];refine YX (l:=((v.ts.filter λk=>eqS th k.n).map thD)) (λd hd=>?_) ?_
  ·obtain⟨k,hk,rfl⟩:=af.mp hd;exact vj hv (ah.mp hk).1
  rw[eB,ao ae];obtain rfl:=hE trivial;exact⟨_,_,_,rfl,K6⟩
 ·rintro Δ L ⟨k5,O,k7,rfl,K3⟩;subst_vars;walk_at"rk";exact h L K3
def oG:DSp:=λxs M Φ=>on4 xs λx y z a=>QK x λg=>onS y λth=>onI z λtm=>onS a λo=>(g.length<=200/\∀t∈g,TlK t)/\Φ (.dat (.list ((g.map (anF th tm o)).map tlD))) M
theorem tj(T:Tx w K mg base):Qx P w K mg base CX0 1 T.oH T.oU ["_law_tellings_here","_law_thing","_law_time","_law_other"] (lift K oG):=by
 refine okD T.ol.F KQ (λxs M Φ h=>by obtain⟨_,_,_,_,rfl,_⟩:=FC h;rfl) λY A G s H E I=>⟨_,(Zd (Zl 4 KQ.nd (Qi Ze))
 (Zd (Jc (Zb 0) (Zm 5 KQ.nd) (Zd (Zl 6 KQ.nd (pE (E3 (V4 (JK I) (Zh (Zb 5) Zc) Zu) (WB (V4 mH (Zh (Zb 5) Zc) (Zb 2)))) (WB (E3 (V4 (JK I) (Zh (Zb 5) Zc) Zu) (WB (V4 DR (Zh (Zb 5) Zc) (Zb 2)))))))
 (Zd (QJ (DW.dt (E4 (Cr (Zb 6)) (Ut (ZC (JK I) (Zh (Zb 5) Zc) (Zb 1))))) (Zi (Zl 5 KQ.nd (Zr JF (Zr JF (Q8 (Zb 5) Jo (Jn Zc)) (Zw (Za (Zb 3) Ze))) (Q8 (Zb 5) (Jn Zc) Jo)))) ZO)
 (Zi (Qh (QB (Zb 4) (Zb 5)))))) bj rfl)
 (Zi (Zq (Q9 (Zb 4)))))),λxs M Φ h=>?_⟩
 obtain⟨x1,x2,x3,x4,rfl,h⟩:=(FC h);obtain⟨r,rfl,h⟩:=h;obtain⟨th,rfl,h⟩:=(Qu h);obtain⟨tm,rfl,h⟩:=(ZJ h);obtain⟨o,rfl,⟨hl,hk⟩,h⟩:=(Qu h);walk_at"h";intro q hq;walk_at"h";have len:=aa (as:=r) tlD;refine⟨λi Δ M2=>∃ J L,Δ=[some (.dat (.list (r.map tlD))),some (.dat (.str th)),some (.dat (.int tm)),some (.dat (.str o)),some (.own q),J,L]/\M2=Zs M q (.lst (((r.take i).map (anF th tm o)).map tlD)),⟨_,_,rfl,rfl⟩,?_,?_⟩
 ·rintro i d Δ M2 hd ⟨J,L,rfl,rfl⟩;obtain⟨x,O,rfl⟩:=Zp hd;have hi:i<r.length:=(aE.mp O).1;have kx:=hk x (az O);have lt:(((r.take i).map (anF th tm o)).map tlD).length<=i:=by
   rw[aa,aa];exact fo ..
  have B:((r.take (i+1)).map (anF th tm o)).map tlD=((r.take i).map (anF th tm o)).map tlD++[tlD (anF th tm o x)]:=by
   rw[aC,aC];exact(take_snoc (tlD∘anF th tm o) O).symm
  rw[Z6];refine Qn λE hE=>?_;rw[BA];walk_at"hd";rename_i R hR;have C:R E [some (.dat (.list (r.map tlD))),some (.dat (.str th)),some (.dat (.int tm)),some (.dat (.str o)),some (.own q),some (.dat (tlD x)),some (.dat (.bool ((isP x&&decide (tm<=tmT x))||(isF x&&decide (tm<tmT x)))))] (Zs M q (.lst (((r.take i).map (anF th tm o)).map tlD))):=by
   have D:anF th tm o x=if(((isP x&&decide (tm<=tmT x))||(isF x&&decide (tm<tmT x)))&&decide (nmT x=th))=true then rnT o x else x:=rfl
   have nl:((isP x&&decide (tm<=tmT x))||(isF x&&decide (tm<tmT x)))=true->isL x=false:=λc=>by
    rw[Bool.or_eq_true,b_,b_]at c
    rcases c with c|c
    ·exact Xh (.inr rfl) c.1
    ·exact Xh (.inl rfl) c.1
   generalize((isP x&&decide (tm<=tmT x))||(isF x&&decide (tm<tmT x)))=fb at*;generalize((r.take i).map (anF th tm o)).map tlD=us at*;subst hR;obtain rfl:=hE trivial;rw[Z6];walk_at"rk";cases fb with
   |false=>
    rw[ao ae];refine⟨by lia,_,_,rfl,?_⟩;rw[B,D,eT,ao ae,<-Z6]
   | true=>
    rw[aw rfl];refine ZA (λz=>?_) λz=>?_
    ·rw[aI z,gh,aw rfl]at D;rw[D]at B;have U:=nl rfl;simp only[MP];cases x with
     |land=>rw[X5]at U;cases U
     |spot g l u v=>
      refine⟨show ¬(HT.sIx 4 0 none=0/\HT.sIx 4 4 (some 2)=4) by decide,?_⟩;rw[show DL.cutD (PyData.str (wdT (.spot g l u v)):: .int (tmT (.spot g l u v)):: .str (nmT (.spot g l u v))::Ei (.spot g l u v)) none (some 2)=[.str (Str.ofString "spot"),.int g]from rfl,show DL.cutD (PyData.str (wdT (.spot g l u v)):: .int (tmT (.spot g l u v)):: .str (nmT (.spot g l u v))::Ei (.spot g l u v)) (some 3) none=[.tuple [.int u,.int v]]from rfl];walk_at"rk";refine⟨show ¬(HT.sIx 4 0 (some 3)=0/\HT.sIx 4 4 none=4) by decide,?_⟩;walk_at"rk";exact⟨by lia,_,_,rfl,by rw[B];rfl⟩
     |off t g l=>
      refine⟨show ¬(HT.sIx 3 0 none=0/\HT.sIx 3 3 (some 2)=3) by decide,?_⟩;rw[show DL.cutD (PyData.str (wdT (.off t g l)):: .int (tmT (.off t g l)):: .str (nmT (.off t g l))::Ei (.off t g l)) none (some 2)=[.str t,.int g]from rfl,show DL.cutD (PyData.str (wdT (.off t g l)):: .int (tmT (.off t g l)):: .str (nmT (.off t g l))::Ei (.off t g l)) (some 3) none=[]from rfl];walk_at"rk";refine⟨show ¬(HT.sIx 3 0 (some 3)=0/\HT.sIx 3 3 none=3) by decide,?_⟩;walk_at"rk";exact⟨by lia,_,_,rfl,by rw[B];rfl⟩
    ·refine⟨by lia,_,_,rfl,?_⟩;rw[B,D,aZ z,bW,ao ae,<-Z6]
  walk_at"rk";rw[Z6,show isP x=decide (wdT x=Str.ofString "spot")from rfl,show isF x=decide (wdT x=Str.ofString "free")from rfl]at C;clear B;generalize decide (wdT x=Str.ofString "spot")=a at*;generalize decide (wdT x=Str.ofString "free")=c at*;generalize decide (tm<=tmT x)=b at*;cases a<;>cases b<;>cases c<;>exact C
 ·rintro Δ M2 ⟨J,L,rfl,rfl⟩;rw[len,av];subst_vars;walk_at"rk";rw[UW hq];exact h
def Fn:DSp:=λxs M Φ=>on3 xs λx y z=>onL x λds=>onS y λth=>onS z λo=>∃ g:List Rw,ds=g.map rwD/\g.length<=10000000/\Φ (.dat (.list (((rwS (We th o) g).map (rnR th)).map rwD))) M
theorem OI(T:Tx w K mg base):Qx P w K mg base CX0 1 T.FX T.FL ["_law_rows","_law_thing","_law_other"] (lift K Fn):=by
 refine okD T.Hd.F P1 (λxs M Φ h=>by obtain⟨_,_,_,rfl,_⟩:=QA h;rfl) λG A z s H E I=>⟨_,(Zi (Zq (ZI false (Zn (sc:=Zf Kf) (XN:=["_law_rows","_law_thing","_law_other"]) (N:=["_law_row","_law_thing","_law_other"]) (ix:=[none,some 1,some 2]) rfl rfl (by walk_at"k")) (ZU (Zb 0)) (λC B s H=>(Zm 0 (show List.Nodup (["_law_row","_law_thing","_law_other"]:List Str) by walk_at"k"))) (λC B s H=>(Qo (ZC (FV I) (Zh (Zb 0) Zc) (Zw (Za (Zb 1) (Za (Zb 2) Ze)))))) (λC B s H=>(Zr JF (Zr JF (Q8 (Zb 0) Jo (Jn Zc)) (Zw (Za (Zb 1) Ze))) (Q8 (Zb 0) (Jn Zc) Jo))) rfl))),λxs M Φ h=>?_⟩;obtain⟨L,O,U,rfl,h⟩:=(QA h);obtain⟨ds,rfl,h⟩:=(WC h);obtain⟨th,rfl,h⟩:=(Qu h);obtain⟨o,rfl,D,rfl,Y,h⟩:=(Qu h);walk_at"rk";have len:=aa (as:=D) rwD;refine⟨by lia,λi g M'=>g=((rwS (We th o) (D.take i)).map (rnR th)).map rwD/\M' =M,⟨rfl,rfl⟩,?_,?_⟩
 ·rintro i d g M' hd ⟨rfl,rfl⟩;obtain⟨r,J,rfl⟩:=Zp hd;rw[show rwD r=.tuple [.int r.t,.str r.n,.str (if r.c then coS else goS),.str r.l]from rfl];walk_at"rk";refine⟨[th,o],rfl,?_⟩;have f:=Ql (λr:Rw=>We th o r.n) (f:=rwD∘rnR th) J (b:=[th,o].any (isS (.str r.n))) (by simp only[List.any_cons,List.any_nil,Bool.or_false,jB,We]);rw[aC,aC];cases c:[th,o].any (isS (.str r.n))with
  |false=>
   rw[c,ao ae]at f;rw[ao ae];exact f
  |true=>
   rw[c,aw rfl]at f;rw[aw rfl];simp only[MP];refine⟨by decide,?_⟩;rw[show DL.cutD [PyData.int r.t,.str r.n,.str (if r.c=true then coS else goS),.str r.l] none (some 1)=[.int r.t]from rfl,show DL.cutD [PyData.int r.t,.str r.n,.str (if r.c=true then coS else goS),.str r.l] (some 2) none=[.str (if r.c=true then coS else goS),.str r.l]from rfl];walk_at"rk";refine⟨by decide,?_⟩;walk_at"rk";exact f
 ·rintro g M' ⟨rfl,rfl⟩;rw[len,av];exact h
theorem TlG.up{t:Tl}(o:Str)(h:TlG NM t):TlG (o::NM) t:=⟨aq _ h.1,h.2.1,h.2.2.1,λa b c d e z=>let q:=h.2.2.2 a b c d e z;⟨aq _ q.1,q.2⟩⟩
theorem TlG.an{t:Tl}(g:QF o)(h:TlG NM t):TlG (o::NM) (anF th T o t):=by
 unfold anF
 split
 ·cases t with
  |land=>exact h.up o
  |spot=>exact Hi _ _ aj g
  |off=>exact GC h.2.1.1 aj g
 ·exact h.up o
noncomputable abbrev eL:List Nat:=(Str.ofString "abcdefghijklm").cps.toList
noncomputable def oS(c:Nat):Str:=Str.ofString "o"++⟨#[c]⟩
theorem rS:(eL.map oS).Nodup/\(eL.map oS).length=13/\∀s∈eL.map oS,(PyData.str s).canLay0=true:=by walk_at"k"
def mQ(T:Tx w K mg base):DSp:=λxs M Φ=>on3 xs λx y z=>QK x λg=>onS y λth=>onI z λtm=>((∃NM:List Str,NM.length<=12/\g.length<=100/\(∀t∈g,TlG NM t)/\th∈NM/\QF th)/\Vf M T.Zg YV)/\∀M',Kq T M M'->Φ (.dat (.bool true)) M'
theorem Gn(T:Tx w K mg base):Qx P w K mg base CX0 20 T.XB T.XI ["_law_tellings_here","_law_thing","_law_time"] (lift K (mQ T)):=by
 refine okD T.XE.F ZQ (λxs M Φ h=>by obtain⟨_,_,_,rfl,_⟩:=QA h;rfl) λc5 A a8 s H E G=>⟨_,(Zd (Zl 3 ZQ.nd (Zr Sn (Zb 0) (QU (Za (Zw (Za Zu (Za (Zb 2) (Za (Zb 1) Ze)))) Ze))))
 (Zd (Zl 4 ZQ.nd (ZI false (Zn (sc:=Zf ZT) (XN:=["_law_tellings_here","_law_thing","_law_time","_law_freed","_law_taken","_law_some","_law_other","_law_parted","_law_rows","_law_due","_law_own","_law_both"]) (N:=["_law_one"]) (ix:=[none]) rfl rfl (by walk_at"k")) (ZU (Zb 3)) (λC D s H=>(Zm 0 (show List.Nodup (["_law_one"]:List Str) by walk_at"k"))) (λC D s H=>Z8) (λC D s H=>(Zh (Zb 0) Zc)) rfl))
 (Zd (Yr 5 false ZQ.nd (Zn (sc:=Zf ZT) (XN:=["_law_tellings_here","_law_thing","_law_time","_law_freed","_law_taken","_law_some","_law_other","_law_parted","_law_rows","_law_due","_law_own","_law_both"]) (N:=["_law_letter"]) (ix:=[none]) rfl rfl (by walk_at"k")) (wH Zu) (λC D s H=>(Zm 0 (show List.Nodup (["_law_letter"]:List Str) by walk_at"k"))) (λC D s H=>Z8) (λC D s H=>(Zr qx Zu (Zb 0))) rfl)
 (Zd (Zl 6 ZQ.nd (Zh (ZI false (Zn (sc:=Zf ZT) (XN:=["_law_tellings_here","_law_thing","_law_time","_law_freed","_law_taken","_law_some","_law_other","_law_parted","_law_rows","_law_due","_law_own","_law_both"]) (N:=["_law_name","_law_taken"]) (ix:=[none,some 4]) rfl rfl (by walk_at"k")) (ZU (Zb 5)) (λC D s H=>(Zm 0 (show List.Nodup (["_law_name","_law_taken"]:List Str) by walk_at"k"))) (λC D s H=>(Qo (ZC (Kc G) (Zb 0) (Zb 1)))) (λC D s H=>(Zb 0)) rfl) Zc))
 (Zd (Zl 7 ZQ.nd (cO T.ol (tj T) G (Za (Zb 3) (Za (Zb 1) (Za (Zb 2) (Za (Zb 6) Ze))))))
 (Zd (Zl 8 ZQ.nd (Q9 (cO T.JX (JS T) G (Za (Zb 7) Ze))))
 (Zd (Yr 9 false ZQ.nd (Zn (sc:=Zf ZT) (XN:=["_law_tellings_here","_law_thing","_law_time","_law_freed","_law_taken","_law_some","_law_other","_law_parted","_law_rows","_law_due","_law_own","_law_both"]) (N:=["_law_row","_law_thing"]) (ix:=[none,some 1]) rfl rfl (by walk_at"k")) (ZU (Q9 (cO T.JX (JS T) G (Za (Zb 3) Ze)))) (λC D s H=>(Zm 0 (show List.Nodup (["_law_row","_law_thing"]:List Str) by walk_at"k"))) (λC D s H=>(Qo (ZC (JK G) (Zh (Zb 0) Zc) (Zb 1)))) (λC D s H=>(Zb 0)) rfl)
 (Zd (QJ (ZC (Sb G) (cO T.Hd (OI T) G (Za (Zb 8) (Za (Zb 1) (Za (Zb 6) Ze)))) (Zb 9)) (Zi (Zq Gi)) ZO)
 (Zd (QJ (ZC (Sb G) (ZI false (Zn (sc:=Zf ZT) (XN:=["_law_tellings_here","_law_thing","_law_time","_law_freed","_law_taken","_law_some","_law_other","_law_parted","_law_rows","_law_due","_law_own","_law_both"]) (N:=["_law_row","_law_thing","_law_time"]) (ix:=[none,some 1,some 2]) rfl rfl (by walk_at"k")) (ZU (Zb 8)) (λC D s H=>(Zm 0 (show List.Nodup (["_law_row","_law_thing","_law_time"]:List Str) by walk_at"k"))) (λC D s H=>(Qo (DW.dt (E4 (ZC (JK G) (Zh (Zb 0) Zc) (Zb 1)) (Ut (ZC DR (Zh (Zb 0) Zc) (Zb 2))))))) (λC D s H=>(Zb 0)) rfl) (QU Ze)) (Zi (Zq Gi)) ZO)
 (Zd (QJ (ZC (jl G) (Zb 1) (ZI false (Zn (sc:=Zf ZT) (XN:=["_law_tellings_here","_law_thing","_law_time","_law_freed","_law_taken","_law_some","_law_other","_law_parted","_law_rows","_law_due","_law_own","_law_both"]) (N:=["_law_row"]) (ix:=[none]) rfl rfl (by walk_at"k")) (Yc (Zh (cO T.YM (Xe T) G (Za (Zb 7) (Za (Zb 2) Ze))) Zc)) (λC D s H=>(Zm 0 (show List.Nodup (["_law_row"]:List Str) by walk_at"k"))) (λC D s H=>Z8) (λC D s H=>(Zh (Zb 0) Zc)) rfl)) (Zi (Zq Gi)) ZO)
 (Zd (Yr 10 false ZQ.nd (Zn (sc:=Zf ZT) (XN:=["_law_tellings_here","_law_thing","_law_time","_law_freed","_law_taken","_law_some","_law_other","_law_parted","_law_rows","_law_due","_law_own","_law_both"]) (N:=["_law_row","_law_thing"]) (ix:=[none,some 1]) rfl rfl (by walk_at"k")) (ZU (Q9 (cO T.De (Hj T) G (Za (Zb 3) Ze)))) (λC D s H=>(Zm 0 (show List.Nodup (["_law_row","_law_thing"]:List Str) by walk_at"k"))) (λC D s H=>(Qo (ZC (JK G) (Zh (Zb 0) Zc) (Zb 1)))) (λC D s H=>(Q8 (Zb 0) (Jn Zc) Jo)) rfl)
 (Zd (Yr 11 false ZQ.nd (Zn (sc:=Zf ZT) (XN:=["_law_tellings_here","_law_thing","_law_time","_law_freed","_law_taken","_law_some","_law_other","_law_parted","_law_rows","_law_due","_law_own","_law_both"]) (N:=["_law_row","_law_thing","_law_other"]) (ix:=[none,some 1,some 6]) rfl rfl (by walk_at"k")) (ZU (Q9 (cO T.De (Hj T) G (Za (Zb 7) Ze)))) (λC D s H=>(Zm 0 (show List.Nodup (["_law_row","_law_thing","_law_other"]:List Str) by walk_at"k"))) (λC D s H=>(Qo (ZC (FV G) (Zh (Zb 0) Zc) (Zw (Za (Zb 1) (Za (Zb 2) Ze)))))) (λC D s H=>(Q8 (Zb 0) (Jn Zc) Jo)) rfl)
 (Zi (Zq (V4 (JK G) (Zb 11) (Zb 10)))))))))))))))),λxs M Φ h=>?_⟩
 obtain⟨x1,x2,x3,rfl,h⟩:=(QA h);obtain⟨ts,rfl,h⟩:=h;obtain⟨th,rfl,h⟩:=(Qu h);obtain⟨tm,rfl,⟨⟨NM,n1,n2,n3,n4,n5⟩,hT⟩,h⟩:=(ZJ h);walk_at"h";have len:=aa (as:=ts) tlD;refine⟨by lia,?_⟩;rw[show ts.map tlD++[PyData.tuple [.str (Str.ofString "free"),.int tm,.str th]]=(ts++[Tl.off (Str.ofString "free") tm th]).map tlD by rw[al];rfl];have hf:Tl.off (Str.ofString "free") tm th∈ts++[Tl.off (Str.ofString "free") tm th]:=ay _ (au.mpr rfl);have gf:∀ t∈ts++[Tl.off (Str.ofString "free") tm th],TlG NM t:=λt ht=>by
  rcases ax.mp ht with ht|ht
  ·exact n3 t ht
  ·rw[au.mp ht];exact GC (.inr rfl) n4 n5
 have lf:(ts++[Tl.off (Str.ofString "free") tm th]).length<=101:=by rw[aB];exact bX n2 1
 generalize ts++[Tl.off (Str.ofString "free") tm th]=B at*;have a3:=aa (as:=B) tlD;walk_at"h";refine⟨by lia,λi g M'=>g=((B.take i).map nmT).map PyData.str/\M' =M,⟨rfl,rfl⟩,?_,?_⟩
 ·rintro i d g M' hd ⟨rfl,rfl⟩;obtain⟨x,D,rfl⟩:=Zp hd;rw[Z6];walk_at"rk";rw[aC,aC];exact take_snoc (PyData.str∘nmT) D
 rintro g M' ⟨rfl,rfl⟩;rw[a3,av];walk_at"h";refine⟨by walk_at"k",λi g M2=>g=((eL.take i).map oS).map PyData.str/\M2=M',⟨rfl,rfl⟩,?_,?_⟩
 ·rintro i d g M2 hd ⟨rfl,rfl⟩;obtain⟨x,D,rfl⟩:=Zp hd;rw[show iV x=.str ⟨#[x]⟩from rfl];walk_at"rk";refine⟨by rw[show(⟨#[x]⟩:Str).length=1 from rfl,show(Str.ofString "o").length=1 by decide+kernel];decide,?_⟩;rw[aC,aC];exact take_snoc (PyData.str∘oS) D
 rintro g M2 ⟨rfl,rfl⟩;rw[aa,av];walk_at"h";obtain⟨a9,d0,a4⟩:=rS;have b0:∀ s∈B.map nmT,QF s:=λs hs=>by
  obtain⟨x,O,rfl⟩:=af.mp hs;exact(gf x O).2.2.1
 obtain⟨o,rest,eo⟩:∃ o rest,QC (eL.map oS) (B.map nmT)=o::rest:=by
  cases e:QC (eL.map oS) (B.map nmT)with
  |cons o r=>exact⟨o,r,rfl⟩
  | nil=>
   have:=Cc a9 (m:=NM) λx O=>by
    have:¬ (!(B.map nmT).contains x)=true:=cL.mp e x O;rw[fc,Bool.not_eq_false',ck]at this;obtain⟨y,hy,rfl⟩:=af.mp this;exact(gf y hy).1
   lia
 have mo:o∈QC (eL.map oS) (B.map nmT):=by rw[eo];exact aj
 have ho:∀ x∈B,nmT x≠o:=λx O e=>by
  have:=(ah.mp mo).2;rw[fT,<-fc,ck]at this;exact this (af.mpr ⟨x,O,e⟩)
 have yo:QF o:=a4 o (XU mo);generalize eL.map oS=a5 at*;refine⟨by rw[aa];lia,λi g M'=>g=(QC (a5.take i) (B.map nmT)).map PyData.str/\M' =M2,⟨rfl,rfl⟩,?_,?_⟩
 ·rintro i d g M' hd ⟨rfl,rfl⟩;obtain⟨I,es,rfl⟩:=Zp hd;exact EA es (a4 I (az es)) b0
 rintro g M' ⟨rfl,rfl⟩;rw[aa,av,eo];refine J7 (d:=.str o) (J5 (j:=0) rfl) ?_;have gp:∀ t∈B.map (anF th tm o),TlG (o::NM) t:=λt ht=>by
  obtain⟨x,O,rfl⟩:=af.mp ht;exact(gf x O).an yo
 have U:Wz B:=⟨NM,by lia,by lia,gf⟩
 have Y:Wz (B.map (anF th tm o)):=⟨o::NM,by rw[a_];lia,by rw[aa];lia,gp⟩
 have kf:∀ t∈B,TlK t:=λt ht=>(gf t ht).2.1.1;walk_at"h";simp only[oG];walk_at"rk";refine⟨B,rfl,⟨by lia,kf⟩,?_⟩;walk_at"h";simp only[ij];walk_at"rk";refine⟨_,rfl,⟨Y,hT⟩,λJ q1 M3 a6 b1 k1 l1 e1=>?_⟩;rw[e1,Zv];have K1:Kq T M' (Q4 M3 q1):=k1.but b1 (QH e1) λa na=>ZG na;walk_at"h";simp only[ij];walk_at"rk";refine⟨B,rfl,⟨U,K1.1⟩,λks q2 M4 hk b2 k2 l2 e2=>?_⟩;rw[e2,Zv];have K2:Kq T M' (Q4 M4 q2):=K1.trans (k2.but b2 (QH e2) λa na=>ZG na);obtain⟨r1,r2,g1,g2,g3,g4,g5,_⟩:=HV U Y hf ho hk a6;have lr:=aa (as:=(ZS B ks).2) rwD;refine⟨by lia,λi g L=>g=(rwS (eqS th) ((ZS B ks).2.take i)).map rwD/\L=Q4 M4 q2,⟨rfl,rfl⟩,?_,?_⟩
 ·rintro i d g L hd ⟨rfl,rfl⟩;obtain⟨r,er,rfl⟩:=Zp hd;rw[show rwD r=.tuple [.int r.t,.str r.n,.str (if r.c then coS else goS),.str r.l]from rfl];walk_at"rk";exact Ql (λr=>eqS th r.n) er rfl
 rintro g L ⟨rfl,rfl⟩;rw[lr,av,g1];have sm:∀ d∈(r1++r2).map rwD,Sm1 d:=λd hd=>by
  obtain⟨r,G,rfl⟩:=af.mp hd;rw[<-g1]at G;exact nO ((Y0 U ks).1 r (ah.mp G).1)
 walk_at"h";simp only[Fn];walk_at"rk";refine⟨_,rfl,l1,?_⟩;rw[g2,yj (λr G=>(g3 r G).1) g4];refine YX sm ?_;rw[eB,ao ae];walk_at"h";have b3:=aa (as:=(ZS (B.map (anF th tm o)) J).2) rwD;refine⟨by lia,λi g L=>g=(((ZS (B.map (anF th tm o)) J).2.take i).filter λr=>eqS th r.n&&decide (tm<r.t)).map rwD/\L=Q4 M4 q2,⟨rfl,rfl⟩,?_,?_⟩
 ·rintro i d g L hd ⟨rfl,rfl⟩;obtain⟨r,er,rfl⟩:=Zp hd;rw[show rwD r=.tuple [.int r.t,.str r.n,.str (if r.c then coS else goS),.str r.l]from rfl];walk_at"rk";exact uK (Ql (λr:Rw=>eqS th r.n&&decide (tm<r.t)) (f:=rwD) er rfl)
 rintro g L ⟨rfl,rfl⟩;rw[b3,av];have no:(ZS (B.map (anF th tm o)) J).2.filter (λr=>eqS th r.n&&decide (tm<r.t))=[]:=by
  refine cL.mpr λr G c=>?_;rw[b_]at c;have en:r.n=th:=aY c.1;have m:r∈rwS (We th o) (ZS (B.map (anF th tm o)) J).2:=ah.mpr ⟨G,by show We th o r.n=true;unfold We;rw[aI en];rfl⟩;rw[g2]at m;have lt:=aY c.2
  rcases ax.mp m with m|m
  ·have:=(g3 r m).2;lia
  ·obtain⟨y,_,rfl⟩:=af.mp m;exact ho _ hf (en.symm:th=o)
 rw[no];walk_at"rk";refine YX (l:=[]) (λ_ h=>(nomatch h)) ?_;rw[eB,ao ae];walk_at"h";simp only[jc];walk_at"rk";refine⟨_,rfl,⟨Y,K2.1⟩,λa0 M6 a7 k3=>?_⟩;have K3:=K2.trans k3;obtain⟨d1,b4⟩:=uX tm hk;have b5:Wz (Xd B tm):=U.of (λx O=>(ah.mp O).1) (aX ..);have a1:Wz (Xd (B.map (anF th tm o)) tm):=Y.of (λx O=>(ah.mp O).1) (aX ..);have fr:∀ k∈(ZS (Xd (B.map (anF th tm o)) tm) a0).1.ts,k.n≠th:=by
  rw[tM]at a7 a1⊢;obtain⟨_,_,_,_,_,_,_,z⟩:=HV b5 a1 (ah.mpr ⟨hf,aI (Int.le_refl _)⟩) (λx O=>ho x (ah.mp O).1) b4 a7;exact z
 obtain⟨d2,hv⟩:=(Y0 a1 a0).2;generalize(ZS (Xd (B.map (anF th tm o)) tm) a0).1=v at*;rw[Ky];walk_at"rk";have lt:=aa (as:=v.ts) thD;have lv:=hv.il;refine⟨by lia,λi g M'=>g=((v.ts.take i).map (·.n)).map PyData.str/\M' =M6,⟨rfl,rfl⟩,?_,?_⟩
 ·rintro i d g L hd ⟨rfl,rfl⟩;obtain⟨k,ek,rfl⟩:=Zp hd;rw[show thD k=.tuple [.str k.n,.tuple [.int k.u,.int k.v],.tuple (k.ss.map stD)]from rfl];walk_at"rk";rw[aC,aC];exact take_snoc (PyData.str∘Th.n) ek
 rintro g L ⟨rfl,rfl⟩;rw[lt,av];refine⟨iW n5 λs hs=>?_,?_⟩
 ·obtain⟨k,a2,rfl⟩:=af.mp hs;exact(hv.tok k a2).2.1
 rw[YN];have nc:(v.ts.map (·.n)).contains th=false:=by
  rw[<-fc,ck];intro z;obtain⟨k,a2,e⟩:=af.mp z;exact fr k a2 e
 rw[nc,ao ae];walk_at"h";simp only[NW];walk_at"rk";refine⟨B,rfl,⟨U,K3.1⟩,λd3 q5 M7 b6 b7 k5 l5 e5=>?_⟩;rw[e5,Zv];have K5:Kq T M' (Q4 M7 q5):=K3.trans (k5.but b7 (QH e5) λa na=>ZG na);cases Tms.uniq b6.1 hk.1;have ly:=Gb (ZS B ks).2 [];have b8:=aa (as:=stF (ZS B ks).2) syD;have d4:(stF (ZS B ks).2).length<=10000000:=by unfold stF;rw[eh]at ly;lia
 refine⟨by lia,λi g L=>g=(ysS (eqS th) ((stF (ZS B ks).2).take i)).map tlY/\L=Q4 M7 q5,⟨rfl,rfl⟩,?_,?_⟩
 ·rintro i d g L hd ⟨rfl,rfl⟩;obtain⟨I,es,rfl⟩:=Zp hd;rw[show syD I=.tuple [.str I.n,.str I.l,.int I.b,match I.e with|none=>.none|some t=>.int t]from rfl];walk_at"rk";have f:=Ql (λs:Sy=>eqS th s.n) (f:=tlY) es rfl
  by_cases z:I.n=th
  ·rw[show eqS th I.n=true from aI z,aw rfl]at f;rw[aI z,aw rfl];exact⟨by decide,f⟩
  ·rw[show eqS th I.n=false from aZ z,ao ae]at f;rw[aZ z,ao ae];exact f
 rintro g M8 ⟨rfl,rfl⟩;rw[b8,av];walk_at"h";simp only[NW];walk_at"rk";refine⟨_,rfl,⟨Y,K5.1⟩,λd5 q6 M9 b9 c0 k6 l6 e6=>?_⟩;rw[e6,Zv];have K6:Kq T M' (Q4 M9 q6):=K5.trans (k6.but c0 (QH e6) λa na=>ZG na);cases Tms.uniq b9.1 a6.1;have lz:=Gb (ZS (B.map (anF th tm o)) J).2 [];have c1:=aa (as:=stF (ZS (B.map (anF th tm o)) J).2) syD;have d6:(stF (ZS (B.map (anF th tm o)) J).2).length<=10000000:=by unfold stF;rw[eh]at lz;lia
 refine⟨by lia,λi g L=>g=(ysS (We th o) ((stF (ZS (B.map (anF th tm o)) J).2).take i)).map tlY/\L=Q4 M9 q6,⟨rfl,rfl⟩,?_,?_⟩
 ·rintro i d g L hd ⟨rfl,rfl⟩;obtain⟨I,es,rfl⟩:=Zp hd;rw[show syD I=.tuple [.str I.n,.str I.l,.int I.b,match I.e with|none=>.none|some t=>.int t]from rfl];walk_at"rk";refine⟨[th,o],rfl,?_⟩;walk_at"rk";have f:=Ql (λs:Sy=>We th o s.n) (f:=tlY) es (b:=[th,o].any (isS (.str I.n))) (by simp only[List.any_cons,List.any_nil,Bool.or_false,jB,We]);simp only[List.any_cons,List.any_nil,Bool.or_false]at f;cases c:(isS (.str I.n) th||isS (.str I.n) o)with
  |false=>
   rw[c,ao ae]at f;rw[ao ae];exact f
  |true=>
   rw[c,aw rfl]at f;rw[aw rfl];exact⟨by decide,f⟩
 rintro g d7 ⟨rfl,rfl⟩;rw[c1,av];subst_vars;walk_at"rk";have y1:=Du (S:=eqS th) (ZS B ks).2 [];have y2:=Du (S:=We th o) (ZS (B.map (anF th tm o)) J).2 [];rw[g1]at y1;rw[g2]at y2;obtain⟨a,b,z1,z2⟩:=Ny (λz=>ho _ hf (z.symm:th=o)) (λr G=>(g3 r G).1) g4 g5;have sy:∀ d∈(ysS (eqS th) (stF (ZS B ks).2)).map tlY,Sm1 d:=λd hd=>by
  obtain⟨I,c2,rfl⟩:=af.mp hd;exact ve (nV (ss:=[]) (Y0 U ks).1 (λ_ h=>(nomatch h)) I (ah.mp c2).1)
 have c3:ysS (eqS th) (stF (ZS B ks).2)=a++b:=y1.trans z1;have c4:ysS (We th o) (stF (ZS (B.map (anF th tm o)) J).2)=a++b.map (rnY o):=y2.trans z2;rw[c3]at sy⊢;rw[c4,show(a++b.map (rnY o)).map tlY=(a++b).map tlY by rw[al,al,aC];rfl];exact YX sy (h _ K6)
def sW(T:Tx w K mg base):DSp:=B0 [T.Zg]
theorem G7{k:Addr}{q:Str}(h:Vf M k q)(C:Pen M p)(f:Fr p M M'):Vf M' k q:=by
 obtain⟨l,e,g⟩:=h;have t:∀{a:Addr}{D:Heap->Prop},M a=some (.ext D)->a≠p:=λE z=>by
  obtain⟨o,⟨_,_,_,rfl⟩,B⟩:=C;rw[<-z,E]at B;cases B
 exact⟨l,f.own e (t e),λx r=>⟨(g x r).1,f.own (g x r).2 (t (g x r).2)⟩⟩
theorem sK{k:Addr}{w:Hw}{s:Str}(h:Vf M k s)(G:Pen M p)(I:Hs M p q c w n)(f:Fh p c M M'):Vf M' k s:=by
 obtain⟨l,e,t⟩:=h;have B:∀{a:Addr}{r:Heap->Prop},M a=some (.ext r)->M' a=some (.ext r):=λ{a r} g=>by
  rw[f.2 a (λz=>by
   obtain⟨o,⟨_,_,_,rfl⟩,C⟩:=G;rw[<-z,g]at C
   cases C) (λz=>by
   obtain⟨cs,D,_⟩:=I.h2;rw[<-z,g]at D
   cases D) (by rw[g];exact aN _),g]
 exact⟨l,B e,λx E=>⟨(t x E).1,B (t x E).2⟩⟩
theorem tJ(T:Tx w K mg base):Qx P w K mg base CX0 21 T.mx T.mi ["_law_script"] (lift K (sW T)):=by
 refine okD T.o_law.F WT (λxs M Φ z0=>by obtain⟨ns,e,_⟩:=z0;rw[e];rfl) λb0 A L s H E g=>⟨_,(Zd (X6 rfl T.VD (Za Zc Ze) (Zm 1 WT.nd) (Zd (Zl 2 WT.nd (cO T.jZ (tN T) g (Za (Zb 0) (Za (Zb 1) Ze))))
 (Zd (Zl 3 WT.nd (cO T.ME (xL T) g (Za (Zb 2) Ze)))
 (Zd (Zl 4 WT.nd (cO T.Fz (SJ T) g (Za (Zb 2) (Za (cO T.WJ (Ej T) g (Za (Zb 2) (Za (Zb 3) (Za (cO T.ZK (Zy T) g (Za (Zb 2) (Za Zc Ze))) (Za Zc Ze))))) Ze))))
 (Zd (Zl 5 WT.nd (Zr ZV ((Z7 g) (Zb 3) Zu) (Zr JR ((Z7 g) (Zb 3) Zu) (cO T.ZK (Zy T) g (Za (Zb 2) (Za Zc Ze))))))
 (Zd (QJ (lZ (Cr (cO T.YH (Wu T) g (Za (Zb 4) (Za ((Z7 g) (Zb 3) Zu) (Za (Zb 5) Ze)))))) (Zi (Zq Gi)) ZO)
 (Zi (QJ (lZ (Cr (cO T.XE (Gn T) g (Za (Zb 4) (Za (Zh ((Z7 g) (Zb 3) Zu) (cO T.ZK (Zy T) g (Za (Zb 2) (Za (ZD JD rfl T.Yq Jr (Za ((Z7 g) (Zb 3) Zu) Ze)) Ze)))) (Za (Zb 5) Ze)))))) (Zi (Zq Gi)) ZO))))))) bj rfl)
 (Zi (Zq Gi))),λxs M Φ ⟨ns,e,hn,hT,h⟩=>?_⟩
 subst e;have O:Vf M T.Zg YV:=⟨[],hT _ (by simp),λ_ h=>(nomatch h)⟩
 walk_at"rk";refine⟨⟨by decide,by decide⟩,λi Δ M2=>∃ U Y k3 k4 k5,Δ=[some (.dat (.list (ns.map PyData.int))),U,Y,k3,k4,k5]/\Vf M2 T.Zg YV,⟨_,_,_,_,_,rfl,O⟩,?_,?_⟩
 ·rintro i Δ M2 hi ⟨U,Y,k3,k4,k5,rfl,a0⟩;refine Qn λE hE=>?_;rw[BA];walk_at"h";refine⟨by lia,λp o hp po=>?_⟩;have P0:Pen (Zs M2 p o) p:=Pen.Zs po;have a1:Vf (Zs M2 p o) T.Zg YV:=a0.set (KJ hp);walk_at"h";refine⟨P0,λq c B M3 hq hc hs f3=>?_⟩;have a2:=G7 a1 P0 f3;walk_at"h";refine⟨f3.1,λr M4 a4 b4 C=>?_⟩;have a3:=G7 a2 f3.1 C;simp only[mV];walk_at"rk";refine⟨c,B,⟨C.1,hs.fr C,by lia,by lia⟩,λts M5 gt lt hs5 f5=>?_⟩;have a5:=sK a3 C.1 (hs.fr C) f5;simp only[FW];walk_at"rk";refine⟨ts,rfl,⟨f5.1,lt⟩,λus M6 pu J=>?_⟩;have a6:=G7 a5 f5.1 J;have D:=hs5.fr J;obtain⟨f,ox,oy,eq,hf⟩:=D.h1;obtain⟨⟨⟨g1,g2⟩,g3,g4⟩,g5,g6⟩:=hs.nm;have gu:∀ t∈us,TlG (E7 B) t:=λt ht=>gt t (pu.mem_iff.mp ht);have lu:us.length<=80:=by rw[pu.length_eq];exact lt
  have ln:(E7 B).length<=9:=by unfold E7;rw[aB];lia
  walk_at"h";rw[eq];walk_at"rk";refine⟨J.1,λr7 M7 a7 b7 f7=>⟨.inr (by lia),?_⟩⟩;have G:=G7 a6 J.1 f7;have e7:=f7.own eq D.qp;walk_at"h";rw[e7];walk_at"rk";simp only[Sq];walk_at"rk";refine⟨us,rfl,B.ts,rfl,⟨⟨E7 B,by lia,by lia,gu⟩,G⟩,λM8 k8=>?_⟩;have nq:∀{a:Addr}{x:OO},M7 a=some x->(∀φ,x≠.ext φ)->M8 a=some x:=λ{a x} e n=>by
   rw[k8.2 a (λz=>by
    obtain⟨l,el,_⟩:=G;rw[z,el]at e
    exact n _ (bq e).symm) (by rw[e];exact aN _),e]
  have e8:=nq e7 (λφ z=>by cases z);have p8:Pen M8 p:=by
   obtain⟨x,⟨a,b,d,rfl⟩,ex⟩:=f7.1;exact⟨_,⟨a,b,d,rfl⟩,nq ex (λφ z=>by cases z)⟩
  have b1:=aa (as:=B.ts) PyData.str;subst_vars;walk_at"rk";rw[e8];walk_at"rk";refine⟨⟨by lia,by lia⟩,p8,λr9 M9 a9 b9 f9=>eu a9 (by lia) λth I=>?_⟩;simp only[mQ];walk_at"rk";refine⟨us,rfl,⟨⟨E7 B,by lia,by lia,gu,ay _ I,VS (g6 th I)⟩,G7 k8.1 p8 f9⟩,λb2 a8=>?_⟩;obtain rfl:=hE trivial;exact⟨_,_,_,_,_,rfl,a8.1⟩
 ·rintro Δ M2 ⟨U,Y,k3,k4,k5,rfl,l,e,_⟩;walk_at"rk";exact h M2 λp hp=>by
   rw[au.mp hp];exact⟨l,e⟩
end
def Ow(K:Fk)(x:Str)(st:Stmt)(f:Addr)(fd:FuncData):Prop:=PySem.W.nsIn K mainGlobals x=some (some (.ref f))/\Fun K x x st f fd
theorem Z1{r g:Option Addr}{t:Array (Option Value)}{z kV h pm cd ct:Value}(a:PySem.W.nsIn K mainGlobals x=some (some (.ref f)))(l:K.lookup f=some ⟨z,r,.func (PySem.W.fnOf x x (Yk st) (Jp st) (Zf st) .none kV h pm g cd ct),t⟩)(c:PySem.W.codeIn K cd x=true)(k:PySem.W.keepIn K (.ref f)=true):Ow K x st f (PySem.W.fnOf x x (Yk st) (Jp st) (Zf st) .none kV h pm g cd ct):=⟨a,yg l c k⟩
theorem ZE{h:Heap}{ps:List Str}(X:K.In h)(G:h.Ns mainGlobals mg)(o:Ow K x st f fd)(b:∀(kV g pm:Value)(r:Option Addr)(l ct:Value)(us:List Value),us.length=ps.length->bindArgs (PySem.W.fnOf x x (Yk st) (Jp st) (Zf st) .none kV g pm r l ct) ⟨us,[]⟩=pure (ps.zip us)):Own K mg x st ps f fd:=⟨o.2,gW X G o.1,o.2.binds b⟩
theorem Me{r:Type}{P:List r->Prop}(h:∀ g,P [g])(l:List r)(e:l.length=1):P l:=by
 match l,e with
 |[g],_=>exact h g
theorem Ke{t:Type}{P:List t->Prop}(h:∀ g r,P [g,r])(l:List t)(e:l.length=2):P l:=by
 match l,e with
 |[g,r],_=>exact h g r
theorem Tj{z:Type}{P:List z->Prop}(h:∀ g r t,P [g,r,t])(l:List z)(e:l.length=3):P l:=by
 match l,e with
 |[g,r,t],_=>exact h g r t
theorem kh{B:Type}{P:List B->Prop}(h:∀ g r t z,P [g,r,t,z])(l:List B)(e:l.length=4):P l:=by
 match l,e with
 |[g,r,t,z],_=>exact h g r t z
theorem wT{C:Type}{P:List C->Prop}(h:∀ g r t z B,P [g,r,t,z,B])(l:List C)(e:l.length=5):P l:=by
 match l,e with
 |[g,r,t,z,B],_=>exact h g r t z B
theorem all_mk{l:PySem.W.OpenLaw}{w:World}{h:Heap}{fa:Addr}(X:K.In h)(G:h.Ns mainGlobals mg)(b1:mg "law"=some (.ref fa))
  {f0 f1 f2 f3 f4 f5 f6 f7 f8 f9 b2 b3 b4 b5 b6 b7 b8 b9 c0 c1 c2 c3 c4 c5 e0 e1 e2 e3 e4 e5 e6 e7 e8 g0 g1 g2 g3 g4 g5 g6 h0 h1 h2 h3 h4 h5 h6 h7 h8:Addr} {d0 d1 d2 d3 d4 d5 d6 d7 d8 d9 h9 i0 i1 i2 i3 i4 i5 i6 i7 i8 i9 j0 j1 j2 j3 j4 b0 j5 j6 j7 j8 j9 k0 k1 k2 k3 k4 k5 k6 k7 k8 k9 l0 l1 l2 l3 l4 l5 l6:FuncData} {g:Addr} {C D E I J L O U:Tok} {Y:Nat} {r t z:Addr} {a0 a1 a2:Nat} {ck_rows_between cp_rows_between:Addr}
  (o0:Ow K "has_spots" YA f0 d0)
  (o1:Ow K "steps_to" Xl f1 d1)
  (o2:Ow K "steps_between" Jt f2 d2)
  (o3:Ow K "gap" ju f3 d3)
  (o4:Ow K "square" UO f4 d4)
  (o5:Ow K "common" UR f5 d5)
  (o6:Ow K "cut_out" Y2 f6 d6)
  (o7:Ow K "left_over" Yx f7 d7)
  (o8:Ow K "side" OP f8 d8)
  (o9:Ow K "steps_away" JC f9 d9)
  (l7:Ow K "level" UD b2 h9)
  (l8:Ow K "looked" U2 b3 i0)
  (l9:Ow K "outer_first" Qv b4 i1)
  (m0:Ow K "keeps" C3 b5 i2)
  (m1:Ow K "in_order" VW b6 i3)
  (m2:Ow K "place_of" Xt b7 i4)
  (m3:Ow K "history" Wc b8 i5)
  (m4:Ow K "view_at" Y3 b9 i6)
  (m5:Ow K "gone_through" JJ c0 i7)
  (m6:Ow K "gone_on" JU c1 i8)
  (m7:Ow K "by_lands" Xf c2 i9)
  (m8:Ow K "by_freeings" QN c3 j0)
  (m9:Ow K "by_spots" VT c4 j1)
  (n0:Ow K "lands_behind" Q3 c5 j2)
  (n1:Ow K "in_no_land" Vq e0 j3)
  (n2:Ow K "looked_at" J8 e1 j4)
  (n3:Ow K "rows_between" Qa e2 b0)
  (n4:Ow K "lands_of" VX e3 j5)
  (n5:Ow K "stays" Dl e4 j6)
  (n6:Ow K "stays_behind" Q6 e5 j7)
  (n7:Ow K "begun" U5 e6 j8)
  (n8:Ow K "_law_pen" jk e7 j9)
  (n9:Ow K "_law_draw" MR e8 k0)
  (p0:Ow K "_law_names" Yo g0 k1)
  (p1:Ow K "_law_frame" DC g1 k2)
  (p2:Ow K "_law_boxes" CM g2 k3)
  (p3:Ow K "_law_laid" Pz g3 k4)
  (p4:Ow K "_law_spot" RX g4 k5)
  (p5:Ow K "_law_land" FD g5 k6)
  (p6:Ow K "_law_house" Dy g6 k7)
  (p7:Ow K "_law_telling" KN h0 k8)
  (p8:Ow K "_law_tellings" Xj h1 k9)
  (p9:Ow K "_law_turned" GD h2 l0)
  (q0:Ow K "_law_of" jf h3 l1)
  (q1:Ow K "_law_apart_right" QR h4 l2)
  (q2:Ow K "_law_anew" OB h5 l3)
  (q3:Ow K "_law_called" Kf h6 l4)
  (q4:Ow K "_law_anew_right" ZT h7 l5)
  (a9:Ow K "law" jF h8 l6)
  (z0:PySem.W.nsIn K mainGlobals "abs"=some none)
  (z1:PySem.W.nsIn K mainGlobals "dict"=some none)
  (z2:PySem.W.nsIn K mainGlobals "len"=some none)
  (z3:PySem.W.nsIn K mainGlobals "list"=some none)
  (z4:PySem.W.nsIn K mainGlobals "max"=some none)
  (z5:PySem.W.nsIn K mainGlobals "min"=some none)
  (z6:PySem.W.nsIn K mainGlobals "range"=some none)
  (z7:PySem.W.nsIn K mainGlobals "sorted"=some none)
  (z8:PySem.W.nsIn K mainGlobals "tuple"=some none)
  (a3:PySem.W.nsIn K mainGlobals "RANKS"=some (some (.ref g)))
  (a4:K.lookup g=some {cls:=.type "dict",data:=.dict #[⟨hashStr w (Str.ofString "land"),.str (Str.ofString "land") C,.int 0 D⟩,⟨hashStr w (Str.ofString "drop"),.str (Str.ofString "drop") E,.int 0 I⟩,⟨hashStr w (Str.ofString "free"),.str (Str.ofString "free") J,.int 1 L⟩,⟨hashStr w (Str.ofString "spot"),.str (Str.ofString "spot") O,.int 2 U⟩] Y})
  (a5:PySem.W.nsIn K mainGlobals "EMPTY"=some (some (.ref r)))
  (a6:K.lookup r=some {cls:=.type "tuple",data:=.seq #[.ref t,.ref z] a0})
  (a7:K.lookup t=some {cls:=.type "tuple",data:=.seq #[] a1})
  (a8:K.lookup z=some {cls:=.type "tuple",data:=.seq #[] a2})
  (Qs:b0.code=.ref ck_rows_between) (Qr:PySem.W.codeHdIn K ck_rows_between cp_rows_between=true)
  (kd:([cp_rows_between]:List Addr).Nodup):
  ∃fd:FuncData,(∀(s:Shared)(v:Value),BindsTo s fd ⟨[v],[]⟩ [("_law_script",v)])/\∀base:Heap,K.In base->base.Ns mainGlobals mg->BmB base mg->Qx l.prog w K mg base CX0 21 fa fd ["_law_script"] (lift K (B0 [cp_rows_between])):=by
 have e:=b1.symm.trans (gW X G a9.1);cases e;obtain⟨_,_,_,_,_,_,_,_,_,rfl,_,_⟩:=a9.2.ex;exact⟨_,λs v=>.of_eq rfl,λbase _ _ B=>tJ (⟨B,_,_,ZE X G o0 λ_ _ _ _ _ _=>Me λ_=>rfl,_,_,ZE X G o1 λ_ _ _ _ _ _=>Ke λ_ _=>rfl,_,_,ZE X G o2 λ_ _ _ _ _ _=>Ke λ_ _=>rfl,_,_,ZE X G o3 λ_ _ _ _ _ _=>Tj λ_ _ _=>rfl,_,_,ZE X G o4 λ_ _ _ _ _ _=>Ke λ_ _=>rfl,_,_,ZE X G o5 λ_ _ _ _ _ _=>Ke λ_ _=>rfl,_,_,ZE X G o6 λ_ _ _ _ _ _=>Ke λ_ _=>rfl,_,_,ZE X G o7 λ_ _ _ _ _ _=>Ke λ_ _=>rfl,_,_,ZE X G o8 λ_ _ _ _ _ _=>Tj λ_ _ _=>rfl,_,_,ZE X G o9 λ_ _ _ _ _ _=>Ke λ_ _=>rfl,_,_,ZE X G l7 λ_ _ _ _ _ _=>Ke λ_ _=>rfl,_,_,ZE X G l8 λ_ _ _ _ _ _=>Tj λ_ _ _=>rfl,_,_,ZE X G l9 λ_ _ _ _ _ _=>Me λ_=>rfl,_,_,ZE X G m0 λ_ _ _ _ _ _=>Tj λ_ _ _=>rfl,_,_,ZE X G m1 λ_ _ _ _ _ _=>Me λ_=>rfl,_,_,ZE X G m2 λ_ _ _ _ _ _=>Me λ_=>rfl,_,_,ZE X G m3 λ_ _ _ _ _ _=>Me λ_=>rfl,_,_,ZE X G m4 λ_ _ _ _ _ _=>Ke λ_ _=>rfl,_,_,ZE X G m5 λ_ _ _ _ _ _=>Ke λ_ _=>rfl,_,_,ZE X G m6 λ_ _ _ _ _ _=>Ke λ_ _=>rfl,_,_,ZE X G m7 λ_ _ _ _ _ _=>Ke λ_ _=>rfl,_,_,ZE X G m8 λ_ _ _ _ _ _=>Ke λ_ _=>rfl,_,_,ZE X G m9 λ_ _ _ _ _ _=>Ke λ_ _=>rfl,_,_,ZE X G n0 λ_ _ _ _ _ _=>Ke λ_ _=>rfl,_,_,ZE X G n1 λ_ _ _ _ _ _=>Ke λ_ _=>rfl,_,_,ZE X G n2 λ_ _ _ _ _ _=>Tj λ_ _ _=>rfl,_,_,ZE X G n3 λ_ _ _ _ _ _=>wT λ_ _ _ _ _=>rfl,_,_,ZE X G n4 λ_ _ _ _ _ _=>Me λ_=>rfl,_,_,ZE X G n5 λ_ _ _ _ _ _=>Me λ_=>rfl,_,_,ZE X G n6 λ_ _ _ _ _ _=>Ke λ_ _=>rfl,_,_,ZE X G n7 λ_ _ _ _ _ _=>Me λ_=>rfl,_,_,ZE X G n8 λ_ _ _ _ _ _=>Ke λ_ _=>rfl,_,_,ZE X G n9 λ_ _ _ _ _ _=>Ke λ_ _=>rfl,_,_,ZE X G p0 λ_ _ _ _ _ _=>Ke λ_ _=>rfl,_,_,ZE X G p1 λ_ _ _ _ _ _=>Me λ_=>rfl,_,_,ZE X G p2 λ_ _ _ _ _ _=>Me λ_=>rfl,_,_,ZE X G p3 λ_ _ _ _ _ _=>Tj λ_ _ _=>rfl,_,_,ZE X G p4 λ_ _ _ _ _ _=>Ke λ_ _=>rfl,_,_,ZE X G p5 λ_ _ _ _ _ _=>Ke λ_ _=>rfl,_,_,ZE X G p6 λ_ _ _ _ _ _=>Me λ_=>rfl,_,_,ZE X G p7 λ_ _ _ _ _ _=>Tj λ_ _ _=>rfl,_,_,ZE X G p8 λ_ _ _ _ _ _=>kh λ_ _ _ _=>rfl,_,_,ZE X G p9 λ_ _ _ _ _ _=>Ke λ_ _=>rfl,_,_,ZE X G q0 λ_ _ _ _ _ _=>Ke λ_ _=>rfl,_,_,ZE X G q1 λ_ _ _ _ _ _=>Tj λ_ _ _=>rfl,_,_,ZE X G q2 λ_ _ _ _ _ _=>kh λ_ _ _ _=>rfl,_,_,ZE X G q3 λ_ _ _ _ _ _=>Tj λ_ _ _=>rfl,_,_,ZE X G q4 λ_ _ _ _ _ _=>Tj λ_ _ _=>rfl,_,_,ZE X G a9 λ_ _ _ _ _ _=>Me λ_=>rfl,_,_,Qs,Qr,kd,bZ X G z0,bZ X G z1,bZ X G z2,bZ X G z3,bZ X G z4,bZ X G z5,bZ X G z6,bZ X G z7,bZ X G z8,_,gW X G a3,⟨_,_,a4,⟨_,_,rfl⟩,⟨_,_,rfl⟩,⟨_,_,rfl⟩,⟨_,_,rfl⟩,trivial⟩,_,gW X G a5,MM.two a6 rfl rfl rfl (MM.nil a7 rfl rfl rfl) (MM.nil a8 rfl rfl rfl)⟩:Tx w K mg base)⟩
theorem walk{l:PySem.W.OpenLaw}{q:Program}{g:List Str}{C:(Str->Option Value)->Heap->Prop}{t:World->Heap->Prop}{d:DefRec}{K:Params->Fk}(D:l.most=some 63)(r:d.params.defaults=[])
  {ts:List Addr} (E:∀(w:World)(h:Heap),t w h->(K w.params).In h/\∀p∈ts,h.get? p=some (PySem.W.tabObj #[])/\(∃c,PySem.W.codeHdIn (K w.params) c p=true)/\(K w.params).lookup p=none)
  (F:∀(w:World)(mg:Str->Option Value)(B:Addr)(h:Heap),(K w.params).In h->h.Ns mainGlobals mg->mg d.name=some (.ref B)->
   ∃fd:FuncData,(∀(s:Shared)(u:Value),BindsTo s fd ⟨[u],[]⟩ [("_law_script",u)])/\∀base:Heap,(K w.params).In base->base.Ns mainGlobals mg->BmB base mg->Qx l.prog w (K w.params) mg base CX0 21 B fd ["_law_script"] (lift (K w.params) (B0 ts))):
  PySem.W.WalkO q g C t l.row.toRowW d [] (λf vs=>PySem.call f vs):=
 Tu (n:=63) (k:=21) (x:="_law_script") (CX:=λ_=>CX0) (sp:=λw=>lift (K w.params) (B0 ts)) D (by decide) r ⟨rfl,by decide,by decide,rfl⟩ E F
  (λw H a L G I J=>H9 G I J) λ_ _ _ _ _ z=>z
end My
set_option genInjectivity false in
structure PySem.W.Fast:Prop where
 (tw4175419006976470401 tw17908539415943618790 tw14842641907806012528 tw8303748770630145064 tw18266840201786425329 tw15098667857353692058 tw3660563553208023009 tw5285812746288060038 tw8585683491008043373 tw12979529355552311043 tw9572978860096482550 tw9889726038331742962 tw2301991074959335142 tw8364134948069948163 tw1542973834827259337 tw9779276990924186762 tw6302981913306354382 tw5601670281684233073 tw13125897841793654529 tw3343598061433164539 tw13699682248061758884 tw9958835227174336831 tw15359836078689339194 tw10213952880996768167 tw12564977702029238322 tw9718083572648849395 tw9114270281793452733 tw6699478469376980307 tw15207700593607778151 tw12517768757127431655 tw17244217938367212357 tw13838106962143417855 tw12804558029413576933 tw5138048839245834670 tw13182476507543599958 tw911985676048336489 tw881324953711524292 tw3681048019133663209 tw12035464682616085917 tw4461794647533745033 tw16946533408152919215 tw8923434018875494944 tw16748323126938725513 tw11458847867773308685 tw9488251544579153386 tw10049592639340364495 tw16078489537810594156 tw14700662599881910276 tw13764966642675350097 tw8581221897562779855 tw1996520440183473981 tw6391409635250427880 tw8208802144539217011 tw15338102494793697677 tw8798276707453105548 tw3234851637335383702 tw11809264303529162985 tw4469115555640552835 tw5890298008600328968 tw387599686191494223 tw15498076986018958230 tw170157942524812350 tw13001381473392377401 tw263232967392225260 tw8650725951549775567 tw15019458175330907394 tw12940595567963684198 tw16384661406849777656 tw2764276135142779245 tw3716657583963459340 tw16100681877386027888 tw1044508622061277474 tw13536490761528577283 tw6477122735215099286 tw2676128061607347463 tw11170203014979006030 tw3689534925620368812 tw16614531376460212785 tw12121302038496625886 tw7548824273938035662 tw4224327825210072329 tw10832016214505614438 tw7311492715671887730 tw16680168449055773551 tw8526655828141013041 tw2111165876170177358 tw10820447484798906806 tw4264983962355555995 tw1921438661585684162 tw12209531380325884004 tw11343399618233277171 tw521902771487434586 tw15650187985354264529 tw15863699903005421614 tw4874633981506650832 tw5889062834775872009 tw6461688665390822109 tw8813383645541987634 tw214634113703557981 tw6666821401619406189 tw8508216976368961450 tw3418401796375763902 tw15420885037439484525 tw3571978738210962508 tw7458025892154236142 tw6283521415909189350 tw2530435324555989464 tw13527678717565156 tw2638994325479268345 tw2487989645072003562 tw14627118238990481305 tw13221898323964560871 tw835136190956866604 tw9835544285484068176 tw3524863374760180707 tw18031637154114484128 tw11968428501387580495 tw830394502593344265 tw5072235394925090211 tw7391637163779229655 tw2466808824733134312 tw17622775239381190909 tw3301908107055149402 tw9673998729952101588 tw1269896553606032206 tw13291643192994695239 tw4157195388941243355 tw107471077021714419 tw17859977644888901463 tw13076310707389106018 tw932179971127604416 tw6087460596971933220 tw212261620425298431 tw14739355925322326921 tw7335352290862423784 tw2225481231455842801 tw12264185172691246327 tw5019494095647208029 tw16229541427953616619 tw12765293619251178381 tw14848700719435356264 tw17893658058382542563 tw6230577337541581385 tw9798240803925746046 tw16168382041623517556 tw17944263928904931796 tw1461159679978862021 tw7614646529041137135 tw1960854306657316872 tw11053525476349586674 tw12303638101732697332 tw14896487628158466200 tw3651154139154153408 tw15118235602918005705 tw1266442119238123669 tw10723866945721692874 tw691588680601959113 tw2538854650430415850 tw3150678217801273840 tw15975952381284076197 tw9141519652214435740 tw8768015807337279940 tw3146636780172935833 tw8425607832564271285 tw8198742926443464406 tw5849216476391730012 tw16028512198957969974 tw16066173263568749342 tw11189586982001179460 tw1642995210953988228 tw4831221216245527182 tw108398520563607535 tw9049056140103435031 tw3110655930233814372 tw7837719765183653730 tw14415323377868056196 tw539945915539135890 tw8342116101224359277 tw10320830831663825331 tw3851175928346998534 tw13821385737829637325 tw7849312067150829608 tw1550459805319180631 tw10789939349054075850 tw7331738688001077108 tw10475558588303911706 tw18002150780669354589 tw17144672490293511221 tw17089528260825179612 tw11963067755613556958 tw5860920387149696066 tw12151281456025041910 tw7058921972512953503 tw1627528692298465899 tw1925371261519504456 tw10161556141443131064 tw6541822007528773226 tw16408408483108149466 tw8525860909029504964 tw5967150929697096832 tw1563403619968672477 tw8867246271461673463 tw2520336419089696222 tw3238037038895342678 tw14991579982697687433 tw13700471781140205295 tw15811051588869644864 tw12339519828269573217 tw10231193435046983862 tw2080057548117834360 tw12961971474996719164 tw17686895971828810302 tw4034976289430511066 tw11882721396040571069 tw252312023973255932 tw15733988231198560442 tw6908495939155008954 tw8200018542956623046 tw2354722305051513359 tw2161036840276283944 tw3570815792532211995 tw4219762272090323261 tw12180634869754097364 tw4438286000062789813 tw863103187785076279 tw7172399965326013794 tw3438766179124391444 tw2612775268864202898 tw7629590068710555503 tw7270234834198237510 tw1070808741288411152 tw5856957984686735751 tw1667291393353603270 tw13940515561057270172 tw8281417815295749300 tw5237188758768945400 tw1264467821311021836 tw7908090120465889242 tw9109891153060827606 tw946909311077566791 tw10435265750999477209 tw13401838048911613935 tw10114136641383861915 tw5311849289948724765 tw1510957357736920086 tw1206595849115213169 tw9549623225822700095 tw1478975545441329133 tw8809551949473087938 tw15722640883398816131 tw560056403120677327 tw15171808820882487317 tw16664580485613913721 tw8208436690430933410 tw8296662137192951118 tw3576446306072937383 tw11357438282314860123 tw9073603898453562597 tw3587882396390764873 tw13245416662729148664 tw12461606744701668732 tw575219263867686092 tw2419536712356286878 tw6466131620661019112 tw4202013646998166781 tw9082745045999974737 tw14903078002251308538 tw5335087318483592428 tw17241187575726148832 tw7399843944291612431 tw1429916563113361781 tw4783444185751647811 tw11183542472565419587 tw10873071946129253135 tw12514539916982770918 tw11656514304151057195 tw577914873418167532 tw18031996837991302030 tw473346649552630783 tw6048960182037642542 tw4845364665603877497 tw10126068910003674901:True)
open PySem.W
set_option maxRecDepth 100000 in
set_option maxHeartbeats 0 in
theorem PySem.Challenge.cw_landsentered_k58_whole_things_apart_and_holds : PySem.Challenge.rw_landsentered_k58_whole_things_apart_and.Holds := by
 w_on; o_law; k_head; (case hw => w_witness2)
 k_fill
 refine My.walk (l := PySem.Challenge.rw_landsentered_k58_whole_things_apart_and) (ts := [180]) rfl rfl (fun w h Y => ⟨PySem.W.km_in_of Y, ?T⟩) ?F
 case T =>
  exact List.forall_mem_cons.mpr ⟨⟨PySem.W.km_tabs_of Y _ (by k_mem), ⟨182, by kernel_rfl⟩, by kernel_rfl⟩, fun _ h => nomatch h⟩
 case F =>
  intro w mg fa h KX G hmg
  refine' My.all_mk (ck_rows_between := 182) (cp_rows_between := 180) KX G hmg (My.Z1 ?_ ?_ ?_ ?_) (My.Z1 ?_ ?_ ?_ ?_) (My.Z1 ?_ ?_ ?_ ?_) (My.Z1 ?_ ?_ ?_ ?_) (My.Z1 ?_ ?_ ?_ ?_) (My.Z1 ?_ ?_ ?_ ?_) (My.Z1 ?_ ?_ ?_ ?_) (My.Z1 ?_ ?_ ?_ ?_) (My.Z1 ?_ ?_ ?_ ?_) (My.Z1 ?_ ?_ ?_ ?_) (My.Z1 ?_ ?_ ?_ ?_) (My.Z1 ?_ ?_ ?_ ?_) (My.Z1 ?_ ?_ ?_ ?_) (My.Z1 ?_ ?_ ?_ ?_) (My.Z1 ?_ ?_ ?_ ?_) (My.Z1 ?_ ?_ ?_ ?_) (My.Z1 ?_ ?_ ?_ ?_) (My.Z1 ?_ ?_ ?_ ?_) (My.Z1 ?_ ?_ ?_ ?_) (My.Z1 ?_ ?_ ?_ ?_) (My.Z1 ?_ ?_ ?_ ?_) (My.Z1 ?_ ?_ ?_ ?_) (My.Z1 ?_ ?_ ?_ ?_) (My.Z1 ?_ ?_ ?_ ?_) (My.Z1 ?_ ?_ ?_ ?_) (My.Z1 ?_ ?_ ?_ ?_) (My.Z1 ?_ ?_ ?_ ?_) (My.Z1 ?_ ?_ ?_ ?_) (My.Z1 ?_ ?_ ?_ ?_) (My.Z1 ?_ ?_ ?_ ?_) (My.Z1 ?_ ?_ ?_ ?_) (My.Z1 ?_ ?_ ?_ ?_) (My.Z1 ?_ ?_ ?_ ?_) (My.Z1 ?_ ?_ ?_ ?_) (My.Z1 ?_ ?_ ?_ ?_) (My.Z1 ?_ ?_ ?_ ?_) (My.Z1 ?_ ?_ ?_ ?_) (My.Z1 ?_ ?_ ?_ ?_) (My.Z1 ?_ ?_ ?_ ?_) (My.Z1 ?_ ?_ ?_ ?_) (My.Z1 ?_ ?_ ?_ ?_) (My.Z1 ?_ ?_ ?_ ?_) (My.Z1 ?_ ?_ ?_ ?_) (My.Z1 ?_ ?_ ?_ ?_) (My.Z1 ?_ ?_ ?_ ?_) (My.Z1 ?_ ?_ ?_ ?_) (My.Z1 ?_ ?_ ?_ ?_) (My.Z1 ?_ ?_ ?_ ?_) (My.Z1 ?_ ?_ ?_ ?_) ?_ ?_ ?_ ?_ ?_ ?_ ?_ ?_ ?_ ?_ ?_ ?_ ?_ ?_ ?_ ?Qs ?Qr ?kd
  any_goals first | k_is | kit_is | decide +kernel
  all_goals first | rfl | kernel_rfl | decide
