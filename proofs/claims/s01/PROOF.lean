import PyProof.Rows.All
import Wide.All
import OpenK.AllK
import Wide.FinOn
import PyProof.EqAt
import PyProof.EqKinds
import PyProof.TupleCall
import KE.BitLaws
import Open.SpecLaws
import KE.OsHead
import KE.OsGo
import KE.KMinKey
import KE.KDictSum
import KE.KLam
import KE.KSortTupG
import KE.KTurns
import KE.KItemsList
import PySem.Challenge.RW_orelines_s01_answers
set_option Elab.async false
set_option linter.all false
set_option maxRecDepth 100000
abbrev z25:=@List.length_map
abbrev z26:=@PySem.wpAny_bind
abbrev z27:=@List.getElem?_map
abbrev z28:=@List.getElem?_eq_getElem
abbrev z29:=@PySem.Heap.get?_push_of_some
abbrev z3a:=@List.length_append
abbrev z3b:=@List.getElem?_eq_some_iff
abbrev z3c:=@Nat.le_refl
abbrev z3d:=@List.mem_cons_of_mem
abbrev z3e:=@List.mem_cons_self
abbrev z3f:=@Bool.and_eq_true
abbrev z3g:=@List.map_append
abbrev z3h:=@PySem.wpAny_pure
abbrev z3i:=@Int.toNat_natCast
abbrev z3j:=@PySem.Heap.lt_size
abbrev z3k:=@if_neg
abbrev z3l:=@List.length_cons
abbrev z3m:=@if_pos
abbrev z3n:=@List.map_cons
abbrev z3o:=@PySem.Heap.get?_push_size
abbrev z3p:=@Option.some.inj
abbrev z3q:=@Option.map_eq_some_iff
abbrev z3r:=@List.mem_of_getElem?
abbrev z3s:=@List.getD_eq_getElem?_getD
abbrev z3t:=@List.mem_cons
abbrev z3u:=@decide_eq_true
abbrev z3v:=@PySem.PassesOwn.never
abbrev z3w:=@Bool.false_ne_true
abbrev z3x:=@List.size_toArray
abbrev z3y:=@PySem.F.plainAttrs_list
abbrev z3z:=@Nat.lt_of_lt_of_le
abbrev z30:=@of_decide_eq_true
abbrev z31:=@List.append_nil
abbrev z32:=@Nat.le_trans
abbrev z33:=@List.mem_append
abbrev z34:=@List.mem_filter
abbrev z35:=@List.length_take
abbrev z36:=@Nat.le_of_lt
abbrev z37:=@List.mem_singleton
abbrev z38:=@List.mem_append_right
abbrev z39:=@PySem.Paired.length
abbrev z4a:=@Nat.ne_of_lt
abbrev z4b:=@List.mem_append_left
abbrev z4c:=@Nat.zero_le
abbrev z4d:=@List.append_assoc
abbrev z4e:=@Nat.ne_of_gt
abbrev z4f:=@List.map_map
abbrev z4g:=@List.mem_range
abbrev z4h:=@List.mem_map
abbrev z4i:=@decide_eq_true_iff
abbrev z4j:=@PySem.F.type_list_append
abbrev z4k:=@PySem.F.slot_list_append
abbrev z4l:=@Bool.eq_iff_iff
abbrev z4m:=@List.filterMap_cons
abbrev z4n:=@Bool.true_and
abbrev z4o:=@Bool.and_true
abbrev z4p:=@decide_eq_true_eq
abbrev z4q:=@List.length_range
abbrev z4r:=@Nat.le_add_right
abbrev z4s:=@List.take_length
abbrev z4t:=@PySem.mem_of_lookup
abbrev z4u:=@decide_eq_false
abbrev z4v:=@PySem.Heap.size_push
abbrev z4w:=@List.length_filter_le
abbrev z4x:=@beq_iff_eq
abbrev z4y:=@PyProof.Rows.callWith_type1
abbrev z4z:=@PySem.boot_len
abbrev z40:=@PySem.Heap.get?_update_other
abbrev z41:=@List.flatMap_cons
abbrev z42:=@List.length_singleton
abbrev z43:=@List.filterMap_append
abbrev z44:=@Bool.or_eq_true
abbrev z45:=@List.filterMap_eq_map'
abbrev z46:=@List.length_drop
abbrev z47:=@List.all_eq_true
abbrev z48:=@Nat.lt_succ_of_lt
abbrev z49:=@List.range_succ
abbrev z5a:=@List.filterMap_cons_some
abbrev z5b:=@List.filterMap_cons_none
abbrev z5c:=@Bool.false_and
abbrev z5d:=@List.getElem?_append_right
abbrev z5e:=@Bool.not_eq_true'
abbrev z5f:=@PySem.wpAny_seqItems
abbrev z5g:=@PySem.wpAny_Call_Name_kw
abbrev z5h:=@Int.natCast_add
abbrev z5i:=@Array.length_toList
abbrev z5j:=@PySem.Heap.get?_update_self
abbrev z5k:=@Bool.false_eq_true
abbrev z5l:=@PySem.wpAny_callSpecial?_slot
abbrev z5m:=@List.drop_eq_getElem_cons
abbrev z5n:=@PySem.wpAny_field
abbrev z5o:=@Nat.lt_irrefl
abbrev z5p:=@beq_eq_false_iff_ne
abbrev z5q:=@List.getElem_of_mem
abbrev z5r:=@List.flatMap_append
abbrev z5s:=@PySem.F.type_list_extend
abbrev z5t:=@PySem.F.slot_list_extend
abbrev z5u:=@List.length_filterMap_le
abbrev z5v:=@Nat.lt_of_le_of_lt
abbrev z5w:=@List.map_filterMap
abbrev z5x:=@Int.le_refl
abbrev z5y:=@PySem.F.slot_dict_keyiterator_next
abbrev z5z:=@List.map_congr_left
abbrev z50:=@PySem.wpAny_call_entry
abbrev z51:=@List.getElem?_zip_eq_some
abbrev z52:=@Classical.byContradiction
abbrev z53:=@List.nodup_cons
abbrev z54:=@if_false
abbrev z55:=@List.mem_filterMap
abbrev z56:=@PySem.wpAny_holding
abbrev z57:=@List.mem_flatMap
abbrev z58:=@List.filter_cons
abbrev z59:=@List.drop_length
abbrev z6a:=@congrArg
abbrev z6b:=@List.sum_cons
abbrev z6c:=@List.nodup_append
abbrev z6d:=@if_true
abbrev z6e:=@Sum.inl.inj
abbrev z6f:=@List.replicate_succ
abbrev z6g:=@PySem.Around.under_plainId
abbrev z6h:=@Decidable.byContradiction
abbrev z6i:=@List.Pairwise.filter
abbrev z6j:=@PySem.wpAny_setField_rec
abbrev z6k:=@List.getElem?_take_of_lt
abbrev z6l:=@List.flatten_cons
abbrev z6m:=@Int.natCast_mul
abbrev z6n:=@List.all_cons
abbrev z6o:=@PySem.wpAny_updateSeq
abbrev z6p:=@PySem.wpAny_truthy_bool
abbrev z6q:=@PySem.wpAny_mono
abbrev z6r:=@Nat.lt_succ_self
abbrev z6s:=@List.lookup_cons
abbrev z6t:=@PySem.F.slot_zip_next
abbrev z6u:=@List.pairwise_lt_range
abbrev z6v:=@PySem.plainId_quiet
abbrev z6w:=@PySem.wpAny_typeNameOfWhole_keyiter
abbrev z6x:=@Nat.zero_add
abbrev z6y:=@Nat.mul_comm
abbrev z6z:=@List.map_nil
abbrev z60:=@List.length_zip
abbrev z61:=@PySem.F.plain_max_loop
abbrev z62:=@Array.getElem?_toList
abbrev z63:=@PySem.Calls.spliced_cons
abbrev z64:=@PySem.wpAny_passesOwn
abbrev z65:=@PySem.codeAny_builtin
abbrev z66:=@PySem.F.slot_dict_getitem
abbrev z67:=@List.forIn_nil
abbrev z68:=@List.flatMap_nil
abbrev z69:=@List.cons_append
abbrev z7a:=@List.any_eq_true
abbrev z7b:=@PySem.wpAny_newObj_type
abbrev z7c:=@Ne.symm
abbrev z7d:=@Option.isSome_iff_exists
abbrev z7e:=@decide_eq_false_iff_not
abbrev z7f:=@PySem.W.callWith_K
abbrev z7g:=@List.zip_cons_cons
abbrev z7h:=@List.pairwise_cons
abbrev z7i:=@List.forIn_cons
abbrev z7j:=@List.find?_cons
abbrev z7k:=@List.filter_cons_of_pos
abbrev z7l:=@List.filter_cons_of_neg
abbrev z7m:=@PySem.wpAny_typeNameOf_keyiter
abbrev z7n:=@List.getElem_take
abbrev z7o:=@List.nodup_nil
abbrev z7p:=@PySem.F.slot_list_getattribute
abbrev z7q:=@Nat.sub_zero
abbrev z7r:=@Nat.sub_self
abbrev z7s:=@List.pairwise_flatMap
abbrev z7t:=@List.map_set
abbrev z7u:=@Nat.mod_eq_of_lt
abbrev z7v:=@Bool.not_eq_true
abbrev z7w:=@PySem.wpAny_nextOf_list_item
abbrev z7x:=@PySem.wpAny_pyIter_list
abbrev z7y:=@PySem.wpAny_letGo
abbrev z7z:=@List.any_cons
abbrev z70:=@PySem.Calls.spliced_nil
abbrev z71:=@PySem.wpAny_tryCatch
abbrev z72:=@List.length_set
abbrev z73:=@List.length_nil
abbrev z74:=@List.filter_map
abbrev z75:=@PySem.wpAny_pyIter_zip
abbrev z76:=@Nat.eq_zero_or_pos
abbrev z77:=@List.getElem?_drop
abbrev z78:=@List.filter_filter
abbrev z79:=@PySem.wpAny_attempt
abbrev z8a:=@List.getLast?_eq_some_iff
abbrev z8b:=@List.getElem?_eq_none_iff
abbrev z8c:=@List.getElem?_append_left
abbrev z8d:=@Array.getElem?_eq_getElem
abbrev z8e:=@PySem.call_meets
abbrev z8f:=@Option.some.injEq
abbrev z8g:=@Nat.le_of_succ_le
abbrev z8h:=@List.pairwise_map
abbrev z8i:=@List.Pairwise.imp
abbrev z8j:=@PySem.Heap.SameBut.update
abbrev z8k:=@Nat.mul_assoc
abbrev z8l:=@List.length_eq_zero_iff
abbrev z8m:=@List.getElem?_cons_zero
abbrev z8n:=@List.getElem?_cons_succ
abbrev z8o:=@PySem.tupleKind_room_in1
abbrev z8p:=@decide_eq_decide
abbrev z8q:=@PySem.Obj.data_mapFields
abbrev z8r:=@List.cons_ne_nil
abbrev z8s:=@List.getElem?_set_self
abbrev z8t:=@PySem.W.methodCall_KW
abbrev z8u:=@Nat.not_lt_zero
abbrev z8v:=@Nat.le_of_eq
abbrev z8w:=@List.take_append_drop
abbrev z8x:=@List.of_mem_zip
abbrev z8y:=@List.length_replicate
abbrev z8z:=@List.eq_nil_or_concat
abbrev z80:=@List.concat_eq_append
abbrev z81:=@List.all_map
abbrev z82:=@PySem.F.args_zip_next_1
abbrev z83:=@PyProof.Rows.slot_tupleiter_next
abbrev z84:=@List.getElem?_set_ne
abbrev z85:=@PySem.wpAny_getItem_of
abbrev z86:=@PySem.Heap.size_update
abbrev z87:=@PySem.F.entry_zip_next
abbrev z88:=@PySem.evalArgs_none
abbrev z89:=@PySem.W.plainGet_of
abbrev z9a:=@PySem.Calls.callWith_builtin
abbrev z9b:=@PySem.wpAny_execs_nil
abbrev z9c:=@PySem.pushCells_keeps
abbrev z9d:=@Option.toList_some
abbrev z9e:=@Nat.pos_of_ne_zero
abbrev z9f:=@Nat.one_le_two_pow
abbrev z9g:=@Nat.add_sub_cancel
abbrev z9h:=@List.filter_append
abbrev z9i:=@List.filterMap_nil
abbrev z9j:=@PySem.wpAny_rule
abbrev z9k:=@PySem.wpAny_updateSeq_pair
abbrev z9l:=@PySem.wpAny_loadName_local
abbrev z9m:=@PySem.W.ktu_apart
abbrev z9n:=@Option.isSome_map
abbrev z9o:=@Nat.or_lt_two_pow
abbrev z9p:=@List.take_sublist
abbrev z9q:=@List.filter_congr
abbrev z9r:=@Bool.not_eq_false
abbrev z9s:=@PySem.wpAny_setField
abbrev z9t:=@PyProof.Rows.callWith_builtin1
abbrev z9u:=@Nat.succ.inj
abbrev z9v:=@Nat.lt_trans
abbrev z9w:=@PySem.W.kdl_call
abbrev z9x:=@List.map_flatMap
abbrev z9y:=@PySem.F.plain_extend_loop
abbrev z9z:=@PySem.W.length_le_weightAllW
abbrev z90:=@PySem.wpAny_onRaise
abbrev z91:=@List.sum_append
abbrev z92:=@Option.ne_none_iff_exists'
abbrev z93:=@PySem.wpAny_dictEntries
abbrev z94:=@PySem.wpAny_Name
abbrev z95:=@PySem.wpAny_Call_method
abbrev z96:=@List.take_zero
abbrev z97:=@List.take_succ
abbrev z98:=@List.mem_or_eq_of_mem_set
abbrev z99:=@List.getLast?_eq_none_iff
abbrev jaa:=@List.filterMap_eq_nil_iff
abbrev jab:=@List.drop_zero
abbrev jac:=@List.drop_drop
abbrev jad:=@Bool.and_false
abbrev jae:=@PySem.codeAny_mono
abbrev jaf:=@PySem.F.slot_list_insert
abbrev jag:=@PySem.F.slot_dict_values
abbrev jah:=@PyProof.Rows.callWith_kw
abbrev jai:=@List.filterMap_eq_filter
abbrev jaj:=@List.eq_of_mem_replicate
abbrev jak:=@PySem.F.args_dict_keyiterator_next_1
abbrev jal:=@PySem.wpAny_isInstance
abbrev jam:=@PySem.W.mg_of
abbrev jan:=@PySem.F.plainAttrs_dict
abbrev jao:=@List.map_take
abbrev jap:=@List.map_drop
abbrev jaq:=@PySem.F.entry_max_loop
abbrev jar:=@PySem.F.entry_dict_keyiterator_next
abbrev jas:=@PySem.W.cellsFrom_some
abbrev jat:=@List.take_of_length_le
abbrev jau:=@List.range_succ_eq_map
abbrev jav:=@List.filter_eq_nil_iff
abbrev jaw:=@PySem.F.slot_dict_keyiterator_iter
abbrev jax:=@Array.getElem?_eq_none
local macro_rules | `(tactic| omega) => `(tactic| first | with_reducible assumption | omega +splitDisjunctions)
namespace L2
open PySem PySem.Spec PyProof.Rows
abbrev j2:=Sum Int Str
def X4:j2->Value->Bool
 | .inl k,v=>Value.isInt k v
 | .inr x,v=>Value.isStrOf x v
def zzz (w:World):j2->Int
 | .inl k=>hashInt k
 | .inr x=>hashStr w x
theorem yn:∀{k:j2}{v:Value},X4 k v=true->(∃ i t,k=Sum.inl i/\v=Value.int i t)\/(∃ x t,k=Sum.inr x/\v=Value.str x t)
 | .inl i,v,h=>by
  obtain⟨t,e⟩:=Value.isInt_shape (k:=i) (v:=v) h;exact .inl ⟨i,t,rfl,e⟩
 | .inr x,v,h=>by
  obtain⟨t,e⟩:=Value.isStrOf_shape (x:=x) (v:=v) h;exact .inr ⟨x,t,rfl,e⟩
theorem zlu (i:Int)(t:Tok):X4 (.inl i) (.int i t)=true:=by simp[X4,Value.isInt]
theorem zlv (x:Str)(t:Tok):X4 (.inr x) (.str x t)=true:=by simp[X4,Value.isStrOf]
theorem zvn (a b:Int):decide ((Sum.inl a:j2)=Sum.inl b)=(a==b):=by
 by_cases e:a=b
 ·subst e;simp
 ·have h:¬(Sum.inl a:j2)=Sum.inl b:=λq=>e (z6e q);rw[z4u h];exact (z5p.mpr e).symm
theorem zvq (a b:Str):decide ((Sum.inr a:j2)=Sum.inr b)=decide (a=b):=by
 by_cases e:a=b
 ·subst e;simp
 ·have h:¬(Sum.inr a:j2)=Sum.inr b:=λq=>e (Sum.inr.inj q);rw[z4u h,z4u e]
theorem zvo (a:Int)(b:Str):decide ((Sum.inl a:j2)=Sum.inr b)=false:=z4u (λq=>nomatch q)
theorem zvp (a:Str)(b:Int):decide ((Sum.inr a:j2)=Sum.inl b)=false:=z4u (λq=>nomatch q)
def jn (prog:Program)(w:World):PySem.KeyKind prog w j2 where
 is:=X4
 hash:=zzz w
 inj:=λv a b ha hb=>by
  rcases yn ha with ⟨i,t,rfl,rfl⟩|⟨x,t,rfl,rfl⟩
  ·rcases yn hb with ⟨j,u,rfl,e⟩|⟨y,u,rfl,e⟩
   ·injection e with e1 _;rw[e1]
   ·exact nomatch e
  ·rcases yn hb with ⟨j,u,rfl,e⟩|⟨y,u,rfl,e⟩
   ·exact nomatch e
   ·injection e with e1 _;rw[e1]
 byValue:=λk v h=>by
  rcases yn h with ⟨i,t,rfl,rfl⟩|⟨x,t,rfl,rfl⟩<;>rfl
 pyHash:=λhv h=>by
  rcases yn hv with ⟨i,t,rfl,rfl⟩|⟨x,t,rfl,rfl⟩
  ·exact wpAny_pyHash_int h
  ·exact wpAny_pyHash_str h
 eqBool:=λhu hv h=>by
  rcases yn hu with ⟨i,t,rfl,rfl⟩|⟨x,t,rfl,rfl⟩
  ·rcases yn hv with ⟨j,u,rfl,rfl⟩|⟨y,u,rfl,rfl⟩
   ·rw[zvn]at h;exact wpAny_eqBool_int h
   ·rw[zvo]at h;exact SeqAt.EqAt.int_str i t y u _ _ _ _ h
  ·rcases yn hv with ⟨j,u,rfl,rfl⟩|⟨y,u,rfl,rfl⟩
   ·rw[zvp]at h;exact SeqAt.EqAt.str_int x t j u _ _ _ _ h
   ·rw[zvq]at h;exact wpAny_eqBool_str h
 «strs»:=λk x t v h=>by
  rcases yn h with ⟨i,u,rfl,e⟩|⟨y,u,rfl,e⟩
  ·exact nomatch e
  ·injection e with e1 _
   subst e1;cases v<;>rfl
theorem Zj (prog:Program)(w:World)(i:Int)(t:Tok):(jn prog w).is (.inl i) (.int i t)=true:=zlu i t
theorem zfz (prog:Program)(w:World)(x:Str)(t:Tok):(jn prog w).is (.inr x) (.str x t)=true:=zlv x t
inductive V where
 |non|bl (b:Bool)|int (i:Int)|str (x:Str)|byt (b:Array UInt8)|flt (b:UInt64)|ref (a:Addr)|ty (n:String)
 deriving DecidableEq
def jp:V->Value->Prop
 | .non,u=>u=Value.none
 | .bl b,u=>u=Value.bool b
 | .int i,u=>∃ t,u=Value.int i t
 | .str x,u=>∃ t,u=Value.str x t
 | .byt b,u=>∃ t,u=Value.bytes b t
 | .flt b,u=>∃ t,u=Value.float b t
 | .ref a,u=>u=Value.ref a
 | .ty n,u=>u=Value.type n
abbrev jf:List V->List Value->Prop:=Paired jp
theorem jf.length {xs:List V}{us:List Value}(r:jf xs us):xs.length=us.length:=z39 r
theorem jf.get:∀{xs:List V}{us:List Value}{i:Nat}{x:V},jf xs us->xs[i]? =some x->∃ u,us[i]? =some u/\jp x u
 |_,_,_,_,.nil,e=>by simp at e
 |_,_,0,_,.cons r _,e=>by simp at e;subst e;exact⟨_,rfl,r⟩
 |_,_,i+1,x,.cons _ t,e=>by
  obtain⟨u,h1,h2⟩:=jf.get (i:=i) (x:=x) t (by simpa using e);exact⟨u,by simpa using h1,h2⟩
theorem jf.set {x:V}{u:Value}(r:jp x u):∀{xs:List V}{us:List Value} (i:Nat),jf xs us->jf (xs.set i x) (us.set i u)
 |_,_,_,.nil=>.nil
 |_,_,0,.cons _ t=>.cons r t
 |_,_,i+1,.cons q t=>.cons q (jf.set r i t)
theorem jf.append:∀{xs ys:List V}{us ws:List Value},jf xs us->jf ys ws->jf (xs++ys) (us++ws)
 |_,_,_,_,.nil,s=>s
 |_,_,_,_,.cons r t,s=>.cons r (jf.append t s)
theorem jf.take:∀{xs:List V}{us:List Value} (n:Nat),jf xs us->jf (xs.take n) (us.take n)
 |_,_,0,_=>.nil
 |_,_,_+1,.nil=>.nil
 |_,_,n+1,.cons r t=>.cons r (jf.take n t)
theorem jf.drop:∀{xs:List V}{us:List Value} (n:Nat),jf xs us->jf (xs.drop n) (us.drop n)
 |_,_,0,r=>r
 |_,_,_+1,.nil=>.nil
 |_,_,n+1,.cons _ t=>jf.drop n t
def Zr:Option V->Option Value->Prop
 |some v,some u=>jp v u
 |none,none=>True
 |_,_=>False
def KV {κ:Type}:List (κ×V)->List (κ×Value)->Prop:=Paired λ(p:κ×V) (q:κ×Value)=>p.1=q.1/\jp p.2 q.2
def kV:j2->V
 | .inl i=>.int i
 | .inr x=>.str x
inductive HO where
 |lst (xs:List V)
 |tup (xs:List V)
 |dK (kvs:List (j2×V))|dT (kvs:List (List j2×V))
 |set (S:Int->Bool) (n:Nat)
 |ins (C dx:Addr) (fs:List (Str×V))
 |own (x:Addr)
 |xd (fs:List (Str×V))
 |met (f x:Addr)
 |rng (lo hi:Int)
 |frz (o:Obj) (u:HO)
 |tbl (ps:Array Value)
 |ext (φ:Heap->Prop)
abbrev Hp:=Addr->Option HO
def upd (H:Hp)(a:Addr)(o:HO):Hp:=λb=>if b=a then some o else H b
theorem zb {H:Hp}{a:Addr}{o:HO}:upd H a o a=some o:=by unfold upd;rw[z3m rfl]
theorem ze {H:Hp}{a b:Addr}{o:HO}(h:b≠a):upd H a o b=H b:=by unfold upd;rw[z3k h]
theorem zs0 {H:Hp}{a:Addr}{o u:HO}:upd (upd H a o) a u=upd H a u:=by
 funext b;unfold upd;split<;>rfl
theorem ja {H:Hp}{a b:Addr}{o u:HO}(h:H a=some o)(h':H b=some u)(d:o≠u):a≠b:=by
 intro e;subst e;rw[h]at h';exact d (z3p h')
theorem zf {H:Hp}{a b:Addr}{o:HO}(h:H a=some o)(h':H b=none):a≠b:=by
 intro e;subst e;rw[h]at h';cases h'
section
variable (P:Program)(w:World)
def j6 (H:Hp)(h:Heap)(a:Addr):HO->Prop
 | .lst xs=>xs.length<=sizeLine/\∃(its:List Value) (n:Nat),jf xs its/\h.get? a=some {cls:=.type "list",data:=.seq its.toArray n}
 | .tup xs=>xs.length<=sizeLine/\∃ its:List Value,jf xs its/\IsTup h a its.toArray
 | .dK kvs=>kvs.length<=sizeLine/\(a==sysModules)=false/\∃ vs,KV kvs vs/\h.DictOf (jn P w) a vs
 | .dT kvs=>kvs.length<=sizeLine/\(a==sysModules)=false/\∃ xs:List (List j2×Addr×Value),
   Paired (λ(p:List j2×V) (q:List j2×Addr×Value)=>p.1=q.1/\H q.2.1=some (.tup (p.1.map kV))/\jp p.2 q.2.2) kvs xs/\
   ∃ o es ep,h.get? a=some o/\o.ExactDict/\o.data=.dict es ep/\es.toList=xs.map (entryOfKey (tupleKind (jn P w)))/\(xs.map (·.1)).Nodup
 | .set S n=>h.SetOf (intKind P w) a S n
 | .ins C dx fs=>H dx=some (.own a)/\fs.length<=1000/\dx≠a/\h.get? a=some (PySem.W.instObj C dx)/\
   ∃ mA,h.Ns1 dx mA/\(∀ f,Zr (fs.lookup f) (mA f))/\PySem.Within mA (fs.map (·.1))
 | .own _=>∃ o,h.get? a=some o
 | .xd fs=>∃ mA,h.Ns1 a mA/\∀ f,Zr (fs.lookup f) (mA f)
 | .rng lo hi=>∃ t u v,h.get? a=some {cls:=.type "range",data:=.fields #[.int lo t,.int hi u,.int 1 v]}
 | .frz o u=>h.get? a=some o/\j6 H h a u
 | .tbl ps=>h.get? a=some {cls:=.none,data:=.fields ps}
 | .met f x=>h.get? a=some (PySem.W.methodObj (.ref f) (.ref x))
 | .ext φ=>φ h/\(∃ o,h.get? a=some o)/\∀ h1 h2:Heap,φ h1->(∀ o,h1.get? a=some o->h2.get? a=some o)->φ h2
def Yx (H:Hp)(h:Heap):Prop:=∀ a o,H a=some o->j6 P w H h a o
end
section
variable {P:Program}{w:World}{H H':Hp}{h h':Heap}{a:Addr}{o:HO}
theorem j6.lt (x:j6 P w H h a o):a < h.objs.size:=by
 cases o with
 |lst xs=>obtain⟨_,_,_,_,e⟩:=x;exact z3j e
 |tup xs=>obtain⟨_,_,_,p⟩:=x;exact p.lt
 |dK kvs=>obtain⟨_,_,_,_,o,_,_,e,_⟩:=x;exact z3j e
 |dT kvs=>obtain⟨_,_,_,_,o,_,_,e,_⟩:=x;exact z3j e
 |set S n=>obtain⟨o,_,_,_,e,_⟩:=x;exact z3j e
 |ins C dx fs=>obtain⟨_,_,_,e,_⟩:=x;exact z3j e
 |own y=>obtain⟨_,e⟩:=x;exact z3j e
 |xd fs=>obtain⟨_,⟨_,_,_,e,_⟩,_⟩:=x;exact z3j e
 |rng lo hi=>obtain⟨_,_,_,e⟩:=x;exact z3j e
 |frz ob u=>obtain⟨e,_⟩:=x;exact z3j e
 |tbl ps=>exact z3j (show h.get? a=some _ from x)
 |met f y=>exact z3j (show h.get? a=some _ from x)
 |ext φ=>obtain⟨_,⟨_,e⟩,_⟩:=x;exact z3j e
theorem Paired.mapP {α β:Type}{F G:α->β->Prop}:∀{l₁:List α}{l₂:List β},Paired F l₁ l₂->(∀ a b,F a b->G a b)->Paired G l₁ l₂
 |_,_,.nil,_=>.nil
 |_,_,.cons r t,f=>.cons (f _ _ r) (Paired.mapP t f)
theorem j6.stay (x:j6 P w H h a o)(k:∀ b u,(b=a\/H b=some (.own a))->h.get? b=some u->h'.get? b=some u)
  (ho:∀ b,H b=some (.own a)->H' b=some (.own a))(ht:∀ b xs,H b=some (.tup xs)->H' b=some (.tup xs)):j6 P w H' h' a o:=by
 induction o with
 |lst xs=>obtain⟨z,its,n,r,e⟩:=x;exact⟨z,its,n,r,k _ _ (.inl rfl) e⟩
 |tup xs=>obtain⟨z,its,r,ob,e,c⟩:=x;exact⟨z,its,r,ob,k _ _ (.inl rfl) e,c⟩
 |dK kvs=>obtain⟨z,y,vs,r,ob,es,ep,e,c⟩:=x;exact⟨z,y,vs,r,ob,es,ep,k _ _ (.inl rfl) e,c⟩
 |dT kvs=>
  obtain⟨z,y,xs,r,ob,es,ep,e,c⟩:=x;exact⟨z,y,xs,Paired.mapP r λp q z=>⟨z.1,ht _ _ z.2.1,z.2.2⟩,ob,es,ep,k _ _ (.inl rfl) e,c⟩
 |set S n=>obtain⟨ob,es,ep,t,e,c⟩:=x;exact⟨ob,es,ep,t,k _ _ (.inl rfl) e,c⟩
 |ins C dx fs=>
  obtain⟨d,z,ne,e,mA,⟨od,es,ep,e2,c⟩,r⟩:=x;exact⟨ho _ d,z,ne,k _ _ (.inl rfl) e,mA,⟨od,es,ep,k _ _ (.inr d) e2,c⟩,r⟩
 |own y=>obtain⟨ob,e⟩:=x;exact⟨ob,k _ _ (.inl rfl) e⟩
 |xd fs=>obtain⟨mA,⟨od,es,ep,e,c⟩,r⟩:=x;exact⟨mA,⟨od,es,ep,k _ _ (.inl rfl) e,c⟩,r⟩
 |rng lo hi=>obtain⟨t,u,v,e⟩:=x;exact⟨t,u,v,k _ _ (.inl rfl) e⟩
 |frz ob u ih=>obtain⟨e,q⟩:=x;exact⟨k _ _ (.inl rfl) e,ih q⟩
 |tbl ps=>
  have e:h.get? a=some {cls:=.none,data:=.fields ps}:=x;show h'.get? a=some {cls:=.none,data:=.fields ps};exact k a _ (.inl rfl) e
 |met f y=>
  have e:h.get? a=some (PySem.W.methodObj (.ref f) (.ref y)):=x;show h'.get? a=some (PySem.W.methodObj (.ref f) (.ref y));exact k a _ (.inl rfl) e
 |ext φ=>obtain⟨p,⟨o,e⟩,st⟩:=x;exact⟨st _ _ p λo q=>k _ _ (.inl rfl) q,⟨o,k _ _ (.inl rfl) e⟩,st⟩
theorem Yx.lt (x:Yx P w H h)(e:H a=some o):a < h.objs.size:=(x a o e).lt
theorem Yx.fresh (x:Yx P w H h)(e:h.objs.size<=a):H a=none:=by
 cases q:H a with
 |none=>rfl
 |some u=>exact absurd (z3z (x.lt q) e) (z5o _)
theorem Yx.kept (x:Yx P w H h)(k:∀ b u,h.get? b=some u->h'.get? b=some u):Yx P w H h':=λa o e=>
 (x a o e).stay (λb u _ q=>k b u q) (λ_ q=>q) λ_ _ q=>q
theorem Yx.laid (x:Yx P w H h)(k:∀ b u,h.get? b=some u->h'.get? b=some u)(hp:h.objs.size<=a)(new:j6 P w (upd H a o) h' a o):Yx P w (upd H a o) h':=λb u e=>by
 have hn:=x.fresh hp;by_cases hb:b=a
 ·subst hb;rw[zb]at e;cases e;exact new
 ·rw[ze hb]at e;exact (x b u e).stay (λc v _ q=>k c v q) (λc q=>by rw[ze (zf q hn)];exact q) λc xs q=>by rw[ze (zf q hn)];exact q
end
def Rd (H:Hp)(a:Addr)(u:HO):Prop:=H a=some u\/∃ o,H a=some (.frz o u)
theorem Rd.ok {P:Program}{w:World}{H:Hp}{h:Heap}{a:Addr}{u:HO}(r:Rd H a u)(x:Yx P w H h):j6 P w H h a u:=by
 rcases r with r|⟨o,r⟩
 ·exact x a u r
 ·obtain⟨_,q⟩:=x a _ r;exact q
def Mut:Option HO->Prop
 |some (.lst _)=>True
 |some (.dK _)=>True
 |some (.dT _)=>True
 |some (.set _ _)=>True
 |some (.ins _ _ _)=>True
 |some (.ext _)=>True
 |_=>False
section
variable {P:Program}{w:World}{H:Hp}{h h':Heap}{x e:Addr}{o':HO}
theorem Yx.write (ok:Yx P w H h)(mu:Mut (H x))(he:e=x\/H e=some (.own x))(k:∀ b u,b≠e->h.get? b=some u->h'.get? b=some u)(heo:∃ u,h'.get? e=some u)
  (new:j6 P w (upd H x o') h' x o'):Yx P w (upd H x o') h':=λb u q=>by
 have nown:∀ c y,H c=some (.own y)->c≠x:=λc y r z=>by subst z;rw[r]at mu;exact mu
 have ntup:∀ c xs,H c=some (.tup xs)->c≠x:=λc xs r z=>by subst z;rw[r]at mu;exact mu
 by_cases hb:b=x
 ·subst hb;rw[zb]at q;cases q;exact new
 ·rw[ze hb]at q;by_cases hbe:b=e
  ·have q':H b=some (.own x):=by
    rcases he with z|z
    ·exact absurd (hbe.trans z) hb
    ·rw[hbe];exact z
   rw[q]at q';cases q';obtain⟨v,hv⟩:=heo;exact⟨v,by rw[hbe];exact hv⟩
  ·refine (ok b u q).stay (λc v hc r=>k c v ?_ r) (λc r=>by rw[ze (nown c b r)];exact r) λc xs r=>by rw[ze (ntup c xs r)];exact r
   rcases hc with rfl|hc
   ·exact hbe
   ·rintro rfl;rcases he with z|z
    ·exact nown c b hc z
    ·rw[hc]at z;cases z;exact hb rfl
end
structure Un (fs ex:List Addr)(H H':Hp)(h h':Heap):Prop where
 keep:∀ b o,h.get? b=some o->H b=none->b∉fs->b∉ex->h'.get? b=some o
 slot:∀ b o,h.get? b=some o->H b=none->b∈fs->b∉ex->∃ sl,h'.get? b=some {o with slots:=sl}
 free:∀ b o,h.get? b=some o->H b=none->b∉ex->H' b=none
 there:∀ b o,h.get? b=some o->b∉ex->∃ o',h'.get? b=some o'
 tups:∀ b xs,H b=some (.tup xs)->H' b=some (.tup xs)
 frzs:∀ b o u,H b=some (.frz o u)->H' b=some (.frz o u)
 tbls:∀ b ps,H b=some (.tbl ps)->∃ more,H' b=some (.tbl (ps++more))
section
variable {fs fs' ex ex':List Addr}{H H1 H2:Hp}{h h1 h2 h':Heap}{a x e:Addr}{o:HO}
theorem Un.any (u:Un fs ex H H1 h h1){b:Addr}{ob:Obj}(q:h.get? b=some ob)(n:H b=none)(hx:b∉ex):∃ sl,h1.get? b=some {ob with slots:=sl}:=by
 by_cases hb:b∈fs
 ·exact u.slot b ob q n hb hx
 ·exact⟨ob.slots,u.keep b ob q n hb hx⟩
theorem Un.kept (k:∀ b u,h.get? b=some u->h'.get? b=some u):Un fs ex H H h h':=
 ⟨λb ob q _ _ _=>k b ob q,λb ob q _ _ _=>⟨ob.slots,k b ob q⟩,λ_ _ _ n _=>n,λb ob q _=>⟨ob,k b ob q⟩,λ_ _ q=>q,λ_ _ _ q=>q,λ_ ps q=>⟨#[],by rw[q];simp⟩⟩
theorem Un.refl:Un fs ex H H h h:=Un.kept λ_ _ q=>q
theorem Un.laid (k:∀ b u,h.get? b=some u->h'.get? b=some u)(hp:h.objs.size<=a)(hn:H a=none):Un fs ex H (upd H a o) h h' where
 keep:=λb u q _ _ _=>k b u q
 slot:=λb u q _ _ _=>⟨u.slots,k b u q⟩
 free:=λb u q n _=>by rw[ze (z4a (z3z (z3j q) hp))];exact n
 there:=λb u q _=>⟨u,k b u q⟩
 tups:=λb xs q=>by rw[ze (zf q hn)];exact q
 frzs:=λb u xs q=>by rw[ze (zf q hn)];exact q
 tbls:=λb ps q=>⟨#[],by rw[ze (zf q hn),q];simp⟩
theorem Un.write (mu:Mut (H x))(he:e=x\/H e=some (.own x))(k:∀ b u,b≠e->h.get? b=some u->h'.get? b=some u)(heo:∃ u,h'.get? e=some u):Un fs ex H (upd H x o) h h':=by
 have hx:∀ b,H b=none->b≠x:=λb n z=>by subst z;rw[n]at mu;exact mu
 have hb:∀ b,H b=none->b≠e:=λb n z=>by
  subst z;rcases he with r|r
  ·exact hx b n r
  ·rw[n]at r;cases r
 have hm:∀ b u,H b=some u->¬Mut (some u)->b≠x:=λb u q nm z=>by subst z;rw[q]at mu;exact nm mu
 refine⟨λb u q n _ _=>k b u (hb b n) q,λb u q n _ _=>⟨u.slots,k b u (hb b n) q⟩,λb u q n _=>by rw[ze (hx b n)];exact n,λb u q _=>?_,
  λb xs q=>by rw[ze (hm b _ q λz=>z)];exact q,λb u xs q=>by rw[ze (hm b _ q λz=>z)];exact q,λb ps q=>⟨#[],by rw[ze (hm b _ q λz=>z),q];simp⟩⟩
 by_cases hbe:b=e
 ·subst hbe;exact heo
 ·exact⟨u,k b u hbe q⟩
end
def trk (h:Heap)(H:Hp):List Addr:=(List.range h.objs.size).filter λa=>(H a).isSome
def za7 (h:Heap)(H:Hp):Heap:=PySem.W.hideAll h (trk h H)
theorem zlr (h:Heap)(H:Hp):(za7 h H).objs.size=h.objs.size:=PySem.W.hideAll_size _ _
theorem zoe {h:Heap}{H:Hp}{b:Addr}{o:Obj}(e:h.get? b=some o)(n:H b=none):(za7 h H).get? b=some o:=
 PySem.W.hideAll_get _ e λhm=>by
  have q:(H b).isSome=true:=(z34.mp hm).2;rw[n]at q;simp at q
theorem zrn {h:Heap}{H:Hp}{b:Addr}{o:Obj}(e:(za7 h H).get? b=some o):h.get? b=some o/\H b=none:=by
 have e':h.get? b=some o:=PySem.W.of_hideAll (trk h H) e;refine⟨e',?_⟩;cases q:H b with
 |none=>rfl
 |some x=>
  have hm:b∈trk h H:=z34.mpr ⟨z4g.mpr (z3j e'),by simp[q]⟩;have z:(za7 h H).get? b=none:=PySem.W.hideAll_none (trk h H) hm;rw[z]at e;cases e
def Xq (g h:Heap)(L:Addr):List (Addr×Obj):=(List.range h.objs.size).filterMap λa=>if a=L\/(g.get? a).isSome=true then none else (h.get? a).map λo=>(a,o)
theorem zfy {g h:Heap}{L a:Addr}{o:Obj}(h1:a≠L)(h2:g.get? a=none)(h3:h.get? a=some o):(a,o)∈Xq g h L:=
 z55.mpr ⟨a,z4g.mpr (z3j h3),by simp[h1,h2,h3]⟩
theorem Gh {g h:Heap}{L:Addr}{p:Addr×Obj}(hp:p∈Xq g h L):p.1≠L/\g.get? p.1=none/\h.get? p.1=some p.2:=by
 obtain⟨b,_,e⟩:=z55.mp hp;split at e
 ·cases e
 ·rename_i hn;cases q:h.get? b with
  |none=>rw[q]at e;simp at e
  |some u=>
   rw[q]at e;simp only[Option.map_some,z8f]at e;subst e;refine⟨λz=>hn (.inl z),?_,q⟩;show g.get? b=none;cases r:g.get? b with
   |none=>rfl
   |some v=>exact (hn (.inr (by simp[r]))).elim
theorem zov {g h:Heap}{L:Addr}:News g L h (Xq g h L):=λp hp=>let ⟨a,b,c⟩:=Gh hp;⟨c,a,b⟩
structure Mod (K:PySem.W.Frag)(mg:Str->Option Value)(base:Heap):Prop where
 kin:K.In base
 glob:base.Ns mainGlobals mg
 blt:∃ mb,base.Ns builtinsNs mb/\∀ x:Str,x≠"__name__"->mb x=bootBuiltins x
 nolimit:base.NoLimit
structure Cx where
 prog:Program
 w:World
 K:PySem.W.Frag
 mg:Str->Option Value
 base:Heap
 A:Around
 N:List Str
 s_0:Shared
 H_0:Hp
 env:Env
 outer:List Env
 stack:List Env
 ex:List Addr
 fn:Str->Bool
 calm:Bool
 pn:List (Addr×Obj)
 xe:Value->Shared->Prop
def frs (l:List Env):List Addr:=l.filterMap (·.frame)
abbrev Cx.fs (X:Cx):List Addr:=frs X.outer
def Vis (sc:Scope)(x:Str):Prop:=sc.names.lookup x=some .local\/sc.names.lookup x=some .cell\/sc.names.lookup x=some .free
def Loc (sc:Scope)(x:Str):Prop:=sc.names.lookup x=some .local\/sc.names.lookup x=some .cell
def zzo (env:Env)(h:Heap)(m:Str->Option Value)(x:Str)(u:Value):Prop:=
 (env.kindOf x=some .local/\m x=some u)\/((env.kindOf x=some .cell\/env.kindOf x=some .free)/\∃ c,env.cells.lookup x=some c/\h.IsCell c (some u))
structure Cx.Ok (X:Cx):Prop where
 mod:Mod X.K X.mg X.base
 kind:X.env.scope.kind=.function
 glob:X.env.globals=mainGlobals
 blt:X.env.builtins=builtinsNs
 above:X.s_0.heap.objs.size<=X.env.locals
 inj:∀ x y c,X.env.cells.lookup x=some c->X.env.cells.lookup y=some c->x=y
 has:∀ x,(X.env.kindOf x=some .cell\/X.env.kindOf x=some .free)->∃ c,X.env.cells.lookup x=some c
 cab:∀ x c,X.fn x=true->X.env.cells.lookup x=some c->X.s_0.heap.objs.size<=c
 hd:X.calm=true->X.A.handled=none
 frames:X.A.frames=some X.stack
 stk:X.stack=X.outer\/(X.stack=X.env::X.outer/\X.env.frame=some X.env.locals)
 exf:∀ b∈X.ex,b≠X.env.locals/\∀ x c,X.env.cells.lookup x=some c->c≠b
 bs:∀ b o,X.base.get? b=some o->X.s_0.heap.get? b=some o/\X.H_0 b=none
 bsz:X.base.objs.size<=X.s_0.heap.objs.size
 noex:∀ b o,X.base.get? b=some o->b∉X.ex
 exfs:∀ b∈X.ex,b∉X.fs
 funs:X.s_0.heap.FunFrames X.base X.outer
 frf:∀ b∈X.fs,X.H_0 b=none
structure zz (X:Cx)(pins:List (Addr×Obj))(σ:List (Option V))(H:Hp)(s:Shared):Prop where
 ok:X.Ok
 os:s.os=X.s_0.os
 bare:AllBare s.gens
 base:Un X.fs X.ex X.H_0 H X.s_0.heap s.heap
 loc:∃ m,s.heap.Ns X.env.locals m/\∀(i:Nat) (x:Str) (v:V),X.N[i]? =some x->σ[i]? =some (some v)->Vis X.env.scope x->∃ u,jp v u/\zzo X.env s.heap m x u
 cell:∀ x c,X.env.cells.lookup x=some c->∃ v,s.heap.IsCell c v
 free:H X.env.locals=none
 freeC:∀ x c,X.env.cells.lookup x=some c->H c=none
 pin:∀ p∈X.pn++pins,s.heap.get? p.1=some p.2/\H p.1=none/\p.1≠X.env.locals/\p.1∉X.fs/\∀ v,p.2.data≠.cell v
 hok:Yx X.prog X.w H s.heap
 len:σ.length=X.N.length
section
variable {X:Cx}{pins:List (Addr×Obj)}{σ:List (Option V)}{H H':Hp}{s:Shared}{h':Heap}
theorem Cx.Ok.nofr (ok:X.Ok){b:Addr}{o:Obj}(e:X.base.get? b=some o):b∉X.fs:=λhb=>by
 have:=(ok.funs.mem hb).1;rw[e]at this;cases this
theorem zz.bs (I:zz X pins σ H s):∀ b o,X.base.get? b=some o->s.heap.get? b=some o/\H b=none:=λb o e=>
 ⟨I.base.keep b o (I.ok.bs b o e).1 (I.ok.bs b o e).2 (I.ok.nofr e) (I.ok.noex b o e),I.base.free b o (I.ok.bs b o e).1 (I.ok.bs b o e).2 (I.ok.noex b o e)⟩
theorem zz.bk (I:zz X pins σ H s):∀ b o,X.base.get? b=some o->s.heap.get? b=some o:=λb o e=>(I.bs b o e).1
theorem zz.mod (I:zz X pins σ H s):Mod X.K X.mg X.base:=I.ok.mod
theorem zz.kIn (I:zz X pins σ H s):X.K.In s.heap:=I.ok.mod.kin.keeps I.bk
theorem zz.fr (I:zz X pins σ H s):∃ m,Fr X.base X.env.locals s.heap m:=
 let ⟨m,hn,_⟩:=I.loc
 ⟨m,hn,I.bk,z32 I.ok.bsz I.ok.above⟩
theorem zz.lt (I:zz X pins σ H s):X.env.locals < s.heap.objs.size:=let ⟨_,hn,_⟩:=I.loc;hn.lt
theorem zz.sz (I:zz X pins σ H s):X.s_0.heap.objs.size<=s.heap.objs.size:=z32 I.ok.above (z36 I.lt)
theorem zz.nofs (I:zz X pins σ H s){a:Addr}(h:s.heap.objs.size<=a):a∉X.fs:=λhb=>by
 obtain⟨_,o,ho,_⟩:=I.ok.funs.mem hb;exact absurd (z3z (z3j ho) (z32 I.sz h)) (z5o _)
theorem zz.cne (I:zz X pins σ H s):∀ x c,X.env.cells.lookup x=some c->c≠X.env.locals:=λx c e z=>by
 obtain⟨v,o,ho,hd⟩:=I.cell x c e;obtain⟨m,⟨o',es,ep,ho',hd',_⟩,_⟩:=I.loc;rw[z,ho']at ho;cases ho;rw[hd']at hd;cases hd
theorem zz.funs (I:zz X pins σ H s):s.heap.FunFrames X.base X.outer:=by
 have all:∀(l:List Env),(∀ b∈frs l,b∈X.fs)->X.s_0.heap.FunFrames X.base l->s.heap.FunFrames X.base l:=by
  intro l
  induction l with
  |nil=>intro _ _;trivial
  |cons env r ih=>
   intro hs hl;obtain⟨hk,⟨L,o,hf,hn,ho,hd⟩,hr⟩:=hl;have hL:L∈X.fs:=hs L (by unfold frs;rw[z4m,hf];exact z3e);obtain⟨sl,e⟩:=I.base.slot L o ho (I.ok.frf L hL) hL λz=>I.ok.exfs L z hL;exact⟨hk,⟨L,_,hf,hn,e,hd⟩,ih (λb hb=>hs b (by unfold frs;rw[z4m,hf];exact z3d _ hb)) hr⟩
 exact all X.outer (λ_ hb=>hb) I.ok.funs
theorem zz.stack (I:zz X pins σ H s):s.heap.FunFrames X.base X.stack:=by
 rcases I.ok.stk with e|⟨e,hf⟩
 ·rw[e];exact I.funs
 ·rw[e];obtain⟨m,hn,_⟩:=I.loc;refine .cons (by rw[I.ok.kind];decide) hf hn ?_ I.funs;exact Heap.get?_none_of_le (z32 I.ok.bsz I.ok.above)
theorem zz.stkSub (I:zz X pins σ H s):∀ b∈frs X.stack,b∈X.env.locals::X.fs:=λb hb=>by
 rcases I.ok.stk with e|⟨e,hf⟩
 ·rw[e]at hb;exact z3d _ hb
 ·rw[e]at hb;unfold frs at hb;rw[z4m,hf]at hb;exact hb
theorem zz.stkFree (I:zz X pins σ H s):∀ b∈frs X.stack,H b=none:=λb hb=>by
 rcases z3t.mp (I.stkSub b hb) with e|hb
 ·rw[e];exact I.free
 ·obtain⟨_,o,ho,_⟩:=I.ok.funs.mem hb;exact I.base.free b o ho (I.ok.frf b hb) λz=>I.ok.exfs b z hb
theorem zz.step {g':Array GenState}{t':Nat}{d':Drawn}{ch:List Addr}(I:zz X pins σ H s)
  (hch:∀ b∈ch,(b∈X.ex\/X.s_0.heap.objs.size<=b)/\b≠X.env.locals/\(∀ x c,X.env.cells.lookup x=some c->c≠b)/\∀ p∈X.pn++pins,p.1≠b)
  (keep:∀ b o,b≠X.env.locals->b∉X.fs->b∉ch->s.heap.get? b=some o->H b=none->h'.get? b=some o)
  (slot:∀ b o,b≠X.env.locals->b∈X.fs->b∉ch->s.heap.get? b=some o->H b=none->∃ sl,h'.get? b=some {o with slots:=sl})(free:∀ b o,b∉ch->s.heap.get? b=some o->H b=none->H' b=none)
  (there:∀ b o,b∉ch->s.heap.get? b=some o->∃ o',h'.get? b=some o')
  (tups:∀ b xs,H b=some (.tup xs)->H' b=some (.tup xs))(frzs:∀ b o u,H b=some (.frz o u)->H' b=some (.frz o u))(tbls:∀ b ps,H b=some (.tbl ps)->∃ more,H' b=some (.tbl (ps++more)))
  (ns:∀ m,s.heap.Ns X.env.locals m->h'.Ns X.env.locals m)(hok:Yx X.prog X.w H' h')(hg:AllBare g'):
  zz X pins σ H' {s with heap:=h',gens:=g',drawn:=d',toks:=t'}:=by
 have neL:∀ b o,X.s_0.heap.get? b=some o->b≠X.env.locals:=λb o e=>z4a (z3z (z3j e) I.ok.above);have neC:∀ b o,X.s_0.heap.get? b=some o->b∉X.ex->b∉ch:=λb o e hx hb=>by
  rcases (hch b hb).1 with z|z
  ·exact hx z
  ·exact absurd (z3z (z3j e) z) (z5o _)
 have cellK:∀ x c,X.env.cells.lookup x=some c->∀ v,s.heap.IsCell c v->h'.IsCell c v:=λx c e v ⟨o,ho,hd⟩=>by
  have nch:c∉ch:=λz=>(hch c z).2.2.1 x c e rfl;by_cases hc:c∈X.fs
  ·obtain⟨sl,q⟩:=slot c o (I.cne x c e) hc nch ho (I.freeC x c e);exact⟨_,q,hd⟩
  ·exact⟨o,keep c o (I.cne x c e) hc nch ho (I.freeC x c e),hd⟩
 refine⟨I.ok,I.os,hg,⟨λb o e n hb hx=>?_,λb o e n hb hx=>?_,λb o e n hx=>?_,λb o e hx=>?_,λb xs e=>tups b xs (I.base.tups b xs e),λb o xs e=>frzs b o xs (I.base.frzs b o xs e),λb ps e=>?_⟩,?_,λx c e=>?_,?_,λx c e=>?_,λp hp=>?_,hok,I.len⟩
 ·exact keep b o (neL b o e) hb (neC b o e hx) (I.base.keep b o e n hb hx) (I.base.free b o e n hx)
 ·obtain⟨sl,e1⟩:=I.base.slot b o e n hb hx;obtain⟨sl',e2⟩:=slot b _ (neL b o e) hb (neC b o e hx) e1 (I.base.free b o e n hx);exact⟨sl',e2⟩
 ·obtain⟨o',e1⟩:=I.base.there b o e hx;exact free b o' (neC b o e hx) e1 (I.base.free b o e n hx)
 ·obtain⟨o',e1⟩:=I.base.there b o e hx;exact there b o' (neC b o e hx) e1
 ·obtain⟨m1,e1⟩:=I.base.tbls b ps e;obtain⟨m2,e2⟩:=tbls b _ e1;exact⟨m1++m2,by rw[e2,Array.append_assoc]⟩
 ·obtain⟨m,hn,hl⟩:=I.loc;refine⟨m,ns m hn,λi x v e1 e2 e3=>?_⟩;obtain⟨u,r,l⟩:=hl i x v e1 e2 e3;refine⟨u,r,?_⟩;rcases l with l|⟨k,c,e,z⟩
  ·exact .inl l
  ·exact .inr ⟨k,c,e,cellK x c e _ z⟩
 ·obtain⟨v,z⟩:=I.cell x c e;exact⟨v,cellK x c e v z⟩
 ·obtain⟨m,⟨o,_,_,ho,_⟩,_⟩:=I.loc;exact free _ o (λz=>(hch _ z).2.1 rfl) ho I.free
 ·obtain⟨v,o,ho,hd⟩:=I.cell x c e;exact free c o (λz=>(hch c z).2.2.1 x c e rfl) ho (I.freeC x c e)
 ·obtain⟨e,n,ne,nf,d⟩:=I.pin p hp;have nch:p.1∉ch:=λz=>(hch p.1 z).2.2.2 p hp rfl;exact⟨keep p.1 p.2 ne nf nch e n,free p.1 p.2 nch e n,ne,nf,d⟩
theorem zz.un {t':Nat}(I:zz X pins σ H s)(u:Un X.fs [] H H' s.heap h')(hok:Yx X.prog X.w H' h'):zz X pins σ H' {s with heap:=h',toks:=t'}:=by
 obtain⟨m,⟨o,es,ep,ho,r⟩,_⟩:=id I.loc;obtain⟨sl,hL⟩:=u.any ho I.free (by simp);exact I.step (g':=s.gens) (d':=s.drawn) (ch:=[]) (λ_ z=>nomatch z) (λb o _ hb _ e n=>u.keep b o e n hb (by simp)) (λb o _ hb _ e n=>u.slot b o e n hb (by simp)) (λb o _ e n=>u.free b o e n (by simp)) (λb o _ e=>u.there b o e (by simp)) u.tups u.frzs u.tbls (λm' hm=>by
  obtain⟨o',es',ep',ho',r'⟩:=hm;rw[ho]at ho';cases ho';exact⟨_,es',ep',hL,r'⟩) hok I.bare
theorem zz.call {g':Array GenState}{t':Nat}{d':Drawn}{ch:List Addr}(I:zz X pins σ H s)(u:Un (frs X.stack) ch H H' s.heap h')(hok:Yx X.prog X.w H' h')(hg:AllBare g')
  (hch:∀ b∈ch,(b∈X.ex\/X.s_0.heap.objs.size<=b)/\b≠X.env.locals/\(∀ x c,X.env.cells.lookup x=some c->c≠b)/\∀ p∈X.pn++pins,p.1≠b):
  zz X pins σ H' {s with heap:=h',gens:=g',drawn:=d',toks:=t'}:=by
 obtain⟨m,⟨o,es,ep,ho,r⟩,_⟩:=id I.loc;obtain⟨sl,hL⟩:=u.any ho I.free λz=>(hch _ z).2.1 rfl;exact I.step (ch:=ch) hch (λb o hL hb hc e n=>u.keep b o e n (λz=>(z3t.mp (I.stkSub b z)).elim hL hb) hc) (λb o _ _ hc e n=>u.any e n hc) (λb o hc e n=>u.free b o e n hc) (λb o hc e=>u.there b o e hc) u.tups u.frzs u.tbls (λm' hm=>by
  obtain⟨o',es',ep',ho',r'⟩:=hm;rw[ho]at ho';cases ho';exact⟨_,es',ep',hL,r'⟩) hok hg
theorem zz.turned {t':Nat}{it:Addr}(I:zz X pins σ H s)(k:∀ b o,b≠it->s.heap.get? b=some o->h'.get? b=some o)(hn:H it=none)(hL:it≠X.env.locals)
  (h1:it∈X.ex\/X.s_0.heap.objs.size<=it)(h2:∀ x c,X.env.cells.lookup x=some c->c≠it)(h3:∀ p∈X.pn++pins,p.1≠it):zz X pins σ H {s with heap:=h',toks:=t'}:=by
 have nit:∀ b u,H b=some u->b≠it:=λb u e z=>by rw[z,hn]at e;cases e
 refine I.step (g':=s.gens) (d':=s.drawn) (ch:=[it]) (λb hb=>?_) (λb o _ _ hc e _=>k b o (λz=>hc (by simp[z])) e) (λb o _ _ hc e _=>⟨o.slots,k b o (λz=>hc (by simp[z])) e⟩) (λ_ _ _ _ n=>n)
  (λb o hc e=>⟨o,k b o (λz=>hc (by simp[z])) e⟩) (λ_ _ e=>e) (λ_ _ _ e=>e) (λb ps e=>⟨#[],by rw[e];simp⟩) (λm hm=>?_) (λb u e=>?_) I.bare
 ·have e:b=it:=by simpa using hb
  subst e;exact⟨h1,hL,h2,h3⟩
 ·obtain⟨o,es,ep,ho,r⟩:=hm;exact⟨o,es,ep,k _ o (z7c hL) ho,r⟩
 ·refine (I.hok b u e).stay (λc v hc q=>k c v ?_ q) (λ_ q=>q) λ_ _ q=>q;rcases hc with z|z
  ·rw[z];exact nit b u e
  ·exact nit c _ z
theorem zz.tok (I:zz X pins σ H s)(t:Nat):zz X pins σ H {s with toks:=t}:=I.un (h':=s.heap) (t':=t) Un.refl I.hok
theorem zz.kept {t':Nat}(I:zz X pins σ H s)(k:∀ b u,s.heap.get? b=some u->h'.get? b=some u):zz X pins σ H {s with heap:=h',toks:=t'}:=I.un (Un.kept k) (I.hok.kept k)
theorem zz.laid {a:Addr}{o:HO}{t':Nat}(I:zz X pins σ H s)(k:∀ b u,s.heap.get? b=some u->h'.get? b=some u)(hp:s.heap.objs.size<=a)(new:j6 X.prog X.w (upd H a o) h' a o):
  zz X pins σ (upd H a o) {s with heap:=h',toks:=t'}:=I.un (Un.laid k hp (I.hok.fresh hp)) (I.hok.laid k hp new)
theorem zz.write {x e:Addr}{o:HO}{t':Nat}(I:zz X pins σ H s)(mu:Mut (H x))(he:e=x\/H e=some (.own x))(k:∀ b u,b≠e->s.heap.get? b=some u->h'.get? b=some u)(heo:∃ u,h'.get? e=some u)
  (new:j6 X.prog X.w (upd H x o) h' x o):zz X pins σ (upd H x o) {s with heap:=h',toks:=t'}:=I.un (Un.write mu he k heo) (I.hok.write mu he k heo new)
theorem zz.weak {σ':List (Option V)}(I:zz X pins σ H s)(hl:σ'.length=σ.length)(w:∀(i:Nat) v,σ'[i]? =some (some v)->σ[i]? =some (some v)):zz X pins σ' H s:=
 ⟨I.ok,I.os,I.bare,I.base,let ⟨m,hn,hl'⟩:=I.loc;⟨m,hn,λi x v e1 e2 e3=>hl' i x v e1 (w i v e2) e3⟩,I.cell,I.free,I.freeC,I.pin,I.hok,hl.trans I.len⟩
theorem zz.pins_of {pins':List (Addr×Obj)}(I:zz X pins σ H s)(h:∀ p∈pins',s.heap.get? p.1=some p.2/\H p.1=none/\p.1≠X.env.locals/\p.1∉X.fs/\∀ v,p.2.data≠.cell v):zz X pins' σ H s:=
 ⟨I.ok,I.os,I.bare,I.base,I.loc,I.cell,I.free,I.freeC,λp hp=>(z33.mp hp).elim (λz=>I.pin p (z4b _ z)) (h p),I.hok,I.len⟩
theorem Ge {N:List Str}(hN:N.Nodup){i j:Nat}{x:Str}(a:N[i]? =some x)(b:N[j]? =some x):i=j:=by
 obtain⟨h1,e1⟩:=z3b.mp a;obtain⟨h2,e2⟩:=z3b.mp b;exact (List.getElem_inj hN).mp (e1.trans e2.symm)
theorem zch {M:Model}{A:Around}{E:Value->Shared->Prop}{i:Nat}{x:Str}{v:V}{u:Value}{Q:Unit->Shared->Prop}(I:zz X pins σ H s)(hN:X.N.Nodup)(hi:X.N[i]? =some x)(hx:Loc X.env.scope x)(r:jp v u)
  (h:∀ s',zz X pins (σ.set i (some v)) H s'->(∃ a,Heap.SameBut a s.heap s'.heap/\(a=X.env.locals\/X.env.cells.lookup x=some a))->Q () s')(hf:X.fn x=true\/X.env.scope.names.lookup x=some .local:=by first|exact .inl rfl|exact .inr rfl|assumption):wpAny M A (storeName X.env x u) Q E s:=by
 obtain⟨m,hn,hl⟩:=id I.loc;have hcls:(X.env.scope.kind==.class||(X.env.scope.kind==.module&&X.env.locals != X.env.globals))=false:=by rw[I.ok.kind];rfl
 have hiσ:i < σ.length:=by rw[I.len];exact (z3b.mp hi).1
 have cne:=I.cne;have tracked:∀{a:Addr}{h':Heap},(∃ o,s.heap.get? a=some o/\H a=none)->Heap.SameBut a s.heap h'->Yx X.prog X.w H h':=λ{a h'} ha hs b ob e=>by
  obtain⟨_,_,hfree⟩:=ha;refine (I.hok b ob e).stay (λc w' hc q=>(hs.2 c ?_).trans q) (λ_ q=>q) λ_ _ q=>q;rintro rfl;rcases hc with rfl|hc
  ·rw[hfree]at e;cases e
  ·rw[hfree]at hc;cases hc
 rcases hx with hk|hk
 ·refine wpAny_storeName_local hk hn (λh' hn' hs=>?_) hcls;obtain⟨oL,_,_,hoL,_⟩:=id hn;refine h _ ⟨I.ok,I.os,I.bare,⟨λb o e n hb hx=>?_,λb o e n hb hx=>?_,I.base.free,λb o e hx=>?_,I.base.tups,I.base.frzs,I.base.tbls⟩,⟨_,hn',λj y v' e1 e2 e3=>?_⟩,λy c e=>?_,I.free,I.freeC,λp hp=>?_,tracked ⟨oL,hoL,I.free⟩ hs,by simpa using I.len⟩ ⟨_,hs,.inl rfl⟩
  ·exact (hs.2 b (z4a (z3z (z3j e) I.ok.above))).trans (I.base.keep b o e n hb hx)
  ·obtain⟨sl,e1⟩:=I.base.slot b o e n hb hx;exact⟨sl,(hs.2 b (z4a (z3z (z3j e) I.ok.above))).trans e1⟩
  ·obtain⟨o',e1⟩:=I.base.there b o e hx;exact⟨o',(hs.2 b (z4a (z3z (z3j e) I.ok.above))).trans e1⟩
  ·by_cases hj:j=i
   ·subst hj;rw[hi]at e1;cases e1;rw[z8s hiσ]at e2;cases e2;exact⟨u,r,.inl ⟨hk,by simp⟩⟩
   ·rw[z84 (z7c hj)]at e2;obtain⟨u',r',q⟩:=hl j y v' e1 e2 e3;refine⟨u',r',?_⟩;rcases q with ⟨k,e⟩|⟨k,c,e,z⟩
    ·refine .inl ⟨k,?_⟩;have:y≠x:=λe=>hj (Ge hN e1 (e▸hi));simp[this,e]
    ·exact .inr ⟨k,c,e,z.sameBut hs (cne y c e)⟩
  ·obtain⟨w',z⟩:=I.cell y c e;exact⟨w',z.sameBut hs (cne y c e)⟩
  ·obtain⟨e,n,ne,nf,d⟩:=I.pin p hp;exact⟨(hs.2 p.1 ne).trans e,n,ne,nf,d⟩
 ·have hfn:X.fn x=true:=by
   rcases hf with z|z
   ·exact z
   ·rw[z]at hk;cases hk
  obtain⟨c,hc⟩:=I.ok.has x (.inl hk);obtain⟨w',z⟩:=I.cell x c hc;refine wpAny_storeName_cell I.ok.kind hk hc z (λh' hc' hs=>?_);obtain⟨oc,hoc,hocd⟩:=id z;refine h {s with heap:=h'} ⟨I.ok,I.os,I.bare,⟨λb o e n hb hx=>?_,λb o e n hb hx=>?_,I.base.free,λb o e hx=>?_,I.base.tups,I.base.frzs,I.base.tbls⟩,⟨m,hn.sameBut hs (z7c (cne x c hc)),λj y v' e1 e2 e3=>?_⟩,λy c' e=>?_,I.free,I.freeC,λp hp=>?_,tracked ⟨oc,hoc,I.freeC x c hc⟩ hs,by simpa using I.len⟩ ⟨c,hs,.inr hc⟩
  ·exact (hs.2 b (z4a (z3z (z3j e) (I.ok.cab x c hfn hc)))).trans (I.base.keep b o e n hb hx)
  ·obtain⟨sl,e1⟩:=I.base.slot b o e n hb hx;exact⟨sl,(hs.2 b (z4a (z3z (z3j e) (I.ok.cab x c hfn hc)))).trans e1⟩
  ·obtain⟨o',e1⟩:=I.base.there b o e hx;exact⟨o',(hs.2 b (z4a (z3z (z3j e) (I.ok.cab x c hfn hc)))).trans e1⟩
  ·by_cases hj:j=i
   ·subst hj;rw[hi]at e1;cases e1;rw[z8s hiσ]at e2;cases e2;exact⟨u,r,.inr ⟨.inl hk,c,hc,hc'⟩⟩
   ·rw[z84 (z7c hj)]at e2;obtain⟨u',r',q⟩:=hl j y v' e1 e2 e3;refine⟨u',r',?_⟩;rcases q with q|⟨k,c',e,z'⟩
    ·exact .inl q
    ·refine .inr ⟨k,c',e,z'.sameBut hs ?_⟩;rintro rfl;exact hj (Ge hN e1 (I.ok.inj _ _ _ e hc▸hi))
  ·by_cases hcc:c'=c
   ·subst hcc;exact⟨_,hc'⟩
   ·obtain⟨w2,z2⟩:=I.cell y c' e;exact⟨w2,z2.sameBut hs hcc⟩
  ·obtain⟨e,n,ne,nf,d⟩:=I.pin p hp;refine⟨(hs.2 p.1 ?_).trans e,n,ne,nf,d⟩;intro q;rw[q,hoc]at e;have q':oc=p.2:=z3p e;exact d w' (by rw[<-q'];exact hocd)
theorem zad {M:Model}{A:Around}{E:Value->Shared->Prop}{i:Nat}{x:Str}{v:V}{u:Value}{Q:Unit->Shared->Prop}(I:zz X pins σ H s)(hN:X.N.Nodup)(hi:X.N[i]? =some x)(hx:Loc X.env.scope x)(r:jp v u)
  (h:∀ s',zz X pins (σ.set i (some v)) H s'->Q () s')(hf:X.fn x=true\/X.env.scope.names.lookup x=some .local:=by first|exact .inl rfl|exact .inr rfl|assumption):wpAny M A (storeName X.env x u) Q E s:=
 zch I hN hi hx r (λs' I' _=>h s' I') hf
theorem zz.call' {s':Shared}{ch:List Addr}(I:zz X pins σ H s)(ho:s'.os=s.os)(u:Un (frs X.stack) ch H H' s.heap s'.heap)(hok:Yx X.prog X.w H' s'.heap)(hg:AllBare s'.gens)
  (hch:∀ b∈ch,(b∈X.ex\/X.s_0.heap.objs.size<=b)/\b≠X.env.locals/\(∀ x c,X.env.cells.lookup x=some c->c≠b)/\∀ p∈X.pn++pins,p.1≠b):zz X pins σ H' s':=by
 obtain⟨h',g',d',t',o'⟩:=s';have e:o'=s.os:=ho;subst e;exact I.call (g':=g') (t':=t') (d':=d') u hok hg hch
end
abbrev XK:=Value->Option Addr->Hp->Prop
abbrev St:=List (Option V)
abbrev VK:=V->Hp->Prop
abbrev TE:=St->Hp->VK->Prop
abbrev TT:=St->Hp->(Bool->Hp->Prop)->Prop
abbrev TA:=St->Hp->(List V->Hp->Prop)->Prop
structure Wr where
 nx:St->Hp->Prop
 rt:VK
 bk:St->Hp->Prop:=λ_ _=>False
 ct:St->Hp->Prop:=λ_ _=>False
abbrev TS:=Wr->St->Hp->Prop
inductive EP (X:Cx)(pins:List (Addr×Obj))(σ:St)(Q:VK)(u:Value)(s':Shared):Prop
 |mk (v:V) (H':Hp):zz X pins σ H' s'->jp v u->Q v H'->EP X pins σ Q u s'
def TP (X:Cx)(pins:List (Addr×Obj))(σ:St)(Q:Bool->Hp->Prop)(b:Bool)(s':Shared):Prop:=∃ H',zz X pins σ H' s'/\Q b H'
inductive AP (X:Cx)(pins:List (Addr×Obj))(σ:St)(Q:List V->Hp->Prop)(us:List Value)(s':Shared):Prop
 |mk (vs:List V) (H':Hp):zz X pins σ H' s'->jf vs us->Q vs H'->AP X pins σ Q us s'
def SP (X:Cx)(pins:List (Addr×Obj))(D:Wr)(f:Flow)(s':Shared):Prop:=
 match f with
 | .next=>∃ σ' H',zz X pins σ' H' s'/\D.nx σ' H'
 | .brk=>∃ σ' H',zz X pins σ' H' s'/\D.bk σ' H'
 | .cont=>∃ σ' H',zz X pins σ' H' s'/\D.ct σ' H'
 | .ret u=>∃ v σ' H',zz X pins σ' H' s'/\jp v u/\D.rt v H'
def PE (X:Cx)(e:Expr)(t:TE):Prop:=
 ∀(pins:List (Addr×Obj)) (s:Shared) (σ:St) (H:Hp) (Q:VK),zz X pins σ H s->t σ H Q->wpAny (model X.prog X.w) X.A (eval e X.env) (EP X pins σ Q) X.xe s
def PT (X:Cx)(e:Expr)(t:TT):Prop:=
 ∀(pins:List (Addr×Obj)) (s:Shared) (σ:St) (H:Hp) (Q:Bool->Hp->Prop),zz X pins σ H s->t σ H Q->wpAny (model X.prog X.w) X.A (isTrue e X.env (eval e X.env)) (TP X pins σ Q) X.xe s
def PW (X:Cx)(e:Expr)(t:TT):Prop:=
 ∀(whole:Sem Value) (pins:List (Addr×Obj)) (s:Shared) (σ:St) (H:Hp) (Q:Bool->Hp->Prop),zz X pins σ H s->t σ H Q->wpAny (model X.prog X.w) X.A (isTrue e X.env whole) (TP X pins σ Q) X.xe s
theorem PW.pt {X:Cx}{e:Expr}{t:TT}(h:PW X e t):PT X e t:=h _
def PA (X:Cx)(es:List Expr)(t:TA):Prop:=
 ∀(pos:Pos) (pins:List (Addr×Obj)) (s:Shared) (σ:St) (H:Hp) (Q:List V->Hp->Prop),zz X pins σ H s->t σ H Q->wpAny (model X.prog X.w) X.A (spliced (backTo pos (starEach es X.env))) (AP X pins σ Q) X.xe s
def PS (X:Cx)(st:Stmt)(t:TS):Prop:=
 ∀(pins:List (Addr×Obj)) (s:Shared) (σ:St) (H:Hp) (D:Wr),zz X pins σ H s->t D σ H->wpAny (model X.prog X.w) X.A (exec st X.env) (SP X pins D) X.xe s
def PSs (X:Cx)(st:List Stmt)(t:TS):Prop:=
 ∀(pins:List (Addr×Obj)) (s:Shared) (σ:St) (H:Hp) (D:Wr),zz X pins σ H s->t D σ H->wpAny (model X.prog X.w) X.A (execs st X.env) (SP X pins D) X.xe s
theorem yd {α:Type}{t:Sem α}{Q Q':α->Shared->Prop}{M:Model}{A:Around}{E:Value->Shared->Prop}{s:Shared}(h:wpAny M A t Q E s)(hQ:∀ a s,Q a s->Q' a s):wpAny M A t Q' E s:=z6q h hQ λ_ _ x=>x
section
variable {X:Cx}
inductive zuf (i:Nat)(σ:St)(H:Hp)(Q:VK):Prop
 |mk (v:V):σ[i]? =some (some v)->Q v H->zuf i σ H Q
def Ky (i:Nat):TE:=λσ H Q=>zuf i σ H Q
def tC (v:V):TE:=λ_ H Q=>Q v H
theorem zv8 {i:Nat}{x:Str}{pos:Pos}(hN:X.N[i]? =some x)(hv:Vis X.env.scope x)(hd:(x==("__debug__":Str))=false:=by decide)(hcd:(x==("__classdict__":Str))=false:=by decide):PE X (.Name x pos) (Ky i):=by
 intro pins s σ H Q I h;obtain⟨v,e,h⟩:=h;obtain⟨m,hn,hl⟩:=I.loc;obtain⟨u,r,l⟩:=hl i x v hN e hv;have fin:EP X pins σ Q u s:=⟨v,H,I,r,h⟩;rcases l with ⟨hk,hm⟩|⟨hk,c,hc,hcell⟩
 ·exact z94 (z9l I.ok.kind hk hn hm fin) hd
 ·rcases hk with hk|hk
  ·exact z94 (wpAny_loadName_cell I.ok.kind hk hc hcell fin) hd
  ·exact z94 (wpAny_loadName_free I.ok.kind hk hc hcell fin hcd) hd
theorem zi {i j pos}:PE X (.Constant (.int i) j pos) (tC (.int i)):=λ_ _ _ H _ I h=>wpAny_Constant_int ⟨.int i,H,I.tok _,⟨_,rfl⟩,h⟩
theorem vn {b j pos}:PE X (.Constant (.bool b) j pos) (tC (.bl b)):=λ_ _ _ H _ I h=>Constant_bool ⟨.bl b,H,I,rfl,h⟩
theorem Zv {j pos}:PE X (.Constant .none j pos) (tC .non):=λ_ _ _ H _ I h=>Constant_none ⟨.non,H,I,rfl,h⟩
def Gl (X:Cx)(x:Str):Prop:=X.env.kindOf x=some .globalImplicit
theorem W8 {E:Value->Shared->Prop}{pins:List (Addr×Obj)}{s:Shared}{σ:St}{H:Hp}{x:Str}{u:Value}{pos:Pos}{Q:Value->Shared->Prop}(I:zz X pins σ H s)(hg:Gl X x)(hm:X.mg x=some u)(h:Q u s)
  (hd:(x==("__debug__":Str))=false:=by decide):wpAny (model X.prog X.w) X.A (eval (.Name x pos) X.env) Q E s:=
 Calls.Name_function_global I.ok.kind hg (Calls.loadGlobal_global (by rw[I.ok.glob];exact I.mod.glob.keeps I.bk) hm h) hd
theorem vc {E:Value->Shared->Prop}{pins:List (Addr×Obj)}{s:Shared}{σ:St}{H:Hp}{x:Str}{u:Value}{pos:Pos}{Q:Value->Shared->Prop}(I:zz X pins σ H s)(hg:Gl X x)(hm:X.mg x=none)(hv:bootBuiltins x=some u)(h:Q u s)
  (hn:x≠"__name__":=by decide)(hd:(x==("__debug__":Str))=false:=by decide):wpAny (model X.prog X.w) X.A (eval (.Name x pos) X.env) Q E s:=by
 obtain⟨mb,h1,h2⟩:=I.mod.blt;exact Calls.Name_function_global I.ok.kind hg (Calls.loadGlobal_builtin (by rw[I.ok.glob];exact I.mod.glob.keeps I.bk) hm (by rw[I.ok.blt];exact h1.keeps I.bk) ((h2 x hn).trans hv) h) hd
theorem vg {x:Str}{v:V}{u:Value}{pos:Pos}(hg:Gl X x)(hm:X.mg x=some u)(r:jp v u)(hd:(x==("__debug__":Str))=false:=by decide):PE X (.Name x pos) (tC v):=
 λ_ _ _ H _ I h=>W8 I hg hm ⟨v,H,I,r,h⟩ hd
variable {a b:Expr}{ta tb:TE}{pos:Pos}
def PC (X:Cx)(op:CmpOp)(a b:Expr)(t:TE):Prop:=
 ∀(pins:List (Addr×Obj)) (s:Shared) (σ:St) (H:Hp) (Q:VK),zz X pins σ H s->t σ H Q->
  wpAny (model X.prog X.w) X.A (eval a X.env) (λv s₁=>wpAny (model X.prog X.w) X.A (eval b X.env) (λu s₂=>wpAny (model X.prog X.w) X.A (compareOp op v u) (EP X pins σ Q) X.xe s₂) X.xe s₁) X.xe s
inductive ItB (Q:Bool->Hp->Prop)(x:V)(H:Hp):Prop
 |mk (c:Bool):x=.bl c->Q c H->ItB Q x H
def tB (t:TE):TT:=λσ H Q=>t σ H λx H1=>ItB Q x H1
theorem Jo {op:CmpOp}{t:TE}(h:PC X op a b t)(h1:behindInMarks op b=false:=by first|exact nobehind _ (by decide) (by decide)|rfl):PT X (.Compare a [op] [b] pos) (tB t):=by
 intro pins s σ H Q I hw;refine wpAny_isTrue_Compare1 (yd (h pins s σ H _ I hw) λv s1 h1=>yd h1 λu s2 h2=>yd h2 λc s3 ⟨x,H1,I1,r1,q1⟩=>?_) h1;obtain⟨d,rfl,q⟩:=q1;cases r1;exact z6p ⟨H1,I1,q⟩
theorem j4 {e:Expr}{t:TE}(h:PE X e t)(he:∀ whole,isTrue e X.env whole=(do let v <-whole;standAt e.pos;holding [v] (truthy v)):=by intro _;rfl):PT X e (tB t):=by
 intro pins s σ H Q I hw;refine isTrue_plain (yd (h pins s σ H _ I hw) λv s1 ⟨x,H1,I1,r1,q1⟩=>?_) (he _);obtain⟨d,rfl,q⟩:=q1;cases r1;exact z6p ⟨H1,I1,q⟩
variable {tA tB':TT}{rest:List Expr}
def zyr (t u:TT):TT:=λσ H Q=>t σ H λc H1=>if c=true then u σ H1 Q else Q false H1
def tOr (t u:TT):TT:=λσ H Q=>t σ H λc H1=>if c=true then Q true H1 else u σ H1 Q
def z1x (t:TT):TT:=λσ H Q=>t σ H λc H1=>Q (!c) H1
theorem zd3 (ha:PT X a tA):PW X (.BoolOp .And [a] pos) tA:=by
 intro wh pins s σ H Q I h;refine isTrue_and (yd (ha pins s σ H Q I h) λc s1 e=>?_);cases c with
 |true=>exact isTrue_and_nil e
 |false=>exact e
theorem Vo (ha:PT X a tA):PW X (.BoolOp .Or [a] pos) tA:=by
 intro wh pins s σ H Q I h;refine isTrue_or (yd (ha pins s σ H Q I h) λc s1 e=>?_);cases c with
 |false=>exact isTrue_or_nil e
 |true=>exact e
theorem zin (ha:PT X a tA)(hb:PW X (.BoolOp .And (b::rest) pos) tB'):PW X (.BoolOp .And (a::b::rest) pos) (zyr tA tB'):=by
 intro wh pins s σ H Q I h;refine isTrue_and (yd (ha pins s σ H _ I h) λc s1 ⟨H1,I1,q1⟩=>?_);cases c with
 |true=>exact hb wh pins s1 σ H1 Q I1 q1
 |false=>exact⟨H1,I1,q1⟩
theorem zca (ha:PT X a tA)(hb:PW X (.BoolOp .Or (b::rest) pos) tB'):PW X (.BoolOp .Or (a::b::rest) pos) (tOr tA tB'):=by
 intro wh pins s σ H Q I h;refine isTrue_or (yd (ha pins s σ H _ I h) λc s1 ⟨H1,I1,q1⟩=>?_);cases c with
 |true=>exact⟨H1,I1,q1⟩
 |false=>exact hb wh pins s1 σ H1 Q I1 q1
theorem qk (ha:PT X a tA):PT X (.UnaryOp .Not a pos) (z1x tA):=by
 intro pins s σ H Q I h;exact isTrue_not (ha pins s σ H (λc H1=>Q (!c) H1) I h)
def zys (ta tb:TE):TE:=λσ H Q=>ta σ H λx H1=>∃ c,x=.bl c/\if c=true then tb σ H1 Q else Q (.bl false) H1
theorem zdv {op}{t:TE}(h:PE X a t):PE X (.BoolOp op [a] pos) t:=λpins s σ H Q I hw=>BoolOp_one (h pins s σ H Q I hw)
theorem zdu (ha:PE X a ta)(hb:PE X (.BoolOp .And (b::rest) pos) tb):PE X (.BoolOp .And (a::b::rest) pos) (zys ta tb):=by
 intro pins s σ H Q I h;refine BoolOp_and (yd (ha pins s σ H _ I h) λv s1 ⟨x,H1,I1,r1,q1⟩=>?_);obtain⟨c,rfl,q1⟩:=q1;cases r1;refine z6p ?_;cases c with
 |true=>exact hb pins s1 σ H1 Q I1 q1
 |false=>exact⟨.bl false,H1,I1,rfl,q1⟩
def tIf (t:TT)(ta tb:TE):TE:=λσ H Q=>t σ H λc H1=>if c=true then ta σ H1 Q else tb σ H1 Q
theorem Yd {c:Expr}(hc:PT X c tA)(ha:PE X a ta)(hb:PE X b tb):PE X (.IfExp c a b pos) (tIf tA ta tb):=by
 intro pins s σ H Q I h;refine wpAny_IfExp (yd (hc pins s σ H _ I h) λd s1 ⟨H1,I1,q1⟩=>?_);cases d with
 |true=>exact ha pins s1 σ H1 Q I1 q1
 |false=>exact hb pins s1 σ H1 Q I1 q1
end
def zx (K:PySem.W.Frag)(H:Hp)(a:Addr)(xs:List V):Prop:=
 Rd H a (.lst xs)\/
  ∃(o:Obj) (its:Array Value) (n:Nat),K.lookup a=some o/\o.cls=.type "list"/\o.dict=none/\o.data=.seq its n/\its.size<=sizeLine/\jf xs its.toList
def yw (K:PySem.W.Frag)(H:Hp)(a:Addr)(xs:List V):Prop:=
 Rd H a (.tup xs)\/
  ∃(o:Obj) (its:Array Value) (n:Nat),K.lookup a=some o/\o.cls=.type "tuple"/\o.data=.seq its n/\its.size<=sizeLine/\jf xs its.toList
def zzq:Value->Option V
 | .none=>some .non
 | .bool b=>some (.bl b)
 | .int i _=>some (.int i)
 | .str x _=>some (.str x)
 | .bytes b _=>some (.byt b)
 | .float b _=>some (.flt b)
 | .ref a=>some (.ref a)
 | .type n=>some (.ty n)
 |_=>none
theorem jp.abs {x:V}{u:Value}(r:jp x u):zzq u=some x:=by
 cases x with
 |non=>cases r;rfl
 |bl _=>cases r;rfl
 |int _=>obtain⟨t,rfl⟩:=r;rfl
 |str _=>obtain⟨t,rfl⟩:=r;rfl
 |byt _=>obtain⟨t,rfl⟩:=r;rfl
 |flt _=>obtain⟨t,rfl⟩:=r;rfl
 |ref _=>cases r;rfl
 |ty _=>cases r;rfl
theorem jp.inj {x y:V}{u:Value}(r:jp x u)(q:jp y u):x=y:=z3p (r.abs.symm.trans q.abs)
theorem jf.inj:∀{xs ys:List V}{us:List Value},jf xs us->jf ys us->xs=ys
 |_,_,_,.nil,.nil=>rfl
 |_,_,_,.cons r t,.cons r' t'=>by rw[r.inj r',jf.inj t t']
section
variable {X:Cx}{pins:List (Addr×Obj)}{σ:St}{H:Hp}{s:Shared}{a:Addr}{xs ys:List V}
theorem zx.of {K:PySem.W.Frag}(h:H a=some (.lst xs)):zx K H a xs:=.inl (.inl h)
theorem yw.of {K:PySem.W.Frag}(h:H a=some (.tup xs)):yw K H a xs:=.inl (.inl h)
theorem zz.list (I:zz X pins σ H s)(h:zx X.K H a xs):∃ its:List Value,jf xs its/\PlainL s.heap a its.toArray/\xs.length<=sizeLine:=by
 rcases h with h|⟨o,its,n,hk,hc,hd,hs,hz,r⟩
 ·obtain⟨z,its,n,r,e⟩:=h.ok I.hok;exact⟨its,r,⟨_,n,e,rfl,rfl,rfl⟩,z⟩
 ·refine⟨its.toList,r,⟨o,n,I.kIn a o hk,hc,hd,by simpa using hs⟩,?_⟩;have e:=r.length;simp only[z5i]at e;omega
theorem zz.tuple (I:zz X pins σ H s)(h:yw X.K H a xs):∃ its:List Value,jf xs its/\IsTup s.heap a its.toArray/\xs.length<=sizeLine:=by
 rcases h with h|⟨o,its,n,hk,hc,hs,hz,r⟩
 ·obtain⟨z,its,r,p⟩:=h.ok I.hok;exact⟨its,r,p,z⟩
 ·refine⟨its.toList,r,⟨o,I.kIn a o hk,hc,n,by simpa using hs⟩,?_⟩;have e:=r.length;simp only[z5i]at e;omega
theorem zz.list_inj (I:zz X pins σ H s)(h:zx X.K H a xs)(h':zx X.K H a ys):xs=ys:=by
 obtain⟨its,r,⟨o,n,e,_,_,d⟩,_⟩:=I.list h;obtain⟨its',r',⟨o',n',e',_,_,d'⟩,_⟩:=I.list h';rw[e]at e';cases e';rw[d]at d';injection d' with d1 _
 have:its=its':=by simpa using z6a Array.toList d1
 subst this;exact r.inj r'
theorem zz.tuple_inj (I:zz X pins σ H s)(h:yw X.K H a xs)(h':yw X.K H a ys):xs=ys:=by
 obtain⟨its,r,⟨o,e,_,n,d⟩,_⟩:=I.tuple h;obtain⟨its',r',⟨o',e',_,n',d'⟩,_⟩:=I.tuple h';rw[e]at e';cases e';rw[d]at d';injection d' with d1 _
 have:its=its':=by simpa using z6a Array.toList d1
 subst this;exact r.inj r'
end
abbrev Cx.wish (X:Cx)(E:Value->Shared->Prop):Cx:={X with xe:=E}
abbrev Cx.nox (X:Cx):Cx:=X.wish λ_ _=>False
theorem Cx.Ok.wish {X:Cx}(ok:X.Ok)(E:Value->Shared->Prop):(X.wish E).Ok:=
 ⟨ok.mod,ok.kind,ok.glob,ok.blt,ok.above,ok.inj,ok.has,ok.cab,ok.hd,ok.frames,ok.stk,ok.exf,ok.bs,ok.bsz,ok.noex,ok.exfs,ok.funs,ok.frf⟩
theorem Cx.Ok.unwish {X:Cx}{E:Value->Shared->Prop}(ok:(X.wish E).Ok):X.Ok:=
 ⟨ok.mod,ok.kind,ok.glob,ok.blt,ok.above,ok.inj,ok.has,ok.cab,ok.hd,ok.frames,ok.stk,ok.exf,ok.bs,ok.bsz,ok.noex,ok.exfs,ok.funs,ok.frf⟩
section
variable {X:Cx}{pins:List (Addr×Obj)}{σ:St}{H:Hp}{s:Shared}{E:Value->Shared->Prop}
theorem zz.wish (I:zz X pins σ H s)(E:Value->Shared->Prop):zz (X.wish E) pins σ H s:=⟨I.ok.wish E,I.os,I.bare,I.base,I.loc,I.cell,I.free,I.freeC,I.pin,I.hok,I.len⟩
theorem zz.unwish (I:zz (X.wish E) pins σ H s):zz X pins σ H s:=⟨I.ok.unwish,I.os,I.bare,I.base,I.loc,I.cell,I.free,I.freeC,I.pin,I.hok,I.len⟩
theorem SP.unwish {D:Wr}{f:Flow}{s':Shared}(h:SP (X.wish E) pins D f s'):SP X pins D f s':=by
 cases f with
 |next=>obtain⟨σ',H',I,q⟩:=h;exact⟨σ',H',I.unwish,q⟩
 |brk=>obtain⟨σ',H',I,q⟩:=h;exact⟨σ',H',I.unwish,q⟩
 |cont=>obtain⟨σ',H',I,q⟩:=h;exact⟨σ',H',I.unwish,q⟩
 |ret u=>obtain⟨v,σ',H',I,r,q⟩:=h;exact⟨v,σ',H',I.unwish,r,q⟩
theorem PSs.nox {st:List Stmt}{t:TS}(h:PSs X.nox st t):PSs X st t:=λpins s σ H D I hw=>
 z6q (h pins s σ H D (I.wish _) hw) (λ_ _ q=>q.unwish) λ_ _ z=>False.elim z
end
section
variable {X:Cx}{st:Stmt}{rest:List Stmt}{t u:TS}{e:Expr}{te:TE}{pos:Pos}
def zgr:TS:=λD σ H=>D.nx σ H
def zi2 (t u:TS):TS:=λD σ H=>t {D with nx:=u D} σ H
theorem jb:PSs X [] zgr:=λ_ _ σ H _ I h=>z9b ⟨σ,H,I,h⟩
theorem zc (h1:PS X st t)(h2:PSs X rest u):PSs X (st::rest) (zi2 t u):=by
 intro pins s σ H D I h;refine wpAny_execs_cons (yd (h1 pins s σ H {D with nx:=u D} I h) λf s1 q=>?_);cases f with
 |next=>
  obtain⟨σ',H',I',q⟩:=q;exact h2 pins s1 σ' H' D I' q
 |ret v=>exact q
 |brk=>exact q
 |cont=>exact q
theorem zg (h1:PS X st t):PSs X [st] t:=by
 intro pins s σ H D I h;refine wpAny_execs_cons (yd (h1 pins s σ H D I h) λf s1 q=>?_);cases f with
 |next=>exact z9b q
 |ret v=>exact q
 |brk=>exact q
 |cont=>exact q
def zyt:TS:=λD σ H=>D.ct σ H
theorem V8:PS X (.Continue pos) zyt:=λ_ _ σ H _ I h=>wpAny_Continue ⟨σ,H,I,h⟩
theorem zz.quiet {pins:List (Addr×Obj)}{σ:St}{H:Hp}{s:Shared}(I:zz X pins σ H s):interactive X.env=false:=by simp[interactive,I.ok.kind]
def zyw (te:TE):TS:=λD σ H=>te σ H λ_ H1=>D.nx σ H1
theorem yb (he:PE X e te)(hs:swapsWith e none pos.line X.env=pure false:=by rfl):PS X (.Expr e pos) (zyw te):=by
 intro pins s σ H D I h;exact wpAny_Expr_any (yd (he pins s σ H _ I h) λv s1 ⟨x,H1,I1,r1,q1⟩=>⟨σ,H1,I1,q1⟩) I.quiet hs
def zw8 (te:TE):TS:=λD σ H=>te σ H D.rt
theorem zm (he:PE X e te):PS X (.Return (some e) pos) (zw8 te):=by
 intro pins s σ H D I h;exact wpAny_Return_some (yd (he pins s σ H _ I h) λv s1 ⟨x,H1,I1,r1,q1⟩=>⟨x,σ,H1,I1,r1,q1⟩)
def zgq (c:TT)(t u:TS):TS:=λD σ H=>c σ H λb H1=>if b=true then t D σ H1 else u D σ H1
theorem ju {c:Expr}{a b:List Stmt}{tc:TT}(hc:PT X c tc)(ha:PSs X a t)(hb:PSs X b u):PS X (.If c a b pos) (zgq tc t u):=by
 intro pins s σ H D I h;refine wpAny_If (yd (hc pins s σ H _ I h) λd s1 ⟨H1,I1,q1⟩=>?_);cases d with
 |true=>exact ha pins s1 σ H1 D I1 q1
 |false=>exact hb pins s1 σ H1 D I1 q1
end
abbrev TG:=V->St->Hp->(St->Hp->Prop)->Prop
abbrev TGs:=List V->St->Hp->(St->Hp->Prop)->Prop
def PG (X:Cx)(target:Expr)(t:TG):Prop:=
 ∀(pins:List (Addr×Obj)) (s:Shared) (σ:St) (H:Hp) (v:V) (u:Value) (Q:St->Hp->Prop),zz X pins σ H s->jp v u->t v σ H Q->
  wpAny (model X.prog X.w) X.A (assign target X.env u) (λ_ s'=>∃ σ' H',zz X pins σ' H' s'/\Q σ' H') X.xe s
def PGs (X:Cx)(ts:List Expr)(t:TGs):Prop:=
 ∀(pins:List (Addr×Obj)) (s:Shared) (σ:St) (H:Hp) (vs:List V) (us:List Value) (Q:St->Hp->Prop),zz X pins σ H s->jf vs us->t vs σ H Q->
  wpAny (model X.prog X.w) X.A (assignInOrder ((assignEach ts X.env).map (·.2)) us) (λ_ s'=>∃ σ' H',zz X pins σ' H' s'/\Q σ' H') X.xe s
abbrev zu2:=V->V->V->Hp->(Hp->Prop)->Prop
def zxs (X:Cx)(t:zu2):Prop:=
 ∀(pins:List (Addr×Obj)) (s:Shared) (σ:St) (H:Hp) (o i v:V) (ov iv u:Value) (Q:Hp->Prop),zz X pins σ H s->jp o ov->jp i iv->jp v u->t o i v H Q->
  wpAny (model X.prog X.w) X.A (setItem ov iv u) (λ_ s'=>∃ H',zz X pins σ H' s'/\Q H') X.xe s
abbrev TIp:=V->V->Hp->VK->Prop
def PIp (X:Cx)(op:Operator)(t:TIp):Prop:=
 ∀(pins:List (Addr×Obj)) (s:Shared) (σ:St) (H:Hp) (x y:V) (v u:Value) (Q:VK),zz X pins σ H s->jp x v->jp y u->t x y H Q->
  wpAny (model X.prog X.w) X.A (inplaceOp op v u) (EP X pins σ Q) X.xe s
section
variable {X:Cx}{pos:Pos}
def wb (i:Nat):TG:=λv σ H Q=>Q (σ.set i (some v)) H
theorem zt {i:Nat}{x:Str}(hN:X.N.Nodup)(hi:X.N[i]? =some x)(hx:Loc X.env.scope x)(hf:X.fn x=true\/X.env.scope.names.lookup x=some .local:=by first|exact .inl rfl|exact .inr rfl|assumption):PG X (.Name x pos) (wb i):=by
 intro pins s σ H v u Q I r h;exact wpAny_assign_Name (zad I hN hi hx r (λs' I'=>⟨_,H,I',h⟩) hf)
def zvc:TGs:=λvs σ H Q=>vs=[]/\Q σ H
inductive zm5 (t:TG)(u:TGs)(vs:List V)(σ:St)(H:Hp)(Q:St->Hp->Prop):Prop
 |mk (v:V) (r:List V):vs=v::r->(t v σ H λσ' H'=>u r σ' H' Q)->zm5 t u vs σ H Q
def zbw (t:TG)(u:TGs):TGs:=λvs σ H Q=>zm5 t u vs σ H Q
theorem Ud:PGs X [] zvc:=by
 intro pins s σ H vs us Q I r h;obtain⟨e,h⟩:=h;subst e;cases r;exact assignInOrder_nil ⟨σ,H,I,h⟩
theorem xq {e:Expr}{es:List Expr}{t:TG}{u:TGs}(h1:PG X e t)(h2:PGs X es u)
  (hs:(assignEach (e::es) X.env).map (·.2)=assign e X.env::(assignEach es X.env).map (·.2):=by rfl):PGs X (e::es) (zbw t u):=by
 intro pins s σ H vs us Q I r h;obtain⟨v,vr,e1,h⟩:=h;subst e1;cases r with
 |cons r rr=>
  rw[hs];refine assignInOrder_cons (yd (h1 pins s σ H _ _ _ I r h) λ_ s1 ⟨σ1,H1,I1,q1⟩=>?_);exact h2 pins s1 σ1 H1 _ _ Q I1 rr q1
inductive zs7 (K:PySem.W.Frag)(n:Nat)(t:TGs)(v:V)(σ:St)(H:Hp)(Q:St->Hp->Prop):Prop
 |mk (a:Addr) (xs:List V):v=.ref a->yw K H a xs->xs.length=n->t xs σ H Q->zs7 K n t v σ H Q
def zvd (K:PySem.W.Frag)(n:Nat)(t:TGs):TG:=λv σ H Q=>zs7 K n t v σ H Q
theorem zdx {es:List Expr}{k:Nat}{t:TGs}{n:Nat}(hc:X.calm=true)(h:PGs X es t)
  (hn:(assignEach es X.env).length=n:=by rfl)(hst:(assignEach es X.env).findIdx? (·.1)=none:=by rfl):PG X (.Tuple es k pos) (zvd X.K n t):=by
 intro pins s σ H v u Q I r hw;obtain⟨a,xs,e1,hq,hl,hw⟩:=hw;subst e1;cases r;obtain⟨its,rv,ht,hz⟩:=I.tuple hq;refine assign_Tuple_tuple (I.ok.hd hc) ht (by simp[hn,<-hl,rv.length]) hst λh' hx=>?_;have I1:zz X pins σ H {s with heap:=h'}:=I.kept (t':=s.toks) λb o e=>hx b o (z4a (z3j e)) e;exact h pins _ σ H xs _ Q I1 (by simpa using rv) hw
def zzu (to ti:TE)(t:zu2):TG:=λv σ H Q=>to σ H λo H1=>ti σ H1 λi H2=>t o i v H2 λH3=>Q σ H3
theorem zdw {o i:Expr}{to ti:TE}{t:zu2}(ho:PE X o to)(hi:PE X i ti)(hs:zxs X t)
  (ha:∀ v,assign (.Subscript o i pos) X.env v=(do
   let ov <-holding [v] (eval o X.env)
   let iv <-holding [v,ov] (eval i X.env)
   standAt pos
   holding [v,ov,iv] (setItem ov iv v)
   release [v,ov,iv] []):=by intro _;rfl):PG X (.Subscript o i pos) (zzu to ti t):=by
 intro pins s σ H v u Q I r h;rw[ha];refine z26 (z56 (yd (ho pins s σ H _ I h) λov s1 ⟨x,H1,I1,r1,q1⟩=>?_));refine z26 (z56 (yd (hi pins s1 σ H1 _ I1 q1) λiv s2 ⟨y,H2,I2,r2,q2⟩=>?_));refine z26 (wpAny_standAt (z26 (z56 (yd (hs pins s2 σ H2 x y v ov iv u _ I2 r1 r2 r q2) λ_ s3 ⟨H3,I3,q3⟩=>?_))));exact wpAny_release ⟨σ,H3,I3,q3⟩
def zmq (te:TE)(g:TG):TS:=λD σ H=>te σ H λx H1=>g x σ H1 D.nx
theorem zd0 {tg e:Expr}{te:TE}{g:TG}(he:PE X e te)(hg:PG X tg g)(hs:swapsWithSole [tg] e pos.line X.env=pure false:=by rfl)(hw:swappedStores [tg] e X.env=pure none:=by rfl)
  (h1:(assignEach [tg] X.env).map (·.2)=[assign tg X.env]:=by rfl):PS X (.Assign [tg] e pos) (zmq te g):=by
 intro pins s σ H D I h;refine wpAny_Assign_stores (yd (he pins s σ H _ I h) λv s1 ⟨x,H1,I1,r1,q1⟩=>?_) hs hw;rw[h1];exact yd (hg pins s1 σ H1 x v _ I1 r1 q1) λ_ s2 q=>q
theorem zn {i:Nat}{x:Str}{e:Expr}{te:TE}{pos':Pos}(hN:X.N.Nodup)(hi:X.N[i]? =some x)(hx:Loc X.env.scope x)(he:PE X e te)(hs:swapsWith e (some (.Name x pos')) pos.line X.env=pure false:=by rfl)(hf:X.fn x=true\/X.env.scope.names.lookup x=some .local:=by first|exact .inl rfl|exact .inr rfl|assumption):
  PS X (.Assign [.Name x pos'] e pos) (zmq te (wb i)):=by
 intro pins s σ H D I h;refine wpAny_Assign_Name (yd (he pins s σ H _ I h) λv s1 ⟨y,H1,I1,r1,q1⟩=>?_) hs;exact zad I1 hN hi hx r1 (λs2 I2=>⟨_,H1,I2,q1⟩) hf
def z1q (i:Nat)(te:TE)(ti:TIp):TS:=λD σ H=>∃ x,σ[i]? =some (some x)/\te σ H λy H1=>ti x y H1 λz H2=>D.nx (σ.set i (some z)) H2
theorem Vn {i:Nat}{x:Str}{e:Expr}{te:TE}{op:Operator}{ti:TIp}{pos':Pos}(hN:X.N.Nodup)(hi:X.N[i]? =some x)(hx:Loc X.env.scope x)(he:PE X e te)(ho:PIp X op ti)(hf:X.fn x=true\/X.env.scope.names.lookup x=some .local:=by first|exact .inl rfl|exact .inr rfl|assumption):
  PS X (.AugAssign (.Name x pos') op e pos) (z1q i te ti):=by
 intro pins s σ H D I h;obtain⟨v,e1,h⟩:=h;obtain⟨m,hn,hl⟩:=I.loc;have vis:Vis X.env.scope x:=by rcases hx with k|k;exact .inl k;exact .inr (.inl k)
 obtain⟨u,r,l⟩:=hl i x v hi e1 vis;refine wpAny_AugAssign_Name ?_;have go:wpAny (model X.prog X.w) X.A (eval e X.env) (λw s₂=>wpAny (model X.prog X.w) X.A (inplaceOp op u w) (λr s₃=>wpAny (model X.prog X.w) X.A (storeName X.env x r) (λ_=>SP X pins D .next) X.xe s₃) X.xe s₂) X.xe s:=by
  refine yd (he pins s σ H _ I h) λw s1 ⟨y,H1,I1,r1,q1⟩=>?_;refine yd (ho pins s1 σ H1 v y u w _ I1 r r1 q1) λz s2 ⟨zv,H2,I2,r2,q2⟩=>?_;exact zad I2 hN hi hx r2 (λs3 I3=>⟨_,H2,I3,q2⟩) hf
 rcases l with ⟨hk,hm⟩|⟨hk,c,hc,hcell⟩
 ·exact z9l I.ok.kind hk hn hm go
 ·rcases hk with hk|hk
  ·exact wpAny_loadName_cell I.ok.kind hk hc hcell go
  ·rcases hx with k|k
   ·have:X.env.scope.names.lookup x=some .free:=hk;rw[k]at this;cases this
   ·have:X.env.scope.names.lookup x=some .free:=hk;rw[k]at this;cases this
def ipI (f:Int->Int->Int):TIp:=λx y H Q=>∃ i j,x=.int i/\y=.int j/\Q (.int (f i j)) H
theorem Vh:PIp X .Add (ipI λi j=>i+j):=by
 intro pins s σ H x y v u Q I r1 r2 h;obtain⟨i,j,e1,e2,q⟩:=h;subst e1;subst e2;obtain⟨t,rfl⟩:=r1;obtain⟨t',rfl⟩:=r2;exact iadd_int ⟨.int _,H,I.tok _,⟨_,rfl⟩,q⟩
end
section
variable {X:Cx}{pos:Pos}
def zw9 (c:TT)(tb:TS):TS:=λD σ H=>∃ W:Nat->St->Hp->Prop,(∃ m,W m σ H)/\∀ m σ H,W m σ H->
 c σ H λb H1=>if b=true then ∃ N:St->Hp->Prop,(∀ σ' H',N σ' H'->∃ m',m' < m/\W m' σ' H')/\tb {D with nx:=N,ct:=N,bk:=D.nx} σ H1 else D.nx σ H1
theorem Kb {c:Expr}{body:List Stmt}{tc:TT}{tb:TS}(hp:PassesOwn (model X.prog X.w) X.A X.env X.xe)(hc:PT X c tc)(hb:PSs X body tb):PS X (.While c body [] pos) (zw9 tc tb):=by
 intro pins s σ H D I h;obtain⟨W,⟨m0,w0⟩,turn⟩:=h;refine wpAny_While (codeAny_whileLoop (λn s'=>∃ σ' H',zz X pins σ' H' s'/\W n σ' H') ?_ m0 ⟨σ,H,I,w0⟩);rintro n s1 ⟨σ1,H1,I1,w1⟩;refine z64 hp (yd (hc pins s1 σ1 H1 _ I1 (turn n σ1 H1 w1)) λb s2 ⟨H2,I2,q2⟩=>?_);cases b with
 |true=>
  obtain⟨N,hN,q2⟩:=q2;rw[z3m rfl];refine z64 hp (yd (hb pins s2 σ1 H2 _ I2 q2) λf s3 q3=>?_);cases f with
  |next=>
   obtain⟨σ3,H3,I3,n3⟩:=q3;obtain⟨m',hm,w3⟩:=hN σ3 H3 n3;exact⟨m',hm,σ3,H3,I3,w3⟩
  |cont=>
   obtain⟨σ3,H3,I3,n3⟩:=q3;obtain⟨m',hm,w3⟩:=hN σ3 H3 n3;exact⟨m',hm,σ3,H3,I3,w3⟩
  |brk=>exact q3
  |ret v=>exact q3
 |false=>
  rw[z3k z3w];exact z9b ⟨σ1,H2,I2,q2⟩
end
structure It where
 go:Nat->Hp->Prop
 yld:Nat->Hp->V->Hp->Prop
 stop:Nat->Hp->Prop
def Ws (X:Cx)(pins:List (Addr×Obj))(H:Hp)(b:Addr):Prop:=
 H b=none/\b≠X.env.locals/\b∉X.fs/\(b∈X.ex\/X.s_0.heap.objs.size<=b)/\(∀ x c,X.env.cells.lookup x=some c->c≠b)/\∀ p∈X.pn++pins,p.1≠b
theorem zz.fpOk {X:Cx}{pins:List (Addr×Obj)}{σ:St}{H H':Hp}{s:Shared}{b:Addr}(I:zz X pins σ H s)(hb:s.heap.objs.size<=b)(hn:H' b=none):Ws X pins H' b:=by
 refine⟨hn,z4e (z3z I.lt hb),I.nofs hb,.inr (z32 I.sz hb),λx c e z=>?_,λp hp z=>?_⟩
 ·obtain⟨v,q⟩:=I.cell x c e;exact absurd (z3z q.lt (by rw[z];exact hb)) (z5o _)
 ·exact absurd (z3z (z3j (I.pin p hp).1) (by rw[z];exact hb)) (z5o _)
structure Wt (P:Program)(w:World)(K:PySem.W.Frag)(tg:Expr)(J:It)(fp:List Addr)(it:Addr)(tn:Nat->Heap->Prop):Prop where
 mem:it∈fp
 obj:∀ i h,tn i h->∀ b∈fp,∃ o,h.get? b=some o/\∀ v,o.data≠.cell v
 keep:∀ i h h',tn i h->(∀ b∈fp,∀ o,h.get? b=some o->h'.get? b=some o)->tn i h'
 item:∀(X:Cx),X.prog=P->X.w=w->X.K=K->X.calm=true->∀(i:Nat) (pins:List (Addr×Obj)) (s:Shared) (σ:St) (H:Hp) (E:Value->Shared->Prop),zz X pins σ H s->(∀ b∈fp,Ws X pins H b)->tn i s.heap->J.go i H->
  wpAny (model P w) X.A (pyNext (.ref it)) (λr s1=>∃ u,r=some u/\
   wpAny (model P w) X.A (letOwnedTupleGo tg (.ref it) u) (λ_ s2=>∃ x H',zz X pins σ H' s2/\jp x u/\J.yld i H x H'/\tn (i+1) s2.heap/\∀ b∈fp,H' b=none) E s1) E s
 done:∀(X:Cx),X.prog=P->X.w=w->X.K=K->X.calm=true->∀(i:Nat) (pins:List (Addr×Obj)) (s:Shared) (σ:St) (H:Hp) (E:Value->Shared->Prop),zz X pins σ H s->(∀ b∈fp,Ws X pins H b)->tn i s.heap->J.stop i H->
  wpAny (model P w) X.A (pyNext (.ref it)) (λr s1=>r=none/\zz X pins σ H s1) E s
 self:∀(A:Around) (i:Nat) (s:Shared) (Q:Value->Shared->Prop) (E:Value->Shared->Prop),tn i s.heap->Q (.ref it) s->wpAny (model P w) A (pyIter (.ref it)) Q E s
abbrev TI:=St->Hp->(It->Hp->Prop)->Prop
def PIE (X:Cx)(pins:List (Addr×Obj))(σ:St)(tg:Expr)(R:It->Hp->Prop)(itv:Value)(s2:Shared):Prop:=
 ∃(it:Addr) (fp:List Addr) (tn:Nat->Heap->Prop) (J:It) (H':Hp),itv=.ref it/\zz X pins σ H' s2/\Wt X.prog X.w X.K tg J fp it tn/\tn 0 s2.heap/\(∀ b∈fp,Ws X pins H' b)/\R J H'
def PI (X:Cx)(tg iter:Expr)(wi:TI):Prop:=
 ∀(pins:List (Addr×Obj)) (s:Shared) (σ:St) (H:Hp) (R:It->Hp->Prop),zz X pins σ H s->wi σ H R->
  wpAny (model X.prog X.w) X.A (eval iter X.env) (λv s1=>wpAny (model X.prog X.w) X.A (pyIter v) (PIE X pins σ tg R) X.xe s1) X.xe s
theorem zbx {M:Model}{A:Around}{E:Value->Shared->Prop}{s:Shared}{tg:Expr}{it:Addr}{u:Value}{o:Obj}{n:String}{vs:Array Value}{Q:Unit->Shared->Prop}(ho:s.heap.get? it=some o)(hc:o.cls=.type n)(hd:o.data=.fields vs)
  (hn:["enumerate","zip","dict_itemiterator","dict_reverseitemiterator","odict_iterator","itertools.zip_longest","itertools.pairwise"].contains n=false)(hQ:Q () s):wpAny M A (letOwnedTupleGo tg (.ref it) u) Q E s:=by
 unfold letOwnedTupleGo;cases tg<;>first
  |exact z3h hQ
  |(cases u<;>first
    |exact z3h hQ
    |(refine z26 (wpAny_load ho ?_)
      rw[hc,hd];show wpAny M A (if (["enumerate","zip","dict_itemiterator","dict_reverseitemiterator","odict_iterator","itertools.zip_longest","itertools.pairwise"].contains n&&vs[0]? ==some (rawInt _))=true then _ else _) Q E s;rw[z3k (by intro h;rw[hn,z5c]at h;cases h)];exact z3h hQ))
def Itl (K:PySem.W.Frag)(a:Addr):It:=
 ⟨λi H=>∃ xs x,zx K H a xs/\xs[i]? =some x,λi H x H'=>H'=H/\∀ xs,zx K H a xs->xs[i]? =some x,λi H=>∃ xs,zx K H a xs/\xs.length<=i⟩
def Itt (K:PySem.W.Frag)(a:Addr):It:=
 ⟨λi H=>∃ xs x,yw K H a xs/\xs[i]? =some x,λi H x H'=>H'=H/\∀ xs,yw K H a xs->xs[i]? =some x,λi H=>∃ xs,yw K H a xs/\xs.length<=i⟩
def Itr (lo:Int)(n:Nat):It:=⟨λi _=>i < n,λi H x H'=>H'=H/\x=.int (lo+i),λi _=>n<=i⟩
theorem zmw {P:Program}{w:World}{K:PySem.W.Frag}{tg:Expr}(a it:Addr):Wt P w K tg (Itl K a) [it] it (λi h=>h.IsListIter it a i) where
 mem:=by simp
 obj:=λi h st b hb=>by
  have e:b=it:=by simpa using hb
  subst e;obtain⟨o,e,c,d⟩:=st;exact⟨o,e,λv z=>by rw[d]at z;cases z⟩
 keep:=λi h h' st k=>st.at λo e=>k it (by simp) o e
 item:=by
  intro X hP hw hK hc i pins s σ H E I hf st hg;subst hP hw hK;obtain⟨xs,x,hq,hx⟩:=hg;obtain⟨its,rv,p,hz⟩:=I.list hq;obtain⟨u,hu,ru⟩:=rv.get hx;obtain⟨f0,f1,f2,f3,f4,f5⟩:=hf it (by simp);refine wpAny_pyNext_list_item st p.isList (x:=u) (by simpa using hu) λh' st' sb=>?_;have I1:zz X pins σ H {s with heap:=h'}:=I.turned (t':=s.toks) (λb o hb e=>(sb.2 b hb).trans e) f0 f1 f3 f4 f5;obtain⟨o,e,c,d⟩:=id st';exact⟨u,rfl,zbx (s:={s with heap:=h'}) e c d (by decide) ⟨x,H,I1,ru,⟨rfl,λys hy=>by rw[I.list_inj hy hq];exact hx⟩,st',λb hb=>(hf b hb).1⟩⟩
 done:=by
  intro X hP hw hK hc i pins s σ H E I hf st hg;subst hP hw hK;obtain⟨xs,hq,hx⟩:=hg;obtain⟨its,rv,p,hz⟩:=I.list hq;obtain⟨f0,f1,f2,f3,f4,f5⟩:=hf it (by simp);have hl:=rv.length;exact wpAny_pyNext_list_end (I.ok.hd hc) st p.isList (by simp;omega) λh' eb=>⟨rfl,I.turned (t':=s.toks) (λb o hb e=>eb b o hb e) f0 f1 f3 f4 f5⟩
 self:=λ_ _ _ _ _ st h=>wpAny_pyIter_listiter st h
theorem zi7 {P:Program}{w:World}{K:PySem.W.Frag}{tg:Expr}(a it:Addr):Wt P w K tg (Itt K a) [it] it (λi h=>h.IsTupleIter it a i) where
 mem:=by simp
 obj:=λi h st b hb=>by
  have e:b=it:=by simpa using hb
  subst e;obtain⟨o,e,c,d⟩:=st;exact⟨o,e,λv z=>by rw[d]at z;cases z⟩
 keep:=λi h h' st k=>st.at λo e=>k it (by simp) o e
 item:=by
  intro X hP hw hK hc i pins s σ H E I hf st hg;subst hP hw hK;obtain⟨xs,x,hq,hx⟩:=hg;obtain⟨its,rv,p,hz⟩:=I.tuple hq;obtain⟨u,hu,ru⟩:=rv.get hx;obtain⟨f0,f1,f2,f3,f4,f5⟩:=hf it (by simp);refine wpAny_pyNext_tuple_item st (show s.heap.IsTuple a its.toArray from p) (x:=u) (by simpa using hu) λh' st' sb=>?_;have I1:zz X pins σ H {s with heap:=h'}:=I.turned (t':=s.toks) (λb o hb e=>(sb.2 b hb).trans e) f0 f1 f3 f4 f5;obtain⟨o,e,c,d⟩:=id st';exact⟨u,rfl,zbx (s:={s with heap:=h'}) e c d (by decide) ⟨x,H,I1,ru,⟨rfl,λys hy=>by rw[I.tuple_inj hy hq];exact hx⟩,st',λb hb=>(hf b hb).1⟩⟩
 done:=by
  intro X hP hw hK hc i pins s σ H E I hf st hg;subst hP hw hK;obtain⟨xs,hq,hx⟩:=hg;obtain⟨its,rv,p,hz⟩:=I.tuple hq;obtain⟨f0,f1,f2,f3,f4,f5⟩:=hf it (by simp);have hl:=rv.length;exact wpAny_pyNext_tuple_end (I.ok.hd hc) st (show s.heap.IsTuple a its.toArray from p) (by simp;omega) λh' eb=>⟨rfl,I.turned (t':=s.toks) (λb o hb e=>eb b o hb e) f0 f1 f3 f4 f5⟩
 self:=λ_ _ _ _ _ st h=>wpAny_pyIter_tupleiter st h
theorem zi6 {P:Program}{w:World}{K:PySem.W.Frag}{tg:Expr}(it:Addr)(lo:Int)(n:Nat):Wt P w K tg (Itr lo n) [it] it (λi h=>IsRangeIter h it (lo+(i:Nat)*1) ((n:Int) - (i:Nat)) 1) where
 mem:=by simp
 obj:=λi h st b hb=>by
  have e:b=it:=by simpa using hb
  subst e;exact⟨_,st,λv z=>by
   have z':Data.fields _=Data.cell v:=z;cases z'⟩
 keep:=λi h h' st k=>k it (by simp) _ st
 item:=by
  intro X hP hw hK hc i pins s σ H E I hf st hg;subst hP hw hK;obtain⟨f0,f1,f2,f3,f4,f5⟩:=hf it (by simp);have W:=Walks.range (prog:=X.prog) (w:=X.w) (I.ok.hd hc) it lo 1 n;refine W.item i s _ _ hg st λv h' tk hv st' kk=>?_;obtain⟨t,rfl⟩:=hv;have I1:zz X pins σ H {s with heap:=h',toks:=tk}:=I.turned (λb o hb e=>kk b o (by simpa using hb) e) f0 f1 f3 f4 f5;refine⟨_,rfl,zbx (s:={s with heap:=h',toks:=tk}) (n:="range_iterator") st' rfl rfl (by decide) ⟨.int (lo+i),H,I1,⟨t,?_⟩,⟨rfl,rfl⟩,st',λb hb=>(hf b hb).1⟩⟩;rw[Int.mul_one]
 done:=by
  intro X hP hw hK hc i pins s σ H E I hf st hg;subst hP hw hK;obtain⟨f0,f1,f2,f3,f4,f5⟩:=hf it (by simp);exact wpAny_pyNext_range_end (I.ok.hd hc) st (by have:n<=i:=hg;omega) λh' eb=>⟨rfl,I.turned (t':=s.toks) (λb o hb e=>eb b o hb e) f0 f1 f3 f4 f5⟩
 self:=λ_ _ _ _ _ st h=>wpAny_pyIter_rangeiter st h
section
variable {X:Cx}{tg:Expr}
def zx5 (K:PySem.W.Frag)(tl:TE):TI:=λσ H R=>tl σ H λx H1=>∃ a,x=.ref a/\(∃ xs,zx K H1 a xs)/\R (Itl K a) H1
def zzv (K:PySem.W.Frag)(tl:TE):TI:=λσ H R=>tl σ H λx H1=>∃ a,x=.ref a/\(∃ xs,yw K H1 a xs)/\R (Itt K a) H1
theorem jo {l:Expr}{tl:TE}(hl:PE X l tl):PI X tg l (zx5 X.K tl):=by
 intro pins s σ H R I h;refine yd (hl pins s σ H _ I h) λv s1 ⟨x,H1,I1,r1,q1⟩=>?_;obtain⟨a,e,⟨xs,hq⟩,q⟩:=q1;subst e;cases r1;obtain⟨its,rv,p,hz⟩:=I1.list hq;refine z7x p.isList ?_;refine⟨s1.heap.objs.size,[s1.heap.objs.size],_,_,H1,rfl,I1.kept (t':=s1.toks) λb o e=>z29 _ e,zmw a _,⟨_,z3o _ rfl,rfl,rfl⟩,λb hb=>?_,q⟩;have e:b=s1.heap.objs.size:=by simpa using hb
 subst e;exact I1.fpOk (z3c _) (I1.hok.fresh (z3c _))
theorem zo8 {l:Expr}{tl:TE}(hl:PE X l tl):PI X tg l (zzv X.K tl):=by
 intro pins s σ H R I h;refine yd (hl pins s σ H _ I h) λv s1 ⟨x,H1,I1,r1,q1⟩=>?_;obtain⟨a,e,⟨xs,hq⟩,q⟩:=q1;subst e;cases r1;obtain⟨its,rv,p,hz⟩:=I1.tuple hq;refine wpAny_pyIter_tuple (show s1.heap.IsTuple a its.toArray from p) ?_;refine⟨s1.heap.objs.size,[s1.heap.objs.size],_,_,H1,rfl,I1.kept (t':=s1.toks) λb o e=>z29 _ e,zi7 a _,⟨_,z3o _ rfl,rfl,rfl⟩,λb hb=>?_,q⟩;have e:b=s1.heap.objs.size:=by simpa using hb
 subst e;exact I1.fpOk (z3c _) (I1.hok.fresh (z3c _))
theorem zpe {pins:List (Addr×Obj)}{σ:St}{H:Hp}{s:Shared}{R:It->Hp->Prop}{E:Value->Shared->Prop}{lo hi:Int}{t u v:Tok}{tk:Nat}(I:zz X pins σ H s)(h1: -(2 ^ 62)<=lo)(h2:lo < 2 ^ 62)(h3: -(2 ^ 62)<=hi)(h4:hi < 2 ^ 62)
  (q:R (Itr lo (hi - lo).toNat) H):wpAny (model X.prog X.w) X.A (pyIter (.ref s.heap.objs.size)) (PIE X pins σ tg R) E {s with heap:=s.heap.push {cls:=.type "range",data:=.fields #[.int lo t,.int hi u,.int 1 v]},toks:=tk}:=by
 refine wpAny_pyIter_range (IsRange.new ..) (small_one h1 h2 h3 h4) ?_;have I1:zz X pins σ H {s with heap:=s.heap.push {cls:=.type "range",data:=.fields #[.int lo t,.int hi u,.int 1 v]},toks:=tk}:=I.kept λb o e=>z29 _ e;refine⟨(s.heap.push {cls:=.type "range",data:=.fields #[.int lo t,.int hi u,.int 1 v]}).objs.size,[(s.heap.push {cls:=.type "range",data:=.fields #[.int lo t,.int hi u,.int 1 v]}).objs.size],_,_,H,rfl,
  I1.kept (t':=tk) λb o e=>z29 _ e,zi6 _ lo (hi - lo).toNat,?_,λb hb=>?_,q⟩
 ·have e1:lo+((0:Nat):Int)*1=lo:=by simp
  have e2:(((hi - lo).toNat:Nat):Int) - ((0:Nat):Int)=Builtin.Range.rangeSize lo hi 1:=by rw[rangeSize_one];split<;>omega
  show IsRangeIter _ _ (lo+((0:Nat):Int)*1) ((((hi - lo).toNat:Nat):Int) - ((0:Nat):Int)) 1;rw[e1,e2];exact z3o _ rfl
 ·have e:b=(s.heap.push {cls:=.type "range",data:=.fields #[.int lo t,.int hi u,.int 1 v]}).objs.size:=by simpa using hb
  subst e;exact I1.fpOk (z3c _) (I1.hok.fresh (z3c _))
def zx6 (ta:TA):TI:=λσ H R=>ta σ H λvs H1=>∃ j:Int,vs=[.int j]/\-(2 ^ 62)<=j/\j < 2 ^ 62/\R (Itr 0 j.toNat) H1
theorem yp {a:Expr}{ta:TA}{p pos:Pos}(hg:Gl X "range")(hm:X.mg "range"=none)(ha:PA X [a] ta)(hs:starEach [a] X.env=[(false,eval a X.env)]:=by rfl):PI X tg (.Call (.Name "range" p) [a] [] pos) (zx6 ta):=by
 intro pins s σ H R I h;refine Call_ (vc I hg hm boot_range (z4y (yd (ha pos pins s σ H _ I h) λus s1 ⟨vs,H1,I1,r1,q1⟩=>?_) hs rfl));obtain⟨j,e,q1,q2,q⟩:=q1;subst e;cases r1 with
 |cons r rr=>
  cases rr;obtain⟨t,rfl⟩:=r;exact call_range_1 (zpe I1 (by omega) (by omega) q1 q2 (by simpa using q))
def z1u (wi:TI)(g:TG)(tb:TS):TS:=λD σ H=>wi σ H λJ H1=>∃ W:Nat->Nat->St->Hp->Prop,(∃ m,W 0 m σ H1)/\∀ i m σ H,W i m σ H->
 (J.stop i H/\D.nx σ H)\/(J.go i H/\∃ N:St->Hp->Prop,(∀ σ' H',N σ' H'->∃ m',m' < m/\W (i+1) m' σ' H')/\∀ x H',J.yld i H x H'->g x σ H' λσ2 H2=>tb {D with nx:=N,ct:=N,bk:=D.nx} σ2 H2)
def Gu (fp:List Addr)(h:Heap):List (Addr×Obj):=fp.filterMap λb=>(h.get? b).map λo=>(b,o)
theorem Xe {fp:List Addr}{h:Heap}{b:Addr}{o:Obj}(hb:b∈fp)(e:h.get? b=some o):(b,o)∈Gu fp h:=z55.mpr ⟨b,hb,by rw[e];rfl⟩
theorem zl8 {fp:List Addr}{h:Heap}{p:Addr×Obj}(hp:p∈Gu fp h):p.1∈fp/\h.get? p.1=some p.2:=by
 obtain⟨b,hb,e⟩:=z55.mp hp;cases q:h.get? b with
 |none=>rw[q]at e;cases e
 |some o=>
  rw[q]at e;have e':(b,o)=p:=z3p e;subst e';exact⟨hb,q⟩
theorem zz.pinned {pins:List (Addr×Obj)}{σ:St}{H:Hp}{s:Shared}{fp:List Addr}(I:zz X pins σ H s)(hf:∀ b∈fp,Ws X pins H b)(ho:∀ b∈fp,∃ o,s.heap.get? b=some o/\∀ v,o.data≠.cell v):zz X (pins++Gu fp s.heap) σ H s:=
 I.pins_of λp hp=>(z33.mp hp).elim (λz=>I.pin p (z38 _ z)) λz=>by
  obtain⟨hb,e⟩:=zl8 z;obtain⟨f0,f1,f2,_⟩:=hf p.1 hb;obtain⟨o,e',d⟩:=ho p.1 hb;rw[e]at e';cases e';exact⟨e,f0,f1,f2,d⟩
theorem zz.unpinned {pins pl:List (Addr×Obj)}{σ:St}{H:Hp}{s:Shared}(I:zz X (pins++pl) σ H s):zz X pins σ H s:=I.pins_of λp hp=>I.pin p (z38 _ (z4b _ hp))
theorem jt {iter:Expr}{body:List Stmt}{wi:TI}{g:TG}{tb:TS}{pos:Pos}(hp:PassesOwn (model X.prog X.w) X.A X.env X.xe)(hc:X.calm=true)(hi:PI X tg iter wi)(hg:PG X tg g)(hb:PSs X body tb)
  (hs:∀ x,foldedSetIterable iter X.env x=pure x:=by intro _;rfl):PS X (.For tg iter body [] pos) (z1u wi g tb):=by
 intro pins s σ H D I h;refine wpAny_For (yd (hi pins s σ H _ I h) λv s1 h1=>yd h1 λitv s2 h2=>?_) hs;obtain⟨it,fp,tn,J,H2,e,I2,T,st2,f2,W,⟨m0,w0⟩,turn⟩:=h2;subst e;have stat:∀{H':Hp},(∀ b∈fp,H' b=none)->∀ b∈fp,Ws X pins H' b:=λhn b hb=>⟨hn b hb,(f2 b hb).2⟩;refine codeAny_forLoop_any (λn s'=>∃ i σ' H',zz X pins σ' H' s'/\tn i s'.heap/\(∀ b∈fp,H' b=none)/\W i n σ' H') ?_ m0 ⟨0,σ,H2,I2,st2,λb hb=>(f2 b hb).1,w0⟩;rintro n s3 ⟨i,σ3,H3,I3,st3,fr3,w3⟩;rcases turn i n σ3 H3 w3 with ⟨stop,qn⟩|⟨go,N,hN,step⟩
 ·refine z64 hp (yd (T.done X rfl rfl rfl hc i pins s3 σ3 H3 X.xe I3 (stat fr3) st3 stop) λr s4 ⟨hr,I4⟩=>?_);subst hr;exact z9b ⟨σ3,H3,I4,qn⟩
 ·refine z64 hp (yd (T.item X rfl rfl rfl hc i pins s3 σ3 H3 X.xe I3 (stat fr3) st3 go) λr s4 ⟨u,hr,h4⟩=>?_);subst hr;refine z64 hp (yd h4 λ_ s5 ⟨x,H5,I5,r5,y5,st5,fr5⟩=>?_);have I5':=I5.pinned (stat fr5) (T.obj _ _ st5);refine z64 hp (yd (hg _ s5 σ3 H5 x u _ I5' r5 (step x H5 y5)) λ_ s6 ⟨σ6,H6,I6,q6⟩=>?_);refine z64 hp (yd (hb _ s6 σ6 H6 _ I6 q6) λf s7 q7=>?_);have again:∀{σ7:St}{H7:Hp},zz X (pins++Gu fp s5.heap) σ7 H7 s7->N σ7 H7->∃ m,m < n/\∃ i σ' H',zz X pins σ' H' s7/\tn i s7.heap/\(∀ b∈fp,H' b=none)/\W i m σ' H':=λ{σ7 H7} I7 n7=>by
   obtain⟨m',hm,w7⟩:=hN σ7 H7 n7;refine⟨m',hm,i+1,σ7,H7,I7.unpinned,T.keep _ _ _ st5 λb hb o e=>(I7.pin (b,o) (z38 _ (z38 _ (Xe hb e)))).1,λb hb=>?_,w7⟩;obtain⟨o,e,d⟩:=T.obj _ _ st5 b hb;exact (I7.pin (b,o) (z38 _ (z38 _ (Xe hb e)))).2.1
  cases f with
  |next=>obtain⟨σ7,H7,I7,n7⟩:=q7;exact again I7 n7
  |cont=>obtain⟨σ7,H7,I7,n7⟩:=q7;exact again I7 n7
  |brk=>obtain⟨σ7,H7,I7,q7⟩:=q7;exact⟨σ7,H7,I7.unpinned,q7⟩
  |ret v=>obtain⟨x7,σ7,H7,I7,r7,q7⟩:=q7;exact⟨x7,σ7,H7,I7.unpinned,r7,q7⟩
end
theorem zoa {K:PySem.W.Frag}{a:Addr}{xs:List V}{g:TG}{tb:TS}{D:Wr}{σ:St}{H:Hp}(Pv:Nat->St->Hp->Prop)(h0:Pv 0 σ H)(hl:∀ i σ H,i<=xs.length->Pv i σ H->zx K H a xs)
  (hs:∀ i x σ H,xs[i]? =some x->Pv i σ H->g x σ H λσ2 H2=>tb {D with nx:=Pv (i+1),ct:=Pv (i+1),bk:=D.nx} σ2 H2)(hd:∀ σ H,Pv xs.length σ H->D.nx σ H):
  ∃ W:Nat->Nat->St->Hp->Prop,(∃ m,W 0 m σ H)/\∀ i m σ H,W i m σ H->
   ((Itl K a).stop i H/\D.nx σ H)\/((Itl K a).go i H/\∃ N:St->Hp->Prop,(∀ σ' H',N σ' H'->∃ m',m' < m/\W (i+1) m' σ' H')/\∀ x H',(Itl K a).yld i H x H'->g x σ H' λσ2 H2=>tb {D with nx:=N,ct:=N,bk:=D.nx} σ2 H2):=by
 refine⟨λi m σ H=>m=xs.length - i/\i<=xs.length/\Pv i σ H,⟨xs.length,by simp,z4c _,h0⟩,?_⟩;rintro i m σ H ⟨rfl,hi,p⟩;have q:=hl i σ H hi p;by_cases hlt:i < xs.length
 ·refine .inr ⟨⟨xs,xs[i],q,by simp[hlt]⟩,Pv (i+1),λσ' H' p'=>⟨xs.length - (i+1),by omega,rfl,hlt,p'⟩,λx H' y=>?_⟩;obtain⟨e,y⟩:=y;subst e;exact hs i x σ _ (y xs q) p
 ·have e:i=xs.length:=by omega
  subst e;exact .inl ⟨⟨xs,q,z3c _⟩,hd σ H p⟩
theorem zlp {lo:Int}{n:Nat}{g:TG}{tb:TS}{D:Wr}{σ:St}{H:Hp}(Pv:Nat->St->Hp->Prop)(h0:Pv 0 σ H)
  (hs:∀ i σ H,i < n->Pv i σ H->g (.int (lo+i)) σ H λσ2 H2=>tb {D with nx:=Pv (i+1),ct:=Pv (i+1),bk:=D.nx} σ2 H2)(hd:∀ σ H,Pv n σ H->D.nx σ H):
  ∃ W:Nat->Nat->St->Hp->Prop,(∃ m,W 0 m σ H)/\∀ i m σ H,W i m σ H->
   ((Itr lo n).stop i H/\D.nx σ H)\/((Itr lo n).go i H/\∃ N:St->Hp->Prop,(∀ σ' H',N σ' H'->∃ m',m' < m/\W (i+1) m' σ' H')/\∀ x H',(Itr lo n).yld i H x H'->g x σ H' λσ2 H2=>tb {D with nx:=N,ct:=N,bk:=D.nx} σ2 H2):=by
 refine⟨λi m σ H=>m=n - i/\i<=n/\Pv i σ H,⟨n,by simp,z4c _,h0⟩,?_⟩;rintro i m σ H ⟨rfl,hi,p⟩;by_cases hlt:i < n
 ·refine .inr ⟨hlt,Pv (i+1),λσ' H' p'=>⟨n - (i+1),by omega,rfl,hlt,p'⟩,λx H' y=>?_⟩;obtain⟨e,y⟩:=y;subst e y;exact hs i σ _ hlt p
 ·have e:i=n:=by omega
  subst e;exact .inl ⟨z3c _,hd σ H p⟩
abbrev R2:=V->V->Hp->VK->Prop
def K5 (X:Cx)(f:Value->Value->Sem Value)(r:R2):Prop:=
 ∀(pins:List (Addr×Obj)) (s:Shared) (σ:St) (H:Hp) (x y:V) (v u:Value) (Q:VK),zz X pins σ H s->jp x v->jp y u->r x y H Q->
  wpAny (model X.prog X.w) X.A (f v u) (EP X pins σ Q) X.xe s
def UnR (X:Cx)(f:Value->Sem Value)(r:V->Hp->VK->Prop):Prop:=
 ∀(pins:List (Addr×Obj)) (s:Shared) (σ:St) (H:Hp) (x:V) (v:Value) (Q:VK),zz X pins σ H s->jp x v->r x H Q->
  wpAny (model X.prog X.w) X.A (f v) (EP X pins σ Q) X.xe s
def Zz (X:Cx)(f:Value)(r:List V->Hp->VK->Prop):Prop:=
 ∀(pins:List (Addr×Obj)) (s:Shared) (σ:St) (H:Hp) (xs:List V) (us:List Value) (Q:VK),zz X pins σ H s->jf xs us->r xs H Q->
  wpAny (model X.prog X.w) X.A (call f us) (EP X pins σ Q) X.xe s
def tOp (r:R2)(ta tb:TE):TE:=λσ H Q=>ta σ H λx H1=>tb σ H1 λy H2=>r x y H2 Q
def tUn (r:V->Hp->VK->Prop)(ta:TE):TE:=λσ H Q=>ta σ H λx H1=>r x H1 Q
inductive IrI (C:Int->Int->Prop)(g:Int->Int->V)(x y:V)(H:Hp)(Q:VK):Prop
 |mk (i j:Int):x=.int i->y=.int j->(C i j/\Q (g i j) H)->IrI C g x y H Q
def rI (C:Int->Int->Prop)(g:Int->Int->V):R2:=λx y H Q=>IrI C g x y H Q
inductive zxj (g:Int->Int->V)(x y:V)(H:Hp)(Q:VK):Prop
 |mk (i j:Int):x=.int i->y=.int j->Q (g i j) H->zxj g x y H Q
def rI0 (g:Int->Int->V):R2:=λx y H Q=>zxj g x y H Q
def rU (g:Int->V):V->Hp->VK->Prop:=λx H Q=>∃ i,x=.int i/\Q (g i) H
section
variable {X:Cx}{a b c:Expr}{ta tb tc:TE}{pos:Pos}
theorem zu4 (ha:PE X a ta)(hb:PE X b tb){pins:List (Addr×Obj)}{s:Shared}{σ:St}{H:Hp}{R:V->V->Hp->Prop}(I:zz X pins σ H s)
  (h:ta σ H λx H1=>tb σ H1 λy H2=>R x y H2){Q:Value->Shared->Prop}{f:Value->Value->Sem Value}
  (hf:∀ v u s2 x y H2,zz X pins σ H2 s2->jp x v->jp y u->R x y H2->wpAny (model X.prog X.w) X.A (f v u) Q X.xe s2):
  wpAny (model X.prog X.w) X.A (eval a X.env) (λv s₁=>wpAny (model X.prog X.w) X.A (eval b X.env) (λu s₂=>wpAny (model X.prog X.w) X.A (f v u) Q X.xe s₂) X.xe s₁) X.xe s:=by
 refine yd (ha pins s σ H _ I h) λv s1 ⟨x,H1,I1,r1,q1⟩=>?_;refine yd (hb pins s1 σ H1 _ I1 q1) λu s2 ⟨y,H2,I2,r2,q2⟩=>?_;exact hf v u s2 x y H2 I2 r1 r2 q2
theorem jd {op:Operator}{r:R2}(ho:K5 X (binaryOp op) r)(ha:PE X a ta)(hb:PE X b tb):PE X (.BinOp a op b pos) (tOp r ta tb):=by
 intro pins s σ H Q I h;exact wpAny_BinOp (zu4 ha hb I h λv u s2 x y H2 I2 rx ry q=>ho pins s2 σ H2 x y v u Q I2 rx ry q)
theorem zkg {op:UnaryOp}{r:V->Hp->VK->Prop}(ho:UnR X (unaryOp op) r)(ha:PE X a ta):PE X (.UnaryOp op a pos) (tUn r ta):=by
 intro pins s σ H Q I h;exact UnaryOp_ (yd (ha pins s σ H _ I h) λv s1 ⟨x,H1,I1,r1,q1⟩=>ho pins s1 σ H1 x v Q I1 r1 q1)
theorem opI {f:Value->Value->Sem Value}{C:Int->Int->Prop}{g:Int->Int->Int}
  (rule:∀(i j:Int) (t u:Tok) (s:Shared) (Q:Value->Shared->Prop) (E:Value->Shared->Prop),C i j->Q (.int (g i j) s.toks) {s with toks:=s.toks+1}->wpAny (model X.prog X.w) X.A (f (.int i t) (.int j u)) Q E s):
  K5 X f (rI C λi j=>.int (g i j)):=by
 intro pins s σ H x y v u Q I rx ry h;obtain⟨i,j,rfl,rfl,hc,q⟩:=h;obtain⟨t,rfl⟩:=rx;obtain⟨t',rfl⟩:=ry;exact rule i j t t' s _ _ hc ⟨.int (g i j),H,I.tok _,⟨_,rfl⟩,q⟩
theorem zoz {f:Value->Value->Sem Value}{g:Int->Int->Int}
  (rule:∀(i j:Int) (t u:Tok) (s:Shared) (Q:Value->Shared->Prop) (E:Value->Shared->Prop),Q (.int (g i j) s.toks) {s with toks:=s.toks+1}->wpAny (model X.prog X.w) X.A (f (.int i t) (.int j u)) Q E s):
  K5 X f (rI0 λi j=>.int (g i j)):=by
 intro pins s σ H x y v u Q I rx ry h;obtain⟨i,j,rfl,rfl,q⟩:=h;obtain⟨t,rfl⟩:=rx;obtain⟨t',rfl⟩:=ry;exact rule i j t t' s _ _ ⟨.int (g i j),H,I.tok _,⟨_,rfl⟩,q⟩
theorem zvy {f:Value->Value->Sem Value}{g:Int->Int->Bool}
  (rule:∀(i j:Int) (t u:Tok) (s:Shared) (Q:Value->Shared->Prop) (E:Value->Shared->Prop),Q (.bool (g i j)) s->wpAny (model X.prog X.w) X.A (f (.int i t) (.int j u)) Q E s):
  K5 X f (rI0 λi j=>.bl (g i j)):=by
 intro pins s σ H x y v u Q I rx ry h;obtain⟨i,j,rfl,rfl,q⟩:=h;obtain⟨t,rfl⟩:=rx;obtain⟨t',rfl⟩:=ry;exact rule i j t t' s _ _ ⟨.bl (g i j),H,I,rfl,q⟩
def zzh (i j:Int):Prop:=0<=j/\j<=1000000/\i.natAbs < 2 ^ 64
def zuz (i j:Int):Prop:=(-(2 ^ 64) < i/\i < 2 ^ 64)\/(-(2 ^ 64) < j/\j < 2 ^ 64)
theorem zuz.ok {i j:Int}(h:zuz i j):IntMulOk i j:=by
 rcases h with ⟨h1,h2⟩|⟨h1,h2⟩
 ·exact .of_left (intBits_le_64 h1 h2)
 ·exact .of_right (intBits_le_64 h1 h2)
theorem zi8 (k:Nat):(0:Int)<=2 ^ k:=by
 rw[two_pow_cast];exact Int.natCast_nonneg _
theorem yj:K5 X (binaryOp .Add) (rI0 λi j=>.int (i+j)):=zoz λ_ _ _ _ _ _ _ q=>add_int q
theorem Zc:K5 X (binaryOp .Sub) (rI0 λi j=>.int (i - j)):=zoz λ_ _ _ _ _ _ _ q=>sub_int q
theorem Zu:K5 X (binaryOp .Mult) (rI zuz λi j=>.int (i*j)):=opI λ_ _ _ _ _ _ _ hc q=>mul_int q hc.ok
theorem zdr:K5 X (binaryOp .Mod) (rI (λ_ j=>0 < j) λi j=>.int (i % j)):=opI λi j _ _ _ _ _ hc q=>by
 have h1:(0:Int) < j:=hc;exact mod_int' (by omega) (by rw[Int.fmod_eq_emod_of_nonneg i (by omega)];exact q)
theorem zii:K5 X (binaryOp .LShift) (rI zzh λi j=>.int (i*2 ^ j.toNat)):=opI λ_ _ _ _ _ _ _ hc q=>lshift_int_small hc.1 hc.2.1 hc.2.2 q
theorem zv1:K5 X (binaryOp .RShift) (rI (λ_ j=>0<=j) λi j=>.int (i / 2 ^ j.toNat)):=opI λi j _ _ _ _ _ hc q=>
 rshift_int hc (by rw[Int.fdiv_eq_ediv_of_nonneg i (zi8 _)];exact q)
theorem zo0:K5 X (binaryOp .BitAnd) (rI0 λi j=>.int (Builtin.bitAnd i j)):=zoz λ_ _ _ _ _ _ _ q=>and_int q
theorem zyd:K5 X (binaryOp .BitOr) (rI0 λi j=>.int (Builtin.bitOr i j)):=zoz λ_ _ _ _ _ _ _ q=>or_int q
theorem zv2:K5 X (binaryOp .BitXor) (rI0 λi j=>.int (Builtin.bitXor i j)):=zoz λ_ _ _ _ _ _ _ q=>xor_int q
theorem unI {f:Value->Sem Value}{g:Int->Int}
  (rule:∀(i:Int) (t:Tok) (s:Shared) (Q:Value->Shared->Prop) (E:Value->Shared->Prop),Q (.int (g i) s.toks) {s with toks:=s.toks+1}->wpAny (model X.prog X.w) X.A (f (.int i t)) Q E s):
  UnR X f (rU λi=>.int (g i)):=by
 intro pins s σ H x v Q I rx h;obtain⟨i,rfl,q⟩:=h;obtain⟨t,rfl⟩:=rx;exact rule i t s _ _ ⟨.int (g i),H,I.tok _,⟨_,rfl⟩,q⟩
theorem zei:UnR X (unaryOp .USub) (rU λi=>.int (-i)):=unI λ_ _ _ _ _ q=>neg_int q
end
def zyn:V->V->Bool
 | .non,.non=>true| .non,.int _=>true| .int _,.non=>true| .non,.bl _=>true| .bl _,.non=>true| .non,.str _=>true| .str _,.non=>true
 | .int _,.int _=>true| .bl _,.bl _=>true| .str _,.str _=>true| .byt _,.byt _=>true
 | .int _,.str _=>true| .str _,.int _=>true| .bl _,.str _=>true| .str _,.bl _=>true
 |_,_=>false
def rEq:R2:=λx y H Q=>zyn x y=true/\Q (.bl (decide (x=y))) H
def rNe:R2:=λx y H Q=>zyn x y=true/\Q (.bl (!decide (x=y))) H
theorem zjx {i j:Int}:decide (V.int i=V.int j)=(i==j):=by
 rw[z4l];simp
theorem znz {i j:Bool}:decide (V.bl i=V.bl j)=(i==j):=by
 rw[z4l];simp
theorem zjy {i j:Str}:decide (V.str i=V.str j)=(i==j):=by
 rw[z4l];simp
theorem zjw {i j:Array UInt8}:decide (V.byt i=V.byt j)=(i.toList==j.toList):=by
 rw[z4l];cases i;cases j;simp
section
variable {X:Cx}{a b c:Expr}{ta tb tc:TE}{pos:Pos}
theorem jy {pins:List (Addr×Obj)}{σ:St}{H:Hp}{s:Shared}{Q:VK}{k k':Bool}(I:zz X pins σ H s)(q:Q (.bl k) H)(e:k=k'):EP X pins σ Q (.bool k') s:=by
 subst e;exact⟨.bl k,H,I,rfl,q⟩
theorem Zm:K5 X (compareOp .Eq) rEq:=by
 intro pins s σ H x y v u Q I rx ry h;obtain⟨hs,q⟩:=h;cases x with
 |non=>
  cases rx;cases y with
  |non=>cases ry;exact PySem.EqNone.eq_none_none (jy I q (by simp))
  |bl j=>cases ry;exact PySem.EqNone.eq_none_bool (jy I q (by simp))
  |int j=>obtain⟨t',rfl⟩:=ry;exact PySem.EqNone.eq_none_int (jy I q (by simp))
  |str j=>obtain⟨t',rfl⟩:=ry;exact PySem.EqNone.eq_none_str (jy I q (by simp))
  |_=>exact absurd (show false=true from hs) z3w
 |bl i=>
  cases rx;cases y with
  |non=>cases ry;exact PySem.EqNone.eq_bool_none (jy I q (by simp))
  |bl j=>cases ry;exact eq_bool (jy I q znz)
  |str j=>obtain⟨t',rfl⟩:=ry;exact PySem.EqMixed.eq_bool_str (jy I q (by simp))
  |_=>exact absurd (show false=true from hs) z3w
 |int i=>
  obtain⟨t,rfl⟩:=rx;cases y with
  |non=>cases ry;exact PySem.EqNone.eq_int_none (jy I q (by simp))
  |int j=>obtain⟨t',rfl⟩:=ry;exact eq_int (jy I q zjx)
  |str j=>obtain⟨t',rfl⟩:=ry;exact PySem.EqMixed.eq_int_str (jy I q (by simp))
  |_=>exact absurd (show false=true from hs) z3w
 |str i=>
  obtain⟨t,rfl⟩:=rx;cases y with
  |non=>cases ry;exact PySem.EqNone.eq_str_none (jy I q (by simp))
  |bl j=>cases ry;exact PySem.EqMixed.eq_str_bool (jy I q (by simp))
  |int j=>obtain⟨t',rfl⟩:=ry;exact PySem.EqMixed.eq_str_int (jy I q (by simp))
  |str j=>obtain⟨t',rfl⟩:=ry;exact eq_str (jy I q zjy)
  |_=>exact absurd (show false=true from hs) z3w
 |byt i=>
  obtain⟨t,rfl⟩:=rx;cases y with
  |byt j=>obtain⟨t',rfl⟩:=ry;exact PySem.W.eq_bytes (jy I q zjw)
  |_=>exact absurd (show false=true from hs) z3w
 |_=>cases y<;>exact absurd (show false=true from hs) z3w
theorem zb5:K5 X (compareOp .NotEq) rNe:=by
 intro pins s σ H x y v u Q I rx ry h;obtain⟨hs,q⟩:=h;cases x with
 |non=>
  cases rx;cases y with
  |non=>cases ry;exact PySem.EqNone.ne_none_none (jy I q (by simp))
  |bl j=>cases ry;exact PySem.EqNone.ne_none_bool (jy I q (by simp))
  |int j=>obtain⟨t',rfl⟩:=ry;exact PySem.EqNone.ne_none_int (jy I q (by simp))
  |str j=>obtain⟨t',rfl⟩:=ry;exact PySem.EqNone.ne_none_str (jy I q (by simp))
  |_=>exact absurd (show false=true from hs) z3w
 |bl i=>
  cases rx;cases y with
  |non=>cases ry;exact PySem.EqNone.ne_bool_none (jy I q (by simp))
  |bl j=>cases ry;exact ne_bool (jy I q (z6a not znz))
  |str j=>obtain⟨t',rfl⟩:=ry;exact PySem.EqMixed.ne_bool_str (jy I q (by simp))
  |_=>exact absurd (show false=true from hs) z3w
 |int i=>
  obtain⟨t,rfl⟩:=rx;cases y with
  |non=>cases ry;exact PySem.EqNone.ne_int_none (jy I q (by simp))
  |int j=>obtain⟨t',rfl⟩:=ry;exact ne_int (jy I q (z6a not zjx))
  |str j=>obtain⟨t',rfl⟩:=ry;exact PySem.EqMixed.ne_int_str (jy I q (by simp))
  |_=>exact absurd (show false=true from hs) z3w
 |str i=>
  obtain⟨t,rfl⟩:=rx;cases y with
  |non=>cases ry;exact PySem.EqNone.ne_str_none (jy I q (by simp))
  |bl j=>cases ry;exact PySem.EqMixed.ne_str_bool (jy I q (by simp))
  |int j=>obtain⟨t',rfl⟩:=ry;exact PySem.EqMixed.ne_str_int (jy I q (by simp))
  |str j=>obtain⟨t',rfl⟩:=ry;exact ne_str (jy I q (z6a not zjy))
  |_=>exact absurd (show false=true from hs) z3w
 |byt i=>
  obtain⟨t,rfl⟩:=rx;cases y with
  |byt j=>obtain⟨t',rfl⟩:=ry;exact PySem.W.ne_bytes (jy I q (z6a not zjw))
  |_=>exact absurd (show false=true from hs) z3w
 |_=>cases y<;>exact absurd (show false=true from hs) z3w
theorem V5:K5 X (compareOp .Lt) (rI0 λi j=>.bl (decide (i < j))):=zvy λ_ _ _ _ _ _ _ q=>lt_int q
theorem Gk:K5 X (compareOp .LtE) (rI0 λi j=>.bl (decide (i<=j))):=zvy λ_ _ _ _ _ _ _ q=>le_int q
theorem V4:K5 X (compareOp .Gt) (rI0 λi j=>.bl (decide (j < i))):=zvy λ_ _ _ _ _ _ _ q=>gt_int q
theorem Gj:K5 X (compareOp .Is) (λx y H Q=>y=.non/\Q (.bl (decide (x=.non))) H):=by
 intro pins s σ H x y v u Q I rx ry h;obtain⟨rfl,q⟩:=h;cases ry;refine is_none_gen (jy I q ?_);cases x<;>first
  |(cases rx;rfl)
  |(obtain⟨t,rfl⟩:=rx;rfl)
theorem zro:K5 X (compareOp .IsNot) (λx y H Q=>y=.non/\Q (.bl (!decide (x=.non))) H):=by
 intro pins s σ H x y v u Q I rx ry h;obtain⟨rfl,q⟩:=h;cases ry;refine isnot_none_gen (jy I q ?_);cases x<;>first
  |(cases rx;rfl)
  |(obtain⟨t,rfl⟩:=rx;rfl)
theorem jl (b:Expr){op:CmpOp}(h:op≠.In:=by decide)(h2:op≠.NotIn:=by decide):behindInMarks op b=false:=by
 have e1:(op==CmpOp.In)=false:=by cases op<;>first|rfl|exact absurd rfl h
 have e2:(op==CmpOp.NotIn)=false:=by cases op<;>first|rfl|exact absurd rfl h2
 cases b<;>simp[behindInMarks,e1,e2]
theorem Jl {op:CmpOp}{r:R2}(ho:K5 X (compareOp op) r)(ha:PE X a ta)(hb:PE X b tb)(hm:behindInMarks op b=false):PE X (.Compare a [op] [b] pos) (tOp r ta tb):=by
 intro pins s σ H Q I h;exact wpAny_Compare1 (zu4 ha hb I h λv u s2 x y H2 I2 rx ry q=>ho pins s2 σ H2 x y v u Q I2 rx ry q) hm
def zp9 (t:TE):TT:=λσ H Q=>t σ H λx H'=>ItB Q x H'
theorem jh {op:CmpOp}{r:R2}(ho:K5 X (compareOp op) r)(ha:PE X a ta)(hb:PE X b tb)(hm:behindInMarks op b=false):PT X (.Compare a [op] [b] pos) (zp9 (tOp r ta tb)):=by
 intro pins s σ H Q I h;refine wpAny_isTrue_Compare1 (yd (ha pins s σ H _ I h) λv s1 ⟨x,H1,I1,r1,q1⟩=>yd (hb pins s1 σ H1 _ I1 q1) λu s2 ⟨y,H2,I2,r2,q2⟩=>
  yd (ho pins s2 σ H2 x y v u _ I2 r1 r2 q2) λc s3 ⟨z,H3,I3,r3,k,e,q3⟩=>?_) hm
 subst e;cases r3;exact z6p ⟨H3,I3,q3⟩
def zw2 (r r':R2)(ta tb tc:TE):TE:=λσ H Q=>ta σ H λx H1=>tb σ H1 λy H2=>r x y H2 λz H3=>∃ k,z=.bl k/\
 (if k=true then tc σ H3 λw' H4=>r' y w' H4 Q else Q (.bl false) H3)
theorem X8 {op op':CmpOp}{r r':R2}(ho:K5 X (compareOp op) r)(ho':K5 X (compareOp op') r')(ha:PE X a ta)(hb:PE X b tb)(hc:PE X c tc)
  (hm:lastMarks [op,op'] [b,c]=false:=by with_unfolding_all rfl):PE X (.Compare a [op,op'] [b,c] pos) (zw2 r r' ta tb tc):=by
 intro pins s σ H Q I h;refine Compare_chain (yd (ha pins s σ H _ I h) λv s1 ⟨x,H1,I1,r1,q1⟩=>chain_link (yd (hb pins s1 σ H1 _ I1 q1) λu s2 ⟨y,H2,I2,r2,q2⟩=>
  yd (ho pins s2 σ H2 x y v u _ I2 r1 r2 q2) λd s3 ⟨z,H3,I3,r3,k,e,q3⟩=>?_)) hm
 subst e;cases r3;refine z6p ?_;cases k with
 |false=>exact ite_ff ⟨.bl false,H3,I3,rfl,q3⟩
 |true=>exact ite_tt (chain_last (yd (hc pins s3 σ H3 _ I3 q3) λw' s4 ⟨z',H4,I4,r4,q4⟩=>ho' pins s4 σ H4 y z' u w' Q I4 r2 r4 q4))
theorem zdm:(sizeLine:Nat) < 2 ^ 63:=by rw[sizeLine_eq];decide
theorem zqp {x:V}{us:List Value}(r:jf [x] us):∃ u,us=[u]/\jp x u:=by
 cases r with
 |cons r1 r2=>cases r2;exact⟨_,rfl,r1⟩
theorem zg1 {x y:V}{us:List Value}(r:jf [x,y] us):∃ u w',us=[u,w']/\jp x u/\jp y w':=by
 cases r with
 |cons r1 r2=>
  cases r2 with
  |cons r3 r4=>cases r4;exact⟨_,_,rfl,r1,r3⟩
theorem zbs (hc:X.calm=true):Zz X (.builtin "max") (λxs H Q=>∃ i j,xs=[.int i,.int j]/\Q (.int (if j > i then j else i)) H):=by
 intro pins s σ H xs us Q I r h;obtain⟨i,j,rfl,q⟩:=h;obtain⟨u,w',rfl,⟨t,rfl⟩,⟨t',rfl⟩⟩:=zg1 r;refine max_two_ints (I.ok.hd hc) λh' tk k=>⟨_,H,I.kept k,?_,q⟩;by_cases hj:j > i
 ·rw[z3m hj,z3m hj];exact⟨_,rfl⟩
 ·rw[z3k hj,z3k hj];exact⟨_,rfl⟩
theorem zlh (hc:X.calm=true):Zz X (.builtin "min") (λxs H Q=>∃ i j,xs=[.int i,.int j]/\Q (.int (if j < i then j else i)) H):=by
 intro pins s σ H xs us Q I r h;obtain⟨i,j,rfl,q⟩:=h;obtain⟨u,w',rfl,⟨t,rfl⟩,⟨t',rfl⟩⟩:=zg1 r;refine min_two_ints (I.ok.hd hc) λh' tk k=>⟨_,H,I.kept k,?_,q⟩;by_cases hj:j < i
 ·rw[z3m hj,z3m hj];exact⟨_,rfl⟩
 ·rw[z3k hj,z3k hj];exact⟨_,rfl⟩
end
structure zhc (h:Heap)(x dx C:Addr)(mA:Str->Option Value):Prop where
 obj:h.get? x=some (PySem.W.instObj C dx)
 ns:h.Ns1 dx mA
 ne:dx≠x
theorem zlw {h:Heap}{dx:Addr}{mA:Str->Option Value}(n:h.Ns1 dx mA):∃ od,h.get? dx=some od/\∀ name,PySem.W.lookIn name od=some (mA name):=by
 obtain⟨o,es,ep,ho,hd,hk,_,hm⟩:=n;refine⟨o,ho,λname=>?_⟩;have e:=hm name;unfold nsFind findBy at e;rw[<-Array.find?_toList]at e;unfold PySem.W.lookIn;rw[hd];dsimp only;split
 ·rename_i y q;rw[q]at e;exact z6a some e
 ·rename_i q;rw[q]at e;have a:es.toList.any (·.refKey)=false:=by
   rw[List.any_eq_false];intro y hy;obtain⟨z,t,hkey⟩:=hk y (Array.mem_toList_iff.mp hy);simp[DictEntry.refKey,hkey]
  have a':¬es.toList.any (·.refKey)=true:=by rw[a];exact z3w
  rw[z3k a'];exact z6a some e
theorem zhc.look {h:Heap}{x dx C:Addr}{mA:Str->Option Value}(I:zhc h x dx C mA):∃ od,PySem.W.InstAt h x (PySem.W.instObj C dx) C (some od)/\∀ name,PySem.W.lookIn name od=some (mA name):=
 let ⟨od,ho,hl⟩:=zlw I.ns
 ⟨od,⟨I.obj,rfl,rfl,ho⟩,hl⟩
section
variable {prog:Program}{w:World}{A:Around}{E:Value->Shared->Prop}{s:Shared}{K:PySem.W.Frag}{x dx C f:Addr}{mA:Str->Option Value}{name:Str}{v:Value}
theorem zrb {expr:Bool}{Q:Value->Shared->Prop}(X:K.In s.heap)(I:zhc s.heap x dx C mA)(hg:PySem.W.plainGet K C name=true)(hh:PySem.W.hasDictIn K C=true)
  (ha:PySem.W.findIn K (.ref C) name=some none)(hv:mA name=some v)(hv':PySem.W.handedIn v=true)(h:Q v {s with toks:=s.toks+1}):
  wpAny (model prog w) A (getAttr (.ref x) name expr) Q E s:=by
 obtain⟨od,J,hl⟩:=I.look;exact PySem.W.get_value X J (z89 hg).1 (PySem.W.findObj_own hh ha rfl (by rw[hl,hv])) hv' h
theorem zoc {pl:Sem Bool}{Q:Value×List Value->Shared->Prop}(X:K.In s.heap)(I:zhc s.heap x dx C mA)(hg:PySem.W.plainGet K C name=true)
  (hf:PySem.W.findIn K (.ref C) name=some (some (.ref f)))(ht:PySem.W.isFn K (.ref f)=true)(hv:mA name=none)(h:Q (.ref f,[.ref x]) s):
  wpAny (model prog w) A (getMethod (.ref x) name pl) Q E s:=by
 obtain⟨od,J,hl⟩:=I.look;exact PySem.W.method_fn X J (z89 hg).1 (z89 hg).2 hf (z4x.mp ht) (by show (PySem.W.lookIn name od).map (·.isSome)=some false;rw[hl,hv];rfl) h
theorem zsi {ns:List Str}{Q:Unit->Shared->Prop}(X:K.In s.heap)(I:zhc s.heap x dx C mA)
  (hs:PySem.W.findIn K (.ref C) "__setattr__"=some (some (.builtin "object.__setattr__")))(hp:PySem.W.plainOver K C=true)(ht:PySem.W.takerIn K C name=some none)(hh:PySem.W.hasDictIn K C=true)
  (hw:PySem.Within mA ns)(hsz:ns.length<=sizeLine)
  (h:∀ h',zhc h' x dx C (λy=>if y=name then some v else mA y)->Heap.SameBut dx s.heap h'->Q () {s with heap:=h',toks:=s.toks+2}):
  wpAny (model prog w) A (setAttr (.ref x) name v) Q E s:=by
 obtain⟨od,J,hl⟩:=I.look;refine PySem.W.set_plain X J hs (PySem.W.osa_open (s:={s with toks:=s.toks+1}) (r:=none) X J hp ht λb=>?_);obtain⟨cd,hc,hd'⟩:=PySem.W.any_some hh;have hx:s.heap.get? x=some ⟨.ref C,some dx,.plain,#[]⟩:=I.obj;refine z26 (z3h (z26 (z26 (wpAny_loadPart hx (z26 (PySem.W.Looks.here (s:={s with toks:=s.toks+1}) (PySem.W.looks_clsIn X hc) ?_))))));rw[hd'];refine z3h (a:=some dx) (z26 (z3h (z26 ?_)));refine wpAny_nsSet1 (s:={s with toks:=s.toks+1}) I.ns λh' hn2 hs2=>?_;obtain⟨oD,esD,epD,hoD,hdD,hcD⟩:=hn2.count (PySem.Within.cons name v hw);refine z26 (wpAny_lookBehind hoD (by rw[hdD];exact pastItsLine_dict (z32 hcD (by rw[z3l];omega))) ?_);exact z3h (h _ ⟨(hs2.2 _ (z7c I.ne)).trans I.obj,hn2,I.ne⟩ hs2)
theorem zoq {R:Result->Shared->Prop}{vs:List Value}{kw:List (Str×Value)}(X:K.In s.heap)(hm:PySem.W.makesIn K C=true)
  (hi:PySem.W.findIn K (.ref C) "__init__"=some (some (.ref f)))(hf:PySem.W.typeIn K (.ref f)=some (.type "function"))
  (h:codeAny (model prog w) (A.under (.builtin "type.__call__" ⟨.ref C::vs,kw⟩)) (.call (.ref f) ⟨.ref (s.heap.objs.size+1)::vs,kw⟩) (PySem.W.InitBack (s.heap.objs.size+1) R)
   {s with heap:=(s.heap.push PySem.W.emptyDict).push (PySem.W.instObj C s.heap.objs.size)}):
  codeAny (model prog w) A (.call (.ref C) ⟨vs,kw⟩) R s:=by
 obtain⟨hh,g,d,t,os⟩:=s;exact PySem.W.make_core (PySem.W.makes_of X hm) (PySem.W.looks_findIn X hi) (λself=>PySem.W.bind_fn X self hf) (.inl rfl) h
end
def xr (f:Str)(v:V):List (Str×V)->List (Str×V)
 |[]=>[(f,v)]
 |(g,x)::r=>if g=f then (g,v)::r else (g,x)::xr f v r
theorem V3 (f g:Str)(v:V):∀ fs:List (Str×V),(xr f v fs).lookup g=if g=f then some v else fs.lookup g
 |[]=>by
  show List.lookup g [(f,v)]=_;by_cases h:g=f
  ·have hb:(g==f)=true:=z4x.mpr h;simp only[List.lookup,hb,z3m h]
  ·have hb:(g==f)=false:=z5p.mpr h;simp only[List.lookup,hb,z3k h]
 |(k,x)::r=>by
  have ih:=V3 f g v r;rw[show xr f v ((k,x)::r)=(if k=f then (k,v)::r else (k,x)::xr f v r) from rfl];by_cases hk:k=f
  ·rw[z3m hk];by_cases h:g=k
   ·have hb:(g==k)=true:=z4x.mpr h;simp only[List.lookup,hb,z3m (h.trans hk)]
   ·have hb:(g==k)=false:=z5p.mpr h;simp only[List.lookup,hb,z3k (λe:g=f=>h (e.trans hk.symm))]
  ·rw[z3k hk];by_cases h:g=k
   ·have hb:(g==k)=true:=z4x.mpr h;simp only[List.lookup,hb,z3k (λe:g=f=>hk (h.symm.trans e))]
   ·have hb:(g==k)=false:=z5p.mpr h;simp only[List.lookup,hb];exact ih
theorem Vj (f:Str)(v:V):∀ fs:List (Str×V),f∈(xr f v fs).map (·.1)/\∀ g,g∈fs.map (·.1)->g∈(xr f v fs).map (·.1)
 |[]=>⟨by simp[xr],λg h=>by simp at h⟩
 |(k,x)::r=>by
  obtain⟨i1,i2⟩:=Vj f v r;rw[show xr f v ((k,x)::r)=(if k=f then (k,v)::r else (k,x)::xr f v r) from rfl];by_cases hk:k=f
  ·rw[z3m hk];subst hk;exact⟨by simp,λg h=>by simpa using h⟩
  ·rw[z3k hk];refine⟨?_,λg h=>?_⟩
   ·rw[z3n];exact z3d _ i1
   ·rw[z3n]at h ⊢;rcases z3t.mp h with e|e
    ·exact z3t.mpr (.inl e)
    ·exact z3d _ (i2 g e)
theorem V1 (f:Str)(v:V):∀ fs:List (Str×V),(xr f v fs).length<=fs.length+1
 |[]=>by simp[xr]
 |(k,x)::r=>by
  have ih:=V1 f v r;rw[show xr f v ((k,x)::r)=(if k=f then (k,v)::r else (k,x)::xr f v r) from rfl];by_cases hk:k=f
  ·rw[z3m hk,z3l,z3l];omega
  ·rw[z3k hk,z3l,z3l];omega
theorem Zr.some_of {v:V}{o:Option Value}(r:Zr (some v) o):∃ u,o=some u/\jp v u:=by
 cases o with
 |none=>exact (show False from r).elim
 |some u=>exact⟨u,rfl,r⟩
theorem Zr.none_of {o:Option Value}(r:Zr none o):o=none:=by
 cases o with
 |none=>rfl
 |some u=>exact (show False from r).elim
theorem zlq {v:V}{u:Value}(r:jp v u):PySem.W.handedIn u=true:=by
 cases v with
 |non=>cases (show u=Value.none from r);rfl
 |bl b=>cases (show u=Value.bool b from r);rfl
 |int i=>obtain⟨t,e⟩:=(show ∃ t,u=Value.int i t from r);cases e;rfl
 |str x=>obtain⟨t,e⟩:=(show ∃ t,u=Value.str x t from r);cases e;rfl
 |byt b=>obtain⟨t,e⟩:=(show ∃ t,u=Value.bytes b t from r);cases e;rfl
 |flt b=>obtain⟨t,e⟩:=(show ∃ t,u=Value.float b t from r);cases e;rfl
 |ref a=>cases (show u=Value.ref a from r);rfl
 |ty n=>cases (show u=Value.type n from r);rfl
section
variable {P:Program}{w:World}{H H':Hp}{h h':Heap}{a C dx:Addr}{fs fs':List (Str×V)}
theorem zdk (hok:Yx P w H h)(e:H a=some (.ins C dx fs)):∃ mA,zhc h a dx C mA/\(∀ f,Zr (fs.lookup f) (mA f))/\PySem.Within mA (fs.map (·.1))/\fs.length<=1000/\H dx=some (.own a):=by
 obtain⟨d,z,ne,ob,mA,n,r,q⟩:=(show j6 P w H h a (.ins C dx fs) from hok a _ e);exact⟨mA,⟨ob,n,ne⟩,r,q,z,d⟩
end
structure Cls (K:PySem.W.Frag)(C:Addr):Prop where
 pg:PySem.W.plainGet K C Str.empty=true
 hd:PySem.W.hasDictIn K C=true
 po:PySem.W.plainOver K C=true
 sa:PySem.W.findIn K (.ref C) "__setattr__"=some (some (.builtin "object.__setattr__"))
theorem Cls.get {K:PySem.W.Frag}{C:Addr}(c:Cls K C)(f:Str):PySem.W.plainGet K C f=true:=c.pg
def yq (K:PySem.W.Frag)(C:Addr)(f:Str):Prop:=PySem.W.findIn K (.ref C) f=some none
theorem yq.taker {K:PySem.W.Frag}{C:Addr}{f:Str}(n:yq K C f):PySem.W.takerIn K C f=some none:=by
 unfold PySem.W.takerIn;rw[show PySem.W.findIn K (.ref C) f=some none from n];rfl
structure zu1 (K:PySem.W.Frag)(C:Addr)(m:Str)(f:Addr):Prop where
 at_:PySem.W.findIn K (.ref C) m=some (some (.ref f))
 fn:PySem.W.isFn K (.ref f)=true
 kp:PySem.W.keepIn K (.ref f)=true
section
variable {X:Cx}{pins:List (Addr×Obj)}{σ:St}{H:Hp}{s:Shared}{a C dx:Addr}{fs:List (Str×V)}{f:Str}{v:V}{A:Around}{E:Value->Shared->Prop}
theorem Za {b:Bool}{Q:Value->Shared->Prop}(I:zz X pins σ H s)(e:H a=some (.ins C dx fs))(c:Cls X.K C)(n:yq X.K C f)(l:fs.lookup f=some v)
  (h:∀ u s',zz X pins σ H s'->jp v u->Q u s'):wpAny (model X.prog X.w) A (getAttr (.ref a) f b) Q E s:=by
 obtain⟨mA,O,r,_,_,_⟩:=zdk I.hok e;obtain⟨u,hu,ru⟩:=Zr.some_of (v:=v) (o:=mA f) (by rw[<-l];exact r f);exact zrb I.kIn O (c.get f) c.hd n hu (zlq ru) (h u _ (I.tok _) ru)
theorem Xb {m:Str}{g:Addr}{pl:Sem Bool}{Q:Value×List Value->Shared->Prop}(I:zz X pins σ H s)(e:H a=some (.ins C dx fs))(c:Cls X.K C)(k:zu1 X.K C m g)(l:fs.lookup m=none)
  (h:Q (.ref g,[.ref a]) s):wpAny (model X.prog X.w) A (getMethod (.ref a) m pl) Q E s:=by
 obtain⟨mA,O,r,_,_,_⟩:=zdk I.hok e;have hn:mA m=none:=Zr.none_of (by rw[<-l];exact r m);exact zoc I.kIn O (c.get m) k.at_ k.fn hn h
theorem ziv {y:V}{u:Value}{Q:Unit->Shared->Prop}(I:zz X pins σ H s)(e:H a=some (.ins C dx fs))(c:Cls X.K C)(n:yq X.K C f)(hl:fs.length < 1000)(ry:jp y u)
  (h:∀ s',zz X pins σ (upd H a (.ins C dx (xr f y fs))) s'->Q () s'):wpAny (model X.prog X.w) A (setAttr (.ref a) f u) Q E s:=by
 obtain⟨mA,O,r,wi,_,ho⟩:=zdk I.hok e;have hz:(fs.map (·.1)).length<=sizeLine:=by rw[z25,sizeLine_eq];omega
 refine zsi I.kIn O c.sa c.po n.taker c.hd wi hz λh' O' sb=>h _ ?_;have hd:∃ o,h'.get? dx=some o:=let ⟨o,_,_,e',_⟩:=O'.ns;⟨o,e'⟩;refine I.write (x:=a) (e:=dx) (by rw[e];exact True.intro) (.inr ho) (λb q hb z=>(sb.2 b hb).trans z) hd ?_;refine⟨by rw[ze O.ne];exact ho,?_,O.ne,O'.obj,_,O'.ns,λg=>?_,λg hg=>?_⟩
 ·have:=V1 f y fs;omega
 ·show Zr ((xr f y fs).lookup g) (if g=f then some u else mA g);rw[V3];by_cases q:g=f
  ·rw[z3m q,z3m q];exact ry
  ·rw[z3k q,z3k q];exact r g
 ·by_cases q:g=f
  ·rw[q];exact (Vj f y fs).1
  ·refine (Vj f y fs).2 g (wi g λz=>hg ?_);show (if g=f then some u else mA g)=none;rw[z3k q];exact z
theorem zz.made (I:zz X pins σ H s):zz X pins σ (upd (upd H s.heap.objs.size (.own (s.heap.objs.size+1))) (s.heap.objs.size+1) (.ins C s.heap.objs.size []))
  {s with heap:=(s.heap.push PySem.W.emptyDict).push (PySem.W.instObj C s.heap.objs.size)}:=by
 have e1:(s.heap.push PySem.W.emptyDict).get? s.heap.objs.size=some PySem.W.emptyDict:=z3o s.heap rfl;have e2:((s.heap.push PySem.W.emptyDict).push (PySem.W.instObj C s.heap.objs.size)).get? (s.heap.objs.size+1)=some (PySem.W.instObj C s.heap.objs.size):=by
  have:=z3o (s.heap.push PySem.W.emptyDict) (o:=PySem.W.instObj C s.heap.objs.size) rfl
  rwa [z4v]at this
 have e3:(s.heap.push PySem.W.emptyDict).Ns s.heap.objs.size (λ_=>none):=⟨PySem.W.emptyDict,#[],_,e1,rfl,(λe he=>absurd he (by simp)),λ_=>rfl⟩;have I1:=I.laid (a:=s.heap.objs.size) (o:=.own (s.heap.objs.size+1)) (h':=s.heap.push PySem.W.emptyDict) (t':=s.toks) (λb u q=>z29 _ q) (z3c _) ⟨_,e1⟩;refine I1.laid (a:=s.heap.objs.size+1) (o:=.ins C s.heap.objs.size []) (t':=s.toks) (λb u q=>z29 _ q) (z8v (z4v _ _)) ?_;have ne:s.heap.objs.size≠s.heap.objs.size+1:=z4a (z6r _);refine⟨by rw[ze ne,zb],z4c _,ne,e2,λ_=>none,(Heap.Ns1.of_empty e3).at λo q=>z29 _ q,λ_=>True.intro,λy hy=>absurd rfl hy⟩
theorem Xs {prog:Program}{w:World}{env:Env}{e:Expr}{f:Str}{pos:Pos}{s:Shared}{Q:Value->Shared->Prop}(hb:attributeBase e f env (eval e env)=eval e env)
  (h:wpAny (model prog w) A (eval e env) (λo s₁=>wpAny (model prog w) A (getAttr o f true) Q E s₁) E s):wpAny (model prog w) A (eval (.Attribute e f pos) env) Q E s:=
 Attribute_any_ h (by rw[arm_eval_Attribute,hb])
end
inductive zue (K:PySem.W.Frag)(f:Str)(Q:VK)(x:V)(H:Hp):Prop
 |mk (a C dx:Addr) (fs:List (Str×V)) (v:V):x=.ref a->H a=some (.ins C dx fs)->Cls K C->yq K C f->fs.lookup f=some v->Q v H->zue K f Q x H
def z1t (K:PySem.W.Frag)(ta:TE)(f:Str):TE:=λσ H Q=>ta σ H λx H1=>zue K f Q x H1
inductive ztb (K:PySem.W.Frag)(f:Str)(D:Wr)(σ:St)(y x:V)(H:Hp):Prop
 |mk (a C dx:Addr) (fs:List (Str×V)):x=.ref a->H a=some (.ins C dx fs)->Cls K C->yq K C f->fs.length < 1000->D.nx σ (upd H a (.ins C dx (xr f y fs)))->ztb K f D σ y x H
def z0e (K:PySem.W.Frag)(ta tv:TE)(f:Str):TS:=λD σ H=>tv σ H λy H1=>ta σ H1 λx H2=>ztb K f D σ y x H2
section
variable {X:Cx}{o e value:Expr}{f:Str}{pos pos' tpos:Pos}{ta tv:TE}
theorem Vk (he:PE X e ta)(hb:attributeBase e f X.env (eval e X.env)=eval e X.env):PE X (.Attribute e f pos) (z1t X.K ta f):=by
 intro pins s σ H Q I h;refine Xs hb (yd (he pins s σ H _ I h) λu s1 ⟨x,H1,I1,rx,a,C,dx,fs,v,ex,ea,c,n,l,q⟩=>?_);subst ex;obtain rfl:u=Value.ref a:=rx;exact Za I1 ea c n l λu' s2 I2 ru=>⟨v,H1,I2,ru,q⟩
theorem xg (ha:PE X o ta)(hv:PE X value tv)(hs:swapsWith value (some (.Attribute o f pos')) pos.line X.env=pure false):PS X (.Assign [.Attribute o f pos'] value pos) (z0e X.K ta tv f):=by
 intro pins s σ H D I h;refine plainObj_wpAny_Assign_Attribute (yd (hv pins s σ H _ I h) λu s1 ⟨y,H1,I1,ry,q⟩=>yd (ha pins s1 σ H1 _ I1 q) λov s2 ⟨x,H2,I2,rx,a,C,dx,fs,ex,ea,c,n,l,q2⟩=>?_) hs;subst ex;obtain rfl:ov=Value.ref a:=rx;exact ziv I2 ea c n l ry λs3 I3=>⟨σ,_,I3,q2⟩
end
structure Room (k:Nat)(A:Around):Prop where
 hd:A.handled=none
 dp:A.depth+3*k+5 < recursionLimit
 un:A.units+16*k+200 < cLine
theorem Room.mono {j k:Nat}{A:Around}(r:Room k A)(h:j<=k):Room j A:=⟨r.hd,by have:=r.dp;omega,by have:=r.un;omega⟩
theorem Room.deeper {k:Nat}{A:Around}(r:Room (k+1) A)(env:Env):Room k (A.deeper env):=
 ⟨r.hd,by have:=r.dp;show A.depth+1+3*k+5 < _;omega,by have:=r.un;show A.units+3+16*k+200 < _;omega⟩
theorem zh5 {A:Around}{C:Addr}{us:List Value}{kw:List (Str×Value)}:(A.under (.builtin "type.__call__" ⟨.ref C::us,kw⟩)).depth=A.depth+1:=by
 first|rfl|simp[Around.under,Code.weight,Code.isCreation,Code.isGuard,Code.isCaller,Code.frames,Code.isFrame,guardIds]
theorem zh6 {A:Around}{C:Addr}{us:List Value}{kw:List (Str×Value)}:(A.under (.builtin "type.__call__" ⟨.ref C::us,kw⟩)).units=A.units+1:=by
 first|rfl|simp[Around.under,Code.cUnits,Code.frames,Code.isFrame]
theorem Room.make {k:Nat}{A:Around}(r:Room (k+1) A)(C:Addr)(us:List Value)(kw:List (Str×Value)):Room k (A.under (.builtin "type.__call__" ⟨.ref C::us,kw⟩)):=
 ⟨r.hd,by have:=r.dp;rw[zh5];omega,by have:=r.un;rw[zh6];omega⟩
theorem Room.depth {k:Nat}{A:Around}(r:Room k A):A.depth < recursionLimit:=by have:=r.dp;omega
theorem Room.units {k:Nat}{A:Around}(r:Room k A):A.units+64 < cLine:=by have:=r.un;omega
def zi1:TA:=λ_ H Q=>Q [] H
def Q5 (ta:TE)(tr:TA):TA:=λσ H Q=>ta σ H λx H1=>tr σ H1 λxs H2=>Q (x::xs) H2
section
variable {X:Cx}{e:Expr}{es:List Expr}{te:TE}{t:TA}{pos:Pos}
theorem zd:PA X [] zi1:=λ_ _ _ _ H Q I h=>z70 ⟨[],H,I,.nil,h⟩
theorem za (ha:PE X e te)(hr:PA X es t)(hs:starEach (e::es) X.env=(false,eval e X.env)::starEach es X.env:=by rfl):PA X (e::es) (Q5 te t):=by
 intro pos pins s σ H Q I h;rw[hs];show wpAny _ _ (spliced ((false,eval e X.env)::backTo pos (starEach es X.env))) _ _ s;refine z63 (yd (ha pins s σ H _ I h) λu s1 ⟨x,H1,I1,r1,q1⟩=>?_);exact yd (hr pos pins s1 σ H1 _ I1 q1) λus s2 ⟨xs,H2,I2,r2,q2⟩=>⟨x::xs,H2,I2,.cons r1 r2,q2⟩
def zsy (t:TA):TE:=λσ H Q=>t σ H λxs H1=>xs.length<=sizeLine/\∀ p,H1 p=none->Q (.ref p) (upd H1 p (.tup xs))
def zyz (t:TA):TE:=λσ H Q=>t σ H λxs H1=>xs.length<=sizeLine/\∀ p,H1 p=none->Q (.ref p) (upd H1 p (.lst xs))
theorem qj {x1}(h:PA X es t):PE X (.Tuple es x1 pos) (zsy t):=by
 intro pins s σ H Q I hq;refine wpAny_Tuple_spliced (yd (h pos pins s σ H _ I hq) λus s1 ⟨xs,H1,I1,r,z,q⟩=>⟨by rw[<-r.length];exact z,?_⟩);have hf:H1 s1.heap.objs.size=none:=I1.hok.fresh (z3c _);refine⟨.ref s1.heap.objs.size,upd H1 s1.heap.objs.size (.tup xs),I1.laid (t':=s1.toks) (λb u e=>z29 _ e) (z3c _) ?_,rfl,q _ hf⟩;exact⟨z,us,r,⟨_,z3o _ rfl,rfl,_,rfl⟩⟩
theorem zy (h:PA X es t):PE X (.List es pos) (zyz t):=by
 intro pins s σ H Q I hq;refine wpAny_List_spliced (yd (h pos pins s σ H _ I hq) λus s1 ⟨xs,H1,I1,r,z,q⟩=>⟨by rw[<-r.length];exact z,?_⟩);have hf:H1 s1.heap.objs.size=none:=I1.hok.fresh (z3c _);refine⟨.ref s1.heap.objs.size,upd H1 s1.heap.objs.size (.lst xs),I1.laid (t':=s1.toks) (λb u e=>z29 _ e) (z3c _) ?_,rfl,q _ hf⟩;exact⟨z,us,0,r,z3o _ rfl⟩
end
abbrev Sp:=List V->Hp->VK->XK->Prop
abbrev CXT:=List Env->Hp->Shared->XK->Value->Shared->Prop
structure zg8 (P:Program)(w:World)(K:PySem.W.Frag)(mg:Str->Option Value)(base:Heap)(A:Around)(outer:List Env)(s:Shared)(H:Hp):Prop where
 frames:A.frames=some outer
 mod:Mod K mg base
 bs:∀ b o,base.get? b=some o->s.heap.get? b=some o/\H b=none
 bsz:base.objs.size<=s.heap.objs.size
 funs:s.heap.FunFrames base outer
 frf:∀ b∈frs outer,H b=none
 hok:Yx P w H s.heap
 bare:AllBare s.gens
def CE (outer:List Env)(P:Program)(w:World)(H:Hp)(s:Shared)(Q:VK)(u:Value)(s':Shared):Prop:=
 ∃ v H',s'.os=s.os/\AllBare s'.gens/\Un (frs outer) [] H H' s.heap s'.heap/\Yx P w H' s'.heap/\jp v u/\Q v H'
def CR (CX:CXT)(outer:List Env)(P:Program)(w:World)(H:Hp)(s:Shared)(Q:VK)(E:XK)(r:Result)(s':Shared):Prop:=
 match r with
 | .ok (.ret u)=>CE outer P w H s Q u s'
 | .ok _=>False
 | .error e=>CX outer H s E e s'
structure wx (P:Program)(w:World)(K:PySem.W.Frag)(mg:Str->Option Value)(base:Heap)(CX:CXT)(k:Nat)(f:Addr)(fd:FuncData)(ps:List Str)(sp:Sp):Prop where
 len:∀ vs H Q E,sp vs H Q E->vs.length=ps.length
 run:∀(A:Around) (outer:List Env) (s:Shared) (H:Hp) (args:Args) (us:List Value) (vs:List V) (Q:VK) (E:XK),Room k A->zg8 P w K mg base A outer s H->BindsTo s fd args (ps.zip us)->jf vs us->sp vs H Q E->
  codeAny (model P w) A (.call (.ref f) args) (CR CX outer P w H s Q E) s
theorem wx.mono {P:Program}{w:World}{K:PySem.W.Frag}{mg:Str->Option Value}{base:Heap}{CX:CXT}{j k:Nat}{f:Addr}{fd:FuncData}{ps:List Str}{sp:Sp}(F:wx P w K mg base CX j f fd ps sp)(h:j<=k):
  wx P w K mg base CX k f fd ps sp:=⟨F.len,λA outer s H args us vs Q E hr=>F.run A outer s H args us vs Q E (hr.mono h)⟩
theorem zg8.make {P:Program}{w:World}{K:PySem.W.Frag}{mg:Str->Option Value}{base:Heap}{A:Around}{outer:List Env}{s:Shared}{H:Hp}(e:zg8 P w K mg base A outer s H)(C:Addr)(us:List Value)(kw:List (Str×Value)):
  zg8 P w K mg base (A.under (.builtin "type.__call__" ⟨.ref C::us,kw⟩)) outer s H:=⟨by first|exact e.frames|(simpa[Around.under,Code.envs,Code.isFrame,pushEnvs] using e.frames),e.mod,e.bs,e.bsz,e.funs,e.frf,e.hok,e.bare⟩
section
variable {X:Cx}{pins:List (Addr×Obj)}{σ:St}{H:Hp}{s s':Shared}
theorem zz.env0 (I:zz X pins σ H s):zg8 X.prog X.w X.K X.mg X.base X.A X.stack s H:=
 ⟨I.ok.frames,I.ok.mod,I.bs,z32 I.ok.bsz I.sz,I.stack,I.stkFree,I.hok,I.bare⟩
theorem zz.after {Q:VK}{u:Value}(I:zz X pins σ H s)(h:CE X.stack X.prog X.w H s Q u s'):EP X pins σ Q u s':=by
 obtain⟨v,H',os,bare,un,hok,r,q⟩:=h;obtain⟨hh,g,d,t,os'⟩:=s';obtain rfl:os'=s.os:=os;exact⟨v,H',I.call (h':=hh) (g':=g) (d':=d) (t':=t) (ch:=[]) un hok bare (λb z=>absurd z (by simp)),r,q⟩
end
def zuw (sp:Sp)(dvs:List V)(E:XK)(t:TA):TE:=λσ H Q=>t σ H λvs H1=>sp (vs++dvs) H1 Q E
def zku (C:Addr)(sp:Sp)(dvs:List V)(E:XK)(t:TA):TE:=λσ H Q=>t σ H λvs H1=>∀ x dx,H1 x=none->H1 dx=none->dx≠x->
 sp (.ref x::(vs++dvs)) (upd (upd H1 dx (.own x)) x (.ins C dx [])) (λv H2=>v=.non/\Q (.ref x) H2) E
def vi (K:PySem.W.Frag)(fd:FuncData)(ps:List Str)(ds:List Value):Prop:=
 ∀(s:Shared) (us:List Value),K.In s.heap->(us++ds).length=ps.length->BindsTo s fd ⟨us,[]⟩ (ps.zip (us++ds))
theorem vi.all {K:PySem.W.Frag}{fd:FuncData}{ps:List Str}(h:∀ us:List Value,us.length=ps.length->bindArgs fd ⟨us,[]⟩=pure (ps.zip us)):vi K fd ps []:=λs us _ hl=>by
 rw[z31]at hl ⊢;exact .of_eq (h us hl)
def K6 (CX:CXT)(X:Cx)(E:XK):Prop:=∀(pins:List (Addr×Obj)) (σ:St) (H:Hp) (s:Shared) (e:Value) (s':Shared),zz X pins σ H s->CX X.stack H s E e s'->X.xe e s'
section
variable {X:Cx}{CX:CXT}{k:Nat}{f C:Addr}{fd:FuncData}{ps:List Str}{sp:Sp}{dvs:List V}{ds:List Value}{E:XK}{x m:Str}{p pos apos:Pos}{e o:Expr}{es:List Expr}{ta:TE}{t:TA}
theorem Gx {pins:List (Addr×Obj)}{σ:St}{H:Hp}{s:Shared}{Q:VK}{us:List Value}{vs:List V}(F:wx X.prog X.w X.K X.mg X.base CX k f fd ps sp)(hr:Room k X.A)(hb:vi X.K fd ps ds)(hd:jf dvs ds)(hx:K6 CX X E)
  (I:zz X pins σ H s)(r:jf vs us)(h:sp (vs++dvs) H Q E):wpAny (model X.prog X.w) X.A (call (.ref f) us) (EP X pins σ Q) X.xe s:=by
 have r2:jf (vs++dvs) (us++ds):=r.append hd;have hl:(us++ds).length=ps.length:=by rw[<-r2.length];exact F.len _ _ _ _ h
 refine wpAny_call (jae (F.run X.A X.stack s H ⟨us,[]⟩ (us++ds) (vs++dvs) Q E hr I.env0 (hb s us I.kIn hl) r2 h) λr s' hq=>?_);cases r with
 |error e=>exact hx pins σ H s e s' I hq
 |ok fl=>
  cases fl with
  |ret u=>exact I.after hq
  |next=>exact False.elim hq
  |brk=>exact False.elim hq
  |cont=>exact False.elim hq
theorem zrr (F:wx X.prog X.w X.K X.mg X.base CX k f fd ps sp)(hr:Room k X.A)(hg:Gl X x)(hm:X.mg x=some (.ref f))(hk:PySem.W.keepIn X.K (.ref f)=true)(hb:vi X.K fd ps ds)(hd:jf dvs ds)(hx:K6 CX X E)
  (ha:PA X (e::es) t)(hdb:(x==("__debug__":Str))=false:=by decide)(he:starEach (e::es) X.env=(false,eval e X.env)::starEach es X.env:=by rfl)(hpl:(backTo pos (starEach es X.env)).any (·.1)=false:=by rfl):
  PE X (.Call (.Name x p) (e::es) [] pos) (zuw sp dvs E t):=by
 intro pins s σ H Q I h;refine z5g (W8 I hg hm ?_ hdb);refine z7f (h₀:=X.base) I.ok.mod.kin hk (yd (ha pos pins s σ H _ I h) λus s1 ⟨vs,H1,I1,r,q⟩=>⟨I1.kIn,?_⟩) he hpl;exact Gx F hr hb hd hx I1 r q
structure Mk (K:PySem.W.Frag)(C f:Addr):Prop where
 makes:PySem.W.makesIn K C=true
 init:PySem.W.findIn K (.ref C) "__init__"=some (some (.ref f))
 fn:PySem.W.isFn K (.ref f)=true
 kp:PySem.W.keepIn K (.ref C)=true
theorem zgg {pins:List (Addr×Obj)}{σ:St}{H:Hp}{s:Shared}{Q:VK}{us:List Value}{vs:List V}(M:Mk X.K C f)(F:wx X.prog X.w X.K X.mg X.base CX k f fd ps sp)(hr:Room (k+1) X.A)(hb:vi X.K fd ps ds)(hd:jf dvs ds)
  (hx:K6 CX X E)(I:zz X pins σ H s)(r:jf vs us)
  (h:∀ x dx,H x=none->H dx=none->dx≠x->sp (.ref x::(vs++dvs)) (upd (upd H dx (.own x)) x (.ins C dx [])) (λv H2=>v=.non/\Q (.ref x) H2) E):
  wpAny (model X.prog X.w) X.A (call (.ref C) us) (EP X pins σ Q) X.xe s:=by
 have hq:=h (s.heap.objs.size+1) s.heap.objs.size (I.hok.fresh (Nat.le_succ _)) (I.hok.fresh (z3c _)) (z4a (z6r _));have I2:=zz.made (C:=C) I;have r2:jf (V.ref (s.heap.objs.size+1)::(vs++dvs)) (Value.ref (s.heap.objs.size+1)::(us++ds)):=.cons rfl (r.append hd);have hl:(Value.ref (s.heap.objs.size+1)::us++ds).length=ps.length:=by
  have e:=r2.length;rw[F.len _ _ _ _ hq]at e;exact e.symm
 refine wpAny_call (zoq (f:=f) I.kIn M.makes M.init (z4x.mp M.fn) (jae (F.run _ X.stack _ _ ⟨Value.ref (s.heap.objs.size+1)::us,[]⟩ (Value.ref (s.heap.objs.size+1)::(us++ds)) _ _ E (hr.make C us [])
  (I2.env0.make C us []) (hb _ (Value.ref (s.heap.objs.size+1)::us) I2.kIn hl) r2 hq) λr s' hq'=>?_))
 cases r with
 |error e=>exact hx pins σ _ _ e s' I2 hq'
 |ok fl=>
  cases fl with
  |ret u=>
   obtain⟨v,H',I3,rv,ev,q3⟩:=I2.after hq';subst ev;exact⟨rv,⟨V.ref (s.heap.objs.size+1),H',I3,rfl,q3⟩⟩
  |next=>exact False.elim hq'
  |brk=>exact False.elim hq'
  |cont=>exact False.elim hq'
theorem zrs (M:Mk X.K C f)(F:wx X.prog X.w X.K X.mg X.base CX k f fd ps sp)(hr:Room (k+1) X.A)(hg:Gl X x)(hm:X.mg x=some (.ref C))(hb:vi X.K fd ps ds)(hd:jf dvs ds)(hx:K6 CX X E)
  (ha:PA X (e::es) t)(hdb:(x==("__debug__":Str))=false:=by decide)(he:starEach (e::es) X.env=(false,eval e X.env)::starEach es X.env:=by rfl)(hpl:(backTo pos (starEach es X.env)).any (·.1)=false:=by rfl):
  PE X (.Call (.Name x p) (e::es) [] pos) (zku C sp dvs E t):=by
 intro pins s σ H Q I h;refine z5g (W8 I hg hm ?_ hdb);refine z7f (h₀:=X.base) I.ok.mod.kin M.kp (yd (ha pos pins s σ H _ I h) λus s1 ⟨vs,H1,I1,r,q⟩=>⟨I1.kIn,?_⟩) he hpl;exact zgg M F hr hb hd hx I1 r q
theorem zo5 (M:Mk X.K C f)(F:wx X.prog X.w X.K X.mg X.base CX k f fd ps sp)(hr:Room (k+1) X.A)(hg:Gl X x)(hm:X.mg x=some (.ref C))(hb:vi X.K fd ps ds)(hd:jf dvs ds)(hx:K6 CX X E)
  (hdb:(x==("__debug__":Str))=false:=by decide):PE X (.Call (.Name x p) [] [] pos) (zku C sp dvs E zi1):=by
 intro pins s σ H Q I h;refine z5g (W8 I hg hm ?_ hdb);exact PySem.W.callWith_K0 I.kIn M.kp (zgg (us:=[]) M F hr hb hd hx I .nil h)
end
structure zo (N P:List Str)(sc:Scope):Prop where
 kind:sc.kind=.function
 co:sc.isCoroutine=false
 gen:sc.isGenerator=false
 nd:N.Nodup
 pre:N.take P.length=P
 par:∀ x∈P,sc.names.lookup x=some .local\/sc.names.lookup x=some .cell
 nofree:∀ y∈sc.names,y.2≠.free
theorem zbr {kindOf:Str->Option NameKind}{x:Str}:∀{binds:List (Str×Value)}{m:Str->Option Value},(∀ v,(x,v)∉binds)->bindL kindOf binds m x=m x
 |[],_,_=>rfl
 |(n,v)::r,m,h=>by
  unfold bindL;rw[zbr λw hw=>h w (z3d _ hw)];split
  ·have:x≠n:=by rintro rfl;exact h v z3e
   simp[this]
  ·rfl
theorem zbp {kindOf:Str->Option NameKind}{x:Str}:∀{binds:List (Str×Value)}{m:Str->Option Value},(∀ v,(x,v)∉binds)->bindC kindOf binds m x=m x
 |[],_,_=>rfl
 |(n,v)::r,m,h=>by
  unfold bindC;rw[zbp λw hw=>h w (z3d _ hw)];split
  ·rfl
  ·have:x≠n:=by rintro rfl;exact h v z3e
   simp[this]
theorem zbq {kindOf:Str->Option NameKind}{x:Str}{v:Value}:∀{P:List Str}{vs:List Value}{i:Nat}{m:Str->Option Value},P.Nodup->P[i]? =some x->vs[i]? =some v->kindOf x=some .local->
  bindL kindOf (P.zip vs) m x=some v
 |[],_,_,_,_,h,_,_=>by simp at h
 |_::_,[],_,_,_,_,h,_=>by simp at h
 |p::P,w::vs,0,m,nd,h1,h2,hk=>by
  simp at h1 h2;subst h1;subst h2;show bindL kindOf ((p,w)::P.zip vs) m p=_;unfold bindL;rw[zbr λv hv=>(z53.mp nd).1 (z8x hv).1,z3m hk];simp
 |p::P,w::vs,i+1,m,nd,h1,h2,hk=>by
  show bindL kindOf ((p,w)::P.zip vs) m x=_;unfold bindL;exact zbq (i:=i) (z53.mp nd).2 (by simpa using h1) (by simpa using h2) hk
theorem zbo {kindOf:Str->Option NameKind}{x:Str}{v:Value}:∀{P:List Str}{vs:List Value}{i:Nat}{m:Str->Option Value},P.Nodup->P[i]? =some x->vs[i]? =some v->kindOf x≠some .local->
  bindC kindOf (P.zip vs) m x=some v
 |[],_,_,_,_,h,_,_=>by simp at h
 |_::_,[],_,_,_,_,h,_=>by simp at h
 |p::P,w::vs,0,m,nd,h1,h2,hk=>by
  simp at h1 h2;subst h1;subst h2;show bindC kindOf ((p,w)::P.zip vs) m p=_;unfold bindC;rw[zbp λv hv=>(z53.mp nd).1 (z8x hv).1,z3k hk];simp
 |p::P,w::vs,i+1,m,nd,h1,h2,hk=>by
  show bindC kindOf ((p,w)::P.zip vs) m x=_;unfold bindC;exact zbo (i:=i) (z53.mp nd).2 (by simpa using h1) (by simpa using h2) hk
def start (N:List Str)(vs:List V):St:=vs.map some++List.replicate (N.length - vs.length) none
def zhv (CX:CXT)(P:Program)(w:World)(K:PySem.W.Frag)(mg:Str->Option Value)(base:Heap)(N:List Str)(qual:Str)(scope:Scope)(f:Addr)(cd:Value)(A:Around)(outer:List Env)(s:Shared)(H:Hp)(E:XK):Cx where
 prog:=P
 w:=w
 K:=K
 mg:=mg
 base:=base
 A:=A.deeper (envOfC qual scope s.heap.objs.size f cd)
 N:=N
 s_0:=s
 H_0:=H
 env:=envOfC qual scope s.heap.objs.size f cd
 outer:=outer
 stack:=envOfC qual scope s.heap.objs.size f cd::outer
 ex:=[]
 calm:=true
 fn:=λ_=>true
 pn:=[]
 xe:=λe s'=>wpAny (model P w) (A.deeper (envOfC qual scope s.heap.objs.size f cd)) (leaving (envOfC qual scope s.heap.objs.size f cd) e) (λ_ s''=>CX outer H s E e s'') (λe' s''=>CX outer H s E e' s'') s'
theorem zfl {sc:Scope}{n:Nat}{x:Str}(h:sc.names.lookup x=some .cell):∃ c,(cellsFrom n sc.names []).lookup x=some c:=by
 have q:=jas sc.names n [] (.inl h);exact z7d.mp q
theorem zls {CX:CXT}{P:Program}{w:World}{K:PySem.W.Frag}{mg:Str->Option Value}{base:Heap}{N ps:List Str}{qual:Str}{scope:Scope}{f:Addr}{cd:Value}{A:Around}{outer:List Env}{s s1:Shared}{H:Hp}{E:XK}{us:List Value}{vs:List V}
  (S:zo N ps scope)(hd:A.handled=none)(e0:zg8 P w K mg base A outer s H)(hl:vs.length=ps.length)(r:jf vs us)
  (x:InCallC s s.heap.objs.size (bindL (envOfC qual scope s.heap.objs.size f cd).kindOf (ps.zip us) λ_=>none) (cellsFrom (s.heap.objs.size+1) scope.names []) (bindC (envOfC qual scope s.heap.objs.size f cd).kindOf (ps.zip us) λ_=>none) s1):
  zz (zhv CX P w K mg base N qual scope f cd A outer s H E) [] (start N vs) H s1:=by
 have hpl:ps.length<=N.length:=by have:=z6a List.length S.pre;rw[z35]at this;omega
 obtain⟨h1,tk,rfl,hk⟩:=x.done;have noA:∀ b:Addr,b∉(zhv CX P w K mg base N qual scope f cd A outer s H E).ex:=λb z=>absurd (show b∈([]:List Addr) from z) (by simp);refine⟨⟨e0.mod,S.kind,rfl,rfl,z3c _,λy z c h1 h2=>?_,λy hy=>?_,λy c _ h=>?_,λ_=>hd,Around.frames_deeper e0.frames,.inr ⟨rfl,rfl⟩,λb z=>absurd z (noA b),e0.bs,e0.bsz,λb _ _=>noA b,λb z=>absurd z (noA b),e0.funs,e0.frf⟩,
  rfl,e0.bare,Un.kept hk,⟨_,x.toInCall.ns,λi y v h1 h2 h3=>?_⟩,λy c h=>⟨_,x.cell y c h⟩,e0.hok.fresh (z3c _),λy c h=>?_,λp hp=>absurd (show p∈([]:List (Addr×Obj)) from hp) (by simp),e0.hok.kept hk,?_⟩
 ·exact name_of_addr x.apart (z4t h1) (z4t h2)
 ·have hy:scope.names.lookup y=some .cell\/scope.names.lookup y=some .free:=hy;rcases hy with hy|hy
  ·exact zfl hy
  ·exact absurd rfl (S.nofree _ (z4t hy))
 ·exact z36 (x.above y c (z4t h))
 ·have hi:i < vs.length:=by
   unfold start at h2;by_cases hi:i < vs.length
   ·exact hi
   ·rw[z5d (by simpa using hi)]at h2;rw[List.getElem?_replicate]at h2;split at h2<;>cases h2
  have ha:vs[i]? =some v:=by
   unfold start at h2;rw[z8c (by simpa using hi),z27]at h2;cases e:vs[i]? with
   |none=>rw[e]at h2;cases h2
   |some a=>rw[e]at h2;cases h2;rfl
  obtain⟨u,hu,rv⟩:=r.get ha;have hp:ps[i]? =some y:=by
   rw[<-S.pre,z6k (by omega)];exact h1
  have ndP:ps.Nodup:=by rw[<-S.pre];exact S.nd.sublist (z9p _ _)
  refine⟨u,rv,?_⟩;rcases S.par y (z3r hp) with k|k
  ·exact .inl ⟨k,zbq ndP hp hu k⟩
  ·obtain⟨c,e⟩:=zfl (n:=s.heap.objs.size+1) k;refine .inr ⟨.inl k,c,e,?_⟩;have q:=x.cell y c e;rw[zbo ndP hp hu (by show scope.names.lookup y≠_;rw[k];decide)]at q;exact q
 ·exact e0.hok.fresh (z36 (x.above y c (z4t h)))
 ·unfold start;show _=N.length;rw[z3a,z25,z8y];omega
theorem zun {CX:CXT}{P:Program}{w:World}{K:PySem.W.Frag}{mg:Str->Option Value}{base:Heap}{k:Nat}{f:Addr}{name qual:Str}{params:Arguments}{body:List Stmt}{scope:Scope}{dV kV doc pm cdv ct oc:Value}{an od:Option Addr}
  {osl:Array (Option Value)}{N ps:List Str}{sp:Sp}(lk:K.lookup f=some ⟨oc,od,.func (PySem.W.fnOf name qual params body scope dV kV doc pm an cdv ct),osl⟩)(hcd:PySem.W.codeIn K cdv qual=true)(S:zo N ps scope)
  (len:∀ vs H Q E,sp vs H Q E->vs.length=ps.length)
  (hbody:∀(A:Around) (outer:List Env) (s:Shared) (H:Hp) (vs:List V) (Q:VK) (E:XK),Room k (A.deeper (envOfC qual scope s.heap.objs.size f cdv))->sp vs H Q E->
   ∃ t,PSs (zhv CX P w K mg base N qual scope f cdv A outer s H E) body t/\t {nx:=λ_ H'=>Q .non H',rt:=Q} (start N vs) H):
  wx P w K mg base CX (k+1) f (PySem.W.fnOf name qual params body scope dV kV doc pm an cdv ct) ps sp:=by
 refine⟨len,λA outer s H args us vs Q E hr e0 hb r hsp=>?_⟩;have hl:=len _ _ _ _ hsp;have KX:K.In s.heap:=e0.mod.kin.keeps λb o e=>(e0.bs b o e).1;have lim:s.heap.NoLimit:=e0.mod.nolimit.keeps λb o e=>(e0.bs b o e).1;have hkind:∀ y∈ps.zip us,scope.names.lookup y.1=some .local\/(scope.names.lookup y.1=some .cell/\((cellsFrom (s.heap.objs.size+1) scope.names []).lookup y.1).isSome=true):=λ⟨n,v⟩ hy=>by
  rcases S.par n (z8x hy).1 with q|q
  ·exact .inl q
  ·exact .inr ⟨q,jas _ _ _ (.inl q)⟩
 refine codeAny_call_function hr.depth (KX _ _ lk) rfl S.co S.gen rfl (PySem.W.codeRec_of KX hcd) (hb _ _ _ _ ?_);refine wpAny_newFunctionEnv_cells S.kind hkind λenv he s1 x=>?_;subst he;refine⟨lim.keeps x.toInCall.keep,codeAny_func ?_⟩;obtain⟨t,ht,hq⟩:=hbody A outer s H vs Q E (hr.deeper _) hsp;have I:zz (zhv CX P w K mg base N qual scope f cdv A outer s H E) [] (start N vs) H s1:=zls S hr.hd e0 hl r x;refine z6q (ht [] s1 (start N vs) H _ I hq) (λfl s' hs=>?_) λe s' hs=>hs;have fin:∀{σ':St}{H':Hp}{v:V}{u:Value},zz (zhv CX P w K mg base N qual scope f cdv A outer s H E) [] σ' H' s'->jp v u->Q v H'->CE outer P w H s Q u s':=
  λ{σ' H' v u} J rv q=>⟨v,H',J.os,J.bare,J.base,J.hok,rv,q⟩
 cases fl with
 |ret u=>
  obtain⟨v,σ',H',J,rv,q⟩:=hs;exact fin J rv q
 |next=>
  obtain⟨σ',H',J,q⟩:=hs;exact fin (v:=V.non) (u:=Value.none) J rfl q
 |brk=>
  obtain⟨_,_,_,q⟩:=hs;exact False.elim q
 |cont=>
  obtain⟨_,_,_,q⟩:=hs;exact False.elim q
section
variable {X:Cx}{x:Str}{p pos:Pos}{e:Expr}{es:List Expr}{t:TA}{id T:String}{r:List V->Hp->VK->Prop}
def tCB (r:List V->Hp->VK->Prop)(t:TA):TE:=λσ H Q=>t σ H λvs H1=>r vs H1 Q
theorem ji (hc:Zz X (.builtin id) r)(hg:Gl X x)(hm:X.mg x=none)(hv:bootBuiltins x=some (.builtin id))(ha:PA X (e::es) t)(hn:x≠"__name__":=by decide)(hdb:(x==("__debug__":Str))=false:=by decide)
  (he:starEach (e::es) X.env=(false,eval e X.env)::starEach es X.env:=by rfl)(hpl:(backTo pos (starEach es X.env)).any (·.1)=false:=by rfl):PE X (.Call (.Name x p) (e::es) [] pos) (tCB r t):=by
 intro pins s σ H Q I h;refine z5g (vc I hg hm hv ?_ hn hdb);exact z9t (yd (ha pos pins s σ H _ I h) λus s1 ⟨vs,H1,I1,r1,q1⟩=>hc pins s1 σ H1 vs us Q I1 r1 q1) he hpl
theorem qv (hc:Zz X (.type T) r)(hg:Gl X x)(hm:X.mg x=none)(hv:bootBuiltins x=some (.type T))(ha:PA X (e::es) t)(hn:x≠"__name__":=by decide)(hdb:(x==("__debug__":Str))=false:=by decide)
  (he:starEach (e::es) X.env=(false,eval e X.env)::starEach es X.env:=by rfl)(hpl:(backTo pos (starEach es X.env)).any (·.1)=false:=by rfl):PE X (.Call (.Name x p) (e::es) [] pos) (tCB r t):=by
 intro pins s σ H Q I h;refine z5g (vc I hg hm hv ?_ hn hdb);exact z4y (yd (ha pos pins s σ H _ I h) λus s1 ⟨vs,H1,I1,r1,q1⟩=>hc pins s1 σ H1 vs us Q I1 r1 q1) he hpl
end
end L2
namespace HT
open PySem PyProof.Rows
section
variable {prog:Program}{w:World}{A:Around}{E:Value->Shared->Prop}{s:Shared}
def sIx (n d:Nat):Option Int->Nat
 |none=>d
 |some v=>if v < 0 then (v+(n:Int)).toNat else min v.toNat n
theorem sIx_nat (n d k:Nat):sIx n d (some (k:Int))=min k n:=by
 show (if (k:Int) < 0 then ((k:Int)+(n:Int)).toNat else min (k:Int).toNat n)=min k n;rw[z3k (by omega),z3i]
end
end HT
namespace L2
open PySem PySem.Spec PyProof.Rows
abbrev TO:=St->Hp->(Option Int->Hp->Prop)->Prop
def PO (X:Cx)(e:Option Expr)(t:TO):Prop:=
 ∀(pins:List (Addr×Obj)) (s:Shared) (σ:St) (H:Hp) (Q:Option Int->Hp->Prop),zz X pins σ H s->t σ H Q->
  wpAny (model X.prog X.w) X.A (evalPart e X.env) (λu s'=>∃ o H',zz X pins σ H' s'/\IsPart u o/\Q o H') X.xe s
def zsw:TO:=λ_ H Q=>Q none H
def zy2 (t:TE):TO:=λσ H Q=>t σ H λx H1=>∃ i,x=.int i/\Q (some i) H1
section
variable {X:Cx}{e:Expr}{te:TE}{lo hi:Option Expr}{tl th:TO}{pos p2:Pos}
theorem zdz:PO X none zsw:=by
 intro pins s σ H Q I h;rw[evalPart_none];exact z3h ⟨none,H,I,.none,h⟩
theorem Jm (h:PE X e te):PO X (some e) (zy2 te):=by
 intro pins s σ H Q I hw;rw[evalPart_some];refine yd (h pins s σ H _ I hw) λu s1 ⟨x,H1,I1,r1,q1⟩=>?_;obtain⟨i,rfl,q⟩:=q1;obtain⟨t,rfl⟩:=r1;exact⟨some i,H1,I1,.int i t,q⟩
def SlR (X:Cx)(r:V->Option Int->Option Int->Hp->VK->Prop):Prop:=
 ∀(pins:List (Addr×Obj)) (s:Shared) (σ:St) (H:Hp) (x:V) (v vl vu:Value) (lo hi:Option Int) (sl:Addr) (Q:VK),zz X pins σ H s->jp x v->s.heap.IsSliceOf sl vl vu .none->IsPart vl lo->IsPart vu hi->r x lo hi H Q->
  ∃ T id,typeLookup (.type T) "__getitem__"=pure (some (.builtin id))/\s.TypeIs v T/\wpAny (model X.prog X.w) X.A (getItem v (.ref sl)) (EP X pins σ Q) X.xe s
def tSl (r:V->Option Int->Option Int->Hp->VK->Prop)(te:TE)(tl th:TO):TE:=λσ H Q=>te σ H λx H1=>tl σ H1 λl H2=>th σ H2 λu H3=>r x l u H3 Q
theorem Ye {r:V->Option Int->Option Int->Hp->VK->Prop}(hr:SlR X r)(he:PE X e te)(hl:PO X lo tl)(hu:PO X hi th):PE X (.Subscript e (.Slice lo hi none p2) pos) (tSl r te tl th):=by
 intro pins s σ H Q I h;refine Subscript_ (yd (he pins s σ H _ I h) λv s1 ⟨x,H1,I1,r1,q1⟩=>?_);refine wpAny_Slice (yd (hl pins s1 σ H1 _ I1 q1) λvl s2 ⟨l,H2,I2,pl,q2⟩=>yd (hu pins s2 σ H2 _ I2 q2) λvu s3 ⟨u,H3,I3,pu,q3⟩=>?_);rw[evalPart_none];refine z3h ?_;have I4:zz X pins σ H3 {s3 with heap:=s3.heap.push {cls:=.type "slice",data:=.fields #[vl,vu,.none]}}:=I3.kept (t':=s3.toks) λb ob q=>z29 _ q;obtain⟨T,id,hT,ht,hg⟩:=hr pins {s3 with heap:=s3.heap.push {cls:=.type "slice",data:=.fields #[vl,vu,.none]}} σ H3 x v vl vu l u s3.heap.objs.size Q I4 r1 (Heap.IsSliceOf.new ..) pl pu q3;show wpAny (model X.prog X.w) X.A (subscriptTail e (.Slice lo hi none p2) v (.ref s3.heap.objs.size)) (EP X pins σ Q) X.xe {s3 with heap:=s3.heap.push {cls:=.type "slice",data:=.fields #[vl,vu,.none]}};exact tail_any (ops:=[.ref s3.heap.objs.size,v]) ht hT hg (by with_unfolding_all rfl)
def Q7 (xs:List V)(lo hi:Option Int):List V:=(xs.drop (HT.sIx xs.length 0 lo)).take (HT.sIx xs.length xs.length hi - HT.sIx xs.length 0 lo)
theorem zfo (xs:List V)(lo hi:Option Int):(Q7 xs lo hi).length<=xs.length:=by
 unfold Q7;rw[z35,z46];omega
end
def ixN (n:Nat)(i:Int):Option Nat:=if 0<=i then (if i < n then some i.toNat else none) else if -(n:Int)<=i then some (i+n).toNat else none
def atI {α:Type}(xs:List α)(i:Int):Option α:=(ixN xs.length i).bind λj=>xs[j]?
theorem zj6 {n:Nat}{i:Int}{j:Nat}(h:ixN n i=some j):seqIndex? i n=some j/\j < n/\-(n:Int)<=i/\i < n:=by
 unfold ixN at h;by_cases h0:0<=i
 ·rw[z3m h0]at h;by_cases h1:i < n
  ·rw[z3m h1]at h;have e:i.toNat=j:=z3p h;exact⟨by rw[seqIndex_of h0 h1,e],by omega,by omega,h1⟩
  ·rw[z3k h1]at h;cases h
 ·rw[z3k h0]at h;by_cases h1: -(n:Int)<=i
  ·rw[z3m h1]at h;have e:(i+n).toNat=j:=z3p h;exact⟨by rw[seqIndex_neg (by omega) h1,e],by omega,h1,by omega⟩
  ·rw[z3k h1]at h;cases h
theorem zjo {α:Type}{xs:List α}{i:Int}{v:α}(h:atI xs i=some v):∃ j,seqIndex? i xs.length=some j/\xs[j]? =some v/\j < xs.length/\-(xs.length:Int)<=i/\i < xs.length:=by
 unfold atI at h;cases e:ixN xs.length i with
 |none=>rw[e]at h;cases h
 |some j=>
  rw[e]at h;obtain⟨h1,h2,h3,h4⟩:=zj6 e;exact⟨j,h1,h,h2,h3,h4⟩
theorem zk {α:Type}{xs:List α}{j:Nat}{v:α}(h:xs[j]? =some v):atI xs (j:Int)=some v:=by
 have hj:j < xs.length:=(z3b.mp h).1;have e:ixN xs.length (j:Int)=some j:=by
  unfold ixN;rw[z3m (by omega),z3m (by omega)];simp
 unfold atI;rw[e];exact h
theorem ze3 {α:Type}(xs:List α)(v:α):atI (xs++[v]) (-1)=some v:=by
 have hl:(xs++[v]).length=xs.length+1:=by simp
 have e:ixN (xs++[v]).length (-1)=some xs.length:=by
  unfold ixN;rw[hl,z3k (by decide),z3m (by omega)];congr 1;omega
 unfold atI;rw[e];show (xs++[v])[xs.length]? =some v;simp
def zcr (b:Expr):Prop:=∀ o i,subscripted b false o i=operate [o,i] (getItem o i)
def IxR (X:Cx)(r:R2):Prop:=
 ∀(value slice:Expr) (pins:List (Addr×Obj)) (s:Shared) (σ:St) (H:Hp) (x y:V) (v u:Value) (Q:VK),zz X pins σ H s->jp x v->jp y u->r x y H Q->
  subscripted slice false v u=operate [v,u] (getItem v u)->wpAny (model X.prog X.w) X.A (subscriptTail value slice v u) (EP X pins σ Q) X.xe s
def MtR (X:Cx)(id:String)(r:V->List V->Hp->VK->Prop):Prop:=
 ∀(pins:List (Addr×Obj)) (s:Shared) (σ:St) (H:Hp) (x:V) (xs:List V) (v:Value) (us:List Value) (Q:VK),zz X pins σ H s->jp x v->jf xs us->r x xs H Q->
  wpAny (model X.prog X.w) X.A (call (.builtin id) (v::us)) (EP X pins σ Q) X.xe s
section
variable {X:Cx}{a b:Expr}{ta tb:TE}{pos:Pos}
theorem zu {r:R2}(hr:IxR X r)(ha:PE X a ta)(hb:PE X b tb)(hs:zcr b):PE X (.Subscript a b pos) (tOp r ta tb):=by
 intro pins s σ H Q I h;exact Subscript_ (zu4 ha hb I h λv u s2 x y H2 I2 rx ry q=>hr a b pins s2 σ H2 x y v u Q I2 rx ry q (hs _ _))
inductive zs9 (K:PySem.W.Frag)(x y:V)(H:Hp)(Q:VK):Prop
 |mk (p:Addr) (xs:List V) (i:Int) (v:V):x=.ref p->y=.int i->zx K H p xs->atI xs i=some v->Q v H->zs9 K x y H Q
def zyf (K:PySem.W.Frag):R2:=λx y H Q=>zs9 K x y H Q
inductive zta (K:PySem.W.Frag)(x y:V)(H:Hp)(Q:VK):Prop
 |mk (p:Addr) (xs:List V) (i:Int) (v:V):x=.ref p->y=.int i->yw K H p xs->atI xs i=some v->Q v H->zta K x y H Q
def zz6 (K:PySem.W.Frag):R2:=λx y H Q=>zta K x y H Q
theorem zw:IxR X (zyf X.K):=by
 intro value slice pins s σ H x y v u Q I rx ry h hs;obtain⟨p,xs,i,z,rfl,rfl,hq,he,q⟩:=h;cases rx;obtain⟨t,rfl⟩:=ry;obtain⟨its,r,pl,hz⟩:=I.list hq;obtain⟨j,h1,h2,h3,h4,h5⟩:=zjo he;obtain⟨w,ew,rw'⟩:=r.get h2;have hl:=r.length;have hn:=zdm;have fin:EP X pins σ Q w s:=⟨z,H,I,rw',q⟩;by_cases h0:0<=i
 ·have hj:i.toNat=j:=by
   rw[seqIndex_of h0 h5]at h1;exact z3p h1
  exact item_listR pl.isList h0 (by omega) (by rw[hj];simpa using ew) fin hs
 ·have hj:(i+(its.toArray.size:Int)).toNat=j:=by
   rw[seqIndex_neg (by omega) h4]at h1;rw[z3x,<-hl];exact z3p h1
  exact subscriptTail_builtinR (x:=w) pl.isList.typeIs slot_list_getitem.lookup
   (wpAny_getItem_list_neg (Q:=λr s'=>r=w/\EP X pins σ Q r s') pl.isList (by omega) (by rw[z3x]<;>omega) (by omega) (by rw[hj];simpa using ew) ⟨rfl,fin⟩) hs
theorem jm:IxR X (zz6 X.K):=by
 intro value slice pins s σ H x y v u Q I rx ry h hs;obtain⟨p,xs,i,z,rfl,rfl,hq,he,q⟩:=h;cases rx;obtain⟨t,rfl⟩:=ry;obtain⟨its,r,pl,hz⟩:=I.tuple hq;obtain⟨j,h1,h2,h3,h4,h5⟩:=zjo he;obtain⟨w,ew,rw'⟩:=r.get h2;have hl:=r.length;have hn:=zdm;have fin:EP X pins σ Q w s:=⟨z,H,I,rw',q⟩;exact subscriptTail_builtinR (x:=w) pl.typeIs slot_tuple_getitem.lookup
  (getItem_tuple (j:=j) (Q:=λr s'=>r=w/\EP X pins σ Q r s') pl (by omega) (by omega) (by rw[z3x,<-hl];exact h1) (by simpa using ew) ⟨rfl,fin⟩) hs
theorem zh7 (its:List Value)(n j:Nat)(u:Value):Obj.mapSeq (·.setIfInBounds j u) {cls:=.type "list",data:=.seq its.toArray n}={cls:=.type "list",data:=.seq (its.set j u).toArray n}:=by
 simp[Obj.mapSeq]
theorem zz.lst {pins:List (Addr×Obj)}{σ:St}{H:Hp}{s:Shared}{p:Addr}{xs:List V}(I:zz X pins σ H s)(h:H p=some (.lst xs)):
  ∃(its:List Value) (n:Nat),jf xs its/\s.heap.get? p=some {cls:=.type "list",data:=.seq its.toArray n}/\xs.length<=sizeLine:=by
 obtain⟨z,its,n,r,e⟩:=I.hok p _ h;exact⟨its,n,r,e,z⟩
theorem zz.lstUpd {pins:List (Addr×Obj)}{σ:St}{H:Hp}{s:Shared}{p:Addr}{xs ys:List V}{its its':List Value}{n n':Nat}{f:Obj->Obj}(I:zz X pins σ H s)(h:H p=some (.lst xs))
  (ho:s.heap.get? p=some {cls:=.type "list",data:=.seq its.toArray n})(hf:f {cls:=.type "list",data:=.seq its.toArray n}={cls:=.type "list",data:=.seq its'.toArray n'})(r:jf ys its')(hz:ys.length<=sizeLine)(t:Nat):
  zz X pins σ (upd H p (.lst ys)) {s with heap:=s.heap.update p f,toks:=t}:=by
 have e:(s.heap.update p f).get? p=some {cls:=.type "list",data:=.seq its'.toArray n'}:=by
  rw[z5j f ho (by rw[hf]<;>rfl),hf]
 refine I.write (x:=p) (e:=p) (by rw[h];trivial) (.inl rfl) (λb u hb q=>(z40 _ _ (z7c hb)).trans q) ⟨_,e⟩ ?_;exact⟨hz,its',n',r,e⟩
inductive zm6 (o i v:V)(H:Hp)(Q:Hp->Prop):Prop
 |mk (p:Addr) (xs:List V) (k:Int) (j:Nat):o=.ref p->i=.int k->H p=some (.lst xs)->ixN xs.length k=some j->Q (upd H p (.lst (xs.set j v)))->zm6 o i v H Q
def zyg:V->V->V->Hp->(Hp->Prop)->Prop:=λo i v H Q=>zm6 o i v H Q
theorem Kt:zxs X zyg:=by
 intro pins s σ H o i v ov iv u Q I ro ri rv h;obtain⟨p,xs,k,j,rfl,rfl,hp,hj,q⟩:=h;cases ro;obtain⟨t,rfl⟩:=ri;obtain⟨its,n,r,ho,hz⟩:=I.lst hp;obtain⟨h1,h2,h3,h4⟩:=zj6 hj;have hl:=r.length;have hn:=zdm;have I':zz X pins σ (upd H p (.lst (xs.set j v))) {s with heap:=s.heap.update p (Obj.mapSeq (·.setIfInBounds j u))}:=
  I.lstUpd hp ho (zh7 its n j u) (r.set rv j) (by rw[z72];exact hz) s.toks
 by_cases h0:0<=k
 ·have hk:k.toNat=j:=by
   rw[seqIndex_of h0 h4]at h1;exact z3p h1
  exact PySem.W.ki_setAt ho h0 (by omega) (by rw[z3x,<-hl];exact h4) (by rw[hk];exact⟨_,I',q⟩)
 ·have hk:(k+(its.toArray.size:Int)).toNat=j:=by
   rw[seqIndex_neg (by omega) h3]at h1;rw[z3x,<-hl];exact z3p h1
  exact PySem.W.ki_setBack ho (by omega) (by rw[z3x,<-hl];exact h3) (by omega) (by rw[hk];exact⟨_,I',q⟩)
theorem zeg (lo hi:Option Int)(n:Nat):(sliceBounds lo hi none n).1=((HT.sIx n 0 lo:Nat):Int)/\(sliceBounds lo hi none n).2.1=((HT.sIx n n hi:Nat):Int)/\(sliceBounds lo hi none n).2.2=1:=by
 refine⟨?_,?_,rfl⟩
 ·cases lo with
  |none=>simp[sliceBounds,HT.sIx]
  |some i=>
   simp only[sliceBounds,HT.sIx,Option.getD_none,show (1:Int) > 0 by decide,z6d];by_cases h:i < 0
   ·simp only[h,z6d]<;>omega
   ·simp only[h,z54]<;>omega
 ·cases hi with
  |none=>simp[sliceBounds,HT.sIx]
  |some i=>
   simp only[sliceBounds,HT.sIx,Option.getD_none,show (1:Int) > 0 by decide,z6d];by_cases h:i < 0
   ·simp only[h,z6d]<;>omega
   ·simp only[h,z54]<;>omega
theorem zbc (its:List Value)(lo hi:Option Int):slicePick its.toArray lo hi none=((its.drop (HT.sIx its.length 0 lo)).take (HT.sIx its.length its.length hi - HT.sIx its.length 0 lo)).toArray:=by
 obtain⟨h1,h2,h3⟩:=zeg lo hi its.toArray.size;unfold slicePick;rw[h1,h2,h3];simp only[sliceRange_one,pick_run,z3x]<;>rfl
def z0a (K:PySem.W.Frag):V->Option Int->Option Int->Hp->VK->Prop:=λx lo hi H Q=>∃ a xs,x=.ref a/\zx K H a xs/\∀ p,H p=none->Q (.ref p) (upd H p (.lst (Q7 xs lo hi)))
theorem Kw:SlR X (z0a X.K):=by
 intro pins s σ H x v vl vu lo hi sl Q I rx hs pl pu h;obtain⟨a,xs,rfl,hx,q⟩:=h;cases rx;obtain⟨its,r,ht,hz⟩:=I.list hx;have hlen:=r.length;refine⟨"list",_,slot_list_getitem.lookup,ht.isList.typeIs,?_⟩;refine wpAny_getItem_list_slice ht.isList hs pl pu .none (by simp) ?_ (by rw[z3x]<;>omega);rw[zbc,<-hlen];refine⟨.ref s.heap.objs.size,_,I.laid (t':=s.toks) (o:=.lst (Q7 xs lo hi)) (λb ob q=>z29 _ q) (z3c _) ?_,rfl,q _ (I.hok.fresh (z3c _))⟩;exact⟨z32 (zfo xs lo hi) hz,_,0,(r.drop (HT.sIx xs.length 0 lo)).take (HT.sIx xs.length xs.length hi - HT.sIx xs.length 0 lo),z3o _ rfl⟩
def X2:V->Bool
 | .non=>true
 | .bl _=>true
 | .int _=>true
 | .str _=>true
 |_=>false
def eqV:V->V->Bool
 | .non,.non=>true
 | .bl a,.bl b=>a==b
 | .bl a,.int b=>(if a then 1 else 0)==b
 | .int a,.bl b=>a==(if b then 1 else 0)
 | .int a,.int b=>a==b
 | .str a,.str b=>a==b
 |_,_=>false
theorem zva {A:Around}{s:Shared}{y x:V}{u v:Value}(ry:jp y u)(rx:jp x v)(fy:X2 y=true)(fx:X2 x=true):SeqAt.EqAt A s u v (eqV y x):=by
 cases y with
 |non=>
  cases ry;cases x with
  |non=>cases rx;exact SeqAt.EqAt.same _
  |bl b=>cases rx;exact SeqAt.EqAt.none_bool b
  |int b=>obtain⟨t,rfl⟩:=rx;exact SeqAt.EqAt.none_int b t
  |str b=>obtain⟨t,rfl⟩:=rx;exact SeqAt.EqAt.none_str b t
  |_=>exact absurd (show false=true from fx) z3w
 |bl a=>
  cases ry;cases x with
  |non=>cases rx;exact SeqAt.EqAt.bool_none a
  |bl b=>cases rx;exact SeqAt.EqAt.bool_bool a b
  |int b=>obtain⟨t,rfl⟩:=rx;exact SeqAt.EqAt.bool_int a b t
  |str b=>obtain⟨t,rfl⟩:=rx;exact SeqAt.EqAt.bool_str a b t
  |_=>exact absurd (show false=true from fx) z3w
 |int a=>
  obtain⟨t',rfl⟩:=ry;cases x with
  |non=>cases rx;exact SeqAt.EqAt.int_none a t'
  |bl b=>cases rx;exact SeqAt.EqAt.int_bool a t' b
  |int b=>obtain⟨t,rfl⟩:=rx;exact SeqAt.EqAt.int_int a t' b t
  |str b=>obtain⟨t,rfl⟩:=rx;exact SeqAt.EqAt.int_str a t' b t
  |_=>exact absurd (show false=true from fx) z3w
 |str a=>
  obtain⟨t',rfl⟩:=ry;cases x with
  |non=>cases rx;exact SeqAt.EqAt.str_none a t'
  |bl b=>cases rx;exact SeqAt.EqAt.str_bool a t' b
  |int b=>obtain⟨t,rfl⟩:=rx;exact SeqAt.EqAt.str_int a t' b t
  |str b=>obtain⟨t,rfl⟩:=rx;exact SeqAt.EqAt.str_str a t' b t
  |_=>exact absurd (show false=true from fx) z3w
 |_=>exact absurd (show false=true from fy) z3w
def eqU (x:V)(u:Value):Bool:=match u with
 | .none=>eqV .non x
 | .bool b=>eqV (.bl b) x
 | .int i _=>eqV (.int i) x
 | .str z _=>eqV (.str z) x
 |_=>false
theorem zn5 {x y:V}{u:Value}(r:jp y u)(f:X2 y=true):eqU x u=eqV y x:=by
 cases y with
 |non=>cases r;rfl
 |bl b=>cases r;rfl
 |int i=>obtain⟨t,rfl⟩:=r;rfl
 |str z=>obtain⟨t,rfl⟩:=r;rfl
 |_=>exact absurd (show false=true from f) z3w
theorem zcs {x:V}:∀{xs:List V}{us:List Value},jf xs us->xs.all X2=true->us.any (eqU x)=xs.any λy=>eqV y x
 |_,_,.nil,_=>rfl
 |y::xs,u::us,.cons r t,f=>by
  rw[z6n,z3f]at f;rw[z7z,z7z,zn5 r f.1,zcs t f.2]
theorem U7 {A:Around}{s:Shared}{x:V}{v:Value}(rx:jp x v)(fx:X2 x=true):∀{xs:List V}{us:List Value},jf xs us->xs.all X2=true->∀ u∈us,SeqAt.EqAt A s u v (eqU x u)
 |_,_,.nil,_=>λu hu=>by cases hu
 |y::xs,u::us,.cons r t,f=>λu' hu=>by
  rw[z6n,z3f]at f;rcases z3t.mp hu with rfl|hu
  ·rw[zn5 r f.1];exact zva r rx f.1 fx
  ·exact U7 rx fx t f.2 u' hu
def inV (x:V)(xs:List V):Bool:=xs.any λy=>eqV y x
def rIn (K:PySem.W.Frag)(neg:Bool):R2:=λx y H Q=>∃ p xs,y=.ref p/\(zx K H p xs\/yw K H p xs)/\X2 x=true/\xs.all X2=true/\Q (.bl (if neg then !inV x xs else inV x xs)) H
theorem X7:K5 X (compareOp .NotIn) (rIn X.K true):=by
 intro pins s σ H x y v u Q I rx ry h;obtain⟨p,xs,rfl,hq,fx,fs,q⟩:=h;cases ry;rcases hq with hq|hq
 ·obtain⟨its,r,pl,hz⟩:=I.list hq;refine SeqAt.notIn_listAt (eqU x) pl.isList (λw hw=>U7 rx fx r fs w (by simpa using hw)) ⟨.bl _,H,I,rfl,?_⟩;rw[show its.toArray.any (eqU x)=its.any (eqU x) by simp,zcs r fs];exact q
 ·obtain⟨its,r,pl,hz⟩:=I.tuple hq;refine SeqAt.notIn_tupleAt (eqU x) pl (λw hw=>U7 rx fx r fs w (by simpa using hw)) ⟨.bl _,H,I,rfl,?_⟩;rw[show its.toArray.any (eqU x)=its.any (eqU x) by simp,zcs r fs];exact q
theorem jj:Zz X (.builtin "len") (λxs H Q=>∃ p ys,xs=[.ref p]/\(zx X.K H p ys\/yw X.K H p ys)/\Q (.int ys.length) H):=by
 intro pins s σ H xs us Q I r h;obtain⟨p,ys,rfl,hq,q⟩:=h;obtain⟨u,rfl,rx⟩:=zqp r;cases rx;have hn:=zdm;rcases hq with hq|hq
 ·obtain⟨its,r',pl,hz⟩:=I.list hq;have hlen:=r'.length;exact Calls.call_len_list pl.isList (by simp only[z3x]<;>omega) ⟨.int ys.length,H,I.tok _,⟨s.toks+1,by rw[z3x,hlen]⟩,q⟩
 ·obtain⟨its,r',pl,hz⟩:=I.tuple hq;have hlen:=r'.length;exact len_tuple pl (by simp only[z3x]<;>omega) ⟨.int ys.length,H,I.tok _,⟨s.toks+1,by rw[z3x,hlen]⟩,q⟩
theorem qh:Zz X (.type "list") (λxs H Q=>∃ p ys,xs=[.ref p]/\(zx X.K H p ys\/yw X.K H p ys)/\∀ l,H l=none->Q (.ref l) (upd H l (.lst ys))):=by
 intro pins s σ H xs us Q I r h;obtain⟨p,ys,rfl,hq,q⟩:=h;obtain⟨u,rfl,rx⟩:=zqp r;cases rx;have fin:∀(its:List Value),jf ys its->ys.length<=sizeLine->∀(h':Heap) (c':Nat),(∀ b o',s.heap.get? b=some o'->h'.get? b=some o')->
   h'.get? s.heap.objs.size=some {cls:=.type "list",dict:=none,data:=.seq its.toArray c',slots:= #[]}->EP X pins σ Q (.ref s.heap.objs.size) {s with heap:=h'}:=λits r' hz h' c' kp e=>
  ⟨.ref s.heap.objs.size,_,I.laid (t':=s.toks) kp (z3c _) (show j6 X.prog X.w _ h' _ (.lst ys) from ⟨hz,its,c',r',e⟩),rfl,q _ (I.hok.fresh (z3c _))⟩
 rcases hq with hq|hq
 ·obtain⟨its,r',pl,hz⟩:=I.list hq;have hlen:=r'.length;obtain⟨o,ho,hc,n,hd⟩:=pl.isList;exact call_list_seq p (.inl rfl) ho hc hd (λh' c' kp e=>fin its r' hz h' c' kp e) (by simp only[z3x]<;>omega)
 ·obtain⟨its,r',pl,hz⟩:=I.tuple hq;have hlen:=r'.length;obtain⟨o,ho,hc,n,hd⟩:=pl;exact call_list_seq p (.inr rfl) ho hc hd (λh' c' kp e=>fin its r' hz h' c' kp e) (by simp only[z3x]<;>omega)
def tyV (K:PySem.W.Frag)(T:String)(x:V)(H:Hp):Prop:=match x with
 | .str _=>T="str"
 | .int _=>T="int"
 | .ref p=>(T="list"/\∃ xs,zx K H p xs)\/(T="tuple"/\∃ o,K.lookup p=some o/\o.cls=.type "tuple"/\o.dict=none)\/
   (T="dict"/\((∃ kvs,H p=some (.dK kvs))\/∃ kvs,H p=some (.dT kvs)))\/(T="set"/\∃ S n,H p=some (.set S n))
 |_=>False
theorem zqg {pins:List (Addr×Obj)}{σ:St}{H:Hp}{s:Shared}{T:String}{x:V}{v:Value}(I:zz X pins σ H s)(r:jp x v)(ty:tyV X.K T x H):
  s.TypeIs v T/\∀ a,v=.ref a->∃ ob,s.heap.get? a=some ob/\ob.dict=none:=by
 cases x with
 |str z=>
  obtain⟨t,rfl⟩:=r;cases (show T="str" from ty);exact⟨typeIs_str s z t,λ_ e=>nomatch e⟩
 |int i=>
  obtain⟨t,rfl⟩:=r;cases (show T="int" from ty);exact⟨typeIs_int s i t,λ_ e=>nomatch e⟩
 |ref p=>
  cases r;rcases ty with ⟨rfl,xs,hq⟩|⟨rfl,o,hk,hc,hd⟩|⟨rfl,hk⟩|⟨rfl,S,n,hk⟩
  ·obtain⟨its,_,pl,_⟩:=I.list hq;refine⟨pl.isList.typeIs,λa e=>?_⟩;cases e;obtain⟨o,n,e,c,hd,_⟩:=pl;exact⟨o,e,hd⟩
  ·refine⟨⟨o,I.kIn p o hk,hc⟩,λa e=>?_⟩;cases e;exact⟨o,I.kIn _ o hk,hd⟩
  ·have z:∃ o,s.heap.get? p=some o/\o.ExactDict:=by
    rcases hk with ⟨kvs,hk⟩|⟨kvs,hk⟩
    ·obtain⟨_,_,_,_,o,_,_,e,ex,_⟩:=I.hok p _ hk;exact⟨o,e,ex⟩
    ·obtain⟨_,_,_,_,o,_,_,e,ex,_⟩:=I.hok p _ hk;exact⟨o,e,ex⟩
   obtain⟨o,e,ex⟩:=z;refine⟨⟨o,e,ex.1⟩,λa e2=>?_⟩;cases e2;exact⟨o,e,ex.2.1⟩
  ·obtain⟨o,_,_,_,e,ex,_⟩:=I.hok p _ hk;refine⟨⟨o,e,ex.1⟩,λa e2=>?_⟩;cases e2;exact⟨o,e,ex.2.1⟩
 |_=>exact False.elim ty
def z1r (K:PySem.W.Frag)(T:String)(r:V->List V->Hp->VK->Prop)(to:TE):TE:=λσ H Q=>to σ H λx H1=>tyV K T x H1/\r x [] H1 Q
def tBM (K:PySem.W.Frag)(T:String)(r:V->List V->Hp->VK->Prop)(to:TE)(t:TA):TE:=λσ H Q=>to σ H λx H1=>tyV K T x H1/\t σ H1 λxs H2=>r x xs H2 Q
variable {o e:Expr}{es:List Expr}{to:TE}{t:TA}{name:Str}{apos cpos:Pos}{T id:String}{r:V->List V->Hp->VK->Prop}
theorem zv7 (pa:PlainAttrs T)(slot:Slot T name id)(hty:typeOf (.builtin id)=pure (.type "method_descriptor"))(hm:MtR X id r)(ho:PE X o to)
  (hbase:attributeBase o name X.env (eval o X.env)=eval o X.env:=by rfl)(hline:(apos.endLine==cpos.line)=true:=by rfl):PE X (.Call (.Attribute o name apos) [] [] cpos) (z1r X.K T r to):=by
 intro pins s σ H Q I h;refine wpAny_Call_method0_late hbase hline (yd (ho pins s σ H _ I h) λv s1 ⟨x,H1,I1,r1,ty,q1⟩=>?_);obtain⟨h1,h2⟩:=zqg I1 r1 ty;exact⟨T,id,pa,slot,hty,h1,h2,z9a rfl (z88 (hm pins s1 σ H1 x [] v [] Q I1 r1 .nil q1))⟩
theorem xp (pa:PlainAttrs T)(slot:Slot T name id)(hty:typeOf (.builtin id)=pure (.type "method_descriptor"))(hm:MtR X id r)(ho:PE X o to)(ha:PA X (e::es) t)
  (hbase:attributeBase o name X.env (eval o X.env)=eval o X.env:=by rfl)
  (hfew:((backTo cpos (starEach (e::es) X.env)).all (λx=> !x.1)&&(backToKw cpos (keywordEach [] X.env)).all (λx=>x.1.isSome)
   &&decide ((e::es).length+([]:List Keyword).length+(if ([]:List Keyword).isEmpty then 0 else 1) < 30))=true:=by rfl)
  (hline:(apos.endLine==cpos.line)=true:=by rfl)(hs:starEach (e::es) X.env=(false,eval e X.env)::starEach es X.env:=by rfl)(hplain:(backTo cpos (starEach es X.env)).any (·.1)=false:=by rfl):
  PE X (.Call (.Attribute o name apos) (e::es) [] cpos) (tBM X.K T r to t):=by
 intro pins s σ H Q I h;refine wpAny_Call_method_late hbase hfew hline rfl (yd (ho pins s σ H _ I h) λv s1 ⟨x,H1,I1,r1,ty,q1⟩=>?_);obtain⟨h1,h2⟩:=zqg I1 r1 ty;refine⟨T,id,pa,slot,hty,h1,h2,?_⟩;have hA:=ha cpos pins s1 σ H1 _ I1 q1;rw[hs]at hA ⊢;refine z9a (by show (false||(backTo cpos (starEach es X.env)).any (·.1))=false;rw[hplain]<;>rfl) (Calls.evalArgs_plain ?_);exact yd hA λus s2 ⟨vs,H2,I2,r2,q2⟩=>hm pins s2 σ H2 x vs v us Q I2 r1 r2 q2
end
def MtM (X:Cx)(id:String)(r:V->List V->Hp->VK->Prop):Prop:=
 ∀(pins:List (Addr×Obj)) (s:Shared) (σ:St) (H:Hp) (x:V) (xs:List V) (v:Value) (us:List Value) (Q:VK),zz X pins σ H s->jp x v->jf xs us->r x xs H Q->
  wpAny (model X.prog X.w) X.A (call (.builtin id) (v::us)) (EP X pins σ Q) X.xe s
theorem jf.one:∀{x:V}{us:List Value},jf [x] us->∃ u,us=[u]/\jp x u
 |_,_,.cons r .nil=>⟨_,rfl,r⟩
theorem jf.two:∀{x y:V}{us:List Value},jf [x,y] us->∃ u v,us=[u,v]/\jp x u/\jp y v
 |_,_,_,.cons r (.cons q .nil)=>⟨_,_,rfl,r,q⟩
theorem jf.zero:∀{us:List Value},jf [] us->us=[]
 |_,.nil=>rfl
theorem jf.dropLast {xs:List V}{us:List Value}(h:jf xs us):jf xs.dropLast us.dropLast:=by
 induction h with
 |nil=>exact .nil
 |cons r t ih=>
  cases t with
  |nil=>exact .nil
  |cons q t'=>exact .cons r ih
theorem jf.rep {xs:List V}{us:List Value}(h:jf xs us):∀ k:Nat,jf (List.replicate k xs).flatten (List.replicate k us).flatten
 |0=>.nil
 |k+1=>by
  rw[z6f,z6f,z6l,z6l];exact jf.append h (jf.rep h k)
theorem zhx {α:Type}(l:List α):l.eraseIdx (l.length - 1)=l.dropLast:=by
 induction l with
 |nil=>rfl
 |cons a r ih=>
  cases r with
  |nil=>rfl
  |cons b r=>
   have e:(a::b::r).length - 1=((b::r).length - 1)+1:=by
    have h1:(a::b::r).length=r.length+2:=rfl;have h2:(b::r).length=r.length+1:=rfl;omega
   rw[e,List.eraseIdx_cons_succ,ih]
   all_goals rfl
theorem zbv (its:List Value):∀(k:Nat) (acc:List Value),
  List.foldl (λx1 x2=>x1++x2) acc.toArray (List.replicate k its.toArray)=(acc++(List.replicate k its).flatten).toArray
 |0,acc=>by simp
 |k+1,acc=>by
  have e:acc.toArray++its.toArray=(acc++its).toArray:=by simp
  have e2:(acc++its)++(List.replicate k its).flatten=acc++(List.replicate (k+1) its).flatten:=by
   rw[z6f,z6l,z4d]
  rw[<-e2,<-zbv its k (acc++its),<-e,z6f,List.foldl_cons]
section
variable {X:Cx}{pins:List (Addr×Obj)}{σ:St}{H:Hp}{s:Shared}{l b:Addr}{xs ys zs:List V}
theorem zz.lset {its its':List Value}{n:Nat}{f:Array Value->Array Value}{t':Nat}(I:zz X pins σ H s)(hH:H l=some (.lst xs))
  (e:s.heap.get? l=some {cls:=.type "list",data:=.seq its.toArray n})(hf:f its.toArray=its'.toArray)(hv:jf ys its')(hz:ys.length<=sizeLine):
  zz X pins σ (upd H l (.lst ys)) {s with heap:=s.heap.update l (Obj.mapSeq f),toks:=t'}:=by
 have q:=PySem.IsL.update e f;rw[hf]at q;refine I.write (x:=l) (e:=l) (by rw[hH];exact trivial) (.inl rfl) (λb' u hb hu=>(z40 s.heap (Obj.mapSeq f) (z7c hb)).trans hu) ⟨_,q⟩ ?_;exact⟨hz,its',_,hv,q⟩
theorem zz.lnew {its:List Value}{t':Nat}(I:zz X pins σ H s)(hv:jf ys its)(hz:ys.length<=sizeLine):
  zz X pins σ (upd H s.heap.objs.size (.lst ys)) {s with heap:=s.heap.push {cls:=.type "list",data:=.seq its.toArray},toks:=t'}:=
 I.laid (λ_ _ q=>z29 _ q) (z3c _) ⟨hz,its,0,hv,z3o _ rfl⟩
theorem zz.fresh (I:zz X pins σ H s):H s.heap.objs.size=none:=I.hok.fresh (z3c _)
theorem zz.lstM (I:zz X pins σ H s)(hH:H l=some (.lst xs)):xs.length<=sizeLine/\∃(its:List Value) (n:Nat),jf xs its/\xs.length=its.length/\s.heap.get? l=some {cls:=.type "list",data:=.seq its.toArray n}:=by
 obtain⟨z,its,n,r,e⟩:=I.hok l _ hH;exact⟨z,its,n,r,r.length,e⟩
theorem Gg {n:Nat}(h:n<=sizeLine):Builtin.List.listTooLong n=false:=by
 unfold Builtin.List.listTooLong;exact z4u (by omega)
end
section
variable {X:Cx}
inductive zeq (x:V)(vs:List V)(H:Hp)(Q:VK):Prop
 |mk (l:Addr) (xs:List V) (y:V):x=.ref l->vs=[y]->H l=some (.lst xs)->xs.length < sizeLine->Q .non (upd H l (.lst (xs++[y])))->zeq x vs H Q
def zry:V->List V->Hp->VK->Prop:=λx vs H Q=>zeq x vs H Q
theorem yo:MtM X "list.append" zry:=by
 intro pins s σ H x vs v us Q I rx rv h;obtain⟨l,xs,y,rfl,rfl,hH,hz,q⟩:=h;cases rx;obtain⟨u,rfl,ru⟩:=rv.one;obtain⟨z,its,n,r,hl,e⟩:=I.lstM hH;refine z8e F.slot_list_append ⟨_,e,rfl⟩ F.entry_list_append (F.args_list_append_2 _ _) (PySem.list_append l its.toArray n u (by rw[z3x];omega)) ⟨e,?_⟩;refine⟨.non,_,I.lset (its':=its++[u]) hH e (by simp) (r.append (.cons ru .nil)) ?_,rfl,q⟩;rw[z3a,z42];omega
inductive zer (x:V)(vs:List V)(H:Hp)(Q:VK):Prop
 |mk (l b:Addr) (xs zs:List V):x=.ref l->vs=[.ref b]->H l=some (.lst xs)->H b=some (.lst zs)->xs.length+zs.length<=sizeLine->Q .non (upd H l (.lst (xs++zs)))->zer x vs H Q
def zrz:V->List V->Hp->VK->Prop:=λx vs H Q=>zer x vs H Q
theorem Z4:MtM X "list.extend" zrz:=by
 intro pins s σ H x vs v us Q I rx rv h;obtain⟨l,b,xs,zs,rfl,rfl,hH,hB,hz,q⟩:=h;cases rx;obtain⟨u,rfl,ru⟩:=rv.one;cases ru;obtain⟨z,its,n,r,hl,e⟩:=I.lstM hH;obtain⟨z2,its2,n2,r2,hl2,e2⟩:=I.lstM hB;have hsz:its.toArray.size+its2.toArray.size<=sizeLine:=by rw[z3x,z3x];omega
 have hlong:¬(!its.toArray.isEmpty&&Builtin.List.listTooLong (its.toArray.size+its2.toArray.size))=true:=by
  rw[Gg hsz,jad];exact z3w
 refine z8e F.slot_list_extend ⟨_,e,rfl⟩ F.entry_list_extend (F.args_list_extend_2 _ _)
  (AutoSeq1.list_extend_list_list_0 l its.toArray n b its2.toArray n2 hlong (by rw[z3x];omega) (by omega)) ⟨e,e2,?_⟩
 refine⟨.non,_,I.lset (its':=its++its2) hH e (by simp) (r.append r2) ?_,rfl,q⟩;rw[z3a];omega
def zz8:V->List V->Hp->VK->Prop:=λx vs H Q=>∃ l xs y,x=.ref l/\vs=[]/\H l=some (.lst xs)/\xs[xs.length - 1]? =some y/\Q y (upd H l (.lst xs.dropLast))
theorem zvw:MtM X "list.pop" zz8:=by
 intro pins s σ H x vs v us Q I rx rv h;obtain⟨l,xs,y,rfl,rfl,hH,hy,q⟩:=h;cases rx;have hus:=rv.zero;subst hus;obtain⟨z,its,n,r,hl,e⟩:=I.lstM hH;obtain⟨u,hu,ru⟩:=r.get hy;have hy':its.toArray[its.toArray.size - 1]? =some u:=by
  show its.toArray[its.length - 1]? =some u;rw[<-z62,<-hl];exact hu
 refine z8e F.slot_list_pop ⟨_,e,rfl⟩ F.entry_list_pop (F.args_list_pop_1 _) (MeetsSeq.list_pop_last l its.toArray n u hy' (by rw[z3x];omega)) ⟨e,?_⟩;refine⟨y,_,I.lset (its':=its.dropLast) hH e ?_ r.dropLast ?_,ru,q⟩
 ·show its.toArray.eraseIdxIfInBounds (its.toArray.size - 1)=its.dropLast.toArray;rw[z3x,List.eraseIdxIfInBounds_toArray,zhx]
 ·rw[List.length_dropLast];omega
inductive zs8 (x y:V)(H:Hp)(Q:VK):Prop
 |mk (l b:Addr) (xs zs:List V):x=.ref l->y=.ref b->H l=some (.lst xs)->H b=some (.lst zs)->xs.length+zs.length<=sizeLine->(∀ p,H p=none->Q (.ref p) (upd H p (.lst (xs++zs))))->zs8 x y H Q
def zz4:R2:=λx y H Q=>zs8 x y H Q
theorem xy:K5 X (binaryOp .Add) zz4:=by
 intro pins s σ H x y v u Q I rx ry h;obtain⟨l,b,xs,zs,rfl,rfl,hH,hB,hz,q⟩:=h;cases rx;cases ry;obtain⟨z,its,n,r,hl,e⟩:=I.lstM hH;obtain⟨z2,its2,n2,r2,hl2,e2⟩:=I.lstM hB;refine PySem.P.add_list e e2 ?_ (by rw[z3x,z3x];omega);have ea:its.toArray++its2.toArray=(its++its2).toArray:=by simp
 rw[ea];exact⟨.ref _,_,I.lnew (t':=s.toks) (r.append r2) (by rw[z3a];omega),rfl,q _ I.fresh⟩
def zz9:R2:=λx y H Q=>∃ l k xs,x=.ref l/\y=.int k/\H l=some (.lst xs)/\-(2 ^ 63)<=k/\k < 2 ^ 63/\xs.length*k.toNat<=sizeLine/\
 ∀ p,H p=none->Q (.ref p) (upd H p (.lst (List.replicate k.toNat xs).flatten))
theorem zrj {α:Type}(xs:List α)(k:Nat):(List.replicate k xs).flatten.length=k*xs.length:=by
 induction k with
 |zero=>simp
 |succ k ih=>rw[z6f,z6l,z3a,ih,Nat.succ_mul,Nat.add_comm]
theorem zv0:K5 X (binaryOp .Mult) zz9:=by
 intro pins s σ H x y v u Q I rx ry h;obtain⟨l,k,xs,rfl,rfl,hH,h1,h2,hz,q⟩:=h;cases rx;obtain⟨t,rfl⟩:=ry;obtain⟨z,its,n,r,hl,e⟩:=I.lstM hH;have hlen:its.toArray.size*k.toNat<=sizeLine:=by rw[z3x,<-hl];exact hz
 have hcap:¬its.toArray.size*k.toNat > (2 ^ 63 - 1) / 8:=by
  have:(sizeLine:Nat)<=(2 ^ 63 - 1) / 8:=by decide
  omega
 have hfit:¬(!Builtin.List.listFitsIndex k)=true:=by
  rw[fitsIndex_both h1 h2];exact z3w
 have hlong:¬Builtin.List.listTooLong (its.toArray.size*k.toNat)=true:=by
  rw[Gg hlen];exact z3w
 have hnew:List.foldl (λx1 x2=>x1++x2) #[] (List.replicate (if its.toArray.isEmpty=true then 0 else k.toNat) its.toArray)=(List.replicate k.toNat its).flatten.toArray:=by
  have f0:∀ m:Nat,List.foldl (λx1 x2=>x1++x2) #[] (List.replicate m its.toArray)=(List.replicate m its).flatten.toArray:=λm=>by
   have:=zbv its m [];rw[List.nil_append]at this;exact this
  rw[f0];cases its with
  |nil=>simp
  |cons a r'=>rw[z3k (by simp)]
 refine wpAny_binaryOp_repeat_ref (T:="list") (U:="int") (by decide) ⟨_,e,rfl⟩ (λs'=>typeIs_int s' k t) noFill_list_mul F.fills_int_mul F.slot_int_rmul repeat_list F.slot_int_index.lookup
  (z8e F.slot_int_rmul (typeIs_int s k t) F.entry_int_rmul (F.args_int_rmul_2 _ _) (int___rmul___int_list k t l its.toArray n)
   ⟨e,rfl,⟨_,e,rfl⟩,z8e F.slot_list_mul ⟨_,e,rfl⟩ F.entry_list_mul (F.args_list_mul_2 _ _) (AutoListH.list___mul___list_int_3 l its.toArray n k t hfit hcap hlong) ⟨e,?_⟩⟩)
 rw[hnew];exact⟨.ref _,_,I.lnew (t':=s.toks) (r.rep k.toNat) (by rw[zrj,z6y];exact hz),rfl,q _ I.fresh⟩
end
theorem jf.ints:∀{ns:List Int}{us:List Value},jf (ns.map V.int) us->IntsAre us ns
 |[],us,h=>by
  rw[z6z]at h;cases h;exact IntsAre.nil
 |n::ns,us,h=>by
  rw[z3n]at h;cases h with
  |cons r t=>
   obtain⟨k,rfl⟩:=r;exact IntsAre.cons n k (jf.ints t)
theorem jf.bls:∀{bs:List Bool}{us:List Value},jf (bs.map V.bl) us->us=bs.map Value.bool
 |[],us,h=>by
  rw[z6z]at h;cases h;rfl
 |b::bs,us,h=>by
  rw[z3n]at h;cases h with
  |cons r t=>
   cases r;rw[jf.bls t,z3n]
theorem jf.ref1 {a:Addr}{us:List Value}(r:jf [V.ref a] us):us=[Value.ref a]:=by
 cases r with
 |cons r t=>
  cases t;cases r;rfl
section
variable {prog:Program}{w:World}{A:Around}{E:Value->Shared->Prop}{s:Shared}{l:Addr}{its:List Value}{ns:List Int}{Q:Value->Shared->Prop}
theorem zst (hh:A.handled=none)(hl:s.heap.IsList l its.toArray)(hi:IntsAre its ns)
  (h:∀ h' tk t',(∀ b o,s.heap.get? b=some o->h'.get? b=some o)->Q (.int ns.sum t') {s with heap:=h',toks:=tk}):wpAny (model prog w) A (call (.builtin "sum") [.ref l]) Q E s:=by
 obtain⟨xs,e⟩:=hi.allInts.items;have hn:numsOf (intItems xs).toList=ns:=by rw[<-e];exact hi.numsOf
 rw[nums_intItems]at hn;rw[e]at hl;refine PySem.sum_intListG hh hl λh' tk t' hk=>?_;have:=h h' tk t' hk;rw[preSum_eq,jat (by simp),hn];exact this
end
section
variable {X:Cx}
def z0b (K:PySem.W.Frag):List V->Hp->VK->Prop:=λvs H Q=>∃(a:Addr) (ns:List Int),vs=[V.ref a]/\zx K H a (ns.map V.int)/\Q (.int ns.sum) H
theorem Ux (hc:X.calm=true):Zz X (.builtin "sum") (z0b X.K):=by
 intro pins s σ H vs us Q I r h;obtain⟨a,ns,rfl,hs,q⟩:=h;obtain⟨its,rv,hl,_⟩:=I.list hs;rw[jf.ref1 r];exact zst (I.ok.hd hc) hl.isList rv.ints λh' tk t' hk=>⟨.int _,H,I.kept hk,⟨_,rfl⟩,q⟩
end
theorem zoh {prog:Program}{w:World}{A:Around}{E:Value->Shared->Prop}{s:Shared}{l:Addr}{items:Array Value}{Q:Value->Shared->Prop}(hl:s.heap.IsList l items)
  (h:∀ s₂:Shared,s₂={s with heap:=s.heap.push {cls:=.type "list_iterator",data:=.fields #[.ref l,.int 0 0]}}->
   (s₂.heap.IsListIter s.heap.objs.size l 0/\s₂.heap.IsList l items)->l≠s.heap.objs.size->Q (.ref s.heap.objs.size) s₂):wpAny (model prog w) A (pyIter (.ref l)) Q E s:=by
 have hlt:l < s.heap.objs.size:=by obtain⟨_,e,_⟩:=hl;exact z3j e
 exact z7x hl (h _ rfl ⟨⟨_,z3o _ rfl,rfl,rfl⟩,hl.push _⟩ (z4a hlt))
theorem zgv {prog:Program}{w:World}{A:Around}{bs:List Bool}{its:List Value}(e:its=bs.map Value.bool):
  TruthOf prog w A (λi v=>its.toArray[i]? =some v) (λi=>bs.getD i false):=λi v s Q E hv hq=>by
 have hv':its[i]? =some v:=by simpa using hv
 rw[e,z27]at hv';obtain⟨b,hb,rfl⟩:=z3q.mp hv';have hg:bs.getD i false=b:=by rw[z3s,hb]<;>rfl
 have hq':Q (bs.getD i false) s:=hq;rw[hg]at hq';exact z6p hq'
theorem Yz:∀ bs:List Bool,(List.range bs.length).all (λi=>bs.getD i false)=bs.all id
 |[]=>rfl
 |b::bs=>by
  rw[z3l,jau,z6n,z81,z6n,<-Yz bs]
  all_goals rfl
section
variable {X:Cx}
def zz3 (K:PySem.W.Frag):List V->Hp->VK->Prop:=λvs H Q=>∃(a:Addr) (bs:List Bool),vs=[V.ref a]/\zx K H a (bs.map V.bl)/\Q (.bl (bs.all id)) H
theorem zhs (hc:X.calm=true):Zz X (.builtin "all") (zz3 X.K):=by
 intro pins s σ H vs us Q I r h;obtain⟨a,bs,rfl,hs,q⟩:=h;obtain⟨its,rv,hl,_⟩:=I.list hs;rw[jf.ref1 r];have hb:=rv.bls;refine call_all_walk (zoh hl.isList λs₂ e2 st hne=>?_);subst e2;refine⟨_,_,_,_,_,_,_,rfl,Walks.list (A:=X.A.in1) (I.ok.hd hc) _ a hne its.toArray,st,zgv hb,λh' tk hk=>?_⟩;refine⟨.bl _,H,I.kept λb o eo=>hk b o (λhmem=>?_) (z29 _ eo),?_,q⟩
 ·rcases z3t.mp hmem with e1|hmem
  ·exact absurd (e1▸z3j eo) (z5o _)
  ·cases hmem
 ·show Value.bool _=Value.bool _;rw[<-Yz,hb,z3x,z25]
end
mutual
inductive Dp (K:PySem.W.Frag)(H:Hp):V->PyData->Prop
 |non:Dp K H .non .none
 |bl (b:Bool):Dp K H (.bl b) (.bool b)
 |int (i:Int):Dp K H (.int i) (.int i)
 |str (x:Str):Dp K H (.str x) (.str x)
 |lst {a:Addr}{xs:List V}{ds:List PyData}:zx K H a xs->zbg K H xs ds->Dp K H (.ref a) (.list ds)
 |tup {a:Addr}{xs:List V}{ds:List PyData}:yw K H a xs->zbg K H xs ds->Dp K H (.ref a) (.tuple ds)
inductive zbg (K:PySem.W.Frag)(H:Hp):List V->List PyData->Prop
 |nil:zbg K H [] []
 |cons {v:V}{vs:List V}{d:PyData}{ds:List PyData}:Dp K H v d->zbg K H vs ds->zbg K H (v::vs) (d::ds)
end
section
variable {X:Cx}{pins:List (Addr×Obj)}{σ:St}{H:Hp}{s:Shared}
mutual
theorem Dp.reads (I:zz X pins σ H s):∀(d:PyData) (v:V) (u:Value),Dp X.K H v d->jp v u->∃ as,Reads s.heap u d as
 | .none,_,_,h,r=>by
  cases h;cases r;exact⟨_,Reads.none⟩
 | .bool b,_,_,h,r=>by
  cases h;cases r;exact⟨_,Reads.bool b⟩
 | .int i,_,_,h,r=>by
  cases h;obtain⟨t,rfl⟩:=r;exact⟨_,Reads.int i t⟩
 | .str x,_,_,h,r=>by
  cases h;obtain⟨t,rfl⟩:=r;exact⟨_,Reads.str x t⟩
 | .list ds,_,_,h,r=>by
  cases h with
  |lst hs ha=>
   cases r;obtain⟨its,rv,⟨o,n,ho,hc,_,hd⟩,_⟩:=I.list hs;obtain⟨as,hr⟩:=Dp.readsAll I ds _ its ha rv;exact⟨_,Reads.list ho hc hd hr⟩
 | .tuple ds,_,_,h,r=>by
  cases h with
  |tup hs ha=>
   cases r;obtain⟨its,rv,⟨o,ho,hc,n,hd⟩,_⟩:=I.tuple hs;obtain⟨as,hr⟩:=Dp.readsAll I ds _ its ha rv;exact⟨_,Reads.tuple ho hc hd hr⟩
 | .dict _,_,_,h,_=>by cases h
theorem Dp.readsAll (I:zz X pins σ H s):∀(ds:List PyData) (vs:List V) (us:List Value),zbg X.K H vs ds->jf vs us->∃ as,ReadsAll s.heap us ds as
 |[],_,_,h,r=>by
  cases h;cases r;exact⟨_,ReadsAll.nil⟩
 |d::ds,_,_,h,r=>by
  cases h with
  |cons h1 h2=>
   cases r with
   |cons r1 r2=>
    obtain⟨as,q1⟩:=Dp.reads I d _ _ h1 r1;obtain⟨bs,q2⟩:=Dp.readsAll I ds _ _ h2 r2;exact⟨_,ReadsAll.cons q1 q2⟩
end
end
section
variable {X:Cx}
def zz7 (K:PySem.W.Frag):R2:=λx y H Q=>∃ d e,Dp K H x d/\Dp K H y e/\SeqAt.shaped d=true/\SeqAt.shaped e=true/\Q (.bl (!PyData.eqv d e)) H
theorem zvz (hu:X.A.units+64 < cLine):K5 X (compareOp .NotEq) (zz7 X.K):=by
 intro pins s σ H x y v u Q I rx ry h;obtain⟨d,e,hd,he,sd,se,q⟩:=h;obtain⟨as,r1⟩:=Dp.reads I d x v hd rx;obtain⟨bs,r2⟩:=Dp.reads I e y u he ry;exact SeqAt.compareNe_shaped r1 r2 sd se hu ⟨.bl _,H,I,rfl,q⟩
end
abbrev zm4 (h:Heap)(c:Addr)(v:Option Value):Prop:=h.IsCell c v
def z0c (scope sc:Scope):Scope:=
 {scope with names:=scope.names.map λ(n,k)=>if (k==.free&&sc.kind==.function&&sc.names.lookup n==some .cell) then (n,.cell) else (n,k)}
def j9 (cells:List (Str×Addr)):List (Str×NameKind)->List (Str×Addr)->List (Str×Addr)
 |[],acc=>acc
 |(n,k)::r,acc=>if k==.free then j9 cells r ((n,(cells.lookup n).getD 0)::acc) else j9 cells r acc
theorem Xy (env:Env)(f:Str×NameKind->List (Str×Addr)->Sem (ForInStep (List (Str×Addr))))
  (hf:∀ n k c,f (n,k) c=if k==.free then (do let a <-cellOf env n;pure (.yield ((n,a)::c))) else pure (.yield c)):
  ∀(names:List (Str×NameKind)) (acc:List (Str×Addr)),(∀ y∈names,y.2=.free->∃ c,env.cells.lookup y.1=some c)->forIn names acc f=pure (j9 env.cells names acc)
 |[],acc,_=>by rw[z67];rfl
 |(n,k)::r,acc,h=>by
  rw[z7i,hf];have ih:=λacc=>Xy env f hf r acc λy hy=>h y (z3d _ hy);unfold j9;by_cases hk:(k==NameKind.free)=true
  ·rw[z3m hk,z3m hk];obtain⟨c,hc⟩:=h (n,k) z3e (by simpa using hk);have e:cellOf env n=pure c:=by unfold cellOf;rw[hc]
   rw[e];have e2:(env.cells.lookup n).getD 0=c:=by rw[hc];rfl
   rw[e2];exact ih _
  ·rw[z3k hk,z3k hk];exact ih _
theorem zhp {scope:Scope}{env:Env}(h:∀ y∈scope.names,y.2=.free->∃ c,env.cells.lookup y.1=some c):closureFor scope env=pure (j9 env.cells scope.names []):=by
 simp only[closureFor];rw[Xy env _ (λn k c=>rfl) scope.names [] h];rfl
theorem Xd {α:Type}:∀{l:List (Str×α)}{n:Str}{c:α},(n,c)∈l->∃ c',l.lookup n=some c'
 |(k,v)::r,n,c,h=>by
  rw[z6s];cases hb:n==k with
  |true=>exact⟨_,rfl⟩
  |false=>
   rcases z3t.mp h with e|h
   ·cases e;simp at hb
   ·exact Xd h
theorem Zh {cells:List (Str×Addr)}:∀{names:List (Str×NameKind)}{acc:List (Str×Addr)}{n:Str}{c:Addr},(n,c)∈j9 cells names acc->(n,c)∈acc\/((n,.free)∈names/\c=(cells.lookup n).getD 0)
 |[],_,_,_,h=>.inl h
 |(m,k)::r,acc,n,c,h=>by
  unfold j9 at h;split at h
  ·rename_i hk;have hk:k=.free:=by simpa using hk
   rcases Zh h with h|⟨h1,h2⟩
   ·rcases z3t.mp h with e|h
    ·cases e;exact .inr ⟨hk▸z3e,rfl⟩
    ·exact .inl h
   ·exact .inr ⟨z3d _ h1,h2⟩
  ·rcases Zh h with h|⟨h1,h2⟩
   ·exact .inl h
   ·exact .inr ⟨z3d _ h1,h2⟩
theorem J0 {cells:List (Str×Addr)}:∀{names:List (Str×NameKind)}{acc:List (Str×Addr)}{p:Str×Addr},p∈acc->p∈j9 cells names acc
 |[],_,_,h=>h
 |(m,k)::r,acc,p,h=>by
  unfold j9;split
  ·exact J0 (z3d _ h)
  ·exact J0 h
theorem J3 {cells:List (Str×Addr)}:∀{names:List (Str×NameKind)}{acc:List (Str×Addr)}{n:Str},(n,.free)∈names->(n,(cells.lookup n).getD 0)∈j9 cells names acc
 |(m,k)::r,acc,n,h=>by
  unfold j9;rcases z3t.mp h with e|h
  ·cases e;exact J0 z3e
  ·split
   ·exact J3 h
   ·exact J3 h
theorem Z3:∀{names:List (Str×NameKind)}{h:Heap}{acc:List (Str×Addr)}{x:Str}{c:Addr},(x,c)∈cellsFrom h.objs.size names acc->
  (x,c)∈acc\/((x,.cell)∈names/\h.objs.size<=c/\zm4 (pushCells h names) c none)
 |[],_,_,_,_,h=>.inl h
 |(n,k)::r,h,acc,x,c,hm=>by
  unfold cellsFrom at hm;unfold pushCells;split at hm
  ·rename_i hk;rw[z3m hk];have hk:k=.cell:=by simpa using hk
   rw[<-z4v h {cls:=.type "cell",data:=.cell none}]at hm;rcases Z3 hm with hm|⟨h1,h2,h3⟩
   ·rcases z3t.mp hm with e|hm
    ·cases e;exact .inr ⟨hk▸z3e,z3c _,_,z9c r _ _ _ (z3o _ rfl),rfl⟩
    ·exact .inl hm
   ·rw[z4v]at h2;exact .inr ⟨z3d _ h1,z8g h2,h3⟩
  ·rename_i hk;rw[z3k hk];rcases Z3 hm with hm|⟨h1,h2,h3⟩
   ·exact .inl hm
   ·exact .inr ⟨z3d _ h1,h2,h3⟩
theorem Y1:∀{names:List (Str×NameKind)}{n:Nat}{acc:List (Str×Addr)}{p:Str×Addr},p∈acc->p∈cellsFrom n names acc
 |[],_,_,_,h=>h
 |(m,k)::r,n,acc,p,h=>by
  unfold cellsFrom;split
  ·exact Y1 (z3d _ h)
  ·exact Y1 h
theorem Vd:∀{names:List (Str×NameKind)}{n:Nat}{acc:List (Str×Addr)}{x:Str},(x,.cell)∈names->∃ c,(x,c)∈cellsFrom n names acc
 |(m,k)::r,n,acc,x,h=>by
  unfold cellsFrom;rcases z3t.mp h with e|h
  ·cases e;exact⟨n,Y1 z3e⟩
  ·split
   ·exact Vd h
   ·exact Vd h
theorem Ve:∀{names:List (Str×NameKind)}{h:Heap}{acc:List (Str×Addr)}{x y:Str}{c:Addr},(∀ p∈acc,p.2 < h.objs.size)->(∀ x y c,(x,c)∈acc->(y,c)∈acc->x=y)->
  (x,c)∈cellsFrom h.objs.size names acc->(y,c)∈cellsFrom h.objs.size names acc->x=y
 |[],_,_,_,_,_,_,hi,h1,h2=>hi _ _ _ h1 h2
 |(n,k)::r,h,acc,x,y,c,hl,hi,h1,h2=>by
  unfold cellsFrom at h1 h2;split at h1
  ·rename_i hk;rw[z3m hk]at h2;rw[<-z4v h {cls:=.type "cell",data:=.cell none}]at h1 h2;refine Ve (h:=h.push _) (λp hp=>?_) (λx y c a b=>?_) h1 h2
   ·rw[z4v];rcases z3t.mp hp with rfl|hp
    ·exact z6r _
    ·exact z48 (hl p hp)
   ·rcases z3t.mp a with e|a<;>rcases z3t.mp b with e'|b
    ·cases e;cases e';rfl
    ·cases e;exact absurd (hl _ b) (z5o _)
    ·cases e';exact absurd (hl _ a) (z5o _)
    ·exact hi _ _ _ a b
  ·rename_i hk;rw[z3k hk]at h2;exact Ve hl hi h1 h2
theorem zf1 {M:Model}{A:Around}{E:Value->Shared->Prop}{s:Shared}{scope:Scope}{globals:Addr}{closure:List (Str×Addr)}{qual:Str}{func:Option Addr}{code:Value}{around:Env}{builtins:Addr}{Q:Env->Shared->Prop}
  (h:Q (newEnv scope s.heap.objs.size globals (cellsFrom (s.heap.objs.size+1) scope.names closure) qual func code (some around) builtins)
   {s with heap:=pushCells (s.heap.push {cls:=.type "dict",data:=.dict #[]}) scope.names}):
  wpAny M A (newFunctionEnv scope globals closure [] qual func code (some around) builtins) Q E s:=by
 simp only[newFunctionEnv,Option.isSome_some,z6d];refine z26 (wpAny_alloc ?_);refine z26 (wpAny_layCells _ (λn k c=>rfl) scope.names closure _ _ ?_);rw[show ({s with heap:=s.heap.push {cls:=.type "dict",data:=.dict #[]}}:Shared).heap.objs.size=s.heap.objs.size+1 from z4v ..];rw[z67];exact z26 (z3h (z3h h))
theorem Ya {sc:Scope}:∀{names:List (Str×NameKind)}{x:Str}{k:NameKind},
  (names.map λ(n,k)=>if (k==NameKind.free&&sc.kind==.function&&sc.names.lookup n==some .cell) then (n,NameKind.cell) else (n,k)).lookup x=some k->
  ∃ k',names.lookup x=some k'/\(k=k'\/(k'=.free/\k=.cell))
 |[],_,_,h=>by simp at h
 |(n,k₀)::r,x,k,h=>by
  have ih:= @Ya sc r x k;have h':List.lookup x ((if (k₀==NameKind.free&&sc.kind==.function&&sc.names.lookup n==some .cell)=true then (n,NameKind.cell) else (n,k₀))::(r.map _))=some k:=h;cases hx:x==n with
  |true=>
   simp only[z6s,hx];by_cases hc:(k₀==NameKind.free&&sc.kind==.function&&sc.names.lookup n==some .cell)=true
   ·rw[z3m hc]at h';simp only[z6s,hx]at h';cases h';simp only[z3f,z4x]at hc;exact⟨k₀,rfl,.inr ⟨hc.1.1,rfl⟩⟩
   ·rw[z3k hc]at h';simp only[z6s,hx]at h';cases h';exact⟨_,rfl,.inl rfl⟩
  |false=>
   simp only[z6s,hx];by_cases hc:(k₀==NameKind.free&&sc.kind==.function&&sc.names.lookup n==some .cell)=true
   ·rw[z3m hc]at h';simp only[z6s,hx]at h';exact ih h'
   ·rw[z3k hc]at h';simp only[z6s,hx]at h';exact ih h'
structure zem (N:List Str)(sc scope:Scope)(own:List (Str×Nat)):Prop where
 kind:scope.kind=.function
 uniq:∀ y∈scope.names,scope.names.lookup y.1=some y.2
 ix:∀ p∈own,N[p.2]? =some p.1
 free:∀ y∈scope.names,y.2=.free->sc.names.lookup y.1=some .cell\/sc.names.lookup y.1=some .free
 own:∀ y∈scope.names,y.2=.local\/y.2=.cell->y.1∈own.map (·.1)\/y.1∉N
def ym (σ:St):List Nat->St
 |[]=>σ
 |v::vs=>(ym σ vs).set v none
theorem Yw (σ:St):∀ vs:List Nat,(ym σ vs).length=σ.length
 |[]=>rfl
 |v::vs=>by unfold ym;rw[z72,Yw σ vs]
theorem Vu {σ:St}{i:Nat}{x:V}:∀{vs:List Nat},(ym σ vs)[i]? =some (some x)->σ[i]? =some (some x)/\i∉vs
 |[],h=>⟨h,by simp⟩
 |v::vs,h=>by
  unfold ym at h;by_cases hi:v=i
  ·subst hi;by_cases hv:v < (ym σ vs).length
   ·rw[z8s hv]at h;cases h
   ·rw[List.getElem?_eq_none (by simpa using hv)]at h;cases h
  ·rw[z84 hi]at h;obtain⟨h1,h2⟩:=Vu h;exact⟨h1,by simp only[z3t,not_or];exact⟨λe=>hi e.symm,h2⟩⟩
abbrev Cx.blk (X:Cx)(s:Shared)(H:Hp)(scope:Scope)(cenv:Env)(fp:List Addr):Cx:={X with s_0:=s,H_0:=H,env:=cenv,outer:=X.stack,ex:=fp,fn:=λx=>scope.names.lookup x==some .cell,pn:=[],xe:=λ_ _=>False}
section
variable {X:Cx}{pins:List (Addr×Obj)}{σ:St}{H:Hp}{s:Shared}
theorem ze6 {scope:Scope}{own:List (Str×Nat)}{fp:List Addr}(I:zz X pins σ H s)(ok:zem X.N X.env.scope scope own)(hN:X.N.Nodup)(hfp:∀ b∈fp,Ws X pins H b/\b < s.heap.objs.size):
  zz (X.blk s H scope (compEnvC scope (cellsFrom (s.heap.objs.size+1) scope.names (j9 X.env.cells scope.names [])) s.heap.objs.size X.env) fp) [] (ym σ (own.map (·.2))) H {s with heap:=pushCells (s.heap.push {cls:=.type "dict",data:=.dict #[]}) scope.names}:=by
 have hfree:∀ y∈scope.names,y.2=.free->∃ c,X.env.cells.lookup y.1=some c:=λy hy e=>by
  rcases ok.free y hy e with k|k
  ·exact I.ok.has _ (.inl k)
  ·exact I.ok.has _ (.inr k)
 generalize hcenv:compEnvC scope (cellsFrom (s.heap.objs.size+1) scope.names (j9 X.env.cells scope.names [])) s.heap.objs.size X.env=cenv;have kp:∀ b o,s.heap.get? b=some o->(pushCells (s.heap.push {cls:=.type "dict",data:=.dict #[]}) scope.names).get? b=some o:=λb o e=>z9c _ _ _ _ (z29 _ e);have hL:cenv.locals=s.heap.objs.size:=by rw[<-hcenv];rfl
 have hcl:cenv.cells=cellsFrom (s.heap.objs.size+1) scope.names (j9 X.env.cells scope.names []):=by rw[<-hcenv];rfl
 have hsc:cenv.scope=z0c scope X.env.scope:=by rw[<-hcenv];rfl
 rw[<-z4v s.heap {cls:=.type "dict",data:=.dict #[]}]at hcl;have cm:∀{y c},(y,c)∈j9 X.env.cells scope.names []->X.env.cells.lookup y=some c/\c < s.heap.objs.size:=λ{y c} hm=>by
  rcases Zh hm with hm|⟨h1,rfl⟩
  ·cases hm
  ·obtain⟨c,hc⟩:=hfree _ h1 rfl;rw[hc];obtain⟨w,z⟩:=I.cell _ _ hc;exact⟨rfl,z.lt⟩
 have mem:∀{y c},cenv.cells.lookup y=some c->(X.env.cells.lookup y=some c/\c < s.heap.objs.size)\/(s.heap.objs.size+1<=c/\zm4 (pushCells (s.heap.push {cls:=.type "dict",data:=.dict #[]}) scope.names) c none):=λ{y c} e=>by
  rw[hcl]at e;rcases Z3 (z4t e) with hm|⟨_,h2,h3⟩
  ·exact .inl (cm hm)
  ·rw[z4v]at h2;exact .inr ⟨h2,h3⟩
 have look:∀{y},scope.names.lookup y=some .free->∃ c,cenv.cells.lookup y=some c/\X.env.cells.lookup y=some c:=λ{y} hl=>by
  have hy:(y,NameKind.free)∈scope.names:=z4t hl;obtain⟨c',e'⟩:=Xd (Y1 (names:=scope.names) (n:=(s.heap.push {cls:=.type "dict",data:=.dict #[]}).objs.size) (J3 (cells:=X.env.cells) (acc:=[]) hy));rw[<-hcl]at e';refine⟨c',e',?_⟩;rw[hcl]at e';rcases Z3 (z4t e') with hm|⟨h1,_,_⟩
  ·exact (cm hm).1
  ·have:=ok.uniq _ h1;rw[hl]at this;cases this
 have okB:(X.blk s H scope cenv fp).Ok:=by
  refine⟨I.ok.mod,by show cenv.scope.kind=_;rw[hsc];exact ok.kind,by show cenv.globals=_;rw[<-hcenv];exact I.ok.glob,by show cenv.builtins=_;rw[<-hcenv];exact I.ok.blt,by show s.heap.objs.size<=cenv.locals;rw[hL];exact z3c _,
   λy z c e1 e2=>?_,λy hy=>?_,λy c z e=>?_,I.ok.hd,I.ok.frames,.inl rfl,λb hb=>⟨?_,λy c e z=>?_⟩,I.bs,z32 I.ok.bsz I.sz,λb o e hb=>?_,λb hb z=>?_,I.stack,I.stkFree⟩
  ·have e1:cenv.cells.lookup y=some c:=e1;have e2:cenv.cells.lookup z=some c:=e2;rw[hcl]at e1 e2;refine Ve (λp hp=>?_) (λy z c a b=>I.ok.inj y z c (cm a).1 (cm b).1) (z4t e1) (z4t e2);rw[z4v];exact z48 (cm (y:=p.1) (c:=p.2) hp).2
  ·show ∃ c,cenv.cells.lookup y=some c;have key:∀ k,cenv.kindOf y=some k->(k=.cell\/k=.free)->∃ c,cenv.cells.lookup y=some c:=λk hk hk'=>by
    unfold Env.kindOf at hk;rw[hsc]at hk;obtain⟨k',e,r⟩:=Ya hk;have:k'=.cell\/k'=.free:=by
     rcases r with rfl|⟨rfl,_⟩
     ·exact hk'
     ·exact .inr rfl
    rcases this with rfl|rfl
    ·obtain⟨c,hm⟩:=Vd (n:=(s.heap.push {cls:=.type "dict",data:=.dict #[]}).objs.size) (acc:=j9 X.env.cells scope.names []) (z4t e);obtain⟨c',e'⟩:=Xd hm;exact⟨c',by rw[hcl];exact e'⟩
    ·obtain⟨c,h1,_⟩:=look e;exact⟨c,h1⟩
   rcases hy with hy|hy
   ·exact key _ hy (.inl rfl)
   ·exact key _ hy (.inr rfl)
  ·have z:(scope.names.lookup y==some NameKind.cell)=true:=z;have z:scope.names.lookup y=some .cell:=by simpa using z
   have e:cenv.cells.lookup y=some c:=e;rw[hcl]at e;rcases Z3 (z4t e) with hm|⟨_,h2,_⟩
   ·rcases Zh hm with hm|⟨h1,_⟩
    ·cases hm
    ·have q:=ok.uniq _ h1;rw[z]at q;cases q
   ·rw[z4v]at h2;exact z8g h2
  ·show b≠cenv.locals;rw[hL];exact z4a (hfp b hb).2
  ·have e:cenv.cells.lookup y=some c:=e;rcases mem e with ⟨h1,_⟩|⟨h1,_⟩
   ·exact (hfp b hb).1.2.2.2.2.1 y c h1 z
   ·have h2:s.heap.objs.size+1<=b:=by rw[<-z];exact h1
    exact absurd (z3z (hfp b hb).2 (z8g h2)) (z5o _)
  ·rcases (hfp b hb).1.2.2.2.1 with z|z
   ·exact I.ok.noex b o e z
   ·exact absurd (z3z (z3j e) (z32 I.ok.bsz z)) (z5o _)
  ·rcases z3t.mp (I.stkSub b z) with z|z
   ·exact (hfp b hb).1.2.1 z
   ·exact (hfp b hb).1.2.2.1 z
 refine⟨okB,rfl,I.bare,Un.kept kp,⟨λ_=>none,?_,λi y av e1 e2 e3=>?_⟩,λy c e=>?_,?_,λy c e=>?_,λp hp=>?_,I.hok.kept kp,by rw[Yw];exact I.len⟩
 ·show Heap.Ns _ cenv.locals _;rw[hL];exact Heap.Ns.keeps (Heap.Ns.new ..) λb o e=>z9c _ _ _ _ e
 ·obtain⟨e2,hne⟩:=Vu e2;have hfr:scope.names.lookup y=some .free/\(cenv.kindOf y=some .cell\/cenv.kindOf y=some .free):=by
   have key:∀ k,cenv.scope.names.lookup y=some k->k=.local\/k=.cell\/k=.free->scope.names.lookup y=some .free/\(cenv.kindOf y=some .cell\/cenv.kindOf y=some .free):=λk hk hk'=>by
    have hk0:=hk;rw[hsc]at hk;obtain⟨k',e,r⟩:=Ya hk;have no:¬(k'=.local\/k'=.cell):=λhh=>by
     rcases ok.own _ (z4t e) hh with e'|e'
     ·obtain⟨p,hp,hpy⟩:=z4h.mp e';have e3:=ok.ix p hp;have:p.1=y:=hpy;rw[this]at e3;exact hne (z4h.mpr ⟨p,hp,Ge hN e3 e1⟩)
     ·exact e' (z3r e1)
    rcases r with rfl|⟨rfl,rfl⟩
    ·rcases hk' with rfl|rfl|rfl
     ·exact absurd (.inl rfl) no
     ·exact absurd (.inr rfl) no
     ·exact⟨e,.inr hk0⟩
    ·exact⟨e,.inl hk0⟩
   have e3:Vis cenv.scope y:=e3;rcases e3 with e3|e3|e3
   ·exact key _ e3 (.inl rfl)
   ·exact key _ e3 (.inr (.inl rfl))
   ·exact key _ e3 (.inr (.inr rfl))
  obtain⟨m,hn,hl⟩:=I.loc;have hvis:Vis X.env.scope y:=(ok.free _ (z4t hfr.1) rfl).elim (λk=>.inr (.inl k)) (λk=>.inr (.inr k));obtain⟨w,r,q⟩:=hl i y av e1 e2 hvis;refine⟨w,r,.inr ⟨hfr.2,?_⟩⟩;obtain⟨c,h1,h2⟩:=look hfr.1;rcases q with ⟨k,_⟩|⟨_,c',e',z⟩
  ·have k:X.env.scope.names.lookup y=some .local:=k;rcases ok.free _ (z4t hfr.1) rfl with k'|k'<;>rw[show X.env.scope.names.lookup y=_ from k']at k<;>cases k
  ·rw[h2]at e';cases e';exact⟨c,h1,z.keeps kp⟩
 ·have e:cenv.cells.lookup y=some c:=e;rcases mem e with ⟨h1,_⟩|⟨_,z⟩
  ·obtain⟨w,z⟩:=I.cell y c h1;exact⟨w,z.keeps kp⟩
  ·exact⟨_,z⟩
 ·show H cenv.locals=none;rw[hL];exact I.hok.fresh (z3c _)
 ·have e:cenv.cells.lookup y=some c:=e;rcases mem e with ⟨h1,_⟩|⟨h1,_⟩
  ·exact I.freeC y c h1
  ·exact I.hok.fresh (z8g h1)
 ·exact absurd (show p∈([]:List (Addr×Obj))++[] from hp) (by simp)
theorem zu3 {E:Value->Shared->Prop}{D:Addr}{xs:List V}{y:V}{v:Value}{Q:Value->Shared->Prop}(I:zz X pins σ H s)(hD:H D=some (.lst xs))(hz:xs.length < sizeLine)(r:jp y v)
  (h:∀ s',zz X pins σ (upd H D (.lst (xs++[y]))) s'->Q .none s'):wpAny (model X.prog X.w) X.A (call (.builtin "list.append") [.ref D,v]) Q E s:=by
 obtain⟨hz',its,n,ri,e⟩:=I.hok D _ hD;have hl:=ri.length;refine append_at (hsz:=by rw[z3x];omega) e λh' sb ho'=>?_;refine h {s with heap:=h'} (I.write (t':=s.toks) (by rw[hD];trivial) (.inl rfl) (λb u hb q=>(sb.2 b hb).trans q) ⟨_,ho'⟩ ⟨by rw[z3a];exact hz,its++[v],n+1,ri.append (.cons r .nil),?_⟩);rw[ho'];simp
def PTs (X:Cx)(ifs:List Expr)(t:TT):Prop:=
 ∀(pins:List (Addr×Obj)) (s:Shared) (σ:St) (H:Hp) (Q:Bool->Hp->Prop),zz X pins σ H s->t σ H Q->
  wpAny (model X.prog X.w) X.A (forIn ifs true λc r=>if r=true then do let ok <-isTrue c X.env (eval c X.env);pure (ForInStep.yield ok) else pure (ForInStep.yield r)) (TP X pins σ Q) X.xe s
def z1y:TT:=λ_ H Q=>Q true H
theorem q0:PTs X [] z1y:=λ_ _ _ H _ I h=>wpAny_tests_nil ⟨H,I,h⟩
theorem vh {c:Expr}{t:TT}(h:PT X c t):PTs X [c] t:=λpins s σ H Q I hw=>wpAny_tests_one (h pins s σ H Q I hw)
end
theorem zmt {α:Type}{t:Sem α}{Q Q':α->Shared->Prop}{M:Model}{A:Around}{E:Value->Shared->Prop}{s:Shared}(h:wpAny M A t Q (λ_ _=>False) s)(hQ:∀ a s,Q a s->Q' a s):wpAny M A t Q' E s:=z6q h hQ λ_ _ z=>False.elim z
theorem zdb {prog:Program}{w:World}{A:Around}{R:Result->Shared->Prop}{s:Shared}{elt target iter:Expr}{ifs:List Expr}{scope:Scope}{pos:Pos}{it acc:Value}{env:Env}(I:Nat->Shared->Prop)
  (turn:∀ n s,I n s->wpAny (model prog w) A (pyNext it) (λr s₁=>match r with
   |none=>R (.ok .next) s₁
   |some v=>wpAny (model prog w) A (letOwnedTupleGo target it v) (λ_ s₁'=>wpAny (model prog w) A (assign target env v) (λ_ s₂=>
     wpAny (model prog w) A (forIn ifs true λc r=>if r=true then do let ok <-isTrue c env (eval c env);pure (ForInStep.yield ok) else pure (ForInStep.yield r)) (λok s₃=>
      if ok=true then wpAny (model prog w) A (eval elt env) (λx s₄=>
       wpAny (model prog w) A (call (.builtin "list.append") [acc,x]) (λ_ s₅=>∃ m,m < n/\I m s₅) (notedBy (model prog w) A env λe s'=>R (.error e) s') s₄) (notedBy (model prog w) A env λe s'=>R (.error e) s') s₃
      else ∃ m,m < n/\I m s₃) (notedBy (model prog w) A env λe s'=>R (.error e) s') s₂) (notedBy (model prog w) A env λe s'=>R (.error e) s') s₁') (notedBy (model prog w) A env λe s'=>R (.error e) s') s₁) (notedBy (model prog w) A env λe s'=>R (.error e) s') s)
  (n:Nat)(h:I n s):
  codeAny (model prog w) A (.compLoop (.ListComp elt [⟨target,iter,ifs,0⟩] scope pos) 0 it acc env) R s:=by
 refine codeAny_loop rfl I (λn s hI=>?_) n h;show wpAny _ A ((compTurn (.ListComp elt [⟨target,iter,ifs,0⟩] scope pos) 0 it acc env).onRaise (λx=>do noteFrame x env;theTreesLotGoes x)) _ _ s;refine wpAny_noted ?_;rw[compTurn_list];refine z26 (wpAny_standAt (z26 (z6q (turn n s hI) (λr s₁ h₁=>?_) λ_ _ h'=>h')));cases r with
 |none=>exact z3h h₁
 |some v=>
  refine z26 (z6q h₁ (λ_ s₁' h₁'=>?_) λ_ _ h'=>h');refine z26 (z6q h₁' (λ_ s₂ h₂=>z26 (z6q h₂ (λok s₃ h₃=>?_) λ_ _ h'=>h')) λ_ _ h'=>h');cases ok with
  |false=>exact z3h ⟨rfl,h₃⟩
  |true=>
   exact z26 (z26 (z6q h₃ (λx s₄ h₄=>z26 (z6q h₄ (λ_ s₅ h₅=>z3h (z3h ⟨rfl,h₅⟩)) λ_ _ h'=>h')) λ_ _ h'=>h'))
section
variable {X:Cx}
def tLc (wi:TI)(g:TG)(tt:TT)(te:TE)(vs:List Nat):TE:=λσ H Q=>wi σ H λJ H1=>∀ D,H1 D=none->∃ W:Nat->Nat->Hp->Prop,(∃ m,W 0 m (upd H1 D (.lst [])))/\∀ i m H,W i m H->
 (J.stop i H/\Q (.ref D) H)\/(J.go i H/\∃ Nx:Hp->Prop,(∀ H',Nx H'->∃ m',m' < m/\W (i+1) m' H')/\∀ x H',J.yld i H x H'->g x (ym σ vs) H' λσ2 H2=>ym σ2 vs=ym σ vs/\tt σ2 H2 λb H3=>
  if b=true then te σ2 H3 λy H4=>∃ acc,H4 D=some (.lst acc)/\acc.length < sizeLine/\Nx (upd H4 D (.lst (acc++[y]))) else Nx H3)
theorem zj7 {pins:List (Addr×Obj)}{s:Shared}{σ:St}{H:Hp}{Q:VK}{elt tg iter:Expr}{ifs:List Expr}{scope:Scope}{own:List (Str×Nat)}{pos pos':Pos}{wi:TI}{g:TG}{tt:TT}{te:TE}{use:Option (Value->Sem Unit)}{Qf:Value->Shared->Prop}
  (hc:X.calm=true)(hN:X.N.Nodup)(I:zz X pins σ H s)(hi:PI X tg iter wi)(ok:zem X.N X.env.scope scope own)
  (hg:∀(s:Shared) (H:Hp) (C:Addr) (cl:List (Str×Addr)) (fp:List Addr),PG (X.blk s H scope (compEnvC scope cl C X.env) fp) tg g)(ht:∀(s:Shared) (H:Hp) (C:Addr) (cl:List (Str×Addr)) (fp:List Addr),PTs (X.blk s H scope (compEnvC scope cl C X.env) fp) ifs tt)
  (he:∀(s:Shared) (H:Hp) (C:Addr) (cl:List (Str×Addr)) (fp:List Addr),PE (X.blk s H scope (compEnvC scope cl C X.env) fp) elt te)(hs:∀ x,foldedSetIterable iter X.env x=pure x)
  (h:tLc wi g tt te (own.map (·.2)) σ H Q)
  (hRR:∀ D C s' m H',zz X pins σ H' s'->Q (.ref D) H'->s'.heap.Ns C m->Ws X pins H' C->compPost (model X.prog X.w) X.A X.xe use Qf (.ref D) C (.ok .next) s'):
  wpAny (model X.prog X.w) X.A (comprehension (.ListComp elt [⟨tg,iter,ifs,0⟩] scope pos) scope X.env pos' (newList []) false (eval iter X.env) use) Qf X.xe s:=by
 have hfree:∀ y∈scope.names,y.2=.free->∃ c,X.env.cells.lookup y.1=some c:=λy hy e=>by
  rcases ok.free y hy e with k|k
  ·exact I.ok.has _ (.inl k)
  ·exact I.ok.has _ (.inr k)
 refine wpAny_comprehension_free (use:=use) rfl hs (zhp hfree) ok.kind (λy hy e=>by rw[ok.uniq y hy,e])
  (yd (hi pins s σ H _ I h) λxv s1 hx=>yd hx λitv s2 h2=>?_)
 obtain⟨it,fp,tn,J,H2,e,I2,T,st2,f2,q⟩:=h2;subst e;refine z7b (zf1 ?_) (by show 0<=sizeLine;decide);generalize hD:s2.heap.objs.size=D;have hDn:H2 D=none:=I2.hok.fresh (z8v hD);obtain⟨W,⟨m0,w0⟩,turn⟩:=q D hDn;generalize hs3:({s2 with heap:=s2.heap.push {cls:=.type "list",data:=.seq ([]:List Value).toArray}}:Shared)=s3;have I3:zz X pins σ (upd H2 D (.lst [])) s3:=by
  rw[<-hs3];refine I2.laid (t':=s2.toks) (λb o e=>z29 _ e) (z8v hD) ⟨z4c _,[],0,.nil,?_⟩;rw[<-hD];exact z3o _ rfl
 have h3:s3.heap=s2.heap.push {cls:=.type "list",data:=.seq ([]:List Value).toArray}:=by rw[<-hs3]
 have sz:∀ b∈fp,b < s2.heap.objs.size:=λb hb=>by
  obtain⟨o,e,_⟩:=T.obj _ _ st2 b hb;exact z3j e
 have f3:∀ b∈fp,Ws X pins (upd H2 D (.lst [])) b/\b < s3.heap.objs.size:=λb hb=>by
  have hlt:=sz b hb;refine⟨⟨?_,(f2 b hb).2⟩,by rw[h3,z4v];exact z48 hlt⟩;rw[ze (by rw[<-hD];exact z4a hlt)];exact (f2 b hb).1
 have st3:tn 0 s3.heap:=T.keep _ _ _ st2 λb _ o e=>by rw[h3];exact z29 _ e
 have I4:=ze6 I3 ok hN f3;have pg:=hg s3 (upd H2 D (.lst [])) s3.heap.objs.size (cellsFrom (s3.heap.objs.size+1) scope.names (j9 X.env.cells scope.names [])) fp;have pt:=ht s3 (upd H2 D (.lst [])) s3.heap.objs.size (cellsFrom (s3.heap.objs.size+1) scope.names (j9 X.env.cells scope.names [])) fp;have pe:=he s3 (upd H2 D (.lst [])) s3.heap.objs.size (cellsFrom (s3.heap.objs.size+1) scope.names (j9 X.env.cells scope.names [])) fp;show codeAny _ _ (.compStart (.ListComp elt [⟨tg,iter,ifs,0⟩] scope pos) 0 (.ref it) (.ref D) (compEnvC scope (cellsFrom (s3.heap.objs.size+1) scope.names (j9 X.env.cells scope.names [])) s3.heap.objs.size X.env)) (compPost (model X.prog X.w) X.A X.xe use Qf (.ref D) s3.heap.objs.size) {s3 with heap:=pushCells (s3.heap.push {cls:=.type "dict",data:=.dict #[]}) scope.names};have nfp:∀ b∈fp,(upd H2 D (.lst [])) b=none:=λb hb=>(f3 b hb).1.1;generalize hce:compEnvC scope (cellsFrom (s3.heap.objs.size+1) scope.names (j9 X.env.cells scope.names [])) s3.heap.objs.size X.env=ce at I4 pg pt pe ⊢;have cL:ce.locals=s3.heap.objs.size:=by subst hce;rfl
 generalize hH3:upd H2 D (.lst [])=H3 at I3 I4 pg pt pe w0 nfp f3;generalize hs4:({s3 with heap:=pushCells (s3.heap.push {cls:=.type "dict",data:=.dict #[]}) scope.names}:Shared)=s4 at I4 ⊢;have st4:tn 0 s4.heap:=T.keep _ _ _ st3 λb _ o e=>by rw[<-hs4];exact z9c _ _ _ _ (z29 _ e)
 have stat:∀{σ':St}{H':Hp}{s':Shared},zz (X.blk s3 H3 scope ce fp) [] σ' H' s'->(∀ b∈fp,H' b=none)->∀ b∈fp,Ws (X.blk s3 H3 scope ce fp) [] H' b:=λ{σ' H' s'} I' hn b hb=>
  ⟨hn b hb,(I'.ok.exf b hb).1,I'.ok.exfs b hb,.inl hb,λx c e=>(I'.ok.exf b hb).2 x c e,λp hp=>absurd (show p∈([]:List (Addr×Obj))++[] from hp) (by simp)⟩
 have loop:codeAny (model X.prog X.w) X.A (.compLoop (.ListComp elt [⟨tg,iter,ifs,0⟩] scope pos) 0 (.ref it) (.ref D) ce) (compPost (model X.prog X.w) X.A X.xe use Qf (.ref D) s3.heap.objs.size) s4:=by
  refine zdb (λn s'=>∃ i H',zz (X.blk s3 H3 scope ce fp) [] (ym σ (own.map (·.2))) H' s'/\tn i s'.heap/\(∀ b∈fp,H' b=none)/\W i n H') ?_ m0 ⟨0,H3,I4,st4,nfp,w0⟩;rintro n s5 ⟨i,H5,I5,st5,n5,w5⟩;rcases turn i n H5 w5 with ⟨stop,qq⟩|⟨go,Nx,hNx,step⟩
  ·have td:=T.done (X.blk s3 H3 scope ce fp) rfl rfl rfl hc i [] s5 _ H5 (λ_ _=>False) I5 (stat I5 n5) st5 stop;refine zmt td λr s6 ⟨hr,I6⟩=>?_;subst hr;have I7:zz X pins σ H5 s6:=I3.call' (ch:=fp) I6.os I6.base I6.hok I6.bare λb hb=>⟨(f3 b hb).1.2.2.2.1,(f3 b hb).1.2.1,(f3 b hb).1.2.2.2.2.1,(f3 b hb).1.2.2.2.2.2⟩;have nC:H5 s3.heap.objs.size=none:=by
    have z:H5 ce.locals=none:=I6.free;rw[cL]at z;exact z
   obtain⟨m,hn,_⟩:=I6.loc;have hn:s6.heap.Ns ce.locals m:=hn;rw[cL]at hn;exact hRR D s3.heap.objs.size s6 m H5 I7 qq hn (I3.fpOk (z3c _) nC)
  ·have ti:=T.item (X.blk s3 H3 scope ce fp) rfl rfl rfl hc i [] s5 _ H5 (λ_ _=>False) I5 (stat I5 n5) st5 go;refine zmt ti λr s6 ⟨u,hr,h6⟩=>?_;subst hr;refine zmt h6 λ_ s7 ⟨x,H7,I7,r7,y7,st7,n7⟩=>?_;have I7':=I7.pinned (stat I7 n7) (T.obj _ _ st7);refine zmt (pg _ s7 _ H7 x u _ I7' r7 (step x H7 y7)) λ_ s8 ⟨σ8,H8,I8,hw8,q8⟩=>?_;refine zmt (pt _ s8 σ8 H8 _ I8 q8) λb s9 ⟨H9,I9,q9⟩=>?_;have fin:∀{s':Shared}{H':Hp},zz (X.blk s3 H3 scope ce fp) ([]++Gu fp s7.heap) σ8 H' s'->Nx H'->∃ m,m < n/\∃ i H',zz (X.blk s3 H3 scope ce fp) [] (ym σ (own.map (·.2))) H' s'/\tn i s'.heap/\(∀ b∈fp,H' b=none)/\W i m H':=λ{s' H'} I' nx=>by
    obtain⟨m',hm,w'⟩:=hNx H' nx;have pin':∀ b∈fp,∀ o,s7.heap.get? b=some o->s'.heap.get? b=some o/\H' b=none:=λb hb o e=>
     let z:=I'.pin (b,o) (z38 _ (z38 _ (Xe hb e)))
     ⟨z.1,z.2.1⟩
    have hl:(ym σ (own.map (·.2))).length=σ8.length:=by rw[<-hw8,Yw]
    refine⟨m',hm,i+1,H',(I'.unpinned (pins:=[])).weak hl (λj v e=>?_),T.keep _ _ _ st7 λb hb o e=>(pin' b hb o e).1,λb hb=>?_,w'⟩
    ·rw[<-hw8]at e;exact (Vu e).1
    ·obtain⟨o,e,_⟩:=T.obj _ _ st7 b hb;exact (pin' b hb o e).2
   cases b with
   |false=>
    simp only[z5k,z54]at q9 ⊢;exact fin I9 q9
   |true=>
    simp only[z6d]at q9 ⊢;refine zmt (pe _ s9 σ8 H9 _ I9 q9) λz s10 ⟨yv,H10,I10,r10,acc,hD10,hz10,nx⟩=>?_;exact zu3 (X:=X.blk s3 H3 scope ce fp) I10 hD10 hz10 r10 λs11 I11=>fin I11 nx
 exact codeAny_compStart_list loop (T.self X.A 0 _ _ _ st4 loop)
theorem ko {elt tg iter:Expr}{ifs:List Expr}{scope:Scope}{own:List (Str×Nat)}{pos:Pos}{wi:TI}{g:TG}{tt:TT}{te:TE}(hc:X.calm=true)(hN:X.N.Nodup)(hi:PI X tg iter wi)(ok:zem X.N X.env.scope scope own)
  (hg:∀(s:Shared) (H:Hp) (C:Addr) (cl:List (Str×Addr)) (fp:List Addr),PG (X.blk s H scope (compEnvC scope cl C X.env) fp) tg g)(ht:∀(s:Shared) (H:Hp) (C:Addr) (cl:List (Str×Addr)) (fp:List Addr),PTs (X.blk s H scope (compEnvC scope cl C X.env) fp) ifs tt)
  (he:∀(s:Shared) (H:Hp) (C:Addr) (cl:List (Str×Addr)) (fp:List Addr),PE (X.blk s H scope (compEnvC scope cl C X.env) fp) elt te)(hs:∀ x,foldedSetIterable iter X.env x=pure x:=by intro _;rfl):
  PE X (.ListComp elt [⟨tg,iter,ifs,0⟩] scope pos) (tLc wi g tt te (own.map (·.2))):=by
 intro pins s σ H Q I h;rw[eval_ListComp];refine zj7 hc hN I hi ok hg ht he hs h λD C s' m H' I' q hn f=>⟨m,hn,λh'' sb=>?_⟩;obtain⟨f0,f1,f2,f3,f4,f5⟩:=f;exact⟨.ref D,H',I'.turned (t':=s'.toks) (λb o hb e=>(sb.2 b hb).trans e) f0 f1 f3 f4 f5,rfl,q⟩
theorem Z6 {i:Nat}{y:Str}{py:Pos}{elt tg iter:Expr}{ifs:List Expr}{scope:Scope}{own:List (Str×Nat)}{pos spos:Pos}{wi:TI}{g:TG}{tt:TT}{te:TE}(hc:X.calm=true)(hN:X.N.Nodup)(hy:X.N[i]? =some y)(hyl:X.env.scope.names.lookup y=some .local)
  (hsw:swapsWith (.ListComp elt [⟨tg,iter,ifs,0⟩] scope pos) (some (.Name y py)) spos.line X.env=pure true)(hi:PI X tg iter wi)(ok:zem X.N X.env.scope scope own)
  (hg:∀(s:Shared) (H:Hp) (C:Addr) (cl:List (Str×Addr)) (fp:List Addr),PG (X.blk s H scope (compEnvC scope cl C X.env) fp) tg g)(ht:∀(s:Shared) (H:Hp) (C:Addr) (cl:List (Str×Addr)) (fp:List Addr),PTs (X.blk s H scope (compEnvC scope cl C X.env) fp) ifs tt)
  (he:∀(s:Shared) (H:Hp) (C:Addr) (cl:List (Str×Addr)) (fp:List Addr),PE (X.blk s H scope (compEnvC scope cl C X.env) fp) elt te)(hs:∀ x,foldedSetIterable iter X.env x=pure x:=by intro _;rfl):
  PS X (.Assign [.Name y py] (.ListComp elt [⟨tg,iter,ifs,0⟩] scope pos) spos) (zmq (tLc wi g tt te (own.map (·.2))) (wb i)):=by
 intro pins s σ H D I h;rw[exec_Assign_Name_used _ _ _ _ hsw];refine z26 (wpAny_standAt (z26 ?_));show wpAny _ X.A (do let _ <-comprehension (.ListComp elt [⟨tg,iter,ifs,0⟩] scope pos) scope X.env (firstIterPos [⟨tg,iter,ifs,0⟩] pos) (newList []) false (eval iter X.env) (some (assign (.Name y py) X.env))) _ _ s;have h:tLc wi g tt te (own.map (·.2)) σ H (λx H1=>wb i x σ H1 D.nx):=h;refine z26 (yd (zj7 (Qf:=λ_ s'=>SP X pins D .next s') hc hN I hi ok hg ht he hs h λL C s' m H' I' q hn f=>?_) λ_ s' hq=>z3h (z3h hq));show wpAny _ _ (assign (.Name y py) X.env (.ref L)) _ _ _;refine wpAny_assign_Name (zch (v:=V.ref L) I' hN hy (.inl hyl) rfl (λs2 I2 ⟨a,sb,ha⟩=>?_) (.inr hyl));obtain⟨f0,f1,f2,f3,f4,f5⟩:=f;have haC:C≠a:=by
  rcases ha with z|z
  ·rw[z];exact f1
  ·exact λe=>f4 y a z e.symm
 refine⟨m,hn.sameBut sb haC,λh3 sb3=>?_⟩;exact⟨_,H',I2.turned (t':=s2.toks) (λb o hb e=>(sb3.2 b hb).trans e) f0 f1 f3 f4 f5,q⟩
theorem Qc {elt:Expr}{gs:List Comprehension}{scope:Scope}{pos py:Pos}{y:Str}{l:Nat}{env:Env}(hk:env.scope.kind=.function)(hy:env.scope.names.lookup y=some .local)(hl:(py.line==pos.line)=true)
  (ha:(scope.names.any λ(n,k)=>n==y&&(k==.local||k==.cell))=false):swapsWith (.ListComp elt gs scope pos) (some (.Name y py)) l env=pure true:=by
 have ky:env.kindOf y=some .local:=hy;have hb:env.blockKind=.function:=by unfold Env.blockKind;rw[hk];rfl
 unfold swapsWith;simp only[hb,ky,ha,Expr.pos,hl];rfl
end
theorem zop {lo:Int}{n:Nat}{g:TG}{tt:TT}{te:TE}{vs:List Nat}{σ:St}{H1:Hp}{D:Addr}{Qd:Hp->Prop}(Pv:Nat->Hp->Prop)(h0:Pv 0 (upd H1 D (.lst [])))
  (hs:∀ i H,i < n->Pv i H->g (.int (lo+i)) (ym σ vs) H λσ2 H2=>ym σ2 vs=ym σ vs/\tt σ2 H2 λb H3=>
   if b=true then te σ2 H3 λy H4=>∃ acc,H4 D=some (.lst acc)/\acc.length < sizeLine/\Pv (i+1) (upd H4 D (.lst (acc++[y]))) else Pv (i+1) H3)(hd:∀ H,Pv n H->Qd H):
  ∃ W:Nat->Nat->Hp->Prop,(∃ m,W 0 m (upd H1 D (.lst [])))/\∀ i m H,W i m H->
   ((Itr lo n).stop i H/\Qd H)\/((Itr lo n).go i H/\∃ Nx:Hp->Prop,(∀ H',Nx H'->∃ m',m' < m/\W (i+1) m' H')/\∀ x H',(Itr lo n).yld i H x H'->g x (ym σ vs) H' λσ2 H2=>ym σ2 vs=ym σ vs/\tt σ2 H2 λb H3=>
    if b=true then te σ2 H3 λy H4=>∃ acc,H4 D=some (.lst acc)/\acc.length < sizeLine/\Nx (upd H4 D (.lst (acc++[y]))) else Nx H3):=by
 refine⟨λi m H=>m=n - i/\i<=n/\Pv i H,⟨n,by simp,z4c _,h0⟩,?_⟩;rintro i m H ⟨rfl,hi,p⟩;by_cases hlt:i < n
 ·refine .inr ⟨hlt,Pv (i+1),λH' p'=>⟨n - (i+1),by omega,rfl,hlt,p'⟩,λx H' y=>?_⟩;obtain⟨e,y⟩:=y;subst e y;exact hs i _ hlt p
 ·have e:i=n:=by omega
  subst e;exact .inl ⟨z3c _,hd H p⟩
theorem zri {K:PySem.W.Frag}{a:Addr}{xs:List V}{g:TG}{tt:TT}{te:TE}{vs:List Nat}{σ:St}{H1:Hp}{D:Addr}{Qd:Hp->Prop}(Pv:Nat->Hp->Prop)(h0:Pv 0 (upd H1 D (.lst [])))(hl:∀ i H,i<=xs.length->Pv i H->zx K H a xs)
  (hs:∀ i x H,xs[i]? =some x->Pv i H->g x (ym σ vs) H λσ2 H2=>ym σ2 vs=ym σ vs/\tt σ2 H2 λb H3=>
   if b=true then te σ2 H3 λy H4=>∃ acc,H4 D=some (.lst acc)/\acc.length < sizeLine/\Pv (i+1) (upd H4 D (.lst (acc++[y]))) else Pv (i+1) H3)(hd:∀ H,Pv xs.length H->Qd H):
  ∃ W:Nat->Nat->Hp->Prop,(∃ m,W 0 m (upd H1 D (.lst [])))/\∀ i m H,W i m H->
   ((Itl K a).stop i H/\Qd H)\/((Itl K a).go i H/\∃ Nx:Hp->Prop,(∀ H',Nx H'->∃ m',m' < m/\W (i+1) m' H')/\∀ x H',(Itl K a).yld i H x H'->g x (ym σ vs) H' λσ2 H2=>ym σ2 vs=ym σ vs/\tt σ2 H2 λb H3=>
    if b=true then te σ2 H3 λy H4=>∃ acc,H4 D=some (.lst acc)/\acc.length < sizeLine/\Nx (upd H4 D (.lst (acc++[y]))) else Nx H3):=by
 refine⟨λi m H=>m=xs.length - i/\i<=xs.length/\Pv i H,⟨xs.length,by simp,z4c _,h0⟩,?_⟩;rintro i m H ⟨rfl,hi,p⟩;have q:=hl i H hi p;by_cases hlt:i < xs.length
 ·refine .inr ⟨⟨xs,xs[i],q,by simp[hlt]⟩,Pv (i+1),λH' p'=>⟨xs.length - (i+1),by omega,rfl,hlt,p'⟩,λx H' y=>?_⟩;obtain⟨e,y⟩:=y;subst e;exact hs i x _ (y xs q) p
 ·have e:i=xs.length:=by omega
  subst e;exact .inl ⟨⟨xs,q,z3c _⟩,hd H p⟩
def zxv (N:List Str)(sc scope:Scope)(own:List (Str×Nat)):Bool:=
 (match scope.kind with| .function=>true|_=>false)&&(scope.names.all λy=>decide (scope.names.lookup y.1=some y.2))&&(own.all λp=>decide (N[p.2]? =some p.1))&&
  (scope.names.all λy=>match y.2 with
   | .free=>(match sc.names.lookup y.1 with|some .cell=>true|some .free=>true|_=>false)
   | .local=>decide (y.1∈own.map (·.1))||decide (y.1∉N)
   | .cell=>decide (y.1∈own.map (·.1))||decide (y.1∉N)
   |_=>true)
theorem jq {N:List Str}{sc scope:Scope}{own:List (Str×Nat)}(h:zxv N sc scope own=true):zem N sc scope own:=by
 unfold zxv at h;simp only[z3f,z47,z4p]at h;obtain⟨⟨⟨h1,h2⟩,h3⟩,h4⟩:=h;refine⟨?_,h2,h3,λy hy e=>?_,λy hy e=>?_⟩
 ·split at h1
  ·assumption
  ·cases h1
 ·have q:=h4 y hy;simp only[e]at q;split at q<;>first|exact .inl (by assumption)|exact .inr (by assumption)|cases q
 ·have q:=h4 y hy;rcases e with e|e<;>(simp only[e,z44,z4p]at q;exact q)
section
variable {κ:Type}[DecidableEq κ]
def ye (kvs:List (κ×V))(k:κ):Option V:=(kvs.find? λkv=>decide (kv.1=k)).map (·.2)
def Yh (kvs:List (κ×V))(k:κ)(v:V):List (κ×V):=
 if (kvs.any λkv=>decide (kv.1=k))=true then kvs.map (λkv=>if kv.1=k then (kv.1,v) else kv) else kvs++[(k,v)]
theorem vq {p:κ×V}{r:List (κ×V)}{k:κ}(e:p.1=k):ye (p::r) k=some p.2:=by simp[ye,z7j,e]
theorem xi {p:κ×V}{r:List (κ×V)}{k:κ}(e:¬p.1=k):ye (p::r) k=ye r k:=by simp[ye,z7j,e]
theorem Yv (k:κ):∀ kvs:List (κ×V),(kvs.any λkv=>decide (kv.1=k))=(ye kvs k).isSome
 |[]=>rfl
 |p::r=>by
  rw[z7z];by_cases e:p.1=k
  ·simp only[vq e,z3u e,Bool.true_or,Option.isSome_some]
  ·rw[xi e,z4u e,Bool.false_or];exact Yv k r
theorem V2 (kvs:List (κ×V))(k:κ)(v:V):(Yh kvs k v).length<=kvs.length+1:=by
 unfold Yh;split
 ·rw[z25];omega
 ·rw[z3a,z3l,z73];omega
theorem Yi {kvs:List (κ×V)}{k:κ}(v:V)(h:ye kvs k=none):Yh kvs k v=kvs++[(k,v)]:=by
 unfold Yh;rw[Yv,h];exact z3k (by decide)
theorem Zr.isSome_eq {o:Option V}{u:Option Value}(r:Zr o u):o.isSome=u.isSome:=by
 cases o with
 |none=>cases u with
  |none=>rfl
  |some _=>exact (show False from r).elim
 |some _=>cases u with
  |none=>exact (show False from r).elim
  |some _=>rfl
theorem Zr.getD {o:Option V}{u:Option Value}{d:V}{d':Value}(r:Zr o u)(rd:jp d d'):jp (o.getD d) (u.getD d'):=by
 cases o with
 |none=>cases u with
  |none=>exact rd
  |some _=>exact (show False from r).elim
 |some _=>cases u with
  |none=>exact (show False from r).elim
  |some _=>exact r
theorem KV.val {kvs:List (κ×V)}{vs:List (κ×Value)}(r:KV kvs vs)(k:κ):Zr (ye kvs k) (valueAt vs k):=by
 unfold KV at r
 induction r with
 |nil=>exact True.intro
 | @cons p q ps qs h t ih=>
  obtain⟨h1,h2⟩:=h;by_cases e:p.1=k
  ·have e':q.1=k:=h1.symm.trans e;have b:valueAt (q::qs) k=some q.2:=by simp[valueAt,z7j,e']
   rw[vq e,b];exact h2
  ·have e':¬q.1=k:=λz=>e (h1.trans z);have b:valueAt (q::qs) k=valueAt qs k:=by simp[valueAt,z7j,e']
   rw[xi e,b];exact ih
theorem KV.any {kvs:List (κ×V)}{vs:List (κ×Value)}(r:KV kvs vs)(k:κ):(kvs.any λkv=>decide (kv.1=k))=vs.any λkv=>decide (kv.1=k):=by
 unfold KV at r
 induction r with
 |nil=>rfl
 |cons h t ih=>rw[z7z,z7z,ih,h.1]
theorem KV.repl {kvs:List (κ×V)}{vs:List (κ×Value)}(r:KV kvs vs)(k:κ){y:V}{u:Value}(ry:jp y u):
  KV (kvs.map λkv=>if kv.1=k then (kv.1,y) else kv) (vs.map λkv=>if kv.1=k then (kv.1,u) else kv):=by
 unfold KV at r ⊢
 induction r with
 |nil=>exact .nil
 | @cons p q ps qs h t ih=>
  rw[z3n,z3n];refine .cons ?_ ih;obtain⟨h1,h2⟩:=h;by_cases e:p.1=k
  ·rw[z3m e,z3m (h1.symm.trans e)];exact⟨h1,ry⟩
  ·rw[z3k e,z3k (λz=>e (h1.trans z))];exact⟨h1,h2⟩
theorem KV.put {kvs:List (κ×V)}{vs:List (κ×Value)}(r:KV kvs vs)(k:κ){y:V}{u:Value}(ry:jp y u):KV (Yh kvs k y) (stored vs k u):=by
 unfold Yh stored;rw[r.any k];by_cases e:(vs.any λkv=>decide (kv.1=k))=true
 ·rw[z3m e,z3m e];exact r.repl k ry
 ·rw[z3k e,z3k e];exact Paired.snoc r ⟨rfl,ry⟩
theorem KV.keys {kvs:List (κ×V)}{vs:List (κ×Value)}(r:KV kvs vs):kvs.map (·.1)=vs.map (·.1):=by
 unfold KV at r
 induction r with
 |nil=>rfl
 |cons h t ih=>rw[z3n,z3n,ih,h.1]
theorem KV.length {kvs:List (κ×V)}{vs:List (κ×Value)}(r:KV kvs vs):kvs.length=vs.length:=z39 r
end
theorem V0 {P:Program}{w:World}{k:j2}{u:Value}(r:jp (kV k) u):(jn P w).is k u=true:=by
 cases k with
 |inl i=>obtain⟨t,e⟩:=(show ∃ t,u=Value.int i t from r);subst e;exact Zj P w i t
 |inr x=>obtain⟨t,e⟩:=(show ∃ t,u=Value.str x t from r);subst e;exact zfz P w x t
theorem zbz {P:Program}{w:World}:∀{ks:List j2}{us:List Value},jf (ks.map kV) us->ItemsAre (jn P w) ks us
 |[],_,r=>by rw[z6z]at r;cases r;exact .nil
 |k::ks,_,r=>by
  rw[z3n]at r;cases r with
  |cons h t=>exact .cons (V0 h) (zbz t)
abbrev KT (H:Hp):List (List j2×V)->List (List j2×Addr×Value)->Prop:=Paired λp q=>p.1=q.1/\H q.2.1=some (.tup (p.1.map kV))/\jp p.2 q.2.2
theorem KT.val {H:Hp}{kvs:List (List j2×V)}{xs:List (List j2×Addr×Value)}(r:KT H kvs xs)(k:List j2):Zr (ye kvs k) ((atKey xs k).map (·.2)):=by
 induction r with
 |nil=>exact True.intro
 | @cons p q ps qs h t ih=>
  obtain⟨h1,_,h2⟩:=h;by_cases e:p.1=k
  ·have e':q.1=k:=h1.symm.trans e;have b:atKey (q::qs) k=some q.2:=by simp[atKey,z7j,e']
   rw[vq e,b];exact h2
  ·have e':¬q.1=k:=λz=>e (h1.trans z);have b:atKey (q::qs) k=atKey qs k:=by simp[atKey,z7j,e']
   rw[xi e,b];exact ih
theorem KT.repl {H:Hp}{kvs:List (List j2×V)}{xs:List (List j2×Addr×Value)}(r:KT H kvs xs)(k:List j2){y:V}{u:Value}(ry:jp y u):
  KT H (kvs.map λkv=>if kv.1=k then (kv.1,y) else kv) (xs.map (putAt k u)):=by
 induction r with
 |nil=>exact .nil
 | @cons p q ps qs h t ih=>
  rw[z3n,z3n];refine .cons ?_ ih;obtain⟨h1,h2,h3⟩:=h;unfold putAt;by_cases e:p.1=k
  ·rw[z3m e,z3m (h1.symm.trans e)];exact⟨h1,h2,ry⟩
  ·rw[z3k e,z3k (λz=>e (h1.trans z))];exact⟨h1,h2,h3⟩
theorem KT.put {H:Hp}{kvs:List (List j2×V)}{xs:List (List j2×Addr×Value)}(r:KT H kvs xs)(k:List j2){b:Addr}{y:V}{u:Value}(hb:H b=some (.tup (k.map kV)))(ry:jp y u):
  KT H (Yh kvs k y) (storedH xs k b u):=by
 have e:(kvs.any λkv=>decide (kv.1=k))=(atKey xs k).isSome:=by
  rw[Yv,(r.val k).isSome_eq,z9n]
 unfold Yh storedH;rw[e];by_cases q:(atKey xs k).isSome=true
 ·rw[z3m q,z3m q];exact r.repl k ry
 ·rw[z3k q,z3k q];exact Paired.snoc r ⟨rfl,hb,ry⟩
theorem KT.keeps {H H':Hp}{kvs:List (List j2×V)}{xs:List (List j2×Addr×Value)}(r:KT H kvs xs)(ht:∀ b ys,H b=some (.tup ys)->H' b=some (.tup ys)):KT H' kvs xs:=
 Paired.mapP r λ_ _ z=>⟨z.1,ht _ _ z.2.1,z.2.2⟩
section
variable {P:Program}{w:World}{H:Hp}{h:Heap}{a:Addr}
theorem zup {u:HO}(ok:Yx P w H h)(e:Rd H a u):j6 P w H h a u:=e.ok ok
theorem Xz {kvs:List (j2×V)}(ok:Yx P w H h)(e:Rd H a (.dK kvs)):kvs.length<=sizeLine/\(a==sysModules)=false/\∃ vs,KV kvs vs/\h.DictOf (jn P w) a vs:=
 show j6 P w H h a (.dK kvs) from zup ok e
theorem zx1 {kvs:List (j2×V)}(ok:Yx P w H h)(e:H a=some (.dK kvs)):kvs.length<=sizeLine/\(a==sysModules)=false/\∃ vs,KV kvs vs/\h.DictOf (jn P w) a vs:=Xz ok (.inl e)
theorem Xc {ks:List j2}(ok:Yx P w H h)(e:H a=some (.tup (ks.map kV))):(tupleKind (jn P w)).is h ks a:=by
 obtain⟨_,its,r,o,h1,h2,n,h3⟩:=(show j6 P w H h a (.tup (ks.map kV)) from ok a _ e);exact⟨o,its.toArray,n,h1,h2,h3,by simpa using zbz r⟩
theorem zft {kvs:List (List j2×V)}(ok:Yx P w H h)(e:Rd H a (.dT kvs)):kvs.length<=sizeLine/\(a==sysModules)=false/\
  ∃ xs,KT H kvs xs/\h.DictOfH (tupleKind (jn P w)) a xs:=by
 obtain⟨z,y,xs,r,o,es,ep,h1,h2,h3,h4,h5⟩:=(show j6 P w H h a (.dT kvs) from zup ok e);refine⟨z,y,xs,r,o,es,ep,h1,h2,h3,h4,λx hx=>?_,h5⟩;have all:∀{l:List (List j2×V)}{m:List (List j2×Addr×Value)},KT H l m->∀ x∈m,(tupleKind (jn P w)).is h x.1 x.2.1:=by
  intro l m q
  induction q with
  |nil=>intro x hx;exact nomatch hx
  | @cons p q ps qs hq t ih=>
   intro x hx;rcases z3t.mp hx with e|hx
   ·subst e;exact Xc ok (by rw[<-hq.1];exact hq.2.1)
   ·exact ih x hx
 exact all r x hx
theorem zul {kvs:List (List j2×V)}(ok:Yx P w H h)(e:H a=some (.dT kvs)):kvs.length<=sizeLine/\(a==sysModules)=false/\
  ∃ xs,KT H kvs xs/\h.DictOfH (tupleKind (jn P w)) a xs:=zft ok (.inl e)
end
def Qe (H:Hp)(a:Addr)(y:V)(r:Option V):Prop:=
 (∃ kvs k,Rd H a (.dK kvs)/\y=kV k/\r=ye kvs k)\/∃ kvs k b,Rd H a (.dT kvs)/\y=.ref b/\H b=some (.tup (k.map kV))/\r=ye kvs k
def Xn (H:Hp)(a:Addr)(y v:V)(H':Hp):Prop:=
 (∃ kvs k,H a=some (.dK kvs)/\y=kV k/\kvs.length < sizeLine/\H'=upd H a (.dK (Yh kvs k v)))\/
 ∃ kvs k b,H a=some (.dT kvs)/\y=.ref b/\H b=some (.tup (k.map kV))/\kvs.length < sizeLine/\H'=upd H a (.dT (Yh kvs k v))
theorem Qe.t {H:Hp}{a b:Addr}{kvs:List (List j2×V)}{k:List j2}(e:H a=some (.dT kvs))(eb:H b=some (.tup (k.map kV))):Qe H a (.ref b) (ye kvs k):=.inr ⟨kvs,k,b,.inl e,rfl,eb,rfl⟩
theorem Xn.k {H:Hp}{a:Addr}{kvs:List (j2×V)}{k:j2}{v:V}(e:H a=some (.dK kvs))(hl:kvs.length < sizeLine):Xn H a (kV k) v (upd H a (.dK (Yh kvs k v))):=.inl ⟨kvs,k,e,rfl,hl,rfl⟩
theorem Xn.t {H:Hp}{a b:Addr}{kvs:List (List j2×V)}{k:List j2}{v:V}(e:H a=some (.dT kvs))(eb:H b=some (.tup (k.map kV)))(hl:kvs.length < sizeLine):
  Xn H a (.ref b) v (upd H a (.dT (Yh kvs k v))):=.inr ⟨kvs,k,b,e,rfl,eb,hl,rfl⟩
section
variable {X:Cx}{pins:List (Addr×Obj)}{σ:St}{H:Hp}{s:Shared}{a:Addr}{y v:V}{u r:Value}{o:Option V}{A:Around}{E:Value->Shared->Prop}
theorem zz.big (I:zz X pins σ H s):sysModules < s.heap.objs.size:=by
 have h:mainGlobals < s.heap.objs.size:=(I.mod.glob.keeps I.bk).lt;exact z9v (by decide) h
theorem zlj {Q:Value->Shared->Prop}(hu:A.units+1 < cLine)(I:zz X pins σ H s)(g:Qe H a y (some v))(ry:jp y u)(h:∀ w' s',zz X pins σ H s'->jp v w'->Q w' s'):
  wpAny (model X.prog X.w) A (getItem (.ref a) u) Q E s:=by
 rcases g with ⟨kvs,k,e,ey,l⟩|⟨kvs,k,b,e,ey,eb,l⟩
 ·subst ey;obtain⟨z,hd,vs,rel,dd⟩:=Xz I.hok e;obtain⟨w',hw,rw'⟩:=Zr.some_of (v:=v) (o:=valueAt vs k) (by rw[l];exact rel.val k);exact z85 (V0 ry) dd.mapOf hw (h w' _ (I.tok _) rw')
 ·subst ey;cases (show u=Value.ref b from ry);obtain⟨z,hd,xs,rel,dd⟩:=zft I.hok e;obtain⟨w',hw,rw'⟩:=Zr.some_of (v:=v) (o:=(atKey xs k).map (·.2)) (by rw[l];exact rel.val k);obtain⟨p,hp,hp2⟩:=z3q.mp hw;refine wpAny_getItem_heap (z8o hu) (Xc I.hok eb) dd hp ?_;rw[hp2];exact h w' _ (I.tok _) rw'
theorem zzt {Q:Value->Shared->Prop}(hu:A.units+1 < cLine)(I:zz X pins σ H s)(g:Qe H a y o)(ry:jp y u)(h:∀ s',zz X pins σ H s'->Q (.bool o.isSome) s'):
  wpAny (model X.prog X.w) A (compareOp .In u (.ref a)) Q E s:=by
 rcases g with ⟨kvs,k,e,ey,l⟩|⟨kvs,k,b,e,ey,eb,l⟩
 ·subst ey;obtain⟨z,hd,vs,rel,dd⟩:=Xz I.hok e;refine wpAny_in_of (V0 ry) hd dd.mapOf ?_;rw[<-(rel.val k).isSome_eq,<-l];exact h _ (I.tok _)
 ·subst ey;cases (show u=Value.ref b from ry);obtain⟨z,hd,xs,rel,dd⟩:=zft I.hok e;refine wpAny_in_heap (z8o hu) (Xc I.hok eb) hd dd ?_;have q:=(rel.val k).isSome_eq;rw[z9n]at q;rw[<-q,<-l];exact h _ (I.tok _)
theorem zq6 {Q:Value->Shared->Prop}(hu:A.units+1 < cLine)(I:zz X pins σ H s)(g:Qe H a y o)(ry:jp y u)(h:∀ s',zz X pins σ H s'->Q (.bool (!o.isSome)) s'):
  wpAny (model X.prog X.w) A (compareOp .NotIn u (.ref a)) Q E s:=by
 rcases g with ⟨kvs,k,e,ey,l⟩|⟨kvs,k,b,e,ey,eb,l⟩
 ·subst ey;obtain⟨z,hd,vs,rel,dd⟩:=Xz I.hok e;refine wpAny_notIn_of (V0 ry) hd dd.mapOf ?_;rw[<-(rel.val k).isSome_eq,<-l];exact h _ (I.tok _)
 ·subst ey;cases (show u=Value.ref b from ry);obtain⟨z,hd,xs,rel,dd⟩:=zft I.hok e;refine wpAny_notIn_heap (z8o hu) (Xc I.hok eb) hd dd ?_;have q:=(rel.val k).isSome_eq;rw[z9n]at q;rw[<-q,<-l];exact h _ (I.tok _)
theorem zdd {h':Heap}{t':Nat}{ob:HO}(I:zz X pins σ H s)(mu:Mut (H a))(hs:Heap.SameBut a s.heap h')(he:∃ q,h'.get? a=some q)(new:j6 X.prog X.w (upd H a ob) h' a ob):
  zz X pins σ (upd H a ob) {s with heap:=h',toks:=t'}:=
 I.write (x:=a) (e:=a) mu (.inl rfl) (λb q hb z=>(hs.2 b hb).trans z) he new
theorem zu8 {P:Program}{w:World}{H':Hp}{h':Heap}{kvs:List (j2×V)}{vs:List (j2×Value)}(z:kvs.length<=sizeLine)(hd:(a==sysModules)=false)(rel:KV kvs vs)(dd:h'.DictOf (jn P w) a vs):
  j6 P w H' h' a (.dK kvs):=⟨z,hd,vs,rel,dd⟩
theorem zlk {H':Hp}{Q:Unit->Shared->Prop}(hu:A.units+1 < cLine)(I:zz X pins σ H s)(g:Xn H a y v H')(ry:jp y u)(rv:jp v r)(h:∀ s',zz X pins σ H' s'->Q () s'):
  wpAny (model X.prog X.w) A (setItem (.ref a) u r) Q E s:=by
 rcases g with ⟨kvs,k,e,ey,l,eH⟩|⟨kvs,k,b,e,ey,eb,l,eH⟩
 ·subst ey eH;obtain⟨z,hd,vs,rel,dd⟩:=zx1 I.hok e;have hz:vs.length<=sizeLine:=by rw[<-rel.length];exact z
  have hl:(Yh kvs k v).length<=sizeLine:=by have:=V2 kvs k v;omega
  refine wpAny_setItem_pairs (hsz:=hz) (V0 ry) dd λh' dd' hs=>h _ ?_;have he:∃ q,h'.get? a=some q:=let ⟨q,_,_,hq,_⟩:=dd';⟨q,hq⟩;exact zdd I (by rw[e];exact True.intro) hs he (zu8 hl hd (rel.put k rv) dd')
 ·subst ey eH;cases (show u=Value.ref b from ry);obtain⟨z,hd,xs,rel,dd⟩:=zul I.hok e;have hz:xs.length<=sizeLine:=by rw[<-z39 rel];exact z
  have hl:(Yh kvs k v).length<=sizeLine:=by have:=V2 kvs k v;omega
  refine wpAny_setItem_heap (hsz:=hz) (z8o hu) (Xc I.hok eb) dd λh' dd' hs=>h _ ?_;obtain⟨q,es,ep,hq,h2,h3,h4,_,h5⟩:=dd';refine zdd I (by rw[e];exact True.intro) hs ⟨q,hq⟩ ⟨hl,hd,_,(rel.put k eb rv).keeps λc ys ec=>?_,q,es,ep,hq,h2,h3,h4,h5⟩;rw[ze (ja ec e (λz=>nomatch z))];exact ec
end
section
variable {X:Cx}{pins:List (Addr×Obj)}{σ:St}{H:Hp}{s:Shared}{a:Addr}{kvs:List (j2×V)}{k:j2}{u:Value}{A:Around}{E:Value->Shared->Prop}
theorem zx0 {Q:Value->Shared->Prop}(I:zz X pins σ H s)(e:Rd H a (.dK kvs))(h:∀ t s',zz X pins σ H s'->Q (.int kvs.length t) s'):wpAny (model X.prog X.w) A (call (.builtin "len") [.ref a]) Q E s:=by
 obtain⟨z,hd,vs,rel,dd⟩:=Xz I.hok e;refine call_len_dict hd dd (by rw[<-rel.length];rw[sizeLine_eq]at z;omega) ?_;rw[<-rel.length];exact h _ _ (I.tok _)
end
def znb (i:Expr):Prop:=∀ ov iv,subscripted i false ov iv=operate [ov,iv] (getItem ov iv)
theorem Ug {prog:Program}{w:World}{A:Around}{E:Value->Shared->Prop}{s:Shared}{env:Env}{value slice:Expr}{pos:Pos}{T id:String}{Q:Value->Shared->Prop}
  (hl:typeLookup (.type T) "__getitem__"=pure (some (.builtin id)))(hs:znb slice)
  (h:wpAny (model prog w) A (eval value env) (λo s₁=>wpAny (model prog w) A (eval slice env) (λi s₂=>s₂.TypeIs o T/\wpAny (model prog w) A (getItem o i) Q E s₂) E s₁) E s):
  wpAny (model prog w) A (eval (.Subscript value slice pos) env) Q E s:=by
 refine Subscript_ (z6q h (λo s₁ h₁=>z6q h₁ (λi s₂ h₂=>?_) λ_ _ x=>x) λ_ _ x=>x);obtain⟨hT,h₂⟩:=h₂;unfold subscriptTail;refine z26 ?_;rw[getitemInPython_of_ne hT.not_modules];refine z26 (wpAny_specialOf hT hl ?_);have fin:wpAny (model prog w) A (subscripted slice false o i) (λr s₃=>wpAny (model prog w) A (letTemporaryGo value o r >>= λ_=>pure r) Q E s₃) E s₂:=by
  rw[hs o i];exact wpAny_operating (z6q h₂ (λr s₃ h₃=>z26 (wpAny_letTemporaryGo (z3h h₃))) λ_ _ x=>x)
 first
  |exact z3h (z26 fin)
  |exact z26 (z3h (z26 fin))
  |exact z26 fin
theorem zfq {X:Cx}{pins:List (Addr×Obj)}{σ:St}{H:Hp}{s:Shared}{a:Addr}{y:V}{o:Option V}(I:zz X pins σ H s)(g:Qe H a y o):s.TypeIs (.ref a) "dict":=by
 rcases g with ⟨kvs,k,e,_,_⟩|⟨kvs,k,b,e,_,_,_⟩
 ·obtain⟨_,_,vs,_,dd⟩:=Xz I.hok e;exact dd.typeIs
 ·obtain⟨_,_,xs,_,dd⟩:=zft I.hok e;exact dd.typeIs
def zyu (td ty:TE):TE:=λσ H Q=>td σ H λx H1=>ty σ H1 λy H2=>∃ a v,x=.ref a/\Qe H2 a y (some v)/\Q v H2
def zyv (ty td:TE):TE:=λσ H Q=>ty σ H λy H1=>td σ H1 λx H2=>∃ a o,x=.ref a/\Qe H2 a y o/\Q (.bl o.isSome) H2
def zsu (ty td:TE):TE:=λσ H Q=>ty σ H λy H1=>td σ H1 λx H2=>∃ a o,x=.ref a/\Qe H2 a y o/\Q (.bl (!o.isSome)) H2
def zyh (td ty tv:TE):TS:=λD σ H=>tv σ H λv H1=>td σ H1 λx H2=>ty σ H2 λy H3=>∃ a H4,x=.ref a/\Xn H3 a y v H4/\D.nx σ H4
section
variable {X:Cx}{o i e value:Expr}{pos pos' tpos:Pos}{td ty tv:TE}
theorem X9 (hu:X.A.units+1 < cLine)(ho:PE X o td)(hi:PE X i ty)(hs:znb i):PE X (.Subscript o i pos) (zyu td ty):=by
 intro pins s σ H Q I h;refine Ug z66.lookup hs (yd (ho pins s σ H _ I h) λu s1 ⟨x,H1,I1,rx,q1⟩=>yd (hi pins s1 σ H1 _ I1 q1) λiv s2 ⟨y,H2,I2,ry,a,v,ex,g,q2⟩=>?_);subst ex;obtain rfl:u=Value.ref a:=rx;exact⟨zfq I2 g,zlj hu I2 g ry λw' s3 I3 rw'=>⟨v,H2,I3,rw',q2⟩⟩
theorem Gr (hu:X.A.units+1 < cLine)(hi:PE X i ty)(ho:PE X o td):PC X .In i o (zyv ty td):=by
 intro pins s σ H Q I h;refine yd (hi pins s σ H _ I h) λiv s1 ⟨y,H1,I1,ry,q1⟩=>yd (ho pins s1 σ H1 _ I1 q1) λu s2 ⟨x,H2,I2,rx,a,ov,ex,g,q2⟩=>?_;subst ex;obtain rfl:u=Value.ref a:=rx;exact zzt hu I2 g ry λs3 I3=>⟨.bl ov.isSome,H2,I3,rfl,q2⟩
theorem Y7 (hu:X.A.units+1 < cLine)(hi:PE X i ty)(ho:PE X o td):PC X .NotIn i o (zsu ty td):=by
 intro pins s σ H Q I h;refine yd (hi pins s σ H _ I h) λiv s1 ⟨y,H1,I1,ry,q1⟩=>yd (ho pins s1 σ H1 _ I1 q1) λu s2 ⟨x,H2,I2,rx,a,ov,ex,g,q2⟩=>?_;subst ex;obtain rfl:u=Value.ref a:=rx;exact zq6 hu I2 g ry λs3 I3=>⟨.bl (!ov.isSome),H2,I3,rfl,q2⟩
theorem Zn (hu:X.A.units+1 < cLine)(ho:PE X o td)(hi:PE X i ty)(hv:PE X value tv)(hs:swapsWith value (some (.Subscript o i pos')) pos.line X.env=pure false):
  PS X (.Assign [.Subscript o i pos'] value pos) (zyh td ty tv):=by
 intro pins s σ H D I h;refine wpAny_Assign_Subscript (yd (hv pins s σ H _ I h) λr s1 ⟨v,H1,I1,rv,q1⟩=>yd (ho pins s1 σ H1 _ I1 q1) λu s2 ⟨x,H2,I2,rx,q2⟩=>yd (hi pins s2 σ H2 _ I2 q2) λiv s3 ⟨y,H3,I3,ry,a,H4,ex,g,q3⟩=>?_) hs;subst ex;obtain rfl:u=Value.ref a:=rx;exact zlk hu I3 g ry rv λs4 I4=>⟨σ,H4,I4,q3⟩
end
theorem zn4 {P:Program}{w:World}{H:Hp}(h:Heap)(hb:sysModules < h.objs.size):j6 P w H (h.push {cls:=.type "dict",data:=.dict #[]}) h.objs.size (.dK []):=
 ⟨z4c _,z5p.mpr (z7c (z4a hb)),[],.nil,Heap.DictOf.new h⟩
theorem zfs {P:Program}{w:World}{H:Hp}(h:Heap)(hb:sysModules < h.objs.size):j6 P w H (h.push {cls:=.type "dict",data:=.dict #[]}) h.objs.size (.dT []):=
 ⟨z4c _,z5p.mpr (z7c (z4a hb)),[],.nil,_,#[],0,z3o _ rfl,⟨rfl,rfl,rfl⟩,rfl,rfl,z7o⟩
def zw3:TE:=λ_ H Q=>∀ p,H p=none->Q (.ref p) (upd H p (.dK []))
def zw4:TE:=λ_ H Q=>∀ p,H p=none->Q (.ref p) (upd H p (.dT []))
section
variable {X:Cx}{pos:Pos}
theorem Yc:PE X (.Dict [] [] pos) zw3:=λpins s σ H Q I h=>
 wpAny_Dict_empty ⟨.ref s.heap.objs.size,_,I.laid (a:=s.heap.objs.size) (o:=.dK []) (t':=s.toks) (λ_ _ q=>z29 _ q) (z3c _) (zn4 s.heap I.big),rfl,h _ (I.hok.fresh (z3c _))⟩
theorem Gs:PE X (.Dict [] [] pos) zw4:=λpins s σ H Q I h=>
 wpAny_Dict_empty ⟨.ref s.heap.objs.size,_,I.laid (a:=s.heap.objs.size) (o:=.dT []) (t':=s.toks) (λ_ _ q=>z29 _ q) (z3c _) (zfs s.heap I.big),rfl,h _ (I.hok.fresh (z3c _))⟩
end
structure M2 (X:Cx)(o:Expr)(m:Str)(apos:Pos)(e f:Expr)(cpos:Pos):Prop where
 base:attributeBase o m X.env (eval o X.env)=eval o X.env
 few:((backTo cpos (starEach [e,f] X.env)).all (λx=> !x.1)&&(backToKw cpos (keywordEach [] X.env)).all (λx=>x.1.isSome)
  &&decide (([e,f]:List Expr).length+([]:List Keyword).length+(if ([]:List Keyword).isEmpty then 0 else 1) < 30))=true
 line:(apos.endLine==cpos.line)=true
 trees:backTo cpos (starEach [e,f] X.env)=[(false,eval e X.env),(false,eval f X.env)]
theorem U5:typeLookup (.type "list") "keys"=pure none:=am_miss_of_fast (by first|decide+kernel|rfl)
theorem zgx:entryFor table "dict.update.loop"=some Builtin.«dict.update.loop»:=entryFor_of_tree (by kernel_rfl)
theorem Yt:plainId "dict.update.loop"=true:=by decide+kernel
section
variable {prog:Program}{w:World}{A:Around}{E:Value->Shared->Prop}
theorem zlz {s:Shared}{a:Addr}{o:Obj}{xs:Array Value}{k:Nat}{Q:Option Value->Shared->Prop}(hx:s.heap.get? a=some o)(hc:o.cls=.type "list")(hdat:o.data=.seq xs k)(hd:o.dict=none)(hA:A.handled=none)
  (h:∀ h' tk,(∀ b ob,s.heap.get? b=some ob->h'.get? b=some ob)->Q none {s with heap:=h',toks:=tk}):wpAny (model prog w) A (getAttr? (.ref a) "keys") Q E s:=by
 obtain⟨c,dct,dat,sl⟩:=o;simp only at hc hdat hd;subst hc hdat hd;obtain⟨hp,g,d,tk,os⟩:=s;have hT:∀ tk',(⟨hp,g,d,tk',os⟩:Shared).TypeIs (.ref a) "list":=λ_=>⟨_,hx,rfl⟩;have hmiss:=U5;have hname:(["__module__","__name__","__qualname__","__doc__","__annotations__"]:List Str).contains "keys"=false:=by decide+kernel
 have hsz:("keys":Str).length+100<=sizeLine:=by first|size_fits|decide+kernel
 have f1:=sub_AttributeError;have f3:=z7p.lookup;have f4:=z7p.bind (.ref a);have f5:=am_list_getattr_none;unfold getAttr? getAttrBy? getAttrBy
 repeat (any_goals (first|assumption|exact hT _|((with_reducible show wpAny _ _ (call (Value.builtin "list.__getattribute__") _ _) _ _ _);refine z8e z7p (hT _) am_entry_list_getattribute (PySem.F.args_list_getattribute_2 _ _) (meets_getattribute_miss_list a xs k sl "keys" _ hmiss hname hsz) ⟨hx,hA,λh' tk' e hx'=>?_⟩)|wp_step))
 obtain⟨t',u',he⟩:=hx'.there;show wpAny _ _ (getattributeRaised _ _ _ _ _ _ _) _ _ _;unfold getattributeRaised
 repeat (any_goals (first|assumption|wp_step))
 all_goals first|exact h _ _ hx'.keeps|(dsimp only;repeat (any_goals (first|assumption|exact h _ _ hx'.keeps|wp_step)))
end
section
variable {X:Cx}
theorem zd5:∀{ps:List Addr}{us:List Value},jf (ps.map V.ref) us->us=ps.map Value.ref
 |[],us,r=>by
  rw[z6z]at r;cases r;rfl
 |p::ps,us,r=>by
  rw[z3n]at r;cases r with
  |cons h t=>
   cases h;rw[z3n,<-zd5 t]
end
section
variable {X:Cx}{pins:List (Addr×Obj)}{σ:St}{H:Hp}{s:Shared}{h':Heap}
theorem zz.turnedL {t':Nat}{ch:List Addr}(I:zz X pins σ H s)(k:∀ b o,b∉ch->s.heap.get? b=some o->h'.get? b=some o)(hf:∀ b∈ch,Ws X pins H b):zz X pins σ H {s with heap:=h',toks:=t'}:=by
 have nit:∀ b u,H b=some u->b∉ch:=λb u e z=>by
  have q:=(hf b z).1;rw[q]at e;cases e
 refine I.step (g':=s.gens) (d':=s.drawn) (ch:=ch) (λb hb=>⟨(hf b hb).2.2.2.1,(hf b hb).2.1,(hf b hb).2.2.2.2.1,(hf b hb).2.2.2.2.2⟩) (λb o _ _ hc e _=>k b o hc e) (λb o _ _ hc e _=>⟨o.slots,k b o hc e⟩)
  (λ_ _ _ _ n=>n) (λb o hc e=>⟨o,k b o hc e⟩) (λ_ _ e=>e) (λ_ _ _ e=>e) (λb ps e=>⟨#[],by rw[e];simp⟩) (λm hm=>?_) (λb u e=>?_) I.bare
 ·obtain⟨o,es,ep,ho,r⟩:=hm;exact⟨o,es,ep,k _ o (λz=>(hf _ z).2.1 rfl) ho,r⟩
 ·refine (I.hok b u e).stay (λc v hc q=>k c v ?_ q) (λ_ q=>q) λ_ _ q=>q;rcases hc with z|z
  ·rw[z];exact nit b u e
  ·exact nit c _ z
theorem zz.turnedNew {t':Nat}{ch:List Addr}{T:Addr}{ob:HO}(I:zz X pins σ H s)(k:∀ b o,b∉ch->s.heap.get? b=some o->h'.get? b=some o)(hf:∀ b∈ch,Ws X pins H b)(hT:s.heap.objs.size<=T)
  (new:j6 X.prog X.w (upd H T ob) h' T ob):zz X pins σ (upd H T ob) {s with heap:=h',toks:=t'}:=by
 have hn:H T=none:=I.hok.fresh hT;have nit:∀ b u,H b=some u->b∉ch:=λb u e z=>by
  have q:=(hf b z).1;rw[q]at e;cases e
 refine I.step (g':=s.gens) (d':=s.drawn) (ch:=ch) (λb hb=>⟨(hf b hb).2.2.2.1,(hf b hb).2.1,(hf b hb).2.2.2.2.1,(hf b hb).2.2.2.2.2⟩) (λb o _ _ hc e _=>k b o hc e) (λb o _ _ hc e _=>⟨o.slots,k b o hc e⟩)
  (λb o _ e n=>?_) (λb o hc e=>⟨o,k b o hc e⟩) (λb xs e=>?_) (λb o u e=>?_) (λb ps e=>⟨#[],?_⟩) (λm hm=>?_) (λb u e=>?_) I.bare
 ·rw[ze (z4a (z3z (z3j e) hT))];exact n
 ·rw[ze (zf e hn)];exact e
 ·rw[ze (zf e hn)];exact e
 ·rw[ze (zf e hn),e];simp
 ·obtain⟨o,es,ep,ho,r⟩:=hm;exact⟨o,es,ep,k _ o (λz=>(hf _ z).2.1 rfl) ho,r⟩
 ·by_cases hb:b=T
  ·subst hb;rw[zb]at e;cases e;exact new
  ·rw[ze hb]at e;refine (I.hok b u e).stay (λc v hc q=>k c v ?_ q) (λc q=>by rw[ze (zf q hn)];exact q) λc xs q=>by rw[ze (zf q hn)];exact q
   rcases hc with z|z
   ·rw[z];exact nit b u e
   ·exact nit c _ z
theorem zz.lock {d:Addr}{u:HO}(I:zz X pins σ H s)(h:H d=some u)(mu:Mut (some u)):∃ od,zz X pins σ (upd H d (.frz od u)) s:=by
 have x:=I.hok d u h;have ex:∃ od,s.heap.get? d=some od:=by
  cases u with
  |lst xs=>obtain⟨_,_,_,_,e⟩:=x;exact⟨_,e⟩
  |dK kvs=>obtain⟨_,_,_,_,o,_,_,e,_⟩:=x;exact⟨o,e⟩
  |dT kvs=>obtain⟨_,_,_,_,o,_,_,e,_⟩:=x;exact⟨o,e⟩
  |set S n=>obtain⟨o,_,_,_,e,_⟩:=x;exact⟨o,e⟩
  |ins C dx fs=>obtain⟨_,_,_,e,_⟩:=x;exact⟨_,e⟩
  |ext φ=>obtain⟨_,⟨_,e⟩,_⟩:=x;exact⟨_,e⟩
  |_=>exact False.elim mu
 obtain⟨od,e⟩:=ex;have new:j6 X.prog X.w (upd H d (.frz od u)) s.heap d (.frz od u):=by
  refine⟨e,x.stay (λb v _ q=>q) (λb q=>?_) λb xs q=>?_⟩
  ·rw[ze (λz=>by rw[z,h]at q;cases q;exact mu)];exact q
  ·rw[ze (λz=>by rw[z,h]at q;cases q;exact mu)];exact q
 exact⟨od,I.write (x:=d) (e:=d) (t':=s.toks) (h':=s.heap) (by rw[h];exact mu) (.inl rfl) (λb v _ q=>q) ⟨od,e⟩ new⟩
theorem zz.nofrz {d:Addr}{u:HO}(I:zz X pins σ H s)(h:H d=some u)(mu:Mut (some u)):∀ o' u',X.H_0 d≠some (.frz o' u'):=λo' u' e=>by
 have q:=I.base.frzs d o' u' e;rw[h]at q;cases q;exact mu
theorem zz.unlock {d:Addr}{od:Obj}{u:HO}(I:zz X pins σ H s)(h:H d=some (.frz od u))(hn:∀ o' u',X.H_0 d≠some (.frz o' u')):zz X pins σ (upd H d u) s:=by
 have neH:∀ b o,H b=some o->(∀ o' u',o≠.frz o' u')->b≠d:=λb o e hne z=>by
  rw[z,h]at e;cases e;exact hne _ _ rfl
 have neN:∀ b,H b=none->b≠d:=λb e z=>by rw[z,h]at e;cases e
 refine⟨I.ok,I.os,I.bare,⟨I.base.keep,I.base.slot,λb o e n hx=>?_,I.base.there,λb xs e=>?_,λb o x e=>?_,λb ps e=>?_⟩,I.loc,I.cell,?_,λx c e=>?_,λp hp=>?_,λb o e=>?_,I.len⟩
 ·rw[ze (neN b (I.base.free b o e n hx))];exact I.base.free b o e n hx
 ·have q:=I.base.tups b xs e;rw[ze (neH b _ q (λ_ _ z=>nomatch z))];exact q
 ·have q:=I.base.frzs b o x e;rw[ze (λz=>by rw[z]at e;exact hn _ _ e)];exact q
 ·obtain⟨m,q⟩:=I.base.tbls b ps e;exact⟨m,by rw[ze (neH b _ q (λ_ _ z=>nomatch z))];exact q⟩
 ·rw[ze (neN _ I.free)];exact I.free
 ·rw[ze (neN c (I.freeC x c e))];exact I.freeC x c e
 ·obtain⟨e,n,r⟩:=I.pin p hp;exact⟨e,by rw[ze (neN _ n)];exact n,r⟩
 ·by_cases hb:b=d
  ·rw[hb,zb]at e;cases e;rw[hb];obtain⟨_,x⟩:=I.hok d _ h;exact x.stay (λc v _ q=>q) (λc q=>by rw[ze (neH c _ q (λ_ _ z=>nomatch z))];exact q) λc xs q=>by rw[ze (neH c _ q (λ_ _ z=>nomatch z))];exact q
  ·rw[ze hb]at e;exact (I.hok b o e).stay (λc v _ q=>q) (λc q=>by rw[ze (neH c _ q (λ_ _ z=>nomatch z))];exact q) λc xs q=>by rw[ze (neH c _ q (λ_ _ z=>nomatch z))];exact q
end
def zyy (t:TS):TS:=λD σ H=>∃ d u,H d=some u/\Mut (some u)/\∀ od,t ⟨λσ' H'=>H' d=some (.frz od u)/\D.nx σ' (upd H' d u),λv H'=>H' d=some (.frz od u)/\D.rt v (upd H' d u),λσ' H'=>H' d=some (.frz od u)/\D.bk σ' (upd H' d u),λσ' H'=>H' d=some (.frz od u)/\D.ct σ' (upd H' d u)⟩ σ (upd H d (.frz od u))
section
variable {X:Cx}
theorem Ka {st:Stmt}{t:TS}(h:PS X st t):PS X st (zyy t):=by
 intro pins s σ H D I hw;obtain⟨d,u,hd,mu,hw⟩:=hw;obtain⟨od,I1⟩:=I.lock hd mu;refine yd (h pins s σ _ _ I1 (hw od)) λf s1 q=>?_;cases f with
 |next=>obtain⟨σ',H',I2,e,q⟩:=q;exact⟨σ',_,I2.unlock e (I.nofrz hd mu),q⟩
 |brk=>obtain⟨σ',H',I2,e,q⟩:=q;exact⟨σ',_,I2.unlock e (I.nofrz hd mu),q⟩
 |cont=>obtain⟨σ',H',I2,e,q⟩:=q;exact⟨σ',_,I2.unlock e (I.nofrz hd mu),q⟩
 |ret v=>obtain⟨x,σ',H',I2,r,e,q⟩:=q;exact⟨x,σ',_,I2.unlock e (I.nofrz hd mu),r,q⟩
theorem zdy {tg:Expr}{pins:List (Addr×Obj)}{σ:St}{H:Hp}{s:Shared}{R:It->Hp->Prop}{J:It}{tn:Nat->Heap->Prop}{tk:Nat}(I:zz X pins σ H s)(o:Obj)
  (T:Wt X.prog X.w X.K tg J [s.heap.objs.size] s.heap.objs.size tn)(st:tn 0 (s.heap.push o))(q:R J H):PIE X pins σ tg R (.ref s.heap.objs.size) {s with heap:=s.heap.push o,toks:=tk}:=by
 refine⟨s.heap.objs.size,[s.heap.objs.size],tn,J,H,rfl,I.kept λb ob e=>z29 _ e,T,st,λb hb=>?_,q⟩;have e:b=s.heap.objs.size:=by simpa using hb
 subst e;exact I.fpOk (z3c _) (I.hok.fresh (z3c _))
end
def Itc (lo c:Int)(n:Nat):It:=⟨λi _=>i < n,λi H x H'=>H'=H/\x=.int (lo+(i:Nat)*c),λi _=>n<=i⟩
theorem zgw {P:Program}{w:World}{K:PySem.W.Frag}{tg:Expr}(it:Addr)(lo c:Int)(n:Nat):Wt P w K tg (Itc lo c n) [it] it (λi h=>IsRangeIter h it (lo+(i:Nat)*c) ((n:Int) - (i:Nat)) c) where
 mem:=by simp
 obj:=λi h st b hb=>by
  have e:b=it:=by simpa using hb
  subst e;exact⟨_,st,λv z=>nomatch z⟩
 keep:=λi h h' st k=>k it (by simp) _ st
 item:=by
  intro X hP hw hK hc i pins s σ H E I hf st hg;subst hP hw hK;obtain⟨f0,f1,f2,f3,f4,f5⟩:=hf it (by simp);have W:=Walks.range (prog:=X.prog) (w:=X.w) (I.ok.hd hc) it lo c n;refine W.item i s _ _ hg st λv h' tk hv st' kk=>?_;obtain⟨t,rfl⟩:=hv;have I1:zz X pins σ H {s with heap:=h',toks:=tk}:=I.turned (λb o hb e=>kk b o (by simpa using hb) e) f0 f1 f3 f4 f5;exact⟨_,rfl,zbx (s:={s with heap:=h',toks:=tk}) (n:="range_iterator") st' rfl rfl (by decide) ⟨.int (lo+(i:Nat)*c),H,I1,⟨t,rfl⟩,⟨rfl,rfl⟩,st',λb hb=>(hf b hb).1⟩⟩
 done:=by
  intro X hP hw hK hc i pins s σ H E I hf st hg;subst hP hw hK;obtain⟨f0,f1,f2,f3,f4,f5⟩:=hf it (by simp);exact wpAny_pyNext_range_end (I.ok.hd hc) st (by have:n<=i:=hg;omega) λh' eb=>⟨rfl,I.turned (t':=s.toks) (λb o hb e=>eb b o hb e) f0 f1 f3 f4 f5⟩
 self:=λA i s Q E st h=>wpAny_pyIter_rangeiter st h
def RgC (i j c:Int)(n:Nat):Prop:=c≠0/\c.natAbs < 1073741824/\Builtin.Range.small i j c=true/\Builtin.Range.rangeSize i j c=n
theorem RgC.neg {i j:Int}(ha: -(2 ^ 62)<=i)(ha':i < 2 ^ 62)(hb: -(2 ^ 62)<=j)(hb':j < 2 ^ 62):RgC i j (-1) (i - j).toNat:=
 ⟨by decide,by decide,PySem.W.small_down ha ha' hb hb',PySem.W.rangeSize_downNat i j⟩
def zx7 (ta:TA):TI:=λσ H R=>ta σ H λvs H1=>∃(i j c:Int) (n:Nat),vs=[.int i,.int j,.int c]/\RgC i j c n/\R (Itc i c n) H1
section
variable {X:Cx}{tg:Expr}
theorem zb6 {a b c:Expr}{ta:TA}{p pos:Pos}(hg:Gl X "range")(hm:X.mg "range"=none)(ha:PA X [a,b,c] ta)
  (hs:starEach [a,b,c] X.env=(false,eval a X.env)::starEach [b,c] X.env:=by rfl)(hpl:(backTo pos (starEach [b,c] X.env)).any (·.1)=false:=by rfl):
  PI X tg (.Call (.Name "range" p) [a,b,c] [] pos) (zx7 ta):=by
 intro pins s σ H R I h;refine Call_ (vc I hg hm boot_range (z4y (yd (ha pos pins s σ H _ I h) λus s1 ⟨vs,H1,I1,r1,q1⟩=>?_) hs hpl));obtain⟨i,j,k,n,e,⟨c0,c1,c2,c3⟩,q⟩:=q1;subst e;cases r1 with
 |cons r rr=>
  cases rr with
  |cons r' rr=>
   cases rr with
   |cons r'' rr=>
    cases rr;obtain⟨t,rfl⟩:=r;obtain⟨t',rfl⟩:=r';obtain⟨t'',rfl⟩:=r'';refine call_range_3 c0 ?_ (.inl (PyProof.noPylong_small c1));refine wpAny_pyIter_range (IsRange.new ..) c2 ?_;have I2:zz X pins σ H1 {s1 with heap:=s1.heap.push {cls:=.type "range",data:=.fields #[.int i t,.int j t',.int k t'']}}:=I1.kept (t':=s1.toks) λb o e=>z29 _ e;refine zdy (tk:=s1.toks) I2 _ (zgw _ i k n) ?_ q;have e1:i+((0:Nat):Int)*k=i:=by simp
    have e2:(n:Int) - ((0:Nat):Int)=Builtin.Range.rangeSize i j k:=by rw[c3];simp
    show IsRangeIter _ _ (i+((0:Nat):Int)*k) ((n:Int) - ((0:Nat):Int)) k;rw[e1,e2];exact z3o _ rfl
end
section
variable {prog:Program}{w:World}{A:Around}{E:Value->Shared->Prop}{s:Shared}
theorem Vi {d:Addr}{o:Obj}{es:Array DictEntry}{ep:Nat}{Q:Value->Shared->Prop}(hd:(d==sysModules)=false)(ho:s.heap.get? d=some o)(hc:o.ExactDict)(hdat:o.data=.dict es ep)
  (hQ:Q (.ref s.heap.objs.size) {s with heap:=s.heap.push {cls:=.type "dict_keyiterator",data:=.fields #[.ref d,.int 0 0,.int es.size 0,.int ep 0]}}):
  wpAny (model prog w) A (pyIter (.ref d)) Q E s:=by
 have hT:s.TypeIs (.ref d) "dict":=⟨o,ho,hc.1⟩;refine wpAny_pyIter_slot hT F.slot_dict_iter (z50 F.slot_dict_iter hT F.entry_dict_iter ?_ (F.args_dict_iter_1 _));unfold Builtin.«dict.__iter__»;refine z26 ?_;unfold Builtin.Dict.dictSlotNone;refine z26 (wpAny_notOrdered_dict hT ?_);show wpAny _ _ (pure (Value.ref d)) _ _ s;refine z3h ?_;show wpAny _ _ (Builtin.Dict.showsAll d >>= _) _ _ s;unfold Builtin.Dict.showsAll;rw[z3k (by rw[hd];exact z3w)];refine z26 (z3h ?_);refine z26 (z93 ho hdat ?_);refine z26 (wpAny_dictEpoch ho hdat ?_);refine z26 (z7b (z3h ⟨_,rfl,"dict_keyiterator",_,⟨_,z3o _ rfl,rfl⟩,z5y.lookup,?_⟩));simpa[rawInt] using hQ
theorem Ql {it d:Addr}{i n ep:Nat}{od:Obj}{es:Array DictEntry}{en:DictEntry}{Q:Option Value->Shared->Prop}(hit:s.heap.IsKeyIter it d i n ep)(hod:s.heap.get? d=some od)(hdd:od.data=.dict es ep)
  (hsz:es.size=n)(hx:es[i]? =some en)(hQ:∀ h',h'.IsKeyIter it d (i+1) n ep->Heap.SameBut it s.heap h'->Q (some en.key) {s with heap:=h'}):wpAny (model prog w) A (pyNext (.ref it)) Q E s:=by
 obtain⟨o,ho,hc,hd⟩:=id hit;unfold pyNext;refine z26 (z79 (z5l (name:=Str.ofString "__next__") hit.typeIs z5y
  (z50 z5y hit.typeIs jar ?_ (jak _))))
 refine z26 (z3h ?_);refine z26 ?_;refine z26 ?_
 first|refine z26 (z6w hit.typeIs (z3h ?_))|refine z26 (z7m hit.typeIs (z3h ?_))
 refine z26 (wpAny_fieldsOf ho hd ?_);have hown:Builtin.Dict_items.ownsTuple "dict_keyiterator"=false:=by decide
 simp only[hown,z5k,z54];show wpAny _ _ (if (Value.ref d==Value.none)=true then _ else _) _ _ s;rw[z3k (show ¬((Value.ref d==Value.none)=true) from z3w)];refine z26 (z3h ?_);refine z26 (z93 hod hdd ?_);rw[z3k (by rw[hsz];simp)];refine z26 (z3h ?_);refine z26 (wpAny_dictEpoch hod hdd ?_);rw[z3k (by simp)];refine z3h ?_;obtain⟨hlt',hen⟩:=Array.getElem?_eq_some_iff.mp hx;simp only[show ¬((i:Int) < 0) from by omega,z54,z3i,z8d hlt'];refine z26 ?_
 first|refine z26 (z6w hit.typeIs (z3h ?_))|refine z26 (z7m hit.typeIs (z3h ?_))
 refine z26 (wpAny_isOneOf_keyiter hit.typeIs ?_);show wpAny _ _ (setField (.ref it) 1 (rawInt ((i:Int)+1)) >>= _) _ _ s;refine z26 (z9s ho hd (by simp) ?_);have hit':(s.heap.update it (Obj.mapFields (·.setIfInBounds 1 (rawInt ((i:Int)+1))))).IsKeyIter it d (i+1) n ep:=
  ⟨_,z5j _ ho (Obj.isFreed_of_fields (z8q hd _)),(Obj.cls_mapFields ..).trans hc,by rw[z8q hd];simp[rawInt]⟩
 refine z26 (z56 ?_);refine z26 (wpAny_isOneOf_keyiter (s:={s with heap:=s.heap.update it (Obj.mapFields (·.setIfInBounds 1 (rawInt ((i:Int)+1))))}) hit'.typeIs ?_);show wpAny _ _ (pure es[i].key) _ _ _;rw[hen];exact z3h (z3h ⟨_,rfl,z3h (hQ _ hit' (z8j ..))⟩)
theorem Jh {it d:Addr}{i n ep:Nat}{od:Obj}{es:Array DictEntry}{Q:Option Value->Shared->Prop}(hh:A.handled=none)(hit:s.heap.IsKeyIter it d i n ep)(hod:s.heap.get? d=some od)(hdd:od.data=.dict es ep)
  (hsz:es.size=n)(hge:n<=i)(hQ:∀ h',Heap.ExtBut it s.heap h'->Q none {s with heap:=h'}):wpAny (model prog w) A (pyNext (.ref it)) Q E s:=by
 obtain⟨o,ho,hc,hd⟩:=id hit;unfold pyNext;refine z26 (z79 (z5l (name:=Str.ofString "__next__") hit.typeIs z5y
  (z50 z5y hit.typeIs jar ?_ (jak _))))
 refine z26 (z3h ?_);refine z26 ?_;refine z26 ?_
 first|refine z26 (z6w hit.typeIs (z3h ?_))|refine z26 (z7m hit.typeIs (z3h ?_))
 refine z26 (wpAny_fieldsOf ho hd ?_);have hown:Builtin.Dict_items.ownsTuple "dict_keyiterator"=false:=by decide
 simp only[hown,z5k,z54];show wpAny _ _ (if (Value.ref d==Value.none)=true then _ else _) _ _ s;rw[z3k (show ¬((Value.ref d==Value.none)=true) from z3w)];refine z26 (z3h ?_);refine z26 (z93 hod hdd ?_);rw[z3k (by rw[hsz];simp)];refine z26 (z3h ?_);refine z26 (wpAny_dictEpoch hod hdd ?_);rw[z3k (by simp)];refine z3h ?_;have hge':es.size<=i:=by rw[hsz];exact hge
 simp only[show ¬((i:Int) < 0) from by omega,z54,z3i,jax hge'];refine z26 ?_
 first|refine z26 (z6w hit.typeIs (z3h ?_))|refine z26 (z7m hit.typeIs (z3h ?_))
 show wpAny _ _ (setField (.ref it) 0 .none >>= _) _ _ s;refine z26 (z9s ho hd (by simp) ?_);show wpAny _ _ (newExc (.type "StopIteration") [] >>= _) _ _ _;refine z26 ?_;simp only[newExc,newTuple];refine z26 (z7b ?_ (by size_fits));refine z26 (m:=firstArgMember _ _) (wpAny_of_eq (a:=Value.none) (by first|rfl|(simp only[firstArgMember];rfl)) ?_);refine z7b ?_ (by size_fits);simp only[raiseNew];refine z26 (wpAny_handled ?_);rw[show A.in1.handled=none from hh];refine z26 (z3h (wpAny_throw ?_));refine z26 (jal (T:="StopIteration") (b:=true) ⟨_,z3o _ rfl,rfl⟩ isSubtype_stop ?_);exact z3h (hQ _ (((z8j ..).extBut.push _).push _))
end
theorem U2 {κ:Type}{kvs:List (κ×V)}{vs:List (κ×Value)}(h:KV kvs vs):∀{i:Nat}{k:κ}{v:V},kvs[i]? =some (k,v)->∃ u,vs[i]? =some (k,u)/\jp v u:=by
 unfold KV at h
 induction h with
 |nil=>intro i k v e;simp at e
 | @cons a b l₁ l₂ r t ih=>
  intro i k v e;cases i with
  |zero=>
   simp only[z8m,z8f]at e;subst e;refine⟨b.2,?_,r.2⟩;simp only[z8m];exact z6a some (Prod.ext r.1.symm rfl)
  |succ j=>
   simp only[z8n]at e ⊢;exact ih e
theorem Xg {α β:Type}{G:α->β->Prop}{l₁:List α}{l₂:List β}(h:Paired G l₁ l₂):∀{i:Nat}{a:α},l₁[i]? =some a->∃ b,l₂[i]? =some b/\G a b:=by
 induction h with
 |nil=>intro i a e;simp at e
 | @cons a b l₁ l₂ r t ih=>
  intro i a' e;cases i with
  |zero=>
   simp only[z8m,z8f]at e;subst e;exact⟨b,rfl,r⟩
  |succ j=>
   simp only[z8n]at e ⊢;exact ih e
theorem Gw {k:j2}{u:Value}(h:X4 k u=true):jp (kV k) u:=by
 rcases yn h with ⟨i,t,rfl,rfl⟩|⟨x,t,rfl,rfl⟩
 ·exact⟨t,rfl⟩
 ·exact⟨t,rfl⟩
section
variable {X:Cx}{pins:List (Addr×Obj)}{σ:St}{H:Hp}{s:Shared}{d:Addr}{o:Obj}
theorem zz.frzK {kvs:List (j2×V)}(I:zz X pins σ H s)(h:H d=some (.frz o (.dK kvs))):
  (d==sysModules)=false/\s.heap.get? d=some o/\o.ExactDict/\∃(es:Array DictEntry) (ep:Nat) (vs:List (j2×Value)),o.data=.dict es ep/\es.size=kvs.length/\KV kvs vs/\s.heap.DictAt (jn X.prog X.w) d vs ep:=by
 obtain⟨hd,z,hs,vs,kv,o',es,ep,ho,hx,hdt,r⟩:=I.hok d _ h;rw[hd]at ho;cases ho;refine⟨hs,hd,hx,es,ep,vs,hdt,?_,kv,o,es,hd,hx,hdt,r⟩;have l1:=r.2.1.length;have l2:kvs.length=vs.length:=z39 kv;rw[z5i]at l1;omega
theorem zz.frzT {kvs:List (List j2×V)}(I:zz X pins σ H s)(h:H d=some (.frz o (.dT kvs))):
  (d==sysModules)=false/\s.heap.get? d=some o/\o.ExactDict/\∃(es:Array DictEntry) (ep:Nat),o.data=.dict es ep/\es.size=kvs.length/\
   ∀(i:Nat) (k:List j2) (v:V),kvs[i]? =some (k,v)->∃(en:DictEntry) (q:Addr),es[i]? =some en/\en.key=.ref q/\H q=some (.tup (k.map kV)):=by
 obtain⟨hd,z,hs,xs,pr,o',es,ep,ho,hx,hdt,he,_⟩:=I.hok d _ h;rw[hd]at ho;cases ho;refine⟨hs,hd,hx,es,ep,hdt,?_,λi k v e=>?_⟩
 ·have l1:es.size=xs.length:=size_of_entries he;have l2:kvs.length=xs.length:=z39 pr;omega
 ·obtain⟨b,hb,e1,e2,_⟩:=Xg pr e;have q:=entry_at he i;rw[hb]at q;exact⟨_,b.2.1,q,rfl,e2⟩
end
def Itk (d:Addr)(o:Obj)(kvs:List (j2×V)):It:=
 ⟨λi H=>H d=some (.frz o (.dK kvs))/\i < kvs.length,λi H x H'=>H'=H/\∃ k v,kvs[i]? =some (k,v)/\x=kV k,λi H=>H d=some (.frz o (.dK kvs))/\kvs.length<=i⟩
def zxo (d:Addr)(o:Obj)(kvs:List (List j2×V)):It:=
 ⟨λi H=>H d=some (.frz o (.dT kvs))/\i < kvs.length,λi H x H'=>H'=H/\∃(k:List j2) (v:V) (q:Addr),kvs[i]? =some (k,v)/\x=.ref q/\H q=some (.tup (k.map kV)),λi H=>H d=some (.frz o (.dT kvs))/\kvs.length<=i⟩
def Iti (d:Addr)(o:Obj)(kvs:List (j2×V)):It:=
 ⟨λi H=>H d=some (.frz o (.dK kvs))/\i < kvs.length,λi H x H'=>∃ T k v,kvs[i]? =some (k,v)/\x=.ref T/\H T=none/\H'=upd H T (.tup [kV k,v]),λi H=>H d=some (.frz o (.dK kvs))/\kvs.length<=i⟩
theorem Y2 {o:Obj}{es es':Array DictEntry}{ep ep':Nat}(h:o.data=.dict es ep)(h':o.data=.dict es' ep'):es'=es/\ep'=ep:=by
 rw[h]at h';cases h';exact⟨rfl,rfl⟩
section
variable {P:Program}{w:World}{K:PySem.W.Frag}{tg:Expr}{d:Addr}{o:Obj}{es:Array DictEntry}{ep:Nat}
theorem zmv {kvs:List (j2×V)}(it:Addr)(hod:o.data=.dict es ep):Wt P w K tg (Itk d o kvs) [it] it (λi h=>h.IsKeyIter it d i kvs.length ep) where
 mem:=by simp
 obj:=λi h st b hb=>by
  have e:b=it:=by simpa using hb
  subst e;obtain⟨oi,e,c,dd⟩:=st;exact⟨oi,e,λv z=>by rw[dd]at z;cases z⟩
 keep:=λi h h' st k=>st.at λoi e=>k it (by simp) oi e
 item:=by
  intro X hP hw hK hc i pins s σ H E I hf st hg;subst hP hw hK;obtain⟨hd,hi⟩:=hg;obtain⟨f0,f1,f2,f3,f4,f5⟩:=hf it (by simp);obtain⟨hs,hgd,hx,es',ep',vs,hdt,hsz,kv,hm⟩:=I.frzK hd;obtain⟨rfl,rfl⟩:=Y2 hod hdt;obtain⟨⟨k,v⟩,hkv⟩:∃ p,kvs[i]? =some p:=⟨kvs[i],z28 hi⟩;obtain⟨u,hu,ru⟩:=U2 kv hkv;have hl:kvs.length=vs.length:=z39 kv;rw[hl]at st;refine wpAny_pyNext_dict_item st hm hu λkey h' hkey st' sb=>?_;have I1:zz X pins σ H {s with heap:=h'}:=I.turned (t':=s.toks) (λb ob hb e=>(sb.2 b hb).trans e) f0 f1 f3 f4 f5;obtain⟨oi,e,c,dd⟩:=id st';refine⟨key,rfl,zbx (s:={s with heap:=h'}) e c dd (by decide) ⟨kV k,H,I1,Gw (show X4 k key=true from hkey),⟨rfl,k,v,hkv,rfl⟩,?_,λb hb=>(hf b hb).1⟩⟩;show h'.IsKeyIter it d (i+1) kvs.length _;rw[hl];exact st'
 done:=by
  intro X hP hw hK hc i pins s σ H E I hf st hg;subst hP hw hK;obtain⟨hd,hi⟩:=hg;obtain⟨f0,f1,f2,f3,f4,f5⟩:=hf it (by simp);obtain⟨hs,hgd,hx,es',ep',vs,hdt,hsz,kv,hm⟩:=I.frzK hd;obtain⟨rfl,rfl⟩:=Y2 hod hdt;exact Jh (I.ok.hd hc) st hgd hdt hsz hi λh' eb=>⟨rfl,I.turned (t':=s.toks) (λb ob hb e=>eb b ob hb e) f0 f1 f3 f4 f5⟩
 self:=λA i s Q E st h=>wpAny_pyIter_keyiter st h
theorem zi5 {kvs:List (List j2×V)}(it:Addr)(hod:o.data=.dict es ep):Wt P w K tg (zxo d o kvs) [it] it (λi h=>h.IsKeyIter it d i kvs.length ep) where
 mem:=by simp
 obj:=λi h st b hb=>by
  have e:b=it:=by simpa using hb
  subst e;obtain⟨oi,e,c,dd⟩:=st;exact⟨oi,e,λv z=>by rw[dd]at z;cases z⟩
 keep:=λi h h' st k=>st.at λoi e=>k it (by simp) oi e
 item:=by
  intro X hP hw hK hc i pins s σ H E I hf st hg;subst hP hw hK;obtain⟨hd,hi⟩:=hg;obtain⟨f0,f1,f2,f3,f4,f5⟩:=hf it (by simp);obtain⟨hs,hgd,hx,es',ep',hdt,hsz,ent⟩:=I.frzT hd;obtain⟨rfl,rfl⟩:=Y2 hod hdt;obtain⟨⟨k,v⟩,hkv⟩:∃ p,kvs[i]? =some p:=⟨kvs[i],z28 hi⟩;obtain⟨en,q,hen,hkey,hq⟩:=ent i k v hkv;refine Ql st hgd hdt hsz hen λh' st' sb=>?_;have I1:zz X pins σ H {s with heap:=h'}:=I.turned (t':=s.toks) (λb ob hb e=>(sb.2 b hb).trans e) f0 f1 f3 f4 f5;obtain⟨oi,e,c,dd⟩:=id st';exact⟨en.key,rfl,zbx (s:={s with heap:=h'}) e c dd (by decide) ⟨.ref q,H,I1,hkey,⟨rfl,k,v,q,hkv,rfl,hq⟩,st',λb hb=>(hf b hb).1⟩⟩
 done:=by
  intro X hP hw hK hc i pins s σ H E I hf st hg;subst hP hw hK;obtain⟨hd,hi⟩:=hg;obtain⟨f0,f1,f2,f3,f4,f5⟩:=hf it (by simp);obtain⟨hs,hgd,hx,es',ep',hdt,hsz,ent⟩:=I.frzT hd;obtain⟨rfl,rfl⟩:=Y2 hod hdt;exact Jh (I.ok.hd hc) st hgd hdt hsz hi λh' eb=>⟨rfl,I.turned (t':=s.toks) (λb ob hb e=>eb b ob hb e) f0 f1 f3 f4 f5⟩
 self:=λA i s Q E st h=>by
  refine wpAny_pyIter_slot st.typeIs jaw (z50 jaw st.typeIs F.entry_dict_keyiterator_iter ?_ (F.args_dict_keyiterator_iter_1 _));show wpAny _ _ (ret (.ref it)) _ _ s;exact z3h ⟨_,rfl,"dict_keyiterator",_,st.typeIs,z5y.lookup,h⟩
theorem zi4 {kvs:List (j2×V)}{elts:List Expr}{kk:Nat}{tpos:Pos}(it:Addr)(hod:o.data=.dict es ep):
  Wt P w K (.Tuple elts kk tpos) (Iti d o kvs) [it] it (λi h=>∃ ok ov,IsItemIter h it d i kvs.length ep ok ov) where
 mem:=by simp
 obj:=λi h st b hb=>by
  have e:b=it:=by simpa using hb
  subst e;obtain⟨ok,ov,e⟩:=st;exact⟨_,e,λv z=>nomatch z⟩
 keep:=λi h h' st k=>let ⟨ok,ov,e⟩:=st;⟨ok,ov,k it (by simp) _ e⟩
 item:=by
  intro X hP hw hK hc i pins s σ H E I hf st hg;subst hP hw hK;obtain⟨hd,hi⟩:=hg;obtain⟨hs,hgd,hx,es',ep',vs,hdt,hsz,kv,hm⟩:=I.frzK hd;obtain⟨rfl,rfl⟩:=Y2 hod hdt;obtain⟨⟨k,v⟩,hkv⟩:∃ p,kvs[i]? =some p:=⟨kvs[i],z28 hi⟩;obtain⟨u,hu,ru⟩:=U2 kv hkv;have hl:kvs.length=vs.length:=z39 kv;obtain⟨ok,ov,he⟩:=st;rw[hl]at he;have hlt:it < s.heap.objs.size:=z3j he;refine wpAny_pyNext_items_item he hm hu λkey h' hkey ho hT hz hk=>?_;refine⟨_,rfl,wpAny_letOwnedTupleGo_items (s:={s with heap:=h'}) ho λh'' he' sb=>?_⟩;have hT2:h''.get? s.heap.objs.size=some {cls:=.type "tuple",data:=.seq #[key,u]}:=(sb.2 _ (z4e hlt)).trans hT;have new:j6 X.prog X.w (upd H s.heap.objs.size (.tup [kV k,v])) h'' s.heap.objs.size (.tup [kV k,v]):=
   ⟨by show 2<=sizeLine;decide,[key,u],.cons (Gw (show X4 k key=true from hkey)) (.cons ru .nil),⟨_,hT2,rfl,_,rfl⟩⟩
  have I1:zz X pins σ (upd H s.heap.objs.size (.tup [kV k,v])) {s with heap:=h''}:=
   I.turnedNew (t':=s.toks) (ch:=[it]) (λb ob hb e=>(sb.2 b (by simpa using hb)).trans (hk b ob (by simpa using hb) e)) hf (z3c _) new
  refine⟨.ref s.heap.objs.size,_,I1,rfl,⟨_,k,v,hkv,rfl,I.hok.fresh (z3c _),rfl⟩,⟨key,u,?_⟩,λb hb=>?_⟩
  ·rw[hl];exact he'
  ·have e:b=it:=by simpa using hb
   rw[e,ze (z4a hlt)];exact (hf it (by simp)).1
 done:=by
  intro X hP hw hK hc i pins s σ H E I hf st hg;subst hP hw hK;obtain⟨hd,hi⟩:=hg;obtain⟨f0,f1,f2,f3,f4,f5⟩:=hf it (by simp);obtain⟨hs,hgd,hx,es',ep',vs,hdt,hsz,kv,hm⟩:=I.frzK hd;obtain⟨rfl,rfl⟩:=Y2 hod hdt;have hl:kvs.length=vs.length:=z39 kv;obtain⟨ok,ov,he⟩:=st;rw[hl]at he;exact wpAny_pyNext_items_end (I.ok.hd hc) he hm (List.getElem?_eq_none (by omega)) λh' eb=>⟨rfl,I.turned (t':=s.toks) (λb ob hb e=>eb b ob hb e) f0 f1 f3 f4 f5⟩
 self:=λA i s Q E st h=>let ⟨_,_,e⟩:=st;PySem.W.kcp_self e h
end
def zx4 (td:TE):TI:=λσ H R=>td σ H λx H1=>∃ d o,x=.ref d/\((∃ kvs,H1 d=some (.frz o (.dK kvs))/\R (Itk d o kvs) H1)\/∃ kvs,H1 d=some (.frz o (.dT kvs))/\R (zxo d o kvs) H1)
def zvg (td:TE):TI:=λσ H R=>td σ H λx H1=>∃ d o kvs,x=.ref d/\H1 d=some (.frz o (.dK kvs))/\R (Iti d o kvs) H1
section
variable {X:Cx}{tg e:Expr}{td:TE}{apos cpos:Pos}
theorem Y8 (he:PE X e td):PI X tg e (zx4 td):=by
 intro pins s σ H R I h;refine yd (he pins s σ H _ I h) λu s1 ⟨x,H1,I1,rx,d,o,ex,q⟩=>?_;subst ex;obtain rfl:u=Value.ref d:=rx;rcases q with ⟨kvs,hd,q⟩|⟨kvs,hd,q⟩
 ·obtain⟨hs,hgd,hx,es,ep,vs,hdt,hsz,kv,hm⟩:=I1.frzK hd;refine Vi hs hgd hx hdt (zdy (tk:=s1.toks) I1 _ (zmv _ hdt) ⟨_,z3o _ rfl,rfl,?_⟩ q);rw[hsz]<;>rfl
 ·obtain⟨hs,hgd,hx,es,ep,hdt,hsz,ent⟩:=I1.frzT hd;refine Vi hs hgd hx hdt (zdy (tk:=s1.toks) I1 _ (zi5 _ hdt) ⟨_,z3o _ rfl,rfl,?_⟩ q);rw[hsz]<;>rfl
theorem zo7 {elts:List Expr}{kk:Nat}{tpos:Pos}(he:PE X e td)(hbase:attributeBase e "items" X.env (eval e X.env)=eval e X.env:=by rfl)(hline:(apos.endLine==cpos.line)=true:=by rfl):
  PI X (.Tuple elts kk tpos) (.Call (.Attribute e "items" apos) [] [] cpos) (zvg td):=by
 intro pins s σ H R I h;refine z95 (T:="dict") (id:="dict.items") hbase rfl hline F.plainAttrs_dict F.slot_dict_items F.type_dict_items (yd (he pins s σ H _ I h) λu s1 ⟨x,H1,I1,rx,d,o,kvs,ex,hd,q⟩=>?_);subst ex;obtain rfl:u=Value.ref d:=rx;obtain⟨hs,hgd,hx,es,ep,vs,hdt,hsz,kv,hm⟩:=I1.frzK hd;have hl:kvs.length=vs.length:=z39 kv;refine⟨hm.dictOf.typeIs,hm.dictOf.mapOf.noDict,?_⟩;have I2:zz X pins σ H1 {s1 with heap:=s1.heap.push {cls:=.type "dict_items",data:=.fields #[.ref d]}}:=I1.kept (t':=s1.toks) λb ob q=>z29 _ q;have fin:wpAny (model X.prog X.w) X.A (pyIter (.ref s1.heap.objs.size)) (PIE X pins σ (.Tuple elts kk tpos) R) X.xe {s1 with heap:=s1.heap.push {cls:=.type "dict_items",data:=.fields #[.ref d]}}:=by
  refine wpAny_pyIter_items (d:=d) (knd:=jn X.prog X.w) ⟨_,z3o _ rfl,rfl,rfl⟩ (hm.push _) (zdy (tk:=s1.toks) I2 _ (zi4 _ hdt) ⟨.none,.none,?_⟩ q);rw[hl];exact z3o _ rfl
 show wpAny _ _ (callWith cpos (.builtin "dict.items") [.ref d] [] []) _ X.xe s1;exact method_meetsIn F.slot_dict_items F.entry_dict_items rfl (z88 ⟨rfl,hm.dictOf.typeIs,F.args_dict_items_1 _,_,meets_dict_items (jn X.prog X.w) d hs,⟨vs,hm.dictOf⟩,fin⟩)
end
def Ite (K:PySem.W.Frag)(a:Addr):It:=
 ⟨λi H=>∃(xs:List V) (x:V),zx K H a xs/\xs[i]? =some x,λi H v H'=>∃ T x,v=.ref T/\H T=none/\H'=upd H T (.tup [.int (i:Nat),x])/\∀ xs,zx K H a xs->xs[i]? =some x,λi H=>∃ xs:List V,zx K H a xs/\xs.length<=i⟩
theorem zmu {P:Program}{w:World}{K:PySem.W.Frag}{elts:List Expr}{kk:Nat}{tpos:Pos}(a e it:Addr):
  Wt P w K (.Tuple elts kk tpos) (Ite K a) [e,it] e (λi h=>(∃ old,IsEnum h e it ((i:Nat):Int) old)/\h.IsListIter it a i/\e≠it) where
 mem:=by simp
 obj:=λi h st b hb=>by
  obtain⟨⟨old,he⟩,⟨o,ho,hc,hd⟩,_⟩:=st;have e':b=e\/b=it:=by simpa using hb
  rcases e' with z|z
  ·rw[z];exact⟨_,he,λv q=>nomatch q⟩
  ·rw[z];exact⟨o,ho,λv q=>by rw[hd]at q;cases q⟩
 keep:=λi h h' st k=>let ⟨⟨old,he⟩,hi,hne⟩:=st;⟨⟨old,k e (by simp) _ he⟩,hi.at λo q=>k it (by simp) o q,hne⟩
 item:=by
  intro X hP hw hK hc i pins s σ H E I hf st hg;subst hP hw hK;obtain⟨⟨old,he⟩,hit,hne⟩:=st;obtain⟨xs,x,hq,hx⟩:=hg;obtain⟨its,rv,p,hz⟩:=I.list hq;obtain⟨u,hu,ru⟩:=rv.get hx;have hel:e < s.heap.objs.size:=z3j he;have hil:it < s.heap.objs.size:=by obtain⟨_,q,_⟩:=hit;exact z3j q
  refine wpAny_pyNext_enum_item he hit p.isList (x:=u) (by simpa using hu) hne λh' ho hit' hT hsz hk=>?_;refine⟨_,rfl,wpAny_letOwnedTupleGo_enum (s:={s with heap:=h',toks:=s.toks+1}) ho λh'' he' sb=>?_⟩;have hT2:h''.get? s.heap.objs.size=some {cls:=.type "tuple",data:=.seq #[.int i s.toks,u]}:=(sb.2 _ (z4e hel)).trans hT;have new:j6 X.prog X.w (upd H s.heap.objs.size (.tup [.int (i:Nat),x])) h'' s.heap.objs.size (.tup [.int (i:Nat),x]):=
   ⟨by show 2<=sizeLine;decide,[.int i s.toks,u],.cons ⟨_,rfl⟩ (.cons ru .nil),⟨_,hT2,rfl,_,rfl⟩⟩
  have I1:zz X pins σ (upd H s.heap.objs.size (.tup [.int (i:Nat),x])) {s with heap:=h'',toks:=s.toks+1}:=
   I.turnedNew (ch:=[e,it]) (λb ob hb q=>(sb.2 b (λz=>hb (by simp[z]))).trans (hk b ob (λz=>hb (by simp[z])) (λz=>hb (by simp[z])) q)) hf (z3c _) new
  refine⟨.ref s.heap.objs.size,_,I1,rfl,⟨_,x,rfl,I.hok.fresh (z3c _),rfl,λys hy=>by rw[I.list_inj hy hq];exact hx⟩,⟨⟨u,?_⟩,hit'.at λo q=>(sb.2 it (z7c hne)).trans q,hne⟩,λb hb=>?_⟩
  ·have e1:((i+1:Nat):Int)=(i:Int)+1:=by omega
   rw[e1];exact he'
  ·have hb':b < s.heap.objs.size:=by
    have e':b=e\/b=it:=by simpa using hb
    rcases e' with z|z
    ·rw[z];exact hel
    ·rw[z];exact hil
   rw[ze (z4a hb')];exact (hf b hb).1
 done:=by
  intro X hP hw hK hc i pins s σ H E I hf st hg;subst hP hw hK;obtain⟨⟨old,he⟩,hit,hne⟩:=st;obtain⟨xs,hq,hx⟩:=hg;obtain⟨its,rv,p,hz⟩:=I.list hq;obtain⟨f0,f1,f2,f3,f4,f5⟩:=hf it (by simp);have hl:=rv.length;exact wpAny_pyNext_enum_end (I.ok.hd hc) he hit p.isList (by simp;omega) λh' eb=>⟨rfl,I.turned (t':=s.toks) (λb o hb q=>eb b o hb q) f0 f1 f3 f4 f5⟩
 self:=λA i s Q E st h=>let ⟨⟨_,he⟩,_⟩:=st;wpAny_pyIter_enum he h
def zx3 (K:PySem.W.Frag)(ta:TA):TI:=λσ H R=>ta σ H λvs H1=>∃ a xs,vs=[.ref a]/\zx K H1 a xs/\R (Ite K a) H1
theorem zkh {X:Cx}{e:Expr}{ta:TA}{p pos tpos:Pos}{elts:List Expr}{kk:Nat}(hg:Gl X "enumerate")(hm:X.mg "enumerate"=none)(ha:PA X [e] ta)(hs:starEach [e] X.env=[(false,eval e X.env)]:=by rfl):
  PI X (.Tuple elts kk tpos) (.Call (.Name "enumerate" p) [e] [] pos) (zx3 X.K ta):=by
 intro pins s σ H R I h;refine Call_ (vc I hg hm boot_enumerate (z4y (yd (ha pos pins s σ H _ I h) λus s1 ⟨vs,H1,I1,r1,q1⟩=>?_) hs rfl));obtain⟨a,xs,ex,hq,q⟩:=q1;subst ex;cases r1 with
 |cons r rr=>
  cases rr;cases r;obtain⟨its,rv,p',hz⟩:=I1.list hq;refine call_enumerate_list p'.isList λh' he hit hsz hk=>wpAny_pyIter_enum he ?_;have I2:zz X pins σ H1 {s1 with heap:=h'}:=I1.kept (t':=s1.toks) hk;refine⟨s1.heap.objs.size+1,[s1.heap.objs.size+1,s1.heap.objs.size],_,_,H1,rfl,I2,zmu a (s1.heap.objs.size+1) s1.heap.objs.size,⟨⟨.none,he⟩,hit,Nat.succ_ne_self _⟩,λb hb=>?_,q⟩;have e':b=s1.heap.objs.size+1\/b=s1.heap.objs.size:=by simpa using hb
  have hle:s1.heap.objs.size<=b:=by
   rcases e' with z|z
   ·rw[z];exact z4r _ _
   ·rw[z];exact z3c _
  exact I1.fpOk hle (I1.hok.fresh hle)
theorem Vb:bootBuiltins "zip"=some (.type "zip"):=by decide+kernel
def Itz (K:PySem.W.Frag)(a b:Addr):It:=
 ⟨λi H=>∃(xs ys:List V) (x y:V),zx K H a xs/\zx K H b ys/\xs[i]? =some x/\ys[i]? =some y,
  λi H v H'=>∃ T x y,v=.ref T/\H T=none/\H'=upd H T (.tup [x,y])/\(∀ xs,zx K H a xs->xs[i]? =some x)/\∀ ys,zx K H b ys->ys[i]? =some y,
  λi H=>∃ xs ys:List V,zx K H a xs/\zx K H b ys/\(xs.length<=i\/ys.length<=i)⟩
theorem zqd {P:Program}{w:World}{K:PySem.W.Frag}{elts:List Expr}{kk:Nat}{tpos:Pos}{a b z TI TO i1 i2:Addr}(D:ZipApart z TI TO i1 i2 a b):
  Wt P w K (.Tuple elts kk tpos) (Itz K a b) [z,TI,TO,i1,i2] z (λi h=>IsZip h z TI TO .none/\IsPair h TI (.ref i1) (.ref i2)/\(∃ x y,IsPair h TO x y)/\h.IsListIter i1 a i/\h.IsListIter i2 b i) where
 mem:=by simp
 obj:=λi h st c hc=>by
  obtain⟨hz,hTI,⟨x,y,hTO⟩,⟨o1,e1,_,d1⟩,⟨o2,e2,_,d2⟩⟩:=st;have e':c=z\/c=TI\/c=TO\/c=i1\/c=i2:=by simpa using hc
  rcases e' with q|q|q|q|q
  ·rw[q];exact⟨_,hz,λv q=>nomatch q⟩
  ·rw[q];exact⟨_,hTI,λv q=>nomatch q⟩
  ·rw[q];exact⟨_,hTO,λv q=>nomatch q⟩
  ·rw[q];exact⟨o1,e1,λv q=>by rw[d1]at q;cases q⟩
  ·rw[q];exact⟨o2,e2,λv q=>by rw[d2]at q;cases q⟩
 keep:=λi h h' st k=>by
  obtain⟨hz,hTI,⟨x,y,hTO⟩,h1,h2⟩:=st;exact⟨k z (by simp) _ hz,k TI (by simp) _ hTI,⟨x,y,k TO (by simp) _ hTO⟩,h1.at λo q=>k i1 (by simp) o q,h2.at λo q=>k i2 (by simp) o q⟩
 item:=by
  intro X hP hw hK hc i pins s σ H E I hf st hg;subst hP hw hK;obtain⟨hz,hTI,⟨x0,y0,hTO⟩,h1,h2⟩:=st;obtain⟨xs,ys,x,y,hqx,hqy,hx,hy⟩:=hg;obtain⟨its,rv,p,_⟩:=I.list hqx;obtain⟨its2,rv2,p2,_⟩:=I.list hqy;obtain⟨u,hu,ru⟩:=rv.get hx;obtain⟨u2,hu2,ru2⟩:=rv2.get hy;have hzl:z < s.heap.objs.size:=z3j hz;refine wpAny_pyNext_zip_item D hz hTI hTO h1 h2 p.isList p2.isList (x:=u) (y:=u2) (by simpa using hu) (by simpa using hu2) λh' z' TO' h1' h2' hT hsz hk=>?_;refine⟨_,rfl,wpAny_letOwnedTupleGo_zip (s:={s with heap:=h'}) z' λh'' z'' sb=>?_⟩;have hT2:h''.get? s.heap.objs.size=some {cls:=.type "tuple",data:=.seq #[u,u2]}:=(sb.2 _ (z4e hzl)).trans hT;have new:j6 X.prog X.w (upd H s.heap.objs.size (.tup [x,y])) h'' s.heap.objs.size (.tup [x,y]):=
   ⟨by show 2<=sizeLine;decide,[u,u2],.cons ru (.cons ru2 .nil),⟨_,hT2,rfl,_,rfl⟩⟩
  have I1:zz X pins σ (upd H s.heap.objs.size (.tup [x,y])) {s with heap:=h''}:=
   I.turnedNew (t':=s.toks) (ch:=[z,TI,TO,i1,i2]) (λc o hb q=>(sb.2 c (λq'=>hb (by simp[q']))).trans (hk c o (λq'=>hb (by simp[q'])) (λq'=>hb (by simp[q'])) (λq'=>hb (by simp[q'])) (λq'=>hb (by simp[q'])) q)) hf (z3c _) new
  refine⟨.ref s.heap.objs.size,_,I1,rfl,⟨_,x,y,rfl,I.hok.fresh (z3c _),rfl,λl hl=>by rw[I.list_inj hl hqx];exact hx,λl hl=>by rw[I.list_inj hl hqy];exact hy⟩,⟨z'',?_,⟨u,u2,?_⟩,?_,?_⟩,λc hcm=>?_⟩
  ·exact (sb.2 _ D.TIz).trans (hk _ _ D.TIz D.TITO D.TIi1 D.TIi2 hTI)
  ·exact (sb.2 _ D.TOz).trans TO'
  ·exact h1'.at λo q=>(sb.2 _ D.i1z).trans q
  ·exact h2'.at λo q=>(sb.2 _ D.i2z).trans q
  ·have hlt:c < s.heap.objs.size:=by
    have e':c=z\/c=TI\/c=TO\/c=i1\/c=i2:=by simpa using hcm
    rcases e' with q|q|q|q|q
    ·rw[q];exact hzl
    ·rw[q];exact z3j hTI
    ·rw[q];exact z3j hTO
    ·rw[q];obtain⟨_,e1,_⟩:=h1;exact z3j e1
    ·rw[q];obtain⟨_,e2,_⟩:=h2;exact z3j e2
   rw[ze (z4a hlt)];exact (hf c hcm).1
 done:=by
  intro X hP hw hK hc i pins s σ H E I hf st hg;subst hP hw hK;obtain⟨hz,hTI,⟨x0,y0,hTO⟩,h1,h2⟩:=st;obtain⟨xs,ys,hqx,hqy,hend⟩:=hg;obtain⟨its,rv,p,_⟩:=I.list hqx;obtain⟨its2,rv2,p2,_⟩:=I.list hqy;have l1:=rv.length;have l2:=rv2.length;have he:its.toArray[i]? =none\/its2.toArray[i]? =none:=by
   rcases hend with q|q
   ·exact .inl (by simp;omega)
   ·exact .inr (by simp;omega)
  exact wpAny_pyNext_zip_end (I.ok.hd hc) D hz hTI hTO h1 h2 p.isList p2.isList he λh' hk=>⟨rfl,I.turnedL (t':=s.toks) (ch:=[z,TI,TO,i1,i2]) (λc o hb q=>
   hk c o (λq'=>hb (by simp[q'])) (λq'=>hb (by simp[q'])) (λq'=>hb (by simp[q'])) (λq'=>hb (by simp[q'])) q) hf⟩
 self:=λA i s Q E st h=>z75 st.1 h
def zzw (K:PySem.W.Frag)(ta:TA):TI:=λσ H R=>ta σ H λvs H1=>∃ a b xs ys,vs=[.ref a,.ref b]/\zx K H1 a xs/\zx K H1 b ys/\R (Itz K a b) H1
theorem zv9 {X:Cx}{e e2:Expr}{ta:TA}{p pos tpos:Pos}{elts:List Expr}{kk:Nat}(hg:Gl X "zip")(hm:X.mg "zip"=none)(ha:PA X [e,e2] ta)
  (hs:starEach [e,e2] X.env=(false,eval e X.env)::starEach [e2] X.env:=by rfl)(hpl:(backTo pos (starEach [e2] X.env)).any (·.1)=false:=by rfl):
  PI X (.Tuple elts kk tpos) (.Call (.Name "zip" p) [e,e2] [] pos) (zzw X.K ta):=by
 intro pins s σ H R I h;refine Call_ (vc I hg hm Vb (z4y (yd (ha pos pins s σ H _ I h) λus s1 ⟨vs,H1,I1,r1,q1⟩=>?_) hs hpl));obtain⟨a,b,xs,ys,ex,hqx,hqy,q⟩:=q1;subst ex;cases r1 with
 |cons r rr=>
  cases rr with
  |cons r' rr=>
   cases rr;cases r;cases r';obtain⟨its,rv,p1,_⟩:=I1.list hqx;obtain⟨its2,rv2,p2,_⟩:=I1.list hqy;have la:a < s1.heap.objs.size:=p1.lt;have lb:b < s1.heap.objs.size:=p2.lt;refine call_zip_2 p1.isList p2.isList λh' hz hTI hTO h1 h2 hsz hk=>z75 hz ?_;have I2:zz X pins σ H1 {s1 with heap:=h'}:=I1.kept (t':=s1.toks) hk;refine⟨s1.heap.objs.size+4,[s1.heap.objs.size+4,s1.heap.objs.size+2,s1.heap.objs.size+3,s1.heap.objs.size,s1.heap.objs.size+1],_,_,H1,rfl,I2,zqd (z9m s1.heap.objs.size a b la lb),⟨hz,hTI,⟨_,_,hTO⟩,h1,h2⟩,λc hcm=>?_,q⟩;have e':c=s1.heap.objs.size+4\/c=s1.heap.objs.size+2\/c=s1.heap.objs.size+3\/c=s1.heap.objs.size\/c=s1.heap.objs.size+1:=by simpa using hcm
   have hle:s1.heap.objs.size<=c:=by
    rcases e' with z|z|z|z|z
    ·rw[z];exact z4r _ _
    ·rw[z];exact z4r _ _
    ·rw[z];exact z4r _ _
    ·rw[z];exact z3c _
    ·rw[z];exact z4r _ _
   exact I1.fpOk hle (I1.hok.fresh hle)
def qz (s:Stmt)(j:Nat):Stmt:=match s with
 | .ClassDef _ _ _ body _ _ _ _ _ _ _=>body.getD j (.Pass ⟨0,0,0,0⟩)
 |_=>.Pass ⟨0,0,0,0⟩
def ke (s:Stmt):Arguments:=match s with
 | .FunctionDef _ a _ _ _ _ _ _ _ _=>a
 |_=>{posonlyargs:=[],args:=[],vararg:=none,kwonlyargs:=[],kw_defaults:=[],kwarg:=none,defaults:=[]}
def xj (s:Stmt):List Stmt:=match s with
 | .FunctionDef _ _ b _ _ _ _ _ _ _=>b
 |_=>[]
def zj (s:Stmt):Scope:=match s with
 | .FunctionDef _ _ _ _ _ _ sc _ _ _=>sc
 |_=>{kind:=.function,names:=[],isGenerator:=false,isCoroutine:=false}
abbrev CX0:CXT:=λ_ _ _ _ _ _=>False
abbrev E0:XK:=λ_ _ _=>False
theorem Gq {X:Cx}:K6 CX0 X E0:=λ_ _ _ _ _ _ _ h=>h.elim
structure Fun (K:PySem.W.Frag)(x qual:Str)(st:Stmt)(f:Addr)(fd:FuncData):Prop where
 ex:∃(oc:Value) (od:Option Addr) (kV doc pm:Value) (an:Option Addr) (cdv ct:Value) (osl:Array (Option Value)),
  fd=PySem.W.fnOf x qual (ke st) (xj st) (zj st) .none kV doc pm an cdv ct/\K.lookup f=some ⟨oc,od,.func fd,osl⟩/\PySem.W.codeIn K cdv qual=true
 kp:PySem.W.keepIn K (.ref f)=true
section
variable {P:Program}{w:World}{K:PySem.W.Frag}{mg:Str->Option Value}{base:Heap}
theorem Fun.ok {x qual:Str}{st:Stmt}{f:Addr}{fd:FuncData}{N ps:List Str}{k:Nat}{sp:Sp}(F:Fun K x qual st f fd)(S:zo N ps (zj st))(len:∀ vs H Q E,sp vs H Q E->vs.length=ps.length)
  (hbody:∀(cdv:Value) (A:Around) (outer:List Env) (s:Shared) (H:Hp) (vs:List V) (Q:VK) (E:XK),Room k (A.deeper (envOfC qual (zj st) s.heap.objs.size f cdv))->sp vs H Q E->
   ∃ t,PSs (zhv CX0 P w K mg base N qual (zj st) f cdv A outer s H E).nox (xj st) t/\t {nx:=λ_ H'=>Q .non H',rt:=Q} (start N vs) H):wx P w K mg base CX0 (k+1) f fd ps sp:=by
 obtain⟨oc,od,kV,doc,pm,an,cdv,ct,osl,rfl,lk,hcd⟩:=F.ex;refine zun lk hcd S len λA outer s H vs Q E hr hsp=>?_;obtain⟨t,h,q⟩:=hbody cdv A outer s H vs Q E hr hsp;exact⟨t,h.nox,q⟩
theorem Fun.binds {x qual:Str}{st:Stmt}{f:Addr}{fd:FuncData}{ps:List Str}(F:Fun K x qual st f fd)
  (h:∀(kV doc pm:Value) (an:Option Addr) (cdv ct:Value) (us:List Value),us.length=ps.length->bindArgs (PySem.W.fnOf x qual (ke st) (xj st) (zj st) .none kV doc pm an cdv ct) ⟨us,[]⟩=pure (ps.zip us)):vi K fd ps []:=by
 obtain⟨oc,od,kV,doc,pm,an,cdv,ct,osl,rfl,lk,hcd⟩:=F.ex;exact .all (h kV doc pm an cdv ct)
theorem zhy {x qual:Str}{st:Stmt}{f:Addr}{oc:Value}{od an:Option Addr}{osl:Array (Option Value)}{kV doc pm cdv ct:Value}(l:K.lookup f=some ⟨oc,od,.func (PySem.W.fnOf x qual (ke st) (xj st) (zj st) .none kV doc pm an cdv ct),osl⟩)
  (c:PySem.W.codeIn K cdv qual=true)(k:PySem.W.keepIn K (.ref f)=true):Fun K x qual st f (PySem.W.fnOf x qual (ke st) (xj st) (zj st) .none kV doc pm an cdv ct):=⟨⟨oc,od,kV,doc,pm,an,cdv,ct,osl,rfl,l,c⟩,k⟩
end
theorem xf {A:Around}{k:Nat}(hr:Room k A):A.units+1 < cLine:=z5v (Nat.add_le_add_left (by decide:1<=64) _) hr.units
theorem zp {n:Nat}(h:n<=1000):n < sizeLine:=z5v h (by decide)
section
variable {X:Cx}
theorem pv (i:Nat){x:Str}{pos:Pos}(hN:X.N[i]? =some x:=by rfl)(hv:Vis X.env.scope x:=by first|exact Or.inl rfl|exact Or.inr (Or.inl rfl)|exact Or.inr (Or.inr rfl))(hd:(x==("__debug__":Str))=false:=by decide)
  (hcd:(x==("__classdict__":Str))=false:=by decide):PE X (.Name x pos) (Ky i):=zv8 hN hv hd hcd
theorem zlg:Zz X (.builtin "len") (λxs H Q=>∃ a kvs,xs=[V.ref a]/\H a=some (.dK kvs)/\Q (.int kvs.length) H):=by
 intro pins s σ H xs us Q I r h;obtain⟨a,kvs,rfl,ha,q⟩:=h;obtain⟨u,rfl,ru⟩:=zqp r;cases ru;exact zx0 I (.inl ha) λt s' I'=>⟨.int kvs.length,H,I',⟨t,rfl⟩,q⟩
end
theorem jr {c A B:Prop}[Decidable c](h1:c->A)(h2:¬c->B):if c then A else B:=by
 by_cases h:c
 ·rw[z3m h];exact h1 h
 ·rw[z3k h];exact h2 h
def zh (H H':Hp):Prop:=∀ b o,H b=some o->H' b=some o
theorem zh.refl (H:Hp):zh H H:=λ_ _ h=>h
theorem zh.trans {H H1 H2:Hp}(a:zh H H1)(b:zh H1 H2):zh H H2:=λc o h=>b c o (a c o h)
theorem zh.free {H H':Hp}(e:zh H H'){l:Addr}(h:H' l=Option.none):H l=Option.none:=by
 cases q:H l with
 |none=>rfl
 |some o=>
  rw[e l o q]at h;cases h
theorem zh.seq {K:PySem.W.Frag}{H H':Hp}{a:Addr}{xs:List V}(e:zh H H')(h:zx K H a xs):zx K H' a xs:=by
 rcases h with (h|⟨o,h⟩)|h
 ·exact .inl (.inl (e _ _ h))
 ·exact .inl (.inr ⟨o,e _ _ h⟩)
 ·exact .inr h
section
variable {κ:Type}[DecidableEq κ]
theorem zs2 {kvs:List (κ×V)}{k:κ}{v:V}(h:ye kvs k=some v):k∈kvs.map (·.1):=by
 have q:(kvs.any λkv=>decide (kv.1=k))=true:=by
  rw[Yv,h]
  all_goals rfl
 obtain⟨p,hp,e⟩:=z7a.mp q;exact z4h.mpr ⟨p,hp,z30 e⟩
end
theorem zf0 {α:Type}{l:List α}(hN:l.Nodup){i j:Nat}{x:α}(a:l[i]? =some x)(b:l[j]? =some x):i=j:=by
 obtain⟨h1,e1⟩:=z3b.mp a;obtain⟨h2,e2⟩:=z3b.mp b;exact (List.getElem_inj hN).mp (e1.trans e2.symm)
theorem zgp:∀{l:List Int}{i:Nat}{z:Int},l[i]? =some z->(l.take (i+1)).sum=(l.take i).sum+z
 |[],i,z,h=>by simp at h
 |a::r,0,z,h=>by
  have e:a=z:=z3p h;subst e;show ([a]:List Int).sum=([]:List Int).sum+a;rw[z6b];exact Int.add_comm _ _
 |a::r,i+1,z,h=>by
  have ih:=zgp (l:=r) (i:=i) (z:=z) h;show (a::r.take (i+1)).sum=(a::r.take i).sum+z;rw[z6b,z6b,ih];omega
theorem zh.made {H H1:Hp}{x dx C:Addr}(nx:H x=Option.none)(nd:H dx=Option.none)(k:∀ b o,(upd (upd H dx (.own x)) x (.ins C dx [])) b=some o->b≠x->H1 b=some o):zh H H1:=λb o e=>
 k b o (by rw[ze (zf e nx),ze (zf e nd)];exact e) (zf e nx)
end L2
set_option maxHeartbeats 2000000
section
namespace L2
open PySem PySem.Spec PyProof.Rows
open PySem.W (WData Codec OpenSpec Well WellAll ReadsW ReadsAllW)
mutual
inductive Dw (K:PySem.W.Frag)(H:Hp):V->WData->Prop
 |non:Dw K H .non .none
 |bl (b:Bool):Dw K H (.bl b) (.bool b)
 |int (i:Int):Dw K H (.int i) (.int i)
 |str (x:Str):Dw K H (.str x) (.str x)
 |byt (b:Array UInt8):Dw K H (.byt b) (.bytes b.toList)
 |lst {a:Addr}{xs:List V}{ds:List WData}:zx K H a xs->kj K H xs ds->Dw K H (.ref a) (.list ds)
 |tup {a:Addr}{xs:List V}{ds:List WData}:yw K H a xs->kj K H xs ds->Dw K H (.ref a) (.tuple ds)
inductive kj (K:PySem.W.Frag)(H:Hp):List V->List WData->Prop
 |nil:kj K H [] []
 |cons {v:V}{vs:List V}{d:WData}{ds:List WData}:Dw K H v d->kj K H vs ds->kj K H (v::vs) (d::ds)
end
theorem zj1 {K:PySem.W.Frag}{H:Hp}:∀ ns:List Int,kj K H (ns.map V.int) (ns.map WData.int)
 |[]=>.nil
 |n::r=>.cons (.int n) (zj1 r)
theorem zj5 {K:PySem.W.Frag}{H:Hp}:∀(ns:List Int) (xs:List V),kj K H xs (ns.map WData.int)->xs=ns.map V.int
 |[],xs,h=>by
  cases h;rfl
 |n::r,xs,h=>by
  cases h with
  |cons h1 h2=>
   cases h1;rw[zj5 r _ h2]<;>rfl
section
variable {P:Program}{w:World}{K:PySem.W.Frag}{H:Hp}{h:Heap}{R:PySem.W.WRecords}{cl:Str->Option Addr}
theorem zw0 {a:Addr}{xs:List V}(hok:Yx P w H h)(KX:K.In h)(q:zx K H a xs):∃(its:List Value) (o:Obj) (n:Nat),jf xs its/\h.get? a=some o/\o.cls=.type "list"/\o.data=.seq its.toArray n:=by
 rcases q with q|⟨o,its,n,e,hc,_,hd,_,hv⟩
 ·obtain⟨_,its,n,hv,e⟩:=(show j6 P w H h a (.lst xs) from q.ok hok);exact⟨its,_,n,hv,e,rfl,rfl⟩
 ·exact⟨its.toList,o,n,hv,KX _ _ e,hc,by simp[hd]⟩
theorem zw1 {a:Addr}{xs:List V}(hok:Yx P w H h)(KX:K.In h)(q:yw K H a xs):∃(its:List Value) (o:Obj) (n:Nat),jf xs its/\h.get? a=some o/\o.cls=.type "tuple"/\o.data=.seq its.toArray n:=by
 rcases q with q|⟨o,its,n,e,hc,hd,_,hv⟩
 ·obtain⟨_,its,hv,o,e,hc,n,hd⟩:=(show j6 P w H h a (.tup xs) from q.ok hok);exact⟨its,o,n,hv,e,hc,hd⟩
 ·exact⟨its.toList,o,n,hv,KX _ _ e,hc,by simp[hd]⟩
mutual
theorem Dw.reads (hok:Yx P w H h)(KX:K.In h):∀(d:WData) (v:V) (u:Value),Dw K H v d->jp v u->∃ as,ReadsW R cl h u d as
 | .none,_,_,x,r=>by
  cases x;cases r;exact⟨_,ReadsW.none⟩
 | .bool b,_,_,x,r=>by
  cases x;cases r;exact⟨_,ReadsW.bool b⟩
 | .int i,_,_,x,r=>by
  cases x;obtain⟨t,rfl⟩:=r;exact⟨_,ReadsW.int i t⟩
 | .str s,_,_,x,r=>by
  cases x;obtain⟨t,rfl⟩:=r;exact⟨_,ReadsW.str s t⟩
 | .bytes b,_,_,x,r=>by
  cases x;obtain⟨t,rfl⟩:=r;exact⟨_,ReadsW.bytes _ t⟩
 | .list ds,_,_,x,r=>by
  cases x with
  |lst hs ha=>
   cases r;obtain⟨its,o,n,rv,ho,hc,hd⟩:=zw0 hok KX hs;obtain⟨as,hr⟩:=Dw.readsAll hok KX ds _ its ha rv;exact⟨_,ReadsW.list ho hc hd hr⟩
 | .tuple ds,_,_,x,r=>by
  cases x with
  |tup hs ha=>
   cases r;obtain⟨its,o,n,rv,ho,hc,hd⟩:=zw1 hok KX hs;obtain⟨as,hr⟩:=Dw.readsAll hok KX ds _ its ha rv;exact⟨_,ReadsW.tuple ho hc hd hr⟩
 | .float _,_,_,x,_=>by cases x
 | .dict _,_,_,x,_=>by cases x
 | .bytearray _,_,_,x,_=>by cases x
 | .set _,_,_,x,_=>by cases x
 | .frozenset _,_,_,x,_=>by cases x
 | .obj _ _,_,_,x,_=>by cases x
theorem Dw.readsAll (hok:Yx P w H h)(KX:K.In h):∀(ds:List WData) (vs:List V) (us:List Value),kj K H vs ds->jf vs us->∃ as,ReadsAllW R cl h us ds as
 |[],_,_,x,r=>by
  cases x;cases r;exact⟨_,ReadsAllW.nil⟩
 |d::ds,_,_,x,r=>by
  cases x with
  |cons h1 h2=>
   cases r with
   |cons r1 r2=>
    obtain⟨as,q1⟩:=Dw.reads hok KX d _ _ h1 r1;obtain⟨bs,q2⟩:=Dw.readsAll hok KX ds _ _ h2 r2;exact⟨_,ReadsAllW.cons q1 q2⟩
end
end
mutual
def plW:WData->Bool
 | .none=>true
 | .bool _=>true
 | .int _=>true
 | .str _=>true
 | .bytes _=>true
 | .list xs=>Wz xs
 | .tuple xs=>Wz xs
 |_=>false
def Wz:List WData->Bool
 |[]=>true
 |x::r=>plW x&&Wz r
end
theorem zf8 {α:Type}{f:α->WData}(h:∀ a,plW (f a)=true):∀ l:List α,Wz (l.map f)=true
 |[]=>rfl
 |x::r=>by
  show (plW (f x)&&Wz (r.map f))=true;rw[h x,zf8 h r]<;>rfl
theorem Yf:∀(c:Codec) (a:c.denote),plW (c.enc a)=true
 | .unit,_=>rfl
 | .bool,_=>rfl
 | .int _ _,_=>rfl
 | .nat _ _,_=>rfl
 | .u8,_=>rfl
 | .bytes _ _,_=>rfl
 | .text _ _ _ _,_=>rfl
 | .list _ _ c,a=>zf8 (λx=>Yf c x) a
 | .pair c d,a=>by
  show (plW (c.enc a.1)&&(plW (d.enc a.2)&&true))=true;rw[Yf c a.1,Yf d a.2]<;>rfl
 | .triple c d e,a=>by
  show (plW (c.enc a.1)&&(plW (d.enc a.2.1)&&(plW (e.enc a.2.2)&&true)))=true;rw[Yf c a.1,Yf d a.2.1,Yf e a.2.2]<;>rfl
 | .option c,none=>rfl
 | .option c,some x=>Yf c x
theorem zb8:∀(cs:List Codec) (a:Codec.denoteAll cs),Wz (Codec.encAll cs a)=true
 |[],_=>rfl
 |c::cs,a=>by
  show (plW (c.enc a.1)&&Wz (Codec.encAll cs a.2))=true;rw[Yf c a.1,zb8 cs a.2]<;>rfl
theorem Xm:∀{xs:List WData}{d:WData},d∈xs->d.weight<=WData.weightAll xs
 |[],d,h=>absurd h (by simp)
 |x::r,d,h=>by
  show d.weight<=x.weight+1+WData.weightAll r;rcases z3t.mp h with e|m
  ·rw[e];omega
  ·have z:=Xm m;omega
def toV:Value->V
 | .none=>.non
 | .bool b=>.bl b
 | .int i _=>.int i
 | .str x _=>.str x
 | .bytes b _=>.byt b
 | .ref a=>.ref a
 |_=>.non
def OkU (A:List Addr):Value->Prop
 | .none=>True
 | .bool _=>True
 | .int _ _=>True
 | .str _ _=>True
 | .bytes _ _=>True
 | .ref a=>a∈A
 |_=>False
theorem OkU.mono {A B:List Addr}(h:∀ a∈A,a∈B):∀{u:Value},OkU A u->OkU B u:=λ{u} x=>by
 cases u with
 |ref a=>exact h a x
 |none=>trivial
 |bool b=>trivial
 |int i t=>trivial
 |str s t=>trivial
 |bytes b t=>trivial
 |_=>exact False.elim x
theorem zpf {A:List Addr}{u:Value}(x:OkU A u):jp (toV u) u:=by
 cases u with
 |ref a=>rfl
 |none=>rfl
 |bool b=>rfl
 |int i t=>exact⟨t,rfl⟩
 |str s t=>exact⟨t,rfl⟩
 |bytes b t=>exact⟨t,rfl⟩
 |_=>exact False.elim x
theorem Ja {A:List Addr}:∀{vs:List Value},(∀ u∈vs,OkU A u)->jf (vs.map toV) vs
 |[],_=>.nil
 |u::r,h=>.cons (zpf (h u (z3e ..))) (Ja λx hx=>h x (z3d _ hx))
def Jw (h:Heap)(A:List Addr)(a:Addr):Prop:=∃ vs:List Value,vs.length<=sizeLine/\(∀ u∈vs,OkU A u)/\
 (h.get? a=some {cls:=.type "list",data:=.seq vs.toArray}\/h.get? a=some {cls:=.type "tuple",data:=.seq vs.toArray})
theorem Jw.mono {h:Heap}{A B:List Addr}{a:Addr}(k:∀ a∈A,a∈B)(x:Jw h A a):Jw h B a:=by
 obtain⟨vs,h1,h2,h3⟩:=x;exact⟨vs,h1,λu hu=>(h2 u hu).mono k,h3⟩
theorem Zq {P:Params}{h:Heap}:∀{vs:List Value}{ds:List WData},WellAll P h vs ds->vs.length=ds.length
 |_,_,.nil=>rfl
 |_,_,.cons _ b=>by
  show _+1=_+1;rw[Zq b]
theorem zcp {P:Params}{h:Heap}{v:Value}{ds:List WData}(x:Well P h v (.list ds)):∃(a:Addr) (vs:List Value),v=.ref a/\h.get? a=some {cls:=.type "list",data:=.seq vs.toArray}/\WellAll P h vs ds:=by
 cases x with
 |list ho hall=>exact⟨_,_,rfl,ho,hall⟩
theorem zal {P:Params}{h:Heap}{v:Value}{ds:List WData}(x:Well P h v (.tuple ds)):∃(a:Addr) (vs:List Value),v=.ref a/\h.get? a=some {cls:=.type "tuple",data:=.seq vs.toArray}/\WellAll P h vs ds:=by
 cases x with
 |tuple ho hall=>exact⟨_,_,rfl,ho,hall⟩
theorem zco {P:Params}{h:Heap}{us:List Value}{d:WData}{ds:List WData}(x:WellAll P h us (d::ds)):∃(v:Value) (vs:List Value),us=v::vs/\Well P h v d/\WellAll P h vs ds:=by
 cases x with
 |cons a b=>exact⟨_,_,rfl,a,b⟩
theorem zj8 {n:Nat}(h:n<=1048576):n<=sizeLine:=z32 h (by decide)
section
variable {P:Params}{h:Heap}
mutual
theorem zng:∀(d:WData) (v:Value),Well P h v d->plW d=true->d.weight<=1048576->∃ A:List Addr,OkU A v/\∀ a∈A,Jw h A a
 | .none,_,x,_,_=>by
  cases x;exact⟨[],trivial,λa m=>absurd m (by simp)⟩
 | .bool b,_,x,_,_=>by
  cases x;exact⟨[],trivial,λa m=>absurd m (by simp)⟩
 | .int i,_,x,_,_=>by
  cases x;exact⟨[],trivial,λa m=>absurd m (by simp)⟩
 | .str s,_,x,_,_=>by
  cases x;exact⟨[],trivial,λa m=>absurd m (by simp)⟩
 | .bytes b,_,x,_,_=>by
  cases x;exact⟨[],trivial,λa m=>absurd m (by simp)⟩
 | .list ds,_,x,p,z=>by
  obtain⟨a,vs,rfl,ho,hall⟩:=zcp x;have z2:WData.weightAll ds<=1048576:=z;obtain⟨A,h1,h2⟩:=Xr ds _ hall p λd hd=>z32 (Xm hd) z2;have k:∀ b∈A,b∈a::A:=λb hb=>z3d _ hb;refine⟨a::A,z3e ..,λb hb=>?_⟩;rcases z3t.mp hb with e|m
  ·rw[e];exact⟨vs,zj8 (by rw[Zq hall];exact z32 (z9z ds) z2),λu hu=>(h1 u hu).mono k,.inl ho⟩
  ·exact (h2 b m).mono k
 | .tuple ds,_,x,p,z=>by
  obtain⟨a,vs,rfl,ho,hall⟩:=zal x;have z2:WData.weightAll ds<=1048576:=z;obtain⟨A,h1,h2⟩:=Xr ds _ hall p λd hd=>z32 (Xm hd) z2;have k:∀ b∈A,b∈a::A:=λb hb=>z3d _ hb;refine⟨a::A,z3e ..,λb hb=>?_⟩;rcases z3t.mp hb with e|m
  ·rw[e];exact⟨vs,zj8 (by rw[Zq hall];exact z32 (z9z ds) z2),λu hu=>(h1 u hu).mono k,.inr ho⟩
  ·exact (h2 b m).mono k
 | .float _,_,_,p,_=>Bool.noConfusion (show false=true from p)
 | .dict _,_,_,p,_=>Bool.noConfusion (show false=true from p)
 | .bytearray _,_,_,p,_=>Bool.noConfusion (show false=true from p)
 | .set _,_,_,p,_=>Bool.noConfusion (show false=true from p)
 | .frozenset _,_,_,p,_=>Bool.noConfusion (show false=true from p)
 | .obj _ _,_,_,p,_=>Bool.noConfusion (show false=true from p)
theorem Xr:∀(ds:List WData) (vs:List Value),WellAll P h vs ds->Wz ds=true->(∀ d∈ds,d.weight<=1048576)->∃ A:List Addr,(∀ u∈vs,OkU A u)/\∀ a∈A,Jw h A a
 |[],_,x,_,_=>by
  cases x;exact⟨[],λu m=>absurd m (by simp),λa m=>absurd m (by simp)⟩
 |d::ds,_,x,p,z=>by
  obtain⟨v,vs,rfl,x1,x2⟩:=zco x;have q:plW d=true/\Wz ds=true:=Bool.and_eq_true_iff.mp p;obtain⟨A,a1,a2⟩:=zng d v x1 q.1 (z d (z3e ..));obtain⟨B,b1,b2⟩:=Xr ds vs x2 q.2 λe he=>z e (z3d _ he);have kA:∀ b∈A,b∈A++B:=λb hb=>z33.mpr (.inl hb);have kB:∀ b∈B,b∈A++B:=λb hb=>z33.mpr (.inr hb);refine⟨A++B,λu hu=>?_,λb hb=>?_⟩
  ·rcases z3t.mp hu with e|m
   ·rw[e];exact a1.mono kA
   ·exact (b1 u m).mono kB
  ·rcases z33.mp hb with m|m
   ·exact (a2 b m).mono kA
   ·exact (b2 b m).mono kB
end
end
def zrd (o:Obj):Option HO:=match o.data with
 | .seq vs _=>if (o.cls==Value.type "list")=true then some (.frz o (.lst (vs.toList.map toV))) else some (.frz o (.tup (vs.toList.map toV)))
 |_=>none
def vw (K:PySem.W.Frag)(h:Heap)(A:List Addr):Hp:=λb=>if b∈A then (if (K.lookup b).isNone=true then (h.get? b).bind zrd else none) else none
def zug (H:Hp):Prop:=∀ b,H b=none\/∃ o u,H b=some (.frz o u)
theorem zfw (vs:List Value):zrd {cls:=.type "list",data:=.seq vs.toArray}=some (.frz {cls:=.type "list",data:=.seq vs.toArray} (.lst (vs.map toV))):=by
 show (if (Value.type "list"==Value.type "list")=true then some (HO.frz {cls:=.type "list",data:=.seq vs.toArray} (.lst (vs.toArray.toList.map toV))) else some (HO.frz {cls:=.type "list",data:=.seq vs.toArray} (.tup (vs.toArray.toList.map toV))))=_;rw[z3m (beq_self_eq_true _)]
theorem zfx (vs:List Value):zrd {cls:=.type "tuple",data:=.seq vs.toArray}=some (.frz {cls:=.type "tuple",data:=.seq vs.toArray} (.tup (vs.map toV))):=by
 show (if (Value.type "tuple"==Value.type "list")=true then some (HO.frz {cls:=.type "tuple",data:=.seq vs.toArray} (.lst (vs.toArray.toList.map toV))) else some (HO.frz {cls:=.type "tuple",data:=.seq vs.toArray} (.tup (vs.toArray.toList.map toV))))=_;rw[z3k (by decide)]
section
variable {P:Program}{w:World}{K:PySem.W.Frag}{h:Heap}{A:List Addr}
theorem W0 {b:Addr}{o:Obj}(hb:b∈A)(hk:K.lookup b=none)(e:h.get? b=some o):vw K h A b=zrd o:=by
 unfold vw;rw[z3m hb,hk,z3m (show (none:Option Obj).isNone=true from rfl),e]<;>rfl
theorem zrm {b:Addr}{u:HO}(q:vw K h A b=some u):b∈A/\K.lookup b=none:=by
 unfold vw at q;by_cases hb:b∈A
 ·rw[z3m hb]at q;cases hk:K.lookup b with
  |none=>exact⟨hb,rfl⟩
  |some o=>
   rw[hk,z3k (by simp)]at q;cases q
 ·rw[z3k hb]at q;cases q
theorem W1 (ar:∀ a∈A,Jw h A a){b:Addr}{u:HO}(q:vw K h A b=some u):K.lookup b=none/\∃ vs:List Value,vs.length<=sizeLine/\(∀ u∈vs,OkU A u)/\
  ((h.get? b=some {cls:=.type "list",data:=.seq vs.toArray}/\u=.frz {cls:=.type "list",data:=.seq vs.toArray} (.lst (vs.map toV)))\/
   (h.get? b=some {cls:=.type "tuple",data:=.seq vs.toArray}/\u=.frz {cls:=.type "tuple",data:=.seq vs.toArray} (.tup (vs.map toV)))):=by
 obtain⟨hb,hk⟩:=zrm q;obtain⟨vs,h1,h2,h3⟩:=ar b hb;refine⟨hk,vs,h1,h2,?_⟩;rcases h3 with e|e
 ·rw[W0 hb hk e,zfw]at q;exact .inl ⟨e,(z3p q).symm⟩
 ·rw[W0 hb hk e,zfx]at q;exact .inr ⟨e,(z3p q).symm⟩
theorem zk4 (ar:∀ a∈A,Jw h A a):zug (vw K h A):=λb=>by
 cases q:vw K h A b with
 |none=>exact .inl rfl
 |some u=>
  obtain⟨_,vs,_,_,⟨_,e⟩|⟨_,e⟩⟩:=W1 ar q
  ·exact .inr ⟨_,_,by rw[e]⟩
  ·exact .inr ⟨_,_,by rw[e]⟩
theorem Uf {c c':Value}{vs us:List Value}(e:(some {cls:=c,data:=.seq vs.toArray}:Option Obj)=some {cls:=c',data:=.seq us.toArray}):c=c'/\vs=us:=by
 have e1:=z3p e;have e2:c=c':=z6a Obj.cls e1;have e3:Data.seq vs.toArray=Data.seq us.toArray:=z6a Obj.data e1;injection e3 with e4
 refine⟨e2,?_⟩;have e5:=z6a Array.toList e4;simpa using e5
theorem zzr (KX:K.In h)(ar:∀ a∈A,Jw h A a){a:Addr}{vs:List Value}(ha:a∈A)(e:h.get? a=some {cls:=.type "list",data:=.seq vs.toArray}):(∀ u∈vs,OkU A u)/\zx K (vw K h A) a (vs.map toV):=by
 obtain⟨us,h1,h2,h3⟩:=ar a ha;have hu:us=vs:=by
  rcases h3 with q|q
  ·rw[e]at q;exact (Uf q).2.symm
  ·rw[e]at q;exact absurd (Value.type.inj (Uf q).1) (by decide)
 subst hu;refine⟨h2,?_⟩;cases hk:K.lookup a with
 |none=>exact .inl (.inr ⟨_,by rw[W0 ha hk e,zfw]⟩)
 |some o=>
  have e2:=KX a o hk;rw[e]at e2;obtain rfl:=z3p e2;exact .inr ⟨_,us.toArray,_,hk,rfl,rfl,rfl,by rw[z3x];exact h1,by simpa using Ja h2⟩
theorem zzs (KX:K.In h)(ar:∀ a∈A,Jw h A a){a:Addr}{vs:List Value}(ha:a∈A)(e:h.get? a=some {cls:=.type "tuple",data:=.seq vs.toArray}):(∀ u∈vs,OkU A u)/\yw K (vw K h A) a (vs.map toV):=by
 obtain⟨us,h1,h2,h3⟩:=ar a ha;have hu:us=vs:=by
  rcases h3 with q|q
  ·rw[e]at q;exact absurd (Value.type.inj (Uf q).1) (by decide)
  ·rw[e]at q;exact (Uf q).2.symm
 subst hu;refine⟨h2,?_⟩;cases hk:K.lookup a with
 |none=>exact .inl (.inr ⟨_,by rw[W0 ha hk e,zfx]⟩)
 |some o=>
  have e2:=KX a o hk;rw[e]at e2;obtain rfl:=z3p e2;exact .inr ⟨_,us.toArray,_,hk,rfl,rfl,by rw[z3x];exact h1,by simpa using Ja h2⟩
mutual
theorem zu9 {Pm:Params}(KX:K.In h)(ar:∀ a∈A,Jw h A a):∀(d:WData) (v:Value),Well Pm h v d->plW d=true->OkU A v->Dw K (vw K h A) (toV v) d
 | .none,_,x,_,_=>by
  cases x;exact .non
 | .bool b,_,x,_,_=>by
  cases x;exact .bl b
 | .int i,_,x,_,_=>by
  cases x;exact .int i
 | .str s,_,x,_,_=>by
  cases x;exact .str s
 | .bytes b,_,x,_,_=>by
  cases x;have z:=Dw.byt (K:=K) (H:=vw K h A) b.toArray;exact z
 | .list ds,_,x,p,hu=>by
  obtain⟨a,vs,rfl,ho,hall⟩:=zcp x;obtain⟨h2,hs⟩:=zzr KX ar hu ho;exact .lst hs (zdf KX ar ds _ hall p h2)
 | .tuple ds,_,x,p,hu=>by
  obtain⟨a,vs,rfl,ho,hall⟩:=zal x;obtain⟨h2,hs⟩:=zzs KX ar hu ho;exact .tup hs (zdf KX ar ds _ hall p h2)
 | .float _,_,_,p,_=>Bool.noConfusion (show false=true from p)
 | .dict _,_,_,p,_=>Bool.noConfusion (show false=true from p)
 | .bytearray _,_,_,p,_=>Bool.noConfusion (show false=true from p)
 | .set _,_,_,p,_=>Bool.noConfusion (show false=true from p)
 | .frozenset _,_,_,p,_=>Bool.noConfusion (show false=true from p)
 | .obj _ _,_,_,p,_=>Bool.noConfusion (show false=true from p)
theorem zdf {Pm:Params}(KX:K.In h)(ar:∀ a∈A,Jw h A a):∀(ds:List WData) (vs:List Value),WellAll Pm h vs ds->Wz ds=true->(∀ u∈vs,OkU A u)->kj K (vw K h A) (vs.map toV) ds
 |[],_,x,_,_=>by
  cases x;exact .nil
 |d::ds,_,x,p,hu=>by
  obtain⟨v,vs,rfl,x1,x2⟩:=zco x;have q:plW d=true/\Wz ds=true:=Bool.and_eq_true_iff.mp p;exact .cons (zu9 KX ar d v x1 q.1 (hu _ (z3e ..))) (zdf KX ar ds vs x2 q.2 λu m=>hu u (z3d _ m))
end
end
theorem U3 {ds:List WData}(h:WData.layableAll ds=true):∀ d∈ds,d.weight<=1048576:=λd hd=>
 (PySem.W.layableW_iff.mp (z47.mp h d hd)).2.2
theorem Uy:∀(cs:List Codec) (a:Codec.denoteAll cs),(Codec.encAll cs a).length=cs.length
 |[],_=>rfl
 |c::cs,a=>by
  show (Codec.encAll cs a.2).length+1=cs.length+1;rw[Uy cs a.2]
end L2
end
namespace Ore
open Vbmiab
theorem Z7 (p f x:Nat):runsFrom p (f+1) x=match runsFrom p f (x+1) with
  |r::l=>if r.1=isOre p x then (r.1,x,r.2.2)::l else (isOre p x,x,x)::r::l
  |[]=>[(isOre p x,x,x)]:=rfl
theorem wo (p:Nat):∀(f x:Nat),∃ r l,runsFrom p (f+1) x=r::l/\r.1=isOre p x/\r.2.1=x
 |0,x=>⟨_,_,rfl,rfl,rfl⟩
 |f+1,x=>by
  obtain⟨r,l,e,h1,h2⟩:=wo p f (x+1);unfold runsFrom;rw[e];dsimp only;by_cases h:r.1=isOre p x
  ·rw[z3m h];exact⟨_,_,rfl,h,rfl⟩
  ·rw[z3k h];exact⟨_,_,rfl,rfl,rfl⟩
theorem zce (p:Nat):∀(d f first:Nat),d < f->(∀ j,j<=d->p.testBit (first+j)=p.testBit (first+d))->(d+1=f\/p.testBit (first+d+1)≠p.testBit (first+d))->
  runsFrom p f first=(p.testBit (first+d),first,first+d)::runsFrom p (f - (d+1)) (first+d+1)
 |_,0,_,h,_,_=>absurd h (z8u _)
 |0,f+1,first,_,_,hb=>by
  unfold runsFrom;cases f with
  |zero=>rfl
  |succ f=>
   obtain⟨r,l,e,h1,h2⟩:=wo p f (first+1);rw[e];dsimp only;have hne:¬r.1=isOre p first:=by
    rw[h1];rcases hb with hb|hb
    ·omega
    ·exact hb
   rw[z3k hne];have e2:f+1+1 - (0+1)=f+1:=by omega
   rw[e2];show _=(p.testBit first,first,first)::runsFrom p (f+1) (first+1);rw[e];rfl
 |d+1,f+1,first,hd,hall,hb=>by
  have ea:∀ j,first+1+j=first+(j+1):=λj=>by omega
  have ih:=zce p d f (first+1) (by omega) (λj hj=>by
   rw[ea,ea];exact hall (j+1) (by omega)) (by
   rw[ea];rcases hb with hb|hb
   ·exact .inl (by omega)
   ·exact .inr hb)
  rw[ea]at ih;rw[Z7 p f first,ih];dsimp only;have h0:p.testBit (first+(d+1))=isOre p first:=(hall 0 (z4c _)).symm
  rw[z3m h0];have e2:f+1 - (d+1+1)=f - (d+1):=by omega
  rw[e2]
theorem zed (p:Nat):∀(n x:Nat) (r:Bool×Nat×Nat),r∈runsFrom p n x->x<=r.2.1/\r.2.1<=r.2.2
 |0,x,r,h=>by cases h
 |n+1,x,r,h=>by
  have ih:=zed p n (x+1);rw[Z7]at h;cases e:runsFrom p n (x+1) with
  |nil=>
   rw[e]at h;have h:=z37.mp h;subst h;exact⟨z3c _,z3c _⟩
  |cons r0 l=>
   rw[e]at h ih;dsimp only at h;have h0:=ih r0 z3e;have hl:∀ s,s∈l->x<=s.2.1/\s.2.1<=s.2.2:=λs hs=>by
    have:=ih s (z3d _ hs);omega
   by_cases hc:r0.1=isOre p x
   ·rw[z3m hc]at h;rcases z3t.mp h with h|h
    ·subst h;dsimp only;omega
    ·exact hl r h
   ·rw[z3k hc]at h;rcases z3t.mp h with h|h
    ·subst h;exact⟨z3c _,z3c _⟩
    ·rcases z3t.mp h with h|h
     ·subst h;omega
     ·exact hl r h
theorem Yk (p:Nat):∀(n x:Nat),(runsFrom p n x).Pairwise λa b=>a.2.2 < b.2.1
 |0,x=>List.Pairwise.nil
 |n+1,x=>by
  have ih:=Yk p n (x+1);have lo:=zed p n (x+1);rw[Z7];cases e:runsFrom p n (x+1) with
  |nil=>exact List.pairwise_singleton _ _
  |cons r0 l=>
   rw[e]at ih lo;dsimp only;by_cases hc:r0.1=isOre p x
   ·rw[z3m hc];obtain⟨h1,h2⟩:=z7h.mp ih;exact z7h.mpr ⟨h1,h2⟩
   ·rw[z3k hc];refine z7h.mpr ⟨λs hs=>?_,ih⟩;have:=lo s hs;dsimp only;omega
def zbh (p n x:Nat)(r:Bool×Nat×Nat):Prop:=
 x<=r.2.1/\r.2.1<=r.2.2/\r.2.2 < x+n/\(∀ j,r.2.1<=j->j<=r.2.2->p.testBit j=r.1)/\(r.2.1=x\/∃ j,j+1=r.2.1/\p.testBit j≠r.1)/\(r.2.2+1=x+n\/p.testBit (r.2.2+1)≠r.1)
theorem yu (p:Nat):∀(n x:Nat) (r:Bool×Nat×Nat),r∈runsFrom p n x->zbh p n x r
 |0,x,r,h=>by cases h
 |n+1,x,r,h=>by
  have ih:=yu p n (x+1);rw[Z7]at h;cases e:runsFrom p n (x+1) with
  |nil=>
   have hn:n=0:=by
    cases n with
    |zero=>rfl
    |succ n=>
     obtain⟨r,l,e',_⟩:=wo p n (x+1);rw[e']at e;cases e
   rw[e]at h;have h:=z37.mp h;subst h;refine⟨z3c _,z3c _,by dsimp only;omega,λj h1 h2=>?_,.inl rfl,.inl (by dsimp only;omega)⟩;have:j=x:=by dsimp only at h1 h2;omega
   subst this;rfl
  |cons r0 l=>
   rw[e]at h;dsimp only at h;have hr0:zbh p n (x+1) r0:=ih r0 (by rw[e];exact z3e);have hf0:r0.2.1=x+1/\r0.1=isOre p (x+1):=by
    cases n with
    |zero=>
     have e':([]:List (Bool×Nat×Nat))=r0::l:=e;cases e'
    |succ n=>
     obtain⟨r',l',e',h1,h2⟩:=wo p n (x+1);rw[e']at e;cases e;exact⟨h2,h1⟩
   have srt:=Yk p n (x+1);rw[e]at srt;have far:∀ s,s∈l->s.2.1≠x+1:=λs hs=>by
    have h1:=(z7h.mp srt).1 s hs;have h2:=hr0.2.1;omega
   have tail:∀ s,s∈runsFrom p n (x+1)->s.2.1≠x+1->zbh p (n+1) x s:=by
    intro s hs hne;obtain⟨a1,a2,a3,a4,a5,a6⟩:=ih s hs;refine⟨by omega,a2,by omega,a4,?_,?_⟩
    ·rcases a5 with a5|a5
     ·exact absurd a5 hne
     ·exact .inr a5
    ·rcases a6 with a6|a6
     ·exact .inl (by omega)
     ·exact .inr a6
   by_cases hc:r0.1=isOre p x
   ·rw[z3m hc]at h;obtain⟨a1,a2,a3,a4,a5,a6⟩:=hr0;rcases z3t.mp h with h|h
    ·subst h;refine⟨z3c _,by dsimp only;omega,by dsimp only;omega,λj h1 h2=>?_,.inl rfl,?_⟩
     ·by_cases hj:j=x
      ·subst hj;exact hc.symm
      ·exact a4 j (by dsimp only at h1;omega) h2
     ·rcases a6 with a6|a6
      ·exact .inl (by dsimp only;omega)
      ·exact .inr a6
    ·refine tail r (by rw[e];exact z3d _ h) (far r h)
   ·rw[z3k hc]at h;rcases z3t.mp h with h|h
    ·subst h;refine⟨z3c _,z3c _,by dsimp only;omega,λj h1 h2=>?_,.inl rfl,.inr ?_⟩
     ·have:j=x:=by dsimp only at h1 h2;omega
      subst this;rfl
     ·intro q;exact hc (hf0.2.trans q)
    ·rcases z3t.mp h with h|h
     ·subst h;obtain⟨a1,a2,a3,a4,a5,a6⟩:=hr0;refine⟨by omega,a2,by omega,a4,.inr ⟨x,hf0.1.symm,λq=>hc q.symm⟩,?_⟩;rcases a6 with a6|a6
      ·exact .inl (by omega)
      ·exact .inr a6
     ·refine tail r (by rw[e];exact z3d _ h) (far r h)
theorem Zd (p:Nat):∀(n x y:Nat),x<=y->y < x+n->∃ r,r∈runsFrom p n x/\r.2.1<=y/\y<=r.2.2
 |0,x,y,h1,h2=>by omega
 |n+1,x,y,h1,h2=>by
  rw[Z7];cases e:runsFrom p n (x+1) with
  |nil=>
   have hn:n=0:=by
    cases n with
    |zero=>rfl
    |succ n=>
     obtain⟨r,l,e',_⟩:=wo p n (x+1);rw[e']at e;cases e
   exact⟨_,z3e,by dsimp only;omega,by dsimp only;omega⟩
  |cons r0 l=>
   have lo:=zed p n (x+1);rw[e]at lo;have l0:=lo r0 z3e;dsimp only;have rest:y≠x->∃ r,r∈r0::l/\r.2.1<=y/\y<=r.2.2:=λhne=>by
    have:=Zd p n (x+1) y (by omega) (by omega);rw[e]at this;exact this
   by_cases hc:r0.1=isOre p x
   ·rw[z3m hc];by_cases hy:y=x
    ·exact⟨_,z3e,by dsimp only;omega,by dsimp only;omega⟩
    ·obtain⟨r,hr,a1,a2⟩:=rest hy;rcases z3t.mp hr with h|h
     ·subst h;exact⟨_,z3e,by dsimp only;omega,by dsimp only;omega⟩
     ·exact⟨r,z3d _ h,a1,a2⟩
   ·rw[z3k hc];by_cases hy:y=x
    ·exact⟨_,z3e,by dsimp only;omega,by dsimp only;omega⟩
    ·obtain⟨r,hr,a1,a2⟩:=rest hy;exact⟨r,z3d _ hr,a1,a2⟩
def wj (nx ore waste:Nat)(r:Bool×Nat×Nat):Bool:= !(decide (wide r < nx)&&decide (wide r < (if r.1=true then ore else waste)))
def wc (nx ore waste p:Nat):Bool:=(runsFrom p nx 0).all (wj nx ore waste)
theorem zge (b:Bench)(p:Nat)(h:1<=b.nx):rowOk b p=wc b.nx b.ore b.waste p:=by
 unfold rowOk wc runs;have snd:=yu p b.nx 0;have srt:=Yk p b.nx 0;obtain⟨n,hn⟩:∃ n,b.nx=n+1:=⟨b.nx - 1,by omega⟩;obtain⟨r0,l,e,_,hf⟩:=wo p n 0;rw[<-hn]at e;rw[e]at snd srt ⊢;cases l with
 |nil=>
  have h0:=snd r0 z3e;have h6:r0.2.2+1=b.nx:=by
   rcases h0.2.2.2.2.2 with h6|h6
   ·omega
   ·have:=Zd p b.nx 0 (r0.2.2+1);have h3:=h0.2.2.1;by_cases q:r0.2.2+1 < b.nx
    ·obtain⟨s,hs,a1,a2⟩:=this (by omega) (by omega);rw[e]at hs;have hs:=z37.mp hs;subst hs;omega
    ·omega
  have hw:wide r0=b.nx:=by unfold wide;omega
  simp[wj,hw]
 |cons s l=>
  have hlt:∀ r,r∈r0::s::l->wide r < b.nx:=by
   intro r hr;obtain⟨q1,q2⟩:=z7h.mp srt;have b0:=snd r0 z3e;rcases z3t.mp hr with hr|hr
   ·subst hr;have h1:=q1 s z3e;have h2:=(snd s (z3d _ z3e));have h3:=h2.2.1;have h4:=h2.2.2.1;unfold wide;omega
   ·have h1:=q1 r hr;have h2:=snd r (z3d _ hr);have h3:=h2.2.1;have h4:=h2.2.2.1;have h5:=b0.2.1;unfold wide;omega
  have e1:decide ((r0::s::l).length<=1)=false:=by simp
  dsimp only;rw[e1,Bool.false_or,z4l,z47,z47];constructor
  ·intro q r hr;have h1:=z30 (q r hr);have h2:=hlt r hr;unfold wj;rw[z3u h2,z4n,z4u (by omega)];rfl
  ·intro q r hr;have h1:=q r hr;have h2:=hlt r hr;unfold wj at h1;rw[z3u h2,z4n]at h1;refine z3u ?_;have h3:¬wide r < (if r.1=true then b.ore else b.waste):=by
    intro z;rw[z3u z]at h1;cases h1
   omega
theorem Zx {p n:Nat}{r:Bool×Nat×Nat}{j:Nat}(h:zbh p n 0 r)(h1:r.2.1<=j)(h2:j<=r.2.2):p.testBit j=r.1:=h.2.2.2.1 j h1 h2
theorem Xi {p n:Nat}{r:Bool×Nat×Nat}{j:Nat}(h:zbh p n 0 r)(e:j+1=r.2.1):p.testBit j≠r.1:=by
 rcases h.2.2.2.2.1 with q|⟨j',q,z⟩
 ·omega
 ·have:j'=j:=by omega
  subst this;exact z
theorem vf {p n:Nat}{r:Bool×Nat×Nat}(h:zbh p n 0 r)(e:r.2.2+1 < n):p.testBit (r.2.2+1)≠r.1:=by
 rcases h.2.2.2.2.2 with q|q
 ·omega
 ·exact q
theorem zmy {nx neck w:Nat}:wc nx neck 1 w=true↔∀ r,r∈runsFrom w nx 0->r.1=true->nx<=wide r\/neck<=wide r:=by
 unfold wc;rw[z47];constructor
 ·intro h r hr e;have q:=h r hr;unfold wj at q;rw[z3m e]at q;simp at q;omega
 ·intro h r hr;unfold wj;have sd:=yu w nx 0 r hr;have h1:=sd.2.1;cases e:r.1 with
  |true=>
   have q:=h r hr e;simp;omega
  |false=>
   have:1<=wide r:=by unfold wide;omega
   simp;omega
theorem zka {nx neck p q w:Nat}(k:Bool)(hw:∀ x,x < nx->(w.testBit x=true↔p.testBit x=k/\q.testBit x=k)):
  wc nx neck 1 w=true↔∀ r,r∈runsFrom p nx 0->∀ s,s∈runsFrom q nx 0->r.1=k->s.1=k->shared r s=0\/neck<=shared r s\/shared r s=nx:=by
 rw[zmy];constructor
 ·intro h r hr s hs er es;have hr:=yu p nx 0 r hr;have hs:=yu q nx 0 s hs;have r1:=hr.2.1;have r2:=hr.2.2.1;have s1:=hs.2.1;have s2:=hs.2.2.1;by_cases hz:shared r s=0
  ·exact .inl hz
  ·have hfl:max r.2.1 s.2.1<=min r.2.2 s.2.2:=by unfold shared at hz;omega
   obtain⟨t,ht,t1,t2⟩:=Zd w nx 0 (max r.2.1 s.2.1) (z4c _) (by omega);have st:=yu w nx 0 t ht;have bt:∀ j,max r.2.1 s.2.1<=j->j<=min r.2.2 s.2.2->w.testBit j=true:=λj a b=>(hw j (by omega)).mpr ⟨(Zx hr (by omega) (by omega)).trans er,(Zx hs (by omega) (by omega)).trans es⟩;have et:t.1=true:=(Zx st t1 t2).symm.trans (bt _ (z3c _) hfl);have t3:=st.2.2.1;have f1:t.2.1=max r.2.1 s.2.1:=by
    refine Nat.le_antisymm t1 (Nat.le_of_not_lt λlt=>?_);obtain⟨j,hj⟩:∃ j,j+1=max r.2.1 s.2.1:=⟨max r.2.1 s.2.1 - 1,by omega⟩;have bj:=(hw j (by omega)).mp ((Zx st (by omega) (by omega)).trans et);by_cases c:s.2.1<=r.2.1
    ·exact Xi hr (j:=j) (by omega) (bj.1.trans er.symm)
    ·exact Xi hs (j:=j) (by omega) (bj.2.trans es.symm)
   have l1:t.2.2=min r.2.2 s.2.2:=by
    rcases Nat.lt_trichotomy t.2.2 (min r.2.2 s.2.2) with lt|e|lt
    ·exact absurd ((bt (t.2.2+1) (by omega) (by omega)).trans et.symm) (vf st (by omega))
    ·exact e
    ·have bj:=(hw (min r.2.2 s.2.2+1) (by omega)).mp ((Zx st (by omega) (by omega)).trans et);by_cases c:r.2.2<=s.2.2
     ·have e:min r.2.2 s.2.2=r.2.2:=by omega
      rw[e]at bj;exact absurd (bj.1.trans er.symm) (vf hr (by omega))
     ·have e:min r.2.2 s.2.2=s.2.2:=by omega
      rw[e]at bj;exact absurd (bj.2.trans es.symm) (vf hs (by omega))
   have ew:wide t=shared r s:=by unfold wide shared;omega
   have hle:shared r s<=nx:=by unfold shared;omega
   rcases h t ht et with q|q
   ·exact .inr (.inr (by omega))
   ·exact .inr (.inl (by omega))
 ·intro h t ht et;have st:=yu w nx 0 t ht;have t1:=st.2.1;have t2:=st.2.2.1;have bt:∀ j,t.2.1<=j->j<=t.2.2->p.testBit j=k/\q.testBit j=k:=λj a b=>(hw j (by omega)).mp ((Zx st a b).trans et);obtain⟨r,hr,r1,r2⟩:=Zd p nx 0 t.2.1 (z4c _) (by omega);obtain⟨s,hs,s1,s2⟩:=Zd q nx 0 t.2.1 (z4c _) (by omega);have sr:=yu p nx 0 r hr;have ss:=yu q nx 0 s hs;have r3:=sr.2.2.1;have s3:=ss.2.2.1;have er:r.1=k:=(Zx sr r1 r2).symm.trans (bt _ (z3c _) t1).1;have es:s.1=k:=(Zx ss s1 s2).symm.trans (bt _ (z3c _) t1).2;have wt:∀ j,max r.2.1 s.2.1<=j->j<=min r.2.2 s.2.2->w.testBit j=true:=λj a b=>(hw j (by omega)).mpr ⟨(Zx sr (by omega) (by omega)).trans er,(Zx ss (by omega) (by omega)).trans es⟩;have f1:max r.2.1 s.2.1=t.2.1:=by
   refine Nat.le_antisymm (by omega) (Nat.le_of_not_lt λlt=>?_);obtain⟨j,hj⟩:∃ j,j+1=t.2.1:=⟨t.2.1 - 1,by omega⟩;exact Xi st hj ((wt j (by omega) (by omega)).trans et.symm)
  have l1:min r.2.2 s.2.2=t.2.2:=by
   rcases Nat.lt_trichotomy (min r.2.2 s.2.2) t.2.2 with lt|e|lt
   ·have bj:=bt (min r.2.2 s.2.2+1) (by omega) (by omega);by_cases c:r.2.2<=s.2.2
    ·have e:min r.2.2 s.2.2=r.2.2:=by omega
     rw[e]at bj;exact absurd (bj.1.trans er.symm) (vf sr (by omega))
    ·have e:min r.2.2 s.2.2=s.2.2:=by omega
     rw[e]at bj;exact absurd (bj.2.trans es.symm) (vf ss (by omega))
   ·exact e
   ·exact absurd ((wt (t.2.2+1) (by omega) (by omega)).trans et.symm) (vf st (by omega))
  have ew:wide t=shared r s:=by unfold wide shared;omega
  have hp:shared r s≠0:=by unfold shared;omega
  rcases h r hr s hs er es with q|q|q
  ·exact absurd q hp
  ·exact .inr (by omega)
  ·exact .inl (by omega)
theorem Xf (b:Bench){p q:Nat}(hp:p < 2 ^ b.nx)(hq:q < 2 ^ b.nx):
  necksOk b p q=(wc b.nx b.neck 1 (p &&& q)&&wc b.nx b.neck 1 (2 ^ b.nx - ((p ||| q)+1))):=by
 have h1:=zka (nx:=b.nx) (neck:=b.neck) (p:=p) (q:=q) (w:=p &&& q) true (λx hx=>by rw[Nat.testBit_and,z3f]);have h2:=zka (nx:=b.nx) (neck:=b.neck) (p:=p) (q:=q) (w:=2 ^ b.nx - ((p ||| q)+1)) false (λx hx=>by
  rw[Nat.testBit_two_pow_sub_succ (z9o hp hq),Nat.testBit_or,z3u hx];cases p.testBit x<;>cases q.testBit x<;>simp)
 rw[z4l,z3f,h1,h2];unfold necksOk runs;simp only[z47,z44,bne_iff_ne,ne_eq,z4x,z4p];constructor
 ·intro h;refine⟨λr hr s hs er es=>?_,λr hr s hs er es=>?_⟩
  ·rcases h r hr s hs with z|z
   ·exact absurd (er.trans es.symm) z
   ·exact z
  ·rcases h r hr s hs with z|z
   ·exact absurd (er.trans es.symm) z
   ·exact z
 ·rintro⟨ha,hb⟩ r hr s hs;by_cases e:r.1=s.1
  ·refine .inr ?_;cases hk:s.1 with
   |true=>exact ha r hr s hs (e.trans hk) hk
   |false=>exact hb r hr s hs (e.trans hk) hk
  ·exact .inl e
def z9 (b:Bench):List Nat:=Vbmiab.patterns b
theorem Uc {b:Bench}{p:Nat}(h:p∈z9 b):p < 2 ^ b.nx:=z4g.mp (z34.mp h).1
theorem Jk (b:Bench):(z9 b).Nodup:=z6i _ List.nodup_range
theorem zia (b:Bench){p q:Nat}(hp:p < 2 ^ b.nx)(hq:q < 2 ^ b.nx):necksOk b p q=necksOk b q p:=by
 rw[Xf b hp hq,Xf b hq hp,Nat.and_comm,Nat.or_comm]
def Jc (b:Bench)(p:Nat):List Nat:=(z9 b).filter (necksOk b p)
def jx (l:List Nat)(g:Nat->Option Int):Option Int:=l.foldl (λo p=>better o (g p)) none
theorem ze5 (a:Option Int):better a none=a:=by cases a<;>rfl
theorem zcv (a c d:Option Int):better (better a c) d=better a (better c d):=by
 cases a<;>cases c<;>cases d<;>simp only[better];rename_i x y z;congr 1;omega
theorem K9 (g:Nat->Option Int):∀(l:List Nat) (o:Option Int),l.foldl (λo p=>better o (g p)) o=better o (jx l g)
 |[],o=>(ze5 o).symm
 |a::l,o=>by
  have h1:=K9 g l (better o (g a));have h2:=K9 g l (better none (g a));show l.foldl (λo p=>better o (g p)) (better o (g a))=better o (l.foldl (λo p=>better o (g p)) (better none (g a)));rw[h1,h2,<-zcv];rfl
theorem K8 (g:Nat->Option Int)(a:Nat)(l:List Nat):jx (a::l) g=better (g a) (jx l g):=by
 show l.foldl (λo p=>better o (g p)) (better none (g a))=_;rw[K9];rfl
theorem Z1 {g:Nat->Option Int}:∀{l:List Nat},jx l g=none↔l.filterMap g=[]
 |[]=>⟨λ_=>rfl,λ_=>rfl⟩
 |a::l=>by
  rw[K8];cases e:g a with
  |none=>
   rw[z5b e];exact Z1
  |some v=>
   rw[z5a e];cases jx l g<;>simp[better]
theorem zcu {g:Nat->Option Int}{v:Int}:∀{l:List Nat},v∈l.filterMap g->∃ m,jx l g=some m/\v<=m
 |[],h=>by cases h
 |a::l,h=>by
  rw[K8];cases e:g a with
  |none=>
   rw[z5b e]at h;exact zcu h
  |some x=>
   rw[z5a e]at h;rcases z3t.mp h with h|h
   ·subst h;cases jx l g with
    |none=>exact⟨v,rfl,z5x _⟩
    |some m=>exact⟨max v m,rfl,by omega⟩
   ·obtain⟨m,e2,hm⟩:=zcu h;rw[e2];exact⟨max x m,rfl,by omega⟩
theorem Xt {g:Nat->Option Int}{m:Int}:∀{l:List Nat},jx l g=some m->m∈l.filterMap g
 |[],h=>by cases h
 |a::l,h=>by
  rw[K8]at h;cases e:g a with
  |none=>
   rw[e]at h;rw[z5b e];exact Xt h
  |some x=>
   rw[e]at h;rw[z5a e];cases e2:jx l g with
   |none=>
    rw[e2]at h;have:x=m:=z3p h;subst this;exact z3e
   |some y=>
    rw[e2]at h;have h3:max x y=m:=z3p h;by_cases hc:y<=x
    ·have:m=x:=by omega
     subst this;exact z3e
    ·have:m=y:=by omega
     subst this;exact z3d _ (Xt e2)
theorem zjq {g:Nat->Option Int}{l:List Nat}{M:Int}(h1:M∈l.filterMap g)(h2:∀ a,a∈l.filterMap g->a<=M):jx l g=some M:=by
 obtain⟨m,e,hm⟩:=zcu h1;have:=h2 m (Xt e);have:m=M:=by omega
 rw[e,this]
def G (b:Bench):Nat->Nat->Nat->Option Int
 |0,y,p=>if keeps b y p=false then none else some (rowWorth b y p)
 |f+1,y,p=>if keeps b y p=false then none else (jx (Jc b p) (G b f (y+1))).map λv=>rowWorth b y p+v
def kh (b:Bench)(g:Nat->Option Int):Table:=(z9 b).map λp=>(p,g p)
theorem zk7 (b:Bench)(g:Nat->Option Int)(p:Nat):behind b (kh b g) p=jx (Jc b p) g:=by
 unfold behind kh Jc;rw[z74,List.foldl_map];rfl
theorem z1z (b:Bench)(f y:Nat):tableFrom b y (some (kh b (G b f (y+1))))=kh b (G b (f+1) y):=by
 unfold tableFrom kh;apply z5z;intro p hp;show (p,if keeps b y p=false then none else (behind b (kh b (G b f (y+1))) p).map λv=>rowWorth b y p+v)=_;rw[zk7];rfl
theorem wu (b:Bench):∀(f y:Nat),tables b (f+1) y=kh b (G b f y)::tables b f (y+1)
 |0,y=>rfl
 |f+1,y=>by
  have ih:=wu b f (y+1);show (match tables b (f+1) (y+1) with
   |[]=>[tableFrom b y none]
   |t::r=>tableFrom b y (some t)::t::r)=_
  rw[ih];show tableFrom b y (some (kh b (G b f (y+1))))::kh b (G b f (y+1))::tables b f (y+2)=_;rw[z1z]
theorem zci (b:Bench):∀(f y i:Nat),i < f->(tables b f y)[i]? =some (kh b (G b (f - 1 - i) (y+i)))
 |0,y,i,h=>by omega
 |f+1,y,0,h=>by rw[wu];rfl
 |f+1,y,i+1,h=>by
  rw[wu,z8n,zci b f (y+1) i (by omega)];rw[show f+1 - 1 - (i+1)=f - 1 - i by omega,show y+1+i=y+(i+1) by omega]
def xl (b:Bench)(g:Nat->Option Int):List (Nat×Int):=(z9 b).filterMap λp=>(g p).map λv=>(p,v)
theorem zqa (b:Bench)(g:Nat->Option Int):((kh b g).filterMap λq=>q.2.map λv=>(q.1,v))=xl b g:=by
 unfold kh xl;rw[List.filterMap_map];rfl
theorem zjp (b:Bench)(h:1<=b.ny):best b=jx (z9 b) (G b (b.ny - 1) 0):=by
 unfold best allTables;obtain⟨n,e⟩:∃ n,b.ny=n+1:=⟨b.ny - 1,by omega⟩;rw[e,wu];show (kh b (G b n 0)).foldl (λo q=>better o q.2) none=_;unfold kh;rw[List.foldl_map];rfl
def Wx (b:Bench):Option Nat->List Nat
 |none=>z9 b
 |some p=>Jc b p
def Vl (b:Bench)(f y:Nat)(c:List Nat):Option Nat:=c.find? λp=>G b f y p==jx c (G b f y)
def bl (b:Bench):Nat->Nat->List Nat->List Nat
 |0,_,_=>[]
 |f+1,y,c=>match Vl b f y c with
  |none=>[]
  |some p=>p::bl b f (y+1) (Jc b p)
theorem Vm {b:Bench}{f y:Nat}{c:List Nat}{m:Int}(h:jx c (G b f y)=some m):∃ p,Vl b f y c=some p/\p∈c/\G b f y p=some m:=by
 have h1:=Xt h;obtain⟨p,hp,e⟩:=z55.mp h1;unfold Vl;cases e2:c.find? λp=>G b f y p==jx c (G b f y) with
 |none=>
  have:=List.find?_eq_none.mp e2 p hp;rw[e,h]at this;simp at this
 |some q=>
  have h3:=List.find?_some e2;rw[h]at h3;exact⟨q,rfl,List.mem_of_find?_eq_some e2,eq_of_beq h3⟩
theorem zep {b:Bench}{f y p:Nat}{m:Int}(h:G b (f+1) y p=some m):jx (Jc b p) (G b f (y+1))=some (m - rowWorth b y p):=by
 have h1:(if keeps b y p=false then none else (jx (Jc b p) (G b f (y+1))).map λv=>rowWorth b y p+v)=some m:=h;by_cases hk:keeps b y p=false
 ·rw[z3m hk]at h1;cases h1
 ·rw[z3k hk]at h1;cases e:jx (Jc b p) (G b f (y+1)) with
  |none=>
   rw[e]at h1;cases h1
  |some v=>
   rw[e]at h1;have:rowWorth b y p+v=m:=z3p h1;rw[<-this];congr 1;omega
theorem zu0 {b:Bench}{y p:Nat}{m:Int}(h:G b 0 y p=some m):m=rowWorth b y p:=by
 have h1:(if keeps b y p=false then none else some (rowWorth b y p))=some m:=h;by_cases hk:keeps b y p=false
 ·rw[z3m hk]at h1;cases h1
 ·rw[z3k hk]at h1;exact (z3p h1).symm
theorem zfv (b:Bench)(f y:Nat)(prev:Option Nat)(m:Int)(h:jx (Wx b prev) (G b f y)=some m):
  (kh b (G b f y)).find? (λq=>(match prev with
   |none=>true
   |some p=>necksOk b p q.1)&&q.2==some m)=(Vl b f y (Wx b prev)).map λp=>(p,G b f y p):=by
 unfold kh Vl;rw[List.find?_map,h];congr 1;cases prev with
 |none=>rfl
 |some p=>
  show List.find? (λq=>necksOk b p q&&(G b f y q==some m)) (z9 b)=List.find? _ ((z9 b).filter (necksOk b p));rw[List.find?_filter];congr 1;funext q;have e0:(G b f y q==some m)=decide (G b f y q=some m):=by
   rw[z4l,z4x,z4i]
  cases necksOk b p q<;>simp[e0]
def kb (b:Bench):Nat->List Nat->Int
 |_,[]=>0
 |y,p::r=>rowWorth b y p+kb b (y+1) r
theorem Vg (b:Bench):∀(f y:Nat) (prev:Option Nat) (m:Int),jx (Wx b prev) (G b f y)=some m->
  follow b prev m y (tables b (f+1) y)=bl b (f+1) y (Wx b prev)/\kb b y (bl b (f+1) y (Wx b prev))=m/\(bl b (f+1) y (Wx b prev)).length=f+1
 |0,y,prev,m,h=>by
  obtain⟨p,e1,_,e3⟩:=Vm h;rw[wu];show (match (kh b (G b 0 y)).find? (λq=>(match prev with
   |none=>true
   |some p=>necksOk b p q.1)&&q.2==some m) with
   |none=>[]
   |some q=>q.1::follow b (some q.1) (m - rowWorth b y q.1) (y+1) [])=(match Vl b 0 y (Wx b prev) with
   |none=>[]
   |some p=>p::bl b 0 (y+1) (Jc b p))/\kb b y (match Vl b 0 y (Wx b prev) with
   |none=>[]
   |some p=>p::bl b 0 (y+1) (Jc b p))=m/\(match Vl b 0 y (Wx b prev) with
   |none=>[]
   |some p=>p::bl b 0 (y+1) (Jc b p)).length=1
  rw[zfv b 0 y prev m h,e1];refine⟨rfl,?_,rfl⟩;rw[zu0 e3];show rowWorth b y p+0=_;omega
 |f+1,y,prev,m,h=>by
  obtain⟨p,e1,_,e3⟩:=Vm h;have e4:=zep e3;obtain⟨i1,i2,i3⟩:=Vg b f (y+1) (some p) _ e4;rw[wu];show (match (kh b (G b (f+1) y)).find? (λq=>(match prev with
   |none=>true
   |some p=>necksOk b p q.1)&&q.2==some m) with
   |none=>[]
   |some q=>q.1::follow b (some q.1) (m - rowWorth b y q.1) (y+1) (tables b (f+1) (y+1)))=(match Vl b (f+1) y (Wx b prev) with
   |none=>[]
   |some p=>p::bl b (f+1) (y+1) (Jc b p))/\kb b y (match Vl b (f+1) y (Wx b prev) with
   |none=>[]
   |some p=>p::bl b (f+1) (y+1) (Jc b p))=m/\(match Vl b (f+1) y (Wx b prev) with
   |none=>[]
   |some p=>p::bl b (f+1) (y+1) (Jc b p)).length=f+2
  rw[zfv b (f+1) y prev m h,e1];refine⟨?_,?_,?_⟩
  ·show p::follow b (some p) (m - rowWorth b y p) (y+1) (tables b (f+1) (y+1))=p::bl b (f+1) (y+1) (Jc b p);rw[i1];rfl
  ·show rowWorth b y p+kb b (y+1) (bl b (f+1) (y+1) (Jc b p))=m;have:kb b (y+1) (bl b (f+1) (y+1) (Jc b p))=m - rowWorth b y p:=i2;rw[this];omega
  ·show (bl b (f+1) (y+1) (Jc b p)).length+1=f+2;have:(bl b (f+1) (y+1) (Jc b p)).length=f+1:=i3;rw[this]
theorem Jf {b:Bench}(h:1<=b.ny):bestLines b=(jx (z9 b) (G b (b.ny - 1) 0)).map λv=>(v,bl b b.ny 0 (z9 b)):=by
 unfold bestLines;rw[zjp b h];cases e:jx (z9 b) (G b (b.ny - 1) 0) with
 |none=>rfl
 |some v=>
  obtain⟨n,e0⟩:∃ n,b.ny=n+1:=⟨b.ny - 1,by omega⟩;have:=(Vg b n 0 none v (by rw[e0]at e;exact e)).1;unfold allTables;rw[e0];show some (v,follow b none v 0 (tables b (n+1) 0))=some (v,_);rw[this];rfl
theorem zam (b:Bench):∀(l:List Nat) (y n:Nat),l.length=n->sumInt ((l.zip (List.range' y n)).map λq=>rowWorth b q.2 q.1)=kb b y l
 |[],y,n,h=>rfl
 |p::l,y,n,h=>by
  cases n with
  |zero=>cases h
  |succ n=>
   rw[List.range'_succ,z7g,z3n];show rowWorth b y p+sumInt _=rowWorth b y p+_;rw[zam b l (y+1) n (by simpa using h)]
theorem zqs {b:Bench}{l:List Nat}(h:l.length=b.ny):worth b l=kb b 0 l:=by
 unfold worth ys;rw[List.range_eq_range'];exact zam b l 0 b.ny h
def S (l:List Nat)(f:Nat->Nat):Nat:=sumNat (l.map f)
theorem vt (a:Nat)(l:List Nat)(f:Nat->Nat):S (a::l) f=f a+S l f:=rfl
theorem Jd {f g:Nat->Nat}:∀{l:List Nat},(∀ a,a∈l->f a=g a)->S l f=S l g
 |[],_=>rfl
 |a::l,h=>by
  rw[vt,vt,h a z3e,Jd λx hx=>h x (z3d _ hx)]
theorem zuk (f g:Nat->Nat):∀(l:List Nat),S l (λa=>f a+g a)=S l f+S l g
 |[]=>rfl
 |a::l=>by
  rw[vt,vt,vt,zuk f g l];omega
theorem zhd:∀(l:List Nat),S l (λ_=>0)=0
 |[]=>rfl
 |a::l=>by
  rw[vt,zhd l]
theorem znd (f:Nat->Nat->Nat)(m:List Nat):∀(l:List Nat),S l (λa=>S m (f a))=S m (λc=>S l (λa=>f a c))
 |[]=>(zhd m).symm
 |a::l=>by
  rw[vt,znd f m l,<-zuk];rfl
theorem znc (c:Nat)(f:Nat->Nat):∀(l:List Nat),S l (λa=>c*f a)=c*S l f
 |[]=>rfl
 |a::l=>by
  rw[vt,vt,znc c f l,Nat.mul_add]
theorem Xp (c:Nat->Bool)(f:Nat->Nat):∀(l:List Nat),S (l.filter c) f=S l (λa=>if c a=true then f a else 0)
 |[]=>rfl
 |a::l=>by
  rw[vt,z58];cases e:c a with
  |true=>
   rw[z3m rfl,z3m rfl,vt,Xp c f l]
  |false=>
   rw[z3k (by simp),z3k (by simp),Xp c f l,z6x]
def Cv (b:Bench):Nat->Nat->Nat->Nat
 |0,_,_=>1
 |f+1,y,p=>S (z9 b) λq=>if necksOk b p q=true then (if keeps b (y+1) q=false then 0 else Cv b f (y+1) q) else 0
theorem zkz (b:Bench):∀(f y:Nat),ways b (f+1) y=(z9 b).map λp=>(p,if keeps b y p=false then 0 else Cv b f y p)
 |0,y=>rfl
 |f+1,y=>by
  have ih:=zkz b f (y+1);show ((z9 b).map λp=>(p,if keeps b y p=false then 0 else if f+1=0 then 1 else sumNat (((ways b (f+1) (y+1)).filter λq=>necksOk b p q.1).map λq=>q.2)))=_;apply z5z;intro p hp;rw[ih,z3k (Nat.succ_ne_zero f),z74,z4f];have:sumNat (((z9 b).filter (necksOk b p)).map (λq=>if keeps b (y+1) q=false then 0 else Cv b f (y+1) q))=Cv b (f+1) y p:=Xp (necksOk b p) _ (z9 b);rw[<-this];rfl
def Fv (b:Bench):Nat->Nat->Nat
 |0,p=>if keeps b 0 p=false then 0 else 1
 |y+1,p=>if keeps b (y+1) p=false then 0 else S (Jc b p) (Fv b y)
theorem zhr (b:Bench)(f y:Nat):S (z9 b) (λp=>Fv b y p*Cv b (f+1) y p)=S (z9 b) (λq=>Fv b (y+1) q*Cv b f (y+1) q):=by
 have e1:S (z9 b) (λp=>Fv b y p*Cv b (f+1) y p)=S (z9 b) (λp=>S (z9 b) λq=>Fv b y p*(if necksOk b p q=true then (if keeps b (y+1) q=false then 0 else Cv b f (y+1) q) else 0)):=
  Jd λp _=>(znc _ _ _).symm
 rw[e1,znd];apply Jd;intro q hq;show _=(if keeps b (y+1) q=false then 0 else S (Jc b q) (Fv b y))*Cv b f (y+1) q;by_cases hk:keeps b (y+1) q=false
 ·rw[z3m hk,z3m hk,Nat.zero_mul];refine (Jd λp _=>?_).trans (zhd (z9 b));split<;>rfl
 ·rw[z3k hk,z3k hk];unfold Jc;rw[Xp,z6y,<-znc];apply Jd;intro p hp;rw[zia b (Uc hp) (Uc hq)];by_cases hn:necksOk b q p=true
  ·rw[z3m hn,z3m hn,z6y]
  ·rw[z3k hn,z3k hn];rfl
theorem zbt (b:Bench):∀(f y:Nat),S (z9 b) (λp=>Fv b y p*Cv b f y p)=S (z9 b) (Fv b (y+f))
 |0,y=>Jd λp _=>Nat.mul_one _
 |f+1,y=>by
  rw[zhr,zbt b f (y+1),show y+1+f=y+(f+1) by omega]
theorem znx {b:Bench}(h:1<=b.ny):count b=S (z9 b) (Fv b (b.ny - 1)):=by
 obtain⟨n,e⟩:∃ n,b.ny=n+1:=⟨b.ny - 1,by omega⟩;have h1:=zbt b n 0;rw[z6x]at h1;unfold count;rw[e,zkz,z4f];show S (z9 b) (λp=>if keeps b 0 p=false then 0 else Cv b n 0 p)=S (z9 b) (Fv b n);rw[<-h1];apply Jd;intro p _;show _=(if keeps b 0 p=false then 0 else 1)*_;by_cases hk:keeps b 0 p=false
 ·rw[z3m hk,z3m hk,Nat.zero_mul]
 ·rw[z3k hk,z3k hk,Nat.one_mul]
end Ore
namespace Ore
theorem y8 {C:Type}[DecidableEq C]:∀{p O:List C},p.Nodup->(∀ c,c∈p->c∈O)->p.length<=O.length
 |[],O,_,_=>z4c _
 |a::p,O,hn,hs=>by
  have h1:a∈O:=hs a z3e;obtain⟨na,hn⟩:=z53.mp hn;have h2:p.length<=(O.erase a).length:=y8 hn λc hc=>(List.mem_erase_of_ne (λ(q:c=a)=>na (q▸hc))).mpr (hs c (z3d _ hc));rw[List.length_erase_of_mem h1]at h2;have h3:0 < O.length:=List.length_pos_of_mem h1;show p.length+1<=O.length;omega
theorem Gf {C:Type}[DecidableEq C]{p q:List C}(hp:p.Nodup)(hq:q.Nodup)(h:∀ c,c∈p↔c∈q):p.Perm q:=by
 rw[List.perm_iff_count];intro a;rw[hp.count,hq.count];by_cases ha:a∈p
 ·rw[z3m ha,z3m ((h a).mp ha)]
 ·rw[z3k ha,z3k λz=>ha ((h a).mpr z)]
section
variable {C:Type}[DecidableEq C](O:List C)(nb:C->List C)
inductive vj (a:C):C->Prop
 |refl:vj a a
 |step {c d:C}:vj a c->d∈nb c->d∈O->vj a d
def Zi (st:List C×List C)(o:C):List C×List C:=if o∈O/\¬o∈st.1 then (st.1++[o],st.2++[o]) else st
def zfu (p w:List C)(c:C):List C×List C:=(nb c).foldl (Zi O) (p,w)
structure Ui (a:C)(p w:List C):Prop where
 nd:p.Nodup
 sub:∀ c,c∈p->c∈O
 wp:∀ c,c∈w->c∈p
 hd:p.head? =some a
 con:∀ c,c∈p->vj O nb a c
 clo:∀ c,c∈p->¬c∈w->∀ d,d∈nb c->d∈O->d∈p
variable {O nb}
theorem J5:∀(ns p w:List C),∃ new,ns.foldl (Zi O) (p,w)=(p++new,w++new)/\(∀ d,d∈new->d∈ns/\d∈O/\¬d∈p)/\new.Nodup/\∀ d,d∈ns->d∈O->d∈p++new
 |[],p,w=>⟨[],by simp,λd h=>(by cases h),z7o,λd h=>(by cases h)⟩
 |n::ns,p,w=>by
  rw[List.foldl_cons];by_cases h:n∈O/\¬n∈p
  ·have e:Zi O (p,w) n=(p++[n],w++[n]):=z3m h;obtain⟨new,e1,e2,e3,e4⟩:=J5 ns (p++[n]) (w++[n]);refine⟨n::new,?_,?_,?_,?_⟩
   ·rw[e,e1,z4d,z4d];rfl
   ·intro d hd;rcases z3t.mp hd with hd|hd
    ·subst hd;exact⟨z3e,h.1,h.2⟩
    ·obtain⟨a1,a2,a3⟩:=e2 d hd;exact⟨z3d _ a1,a2,λz=>a3 (z4b _ z)⟩
   ·refine z53.mpr ⟨λz=>?_,e3⟩;exact (e2 n z).2.2 (z38 _ z3e)
   ·intro d hd ho;rw[List.append_cons];rcases z3t.mp hd with hd|hd
    ·subst hd;exact z4b _ (z38 _ z3e)
    ·exact e4 d hd ho
  ·have e:Zi O (p,w) n=(p,w):=z3k h;obtain⟨new,e1,e2,e3,e4⟩:=J5 ns p w;refine⟨new,by rw[e,e1],λd hd=>⟨z3d _ (e2 d hd).1,(e2 d hd).2⟩,e3,λd hd ho=>?_⟩;rcases z3t.mp hd with hd|hd
   ·subst hd;by_cases hp:d∈p
    ·exact z4b _ hp
    ·exact absurd ⟨ho,hp⟩ h
   ·exact e4 d hd ho
def zfr (O p w:List C):Nat:=2*(O.length - p.length)+w.length
theorem Ui.turn {a c:C}{p w:List C}(I:Ui O nb a p (w++[c])):Ui O nb a (zfu O nb p w c).1 (zfu O nb p w c).2/\zfr O (zfu O nb p w c).1 (zfu O nb p w c).2 < zfr O p (w++[c]):=by
 obtain⟨new,e,e2,e3,e4⟩:=J5 (O:=O) (nb c) p w;have e':zfu O nb p w c=(p++new,w++new):=e;rw[e'];have hc:c∈p:=I.wp c (z38 _ z3e);have nd:(p++new).Nodup:=z6c.mpr ⟨I.nd,e3,λx hx y hy q=>(e2 y hy).2.2 (q▸hx)⟩;have sub:∀ d,d∈p++new->d∈O:=λd hd=>by
  rcases z33.mp hd with hd|hd
  ·exact I.sub d hd
  ·exact (e2 d hd).2.1
 refine⟨⟨nd,sub,?_,?_,?_,?_⟩,?_⟩
 ·intro d hd;rcases z33.mp hd with hd|hd
  ·exact z4b _ (I.wp d (z4b _ hd))
  ·exact z38 _ hd
 ·show (p++new).head? =some a;rw[List.head?_append,I.hd];rfl
 ·intro d hd;rcases z33.mp hd with hd|hd
  ·exact I.con d hd
  ·exact .step (I.con c hc) (e2 d hd).1 (e2 d hd).2.1
 ·intro d hd hw x hx ho;rcases z33.mp hd with hd|hd
  ·by_cases q:d=c
   ·subst q;exact e4 x hx ho
   ·refine z4b _ (I.clo d hd (λz=>?_) x hx ho);rcases z33.mp z with z|z
    ·exact hw (z4b _ z)
    ·exact q (z37.mp z)
  ·exact absurd (z38 _ hd) hw
 ·have hl:=y8 nd sub;unfold zfr;rw[z3a]at hl;rw[z3a,z3a,z3a];show 2*(O.length - (p.length+new.length))+(w.length+new.length) < 2*(O.length - p.length)+(w.length+1);omega
theorem Ui.start {a:C}(h:a∈O):Ui O nb a [a] [a]:=
 ⟨by simp,λc hc=>by rw[z37.mp hc];exact h,λc hc=>hc,rfl,λc hc=>by rw[z37.mp hc];exact .refl,λc hc hw=>absurd hc hw⟩
theorem Ui.all {a:C}{p:List C}(I:Ui O nb a p [])(c:C):c∈p↔vj O nb a c:=by
 constructor
 ·exact I.con c
 ·intro h
  induction h with
  |refl=>exact List.mem_of_mem_head? I.hd
  |step h1 h2 h3 ih=>exact I.clo _ ih (by simp) _ h2 h3
theorem vj.mem {a c:C}(h:vj O nb a c)(ha:a∈O):c∈O:=by
 cases h with
 |refl=>exact ha
 |step _ _ h=>exact h
theorem vj.trans {a c d:C}(h:vj O nb a c)(h':vj O nb c d):vj O nb a d:=by
 induction h' with
 |refl=>exact h
 |step _ h2 h3 ih=>exact .step ih h2 h3
theorem vj.symm (sy:∀ c d,c∈O->d∈O->d∈nb c->c∈nb d){a c:C}(ha:a∈O)(h:vj O nb a c):vj O nb c a:=by
 induction h with
 |refl=>exact .refl
 |step h1 h2 h3 ih=>exact vj.trans (.step .refl (sy _ _ (h1.mem ha) h3 h2) (h1.mem ha)) ih
def sp1 (O:List C)(nb:C->List C)(s:List C):List C:=O.filter λc=>decide (c∈s)||s.any λd=>decide (c∈nb d)
def spn (O:List C)(nb:C->List C):Nat->List C->List C
 |0,s=>s
 |f+1,s=>spn O nb f (sp1 O nb s)
theorem X6 {s:List C}{c:C}:c∈sp1 O nb s↔c∈O/\(c∈s\/∃ d,d∈s/\c∈nb d):=by
 unfold sp1;rw[z34,z44,z4i,z7a];constructor
 ·rintro⟨h1,h2|⟨d,h3,h4⟩⟩
  ·exact⟨h1,.inl h2⟩
  ·exact⟨h1,.inr ⟨d,h3,z30 h4⟩⟩
 ·rintro⟨h1,h2|⟨d,h3,h4⟩⟩
  ·exact⟨h1,.inl h2⟩
  ·exact⟨h1,.inr ⟨d,h3,z3u h4⟩⟩
theorem zac:∀(f:Nat) (s:List C),spn O nb (f+1) s=sp1 O nb (spn O nb f s)
 |0,s=>rfl
 |f+1,s=>zac f (sp1 O nb s)
theorem Vr (hO:O.Nodup){a:C}(ha:a∈O):∀ n,(spn O nb n [a]).Nodup/\(∀ c,c∈spn O nb n [a]->vj O nb a c)/\a∈spn O nb n [a]/\
  ((∀ c,c∈sp1 O nb (spn O nb n [a])->c∈spn O nb n [a])\/n+1<=(spn O nb n [a]).length)
 |0=>⟨by simp[spn],λc hc=>by rw[z37.mp hc];exact .refl,z3e,.inr (z3c _)⟩
 |n+1=>by
  obtain⟨h1,h2,h3,h4⟩:=Vr hO ha n;rw[zac];generalize spn O nb n [a]=s at h1 h2 h3 h4 ⊢;have hs:∀ c,c∈s->c∈sp1 O nb s:=λc hc=>X6.mpr ⟨(h2 c hc).mem ha,.inl hc⟩;have nd:(sp1 O nb s).Nodup:=z6i _ hO;refine⟨nd,?_,hs a h3,?_⟩
  ·intro c hc;obtain⟨ho,hc|⟨d,hd,he⟩⟩:=X6.mp hc
   ·exact h2 c hc
   ·exact .step (h2 d hd) he ho
  ·by_cases hq:∀ c,c∈sp1 O nb s->c∈s
   ·left;intro c hc;obtain⟨ho,hc|⟨d,hd,he⟩⟩:=X6.mp hc
    ·exact hc
    ·exact X6.mpr ⟨ho,.inr ⟨d,hq d hd,he⟩⟩
   ·right;have h5:n+1<=s.length:=h4.resolve_left hq;obtain⟨c,hc,hcs⟩:∃ c,c∈sp1 O nb s/\¬c∈s:=by
     apply z52;intro z;exact hq λc hc=>z52 λz2=>z ⟨c,hc,z2⟩
    have h6:(c::s).length<=(sp1 O nb s).length:=y8 (z53.mpr ⟨hcs,h1⟩) λd hd=>by
     rcases z3t.mp hd with hd|hd
     ·rw[hd];exact hc
     ·exact hs d hd
    have:s.length+1<=(sp1 O nb s).length:=h6;omega
theorem zkt (hO:O.Nodup){a:C}(ha:a∈O){n:Nat}(hn:O.length<=n)(c:C):c∈spn O nb n [a]↔vj O nb a c:=by
 obtain⟨h1,h2,h3,h4⟩:=Vr (nb:=nb) hO ha n;refine⟨h2 c,λh=>?_⟩;have hc:∀ c,c∈sp1 O nb (spn O nb n [a])->c∈spn O nb n [a]:=by
  rcases h4 with h4|h4
  ·exact h4
  ·have:=y8 h1 λc hc=>(h2 c hc).mem ha;omega
 induction h with
 |refl=>exact h3
 |step h5 h6 h7 ih=>exact hc _ (X6.mpr ⟨h7,.inr ⟨_,ih,h6⟩⟩)
theorem ziz {a:C}:∀{n:Nat},1<=n->∃ f:C->Bool,spn O nb n [a]=O.filter f
 |0,h=>by omega
 |n+1,_=>by
  rw[zac];exact⟨_,rfl⟩
theorem zh1 (hO:O.Nodup)(sy:∀ c d,c∈O->d∈O->d∈nb c->c∈nb d){pre post:List C}{c:C}(e:O=pre++c::post){n:Nat}(hn:O.length<=n)(h1:1<=n):
  (spn O nb n [c]).head? =some c↔∀ d,d∈pre->¬vj O nb d c:=by
 have hc:c∈O:=by rw[e];simp
 obtain⟨f,ef⟩:=ziz (O:=O) (nb:=nb) (a:=c) h1;have hf:∀ d,d∈O->(f d=true↔vj O nb c d):=λd hd=>by
  rw[<-zkt hO hc hn d,ef,z34];exact⟨λh=>⟨hd,h⟩,λh=>h.2⟩
 rw[ef];have hfc:f c=true:=(hf c hc).mpr .refl;have e2:O.filter f=pre.filter f++c::post.filter f:=by
  conv=>lhs;rw[e]
  rw[z9h,z58,z3m hfc]
 rw[e2];have ndc:¬c∈pre:=by
  rw[e]at hO;exact λz=>(z6c.mp hO).2.2 c z c z3e rfl
 have mp:∀ d,d∈pre->d∈O:=λd hd=>by rw[e];exact z4b _ hd
 constructor
 ·intro h d hd hcon;have:f d=true:=(hf d (mp d hd)).mpr (hcon.symm sy (mp d hd));cases e3:pre.filter f with
  |nil=>
   have:=z34.mpr ⟨hd,this⟩;rw[e3]at this;cases this
  |cons x r=>
   rw[e3]at h;have hx:x=c:=z3p h;have:x∈pre.filter f:=by rw[e3];exact z3e
   rw[hx]at this;exact ndc (z34.mp this).1
 ·intro h;have:pre.filter f=[]:=jav.mpr λd hd hfd=>h d hd (((hf d (mp d hd)).mp hfd).symm sy hc);rw[this];rfl
end
section
variable {C:Type}[DecidableEq C](nx:C->C)
def it:Nat->C->C
 |0,s=>s
 |n+1,s=>nx (it n s)
def Jv (first:C):Nat->C->List C
 |0,_=>[]
 |f+1,s=>s::(if nx s=first then [] else Jv first f (nx s))
theorem zya {P:Nat->Prop}:∀ n,1<=n->P n->∃ m,1<=m/\m<=n/\P m/\∀ k,1<=k->k < m->¬P k:=by
 intro n
 induction n using Nat.strongRecOn with
 |ind n ih=>
  intro h1 hp;by_cases hq:∃ k,1<=k/\k < n/\P k
  ·obtain⟨k,a,b,c⟩:=hq;obtain⟨m,m1,m2,m3,m4⟩:=ih k b a c;exact⟨m,m1,by omega,m3,m4⟩
  ·exact⟨n,h1,z3c _,hp,λk a b c=>hq ⟨k,a,b,c⟩⟩
variable {nx}{L:List C}(cl:∀ s,s∈L->nx s∈L)(inj:∀ s t,s∈L->t∈L->nx s=nx t->s=t)
include cl in
theorem J9 {s:C}(hs:s∈L):∀ n,it nx n s∈L
 |0=>hs
 |n+1=>cl _ (J9 hs n)
include cl inj in
theorem W5 {s:C}(hs:s∈L):∀(i d:Nat),it nx i s=it nx (i+d) s->it nx d s=s
 |0,d,h=>by
  rw[z6x]at h;exact h.symm
 |i+1,d,h=>by
  refine W5 hs i d (inj _ _ (J9 cl hs i) (J9 cl hs (i+d)) ?_);rw[show i+1+d=i+d+1 by omega]at h;exact h
theorem zde {f:Nat->C}:∀{n:Nat},¬((List.range n).map f).Nodup->∃ i j,i < j/\j < n/\f i=f j
 |0,h=>absurd z7o h
 |n+1,h=>by
  by_cases hn:((List.range n).map f).Nodup
  ·have h2:f n∈(List.range n).map f:=by
    apply z52;intro z;apply h;rw[z49,z3g];refine z6c.mpr ⟨hn,by simp,λa ha c hc q=>z ?_⟩;rw[z3n,z6z,z37]at hc;rw[<-hc,<-q];exact ha
   obtain⟨i,hi,e⟩:=z4h.mp h2;exact⟨i,n,z4g.mp hi,z6r _,e⟩
  ·obtain⟨i,j,a,b,c⟩:=zde hn;exact⟨i,j,a,by omega,c⟩
def Per (nx:C->C)(s:C)(n:Nat):Prop:=1<=n/\it nx n s=s/\∀ k,1<=k->k < n->it nx k s≠s
include cl inj in
theorem zim {s:C}(hs:s∈L):∃ n,n<=L.length/\Per nx s n:=by
 have h:¬((List.range (L.length+1)).map λk=>it nx k s).Nodup:=by
  intro z;have:=y8 z λc hc=>by
   obtain⟨k,_,e⟩:=z4h.mp hc;rw[<-e];exact J9 cl hs k
  rw[z25,z4q]at this;omega
 obtain⟨i,j,h1,h2,e⟩:=zde h;have e2:it nx (j - i) s=s:=W5 cl inj hs i (j - i) (by rw[show i+(j - i)=j by omega];exact e);obtain⟨m,m1,m2,m3,m4⟩:=zya (P:=λn=>it nx n s=s) (j - i) (by omega) e2;exact⟨m,by omega,m1,m3,m4⟩
def Jp (nx:C->C)(s:C)(n:Nat):List C:=(List.range n).map λk=>it nx k s
theorem zbn {s:C}{n:Nat}(h:Per nx s n):∀(f m:Nat),m < n->n<=m+f->Jv nx s f (it nx m s)=(List.range' m (n - m)).map λk=>it nx k s
 |0,m,h1,h2=>by omega
 |f+1,m,h1,h2=>by
  show it nx m s::(if nx (it nx m s)=s then [] else Jv nx s f (nx (it nx m s)))=_;obtain⟨d,e⟩:∃ d,n - m=d+1:=⟨n - m - 1,by omega⟩;rw[e,List.range'_succ,z3n];congr 1;by_cases hq:m+1=n
  ·have e1:nx (it nx m s)=s:=by
    have:it nx (m+1) s=s:=by rw[hq];exact h.2.1
    exact this
   rw[z3m e1,show d=0 by omega];rfl
  ·have e1:¬nx (it nx m s)=s:=h.2.2 (m+1) (by omega) (by omega);rw[z3k e1];have:=zbn h f (m+1) (by omega) (by omega);rw[show n - (m+1)=d by omega]at this;exact this
theorem zct {s:C}{n f:Nat}(h:Per nx s n)(hf:n<=f):Jv nx s f s=Jp nx s n:=by
 have:=zbn h f 0 h.1 (by omega);rw[z7q,<-List.range_eq_range']at this;exact this
theorem Zo {s c:C}{n:Nat}:c∈Jp nx s n↔∃ k,k < n/\it nx k s=c:=by
 unfold Jp;rw[z4h];exact⟨λ⟨k,h,e⟩=>⟨k,z4g.mp h,e⟩,λ⟨k,h,e⟩=>⟨k,z4g.mpr h,e⟩⟩
include cl inj in
theorem zd7 {s u:C}{n:Nat}(hs:s∈L)(hu:u∈L)(h:Per nx s n)(e:nx u∈Jp nx s n):u∈Jp nx s n:=by
 obtain⟨k,hk,e⟩:=Zo.mp e;obtain⟨h1,h2,_⟩:=h;cases k with
 |zero=>
  obtain⟨m,em⟩:∃ m,n=m+1:=⟨n - 1,by omega⟩;refine Zo.mpr ⟨m,by omega,inj _ _ (J9 cl hs m) hu ?_⟩;rw[<-e];rw[em]at h2;exact h2
 |succ k=>exact Zo.mpr ⟨k,by omega,inj _ _ (J9 cl hs k) hu e⟩
def zr1 (nx:C->C)(F:Nat):Nat->List C->List (List C)
 |0,_=>[]
 |f+1,left=>match left with
  |[]=>[]
  |s::_=>Jv nx s F s::zr1 nx F f (left.filter λt=> !(Jv nx s F s).contains t)
def rc (nx:C->C)(F:Nat):List C->List C->List (List C)
 |[],_=>[]
 |s::t,P=>if s∈P then rc nx F t P else Jv nx s F s::rc nx F t (P++Jv nx s F s)
def left (t P:List C):List C:=t.filter λs=> !P.contains s
include cl inj in
theorem zd8 {F:Nat}(hF:L.length<=F)(nf:∀ s,s∈L->nx s≠s)(nd:L.Nodup):∀(t P:List C) (f:Nat),(∀ s,s∈L->s∈P\/s∈t)->(∀ s,s∈t->s∈L)->(∀ u,u∈L->nx u∈P->u∈P)->t.Nodup->(left t P).length < 2*f->
  zr1 nx F f (left t P)=rc nx F t P
 |[],P,f,_,_,_,_,_=>by
  cases f<;>rfl
 |s::t,P,f,hL,ht,hP,hn,hf=>by
  obtain⟨ns,hn⟩:=z53.mp hn;by_cases hs:s∈P
  ·have e:left (s::t) P=left t P:=by
    unfold left;rw[z58,z3k];simp[hs]
   rw[e]at hf ⊢;show _=if s∈P then rc nx F t P else _
   rw[z3m hs];refine zd8 hF nf nd t P f (λu hu=>?_) (λu hu=>ht u (z3d _ hu)) hP hn hf;rcases hL u hu with h|h
   ·exact .inl h
   ·rcases z3t.mp h with h|h
    ·exact .inl (h▸hs)
    ·exact .inr h
  ·have e:left (s::t) P=s::left t P:=by
    unfold left;rw[z58,z3m];simp[hs]
   rw[e]at hf ⊢;show _=if s∈P then rc nx F t P else Jv nx s F s::rc nx F t (P++Jv nx s F s)
   rw[z3k hs];obtain⟨f,rfl⟩:∃ g,f=g+1:=⟨f - 1,by omega⟩;have sL:=ht s z3e;obtain⟨n,hn1,hper⟩:=zim cl inj sL;have er:Jv nx s F s=Jp nx s n:=zct hper (by omega);show Jv nx s F s::zr1 nx F f ((s::left t P).filter λt=> !(Jv nx s F s).contains t)=_;rw[er];have n2:2<=n:=by
    rcases Nat.lt_or_ge 1 n with h|h
    ·exact h
    ·have e1:n=1:=by have:=hper.1;omega
     have:=hper.2.1;rw[e1]at this;exact absurd this (nf s sL)
   have sr:s∈Jp nx s n:=Zo.mpr ⟨0,by omega,rfl⟩;have e2:((s::left t P).filter λt=> !(Jp nx s n).contains t)=left t (P++Jp nx s n):=by
    rw[z58,z3k (by simp[sr])];unfold left;rw[z78];congr 1;funext u;by_cases h1:u∈P<;>by_cases h2:u∈Jp nx s n<;>simp[h1,h2]
   rw[e2];congr 1;refine zd8 hF nf nd t _ f (λu hu=>?_) (λu hu=>ht u (z3d _ hu)) (λu hu h=>?_) hn ?_
   ·rcases hL u hu with h|h
    ·exact .inl (z4b _ h)
    ·rcases z3t.mp h with h|h
     ·exact .inl (z38 _ (h▸sr))
     ·exact .inr h
   ·rcases z33.mp h with h|h
    ·exact z4b _ (hP u hu h)
    ·exact z38 _ (zd7 cl inj sL hu hper h)
   ·have tL:=cl s sL;have h1:¬nx s∈P:=λz=>hs (hP s sL z);have h2:nx s∈t:=by
     rcases hL _ tL with h|h
     ·exact absurd h h1
     ·rcases z3t.mp h with h|h
      ·exact absurd h (nf s sL)
      ·exact h
    have h3:nx s∈left t P:=z34.mpr ⟨h2,by simp[h1]⟩;have h4:nx s∈Jp nx s n:=Zo.mpr ⟨1,by omega,rfl⟩;have h5:(left t (P++Jp nx s n)).length+1<=(left t P).length:=by
     have nd2:(nx s::left t (P++Jp nx s n)).Nodup:=by
      refine z53.mpr ⟨λz=>?_,z6i _ hn⟩;have:=(z34.mp z).2;simp[h4]at this
     refine y8 (p:=nx s::left t (P++Jp nx s n)) nd2 λc hc=>?_;rcases z3t.mp hc with hc|hc
     ·rw[hc];exact h3
     ·obtain⟨c1,c2⟩:=z34.mp hc;refine z34.mpr ⟨c1,?_⟩;simp at c2;simp[c2.1]
    have h6:(s::left t P).length=(left t P).length+1:=rfl;omega
end
end Ore
namespace Ore
open Vbmiab
def Qh (b:Bench)(l:List Nat)(x y:Int):Bool:=decide (0<=x)&&(decide (0<=y)&&isOreAt b l x.toNat y.toNat)
theorem zkd (b:Bench)(l:List Nat)(x y:Nat):Qh b l x y=isOreAt b l x y:=by
 unfold Qh;rw[z3u (show (0:Int)<=x by omega),z3u (show (0:Int)<=y by omega),z3i,z3i];rfl
theorem zv4 (b:Bench)(l:List Nat)(x:Nat)(y:Int):Qh b l ((x:Int) - 1) y=(decide (0 < x)&&Qh b l ((x - 1:Nat):Int) y):=by
 cases x with
 |zero=>rfl
 |succ x=>
  rw[show (((x+1:Nat):Int) - 1)=(x:Int) by omega,show x+1 - 1=x from rfl,z3u (Nat.succ_pos x),z4n]
theorem zv5 (b:Bench)(l:List Nat)(x:Int)(y:Nat):Qh b l x ((y:Int) - 1)=(decide (0 < y)&&Qh b l x ((y - 1:Nat):Int)):=by
 cases y with
 |zero=>
  have:Qh b l x (((0:Nat):Int) - 1)=false:=by
   unfold Qh;simp
  rw[this];rfl
 |succ y=>
  rw[show (((y+1:Nat):Int) - 1)=(y:Int) by omega,show y+1 - 1=y from rfl,z3u (Nat.succ_pos y),z4n]
def zds (w:Nat)(nw ne sw se:Bool):Bool:=if w=0 then se&& !ne else if w=1 then sw&& !se else if w=2 then nw&& !sw else ne&& !nw
def inB (w:Nat)(nw ne sw se:Bool):Bool:=if w=0 then sw&& !nw else if w=1 then nw&& !ne else if w=2 then ne&& !se else se&& !sw
theorem Zf (b:Bench)(l:List Nat)(s:Side):isSide b l s=zds s.way (Qh b l (s.x - 1) (s.y - 1)) (Qh b l s.x (s.y - 1)) (Qh b l (s.x - 1) s.y) (Qh b l s.x s.y):=by
 obtain⟨x,y,w⟩:=s;unfold isSide zds;simp only[zv4,zv5,zkd];by_cases h0:w=0
 ·rw[z3m h0,z3m h0]
 rw[z3k h0,z3k h0];by_cases h1:w=1
 ·rw[z3m h1,z3m h1,Bool.and_assoc]
 rw[z3k h1,z3k h1];by_cases h2:w=2
 ·rw[z3m h2,z3m h2];cases decide (0 < x)<;>cases decide (0 < y)<;>simp
 ·rw[z3k h2,z3k h2];cases decide (0 < x)<;>cases decide (0 < y)<;>simp
theorem Qb (b:Bench)(l:List Nat){s:Side}(h:isSide b l s=true)(hw:s.way < 4):inB s.way (Qh b l ((tip s).1 - 1) ((tip s).2 - 1)) (Qh b l (tip s).1 ((tip s).2 - 1)) (Qh b l ((tip s).1 - 1) (tip s).2) (Qh b l (tip s).1 (tip s).2)=true/\
  (s.way=2->0 < s.x)/\(s.way=3->0 < s.y):=by
 obtain⟨x,y,w⟩:=s;have h':=h;rw[Zf]at h;dsimp only at h hw ⊢
 match w,hw with
 |0,_=>
  refine⟨?_,λz=>(by cases z),λz=>(by cases z)⟩;simp only[zds,inB,tip,z6d]at h ⊢;rw[show (((x+1:Nat):Int) - 1)=(x:Int) by omega];exact h
 |1,_=>
  refine⟨?_,λz=>(by cases z),λz=>(by cases z)⟩;simp only[zds,inB,tip,z6d]at h ⊢;simp only[show ¬((1:Nat)=0) by decide,z54,z6d]at h ⊢;rw[show (((y+1:Nat):Int) - 1)=(y:Int) by omega];exact h
 |2,_=>
  have hx:0 < x:=by
   rcases z76 x with hx|hx
   ·subst hx;simp[isSide]at h'
   ·exact hx
  refine⟨?_,λ_=>hx,λz=>(by cases z)⟩;simp only[zds,inB,tip,z6d]at h ⊢;simp only[show ¬((2:Nat)=0) by decide,show ¬((2:Nat)=1) by decide,z54,z6d]at h ⊢;rw[show ((x - 1:Nat):Int)=(x:Int) - 1 by omega];exact h
 |3,_=>
  have hy:0 < y:=by
   rcases z76 y with hy|hy
   ·subst hy;simp[isSide]at h'
   ·exact hy
  refine⟨?_,λz=>(by cases z),λ_=>hy⟩;simp only[zds,inB,tip,z6d]at h ⊢;simp only[show ¬((3:Nat)=0) by decide,show ¬((3:Nat)=1) by decide,show ¬((3:Nat)=2) by decide,z54,z6d]at h ⊢;rw[show ((y - 1:Nat):Int)=(y:Int) - 1 by omega];exact h
def Gc (w:Nat)(nw ne sw se:Bool):Nat:=if zds ((w+1) % 4) nw ne sw se=true then (w+1) % 4 else if zds w nw ne sw se=true then w else (w+3) % 4
theorem Ub (b:Bench)(l:List Nat)(s:Side):nextSide b l s=⟨(tip s).1,(tip s).2,Gc s.way (Qh b l ((tip s).1 - 1) ((tip s).2 - 1)) (Qh b l (tip s).1 ((tip s).2 - 1)) (Qh b l ((tip s).1 - 1) (tip s).2) (Qh b l (tip s).1 (tip s).2)⟩:=by
 unfold nextSide Gc;simp only[Zf];split
 ·rfl
 ·split
  ·rfl
  ·rfl
theorem zlo {P:Nat->Prop}(h0:P 0)(h1:P 1)(h2:P 2)(h3:P 3):∀ w,w < 4->P w
 |0,_=>h0
 |1,_=>h1
 |2,_=>h2
 |3,_=>h3
 |w+4,h=>by omega
theorem zow {w:Nat}(h:w < 4)(nw ne sw se:Bool):Gc w nw ne sw se < 4:=by
 unfold Gc;split
 ·omega
 ·split<;>omega
theorem zl7:∀ w,w < 4->∀ nw ne sw se,inB w nw ne sw se=true->zds (Gc w nw ne sw se) nw ne sw se=true:=by
 refine zlo ?_ ?_ ?_ ?_<;>decide
theorem zl6:∀ w,w < 4->∀ v,v < 4->∀ nw ne sw se,inB w nw ne sw se=true->inB v nw ne sw se=true->Gc w nw ne sw se=Gc v nw ne sw se->w=v:=by
 refine zlo ?_ ?_ ?_ ?_<;>(refine zlo ?_ ?_ ?_ ?_<;>decide)
theorem wn (b:Bench)(l:List Nat){s:Side}(h:isSide b l s=true)(hw:s.way < 4):isSide b l (nextSide b l s)=true/\(nextSide b l s).way < 4:=by
 obtain⟨h1,_⟩:=Qb b l h hw;rw[Ub];refine⟨?_,zow hw _ _ _ _⟩;rw[Zf];exact zl7 _ hw _ _ _ _ h1
theorem Yb (b:Bench)(l:List Nat){s t:Side}(hs:isSide b l s=true)(ws:s.way < 4)(ht:isSide b l t=true)(wt:t.way < 4)(e:nextSide b l s=nextSide b l t):s=t:=by
 obtain⟨i1,a1,a2⟩:=Qb b l hs ws;obtain⟨i2,b1,b2⟩:=Qb b l ht wt;rw[Ub,Ub]at e;injection e with e1 e2 e3
 rw[<-e1,<-e2]at e3 i2;have ew:=zl6 _ ws _ wt _ _ _ _ i1 i2 e3;obtain⟨x,y,w⟩:=s;obtain⟨x',y',w'⟩:=t;dsimp only at ew a1 a2 b1 b2 ws;subst ew;unfold tip at e1 e2;dsimp only at e1 e2
 match w,ws with
 |0,_=>
  simp only[z6d]at e1 e2;rw[show x=x' by omega,e2]
 |1,_=>
  simp only[show ¬((1:Nat)=0) by decide,z54,z6d]at e1 e2;rw[e1,show y=y' by omega]
 |2,_=>
  simp only[show ¬((2:Nat)=0) by decide,show ¬((2:Nat)=1) by decide,z54,z6d]at e1 e2;have:=a1 rfl;have:=b1 rfl;rw[show x=x' by omega,e2]
 |3,_=>
  simp only[show ¬((3:Nat)=0) by decide,show ¬((3:Nat)=1) by decide,show ¬((3:Nat)=2) by decide,z54,z6d]at e1 e2;have:=a2 rfl;have:=b2 rfl;rw[e1,show y=y' by omega]
theorem zrl (b:Bench)(l:List Nat){s:Side}(h:isSide b l s=true)(hw:s.way < 4):nextSide b l s≠s:=by
 obtain⟨_,a1,a2⟩:=Qb b l h hw;intro e;rw[Ub]at e;obtain⟨x,y,w⟩:=s;injection e with e1 e2 e3
 unfold tip at e1 e2;dsimp only at e1 e2 a1 a2 hw
 match w,hw with
 |0,_=>
  simp only[z6d]at e1;omega
 |1,_=>
  simp only[show ¬((1:Nat)=0) by decide,z54,z6d]at e2;omega
 |2,_=>
  simp only[show ¬((2:Nat)=0) by decide,show ¬((2:Nat)=1) by decide,z54,z6d]at e1;have:=a1 rfl;omega
 |3,_=>
  simp only[show ¬((3:Nat)=0) by decide,show ¬((3:Nat)=1) by decide,show ¬((3:Nat)=2) by decide,z54,z6d]at e2;have:=a2 rfl;omega
theorem kx {b:Bench}{l:List Nat}{x y:Nat}(h:isOreAt b l x y=true):x < b.nx/\y < b.ny:=by
 unfold isOreAt at h;rw[z3f,z3f,z4i,z4i]at h;exact⟨h.1,h.2.1⟩
theorem zsj {b:Bench}{l:List Nat}{s:Side}(h:isSide b l s=true):s.x<=b.nx/\s.y<=b.ny:=by
 obtain⟨x,y,w⟩:=s;dsimp only;unfold isSide at h;dsimp only at h;split at h
 ·rw[z3f]at h;have:=kx h.1;omega
 ·split at h
  ·rw[z3f,z3f,z4i]at h;have:=kx h.2.1;omega
  ·split at h
   ·rw[z3f,z3f,z3f,z4i,z4i]at h;have:=kx h.2.2.1;omega
   ·rw[z3f,z3f,z4i]at h;have:=kx h.2.1;omega
theorem zr {b:Bench}{l:List Nat}{s:Side}:s∈allSides b l↔isSide b l s=true/\s.way < 4:=by
 unfold allSides;rw[z34];constructor
 ·rintro⟨h1,h2⟩;refine⟨h2,?_⟩;obtain⟨y,_,h1⟩:=z57.mp h1;obtain⟨x,_,h1⟩:=z57.mp h1;obtain⟨w,hw,e⟩:=z4h.mp h1;subst e;simp at hw;dsimp only;omega
 ·rintro⟨h1,h2⟩;refine⟨?_,h1⟩;obtain⟨hx,hy⟩:=zsj h1;refine z57.mpr ⟨s.y,z4g.mpr (by omega),z57.mpr ⟨s.x,z4g.mpr (by omega),z4h.mpr ⟨s.way,?_,rfl⟩⟩⟩;simp;omega
def sLt (s t:Side):Prop:=s.y < t.y\/(s.y=t.y/\(s.x < t.x\/(s.x=t.x/\s.way < t.way)))
theorem Kv (b:Bench)(l:List Nat):(allSides b l).Pairwise sLt:=by
 unfold allSides;apply z6i;rw[z7s];refine⟨λy _=>?_,?_⟩
 ·rw[z7s];refine⟨λx _=>?_,?_⟩
  ·rw[z8h];have:([0,1,2,3]:List Nat).Pairwise (·< ·):=by decide
   exact this.imp λh=>.inr ⟨rfl,.inr ⟨rfl,h⟩⟩
  ·refine z8i ?_ z6u;intro x x' h s hs t ht;obtain⟨_,_,rfl⟩:=z4h.mp hs;obtain⟨_,_,rfl⟩:=z4h.mp ht;exact .inr ⟨rfl,.inl h⟩
 ·refine z8i ?_ z6u;intro y y' h s hs t ht;obtain⟨_,_,hs⟩:=z57.mp hs;obtain⟨_,_,rfl⟩:=z4h.mp hs;obtain⟨_,_,ht⟩:=z57.mp ht;obtain⟨_,_,rfl⟩:=z4h.mp ht;exact .inl h
theorem zr2 (s:Side):¬sLt s s:=by
 unfold sLt;omega
theorem Yq (b:Bench)(l:List Nat):(allSides b l).Nodup:=(Kv b l).imp λh e=>by
 subst e;exact zr2 _ h
theorem zmo {p q:List Side}(h:p.Perm q)(hp:p.Pairwise λs t=>¬sLt t s)(hq:q.Pairwise sLt):p=q:=by
 refine List.Perm.eq_of_pairwise (le:=λs t=>¬sLt t s) (λa c _ _ h1 h2=>?_) hp (hq.imp λ{a c} h1 h2=>?_) h
 ·obtain⟨x,y,w⟩:=a;obtain⟨x',y',w'⟩:=c;unfold sLt at h1 h2;dsimp only at h1 h2;have:x=x'/\y=y'/\w=w':=by omega
  rw[this.1,this.2.1,this.2.2]
 ·unfold sLt at h1 h2;omega
theorem Vy (b:Bench)(l:List Nat)(first:Side):∀(f:Nat) (s:Side),around b l first f s=Jv (nextSide b l) first f s
 |0,s=>rfl
 |f+1,s=>by
  show s::(if nextSide b l s=first then [] else around b l first f (nextSide b l s))=s::(if nextSide b l s=first then [] else _);rw[Vy b l first f]
theorem Wa (b:Bench)(l:List Nat):∀(f:Nat) (t:List Side),rounds b l f t=zr1 (nextSide b l) (4*b.nx*b.ny) f t
 |0,_=>rfl
 |f+1,[]=>rfl
 |f+1,s::t=>by
  show around b l s (4*b.nx*b.ny) s::rounds b l f ((s::t).filter λt=> !(around b l s (4*b.nx*b.ny) s).contains t)=_;rw[Vy,Wa b l f];rfl
theorem zmf (b:Bench)(l:List Nat)(hlen:(allSides b l).length<=4*b.nx*b.ny):rounds b l (2*b.nx*b.ny+1) (allSides b l)=rc (nextSide b l) (4*b.nx*b.ny) (allSides b l) []:=by
 rw[Wa];have e:left (allSides b l) []=allSides b l:=List.filter_eq_self.mpr λa _=>rfl;have:=zd8 (nx:=nextSide b l) (L:=allSides b l) (λs h=>zr.mpr (wn b l (zr.mp h).1 (zr.mp h).2)) (λs t hs ht e=>Yb b l (zr.mp hs).1 (zr.mp hs).2 (zr.mp ht).1 (zr.mp ht).2 e)
  hlen (λs h=>zrl b l (zr.mp h).1 (zr.mp h).2) (Yq b l) (allSides b l) [] (2*b.nx*b.ny+1) (λs h=>.inr h) (λs h=>h) (λu _ h=>by cases h) (Yq b l) (by
   rw[e];have:2*(2*b.nx*b.ny+1)=4*b.nx*b.ny+2:=by
    rw[Nat.mul_add,<-z8k,<-z8k]
   omega)
 rw[e]at this;exact this
theorem zo6 {b:Bench}{l:List Nat}{s:Side}(h:s∈allSides b l):∃ n,n<=(allSides b l).length/\Per (nextSide b l) s n:=
 zim (nx:=nextSide b l) (L:=allSides b l) (λs h=>zr.mpr (wn b l (zr.mp h).1 (zr.mp h).2)) (λs t hs ht e=>Yb b l (zr.mp hs).1 (zr.mp hs).2 (zr.mp ht).1 (zr.mp ht).2 e) h
def tc:Side->List Side->List (Nat×Nat)
 |_,[]=>[]
 |bf,s::t=>(if s.way != bf.way then [(s.x,s.y)] else [])++tc s t
theorem zqc:∀(r:List Side) (bf:Side),((r.zip (bf::r)).filter λp=>p.1.way != p.2.way).map (λp=>(p.1.x,p.1.y))=tc bf r
 |[],bf=>rfl
 |s::t,bf=>by
  have ih:=zqc t s;rw[z7g,z58];show _=(if s.way != bf.way then [(s.x,s.y)] else [])++tc s t;rw[<-ih];cases e:s.way != bf.way<;>simp
theorem Uw {r:List Side}{z:Side}(h:r.getLast? =some z):corners r=tc z r:=by
 unfold corners;have e:r.drop (r.length - 1)=[z]:=by
  rw[z8a]at h;obtain⟨ys,rfl⟩:=h;rw[z3a,z42,z9g,List.drop_left]
 rw[e];exact zqc r z
def qi (b:Bench):List (Nat×Nat):=(ys b).flatMap λy=>(xs b).map λx=>(x,y)
def j1 (b:Bench)(l:List Nat):List (Nat×Nat):=(qi b).filter λc=>isOreAt b l c.1 c.2
theorem znv (b:Bench):(qi b).Nodup:=by
 unfold qi ys xs List.Nodup;rw[z7s];refine⟨λy _=>?_,?_⟩
 ·rw[z8h];exact z6u.imp λh e=>by
   injection e with e1 _
   omega
 ·refine z8i ?_ z6u;intro y y' h s hs t ht e;obtain⟨_,_,rfl⟩:=z4h.mp hs;obtain⟨_,_,rfl⟩:=z4h.mp ht;injection e with _ e2
  omega
theorem Y6 {b:Bench}{c:Nat×Nat}:c∈qi b↔c.1 < b.nx/\c.2 < b.ny:=by
 unfold qi ys xs;rw[z57];constructor
 ·rintro⟨y,hy,h⟩;obtain⟨x,hx,rfl⟩:=z4h.mp h;exact⟨z4g.mp hx,z4g.mp hy⟩
 ·rintro⟨h1,h2⟩;exact⟨c.2,z4g.mpr h2,z4h.mpr ⟨c.1,z4g.mpr h1,rfl⟩⟩
theorem Ua {b:Bench}{l:List Nat}{c:Nat×Nat}:c∈j1 b l↔isOreAt b l c.1 c.2=true:=by
 unfold j1;rw[z34];exact⟨λh=>h.2,λh=>⟨Y6.mpr (kx h),h⟩⟩
theorem Gn (b:Bench)(l:List Nat):(j1 b l).Nodup:=z6i _ (znv b)
theorem zp6 {α:Type}(n:Nat)(f:Nat->List α)(k:Nat)(h:∀ y,(f y).length=k):((List.range n).flatMap f).length=n*k:=by
 induction n with
 |zero=>simp
 |succ n ih=>rw[z49,z5r,z3a,ih,z41,z68,z31,h,Nat.succ_mul]
theorem zli (b:Bench):(qi b).length=b.nx*b.ny:=by
 unfold qi ys xs;rw[zp6 b.ny _ b.nx (λy=>by rw[z25,z4q]),z6y]
theorem Jj (b:Bench)(l:List Nat):(j1 b l).length<=b.nx*b.ny:=by
 rw[<-zli];exact z4w _ _
def qd (c:Int×Int):Option (Nat×Nat):=if 0<=c.1/\0<=c.2 then some (c.1.toNat,c.2.toNat) else none
def qg (c:Nat×Nat):List (Int×Int):=[((c.1:Int)+1,(c.2:Int)),((c.1:Int),(c.2:Int)+1),((c.1:Int) - 1,(c.2:Int)),((c.1:Int),(c.2:Int) - 1)]
def nbN (c:Nat×Nat):List (Nat×Nat):=(qg c).filterMap qd
def adj (d c:Nat×Nat):Bool:=(d.1==c.1&&(d.2+1==c.2||c.2+1==d.2))||(d.2==c.2&&(d.1+1==c.1||c.1+1==d.1))
theorem Ga {z:Int×Int}{c:Nat×Nat}:qd z=some c↔z.1=(c.1:Int)/\z.2=(c.2:Int):=by
 unfold qd;obtain⟨x,y⟩:=z;obtain⟨m,n⟩:=c;dsimp only;split
 ·rw[z8f,Prod.mk.injEq];omega
 ·constructor
  ·intro h;cases h
  ·omega
theorem zdo {d c:Nat×Nat}:c∈nbN d↔adj d c=true:=by
 unfold nbN adj;rw[z55];obtain⟨a,e⟩:=d;obtain⟨x,y⟩:=c;simp only[Ga,qg,z3t,List.not_mem_nil,or_false,z44,z3f,z4x];constructor
 ·rintro⟨z,hz|hz|hz|hz,h1,h2⟩<;>(subst hz;dsimp only at h1 h2;omega)
 ·intro h;rcases h with ⟨h1,h2|h2⟩|⟨h1,h2|h2⟩
  ·exact⟨_,.inr (.inl rfl),by dsimp only;omega,by dsimp only;omega⟩
  ·exact⟨_,.inr (.inr (.inr rfl)),by dsimp only;omega,by dsimp only;omega⟩
  ·exact⟨_,.inl rfl,by dsimp only;omega,by dsimp only;omega⟩
  ·exact⟨_,.inr (.inr (.inl rfl)),by dsimp only;omega,by dsimp only;omega⟩
theorem znf (d c:Nat×Nat)(h:adj d c=true):adj c d=true:=by
 unfold adj at h ⊢;simp only[z44,z3f,z4x]at h ⊢;omega
theorem zj9 (O:List (Nat×Nat)):∀ c d,c∈O->d∈O->d∈nbN c->c∈nbN d:=λc d _ _ h=>zdo.mpr (znf _ _ (zdo.mp h))
theorem dtI {p:Prop}(i:Decidable p)(h:p): @decide p i=true:= @z3u p i h
theorem dtE {p:Prop}(i:Decidable p)(h: @decide p i=true):p:= @z30 p i h
theorem zcg (b:Bench)(l:List Nat):∀(f:Nat) (s:List (Nat×Nat)),spread b l f s=spn (j1 b l) nbN f s
 |0,s=>rfl
 |f+1,s=>by
  show spread b l f ((qi b).filter λc=>isOreAt b l c.1 c.2&&(s.contains c||s.any λd=>adj d c))=spn (j1 b l) nbN f (sp1 (j1 b l) nbN s);rw[zcg b l f];congr 1;unfold sp1 j1;rw[z78];apply z9q;intro c _;rw[Bool.and_comm];congr 1;rw[z4l,z44,z44,List.contains_iff_mem,z7a,z7a];constructor
  ·rintro (h|⟨d,h1,h2⟩)
   ·exact .inl (dtI _ h)
   ·exact .inr ⟨d,h1,dtI _ (zdo.mpr h2)⟩
  ·rintro (h|⟨d,h1,h2⟩)
   ·exact .inl (dtE _ h)
   ·exact .inr ⟨d,h1,zdo.mp (dtE _ h2)⟩
def Q9 (b:Bench)(c:Nat×Nat)(p:List (Nat×Nat)):List Nat:=[c.1,c.2,p.length,sumNat (p.map λd=>(cellAt b d.1 d.2).mass),sumNat (p.map λd=>(cellAt b d.1 d.2).metal)]
def Zw (b:Bench)(l:List Nat)(c:Nat×Nat):Option (List Nat):=if ((pieceOf b l c).head? ==some c)=true then some (Q9 b c (pieceOf b l c)) else none
theorem zb7 (b:Bench)(l:List Nat):Vbmiab.pieces b l=(j1 b l).filterMap (Zw b l):=rfl
theorem qo:∀(l:List Nat),sumNat l=l.sum
 |[]=>rfl
 |a::l=>by
  rw[z6b,<-qo l];rfl
theorem zpb {b:Bench}{l:List Nat}(hn:1<=b.nx*b.ny){pre post:List (Nat×Nat)}{c:Nat×Nat}(e:j1 b l=pre++c::post):
  ((∀ d,d∈pre->¬vj (j1 b l) nbN d c)->∀ p,Ui (j1 b l) nbN c p []->Zw b l c=some (Q9 b c p))/\
  (¬(∀ d,d∈pre->¬vj (j1 b l) nbN d c)->Zw b l c=none):=by
 have hc:c∈j1 b l:=by rw[e];simp
 have hh:=zh1 (Gn b l) (zj9 _) e (n:=b.nx*b.ny) (Jj b l) hn;have ep:pieceOf b l c=spn (j1 b l) nbN (b.nx*b.ny) [c]:=zcg b l _ _;unfold Zw;rw[ep];constructor
 ·intro h p D;rw[z3m (by rw[hh.mpr h];exact beq_self_eq_true _)];have hp:(spn (j1 b l) nbN (b.nx*b.ny) [c]).Perm p:=Gf (Vr (Gn b l) hc _).1 D.nd λd=>by
   rw[zkt (Gn b l) hc (Jj b l),D.all]
  unfold Q9;rw[hp.length_eq,qo,qo,qo,qo,(hp.map _).sum_nat,(hp.map λd=>(cellAt b d.1 d.2).metal).sum_nat]
 ·intro h;rw[z3k];intro z;exact h (hh.mp (eq_of_beq z))
def Ze (c:Nat×Nat)(w:Nat):Side:=if w=0 then ⟨c.1,c.2,0⟩ else if w=1 then ⟨c.1+1,c.2,1⟩ else if w=2 then ⟨c.1+1,c.2+1,2⟩ else ⟨c.1,c.2+1,3⟩
def wy (c:Nat×Nat)(w:Nat):Int×Int:=if w=0 then ((c.1:Int),(c.2:Int) - 1) else if w=1 then ((c.1:Int)+1,(c.2:Int)) else if w=2 then ((c.1:Int),(c.2:Int)+1) else ((c.1:Int) - 1,(c.2:Int))
def Jq (b:Bench)(l:List Nat):List Side:=(j1 b l).flatMap λc=>((List.range 4).filter λw=> !Qh b l (wy c w).1 (wy c w).2).map (Ze c)
theorem zkq (b:Bench)(l:List Nat)(c:Nat×Nat):∀ w,w < 4->isSide b l (Ze c w)=(isOreAt b l c.1 c.2&& !Qh b l (wy c w).1 (wy c w).2):=by
 obtain⟨x,y⟩:=c;have ex:(((x+1:Nat):Int) - 1)=(x:Int):=by omega
 have ey:(((y+1:Nat):Int) - 1)=(y:Int):=by omega
 rw[<-zkd];refine zlo ?_ ?_ ?_ ?_
 ·rw[Zf];rfl
 ·rw[Zf];show (Qh b l (((x+1:Nat):Int) - 1) y&& !Qh b l ((x+1:Nat):Int) y)=_;rw[ex];rfl
 ·rw[Zf];show (Qh b l (((x+1:Nat):Int) - 1) (((y+1:Nat):Int) - 1)&& !Qh b l (((x+1:Nat):Int) - 1) ((y+1:Nat):Int))=_;rw[ex,ey];rfl
 ·rw[Zf];show (Qh b l x (((y+1:Nat):Int) - 1)&& !Qh b l ((x:Int) - 1) (((y+1:Nat):Int) - 1))=_;rw[ey];rfl
theorem Xj (c:Nat×Nat):∀ w,w < 4->(Ze c w).way=w:=zlo rfl rfl rfl rfl
theorem G9 {c d:Nat×Nat}{v w:Nat}(hv:v < 4)(hw:w < 4)(e:Ze c v=Ze d w):c=d/\v=w:=by
 have h1:=Xj c v hv;have h2:=Xj d w hw;rw[e,h2]at h1;subst h1;refine⟨?_,rfl⟩;obtain⟨x,y⟩:=c;obtain⟨x',y'⟩:=d
 match w,hv with
 |0,_=>
  injection e with e1 e2
  rw[show x=x' from e1,show y=y' from e2]
 |1,_=>
  injection e with e1 e2
  rw[show x=x' from z9u e1,show y=y' from e2]
 |2,_=>
  injection e with e1 e2
  rw[show x=x' from z9u e1,show y=y' from z9u e2]
 |3,_=>
  injection e with e1 e2
  rw[show x=x' from e1,show y=y' from z9u e2]
theorem zh8 {b:Bench}{l:List Nat}{s:Side}:s∈Jq b l↔isSide b l s=true/\s.way < 4:=by
 unfold Jq;rw[z57];constructor
 ·rintro⟨c,hc,h⟩;obtain⟨w,hw,rfl⟩:=z4h.mp h;obtain⟨h1,h2⟩:=z34.mp hw;have h1:=z4g.mp h1;rw[zkq b l c w h1,Ua.mp hc,h2,Xj c w h1];exact⟨rfl,h1⟩
 ·rintro⟨h1,h2⟩;obtain⟨_,a1,a2⟩:=Qb b l h1 h2;obtain⟨c,e⟩:∃ c,s=Ze c s.way:=by
   obtain⟨x,y,w⟩:=s;dsimp only at a1 a2 h2
   match w,h2 with
   |0,_=>exact⟨(x,y),rfl⟩
   |1,_=>
    have hx:0 < x:=by
     rcases z76 x with hx|hx
     ·subst hx;simp[isSide]at h1
     ·exact hx
    refine⟨(x - 1,y),?_⟩;show _=(⟨x - 1+1,y,1⟩:Side);rw[show x - 1+1=x by omega]
   |2,_=>
    have hy:0 < y:=by
     rcases z76 y with hy|hy
     ·subst hy;simp[isSide]at h1
     ·exact hy
    have hx:=a1 rfl;refine⟨(x - 1,y - 1),?_⟩;show _=(⟨x - 1+1,y - 1+1,2⟩:Side);rw[show x - 1+1=x by omega,show y - 1+1=y by omega]
   |3,_=>
    have hy:=a2 rfl;refine⟨(x,y - 1),?_⟩;show _=(⟨x,y - 1+1,3⟩:Side);rw[show y - 1+1=y by omega]
  rw[e,zkq b l c _ h2,z3f]at h1;exact⟨c,Ua.mpr h1.1,z4h.mpr ⟨s.way,z34.mpr ⟨z4g.mpr h2,h1.2⟩,e.symm⟩⟩
theorem zmn (b:Bench)(l:List Nat):(Jq b l).Nodup:=by
 unfold Jq List.Nodup;rw[z7s];refine⟨λc _=>?_,?_⟩
 ·rw[z8h];refine z6i _ (List.Pairwise.imp_of_mem ?_ z6u);intro v w hv hw h e;have:=(G9 (z4g.mp hv) (z4g.mp hw) e).2;omega
 ·refine z8i ?_ (Gn b l);intro c d h s hs t ht e;obtain⟨v,hv,rfl⟩:=z4h.mp hs;obtain⟨w,hw,rfl⟩:=z4h.mp ht;exact h (G9 (z4g.mp (z34.mp hv).1) (z4g.mp (z34.mp hw).1) e).1
theorem zab (b:Bench)(l:List Nat):(Jq b l).Perm (allSides b l):=Gf (zmn b l) (Yq b l) λs=>by rw[zh8,zr]
theorem W3 {α β:Type}(f:α->List β)(k:Nat)(h:∀ a,(f a).length<=k):∀(l:List α),(l.flatMap f).length<=k*l.length
 |[]=>by simp
 |a::l=>by
  have:=W3 f k h l;have:=h a;rw[z41,z3a,z3l,Nat.mul_add,Nat.mul_one];omega
theorem Z9 (b:Bench)(l:List Nat):(allSides b l).length<=4*b.nx*b.ny:=by
 rw[<-(zab b l).length_eq];have h1:(Jq b l).length<=4*(j1 b l).length:=W3 _ 4 (λc=>by
  rw[z25];exact z32 (z4w _ _) (by rw[z4q];omega)) _
 have h2:=Jj b l;rw[z8k];omega
theorem V6 (b:Bench)(l:List Nat):Vbmiab.outlines b l=(rc (nextSide b l) (4*b.nx*b.ny) (allSides b l) []).map corners:=by
 unfold Vbmiab.outlines;rw[zmf b l (Z9 b l)]
abbrev Pt:=Nat×Nat
def vz (r:List Pt):List (Pt×Pt):=r.zip (r.drop 1++r.take 1)
def up (s:Pt×Pt):Bool:=s.1.1==s.2.1
def lev (s:Pt×Pt):Bool:=s.1.2==s.2.2
def prs:List Pt->List (Pt×Pt)
 |a::b::r=>(a,b)::prs (b::r)
 |_=>[]
theorem zga:∀(r:List Pt) (a c:Pt),prs (r++[a,c])=prs (r++[a])++[(a,c)]
 |[],a,c=>rfl
 |[x],a,c=>rfl
 |x::y::r,a,c=>by
  show (x,y)::prs (y::r++[a,c])=(x,y)::prs (y::r++[a])++[(a,c)];rw[zga (y::r) a c];rfl
theorem zkk:∀(r:List Pt) (a z:Pt),prs ((a::r)++[z])=(a::r).zip (r++[z])
 |[],a,z=>rfl
 |x::r,a,z=>by
  show (a,x)::prs ((x::r)++[z])=_;rw[zkk r x z];rfl
theorem zkj (a:Pt)(r:List Pt):prs (closedUp (a::r))=vz (a::r):=zkk r a a
def zeh:List (Pt×Pt)->Bool
 |s::t::r=>(up s != lev s)&&((up s != up t)&&zeh (t::r))
 |_=>true
theorem zkx:∀(r:List Pt),turns r=zeh (prs r)
 |[]=>rfl
 |[_]=>rfl
 |[_,_]=>rfl
 |a::b::c::r=>by
  show (((a.1==b.1) != (a.2==b.2))&&((a.1==b.1) != (b.1==c.1)&&turns (b::c::r)))=_;rw[zkx (b::c::r)];rfl
def trC:(Pt×Pt)->List (Pt×Pt)->Bool
 |_,[]=>true
 |bf,s::t=>(up s != lev s)&&((up s != up bf)&&trC s t)
theorem zck:∀(t:List (Pt×Pt)) (s z:Pt×Pt),zeh (s::t++[z])=((up s != lev s)&&(trC s t&&(up ((s::t).getLast (z8r _ _)) != up z)))
 |[],s,z=>by
  show ((up s != lev s)&&((up s != up z)&&true))=((up s != lev s)&&(true&&(up s != up z)));rw[z4o,z4n]
 |u::t,s,z=>by
  have ih:=zck t u z;show ((up s != lev s)&&((up s != up u)&&zeh (u::t++[z])))=((up s != lev s)&&(((up u != lev u)&&((up u != up s)&&trC u t))&&(up ((s::u::t).getLast _) != up z)));rw[ih,List.getLast_cons (z8r _ _)];cases up s<;>cases up u<;>cases lev s<;>cases lev u<;>cases trC u t<;>rfl
theorem zae (a c:Pt)(r:List Pt):vz (a::c::r)=(a,c)::(c::r).zip (r++[a]):=rfl
theorem zqf (a c:Pt)(r:List Pt):turns ((a::c::r)++(a::c::r).take 2)=trC ((vz (a::c::r)).getLast (by rw[zae];exact z8r _ _)) (vz (a::c::r)):=by
 have e1:(a::c::r)++(a::c::r).take 2=(a::c::r)++[a,c]:=rfl;rw[e1,zkx,zga,show prs (a::c::r++[a])=vz (a::c::r) from zkj a (c::r)];simp only[zae];rw[zck];show _=((up (a,c) != lev (a,c))&&((up (a,c) != up _)&&trC (a,c) _));generalize ((a,c)::(c::r).zip (r++[a])).getLast _=z;cases up (a,c)<;>cases lev (a,c)<;>cases up z<;>cases trC (a,c) ((c::r).zip (r++[a]))<;>rfl
theorem zh3 (b:Bench){r:List Pt}(h:2<=r.length){z:Pt×Pt}(hz:(vz r).getLast? =some z):isRound b r=(decide (r.length % 2=0)&&(r.all (λp=>decide (p.1<=b.nx/\p.2<=b.ny))&&trC z (vz r))):=by
 match r,h with
 |a::c::r,_=>
  unfold isRound;rw[zqf];rw[List.getLast?_eq_some_getLast (by rw[zae];exact z8r _ _)]at hz;rw[z3p hz];have e:((a::c::r).length % 2==0)=decide ((a::c::r).length % 2=0):=by
   rw[z4l,z4x,z4i]
  rw[e];congr 1;rw[Bool.and_comm]
def upT (s:Pt×Pt):Nat×Nat×Nat:=(s.1.1,min s.1.2 s.2.2,max s.1.2 s.2.2)
theorem Wq:∀(r:List Pt),upright r=((prs r).filter up).map upT
 |[]=>rfl
 |[_]=>rfl
 |p::q::r=>by
  show (if p.1=q.1 then [(p.1,min p.2 q.2,max p.2 q.2)] else [])++upright (q::r)=(((p,q)::prs (q::r)).filter up).map upT;rw[Wq (q::r),z58];by_cases h:p.1=q.1
  ·rw[z3m h,z3m (show up (p,q)=true from z4x.mpr h)];rfl
  ·rw[z3k h,z3k (show ¬up (p,q)=true from λz=>h (z4x.mp z))];rfl
theorem zg0 {r:List Pt}(h:1<=r.length):upright (closedUp r)=((vz r).filter up).map upT:=by
 match r,h with
 |a::r,_=>rw[Wq,zkj]
def zah (rs:List (List Pt)):List (Pt×Pt):=rs.flatMap λr=>(vz r).filter up
def Je (x y:Nat)(s:Pt×Pt):Bool:=decide (s.1.1<=x)&&(decide (min s.1.2 s.2.2<=y)&&decide (y < max s.1.2 s.2.2))
def X0 (us:List (Pt×Pt))(y x:Nat):Nat:=if (us.filter (Je x y)).length % 2=1 then 2 ^ x else 0
def xu (us:List (Pt×Pt))(y n:Nat):Nat:=sumNat ((List.range n).map (X0 us y))
theorem zqn:∀{rs:List (List Pt)},(∀ r,r∈rs->1<=r.length)->(rs.flatMap λr=>upright (closedUp r))=(zah rs).map upT
 |[],_=>rfl
 |r::rs,h=>by
  unfold zah;rw[z41,z41,z3g,zg0 (h r z3e),zqn λq hq=>h q (z3d _ hq)];rfl
theorem zln (b:Bench){rs:List (List Pt)}(h:∀ r,r∈rs->1<=r.length):filled b rs=(List.range b.ny).map λy=>xu (zah rs) y b.nx:=by
 unfold filled;rw[zqn h];apply z5z;intro y _;show sumNat ((xs b).map _)=sumNat ((List.range b.nx).map _);congr 1;apply z5z;intro x _;unfold X0;rw[z74,z25];rfl
theorem Wp:∀(l:List Nat) (z:Nat),sumNat (l++[z])=sumNat l+z
 |[],z=>by show z+0=0+z;omega
 |a::l,z=>by
  have ih:=Wp l z;show a+sumNat (l++[z])=(a+sumNat l)+z;omega
theorem X1 (us:List (Pt×Pt))(y n:Nat):xu us y (n+1)=xu us y n+X0 us y n:=by
 unfold xu;rw[z49,z3g,z3n,z6z,Wp]
def zdc (l:List Nat)(k n:Nat):List Pt:=(List.range n).map λi=>(l.getD (k+2*i) 0,l.getD (k+2*i+1) 0)
theorem za9 (l:List Nat)(at_ f:Nat){n:Nat}(h:l[at_]? =some n):roundsOf (f+1) (l.drop at_)=if n < 4\/l.length < at_+1+2*n then none else (roundsOf f (l.drop (at_+1+2*n))).map λt=>zdc l (at_+1) n::t:=by
 have e:l.drop at_=n::l.drop (at_+1):=by
  obtain⟨hi,e⟩:=z3b.mp h;rw[z5m hi,e]
 have hi:=(z3b.mp h).1;rw[e];show (if n < 4\/(l.drop (at_+1)).length < 2*n then none else (roundsOf f ((l.drop (at_+1)).drop (2*n))).map λt=>(List.range (((l.drop (at_+1)).take (2*n)).length / 2)).map (λi=>(((l.drop (at_+1)).take (2*n)).getD (2*i) 0,((l.drop (at_+1)).take (2*n)).getD (2*i+1) 0))::t)=_;rw[z46];by_cases hc:n < 4\/l.length < at_+1+2*n
 ·rw[z3m hc,z3m (by omega)]
 ·rw[z3k hc,z3k (by omega),jac];have e2:(List.range (((l.drop (at_+1)).take (2*n)).length / 2)).map (λi=>(((l.drop (at_+1)).take (2*n)).getD (2*i) 0,((l.drop (at_+1)).take (2*n)).getD (2*i+1) 0))=zdc l (at_+1) n:=by
   unfold zdc;rw[z35,z46,show min (2*n) (l.length - (at_+1)) / 2=n by omega];apply z5z;intro i hi;have hi:=z4g.mp hi;rw[z3s,z3s,z3s,z3s,z6k (by omega),z6k (by omega),z77,z77,<-Nat.add_assoc]
  rw[e2]
theorem zny (l:List Nat)(k n:Nat):(zdc l k n).length=n:=by
 unfold zdc;rw[z25,z4q]
end Ore
namespace Ore
theorem zhl (l:List Int):PyVbmiab.calls l=match PyFlat.calls PyVbmiab.shape l.length l with
 |none=>none
 |some cs=>some (cs.map PyVbmiab.whole):=rfl
def j3 (p:Nat):List (Int×Int):=
 if p=0 then [(1,7),(1,8),(0,1000000),(0,1000000),(0,1000000)] else if p=1 then [(0,6),(0,7)] else if p=2 then [(0,6),(0,7),(0,1000000000),(0,1000000000)] else if p=3 then [(0,6),(0,7),(0,2)]
 else if p=4 then [(1,7),(1,7),(1,7)] else if p=5 then [(0,1000000)] else if p=7 then [(0,7)] else if p=15 then [(0,127)] else if p=16 then [(0,6),(0,7),(1,2)] else []
def y6 (p:Nat):List (Int×Int×Int×Int):=
 if p=0 then [(3,3,1,7),(0,56,0,1000000000),(0,56,0,1000000000)] else if p=8\/p=11\/p=12\/p=13 then [(0,8,0,127)] else if p=14 then [(0,500,0,500)] else []
theorem zmm {z:Int}{n k:Nat}(h:PyVbmiab.shape z=some (n,k)):∃ p:Nat,p < 18/\z=p/\n=(j3 p).length/\k=(y6 p).length:=by
 unfold PyVbmiab.shape at h;by_cases h0:z=0
 ·rw[z3m h0]at h;cases h;exact⟨0,by decide,h0,rfl,rfl⟩
 rw[z3k h0]at h;by_cases h1:z=1
 ·rw[z3m h1]at h;cases h;exact⟨1,by decide,h1,rfl,rfl⟩
 rw[z3k h1]at h;by_cases h2:z=2
 ·rw[z3m h2]at h;cases h;exact⟨2,by decide,h2,rfl,rfl⟩
 rw[z3k h2]at h;by_cases h3:z=3
 ·rw[z3m h3]at h;cases h;exact⟨3,by decide,h3,rfl,rfl⟩
 rw[z3k h3]at h;by_cases h4:z=4
 ·rw[z3m h4]at h;cases h;exact⟨4,by decide,h4,rfl,rfl⟩
 rw[z3k h4]at h;by_cases h5:z=5
 ·rw[z3m h5]at h;cases h;exact⟨5,by decide,h5,rfl,rfl⟩
 rw[z3k h5]at h;by_cases h6:z=6
 ·rw[z3m h6]at h;cases h;exact⟨6,by decide,h6,rfl,rfl⟩
 rw[z3k h6]at h;by_cases h7:z=7
 ·rw[z3m h7]at h;cases h;exact⟨7,by decide,h7,rfl,rfl⟩
 rw[z3k h7]at h;by_cases h8:z=8
 ·rw[z3m h8]at h;cases h;exact⟨8,by decide,h8,rfl,rfl⟩
 rw[z3k h8]at h;by_cases h9:z=9
 ·rw[z3m h9]at h;cases h;exact⟨9,by decide,h9,rfl,rfl⟩
 rw[z3k h9]at h;by_cases h10:z=10
 ·rw[z3m h10]at h;cases h;exact⟨10,by decide,h10,rfl,rfl⟩
 rw[z3k h10]at h;by_cases h11:z=11
 ·rw[z3m h11]at h;cases h;exact⟨11,by decide,h11,rfl,rfl⟩
 rw[z3k h11]at h;by_cases h12:z=12
 ·rw[z3m h12]at h;cases h;exact⟨12,by decide,h12,rfl,rfl⟩
 rw[z3k h12]at h;by_cases h13:z=13
 ·rw[z3m h13]at h;cases h;exact⟨13,by decide,h13,rfl,rfl⟩
 rw[z3k h13]at h;by_cases h14:z=14
 ·rw[z3m h14]at h;cases h;exact⟨14,by decide,h14,rfl,rfl⟩
 rw[z3k h14]at h;by_cases h15:z=15
 ·rw[z3m h15]at h;cases h;exact⟨15,by decide,h15,rfl,rfl⟩
 rw[z3k h15]at h;by_cases h16:z=16
 ·rw[z3m h16]at h;cases h;exact⟨16,by decide,h16,rfl,rfl⟩
 rw[z3k h16]at h;by_cases h17:z=17
 ·rw[z3m h17]at h;cases h;exact⟨17,by decide,h17,rfl,rfl⟩
 rw[z3k h17]at h;cases h
structure jz where
 place:Nat
 plain:List Int
 lists:List (List Int)
def jz.rows (c:jz):List (List Int):=((c.place:Int)::c.plain)::c.lists
theorem ku {α:Type}{l:List α}{i:Nat}{x:α}(h:l[i]? =some x):l.drop i=x::l.drop (i+1):=by
 obtain⟨hi,e⟩:=z3b.mp h;rw[z5m hi,e]
theorem zmh {l:List Int}{at_ k:Nat}{xs:List (List Int)}{t:List Int}(h:PyFlat.rows (k+1) (l.drop at_)=some (xs,t)):
  ∃(n:Nat) (ys:List (List Int)),l[at_]? =some (n:Int)/\at_+1+n<=l.length/\xs=(l.drop (at_+1)).take n::ys/\PyFlat.rows k (l.drop (at_+1+n))=some (ys,t):=by
 cases e:l[at_]? with
 |none=>
  rw[List.drop_eq_nil_of_le (z8b.mp e)]at h;cases h
 |some z=>
  have hi:=(z3b.mp e).1;rw[ku e]at h;have h':(match (if 0<=z/\z.toNat<=(l.drop (at_+1)).length then some ((l.drop (at_+1)).take z.toNat,(l.drop (at_+1)).drop z.toNat) else none) with
   |none=>none
   |some (x,s)=>match PyFlat.rows k s with
    |none=>none
    |some (xs,t)=>some (x::xs,t))=some (xs,t):=h
  by_cases hc:0<=z/\z.toNat<=(l.drop (at_+1)).length
  ·rw[z3m hc]at h';dsimp only at h';rw[jac]at h';cases e2:PyFlat.rows k (l.drop (at_+1+z.toNat)) with
   |none=>
    rw[e2]at h';cases h'
   |some q=>
    obtain⟨ys,u⟩:=q;rw[e2]at h';cases h';have h3:=hc.2;rw[z46]at h3;exact⟨z.toNat,ys,by rw[Int.toNat_of_nonneg hc.1],by omega,rfl,e2⟩
  ·rw[z3k hc]at h';cases h'
theorem zhm {l:List Int}{at_ f:Nat}{cs:List (List (List Int))}(hlt:at_ < l.length)(h:PyFlat.calls PyVbmiab.shape f (l.drop at_)=some cs):
  ∃(p:Nat) (xs:List (List Int)) (t:List Int) (rest:List (List (List Int))) (g:Nat),p < 18/\l[at_]? =some (p:Int)/\at_+1+(j3 p).length<=l.length/\
   PyFlat.rows (y6 p).length (l.drop (at_+1+(j3 p).length))=some (xs,t)/\f=g+1/\PyFlat.calls PyVbmiab.shape g t=some rest/\
   cs=jz.rows ⟨p,(l.drop (at_+1)).take (j3 p).length,xs⟩::rest:=by
 have e:l[at_]? =some l[at_]:=z28 hlt;rw[ku e]at h;cases f with
 |zero=>cases h
 |succ g=>
  have h':(match PyFlat.call PyVbmiab.shape (l[at_]::l.drop (at_+1)) with
   |none=>none
   |some (c,t)=>match PyFlat.calls PyVbmiab.shape g t with
    |none=>none
    |some cs=>some (c::cs))=some cs:=h
  have hc:PyFlat.call PyVbmiab.shape (l[at_]::l.drop (at_+1))=(match PyVbmiab.shape l[at_] with
   |none=>none
   |some (n,k)=>if (l.drop (at_+1)).length < n then none else match PyFlat.rows k ((l.drop (at_+1)).drop n) with
    |none=>none
    |some (xs,t)=>some ((l[at_]::(l.drop (at_+1)).take n)::xs,t)):=rfl
  rw[hc]at h';cases es:PyVbmiab.shape l[at_] with
  |none=>
   rw[es]at h';cases h'
  |some q=>
   obtain⟨n,k⟩:=q;rw[es]at h';dsimp only at h';obtain⟨p,hp,ep,en,ek⟩:=zmm es;by_cases hl:(l.drop (at_+1)).length < n
   ·rw[z3m hl]at h';cases h'
   ·rw[z3k hl,jac]at h';rw[z46]at hl;cases er:PyFlat.rows k (l.drop (at_+1+n)) with
    |none=>
     rw[er]at h';cases h'
    |some q=>
     obtain⟨xs,t⟩:=q;rw[er]at h';dsimp only at h';cases e2:PyFlat.calls PyVbmiab.shape g t with
     |none=>
      rw[e2]at h';cases h'
     |some rest=>
      rw[e2]at h';cases h';rw[ep]at e ⊢;subst en ek;exact⟨p,xs,t,rest,g,hp,e,by omega,er,rfl,e2,rfl⟩
def xb (z:Int)(r:Int×Int):Bool:=decide (r.1<=z)&&decide (z<=r.2)
def inL (l:List Int)(r:Int×Int×Int×Int):Bool:=xb (l.length:Int) (r.1,r.2.1)&&l.all λz=>xb z (r.2.2.1,r.2.2.2)
def Ji:List Int->List (Int×Int)->Bool
 |z::zs,r::rs=>xb z r&&Ji zs rs
 |_,_=>true
def Zl:List (List Int)->List (Int×Int×Int×Int)->Bool
 |l::ls,r::rs=>inL l r&&Zl ls rs
 |_,_=>true
def yi (c:jz):Bool:=Ji c.plain (j3 c.place)&&Zl c.lists (y6 c.place)
end Ore
namespace Ore
open Vbmiab
theorem yg {o o':Bool}{c:Call}(h:o=o'):ranged o c=if o'=true then some c else none:=by
 subst h;rfl
theorem Y5 (l:List Int)(n:Nat)(z:Int):inL l (0,(n:Int),0,z)=isList l n z:=by
 unfold inL isList xb;congr 1;rw[z4l];simp only[z3f,z4i];omega
theorem znm (nx ny p c d:Int)(w m t:List Int):callOf [[0,nx,ny,p,c,d],w,m,t]=if yi ⟨0,[nx,ny,p,c,d],[w,m,t]⟩=true then some (.bench nx.toNat ny.toNat p.toNat c.toNat d.toNat (nats w) (nats m) (nats t)) else none:=by
 refine yg ?_;show _=((xb nx (1,7)&&(xb ny (1,8)&&(xb p (0,1000000)&&(xb c (0,1000000)&&(xb d (0,1000000)&&true)))))&&(inL w (3,3,1,7)&&(inL m (0,((56:Nat):Int),0,1000000000)&&(inL t (0,((56:Nat):Int),0,1000000000)&&true))));rw[Y5,Y5];have e:inL w (3,3,1,7)=(w.length==3&&w.all isWidth):=by
  unfold inL xb;congr 1;rw[z4l];simp only[z3f,z4i,z4x];omega
 rw[e];unfold within xb;simp only[z4o,Bool.and_assoc]
theorem znn (x y:Int):callOf [[1,x,y]]=if yi ⟨1,[x,y],[]⟩=true then some (.cell x.toNat y.toNat) else none:=by
 refine yg ?_;show _=((xb x (0,6)&&(xb y (0,7)&&true))&&true);simp only[z4o];rfl
theorem zno (x y m t:Int):callOf [[2,x,y,m,t]]=if yi ⟨2,[x,y,m,t],[]⟩=true then some (.change x.toNat y.toNat m.toNat t.toNat) else none:=by
 refine yg ?_;show _=((xb x (0,6)&&(xb y (0,7)&&(xb m (0,1000000000)&&(xb t (0,1000000000)&&true))))&&true);simp only[z4o];rfl
theorem znp (x y k:Int):callOf [[3,x,y,k]]=if yi ⟨3,[x,y,k],[]⟩=true then some (.fix x.toNat y.toNat k.toNat) else none:=by
 refine yg ?_;show _=((xb x (0,6)&&(xb y (0,7)&&(xb k (0,2)&&true)))&&true);simp only[z4o];rfl
theorem znq (a b c:Int):callOf [[4,a,b,c]]=if yi ⟨4,[a,b,c],[]⟩=true then some (.widths a.toNat b.toNat c.toNat) else none:=by
 refine yg ?_;show _=((xb a (1,7)&&(xb b (1,7)&&(xb c (1,7)&&true)))&&true);simp only[z4o];rfl
theorem znr (p:Int):callOf [[5,p]]=if yi ⟨5,[p],[]⟩=true then some (.price p.toNat) else none:=by
 refine yg ?_;show _=((xb p (0,1000000)&&true)&&true);simp only[z4o];rfl
theorem zns (y:Int):callOf [[7,y]]=if yi ⟨7,[y],[]⟩=true then some (.table y.toNat) else none:=by
 refine yg ?_;show _=((xb y (0,7)&&true)&&true);simp only[z4o];rfl
theorem zld (p:Int):callOf [[15,p]]=if yi ⟨15,[p],[]⟩=true then some (.runs p.toNat) else none:=by
 refine yg ?_;show _=((xb p (0,127)&&true)&&true);simp only[z4o];rfl
theorem zle (x y k:Int):callOf [[16,x,y,k]]=if yi ⟨16,[x,y,k],[]⟩=true then some (.forced x.toNat y.toNat k.toNat) else none:=by
 refine yg ?_;show _=((xb x (0,6)&&(xb y (0,7)&&(xb k (1,2)&&true)))&&true);simp only[z4o];rfl
theorem W9 (l:List Int):(true&&(inL l (0,((8:Nat):Int),0,127)&&true))=isList l 8 127:=by
 rw[Y5,z4o,z4n]
theorem znt (l:List Int):callOf [[8],l]=if yi ⟨8,[],[l]⟩=true then some (.check (nats l)) else none:=yg (W9 l).symm
theorem zk9 (l:List Int):callOf [[11],l]=if yi ⟨11,[],[l]⟩=true then some (.losses (nats l)) else none:=yg (W9 l).symm
theorem zla (l:List Int):callOf [[12],l]=if yi ⟨12,[],[l]⟩=true then some (.pieces (nats l)) else none:=yg (W9 l).symm
theorem zlb (l:List Int):callOf [[13],l]=if yi ⟨13,[],[l]⟩=true then some (.outlines (nats l)) else none:=yg (W9 l).symm
theorem zlc (l:List Int):callOf [[14],l]=if yi ⟨14,[],[l]⟩=true then some (.fill (nats l)) else none:=by
 refine yg ?_;show _=(true&&(inL l (0,((500:Nat):Int),0,500)&&true));rw[Y5,z4o,z4n]
def yh (c:jz):Call:=match c.place,c.plain,c.lists with
 |0,[nx,ny,p,q,d],[w,m,t]=>.bench nx.toNat ny.toNat p.toNat q.toNat d.toNat (nats w) (nats m) (nats t)
 |1,[x,y],_=>.cell x.toNat y.toNat
 |2,[x,y,m,t],_=>.change x.toNat y.toNat m.toNat t.toNat
 |3,[x,y,k],_=>.fix x.toNat y.toNat k.toNat
 |4,[a,b,d],_=>.widths a.toNat b.toNat d.toNat
 |5,[p],_=>.price p.toNat
 |6,_,_=>.best
 |7,[y],_=>.table y.toNat
 |8,_,[l]=>.check (nats l)
 |9,_,_=>.count
 |10,_,_=>.free
 |11,_,[l]=>.losses (nats l)
 |12,_,[l]=>.pieces (nats l)
 |13,_,[l]=>.outlines (nats l)
 |14,_,[l]=>.fill (nats l)
 |15,[p],_=>.runs p.toNat
 |16,[x,y,k],_=>.forced x.toNat y.toNat k.toNat
 |_,_,_=>.told
theorem vd {α:Type}{l:List α}(h:l.length=0):l=[]:=List.eq_nil_of_length_eq_zero h
theorem Qg {α:Type}{l:List α}(h:l.length=1):∃ a,l=[a]:=by
 match l,h with
 |[a],_=>exact⟨a,rfl⟩
theorem zvs {α:Type}{l:List α}(h:l.length=2):∃ a b,l=[a,b]:=by
 match l,h with
 |[a,b],_=>exact⟨a,b,rfl⟩
theorem U4 {α:Type}{l:List α}(h:l.length=3):∃ a b c,l=[a,b,c]:=by
 match l,h with
 |[a,b,c],_=>exact⟨a,b,c,rfl⟩
theorem zvt {α:Type}{l:List α}(h:l.length=4):∃ a b c d,l=[a,b,c,d]:=by
 match l,h with
 |[a,b,c,d],_=>exact⟨a,b,c,d,rfl⟩
theorem zyb {α:Type}{l:List α}(h:l.length=5):∃ a b c d e,l=[a,b,c,d,e]:=by
 match l,h with
 |[a,b,c,d,e],_=>exact⟨a,b,c,d,e,rfl⟩
structure jz.Form (c:jz):Prop where
 place:c.place < 18
 plain:c.plain.length=(j3 c.place).length
 lists:c.lists.length=(y6 c.place).length
theorem J8 {M:jz->Prop}(m0:∀ a b c d e w m t,M ⟨0,[a,b,c,d,e],[w,m,t]⟩)(m1:∀ a b,M ⟨1,[a,b],[]⟩)(m2:∀ a b c d,M ⟨2,[a,b,c,d],[]⟩)(m3:∀ a b c,M ⟨3,[a,b,c],[]⟩)(m4:∀ a b c,M ⟨4,[a,b,c],[]⟩)(m5:∀ a,M ⟨5,[a],[]⟩)(m6:M ⟨6,[],[]⟩)(m7:∀ a,M ⟨7,[a],[]⟩)(m8:∀ a,M ⟨8,[],[a]⟩)(m9:M ⟨9,[],[]⟩)(m10:M ⟨10,[],[]⟩)
  (m11:∀ a,M ⟨11,[],[a]⟩)(m12:∀ a,M ⟨12,[],[a]⟩)(m13:∀ a,M ⟨13,[],[a]⟩)(m14:∀ a,M ⟨14,[],[a]⟩)(m15:∀ a,M ⟨15,[a],[]⟩)(m16:∀ a b c,M ⟨16,[a,b,c],[]⟩)(m17:M ⟨17,[],[]⟩):∀{c:jz},c.Form->M c:=by
 intro c h;obtain⟨p,pl,ls⟩:=c;obtain⟨h1,h2,h3⟩:=h;dsimp only at h1 h2 h3
 match p,h1 with
 |0,_=>
  obtain⟨a,b,c,d,e,rfl⟩:=zyb h2;obtain⟨w,m,t,rfl⟩:=U4 h3;exact m0 a b c d e w m t
 |1,_=>
  obtain⟨a,b,rfl⟩:=zvs h2;obtain rfl:=vd h3;exact m1 a b
 |2,_=>
  obtain⟨a,b,c,d,rfl⟩:=zvt h2;obtain rfl:=vd h3;exact m2 a b c d
 |3,_=>
  obtain⟨a,b,c,rfl⟩:=U4 h2;obtain rfl:=vd h3;exact m3 a b c
 |4,_=>
  obtain⟨a,b,c,rfl⟩:=U4 h2;obtain rfl:=vd h3;exact m4 a b c
 |5,_=>
  obtain⟨a,rfl⟩:=Qg h2;obtain rfl:=vd h3;exact m5 a
 |6,_=>
  obtain rfl:=vd h2;obtain rfl:=vd h3;exact m6
 |7,_=>
  obtain⟨a,rfl⟩:=Qg h2;obtain rfl:=vd h3;exact m7 a
 |8,_=>
  obtain rfl:=vd h2;obtain⟨w,rfl⟩:=Qg h3;exact m8 w
 |9,_=>
  obtain rfl:=vd h2;obtain rfl:=vd h3;exact m9
 |10,_=>
  obtain rfl:=vd h2;obtain rfl:=vd h3;exact m10
 |11,_=>
  obtain rfl:=vd h2;obtain⟨w,rfl⟩:=Qg h3;exact m11 w
 |12,_=>
  obtain rfl:=vd h2;obtain⟨w,rfl⟩:=Qg h3;exact m12 w
 |13,_=>
  obtain rfl:=vd h2;obtain⟨w,rfl⟩:=Qg h3;exact m13 w
 |14,_=>
  obtain rfl:=vd h2;obtain⟨w,rfl⟩:=Qg h3;exact m14 w
 |15,_=>
  obtain⟨a,rfl⟩:=Qg h2;obtain rfl:=vd h3;exact m15 a
 |16,_=>
  obtain⟨a,b,c,rfl⟩:=U4 h2;obtain rfl:=vd h3;exact m16 a b c
 |17,_=>
  obtain rfl:=vd h2;obtain rfl:=vd h3;exact m17
 |n+18,h=>exact absurd h (by omega)
theorem zlf {c:jz}(h:c.Form):callOf c.rows=if yi c=true then some (yh c) else none:=
 J8 (M:=λc=>callOf c.rows=if yi c=true then some (yh c) else none) znm znn zno znp znq znr rfl zns znt rfl rfl zk9 zla zlb zlc zld zle rfl h
theorem zja {c:jz}(h:c.Form):PyVbmiab.whole c.rows=c.rows:=
 J8 (M:=λc=>PyVbmiab.whole c.rows=c.rows) (λ_ _ _ _ _ _ _ _=>rfl) (λ_ _=>rfl) (λ_ _ _ _=>rfl) (λ_ _ _=>rfl) (λ_ _ _=>rfl) (λ_=>rfl) rfl (λ_=>rfl) (λ_=>rfl) rfl rfl (λ_=>rfl) (λ_=>rfl) (λ_=>rfl) (λ_=>rfl) (λ_=>rfl) (λ_ _ _=>rfl) rfl h
theorem zea {l:List Int}(h:VbmiabNeutral.row l=true):l.length<=500:=by
 unfold VbmiabNeutral.row at h;rw[z3f]at h;exact z30 h.1
theorem Qa {l:List Int}(h:VbmiabNeutral.row l=true):∀ x,x∈[l]->x.length<=500:=λx hx=>by
 rw[z37.mp hx];exact zea h
theorem xw (x:List Int)(h:x∈([]:List (List Int))):x.length<=500:=by cases h
theorem zk6 {c:jz}(h:c.Form):VbmiabNeutral.asked1 c.rows=true->∀ l,l∈c.lists->l.length<=500:=by
 refine J8 (M:=λc=>VbmiabNeutral.asked1 c.rows=true->∀ l,l∈c.lists->l.length<=500) ?_ (λ_ _ _=>xw) (λ_ _ _ _ _=>xw) (λ_ _ _ _=>xw) (λ_ _ _ _=>xw) (λ_ _=>xw) (λ_=>xw) (λ_ _=>xw) (λ_ h=>Qa h) (λ_=>xw) (λ_=>xw) (λ_ h=>Qa h) (λ_ h=>Qa h) (λ_ h=>Qa h) (λ_ h=>Qa h) (λ_ _=>xw) (λ_ _ _ _=>xw) (λ_=>xw) h;intro a b c d e w m t h x hx;have h:(VbmiabNeutral.whole60 a&&(VbmiabNeutral.whole60 b&&(VbmiabNeutral.whole60 c&&(VbmiabNeutral.whole60 d&&(VbmiabNeutral.whole60 e&&(VbmiabNeutral.row w&&(VbmiabNeutral.row m&&VbmiabNeutral.row t)))))))=true:=h;simp only[z3f]at h;have h:=h.2.2.2.2.2;rcases z3t.mp hx with rfl|hx
 ·exact zea h.1
 ·rcases z3t.mp hx with rfl|hx
  ·exact zea h.2.1
  ·exact Qa h.2.2 x hx
def qr (s:State)(c:jz):State×List Int:=if yi c=true then step s (yh c) else (s,[-1])
theorem zss {c:jz}(h:c.Form)(s:State):VbmiabNeutral.step s c.rows=qr s c:=by
 show (match callOf c.rows with
  |none=>(s,[-1])
  |some c=>step s c)=_
 rw[zlf h];unfold qr;cases yi c<;>rfl
theorem Xa {α:Type}(g:Nat->α)(k:Nat):∀ n,((List.range n).flatMap λy=>(List.range k).map λx=>g (y*k+x))=(List.range (n*k)).map g
 |0=>by simp
 |n+1=>by
  rw[z49,z5r,Xa g k n,Nat.succ_mul,List.range_add,z3g,z41,z68,z31,z4f];rfl
theorem Vz (b:Bench):(qi b).map (λc=>place b c.1 c.2)=List.range (b.nx*b.ny):=by
 have h:=Xa (λi=>i) b.nx b.ny;rw[List.map_id']at h;rw[z6y b.nx,<-h];unfold qi;rw[z9x];congr 1;funext y;rw[z4f];rfl
def Jz (b:Bench)(i:Nat):Cell:=b.cells.getD i ⟨0,0⟩
def zj3 (b:Bench)(i:Nat):Int:=max (asOre b (Jz b i)) (asWaste b (Jz b i))
theorem Xk:∀(l:List Int),sumInt l=l.sum
 |[]=>rfl
 |a::l=>by
  rw[z6b,<-Xk l];rfl
theorem zra (b:Bench):free b=((List.range (b.nx*b.ny)).map (zj3 b)).sum:=by
 unfold free;rw[Xk,z6y,<-Xa (zj3 b) b.nx b.ny];rfl
def xm (b:Bench)(i:Nat):Bool:=decide (asWaste b (Jz b i) < asOre b (Jz b i))
theorem zmd {b:Bench}{c d:Nat×Nat}(hc:c∈qi b)(hd:d∈qi b)(e:place b c.1 c.2=place b d.1 d.2):c=d:=by
 have h1:=Y6.mp hc;have h2:=Y6.mp hd;obtain⟨x,y⟩:=c;obtain⟨u,v⟩:=d;unfold place at e;dsimp only at*;have e1:x=(y*b.nx+x) % b.nx:=by rw[z6y,Nat.mul_add_mod,z7u h1.1]
 have e2:u=(v*b.nx+u) % b.nx:=by rw[z6y,Nat.mul_add_mod,z7u h2.1]
 have ex:x=u:=by rw[e1,e2,e]
 subst ex;have:y*b.nx=v*b.nx:=by omega
 have hn:0 < b.nx:=by omega
 rw[Nat.eq_of_mul_eq_mul_right hn this]
def vy (b:Bench)(l:List Nat):List Nat:=(j1 b l).map λc=>place b c.1 c.2
def v9 (b:Bench)(l:List Nat):List Nat:=(List.range (b.nx*b.ny)).filter λi=> !(vy b l).contains i
def xh (b:Bench)(ps:List Nat):Nat×Nat:=((ps.map λi=>(Jz b i).mass).sum,(ps.map λi=>(Jz b i).metal).sum)
theorem Ys (b:Bench)(f:Nat->Nat->Bool):sumCells b f=xh b (((qi b).filter λc=>f c.1 c.2).map λc=>place b c.1 c.2):=by
 unfold sumCells xh;dsimp only;rw[z4f,z4f,qo,qo];rfl
theorem Gm (b:Bench)(l:List Nat):j1 b l=(qi b).filter λc=>goesAsOre l c.1 c.2:=by
 unfold j1;apply z9q;intro c hc;have h:=Y6.mp hc;unfold isOreAt;rw[z3u h.1,z3u h.2];rfl
theorem zd4 (b:Bench)(f:Nat->Bool):(List.range (b.nx*b.ny)).filter f=((qi b).filter λc=>f (place b c.1 c.2)).map λc=>place b c.1 c.2:=by
 rw[<-Vz,z74];rfl
theorem zrk (b:Bench)(l:List Nat):(v9 b l).filter (xm b)=((qi b).filter λc=>alone b c.1 c.2&& !goesAsOre l c.1 c.2).map λc=>place b c.1 c.2:=by
 unfold v9;rw[z78,zd4];congr 1;apply z9q;intro c hc;congr 1;congr 1;rw[z4l,List.contains_iff_mem];unfold vy;rw[z4h,Gm];constructor
 ·rintro⟨d,hd,e⟩;obtain⟨h1,h2⟩:=z34.mp hd;rw[<-zmd h1 hc e];exact h2
 ·intro h;exact⟨c,z34.mpr ⟨hc,h⟩,rfl⟩
theorem zu7 (b:Bench)(l:List Nat):(vy b l).filter (λi=> !xm b i)=((qi b).filter λc=> !alone b c.1 c.2&&goesAsOre l c.1 c.2).map λc=>place b c.1 c.2:=by
 unfold vy;rw[z74,Gm,z78];rfl
theorem zlx (b:Bench)(l:List Nat):losses b l=(xh b (vy b l),(xh b ((v9 b l).filter (xm b)),(xh b ((vy b l).filter λi=> !xm b i),free b - worth b l))):=by
 unfold losses;rw[Ys,Ys,Ys,zrk,zu7];unfold vy;rw[Gm]
theorem zfk:∀(l:List Nat),((l.sum:Nat):Int)=(l.map λn:Nat=>(n:Int)).sum
 |[]=>rfl
 |a::l=>by
  rw[z6b,z3n,z6b,<-zfk l,z5h]
section
variable {C:Type}[DecidableEq C]{nx:C->C}{L:List C}(cl:∀ s,s∈L->nx s∈L)(inj:∀ s t,s∈L->t∈L->nx s=nx t->s=t)
include cl inj in
theorem Gv {F:Nat}(hF:L.length<=F):∀(t P:List C),(∀ s,s∈t->s∈L)->(∀ u,u∈L->nx u∈P->u∈P)->(rc nx F t P).flatten.Nodup/\∀ c,c∈(rc nx F t P).flatten->c∈L/\c∉P
 |[],P,_,_=>⟨z7o,λ_ h=>nomatch h⟩
 |s::t,P,ht,hP=>by
  have ht':=λu hu=>ht u (z3d _ hu);by_cases hs:s∈P
  ·have e:rc nx F (s::t) P=rc nx F t P:=z3m hs;rw[e];exact Gv hF t P ht' hP
  ·have sL:=ht s z3e;obtain⟨n,hn1,hper⟩:=zim cl inj sL;have er:Jv nx s F s=Jp nx s n:=zct hper (by omega);have e:rc nx F (s::t) P=Jp nx s n::rc nx F t (P++Jp nx s n):=by rw[<-er];exact z3k hs
   rw[e,z6l];obtain⟨h1,h2⟩:=Gv hF t (P++Jp nx s n) ht' (λu hu h=>by
    rcases z33.mp h with h|h
    ·exact z4b _ (hP u hu h)
    ·exact z38 _ (zd7 cl inj sL hu hper h))
   have nP:∀ k,it nx k s∉P:=by
    intro k
    induction k with
    |zero=>exact hs
    |succ k ih=>exact λz=>ih (hP _ (J9 cl sL k) z)
   refine⟨z6c.mpr ⟨?_,h1,λa ha b hb z=>(h2 b hb).2 (z38 _ (z▸ha))⟩,λc hc=>?_⟩
   ·refine z52 λz=>?_;obtain⟨i,j,h1,h2,e⟩:=zde z;have:=W5 cl inj sL i (j - i) (by rw[show i+(j - i)=j by omega];exact e);exact hper.2.2 (j - i) (by omega) (by omega) this
   ·rcases z33.mp hc with hc|hc
    ·obtain⟨k,_,rfl⟩:=Zo.mp hc;exact⟨J9 cl sL k,nP k⟩
    ·exact⟨(h2 c hc).1,λz=>(h2 c hc).2 (z4b _ z)⟩
end
theorem zhq (r:List Side):(corners r).length<=r.length:=by
 unfold corners;rw[z25];refine z32 (z4w _ _) ?_;rw[z60];omega
theorem zfn (rs:List (List Side)):((rs.map corners).map List.length).sum<=rs.flatten.length:=by
 induction rs with
 |nil=>exact z3c _
 |cons r rs ih=>
  rw[z3n,z3n,z6b,z6l,z3a];have:=zhq r;omega
theorem zdt (b:Bench)(l:List Nat):((Vbmiab.outlines b l).map List.length).sum<=4*b.nx*b.ny:=by
 rw[V6];refine z32 (zfn _) ?_;obtain⟨h1,h2⟩:=Gv (nx:=nextSide b l) (L:=allSides b l) (λs h=>zr.mpr (wn b l (zr.mp h).1 (zr.mp h).2)) (λs t hs ht e=>Yb b l (zr.mp hs).1 (zr.mp hs).2 (zr.mp ht).1 (zr.mp ht).2 e) (Z9 b l) (allSides b l) [] (λ_ h=>h) (λu _ h=>by cases h);refine z32 (y8 h1 λc hc=>(h2 c hc).1) (Z9 b l)
end Ore
namespace Zlt
open PySem PyProof.Rows
section
variable {prog:Program}{w:World}{A:Around}{E:Value->Shared->Prop}{s:Shared}
theorem zid {it t:Addr}{i:Nat}{its:Array Value}{x:Value}{Q:Value->Shared->Prop}(hit:IsTupIter s.heap it t i)(ht:IsTup s.heap t its)(hx:its[i]? =some x)
  (hQ:∀ h',IsTupIter h' it t (i+1)->Heap.SameBut it s.heap h'->Q x {s with heap:=h'}):wpAny (model prog w) A (Builtin.SmallTypes.nextOf (.ref it)) Q E s:=by
 obtain⟨ob,hob,hcl,hda⟩:=id hit;obtain⟨ot,hot,_,nt,hdt⟩:=ht;unfold Builtin.SmallTypes.nextOf;refine z26 (z5l (name:=Str.ofString "__next__") hit.typeIs z83 (z50 z83 hit.typeIs entry_tupleiter_next ?_ (args_tupleiter_next _)));show wpAny _ _ (field (.ref it) 0 >>= _) _ _ s;refine z26 (z5n hob hda (x:=.ref t) rfl ?_);show wpAny _ _ (if (Value.ref t==Value.none)=true then _ else _) _ _ s;rw[z3k (show ¬(Value.ref t==Value.none)=true from z3w)];show wpAny _ _ (field (.ref it) 1 >>= _) _ _ s;refine z26 (z5n hob hda (x:=.int i 0) rfl ?_);show wpAny _ _ (seqItems? (.ref t) >>= _) _ _ s;refine z26 (z5f hot hdt ?_);simp only[z3i,hx];refine z26 (z9s hob hda (by simp) (z3h ⟨x,rfl,z3h (hQ _ ?_ (z8j ..))⟩));exact⟨_,z5j _ hob (Obj.isFreed_of_fields (z8q hda _)),(Obj.cls_mapFields ..).trans hcl,by rw[z8q hda];simp[rawInt]⟩
theorem zl5 {it t:Addr}{i:Nat}{its:Array Value}{Q:Value->Shared->Prop}(hh:A.handled=none)(hit:IsTupIter s.heap it t i)(ht:IsTup s.heap t its)(hx:its[i]? =none)
  (hE:∀ h' e,Heap.ExtBut it s.heap h'->(∃ o,h'.get? e=some o/\o.cls=.type "StopIteration")->E (.ref e) {s with heap:=h'}):wpAny (model prog w) A (Builtin.SmallTypes.nextOf (.ref it)) Q E s:=by
 obtain⟨ob,hob,hcl,hda⟩:=id hit;obtain⟨ot,hot,_,nt,hdt⟩:=ht;unfold Builtin.SmallTypes.nextOf;refine z26 (z5l (name:=Str.ofString "__next__") hit.typeIs z83 (z50 z83 hit.typeIs entry_tupleiter_next ?_ (args_tupleiter_next _)));show wpAny _ _ (field (.ref it) 0 >>= _) _ _ s;refine z26 (z5n hob hda (x:=.ref t) rfl ?_);show wpAny _ _ (if (Value.ref t==Value.none)=true then _ else _) _ _ s;rw[z3k (show ¬(Value.ref t==Value.none)=true from z3w)];show wpAny _ _ (field (.ref it) 1 >>= _) _ _ s;refine z26 (z5n hob hda (x:=.int i 0) rfl ?_);show wpAny _ _ (seqItems? (.ref t) >>= _) _ _ s;refine z26 (z5f hot hdt ?_);simp only[z3i,hx];refine z26 (z9j (z26 (z9s hob hda (by simp) ?_)));show wpAny _ _ (newExc (.type "StopIteration") [] >>= _) _ _ _;refine z26 ?_;simp only[newExc,newTuple];refine z26 (z7b ?_ (by size_fits));refine z26 (m:=firstArgMember _ _) (wpAny_of_eq (a:=Value.none) (by first|rfl|(simp only[firstArgMember];rfl)) ?_);refine z7b ?_ (by size_fits);simp only[raiseNew];refine z26 (wpAny_handled ?_)
 first|rw[show A.in1.handled=none from hh]|rw[hh]
 refine z26 (z3h (wpAny_throw ?_));exact hE _ _ (((z8j ..).extBut.push _).push _) ⟨_,z3o _ rfl,rfl⟩
theorem zag {h h':Heap}{a b t:Addr}{i:Nat}(x:IsTupIter h a t i)(hs:Heap.ExtBut b h h')(hab:a≠b):IsTupIter h' a t i:=
 let ⟨o,e,r⟩:=x;⟨o,hs a o hab e,r⟩
theorem zmr {h h':Heap}{b t:Addr}{its:Array Value}(x:IsTup h t its)(hs:Heap.ExtBut b h h')(hab:t≠b):IsTup h' t its:=
 let ⟨o,e,r⟩:=x;⟨o,hs t o hab e,r⟩
theorem zqv {z TI TO i1 i2 l1 l2:Addr}{k1 k2:Nat}{xs ys:Array Value}{x y a b:Value}{Q:Value->Shared->Prop}(D:ZipApart z TI TO i1 i2 l1 l2)(hz:IsZip s.heap z TI TO .none)(hTI:IsPair s.heap TI (.ref i1) (.ref i2))(hTO:IsPair s.heap TO a b)
  (h1:s.heap.IsListIter i1 l1 k1)(h2:IsTupIter s.heap i2 l2 k2)(hl1:s.heap.IsList l1 xs)(hl2:IsTup s.heap l2 ys)(hx:xs[k1]? =some x)(hy:ys[k2]? =some y)
  (hQ:∀ h',IsZip h' z TI TO (rawInt s.heap.objs.size)->IsPair h' TO x y->h'.IsListIter i1 l1 (k1+1)->IsTupIter h' i2 l2 (k2+1)->IsPair h' s.heap.objs.size x y->h'.objs.size=s.heap.objs.size+1->
   (∀ c o,c≠z->c≠TO->c≠i1->c≠i2->s.heap.get? c=some o->h'.get? c=some o)->Q (.ref s.heap.objs.size) {s with heap:=h'}):
  wpAny (model prog w) A (Builtin.«zip.__next__» ⟨[.ref z],[]⟩) (λfin s'=>∃ v,fin=.done (.ret v)/\Q v s') E s:=by
 show wpAny _ _ (field (.ref z) 2 >>= _) _ _ _;refine z26 (z5n hz rfl (x:=.bool false) rfl ?_);show wpAny _ _ (field (.ref z) 3 >>= _) _ _ _;refine z26 (z5n hz rfl (x:=.ref TI) rfl ?_);refine z26 (z5f hTI rfl ?_);show wpAny _ _ (Builtin.SmallTypes.ownedTupleIsFree (.ref z) >>= _) _ _ _;refine z26 ?_;unfold Builtin.SmallTypes.ownedTupleIsFree;refine z26 (z5n hz rfl (x:=.none) rfl (z3h ?_));simp only[z6d];refine z26 (z9j ?_);refine z26 (z5n hz rfl (x:=.ref TO) rfl ?_);refine z26 (z6j hz (by simp) λg1 z1 e1=>?_);replace z1:IsZip g1 z TI TO .ellipsis:=z1;refine z26 ?_;simp only[List.zipIdx_cons,List.zipIdx_nil,z7i,z67];refine z26 (z26 (z90 ?_));show wpAny _ _ (Builtin.SmallTypes.nextOf (.ref i1) >>= _) _ _ _;refine z26 (z7w (h1.extBut e1.extBut D.i1z) (hl1.extBut e1.extBut D.l1z) hx λg2 a2 e2=>z3h ?_);have t2:IsPair g2 TO a b:=e2.extBut _ _ D.TOi1 (e1.extBut _ _ D.TOz hTO);refine z26 (z5f t2 rfl ?_);refine z26 (z9k t2 λg3 t3 e3=>?_);replace t3:IsPair g3 TO x b:=t3;refine z26 (z7y (z3h ?_));refine z26 (z26 (z90 ?_));show wpAny _ _ (Builtin.SmallTypes.nextOf (.ref i2) >>= _) _ _ _;refine z26 (zid (zag (zag (zag h2 e1.extBut D.i2z) e2.extBut D.i12.symm) e3.extBut D.TOi2.symm) (zmr (zmr (zmr hl2 e1.extBut D.l2z) e2.extBut D.l2i1) e3.extBut D.l2TO) hy λg4 b4 e4=>z3h ?_);have t4:IsPair g4 TO x b:=e4.extBut _ _ D.TOi2 t3;refine z26 (z5f t4 rfl ?_);refine z26 (z9k t4 λg5 t5 e5=>?_);replace t5:IsPair g5 TO x y:=t5;refine z26 (z7y (z3h (z3h ?_)));refine z26 (z5f t5 rfl ?_);refine z26 (wpAny_newTuple ?_);have sz5:g5.objs.size=s.heap.objs.size:=by rw[e5.1,e4.1,e3.1,e2.1,e1.1]
 have z5:IsZip g5 z TI TO .ellipsis:=e5.extBut _ _ D.TOz.symm (e4.extBut _ _ D.i2z.symm (e3.extBut _ _ D.TOz.symm (e2.extBut _ _ D.i1z.symm z1)));have k5:∀ c o,c≠z->c≠TO->c≠i1->c≠i2->s.heap.get? c=some o->g5.get? c=some o:=λc o c1 c2 c3 c4 e=>e5.extBut _ _ c2 (e4.extBut _ _ c4 (e3.extBut _ _ c2 (e2.extBut _ _ c3 (e1.extBut _ _ c1 e))));have a5:g5.IsListIter i1 l1 (k1+1):=((a2.extBut e3.extBut D.TOi1.symm).extBut e4.extBut D.i12).extBut e5.extBut D.TOi1.symm;have b5:IsTupIter g5 i2 l2 (k2+1):=zag b4 e5.extBut D.TOi2.symm;have zlt:z < g5.objs.size:=z3j z5;show wpAny _ _ (Builtin.SmallTypes.ownedTupleHandOut (.ref z) (.ref g5.objs.size) >>= _) _ _ _;refine z26 ?_;unfold Builtin.SmallTypes.ownedTupleHandOut;have z6:IsZip (g5.push {cls:=.type "tuple",data:=.seq #[x,y]}) z TI TO .ellipsis:=z29 _ z5;refine z26 (z6j z6 (by simp) λg7 z7 e7=>?_);replace z7:IsZip g7 z TI TO (rawInt g5.objs.size):=z7;refine z6j z7 (by simp) λg8 z8 e8=>?_;replace z8:IsZip g8 z TI TO (rawInt g5.objs.size):=z8;have upw:∀ c o,c≠z->g5.get? c=some o->g8.get? c=some o:=λc o c1 e=>e8.extBut _ _ c1 (e7.extBut _ _ c1 (z29 _ e));have t8:IsPair g8 g5.objs.size x y:=e8.extBut _ _ (z4e zlt) (e7.extBut _ _ (z4e zlt) (z3o _ rfl));have sz8:g8.objs.size=g5.objs.size+1:=by rw[e8.1,e7.1,z4v]
 rw[sz5]at z8 t8 sz8;refine z3h ⟨_,rfl,?_⟩;show Q (.ref g5.objs.size) _;rw[sz5];exact hQ g8 z8 (upw _ _ D.TOz t5) (a5.at λo e=>upw _ o D.i1z e) (let ⟨o,e,r⟩:=b5;⟨o,upw _ o D.i2z e,r⟩) t8 sz8 λc o c1 c2 c3 c4 e=>upw c o c1 (k5 c o c1 c2 c3 c4 e)
theorem zs5 {z TI TO i1 i2 l1 l2:Addr}{k1 k2:Nat}{xs ys:Array Value}{a b:Value}{Q:Fin->Shared->Prop}(hh:A.handled=none)(D:ZipApart z TI TO i1 i2 l1 l2)(hz:IsZip s.heap z TI TO .none)(hTI:IsPair s.heap TI (.ref i1) (.ref i2))(hTO:IsPair s.heap TO a b)
  (h1:s.heap.IsListIter i1 l1 k1)(h2:IsTupIter s.heap i2 l2 k2)(hl1:s.heap.IsList l1 xs)(hl2:IsTup s.heap l2 ys)(hend:xs[k1]? =none\/ys[k2]? =none)
  (hE:∀ h' e,(∀ c o,c≠z->c≠TO->c≠i1->c≠i2->s.heap.get? c=some o->h'.get? c=some o)->(∃ o,h'.get? e=some o/\o.cls=.type "StopIteration")->E (.ref e) {s with heap:=h'}):
  wpAny (model prog w) A (Builtin.«zip.__next__» ⟨[.ref z],[]⟩) Q E s:=by
 show wpAny _ _ (field (.ref z) 2 >>= _) _ _ _;refine z26 (z5n hz rfl (x:=.bool false) rfl ?_);show wpAny _ _ (field (.ref z) 3 >>= _) _ _ _;refine z26 (z5n hz rfl (x:=.ref TI) rfl ?_);refine z26 (z5f hTI rfl ?_);show wpAny _ _ (Builtin.SmallTypes.ownedTupleIsFree (.ref z) >>= _) _ _ _;refine z26 ?_;unfold Builtin.SmallTypes.ownedTupleIsFree;refine z26 (z5n hz rfl (x:=.none) rfl (z3h ?_));simp only[z6d];refine z26 (z9j ?_);refine z26 (z5n hz rfl (x:=.ref TO) rfl ?_);refine z26 (z6j hz (by simp) λg1 z1 e1=>?_);replace z1:IsZip g1 z TI TO .ellipsis:=z1;refine z26 ?_;simp only[List.zipIdx_cons,List.zipIdx_nil,z7i,z67];refine z26 (z26 (z90 ?_));show wpAny _ _ (Builtin.SmallTypes.nextOf (.ref i1) >>= _) _ _ _;cases hx:xs[k1]? with
 |none=>
  refine z26 (wpAny_nextOf_list_end hh (h1.extBut e1.extBut D.i1z) (hl1.extBut e1.extBut D.l1z) hx λg2 e e2 he=>?_);obtain⟨oe,hoe,hce⟩:=he;have z2:IsZip g2 z TI TO .ellipsis:=e2 _ _ D.i1z.symm z1;have ez:e≠z:=λq=>by subst q;rw[z2]at hoe;cases hoe;simp at hce
  refine z6j z2 (by simp) λg3 _ e3=>hE g3 e (λc o c1 _ c3 _ q=>e3.extBut _ _ c1 (e2 _ _ c3 (e1.extBut _ _ c1 q))) ⟨oe,e3.extBut _ _ ez hoe,hce⟩
 |some x=>
  have hy:ys[k2]? =none:=by rcases hend with h|h;rw[hx]at h;cases h;exact h
  refine z26 (z7w (h1.extBut e1.extBut D.i1z) (hl1.extBut e1.extBut D.l1z) hx λg2 a2 e2=>z3h ?_);have t2:IsPair g2 TO a b:=e2.extBut _ _ D.TOi1 (e1.extBut _ _ D.TOz hTO);refine z26 (z5f t2 rfl ?_);refine z26 (z9k t2 λg3 t3 e3=>?_);refine z26 (z7y (z3h ?_));refine z26 (z26 (z90 ?_));show wpAny _ _ (Builtin.SmallTypes.nextOf (.ref i2) >>= _) _ _ _;refine z26 (zl5 hh (zag (zag (zag h2 e1.extBut D.i2z) e2.extBut D.i12.symm) e3.extBut D.TOi2.symm) (zmr (zmr (zmr hl2 e1.extBut D.l2z) e2.extBut D.l2i1) e3.extBut D.l2TO) hy λg4 e e4 he=>?_);obtain⟨oe,hoe,hce⟩:=he;have z4:IsZip g4 z TI TO .ellipsis:=e4 _ _ D.i2z.symm (e3.extBut _ _ D.TOz.symm (e2.extBut _ _ D.i1z.symm z1));have ez:e≠z:=λq=>by subst q;rw[z4]at hoe;cases hoe;simp at hce
  refine z6j z4 (by simp) λg5 _ e5=>hE g5 e (λc o c1 c2 c3 c4 q=>e5.extBut _ _ c1 (e4 _ _ c4 (e3.extBut _ _ c2 (e2.extBut _ _ c3 (e1.extBut _ _ c1 q))))) ⟨oe,e5.extBut _ _ ez hoe,hce⟩
theorem nextZ_item {z TI TO i1 i2 l1 l2:Addr}{k1 k2:Nat}{xs ys:Array Value}{x y a b:Value}{Q:Option Value->Shared->Prop}(D:ZipApart z TI TO i1 i2 l1 l2)(hz:IsZip s.heap z TI TO .none)(hTI:IsPair s.heap TI (.ref i1) (.ref i2))(hTO:IsPair s.heap TO a b)
  (h1:s.heap.IsListIter i1 l1 k1)(h2:IsTupIter s.heap i2 l2 k2)(hl1:s.heap.IsList l1 xs)(hl2:IsTup s.heap l2 ys)(hx:xs[k1]? =some x)(hy:ys[k2]? =some y)
  (hQ:∀ h',IsZip h' z TI TO (rawInt s.heap.objs.size)->IsPair h' TO x y->h'.IsListIter i1 l1 (k1+1)->IsTupIter h' i2 l2 (k2+1)->IsPair h' s.heap.objs.size x y->h'.objs.size=s.heap.objs.size+1->
   (∀ c o,c≠z->c≠TO->c≠i1->c≠i2->s.heap.get? c=some o->h'.get? c=some o)->Q (some (.ref s.heap.objs.size)) {s with heap:=h'}):wpAny (model prog w) A (pyNext (.ref z)) Q E s:=by
 have hT:s.TypeIs (.ref z) "zip":=⟨_,hz,rfl⟩;unfold pyNext;exact z26 (z79 (z5l (name:=Str.ofString "__next__") hT z6t (z50 z6t hT z87 (zqv D hz hTI hTO h1 h2 hl1 hl2 hx hy λh' a1 a2 a3 a4 a5 a6 a7=>z3h (hQ h' a1 a2 a3 a4 a5 a6 a7)) (z82 _))))
theorem nextZ_end {z TI TO i1 i2 l1 l2:Addr}{k1 k2:Nat}{xs ys:Array Value}{a b:Value}{Q:Option Value->Shared->Prop}(hh:A.handled=none)(D:ZipApart z TI TO i1 i2 l1 l2)(hz:IsZip s.heap z TI TO .none)(hTI:IsPair s.heap TI (.ref i1) (.ref i2))(hTO:IsPair s.heap TO a b)
  (h1:s.heap.IsListIter i1 l1 k1)(h2:IsTupIter s.heap i2 l2 k2)(hl1:s.heap.IsList l1 xs)(hl2:IsTup s.heap l2 ys)(hend:xs[k1]? =none\/ys[k2]? =none)
  (hQ:∀ h',(∀ c o,c≠z->c≠TO->c≠i1->c≠i2->s.heap.get? c=some o->h'.get? c=some o)->Q none {s with heap:=h'}):wpAny (model prog w) A (pyNext (.ref z)) Q E s:=by
 have hT:s.TypeIs (.ref z) "zip":=⟨_,hz,rfl⟩;unfold pyNext;refine z26 (z79 (z5l (name:=Str.ofString "__next__") hT z6t (z50 z6t hT z87 (zs5 hh D hz hTI hTO h1 h2 hl1 hl2 hend λh' e hk he=>?_) (z82 _))));obtain⟨oe,hoe,hce⟩:=he;refine z26 (jal (T:="StopIteration") (b:=true) ⟨oe,hoe,hce⟩ isSubtype_stop ?_);exact z3h (hQ _ hk)
end
abbrev zH1 (h:Heap)(l1:Addr):Heap:=h.push {cls:=.type "list_iterator",data:=.fields #[.ref l1,.int 0 0]}
abbrev zH2 (h:Heap)(l1 l2:Addr):Heap:=(zH1 h l1).push {cls:=.type "tuple_iterator",data:=.fields #[.ref l2,.int 0 0]}
abbrev zH3 (h:Heap)(l1 l2:Addr):Heap:=(zH2 h l1 l2).push {cls:=.type "tuple",data:=.seq #[.ref h.objs.size,.ref (zH1 h l1).objs.size]}
abbrev zH4 (h:Heap)(l1 l2:Addr):Heap:=(zH3 h l1 l2).push {cls:=.type "tuple",data:=.seq #[.none,.none]}
abbrev zH5 (h:Heap)(l1 l2:Addr):Heap:=(zH4 h l1 l2).push {cls:=.type "zip",data:=.fields #[.none,.bool false,.bool false,.ref (zH2 h l1 l2).objs.size,.ref (zH3 h l1 l2).objs.size]}
theorem zly (l1 l2:Addr)(xs ys:Array Value):Meets (Builtin.«zip.__new__» ⟨[.type "zip",.ref l1,.ref l2],[]⟩) (λ_ R s=>s.heap.IsList l1 xs/\IsTup s.heap l2 ys/\R (.ok (.ret (.ref (zH4 s.heap l1 l2).objs.size))) {s with heap:=zH5 s.heap l1 l2}):=
 .of_wp λprog w A R s h=>by
  obtain⟨hp,g,d,tk,os⟩:=s;obtain⟨hl1,hl2,h⟩:=h;have hsub:=sub_zip;have hL1:Heap.IsList (Shared.heap ⟨hp,g,d,tk,os⟩) l1 xs:=hl1;have hL2:IsTup (Shared.heap ⟨hp.push {cls:=.type "list_iterator",data:=.fields #[.ref l1,.int 0 0]},g,d,tk,os⟩) l2 ys:=let ⟨o,e,r⟩:=hl2;⟨o,z29 _ e,r⟩
  wp_walk using z7x hL1,iter_tuple hL2
  exact⟨_,rfl,h⟩
theorem call_zlt {prog:Program}{w:World}{A:Around}{E:Value->Shared->Prop}{s:Shared}{l1 l2:Addr}{xs ys:Array Value}{Q:Value->Shared->Prop}(hl1:s.heap.IsList l1 xs)(hl2:IsTup s.heap l2 ys)
  (h:∀ h',IsZip h' (s.heap.objs.size+4) (s.heap.objs.size+2) (s.heap.objs.size+3) .none->IsPair h' (s.heap.objs.size+2) (.ref s.heap.objs.size) (.ref (s.heap.objs.size+1))->IsPair h' (s.heap.objs.size+3) .none .none->h'.IsListIter s.heap.objs.size l1 0->
   IsTupIter h' (s.heap.objs.size+1) l2 0->h'.objs.size=s.heap.objs.size+5->(∀ c o,s.heap.get? c=some o->h'.get? c=some o)->Q (.ref (s.heap.objs.size+4)) {s with heap:=h'}):wpAny (model prog w) A (call (.type "zip") [.ref l1,.ref l2]) Q E s:=by
 refine callType_new F.called_zip (by decide) (F.typeCall_zip_2 _ _) (F.newCall_zip_2 _ _) (λobj=>F.args_object_init_3 obj _ _) F.entry_zip_new (zly l1 l2 xs ys) ⟨hl1,hl2,?_⟩;have z1:(zH1 s.heap l1).objs.size=s.heap.objs.size+1:=z4v ..;have z2:(zH2 s.heap l1 l2).objs.size=s.heap.objs.size+2:=by rw[z4v,z1]
 have z3:(zH3 s.heap l1 l2).objs.size=s.heap.objs.size+3:=by rw[z4v,z2]
 have z4:(zH4 s.heap l1 l2).objs.size=s.heap.objs.size+4:=by rw[z4v,z3]
 have z5:(zH5 s.heap l1 l2).objs.size=s.heap.objs.size+5:=by rw[z4v,z4]
 have y5:(zH5 s.heap l1 l2).get? (zH4 s.heap l1 l2).objs.size=some _:=z3o _ rfl;have y4:(zH5 s.heap l1 l2).get? (zH3 s.heap l1 l2).objs.size=some _:=z29 _ (z3o _ rfl);have y3:(zH5 s.heap l1 l2).get? (zH2 s.heap l1 l2).objs.size=some _:=z29 _ (z29 _ (z3o _ rfl));have y2:(zH5 s.heap l1 l2).get? (zH1 s.heap l1).objs.size=some _:=z29 _ (z29 _ (z29 _ (z3o _ rfl)));have y1:(zH5 s.heap l1 l2).get? s.heap.objs.size=some _:=z29 _ (z29 _ (z29 _ (z29 _ (z3o _ rfl))));show _/\_;rw[z2,z3,z4]at y5;rw[z1,z2]at y3;rw[z3]at y4;rw[z1]at y2;rw[z4];exact⟨⟨_,y5,rfl⟩,h _ y5 y3 y4 ⟨_,y1,rfl,rfl⟩ ⟨_,y2,rfl,rfl⟩ z5 λc o e=>z29 _ (z29 _ (z29 _ (z29 _ (z29 _ e))))⟩
end Zlt
namespace Ore
open PySem PySem.Spec PyProof.Rows L2
local macro_rules | `(tactic| walk_at "sc") => `(tactic| exact ⟨rfl, rfl, rfl, by decide +kernel, rfl, by decide +kernel, by decide +kernel⟩)
variable {P : Program} {w : World} {K : PySem.W.Frag} {mg : Str → Option Value} {base : Heap} {CB CR CC tb : Addr}
theorem _root_.L2.Room.m0 {j k:Nat}{A:Around}(r:Room k A)(h:j<=k:=by decide):Room j A:=r.mono h
abbrev Fr:=PySem.W.Frag
def qu (i:Nat):Stmt:=PySem.Challenge.pw_orelines_s01_answers.main.body.getD i (.Pass ⟨0,0,0,0⟩)
abbrev zpj:Stmt:=qz (qu 4) 0
abbrev zpm:Stmt:=qz (qu 4) 1
abbrev zpo:Stmt:=qz (qu 4) 2
abbrev zus:Stmt:=qz (qu 4) 3
abbrev zko:Stmt:=qz (qu 4) 4
abbrev zpn:Stmt:=qz (qu 4) 5
abbrev zpl:Stmt:=qz (qu 4) 6
abbrev zgh:Stmt:=qz (qu 4) 7
abbrev zut:Stmt:=qz (qu 4) 8
abbrev zuv:Stmt:=qz (qu 4) 9
abbrev zur:Stmt:=qu 5
abbrev Wd:Stmt:=qu 6
abbrev Wn:Stmt:=qu 7
abbrev Qz:Stmt:=qu 10
abbrev Yp:Stmt:=qu 11
abbrev Ki:Stmt:=qu 12
abbrev Gz:Stmt:=qu 13
abbrev kg:Stmt:=qu 14
abbrev Qt:Stmt:=qu 15
abbrev Kh:Stmt:=qu 16
abbrev Kf:Stmt:=qu 17
abbrev Yo:Stmt:=qu 18
abbrev zuu:Stmt:=qu 21
abbrev zuq:Stmt:=qu 22
abbrev zpr:Stmt:=qu 23
abbrev zpp:Stmt:=qz (qu 24) 0
abbrev zpq:Stmt:=qz (qu 24) 1
abbrev zkn:Stmt:=qz (qu 24) 2
abbrev Qw:Stmt:=qu 31
abbrev Kk:Stmt:=qu 32
abbrev Qx:Stmt:=qu 33
abbrev Wh:Stmt:=qu 34
abbrev Q1:Stmt:=qu 35
abbrev G4:Stmt:=qu 36
abbrev Kj:Stmt:=qu 37
abbrev G2:Stmt:=qu 38
abbrev Qq:Stmt:=qu 39
abbrev kf:Stmt:=qu 40
abbrev Ke:Stmt:=qu 41
abbrev Wg:Stmt:=qu 42
abbrev Qs:Stmt:=qu 43
abbrev Kg:Stmt:=qu 45
abbrev Yl:Stmt:=qu 46
abbrev G3:Stmt:=qu 55
abbrev Q0:Stmt:=qu 56
abbrev Kn:Stmt:=qu 57
abbrev Wf:Stmt:=qu 58
abbrev Zp:Stmt:=qu 59
abbrev Qy:Stmt:=qu 60
abbrev Yn:Stmt:=qu 62
abbrev Kl:Stmt:=qu 63
abbrev We:Stmt:=qu 64
abbrev Km:Stmt:=qu 68
abbrev Qu:Stmt:=qu 69
abbrev Qn:Stmt:=qu 70
abbrev zpk:Stmt:=qz (qu 82) 0
abbrev Wc:Stmt:=qu 83
abbrev Wk:Stmt:=qu 84
abbrev Qo:Stmt:=qu 85
abbrev Gy:Stmt:=qu 86
abbrev Ko:Stmt:=qu 87
abbrev Wi:Stmt:=qu 88
abbrev Wj:Stmt:=qu 89
abbrev Kr:Stmt:=qu 90
abbrev Qp:Stmt:=qu 91
abbrev Kq:Stmt:=qu 92
abbrev Wl:Stmt:=qu 93
abbrev Ym:Stmt:=qu 94
abbrev Q3:Stmt:=qu 95
abbrev Q4:Stmt:=qu 96
abbrev Ju:Stmt:=qu 97
abbrev Qr:Stmt:=qu 98
abbrev Wm:Stmt:=qu 99
abbrev Q2:Stmt:=qu 100
abbrev Kp:Stmt:=qu 101
abbrev Qm:Stmt:=qu 103
abbrev wq:Stmt:=qu 104
structure kr (b:Vbmiab.Bench):Prop where
 nx0:1<=b.nx
 nx7:b.nx<=7
 ny0:1<=b.ny
 ny8:b.ny<=8
 pr:b.price<=1000000
 co:b.cost<=1000000
 du:b.dump<=1000000
 o1:1<=b.ore
 o7:b.ore<=7
 w1:1<=b.waste
 w7:b.waste<=7
 n1:1<=b.neck
 n7:b.neck<=7
 cl:b.cells.length=b.nx*b.ny
 fl:b.fixed.length=b.nx*b.ny
 cm:∀ c∈b.cells,c.mass<=1000000000/\c.metal<=1000000000
 fx:∀ k∈b.fixed,k<=2
def yx (b:Vbmiab.Bench)(lw lk lm lt:Addr):List (Str×V):=
 [("nx",.int b.nx),("ny",.int b.ny),("price",.int b.price),("cost",.int b.cost),("dumping",.int b.dump),("widths",.ref lw),("kilograms",.ref lk),("metal",.ref lm),("told",.ref lt)]
abbrev vN (n:Nat):V:=.int n
def yr (b:Vbmiab.Bench):List V:=b.cells.map λc=>vN c.mass
def j5 (b:Vbmiab.Bench):List V:=b.cells.map λc=>vN c.metal
def yt (b:Vbmiab.Bench):List V:=b.fixed.map vN
structure ki (C:Addr)(H:Hp)(a:Addr)(b:Vbmiab.Bench)(dx lw lk lm lt:Addr):Prop where
 ins:H a=some (.ins C dx (yx b lw lk lm lt))
 w:H lw=some (.lst [vN b.ore,vN b.waste,vN b.neck])
 k:H lk=some (.lst (yr b))
 m:H lm=some (.lst (j5 b))
 t:H lt=some (.lst (yt b))
 km:lk≠lm
 kt:lk≠lt
 mt:lm≠lt
 wk:lw≠lk
 wm:lw≠lm
 wt:lw≠lt
 good:kr b
def zq (C:Addr)(H:Hp)(a:Addr)(b:Vbmiab.Bench):Prop:=∃ dx lw lk lm lt,ki C H a b dx lw lk lm lt
theorem ki.same {C:Addr}{H H':Hp}{a:Addr}{b:Vbmiab.Bench}{dx lw lk lm lt:Addr}(B:ki C H a b dx lw lk lm lt)(s:zh H H'):ki C H' a b dx lw lk lm lt:=
 ⟨s _ _ B.ins,s _ _ B.w,s _ _ B.k,s _ _ B.m,s _ _ B.t,B.km,B.kt,B.mt,B.wk,B.wm,B.wt,B.good⟩
theorem zq.same {C:Addr}{H H':Hp}{a:Addr}{b:Vbmiab.Bench}(B:zq C H a b)(s:zh H H'):zq C H' a b:=by
 obtain⟨dx,lw,lk,lm,lt,B⟩:=B;exact⟨dx,lw,lk,lm,lt,B.same s⟩
theorem zq.good {C:Addr}{H:Hp}{a:Addr}{b:Vbmiab.Bench}(B:zq C H a b):kr b:=by
 obtain⟨dx,lw,lk,lm,lt,B⟩:=B;exact B.good
def Ret (H:Hp)(v:V)(Q:VK):Prop:=∀ H',zh H H'->Q v H'
theorem zh.upd {H:Hp}{p:Addr}{o:HO}(h:H p=Option.none):zh H (upd H p o):=λb u e=>by
 rw[ze (zf e h)];exact e
structure zzi (K:Fr)(C:Addr):Prop where
 cl:Cls K C
 nx:yq K C "nx"
 ny:yq K C "ny"
 price:yq K C "price"
 cost:yq K C "cost"
 dumping:yq K C "dumping"
 widths:yq K C "widths"
 kilograms:yq K C "kilograms"
 metal:yq K C "metal"
 told:yq K C "told"
def jg (K:Fr)(mg:Str->Option Value)(x:Str)(st:Stmt)(ps:List Str):Prop:=
 ∃ f fd,Fun K x x st f fd/\mg x=some (.ref f)/\vi K fd ps []
def qx (K:Fr)(C:Addr)(m qual:Str)(st:Stmt)(ps:List Str):Prop:=
 ∃ f fd,Fun K m qual st f fd/\zu1 K C m f/\vi K fd ps []
def Yy (K:Fr)(C:Addr)(qual:Str)(st:Stmt)(ps:List Str):Prop:=
 ∃ f fd,Fun K "__init__" qual st f fd/\Mk K C f/\vi K fd ps []
structure zzk (K:Fr)(C:Addr):Prop where
 cl:Cls K C
 greatest:yq K C "greatest"
 wide_rows:yq K C "wide_rows"
 wide_necks:yq K C "wide_necks"
structure zzj (K:Fr)(C:Addr):Prop where
 cl:Cls K C
 bench:yq K C "bench"
structure qf (K:Fr)(mg:Str->Option Value)(CB CR CC:Addr):Prop where
 cB:zzi K CB
 cR:zzk K CR
 cC:zzj K CC
 c_NOTHING_TOLD:∃ t,mg "NOTHING_TOLD"=some (.int 0 t)
 c_AS_ORE:∃ t,mg "AS_ORE"=some (.int 1 t)
 c_AS_WASTE:∃ t,mg "AS_WASTE"=some (.int 2 t)
 bInit:Yy K CB "Bench.__init__" zpj ["self","nx","ny","rates","widths","kilograms","metal"]
 holds:qx K CB "holds" "Bench.holds" zpm ["self","x","y"]
 place:qx K CB "place_of" "Bench.place_of" zpo ["self","x","y"]
 oreW:qx K CB "ore_worth" "Bench.ore_worth" zus ["self","at"]
 wasteW:qx K CB "waste_worth" "Bench.waste_worth" zko ["self","at"]
 isOre:qx K CB "is_ore_by_itself" "Bench.is_ore_by_itself" zpn ["self","at"]
 great:qx K CB "greatest_pattern" "Bench.greatest_pattern" zpl ["self"]
 amounts:qx K CB "amounts_at" "Bench.amounts_at" zgh ["self","places"]
 rowW:qx K CB "row_worth" "Bench.row_worth" zut ["self","y","pattern"]
 told:qx K CB "row_is_as_told" "Bench.row_is_as_told" zuv ["self","y","pattern"]
 m_Bench:mg "Bench"=some (.ref CB)
 goes:jg K mg "goes_as_ore" zur ["pattern","x"]
 f_ore_cells:jg K mg "ore_cells" Wd ["bench","lines"]
 f_with_told:jg K mg "with_told" Wn ["bench","at","told"]
 c_FEWEST_CORNERS:∃ t,mg "FEWEST_CORNERS"=some (.int 4 t)
 f_read_rounds:jg K mg "read_rounds" Qz ["numbers"]
 f_stretches_of:jg K mg "stretches_of" Yp ["corners"]
 f_is_upright:jg K mg "is_upright" Ki ["stretch"]
 f_is_level:jg K mg "is_level" Gz ["stretch"]
 f_turns_at_each_corner:jg K mg "turns_at_each_corner" kg ["corners"]
 f_is_drawn_on:jg K mg "is_drawn_on" Qt ["bench","corners"]
 f_is_at_left:jg K mg "is_at_left" Kh ["stretch","x","y"]
 f_filled_row:jg K mg "filled_row" Kf ["bench","uprights","y"]
 f_filled_lines:jg K mg "filled_lines" Yo ["bench","rounds"]
 c_ANY_WIDTH:∃ t,mg "ANY_WIDTH"=some (.int 1 t)
 runs:jg K mg "runs_of" zuu ["pattern","nx"]
 areW:jg K mg "runs_are_wide" zuq ["pattern","nx","ore","waste"]
 wideP:jg K mg "wide_patterns" zpr ["nx","ore","waste"]
 rInit:Yy K CR "Rules.__init__" zpp ["self","bench"]
 runsH:qx K CR "runs_hold" "Rules.runs_hold" zpq ["self","pattern"]
 necksH:qx K CR "necks_hold" "Rules.necks_hold" zkn ["self","pattern","other"]
 m_Rules:mg "Rules"=some (.ref CR)
 c_NO_FAULT:∃ t,mg "NO_FAULT"=some (.int 0 t)
 c_NUMBER_TOO_GREAT:∃ t,mg "NUMBER_TOO_GREAT"=some (.int 1 t)
 c_RUN_TOO_NARROW:∃ t,mg "RUN_TOO_NARROW"=some (.int 2 t)
 c_NECK_TOO_NARROW:∃ t,mg "NECK_TOO_NARROW"=some (.int 3 t)
 c_NOT_AS_TOLD:∃ t,mg "NOT_AS_TOLD"=some (.int 4 t)
 f_lines_worth:jg K mg "lines_worth" Qw ["bench","lines"]
 f_neighbours:jg K mg "neighbours" Kk ["rules"]
 f_most_behind:jg K mg "most_behind" Qx ["bench","y","behind","beside"]
 f_row_table:jg K mg "row_table" Wh ["bench","y","behind","beside"]
 f_tables_from:jg K mg "tables_from" Q1 ["bench","first","beside"]
 f_table_of:jg K mg "table_of" G4 ["bench","y"]
 f_most_worth:jg K mg "most_worth" Kj ["bench"]
 f_row_ways:jg K mg "row_ways" G2 ["bench","y","before","beside"]
 f_count_lines:jg K mg "count_lines" Qq ["bench"]
 f_best_pattern:jg K mg "best_pattern" kf ["table","patterns"]
 f_best_lines:jg K mg "best_lines" Ke ["bench"]
 f_row_fault:jg K mg "row_fault" Wg ["bench","rules","lines","y"]
 f_first_fault:jg K mg "first_fault" Qs ["bench","lines"]
 f_free_worth:jg K mg "free_worth" Kg ["bench"]
 f_amounts_lost:jg K mg "amounts_lost" Yl ["bench","lines"]
 c_WAYS:∃ t,mg "WAYS"=some (.int 4 t)
 c_TO_THE_RIGHT:∃ t,mg "TO_THE_RIGHT"=some (.int 1 t)
 c_STRAIGHT_ON:∃ t,mg "STRAIGHT_ON"=some (.int 0 t)
 c_TO_THE_LEFT:∃ t,mg "TO_THE_LEFT"=some (.int 3 t)
 f_sides_of:jg K mg "sides_of" G3 ["bench","lines"]
 f_side_behind:jg K mg "side_behind" Q0 ["side","sides"]
 f_round_from:jg K mg "round_from" Kn ["first","sides"]
 f_rounds_of:jg K mg "rounds_of" Wf ["bench","lines"]
 f_turning_corners:jg K mg "turning_corners" Zp ["members"]
 f_outlines_of:jg K mg "outlines_of" Qy ["bench","lines"]
 f_cells_beside:jg K mg "cells_beside" Yn ["cell"]
 f_piece_from:jg K mg "piece_from" Kl ["first","ore"]
 f_pieces_of:jg K mg "pieces_of" We ["bench","lines"]
 f_read_calls:jg K mg "read_calls" Km ["numbers"]
 f_is_in_range:jg K mg "is_in_range" Qu ["place","plain","lists"]
 f_are_between:jg K mg "are_between" Qn ["numbers","least","greatest"]
 c_DONE:∃ t,mg "DONE"=some (.int 0 t)
 c_OUT_OF_RANGE:∃ t,mg "OUT_OF_RANGE"=some (.int (-1) t)
 c_NOT_ON_BENCH:∃ t,mg "NOT_ON_BENCH"=some (.int (-2) t)
 c_NOT_THE_BENCH_LINES:∃ t,mg "NOT_THE_BENCH_LINES"=some (.int (-3) t)
 c_NO_LINES:∃ t,mg "NO_LINES"=some (.int (-4) t)
 c_NOT_ROUNDS:∃ t,mg "NOT_ROUNDS"=some (.int (-5) t)
 c_WRONG_ROUND:∃ t,mg "WRONG_ROUND"=some (.int (-6) t)
 c_WRONG_NUMBER_OF_CELLS:∃ t,mg "WRONG_NUMBER_OF_CELLS"=some (.int (-7) t)
 c_NO_BENCH:∃ t,mg "NO_BENCH"=some (.int (-8) t)
 c_BENCH_CALL:∃ t,mg "BENCH_CALL"=some (.int 0 t)
 cInit:Yy K CC "Control.__init__" zpk ["self"]
 m_Control:mg "Control"=some (.ref CC)
 f_lay_bench:jg K mg "lay_bench" Wc ["control","plain","lists"]
 f_tell_cell:jg K mg "tell_cell" Wk ["bench","plain","lists"]
 f_change_cell:jg K mg "change_cell" Qo ["bench","plain","lists"]
 f_fix_cell:jg K mg "fix_cell" Gy ["bench","plain","lists"]
 f_set_widths:jg K mg "set_widths" Ko ["bench","plain","lists"]
 f_set_price:jg K mg "set_price" Wi ["bench","plain","lists"]
 f_tell_best:jg K mg "tell_best" Wj ["bench","plain","lists"]
 f_tell_table:jg K mg "tell_table" Kr ["bench","plain","lists"]
 f_check_lines:jg K mg "check_lines" Qp ["bench","plain","lists"]
 f_tell_count:jg K mg "tell_count" Kq ["bench","plain","lists"]
 f_tell_free:jg K mg "tell_free" Wl ["bench","plain","lists"]
 f_are_patterns:jg K mg "are_patterns" Ym ["bench","lines"]
 f_tell_losses:jg K mg "tell_losses" Q3 ["bench","plain","lists"]
 f_tell_pieces:jg K mg "tell_pieces" Q4 ["bench","plain","lists"]
 f_tell_outlines:jg K mg "tell_outlines" Ju ["bench","plain","lists"]
 f_fill_rounds:jg K mg "fill_rounds" Qr ["bench","plain","lists"]
 f_tell_runs:jg K mg "tell_runs" Wm ["bench","plain","lists"]
 f_tell_forced:jg K mg "tell_forced" Q2 ["bench","plain","lists"]
 f_tell_bench:jg K mg "tell_bench" Kp ["bench","plain","lists"]
 f_answer_call:jg K mg "answer_call" Qm ["control","place","plain","lists"]
 f_answers:jg K mg "answers" wq ["calls"]
 range:mg "range"=none
 list:mg "list"=none
 b_len:mg "len"=none
 b_sum:mg "sum"=none
 b_max:mg "max"=none
 b_min:mg "min"=none
 b_all:mg "all"=none
 b_sorted:mg "sorted"=none
 b_dict:mg "dict"=none
 b_zip:mg "zip"=none
 b_enumerate:mg "enumerate"=none
def xo (P:Program)(w:World)(K:Fr)(mg:Str->Option Value)(base:Heap)(x:Str)(k:Nat)(ps:List Str)(sp:Sp):Prop:=
 ∃ f fd,mg x=some (.ref f)/\PySem.W.keepIn K (.ref f)=true/\vi K fd ps []/\wx P w K mg base CX0 k f fd ps sp
def ww (P:Program)(w:World)(K:Fr)(mg:Str->Option Value)(base:Heap)(C:Addr)(m:Str)(k:Nat)(ps:List Str)(sp:Sp):Prop:=
 ∃ f fd,zu1 K C m f/\vi K fd ps []/\wx P w K mg base CX0 k f fd ps sp
def zbd (P:Program)(w:World)(K:Fr)(mg:Str->Option Value)(base:Heap)(C:Addr)(k:Nat)(ps:List Str)(sp:Sp):Prop:=
 ∃ f fd,Mk K C f/\vi K fd ps []/\wx P w K mg base CX0 k f fd ps sp
section
variable {P:Program}{w:World}{K:Fr}{mg:Str->Option Value}{base:Heap}{x m qual:Str}{st:Stmt}{ps:List Str}{k:Nat}{sp:Sp}{C:Addr}
theorem jg.con (h:jg K mg x st ps)(ok:∀ f fd,Fun K x x st f fd->wx P w K mg base CX0 k f fd ps sp):xo P w K mg base x k ps sp:=by
 obtain⟨f,fd,F,hm,hb⟩:=h;exact⟨f,fd,hm,F.kp,hb,ok f fd F⟩
theorem qx.con (h:qx K C m qual st ps)(ok:∀ f fd,Fun K m qual st f fd->wx P w K mg base CX0 k f fd ps sp):ww P w K mg base C m k ps sp:=by
 obtain⟨f,fd,F,hm,hb⟩:=h;exact⟨f,fd,hm,hb,ok f fd F⟩
theorem Yy.con (h:Yy K C qual st ps)(ok:∀ f fd,Fun K "__init__" qual st f fd->wx P w K mg base CX0 k f fd ps sp):zbd P w K mg base C k ps sp:=by
 obtain⟨f,fd,F,hm,hb⟩:=h;exact⟨f,fd,hm,hb,ok f fd F⟩
end
section
variable {X:Cx}{x m:Str}{ps:List Str}{k:Nat}{sp:Sp}{C:Addr}{e o:Expr}{es:List Expr}{t:TA}{ta:TE}{p pos apos cpos:Pos}
theorem je (c:xo X.prog X.w X.K X.mg X.base x k ps sp)(hr:Room k X.A)(ha:PA X (e::es) t)(hg:Gl X x:=by rfl)(hdb:(x==("__debug__":Str))=false:=by decide)(he:starEach (e::es) X.env=(false,eval e X.env)::starEach es X.env:=by rfl)
  (hpl:(backTo pos (starEach es X.env)).any (·.1)=false:=by rfl):PE X (.Call (.Name x p) (e::es) [] pos) (zuw sp [] E0 t):=by
 obtain⟨f,fd,hm,hk,hb,F⟩:=c;exact zrr F hr hg hm hk hb .nil Gq ha hdb he hpl
theorem zb9 (c:zbd X.prog X.w X.K X.mg X.base C k ps sp)(hm:X.mg x=some (.ref C))(hr:Room (k+1) X.A)(ha:PA X (e::es) t)(hg:Gl X x:=by rfl)(hdb:(x==("__debug__":Str))=false:=by decide)(he:starEach (e::es) X.env=(false,eval e X.env)::starEach es X.env:=by rfl)
  (hpl:(backTo pos (starEach es X.env)).any (·.1)=false:=by rfl):PE X (.Call (.Name x p) (e::es) [] pos) (zku C sp [] E0 t):=by
 obtain⟨f,fd,M,hb,F⟩:=c;exact zrs M F hr hg hm hb .nil Gq ha hdb he hpl
theorem zwa (c:zbd X.prog X.w X.K X.mg X.base C k ps sp)(hm:X.mg x=some (.ref C))(hr:Room (k+1) X.A)(hg:Gl X x:=by rfl)(hdb:(x==("__debug__":Str))=false:=by decide):
  PE X (.Call (.Name x p) [] [] pos) (zku C sp [] E0 zi1):=by
 obtain⟨f,fd,M,hb,F⟩:=c;exact zo5 M F hr hg hm hb .nil Gq hdb
inductive zxl (C:Addr)(sel:Vbmiab.Bench->Nat)(Q:VK)(x:V)(H:Hp):Prop
 |mk (a:Addr) (b:Vbmiab.Bench):x=.ref a->zq C H a b->Q (vN (sel b)) H->zxl C sel Q x H
def tBf (C:Addr)(ta:TE)(sel:Vbmiab.Bench->Nat):TE:=λσ H Q=>ta σ H λx H1=>zxl C sel Q x H1
theorem Jt {f:Str}(sel:Vbmiab.Bench->Nat)(cl:Cls X.K C)(hn:yq X.K C f)(he:PE X e ta)(hl:∀ b lw lk lm lt,(yx b lw lk lm lt).lookup f=some (vN (sel b)):=by intros;rfl)
  (hb:attributeBase e f X.env (eval e X.env)=eval e X.env:=by rfl):PE X (.Attribute e f pos) (tBf C ta sel):=by
 intro pins s σ H Q I h;refine Xs hb (yd (he pins s σ H _ I h) λu s1 ⟨x,H1,I1,rx,a,b,ex,⟨dx,lw,lk,lm,lt,B⟩,q⟩=>?_);subst ex;obtain rfl:u=Value.ref a:=rx;exact Za I1 B.ins cl hn (hl b lw lk lm lt) λu' s2 I2 ru=>⟨_,H1,I2,ru,q⟩
def tBl (C:Addr)(ta tb:TE)(L:Vbmiab.Bench->List V):TE:=λσ H Q=>ta σ H λx H1=>∃ a b,x=.ref a/\zq C H1 a b/\tb σ H1 λy H2=>zh H1 H2/\∃(i:Nat) (v:V),y=vN i/\(L b)[i]? =some v/\Q v H2
theorem pbl {f:Str}{i:Expr}{tb:TE}(L:Vbmiab.Bench->List V)(cl:Cls X.K C)(hn:yq X.K C f)
  (hl:∀ H a b dx lw lk lm lt,ki C H a b dx lw lk lm lt->∃ l,(yx b lw lk lm lt).lookup f=some (.ref l)/\H l=some (.lst (L b)))
  (he:PE X e ta)(hi:PE X i tb)(hs:zcr i:=by exact λ_ _=>rfl)(hb:attributeBase e f X.env (eval e X.env)=eval e X.env:=by rfl):PE X (.Subscript (.Attribute e f p) i pos) (tBl C ta tb L):=by
 intro pins s σ H Q I h;refine Subscript_ (Xs hb (yd (he pins s σ H _ I h) λu s1 ⟨x,H1,I1,rx,a,b,ex,⟨dx,lw,lk,lm,lt,B⟩,q⟩=>?_));subst ex;obtain rfl:u=Value.ref a:=rx;obtain⟨l,e1,e2⟩:=hl H1 a b dx lw lk lm lt B;refine Za I1 B.ins cl hn e1 λu' s2 I2 ru=>?_;refine yd (hi pins s2 σ H1 _ I2 q) λv s3 ⟨y,H2,I3,ry,sm,i,v',ey,ei,q'⟩=>?_;exact zw _ _ pins s3 σ H2 (.ref l) y _ _ Q I3 ru ry ⟨l,_,i,v',rfl,ey,zx.of (sm _ _ e2),zk ei,q'⟩ (hs _ _)
inductive zxm (C:Addr)(sp:Sp)(t:TA)(σ:L2.St)(Q:VK)(x:V)(H:Hp):Prop
 |mk (a:Addr) (b:Vbmiab.Bench):x=.ref a->zq C H a b->(t σ H λvs H2=>sp (.ref a::vs) H2 Q E0)->zxm C sp t σ Q x H
def tBm (C:Addr)(sp:Sp)(ta:TE)(t:TA):TE:=λσ H Q=>ta σ H λx H1=>zxm C sp t σ Q x H1
theorem Qi (he:PE X o ta)(cl:Cls X.K C)(c:ww X.prog X.w X.K X.mg X.base C m k ps sp)(hr:Room k X.A)(ha:PA X (e::es) t){pl:Sem Bool}(hl:∀ b lw lk lm lt,(yx b lw lk lm lt).lookup m=none:=by intros;rfl)
  (hst:starEach (e::es) X.env=(false,eval e X.env)::starEach es X.env:=by rfl)(hpl:(backTo pos (starEach es X.env)).any (·.1)=false:=by rfl)
  (ht:eval (.Call (.Attribute o m apos) (e::es) [] pos) X.env=(do
   let ov <-eval o X.env
   standAt apos.atName
   let (f,first) <-holding [ov] (getMethod ov m pl)
   callWith pos f first (backTo pos (starEach (e::es) X.env)) (backToKw pos (keywordEach [] X.env))):=by rfl):
  PE X (.Call (.Attribute o m apos) (e::es) [] pos) (tBm C sp ta t):=by
 obtain⟨f,fd,hm,hb,F⟩:=c;intro pins s σ H Q I h;refine z8t (pl:=pl) (yd (he pins s σ H _ I h) λu s1 ⟨x,H1,I1,rx,a,b,ex,⟨dx,lw,lk,lm,lt,B⟩,q⟩=>?_) ht;subst ex;obtain rfl:u=Value.ref a:=rx;refine Xb I1 B.ins cl hm (hl b lw lk lm lt) ?_;refine z7f (first:=[.ref a]) (h₀:=X.base) I.ok.mod.kin hm.kp (yd (ha pos pins s1 σ H1 _ I1 q) λus s2 ⟨vs,H2,I2,r,q2⟩=>⟨I2.kIn,?_⟩) hst hpl;exact Gx (us:=.ref a::us) (vs:=.ref a::vs) F hr hb .nil Gq I2 (.cons rfl r) (by rw[z31];exact q2)
theorem ki.lk {C:Addr}:∀ H a b dx lw lk lm lt,ki C H a b dx lw lk lm lt->∃ l,(yx b lw lk lm lt).lookup ("kilograms":Str)=some (.ref l)/\H l=some (.lst (yr b)):=λH a b dx lw lk lm lt B=>⟨lk,rfl,B.k⟩
theorem ki.lm {C:Addr}:∀ H a b dx lw lk lm lt,ki C H a b dx lw lk lm lt->∃ l,(yx b lw lk lm lt).lookup ("metal":Str)=some (.ref l)/\H l=some (.lst (j5 b)):=λH a b dx lw lk lm lt B=>⟨lm,rfl,B.m⟩
theorem ki.lt {C:Addr}:∀ H a b dx lw lk lm lt,ki C H a b dx lw lk lm lt->∃ l,(yx b lw lk lm lt).lookup ("told":Str)=some (.ref l)/\H l=some (.lst (yt b)):=λH a b dx lw lk lm lt B=>⟨lt,rfl,B.t⟩
def yl (b:Vbmiab.Bench):List V:=[vN b.ore,vN b.waste,vN b.neck]
theorem ki.lw {C:Addr}:∀ H a b dx lw lk lm lt,ki C H a b dx lw lk lm lt->∃ l,(yx b lw lk lm lt).lookup ("widths":Str)=some (.ref l)/\H l=some (.lst (yl b)):=λH a b dx lw lk lm lt B=>⟨lw,rfl,B.w⟩
end
structure EA (D:Wr)(pn:L2.St->Hp->Prop)(pr:VK)(pb:L2.St->Hp->Prop):Prop where
 nx:∀ σ H,pn σ H->D.nx σ H
 ct:∀ σ H,pn σ H->D.ct σ H
 rt:∀ v H,pr v H->D.rt v H
 bk:∀ σ H,pb σ H->D.bk σ H
theorem J7 {n:Nat}{g:TG}{tb:TS}{D:Wr}{σ:L2.St}{H:Hp}(Pv:Nat->L2.St->Hp->Prop)(h0:Pv 0 σ H)
  (hs:∀ i σ H D',i < n->Pv i σ H->EA D' (Pv (i+1)) D.rt D.nx->g (vN i) σ H λσ2 H2=>tb D' σ2 H2)(hd:∀ σ H,Pv n σ H->D.nx σ H):
  ∃ W:Nat->Nat->L2.St->Hp->Prop,(∃ m,W 0 m σ H)/\∀ i m σ H,W i m σ H->
   ((Itr 0 (n:Int).toNat).stop i H/\D.nx σ H)\/((Itr 0 (n:Int).toNat).go i H/\∃ N:L2.St->Hp->Prop,(∀ σ' H',N σ' H'->∃ m',m' < m/\W (i+1) m' σ' H')/\∀ x H',(Itr 0 (n:Int).toNat).yld i H x H'->g x σ H' λσ2 H2=>tb {D with nx:=N,ct:=N,bk:=D.nx} σ2 H2):=by
 rw[z3i];refine zlp Pv h0 (λi σ H hi p=>?_) hd;rw[Int.zero_add];exact hs i σ H _ hi p ⟨λ_ _ h=>h,λ_ _ h=>h,λ_ _ h=>h,λ_ _ h=>h⟩
theorem J6 {K:PySem.W.Frag}{a:Addr}{xs:List V}{g:TG}{tb:TS}{D:Wr}{σ:L2.St}{H:Hp}(Pv:Nat->L2.St->Hp->Prop)(h0:Pv 0 σ H)(hl:∀ i σ H,i<=xs.length->Pv i σ H->zx K H a xs)
  (hs:∀ i x σ H D',xs[i]? =some x->Pv i σ H->EA D' (Pv (i+1)) D.rt D.nx->g x σ H λσ2 H2=>tb D' σ2 H2)(hd:∀ σ H,Pv xs.length σ H->D.nx σ H):
  ∃ W:Nat->Nat->L2.St->Hp->Prop,(∃ m,W 0 m σ H)/\∀ i m σ H,W i m σ H->
   ((Itl K a).stop i H/\D.nx σ H)\/((Itl K a).go i H/\∃ N:L2.St->Hp->Prop,(∀ σ' H',N σ' H'->∃ m',m' < m/\W (i+1) m' σ' H')/\∀ x H',(Itl K a).yld i H x H'->g x σ H' λσ2 H2=>tb {D with nx:=N,ct:=N,bk:=D.nx} σ2 H2):=
 zoa Pv h0 hl (λi x σ H hx p=>hs i x σ H _ hx p ⟨λ_ _ h=>h,λ_ _ h=>h,λ_ _ h=>h,λ_ _ h=>h⟩) hd
theorem zgs {t u:TT}{σ:L2.St}{H:Hp}{Q:Bool->Hp->Prop}(c1 c2:Bool)(h1:∀ Q':Bool->Hp->Prop,Q' c1 H->t σ H Q')(h2:c1=false->∀ Q':Bool->Hp->Prop,Q' c2 H->u σ H Q')(q:Q (c1||c2) H):tOr t u σ H Q:=by
 refine h1 _ ?_;cases c1 with
 |true=>exact q
 |false=>exact h2 rfl _ q
theorem zi0 {t u:TT}{σ:L2.St}{H:Hp}{Q:Bool->Hp->Prop}(c1 c2:Bool)(h1:∀ Q':Bool->Hp->Prop,Q' c1 H->t σ H Q')(h2:c1=true->∀ Q':Bool->Hp->Prop,Q' c2 H->u σ H Q')(q:Q (c1&&c2) H):zyr t u σ H Q:=by
 refine h1 _ ?_;cases c1 with
 |true=>exact h2 rfl _ q
 |false=>exact q
theorem yf {a b:Prop}[Decidable a][Decidable b](h:a↔b):decide a=decide b:=z8p.mpr h
theorem zak {a b:Int}:(V.int a=V.int b)↔a=b:=⟨V.int.inj,z6a _⟩
theorem zky {a b:Bool}:(V.bl a=V.bl b)↔a=b:=⟨V.bl.inj,z6a _⟩
theorem zux {t:TT}{ta tb:TE}{σ:L2.St}{H:Hp}{Q:VK}(c:Bool)(v:V)(h1:∀ Q':Bool->Hp->Prop,Q' c H->t σ H Q')(h2:c=true->∀ Q':VK,Q' v H->ta σ H Q')(h3:c=false->∀ Q':VK,Q' v H->tb σ H Q')(q:Q v H):tIf t ta tb σ H Q:=by
 refine h1 _ ?_;cases c with
 |true=>exact h2 rfl _ q
 |false=>exact h3 rfl _ q
theorem yc {H H':Hp}{D:Addr}{o:HO}(s:zh H H')(h:H D=Option.none):zh H (upd H' D o):=λb u e=>by
 rw[ze (zf e h)];exact s b u e
theorem zoo {n:Nat}{g:TG}{tt:TT}{te:TE}{vs:List Nat}{σ:L2.St}{H1:Hp}{D:Addr}{Qd:Hp->Prop}(f:Nat->Option V)(hD:H1 D=Option.none)(hn:n<=sizeLine)
  (hs:∀ i H' (Nt:VK) (Nf:Hp->Prop),i < n->zh H1 H'->(∀ y H4,zh H' H4->f i=some y->Nt y H4)->(∀ H3,zh H' H3->f i=none->Nf H3)->
   g (vN i) (ym σ vs) H' λσ2 H2=>ym σ2 vs=ym σ vs/\tt σ2 H2 λb H3=>if b=true then te σ2 H3 Nt else Nf H3)
  (hd:∀ H',zh H1 H'->H' D=some (.lst ((List.range n).filterMap f))->Qd H'):
  ∃ W:Nat->Nat->Hp->Prop,(∃ m,W 0 m (upd H1 D (.lst [])))/\∀ i m H,W i m H->
   ((Itr 0 (n:Int).toNat).stop i H/\Qd H)\/((Itr 0 (n:Int).toNat).go i H/\∃ Nx:Hp->Prop,(∀ H',Nx H'->∃ m',m' < m/\W (i+1) m' H')/\∀ x H',(Itr 0 (n:Int).toNat).yld i H x H'->g x (ym σ vs) H' λσ2 H2=>ym σ2 vs=ym σ vs/\tt σ2 H2 λb H3=>
    if b=true then te σ2 H3 λy H4=>∃ acc,H4 D=some (.lst acc)/\acc.length < sizeLine/\Nx (upd H4 D (.lst (acc++[y]))) else Nx H3):=by
 rw[z3i];refine zop (λi H'=>zh H1 H'/\H' D=some (.lst ((List.range i).filterMap f))) ⟨yc (zh.refl _) hD,zb⟩ (λi H' hi p=>?_) (λH' p=>hd H' p.1 p.2);rw[Int.zero_add];refine hs i H' _ _ hi p.1 (λy H4 s4 e=>?_) (λH3 s3 e=>?_)
 ·refine⟨_,s4 _ _ p.2,?_,yc (p.1.trans s4) hD,?_⟩
  ·have h1:=z5u f (List.range i);rw[z4q]at h1;omega
  ·rw[zb,z49,z43,z4m,e];rfl
 ·refine⟨p.1.trans s3,?_⟩;rw[z49,z43,z4m,e,z9i,z31];exact s3 _ _ p.2
theorem jw {α:Type}:∀{l:List α}{i:Nat}{x:α},l[i]? =some x->l.take (i+1)=l.take i++[x]
 |[],i,x,h=>by simp at h
 |a::l,0,x,h=>by
  have e:a=x:=z3p h;subst e;rfl
 |a::l,i+1,x,h=>by
  have ih:=jw (l:=l) (i:=i) (x:=x) h;show a::l.take (i+1)=a::l.take i++[x];rw[ih];rfl
theorem Wy {α:Type}{K:PySem.W.Frag}{a:Addr}{xs:List α}{c:α->V}{g:TG}{tt:TT}{te:TE}{vs:List Nat}{σ:L2.St}{H1:Hp}{D:Addr}{Qd:Hp->Prop}(f:α->Option V)(hD:H1 D=Option.none)(hn:xs.length<=sizeLine)(hl:zx K H1 a (xs.map c))
  (hs:∀(i:Nat) (x:α) (H':Hp) (Nt:VK) (Nf:Hp->Prop),xs[i]? =some x->zh H1 H'->(∀ y H4,zh H' H4->f x=some y->Nt y H4)->(∀ H3,zh H' H3->f x=none->Nf H3)->
   g (c x) (ym σ vs) H' λσ2 H2=>ym σ2 vs=ym σ vs/\tt σ2 H2 λb H3=>if b=true then te σ2 H3 Nt else Nf H3)
  (hd:∀ H',zh H1 H'->H' D=some (.lst (xs.filterMap f))->Qd H'):
  ∃ W:Nat->Nat->Hp->Prop,(∃ m,W 0 m (upd H1 D (.lst [])))/\∀ i m H,W i m H->
   ((Itl K a).stop i H/\Qd H)\/((Itl K a).go i H/\∃ Nx:Hp->Prop,(∀ H',Nx H'->∃ m',m' < m/\W (i+1) m' H')/\∀ x H',(Itl K a).yld i H x H'->g x (ym σ vs) H' λσ2 H2=>ym σ2 vs=ym σ vs/\tt σ2 H2 λb H3=>
    if b=true then te σ2 H3 λy H4=>∃ acc,H4 D=some (.lst acc)/\acc.length < sizeLine/\Nx (upd H4 D (.lst (acc++[y]))) else Nx H3):=by
 refine zri (xs:=xs.map c) (λi H'=>zh H1 H'/\H' D=some (.lst ((xs.take i).filterMap f))) ⟨yc (zh.refl _) hD,zb⟩ (λi H' _ p=>p.1.seq hl) (λi x H' hx p=>?_) (λH' p=>hd H' p.1 (by rw[z25,z4s]at p;exact p.2));rw[z27]at hx;cases e0:xs[i]? with
 |none=>
  rw[e0]at hx;cases hx
 |some y0=>
  rw[e0]at hx;have ex:c y0=x:=z3p hx;subst ex;have hi:=(z3b.mp e0).1;refine hs i y0 H' _ _ e0 p.1 (λy H4 s4 e=>?_) (λH3 s3 e=>?_)
  ·refine⟨_,s4 _ _ p.2,?_,yc (p.1.trans s4) hD,?_⟩
   ·have h1:=z5u f (xs.take i);rw[z35]at h1;omega
   ·rw[zb,jw e0,z43,z4m,e];rfl
  ·refine⟨p.1.trans s3,?_⟩;rw[jw e0,z43,z4m,e,z9i,z31];exact s3 _ _ p.2
theorem yk {f g:Str}{v x:V}{r:List (Str×V)}(h:¬g=f):xr f v ((g,x)::r)=(g,x)::xr f v r:=by
 show (if g=f then (g,v)::r else (g,x)::xr f v r)=_;rw[z3k h]
theorem Ue {f:Str}{v x:V}{r:List (Str×V)}:xr f v ((f,x)::r)=(f,v)::r:=by
 show (if f=f then (f,v)::r else (f,x)::xr f v r)=_;rw[z3m rfl]
theorem zgc {f:Str}{v:V}:xr f v []=[(f,v)]:=rfl
structure Xo (P:Program)(w:World)(K:Fr)(a:Addr)(kvs:List (j2×V)):Prop where
 ns:(a==sysModules)=false
 dd:∃ vs,KV kvs vs/\∀ h:Heap,K.In h->h.DictOf (jn P w) a vs
def zyx (kvs:List (j2×V))(ty:TE):TE:=λσ H Q=>ty σ H λy H1=>∃ k v,y=kV k/\ye kvs k=some v/\Q v H1
section
variable {X:Cx}{x m:Str}{a C:Addr}{i e o:Expr}{es:List Expr}{kvs:List (j2×V)}{ta ty tx:TE}{t:TA}{p pos apos cpos:Pos}{k:Nat}{ps:List Str}{sp:Sp}
theorem zke (hg:Gl X x)(hm:X.mg x=some (.ref a))(D:Xo X.prog X.w X.K a kvs)(hi:PE X i ty)(hs:znb i:=by exact λ_ _=>rfl)(hd:(x==("__debug__":Str))=false:=by decide):PE X (.Subscript (.Name x p) i pos) (zyx kvs ty):=by
 intro pins s σ H Q I h;refine Ug z66.lookup hs (yd ((vg (v:=.ref a) hg hm rfl hd) pins s σ H (λx H1=>x=.ref a/\H1=H) I ⟨rfl,rfl⟩) λu s1 ⟨x,H1,I1,rx,ex,eH⟩=>?_);subst ex eH;obtain rfl:u=Value.ref a:=rx;refine yd (hi pins s1 σ _ _ I1 h) λiv s2 ⟨y,H2,I2,ry,k,v,ey,ev,q2⟩=>?_;subst ey;obtain⟨vs,rel,dd⟩:=D.dd;have dd:=dd _ I2.kIn;obtain⟨w',hw,rw'⟩:=Zr.some_of (v:=v) (o:=valueAt vs k) (by rw[<-ev];exact rel.val k);exact⟨dd.typeIs,z85 (V0 ry) dd.mapOf hw ⟨v,H2,I2.tok _,rw',q2⟩⟩
def zw6 (kvs:List (j2×V))(ty tx:TE):TE:=λσ H Q=>ty σ H λy H1=>tx σ H1 λz H2=>∃ k,y=kV k/\Q ((ye kvs k).getD z) H2
theorem zf7 (hg:Gl X x)(hm:X.mg x=some (.ref a))(D:Xo X.prog X.w X.K a kvs)(he:PE X e ty)(hf:PE X o tx)(m:M2 X (.Name x p) "get" apos e o cpos)(hd:(x==("__debug__":Str))=false:=by decide):PE X (.Call (.Attribute (.Name x p) "get" apos) [e,o] [] cpos) (zw6 kvs ty tx):=by
 intro pins s σ H Q I h;obtain⟨vs,rel,dd⟩:=D.dd;refine z95 m.base m.few m.line jan PySem.F.slot_dict_get PySem.F.type_dict_get (yd ((vg (v:=.ref a) hg hm rfl hd) pins s σ H (λx H1=>x=.ref a/\H1=H) I ⟨rfl,rfl⟩) λu s1 ⟨x,H1,I1,rx,ex,eH⟩=>?_);subst ex eH;obtain rfl:u=Value.ref a:=rx;have d1:=dd _ I1.kIn;refine⟨d1.typeIs,d1.mapOf.noDict,?_⟩;rw[m.trees];refine z9a rfl (Calls.evalArgs_plain (z63 (yd (he pins s1 σ _ _ I1 h) λiv s2 ⟨y,H2,I2,ry,q2⟩=>
  z63 (yd (hf pins s2 σ H2 _ I2 q2) λfv s3 ⟨z,H3,I3,rz,k,ey,q3⟩=>z70 ?_))))
 subst ey;have d3:=dd _ I3.kIn;exact call_meetsIn PySem.F.slot_dict_get d3.typeIs PySem.F.entry_dict_get (PySem.F.args_dict_get_3 _ _ _) (meets_dict_get_default (jn X.prog X.w) a (V0 ry) D.ns fv) ⟨_,d3.mapOf,⟨_,H3,I3.tok _,(rel.val k).getD rz,q3⟩⟩
theorem zv6 (he:PE X o ta)(cl:Cls X.K C)(c:ww X.prog X.w X.K X.mg X.base C m k ps sp)(hr:Room k X.A){pl:Sem Bool}(hl:∀ b lw lk lm lt,(yx b lw lk lm lt).lookup m=none:=by intros;rfl)
  (ht:eval (.Call (.Attribute o m apos) [] [] pos) X.env=(do
   let ov <-eval o X.env
   standAt apos.atName
   let (f,first) <-holding [ov] (getMethod ov m pl)
   callWith pos f first (backTo pos (starEach [] X.env)) (backToKw pos (keywordEach [] X.env))):=by rfl):
  PE X (.Call (.Attribute o m apos) [] [] pos) (tBm C sp ta zi1):=by
 obtain⟨f,fd,hm,hb,F⟩:=c;intro pins s σ H Q I h;refine z8t (pl:=pl) (yd (he pins s σ H _ I h) λu s1 ⟨x,H1,I1,rx,a,b,ex,⟨dx,lw,lk,lm,lt,B⟩,q⟩=>?_) ht;subst ex;obtain rfl:u=Value.ref a:=rx;refine Xb I1 B.ins cl hm (hl b lw lk lm lt) ?_;exact PySem.W.callWith_K0 (first:=[.ref a]) I1.kIn hm.kp (Gx (us:=[.ref a]) (vs:=[.ref a]) F hr hb .nil Gq I1 (.cons rfl .nil) q)
end
theorem zk5 (a v:Value):argsOk "max" ⟨[a],[(Str.ofString "default",v)]⟩:=by unfold argsOk;kernel_rfl
section
variable {prog:Program}{w:World}{A:Around}{R:Result->Shared->Prop}{I:Addr}{fp wr:List Addr}{n:Nat}{P:Nat->Value->Prop}{St:Nat->Heap->Prop}{kw:List (Str×Value)}
theorem zou (W:Walks prog w A.in1 I fp wr n P St)(bt:Nat->Nat->Bool)(hcmp:CmpOf prog w A.in1 .Gt P bt)(S:Addr)(hS0:S∉fp):
  ∀(k j:Nat) (s:Shared) (vb:Value) (c:Nat),n - (j+1)=k->j+1<=n->St (j+1) s.heap->P (argBest bt j) vb->s.heap.get? S=some {cls:=.type "list",dict:=none,data:=.seq #[vb,vb] c,slots:= #[]}->
  (∀ v h' tk,P (argBest bt (n - 1)) v->(∀ b o,b∉wr->b≠S->s.heap.get? b=some o->h'.get? b=some o)->R (.ok (.ret v)) {s with heap:=h',toks:=tk})->codeAny (model prog w) A (.builtin "max.loop" ⟨[.ref I,.none,.ref S],kw⟩) R s:=by
 have hS1:S∉wr:=λh=>hS0 (W.sub _ h);have hnm:(toString "max"++toString ".loop":String)="max.loop":=by decide
 intro k
 induction k with
 |zero=>
  intro j s vb c hk hj st0 hPb hSo hR;have hin:j+1=n:=by omega
  refine z65 jaq ?_;rw[z6g z61 _];show wpAny _ A.in1 (seqItems? (.ref S) >>= _) _ _ s;refine z26 (z5f hSo rfl ?_);show wpAny _ A.in1 (tryCatch (pyNext (.ref I)) _ >>= _) _ _ s;refine z26 (z71 (W.done s _ _ (hin▸st0) λh1 tk1 hk1=>?_));have hS2:=hk1 S _ hS1 hSo;show wpAny _ A.in1 (updateSeq S (λ_=> #[]) >>= _) _ _ _;refine z26 ?_;refine z6o hS2 rfl (z26 (z7y (z3h ?_)));exact hR vb _ tk1 (by rw[<-hin];exact hPb) λb o hbw hbS e=>(z40 _ _ (z7c hbS)).trans (hk1 b o hbw e)
 |succ k ih=>
  intro j s vb c hk hj st0 hPb hSo hR;have hlt:j+1 < n:=by omega
  refine z65 jaq ?_;rw[z6g z61 _];show wpAny _ A.in1 (seqItems? (.ref S) >>= _) _ _ s;refine z26 (z5f hSo rfl ?_);show wpAny _ A.in1 (tryCatch (pyNext (.ref I)) _ >>= _) _ _ s;refine z26 (z71 (W.item (j+1) s _ _ hlt st0 λv h1 tk1 hP st1 hk1=>?_));have hS2:=hk1 S _ hS1 hSo;show wpAny _ A.in1 (tryCatch (holding [v,v] (richCompare .Gt v vb >>= _)) _ >>= _) _ _ _;refine z26 (z71 (z56 (z26 (hcmp (j+1) (argBest bt j) v vb _ _ _ hP hPb ?_))));refine z26 (z56 (z6p ?_));refine z26 (z7y (z3h ?_));cases hb:bt (j+1) (argBest bt j) with
  |true=>
   simp only[z6d];refine z26 ?_;refine z6o hS2 rfl (z26 (z7y ?_));rw[hnm];refine z3h ⟨z6v z61 _,ih (j+1) _ v _ (by omega) hlt (W.frame _ _ _ st1 λb hbf o e=>?_) (by simp only[argBest,hb,z6d];exact hP) (z5j _ hS2 rfl) λv2 h2 tk2 hP2 hk2=>?_⟩
   ·exact (z40 _ _ (λh:S=b=>hS0 (by rw[h];exact hbf))).trans e
   ·exact hR v2 h2 tk2 hP2 λb o hbw hbS e=>hk2 b o hbw hbS ((z40 _ _ (z7c hbS)).trans (hk1 b o hbw e))
  |false=>
   simp only[z5k,z54];refine z26 (z7y ?_);rw[hnm];refine z3h ⟨z6v z61 _,ih (j+1) _ vb c (by omega) hlt st1 (by simp only[argBest,hb,z5k,z54];exact hPb) hS2 λv2 h2 tk2 hP2 hk2=>?_⟩;exact hR v2 h2 tk2 hP2 λb o hbw hbS e=>hk2 b o hbw hbS (hk1 b o hbw e)
end
section
variable {prog:Program}{w:World}{A:Around}{E:Value->Shared->Prop}{s:Shared}{l:Addr}{its:List Value}{ns:List Int}{Q:Value->Shared->Prop}
theorem zot (hh:A.handled=none)(hl:s.heap.IsList l its.toArray)(hi:IntsAre its ns)
  (h0:ns=[]->∀ h' tk,(∀ b o,s.heap.get? b=some o->h'.get? b=some o)->Q .none {s with heap:=h',toks:=tk})
  (h:∀ h' tk M t',(∀ b o,s.heap.get? b=some o->h'.get? b=some o)->M∈ns->(∀ a,a∈ns->a<=M)->Q (.int M t') {s with heap:=h',toks:=tk}):
  wpAny (model prog w) A (call (.builtin "max") [.ref l] [(Str.ofString "default",.none)]) Q E s:=by
 obtain⟨xs,e⟩:=hi.allInts.items;have hn:numsOf (intItems xs).toList=ns:=by rw[<-e];exact hi.numsOf
 rw[nums_intItems]at hn;subst hn;rw[e]at hl;have hnm:(toString "max"++toString ".loop":String)="max.loop":=by decide
 refine kmk_tree F.kind_max F.plain_max F.entry_max (zk5 _ _) ?_;show wpAny _ A.in1 (Builtin.Builtins.bindParams "max" ["key","default"] 0 ⟨[],[(Str.ofString "default",.none)]⟩ >>= _) _ _ s;refine z26 (wpAny_of_eq (show Builtin.Builtins.bindParams "max" ["key","default"] 0 ⟨[],[(Str.ofString "default",.none)]⟩=pure [none,some .none] from rfl) ?_);refine z26 (z3h ?_);obtain⟨ol,hol,_⟩:=id hl;have hll:l < s.heap.objs.size:=z3j hol;refine z26 (z7x hl ?_);refine z26 (wpAny_newList ?_ (z4c _));rw[hnm];have hlI:l≠s.heap.objs.size:=z4a hll;have W:=Walks.list (prog:=prog) (w:=w) (A:=A.in1) hh s.heap.objs.size l hlI (intItems xs);have hS:(s.heap.push {cls:=.type "list_iterator",data:=.fields #[.ref l,.int 0 0]}).objs.size=s.heap.objs.size+1:=size_push' ..;have gI:((s.heap.push {cls:=.type "list_iterator",data:=.fields #[.ref l,.int 0 0]}).push (seqObj "list" #[] 0)).get? s.heap.objs.size=some {cls:=.type "list_iterator",data:=.fields #[.ref l,.int 0 0]}:=
  z29 _ (z3o _ rfl)
 have gS:((s.heap.push {cls:=.type "list_iterator",data:=.fields #[.ref l,.int 0 0]}).push (seqObj "list" #[] 0)).get? (s.heap.push {cls:=.type "list_iterator",data:=.fields #[.ref l,.int 0 0]}).objs.size=some (seqObj "list" #[] 0):=z3o _ rfl;have gl:((s.heap.push {cls:=.type "list_iterator",data:=.fields #[.ref l,.int 0 0]}).push (seqObj "list" #[] 0)).IsList l (intItems xs):=(hl.push _).push _;have old:∀ b o,s.heap.get? b=some o->((s.heap.push {cls:=.type "list_iterator",data:=.fields #[.ref l,.int 0 0]}).push (seqObj "list" #[] 0)).get? b=some o:=λb o e=>z29 _ (z29 _ e);have hSI:(s.heap.push {cls:=.type "list_iterator",data:=.fields #[.ref l,.int 0 0]}).objs.size≠s.heap.objs.size:=by rw[hS];exact z4e (z6r _)
 have hSl:(s.heap.push {cls:=.type "list_iterator",data:=.fields #[.ref l,.int 0 0]}).objs.size≠l:=by rw[hS];exact z4e (z48 hll)
 have oI:∀ b o,s.heap.get? b=some o->b≠s.heap.objs.size:=λb o e=>z4a (z3j e);have oS:∀ b o,s.heap.get? b=some o->b≠(s.heap.push {cls:=.type "list_iterator",data:=.fields #[.ref l,.int 0 0]}).objs.size:=λb o e=>by rw[hS];exact z4a (z48 (z3j e))
 generalize (s.heap.push {cls:=.type "list_iterator",data:=.fields #[.ref l,.int 0 0]}).objs.size=S at gS hSI hSl oS ⊢;refine z3h ⟨z6v z61 _,z65 jaq ?_⟩;rw[z6g z61 _];show wpAny _ A.in1 (seqItems? (.ref S) >>= _) _ _ _;refine z26 (z5f gS rfl ?_);show wpAny _ A.in1 (tryCatch (pyNext (.ref s.heap.objs.size)) _ >>= _) _ _ _;by_cases hne:0 < (intItems xs).size
 ·refine z26 (z71 (W.item 0 _ _ _ hne ⟨⟨_,gI,rfl,rfl⟩,gl⟩ λv h1 tk1 hP st1 hk1=>?_));have hS2:=hk1 S _ (by simpa using hSI) gS;have hS0:S∉[s.heap.objs.size,l]:=by simp[hSI,hSl]
  show wpAny _ A.in1 (updateSeq S (λ_=> #[v,v]) >>= _) _ _ _;refine z26 ?_;refine z6o hS2 rfl ?_;rw[hnm];refine z3h ⟨z6v z61 _,zou W _ (CmpOf.ints_gt (numAt xs) (λ_ _=>intItems_at)) S hS0 _ 0 _ v _ rfl hne (W.frame _ _ _ st1 λb hbf o e=>?_) hP (z5j _ hS2 rfl) λv2 h2 tk2 hP2 hk2=>?_⟩
  ·exact (z40 _ _ (λh:S=b=>hS0 (by rw[h];exact hbf))).trans e
  ·obtain⟨t,rfl⟩:=intItems_at hP2;have hsz:(intItems xs).size=xs.size:=by simp[intItems]
   rw[hsz]at hne ⊢;obtain⟨g1,g2⟩:=argBest_gt (numAt xs) (xs.size - 1);refine h h2 tk2 _ t (λb o e=>hk2 b o (by simpa using oI b o e) (oS b o e) ((z40 _ _ (z7c (oS b o e))).trans (hk1 b o (by simpa using oI b o e) (old b o e)))) ?_ λa ha=>?_
   ·rw[numAt_eq];exact PySem.getD_mem (by rw[z25,z5i];omega)
   ·obtain⟨j,hj,rfl⟩:=mem_getD ha;rw[z25,z5i]at hj;rw[<-numAt_eq];exact g2 j (by omega)
 ·have h0':(intItems xs).size=0:=by omega
  have hz:xs.size=0:=by simpa[intItems] using h0'
  have hx:xs= #[]:=Array.eq_empty_of_size_eq_zero hz;refine z26 (z71 (W.done _ _ _ ⟨⟨_,gI,rfl,by rw[h0'];rfl⟩,gl⟩ λh1 tk1 hk1=>?_));refine z26 (z9j (z3h ?_));exact h0 (by subst hx;rfl) h1 tk1 λb o e=>hk1 b o (by simpa using oI b o e) (old b o e)
end
def zos (ns:List Int)(v:V):Prop:=(ns=[]/\v=.non)\/∃ M,v=.int M/\M∈ns/\∀ a,a∈ns->a<=M
def zy0 (K:Fr)(t:TE):TE:=λσ H Q=>t σ H λx H1=>∃ a ns,x=.ref a/\zx K H1 a (ns.map V.int)/\∀ v,zos ns v->Q v H1
theorem zkf {X:Cx}{e:Expr}{t:TE}{p pos kpos npos:Pos}{nj}(hc:X.calm=true)(hg:Gl X "max")(hm:X.mg "max"=none)(ha:PE X e t)
  (he:starEach [e] X.env=[(false,eval e X.env)]:=by rfl):PE X (.Call (.Name "max" p) [e] [⟨some "default",.Constant .none nj npos,kpos⟩] pos) (zy0 X.K t):=by
 intro pins s σ H Q I h;refine z5g (vc I hg hm (by decide+kernel:bootBuiltins "max"=some (.builtin "max")) ?_ (by decide) (by decide));refine jah (yd (za ha zd he pos pins s σ H (λvs H1=>match vs with
  |[x]=>∃ a ns,x=V.ref a/\zx X.K H1 a (ns.map V.int)/\∀ v,zos ns v->Q v H1
  |_=>False) I h) λus s1 ⟨vs,H1,I1,r,q⟩=>?_) (by rw[he];rfl) (by rw[he];rfl)
 refine PyProof.Rows.kws_cons (Constant_none (PyProof.Rows.kws_nil ?_))
 match vs,r,q with
 |[x],r,q=>
  obtain⟨a,ns,rfl,hs,q⟩:=q;obtain⟨its,rv,hl,_⟩:=I1.list hs;rw[jf.ref1 r];exact zot (I1.ok.hd hc) hl.isList rv.ints (λhn h' tk hk=>⟨.non,H1,I1.kept hk,rfl,q _ (.inl ⟨hn,rfl⟩)⟩) λh' tk M t' hk h1 h2=>⟨.int M,H1,I1.kept hk,⟨_,rfl⟩,q _ (.inr ⟨M,rfl,h1,h2⟩)⟩
def zdl:List Value->List Int->Bool
 |[],[]=>true
 | .int i _::vs,j::js=>(i==j)&&zdl vs js
 |_,_=>false
def seqT (K:Fr)(v:Value):Option (List Value):=match v with
 | .ref q=>(match K.lookup q with
  |some ⟨.type n,_,.seq its _,_⟩=>if n=="tuple"&&its.toList.length<=1000 then some its.toList else none
  |_=>none)
 |_=>none
def Uh (K:Fr)(v:Value)(r:List Int):Bool:=match seqT K v with
 |some vs=>zdl vs r
 |none=>false
def zeb (K:Fr):List Value->List (List Int)->Bool
 |[],[]=>true
 |v::vs,r::rs=>Uh K v r&&zeb K vs rs
 |_,_=>false
def K1 (K:Fr)(v:Value)(rs:List (List Int)):Bool:=match seqT K v with
 |some vs=>zeb K vs rs
 |none=>false
theorem zby:∀{vs:List Value}{js:List Int},zdl vs js=true->jf (js.map V.int) vs
 |[],[],_=>.nil
 |[],_::_,h=>by cases h
 |v::vs,[],h=>by cases v<;>cases h
 |v::vs,j::js,h=>by
  cases v with
  |int i t=>
   have h':((i==j)&&zdl vs js)=true:=h;rw[z3f,z4x]at h';rw[z3n,<-h'.1];exact .cons ⟨t,rfl⟩ (zby h'.2)
  |_=>cases h
theorem zkp {K:Fr}{v:Value}{vs:List Value}(h:seqT K v=some vs){xs:List V}(r:jf xs vs):∃ q,v=.ref q/\∀ H,yw K H q xs:=by
 unfold seqT at h;split at h
 ·rename_i q;split at h
  ·rename_i n d its m sl e;split at h
   ·rename_i hc;rw[z3f,z4x,z4i]at hc;cases h;refine⟨q,rfl,λH=>.inr ⟨_,its,m,e,by rw[hc.1],rfl,?_,r⟩⟩;have:=hc.2;rw[z5i]at this;exact z32 this (by decide)
   ·cases h
  ·cases h
 ·cases h
theorem zi3 {K:Fr}{v:Value}{r:List Int}(h:Uh K v r=true):∃ q,v=.ref q/\∀ H,yw K H q (r.map V.int):=by
 unfold Uh at h;split at h
 ·rename_i vs e;exact zkp e (zby h)
 ·cases h
abbrev zbl (K:Fr):List Addr->List (List Int)->Prop:=Paired λp r=>∀ H,yw K H p (r.map V.int)
theorem zcc {K:Fr}:∀{vs:List Value}{rs:List (List Int)},zeb K vs rs=true->∃ as,jf (as.map V.ref) vs/\zbl K as rs
 |[],[],_=>⟨[],.nil,.nil⟩
 |[],_::_,h=>by cases h
 |_::_,[],h=>by cases h
 |v::vs,r::rs,h=>by
  have h':(Uh K v r&&zeb K vs rs)=true:=h;rw[z3f]at h';obtain⟨q,e,s⟩:=zi3 h'.1;obtain⟨as,a1,a2⟩:=zcc h'.2;exact⟨q::as,.cons e a1,.cons s a2⟩
def K7 (K:Fr)(q:Addr)(rs:List (List Int)):Prop:=∃ as,(∀ H,yw K H q (as.map V.ref))/\zbl K as rs
theorem Xl {K:Fr}{v:Value}{rs:List (List Int)}(h:K1 K v rs=true):∃ q,v=.ref q/\K7 K q rs:=by
 unfold K1 at h;split at h
 ·rename_i vs e;obtain⟨as,a1,a2⟩:=zcc h;obtain⟨q,e2,s⟩:=zkp e a1;exact⟨q,e2,as,s,a2⟩
 ·cases h
def zjz (f:Int->Value->Bool):List DictEntry->List Int->Bool
 |[],[]=>true
 |⟨h,.int i _,v⟩::es,j::js=>(i==j)&&((h==hashInt i)&&(f i v&&zjz f es js))
 |_,_=>false
def zn0 (K:Fr)(f:Int->Value->Bool)(v:Value)(js:List Int):Bool:=match v with
 | .ref q=>(match K.lookup q with
  |some ⟨.type n,none,.dict es _,sl⟩=>(n=="dict")&&(sl.toList.isEmpty&&(!(q==sysModules)&&zjz f es.toList js))
  |_=>false)
 |_=>false
theorem zfp {P:Program}{w:World}{f:Int->Value->Bool}{R:Int->V->Prop}(hf:∀ i v,f i v=true->∃ x,jp x v/\R i x):∀{es:List DictEntry}{js:List Int},zjz f es js=true->
  ∃(kvs:List (j2×V)) (vs:List (j2×Value)),KV kvs vs/\Pairs (jn P w) es vs/\kvs.map (·.1)=js.map Sum.inl/\(∀ e,e∈es->∃ k,(jn P w).is k e.key=true/\e.hash=(jn P w).hash k)/\∀ i,(i∈js->∃ x,ye kvs (.inl i)=some x/\R i x)/\(¬i∈js->ye kvs (.inl i)=none)
 |[],[],_=>⟨[],[],.nil,.nil,rfl,λe he=>(by cases he),λi=>⟨λh=>(by cases h),λ_=>rfl⟩⟩
 |[],_::_,h=>by cases h
 |⟨h0,k0,v0⟩::es,[],h=>by cases k0<;>cases h
 |⟨h0,k0,v0⟩::es,j::js,h=>by
  cases k0 with
  |int i t=>
   have h':((i==j)&&((h0==hashInt i)&&(f i v0&&zjz f es js)))=true:=h;rw[z3f,z3f,z3f,z4x,z4x]at h';obtain⟨rfl,eh,hfv,hr⟩:=h';obtain⟨x,rx,hx⟩:=hf i v0 hfv;obtain⟨kvs,vs,a1,a2,a3,a4,a5⟩:=zfp (P:=P) (w:=w) hf hr;refine⟨(.inl i,x)::kvs,(.inl i,v0)::vs,.cons ⟨rfl,rx⟩ a1,.cons (Zj P w i t) rfl a2,by rw[z3n,z3n,a3],λe he=>?_,λz=>⟨λhz=>?_,λhz=>?_⟩⟩
   ·rcases z3t.mp he with he|he
    ·rw[he];exact⟨.inl i,Zj P w i t,eh⟩
    ·exact a4 e he
   ·by_cases q:i=z
    ·subst q;exact⟨x,vq rfl,hx⟩
    ·obtain⟨y,b1,b2⟩:=(a5 z).1 ((z3t.mp hz).resolve_left λe=>q e.symm);exact⟨y,by rw[xi (by intro e;exact q (z6e e))];exact b1,b2⟩
   ·rw[xi (by intro e;exact hz (by rw[<-z6e e];exact z3e))];exact (a5 z).2 λe=>hz (z3d _ e)
  |_=>cases h
theorem zn1 {P:Program}{w:World}{K:Fr}{f:Int->Value->Bool}{v:Value}{js:List Int}{R:Int->V->Prop}(hf:∀ i v,f i v=true->∃ x,jp x v/\R i x)(nd:js.Nodup)(h:zn0 K f v js=true):
  ∃ q kvs,v=.ref q/\Xo P w K q kvs/\kvs.map (·.1)=js.map Sum.inl/\∀ i,(i∈js->∃ x,ye kvs (.inl i)=some x/\R i x)/\(¬i∈js->ye kvs (.inl i)=none):=by
 unfold zn0 at h;split at h
 ·rename_i q;split at h
  ·rename_i n es ep sl e;rw[z3f,z3f,z3f,z4x]at h;obtain⟨rfl,h2,h3,h4⟩:=h;obtain⟨kvs,vs,a1,a2,a3,a4,a5⟩:=zfp (P:=P) (w:=w) hf h4;refine⟨q,kvs,rfl,⟨by simpa using h3,vs,a1,λhp X=>⟨_,es,ep,X _ _ e,⟨rfl,rfl,?_⟩,rfl,λen he=>a4 en (by simpa using he),a2,?_⟩⟩,a3,a5⟩
   ·have:sl.toList=[]:=List.isEmpty_iff.mp h2;exact Array.toList_eq_nil_iff.mp this
   ·rw[<-a1.keys,a3];exact List.Pairwise.map _ (λa b hne e=>hne (z6e e)) nd
  ·cases h
 ·cases h
def nsV (K:Fr)(x:Str):Option Value:=match PySem.W.nsIn K mainGlobals x with
 |some (some v)=>some v
 |_=>none
theorem zie {K:Fr}{h:Heap}{mg:Str->Option Value}{x:Str}{v:Value}(X:K.In h)(G:h.Ns mainGlobals mg)(e:nsV K x=some v):mg x=some v:=by
 unfold nsV at e;split at e
 ·rename_i u q;cases e;exact jam X G q
 ·cases e
def ckT (K:Fr)(x:Str)(rs:List (List Int)):Bool:=match nsV K x with
 |some v=>K1 K v rs
 |none=>false
def ckD (K:Fr)(x:Str)(f:Int->Value->Bool)(js:List Int):Bool:=match nsV K x with
 |some v=>zn0 K f v js
 |none=>false
theorem zho {K:Fr}{h:Heap}{mg:Str->Option Value}{x:Str}{rs:List (List Int)}(X:K.In h)(G:h.Ns mainGlobals mg)(e:ckT K x rs=true):∃ q,mg x=some (.ref q)/\K7 K q rs:=by
 unfold ckT at e;split at e
 ·rename_i v hv;obtain⟨q,rfl,t⟩:=Xl e;exact⟨q,zie X G hv,t⟩
 ·cases e
theorem zhn {P:Program}{w:World}{K:Fr}{h:Heap}{mg:Str->Option Value}{x:Str}{f:Int->Value->Bool}{js:List Int}{R:Int->V->Prop}(hf:∀ i v,f i v=true->∃ x,jp x v/\R i x)(nd:js.Nodup)(X:K.In h)(G:h.Ns mainGlobals mg)(e:ckD K x f js=true):
  ∃ q kvs,mg x=some (.ref q)/\Xo P w K q kvs/\kvs.map (·.1)=js.map Sum.inl/\∀ i,(i∈js->∃ x,ye kvs (.inl i)=some x/\R i x)/\(¬i∈js->ye kvs (.inl i)=none):=by
 unfold ckD at e;split at e
 ·rename_i v hv;obtain⟨q,kvs,rfl,a,c⟩:=zn1 (P:=P) (w:=w) hf nd e;exact⟨q,kvs,zie X G hv,a,c⟩
 ·cases e
def zof (K:Fr)(xs:List Str)(i:Int)(v:Value):Bool:=match xs[i.toNat]? with
 |some x=>(match nsV K x,v with
  |some (.ref f),.ref g=>f==g
  |_,_=>false)
 |none=>false
theorem K4:∀{xs:List V}{us:List Value},xs.length=us.length->(∀(i:Nat) (x:V) (u:Value),xs[i]? =some x->us[i]? =some u->jp x u)->jf xs us
 |[],[],_,_=>.nil
 |[],_::_,h,_=>by cases h
 |_::_,[],h,_=>by cases h
 |x::xs,u::us,h,r=>.cons (r 0 x u rfl rfl) (K4 (by simpa using h) λi y v e1 e2=>r (i+1) y v (by simpa using e1) (by simpa using e2))
section
variable {X:Cx}
theorem zz.listed {pins:List (Addr×Obj)}{σ:L2.St}{H:Hp}{s:Shared}{h':Heap}{tk c:Nat}{acc:Array Value}{xs:List V}(I:zz X pins σ H s)(hk:∀ b o,s.heap.get? b=some o->h'.get? b=some o)
  (hD:h'.get? s.heap.objs.size=some {cls:=.type "list",dict:=none,data:=.seq acc c,slots:= #[]})(r:jf xs acc.toList)(hz:xs.length<=sizeLine):zz X pins σ (upd H s.heap.objs.size (.lst xs)) {s with heap:=h',toks:=tk}:=
 I.laid (t':=tk) hk (z3c _) ⟨hz,acc.toList,c,r,by rw[Array.toArray_toList];exact hD⟩
theorem Ut (hc:X.calm=true):Zz X (.type "list") (λxs H Q=>∃ d kvs,xs=[.ref d]/\Rd H d (.dK kvs)/\∀ l,H l=none->Q (.ref l) (upd H l (.lst (kvs.map λq=>kV q.1)))):=by
 intro pins s σ H xs us Q I r h;obtain⟨d,kvs,rfl,e,q⟩:=h;rw[jf.ref1 r];obtain⟨z,hd,vs,rel,dd⟩:=Xz I.hok e;obtain⟨ep,hat⟩:=dd.dictAt;have hl:kvs.length=vs.length:=rel.length;refine z9w (PySem.W.kdl_dict (knd:=jn X.prog X.w) (kvs:=vs) (ep:=ep) hd) (I.ok.hd hc) hat (by omega) λh' tk acc c hk hD hacc=>?_;refine⟨.ref _,_,zz.listed (xs:=kvs.map λq=>kV q.1) I hk hD (K4 ?_ λi x u e1 e2=>?_) (by rw[z25];exact z),rfl,q _ I.fresh⟩
 ·rw[z25,hl,<-hacc.1];exact z5i.symm
 ·rw[z62]at e2;obtain⟨k,y,hy,hk⟩:=hacc.2 i u e2;rw[z27]at e1;cases e3:kvs[i]? with
  |none=>
   rw[e3]at e1;cases e1
  |some q=>
   obtain⟨k',v'⟩:=q;rw[e3]at e1;obtain rfl:kV k'=x:=z3p e1;obtain⟨w',hw,_⟩:=U2 rel e3;rw[hy]at hw;cases hw;exact Gw hk
theorem zg2 {kvs:List (j2×V)}{vs:List (j2×Value)}{acc:Array Value}(rel:KV kvs vs)(hs:acc.size=vs.length)(ha:∀(i:Nat) (v:Value),acc[i]? =some v->∃ k:j2,vs[i]? =some (k,v)):jf (kvs.map (·.2)) acc.toList:=by
 have hl:kvs.length=vs.length:=rel.length;refine K4 (by rw[z25,hl,<-hs];exact z5i.symm) λi x u e1 e2=>?_;rw[z62]at e2;obtain⟨k,hk⟩:=ha i u e2;rw[z27]at e1;cases e3:kvs[i]? with
 |none=>
  rw[e3]at e1;cases e1
 |some q=>
  obtain⟨k',v'⟩:=q;rw[e3]at e1;obtain rfl:v'=x:=z3p e1;obtain⟨w',hw,r⟩:=U2 rel e3;rw[hk]at hw;cases hw;exact r
theorem zcn {e:Expr}{td:TE}{apos cpos:Pos}{pins:List (Addr×Obj)}{σ:L2.St}{H:Hp}{s:Shared}{Qv:Value->Shared->Prop}(he:PE X e td)(I:zz X pins σ H s){Q:Addr->List (j2×V)->Hp->Prop}
  (h:td σ H λx H1=>∃ d kvs,x=.ref d/\Rd H1 d (.dK kvs)/\Q d kvs H1)
  (k:∀(d v:Addr) (kvs:List (j2×V)) (vs:List (j2×Value)) (ep:Nat) (H1:Hp) (s2:Shared),zz X pins σ H1 s2->KV kvs vs->kvs.length<=sizeLine->s2.heap.IsValuesView v d->s2.heap.DictAt (jn X.prog X.w) d vs ep->Q d kvs H1->Qv (.ref v) s2)
  (hbase:attributeBase e "values" X.env (eval e X.env)=eval e X.env:=by rfl)(hline:(apos.endLine==cpos.line)=true:=by rfl):wpAny (model X.prog X.w) X.A (eval (.Call (.Attribute e "values" apos) [] [] cpos) X.env) Qv X.xe s:=by
 refine z95 (T:="dict") (id:="dict.values") hbase rfl hline jan jag PySem.F.type_dict_values (yd (he pins s σ H _ I h) λu s1 ⟨x,H1,I1,rx,d,kvs,ex,hd,q⟩=>?_);subst ex;obtain rfl:u=Value.ref d:=rx;obtain⟨z,hs,vs,rel,dd⟩:=Xz I1.hok hd;obtain⟨ep,hm⟩:=dd.dictAt;refine⟨dd.typeIs,dd.mapOf.noDict,?_⟩;have I2:zz X pins σ H1 {s1 with heap:=s1.heap.push {cls:=.type "dict_values",data:=.fields #[.ref d]}}:=I1.kept (t':=s1.toks) λb ob q=>z29 _ q;have fin:=k d s1.heap.objs.size kvs vs ep H1 _ I2 rel z ⟨_,z3o _ rfl,rfl,rfl⟩ (hm.push _) q;show wpAny _ _ (callWith cpos (.builtin "dict.values") [.ref d] [] []) _ X.xe s1;exact method_meetsIn jag PySem.F.entry_dict_values rfl (z88 ⟨rfl,dd.typeIs,PySem.F.args_dict_values_1 _,_,meets_dict_values (jn X.prog X.w) d hs,⟨vs,dd⟩,fin⟩)
def zw7 (td:TE):TE:=λσ H Q=>td σ H λx H1=>∃ d kvs,x=.ref d/\Rd H1 d (.dK kvs)/\∀ l,H1 l=none->Q (.ref l) (upd H1 l (.lst (kvs.map (·.2))))
theorem zo4 {e:Expr}{td:TE}{p pos apos cpos:Pos}(hc:X.calm=true)(hg:Gl X "list")(hm:X.mg "list"=none)(he:PE X e td)(hbase:attributeBase e "values" X.env (eval e X.env)=eval e X.env:=by rfl)(hline:(apos.endLine==cpos.line)=true:=by rfl)
  (hs:starEach [.Call (.Attribute e "values" apos) [] [] cpos] X.env=[(false,eval (.Call (.Attribute e "values" apos) [] [] cpos) X.env)]:=by rfl):
  PE X (.Call (.Name "list" p) [.Call (.Attribute e "values" apos) [] [] cpos] [] pos) (zw7 td):=by
 intro pins s σ H Q I h;refine z5g (vc I hg hm (by decide+kernel:bootBuiltins "list"=some (.type "list")) ?_ (by decide) (by decide));refine z4y ?_ hs rfl;rw[hs];refine z63 ?_;refine zcn he I h (λd v kvs vs ep H1 s2 I2 rel z hv hat q=>z70 ?_) hbase hline;have hl:kvs.length=vs.length:=rel.length;refine z9w (PySem.W.kdl_values (knd:=jn X.prog X.w) (kvs:=vs) (ep:=ep)) (I2.ok.hd hc) ⟨hv,hat⟩ (by omega) λh' tk acc c hk hD hacc=>?_;exact⟨.ref _,_,zz.listed (xs:=kvs.map (·.2)) I2 hk hD (zg2 rel hacc.1 hacc.2) (by rw[z25];exact z),rfl,q _ I2.fresh⟩
def zy3 (td:TE):TE:=λσ H Q=>td σ H λx H1=>∃(d:Addr) (kvs:List (j2×V)) (ns:List Int),x=.ref d/\Rd H1 d (.dK kvs)/\kvs.map (·.2)=ns.map V.int/\Q (.int ns.sum) H1
theorem V7 (l:List Int):∀ j,j<=l.length->preSum (λi=>l.getD i 0) j=(l.take j).sum
 |0,_=>rfl
 |j+1,h=>by
  have e:l[j]? =some (l.getD j 0):=by
   rw[z3s,z28 h];rfl
  show preSum (λi=>l.getD i 0) j+l.getD j 0=_;rw[V7 l j (by omega),zgp e]
theorem zf9 (l:List Int):preSum (λi=>l.getD i 0) l.length=l.sum:=by
 rw[V7 l _ (z3c _),z4s]
theorem zru {e:Expr}{td:TE}{p pos apos cpos:Pos}(hc:X.calm=true)(hg:Gl X "sum")(hm:X.mg "sum"=none)(he:PE X e td)(hbase:attributeBase e "values" X.env (eval e X.env)=eval e X.env:=by rfl)(hline:(apos.endLine==cpos.line)=true:=by rfl)
  (hs:starEach [.Call (.Attribute e "values" apos) [] [] cpos] X.env=[(false,eval (.Call (.Attribute e "values" apos) [] [] cpos) X.env)]:=by rfl):
  PE X (.Call (.Name "sum" p) [.Call (.Attribute e "values" apos) [] [] cpos] [] pos) (zy3 td):=by
 intro pins s σ H Q I h;refine z5g (vc I hg hm (by decide+kernel:bootBuiltins "sum"=some (.builtin "sum")) ?_ (by decide) (by decide));refine z9t ?_ hs rfl;rw[hs];refine z63 ?_;refine zcn (Q:=λd kvs H1=>∃ ns:List Int,kvs.map (·.2)=ns.map V.int/\Q (.int ns.sum) H1) he I ?_ (λd v kvs vs ep H1 s2 I2 rel z hv hat q=>z70 ?_) hbase hline
 ·have e1:(λx H1=>∃(d:Addr) (kvs:List (j2×V)) (ns:List Int),x=V.ref d/\Rd H1 d (.dK kvs)/\kvs.map (·.2)=ns.map V.int/\Q (.int ns.sum) H1)=λx H1=>∃ d kvs,x=V.ref d/\Rd H1 d (.dK kvs)/\∃ ns:List Int,kvs.map (·.2)=ns.map V.int/\Q (.int ns.sum) H1:=by
   funext x H1;apply propext;constructor
   ·rintro⟨d,kvs,ns,a,b,c,q⟩;exact⟨d,kvs,a,b,ns,c,q⟩
   ·rintro⟨d,kvs,a,b,ns,c,q⟩;exact⟨d,kvs,ns,a,b,c,q⟩
  rw[<-e1];exact h
 ·obtain⟨ns,en,q⟩:=q;have hl:kvs.length=vs.length:=rel.length;have hn:ns.length=vs.length:=by
   have:=z6a List.length en;rw[z25,z25]at this;omega
  have KS:=PySem.W.kdl_values (r:=v) (d:=d) (knd:=jn X.prog X.w) (kvs:=vs) (ep:=ep);refine PySem.call_sum_walkAnyS ?_;obtain⟨oI,St,hit,W,st⟩:=KS.iter X.A.in1 s2 (I2.ok.hd hc) ⟨hv,hat⟩;refine hit _ _ ⟨s2.heap.objs.size,_,_,_,vs.length,_,_,λi=>ns.getD i 0,rfl,W.toS,st,λb hb=>?_,λi u hu=>?_,λs' t' hm=>?_⟩
  ·show b < (s2.heap.push oI).objs.size;rw[size_push'];rcases z3t.mp hb with e|hb
   ·rw[e];exact z6r _
   ·rw[z37.mp hb];exact z48 (KS.there _ ⟨hv,hat⟩).2
  ·obtain⟨k,hk⟩:=hu;have hi:i < kvs.length:=by
    have:=(z3b.mp hk).1;omega
   have e3:kvs[i]? =some kvs[i]:=z28 hi;obtain⟨w',hw,r⟩:=U2 (k:=kvs[i].1) (v:=kvs[i].2) rel e3;rw[hk]at hw;cases hw;have e4:(kvs.map (·.2))[i]? =some kvs[i].2:=by rw[z27,e3];rfl
   rw[en,z27]at e4;cases e5:ns[i]? with
   |none=>
    rw[e5]at e4;cases e4
   |some z0=>
    rw[e5]at e4;have e6:V.int z0=kvs[i].2:=z3p e4;rw[<-e6]at r;obtain⟨t,rfl⟩:=r;exact⟨t,by dsimp only;rw[z3s,e5];rfl⟩
  ·have hk:∀ b o,s2.heap.get? b=some o->s'.heap.get? b=some o:=λb o e=>hm.heap b o (λhI=>absurd (z3j e) (by rw[z37.mp hI];exact z5o _)) (z29 _ e);rw[Moved.eq_with hm,<-hn,zf9];exact⟨.int _,H1,I2.kept hk,⟨_,rfl⟩,q⟩
def zpd:V->List V->Hp->VK->Prop:=λx vs H Q=>∃ l xs y,x=.ref l/\vs=[.int 0,y]/\H l=some (.lst xs)/\xs.length < sizeLine/\Q .non (upd H l (.lst (y::xs)))
theorem zl0:MtM X "list.insert" zpd:=by
 intro pins s σ H x vs v us Q I rx rv h;obtain⟨l,xs,y,rfl,rfl,hH,hz,q⟩:=h;cases rx;obtain⟨u0,u,rfl,r0,ru⟩:=rv.two;obtain⟨t,rfl⟩:=r0;obtain⟨z,its,n,r,hl,e⟩:=I.lstM hH;refine z8e jaf ⟨_,e,rfl⟩ PySem.F.entry_list_insert (PySem.F.args_list_insert_3 _ _ _) (PySem.AutoListH.list_insert_list_int_val_1 l its.toArray n 0 t u (by decide) (by rw[z3x];omega)) ⟨e,?_⟩;refine⟨.non,_,I.lset (its':=u::its) hH e ?_ (.cons ru r) (by rw[z3l];omega),rfl,q⟩;simp
end
theorem vm {J:It}{n:Nat}{g:TG}{tb:TS}{D:Wr}{σ:L2.St}{H:Hp}(Pv:Nat->L2.St->Hp->Prop)(h0:Pv 0 σ H)(hgo:∀ i σ H,i < n->Pv i σ H->J.go i H)
  (hs:∀ i σ H x H' D',i < n->Pv i σ H->J.yld i H x H'->EA D' (Pv (i+1)) D.rt D.nx->g x σ H' λσ2 H2=>tb D' σ2 H2)(hd:∀ σ H,Pv n σ H->J.stop n H/\D.nx σ H):
  ∃ W:Nat->Nat->L2.St->Hp->Prop,(∃ m,W 0 m σ H)/\∀ i m σ H,W i m σ H->
   (J.stop i H/\D.nx σ H)\/(J.go i H/\∃ N:L2.St->Hp->Prop,(∀ σ' H',N σ' H'->∃ m',m' < m/\W (i+1) m' σ' H')/\∀ x H',J.yld i H x H'->g x σ H' λσ2 H2=>tb {D with nx:=N,ct:=N,bk:=D.nx} σ2 H2):=by
 refine⟨λi m σ H=>m=n - i/\i<=n/\Pv i σ H,⟨n,by simp,z4c _,h0⟩,?_⟩;rintro i m σ H ⟨rfl,hi,p⟩;by_cases hlt:i < n
 ·refine .inr ⟨hgo i σ H hlt p,Pv (i+1),λσ' H' p'=>⟨n - (i+1),by omega,rfl,hlt,p'⟩,λx H' y=>?_⟩;exact hs i σ H x H' _ hlt p y ⟨λ_ _ h=>h,λ_ _ h=>h,λ_ _ h=>h,λ_ _ h=>h⟩
 ·have e:i=n:=by omega
  subst e;exact .inl (hd σ H p)
theorem zrh {J:It}{n:Nat}{g:TG}{tt:TT}{te:TE}{vs:List Nat}{σ:L2.St}{H1:Hp}{D:Addr}{Qd:Hp->Prop}(Pv:Nat->Hp->List V->Prop)(hn:n<=sizeLine)(h0:Pv 0 (upd H1 D (.lst [])) [])
  (hgo:∀ i H acc,i < n->H D=some (.lst acc)->Pv i H acc->J.go i H)
  (hs:∀(i:Nat) (H:Hp) (acc:List V) (x:V) (H':Hp) (Nt:VK) (Nf:Hp->Prop),i < n->H D=some (.lst acc)->Pv i H acc->J.yld i H x H'->(∀ y H4,H4 D=some (.lst acc)->Pv (i+1) (upd H4 D (.lst (acc++[y]))) (acc++[y])->Nt y H4)->(∀ H3,H3 D=some (.lst acc)->Pv (i+1) H3 acc->Nf H3)->
   g x (ym σ vs) H' λσ2 H2=>ym σ2 vs=ym σ vs/\tt σ2 H2 λb H3=>if b=true then te σ2 H3 Nt else Nf H3)
  (hd:∀ H acc,H D=some (.lst acc)->Pv n H acc->J.stop n H/\Qd H):
  ∃ W:Nat->Nat->Hp->Prop,(∃ m,W 0 m (upd H1 D (.lst [])))/\∀ i m H,W i m H->
   (J.stop i H/\Qd H)\/(J.go i H/\∃ Nx:Hp->Prop,(∀ H',Nx H'->∃ m',m' < m/\W (i+1) m' H')/\∀ x H',J.yld i H x H'->g x (ym σ vs) H' λσ2 H2=>ym σ2 vs=ym σ vs/\tt σ2 H2 λb H3=>
    if b=true then te σ2 H3 λy H4=>∃ acc,H4 D=some (.lst acc)/\acc.length < sizeLine/\Nx (upd H4 D (.lst (acc++[y]))) else Nx H3):=by
 refine⟨λi m H=>m=n - i/\i<=n/\∃ acc,H D=some (.lst acc)/\acc.length<=i/\Pv i H acc,⟨n,by simp,z4c _,[],zb,z3c _,h0⟩,?_⟩;rintro i m H ⟨rfl,hi,acc,ha,hl,p⟩;by_cases hlt:i < n
 ·refine .inr ⟨hgo i H acc hlt ha p,λH'=>∃ acc,H' D=some (.lst acc)/\acc.length<=i+1/\Pv (i+1) H' acc,λH' p'=>⟨n - (i+1),by omega,rfl,hlt,p'⟩,λx H' y=>?_⟩;refine hs i H acc x H' _ _ hlt ha p y (λy H4 h4 p4=>⟨acc,h4,by omega,_,zb,?_,p4⟩) λH3 h3 p3=>⟨acc,h3,by omega,p3⟩;rw[z3a,z42];omega
 ·have e:i=n:=by omega
  subst e;exact .inl (hd H acc ha p)
theorem zrg {J:It}{n:Nat}{g:TG}{tt:TT}{te:TE}{vs:List Nat}{σ:L2.St}{H1:Hp}{D:Addr}{Qd:Hp->Prop}(f:Nat->Option V)(hD:H1 D=Option.none)(hn:n<=sizeLine)
  (hgo:∀ i H',i < n->zh H1 H'->J.go i H')
  (hs:∀(i:Nat) (H':Hp) (x:V) (H2:Hp) (Nt:VK) (Nf:Hp->Prop),i < n->zh H1 H'->J.yld i H' x H2->(∀ y H4,zh H' H4->f i=some y->Nt y H4)->(∀ H3,zh H' H3->f i=none->Nf H3)->
   g x (ym σ vs) H2 λσ2 H2=>ym σ2 vs=ym σ vs/\tt σ2 H2 λb H3=>if b=true then te σ2 H3 Nt else Nf H3)
  (hd:∀ H',zh H1 H'->H' D=some (.lst ((List.range n).filterMap f))->J.stop n H'/\Qd H'):
  ∃ W:Nat->Nat->Hp->Prop,(∃ m,W 0 m (upd H1 D (.lst [])))/\∀ i m H,W i m H->
   (J.stop i H/\Qd H)\/(J.go i H/\∃ Nx:Hp->Prop,(∀ H',Nx H'->∃ m',m' < m/\W (i+1) m' H')/\∀ x H',J.yld i H x H'->g x (ym σ vs) H' λσ2 H2=>ym σ2 vs=ym σ vs/\tt σ2 H2 λb H3=>
    if b=true then te σ2 H3 λy H4=>∃ acc,H4 D=some (.lst acc)/\acc.length < sizeLine/\Nx (upd H4 D (.lst (acc++[y]))) else Nx H3):=by
 refine zrh (λi H' acc=>zh H1 H'/\acc=(List.range i).filterMap f) hn ⟨yc (zh.refl _) hD,rfl⟩ (λi H' acc hi _ p=>hgo i H' hi p.1) (λi H' acc x H2 Nt Nf hi ha p y hN hF=>?_) (λH' acc ha p=>?_)
 ·obtain⟨sm,rfl⟩:=p;refine hs i H' x H2 Nt Nf hi sm y (λy H4 s4 e=>hN y H4 (s4 _ _ ha) ⟨yc (sm.trans s4) hD,?_⟩) λH3 s3 e=>hF H3 (s3 _ _ ha) ⟨sm.trans s3,?_⟩
  ·rw[z49,z43,z4m,e];rfl
  ·rw[z49,z43,z4m,e,z9i,z31]
 ·obtain⟨sm,rfl⟩:=p;exact hd H' sm ha
theorem pg2 {X:Cx}(K0:Fr){i j:Nat}{x y:Str}{p1 p2 pos:Pos}{k:Nat}(hK:X.K=K0)(hc:X.calm=true)(hN:X.N.Nodup)(hi:X.N[i]? =some x)(hj:X.N[j]? =some y)(hx:Loc X.env.scope x)(hy:Loc X.env.scope y)
  (hf:X.fn x=true\/X.env.scope.names.lookup x=some .local:=by first|exact .inl rfl|exact .inr rfl)(hg:X.fn y=true\/X.env.scope.names.lookup y=some .local:=by first|exact .inl rfl|exact .inr rfl):
  PG X (.Tuple [.Name x p1,.Name y p2] k pos) (zvd K0 2 (zbw (wb i) (zbw (wb j) zvc))):=by
 subst hK;exact zdx hc (xq (zt hN hi hx hf) (xq (zt hN hj hy hg) Ud rfl) rfl) rfl rfl
theorem pg3 {X:Cx}(K0:Fr){i j l:Nat}{x y z:Str}{p1 p2 p3 pos:Pos}{k:Nat}(hK:X.K=K0)(hc:X.calm=true)(hN:X.N.Nodup)(hi:X.N[i]? =some x)(hj:X.N[j]? =some y)(hl:X.N[l]? =some z)(hx:Loc X.env.scope x)(hy:Loc X.env.scope y)(hz:Loc X.env.scope z)
  (hf:X.fn x=true\/X.env.scope.names.lookup x=some .local:=by first|exact .inl rfl|exact .inr rfl)(hg:X.fn y=true\/X.env.scope.names.lookup y=some .local:=by first|exact .inl rfl|exact .inr rfl)(hh:X.fn z=true\/X.env.scope.names.lookup z=some .local:=by first|exact .inl rfl|exact .inr rfl):
  PG X (.Tuple [.Name x p1,.Name y p2,.Name z p3] k pos) (zvd K0 3 (zbw (wb i) (zbw (wb j) (zbw (wb l) zvc)))):=by
 subst hK;exact zdx hc (xq (zt hN hi hx hf) (xq (zt hN hj hy hg) (xq (zt hN hl hz hh) Ud rfl) rfl) rfl) rfl rfl
theorem zo3 {X:Cx}(K0:Fr){a b:Expr}{ta tb:TE}{pos:Pos}(hK:X.K=K0)(ha:PE X a ta)(hb:PE X b tb)(hs:zcr b:=by exact λ_ _=>rfl):PE X (.Subscript a b pos) (tOp (zyf K0) ta tb):=by
 subst hK;exact zu zw ha hb hs
theorem Kc {α:Type}{β:Type}(f:α->Option β):∀(l:List α),(List.range l.length).filterMap (λi=>(l[i]?).bind f)=l.filterMap f
 |[]=>rfl
 |a::l=>by
  rw[z3l,jau,z4m,List.filterMap_map,z4m];have ih:=Kc f l;have e:(List.range l.length).filterMap ((λi=>((a::l)[i]?).bind f)∘Nat.succ)=l.filterMap f:=by
   rw[<-ih];rfl
  rw[e];rfl
local macro_rules|`(tactic| walk_at "rd") => `(tactic| repeat (first|refine ⟨_,rfl,?_⟩|refine ⟨_,_,rfl,rfl,?_⟩|refine ⟨_,_,rfl,‹zq _ _ _ _›,?_⟩|refine ⟨_,_,_,_,rfl,‹zq _ _ _ _›,?_⟩))
theorem jc {X:Cx}{x:Str}{i:Int}{pos:Pos}(h:∃ t,X.mg x=some (.int i t))(hg:Gl X x:=by rfl)(hd:(x==("__debug__":Str))=false:=by decide):PE X (.Name x pos) (tC (.int i)):=by
 obtain⟨t,h⟩:=h;exact vg hg h ⟨t,rfl⟩ hd
inductive zjg (vs:List V)(H:Hp)(Q:VK):Prop
 |mk (p x:Nat):vs=[vN p,vN x]->Q (.bl (p.testBit x)) H->zjg vs H Q
def zwu:Sp:=λvs H Q _=>zjg vs H Q
def zwj:zo ["pattern","x"] ["pattern","x"] (zj zur):=by walk_at "sc"
theorem zu5 (p x:Nat):decide (V.int (Builtin.bitAnd ((p:Int) / 2 ^ (x:Int).toNat) 1)=V.int 1)=p.testBit x:=by
 have e:((p:Int) / 2 ^ (x:Int).toNat)=((p / 2 ^ x:Nat):Int):=by simp
 rw[e,bitAnd_m1,Nat.testBit_eq_decide_div_mod_eq];apply z8p.mpr;constructor
 ·intro h;have:=V.int.inj h;omega
 ·intro h;congr 1;omega
theorem Ur (T:qf K mg CB CR CC):xo P w K mg base "goes_as_ore" 1 ["pattern","x"] zwu:=by
 refine T.goes.con λf fd F=>F.ok zwj (λ_ _ _ _ h=>?_) (λ_ A _ s H vs Q E hr h=>?_)
 ·obtain⟨p,x,rfl,_⟩:=h;rfl
 ·obtain⟨p,x,rfl,k⟩:=h;refine⟨_,zg (zm (Jl Zm (jd zo0 (jd zv1 (pv 0) (pv 1)) zi) zi (jl _))),?_⟩;refine⟨_,rfl,_,rfl,_,_,rfl,rfl,(by omega),_,_,rfl,rfl,rfl,?_⟩;rw[<-zu5]at k;exact k
inductive zev (C:Addr)(vs:List V)(H:Hp)(Q:VK):Prop
 |mk (a:Addr) (b:Vbmiab.Bench) (x y:Nat):vs=[.ref a,vN x,vN y]->zq C H a b->Q (.bl (decide (x < b.nx)&&decide (y < b.ny))) H->zev C vs H Q
def zsn (C:Addr):Sp:=λvs H Q _=>zev C vs H Q
def zr9:zo ["self","x","y"] ["self","x","y"] (zj zpm):=by walk_at "sc"
theorem Xv (T:qf K mg CB CR CC):ww P w K mg base CB "holds" 1 ["self","x","y"] (zsn CB):=by
 refine T.holds.con λf fd F=>F.ok zr9 (λ_ _ _ _ h=>?_) (λ_ A _ s H vs Q E hr h=>?_)
 ·obtain⟨a,b,x,y,rfl,_⟩:=h;rfl
 ·obtain⟨a,b,x,y,rfl,B,k⟩:=h;refine⟨_,zg (zm (zdu (X8 Gk V5 zi (pv 1) (Jt (·.nx) T.cB.cl T.cB.nx (pv 0))) (zdv (X8 Gk V5 zi (pv 2) (Jt (·.ny) T.cB.cl T.cB.ny (pv 0)))))),?_⟩
  walk_at "rd"
  refine jr (λh1=>?_) (λh1=>?_)
  ·walk_at "rd"
   have e:(decide (x < b.nx)&&decide (y < b.ny))=decide ((y:Int) < (b.ny:Int)):=by
    have h1:(x:Int) < (b.nx:Int):=z30 h1;rw[z3u (show x < b.nx by omega),z4n];exact z8p.mpr (by omega)
   rw[e]at k;exact k
  ·have e:(decide (x < b.nx)&&decide (y < b.ny))=false:=by
    have h1:¬(x:Int) < (b.nx:Int):=λz=>h1 (z3u z);rw[z4u (show ¬x < b.nx by omega),z5c]
   rw[e]at k;exact k
inductive zex (C:Addr)(vs:List V)(H:Hp)(Q:VK):Prop
 |mk (a:Addr) (b:Vbmiab.Bench) (x y:Nat):vs=[.ref a,vN x,vN y]->zq C H a b->Q (vN (Vbmiab.place b x y)) H->zex C vs H Q
def zks (C:Addr):Sp:=λvs H Q _=>zex C vs H Q
def zsb:zo ["self","x","y"] ["self","x","y"] (zj zpo):=by walk_at "sc"
theorem Zg (T:qf K mg CB CR CC):ww P w K mg base CB "place_of" 1 ["self","x","y"] (zks CB):=by
 refine T.place.con λf fd F=>F.ok zsb (λ_ _ _ _ h=>?_) (λ_ A _ s H vs Q E hr h=>?_)
 ·obtain⟨a,b,x,y,rfl,_⟩:=h;rfl
 ·obtain⟨a,b,x,y,rfl,B,k⟩:=h;have g:=B.good;refine⟨_,zg (zm (jd yj (jd Zu (pv 2) (Jt (·.nx) T.cB.cl T.cB.nx (pv 0))) (pv 1))),?_⟩
  walk_at "rd"
  refine⟨.inr ⟨by have:=g.nx7;(try dsimp only);omega,by have:=g.nx7;(try dsimp only);omega⟩,?_⟩
  walk_at "rd"
  have e:vN (Vbmiab.place b x y)=V.int ((y:Int)*(b.nx:Int)+(x:Int)):=by
   unfold vN Vbmiab.place;rw[z5h,z6m]
  rw[e]at k;exact k
theorem U6 {b:Vbmiab.Bench}{i:Nat}{c:Vbmiab.Cell}(h:b.cells[i]? =some c):(yr b)[i]? =some (vN c.mass):=by unfold yr;rw[z27,h];rfl
theorem zb4 {b:Vbmiab.Bench}{i:Nat}{c:Vbmiab.Cell}(h:b.cells[i]? =some c):(j5 b)[i]? =some (vN c.metal):=by unfold j5;rw[z27,h];rfl
inductive zjh (C:Addr)(vs:List V)(H:Hp)(Q:VK):Prop
 |mk (a:Addr) (b:Vbmiab.Bench) (i:Nat) (c:Vbmiab.Cell):vs=[.ref a,vN i]->zq C H a b->(b.cells[i]? =some c/\Q (.int (Vbmiab.asOre b c)) H)->zjh C vs H Q
def zwv (C:Addr):Sp:=λvs H Q _=>zjh C vs H Q
def zwp:zo ["self","at"] ["self","at"] (zj zus):=by walk_at "sc"
theorem zc2 (T:qf K mg CB CR CC):ww P w K mg base CB "ore_worth" 1 ["self","at"] (zwv CB):=by
 refine T.oreW.con λf fd F=>F.ok zwp (λ_ _ _ _ h=>?_) (λ_ A _ s H vs Q E hr h=>?_)
 ·obtain⟨a,b,i,c,rfl,_⟩:=h;rfl
 ·obtain⟨a,b,i,c,rfl,B,hc,k⟩:=h;have g:=B.good;have gp:=g.pr;have gc:=g.co;refine⟨_,zg (zm (jd Zc (jd Zu (pbl j5 T.cB.cl T.cB.metal ki.lm (pv 0) (pv 1)) (Jt (·.price) T.cB.cl T.cB.price (pv 0))) (jd Zu (pbl yr T.cB.cl T.cB.kilograms ki.lk (pv 0) (pv 1)) (Jt (·.cost) T.cB.cl T.cB.cost (pv 0))))),?_⟩
  walk_at "rd"
  refine⟨zh.refl _,_,_,rfl,zb4 hc,?_⟩
  walk_at "rd"
  refine⟨.inr ⟨by (try dsimp only);omega,by (try dsimp only);omega⟩,?_⟩
  walk_at "rd"
  refine⟨zh.refl _,_,_,rfl,U6 hc,?_⟩
  walk_at "rd"
  refine⟨.inr ⟨by (try dsimp only);omega,by (try dsimp only);omega⟩,?_⟩
  walk_at "rd"
  have e:Vbmiab.asOre b c=(c.metal:Int)*(b.price:Int) - (c.mass:Int)*(b.cost:Int):=by
   unfold Vbmiab.asOre;rw[show Int.ofNat (c.metal*b.price)=((c.metal*b.price:Nat):Int) from rfl,show Int.ofNat (c.mass*b.cost)=((c.mass*b.cost:Nat):Int) from rfl,z6m,z6m]
  rw[e]at k;exact k
inductive zbj (C:Addr)(vs:List V)(H:Hp)(Q:VK):Prop
 |mk (a:Addr) (b:Vbmiab.Bench) (i:Nat) (c:Vbmiab.Cell):vs=[.ref a,vN i]->zq C H a b->(b.cells[i]? =some c/\Q (.int (Vbmiab.asWaste b c)) H)->zbj C vs H Q
def zp3 (C:Addr):Sp:=λvs H Q _=>zbj C vs H Q
def zp0:zo ["self","at"] ["self","at"] (zj zko):=by walk_at "sc"
theorem Xx (T:qf K mg CB CR CC):ww P w K mg base CB "waste_worth" 1 ["self","at"] (zp3 CB):=by
 refine T.wasteW.con λf fd F=>F.ok zp0 (λ_ _ _ _ h=>?_) (λ_ A _ s H vs Q E hr h=>?_)
 ·obtain⟨a,b,i,c,rfl,_⟩:=h;rfl
 ·obtain⟨a,b,i,c,rfl,B,hc,k⟩:=h;have gd:=B.good.du;refine⟨_,zg (zm (jd Zu (zkg zei (pbl yr T.cB.cl T.cB.kilograms ki.lk (pv 0) (pv 1))) (Jt (·.dump) T.cB.cl T.cB.dumping (pv 0)))),?_⟩
  walk_at "rd"
  refine⟨zh.refl _,_,_,rfl,U6 hc,?_⟩
  walk_at "rd"
  refine⟨.inr ⟨by (try dsimp only);omega,by (try dsimp only);omega⟩,?_⟩;have e:Vbmiab.asWaste b c=(-(c.mass:Int))*(b.dump:Int):=by
   unfold Vbmiab.asWaste;rw[show Int.ofNat (c.mass*b.dump)=((c.mass*b.dump:Nat):Int) from rfl,z6m,Int.neg_mul]
  rw[e]at k;exact k
inductive zew (C:Addr)(vs:List V)(H:Hp)(Q:VK):Prop
 |mk (a:Addr) (b:Vbmiab.Bench) (i:Nat) (c:Vbmiab.Cell):vs=[.ref a,vN i]->zq C H a b->(b.cells[i]? =some c/\Q (.bl (decide (Vbmiab.asWaste b c < Vbmiab.asOre b c))) H)->zew C vs H Q
def zso (C:Addr):Sp:=λvs H Q _=>zew C vs H Q
def zsa:zo ["self","at"] ["self","at"] (zj zpn):=by walk_at "sc"
theorem zcz (T:qf K mg CB CR CC):ww P w K mg base CB "is_ore_by_itself" 2 ["self","at"] (zso CB):=by
 refine T.isOre.con λf fd F=>F.ok zsa (λ_ _ _ _ h=>?_) (λ_ A _ s H vs Q E hr h=>?_)
 ·obtain⟨a,b,i,c,rfl,_⟩:=h;rfl
 ·obtain⟨a,b,i,c,rfl,B,hc,k⟩:=h;refine⟨_,zg (zm (Jl V4 (Qi (pv 0) T.cB.cl (zc2 T) hr (za (pv 1) zd)) (Qi (pv 0) T.cB.cl (Xx T) hr (za (pv 1) zd)) (jl _))),?_⟩
  walk_at "rd"
  refine⟨a,b,i,c,rfl,B,hc,?_⟩
  walk_at "rd"
  refine⟨a,b,i,c,rfl,B,hc,?_⟩
  walk_at "rd"
  exact k
theorem Wo:∀(l:List Int) (z:Int),Vbmiab.sumInt (l++[z])=Vbmiab.sumInt l+z
 |[],z=>by show z+0=0+z;omega
 |a::l,z=>by
  have ih:=Wo l z;show a+Vbmiab.sumInt (l++[z])=(a+Vbmiab.sumInt l)+z;omega
def zju (b:Vbmiab.Bench)(y p x:Nat):Int:=if p.testBit x=true then Vbmiab.asOre b (Vbmiab.cellAt b x y) else Vbmiab.asWaste b (Vbmiab.cellAt b x y)
def zf6 (b:Vbmiab.Bench)(y p i:Nat):Int:=Vbmiab.sumInt ((List.range i).map (zju b y p))
theorem Gp (b:Vbmiab.Bench)(y p i:Nat):zf6 b y p (i+1)=zf6 b y p i+zju b y p i:=by
 unfold zf6;rw[z49,z3g,z3n,z6z,Wo]
theorem zl9 (b:Vbmiab.Bench)(y p:Nat):zf6 b y p b.nx=Vbmiab.rowWorth b y p:=rfl
theorem Yg {b:Vbmiab.Bench}(g:kr b){x y:Nat}(hx:x < b.nx)(hy:y < b.ny):Vbmiab.place b x y < b.cells.length:=by
 rw[g.cl];unfold Vbmiab.place;have h1:y*b.nx+b.nx<=b.ny*b.nx:=by
  have h2:(y+1)*b.nx<=b.ny*b.nx:=Nat.mul_le_mul_right _ hy;rw[Nat.add_mul,Nat.one_mul]at h2;exact h2
 rw[z6y b.nx b.ny];omega
theorem zda {b:Vbmiab.Bench}(g:kr b){x y:Nat}(hx:x < b.nx)(hy:y < b.ny):b.cells[Vbmiab.place b x y]? =some (Vbmiab.cellAt b x y):=by
 unfold Vbmiab.cellAt;rw[z3s];have h:=Yg g hx hy;rw[z28 h];rfl
theorem zsz {b:Vbmiab.Bench}(g:kr b){x y:Nat}(hx:x < b.nx)(hy:y < b.ny):(yt b)[Vbmiab.place b x y]? =some (vN (Vbmiab.fixedAt b x y)):=by
 unfold yt Vbmiab.fixedAt;have h:=Yg g hx hy;rw[g.cl,<-g.fl]at h;rw[z27,z3s,z28 h];rfl
inductive zji (C:Addr)(vs:List V)(H:Hp)(Q:VK):Prop
 |mk (a:Addr) (b:Vbmiab.Bench) (y p:Nat):vs=[.ref a,vN y,vN p]->zq C H a b->(y < b.ny/\Q (.int (Vbmiab.rowWorth b y p)) H)->zji C vs H Q
def zww (C:Addr):Sp:=λvs H Q _=>zji C vs H Q
def Vp:zo ["self","y","pattern","worth","x","at"] ["self","y","pattern"] (zj zut):=by walk_at "sc"
theorem znk (T:qf K mg CB CR CC):ww P w K mg base CB "row_worth" 2 ["self","y","pattern"] (zww CB):=by
 refine T.rowW.con λf fd F=>F.ok Vp (λ_ _ _ _ h=>?_) (λ_ A _ s H vs Q E hr h=>?_)
 ·obtain⟨a,b,y,p,rfl,_⟩:=h;rfl
 ·obtain⟨a,b,y,p,rfl,B,hy,k⟩:=h;have g:=B.good;refine⟨_,zc (zn (i:=3) Vp.nd rfl (Or.inl rfl) zi)
   (zc (jt z3v rfl (yp rfl T.range (za (Jt (·.nx) T.cB.cl T.cB.nx (pv 0)) zd)) (zt (i:=4) Vp.nd rfl (Or.inl rfl))
    (zc (zn (i:=5) Vp.nd rfl (Or.inl rfl) (Qi (pv 0) T.cB.cl (Zg T) hr (za (pv 4) (za (pv 1) zd))))
    (zg (ju (j4 (je (Ur T) hr (za (pv 2) (za (pv 4) zd)))) (zg (Vn (i:=3) Vp.nd rfl (Or.inl rfl) (Qi (pv 0) T.cB.cl (zc2 T) hr (za (pv 5) zd)) Vh)) (zg (Vn (i:=3) Vp.nd rfl (Or.inl rfl) (Qi (pv 0) T.cB.cl (Xx T) hr (za (pv 5) zd)) Vh))))))
   (zg (zm (pv 3)))),?_⟩
  walk_at "rd"
  have g7:=g.nx7;refine⟨by (try dsimp only);omega,by (try dsimp only);omega,?_⟩;refine J7 (λi σ H'=>H'=H/\∃ vx va,σ=[some (.ref a),some (vN y),some (vN p),some (.int (zf6 b y p i)),vx,va]) ⟨rfl,_,_,rfl⟩ ?_ ?_
  ·rintro i σ H' D' hi ⟨rfl,vx,va,rfl⟩ ea
   walk_at "rd"
   refine⟨p,i,rfl,?_⟩
   walk_at "rd"
   have hc:=zda g hi hy;refine jr (λh1=>?_) (λh1=>?_)
   ·walk_at "rd"
    refine⟨a,b,_,_,rfl,B,hc,?_⟩
    walk_at "rd"
    refine ea.nx _ _ ⟨rfl,some (vN i),some (vN (Vbmiab.place b i y)),?_⟩;rw[Gp,zju,z3m h1];rfl
   ·walk_at "rd"
    refine⟨a,b,_,_,rfl,B,hc,?_⟩
    walk_at "rd"
    refine ea.nx _ _ ⟨rfl,some (vN i),some (vN (Vbmiab.place b i y)),?_⟩;rw[Gp,zju,z3k h1];rfl
  ·rintro σ H' ⟨rfl,vx,va,rfl⟩
   walk_at "rd"
   rw[zl9];exact k
def zb0 (b:Vbmiab.Bench)(y p x:Nat):Bool:=Vbmiab.fixedAt b x y==0||(Vbmiab.fixedAt b x y==1)==Vbmiab.isOre p x
theorem zn8 {b:Vbmiab.Bench}(g:kr b)(x y:Nat):Vbmiab.fixedAt b x y<=2:=by
 unfold Vbmiab.fixedAt;rw[z3s];cases h:b.fixed[Vbmiab.place b x y]? with
 |none=>exact z4c _
 |some v=>exact g.fx v (z3r h)
theorem Yz {n:Nat}{f:Nat->Bool}(h:∀ i,i < n->f i=true):(List.range n).all f=true:=by
 rw[z47];exact λi hi=>h i (z4g.mp hi)
theorem Wu {n i:Nat}{f:Nat->Bool}(hi:i < n)(h:f i=false):(List.range n).all f=false:=by
 rw[<-z7v,z47];intro q;have:=q i (z4g.mpr hi);rw[h]at this;cases this
inductive zjk (C:Addr)(vs:List V)(H:Hp)(Q:VK):Prop
 |mk (a:Addr) (b:Vbmiab.Bench) (y p:Nat):vs=[.ref a,vN y,vN p]->zq C H a b->(y < b.ny/\Ret H (.bl (Vbmiab.keeps b y p)) Q)->zjk C vs H Q
def zwy (C:Addr):Sp:=λvs H Q _=>zjk C vs H Q
def zit:zo ["self","y","pattern","x","way"] ["self","y","pattern"] (zj zuv):=by walk_at "sc"
theorem zhj (T:qf K mg CB CR CC):ww P w K mg base CB "row_is_as_told" 2 ["self","y","pattern"] (zwy CB):=by
 refine T.told.con λf fd F=>F.ok zit (λ_ _ _ _ h=>?_) (λ_ A _ s H vs Q E hr h=>?_)
 ·obtain⟨a,b,y,p,rfl,_⟩:=h;rfl
 ·obtain⟨a,b,y,p,rfl,B,hy,k⟩:=h;have g:=B.good;have g7:=g.nx7;refine⟨_,zc (jt z3v rfl (yp rfl T.range (za (Jt (·.nx) T.cB.cl T.cB.nx (pv 0)) zd)) (zt (i:=3) zit.nd rfl (Or.inl rfl))
    (zc (zn (i:=4) zit.nd rfl (Or.inl rfl) (Yd (j4 (je (Ur T) hr (za (pv 2) (za (pv 3) zd)))) (jc T.c_AS_ORE) (jc T.c_AS_WASTE)))
    (zg (ju (jh X7 (pbl yt T.cB.cl T.cB.told ki.lt (pv 0) (Qi (pv 0) T.cB.cl (Zg T) hr (za (pv 3) (za (pv 1) zd)))) (qj (za (jc T.c_NOTHING_TOLD) (za (pv 4) zd))) (by with_unfolding_all rfl)) (zg (zm vn)) (jb)))))
   (zg (zm vn)),?_⟩
  walk_at "rd"
  refine⟨by (try dsimp only);omega,by (try dsimp only);omega,?_⟩;refine J7 (λi σ H'=>zh H H'/\(∀ x,x < i->zb0 b y p x=true)/\∃ vx va,σ=[some (.ref a),some (vN y),some (vN p),vx,va]) ⟨zh.refl _,λx hx=>absurd hx (z8u _),_,_,rfl⟩ ?_ ?_
  ·rintro i σ H' D' hi ⟨sm,hall,vx,va,rfl⟩ ea;have B':=B.same sm;have f2:=zn8 g i y
   walk_at "rd"
   refine⟨p,i,rfl,?_⟩
   walk_at "rd"
   have rest:∀ wv:Nat,(zb0 b y p i=(Vbmiab.fixedAt b i y==0||Vbmiab.fixedAt b i y==wv))->
     zgq (zp9 (tOp (rIn K true) (tBl CB (Ky 0) (tBm CB (zks CB) (Ky 0) (Q5 (Ky 3) (Q5 (Ky 1) zi1))) yt) (zsy (Q5 (tC (V.int 0)) (Q5 (Ky 4) zi1))))) (zw8 (tC (V.bl false))) zgr D'
      [some (.ref a),some (vN y),some (vN p),some (vN i),some (vN wv)] H':=by
    intro wv hk
    walk_at "rd"
    refine⟨zh.refl _,_,_,rfl,zsz g hi hy,?_⟩
    walk_at "rd"
    refine⟨(by show 2<=sizeLine;decide),λq hq=>?_⟩;refine⟨q,_,rfl,.inr (yw.of zb),rfl,rfl,_,rfl,?_⟩;have sq:zh H (upd H' q (.tup [V.int 0,vN wv])):=sm.trans (zh.upd hq);have e:(if true=true then !inV (vN (Vbmiab.fixedAt b i y)) [V.int 0,vN wv] else inV (vN (Vbmiab.fixedAt b i y)) [V.int 0,vN wv])= !zb0 b y p i:=by
     rw[z3m rfl,hk];congr 1;show ((0:Int)==(Vbmiab.fixedAt b i y:Int)||(((wv:Nat):Int)==(Vbmiab.fixedAt b i y:Int)||false))=(Vbmiab.fixedAt b i y==0||Vbmiab.fixedAt b i y==wv);rw[Bool.or_false,z4l];simp only[z44,z4x];omega
    show if (if true=true then !inV (vN (Vbmiab.fixedAt b i y)) [V.int 0,vN wv] else inV (vN (Vbmiab.fixedAt b i y)) [V.int 0,vN wv])=true then _ else _
    rw[e];refine jr (λh1=>?_) (λh1=>?_)
    ·have e2:Vbmiab.keeps b y p=false:=Wu hi (by simpa[zb0] using h1);rw[e2]at k;exact ea.rt _ _ (k _ sq)
    ·refine ea.nx _ _ ⟨sq,λx hx=>?_,_,_,rfl⟩;by_cases hxi:x=i
     ·subst hxi;simpa using h1
     ·exact hall x (by omega)
   cases hb:p.testBit i
   ·refine rest 2 ?_;unfold zb0 Vbmiab.isOre;rw[hb,z4l];simp only[z44,z4x,z5p];omega
   ·refine rest 1 ?_;unfold zb0 Vbmiab.isOre;rw[hb,z4l];simp only[z44,z4x]
  ·rintro σ H' ⟨sm,hall,vx,va,rfl⟩;have e:Vbmiab.keeps b y p=true:=Yz λi hi=>hall i hi;rw[e]at k;exact k H' sm
local macro_rules|`(tactic| walk_at "rd") => `(tactic| repeat (first|refine ⟨_,rfl,?_⟩|refine ⟨_,_,rfl,rfl,?_⟩|refine ⟨_,_,rfl,‹zq _ _ _ _›,?_⟩|refine ⟨_,_,_,_,rfl,‹zq _ _ _ _›,?_⟩|refine ⟨rfl,?_⟩))
theorem Jr {n:Nat}(h:n<=7):2 ^ n<=128:=Nat.pow_le_pow_right (by decide:0 < 2) h
theorem ziw (n:Nat):(1:Int)*2 ^ ((n:Nat):Int).toNat=((2 ^ n:Nat):Int):=by
 rw[Int.one_mul,z3i];simp
theorem wf {b:Vbmiab.Bench}(g:kr b):b.nx*b.ny<=56:=z32 (Nat.mul_le_mul g.nx7 g.ny8) (by decide)
inductive zeu (C:Addr)(vs:List V)(H:Hp)(Q:VK):Prop
 |mk (a:Addr) (b:Vbmiab.Bench):vs=[.ref a]->zq C H a b->Q (vN (2 ^ b.nx - 1)) H->zeu C vs H Q
def zsm (C:Addr):Sp:=λvs H Q _=>zeu C vs H Q
def zr8:zo ["self"] ["self"] (zj zpl):=by walk_at "sc"
theorem zcy (T:qf K mg CB CR CC):ww P w K mg base CB "greatest_pattern" 1 ["self"] (zsm CB):=by
 refine T.great.con λf fd F=>F.ok zr8 (λ_ _ _ _ h=>?_) (λ_ A _ s H vs Q E hr h=>?_)
 ·obtain⟨a,b,rfl,_⟩:=h;rfl
 ·obtain⟨a,b,rfl,B,k⟩:=h;have g:=B.good;refine⟨_,zg (zm (jd Zc (jd zii zi (Jt (·.nx) T.cB.cl T.cB.nx (pv 0))) zi)),?_⟩
  walk_at "rd"
  refine⟨⟨by omega,by have:=g.nx7;(try dsimp only);omega,by decide⟩,?_⟩
  walk_at "rd"
  try dsimp only
  rw[ziw];have e1:V.int (((2 ^ b.nx:Nat):Int) - 1)=vN (2 ^ b.nx - 1):=by
   have:1<=2 ^ b.nx:=z9f;unfold vN;congr 1;omega
  rw[e1];exact k
theorem zp7 (l:List Nat)(f:Nat->Nat):V.int ((l.map λi=>((f i:Nat):Int)).sum)=vN (l.map f).sum:=by
 unfold vN;rw[zfk,z4f];rfl
theorem zor (l:List Nat)(f:Nat->Nat):l.filterMap (λi=>some (vN (f i)))=(l.map λi=>((f i:Nat):Int)).map V.int:=by
 rw[z45,z4f];rfl
inductive Uj (C:Addr)(vs:List V)(H:Hp)(Q:VK):Prop
 |mk (a q:Addr) (b:Vbmiab.Bench) (ps:List Nat):vs=[.ref a,.ref q]->zq C H a b->(H q=some (.lst (ps.map vN))/\(∀ i,i∈ps->i < b.cells.length)/\ps.length<=1000/\∀(H':Hp) (l:Addr),zh H H'->H' l=some (.lst [vN (xh b ps).1,vN (xh b ps).2])->Q (.ref l) H')->Uj C vs H Q
def zmp (C:Addr):Sp:=λvs H Q _=>Uj C vs H Q
def Z8:zo ["self","places","at"] ["self","places"] (zj zgh):=by walk_at "sc"
theorem Uu {b:Vbmiab.Bench}{i:Nat}(h:i < b.cells.length):b.cells[i]? =some (Jz b i):=by
 unfold Jz;rw[z3s,z28 h];rfl
theorem Y0 (T:qf K mg CB CR CC):ww P w K mg base CB "amounts_at" 1 ["self","places"] (zmp CB):=by
 refine T.amounts.con λf fd F=>F.ok Z8 (λ_ _ _ _ h=>?_) (λ_ A _ s H vs Q E hr h=>?_)
 ·obtain⟨a,q,b,ps,rfl,_⟩:=h;rfl
 ·obtain⟨a,q,b,ps,rfl,B,hq,hp,hl,k⟩:=h;have hs:=zp hl;refine⟨_,zg (zm (zy (za (ji (Ux rfl) rfl T.b_sum (by decide+kernel) (za (ko rfl Z8.nd (jo (pv 1)) (jq (own:=[("at",2)]) rfl) (λ_ _ _ _ _=>(zt (i:=2) Z8.nd rfl (Or.inl rfl))) (λ_ _ _ _ _=>q0) (λ_ _ _ _ _=>(pbl yr T.cB.cl T.cB.kilograms ki.lk (pv 0) (pv 2)))) zd)) (za (ji (Ux rfl) rfl T.b_sum (by decide+kernel) (za (ko rfl Z8.nd (jo (pv 1)) (jq (own:=[("at",2)]) rfl) (λ_ _ _ _ _=>(zt (i:=2) Z8.nd rfl (Or.inl rfl))) (λ_ _ _ _ _=>q0) (λ_ _ _ _ _=>(pbl j5 T.cB.cl T.cB.metal ki.lm (pv 0) (pv 2)))) zd)) zd)))),?_⟩;refine⟨_,rfl,q,rfl,⟨_,zx.of hq⟩,λD hD=>?_⟩;refine Wy (λi=>some (vN (Jz b i).mass)) hD (z36 hs) (zx.of hq) (λi x H' Nt Nf hx sm hN hF=>?_) (λH1 s1 h1=>?_)
  ·have B':=B.same sm;refine⟨rfl,?_⟩
   walk_at "rd"
   exact⟨zh.refl _,_,_,rfl,U6 (Uu (hp x (z3r hx))),hN _ _ (zh.refl _) rfl⟩
  ·rw[zor]at h1;refine⟨D,_,rfl,zx.of h1,?_⟩;rw[zp7];refine⟨_,rfl,q,rfl,⟨_,zx.of (s1 _ _ hq)⟩,λD2 hD2=>?_⟩;refine Wy (λi=>some (vN (Jz b i).metal)) hD2 (z36 hs) (zx.of (s1 _ _ hq)) (λi x H' Nt Nf hx sm hN hF=>?_) (λH2 s2 h2=>?_)
   ·have B':=(B.same s1).same sm;refine⟨rfl,?_⟩
    walk_at "rd"
    exact⟨zh.refl _,_,_,rfl,zb4 (Uu (hp x (z3r hx))),hN _ _ (zh.refl _) rfl⟩
   ·rw[zor]at h2;refine⟨D2,_,rfl,zx.of h2,?_⟩;rw[zp7];refine⟨(by show 2<=sizeLine;decide),λl hl=>?_⟩;exact k _ l ((s1.trans s2).trans (zh.upd hl)) zb
def kC (c:Nat×Nat):List j2:=[.inl c.1,.inl c.2]
theorem zvm {c d:Nat×Nat}(h:kC c=kC d):c=d:=by
 unfold kC at h;injection h with h1 h2
 injection h2 with h2 _
 have e1:=z6e h1;have e2:=z6e h2;obtain⟨x,y⟩:=c;obtain⟨u,v⟩:=d
 try dsimp only at e1 e2
 rw[show x=u by omega,show y=v by omega]
def dC (cs:List (Nat×Nat)):List (List j2×V):=cs.map λc=>(kC c,.bl true)
theorem zej (cs:List (Nat×Nat))(c:Nat×Nat):ye (dC cs) (kC c)=if c∈cs then some (.bl true) else none:=by
 induction cs with
 |nil=>rfl
 |cons d cs ih=>
  show ye ((kC d,V.bl true)::dC cs) (kC c)=_;by_cases h:d=c
  ·rw[vq (by rw[h]),z3m (by rw[h];exact z3e)]
  ·rw[xi (λe=>h (zvm e)),ih];by_cases h2:c∈cs
   ·rw[z3m h2,z3m (z3d _ h2)]
   ·rw[z3k h2,z3k (λz=>(z3t.mp z).elim (λe=>h e.symm) h2)]
theorem zd2 {cs:List (Nat×Nat)}{c:Nat×Nat}(h:¬c∈cs):Yh (dC cs) (kC c) (.bl true)=dC (cs++[c]):=by
 unfold Yh;have e:((dC cs).any λkv=>decide (kv.1=kC c))=false:=by
  rw[Yv,zej,z3k h];rfl
 rw[e];show dC cs++[(kC c,V.bl true)]=_;unfold dC;rw[z3g];rfl
def j0 (b:Vbmiab.Bench)(l:List Nat)(y x:Nat):List (Nat×Nat):=((List.range y).flatMap λj=>((List.range b.nx).map λi=>(i,j)).filter λc=>Vbmiab.isOreAt b l c.1 c.2)++((List.range x).map λi=>(i,y)).filter λc=>Vbmiab.isOreAt b l c.1 c.2
theorem zql (b:Vbmiab.Bench)(l:List Nat)(y x:Nat):j0 b l y (x+1)=j0 b l y x++if Vbmiab.isOreAt b l x y=true then [(x,y)] else []:=by
 unfold j0;rw[z49,z3g,z9h,z4d];congr 2;rw[z3n,z6z,z58];rfl
theorem zxa (b:Vbmiab.Bench)(l:List Nat)(y:Nat):j0 b l y b.nx=j0 b l (y+1) 0:=by
 unfold j0;rw[z49,z5r,z41,z68,z31];show _=_++[];rw[z31]
theorem zqi (b:Vbmiab.Bench)(l:List Nat):j0 b l b.ny 0=j1 b l:=by
 unfold j0 j1 qi Vbmiab.ys Vbmiab.xs;rw[List.filter_flatMap];show _++[]=_;rw[z31]
theorem zqk {b:Vbmiab.Bench}{l:List Nat}{y x:Nat}{c:Nat×Nat}(h:c∈j0 b l y x):c.2 < y\/(c.2=y/\c.1 < x):=by
 unfold j0 at h;rcases z33.mp h with h|h
 ·obtain⟨j,hj,h⟩:=z57.mp h;obtain⟨i,hi,rfl⟩:=z4h.mp (z34.mp h).1;exact .inl (z4g.mp hj)
 ·obtain⟨i,hi,rfl⟩:=z4h.mp (z34.mp h).1;exact .inr ⟨rfl,z4g.mp hi⟩
theorem zqj {b:Vbmiab.Bench}(g:kr b){l:List Nat}{y x:Nat}(hy:y < b.ny)(hx:x < b.nx):(j0 b l y x).length < sizeLine:=by
 have h1:((List.range y).flatMap λj=>((List.range b.nx).map λi=>(i,j)).filter λc=>Vbmiab.isOreAt b l c.1 c.2).length<=7*(List.range y).length:=W3 _ 7 (λj=>by
  refine z32 (z4w _ _) ?_;rw[z25,z4q];exact g.nx7) _
 have h2:(((List.range x).map λi=>(i,y)).filter λc=>Vbmiab.isOreAt b l c.1 c.2).length<=x:=by
  refine z32 (z4w _ _) ?_;rw[z25,z4q];exact z3c _
 rw[z4q]at h1;have g7:=g.nx7;have g8:=g.ny8;unfold j0;rw[z3a];exact zp (by omega)
theorem zrq {b:Vbmiab.Bench}{l:List Nat}{x y p:Nat}(hx:x < b.nx)(hy:y < b.ny)(hp:l[y]? =some p):Vbmiab.isOreAt b l x y=p.testBit x:=by
 unfold Vbmiab.isOreAt Vbmiab.goesAsOre Vbmiab.isOre;rw[z3u hx,z3u hy,z3s,hp];rfl
inductive zna (C:Addr)(vs:List V)(H:Hp)(Q:VK):Prop
 |mk (a q:Addr) (b:Vbmiab.Bench) (l:List Nat):vs=[.ref a,.ref q]->zq C H a b->(H q=some (.lst (l.map vN))/\l.length=b.ny/\∀(H':Hp) (d:Addr),zh H H'->H d=none->H' d=some (.dT (dC (j1 b l)))->Q (.ref d) H')->zna C vs H Q
def zyq (C:Addr):Sp:=λvs H Q _=>zna C vs H Q
def zgk:zo ["bench","lines","found","y","pattern","x"] ["bench","lines"] (zj Wd):=by walk_at "sc"
theorem Jx (T:qf K mg CB CR CC):xo P w K mg base "ore_cells" 2 ["bench","lines"] (zyq CB):=by
 refine T.f_ore_cells.con λf fd F=>F.ok zgk (λ_ _ _ _ h=>?_) (λ_ A _ s H vs Q E hr h=>?_)
 ·obtain⟨a,q,b,l,rfl,_⟩:=h;rfl
 ·obtain⟨a,q,b,l,rfl,B,hq,hl,k⟩:=h;have g:=B.good;have g7:=g.nx7;refine⟨_,zc (zn (i:=2) zgk.nd rfl (Or.inl rfl) Gs)
   (zc (jt z3v rfl (zkh rfl T.b_enumerate (za (pv 1) zd)) (zdx rfl (xq (zt (i:=3) zgk.nd rfl (Or.inl rfl)) (xq (zt (i:=4) zgk.nd rfl (Or.inl rfl)) Ud)))
    (zg (jt z3v rfl (yp rfl T.range (za (Jt (·.nx) T.cB.cl T.cB.nx (pv 0)) zd)) (zt (i:=5) zgk.nd rfl (Or.inl rfl))
     (zg (ju (j4 (je (Ur T) hr.m0 (za (pv 4) (za (pv 5) zd)))) (zg (Zn (xf hr) (pv 2) (qj (za (pv 5) (za (pv 3) zd))) vn rfl)) (jb))))))
   (zg (zm (pv 2)))),?_⟩
  intro d hd;refine⟨_,rfl,q,_,rfl,zx.of ((zh.upd hd) _ _ hq),?_⟩;refine vm (n:=l.length) (λi σ H'=>∃ v3 v4 v5,σ=[some (.ref a),some (.ref q),some (.ref d),v3,v4,v5]/\zh H H'/\H' d=some (.dT (dC (j0 b l i 0)))) ⟨_,_,_,rfl,zh.upd hd,zb⟩ ?_ ?_ ?_
  ·rintro i σ H' hi ⟨v3,v4,v5,rfl,sm,hd'⟩;exact⟨_,vN l[i],zx.of (sm _ _ hq),by rw[z27,z28 hi];rfl⟩
  ·rintro i σ H' v H2 D' hi ⟨v3,v4,v5,rfl,sm,hd'⟩ ⟨t,x,rfl,ht,rfl,hx⟩ ea;have ex:=hx _ (zx.of (sm _ _ hq));rw[z27,z28 hi]at ex;obtain rfl:vN l[i]=x:=z3p ex;have hp:l[i]? =some l[i]:=z28 hi;generalize l[i]=p at hp ⊢;rw[hl]at hi;have s2:zh H (upd H' t (.tup [vN i,vN p])):=sm.trans (zh.upd ht);have d2:(upd H' t (.tup [vN i,vN p])) d=some (.dT (dC (j0 b l i 0))):=(zh.upd ht) _ _ hd';refine⟨t,_,rfl,yw.of zb,rfl,_,_,rfl,_,_,rfl,rfl,?_⟩;have B2:=B.same s2;generalize (upd H' t (.tup [vN i,vN p]))=H3 at s2 d2 B2 ⊢
   walk_at "rd"
   refine⟨by (try dsimp only);omega,by (try dsimp only);omega,?_⟩;refine J7 (λj σ H'=>∃ v5,σ=[some (.ref a),some (.ref q),some (.ref d),some (vN i),some (vN p),v5]/\zh H H'/\H' d=some (.dT (dC (j0 b l i j)))) ⟨_,rfl,s2,d2⟩ ?_ ?_
   ·rintro j σ H4 D2 hj ⟨v5,rfl,s4,d4⟩ eb
    walk_at "rd"
    refine⟨p,j,rfl,?_⟩
    walk_at "rd"
    have eo:=zrq (b:=b) (l:=l) hj hi hp;refine jr (λh1=>?_) (λh1=>?_)
    ·walk_at "rd"
     refine⟨(by show 2<=sizeLine;decide),λt2 ht2=>?_⟩;have nd:¬(j,i)∈j0 b l i j:=λz=>by
      rcases zqk z with z|⟨_,z⟩
      ·exact z5o _ z
      ·exact z5o _ z
     have d5:(upd H4 t2 (.tup [vN j,vN i])) d=some (.dT (dC (j0 b l i j))):=(zh.upd ht2) _ _ d4;refine⟨d,_,rfl,Xn.t (k:=kC (j,i)) d5 zb (by unfold dC;rw[z25];exact zqj g hi hj),?_⟩;rw[zd2 nd];refine eb.nx _ _ ⟨_,rfl,?_,?_⟩
     ·exact yc (s4.trans (zh.upd ht2)) hd
     ·rw[zb,zql,eo,h1];rfl
    ·refine eb.nx _ _ ⟨_,rfl,s4,?_⟩;rw[d4,zql,eo];rw[z7v]at h1;rw[h1];show _=some (HO.dT (dC (_++[])));rw[z31]
   ·rintro σ H4 ⟨v5,rfl,s4,d4⟩;refine ea.nx _ _ ⟨_,_,_,rfl,s4,?_⟩;rw[d4,zxa]
  ·rintro σ H' ⟨v3,v4,v5,rfl,sm,hd'⟩;refine⟨⟨_,zx.of (sm _ _ hq),by rw[z25];exact z3c _⟩,?_⟩;rw[hl,zqi]at hd'
   walk_at "rd"
   exact k _ d sm hd hd'
theorem zgb {f:Str}{v:V}:∀{fs:List (Str×V)}{ks:List Str},fs.map (·.1)=ks->(ks.all λg=>decide (¬g=f))=true->xr f v fs=fs++[(f,v)]
 |[],_,_,_=>rfl
 |(g,x)::fs,_,rfl,h=>by
  rw[z3n,z6n,z3f,z4i]at h;rw[yk h.1,zgb rfl h.2];rfl
theorem W6 {n i:Nat}(h:i < n):ixN n (i:Int)=some i:=by
 unfold ixN;rw[z3m (by omega),z3m (by omega),z3i]
theorem zd1 {f:Str}{v:V}{fs fs':List (Str×V)}{ks:List Str}(hk:fs.map (·.1)=ks)(hn:(ks.all λg=>decide (¬g=f))=true)(e:fs++[(f,v)]=fs'):xr f v fs=fs':=by
 rw[zgb hk hn,e]
def Frm (H:Hp)(x:Addr)(H':Hp):Prop:=∀ c o,H c=some o->c≠x->H' c=some o
theorem Frm.refl (H:Hp)(x:Addr):Frm H x H:=λ_ _ e _=>e
theorem Frm.put {H H':Hp}{x:Addr}{o:HO}(f:Frm H x H'):Frm H x (L2.upd H' x o):=λc u e n=>by
 rw[ze n];exact f c u e n
theorem Frm.new {H H':Hp}{x l:Addr}{o:HO}(f:Frm H x H')(hl:H' l=none):Frm H x (L2.upd H' l o):=λc u e n=>by
 rw[ze (zf (f c u e n) hl)];exact f c u e n
theorem Frm.free {H H':Hp}{x l:Addr}(f:Frm H x H')(hx:∃ o,H' x=some o)(hl:H' l=none):H l=none:=by
 cases q:H l with
 |none=>rfl
 |some o=>
  by_cases e:l=x
  ·obtain⟨o,h⟩:=hx;rw[e,h]at hl;cases hl
  ·rw[f l o q e]at hl;cases hl
def Yu (b:Vbmiab.Bench):Vbmiab.Bench:={b with fixed:=List.replicate (b.nx*b.ny) 0}
theorem zgy {b:Vbmiab.Bench}(g:kr b):kr (Yu b):=
 ⟨g.nx0,g.nx7,g.ny0,g.ny8,g.pr,g.co,g.du,g.o1,g.o7,g.w1,g.w7,g.n1,g.n7,g.cl,z8y,g.cm,λk hk=>by
  have:=jaj hk;omega⟩
theorem zqh (b:Vbmiab.Bench):yt (Yu b)=List.replicate (b.nx*b.ny) (V.int 0):=by
 unfold yt Yu;rw[List.map_replicate];rfl
inductive zes (C:Addr)(vs:List V)(H:Hp)(Q:VK):Prop
 |mk (x dx rt w k m:Addr) (b:Vbmiab.Bench):vs=[.ref x,vN b.nx,vN b.ny,.ref rt,.ref w,.ref k,.ref m]->kr b->H x=some (.ins C dx [])->H rt=some (.lst [vN b.price,vN b.cost,vN b.dump])->H w=some (.lst (yl b))->H k=some (.lst (yr b))->H m=some (.lst (j5 b))->(∀(H':Hp) (lw lk lm lt:Addr),ki C H' x (Yu b) dx lw lk lm lt->H lw=none->H lk=none->H lm=none->H lt=none->Frm H x H'->Q .non H')->zes C vs H Q
def zsk (C:Addr):Sp:=λvs H Q _=>zes C vs H Q
def zr5:zo ["self","nx","ny","rates","widths","kilograms","metal"] ["self","nx","ny","rates","widths","kilograms","metal"] (zj zpj):=by walk_at "sc"
theorem zjr (T:qf K mg CB CR CC):zbd P w K mg base CB 1 ["self","nx","ny","rates","widths","kilograms","metal"] (zsk CB):=by
 refine T.bInit.con λf fd F=>F.ok zr5 (λ_ _ _ _ h=>?_) (λ_ A _ s H vs Q E hr h=>?_)
 ·obtain⟨x,dx,rt,w,k,m,b,rfl,_⟩:=h;rfl
 ·obtain⟨x,dx,rt,w,k,m,b,rfl,g,hx,hrt,hw,hk,hm,kk⟩:=h;have nrt:rt≠x:=ja hrt hx (by intro z;cases z);have nw:w≠x:=ja hw hx (by intro z;cases z);have nk:k≠x:=ja hk hx (by intro z;cases z);have nm:m≠x:=ja hm hx (by intro z;cases z);have g56:=wf g;refine⟨_,zc (xg (pv 0) (pv 1) rfl)
   (zc (xg (pv 0) (pv 2) rfl)
   (zc (xg (pv 0) (zu zw (pv 3) zi (λ_ _=>rfl)) rfl)
   (zc (xg (pv 0) (zu zw (pv 3) zi (λ_ _=>rfl)) rfl)
   (zc (xg (pv 0) (zu zw (pv 3) zi (λ_ _=>rfl)) rfl)
   (zc (xg (pv 0) (qv qh rfl T.list (by decide+kernel) (za (pv 4) zd)) rfl)
   (zc (xg (pv 0) (qv qh rfl T.list (by decide+kernel) (za (pv 5) zd)) rfl)
   (zc (xg (pv 0) (qv qh rfl T.list (by decide+kernel) (za (pv 6) zd)) rfl)
   (zg (xg (pv 0) (jd zv0 (zy (za (jc T.c_NOTHING_TOLD) zd)) (jd Zu (pv 1) (pv 2))) rfl))))))))),?_⟩
  have f0:=Frm.refl H x;refine⟨_,rfl,_,rfl,x,CB,dx,_,rfl,hx,T.cB.cl,T.cB.nx,(by show 0 < 1000;decide),?_⟩;rw[zd1 (ks:=[]) (fs':=((yx b 0 0 0 0).take 1)) rfl (by decide+kernel) rfl];have f1:=f0.put (o:=.ins CB dx ((yx b 0 0 0 0).take 1));have x1:(upd H x (.ins CB dx ((yx b 0 0 0 0).take 1))) x=some (.ins CB dx ((yx b 0 0 0 0).take 1)):=zb;generalize (upd H x (.ins CB dx ((yx b 0 0 0 0).take 1)))=H1 at f1 x1 ⊢;refine⟨_,rfl,_,rfl,x,CB,dx,_,rfl,x1,T.cB.cl,T.cB.ny,(by show 1 < 1000;decide),?_⟩;rw[zd1 (ks:=["nx"]) (fs':=((yx b 0 0 0 0).take 2)) rfl (by decide+kernel) rfl];have f2:=f1.put (o:=.ins CB dx ((yx b 0 0 0 0).take 2));have x2:(upd H1 x (.ins CB dx ((yx b 0 0 0 0).take 2))) x=some (.ins CB dx ((yx b 0 0 0 0).take 2)):=zb;generalize (upd H1 x (.ins CB dx ((yx b 0 0 0 0).take 2)))=H2 at f2 x2 ⊢;refine⟨_,rfl,rt,_,0,_,rfl,rfl,zx.of (f2 _ _ hrt nrt),rfl,_,rfl,x,CB,dx,_,rfl,x2,T.cB.cl,T.cB.price,(by show 2 < 1000;decide),?_⟩;rw[zd1 (ks:=["nx","ny"]) (fs':=((yx b 0 0 0 0).take 3)) rfl (by decide+kernel) rfl];have f3:=f2.put (o:=.ins CB dx ((yx b 0 0 0 0).take 3));have x3:(upd H2 x (.ins CB dx ((yx b 0 0 0 0).take 3))) x=some (.ins CB dx ((yx b 0 0 0 0).take 3)):=zb;generalize (upd H2 x (.ins CB dx ((yx b 0 0 0 0).take 3)))=H3 at f3 x3 ⊢;refine⟨_,rfl,rt,_,1,_,rfl,rfl,zx.of (f3 _ _ hrt nrt),rfl,_,rfl,x,CB,dx,_,rfl,x3,T.cB.cl,T.cB.cost,(by show 3 < 1000;decide),?_⟩;rw[zd1 (ks:=["nx","ny","price"]) (fs':=((yx b 0 0 0 0).take 4)) rfl (by decide+kernel) rfl];have f4:=f3.put (o:=.ins CB dx ((yx b 0 0 0 0).take 4));have x4:(upd H3 x (.ins CB dx ((yx b 0 0 0 0).take 4))) x=some (.ins CB dx ((yx b 0 0 0 0).take 4)):=zb;generalize (upd H3 x (.ins CB dx ((yx b 0 0 0 0).take 4)))=H4 at f4 x4 ⊢;refine⟨_,rfl,rt,_,2,_,rfl,rfl,zx.of (f4 _ _ hrt nrt),rfl,_,rfl,x,CB,dx,_,rfl,x4,T.cB.cl,T.cB.dumping,(by show 4 < 1000;decide),?_⟩;rw[zd1 (ks:=["nx","ny","price","cost"]) (fs':=((yx b 0 0 0 0).take 5)) rfl (by decide+kernel) rfl];have f5:=f4.put (o:=.ins CB dx ((yx b 0 0 0 0).take 5));have x5:(upd H4 x (.ins CB dx ((yx b 0 0 0 0).take 5))) x=some (.ins CB dx ((yx b 0 0 0 0).take 5)):=zb;generalize (upd H4 x (.ins CB dx ((yx b 0 0 0 0).take 5)))=H5 at f5 x5 ⊢;refine⟨_,rfl,w,_,rfl,.inl (zx.of (f5 _ _ hw nw)),λlw nlw=>?_⟩;have elw:=f5.free ⟨_,x5⟩ nlw;have xlw:x≠lw:=zf x5 nlw;refine⟨_,rfl,x,CB,dx,_,rfl,(by rw[ze xlw];exact x5),T.cB.cl,T.cB.widths,(by show 5 < 1000;decide),?_⟩;rw[zd1 (ks:=["nx","ny","price","cost","dumping"]) (fs':=((yx b lw 0 0 0).take 6)) rfl (by decide+kernel) rfl];have f6:=(f5.new (o:=.lst (yl b)) nlw).put (o:=.ins CB dx ((yx b lw 0 0 0).take 6));have x6:(upd (upd H5 lw (.lst (yl b))) x (.ins CB dx ((yx b lw 0 0 0).take 6))) x=some (.ins CB dx ((yx b lw 0 0 0).take 6)):=zb;have w6:(upd (upd H5 lw (.lst (yl b))) x (.ins CB dx ((yx b lw 0 0 0).take 6))) lw=some (.lst (yl b)):=by rw[ze xlw.symm,zb]
  generalize (upd (upd H5 lw (.lst (yl b))) x (.ins CB dx ((yx b lw 0 0 0).take 6)))=H6 at f6 x6 w6 ⊢;refine⟨_,rfl,k,_,rfl,.inl (zx.of (f6 _ _ hk nk)),λlk nlk=>?_⟩;have elk:=f6.free ⟨_,x6⟩ nlk;have xlk:x≠lk:=zf x6 nlk;have wlk:lw≠lk:=zf w6 nlk;refine⟨_,rfl,x,CB,dx,_,rfl,(by rw[ze xlk];exact x6),T.cB.cl,T.cB.kilograms,(by show 6 < 1000;decide),?_⟩;rw[zd1 (ks:=["nx","ny","price","cost","dumping","widths"]) (fs':=((yx b lw lk 0 0).take 7)) rfl (by decide+kernel) rfl];have f7:=(f6.new (o:=.lst (yr b)) nlk).put (o:=.ins CB dx ((yx b lw lk 0 0).take 7));have x7:(upd (upd H6 lk (.lst (yr b))) x (.ins CB dx ((yx b lw lk 0 0).take 7))) x=some (.ins CB dx ((yx b lw lk 0 0).take 7)):=zb;have k7:(upd (upd H6 lk (.lst (yr b))) x (.ins CB dx ((yx b lw lk 0 0).take 7))) lk=some (.lst (yr b)):=by rw[ze xlk.symm,zb]
  have w7:(upd (upd H6 lk (.lst (yr b))) x (.ins CB dx ((yx b lw lk 0 0).take 7))) lw=some (.lst (yl b)):=by rw[ze xlw.symm,ze wlk];exact w6
  generalize (upd (upd H6 lk (.lst (yr b))) x (.ins CB dx ((yx b lw lk 0 0).take 7)))=H7 at f7 x7 k7 w7 ⊢;refine⟨_,rfl,m,_,rfl,.inl (zx.of (f7 _ _ hm nm)),λlm nlm=>?_⟩;have elm:=f7.free ⟨_,x7⟩ nlm;have xlm:x≠lm:=zf x7 nlm;have wlm:lw≠lm:=zf w7 nlm;have klm:lk≠lm:=zf k7 nlm;refine⟨_,rfl,x,CB,dx,_,rfl,(by rw[ze xlm];exact x7),T.cB.cl,T.cB.metal,(by show 7 < 1000;decide),?_⟩;rw[zd1 (ks:=["nx","ny","price","cost","dumping","widths","kilograms"]) (fs':=((yx b lw lk lm 0).take 8)) rfl (by decide+kernel) rfl];have f8:=(f7.new (o:=.lst (j5 b)) nlm).put (o:=.ins CB dx ((yx b lw lk lm 0).take 8));have x8:(upd (upd H7 lm (.lst (j5 b))) x (.ins CB dx ((yx b lw lk lm 0).take 8))) x=some (.ins CB dx ((yx b lw lk lm 0).take 8)):=zb;have m8:(upd (upd H7 lm (.lst (j5 b))) x (.ins CB dx ((yx b lw lk lm 0).take 8))) lm=some (.lst (j5 b)):=by rw[ze xlm.symm,zb]
  have w8:(upd (upd H7 lm (.lst (j5 b))) x (.ins CB dx ((yx b lw lk lm 0).take 8))) lw=some (.lst (yl b)):=by rw[ze xlw.symm,ze wlm];exact w7
  have k8:(upd (upd H7 lm (.lst (j5 b))) x (.ins CB dx ((yx b lw lk lm 0).take 8))) lk=some (.lst (yr b)):=by rw[ze xlk.symm,ze klm];exact k7
  generalize (upd (upd H7 lm (.lst (j5 b))) x (.ins CB dx ((yx b lw lk lm 0).take 8)))=H8 at f8 x8 m8 w8 k8 ⊢;refine⟨(by show 1<=sizeLine;decide),λl0 n0=>?_⟩;refine⟨_,rfl,_,rfl,_,_,rfl,rfl,.inl ⟨by omega,by have:=g.nx7;omega⟩,?_⟩;have e0:((b.nx:Int)*(b.ny:Int))=((b.nx*b.ny:Nat):Int):=by rw[z6m]
  try dsimp only
  rw[e0];refine⟨l0,_,_,rfl,rfl,zb,by omega,by omega,by rw[z3i,z42];exact z36 (zp (by omega)),λlt nlt=>?_⟩;have h9:∀ c o,H8 c=some o->(upd H8 l0 (.lst [V.int 0])) c=some o:=λc o e=>by
   rw[ze (zf e n0)];exact e
  have f9:=f8.new (o:=.lst [V.int 0]) n0;have x9:=h9 _ _ x8;have m9:=h9 _ _ m8;have k9:=h9 _ _ k8;have w9:=h9 _ _ w8;generalize (upd H8 l0 (.lst [V.int 0]))=H9 at f9 x9 m9 k9 w9 nlt ⊢;have elt:=f9.free ⟨_,x9⟩ nlt;have xlt:x≠lt:=zf x9 nlt;have wlt:lw≠lt:=zf w9 nlt;have klt:lk≠lt:=zf k9 nlt;have mlt:lm≠lt:=zf m9 nlt;have er:(List.replicate (((b.nx*b.ny:Nat):Int)).toNat [V.int 0]).flatten=yt (Yu b):=by
   rw[zqh,z3i];generalize b.nx*b.ny=n
   induction n with
   |zero=>rfl
   |succ n ih=>rw[z6f,z6l,ih,z6f];rfl
  rw[er];refine⟨_,rfl,x,CB,dx,_,rfl,(by rw[ze xlt];exact x9),T.cB.cl,T.cB.told,(by show 8 < 1000;decide),?_⟩;rw[zd1 (ks:=["nx","ny","price","cost","dumping","widths","kilograms","metal"]) (fs':=yx (Yu b) lw lk lm lt) rfl (by decide+kernel) rfl];refine kk _ lw lk lm lt ⟨zb,?_,?_,?_,?_,klm,klt,mlt,wlk,wlm,wlt,zgy g⟩ elw elk elm elt (f9.new nlt).put
  ·rw[ze xlw.symm,ze wlt];exact w9
  ·rw[ze xlk.symm,ze klt];exact k9
  ·rw[ze xlm.symm,ze mlt];exact m9
  ·rw[ze xlt.symm,zb]
def zws (lw lk lm lt:Addr):Addr:=lw
def zwq (lw lk lm lt:Addr):Addr:=lk
def zwr (lw lk lm lt:Addr):Addr:=lm
def zsh (lw lk lm lt:Addr):Addr:=lt
inductive zxn (C:Addr)(sel:Addr->Addr->Addr->Addr->Addr)(Q:VK)(x:V)(H:Hp):Prop
 |mk (a:Addr) (b:Vbmiab.Bench) (dx lw lk lm lt:Addr):x=.ref a->ki C H a b dx lw lk lm lt->Q (.ref (sel lw lk lm lt)) H->zxn C sel Q x H
def tBr (C:Addr)(ta:TE)(sel:Addr->Addr->Addr->Addr->Addr):TE:=λσ H Q=>ta σ H λx H1=>zxn C sel Q x H1
theorem pbr {X:Cx}{e:Expr}{f:Str}{C:Addr}{ta:TE}{pos:Pos}(sel:Addr->Addr->Addr->Addr->Addr)(cl:Cls X.K C)(hn:yq X.K C f)(he:PE X e ta)(hl:∀ b lw lk lm lt,(yx b lw lk lm lt).lookup f=some (.ref (sel lw lk lm lt)):=by intros;rfl)
  (hb:attributeBase e f X.env (eval e X.env)=eval e X.env:=by rfl):PE X (.Attribute e f pos) (tBr C ta sel):=by
 intro pins s σ H Q I h;refine Xs hb (yd (he pins s σ H _ I h) λu s1 ⟨x,H1,I1,rx,a,b,dx,lw,lk,lm,lt,ex,B,q⟩=>?_);subst ex;obtain rfl:u=Value.ref a:=rx;exact Za I1 B.ins cl hn (hl b lw lk lm lt) λu' s2 I2 ru=>⟨_,H1,I2,ru,q⟩
def Xh (b:Vbmiab.Bench)(i k:Nat):Vbmiab.Bench:={b with fixed:=b.fixed.set i k}
theorem V9 {b:Vbmiab.Bench}(g:kr b)(i:Nat){k:Nat}(hk:k<=2):kr (Xh b i k):=
 ⟨g.nx0,g.nx7,g.ny0,g.ny8,g.pr,g.co,g.du,g.o1,g.o7,g.w1,g.w7,g.n1,g.n7,g.cl,by show (b.fixed.set i k).length=_;rw[z72];exact g.fl,g.cm,λz hz=>by
  rcases z98 hz with h|h
  ·exact g.fx z h
  ·omega⟩
theorem zgd (b:Vbmiab.Bench)(i k:Nat):yt (Xh b i k)=(yt b).set i (vN k):=by
 unfold yt Xh;rw[z7t]
inductive zjl (C:Addr)(vs:List V)(H:Hp)(Q:VK):Prop
 |mk (a:Addr) (b:Vbmiab.Bench) (i k:Nat):vs=[.ref a,vN i,vN k]->zq C H a b->(i < b.fixed.length/\k<=2/\∀(H':Hp) (x:Addr),zh H H'->zq C H' x (Xh b i k)->Q (.ref x) H')->zjl C vs H Q
def zwz (C:Addr):Sp:=λvs H Q _=>zjl C vs H Q
def ziu:zo ["bench","at","told","rates","other"] ["bench","at","told"] (zj Wn):=by walk_at "sc"
theorem zfi (T:qf K mg CB CR CC):xo P w K mg base "with_told" 3 ["bench","at","told"] (zwz CB):=by
 refine T.f_with_told.con λf fd F=>F.ok ziu (λ_ _ _ _ h=>?_) (λ_ A _ s H vs Q E hr h=>?_)
 ·obtain⟨a,b,i,k,rfl,_⟩:=h;rfl
 ·obtain⟨a,b,i,kk,rfl,B,hi,hk2,k⟩:=h;refine⟨_,zc (zn (i:=3) ziu.nd rfl (Or.inl rfl) (zy (za (Jt (·.price) T.cB.cl T.cB.price (pv 0)) (za (Jt (·.cost) T.cB.cl T.cB.cost (pv 0)) (za (Jt (·.dump) T.cB.cl T.cB.dumping (pv 0)) zd)))))
   (zc (zn (i:=4) ziu.nd rfl (Or.inl rfl) (zb9 (zjr T) T.m_Bench hr.m0 (za (Jt (·.nx) T.cB.cl T.cB.nx (pv 0)) (za (Jt (·.ny) T.cB.cl T.cB.ny (pv 0)) (za (pv 3) (za (pbr zws T.cB.cl T.cB.widths (pv 0)) (za (pbr zwq T.cB.cl T.cB.kilograms (pv 0)) (za (pbr zwr T.cB.cl T.cB.metal (pv 0)) zd))))))))
   (zc (xg (pv 4) (qv qh rfl T.list (by decide+kernel) (za (pbr zsh T.cB.cl T.cB.told (pv 0)) zd)) rfl)
   (zc (zd0 (pv 2) (zdw (pbr zsh T.cB.cl T.cB.told (pv 4)) (pv 1) Kt))
   (zg (zm (pv 4)))))),?_⟩
  walk_at "rd"
  refine⟨(by show 3<=sizeLine;decide),λrt nrt=>?_⟩;have s1:zh H (upd H rt (.lst [vN b.price,vN b.cost,vN b.dump])):=zh.upd nrt;have r1:(upd H rt (.lst [vN b.price,vN b.cost,vN b.dump])) rt=some (.lst [vN b.price,vN b.cost,vN b.dump]):=zb;have B1:=B.same s1;generalize (upd H rt (.lst [vN b.price,vN b.cost,vN b.dump]))=H1 at s1 r1 B1 ⊢;have g:=B.good
  walk_at "rd"
  obtain⟨dx,lw,lk,lm,lt,Bt⟩:=B1;refine⟨a,b,dx,lw,lk,lm,lt,rfl,Bt,_,rfl,a,b,dx,lw,lk,lm,lt,rfl,Bt,_,rfl,a,b,dx,lw,lk,lm,lt,rfl,Bt,?_⟩;intro x dx2 nx nd2 nxd;have nxrt:rt≠x:=zf r1 nx;have keep:∀ c o,H1 c=some o->(upd (upd H1 dx2 (.own x)) x (.ins CB dx2 [])) c=some o:=λc o e=>by
   rw[ze (zf e nx),ze (zf e nd2)];exact e
  refine⟨x,dx2,rt,lw,lk,lm,b,rfl,g,zb,keep _ _ r1,keep _ _ Bt.w,keep _ _ Bt.k,keep _ _ Bt.m,λH2 lw2 lk2 lm2 lt2 B2 e1 e2 e3 e4 fr=>⟨rfl,?_⟩⟩;have s2:zh H1 H2:=λc o e=>fr c o (keep c o e) (zf e nx);refine⟨_,rfl,a,b,dx,lw,lk,lm,lt,rfl,Bt.same s2,lt,_,rfl,.inl (zx.of (s2 _ _ Bt.t)),λl3 n3=>?_⟩;have s3:zh H2 (upd H2 l3 (.lst (yt b))):=zh.upd n3;have B3:=B2.same s3;have t3:(upd H2 l3 (.lst (yt b))) l3=some (.lst (yt b)):=zb;have x3:x≠l3:=zf B2.ins n3;have f3:H l3=none:=s1.free (s2.free n3);have w3:lw2≠l3:=zf B2.w n3;have k3:lk2≠l3:=zf B2.k n3;have m3:lm2≠l3:=zf B2.m n3;generalize (upd H2 l3 (.lst (yt b)))=H3 at s3 B3 t3 ⊢;refine⟨_,rfl,x,CB,dx2,_,rfl,B3.ins,T.cB.cl,T.cB.told,(by show 9 < 1000;decide),?_⟩;have eb:xr "told" (V.ref l3) (yx (Yu b) lw2 lk2 lm2 lt2)=yx b lw2 lk2 lm2 l3:=by
   unfold yx;rw[yk (by decide+kernel),yk (by decide+kernel),yk (by decide+kernel),yk (by decide+kernel),yk (by decide+kernel),yk (by decide+kernel),yk (by decide+kernel),yk (by decide+kernel),Ue];rfl
  rw[eb];have B4:ki CB (upd H3 x (.ins CB dx2 (yx b lw2 lk2 lm2 l3))) x b dx2 lw2 lk2 lm2 l3:=by
   have nl:∀{l:Addr}{xs:List V},H3 l=some (.lst xs)->l≠x:=λh=>ja h B3.ins (by intro q;cases q);refine⟨zb,?_,?_,?_,?_,B3.km,k3,m3,B3.wk,B3.wm,w3,g⟩
   ·rw[ze (nl B3.w)];exact B3.w
   ·rw[ze (nl B3.k)];exact B3.k
   ·rw[ze (nl B3.m)];exact B3.m
   ·rw[ze (nl t3)];exact t3
  have hx0:H1 x=none:=nx;have s4:zh H1 (upd H3 x (.ins CB dx2 (yx b lw2 lk2 lm2 l3))):=λc o e=>by
   rw[ze (zf e nx)];exact s3 _ _ (s2 _ _ e)
  generalize (upd H3 x (.ins CB dx2 (yx b lw2 lk2 lm2 l3)))=H4 at B4 s4 ⊢;refine⟨_,rfl,_,rfl,x,b,dx2,lw2,lk2,lm2,l3,rfl,B4,_,rfl,?_⟩;have hi':i < (yt b).length:=by unfold yt;rw[z25];exact hi
  refine⟨l3,_,_,i,rfl,rfl,B4.t,W6 hi',?_⟩;rw[<-zgd];refine⟨_,rfl,?_⟩;have h10:H1 l3=none:=s2.free n3;refine k _ x (λc o e=>?_) ⟨dx2,lw2,lk2,lm2,l3,?_,?_,?_,?_,zb,B4.km,B4.kt,B4.mt,B4.wk,B4.wm,B4.wt,V9 g i hk2⟩
  ·have e1:=s1 _ _ e;rw[ze (zf e1 h10)];exact s4 _ _ e1
  ·rw[ze (ja B4.ins B4.t (by intro q;cases q))];exact B4.ins
  ·rw[ze B4.wt];exact B4.w
  ·rw[ze B4.kt];exact B4.k
  ·rw[ze B4.mt];exact B4.m
abbrev Rows (H:Hp):List Addr->List (List V)->Prop:=Paired (λa r=>H a=some (.tup r))
theorem Rows.keep {H H':Hp}(k:∀ a r,H a=some (.tup r)->H' a=some (.tup r)):∀{as:List Addr}{rs:List (List V)},Rows H as rs->Rows H' as rs
 |_,_,.nil=>.nil
 |_,_,.cons a b=>.cons (k _ _ a) (Rows.keep k b)
theorem Rows.snoc {H:Hp}{a:Addr}{r:List V}(h:H a=some (.tup r)):∀{as:List Addr}{rs:List (List V)},Rows H as rs->Rows H (as++[a]) (rs++[r])
 |_,_,.nil=>.cons h .nil
 |_,_,.cons x b=>.cons x (Rows.snoc h b)
theorem Rows.len {H:Hp}{as:List Addr}{rs:List (List V)}(h:Rows H as rs):as.length=rs.length:=z39 h
theorem Rows.at {H:Hp}:∀{as:List Addr}{rs:List (List V)}{i:Nat}{a:Addr},Rows H as rs->as[i]? =some a->∃ r,rs[i]? =some r/\H a=some (.tup r)
 |_,_,i,a,.nil,h=>by simp at h
 |_,_,0,a,.cons x b,h=>by
  simp at h;subst h;exact⟨_,rfl,x⟩
 |_,_,i+1,a,.cons x b,h=>by
  obtain⟨r,e,q⟩:=Rows.at (i:=i) b (by simpa using h);exact⟨r,by simpa using e,q⟩
def zpi (r:Bool×Nat×Nat):List V:=[vN r.1.toNat,vN r.2.1,vN r.2.2]
inductive zjj (vs:List V)(H:Hp)(Q:VK):Prop
 |mk (p nx:Nat):vs=[vN p,vN nx]->1<=nx->nx<=7->(∀(H':Hp) (l:Addr) (as:List Addr),zh H H'->H l=none->H' l=some (.lst (as.map V.ref))->Rows H' as ((Vbmiab.runsFrom p nx 0).map zpi)->Q (.ref l) H')->zjj vs H Q
def zwx:Sp:=λvs H Q _=>zjj vs H Q
def Vq:zo ["pattern","nx","found","first","x","ore"] ["pattern","nx"] (zj zuu):=by walk_at "sc"
structure zq1 (H:Hp)(p nx:Nat)(l:Addr)(i:Nat)(H':Hp)(first:Nat)(as:List Addr)(fnd:List (Bool×Nat×Nat)):Prop where
 sm:zh H H'
 hl:H' l=some (.lst (as.map V.ref))
 rows:Rows H' as (fnd.map zpi)
 eq:Vbmiab.runsFrom p nx 0=fnd++Vbmiab.runsFrom p (nx - first) first
 fi:first<=i
 len:fnd.length<=i
 same:i < nx->∀ j,first<=j->j<=i->p.testBit j=p.testBit i
 last:i=nx->first=nx
theorem znl (T:qf K mg CB CR CC):xo P w K mg base "runs_of" 2 ["pattern","nx"] zwx:=by
 refine T.runs.con λf fd F=>F.ok Vq (λ_ _ _ _ h=>?_) (λ_ A _ s H vs Q E hr h=>?_)
 ·obtain⟨p,nx,rfl,_⟩:=h;rfl
 ·obtain⟨p,nx,rfl,n1,n7,k⟩:=h;refine⟨_,zc (zn (i:=2) Vq.nd rfl (Or.inl rfl) (zy zd))
   (zc (zn (i:=3) Vq.nd rfl (Or.inl rfl) zi)
   (zc (jt z3v rfl (yp rfl T.range (za (pv 1) zd)) (zt (i:=4) Vq.nd rfl (Or.inl rfl))
    (zc (zn (i:=5) Vq.nd rfl (Or.inl rfl) (je (Ur T) hr (za (pv 0) (za (pv 4) zd))))
    (zg (ju (PW.pt (zca (jh Zm (pv 4) (jd Zc (pv 1) zi) (jl _)) (Vo (jh zb5 (je (Ur T) hr (za (pv 0) (za (jd yj (pv 4) zi) zd))) (pv 5) (jl _))))) (zc (yb (xp z3y z4k z4j yo (pv 2) (za (qj (za (Yd (j4 (pv 5)) zi zi) (za (pv 3) (za (pv 4) zd)))) zd)))
     (zg (zn (i:=3) Vq.nd rfl (Or.inl rfl) (jd yj (pv 4) zi)))) (jb)))))
   (zg (zm (pv 2))))),?_⟩
  refine⟨z4c _,λl hl=>?_⟩
  walk_at "rd"
  refine⟨by omega,by omega,?_⟩;refine J7 (λi σ H'=>∃ first as fnd vx vo,σ=[some (vN p),some (vN nx),some (.ref l),some (vN first),vx,vo]/\zq1 H p nx l i H' first as fnd)
   ⟨0,[],[],none,none,rfl,zh.upd hl,zb,.nil,rfl,z3c _,z3c _,λ_ j h1 h2=>by rw[show j=0 by omega],λh=>by omega⟩ ?_ ?_
  ·rintro i σ H' D' hi ⟨first,as,fnd,vx,vo,rfl,I⟩ ea
   walk_at "rd"
   refine⟨p,i,rfl,?_⟩;dsimp only[wb,zgq];refine zgs (decide (i+1=nx)) (!decide (p.testBit (i+1)=p.testBit i)) (λQ' q=>?_) (λ_ Q' q=>?_) ?_
   ·walk_at "rd"
    rw[yf (show i+1=nx↔vN i=V.int ((nx:Int) - 1) by unfold vN;rw[zak];omega)]at q;exact q
   ·walk_at "rd"
    refine⟨p,i+1,rfl,?_⟩
    walk_at "rd"
    rw[yf (show p.testBit (i+1)=p.testBit i↔V.bl (p.testBit (i+1))=V.bl (p.testBit i) from zky.symm)]at q;exact q
   ·refine jr (λh1=>?_) (λh1=>?_)
    ·have hb:i+1=nx\/p.testBit (i+1)≠p.testBit i:=by
      simpa using h1
     walk_at "rd"
     refine⟨.inl ⟨rfl,_,zx.of I.hl⟩,?_⟩;dsimp only[Q5,zsy];refine zux (p.testBit i) (vN (p.testBit i).toNat) (λQ' q=>?_) (λh Q' q=>?_) (λh Q' q=>?_) ?_
     ·walk_at "rd"
      exact q
     ·rw[h]at q;exact q
     ·rw[h]at q;exact q
     ·walk_at "rd"
      refine⟨(by show 3<=sizeLine;decide),λt ht=>?_⟩;have ntl:t≠l:=λe=>by rw[e,I.hl]at ht;cases ht
      have l6:=I.len;have l5:=I.rows.len;rw[z25]at l5;refine⟨l,as.map V.ref,_,rfl,rfl,(by rw[ze (z7c ntl)];exact I.hl),(by rw[z25,l5];exact zp (by omega)),?_⟩
      walk_at "rd"
      refine ea.nx _ _ ⟨i+1,as++[t],fnd++[(p.testBit i,first,i)],_,_,rfl,?_⟩;have nt:H t=none:=I.sm.free ht;have kp:∀ a r,H' a=some (.tup r)->(upd (upd H' t (.tup [vN (p.testBit i).toNat,vN first,vN i])) l (.lst (as.map V.ref++[.ref t]))) a=some (.tup r):=λa r e=>by
       have n1:a≠l:=λz=>by rw[z,I.hl]at e;cases e
       rw[ze n1,ze (zf e ht)];exact e
      refine⟨λa o e=>?_,?_,?_,?_,z3c _,?_,λhlt j h1 h2=>?_,λe=>e⟩
      ·have n1:a≠l:=zf e hl;rw[ze n1,ze (zf e nt)];exact I.sm a o e
      ·rw[zb,z3g]
       all_goals rfl
      ·rw[z3g];exact (I.rows.keep kp).snoc (by rw[ze ntl,zb];rfl)
      ·have fi:=I.fi;have e1:=I.eq;obtain⟨d,hd⟩:∃ d,i=first+d:=⟨i - first,by omega⟩
       have e2:=zce p d (nx - first) first (by omega) (λj hj=>by rw[<-hd];exact I.same hi (first+j) (by omega) (by omega)) (by
        rw[<-hd];rcases hb with hb|hb
        ·exact .inl (by omega)
        ·exact .inr hb)
       rw[e1,e2,<-hd,z4d,show nx - first - (d+1)=nx - (i+1) by omega];rfl
      ·rw[z3a];simp only[z3l,z73];omega
      ·rw[show j=i+1 by omega]
    ·have hb:¬(i+1=nx)/\p.testBit (i+1)=p.testBit i:=by
      simpa using h1
     refine ea.nx _ _ ⟨first,as,fnd,_,_,rfl,I.sm,I.hl,I.rows,I.eq,Nat.le_succ_of_le I.fi,Nat.le_succ_of_le I.len,λhlt j h1 h2=>?_,λe=>absurd e hb.1⟩;by_cases hj:j=i+1
     ·rw[hj]
     ·rw[hb.2];exact I.same hi j h1 (by omega)
  ·rintro σ H' ⟨first,as,fnd,vx,vo,rfl,I⟩
   walk_at "rd"
   refine k H' l as I.sm hl I.hl ?_;have e:=I.eq;rw[I.last rfl,z7r]at e;rw[e,show Vbmiab.runsFrom p 0 nx=[] from rfl,z31];exact I.rows
theorem zvf {as:List Addr}{i:Nat}{y:V}(h:(as.map V.ref)[i]? =some y):∃ c,as[i]? =some c/\y=V.ref c:=by
 rw[z27]at h;cases e:as[i]? with
 |none=>
  rw[e]at h;cases h
 |some c=>
  rw[e]at h;exact⟨c,rfl,(z3p h).symm⟩
theorem zve {α β:Type}{f:α->β}{as:List α}{i:Nat}{y:β}(h:(as.map f)[i]? =some y):∃ c,as[i]? =some c/\y=f c:=by
 rw[z27]at h;cases e:as[i]? with
 |none=>
  rw[e]at h;cases h
 |some c=>
  rw[e]at h;exact⟨c,rfl,(z3p h).symm⟩
inductive zjf (vs:List V)(H:Hp)(Q:VK):Prop
 |mk (p nx ore waste:Nat):vs=[vN p,vN nx,vN ore,vN waste]->1<=nx->nx<=7->Ret H (.bl (wc nx ore waste p)) Q->zjf vs H Q
def zwt:Sp:=λvs H Q _=>zjf vs H Q
def G5:zo ["pattern","nx","ore","waste","kind","first","last","cells"] ["pattern","nx","ore","waste"] (zj zuq):=by walk_at "sc"
theorem znj (T:qf K mg CB CR CC):xo P w K mg base "runs_are_wide" 3 ["pattern","nx","ore","waste"] zwt:=by
 refine T.areW.con λf fd F=>F.ok G5 (λ_ _ _ _ h=>?_) (λ_ A _ s H vs Q E hr h=>?_)
 ·obtain⟨p,nx,o,wa,rfl,_⟩:=h;rfl
 ·obtain⟨p,nx,o,wa,rfl,n1,n7,k⟩:=h;refine⟨_,zc (jt z3v rfl (jo (je (znl T) hr (za (pv 0) (za (pv 1) zd)))) (zdx rfl (xq (zt (i:=4) G5.nd rfl (Or.inl rfl)) (xq (zt (i:=5) G5.nd rfl (Or.inl rfl)) (xq (zt (i:=6) G5.nd rfl (Or.inl rfl)) Ud))))
    (zc (zn (i:=7) G5.nd rfl (Or.inl rfl) (jd yj (jd Zc (pv 6) (pv 5)) zi))
    (zg (ju (PW.pt (zin (jh V5 (pv 7) (pv 1) (jl _)) (zd3 (jh V5 (pv 7) (Yd (jh Zm (pv 4) zi (jl _)) (pv 2) (pv 3)) (jl _))))) (zg (zm vn)) (jb)))))
   (zg (zm vn)),?_⟩
  walk_at "rd"
  refine⟨p,nx,rfl,n1,n7,λH1 l as sm hn hl rows=>?_⟩;refine⟨l,rfl,⟨_,zx.of hl⟩,?_⟩;refine J6 (xs:=as.map V.ref) (λi σ H'=>H'=H1/\(∀ j r,j < i->(Vbmiab.runsFrom p nx 0)[j]? =some r->wj nx o wa r=true)/\∃ v1 v2 v3 v4,σ=[some (vN p),some (vN nx),some (vN o),some (vN wa),v1,v2,v3,v4])
   ⟨rfl,λj r h=>absurd h (z8u _),none,none,none,none,rfl⟩ (λi σ H' _ ⟨e,_⟩=>by rw[e];exact zx.of hl) ?_ ?_
  ·rintro i x σ H' D' hx ⟨rfl,hall,v1,v2,v3,v4,rfl⟩ ea;obtain⟨c,hc,rfl⟩:=zvf hx;obtain⟨rr,hr2,hcr⟩:=rows.at hc;obtain⟨r,hr3,rfl⟩:=zve hr2;have sd:=yu p nx 0 r (z3r hr3);have sd1:=sd.2.1;refine⟨c,_,rfl,yw.of hcr,rfl,_,_,rfl,_,_,rfl,_,_,rfl,rfl,?_⟩;refine⟨_,rfl,_,rfl,_,_,rfl,rfl,_,_,rfl,rfl,?_⟩;have hw:(r.2.2:Int) - (r.2.1:Int)+1=((Vbmiab.wide r:Nat):Int):=by
    unfold Vbmiab.wide;omega
   dsimp only[wb,zgq,zpi];rw[hw];refine zi0 (decide (Vbmiab.wide r < nx)) (decide (Vbmiab.wide r < (if r.1=true then o else wa))) (λQ' q=>?_) (λ_ Q' q=>?_) ?_
   ·walk_at "rd"
    rw[yf (show Vbmiab.wide r < nx↔((Vbmiab.wide r:Nat):Int) < (nx:Int) by omega)]at q;exact q
   ·refine⟨_,rfl,?_⟩;refine zux r.1 (vN (if r.1=true then o else wa)) (λQ' q=>?_) (λh Q' q=>?_) (λh Q' q=>?_) ?_
    ·walk_at "rd"
     have e:decide (vN r.1.toNat=V.int 1)=r.1:=by cases r.1<;>rfl
     rw[<-e]at q;exact q
    ·rw[z3m h]at q;exact⟨_,rfl,q⟩
    ·rw[z3k (by rw[h];decide)]at q;exact⟨_,rfl,q⟩
    ·walk_at "rd"
     rw[yf (show Vbmiab.wide r < (if r.1=true then o else wa)↔((Vbmiab.wide r:Nat):Int) < (((if r.1=true then o else wa):Nat):Int) by omega)]at q;exact q
   ·refine jr (λh1=>?_) (λh1=>?_)
    ·have e:wc nx o wa p=false:=by
      unfold wc;rw[<-z7v,z47];intro q;have:=q r (z3r hr3);unfold wj at this;rw[h1]at this;cases this
     rw[e]at k;exact ea.rt _ _ (k _ sm)
    ·refine ea.nx _ _ ⟨rfl,λj r' hj hr'=>?_,_,_,_,_,rfl⟩;by_cases hji:j=i
     ·subst hji;have:r'=r:=z3p (hr'.symm.trans hr3);subst this;unfold wj;rw[z7v]at h1;rw[h1];rfl
     ·exact hall j r' (by omega) hr'
  ·rintro σ H' ⟨rfl,hall,v1,v2,v3,v4,rfl⟩;have e:wc nx o wa p=true:=by
    unfold wc;rw[z47];intro r hr;obtain⟨j,hj,e⟩:=z5q hr;have hl2:=rows.len;rw[z25]at hl2;exact hall j r (by rw[z25];omega) (by rw[z28 hj,e])
   rw[e]at k;exact k _ sm
def Ul (n:Nat)(f:Nat->Bool):List V:=(List.range n).map λp=>V.bl (f p)
inductive ze0 (vs:List V)(H:Hp)(Q:VK):Prop
 |mk (nx ore waste:Nat):vs=[vN nx,vN ore,vN waste]->1<=nx->nx<=7->(∀(H':Hp) (l:Addr),zh H H'->H l=none->H' l=some (.lst (Ul (2 ^ nx) (wc nx ore waste)))->Q (.ref l) H')->ze0 vs H Q
def zsr:Sp:=λvs H Q _=>ze0 vs H Q
def zef:zo ["nx","ore","waste","pattern"] ["nx","ore","waste"] (zj zpr):=by walk_at "sc"
theorem zjt (T:qf K mg CB CR CC):xo P w K mg base "wide_patterns" 4 ["nx","ore","waste"] zsr:=by
 refine T.wideP.con λf fd F=>F.ok zef (λ_ _ _ _ h=>?_) (λ_ A _ s H vs Q E hr h=>?_)
 ·obtain⟨nx,o,wa,rfl,_⟩:=h;rfl
 ·obtain⟨nx,o,wa,rfl,n1,n7,k⟩:=h;have p7:=Jr n7;refine⟨_,zg (zm (ko rfl zef.nd (yp rfl T.range (za (jd zii zi (pv 0)) zd)) (jq (own:=[("pattern",3)]) rfl) (λ_ _ _ _ _=>(zt (i:=3) zef.nd rfl (Or.inl rfl))) (λ_ _ _ _ _=>q0) (λ_ _ _ _ _=>(je (znj T) hr (za (pv 3) (za (pv 0) (za (pv 1) (za (pv 2) zd)))))))),?_⟩
  walk_at "rd"
  refine⟨⟨by omega,by omega,by decide⟩,?_⟩
  try dsimp only
  rw[ziw];generalize 2 ^ nx=N at p7 k ⊢;refine⟨_,rfl,by omega,by omega,λD hD=>?_⟩;refine zoo (λp=>some (.bl (wc nx o wa p))) hD (z32 p7 (by decide)) (λi H' Nt Nf hi sm hN hF=>?_) (λH' sm hq=>?_)
  ·refine⟨rfl,?_⟩
   walk_at "rd"
   refine⟨i,nx,o,wa,rfl,n1,n7,λH4 s4=>hN _ _ s4 rfl⟩
  ·refine k H' D sm hD ?_;rw[hq,z45]
   all_goals rfl
theorem ze4 (p q:Nat):Builtin.bitAnd (p:Int) (q:Int)=((p &&& q:Nat):Int):=by
 rw[bitAnd_pp (by omega) (by omega),z3i,z3i]
theorem zq3 (p q:Nat):Builtin.bitOr (p:Int) (q:Int)=((p ||| q:Nat):Int):=by
 unfold Builtin.bitOr Builtin.bitAnd Builtin.bitNot;have h1:decide ((0:Int)<=-(p:Int) - 1)=false:=z4u (by omega);have h2:decide ((0:Int)<=-(q:Int) - 1)=false:=z4u (by omega);simp only[h1,h2];have e1:(-(-(p:Int) - 1) - 1).toNat=p:=by omega
 have e2:(-(-(q:Int) - 1) - 1).toNat=q:=by omega
 rw[e1,e2];omega
theorem zk8 {n m:Nat}(h:m < 2 ^ n):Builtin.bitXor ((2 ^ n - 1:Nat):Int) (m:Int)=((2 ^ n - (m+1):Nat):Int):=by
 rw[bitXor_and,ze4,Nat.and_comm,Nat.and_two_pow_sub_one_eq_mod,z7u h];have:1<=2 ^ n:=z9f;omega
def rfs (b:Vbmiab.Bench)(l1 l2:Addr):List (Str×V):=[("greatest",vN (2 ^ b.nx - 1)),("wide_rows",.ref l1),("wide_necks",.ref l2)]
structure RAt (C:Addr)(H:Hp)(r:Addr)(b:Vbmiab.Bench)(dx l1 l2:Addr):Prop where
 ins:H r=some (.ins C dx (rfs b l1 l2))
 rows:H l1=some (.lst (Ul (2 ^ b.nx) (wc b.nx b.ore b.waste)))
 necks:H l2=some (.lst (Ul (2 ^ b.nx) (wc b.nx b.neck 1)))
 good:kr b
def xt (C:Addr)(H:Hp)(r:Addr)(b:Vbmiab.Bench):Prop:=∃ dx l1 l2,RAt C H r b dx l1 l2
theorem xt.same {C:Addr}{H H':Hp}{r:Addr}{b:Vbmiab.Bench}(R:xt C H r b)(s:zh H H'):xt C H' r b:=by
 obtain⟨dx,l1,l2,R⟩:=R;exact⟨dx,l1,l2,s _ _ R.ins,s _ _ R.rows,s _ _ R.necks,R.good⟩
theorem xt.good {C:Addr}{H:Hp}{r:Addr}{b:Vbmiab.Bench}(R:xt C H r b):kr b:=by
 obtain⟨dx,l1,l2,R⟩:=R;exact R.good
theorem ki.frame {C:Addr}{H H':Hp}{a r C' dx':Addr}{fs:List (Str×V)}{b:Vbmiab.Bench}{dx lw lk lm lt:Addr}(B:ki C H a b dx lw lk lm lt)(hr:H r=some (.ins C' dx' fs))(ha:a≠r)(k:∀ c o,H c=some o->c≠r->H' c=some o):ki C H' a b dx lw lk lm lt:=
 have nl:∀{l:Addr}{xs:List V},H l=some (.lst xs)->l≠r:=λh=>ja h hr (by intro q;cases q)
 ⟨k _ _ B.ins ha,k _ _ B.w (nl B.w),k _ _ B.k (nl B.k),k _ _ B.m (nl B.m),k _ _ B.t (nl B.t),B.km,B.kt,B.mt,B.wk,B.wm,B.wt,B.good⟩
theorem zq.frame {C:Addr}{H H':Hp}{a r C' dx':Addr}{fs:List (Str×V)}{b:Vbmiab.Bench}(B:zq C H a b)(hr:H r=some (.ins C' dx' fs))(ha:a≠r)(k:∀ c o,H c=some o->c≠r->H' c=some o):zq C H' a b:=by
 obtain⟨dx,lw,lk,lm,lt,B⟩:=B;exact⟨dx,lw,lk,lm,lt,B.frame hr ha k⟩
inductive zey (CB CR:Addr)(vs:List V)(H:Hp)(Q:VK):Prop
 |mk (r a dx:Addr) (b:Vbmiab.Bench):vs=[.ref r,.ref a]->H r=some (.ins CR dx [])->zq CB H a b->(∀ H':Hp,xt CR H' r b->(∀ c o,H c=some o->c≠r->H' c=some o)->Q .non H')->zey CB CR vs H Q
def zsp (CB CR:Addr):Sp:=λvs H Q _=>zey CB CR vs H Q
def zsc:zo ["self","bench"] ["self","bench"] (zj zpp):=by walk_at "sc"
theorem W2 (T:qf K mg CB CR CC):zbd P w K mg base CR 5 ["self","bench"] (zsp CB CR):=by
 refine T.rInit.con λf fd F=>F.ok zsc (λ_ _ _ _ h=>?_) (λ_ A _ s H vs Q E hr h=>?_)
 ·obtain⟨r,a,dx,b,rfl,_⟩:=h;rfl
 ·obtain⟨r,a,dx,b,rfl,hr0,B,k⟩:=h;have g:=B.good;have p7:=Jr g.nx7;have nar:a≠r:=by
   obtain⟨dx',lw,lk,lm,lt,B⟩:=B;exact ja B.ins hr0 (by intro q;injection q with _ _ q;cases q)
  refine⟨_,zc (xg (pv 0) (zv6 (pv 1) T.cB.cl (zcy T) hr.m0) rfl)
   (zc (xg (pv 0) (je (zjt T) hr (za (Jt (·.nx) T.cB.cl T.cB.nx (pv 1)) (za (pbl yl T.cB.cl T.cB.widths ki.lw (pv 1) zi) (za (pbl yl T.cB.cl T.cB.widths ki.lw (pv 1) zi) zd)))) rfl)
   (zg (xg (pv 0) (je (zjt T) hr (za (Jt (·.nx) T.cB.cl T.cB.nx (pv 1)) (za (pbl yl T.cB.cl T.cB.widths ki.lw (pv 1) zi) (za (jc T.c_ANY_WIDTH) zd)))) rfl))),?_⟩
  walk_at "rd"
  refine⟨r,CR,dx,_,rfl,hr0,T.cR.cl,T.cR.greatest,(by show 0 < 1000;decide),?_⟩;have B1:zq CB (upd H r (.ins CR dx (xr "greatest" (vN (2 ^ b.nx - 1)) []))) a b:=B.frame hr0 nar λc o e ne=>by
   rw[ze ne];exact e
  have hr1:(upd H r (.ins CR dx (xr "greatest" (vN (2 ^ b.nx - 1)) []))) r=some (.ins CR dx [("greatest",vN (2 ^ b.nx - 1))]):=zb;have kp1:∀ c o,H c=some o->c≠r->(upd H r (.ins CR dx (xr "greatest" (vN (2 ^ b.nx - 1)) []))) c=some o:=λc o e ne=>by
   rw[ze ne];exact e
  generalize (upd H r (.ins CR dx (xr "greatest" (vN (2 ^ b.nx - 1)) [])))=H1 at B1 hr1 kp1 ⊢
  walk_at "rd"
  refine⟨zh.refl _,0,vN b.ore,rfl,rfl,?_⟩
  walk_at "rd"
  refine⟨zh.refl _,1,vN b.waste,rfl,rfl,?_⟩;refine⟨b.nx,b.ore,b.waste,rfl,g.nx0,g.nx7,λH2 l1 s2 n2 h2=>?_⟩;have hr2:=s2 _ _ hr1;refine⟨_,rfl,r,CR,dx,_,rfl,hr2,T.cR.cl,T.cR.wide_rows,(by show 1 < 1000;decide),?_⟩;have nl1:l1≠r:=ja h2 hr2 (by intro q;cases q);have B2:zq CB (upd H2 r (.ins CR dx [("greatest",vN (2 ^ b.nx - 1)),("wide_rows",.ref l1)])) a b:=(B1.same s2).frame hr2 nar λc o e ne=>by
   rw[ze ne];exact e
  have hr3:(upd H2 r (.ins CR dx [("greatest",vN (2 ^ b.nx - 1)),("wide_rows",.ref l1)])) r=some (.ins CR dx [("greatest",vN (2 ^ b.nx - 1)),("wide_rows",.ref l1)]):=zb;have hl3:(upd H2 r (.ins CR dx [("greatest",vN (2 ^ b.nx - 1)),("wide_rows",.ref l1)])) l1=_:=(ze nl1).trans h2;have kp2:∀ c o,H c=some o->c≠r->(upd H2 r (.ins CR dx [("greatest",vN (2 ^ b.nx - 1)),("wide_rows",.ref l1)])) c=some o:=λc o e ne=>by
   rw[ze ne];exact s2 _ _ (kp1 c o e ne)
  rw[yk (by decide+kernel),zgc];generalize (upd H2 r (.ins CR dx [("greatest",vN (2 ^ b.nx - 1)),("wide_rows",.ref l1)]))=H3 at B2 hr3 hl3 kp2 ⊢
  walk_at "rd"
  refine⟨zh.refl _,2,vN b.neck,rfl,rfl,?_⟩;refine⟨b.nx,b.neck,1,rfl,g.nx0,g.nx7,λH4 l2 s4 n4 h4=>?_⟩;have hr4:=s4 _ _ hr3;refine⟨_,rfl,r,CR,dx,_,rfl,hr4,T.cR.cl,T.cR.wide_necks,(by show 2 < 1000;decide),?_⟩;have nl2:l2≠r:=ja h4 hr4 (by intro q;cases q);rw[yk (by decide+kernel),yk (by decide+kernel),zgc];refine k _ ⟨dx,l1,l2,zb,?_,?_,g⟩ λc o e ne=>?_
  ·rw[ze nl1];exact s4 _ _ hl3
  ·rw[ze nl2];exact h4
  ·rw[ze ne];exact s4 _ _ (kp2 c o e ne)
def tRm (C:Addr)(sp:Sp)(ta:TE)(t:TA):TE:=λσ H Q=>ta σ H λx H1=>∃ a b,x=.ref a/\xt C H1 a b/\t σ H1 λvs H2=>sp (.ref a::vs) H2 Q E0
theorem prm {X:Cx}{m:Str}{ps:List Str}{k:Nat}{sp:Sp}{C:Addr}{e o:Expr}{es:List Expr}{t:TA}{ta:TE}{pos apos:Pos}(he:PE X o ta)(cl:Cls X.K C)(c:ww X.prog X.w X.K X.mg X.base C m k ps sp)(hr:Room k X.A)(ha:PA X (e::es) t){pl:Sem Bool}(hl:∀ b l1 l2,(rfs b l1 l2).lookup m=none:=by intros;rfl)
  (hst:starEach (e::es) X.env=(false,eval e X.env)::starEach es X.env:=by rfl)(hpl:(backTo pos (starEach es X.env)).any (·.1)=false:=by rfl)
  (ht:eval (.Call (.Attribute o m apos) (e::es) [] pos) X.env=(do
   let ov <-eval o X.env
   standAt apos.atName
   let (f,first) <-holding [ov] (getMethod ov m pl)
   callWith pos f first (backTo pos (starEach (e::es) X.env)) (backToKw pos (keywordEach [] X.env))):=by rfl):
  PE X (.Call (.Attribute o m apos) (e::es) [] pos) (tRm C sp ta t):=by
 obtain⟨f,fd,hm,hb,F⟩:=c;intro pins s σ H Q I h;refine z8t (pl:=pl) (yd (he pins s σ H _ I h) λu s1 ⟨x,H1,I1,rx,a,b,ex,⟨dx,l1,l2,B⟩,q⟩=>?_) ht;subst ex;obtain rfl:u=Value.ref a:=rx;refine Xb I1 B.ins cl hm (hl b l1 l2) ?_;refine z7f (first:=[.ref a]) (h₀:=X.base) I.ok.mod.kin hm.kp (yd (ha pos pins s1 σ H1 _ I1 q) λus s2 ⟨vs,H2,I2,r,q2⟩=>⟨I2.kIn,?_⟩) hst hpl;exact Gx (us:=.ref a::us) (vs:=.ref a::vs) F hr hb .nil Gq I2 (.cons rfl r) (by rw[z31];exact q2)
theorem Va {n i:Nat}{f:Nat->Bool}(h:i < n):(Ul n f)[i]? =some (.bl (f i)):=by
 unfold Ul;rw[z27,List.getElem?_range h];rfl
inductive zez (CR:Addr)(vs:List V)(H:Hp)(Q:VK):Prop
 |mk (r:Addr) (b:Vbmiab.Bench) (p:Nat):vs=[.ref r,vN p]->xt CR H r b->(p < 2 ^ b.nx/\Q (.bl (Vbmiab.rowOk b p)) H)->zez CR vs H Q
def zsq (CR:Addr):Sp:=λvs H Q _=>zez CR vs H Q
def zsf:zo ["self","pattern"] ["self","pattern"] (zj zpq):=by walk_at "sc"
theorem zjs (T:qf K mg CB CR CC):ww P w K mg base CR "runs_hold" 1 ["self","pattern"] (zsq CR):=by
 refine T.runsH.con λf fd F=>F.ok zsf (λ_ _ _ _ h=>?_) (λ_ A _ s H vs Q E hr h=>?_)
 ·obtain⟨r,b,p,rfl,_⟩:=h;rfl
 ·obtain⟨r,b,p,rfl,⟨dx,l1,l2,R⟩,hp,k⟩:=h;refine⟨_,zg (zm (zu zw (Vk (pv 0) rfl) (pv 1) (λ_ _=>rfl))),?_⟩;refine⟨_,rfl,r,CR,dx,_,_,rfl,R.ins,T.cR.cl,T.cR.wide_rows,rfl,_,rfl,l1,_,_,_,rfl,rfl,zx.of R.rows,zk (Va hp),?_⟩;rw[zge b p R.good.nx0]at k;exact k
inductive zbi (CR:Addr)(vs:List V)(H:Hp)(Q:VK):Prop
 |mk (r:Addr) (b:Vbmiab.Bench) (p q:Nat):vs=[.ref r,vN p,vN q]->xt CR H r b->(p < 2 ^ b.nx/\q < 2 ^ b.nx/\Q (.bl (Vbmiab.necksOk b p q)) H)->zbi CR vs H Q
def zp2 (CR:Addr):Sp:=λvs H Q _=>zbi CR vs H Q
def G6:zo ["self","pattern","other","both_ore","both_waste"] ["self","pattern","other"] (zj zkn):=by walk_at "sc"
theorem ze8 (T:qf K mg CB CR CC):ww P w K mg base CR "necks_hold" 1 ["self","pattern","other"] (zp2 CR):=by
 refine T.necksH.con λf fd F=>F.ok G6 (λ_ _ _ _ h=>?_) (λ_ A _ s H vs Q E hr h=>?_)
 ·obtain⟨r,b,p,q,rfl,_⟩:=h;rfl
 ·obtain⟨r,b,p,q,rfl,⟨dx,l1,l2,R⟩,hp,hq,k⟩:=h;refine⟨_,zc (zn (i:=3) G6.nd rfl (Or.inl rfl) (jd zo0 (pv 1) (pv 2)))
   (zc (zn (i:=4) G6.nd rfl (Or.inl rfl) (jd zv2 (Vk (pv 0) rfl) (jd zyd (pv 1) (pv 2))))
   (zg (zm (zdu (zu zw (Vk (pv 0) rfl) (pv 3) (λ_ _=>rfl)) (zdv (zu zw (Vk (pv 0) rfl) (pv 4) (λ_ _=>rfl))))))),?_⟩
  have b1:p &&& q < 2 ^ b.nx:=z5v Nat.and_le_left hp;have b2:2 ^ b.nx - ((p ||| q)+1) < 2 ^ b.nx:=by
   have:=z9o hp hq;omega
  walk_at "rd"
  try dsimp only
  rw[ze4];refine⟨r,CR,dx,_,_,rfl,R.ins,T.cR.cl,T.cR.greatest,rfl,_,rfl,_,rfl,_,_,rfl,rfl,?_⟩
  try dsimp only
  rw[zq3];refine⟨_,_,rfl,rfl,?_⟩
  try dsimp only
  rw[zk8 (z9o hp hq)];refine⟨_,rfl,r,CR,dx,_,_,rfl,R.ins,T.cR.cl,T.cR.wide_necks,rfl,_,rfl,l2,_,_,_,rfl,rfl,zx.of R.necks,zk (Va b1),?_⟩;refine⟨_,rfl,?_⟩;rw[Xf b hp hq]at k;refine jr (λh1=>?_) (λh1=>?_)
  ·refine⟨_,rfl,r,CR,dx,_,_,rfl,R.ins,T.cR.cl,T.cR.wide_necks,rfl,_,rfl,l2,_,_,_,rfl,rfl,zx.of R.necks,zk (Va b2),?_⟩;rw[h1,z4n]at k;exact k
  ·rw[z7v]at h1;rw[h1,z5c]at k;exact k
local macro_rules|`(tactic| walk_at "rd") => `(tactic| repeat (first|refine ⟨_,rfl,?_⟩|refine ⟨_,_,rfl,rfl,?_⟩|refine ⟨_,_,rfl,‹zq _ _ _ _›,?_⟩|refine ⟨_,_,rfl,‹xt _ _ _ _›,?_⟩|refine ⟨_,_,_,_,rfl,‹zq _ _ _ _›,?_⟩|refine ⟨rfl,?_⟩))
theorem ve {H:Hp}{d:Addr}{u o:HO}(hd:H d=some u){c:Addr}{x:HO}(hc:H c=some x)(n:x≠u):(upd H d o) c=some x:=by
 rw[ze (ja hc hd n)];exact hc
theorem zgz {H H':Hp}{d:Addr}{u:HO}{od:Obj}(hd:H d=some u)(s:zh (upd H d (.frz od u)) H'):zh H (upd H' d u):=λc o e=>by
 by_cases q:c=d
 ·subst q;rw[hd]at e;cases e;exact zb
 ·rw[ze q];exact s _ _ (by rw[ze q];exact e)
theorem zq.lock {C:Addr}{H:Hp}{a d:Addr}{b:Vbmiab.Bench}{kvs:List (j2×V)}{o:HO}(B:zq C H a b)(hd:H d=some (.dK kvs)):zq C (upd H d o) a b:=by
 obtain⟨dx,lw,lk,lm,lt,B⟩:=B;exact⟨dx,lw,lk,lm,lt,ve hd B.ins (by intro q;cases q),ve hd B.w (by intro q;cases q),ve hd B.k (by intro q;cases q),ve hd B.m (by intro q;cases q),ve hd B.t (by intro q;cases q),B.km,B.kt,B.mt,B.wk,B.wm,B.wt,B.good⟩
def kvI (l:List (Nat×Int)):List (j2×V):=l.map λq=>(.inl (q.1:Int),.int q.2)
theorem K2 {α:Type}(f:Nat->Option α)(c:α->V)(p:Nat):∀(l:List Nat),l.Nodup->ye (l.filterMap λq=>(f q).map λv=>((Sum.inl (q:Int):j2),c v)) (.inl (p:Int))=if p∈l then (f p).map c else none
 |[],_=>rfl
 |a::l,hn=>by
  obtain⟨na,hn⟩:=z53.mp hn;have ih:=K2 f c p l hn;cases e:f a with
  |none=>
   rw[z5b (by rw[e];rfl),ih];by_cases h:p=a
   ·subst h;rw[z3k na,z3m z3e,e];rfl
   ·by_cases h2:p∈l
    ·rw[z3m h2,z3m (z3d _ h2)]
    ·rw[z3k h2,z3k λz=>(z3t.mp z).elim h h2]
  |some v=>
   rw[z5a (by rw[e];rfl)];by_cases h:p=a
   ·subst h;rw[vq rfl,z3m z3e,e];rfl
   ·rw[xi (by intro z;have:=z6e z;omega),ih];by_cases h2:p∈l
    ·rw[z3m h2,z3m (z3d _ h2)]
    ·rw[z3k h2,z3k λz=>(z3t.mp z).elim h h2]
theorem zh4 (b:Vbmiab.Bench)(g:Nat->Option Int):kvI (xl b g)=(z9 b).filterMap λq=>(g q).map λv=>((Sum.inl (q:Int):j2),V.int v):=by
 unfold kvI xl;rw[z5w];congr 1;funext p;cases g p<;>rfl
theorem zaj (b:Vbmiab.Bench)(g:Nat->Option Int)(p:Nat):ye (kvI (xl b g)) (.inl (p:Int))=if p∈z9 b then (g p).map V.int else none:=by
 rw[zh4];exact K2 g V.int p (z9 b) (Jk b)
theorem Z5 (b:Vbmiab.Bench)(g:kr b):(z9 b).length<=128:=by
 refine z32 (z4w _ _) ?_;rw[z4q];exact Jr g.nx7
def Zk (b:Vbmiab.Bench)(ad:Nat->Addr)(l:List Nat):List (j2×V):=l.map λp:Nat=>((.inl (p:Int):j2),V.ref (ad p))
theorem K3 (b:Vbmiab.Bench)(ad:Nat->Addr)(l:List Nat)(p:Nat):ye (Zk b ad l) (.inl (p:Int))=if p∈l then some (.ref (ad p)) else none:=by
 induction l with
 |nil=>rfl
 |cons a l ih=>
  show ye (((.inl (a:Int):j2),V.ref (ad a))::Zk b ad l) _=_;by_cases h:p=a
  ·subst h;rw[vq rfl,z3m z3e]
  ·rw[xi (by intro z;have:=z6e z;omega),ih];by_cases h2:p∈l
   ·rw[z3m h2,z3m (z3d _ h2)]
   ·rw[z3k h2,z3k λz=>(z3t.mp z).elim h h2]
structure zha (b:Vbmiab.Bench)(H:Hp)(d:Addr)(ad:Nat->Addr):Prop where
 dict:Rd H d (.dK (Zk b ad (z9 b)))
 lists:∀ p,p∈z9 b->H (ad p)=some (.lst ((Jc b p).map vN))
theorem Yj {H H':Hp}{d:Addr}{u:HO}(r:Rd H d u)(s:zh H H'):Rd H' d u:=by
 rcases r with r|⟨o,r⟩
 ·exact .inl (s _ _ r)
 ·exact .inr ⟨o,s _ _ r⟩
theorem zha.same {b:Vbmiab.Bench}{H H':Hp}{d:Addr}{ad:Nat->Addr}(N:zha b H d ad)(s:zh H H'):zha b H' d ad:=⟨Yj N.dict s,λp hp=>s _ _ (N.lists p hp)⟩
theorem zdq {b:Vbmiab.Bench}{p q:Nat}(h:q∈Jc b p):q∈z9 b:=(z34.mp h).1
theorem zdp (b:Vbmiab.Bench)(g:kr b)(p:Nat):(Jc b p).length<=128:=z32 (z4w _ _) (Z5 b g)
def wl (b:Vbmiab.Bench)(l:List Nat):List Int:=(List.range l.length).map λy=>Vbmiab.rowWorth b y (l.getD y 0)
theorem zm0 (l:List Nat):l.zip (List.range l.length)=(List.range l.length).map λi=>(l.getD i 0,i):=by
 apply List.ext_getElem
 ·simp
 ·intro i h1 h2;simp at h1 h2;simp[List.getElem_zip,z3s,h2]
theorem zqr {b:Vbmiab.Bench}{l:List Nat}(h:l.length=b.ny):Vbmiab.worth b l=(wl b l).sum:=by
 unfold Vbmiab.worth Vbmiab.ys wl;rw[<-h,zm0,Xk,z4f];rfl
inductive ztr (C:Addr)(vs:List V)(H:Hp)(Q:VK):Prop
 |mk (a q:Addr) (b:Vbmiab.Bench) (l:List Nat):vs=[.ref a,.ref q]->zq C H a b->(H q=some (.lst (l.map vN))/\l.length=b.ny/\Ret H (.int (Vbmiab.worth b l)) Q)->ztr C vs H Q
def z03 (C:Addr):Sp:=λvs H Q _=>ztr C vs H Q
def zwl:zo ["bench","lines","y","pattern"] ["bench","lines"] (zj Qw):=by walk_at "sc"
theorem Zt (T:qf K mg CB CR CC):xo P w K mg base "lines_worth" 3 ["bench","lines"] (z03 CB):=by
 refine T.f_lines_worth.con λf fd F=>F.ok zwl (λ_ _ _ _ h=>?_) (λ_ A _ s H vs Q E hr h=>?_)
 ·obtain⟨a,q,b,l,rfl,_⟩:=h;rfl
 ·obtain⟨a,q,b,l,rfl,B,hq,hl,k⟩:=h;have g:=B.good;have g8:=g.ny8;refine⟨_,zg (zm (ji (Ux rfl) rfl T.b_sum (by decide+kernel) (za (ko rfl zwl.nd (zkh rfl T.b_enumerate (za (pv 1) zd)) (jq (own:=[("y",2),("pattern",3)]) rfl) (λ_ _ _ _ _=>(pg2 K (i:=2) (j:=3) rfl rfl zwl.nd rfl rfl (Or.inl rfl) (Or.inl rfl))) (λ_ _ _ _ _=>q0) (λ_ _ _ _ _=>(Qi (pv 0) T.cB.cl (znk T) hr.m0 (za (pv 2) (za (pv 3) zd))))) zd))),?_⟩;refine⟨_,rfl,q,_,rfl,zx.of hq,λD hD=>?_⟩;refine zrg (n:=l.length) (λi=>some (.int (Vbmiab.rowWorth b i (l.getD i 0)))) hD (z36 (zp (by omega))) (λi H' hi sm=>?_) (λi H' x H2 Nt Nf hi sm y hN hF=>?_) (λH' sm h1=>?_)
  ·exact⟨_,vN l[i],zx.of (sm _ _ hq),by rw[z27,z28 hi];rfl⟩
  ·obtain⟨t,x,rfl,ht,rfl,hx⟩:=y;have ex:=hx _ (zx.of (sm _ _ hq));rw[z27,z28 hi]at ex;obtain rfl:vN l[i]=x:=z3p ex;have s2:zh H' (upd H' t (.tup [vN i,vN l[i]])):=zh.upd ht;have B2:=(B.same sm).same s2;refine⟨t,_,rfl,yw.of zb,rfl,_,_,rfl,_,_,rfl,rfl,rfl,?_⟩
   walk_at "rd"
   refine⟨by omega,?_⟩;refine hN _ _ s2 ?_;rw[z3s,z28 hi];rfl
  ·refine⟨⟨_,zx.of (sm _ _ hq),by rw[z25];exact z3c _⟩,D,wl b l,rfl,zx.of ?_,?_⟩
   ·rw[h1,z45,wl,z4f];rfl
   ·rw[<-zqr hl];exact k _ sm
theorem zio (b:Vbmiab.Bench):(List.range (2 ^ b.nx)).filterMap (λp=>if Vbmiab.rowOk b p=true then some (vN p) else none)=(z9 b).map vN:=by
 unfold z9 Vbmiab.patterns;rw[<-jai,z5w];congr 1;funext p;cases e:Vbmiab.rowOk b p<;>simp[Option.guard,e]
theorem zo1 (b:Vbmiab.Bench)(p:Nat):(z9 b).filterMap (λq=>if Vbmiab.necksOk b p q=true then some (vN q) else none)=(Jc b p).map vN:=by
 unfold Jc;rw[<-jai,z5w];congr 1;funext q;cases e:Vbmiab.necksOk b p q<;>simp[Option.guard,e]
def tRf (C:Addr)(ta:TE):TE:=λσ H Q=>ta σ H λx H1=>∃ a b,x=.ref a/\xt C H1 a b/\Q (vN (2 ^ b.nx - 1)) H1
theorem prf {X:Cx}{e:Expr}{C:Addr}{ta:TE}{pos:Pos}(cl:Cls X.K C)(hn:yq X.K C "greatest")(he:PE X e ta)(hb:attributeBase e "greatest" X.env (eval e X.env)=eval e X.env:=by rfl):PE X (.Attribute e "greatest" pos) (tRf C ta):=by
 intro pins s σ H Q I h;refine Xs hb (yd (he pins s σ H _ I h) λu s1 ⟨x,H1,I1,rx,a,b,ex,⟨dx,l1,l2,B⟩,q⟩=>?_);subst ex;obtain rfl:u=Value.ref a:=rx;exact Za I1 B.ins cl hn (by rfl) λu' s2 I2 ru=>⟨_,H1,I2,ru,q⟩
inductive ztv (CR:Addr)(vs:List V)(H:Hp)(Q:VK):Prop
 |mk (r:Addr) (b:Vbmiab.Bench):vs=[.ref r]->xt CR H r b->(∀(H':Hp) (d:Addr) (ad:Nat->Addr),zh H H'->H' d=some (.dK (Zk b ad (z9 b)))->zha b H' d ad->Q (.ref d) H')->ztv CR vs H Q
def z07 (CR:Addr):Sp:=λvs H Q _=>ztv CR vs H Q
def zir:zo ["rules","patterns","found","pattern","other"] ["rules"] (zj Kk):=by walk_at "sc"
theorem Jg (T:qf K mg CB CR CC):xo P w K mg base "neighbours" 2 ["rules"] (z07 CR):=by
 refine T.f_neighbours.con λf fd F=>F.ok zir (λ_ _ _ _ h=>?_) (λ_ A _ s H vs Q E hr h=>?_)
 ·obtain⟨r,b,rfl,_⟩:=h;rfl
 ·obtain⟨r,b,rfl,R,k⟩:=h;have g:=R.good;have p7:=Jr g.nx7;have p1:1<=2 ^ b.nx:=z9f;have pl:=Z5 b g;refine⟨_,zc (Z6 (i:=1) rfl zir.nd rfl rfl (Qc rfl rfl rfl rfl) (yp rfl T.range (za (jd yj (prf T.cR.cl T.cR.greatest (pv 0)) zi) zd)) (jq (own:=[("pattern",3)]) rfl) (λ_ _ _ _ _=>(zt (i:=3) zir.nd rfl (Or.inl rfl))) (λ_ _ _ _ _=>(vh (j4 (prm (pv 0) T.cR.cl (zjs T) hr.m0 (za (pv 3) zd))))) (λ_ _ _ _ _=>(pv 3)))
   (zc (zn (i:=2) zir.nd rfl (Or.inl rfl) Yc)
   (zc (jt z3v rfl (jo (pv 1)) (zt (i:=3) zir.nd rfl (Or.inr rfl))
    (zg (Zn (xf hr) (pv 2) (pv 3) (ko rfl zir.nd (jo (pv 1)) (jq (own:=[("other",4)]) rfl) (λ_ _ _ _ _=>(zt (i:=4) zir.nd rfl (Or.inl rfl))) (λ_ _ _ _ _=>(vh (j4 (prm (pv 0) T.cR.cl (ze8 T) hr.m0 (za (pv 3) (za (pv 4) zd)))))) (λ_ _ _ _ _=>(pv 4))) rfl)))
   (zg (zm (pv 2))))),?_⟩
  walk_at "rd"
  have e0:(((2 ^ b.nx - 1:Nat):Int)+1)=((2 ^ b.nx:Nat):Int):=by omega
  try dsimp only
  rw[e0];refine⟨by omega,by omega,λD hD=>?_⟩;refine zoo (λp=>if Vbmiab.rowOk b p=true then some (vN p) else none) hD (z32 p7 (by decide)) (λi H' Nt Nf hi sm hN hF=>?_) (λH1 s1 h1=>?_)
  ·have R':=R.same sm;refine⟨rfl,?_⟩
   walk_at "rd"
   refine⟨r,b,i,rfl,R',hi,?_⟩
   walk_at "rd"
   refine jr (λe=>?_) (λe=>?_)
   ·exact⟨_,rfl,hN _ _ (zh.refl _) (by rw[z3m e])⟩
   ·exact hF _ (zh.refl _) (by rw[z3k e])
  ·rw[zio]at h1;intro d hd;have s2:zh H1 (upd H1 d (.dK [])):=zh.upd hd;refine⟨_,rfl,D,rfl,⟨_,zx.of (s2 _ _ h1)⟩,?_⟩;refine J6 (K:=K) (a:=D) (xs:=(z9 b).map vN) (λi σ H'=>∃ v3 v4 ad,σ=[some (.ref r),some (.ref D),some (.ref d),v3,v4]/\zh H1 H'/\H' d=some (.dK (Zk b ad ((z9 b).take i)))/\∀ p,p∈(z9 b).take i->H' (ad p)=some (.lst ((Jc b p).map vN))) ⟨_,_,λ_=>0,rfl,s2,zb,λp hp=>(by cases hp)⟩ (λi σ H' _ ⟨_,_,_,_,sm,_⟩=>zx.of (sm _ _ h1)) ?_ ?_
   ·rintro i x σ H' D' hx ⟨v3,v4,ad,rfl,sm,hd',hall⟩ ea;obtain⟨p,hp,rfl⟩:∃ p,(z9 b)[i]? =some p/\x=vN p:=by
     rw[z27]at hx;cases e:(z9 b)[i]? with
     |none=>
      rw[e]at hx;cases hx
     |some p=>
      rw[e]at hx;exact⟨p,rfl,(z3p hx).symm⟩
    have pm:p∈z9 b:=z3r hp;have hp2:=Uc pm;refine⟨_,rfl,D,rfl,⟨_,zx.of (sm _ _ h1)⟩,λL hL=>?_⟩;refine Wy (λq=>if Vbmiab.necksOk b p q=true then some (vN q) else none) hL (z36 (zp (by omega))) (zx.of (sm _ _ h1)) (λj q H2 Nt Nf hq sq hN hF=>?_) (λH3 s3 h3=>?_)
    ·have R':=((R.same s1).same sm).same sq;have hq2:=Uc (z3r hq);refine⟨rfl,?_⟩
     walk_at "rd"
     refine⟨r,b,p,q,rfl,R',hp2,hq2,?_⟩
     walk_at "rd"
     refine jr (λe=>?_) (λe=>?_)
     ·exact⟨_,rfl,hN _ _ (zh.refl _) (by rw[z3m e])⟩
     ·exact hF _ (zh.refl _) (by rw[z3k e])
    ·rw[zo1]at h3;have np:¬p∈(z9 b).take i:=λz=>by
      obtain⟨j,hj,e⟩:=z5q z;rw[z35]at hj;rw[z7n]at e;have:=zf0 (Jk b) (z3b.mpr ⟨by omega,e⟩) hp;omega
     have d3:=s3 _ _ hd';refine⟨_,rfl,_,rfl,d,_,rfl,Xn.k (k:=Sum.inl (p:Int)) d3 ?_,?_⟩
     ·unfold Zk;rw[z25,z35];exact zp (by omega)
     ·rw[Yi _ (by rw[K3,z3k np])];have hLd:L≠d:=by
       intro z;subst z;rw[hd']at hL;cases hL
      refine ea.nx _ _ ⟨_,_,λq=>if q=p then L else ad q,rfl,?_,?_,?_⟩
      ·exact λc o e=>by
        rw[ze (zf e hd)];exact s3 _ _ (sm _ _ e)
      ·rw[zb,jw hp];congr 1;unfold Zk;rw[z3g,z3n,z6z]
       try dsimp only
       rw[z3m rfl];congr 2;apply z5z;intro q hq;rw[z3k λ(z:q=p)=>np (z▸hq)]
      ·intro q hq;rw[jw hp]at hq
       try dsimp only
       by_cases z:q=p
       ·subst z;rw[z3m rfl,ze hLd];exact h3
       ·rw[z3k z];have hq':q∈(z9 b).take i:=(z33.mp hq).resolve_right λy=>z (z37.mp y);have h4:=s3 _ _ (hall q hq');rw[ze (ja h4 d3 (by intro y;cases y))];exact h4
   ·rintro σ H' ⟨v3,v4,ad,rfl,sm,hd',hall⟩;rw[z25,z4s]at hd' hall;refine⟨_,rfl,?_⟩;exact k _ d ad (s1.trans sm) hd' ⟨.inl hd',hall⟩
def zv3:Option Int->V
 |none=>.non
 |some v=>.int v
theorem zb3 {l:List Nat}{g:Nat->Option Int}{v:V}(h:zos (l.filterMap g) v):v=zv3 (jx l g):=by
 rcases h with ⟨h1,rfl⟩|⟨M,rfl,h1,h2⟩
 ·rw[Z1.mpr h1];rfl
 ·rw[zjq h1 h2];rfl
theorem zvb (l:List Nat)(g:Nat->Option Int):l.filterMap (λq=>(g q).map V.int)=(l.filterMap g).map V.int:=by
 rw[z5w]
def zhe (b:Vbmiab.Bench)(y:Nat)(l:List Nat)(g:Nat->Option Int):Option Int:=if y+1=b.ny then some 0 else jx l g
inductive ztt (C:Addr)(vs:List V)(H:Hp)(Q:VK):Prop
 |mk (a d q:Addr) (b:Vbmiab.Bench) (y:Nat) (l:List Nat) (g:Nat->Option Int):vs=[.ref a,vN y,.ref d,.ref q]->zq C H a b->(y < b.ny/\Rd H d (.dK (kvI (xl b g)))/\H q=some (.lst (l.map vN))/\(∀ p,p∈l->p∈z9 b)/\l.length<=128/\Ret H (zv3 (zhe b y l g)) Q)->ztt C vs H Q
def z05 (C:Addr):Sp:=λvs H Q _=>ztt C vs H Q
def zwn:zo ["bench","y","behind","beside","other"] ["bench","y","behind","beside"] (zj Qx):=by walk_at "sc"
theorem zaz (T:qf K mg CB CR CC):xo P w K mg base "most_behind" 1 ["bench","y","behind","beside"] (z05 CB):=by
 refine T.f_most_behind.con λf fd F=>F.ok zwn (λ_ _ _ _ h=>?_) (λ_ A _ s H vs Q E hr h=>?_)
 ·obtain⟨a,d,q,b,y,l,g,rfl,_⟩:=h;rfl
 ·obtain⟨a,d,q,b,y,l,g,rfl,B,hy,hd,hq,hl,hn,k⟩:=h;refine⟨_,zc (ju (jh Zm (pv 1) (jd Zc (Jt (·.ny) T.cB.cl T.cB.ny (pv 0)) zi) (jl _)) (zg (zm zi)) (jb))
   (zg (zm (zkf rfl rfl T.b_max (ko rfl zwn.nd (jo (pv 3)) (jq (own:=[("other",4)]) rfl) (λ_ _ _ _ _=>(zt (i:=4) zwn.nd rfl (Or.inl rfl))) (λ_ _ _ _ _=>(vh (Jo (Gr (xf hr) (pv 4) (pv 2))))) (λ_ _ _ _ _=>(X9 (xf hr) (pv 2) (pv 4) (λ_ _=>rfl))))))),?_⟩
  walk_at "rd"
  refine jr (λe=>?_) (λe=>?_)
  ·have e1:y+1=b.ny:=by
    have e:=V.int.inj (z30 e)
    try dsimp only at e
    omega
   have:=k H (zh.refl _);unfold zhe at this;rw[z3m e1]at this;exact this
  ·have e1:¬y+1=b.ny:=λz=>e (z3u (by show V.int (y:Int)=V.int ((b.ny:Int) - 1);congr 1;omega));refine⟨_,rfl,q,rfl,⟨_,zx.of hq⟩,λD hD=>?_⟩;refine Wy (λp=>(g p).map V.int) hD (z36 (zp (by omega))) (zx.of hq) (λi p H' Nt Nf hp sm hN hF=>?_) (λH1 s1 h1=>?_)
   ·have pm:=hl p (z3r hp);have hg:Qe H' d (vN p) ((g p).map V.int):=.inl ⟨_,.inl (p:Int),Yj hd sm,rfl,by rw[zaj,z3m pm]⟩;refine⟨rfl,?_⟩;refine⟨_,rfl,_,rfl,d,_,rfl,hg,_,rfl,?_⟩;refine jr (λe=>?_) (λe=>?_)
    ·cases eg:g p with
     |none=>
      rw[eg]at e;cases e
     |some v=>
      rw[eg]at hg;exact⟨_,rfl,_,rfl,d,_,rfl,hg,hN _ _ (zh.refl _) (by rw[eg];rfl)⟩
    ·refine hF _ (zh.refl _) ?_;cases eg:g p with
     |none=>rfl
     |some v=>
      rw[eg]at e;exact absurd rfl e
   ·rw[zvb]at h1;refine⟨D,_,rfl,zx.of h1,λv hv=>?_⟩;rw[zb3 hv];have:=k H1 s1;unfold zhe at this;rw[z3k e1]at this;exact this
def Kd (b:Vbmiab.Bench)(y:Nat)(g:Nat->Option Int)(p:Nat):Option Int:=if Vbmiab.keeps b y p=false then none else (zhe b y (Jc b p) g).map λv=>Vbmiab.rowWorth b y p+v
theorem zcb {b:Vbmiab.Bench}{y:Nat}(h:y+1=b.ny)(g:Nat->Option Int):Kd b y g=G b 0 y:=by
 funext p;unfold Kd zhe;rw[z3m h];show _=if Vbmiab.keeps b y p=false then none else some (Vbmiab.rowWorth b y p)
 split
 ·rfl
 ·show some (Vbmiab.rowWorth b y p+0)=_;rw[Int.add_zero]
theorem zmg {b:Vbmiab.Bench}{y f:Nat}(h:¬y+1=b.ny):Kd b y (G b f (y+1))=G b (f+1) y:=by
 funext p;unfold Kd zhe;rw[z3k h];rfl
theorem zlm (b:Vbmiab.Bench)(g:Nat->Option Int)(l:List Nat):(l.filterMap λq=>(g q).map λv=>((Sum.inl (q:Int):j2),V.int v)).length<=l.length:=z5u _ _
inductive zt3 (C:Addr)(vs:List V)(H:Hp)(Q:VK):Prop
 |mk (a bh d:Addr) (b:Vbmiab.Bench) (y:Nat) (g:Nat->Option Int) (ad:Nat->Addr):vs=[.ref a,vN y,.ref bh,.ref d]->zq C H a b->(y < b.ny/\H bh=some (.dK (kvI (xl b g)))/\bh≠d/\H d=some (.dK (Zk b ad (z9 b)))/\zha b H d ad/\∀(H':Hp) (t:Addr),zh H H'->H t=none->H' t=some (.dK (kvI (xl b (Kd b y g))))->Q (.ref t) H')->zt3 C vs H Q
def z1f (C:Addr):Sp:=λvs H Q _=>zt3 C vs H Q
def zsd:zo ["bench","y","behind","beside","table","pattern","most"] ["bench","y","behind","beside"] (zj Wh):=by walk_at "sc"
theorem zfc (T:qf K mg CB CR CC):xo P w K mg base "row_table" 3 ["bench","y","behind","beside"] (z1f CB):=by
 refine T.f_row_table.con λf fd F=>F.ok zsd (λ_ _ _ _ h=>?_) (λ_ A _ s H vs Q E hr h=>?_)
 ·obtain⟨a,bh,d,b,y,g,ad,rfl,_⟩:=h;rfl
 ·obtain⟨a,bh,d,b,y,g,ad,rfl,B,hy,hbh,nbd,hd,N,k⟩:=h;have gd:=B.good;have pl:=Z5 b gd;refine⟨_,zc (zn (i:=4) zsd.nd rfl (Or.inl rfl) Yc)
   (zc (Ka (jt z3v rfl (Y8 (pv 3)) (zt (i:=5) zsd.nd rfl (Or.inl rfl))
    (zc (ju (qk (j4 (Qi (pv 0) T.cB.cl (zhj T) hr.m0 (za (pv 1) (za (pv 5) zd))))) (zg V8) (jb))
    (zc (zn (i:=6) zsd.nd rfl (Or.inl rfl) (je (zaz T) hr.m0 (za (pv 0) (za (pv 1) (za (pv 2) (za (X9 (xf hr) (pv 3) (pv 5) (λ_ _=>rfl)) zd))))))
    (zg (ju (jh zro (pv 6) Zv (jl _)) (zg (Zn (xf hr) (pv 4) (pv 5) (jd yj (Qi (pv 0) T.cB.cl (znk T) hr.m0 (za (pv 1) (za (pv 5) zd))) (pv 6)) rfl)) (jb)))))))
   (zg (zm (pv 4)))),?_⟩
  intro t ht;have s0:zh H (upd H t (.dK [])):=zh.upd ht;have t0:(upd H t (.dK [])) t=some (.dK []):=zb;have bt:bh≠t:=zf hbh ht;have td:t≠d:=λz=>by rw[z,hd]at ht;cases ht
  have B0:=B.same s0;have d0:=s0 _ _ hd;have bh0:=s0 _ _ hbh;have N0:=N.same s0;generalize (upd H t (.dK []))=H0 at s0 t0 B0 d0 bh0 N0 ⊢;refine⟨d,_,d0,trivial,λod=>?_⟩;have B1:zq CB (upd H0 d (.frz od (.dK (Zk b ad (z9 b))))) a b:=B0.lock d0;have d1:(upd H0 d (.frz od (.dK (Zk b ad (z9 b))))) d=some (.frz od (.dK (Zk b ad (z9 b)))):=zb;have bh1:(upd H0 d (.frz od (.dK (Zk b ad (z9 b))))) bh=some (.dK (kvI (xl b g))):=by rw[ze nbd];exact bh0
  have l1:∀ p,p∈z9 b->(upd H0 d (.frz od (.dK (Zk b ad (z9 b))))) (ad p)=some (.lst ((Jc b p).map vN)):=λp hp=>ve d0 (N0.lists p hp) (by intro z;cases z);have t1:(upd H0 d (.frz od (.dK (Zk b ad (z9 b))))) t=some (.dK []):=by rw[ze td];exact t0
  have un:∀ H',zh (upd H0 d (.frz od (.dK (Zk b ad (z9 b))))) H'->zh H0 (upd H' d (.dK (Zk b ad (z9 b)))):=λH' s=>zgz d0 s;have back:∀ H',(∀ c o,c≠t->(upd H0 d (.frz od (.dK (Zk b ad (z9 b))))) c=some o->H' c=some o)->zh H (upd H' d (.dK (Zk b ad (z9 b)))):=λH' s c o e=>by
   have ct:c≠t:=zf e ht;by_cases q:c=d
   ·subst q;rw[hd]at e;cases e;exact zb
   ·rw[ze q];exact s c o ct (by rw[ze q];exact s0 _ _ e)
  generalize (upd H0 d (.frz od (.dK (Zk b ad (z9 b)))))=HL at B1 d1 bh1 l1 t1 back ⊢;refine⟨_,rfl,d,od,rfl,.inl ⟨_,d1,?_⟩⟩;refine vm (n:=(z9 b).length) (λi σ H'=>∃ v5 v6,σ=[some (.ref a),some (vN y),some (.ref bh),some (.ref d),some (.ref t),v5,v6]/\(∀ c o,c≠t->HL c=some o->H' c=some o)/\H' t=some (.dK (((z9 b).take i).filterMap λq=>(Kd b y g q).map λv=>((Sum.inl (q:Int):j2),V.int v)))) ⟨_,_,rfl,λc o _ e=>e,t1⟩ ?_ ?_ ?_
  ·rintro i σ H' hi ⟨v5,v6,rfl,sm,ht'⟩;refine⟨sm _ _ td.symm d1,?_⟩;show i < (Zk b ad (z9 b)).length;unfold Zk;rw[z25];exact hi
  ·rintro i σ H' x H2 D' hi ⟨v5,v6,rfl,sm,ht'⟩ ⟨rfl,kk,v,hkv,rfl⟩ ea;have hp:(z9 b)[i]? =some (z9 b)[i]:=z28 hi;generalize (z9 b)[i]=p at hp;have e0:(Zk b ad (z9 b))[i]? =some ((Sum.inl (p:Int):j2),V.ref (ad p)):=by
    unfold Zk;rw[z27,hp];rfl
   rw[e0]at hkv;cases hkv;have pm:p∈z9 b:=z3r hp;have B2:zq CB H2 a b:=by
    obtain⟨dx,lw,lk,lm,lt,Bt⟩:=B1;have nt:∀{c:Addr}{o:HO},HL c=some o->o≠.dK []->c≠t:=λh n z=>n (z3p (h.symm.trans (by rw[z];exact t1)));exact⟨dx,lw,lk,lm,lt,sm _ _ (nt Bt.ins (by intro z;cases z)) Bt.ins,sm _ _ (nt Bt.w (by intro z;cases z)) Bt.w,sm _ _ (nt Bt.k (by intro z;cases z)) Bt.k,sm _ _ (nt Bt.m (by intro z;cases z)) Bt.m,sm _ _ (nt Bt.t (by intro z;cases z)) Bt.t,Bt.km,Bt.kt,Bt.mt,Bt.wk,Bt.wm,Bt.wt,Bt.good⟩
   have lp:H2 (ad p)=some (.lst ((Jc b p).map vN)):=sm _ _ (λz=>by have:=l1 p pm;rw[z,t1]at this;cases this) (l1 p pm);have fin:∀ H3,(∀ c o,H2 c=some o->H3 c=some o)->∀ σ5 σ6,(Kd b y g p=none)->D'.nx [some (.ref a),some (vN y),some (.ref bh),some (.ref d),some (.ref t),σ5,σ6] H3/\D'.ct [some (.ref a),some (vN y),some (.ref bh),some (.ref d),some (.ref t),σ5,σ6] H3:=λH3 s3 σ5 σ6 e=>by
    have z:∃ v5 v6,[some (V.ref a),some (vN y),some (.ref bh),some (.ref d),some (.ref t),σ5,σ6]=[some (.ref a),some (vN y),some (.ref bh),some (.ref d),some (.ref t),v5,v6]/\(∀ c o,c≠t->HL c=some o->H3 c=some o)/\H3 t=some (.dK (((z9 b).take (i+1)).filterMap λq=>(Kd b y g q).map λv=>((Sum.inl (q:Int):j2),V.int v))):=by
     refine⟨_,_,rfl,λc o n q=>s3 _ _ (sm c o n q),?_⟩;rw[s3 _ _ ht',jw hp,z43,z4m,e];show _=some (HO.dK (_++[]));rw[z31]
    exact⟨ea.nx _ _ z,ea.ct _ _ z⟩
   walk_at "rd"
   refine⟨hy,λH3 s3=>?_⟩
   walk_at "rd"
   refine jr (λe=>?_) (λe=>?_)
   ·
    have ek:Vbmiab.keeps b y p=false:=by simpa using e
    exact (fin H3 s3 _ _ (by unfold Kd;rw[z3m ek])).2
   ·have ek:Vbmiab.keeps b y p=true:=by simpa using e
    have nk:¬Vbmiab.keeps b y p=false:=by rw[ek];exact Bool.noConfusion
    have bh3:=s3 _ _ (sm _ _ bt bh1);have d3:=s3 _ _ (sm _ _ td.symm d1);have B3:=B2.same s3;refine⟨_,rfl,_,rfl,_,rfl,_,rfl,_,rfl,d,.ref (ad p),rfl,.inl ⟨_,.inl (p:Int),.inr ⟨od,d3⟩,rfl,by rw[K3,z3m pm]⟩,?_⟩;refine⟨a,bh,ad p,b,y,Jc b p,g,rfl,B3,hy,.inl bh3,s3 _ _ lp,λq hq=>zdq hq,zdp b gd p,λH4 s4=>?_⟩;have B4:=B3.same s4;cases eb:zhe b y (Jc b p) g with
    |none=>
     walk_at "rd"
     refine jr (λe=>?_) (λe=>?_)
     ·exact absurd e (by decide)
     ·exact (fin H4 (λc o q=>s4 _ _ (s3 _ _ q)) _ _ (by unfold Kd;rw[z3k nk,eb];rfl)).1
    |some v=>
     walk_at "rd"
     refine⟨hy,?_⟩
     walk_at "rd"
     have np:¬p∈(z9 b).take i:=λz=>by
      obtain⟨j,hj,e⟩:=z5q z;rw[z35]at hj;rw[z7n]at e;have:=zf0 (Jk b) (z3b.mpr ⟨by omega,e⟩) hp;omega
     have t4:=s4 _ _ (s3 _ _ ht');refine⟨t,_,rfl,Xn.k (k:=Sum.inl (p:Int)) t4 (z5v (zlm b _ _) (zp (by rw[z35];omega))),?_⟩;rw[Yi _ (by rw[K2 (Kd b y g) V.int p _ (List.Sublist.nodup (z9p _ _) (Jk b)),z3k np])];refine ea.nx _ _ ⟨_,_,rfl,λc o n q=>?_,?_⟩
     ·rw[ze n];exact s4 _ _ (s3 _ _ (sm c o n q))
     ·rw[zb,jw hp,z43,z4m];have er:Kd b y g p=some (Vbmiab.rowWorth b y p+v):=by
       unfold Kd;rw[z3k nk,eb];rfl
      rw[er];rfl
  ·rintro σ H' ⟨v5,v6,rfl,sm,ht'⟩;refine⟨⟨sm _ _ td.symm d1,?_⟩,sm _ _ td.symm d1,?_⟩
   ·show (Zk b ad (z9 b)).length<=_;unfold Zk;rw[z25];exact z3c _
   ·refine⟨_,rfl,?_⟩;rw[z4s,<-zh4]at ht';exact k _ t (back H' sm) ht (by rw[ze td];exact ht')
theorem zll (b:Vbmiab.Bench):kvI (xl b λ_=>none)=[]:=by
 have e:xl b (λ_=>none)=[]:=jaa.mpr λ_ _=>rfl;rw[e];rfl
def zbm (b:Vbmiab.Bench)(H:Hp)(t:Addr)(g:Nat->Option Int):Prop:=H t=some (.dK (kvI (xl b g)))
def zne (b:Vbmiab.Bench)(H:Hp)(first:Nat)(ts:List Addr):Prop:=∀ j t,ts[j]? =some t->zbm b H t (G b (b.ny - 1 - (first+j)) (first+j))
inductive zua (C:Addr)(vs:List V)(H:Hp)(Q:VK):Prop
 |mk (a d:Addr) (b:Vbmiab.Bench) (first:Nat) (ad:Nat->Addr):vs=[.ref a,vN first,.ref d]->zq C H a b->(first < b.ny/\H d=some (.dK (Zk b ad (z9 b)))/\zha b H d ad/\∀(H':Hp) (l:Addr) (ts:List Addr),zh H H'->H' l=some (.lst (ts.map V.ref))->ts.length=b.ny - first->zne b H' first ts->(∀ t,t∈ts->H t=none)->Q (.ref l) H')->zua C vs H Q
def z1m (C:Addr):Sp:=λvs H Q _=>zua C vs H Q
def zpy:zo ["bench","first","beside","tables","table","y"] ["bench","first","beside"] (zj Q1):=by walk_at "sc"
theorem Qk (T:qf K mg CB CR CC):xo P w K mg base "tables_from" 4 ["bench","first","beside"] (z1m CB):=by
 refine T.f_tables_from.con λf fd F=>F.ok zpy (λ_ _ _ _ h=>?_) (λ_ A _ s H vs Q E hr h=>?_)
 ·obtain⟨a,d,b,first,ad,rfl,_⟩:=h;rfl
 ·obtain⟨a,d,b,first,ad,rfl,B,hf,hd,N,k⟩:=h;have gd:=B.good;have g8:=gd.ny8;refine⟨_,zc (zn (i:=3) zpy.nd rfl (Or.inl rfl) (zy zd))
   (zc (zn (i:=4) zpy.nd rfl (Or.inl rfl) Yc)
   (zc (jt z3v rfl (zb6 rfl T.range (za (jd Zc (Jt (·.ny) T.cB.cl T.cB.ny (pv 0)) zi) (za (jd Zc (pv 1) zi) (za (zkg zei zi) zd)))) (zt (i:=5) zpy.nd rfl (Or.inl rfl))
    (zc (zn (i:=4) zpy.nd rfl (Or.inl rfl) (je (zfc T) hr.m0 (za (pv 0) (za (pv 5) (za (pv 4) (za (pv 2) zd))))))
    (zg (yb (xp z3y jaf PySem.F.type_list_insert zl0 (pv 3) (za zi (za (pv 4) zd)))))))
   (zg (zm (pv 3))))),?_⟩
  refine⟨z4c _,λl hl=>?_⟩;intro t0 ht0;have s1:zh H (upd (upd H l (.lst [])) t0 (.dK [])):=(zh.upd hl).trans (zh.upd ht0);have l1:(upd (upd H l (.lst [])) t0 (.dK [])) l=some (.lst []):=(zh.upd ht0) _ _ zb;have t1:(upd (upd H l (.lst [])) t0 (.dK [])) t0=some (.dK []):=zb;have t0d:t0≠d:=λz=>by
   have:=(zh.upd (o:=.lst []) hl) _ _ hd;rw[<-z,ht0]at this;cases this
  have B1:=B.same s1;generalize (upd (upd H l (.lst [])) t0 (.dK []))=H1 at s1 l1 t1 B1 ⊢
  walk_at "rd"
  have en:(((b.ny:Int) - 1) - ((first:Int) - 1)).toNat=b.ny - first:=by omega
  refine⟨_,_,_,b.ny - first,rfl,(by rw[<-en];exact RgC.neg (by show _<=((b.ny:Int) - 1);omega) (by show ((b.ny:Int) - 1) < _;omega) (by omega) (by omega)),?_⟩;refine vm (n:=b.ny - first) (λi σ H'=>∃ v5 cur g ts,σ=[some (.ref a),some (vN first),some (.ref d),some (.ref l),some (.ref cur),v5]/\zh H H'/\H' l=some (.lst (ts.map V.ref))/\ts.length=i/\zbm b H' cur g/\cur≠d/\(i=0\/g=G b (i - 1) (b.ny - i))/\zne b H' (b.ny - i) ts/\∀ t,t∈ts->H t=none) ⟨_,t0,λ_=>none,[],rfl,s1,l1,rfl,(by unfold zbm;rw[zll];exact t1),t0d,.inl rfl,(λj t h=>by simp at h),λt h=>nomatch h⟩ ?_ ?_ ?_
  ·exact λi σ H' hi _=>hi
  ·rintro i σ H' x H2 D' hi ⟨v5,cur,g,ts,rfl,sm,hl',htl,ht,ncd,hg,hts,hnf⟩ ⟨rfl,hx⟩ ea;obtain rfl:x=vN (b.ny - 1 - i):=hx.trans (by
    show V.int (((b.ny:Int) - 1)+(i:Int)*(-1))=V.int ((b.ny - 1 - i:Nat):Int);congr 1;omega)
   walk_at "rd"
   refine⟨a,cur,d,b,b.ny - 1 - i,g,ad,rfl,B.same sm,by omega,ht,ncd,sm _ _ hd,N.same sm,λH3 t s3 nt h3=>?_⟩;have eg:Kd b (b.ny - 1 - i) g=G b i (b.ny - 1 - i):=by
    rcases hg with rfl|rfl
    ·exact zcb (by omega) g
    ·cases i with
     |zero=>
      exact zcb (by omega) _
     |succ i=>
      rw[show b.ny - (i+1)=(b.ny - 1 - (i+1))+1 by omega];exact zmg (by omega)
   rw[eg]at h3;have l3:=s3 _ _ hl';refine⟨_,rfl,.inl ⟨rfl,_,zx.of l3⟩,_,rfl,l,_,.ref t,rfl,rfl,l3,?_,?_⟩
   ·rw[z25];exact zp (by omega)
   ·have td:t≠d:=λz=>by
     have:=sm _ _ hd;rw[<-z,nt]at this;cases this
    refine ea.nx _ _ ⟨_,t,G b i (b.ny - 1 - i),t::ts,rfl,λc o e=>?_,zb,by rw[z3l,htl],?_,td,.inr ?_,λj t' hj=>?_,λt' h=>?_⟩
    ·rw[ze (zf e hl)];exact s3 _ _ (sm _ _ e)
    ·unfold zbm;rw[ze (ja h3 l3 (by intro z;cases z))];exact h3
    ·rw[show i+1 - 1=i by omega,show b.ny - (i+1)=b.ny - 1 - i by omega]
    ·unfold zbm;cases j with
     |zero=>
      obtain rfl:t=t':=z3p hj;rw[ze (ja h3 l3 (by intro z;cases z)),h3,show b.ny - 1 - (b.ny - (i+1)+0)=i by omega,show b.ny - (i+1)+0=b.ny - 1 - i by omega]
     |succ j=>
      have h4:=hts j t' (by simpa using hj);have hj':=(z3b.mp (show ts[j]? =some t' by simpa using hj)).1;have h5:=s3 _ _ h4;rw[ze (ja h5 l3 (by intro z;cases z)),h5,show b.ny - i+j=b.ny - (i+1)+(j+1) by omega]
    ·rcases z3t.mp h with h|h
     ·cases e:H t' with
      |none=>rfl
      |some o=>rw[h]at e;rw[sm _ _ e]at nt;cases nt
     ·exact hnf t' h
  ·rintro σ H' ⟨v5,cur,g,ts,rfl,sm,hl',htl,ht,ncd,hg,hts,hnf⟩;refine⟨z3c _,_,rfl,?_⟩;rw[show b.ny - (b.ny - first)=first by omega]at hts;exact k _ l ts sm hl' htl hts hnf
inductive zub (C:Addr)(vs:List V)(H:Hp)(Q:VK):Prop
 |mk (a:Addr) (b:Vbmiab.Bench) (y:Nat):vs=[.ref a,vN y]->zq C H a b->(y < b.ny/\∀(H':Hp) (t:Addr),zh H H'->H t=none->zbm b H' t (G b (b.ny - 1 - y) y)->Q (.ref t) H')->zub C vs H Q
def z1n (C:Addr):Sp:=λvs H Q _=>zub C vs H Q
def z0n:zo ["bench","y"] ["bench","y"] (zj G4):=by walk_at "sc"
theorem Us (T:qf K mg CB CR CC):xo P w K mg base "table_of" 7 ["bench","y"] (z1n CB):=by
 refine T.f_table_of.con λf fd F=>F.ok z0n (λ_ _ _ _ h=>?_) (λ_ A _ s H vs Q E hr h=>?_)
 ·obtain⟨a,b,y,rfl,_⟩:=h;rfl
 ·obtain⟨a,b,y,rfl,B,hy,k⟩:=h;refine⟨_,zg (zm (zu zw (je (Qk T) hr.m0 (za (pv 0) (za (pv 1) (za (je (Jg T) hr.m0 (za (zb9 (W2 T) T.m_Rules hr.m0 (za (pv 0) zd)) zd)) zd)))) zi (λ_ _=>rfl))),?_⟩
  walk_at "rd"
  intro x dx nx nd nxd;refine⟨x,a,dx,b,rfl,zb,B.same (λc o e=>by rw[ze (zf e nx),ze (zf e nd)];exact e),λH1 R k1=>⟨rfl,?_⟩⟩;have s1:zh H H1:=zh.made nx nd k1;refine⟨x,b,rfl,R,λH2 d ad s2 hd N=>?_⟩;refine⟨a,d,b,y,ad,rfl,(B.same s1).same s2,hy,hd,N,λH3 l ts s3 hl htl hts hnf=>?_⟩;obtain⟨t,ht⟩:∃ t,ts[0]? =some t:=⟨ts[0],z28 (by omega)⟩;refine⟨l,_,_,_,rfl,rfl,zx.of hl,zk (j:=0) (by rw[z27,ht];rfl),?_⟩;refine k _ t ((s1.trans s2).trans s3) ?_ (hts 0 t ht);have n2:=hnf t (z3r ht);cases e:H t with
  |none=>rfl
  |some o=>rw[s2 _ _ (s1 _ _ e)]at n2;cases n2
theorem zcm (b:Vbmiab.Bench)(g:Nat->Option Int):(kvI (xl b g)).map (·.2)=((z9 b).filterMap g).map V.int:=by
 rw[zh4,z5w,z5w];congr 1;funext p;cases g p<;>rfl
inductive ztu (C:Addr)(vs:List V)(H:Hp)(Q:VK):Prop
 |mk (a:Addr) (b:Vbmiab.Bench):vs=[.ref a]->zq C H a b->Ret H (zv3 (Vbmiab.best b)) Q->ztu C vs H Q
def z06 (C:Addr):Sp:=λvs H Q _=>ztu C vs H Q
def z0l:zo ["bench"] ["bench"] (zj Kj):=by walk_at "sc"
theorem zc1 (T:qf K mg CB CR CC):xo P w K mg base "most_worth" 8 ["bench"] (z06 CB):=by
 refine T.f_most_worth.con λf fd F=>F.ok z0l (λ_ _ _ _ h=>?_) (λ_ A _ s H vs Q E hr h=>?_)
 ·obtain⟨a,b,rfl,_⟩:=h;rfl
 ·obtain⟨a,b,rfl,B,k⟩:=h;have g1:=B.good.ny0;refine⟨_,zg (zm (zkf rfl rfl T.b_max (zo4 rfl rfl T.list (je (Us T) hr.m0 (za (pv 0) (za zi zd)))))),?_⟩
  walk_at "rd"
  refine⟨a,b,0,rfl,B,by omega,λH1 t s1 _ ht=>?_⟩;refine⟨t,_,rfl,.inl ht,λl hl=>?_⟩;refine⟨l,(z9 b).filterMap (G b (b.ny - 1 - 0) 0),rfl,zx.of ?_,λv hv=>?_⟩
  ·rw[zb,zcm]
  ·rw[zb3 hv,z7q,<-zjp b g1];exact k _ (s1.trans (zh.upd hl))
def Jb (b:Vbmiab.Bench)(y p:Nat):Option Nat:=if Vbmiab.keeps b y p=false then none else some (Fv b y p)
def wkL (l:List Nat)(g:Nat->Option Nat):List (j2×V):=l.filterMap λq=>(g q).map λv=>((Sum.inl (q:Int):j2),vN v)
theorem zxi {b:Vbmiab.Bench}{y p:Nat}(h:Vbmiab.keeps b y p=false):Fv b y p=0:=by
 cases y with
 |zero=>
  show (if Vbmiab.keeps b 0 p=false then 0 else 1)=0;rw[z3m h]
 |succ y=>
  show (if Vbmiab.keeps b (y+1) p=false then 0 else S (Jc b p) (Fv b y))=0;rw[z3m h]
theorem zaf (b:Vbmiab.Bench)(y:Nat):∀(l:List Nat),(l.filterMap λq=>(Jb b y q).map λn=>((n:Nat):Int)).sum=((S l (Fv b y):Nat):Int)
 |[]=>rfl
 |a::l=>by
  have ih:=zaf b y l;rw[vt];by_cases h:Vbmiab.keeps b y a=false
  ·have e:Jb b y a=none:=z3m h;rw[z5b (by rw[e];rfl),ih,zxi h,z6x]
  ·have e:Jb b y a=some (Fv b y a):=z3k h;rw[z5a (by rw[e];rfl),z6b,ih,z5h]
theorem zxc (l:List Nat)(g:Nat->Option Nat):(wkL l g).length<=l.length:=z5u _ _
theorem zx2 (l:List Nat)(g:Nat->Option Nat):l.filterMap (λq=>(g q).map vN)=(l.filterMap λq=>(g q).map λn=>((n:Nat):Int)).map V.int:=by
 rw[z5w];congr 1;funext q;cases g q<;>rfl
inductive zt4 (C:Addr)(vs:List V)(H:Hp)(Q:VK):Prop
 |mk (a bh d:Addr) (b:Vbmiab.Bench) (y:Nat) (ad:Nat->Addr):vs=[.ref a,vN y,.ref bh,.ref d]->zq C H a b->(y < b.ny/\(y=0\/H bh=some (.dK (wkL (z9 b) (Jb b (y - 1)))))/\(∃ o,H bh=some o)/\bh≠d/\H d=some (.dK (Zk b ad (z9 b)))/\zha b H d ad/\∀(H':Hp) (t:Addr),zh H H'->H t=none->H' t=some (.dK (wkL (z9 b) (Jb b y)))->Q (.ref t) H')->zt4 C vs H Q
def z1g (C:Addr):Sp:=λvs H Q _=>zt4 C vs H Q
def zgm:zo ["bench","y","before","beside","ways","pattern","other"] ["bench","y","before","beside"] (zj G2):=by walk_at "sc"
theorem zhh (T:qf K mg CB CR CC):xo P w K mg base "row_ways" 3 ["bench","y","before","beside"] (z1g CB):=by
 refine T.f_row_ways.con λf fd F=>F.ok zgm (λ_ _ _ _ h=>?_) (λ_ A _ s H vs Q E hr h=>?_)
 ·obtain⟨a,bh,d,b,y,ad,rfl,_⟩:=h;rfl
 ·obtain⟨a,bh,d,b,y,ad,rfl,B,hy,hbh,⟨ob,hob⟩,nbd,hd,N,k⟩:=h;have gd:=B.good;have pl:=Z5 b gd;refine⟨_,zc (zn (i:=4) zgm.nd rfl (Or.inl rfl) Yc)
   (zc (Ka (jt z3v rfl (Y8 (pv 3)) (zt (i:=5) zgm.nd rfl (Or.inl rfl))
    (zc (ju (qk (j4 (Qi (pv 0) T.cB.cl (zhj T) hr.m0 (za (pv 1) (za (pv 5) zd))))) (zg V8) (jb))
    (zg (ju (jh Zm (pv 1) zi (jl _)) (zg (Zn (xf hr) (pv 4) (pv 5) zi rfl)) (zg (Zn (xf hr) (pv 4) (pv 5) (ji (Ux rfl) rfl T.b_sum (by decide+kernel) (za (ko rfl zgm.nd (jo (X9 (xf hr) (pv 3) (pv 5) (λ_ _=>rfl))) (jq (own:=[("other",6)]) rfl) (λ_ _ _ _ _=>(zt (i:=6) zgm.nd rfl (Or.inl rfl))) (λ_ _ _ _ _=>(vh (Jo (Gr (xf hr) (pv 6) (pv 2))))) (λ_ _ _ _ _=>(X9 (xf hr) (pv 2) (pv 6) (λ_ _=>rfl)))) zd)) rfl)))))))
   (zg (zm (pv 4)))),?_⟩
  intro t ht;have s0:zh H (upd H t (.dK [])):=zh.upd ht;have t0:(upd H t (.dK [])) t=some (.dK []):=zb;have bt:bh≠t:=zf hob ht;have td:t≠d:=λz=>by rw[z,hd]at ht;cases ht
  have B0:=B.same s0;have d0:=s0 _ _ hd;have bh0:y=0\/(upd H t (.dK [])) bh=some (.dK (wkL (z9 b) (Jb b (y - 1)))):=hbh.imp id λh=>s0 _ _ h;have N0:=N.same s0;generalize (upd H t (.dK []))=H0 at s0 t0 B0 d0 bh0 N0 ⊢;refine⟨d,_,d0,trivial,λod=>?_⟩;have B1:zq CB (upd H0 d (.frz od (.dK (Zk b ad (z9 b))))) a b:=B0.lock d0;have d1:(upd H0 d (.frz od (.dK (Zk b ad (z9 b))))) d=some (.frz od (.dK (Zk b ad (z9 b)))):=zb;have bh1:y=0\/(upd H0 d (.frz od (.dK (Zk b ad (z9 b))))) bh=some (.dK (wkL (z9 b) (Jb b (y - 1)))):=bh0.imp id λh=>by rw[ze nbd];exact h
  have l1:∀ p,p∈z9 b->(upd H0 d (.frz od (.dK (Zk b ad (z9 b))))) (ad p)=some (.lst ((Jc b p).map vN)):=λp hp=>ve d0 (N0.lists p hp) (by intro z;cases z);have t1:(upd H0 d (.frz od (.dK (Zk b ad (z9 b))))) t=some (.dK []):=by rw[ze td];exact t0
  have back:∀ H',(∀ c o,c≠t->(upd H0 d (.frz od (.dK (Zk b ad (z9 b))))) c=some o->H' c=some o)->zh H (upd H' d (.dK (Zk b ad (z9 b)))):=λH' s c o e=>by
   have ct:c≠t:=zf e ht;by_cases q:c=d
   ·subst q;rw[hd]at e;cases e;exact zb
   ·rw[ze q];exact s c o ct (by rw[ze q];exact s0 _ _ e)
  generalize (upd H0 d (.frz od (.dK (Zk b ad (z9 b)))))=HL at B1 d1 bh1 l1 t1 back ⊢;refine⟨_,rfl,d,od,rfl,.inl ⟨_,d1,?_⟩⟩;refine vm (n:=(z9 b).length) (λi σ H'=>∃ v5 v6,σ=[some (.ref a),some (vN y),some (.ref bh),some (.ref d),some (.ref t),v5,v6]/\(∀ c o,c≠t->HL c=some o->H' c=some o)/\H' t=some (.dK (wkL ((z9 b).take i) (Jb b y)))) ⟨_,_,rfl,λc o _ e=>e,t1⟩ ?_ ?_ ?_
  ·rintro i σ H' hi ⟨v5,v6,rfl,sm,ht'⟩;refine⟨sm _ _ td.symm d1,?_⟩;show i < (Zk b ad (z9 b)).length;unfold Zk;rw[z25];exact hi
  ·rintro i σ H' x H2 D' hi ⟨v5,v6,rfl,sm,ht'⟩ ⟨rfl,kk,v,hkv,rfl⟩ ea;have hp:(z9 b)[i]? =some (z9 b)[i]:=z28 hi;generalize (z9 b)[i]=p at hp;have e0:(Zk b ad (z9 b))[i]? =some ((Sum.inl (p:Int):j2),V.ref (ad p)):=by
    unfold Zk;rw[z27,hp];rfl
   rw[e0]at hkv;cases hkv;have pm:p∈z9 b:=z3r hp;have B2:zq CB H2 a b:=by
    obtain⟨dx,lw,lk,lm,lt,Bt⟩:=B1;have nt:∀{c:Addr}{o:HO},HL c=some o->o≠.dK []->c≠t:=λh n z=>n (z3p (h.symm.trans (by rw[z];exact t1)));exact⟨dx,lw,lk,lm,lt,sm _ _ (nt Bt.ins (by intro z;cases z)) Bt.ins,sm _ _ (nt Bt.w (by intro z;cases z)) Bt.w,sm _ _ (nt Bt.k (by intro z;cases z)) Bt.k,sm _ _ (nt Bt.m (by intro z;cases z)) Bt.m,sm _ _ (nt Bt.t (by intro z;cases z)) Bt.t,Bt.km,Bt.kt,Bt.mt,Bt.wk,Bt.wm,Bt.wt,Bt.good⟩
   have lp:H2 (ad p)=some (.lst ((Jc b p).map vN)):=sm _ _ (λz=>by have:=l1 p pm;rw[z,t1]at this;cases this) (l1 p pm);have np:¬p∈(z9 b).take i:=λz=>by
    obtain⟨j,hj,e⟩:=z5q z;rw[z35]at hj;rw[z7n]at e;have:=zf0 (Jk b) (z3b.mpr ⟨by omega,e⟩) hp;omega
   have put:∀ H4,zh H2 H4->Jb b y p=some (Fv b y p)->∀ σ6,∃ H5,Xn H4 t (kV (Sum.inl (p:Int))) (vN (Fv b y p)) H5/\D'.nx [some (.ref a),some (vN y),some (.ref bh),some (.ref d),some (.ref t),some (kV (Sum.inl (p:Int))),σ6] H5:=λH4 s4 ew σ6=>by
    have t4:=s4 _ _ ht';refine⟨_,Xn.k (k:=Sum.inl (p:Int)) t4 (z5v (zxc _ _) (zp (by rw[z35];omega))),?_⟩;unfold wkL;rw[Yi _ (by rw[K2 (Jb b y) vN p _ (List.Sublist.nodup (z9p _ _) (Jk b)),z3k np])];refine ea.nx _ _ ⟨_,_,rfl,λc o n q=>?_,?_⟩
    ·rw[ze n];exact s4 _ _ (sm c o n q)
    ·unfold wkL;rw[zb,jw hp,z43,z4m,ew];rfl
   walk_at "rd"
   refine⟨hy,λH3 s3=>?_⟩
   walk_at "rd"
   refine jr (λe=>?_) (λe=>?_)
   ·have ek:Vbmiab.keeps b y p=false:=by simpa using e
    refine ea.ct _ _ ⟨_,_,rfl,λc o n q=>s3 _ _ (sm c o n q),?_⟩;rw[s3 _ _ ht',jw hp];unfold wkL;rw[z43,z4m,show Jb b y p=none from z3m ek];show _=some (HO.dK (_++[]));rw[z31]
   ·have ek:Vbmiab.keeps b y p=true:=by simpa using e
    have nk:¬Vbmiab.keeps b y p=false:=by rw[ek];exact Bool.noConfusion
    have ew:Jb b y p=some (Fv b y p):=z3k nk;cases y with
    |zero=>
     have e1:Fv b 0 p=1:=z3k nk
     walk_at "rd"
     obtain⟨H5,h5,h6⟩:=put H3 s3 ew v6;rw[e1]at h5;exact⟨t,H5,rfl,h5,h6⟩
    |succ y=>
     have e1:Fv b (y+1) p=S (Jc b p) (Fv b y):=z3k nk;have d3:=s3 _ _ (sm _ _ td.symm d1);have l3:=s3 _ _ lp;have bh3:H3 bh=some (.dK (wkL (z9 b) (Jb b y))):=s3 _ _ (sm _ _ bt (bh1.resolve_left (by omega)))
     walk_at "rd"
     refine⟨d,.ref (ad p),rfl,.inl ⟨_,.inl (p:Int),.inr ⟨od,d3⟩,rfl,by rw[K3,z3m pm]⟩,?_⟩;refine⟨ad p,rfl,⟨_,zx.of l3⟩,λD hD=>?_⟩;refine Wy (λq=>(Jb b y q).map vN) hD (z36 (zp (by have:=zdp b gd p;omega))) (zx.of l3) (λj q H4 Nt Nf hq s4 hN hF=>?_) (λH4 s4 h1=>?_)
     ·have qm:q∈z9 b:=zdq (z3r hq);have hg:Qe H4 bh (vN q) ((Jb b y q).map vN):=.inl ⟨_,.inl (q:Int),.inl (s4 _ _ bh3),rfl,by unfold wkL;rw[K2 (Jb b y) vN q _ (Jk b),z3m qm]⟩;refine⟨rfl,?_⟩;refine⟨_,rfl,_,rfl,bh,_,rfl,hg,_,rfl,?_⟩;refine jr (λe=>?_) (λe=>?_)
      ·cases eg:Jb b y q with
       |none=>
        rw[eg]at e;cases e
       |some v=>
        rw[eg]at hg;exact⟨_,rfl,_,rfl,bh,_,rfl,hg,hN _ _ (zh.refl _) (by rw[eg];rfl)⟩
      ·refine hF _ (zh.refl _) ?_;cases eg:Jb b y q with
       |none=>rfl
       |some v=>
        rw[eg]at e;exact absurd rfl e
     ·rw[zx2]at h1;refine⟨D,_,rfl,zx.of h1,?_⟩;rw[zaf,<-e1];obtain⟨H5,h5,h6⟩:=put H4 (s3.trans s4) ew v6;exact⟨_,rfl,_,rfl,t,H5,rfl,h5,h6⟩
  ·rintro σ H' ⟨v5,v6,rfl,sm,ht'⟩;refine⟨⟨sm _ _ td.symm d1,?_⟩,sm _ _ td.symm d1,?_⟩
   ·show (Zk b ad (z9 b)).length<=_;unfold Zk;rw[z25];exact z3c _
   ·refine⟨_,rfl,?_⟩;rw[z4s]at ht';exact k _ t (back H' sm) ht (by rw[ze td];exact ht')
theorem zs3 (l:List Nat)(g:Nat->Option Nat):(wkL l g).map (·.2)=(l.filterMap λq=>(g q).map λn=>((n:Nat):Int)).map V.int:=by
 unfold wkL;rw[z5w,z5w];congr 1;funext q;cases g q<;>rfl
def zba (b:Vbmiab.Bench)(l:List Nat)(y:Nat):Nat:=
 if 2 ^ b.nx<=l.getD y 0 then 1 else if Vbmiab.rowOk b (l.getD y 0)=false then 2 else if 0 < y/\Vbmiab.necksOk b (l.getD (y - 1) 0) (l.getD y 0)=false then 3
 else if Vbmiab.keeps b y (l.getD y 0)=false then 4 else 0
def Jn (l:List Nat)(i:Nat):Option Nat:=if i=0 then none else some (l.getD (i - 1) 0)
theorem zjc {b:Vbmiab.Bench}{l:List Nat}{i:Nat}(h:i < l.length):Vbmiab.wrong b (Jn l i) i (l.drop i)=if zba b l i=0 then Vbmiab.wrong b (Jn l (i+1)) (i+1) (l.drop (i+1)) else some (zba b l i,i):=by
 have e:l.drop i=l.getD i 0::l.drop (i+1):=by
  rw[z5m h,z3s,z28 h];rfl
 have ep:Jn l (i+1)=some (l.getD i 0):=by
  unfold Jn;rw[z3k (by omega),show i+1 - 1=i by omega]
 rw[e,ep];have en:((match Jn l i with
   |none=>false
   |some q=> !Vbmiab.necksOk b q (l.getD i 0))=true)↔(0 < i/\Vbmiab.necksOk b (l.getD (i - 1) 0) (l.getD i 0)=false):=by
  unfold Jn;by_cases h0:i=0
  ·rw[z3m h0];constructor
   ·intro z;cases z
   ·intro z;omega
  ·rw[z3k h0];show (!Vbmiab.necksOk b (l.getD (i - 1) 0) (l.getD i 0))=true↔_;rw[z5e];exact⟨λz=>⟨by omega,z⟩,λz=>z.2⟩
 unfold zba;show (if 2 ^ b.nx<=l.getD i 0 then some (1,i) else if Vbmiab.rowOk b (l.getD i 0)=false then some (2,i) else if ((match Jn l i with
   |none=>false
   |some q=> !Vbmiab.necksOk b q (l.getD i 0))=true) then some (3,i) else if Vbmiab.keeps b i (l.getD i 0)=false then some (4,i) else Vbmiab.wrong b (some (l.getD i 0)) (i+1) (l.drop (i+1)))=_
 by_cases h1:2 ^ b.nx<=l.getD i 0
 ·rw[z3m h1,z3m h1,z3k (by omega)]
 ·rw[z3k h1,z3k h1];by_cases h2:Vbmiab.rowOk b (l.getD i 0)=false
  ·rw[z3m h2,z3m h2,z3k (by omega)]
  ·rw[z3k h2,z3k h2];by_cases h3:0 < i/\Vbmiab.necksOk b (l.getD (i - 1) 0) (l.getD i 0)=false
   ·rw[z3m (en.mpr h3),z3m h3,z3k (by omega)]
   ·rw[z3k (λz=>h3 (en.mp z)),z3k h3];by_cases h4:Vbmiab.keeps b i (l.getD i 0)=false
    ·rw[z3m h4,z3m h4,z3k (by omega)]
    ·rw[z3k h4,z3k h4,z3m rfl]
inductive ztj (C:Addr)(vs:List V)(H:Hp)(Q:VK):Prop
 |mk (a:Addr) (b:Vbmiab.Bench):vs=[.ref a]->zq C H a b->Ret H (vN (Vbmiab.count b)) Q->ztj C vs H Q
def z0v (C:Addr):Sp:=λvs H Q _=>ztj C vs H Q
def zpu:zo ["bench","beside","ways","y"] ["bench"] (zj Qq):=by walk_at "sc"
theorem zau (T:qf K mg CB CR CC):xo P w K mg base "count_lines" 7 ["bench"] (z0v CB):=by
 refine T.f_count_lines.con λf fd F=>F.ok zpu (λ_ _ _ _ h=>?_) (λ_ A _ s H vs Q E hr h=>?_)
 ·obtain⟨a,b,rfl,_⟩:=h;rfl
 ·obtain⟨a,b,rfl,B,k⟩:=h;have gd:=B.good;have g8:=gd.ny8;have g1:=gd.ny0;refine⟨_,zc (zn (i:=1) zpu.nd rfl (Or.inl rfl) (je (Jg T) hr.m0 (za (zb9 (W2 T) T.m_Rules hr.m0 (za (pv 0) zd)) zd)))
   (zc (zn (i:=2) zpu.nd rfl (Or.inl rfl) Yc)
   (zc (jt z3v rfl (yp rfl T.range (za (Jt (·.ny) T.cB.cl T.cB.ny (pv 0)) zd)) (zt (i:=3) zpu.nd rfl (Or.inl rfl))
    (zg (zn (i:=2) zpu.nd rfl (Or.inl rfl) (je (zhh T) hr.m0 (za (pv 0) (za (pv 3) (za (pv 2) (za (pv 1) zd))))))))
   (zg (zm (zru rfl rfl T.b_sum (pv 2)))))),?_⟩
  walk_at "rd"
  intro x dx nx nd nxd;refine⟨x,a,dx,b,rfl,zb,B.same (λc o e=>by rw[ze (zf e nx),ze (zf e nd)];exact e),λH1 R k1=>⟨rfl,?_⟩⟩;have s1:zh H H1:=zh.made nx nd k1;refine⟨x,b,rfl,R,λH2 d ad s2 hd N=>?_⟩;intro t0 ht0;have t0d:t0≠d:=λz=>by rw[z,hd]at ht0;cases ht0
  have s3:zh H2 (upd H2 t0 (.dK [])):=zh.upd ht0;have t3:(upd H2 t0 (.dK [])) t0=some (.dK []):=zb;have B3:=((B.same s1).same s2).same s3;have d3:=s3 _ _ hd;have N3:=N.same s3;have s03:=(s1.trans s2).trans s3;generalize (upd H2 t0 (.dK []))=H3 at s3 t3 B3 d3 N3 s03 ⊢
  walk_at "rd"
  refine⟨by (try dsimp only);omega,by (try dsimp only);omega,?_⟩;refine J7 (λi σ H'=>∃ v3 cur kv,σ=[some (.ref a),some (.ref d),some (.ref cur),v3]/\zh H3 H'/\H' cur=some (.dK kv)/\cur≠d/\(i=0\/kv=wkL (z9 b) (Jb b (i - 1)))) ⟨_,t0,_,rfl,zh.refl _,t3,t0d,.inl rfl⟩ ?_ ?_
  ·rintro i σ H' D' hi ⟨v3,cur,kv,rfl,sm,hc,ncd,hk⟩ ea
   walk_at "rd"
   refine⟨a,cur,d,b,i,ad,rfl,B3.same sm,hi,hk.imp id (λe=>by rw[<-e];exact hc),⟨_,hc⟩,ncd,sm _ _ d3,N3.same sm,λH4 t s4 nt h4=>?_⟩;refine ea.nx _ _ ⟨_,t,_,rfl,sm.trans s4,h4,λz=>?_,.inr rfl⟩;have:=sm _ _ d3;rw[<-z,nt]at this;cases this
  ·rintro σ H' ⟨v3,cur,kv,rfl,sm,hc,ncd,hk⟩;have hk:b.ny=0\/kv=wkL (z9 b) (Jb b (b.ny - 1)):=hk;obtain rfl:=hk.resolve_left (by omega);refine⟨_,rfl,cur,_,_,rfl,.inl hc,zs3 _ _,?_⟩;rw[zaf,<-znx g1];exact k _ (s03.trans sm)
inductive zt0 (CB CR:Addr)(vs:List V)(H:Hp)(Q:VK):Prop
 |mk (a r q:Addr) (b:Vbmiab.Bench) (l:List Nat) (y:Nat):vs=[.ref a,.ref r,.ref q,vN y]->zq CB H a b->xt CR H r b->H q=some (.lst (l.map vN))->l.length=b.ny->y < b.ny->((0 < y->l.getD (y - 1) 0 < 2 ^ b.nx))->Ret H (vN (zba b l y)) Q->zt0 CB CR vs H Q
def z1c (CB CR:Addr):Sp:=λvs H Q _=>zt0 CB CR vs H Q
def zym:zo ["bench","rules","lines","y","pattern"] ["bench","rules","lines","y"] (zj Wg):=by walk_at "sc"
theorem W4 {l:List Nat}{y:Nat}(h:y < l.length):(l.map vN)[y]? =some (vN (l.getD y 0)):=by
 rw[z27,z28 h,z3s,z28 h];rfl
theorem zfb (T:qf K mg CB CR CC):xo P w K mg base "row_fault" 3 ["bench","rules","lines","y"] (z1c CB CR):=by
 refine T.f_row_fault.con λf fd F=>F.ok zym (λ_ _ _ _ h=>?_) (λ_ A _ s H vs Q E hr h=>?_)
 ·obtain⟨a,r,q,b,l,y,rfl,_⟩:=h;rfl
 ·obtain⟨a,r,q,b,l,y,rfl,B,R,hq,hl,hy,hp,k⟩:=h;have gd:=B.good;have pw:=Nat.two_pow_pos b.nx;refine⟨_,zc (zn (i:=4) zym.nd rfl (Or.inl rfl) (zu zw (pv 2) (pv 3) (λ_ _=>rfl)))
   (zc (ju (jh V4 (pv 4) (prf T.cR.cl T.cR.greatest (pv 1)) (jl _)) (zg (zm (jc T.c_NUMBER_TOO_GREAT))) (jb))
   (zc (ju (qk (j4 (prm (pv 1) T.cR.cl (zjs T) hr.m0 (za (pv 4) zd)))) (zg (zm (jc T.c_RUN_TOO_NARROW))) (jb))
   (zc (ju (PW.pt (zin (jh V4 (pv 3) zi (jl _)) (zd3 (qk (j4 (prm (pv 1) T.cR.cl (ze8 T) hr.m0 (za (zu zw (pv 2) (jd Zc (pv 3) zi) (λ_ _=>rfl)) (za (pv 4) zd)))))))) (zg (zm (jc T.c_NECK_TOO_NARROW))) (jb))
   (zc (ju (qk (j4 (Qi (pv 0) T.cB.cl (zhj T) hr.m0 (za (pv 3) (za (pv 4) zd))))) (zg (zm (jc T.c_NOT_AS_TOLD))) (jb))
   (zg (zm (jc T.c_NO_FAULT))))))),?_⟩
  walk_at "rd"
  refine⟨q,_,_,_,rfl,rfl,zx.of hq,zk (W4 (by omega)),?_⟩;generalize ep:l.getD y 0=p
  walk_at "rd"
  have ef:zba b l y=if 2 ^ b.nx<=p then 1 else if Vbmiab.rowOk b p=false then 2 else if 0 < y/\Vbmiab.necksOk b (l.getD (y - 1) 0) p=false then 3 else if Vbmiab.keeps b y p=false then 4 else 0:=by
   unfold zba;rw[ep]
  rw[ef]at k;refine jr (λe=>?_) (λe=>?_)
  ·have h1:2 ^ b.nx<=p:=by
    have:=z30 e;omega
   rw[z3m h1]at k;exact k _ (zh.refl _)
  ·have h1:¬2 ^ b.nx<=p:=λz=>e (z3u (by omega));rw[z3k h1]at k
   walk_at "rd"
   refine⟨r,b,p,rfl,R,by omega,?_⟩
   walk_at "rd"
   refine jr (λe=>?_) (λe=>?_)
   ·have h2:Vbmiab.rowOk b p=false:=by simpa using e
    rw[z3m h2]at k;exact k _ (zh.refl _)
   ·have h2:¬Vbmiab.rowOk b p=false:=by simpa using e
    rw[z3k h2]at k;unfold zgr zi2 zgq
    try dsimp only
    refine zi0 (decide (0 < y)) (!Vbmiab.necksOk b (l.getD (y - 1) 0) p) (λQ' q'=>?_) (λc1 Q' q'=>?_) ?_
    ·walk_at "rd"
     rw[yf (show ((0:Int) < (y:Int))↔0 < y by omega)];exact q'
    ·have y0:0 < y:=z30 c1
     walk_at "rd"
     refine⟨q,_,_,_,rfl,rfl,zx.of hq,(show atI _ ((y:Int) - 1)=some (vN (l.getD (y - 1) 0)) by rw[show (y:Int) - 1=((y - 1:Nat):Int) by omega];exact zk (W4 (by omega))),?_⟩
     walk_at "rd"
     refine⟨r,b,_,p,rfl,R,hp y0,by omega,?_⟩;exact⟨_,rfl,q'⟩
    ·have e3:(decide (0 < y)&& !Vbmiab.necksOk b (l.getD (y - 1) 0) p)=true↔(0 < y/\Vbmiab.necksOk b (l.getD (y - 1) 0) p=false):=by
      rw[z3f,z4p,z5e]
     refine jr (λe=>?_) (λe=>?_)
     ·rw[z3m (e3.mp e)]at k;exact k _ (zh.refl _)
     ·rw[z3k (λz=>e (e3.mpr z))]at k
      walk_at "rd"
      refine⟨hy,λH3 s3=>?_⟩
      walk_at "rd"
      refine jr (λe=>?_) (λe=>?_)
      ·have h4:Vbmiab.keeps b y p=false:=by simpa using e
       rw[z3m h4]at k;exact k _ s3
      ·have h4:¬Vbmiab.keeps b y p=false:=by simpa using e
       rw[z3k h4]at k;exact k _ s3
inductive ztl (C:Addr)(vs:List V)(H:Hp)(Q:VK):Prop
 |mk (a q:Addr) (b:Vbmiab.Bench) (l:List Nat):vs=[.ref a,.ref q]->zq C H a b->(H q=some (.lst (l.map vN))/\l.length=b.ny/\(Vbmiab.wrong b none 0 l=none->Ret H .non Q)/\∀ kd y,Vbmiab.wrong b none 0 l=some (kd,y)->∀(H':Hp) (t:Addr),zh H H'->H' t=some (.tup [vN kd,vN y])->Q (.ref t) H')->ztl C vs H Q
def z0x (C:Addr):Sp:=λvs H Q _=>ztl C vs H Q
def zr7:zo ["bench","lines","rules","y","kind"] ["bench","lines"] (zj Qs):=by walk_at "sc"
theorem zaw (T:qf K mg CB CR CC):xo P w K mg base "first_fault" 7 ["bench","lines"] (z0x CB):=by
 refine T.f_first_fault.con λf fd F=>F.ok zr7 (λ_ _ _ _ h=>?_) (λ_ A _ s H vs Q E hr h=>?_)
 ·obtain⟨a,q,b,l,rfl,_⟩:=h;rfl
 ·obtain⟨a,q,b,l,rfl,B,hq,hl,kn,ks⟩:=h;have gd:=B.good;have g8:=gd.ny8;refine⟨_,zc (zn (i:=2) zr7.nd rfl (Or.inl rfl) (zb9 (W2 T) T.m_Rules hr.m0 (za (pv 0) zd)))
   (zc (jt z3v rfl (yp rfl T.range (za (ji jj rfl T.b_len z4z (za (pv 1) zd)) zd)) (zt (i:=3) zr7.nd rfl (Or.inl rfl))
    (zc (zn (i:=4) zr7.nd rfl (Or.inl rfl) (je (zfb T) hr.m0 (za (pv 0) (za (pv 2) (za (pv 1) (za (pv 3) zd))))))
    (zg (ju (jh zb5 (pv 4) (jc T.c_NO_FAULT) (jl _)) (zg (zm (qj (za (pv 4) (za (pv 3) zd))))) (jb)))))
   (zg (zm Zv))),?_⟩
  walk_at "rd"
  intro x dx nx nd nxd;refine⟨x,a,dx,b,rfl,zb,B.same (λc o e=>by rw[ze (zf e nx),ze (zf e nd)];exact e),λH1 R k1=>⟨rfl,?_⟩⟩;have s1:zh H H1:=zh.made nx nd k1
  walk_at "rd"
  refine⟨q,_,rfl,.inl (zx.of (s1 _ _ hq)),?_⟩;rw[z25,hl]
  walk_at "rd"
  refine⟨by omega,by omega,?_⟩;refine J7 (λi σ H'=>∃ v3 v4,σ=[some (.ref a),some (.ref q),some (.ref x),v3,v4]/\zh H1 H'/\Vbmiab.wrong b none 0 l=Vbmiab.wrong b (Jn l i) i (l.drop i)/\(0 < i->l.getD (i - 1) 0 < 2 ^ b.nx)) ⟨_,_,rfl,zh.refl _,rfl,λz=>absurd z (z5o 0)⟩ ?_ ?_
  ·rintro i σ H' D' hi ⟨v3,v4,rfl,sm,hw,hlt⟩ ea
   walk_at "rd"
   refine⟨a,x,q,b,l,i,rfl,B.same (s1.trans sm),R.same sm,(s1.trans sm) _ _ hq,hl,hi,hlt,λH3 s3=>?_⟩;rw[zjc (by omega)]at hw
   walk_at "rd"
   refine jr (λe=>?_) (λe=>?_)
   ·have h0:¬zba b l i=0:=by
     intro z;rw[z]at e;exact absurd e (by decide)
    rw[z3k h0]at hw
    walk_at "rd"
    refine⟨(by show 2<=sizeLine;decide),λt ht=>?_⟩;exact ea.rt _ _ (ks _ _ hw _ t ((s1.trans sm).trans (s3.trans (zh.upd ht))) zb)
   ·have h0:zba b l i=0:=by
     refine z6h λz=>e ?_;show (!decide (V.int (zba b l i:Int)=V.int 0))=true;rw[z4u (λy=>z (by have:=V.int.inj y;omega))];rfl
    rw[z3m h0]at hw;refine ea.nx _ _ ⟨_,_,rfl,sm.trans s3,hw,λ_=>?_⟩;rw[show i+1 - 1=i by omega];refine z6h λz=>?_;unfold zba at h0;rw[z3m (by omega)]at h0;omega
  ·rintro σ H' ⟨v3,v4,rfl,sm,hw,hlt⟩;have hw:Vbmiab.wrong b none 0 l=Vbmiab.wrong b (Jn l b.ny) b.ny (l.drop b.ny):=hw;rw[<-hl,z59]at hw;exact kn hw _ (s1.trans sm)
structure zbk (base:Heap)(mg:Str->Option Value)(c P:Addr):Prop where
 code:PySem.W.CodeHd base c P
 bm:∃ bm ob,mg "__builtins__"=some (.ref bm)/\bm≠builtinsNs/\base.get? bm=some ob/\ob.cls=.type "module"/\ob.dict=some builtinsNs/\ob.data=.plain
def zfm (c:Addr)(qual:Str):HO:=.ext λh=>h.CodeRec (.ref c) qual
def vk (pos:Pos)(qual:Str)(P:Addr)(H:Hp):Prop:=
 H P=some (.tbl #[])\/∃ c,H P=some (.tbl #[rawInt pos.line,rawInt pos.col,.ref c])/\H c=some (zfm c qual)
def Vx (P:Addr)(H H':Hp):Prop:=∀ b o,b≠P->H b=some o->H' b=some o
theorem Vx.refl {P:Addr}{H:Hp}:Vx P H H:=λ_ _ _ e=>e
theorem vk.same {pos:Pos}{qual:Str}{P:Addr}{H H':Hp}(t:vk pos qual P H)(s:zh H H'):vk pos qual P H':=by
 rcases t with t|⟨c,t,u⟩
 ·exact .inl (s _ _ t)
 ·exact .inr ⟨c,s _ _ t,s _ _ u⟩
theorem znw {P:Program}{w:World}{H:Hp}{h:Heap}{c:Addr}{qual:Str}(r:h.CodeRec (.ref c) qual):j6 P w H h c (zfm c qual):=by
 refine⟨r,?_,λh1 h2 ⟨c',o,vs,t,e,g,q⟩ k=>?_⟩
 ·obtain⟨c',o,vs,t,e,g,q⟩:=r;cases e;exact⟨o,g⟩
 ·cases e;exact⟨c,o,vs,t,rfl,k _ g,q⟩
section
variable {X:Cx}{pins:List (Addr×Obj)}{σ:L2.St}{H:Hp}{s:Shared}{M:Model}{A:Around}{E:Value->Shared->Prop}{Q:Value->Shared->Prop}{params:Arguments}{body:Expr}{sc:Scope}{pos:Pos}{c P:Addr}{clos:List (Str×Addr)}
theorem zon (I:zz X pins σ H s)(L:zbk X.base X.mg c P)(hcode:X.env.code=.ref c)(T:vk pos (X.env.qual++"<lambda>") P H)(hdef:defaultsOf params X.env=([],[]))(hcl:closureFor sc X.env=pure clos)
  (k:∀ f c' ctv H2 s2,zz X pins σ H2 s2->vk pos (X.env.qual++"<lambda>") P H2->Vx P H H2->s2.heap.get? f=some (PySem.W.kla_obj "<lambda>" (X.env.qual++"<lambda>") params body sc clos ((X.mg "__name__").getD .none) c' ctv)->H2 f=none->s2.heap.CodeRec (.ref c') (X.env.qual++"<lambda>")->f≠X.env.locals->Q (.ref f) s2):
  wpAny M A (eval (.Lambda params body sc pos) X.env) Q E s:=by
 refine PySem.W.kla_eval hdef ?_;have hP:∃ arr,H P=some (.tbl arr):=by
  rcases T with T|⟨c,T,_⟩
  ·exact⟨_,T⟩
  ·exact⟨_,T⟩
 have nb:∀ b o,X.base.get? b=some o->b≠P:=λb o e z=>by
  obtain⟨arr,h⟩:=hP;have:=(I.bs b o e).2;rw[z,h]at this;cases this
 have hg:s.heap.Ns mainGlobals X.mg:=I.mod.glob.keeps I.bk;have hgP:mainGlobals≠P:=by
  obtain⟨o,es,ep,e,_⟩:=I.mod.glob;exact nb _ _ e
 have hb:s.heap.BuiltinsAt X.mg P:=by
  obtain⟨bm,ob,b1,b2,b3,b4,b5,b6⟩:=L.bm;refine⟨bm,ob,b1,b2,λq=>?_,nb _ _ b3,I.bk _ _ b3,b4,b5,b6⟩;obtain⟨o,es,ep,e,hd,_⟩:=I.mod.glob;rw[q,e]at b3;cases b3;rw[hd]at b6;cases b6
 have C:=L.code.keeps I.bk;rcases T with T|⟨c0,T,hc0⟩
 ·have e0:s.heap.get? P=some (PySem.W.tabObj #[]):=I.hok P _ T;refine PySem.W.kla_makeFunction (mg:=X.mg) hcl I.ok.glob hg hcode C e0 True.intro rfl hgP hb λc' ctv h' tk hx hge hlt hrec htb=>?_;have fc:H c'=none:=I.hok.fresh hge;have cP:c'≠P:=λz=>by rw[z,T]at fc;cases fc
  have ee:(#[]:Array Value)++ #[rawInt pos.line,rawInt pos.col,.ref c']= #[rawInt pos.line,rawInt pos.col,.ref c']:=rfl;rw[ee]at htb;have hx2:∀ b o,b≠P->s.heap.get? b=some o->(h'.push (PySem.W.kla_obj "<lambda>" (X.env.qual++"<lambda>") params body sc clos ((X.mg "__name__").getD .none) c' ctv)).get? b=some o:=λb o n e=>z29 _ (hx b o n e);have ne1:∀ b o,s.heap.get? b=some o->b≠c':=λb o e=>z4a (z3z (z3j e) hge);have nP:∀ b,H b=none->b≠P:=λb e z=>by rw[z,T]at e;cases e
  have H2e:∀ b,b≠P->b≠c'->(upd (upd H c' (zfm c' (X.env.qual++"<lambda>"))) P (.tbl #[rawInt pos.line,rawInt pos.col,.ref c'])) b=H b:=λb n1 n2=>by rw[ze n1,ze n2]
  have keepT:∀ b o,H b=some o->(∀ ps,o≠.tbl ps)->(upd (upd H c' (zfm c' (X.env.qual++"<lambda>"))) P (.tbl #[rawInt pos.line,rawInt pos.col,.ref c'])) b=some o:=λb o e n=>by
   rw[H2e b (λz=>by rw[z,T]at e;cases e;exact n _ rfl) (λz=>by rw[z,fc]at e;cases e)];exact e
  have rec2:=hrec.push (PySem.W.kla_obj "<lambda>" (X.env.qual++"<lambda>") params body sc clos ((X.mg "__name__").getD .none) c' ctv);have lL:X.env.locals < s.heap.objs.size:=I.lt;have fH:H h'.objs.size=none:=I.hok.fresh (z36 (z5v hge hlt));refine k h'.objs.size c' ctv (upd (upd H c' (zfm c' (X.env.qual++"<lambda>"))) P (.tbl #[rawInt pos.line,rawInt pos.col,.ref c'])) _ (I.un ⟨λb o e n _ _=>hx2 b o (nP b n) e,λb o e n _ _=>⟨o.slots,hx2 b o (nP b n) e⟩,λb o e n _=>?_,λb o e _=>?_,λb xs e=>keepT b _ e (by intro ps z;cases z),λb o u e=>keepT b _ e (by intro ps z;cases z),λb ps e=>?_⟩ λb o e=>?_)
   (.inr ⟨c',zb,?_⟩) (λb o n e=>?_) (z3o _ rfl) ?_ rec2 (z4e (z9v lL (z5v hge hlt)))
  ·rw[H2e b (nP b n) (ne1 b o e)];exact n
  ·by_cases q:b=P
   ·subst q;exact⟨_,z29 _ htb⟩
   ·exact⟨o,hx2 b o q e⟩
  ·by_cases q:b=P
   ·subst q;rw[T]at e;cases e;exact⟨#[rawInt pos.line,rawInt pos.col,.ref c'],zb⟩
   ·refine⟨#[],?_⟩;rw[H2e b q (λz=>by rw[z,fc]at e;cases e),e];simp
  ·by_cases q:b=P
   ·subst q;rw[zb]at e;cases e;exact z29 _ htb
   ·by_cases q2:b=c'
    ·subst q2;rw[ze q,zb]at e;cases e;exact znw rec2
    ·rw[H2e b q q2]at e;refine (I.hok b o e).stay (λb' u hb' g=>hx2 b' u ?_ g) (λb' z=>keepT b' _ z (by intro ps z;cases z)) λb' xs z=>keepT b' _ z (by intro ps z;cases z);rcases hb' with z|z
     ·rw[z];exact q
     ·intro y;rw[y,T]at z;cases z
  ·rw[ze cP,zb]
  ·rw[H2e b n (λz=>by rw[z,fc]at e;cases e)];exact e
  ·rw[H2e _ (nP _ fH) (z4e hlt)];exact fH
 ·have e0:s.heap.get? P=some (PySem.W.tabObj #[rawInt pos.line,rawInt pos.col,.ref c0]):=I.hok P _ T;refine PySem.W.kla_makeFunctionHit (mg:=X.mg) hcl I.ok.glob hg hcode C e0 (by simp[TriplesOk,rawInt]) (cv:=.ref c0) (by simp[codeAmong,rawInt]) hb λctv h' tk hk hsz=>?_;have rec1:s.heap.CodeRec (.ref c0) (X.env.qual++"<lambda>"):=by
   obtain⟨r,_⟩:=I.hok c0 _ hc0;exact r
  have fH:H h'.objs.size=none:=I.hok.fresh hsz;exact k h'.objs.size c0 ctv H _ (I.kept λb u e=>z29 _ (hk b u e)) (.inr ⟨c0,T,hc0⟩) Vx.refl (z3o _ rfl) fH ((rec1.keeps hk).push _) (z4e (z3z I.lt hsz))
end
theorem zom {prog:Program}{w:World}{A:Around}{E:Value->Shared->Prop}{Q:Value->Shared->Prop}{s:Shared}{f c' cy d:Addr}{name qual y z:Str}{params:Arguments}{sc:Scope}{p1 p2 p3:Pos}{pm ctv:Value}{vs:List (j2×Value)}{n gv:Int}{t gt:Tok}
  (hroom:A.depth < recursionLimit)(hf:s.heap.get? f=some (PySem.W.kla_obj name qual params (.Subscript (.Name y p1) (.Name z p2) p3) sc [(y,cy)] pm c' ctv))(hrec:s.heap.CodeRec (.ref c') qual)(hcell:s.heap.IsCell cy (some (.ref d)))
  (hd:s.heap.DictOf (jn prog w) d vs)(hv:valueAt vs (.inl n)=some (.int gv gt))(lim:s.heap.NoLimit)
  (hbind:bindArgs (PySem.W.kla_fn name qual params (.Subscript (.Name y p1) (.Name z p2) p3) sc [(y,cy)] pm (.ref c') ctv) ⟨[.int n t],[]⟩=pure [(z,.int n t)])
  (hco:sc.isCoroutine=false)(hgen:sc.isGenerator=false)(hk:sc.kind=.function)(hcl:∀ x∈sc.names,x.2≠.cell)(hz:sc.names.lookup z=some .local)(hy:sc.names.lookup y=some .free)
  (hdy:(y==("__debug__":Str))=false)(hcy:(y==("__classdict__":Str))=false)(hdz:(z==("__debug__":Str))=false)
  (k:∀ h' tk,(∀ b o,s.heap.get? b=some o->h'.get? b=some o)->Q (.int gv gt) {s with heap:=h',toks:=tk}):
  wpAny (model prog w) A (call (.ref f) [.int n t]) Q E s:=by
 refine wpAny_call (PySem.W.kla_callFunE hroom hf rfl hco hgen rfl hrec ?_);rw[hbind];refine z3h (wpAny_newFunctionEnv hcl (λx hx=>by rw[z37.mp hx];exact hz) (λh₁ hns hsb=>?_) hk);have hk₁:∀ b o,s.heap.get? b=some o->h₁.get? b=some o:=λb o e=>hsb.extBut b o (z4a (z3j e)) (z29 _ e);refine⟨lim.fresh _ hsb,?_⟩;show codeAny _ _ (.expr (.Subscript (.Name y p1) (.Name z p2) p3) (PySem.W.envX qual sc s.heap.objs.size f (.ref c') [(y,cy)])) _ _;refine PySem.W.kla_codeExpr ?_;have hd1:h₁.DictOf (jn prog w) d vs:=by
  obtain⟨o,es,ep,e,r⟩:=hd;exact⟨o,es,ep,hk₁ _ _ e,r⟩
 refine Ug z66.lookup (λ_ _=>rfl) ?_;refine z94 (wpAny_loadName_free (c:=cy) hk hy (by simp) (hcell.keeps hk₁) ?_ hcy) hdy;refine z94 (z9l hk hz hns (v:=.int n t) (by simp) ?_) hdz;refine⟨hd1.typeIs,?_⟩;exact z85 (Zj prog w n t) hd1.mapOf hv (k _ _ hk₁)
def zy1 (lpos:Pos)(qual:Str)(P:Addr)(i:Nat)(t:TE):TE:=λσ H Q=>t σ H λx H1=>∃(l d:Addr) (ns:List Int) (kv:List (j2×V)) (g:Int->Int),x=.ref l/\H1 l=some (.lst (ns.map V.int))/\0 < ns.length/\σ[i]? =some (some (.ref d))/\Rd H1 d (.dK kv)/\
 (∀ n∈ns,ye kv (.inl n)=some (.int (g n)))/\vk lpos qual P H1/\∀(j:Nat) n H2,ns[j]? =some n->(∀(k:Nat) m,ns[k]? =some m->g m<=g n/\(k < j->g m < g n))->Vx P H1 H2->vk lpos qual P H2->Q (.int n) H2
theorem zrt {X:Cx}{e:Expr}{t:TE}{p pos kpos lpos p1 p2 p3:Pos}{params:Arguments}{sc:Scope}{y z:Str}{i k0:Nat}{c P:Addr}(hr:Room (k0+1) X.A)(hc:X.calm=true)(hg:Gl X "max")(hm:X.mg "max"=none)(ha:PE X e t)(L:zbk X.base X.mg c P)(hcode:X.env.code=.ref c)
  (hN:X.N[i]? =some y)(hky:X.env.kindOf y=some .cell)(cy:Addr)(hcy:X.env.cells.lookup y=some cy)(hdef:defaultsOf params X.env=([],[]))(hcl:closureFor sc X.env=pure [(y,cy)])
  (hbind:∀(pm ctv:Value) (c':Addr) (n:Int) (t:Tok),bindArgs (PySem.W.kla_fn "<lambda>" (X.env.qual++"<lambda>") params (.Subscript (.Name y p1) (.Name z p2) p3) sc [(y,cy)] pm (.ref c') ctv) ⟨[.int n t],[]⟩=pure [(z,.int n t)])
  (hco:sc.isCoroutine=false)(hgen:sc.isGenerator=false)(hk:sc.kind=.function)(hcc:∀ x∈sc.names,x.2≠.cell)(hz:sc.names.lookup z=some .local)(hy:sc.names.lookup y=some .free)
  (hdy:(y==("__debug__":Str))=false:=by decide)(hcdy:(y==("__classdict__":Str))=false:=by decide)(hdz:(z==("__debug__":Str))=false:=by decide)
  (he:starEach [e] X.env=[(false,eval e X.env)]:=by rfl):PE X (.Call (.Name "max" p) [e] [⟨some "key",.Lambda params (.Subscript (.Name y p1) (.Name z p2) p3) sc lpos,kpos⟩] pos) (zy1 lpos (X.env.qual++"<lambda>") P i t):=by
 intro pins s σ H Q I h;refine z5g (vc I hg hm (by decide+kernel:bootBuiltins "max"=some (.builtin "max")) ?_ (by decide) (by decide));refine jah (yd (za ha zd he pos pins s σ H (λvs H1=>match vs with
  |[x]=>∃(l d:Addr) (ns:List Int) (kv:List (j2×V)) (g:Int->Int),x=.ref l/\H1 l=some (.lst (ns.map V.int))/\0 < ns.length/\σ[i]? =some (some (.ref d))/\Rd H1 d (.dK kv)/\
   (∀ n∈ns,ye kv (.inl n)=some (.int (g n)))/\vk lpos (X.env.qual++"<lambda>") P H1/\∀(j:Nat) n H2,ns[j]? =some n->(∀(k:Nat) m,ns[k]? =some m->g m<=g n/\(k < j->g m < g n))->Vx P H1 H2->vk lpos (X.env.qual++"<lambda>") P H2->Q (.int n) H2
  |_=>False) I h) λus s1 ⟨vs,H1,I1,r,q⟩=>?_) (by rw[he];rfl) (by rw[he];rfl)
 match vs,r,q with
 |[x],r,q=>
  obtain⟨l,d,ns,kv,g,rfl,hl1,hne,hσ,hd1,hgv,T1,q⟩:=q;rw[jf.ref1 r];refine PyProof.Rows.kws_cons (zon I1 L hcode T1 hdef hcl λf c' ctv H2 s2 I2 T2 sp2 hf fH hrec hfL=>PyProof.Rows.kws_nil ?_);have lP:l≠P:=λw=>by
   rcases T1 with T|⟨_,T,_⟩<;>(rw[<-w,hl1]at T;cases T)
  have hl2:=sp2 _ _ lP hl1;have hd2:Rd H2 d (.dK kv):=by
   rcases hd1 with e|⟨o,e⟩
   ·refine .inl (sp2 _ _ (λw=>?_) e);rcases T1 with T|⟨_,T,_⟩<;>(rw[<-w,e]at T;cases T)
   ·refine .inr ⟨o,sp2 _ _ (λw=>?_) e⟩;rcases T1 with T|⟨_,T,_⟩<;>(rw[<-w,e]at T;cases T)
  obtain⟨its,rv,hlst,_⟩:=I2.list (zx.of (K:=X.K) hl2);have hints:=rv.ints;have hlen:its.length=ns.length:=hints.length;obtain⟨_,_,kvs,rel,dd⟩:=Xz I2.hok hd2;obtain⟨m,F⟩:=I2.fr;have nb:∀ b o,H2 b=some o->X.base.get? b=none:=λb o e=>by
   cases q:X.base.get? b with
   |none=>rfl
   |some u=>
    have:=(I2.bs b u q).2;rw[e]at this;cases this
  have keepN:∀ h,PyProof.Rows.Fr X.base X.env.locals h m->News X.base X.env.locals h (Xq X.base s2.heap X.env.locals)->∀ b o,b≠X.env.locals->s2.heap.get? b=some o->h.get? b=some o:=λh F' N' b o n e=>by
   cases q:X.base.get? b with
   |some u=>
    have:=I2.bk b u q;rw[e]at this;cases this;exact F'.keep b _ q
   |none=>exact (N' (b,o) (zfy n q e)).1
  have lL:l≠X.env.locals:=λw=>by have:=I2.free;rw[<-w,hl2]at this;cases this
  have dL:d≠X.env.locals:=λw=>by
   have:=I2.free;rcases hd2 with e|⟨o,e⟩<;>(rw[<-w,e]at this;cases this)
  have cellD:s2.heap.IsCell cy (some (.ref d)):=by
   obtain⟨m',_,hloc⟩:=I2.loc;obtain⟨u,ru,lk⟩:=hloc i y (.ref d) hN hσ (.inr (.inl hky));cases (show u=Value.ref d from ru);rcases lk with ⟨k1,_⟩|⟨_,c2,e2,z2⟩
   ·rw[hky]at k1;cases k1
   ·rw[hcy]at e2;cases e2;exact z2
  have cL:cy≠X.env.locals:=I2.cne y cy hcy;obtain⟨ol,hol,hr2⟩:=id hlst.isList;refine kmk_max (h₀:=X.base) (L:=X.env.locals) (m:=m) (news:=Xq X.base s2.heap X.env.locals) (vs:=its) (λj=>g (ns.getD j 0)) (I2.ok.hd hc) F zov (λh F' N'=>⟨ol,keepN h F' N' l ol lL hol,hr2⟩) (by omega) (λj v hv h tk own F' N'=>?_) λj v h' tk' hv hb F' N'=>?_
  ·have hj:j < its.length:=(z3b.mp hv).1;obtain⟨n,hn⟩:∃ n,ns[j]? =some n:=⟨_,z28 (by omega)⟩;obtain⟨tn,htn⟩:=hints.get j n hn;rw[htn]at hv;cases hv;have en:ns.getD j 0=n:=by simp[hn]
   rw[en];have kp:=keepN h F' λp hp=>N' p (z4b _ hp);obtain⟨gv,hgv2,rgv⟩:=Zr.some_of (v:=.int (g n)) (o:=valueAt kvs (.inl n)) (by rw[<-hgv n (z3r hn)];exact rel.val _);obtain⟨tg,rfl⟩:=(show ∃ t,gv=Value.int (g n) t from rgv);have ddh:h.DictOf (jn X.prog X.w) d kvs:=by
    obtain⟨o,es,ep,e,r⟩:=dd;exact⟨o,es,ep,kp _ _ dL e,r⟩
   have rech:h.CodeRec (.ref c') (X.env.qual++"<lambda>"):=by
    obtain⟨c2,o2,vs2,t2,e2,g2,d2,r2⟩:=hrec;refine⟨c2,o2,vs2,t2,e2,kp _ _ (λw=>?_) g2,d2,r2⟩;obtain⟨oL,es,ep,hoL,hdL,_⟩:=F.ns;rw[w,hoL]at g2;cases g2;rw[hdL]at d2;cases d2
   have celh:h.IsCell cy (some (.ref d)):=by
    obtain⟨o,e,dt⟩:=cellD;exact⟨o,kp _ _ cL e,dt⟩
   refine zom (s:={s2 with heap:=h,toks:=tk}) (by have:=hr.dp;show X.A.depth < _;omega) (kp _ _ hfL hf) rech celh ddh hgv2 (I2.ok.mod.nolimit.keeps F'.keep) (hbind _ _ _ _ _) hco hgen hk hcc hz hy hdy hcdy hdz λh3 tk3 k3=>?_;exact⟨h3,tk3,tg,rfl,rfl,⟨F'.ns.keeps k3,λb o e=>k3 b o (F'.keep b o e),F'.above⟩,λp hp=>⟨k3 _ _ (N' p hp).1,(N' p hp).2⟩⟩
  ·have hj:j < its.length:=(z3b.mp hv).1;obtain⟨n,hn⟩:∃ n,ns[j]? =some n:=⟨_,z28 (by omega)⟩;obtain⟨tn,htn⟩:=hints.get j n hn;rw[htn]at hv;cases hv;have en:ns.getD j 0=n:=by simp[hn]
   have kp:=keepN h' F' N';have I3:zz X pins σ H2 {s2 with heap:=h',toks:=tk'}:=by
    refine I2.step (g':=s2.gens) (d':=s2.drawn) (ch:=[]) (λ_ z=>nomatch z) (λb o n _ _ e _=>kp b o n e) (λb o n _ _ e _=>⟨o.slots,kp b o n e⟩) (λ_ _ _ _ n=>n) (λb o _ e=>?_) (λ_ _ e=>e) (λ_ _ _ e=>e) (λb ps e=>⟨#[],by rw[e];simp⟩) (λm' hm'=>?_) (λb u e=>?_) I2.bare
    ·by_cases w:b=X.env.locals
     ·obtain⟨oL,es,ep,hoL,_⟩:=F'.ns;rw[w];exact⟨_,hoL⟩
     ·exact⟨o,kp b o w e⟩
    ·have e1:=hm'.eq_nsMap;have e2:=F.ns.eq_nsMap;rw[e1,<-e2];exact F'.ns
    ·refine (I2.hok b u e).stay (λc v hc q=>kp c v (λw=>?_) q) (λ_ q=>q) λ_ _ q=>q;have:=I2.free;rcases hc with z|z
     ·rw[<-w,z,e]at this;cases this
     ·rw[<-w,z]at this;cases this
   refine⟨.int n,H2,I3,⟨_,rfl⟩,q j n H2 hn (λk m hm=>?_) sp2 T2⟩;have hk2:k < its.length:=by
    have:=(z3b.mp hm).1;omega
   have hb2:=hb k hk2;have em:ns.getD k 0=m:=by simp[hm]
   rw[en,em]at hb2;exact⟨hb2.1,λw=>hb2.2 w⟩
def zpa (g:Nat->Option Int)(c:List Nat):Option Nat:=c.find? λp=>g p==jx c g
def zdi (g:Nat->Option Int)(l:List Nat):List Nat:=l.filter λp=>(g p).isSome
theorem zrw {g:Nat->Option Int}{l:List Nat}{j p:Nat}(h:(zdi g l)[j]? =some p)(hb:∀(k q:Nat),(zdi g l)[k]? =some q->(g q).getD 0<=(g p).getD 0/\(k < j->(g q).getD 0 < (g p).getD 0)):zpa g l=some p:=by
 have hp:=z34.mp (z3r h);obtain⟨m,em⟩:=z7d.mp hp.2;have best:jx l g=some m:=by
  refine zjq (z55.mpr ⟨p,hp.1,em⟩) λa ha=>?_;obtain⟨q,hq,eq⟩:=z55.mp ha;obtain⟨k,hk,ek⟩:=z5q (z34.mpr ⟨hq,by rw[eq];rfl⟩:q∈zdi g l);have:=(hb k q (z3b.mpr ⟨hk,ek⟩)).1;rw[eq,em]at this;exact this
 unfold zpa;rw[best];have e1:l.find? (λq=>g q==some m)=(zdi g l).find? λq=>g q==some m:=by
  unfold zdi;rw[List.find?_filter];congr 1;funext q;cases e:g q with
  |none=>rfl
  |some v=>
   rw[z4l];simp
 rw[e1,List.find?_eq_some_iff_getElem];obtain⟨hj,ej⟩:=z3b.mp h;refine⟨by rw[em];simp,j,hj,ej,λk hk=>?_⟩;have hk2:k < (zdi g l).length:=by omega
 have:=(hb k _ (z28 hk2)).2 hk;rw[em]at this;cases e:g (zdi g l)[k] with
 |none=>rfl
 |some v=>
  rw[e]at this;have:v < m:=this;show (!(v==m))=true;rw[z5p.mpr (by omega)];rfl
def j8 (H H':Hp):Prop:=∀ b o,(∀ ps,o≠.tbl ps)->H b=some o->H' b=some o
theorem j8.trans {H H1 H2:Hp}(a:j8 H H1)(b:j8 H1 H2):j8 H H2:=λc o n e=>b c o n (a c o n e)
theorem j8.of {H H':Hp}(s:zh H H'):j8 H H':=λc o _ e=>s c o e
theorem Vx.t {pos:Pos}{qual:Str}{P:Addr}{H H':Hp}(s:Vx P H H')(T:vk pos qual P H):j8 H H':=λb o n e=>s b o (λz=>by
 rcases T with T|⟨_,T,_⟩<;>(rw[<-z,e]at T;cases T;exact n _ rfl)) e
theorem zq.sameT {C:Addr}{H H':Hp}{a:Addr}{b:Vbmiab.Bench}(B:zq C H a b)(s:j8 H H'):zq C H' a b:=by
 obtain⟨dx,lw,lk,lm,lt,B⟩:=B;exact⟨dx,lw,lk,lm,lt,s _ _ (by intro _ z;cases z) B.ins,s _ _ (by intro _ z;cases z) B.w,s _ _ (by intro _ z;cases z) B.k,s _ _ (by intro _ z;cases z) B.m,s _ _ (by intro _ z;cases z) B.t,B.km,B.kt,B.mt,B.wk,B.wm,B.wt,B.good⟩
abbrev zz1:Str:=(Str.ofString "best_pattern"++".<locals>.")++"<lambda>"
abbrev zz0:Pos:=⟨208,74,208,104⟩
abbrev wd (tb:Addr)(H:Hp):Prop:=vk zz0 zz1 tb H
def ze1 (K:Fr)(mg:Str->Option Value)(base:Heap)(tb:Addr):Prop:=∃ c,zbk base mg c tb/\∀ f o fd,mg "best_pattern"=some (.ref f)->K.lookup f=some o->o.data=.func fd->fd.code=.ref c
inductive zth (tb:Addr)(vs:List V)(H:Hp)(Q:VK):Prop
 |mk (t q:Addr) (b:Vbmiab.Bench) (l:List Nat) (g:Nat->Option Int):vs=[.ref t,.ref q]->Rd H t (.dK (kvI (xl b g)))->H q=some (.lst (l.map vN))->((∀ p,p∈l->p∈z9 b))->l.length<=128->jx l g≠none->wd tb H->(∀(H':Hp) (p:Nat),zpa g l=some p->j8 H H'->wd tb H'->Q (vN p) H')->zth tb vs H Q
def z0t (tb:Addr):Sp:=λvs H Q _=>zth tb vs H Q
def zwg:zo ["table","patterns","pattern"] ["table","patterns"] (zj kf):=by walk_at "sc"
theorem zrc (g:Nat->Option Int)(l:List Nat):l.filterMap (λp=>if (g p).isSome=true then some (vN p) else none)=((zdi g l).map λp=>((p:Nat):Int)).map V.int:=by
 unfold zdi
 induction l with
 |nil=>rfl
 |cons a l ih=>
  by_cases h:(g a).isSome=true
  ·rw[z5a (b:=vN a) (by rw[z3m h]),z7k (p:=λp=>(g p).isSome) h,ih];rfl
  ·rw[z5b (by rw[z3k h]),z7l (p:=λp=>(g p).isSome) h,ih]
theorem Uo (T:qf K mg CB CR CC){tb:Addr}(Lk:ze1 K mg base tb):xo P w K mg base "best_pattern" 3 ["table","patterns"] (z0t tb):=by
 obtain⟨f,fd,F,hm,hb⟩:=T.f_best_pattern;refine⟨f,fd,hm,F.kp,hb,?_⟩;obtain⟨c,La,hc⟩:=Lk;obtain⟨oc,od,kV,doc,pm,an,cdv,ct,osl,rfl,lk,hcd⟩:=F.ex;obtain rfl:cdv=.ref c:=hc f _ _ hm lk rfl;refine zun lk hcd zwg (λ_ _ _ _ h=>?_) λA outer s H vs Q E hr h=>?_
 ·obtain⟨t,q,b,l,g,rfl,_⟩:=h;rfl
 ·suffices h:∃ t,PSs (zhv CX0 P w K mg base ["table","patterns","pattern"] "best_pattern" (zj kf) f (.ref c) A outer s H E).nox (xj kf) t/\t {nx:=λ_ H'=>Q .non H',rt:=Q} (start ["table","patterns","pattern"] vs) H by
   obtain⟨t,h,q⟩:=h;exact⟨t,h.nox,q⟩
  obtain⟨t,q,b,l,g,rfl,hd,hq,hl,hn,hne,hT,k⟩:=h;refine⟨_,zg (zm (zrt hr rfl rfl T.b_max (ko rfl zwg.nd (jo (pv 1)) (jq (own:=[("pattern",2)]) rfl) (λ_ _ _ _ _=>(zt (i:=2) zwg.nd rfl (Or.inl rfl))) (λ_ _ _ _ _=>(vh (Jo (Gr (xf hr) (pv 2) (pv 0))))) (λ_ _ _ _ _=>(pv 2)))
   La rfl (i:=0) rfl rfl (s.heap.objs.size+1) rfl rfl rfl (by intros;rfl) rfl rfl rfl (by decide) rfl rfl)),?_⟩
  refine⟨_,rfl,q,rfl,⟨_,zx.of hq⟩,λD hD=>?_⟩;refine Wy (λp=>if (g p).isSome=true then some (vN p) else none) hD (z36 (zp (by omega))) (zx.of hq) (λi p H' Nt Nf hp sm hN hF=>?_) (λH1 s1 h1=>?_)
  ·have pm:=hl p (z3r hp);have hg:Qe H' t (vN p) ((g p).map V.int):=.inl ⟨_,.inl (p:Int),Yj hd sm,rfl,by rw[zaj,z3m pm]⟩;refine⟨rfl,?_⟩;refine⟨_,rfl,_,rfl,t,_,rfl,hg,_,rfl,?_⟩;have ei:((g p).map V.int).isSome=(g p).isSome:=by cases g p<;>rfl
   refine jr (λe=>?_) (λe=>?_)
   ·have e2:(g p).isSome=true:=ei▸e;exact⟨_,rfl,hN _ _ (zh.refl _) (by rw[z3m e2])⟩
   ·have e2:¬(g p).isSome=true:=λz=>e (ei.symm▸z);exact hF _ (zh.refl _) (by rw[z3k e2])
  ·rw[zrc]at h1;refine⟨D,t,_,_,λn=>(g n.toNat).getD 0,rfl,h1,?_,rfl,Yj hd s1,λn hn2=>?_,hT.same s1,λj n H2 hj hb sp T2=>?_⟩
   ·rw[z25];refine z9e λz=>hne (Z1.mpr (jaa.mpr λp hp=>?_));have z2:=jav.mp (z8l.mp z) p hp;cases e:g p with
    |none=>rfl
    |some v=>
     rw[e]at z2;exact absurd rfl z2
   ·obtain⟨p,hp,rfl⟩:=z4h.mp hn2;have hp2:=z34.mp hp;rw[zaj,z3m (hl p hp2.1)]
    try dsimp only
    rw[z3i];obtain⟨v,e⟩:=z7d.mp hp2.2;rw[e];rfl
   ·rw[z27]at hj;obtain⟨p,hp,rfl⟩:=z3q.mp hj;refine k H2 p (zrw hp λi q hq2=>?_) ((j8.of s1).trans (sp.t (hT.same s1))) T2;have h2:=hb i q (by rw[z27,hq2];rfl)
    try dsimp only at h2
    rw[z3i,z3i]at h2;exact h2
inductive ztg (C tb:Addr)(vs:List V)(H:Hp)(Q:VK):Prop
 |mk (a:Addr) (b:Vbmiab.Bench):vs=[.ref a]->zq C H a b->(wd tb H/\(Vbmiab.bestLines b=none->∀ H',j8 H H'->wd tb H'->Q .non H')/\∀ v l,Vbmiab.bestLines b=some (v,l)->∀(H':Hp) (q:Addr),j8 H H'->wd tb H'->H' q=some (.lst (l.map vN))->Q (.ref q) H')->ztg C tb vs H Q
def z0s (C tb:Addr):Sp:=λvs H Q _=>ztg C tb vs H Q
def zgj:zo ["bench","beside","tables","lines","patterns","table","pattern"] ["bench"] (zj Ke):=by walk_at "sc"
theorem zcw (T:qf K mg CB CR CC){tb:Addr}(Lk:ze1 K mg base tb):xo P w K mg base "best_lines" 7 ["bench"] (z0s CB tb):=by
 refine T.f_best_lines.con λf fd F=>F.ok zgj (λ_ _ _ _ h=>?_) (λ_ A _ s H vs Q E hr h=>?_)
 ·obtain⟨a,b,rfl,_⟩:=h;rfl
 ·obtain⟨a,b,rfl,B,hT,kn,ks⟩:=h;have gd:=B.good;have g8:=gd.ny8;have g1:=gd.ny0;refine⟨_,zc (zn (i:=1) zgj.nd rfl (Or.inl rfl) (je (Jg T) hr.m0 (za (zb9 (W2 T) T.m_Rules hr.m0 (za (pv 0) zd)) zd)))
   (zc (zn (i:=2) zgj.nd rfl (Or.inl rfl) (je (Qk T) hr.m0 (za (pv 0) (za zi (za (pv 1) zd)))))
   (zc (ju (jh Zm (ji zlg rfl T.b_len z4z (za (zu zw (pv 2) zi (λ_ _=>rfl)) zd)) zi (jl _)) (zg (zm Zv)) (jb))
   (zc (zn (i:=3) zgj.nd rfl (Or.inl rfl) (zy zd))
   (zc (zn (i:=4) zgj.nd rfl (Or.inl rfl) (qv (Ut rfl) rfl T.list (by decide+kernel) (za (pv 1) zd)))
   (zc (jt z3v rfl (jo (pv 2)) (zt (i:=5) zgj.nd rfl (Or.inl rfl))
    (zc (zn (i:=6) zgj.nd rfl (Or.inl rfl) (je (Uo T Lk) hr.m0 (za (pv 5) (za (pv 4) zd))))
    (zc (yb (xp z3y z4k z4j yo (pv 3) (za (pv 6) zd)))
    (zg (zn (i:=4) zgj.nd rfl (Or.inl rfl) (X9 (xf hr) (pv 1) (pv 6) (λ_ _=>rfl)))))))
   (zg (zm (pv 3)))))))),?_⟩
  walk_at "rd"
  intro x dx nx nd nxd;refine⟨x,a,dx,b,rfl,zb,B.same (λc o e=>by rw[ze (zf e nx),ze (zf e nd)];exact e),λH1 R k1=>⟨rfl,?_⟩⟩;have s1:zh H H1:=zh.made nx nd k1;refine⟨x,b,rfl,R,λH2 d ad s2 hd N=>?_⟩
  walk_at "rd"
  refine⟨a,d,b,0,ad,rfl,(B.same s1).same s2,by omega,hd,N,λH3 l ts s3 hl htl hts _=>?_⟩;have s03:=(s1.trans s2).trans s3;rw[z7q]at htl;obtain⟨t0,ht0⟩:∃ t,ts[0]? =some t:=⟨ts[0],z28 (by omega)⟩
  walk_at "rd"
  refine⟨l,_,_,_,rfl,rfl,zx.of hl,zk (j:=0) (by rw[z27,ht0];rfl),?_⟩;have h0:=hts 0 t0 ht0;refine⟨t0,_,rfl,h0,?_⟩;have el:(kvI (xl b (G b (b.ny - 1 - (0+0)) (0+0)))).length=((z9 b).filterMap (G b (b.ny - 1) 0)).length:=by
   have:=z6a List.length (zcm b (G b (b.ny - 1 - (0+0)) (0+0)));rw[z25,z25]at this;exact this
  rw[el]
  walk_at "rd"
  refine jr (λe=>?_) (λe=>?_)
  ·have e0:((z9 b).filterMap (G b (b.ny - 1) 0)).length=0:=by
    have:=V.int.inj (z30 e);omega
   have e1:jx (z9 b) (G b (b.ny - 1) 0)=none:=Z1.mpr (z8l.mp e0);exact kn (by rw[Jf g1,e1];rfl) _ (j8.of s03) (hT.same s03)
  ·have e1:jx (z9 b) (G b (b.ny - 1) 0)≠none:=λz=>e (by
    rw[Z1.mp z];rfl)
   obtain⟨v0,ev⟩:=z92.mp e1;have eb:Vbmiab.bestLines b=some (v0,bl b b.ny 0 (z9 b)):=by rw[Jf g1,ev];rfl
   have ks:=ks _ _ eb;refine⟨z4c _,λp1 hp1=>?_⟩;have s4:zh H3 (upd H3 p1 (.lst [])):=zh.upd hp1;have h4:(upd H3 p1 (.lst [])) p1=some (.lst []):=zb;have hd4:=s4 _ _ (s3 _ _ hd);generalize (upd H3 p1 (.lst []))=H4 at s4 h4 hd4 ⊢
   walk_at "rd"
   refine⟨d,_,rfl,.inl hd4,λp2 hp2=>?_⟩;have ek:(Zk b ad (z9 b)).map (λq=>kV q.1)=(z9 b).map vN:=by
    unfold Zk;rw[z4f];rfl
   rw[ek];have s5:zh H4 (upd H4 p2 (.lst ((z9 b).map vN))):=zh.upd hp2;have h5:(upd H4 p2 (.lst ((z9 b).map vN))) p2=some (.lst ((z9 b).map vN)):=zb;have n12:p2≠p1:=λz=>by rw[z,h4]at hp2;cases hp2
   generalize (upd H4 p2 (.lst ((z9 b).map vN)))=H5 at s5 h5 ⊢;have s35:=s4.trans s5;have N3:=N.same s3;refine⟨_,rfl,l,rfl,⟨_,zx.of (s35 _ _ hl)⟩,?_⟩;refine J6 (xs:=ts.map V.ref) (λi σ H'=>∃(v5 v6:Option V) (cq:Addr) (c done:List Nat),σ=[some (.ref a),some (.ref d),some (.ref l),some (.ref p1),some (.ref cq),v5,v6]/\j8 H3 H'/\wd tb H'/\H' p1=some (.lst (done.map vN))/\H' cq=some (.lst (c.map vN))/\
    (∀ p,p∈c->p∈z9 b)/\c.length<=128/\done++bl b (b.ny - i) i c=bl b b.ny 0 (z9 b)/\done.length=i/\(i < b.ny->jx c (G b (b.ny - 1 - i) i)≠none))
    ⟨_,_,p2,z9 b,[],rfl,j8.of s35,((hT.same s03).same s35),s5 _ _ h4,h5,λp h=>h,Z5 b gd,rfl,rfl,λ_=>e1⟩ (λi σ H' hi ⟨v5,v6,cq,c,done,hσ,st,ht,hq1,hq2,hsub,hlen,hbl,hdl,hbo⟩=>zx.of (st _ _ (by intro _ z;cases z) hl)) ?_ ?_
   ·rintro i x σ H' D' hx ⟨v5,v6,cq,c,done,rfl,st,ht,hq1,hq2,hsub,hlen,hbl,hdl,hbo⟩ ea;rw[z27]at hx;obtain⟨t,htt,rfl⟩:=z3q.mp hx;have hi:i < b.ny:=by
     have:=(z3b.mp htt).1;omega
    have hti:=hts i t htt;rw[z6x]at hti
    walk_at "rd"
    refine⟨t,cq,b,c,_,rfl,.inl (st _ _ (by intro _ z;cases z) hti),hq2,hsub,hlen,hbo hi,ht,λH6 p hp s6 T6=>?_⟩;have hq6:=s6 _ _ (by intro _ z;cases z) hq1;have st6:=st.trans s6;obtain⟨m,hm⟩:=z92.mp (hbo hi);obtain⟨p',e1,e2,e3⟩:=Vm hm;obtain rfl:p'=p:=z3p (e1.symm.trans hp);have pm:=hsub _ e2;refine⟨_,rfl,.inl ⟨rfl,_,zx.of hq6⟩,_,rfl,p1,_,vN p',rfl,rfl,hq6,?_,?_⟩
    ·rw[z25];exact zp (by omega)
    ·have st7:j8 H3 (upd H6 p1 (.lst (done.map vN++[vN p']))):=λbb o n e=>by
      rw[ze (zf e hp1)];exact st6 bb o n e
     have T7:wd tb (upd H6 p1 (.lst (done.map vN++[vN p']))):=by
      rcases T6 with T|⟨cc,T,u⟩
      ·exact .inl (by rw[ze (ja T hq6 (by intro z;cases z))];exact T)
      ·exact .inr ⟨cc,by rw[ze (ja T hq6 (by intro z;cases z))];exact T,by rw[ze (ja u hq6 (by intro z;cases z))];exact u⟩
     have h7:(upd H6 p1 (.lst (done.map vN++[vN p']))) p1=some (.lst ((done++[p']).map vN)):=by
      rw[zb,z3g];rfl
     generalize (upd H6 p1 (.lst (done.map vN++[vN p'])))=H7 at st7 T7 h7 ⊢;have d7:=st7 _ _ (by intro _ z;cases z) (s3 _ _ hd);have l7:=st7 _ _ (by intro _ z;cases z) (N3.lists p' pm);refine⟨_,rfl,_,rfl,d,.ref (ad p'),rfl,.inl ⟨_,.inl (p':Int),.inl d7,rfl,by rw[K3,z3m pm]⟩,?_⟩;refine ea.nx _ _ ⟨_,_,ad p',Jc b p',done++[p'],rfl,st7,T7,h7,l7,λq hq=>zdq hq,zdp b gd p',?_,by rw[z3a,hdl];rfl,λhi2=>?_⟩
     ·rw[<-hbl,z4d];congr 1;obtain⟨f,ef⟩:∃ f,b.ny - i=f+1:=⟨b.ny - i - 1,by omega⟩;rw[ef,show b.ny - (i+1)=f by omega];have e4:Vl b f i c=some p':=by
       rw[show f=b.ny - 1 - i by omega];exact e1
      show p'::bl b f (i+1) (Jc b p')=match Vl b f i c with
       |none=>[]
       |some p=>p::bl b f (i+1) (Jc b p)
      rw[e4]
     ·rw[show b.ny - 1 - i=(b.ny - 1 - (i+1))+1 by omega]at e3;rw[zep e3];exact λz=>by cases z
   ·rintro σ H' ⟨v5,v6,cq,c,done,rfl,st,ht,hq1,hq2,hsub,hlen,hbl,hdl,hbo⟩;rw[z25,htl,z7r]at hbl;refine⟨_,rfl,?_⟩;have e5:done=bl b b.ny 0 (z9 b):=by
     rw[<-hbl];exact (z31 _).symm
    rw[e5]at hq1;exact ks _ p1 ((j8.of s03).trans st) ht hq1
def z1v (t:TE):TE:=λσ H Q=>t σ H λx H1=>∃ d u,x=.ref d/\H1 d=some u/\Mut (some u)/\∀ od,Q x (upd H1 d (.frz od u))
theorem zo2 {X:Cx}{e:Expr}{t:TE}(he:PE X e t):PE X e (z1v t):=by
 intro pins s σ H Q I h;refine yd (he pins s σ H _ I h) λu s1 ⟨x,H1,I1,rx,d,o,ex,hd,mu,q⟩=>?_;obtain⟨od,I2⟩:=I1.lock hd mu;exact⟨x,_,I2,rx,q od⟩
theorem zme {X:Cx}(K0:Fr){a b:Expr}{ta tb:TE}{pos:Pos}(hK:X.K=K0)(ha:PE X a ta)(hb:PE X b tb)(hm:behindInMarks .NotIn b=false:=by with_unfolding_all rfl):PT X (.Compare a [.NotIn] [b] pos) (zp9 (tOp (rIn K0 true) ta tb)):=by
 subst hK;exact jh X7 ha hb hm
theorem zj4 (n:Nat):∀ l:List Nat,inV (vN n) (l.map vN)=l.contains n
 |[]=>rfl
 |a::l=>by
  have ih:=zj4 n l;unfold inV at ih ⊢;rw[z3n,z7z,ih,List.contains_cons];congr 1;show ((a:Int)==(n:Int))=(n==a);rw[z4l];simp only[z4x];omega
theorem zn9 (l:List Nat):(l.map vN).all X2=true:=by
 rw[z81,z47];intro x _;rfl
theorem Uv {b:Vbmiab.Bench}(g:kr b){i:Nat}(h:i < b.nx*b.ny):b.cells[i]? =some (Jz b i):=Uu (by rw[g.cl];exact h)
inductive ztn (C:Addr)(vs:List V)(H:Hp)(Q:VK):Prop
 |mk (a:Addr) (b:Vbmiab.Bench):vs=[.ref a]->zq C H a b->Ret H (.int (Vbmiab.free b)) Q->ztn C vs H Q
def z0z (C:Addr):Sp:=λvs H Q _=>ztn C vs H Q
def zwi:zo ["bench","at"] ["bench"] (zj Kg):=by walk_at "sc"
theorem zvv (a c:Int):(if c > a then c else a)=max a c:=by
 rw[Int.max_def];split<;>split<;>omega
theorem Xu (T:qf K mg CB CR CC):xo P w K mg base "free_worth" 2 ["bench"] (z0z CB):=by
 refine T.f_free_worth.con λf fd F=>F.ok zwi (λ_ _ _ _ h=>?_) (λ_ A _ s H vs Q E hr h=>?_)
 ·obtain⟨a,b,rfl,_⟩:=h;rfl
 ·obtain⟨a,b,rfl,B,k⟩:=h;have g:=B.good;have g56:=wf g;refine⟨_,zg (zm (ji (Ux rfl) rfl T.b_sum (by decide+kernel) (za (ko rfl zwi.nd (yp rfl T.range (za (jd Zu (Jt (·.nx) T.cB.cl T.cB.nx (pv 0)) (Jt (·.ny) T.cB.cl T.cB.ny (pv 0))) zd)) (jq (own:=[("at",1)]) rfl) (λ_ _ _ _ _=>(zt (i:=1) zwi.nd rfl (Or.inl rfl))) (λ_ _ _ _ _=>q0) (λ_ _ _ _ _=>(ji (zbs rfl) rfl T.b_max (by decide+kernel) (za (Qi (pv 0) T.cB.cl (zc2 T) hr.m0 (za (pv 1) zd)) (za (Qi (pv 0) T.cB.cl (Xx T) hr.m0 (za (pv 1) zd)) zd))))) zd))),?_⟩
  walk_at "rd"
  refine⟨.inl ⟨by have:=g.nx7;(try dsimp only);omega,by have:=g.nx7;(try dsimp only);omega⟩,?_⟩;refine⟨_,rfl,?_⟩
  try dsimp only
  rw[<-z6m];refine⟨by omega,by omega,λD hD=>?_⟩;refine zoo (λi=>some (.int (zj3 b i))) hD (z36 (zp (by omega))) (λi H' Nt Nf hi sm hN hF=>?_) (λH1 s1 h1=>?_)
  ·have B':=B.same sm;have hc:=Uv g hi;refine⟨rfl,?_⟩;refine⟨_,rfl,a,b,rfl,B',_,rfl,a,b,i,_,rfl,B',hc,?_⟩;refine⟨_,rfl,a,b,rfl,B',_,rfl,a,b,i,_,rfl,B',hc,?_⟩;refine⟨_,_,rfl,?_⟩;rw[zvv];exact hN _ _ (zh.refl _) rfl
  ·rw[z45]at h1;refine⟨D,(List.range (b.nx*b.ny)).map (zj3 b),rfl,zx.of ?_,?_⟩
   ·rw[h1,z4f];rfl
   ·rw[<-zra];exact k _ s1
def zb2 (b:Vbmiab.Bench)(l:List Nat):List Nat:=[(xh b (vy b l)).1,(xh b (vy b l)).2,(xh b ((v9 b l).filter (xm b))).1,(xh b ((v9 b l).filter (xm b))).2,(xh b ((vy b l).filter λi=> !xm b i)).1,(xh b ((vy b l).filter λi=> !xm b i)).2]
inductive zte (C:Addr)(vs:List V)(H:Hp)(Q:VK):Prop
 |mk (a q:Addr) (b:Vbmiab.Bench) (l:List Nat):vs=[.ref a,.ref q]->zq C H a b->(H q=some (.lst (l.map vN))/\l.length=b.ny/\∀(H':Hp) (r:Addr),zh H H'->H' r=some (.lst ((zb2 b l).map vN))->Q (.ref r) H')->zte C vs H Q
def z0q (C:Addr):Sp:=λvs H Q _=>zte C vs H Q
def zbb:zo ["bench","lines","ore","waste","lost","diluting","x","y","at"] ["bench","lines"] (zj Yl):=by walk_at "sc"
theorem zij {b:Vbmiab.Bench}{l:List Nat}{i:Nat}(h:i∈vy b l):i < b.nx*b.ny:=by
 obtain⟨c,hc,rfl⟩:=z4h.mp h;have h2:Vbmiab.place b c.1 c.2∈(qi b).map (λc=>Vbmiab.place b c.1 c.2):=z4h.mpr ⟨c,(z34.mp hc).1,rfl⟩;rw[Vz]at h2;exact z4g.mp h2
theorem zdg (l:List Nat)(f:Nat->Bool):l.filterMap (λi=>if f i=true then some (vN i) else none)=(l.filter f).map vN:=by
 induction l with
 |nil=>rfl
 |cons a l ih=>
  by_cases h:f a=true
  ·rw[z5a (b:=vN a) (by rw[z3m h]),z7k h,ih];rfl
  ·rw[z5b (by rw[z3k h]),z7l h,ih]
theorem Um (T:qf K mg CB CR CC):xo P w K mg base "amounts_lost" 3 ["bench","lines"] (z0q CB):=by
 refine T.f_amounts_lost.con λf fd F=>F.ok zbb (λ_ _ _ _ h=>?_) (λ_ A _ s H vs Q E hr h=>?_)
 ·obtain⟨a,q,b,l,rfl,_⟩:=h;rfl
 ·obtain⟨a,q,b,l,rfl,B,hq,hl,k⟩:=h;have g:=B.good;have g56:=wf g;have ol:=Jj b l;refine⟨_,zc (zn (i:=2) zbb.nd rfl (Or.inr rfl) (ko rfl zbb.nd (Y8 (zo2 (je (Jx T) hr.m0 (za (pv 0) (za (pv 1) zd))))) (jq (own:=[("x",6),("y",7)]) rfl) (λ_ _ _ _ _=>(pg2 K (i:=6) (j:=7) rfl rfl zbb.nd rfl rfl (Or.inl rfl) (Or.inl rfl))) (λ_ _ _ _ _=>q0) (λ_ _ _ _ _=>(Qi (pv 0) T.cB.cl (Zg T) hr.m0 (za (pv 6) (za (pv 7) zd))))))
   (zc (Z6 (i:=3) rfl zbb.nd rfl rfl (Qc rfl rfl rfl rfl) (yp rfl T.range (za (jd Zu (Jt (·.nx) T.cB.cl T.cB.nx (pv 0)) (Jt (·.ny) T.cB.cl T.cB.ny (pv 0))) zd)) (jq (own:=[("at",8)]) rfl) (λ_ _ _ _ _=>(zt (i:=8) zbb.nd rfl (Or.inl rfl))) (λ_ _ _ _ _=>(vh (zme K rfl (pv 8) (pv 2)))) (λ_ _ _ _ _=>(pv 8)))
   (zc (Z6 (i:=4) rfl zbb.nd rfl rfl (Qc rfl rfl rfl rfl) (jo (pv 3)) (jq (own:=[("at",8)]) rfl) (λ_ _ _ _ _=>(zt (i:=8) zbb.nd rfl (Or.inl rfl))) (λ_ _ _ _ _=>(vh (j4 (Qi (pv 0) T.cB.cl (zcz T) hr.m0 (za (pv 8) zd))))) (λ_ _ _ _ _=>(pv 8)))
   (zc (Z6 (i:=5) rfl zbb.nd rfl rfl (Qc rfl rfl rfl rfl) (jo (pv 2)) (jq (own:=[("at",8)]) rfl) (λ_ _ _ _ _=>(zt (i:=8) zbb.nd rfl (Or.inl rfl))) (λ_ _ _ _ _=>(vh (qk (j4 (Qi (pv 0) T.cB.cl (zcz T) hr.m0 (za (pv 8) zd)))))) (λ_ _ _ _ _=>(pv 8)))
   (zg (zm (jd xy (jd xy (Qi (pv 0) T.cB.cl (Y0 T) hr.m0 (za (pv 2) zd)) (Qi (pv 0) T.cB.cl (Y0 T) hr.m0 (za (pv 4) zd))) (Qi (pv 0) T.cB.cl (Y0 T) hr.m0 (za (pv 5) zd)))))))),?_⟩
  refine⟨_,rfl,_,rfl,a,q,b,l,rfl,B,hq,hl,λH1 d s1 nd hd=>?_⟩;refine⟨d,_,rfl,hd,trivial,λod=>?_⟩;have s2:zh H (upd H1 d (.frz od (.dT (dC (j1 b l))))):=λbb o e=>by
   rw[ze (zf e nd)];exact s1 _ _ e
  have d2:(upd H1 d (.frz od (.dT (dC (j1 b l))))) d=some (.frz od (.dT (dC (j1 b l)))):=zb;generalize (upd H1 d (.frz od (.dT (dC (j1 b l)))))=H2 at s2 d2 ⊢;refine⟨d,od,rfl,.inr ⟨_,d2,λD hD=>?_⟩⟩;have el:(dC (j1 b l)).length=(j1 b l).length:=z25 _;refine zrg (n:=(j1 b l).length) (λi=>((j1 b l)[i]?).bind λc=>some (vN (Vbmiab.place b c.1 c.2))) hD (z36 (zp (by omega))) (λi H' hi sm=>?_) (λi H' x H3 Nt Nf hi sm y hN hF=>?_) (λH3 s3 h3=>?_)
  ·exact⟨sm _ _ d2,by rw[el];exact hi⟩
  ·obtain⟨rfl,kk,v,t,e1,rfl,e2⟩:=y;obtain⟨c,hc⟩:∃ c,(j1 b l)[i]? =some c:=⟨_,z28 hi⟩;unfold dC at e1;rw[z27,hc]at e1;cases e1;have B3:=B.same (s2.trans sm);refine⟨t,_,rfl,yw.of e2,rfl,_,_,rfl,_,_,rfl,rfl,rfl,?_⟩
   walk_at "rd"
   exact hN _ _ (zh.refl _) (by rw[hc];rfl)
  ·refine⟨⟨s3 _ _ d2,by rw[el];exact z3c _⟩,?_⟩;have eo:(List.range (j1 b l).length).filterMap (λi=>((j1 b l)[i]?).bind λc=>some (vN (Vbmiab.place b c.1 c.2)))=(vy b l).map vN:=by
    rw[Kc (λc:Nat×Nat=>some (vN (Vbmiab.place b c.1 c.2))),z45];unfold vy;rw[z4f];rfl
   rw[eo]at h3;have s03:=s2.trans s3;have B3:=B.same s03;have opl:(vy b l).length<=56:=by
    unfold vy;rw[z25];omega
   have wl:(v9 b l).length<=56:=by
    refine z32 (z4w _ _) ?_;rw[z4q];exact g56
   clear hD hd d2 s2 s1 s3
   walk_at "rd"
   refine⟨.inl ⟨by have:=g.nx7;(try dsimp only);omega,by have:=g.nx7;(try dsimp only);omega⟩,?_⟩;refine⟨_,rfl,?_⟩
   try dsimp only
   rw[<-z6m];refine⟨by omega,by omega,λD4 hD4=>?_⟩;refine zoo (λi=>if (!(vy b l).contains i)=true then some (vN i) else none) hD4 (z36 (zp (by omega))) (λi H' Nt Nf hi sm hN hF=>?_) (λH4 s4 h4=>?_)
   ·refine⟨rfl,?_⟩;refine⟨_,rfl,_,rfl,D,_,rfl,.inl (zx.of (sm _ _ h3)),rfl,zn9 _,_,rfl,?_⟩;show if (if true=true then !inV (vN i) ((vy b l).map vN) else inV (vN i) ((vy b l).map vN))=true then _ else _
    rw[z3m rfl,zj4];refine jr (λe=>?_) (λe=>?_)
    ·exact⟨_,rfl,hN _ _ (zh.refl _) (z3m e)⟩
    ·exact hF _ (zh.refl _) (z3k e)
   ·rw[zdg]at h4;have h4:H4 D4=some (.lst ((v9 b l).map vN)):=h4;have B4:=B3.same s4;have h34:=s4 _ _ h3;refine⟨_,rfl,D4,rfl,⟨_,zx.of h4⟩,λD5 hD5=>?_⟩;refine Wy (λi=>if xm b i=true then some (vN i) else none) hD5 (z36 (zp (by omega))) (zx.of h4) (λj i H' Nt Nf hi sm hN hF=>?_) (λH5 s5 h5=>?_)
    ·have hc:=Uv g (z4g.mp (z34.mp (z3r hi)).1);have B':=B4.same sm;refine⟨rfl,?_⟩;refine⟨_,rfl,a,b,rfl,B',_,rfl,a,b,i,_,rfl,B',hc,_,rfl,?_⟩;refine jr (λe=>?_) (λe=>?_)
     ·exact⟨_,rfl,hN _ _ (zh.refl _) (z3m e)⟩
     ·exact hF _ (zh.refl _) (z3k e)
    ·rw[zdg]at h5;have B5:=B4.same s5;have h35:=s5 _ _ h34;refine⟨_,rfl,D,rfl,⟨_,zx.of h35⟩,λD6 hD6=>?_⟩;refine Wy (λi=>if (!xm b i)=true then some (vN i) else none) hD6 (z36 (zp (by omega))) (zx.of h35) (λj i H' Nt Nf hi sm hN hF=>?_) (λH6 s6 h6=>?_)
     ·have hc:=Uv g (zij (z3r hi));have B':=B5.same sm;refine⟨rfl,?_⟩;refine⟨_,rfl,a,b,rfl,B',_,rfl,a,b,i,_,rfl,B',hc,_,rfl,?_⟩;refine jr (λe=>?_) (λe=>?_)
      ·exact⟨_,rfl,hN _ _ (zh.refl _) (z3m e)⟩
      ·exact hF _ (zh.refl _) (z3k e)
     ·rw[zdg]at h6;have B6:=B5.same s6;have h36:=s6 _ _ h35;have h56:=s6 _ _ h5;have ll:((v9 b l).filter (xm b)).length<=1000:=z32 (z4w _ _) (by omega);have dl:((vy b l).filter λi=> !xm b i).length<=1000:=z32 (z4w _ _) (by omega);have cl:=g.cl;refine⟨_,rfl,a,b,rfl,B6,_,rfl,a,D,b,vy b l,rfl,B6,h36,λi hi=>by rw[cl];exact zij hi,by omega,λH7 r7 s7 h7=>?_⟩;refine⟨_,rfl,a,b,rfl,B6.same s7,_,rfl,a,D5,b,_,rfl,B6.same s7,s7 _ _ h56,λi hi=>by rw[cl];exact z4g.mp (z34.mp (z34.mp hi).1).1,ll,λH8 r8 s8 h8=>?_⟩;refine⟨r7,r8,_,_,rfl,rfl,s8 _ _ h7,h8,(by show 4<=sizeLine;decide),λr9 hr9=>?_⟩;have s9:=zh.upd (o:=.lst ([vN (xh b (vy b l)).1,vN (xh b (vy b l)).2]++[vN (xh b ((v9 b l).filter (xm b))).1,vN (xh b ((v9 b l).filter (xm b))).2])) hr9;have h9:(upd H8 r9 (.lst ([vN (xh b (vy b l)).1,vN (xh b (vy b l)).2]++[vN (xh b ((v9 b l).filter (xm b))).1,vN (xh b ((v9 b l).filter (xm b))).2]))) r9=_:=zb;generalize (upd H8 r9 _)=H9 at s9 h9 ⊢;have s69:=(s7.trans s8).trans s9;refine⟨_,rfl,a,b,rfl,B6.same s69,_,rfl,a,D6,b,_,rfl,B6.same s69,s69 _ _ h6,λi hi=>by rw[cl];exact zij (z34.mp hi).1,dl,λH10 r10 s10 h10=>?_⟩;refine⟨r9,r10,_,_,rfl,rfl,s10 _ _ h9,h10,(by show 6<=sizeLine;decide),λr11 hr11=>?_⟩;exact k _ r11 ((((s03.trans s4).trans s5).trans s6).trans ((s69.trans s10).trans (zh.upd hr11))) zb
section
variable {prog:Program}{w:World}{A:Around}{d:Addr}{o:Obj}{es:Array DictEntry}{ep:Nat}
theorem zmx (hh:A.handled=none)(I:Addr)(hne:d≠I)(hdt:o.data=.dict es ep):
  Walks prog w A I [I,d] [I] es.size (λi v=>∃ en,es[i]? =some en/\en.key=v) (λi h=>h.IsKeyIter I d i es.size ep/\h.get? d=some o) where
 sub:=λb hb=>by simp at hb;simp[hb]
 frame:=λ_ _ _ st hk=>⟨st.1.at λo e=>hk I (by simp) o e,hk d (by simp) o st.2⟩
 item:=λi s Q E hi st hQ=>by
  refine Ql st.1 st.2 hdt rfl (z8d hi) λh' st' sb=>?_;exact hQ _ h' s.toks ⟨_,z8d hi,rfl⟩ ⟨st',(sb.2 d hne).trans st.2⟩ λb o hb e=>(sb.2 b (λh=>hb (by simp[h]))).trans e
 done:=λs Q E st hQ=>Jh hh st.1 st.2 hdt rfl (z3c _) λh' eb=>hQ h' s.toks λb o hb e=>eb b o (λh=>hb (by simp[h])) e
 self:=λ_ _ _ _ st hQ=>wpAny_pyIter_keyiter st.1 hQ
theorem zrf (lo:(d==sysModules)=false)(hx:o.ExactDict)(hdt:o.data=.dict es ep):PySem.W.KdlSrc prog w "dict" d d es.size (λi v=>∃ en,es[i]? =some en/\en.key=v) (λh=>h.get? d=some o) where
 type:=λ_ e=>⟨o,e,hx.1⟩
 there:=λ_ e=>⟨z3j e,z3j e⟩
 keep:=λ_ _ e hk=>hk d (.inl rfl) o e
 notList:=by decide
 notTuple:=by decide
 hint:=λ_ _ _ _ e hq=>PySem.W.kdl_hint_dict ⟨o,e,hx.1⟩ hq
 iter:=λ_ _ hh e=>⟨_,_,(λ_ _ hq=>Vi lo e hx hdt hq),zmx hh _ (z4a (z3j e)) hdt,⟨⟨_,z3o _ rfl,rfl,rfl⟩,z29 _ e⟩⟩
end
section
variable {X:Cx}
theorem Ww (hc:X.calm=true):Zz X (.type "list") (λxs H Q=>∃ d kvs,xs=[.ref d]/\H d=some (.dT kvs)/\∀(l:Addr) (qs:List Addr),H l=none->qs.length=kvs.length->(∀(i:Nat) (k:List j2) (v:V),kvs[i]? =some (k,v)->∃ q,qs[i]? =some q/\H q=some (.tup (k.map kV)))->Q (.ref l) (upd H l (.lst (qs.map V.ref)))):=by
 intro pins s σ H xs us Q I r h;obtain⟨d,kvs,rfl,e,q⟩:=h;rw[jf.ref1 r];obtain⟨z,hd,ys,pr,o,es,ep,ho,hx,hdt,he,_⟩:=(show j6 X.prog X.w H s.heap d (.dT kvs) from I.hok d _ e);have l1:es.size=ys.length:=size_of_entries he;have l2:kvs.length=ys.length:=z39 pr;refine z9w (zrf hd hx hdt) (I.ok.hd hc) ho (by omega) λh' tk acc c hk hD hacc=>?_;refine⟨.ref _,_,zz.listed (xs:=(ys.map (·.2.1)).map V.ref) I hk hD (K4 ?_ λi x u e1 e2=>?_) (by rw[z25,z25];omega),rfl,q _ (ys.map (·.2.1)) I.fresh (by rw[z25];omega) λi k v e3=>?_⟩
 ·have h1:=hacc.1;have h2:acc.toList.length=acc.size:=z5i;rw[z25,z25];omega
 ·rw[z62]at e2;obtain⟨en,h1,h2⟩:=hacc.2 i u e2;rw[z27,z27]at e1;have h3:=entry_at he i;rw[h1]at h3;cases e4:ys[i]? with
  |none=>
   rw[e4]at e1;cases e1
  |some y=>
   rw[e4]at e1 h3;cases e1;cases h3;exact h2.symm
 ·obtain⟨b,hb,e1,e2,_⟩:=Xg pr e3;exact⟨b.2.1,by rw[z27,hb];rfl,e2⟩
def zw5 (tk tv:TE):TE:=λσ H Q=>∀ p,H p=none->tk σ (upd H p (.dT [])) λx H1=>tv σ H1 λy H2=>H2 p=some (.dT [])/\∃ b ks,x=.ref b/\H2 b=some (.tup (ks.map kV))/\Q (.ref p) (upd H2 p (.dT [(ks,y)]))
theorem zmb {k v:Expr}{tk tv:TE}{pos:Pos}(hu:X.A.units+1 < cLine)(hk:PE X k tk)(hv:PE X v tv):PE X (.Dict [some k] [v] pos) (zw5 tk tv):=by
 intro pins s σ H Q I q;have hn:=I.hok.fresh (z3c s.heap.objs.size);have I1:=I.laid (a:=s.heap.objs.size) (o:=.dT []) (h':=s.heap.push {cls:=.type "dict",data:=.dict #[]}) (t':=s.toks) (λ_ _ q=>z29 _ q) (z3c _) (zfs s.heap I.big);refine wpAny_Dict_any rfl rfl (by simp) (by show 1<=15;decide) ?_;refine pairTrees_cons_walk (yd (hk pins _ σ _ _ I1 (q _ hn)) λu1 s1 ⟨x,H1,J1,rx,q1⟩=>yd (hv pins s1 σ H1 _ J1 q1) λu2 s2 ⟨y,H2,J2,ry,e,b,ks,ex,eb,q2⟩=>pairTrees_nil_walk ?_);subst ex;cases (show u1=Value.ref b from rx);obtain⟨z,hd,xs,rel,dd⟩:=zul J2.hok e;cases rel;unfold storeAll;rw[z7i];refine z26 (z26 (wpAny_dictSet_heap (hsz:=z4c _) (knd:=tupleKind (jn X.prog X.w)) (Nat.lt_of_succ_lt hu) (Xc J2.hok eb) dd λh' dd' hs=>z3h ?_));dsimp only;rw[z67];refine z3h ⟨.ref _,_,?_,rfl,q2⟩;obtain⟨o,es,ep,ho,h2,h3,h4,_,h5⟩:=dd';refine zdd J2 (by rw[e];exact True.intro) hs ⟨o,ho⟩ ⟨(by show 1<=sizeLine;decide),hd,_,((show KT H2 [] [] from .nil).put ks eb ry).keeps λc ys ec=>?_,o,es,ep,ho,h2,h3,h4,h5⟩;rw[ze (ja ec e (λz=>nomatch z))];exact ec
end
def kZ (z:Int×Int):List j2:=[.inl z.1,.inl z.2]
def zV (z:Int×Int):List V:=[.int z.1,.int z.2]
def cV (c:Nat×Nat):List V:=[vN c.1,vN c.2]
theorem zok {z:Int×Int}{c:Nat×Nat}:kZ z=kC c↔qd z=some c:=by
 rw[Ga];unfold kZ kC;constructor
 ·intro h;injection h with h1 h2
  injection h2 with h2 _
  exact⟨z6e h1,z6e h2⟩
 ·rintro⟨h1,h2⟩;rw[h1,h2]
theorem zai (cs:List (Nat×Nat))(z:Int×Int):(ye (dC cs) (kZ z)).isSome=(match qd z with
  |some c=>decide (c∈cs)
  |none=>false):=by
 cases e:qd z with
 |some c=>
  rw[zok.mpr e,zej];by_cases h:c∈cs
  ·rw[z3m h];exact (z3u h).symm
  ·rw[z3k h];exact (z4u h).symm
 |none=>
  induction cs with
  |nil=>rfl
  |cons d cs ih=>
   show (ye ((kC d,V.bl true)::dC cs) (kZ z)).isSome=_;rw[xi (λh=>by rw[zok.mp h.symm]at e;cases e)];exact ih
theorem Rows.snoc_inv {H:Hp}{r:List V}:∀{rs:List (List V)}{as:List Addr},Rows H as (rs++[r])->∃ as0 a,as=as0++[a]/\Rows H as0 rs/\H a=some (.tup r)
 |[],_,.cons x .nil=>⟨[],_,rfl,.nil,x⟩
 |_::_,_,.cons x b=>by
  obtain⟨as0,a,e,h1,h2⟩:=Rows.snoc_inv b;exact⟨_::as0,a,by rw[e];rfl,.cons x h1,h2⟩
theorem Rows.same {H H':Hp}{as:List Addr}{rs:List (List V)}(h:Rows H as rs)(s:zh H H'):Rows H' as rs:=Rows.keep (λ_ _ e=>s _ _ e) h
theorem Rows.at' {H:Hp}:∀{as:List Addr}{rs:List (List V)}{i:Nat}{r:List V},Rows H as rs->rs[i]? =some r->∃ a,as[i]? =some a/\H a=some (.tup r)
 |_,_,i,a,.nil,h=>by simp at h
 |_,_,0,a,.cons x b,h=>by
  simp at h;subst h;exact⟨_,rfl,x⟩
 |_,_,i+1,a,.cons x b,h=>by
  obtain⟨r,e,q⟩:=Rows.at' (i:=i) b (by simpa using h);exact⟨r,by simpa using e,q⟩
inductive zm8 (vs:List V)(H:Hp)(Q:VK):Prop
 |mk (t:Addr) (c:Nat×Nat):vs=[.ref t]->H t=some (.tup (cV c))->(∀(H':Hp) (l:Addr) (as:List Addr),zh H H'->H l=none->H' l=some (.lst (as.map V.ref))->Rows H' as ((qg c).map zV)->Q (.ref l) H')->zm8 vs H Q
def zyo:Sp:=λvs H Q _=>zm8 vs H Q
def zpt:zo ["cell","x","y"] ["cell"] (zj Yn):=by walk_at "sc"
theorem Up (T:qf K mg CB CR CC):xo P w K mg base "cells_beside" 1 ["cell"] zyo:=by
 refine T.f_cells_beside.con λf fd F=>F.ok zpt (λ_ _ _ _ h=>?_) (λ_ A _ s H vs Q E hr h=>?_)
 ·obtain⟨t,c,rfl,_⟩:=h;rfl
 ·obtain⟨t,c,rfl,ht,k⟩:=h;refine⟨_,zc (zn (i:=1) zpt.nd rfl (Or.inl rfl) (zu jm (pv 0) zi (λ_ _=>rfl)))
   (zc (zn (i:=2) zpt.nd rfl (Or.inl rfl) (zu jm (pv 0) zi (λ_ _=>rfl)))
   (zg (zm (zy (za (qj (za (jd yj (pv 1) zi) (za (pv 2) zd))) (za (qj (za (pv 1) (za (jd yj (pv 2) zi) zd))) (za (qj (za (jd Zc (pv 1) zi) (za (pv 2) zd))) (za (qj (za (pv 1) (za (jd Zc (pv 2) zi) zd))) zd)))))))),?_⟩
  walk_at "rd"
  refine⟨t,_,_,_,rfl,rfl,yw.of ht,zk (j:=0) rfl,?_⟩
  walk_at "rd"
  refine⟨t,_,_,_,rfl,rfl,yw.of ht,zk (j:=1) rfl,?_⟩
  walk_at "rd"
  refine⟨(by show 2<=sizeLine;decide),λt1 h1=>?_⟩
  walk_at "rd"
  refine⟨(by show 2<=sizeLine;decide),λt2 h2=>?_⟩
  walk_at "rd"
  refine⟨(by show 2<=sizeLine;decide),λt3 h3=>?_⟩
  walk_at "rd"
  refine⟨(by show 2<=sizeLine;decide),λt4 h4=>?_⟩;refine⟨(by show 4<=sizeLine;decide),λl hl=>?_⟩;have s1:=zh.upd (o:=.tup [V.int ((c.1:Int)+1),vN c.2]) h1;have s2:=zh.upd (o:=.tup [vN c.1,V.int ((c.2:Int)+1)]) h2;have s3:=zh.upd (o:=.tup [V.int ((c.1:Int) - 1),vN c.2]) h3;have s4:=zh.upd (o:=.tup [vN c.1,V.int ((c.2:Int) - 1)]) h4;have s5:=zh.upd (o:=.lst [V.ref t1,.ref t2,.ref t3,.ref t4]) hl;refine k _ l [t1,t2,t3,t4] (s1.trans (s2.trans (s3.trans (s4.trans s5)))) ((s1.trans (s2.trans (s3.trans s4))).free hl) zb ?_;exact .cons (s5 _ _ (s4 _ _ (s3 _ _ (s2 _ _ zb)))) (.cons (s5 _ _ (s4 _ _ (s3 _ _ zb))) (.cons (s5 _ _ (s4 _ _ zb)) (.cons (s5 _ _ zb) .nil)))
inductive ztx (vs:List V)(H:Hp)(Q:VK):Prop
 |mk (t d:Addr) (O:List (Nat×Nat)) (c:Nat×Nat):vs=[.ref t,.ref d]->H t=some (.tup (cV c))->Rd H d (.dT (dC O))->c∈O->O.length<=56->(∀(H':Hp) (q:Addr) (as:List Addr) (p:List (Nat×Nat)),zh H H'->H q=none->H' q=some (.lst (as.map V.ref))->Rows H' as (p.map cV)->Ui O nbN c p []->Q (.ref q) H')->ztx vs H Q
def z09:Sp:=λvs H Q _=>ztx vs H Q
def zpv:zo ["first","ore","piece","waiting","cell","other"] ["first","ore"] (zj Kl):=by walk_at "sc"
def pfW (H:Hp)(t d p q:Addr)(O:List (Nat×Nat))(c:Nat×Nat)(m:Nat)(σ:L2.St)(H':Hp):Prop:=
 ∃(v4 v5:Option V) (ps ws:List (Nat×Nat)) (was:List Addr),σ=[some (.ref t),some (.ref d),some (.ref p),some (.ref q),v4,v5]/\zh H H'/\H' p=some (.dT (dC ps))/\H' q=some (.lst (was.map V.ref))/\Rows H' was (ws.map cV)/\Ui O nbN c ps ws/\m=zfr O ps ws/\ws.length<=ps.length
theorem zec {H:Hp}:∀{as:List Addr}{rs:List (List V)},as.length=rs.length->(∀(i:Nat) (r:List V),rs[i]? =some r->∃ a,as[i]? =some a/\H a=some (.tup r))->Rows H as rs
 |[],[],_,_=>.nil
 |[],_::_,h,_=>by cases h
 |_::_,[],h,_=>by cases h
 |a::as,r::rs,h,k=>.cons (by obtain⟨b,e1,e2⟩:=k 0 r rfl;cases e1;exact e2) (zec (by simpa using h) λi r' e=>by
  obtain⟨b,e1,e2⟩:=k (i+1) r' (by simpa using e);exact⟨b,by simpa using e1,e2⟩)
theorem X3 {α β:Type}{l:List α}{i:Nat}{x:α}(f:α->Option β)(h:l[i]? =some x):(l.take (i+1)).filterMap f=(l.take i).filterMap f++(f x).toList:=by
 rw[jw h,z43,z4m];cases f x<;>rfl
theorem zc3 (T:qf K mg CB CR CC):xo P w K mg base "piece_from" 2 ["first","ore"] z09:=by
 refine T.f_piece_from.con λf fd F=>F.ok zpv (λ_ _ _ _ h=>?_) (λ_ A _ s H vs Q E hr h=>?_)
 ·obtain⟨t,d,O,c,rfl,_⟩:=h;rfl
 ·obtain⟨t,d,O,c,rfl,ht,hd,hc,hO,k⟩:=h;refine⟨_,zc (zn (i:=2) zpv.nd rfl (Or.inl rfl) (zmb (xf hr) (pv 0) vn))
   (zc (zn (i:=3) zpv.nd rfl (Or.inl rfl) (zy (za (pv 0) zd)))
   (zc (Kb z3v (jh V4 (ji jj rfl T.b_len z4z (za (pv 3) zd)) zi (jl _))
    (zc (zn (i:=4) zpv.nd rfl (Or.inl rfl) (zv7 z3y PySem.F.slot_list_pop PySem.F.type_list_pop zvw (pv 3)))
    (zg (jt z3v rfl (jo (je (Up T) hr.m0 (za (pv 4) zd))) (zt (i:=5) zpv.nd rfl (Or.inl rfl))
     (zg (ju (PW.pt (zin (Jo (Gr (xf hr) (pv 5) (pv 1))) (zd3 (Jo (Y7 (xf hr) (pv 5) (pv 2)))))) (zc (Zn (xf hr) (pv 2) (pv 5) vn rfl) (zg (yb (xp z3y z4k z4j yo (pv 3) (za (pv 5) zd))))) (jb)))))))
   (zg (zm (qv (Ww rfl) rfl T.list (by decide+kernel) (za (pv 2) zd)))))),?_⟩
  intro p hp;have nt:t≠p:=zf ht hp;refine⟨_,rfl,zb,t,kC c,rfl,(by rw[ze nt];exact ht),?_⟩;rw[zs0];have s1:zh H (upd H p (.dT [(kC c,.bl true)])):=zh.upd hp;have p1:(upd H p (.dT [(kC c,.bl true)])) p=some (.dT (dC [c])):=zb;generalize (upd H p (.dT [(kC c,.bl true)]))=H1 at s1 p1 ⊢
  walk_at "rd"
  refine⟨(by show 1<=sizeLine;decide),λq hq=>?_⟩;have s2:zh H1 (upd H1 q (.lst [V.ref t])):=zh.upd hq;have q2:(upd H1 q (.lst [V.ref t])) q=some (.lst ([t].map V.ref)):=zb;have hp2:=s2 _ _ p1;have ht2:=(s1.trans s2) _ _ ht;have nqH:H q=none:=s1.free hq;have npq:p≠q:=zf p1 hq;have s12:=s1.trans s2;generalize (upd H1 q (.lst [V.ref t]))=H2 at s2 q2 hp2 ht2 s12 ⊢;refine⟨pfW H t d p q O c,⟨_,_,_,[c],[c],[t],rfl,s12,hp2,q2,.cons ht2 .nil,Ui.start hc,rfl,z3c _⟩,?_⟩;rintro m σ H' ⟨v4,v5,ps,ws,was,rfl,sm,hp',hq',hrw,D,rfl,hwp⟩;have hwl:was.length=ws.length:=by have:=hrw.len;rwa [z25]at this
  refine⟨_,rfl,q,_,rfl,.inl (zx.of hq'),?_⟩
  walk_at "rd"
  refine jr (λe=>?_) (λe=>?_)
  ·have hpos:0 < ws.length:=by
    have:=z30 e;rw[z25]at this;omega
   obtain⟨ws0,cc,rfl⟩:∃ ws0 cc,ws=ws0++[cc]:=by
    rcases z8z ws with z|⟨l,x,z⟩
    ·rw[z]at hpos;cases hpos
    ·exact⟨l,x,by rw[z,z80]⟩
   rw[z3g]at hrw;obtain⟨was0,a,rfl,hrw0,ha⟩:=Rows.snoc_inv hrw;refine⟨λσ' H''=>∃ m',m' < zfr O ps (ws0++[cc])/\pfW H t d p q O c m' σ' H'',λσ' H'' h=>h,?_⟩;refine⟨_,rfl,.inl ⟨rfl,_,zx.of hq'⟩,q,_,.ref a,rfl,rfl,hq',?_,?_⟩
   ·rw[z3g,z3a,z5d (by simp)];simp
   ·have ed:((was0++[a]).map V.ref).dropLast=was0.map V.ref:=by
     rw[z3g];exact List.dropLast_concat
    rw[ed];have k3:∀ b o,b≠q->H' b=some o->(upd H' q (.lst (was0.map V.ref))) b=some o:=λb o n e=>by rw[ze n];exact e
    have q3:(upd H' q (.lst (was0.map V.ref))) q=some (.lst (was0.map V.ref)):=zb;generalize (upd H' q (.lst (was0.map V.ref)))=H3 at k3 q3 ⊢;have sm3:zh H H3:=λb o e=>k3 b o (zf e nqH) (sm _ _ e);have p3:=k3 _ _ npq hp';have tq:∀{b r},H' b=some (.tup r)->H3 b=some (.tup r):=λ{b r} e=>k3 _ _ (ja e hq' (by intro z;cases z)) e;have hrw3:Rows H3 was0 (ws0.map cV):=hrw0.keep λ_ _ e=>tq e;refine⟨_,rfl,a,cc,rfl,tq ha,λH4 l4 as s4 nl4 hl4 hrz=>?_⟩;have p4:=s4 _ _ p3;have q4:=s4 _ _ q3;have hal:as.length=4:=hrz.len;have l4p:l4≠p:=λz=>by rw[z,p3]at nl4;cases nl4
    have l4q:l4≠q:=λz=>by rw[z,q3]at nl4;cases nl4
    refine⟨l4,rfl,⟨_,zx.of hl4⟩,?_⟩;refine J6 (xs:=as.map V.ref) (λi σ H5=>∃(v5:Option V) (was':List Addr),σ=[some (.ref t),some (.ref d),some (.ref p),some (.ref q),some (.ref a),v5]/\(∀ b o,b≠p->b≠q->H4 b=some o->H5 b=some o)/\
     H5 p=some (.dT (dC ((((qg cc).take i).filterMap qd).foldl (Zi O) (ps,ws0)).1))/\H5 q=some (.lst (was'.map V.ref))/\Rows H5 was' (((((qg cc).take i).filterMap qd).foldl (Zi O) (ps,ws0)).2.map cV))
     ⟨_,was0,rfl,λb o _ _ e=>e,p4,q4,hrw3.same s4⟩ (λi σ H5 _ ⟨v5,was',_,k5,_⟩=>zx.of (k5 _ _ l4p l4q hl4)) ?_ ?_
    ·rintro i x σ H5 D' hx ⟨v5,was',rfl,k5,p5,q5,r5⟩ ea;rw[z27]at hx;obtain⟨az,haz,rfl⟩:=z3q.mp hx;obtain⟨rz,hrz1,hrz2⟩:=hrz.at haz;rw[z27]at hrz1;obtain⟨z,hz,rfl⟩:=z3q.mp hrz1;have sm5:zh H H5:=λb o e=>k5 b o (zf e hp) (zf e nqH) (s4 _ _ (sm3 _ _ e));have tz:H5 az=some (.tup ((kZ z).map kV)):=k5 _ _ (ja hrz2 p4 (by intro z;cases z)) (ja hrz2 q4 (by intro z;cases z)) hrz2;have efs:((qg cc).take (i+1)).filterMap qd=((qg cc).take i).filterMap qd++(qd z).toList:=X3 qd hz;obtain⟨new,efold,enew,endp,_⟩:=J5 (O:=O) (((qg cc).take i).filterMap qd) ps ws0;rw[efold]at p5 r5;have nd':(ps++new).Nodup:=z6c.mpr ⟨D.nd,endp,λa ha b hb e=>(enew b hb).2.2 (e▸ha)⟩;have sub':∀ c,c∈ps++new->c∈O:=λc hc=>(z33.mp hc).elim (D.sub c) λh=>(enew c h).2.1;have len':(ps++new).length<=56:=z32 (y8 nd' sub') hO;have hdz:Qe H5 d (.ref az) (ye (dC O) (kZ z)):=.inr ⟨_,_,az,Yj hd sm5,rfl,tz,rfl⟩;have hpz:Qe H5 p (.ref az) (ye (dC (ps++new)) (kZ z)):=.inr ⟨_,_,az,.inl p5,rfl,tz,rfl⟩;refine zi0 (ye (dC O) (kZ z)).isSome (!(ye (dC (ps++new)) (kZ z)).isSome) (λQ' q'=>⟨_,rfl,_,rfl,d,_,rfl,hdz,_,rfl,q'⟩) (λ_ Q' q'=>⟨_,rfl,_,rfl,p,_,rfl,hpz,_,rfl,q'⟩) ?_;rw[zai,zai];have stay:qd z=none\/(∃ o,qd z=some o/\¬(o∈O/\¬o∈ps++new))->(((qg cc).take (i+1)).filterMap qd).foldl (Zi O) (ps,ws0)=(ps++new,ws0++new):=λh=>by
      rw[efs,List.foldl_append,efold];rcases h with h|⟨o,h,h2⟩
      ·rw[h];rfl
      ·rw[h];show Zi O (ps++new,ws0++new) o=_;unfold Zi;rw[z3k h2]
     refine jr (λe=>?_) (λe=>?_)
     ·cases eo:qd z with
      |none=>
       rw[eo]at e;cases e
      |some o=>
       rw[eo]at e;have ho:o∈O/\¬o∈ps++new:=by
        have e:(decide (o∈O)&& !decide (o∈ps++new))=true:=e;rw[z3f,z5e]at e;exact⟨z30 e.1,of_decide_eq_false e.2⟩
       have kz:kZ z=kC o:=zok.mpr eo;have go:(((qg cc).take (i+1)).filterMap qd).foldl (Zi O) (ps,ws0)=((ps++new)++[o],(ws0++new)++[o]):=by
        rw[efs,List.foldl_append,efold,eo];show Zi O (ps++new,ws0++new) o=_;unfold Zi;rw[z3m ho]
       rw[kz]at tz;have dl:(dC (ps++new)).length < sizeLine:=by
        unfold dC;rw[z25];exact zp (by omega)
       refine⟨_,rfl,_,rfl,p,_,rfl,Xn.t p5 tz dl,?_⟩;rw[zd2 ho.2];have k6:∀ b o',b≠p->H5 b=some o'->(upd H5 p (.dT (dC (ps++new++[o])))) b=some o':=λb o' n e=>by rw[ze n];exact e
       have p6:(upd H5 p (.dT (dC (ps++new++[o])))) p=some (.dT (dC (ps++new++[o]))):=zb;generalize (upd H5 p (.dT (dC (ps++new++[o]))))=H6 at k6 p6 ⊢;have q6:=k6 _ _ npq.symm q5;have wl:was'.length<=200:=by
        have h1:=r5.len;rw[z25,z3a]at h1;rw[z3a]at len' hwp;omega
       refine⟨_,rfl,.inl ⟨rfl,_,zx.of q6⟩,_,rfl,q,_,.ref az,rfl,rfl,q6,by rw[z25];exact zp (by omega),?_⟩;refine ea.nx _ _ ⟨_,was'++[az],rfl,λb o' n1 n2 e=>?_,?_,?_,?_⟩
       ·rw[ze n2];exact k6 _ _ n1 (k5 _ _ n1 n2 e)
       ·rw[ze npq,go];exact p6
       ·rw[zb,z3g];rfl
       ·rw[go,z3g];refine Rows.snoc ?_ (r5.keep λb r e=>?_)
        ·rw[ze (ja tz q5 (by intro z;cases z))];exact k6 _ _ (ja tz p5 (by intro z;cases z)) tz
        ·rw[ze (ja e q5 (by intro z;cases z))];exact k6 _ _ (ja e p5 (by intro z;cases z)) e
     ·have no:qd z=none\/(∃ o,qd z=some o/\¬(o∈O/\¬o∈ps++new)):=by
       cases eo:qd z with
       |none=>exact .inl rfl
       |some o=>
        refine .inr ⟨o,rfl,λh=>e ?_⟩;rw[eo];show (decide (o∈O)&& !decide (o∈ps++new))=true;rw[z3u h.1,z4u h.2];rfl
      refine ea.nx _ _ ⟨_,was',rfl,k5,?_,q5,?_⟩
      ·rw[stay no];exact p5
      ·rw[stay no];exact r5
    ·rintro σ H5 ⟨v5,was',rfl,k5,p5,q5,r5⟩;have et:(qg cc).take (as.map V.ref).length=qg cc:=by
      rw[z25,hal];rfl
     rw[et]at p5 r5;have tn:=D.turn;have wl:(((qg cc).filterMap qd).foldl (Zi O) (ps,ws0)).2.length<=(((qg cc).filterMap qd).foldl (Zi O) (ps,ws0)).1.length:=by
      obtain⟨new,efold,_⟩:=J5 (O:=O) ((qg cc).filterMap qd) ps ws0;rw[efold];rw[z3a]at hwp;show (ws0++new).length<=(ps++new).length;rw[z3a,z3a];omega
     exact⟨_,tn.2,_,_,_,_,was',rfl,λb o e=>k5 b o (zf e hp) (zf e nqH) (s4 _ _ (sm3 _ _ e)),p5,q5,r5,tn.1,rfl,wl⟩
  ·have h0:ws=[]:=by
    refine z8l.mp (z6h λz=>e (z3u ?_));rw[z25];omega
   subst h0;refine⟨_,rfl,p,_,rfl,hp',λl qs nl hql hqs=>?_⟩;have s9:zh H' (upd H' l (.lst (qs.map V.ref))):=zh.upd nl;refine k _ l qs ps (sm.trans s9) (sm.free nl) zb (zec ?_ λi r hr=>?_) D
   ·rw[hql,z25];exact z25 _
   ·rw[z27]at hr;obtain⟨c1,hc1,rfl⟩:=z3q.mp hr;obtain⟨qa,e1,e2⟩:=hqs i (kC c1) (.bl true) (by unfold dC;rw[z27,hc1];rfl);exact⟨qa,e1,s9 _ _ e2⟩
abbrev Js:=List (Nat×Nat)
def zk3 (H:Hp)(O:Js)(q:Addr)(x:(Nat×Nat)×Js):Prop:=∃ as,H q=some (.lst (as.map V.ref))/\Rows H as (x.2.map cV)/\x.2.head? =some x.1/\x.2.length<=56/\∀ c,c∈x.2->c∈O
abbrev zuh (H:Hp)(O:Js):List Addr->List ((Nat×Nat)×Js)->Prop:=Paired (zk3 H O)
theorem zk3.keep {H H':Hp}{O:Js}{q:Addr}{x:(Nat×Nat)×Js}(h:zk3 H O q x)(k:∀ b o,((∃ r,o=.tup r)\/(b=q/\∃ xs,o=.lst xs))->H b=some o->H' b=some o):zk3 H' O q x:=by
 obtain⟨as,h1,h2,h3⟩:=h;exact⟨as,k _ _ (.inr ⟨rfl,_,rfl⟩) h1,h2.keep λb r e=>k _ _ (.inl ⟨r,rfl⟩) e,h3⟩
theorem qe {α β:Type}{F:α->β->Prop}{a:α}{b:β}(h:F a b):∀{l₁:List α}{l₂:List β},Paired F l₁ l₂->Paired F (l₁++[a]) (l₂++[b])
 |_,_,.nil=>.cons h .nil
 |_,_,.cons x t=>.cons x (qe h t)
theorem jk {α β:Type}{F G:α->β->Prop}:∀{l₁:List α}{l₂:List β},Paired F l₁ l₂->(∀ a b,a∈l₁->F a b->G a b)->Paired G l₁ l₂
 |_,_,.nil,_=>.nil
 |_,_,.cons x t,k=>.cons (k _ _ z3e x) (jk t λa b m=>k a b (z3d _ m))
inductive zty (C:Addr)(vs:List V)(H:Hp)(Q:VK):Prop
 |mk (a q:Addr) (b:Vbmiab.Bench) (l:List Nat):vs=[.ref a,.ref q]->zq C H a b->(H q=some (.lst (l.map vN))/\l.length=b.ny/\∀(H':Hp) (r:Addr) (qs:List Addr) (pcs:List ((Nat×Nat)×Js)),zh H H'->H' r=some (.lst (qs.map V.ref))->zuh H' (j1 b l) qs pcs->pcs.map (λx=>Q9 b x.1 x.2)=Vbmiab.pieces b l->Q (.ref r) H')->zty C vs H Q
def z1a (C:Addr):Sp:=λvs H Q _=>zty C vs H Q
def zis:zo ["bench","lines","ore","placed","pieces","cell","piece","member"] ["bench","lines"] (zj We):=by walk_at "sc"
theorem ze9 (T:qf K mg CB CR CC):xo P w K mg base "pieces_of" 3 ["bench","lines"] (z1a CB):=by
 refine T.f_pieces_of.con λf fd F=>F.ok zis (λ_ _ _ _ h=>?_) (λ_ A _ s H vs Q E hr h=>?_)
 ·obtain⟨a,q,b,l,rfl,_⟩:=h;rfl
 ·obtain⟨a,q,b,l,rfl,B,hq,hl,k⟩:=h;have gd:=B.good;have g56:=wf gd;have n1:1<=b.nx*b.ny:=Nat.mul_pos gd.nx0 gd.ny0;refine⟨_,zc (zn (i:=2) zis.nd rfl (Or.inl rfl) (je (Jx T) hr.m0 (za (pv 0) (za (pv 1) zd))))
   (zc (zn (i:=3) zis.nd rfl (Or.inl rfl) Gs)
   (zc (zn (i:=4) zis.nd rfl (Or.inl rfl) (zy zd))
   (zc (Ka (jt z3v rfl (Y8 (pv 2)) (zt (i:=5) zis.nd rfl (Or.inl rfl))
    (zg (ju (Jo (Y7 (xf hr) (pv 5) (pv 3))) (zc (zn (i:=6) zis.nd rfl (Or.inl rfl) (je (zc3 T) hr.m0 (za (pv 5) (za (pv 2) zd))))
     (zc (yb (xp z3y z4k z4j yo (pv 4) (za (pv 6) zd)))
     (zg (jt z3v rfl (jo (pv 6)) (zt (i:=7) zis.nd rfl (Or.inl rfl))
      (zg (Zn (xf hr) (pv 3) (pv 7) vn rfl)))))) (jb)))))
   (zg (zm (pv 4)))))),?_⟩
  refine⟨_,rfl,_,rfl,a,q,b,l,rfl,B,hq,hl,λH1 d s1 nd hd=>?_⟩;have ol:=Jj b l;have ond:=Gn b l;have pof:=λ{pre post:Js}{c:Nat×Nat} (e:j1 b l=pre++c::post)=>zpb (b:=b) (l:=l) n1 e;have sy:=zj9 (j1 b l);have pe:=zb7 b l;generalize hO:j1 b l=O at hd ol ond pof sy pe k ⊢;intro pa hpa;have s2:zh H1 (upd H1 pa (.dT [])):=zh.upd hpa;have a2:(upd H1 pa (.dT [])) pa=some (.dT (dC [])):=zb;generalize (upd H1 pa (.dT []))=H2 at s2 a2 ⊢;refine⟨z4c _,λpr hpr=>?_⟩;have s3:zh H2 (upd H2 pr (.lst [])):=zh.upd hpr;have r3:(upd H2 pr (.lst [])) pr=some (.lst (([]:List Addr).map V.ref)):=zb;have a3:=s3 _ _ a2;have d3:=s3 _ _ (s2 _ _ hd);have npa:pa≠d:=λz=>by rw[z,hd]at hpa;cases hpa
  have npr:pr≠d:=λz=>by rw[z,s2 _ _ hd]at hpr;cases hpr
  have nar:pa≠pr:=λz=>by rw[<-z,a2]at hpr;cases hpr
  have s03:=(s1.trans s2).trans s3;have hpaH:H pa=none:=s1.free hpa;have hprH:H pr=none:=(s1.trans s2).free hpr;generalize (upd H2 pr (.lst []))=H3 at s3 r3 a3 d3 s03 ⊢;refine⟨d,_,d3,trivial,λod=>?_⟩;have d4:(upd H3 d (.frz od (.dT (dC O)))) d=some (.frz od (.dT (dC O))):=zb;have a4:(upd H3 d (.frz od (.dT (dC O)))) pa=some (.dT (dC [])):=by rw[ze npa];exact a3
  have r4:(upd H3 d (.frz od (.dT (dC O)))) pr=some (.lst (([]:List Addr).map V.ref)):=by rw[ze npr];exact r3
  have back:∀ H',(∀ c o,c≠pa->c≠pr->(upd H3 d (.frz od (.dT (dC O)))) c=some o->H' c=some o)->zh H (upd H' d (.dT (dC O))):=λH' s c o e=>by
   have c1:c≠pa:=zf e hpaH;have c2:c≠pr:=zf e hprH;by_cases z:c=d
   ·subst z;rw[nd]at e;cases e
   ·rw[ze z];exact s c o c1 c2 (by rw[ze z];exact s03 _ _ e)
  generalize (upd H3 d (.frz od (.dT (dC O))))=HL at d4 a4 r4 back ⊢;refine⟨_,rfl,d,od,rfl,.inr ⟨_,d4,?_⟩⟩;have el:(dC O).length=O.length:=z25 _;refine vm (n:=O.length) (λi σ H'=>∃(v5 v6 v7:Option V) (pl:Js) (qs:List Addr) (pcs:List ((Nat×Nat)×Js)),σ=[some (.ref a),some (.ref q),some (.ref d),some (.ref pa),some (.ref pr),v5,v6,v7]/\
   (∀ c o,c≠pa->c≠pr->HL c=some o->H' c=some o)/\H' pa=some (.dT (dC pl))/\H' pr=some (.lst (qs.map V.ref))/\zuh H' O qs pcs/\pcs.map (λx=>Q9 b x.1 x.2)=(O.take i).filterMap (Zw b l)/\
   pl.Nodup/\(∀ c,c∈pl↔c∈O/\∃ e,e∈O.take i/\vj O nbN e c)/\∀ x,x∈qs->x≠pr)
   ⟨_,_,_,[],[],[],rfl,λc o _ _ e=>e,a4,r4,.nil,rfl,z7o,λc=>⟨(λh=>nomatch h),(λh=>by obtain⟨_,e,h,_⟩:=h;cases h)⟩,(λ_ h=>nomatch h)⟩ ?_ ?_ ?_
  ·rintro i σ H' hi ⟨v5,v6,v7,pl,qs,pcs,rfl,sm,ha,hr',hpc,hent,hnd,hpl,hqr⟩;exact⟨sm _ _ npa.symm npr.symm d4,by rw[el];exact hi⟩
  ·rintro i σ H' x H6 D' hi ⟨v5,v6,v7,pl,qs,pcs,rfl,sm,ha,hr',hpc,hent,hnd,hpl,hqr⟩ ⟨rfl,kk,v,t,hkv,rfl,ht⟩ ea;obtain⟨c,hc⟩:∃ c,O[i]? =some c:=⟨_,z28 hi⟩;unfold dC at hkv;rw[z27,hc]at hkv;cases hkv;have cO:c∈O:=z3r hc;have split:O=O.take i++c::O.drop (i+1):=by
    have h1:=z5m hi;rw[(z3b.mp hc).2]at h1;rw[<-h1];exact (z8w i O).symm
   obtain⟨pof1,pof2⟩:=pof split;have tk:=jw hc;have fmS:∀ r,Zw b l c=r->(O.take (i+1)).filterMap (Zw b l)=(O.take i).filterMap (Zw b l)++r.toList:=λr e=>by rw[X3 (Zw b l) hc,e]
   refine⟨_,rfl,_,rfl,pa,_,rfl,Qe.t (k:=kC c) ha ht,_,rfl,?_⟩;rw[zej];refine jr (λe=>?_) (λe=>?_)
   ·have npl:¬c∈pl:=λz=>by
     rw[z3m z]at e;cases e
    have nocon:∀ e,e∈O.take i->¬vj O nbN e c:=λe he hcn=>npl ((hpl c).mpr ⟨cO,e,he,hcn⟩);refine⟨_,rfl,_,rfl,t,d,O,c,rfl,ht,.inr ⟨od,sm _ _ npa.symm npr.symm d4⟩,cO,by omega,λH7 qa as p s7 nqa hqa hrow DI=>?_⟩;have r7:=s7 _ _ hr';have a7:=s7 _ _ ha;have nqp:qa≠pa:=λz=>by rw[z,ha]at nqa;cases nqa
    have nqr:qa≠pr:=λz=>by rw[z,hr']at nqa;cases nqa
    have plen:p.length<=56:=z32 (y8 DI.nd DI.sub) (by omega);have qlen:qs.length<=56:=by
     have h1:=z39 hpc;have h2:=z6a List.length hent;rw[z25]at h2;have h3:=z5u (Zw b l) (O.take i);rw[z35]at h3;omega
    refine⟨_,rfl,.inl ⟨rfl,_,zx.of r7⟩,_,rfl,pr,_,.ref qa,rfl,rfl,r7,by rw[z25];exact zp (by omega),?_⟩;have k8:∀ bb o,bb≠pr->H7 bb=some o->(upd H7 pr (.lst (qs.map V.ref++[V.ref qa]))) bb=some o:=λbb o n e=>by rw[ze n];exact e
    have r8:(upd H7 pr (.lst (qs.map V.ref++[V.ref qa]))) pr=some (.lst ((qs++[qa]).map V.ref)):=by
     rw[zb,z3g];rfl
    generalize (upd H7 pr (.lst (qs.map V.ref++[V.ref qa])))=H8 at k8 r8 ⊢;have a8:=k8 _ _ nar a7;have q8:=k8 _ _ nqr hqa;have row8:Rows H8 as (p.map cV):=hrow.keep λbb r e=>k8 _ _ (ja e r7 (by intro z;cases z)) e;have dis:∀ m,m∈p->¬m∈pl:=λm hm hz=>by
     obtain⟨_,e0,he0,hc0⟩:=(hpl m).mp hz;have e0O:e0∈O:=List.mem_of_mem_take he0;exact nocon e0 he0 (vj.trans hc0 (vj.symm sy cO (DI.con m hm)))
    refine⟨_,rfl,qa,rfl,⟨_,zx.of q8⟩,?_⟩;refine J6 (xs:=as.map V.ref) (λj σ H9=>∃ v7,σ=[some (.ref a),some (.ref q),some (.ref d),some (.ref pa),some (.ref pr),some (.ref t),some (.ref qa),v7]/\(∀ bb o,bb≠pa->H8 bb=some o->H9 bb=some o)/\H9 pa=some (.dT (dC (pl++p.take j))))
     ⟨_,rfl,λbb o _ e=>e,by rw[z96,z31];exact a8⟩ (λj σ H9 _ ⟨v7,_,k9,_⟩=>zx.of (k9 _ _ nqp q8)) ?_ ?_
    ·rintro j x σ H9 D2 hx ⟨v7,rfl,k9,a9⟩ eb;rw[z27]at hx;obtain⟨am,ham,rfl⟩:=z3q.mp hx;obtain⟨rm,hrm1,hrm2⟩:=row8.at ham;rw[z27]at hrm1;obtain⟨mm,hmm,rfl⟩:=z3q.mp hrm1;have t9:H9 am=some (.tup ((kC mm).map kV)):=k9 _ _ (ja hrm2 a8 (by intro z;cases z)) hrm2;have hj:=(z3b.mp hmm).1;have nin:¬mm∈pl++p.take j:=λz=>by
      rcases z33.mp z with z|z
      ·exact dis mm (z3r hmm) z
      ·obtain⟨i2,h2,e2⟩:=z5q z;rw[z35]at h2;rw[z7n]at e2;have:=zf0 DI.nd (z3b.mpr ⟨by omega,e2⟩) hmm;omega
     have pll:pl.length<=56:=z32 (y8 hnd λc hc=>((hpl c).mp hc).1) (by omega);refine⟨_,rfl,_,rfl,pa,_,rfl,Xn.t a9 t9 (by unfold dC;rw[z25,z3a,z35];exact zp (by omega)),?_⟩;rw[zd2 nin];refine eb.nx _ _ ⟨_,rfl,λbb o n e=>?_,?_⟩
     ·rw[ze n];exact k9 _ _ n e
     ·rw[zb,jw hmm,z4d]
    ·rintro σ H9 ⟨v7,rfl,k9,a9⟩;have el2:as.length=p.length:=by have:=row8.len;rwa [z25]at this
     rw[z25,el2,z4s]at a9;have pF:=pof1 nocon p DI;refine ea.nx _ _ ⟨_,_,_,pl++p,qs++[qa],pcs++[(c,p)],rfl,λcc o n1 n2 e=>k9 _ _ n1 (k8 _ _ n2 (s7 _ _ (sm _ _ n1 n2 e))),a9,k9 _ _ nar.symm r8,?_,?_,?_,λcc=>?_,?_⟩
     ·refine qe ⟨as,k9 _ _ nqp q8,row8.keep λbb r e=>k9 _ _ (ja e a8 (by intro z;cases z)) e,DI.hd,plen,DI.sub⟩ (jk hpc λqq x hm h=>h.keep λbb o h e=>?_);have nb1:bb≠pa:=by
       intro z;rw[z,ha]at e;cases e;rcases h with ⟨_,h⟩|⟨_,_,h⟩<;>cases h
      have nb2:bb≠pr:=by
       intro z;rcases h with ⟨r,h⟩|⟨h,_⟩
       ·rw[z,hr']at e;cases e;cases h
       ·exact hqr _ hm (h.symm.trans z)
      exact k9 _ _ nb1 (k8 _ _ nb2 (s7 _ _ e))
     ·rw[z3g,hent,fmS _ pF];rfl
     ·exact z6c.mpr ⟨hnd,DI.nd,λx hx y hy e=>dis y hy (e▸hx)⟩
     ·rw[z33,hpl,tk];constructor
      ·rintro (⟨h1,e,h2,h3⟩|h)
       ·exact⟨h1,e,z4b _ h2,h3⟩
       ·exact⟨DI.sub cc h,c,z38 _ (by simp),DI.con cc h⟩
      ·rintro⟨h1,e,h2,h3⟩;rcases z33.mp h2 with h2|h2
       ·exact .inl ⟨h1,e,h2,h3⟩
       ·rw[z37.mp h2]at h3;exact .inr ((DI.all cc).mpr h3)
     ·intro x hx;rcases z33.mp hx with hx|hx
      ·exact hqr x hx
      ·rw[z37.mp hx];exact nqr
   ·have ipl:c∈pl:=z6h λz=>e (by rw[z3k z];rfl);obtain⟨_,e0,he0,hc0⟩:=(hpl c).mp ipl;have pF:=pof2 λz=>z e0 he0 hc0;refine ea.nx _ _ ⟨_,_,_,pl,qs,pcs,rfl,sm,ha,hr',hpc,?_,hnd,λcc=>?_,hqr⟩
    ·rw[hent,fmS _ pF];exact (z31 _).symm
    ·rw[hpl,tk];constructor
     ·rintro⟨h1,e,h2,h3⟩;exact⟨h1,e,z4b _ h2,h3⟩
     ·rintro⟨h1,e,h2,h3⟩;rcases z33.mp h2 with h2|h2
      ·exact⟨h1,e,h2,h3⟩
      ·rw[z37.mp h2]at h3;exact⟨h1,e0,he0,vj.trans hc0 h3⟩
  ·rintro σ H' ⟨v5,v6,v7,pl,qs,pcs,rfl,sm,ha,hr',hpc,hent,hnd,hpl,hqr⟩;refine⟨⟨sm _ _ npa.symm npr.symm d4,by rw[el];exact z3c _⟩,sm _ _ npa.symm npr.symm d4,?_⟩;rw[z4s]at hent;have d5:=sm _ _ npa.symm npr.symm d4;refine⟨_,rfl,k _ pr qs pcs (back _ sm) (by rw[ze npr];exact hr') (jk hpc λqa x _ h=>h.keep λc o h e=>?_) (by rw[hent,pe])⟩;rw[ze (λz=>?_)]
   ·exact e
   ·rw[z,d5]at e;cases e;rcases h with ⟨_,h⟩|⟨_,_,h⟩<;>cases h
def U1 (H:Hp)(a:Addr):List Int:=match H a with
 |some (.tup xs)=>xs.map λv=>match v with
  | .int i=>i
  |_=>0
 |_=>[]
theorem W7 {H:Hp}{a:Addr}{r:List Int}(h:H a=some (.tup (r.map V.int))):U1 H a=r:=by
 unfold U1;rw[h];dsimp only;rw[z4f];exact List.map_id _
theorem U0:∀{r:List Int}{its:List Value} (i:Nat),jf (r.map V.int) its->tupItems (λ_=>false) i its=some (r.map Sum.inl)
 |[],_,i,h=>by cases h;rfl
 |z::r,_,i,h=>by
  rw[z3n]at h;cases h with
  |cons a b=>
   obtain⟨t,rfl⟩:=a;show (if false=true then none else (tupItems (λ_=>false) (i+1) _).map (Sum.inl z::·))=_;rw[z3k (by decide),U0 (i+1) b];rfl
def zvu (x y:List Int):Bool:=PyProof.Rows.lexLt itemOrd (x.map Sum.inl) (y.map Sum.inl)
section
variable {X:Cx}
theorem zht:Zz X (.builtin "sorted") (λxs H Q=>∃(l:Addr) (as:List Addr),xs=[.ref l]/\H l=some (.lst (as.map V.ref))/\(∀ a,a∈as->∃ r,r≠[]/\H a=some (.tup (r.map V.int)))/\
  ∀(p:Addr) (bs:List Addr),bs.Perm as->bs.Pairwise (λx y=>zvu (U1 H y) (U1 H x)=false)->H p=none->Q (.ref p) (upd H p (.lst (bs.map V.ref)))):=by
 intro pins s σ H xs us Q I r h;obtain⟨l,as,rfl,hl,hr,q⟩:=h;rw[jf.ref1 r];obtain⟨z,its,n,rv,hol⟩:=(show j6 X.prog X.w H s.heap l (.lst (as.map V.ref)) from I.hok l _ hl);have eits:=zd5 rv;subst eits;rw[z25]at z;have key:∀ a,a∈as->PyProof.Rows.G.tupKeyC s.heap (λ_=>false) (.ref a)=some ((U1 H a).map Sum.inl):=λa ha=>by
  obtain⟨r,_,hra⟩:=hr a ha;rw[W7 hra];obtain⟨_,it,rt,o,ho,hc,m,hd⟩:=(show j6 X.prog X.w H s.heap a (.tup (r.map V.int)) from I.hok a _ hra);unfold PyProof.Rows.G.tupKeyC PyProof.Rows.G.isTupObj tupKey;simp only[ho,hc,hd];exact U0 0 rt
 have tups:∀{l:List Addr},(∀ a,a∈l->a∈as)->∃ fs,TupsOf s.heap (λ_=>false) (l.map Value.ref) fs:=by
  intro l
  induction l with
  |nil=>exact λ_=>⟨[],.nil⟩
  |cons a l ih=>
   intro hs;obtain⟨fs,hfs⟩:=ih λb hb=>hs b (z3d _ hb);obtain⟨r,hne,hra⟩:=hr a (hs a z3e);obtain⟨_,it,rt,o,ho,hc,m,hd⟩:=(show j6 X.prog X.w H s.heap a (.tup (r.map V.int)) from I.hok a _ hra);cases r with
   |nil=>exact absurd rfl hne
   |cons z r=>
    rw[z3n]at rt;cases rt with
    | @cons _ u _ us x t=>
     obtain⟨tz,rfl⟩:=x;exact⟨_::fs,.cons ⟨a,o,_,m,rfl,ho,hc,hd,rfl,λ_=>⟨z,tz,rfl⟩,λq=>by cases q⟩ hfs⟩
 obtain⟨fs,hfs⟩:=tups (l:=as) λa h=>h;refine PyProof.Rows.G.sorted_tups (shape:=λ_=>false) (vs:=as.map Value.ref) (fs:=fs) ⟨_,hol,rfl,n,rfl⟩ hfs (λv hv=>?_) (by rw[z25];exact z) λst' h1 h2 h3=>?_
 ·obtain⟨a,ha,rfl⟩:=z4h.mp hv;exact⟨_,key a ha⟩
 ·have hp:(arrOf st').toList.Perm ((as.map Value.ref).zip (as.map Value.ref)):=by
   have:=h1.toList
   rwa [pairsOf_toList]at this
  have ez:(as.map Value.ref).zip (as.map Value.ref)=as.map λa=>(Value.ref a,Value.ref a):=by
   rw[List.zip_map']
  rw[ez]at hp;have hsz:(pairsOf (as.map Value.ref)).size=(arrOf st').size:=h1.size_eq.symm;rw[hsz]at h2;generalize arrOf st'=arr at hp h2 ⊢;have dec:∃ dec:Value×Value->Addr,∀ a,dec (.ref a,.ref a)=a:=⟨λp=>match p.2 with
   | .ref a=>a
   |_=>0,λa=>rfl⟩
  obtain⟨dec,hdec⟩:=dec;have mem:∀ p,p∈arr.toList->∃ a,a∈as/\p=(Value.ref a,Value.ref a):=λp h=>by
   obtain⟨a,ha,e⟩:=z4h.mp (hp.mem_iff.mp h);exact⟨a,ha,e.symm⟩
  have eb:arr.toList=(arr.toList.map dec).map λa=>(Value.ref a,Value.ref a):=by
   rw[z4f]
   conv=>lhs;rw[<-List.map_id arr.toList]
   refine z5z λp h=>?_;obtain⟨a,_,rfl⟩:=mem p h;show (Value.ref a,Value.ref a)=(Value.ref (dec (.ref a,.ref a)),Value.ref (dec (.ref a,.ref a)));rw[hdec]
  have pb:(arr.toList.map dec).Perm as:=by
   have h:=hp.map dec;rw[z4f]at h;have e:as.map (dec∘λa=>(Value.ref a,Value.ref a))=as:=by
    conv=>rhs;rw[<-List.map_id as]
    exact z5z λa _=>hdec a
   rwa [e]at h
  generalize arr.toList.map dec=bs at eb pb;obtain⟨ep,he'⟩:=PyProof.Rows.sortedAll_at s.heap (as.map Value.ref) (arr.map (·.2));have eo:(arr.map (·.2)).toList=bs.map Value.ref:=by
   rw[Array.toList_map,eb,z4f];rfl
  have hvals:∀ l:List Addr,jf (l.map V.ref) (l.map Value.ref):=λl=>by
   induction l with
   |nil=>exact .nil
   |cons a l ih=>exact .cons rfl ih
  refine⟨.ref _,upd H (s.heap.objs.size+1) (.lst (bs.map V.ref)),I.laid (t':=s.toks) (λ_ _=>PyProof.Rows.sortedAll_old) (Nat.le_succ _) ⟨by rw[z25,pb.length_eq];exact z,(arr.map (·.2)).toList,ep,by rw[eo];exact hvals bs,he'⟩,rfl,q _ bs pb ?_ (I.hok.fresh (Nat.le_succ _))⟩;rw[List.pairwise_iff_getElem];intro i j hi hj hij;have size:arr.size=bs.length:=by
   have:=z6a List.length eb
   rwa [z25,z5i]at this
  have kk:∀ i (hi:i < bs.length),KK (PyProof.Rows.G.tupKindC s.heap λ_=>false) arr i=(U1 H bs[i]).map Sum.inl:=λi hi=>by
   have e:arr[i]? =some (Value.ref bs[i],Value.ref bs[i]):=by
    rw[<-z62,eb,z27,z28 hi];rfl
   unfold KK;rw[e];show (PyProof.Rows.G.tupKeyC s.heap (λ_=>false) (Value.ref bs[i])).getD []=_;rw[key _ (pb.mem_iff.mp (List.getElem_mem hi))];rfl
  have h4:=h2 i j (z36 hij) (by rw[size];exact hj);rw[kk i hi,kk j hj]at h4;exact h4
end
abbrev TK (prog:Program)(w:World):=tupleKind (jn prog w)
def zh9 (acc rest:List (List j2×Addr×Value)):List (List j2×Addr×Value):=rest.foldl (λa q=>storedH a q.1 q.2.1 q.2.2) acc
section
variable {prog:Program}{w:World}{A:Around}{E:Value->Shared->Prop}
theorem Kz {h h':Heap}{k:List j2}{a:Addr}(t:(TK prog w).is h k a)(kt:∀ b o,o.cls=.type "tuple"->h.get? b=some o->h'.get? b=some o):(TK prog w).is h' k a:=by
 obtain⟨o,its,n,h1,h2,h3⟩:=t;exact⟨o,its,n,kt _ _ h2 h1,h2,h3⟩
theorem Q8 {h h':Heap}{S:Addr}{xs:List (List j2×Addr×Value)}(hm:h.DictOfH (TK prog w) S xs)(kS:∀ o,h.get? S=some o->h'.get? S=some o)(kt:∀ b o,o.cls=.type "tuple"->h.get? b=some o->h'.get? b=some o):h'.DictOfH (TK prog w) S xs:=by
 obtain⟨o,es,ep,h1,h2,h3,h4,h5,h6⟩:=hm;exact⟨o,es,ep,kS _ h1,h2,h3,h4,λx hx=>Kz (h5 x hx) kt,h6⟩
theorem zgo (xs:List (List j2×Addr×Value))(k:List j2)(a:Addr)(v:Value):(storedH xs k a v).length<=xs.length+1:=by
 unfold storedH;split
 ·rw[z25];omega
 ·rw[z3a];exact z3c _
theorem zcl {R:Result->Shared->Prop}{S I l:Addr}{items:Array Value}{res:Value}(hu:A.units+1 < cLine)(hh:A.handled=none)(hlI:l≠I)(hSI:S≠I)(hSl:S≠l):
  ∀(rest:List (List j2×Addr×Value)) (i:Nat) (acc:List (List j2×Addr×Value)) (ix:Int) (t:Tok) (s:Shared),items.size=i+rest.length->acc.length+rest.length<=sizeLine->
   (∀(j:Nat) (q:List j2×Addr×Value),rest[j]? =some q->∃ b:Addr,items[i+j]? =some (.ref b)/\IsTup s.heap b #[.ref q.2.1,q.2.2]/\(TK prog w).is s.heap q.1 q.2.1)->
   s.heap.IsListIter I l i->s.heap.IsList l items->s.heap.DictOfH (TK prog w) S acc->
   (∀ h' tk,h'.DictOfH (TK prog w) S (zh9 acc rest)->(∀ b o,b≠S->b≠I->s.heap.get? b=some o->h'.get? b=some o)->R (.ok (.ret res)) {s with heap:=h',toks:=tk})->
   codeAny (model prog w) A (.builtin "dict.update.loop" ⟨[.ref S,.ref I,.int ix t,res],[]⟩) R s
 |[],i,acc,ix,t,s,hsz,hln,ht,hit,hl,hm,hR=>by
  refine z65 zgx ?_;rw[z6g Yt _];show wpAny _ A.in1 (pyNext (.ref I) >>= _) _ _ s;have ktI:∀ o,s.heap.get? I=some o->o.cls≠.type "tuple":=λo e z=>by
   obtain⟨o2,e2,c2,_⟩:=hit;rw[e2]at e;cases e;rw[c2]at z;exact absurd z (by decide)
  refine z26 (wpAny_pyNext_list_end (A:=A.in1) hh hit hl (by first|exact jax (z8v hsz)|(simp at hsz;simp;omega)) λh' he=>?_);show wpAny _ A.in1 (Builtin.Dict.addKeywords S [] >>= _) _ _ _;refine z26 (z3h (z3h ?_));exact hR h' s.toks (Q8 hm (λo e=>he S o hSI e) λb o c e=>he b o (λz=>by subst z;exact ktI o e c) e) λb o _ hb e=>he b o hb e
 |q::rest,i,acc,ix,t,s,hsz,hln,ht,hit,hl,hm,hR=>by
  obtain⟨b,hb,htup,hk⟩:=ht 0 q rfl;rw[z3l]at hsz hln;have ktI:∀ o,s.heap.get? I=some o->o.cls≠.type "tuple":=λo e z=>by
   obtain⟨o2,e2,c2,_⟩:=hit;rw[e2]at e;cases e;rw[c2]at z;exact absurd z (by decide)
  have ktS:∀ h:Heap,∀ acc,h.DictOfH (TK prog w) S acc->∀ o,h.get? S=some o->o.cls≠.type "tuple":=λh acc hm o e z=>by
   obtain⟨o2,es,ep,e2,x2,_⟩:=hm;rw[e2]at e;cases e;rw[x2.1]at z;exact absurd z (by decide)
  refine z65 zgx ?_;rw[z6g Yt _];show wpAny _ A.in1 (pyNext (.ref I) >>= _) _ _ s;refine z26 (wpAny_pyNext_list_item (x:=.ref b) hit hl (by simpa using hb) λh1 hit1 hs1=>?_);have kt1:∀ b o,o.cls=.type "tuple"->s.heap.get? b=some o->h1.get? b=some o:=λb o c e=>(hs1.2 b (λz=>by subst z;exact ktI o e c)).trans e;have isT:∀{h h':Heap}{b:Addr}{xs:Array Value},IsTup h b xs->(∀ b o,o.cls=.type "tuple"->h.get? b=some o->h'.get? b=some o)->IsTup h' b xs:=λ{h h' b xs} x k=>by
   obtain⟨o,e,c,r⟩:=x;exact⟨o,k _ _ c e,c,r⟩
  have ht1:IsTup h1 b #[.ref q.2.1,q.2.2]:=isT htup kt1;have hl1:h1.IsList l items:=hl.extBut hs1.extBut hlI;have hm1:h1.DictOfH (TK prog w) S acc:=Q8 hm (λo e=>(hs1.2 S hSI).trans e) kt1;have hk1:=Kz hk kt1;obtain⟨o,ho,hc,n,hd⟩:=id ht1;show wpAny _ A.in1 (holding [Value.ref b] _ >>= _) _ _ _;refine z26 (z56 ?_);refine z26 (z71 ?_);unfold Builtin.Dict.pairItems;refine z26 (wpAny_typeOf (T:="tuple") ⟨o,ho,hc⟩ ?_);rw[z3m (by first|decide|rfl|simp)];refine z26 (z5f ho hd (z3h ?_));show wpAny _ A.in1 (holding [.ref q.2.1,q.2.2] (dictSet S (.ref q.2.1) q.2.2)) _ _ _;refine z56 (wpAny_dictSet_heap (s:={s with heap:=h1}) (hsz:=by omega) (knd:=TK prog w) (A:=A.in1) (k:=q.1) hu hk1 hm1 λh2 hm2 hs2=>?_);have kt2:∀ b o,o.cls=.type "tuple"->h1.get? b=some o->h2.get? b=some o:=λb o c e=>(hs2.2 b (λz=>by subst z;exact ktS h1 acc hm1 o e c)).trans e;refine z3h ⟨z6v Yt _,zcl (items:=items) hu hh hlI hSI hSl rest (i+1) (storedH acc q.1 q.2.1 q.2.2) (ix+1) 0 _ (show items.size=i+1+rest.length by omega) ?_ (λj q' e=>?_) ?_ ?_ hm2 λh' tk hd' k=>?_⟩
  ·have z:=zgo acc q.1 q.2.1 q.2.2;omega
  ·obtain⟨b',hb',htup',hk'⟩:=ht (j+1) q' (by simpa using e);refine⟨b',?_,isT (isT htup' kt1) kt2,Kz (Kz hk' kt1) kt2⟩;rw[show i+1+j=i+(j+1) by omega];exact hb'
  ·exact hit1.at λo' e=>hs2.extBut I o' (z7c hSI) e
  ·exact hl1.extBut hs2.extBut (z7c hSl)
  ·exact hR h' tk hd' λc oc h3 h4 e=>k c oc h3 h4 (hs2.extBut c oc h3 (hs1.extBut c oc h4 e))
theorem Vc {s:Shared}{l:Addr}{ol:Obj}{items:Array Value}{n:Nat}{prs:List (List j2×Addr×Value)}{Q:Value->Shared->Prop}(hu:A.units+2 < cLine)(hh:A.handled=none)(hl:s.heap.get? l=some ol)(hc:ol.cls=.type "list")(hd:ol.dict=none)
  (hdat:ol.data=.seq items n)(hsz:items.size=prs.length)(hln:prs.length<=sizeLine)
  (ht:∀(j:Nat) (q:List j2×Addr×Value),prs[j]? =some q->∃ b:Addr,items[j]? =some (.ref b)/\IsTup s.heap b #[.ref q.2.1,q.2.2]/\(TK prog w).is s.heap q.1 q.2.1)
  (h:∀ h' tk,h'.DictOfH (TK prog w) s.heap.objs.size (zh9 [] prs)->(∀ b o,s.heap.get? b=some o->h'.get? b=some o)->Q (.ref s.heap.objs.size) {s with heap:=h',toks:=tk}):
  wpAny (model prog w) A (call (.type "dict") [.ref l]) Q E s:=by
 refine callType_codes (Q₁:=λobj s₁=>obj=.ref s.heap.objs.size/\s₁={s with heap:=s.heap.push {cls:=.type "dict",data:=.dict #[]}}) PySem.F.kt_called_dict (PySem.F.kt_typeCall_dict_1 _) PySem.F.entry_dict_init (kt_code_dict_new _ ⟨rfl,rfl⟩) ?_;rintro obj s₁ ⟨rfl,rfl⟩;have hnew:(s.heap.push {cls:=.type "dict",data:=.dict #[]}).DictOfH (TK prog w) s.heap.objs.size []:=Heap.DictOfH.new s.heap;have k0:∀ b o,s.heap.get? b=some o->(s.heap.push {cls:=.type "dict",data:=.dict #[]}).get? b=some o:=λb o e=>z29 _ e;have hty:({s with heap:=s.heap.push {cls:=.type "dict",data:=.dict #[]}}:Shared).TypeIs (.ref s.heap.objs.size) "dict":=hnew.typeIs;refine⟨hty,PySem.F.args_dict_init_2 _ _,?_⟩;unfold Builtin.«dict.__init__»;refine z26 ?_;unfold Builtin.Dict.selfAndRest;refine z26 (wpAny_notOrdered_dict hty ?_);show wpAny _ _ (pure (s.heap.objs.size,[Value.ref l])) _ _ _;refine z3h ?_;show wpAny _ _ (Builtin.Dict.updateFrom "dict.__init__" s.heap.objs.size (.ref l) [] .none) _ _ _;unfold Builtin.Dict.updateFrom;refine z26 (wpAny_typeOf (T:="list") ⟨ol,k0 _ _ hl,hc⟩ ?_);rw[z3m (by first|decide|rfl|simp)];refine z26 (zlz (k0 _ _ hl) hc hdat hd hh λh1 tk1 hk1=>?_);rw[z3m (show (none:Option Value).isNone=true from rfl)];refine z26 (z9j ?_);have hl1:h1.IsList l items:=⟨ol,hk1 _ _ (k0 _ _ hl),hc,n,hdat⟩;have hS1:s.heap.objs.size < h1.objs.size:=by
  have e:(s.heap.push {cls:=.type "dict",data:=.dict #[]}).get? s.heap.objs.size=some {cls:=.type "dict",data:=.dict #[]}:=z3o _ rfl;exact z3j (hk1 _ _ e)
 refine z26 (z7x hl1 ?_);have k2:∀ b o,h1.get? b=some o->(h1.push {cls:=.type "list_iterator",data:=.fields #[.ref l,.int 0 0]}).get? b=some o:=λb o e=>z29 _ e;have k3:∀ b o,s.heap.get? b=some o->(h1.push {cls:=.type "list_iterator",data:=.fields #[.ref l,.int 0 0]}).get? b=some o:=λb o e=>k2 _ _ (hk1 _ _ (k0 _ _ e));have hlt:l < s.heap.objs.size:=z3j hl;have key:=zcl (prog:=prog) (w:=w) (A:=A.in1) (R:=wants (λr s₂=>r=.none/\Q (.ref s.heap.objs.size) s₂) E) (S:=s.heap.objs.size) (I:=h1.objs.size) (l:=l) (items:=items) (res:=Value.none) hu hh
  (z4a (z9v hlt hS1)) (z4a hS1) (z4e hlt) prs 0 [] 0 0
  {s with heap:=h1.push {cls:=.type "list_iterator",data:=.fields #[.ref l,.int 0 0]},toks:=tk1} (by rw[hsz,z6x]) (by rw[z73,z6x];exact hln)
  (λj q e=>by
   obtain⟨b,e1,e2,e3⟩:=ht j q e;exact⟨b,by rw[z6x];exact e1,e2.keeps λc o z=>k3 _ _ z,Kz e3 λc o _ z=>k3 _ _ z⟩)
  ⟨_,z3o _ rfl,rfl,rfl⟩ (hl1.at λo e=>k2 _ _ e) (Q8 hnew (λo e=>k2 _ _ (hk1 _ _ e)) λb o _ e=>k2 _ _ (hk1 _ _ e))
  (λh' tk hd' k=>⟨rfl,h h' tk hd' λb o e=>k b o (z4a (z3j e)) (z4a (z9v (z3j e) hS1)) (k3 _ _ e)⟩)
 first
  |exact z3h ⟨z6v Yt _,key⟩
  |exact z26 (z3h (z3h ⟨z6v Yt _,key⟩))
end
def PrT (H:Hp)(p:Addr)(x:List j2×V):Prop:=∃ q,H p=some (.tup [.ref q,x.2])/\H q=some (.tup (x.1.map kV))
theorem U8 {H:Hp}:∀{kvs:List (List j2×V)}{prs acc:List (List j2×Addr×Value)}{ac:List (List j2×V)},KT H kvs prs->KT H ac acc->((ac++kvs).map (·.1)).Nodup->KT H (ac++kvs) (zh9 acc prs)
 |[],_,acc,ac,.nil,h,_=>by rw[z31];exact h
 |kv::kvs,_,acc,ac,.cons (b:=q) h t,r,nd=>by
  obtain⟨e1,e2,e3⟩:=h;have h1:KT H (ac++[kv]) (storedH acc q.1 q.2.1 q.2.2):=by
   have:=r.put q.1 (y:=kv.2) (by rw[<-e1];exact e2) e3;rw[Yi]at this
   ·rw[show (q.1,kv.2)=kv by rw[<-e1]]at this;exact this
   ·rw[<-e1];have hn:¬kv.1∈ac.map (·.1):=λz=>by
     rw[z3g,z6c]at nd;exact nd.2.2 _ z _ (by rw[z3n];exact z3e) rfl
    clear nd t r this e2 e3
    induction ac with
    |nil=>rfl
    |cons x ac ih=>
     obtain⟨xk,xv⟩:=x;rw[xi (λz=>hn (by rw[z3n,z];exact z3e))];exact ih λz=>hn (z3d _ z)
  have h2:=U8 t h1 (by rw[z4d];exact nd);rw[z4d]at h2;exact h2
section
variable {X:Cx}
theorem zhk (hu:X.A.units+2 < cLine)(hcalm:X.calm=true):Zz X (.type "dict") (λxs H Q=>∃(a:Addr) (ps:List Addr) (kvs:List (List j2×V)),xs=[.ref a]/\H a=some (.lst (ps.map V.ref))/\Paired (PrT H) ps kvs/\(kvs.map (·.1)).Nodup/\
  ∀ p,H p=none->Q (.ref p) (upd H p (.dT kvs))):=by
 intro pins s σ H xs us Q I r q;obtain⟨a,ps,kvs,rfl,hq,hp,nd,q⟩:=q;rw[jf.ref1 r];obtain⟨hz,its,n,rv,hol⟩:=(show j6 X.prog X.w H s.heap a (.lst (ps.map V.ref)) from I.hok a _ hq);have ei:=zd5 rv;subst ei;rw[z25]at hz;have prs:∃ prs:List (List j2×Addr×Value),KT H kvs prs/\prs.length=ps.length/\∀(j:Nat) (q:List j2×Addr×Value),prs[j]? =some q->∃ b:Addr,ps[j]? =some b/\IsTup s.heap b #[.ref q.2.1,q.2.2]/\(TK X.prog X.w).is s.heap q.1 q.2.1:=by
  clear nd q hol hq rv hz
  induction hp with
  |nil=>exact⟨[],.nil,rfl,λj q e=>by simp at e⟩
  | @cons p kv ps kvs h t ih=>
   obtain⟨prs,r,hl,hpr⟩:=ih;obtain⟨tq,h1,h2⟩:=h;obtain⟨_,it,rt,o,ho,hc,m,hd⟩:=(show j6 X.prog X.w H s.heap p (.tup [.ref tq,kv.2]) from I.hok p _ h1);obtain⟨u,y,rfl,ru,ry⟩:=zg1 rt;cases (show u=Value.ref tq from ru);refine⟨(kv.1,tq,y)::prs,.cons ⟨rfl,h2,ry⟩ r,by rw[z3l,z3l,hl],λj q e=>?_⟩;cases j with
   |zero=>
    have e':(kv.1,tq,y)=q:=z3p e;subst e';exact⟨p,rfl,⟨o,ho,hc,m,hd⟩,Xc I.hok h2⟩
   |succ j=>exact hpr j q (by simpa using e)
 obtain⟨prs,rel,hl,hpr⟩:=prs;refine Vc (prs:=prs) hu (I.ok.hd hcalm) hol rfl rfl rfl (by simp[hl]) (by rw[hl];exact hz) (λj q' e=>?_) λh' tk hd' k=>?_
 ·obtain⟨b,e1,e2,e3⟩:=hpr j q' e;exact⟨b,by simp[e1],e2,e3⟩
 ·have hm:(s.heap.objs.size==sysModules)=false:=z5p.mpr (z4e I.big);have hlen:kvs.length<=sizeLine:=by
   have:=z39 rel;omega
  obtain⟨o,es,ep,h1,h2,h3,h4,_,h6⟩:=hd';have kt:=U8 rel (ac:=[]) (acc:=[]) .nil nd;exact⟨.ref s.heap.objs.size,upd H s.heap.objs.size (.dT kvs),I.laid (t':=tk) k (z3c _) ⟨hlen,hm,_,kt.keeps λb ys e=>by rw[ze (zf e (I.hok.fresh (z3c _)))];exact e,o,es,ep,h1,h2,h3,h4,h6⟩,rfl,q _ (I.hok.fresh (z3c _))⟩
end
def zp5:List (List Int):=[[1,0],[0,1],[-1,0],[0,-1]]
def zxu:List (List Int):=[[0,0],[1,0],[1,1],[0,1]]
def zxw:List (List Int):=[[0,-1],[1,0],[0,1],[-1,0]]
structure zap (K:Fr)(mg:Str->Option Value):Prop where
 steps:∃ q,mg "STEPS"=some (.ref q)/\K7 K q zp5
 begs:∃ q,mg "BEGINNINGS"=some (.ref q)/\K7 K q zxu
 byds:∃ q,mg "BEYOND"=some (.ref q)/\K7 K q zxw
theorem K7.at {K:Fr}{q:Addr}{rs:List (List Int)}(t:K7 K q rs){i:Nat}{r:List Int}(h:rs[i]? =some r):∃(as:List Addr) (a:Addr),(∀ H,yw K H q (as.map V.ref))/\(as.map V.ref)[i]? =some (V.ref a)/\∀ H,yw K H a (r.map V.int):=by
 obtain⟨as,h1,h2⟩:=t;have:∀{as:List Addr}{rs:List (List Int)}{i:Nat},zbl K as rs->rs[i]? =some r->∃ a,as[i]? =some a/\∀ H,yw K H a (r.map V.int):=by
  intro as rs i p
  induction p generalizing i with
  |nil=>intro e;simp at e
  |cons x t ih=>
   intro e;cases i with
   |zero=>
    simp at e;subst e;exact⟨_,rfl,x⟩
   |succ i=>
    obtain⟨a,e1,e2⟩:=ih (i:=i) (by simpa using e);exact⟨a,by simpa using e1,e2⟩
 obtain⟨a,e1,e2⟩:=this h2 h;exact⟨as,a,h1,by rw[z27,e1];rfl,e2⟩
def sV (s:Vbmiab.Side):List V:=[vN s.y,vN s.x,vN s.way]
def kS (s:Vbmiab.Side):List j2:=[.inl s.y,.inl s.x,.inl s.way]
theorem zqq (c:Nat×Nat):∀ w,w < 4->∃ dx dy gx gy,zxw[w]? =some [dx,dy]/\zxu[w]? =some [gx,gy]/\wy c w=((c.1:Int)+dx,(c.2:Int)+dy)/\sV (Ze c w)=[.int ((c.2:Int)+gy),.int ((c.1:Int)+gx),vN w]:=by
 refine zlo ⟨0,-1,0,0,rfl,rfl,?_,?_⟩ ⟨1,0,1,0,rfl,rfl,?_,?_⟩ ⟨0,1,1,1,rfl,rfl,?_,?_⟩ ⟨-1,0,0,1,rfl,rfl,?_,?_⟩
 all_goals first
  |(show ((_,_):Int×Int)=(_,_);congr 1<;>omega)
  |(show ([V.int _,V.int _,V.int _]:List V)=[V.int _,V.int _,V.int _];simp[Ze])
theorem zrp (b:Vbmiab.Bench)(l:List Nat)(z:Int×Int):(match qd z with
  |some c=>decide (c∈j1 b l)
  |none=>false)=Qh b l z.1 z.2:=by
 unfold qd Qh;by_cases h:0<=z.1/\0<=z.2
 ·rw[z3m h,z3u h.1,z3u h.2];show decide ((z.1.toNat,z.2.toNat)∈j1 b l)=(true&&(true&&Vbmiab.isOreAt b l z.1.toNat z.2.toNat));rw[z4n,z4n,z4l,z4i,Ua]
 ·rw[z3k h];by_cases h1:0<=z.1
  ·rw[z4u (λz=>h ⟨h1,z⟩),z5c,jad]
  ·rw[z4u h1,z5c]
theorem zqo (b:Vbmiab.Bench)(l:List Nat)(z:Int×Int):(ye (dC (j1 b l)) (kZ z)).isSome=Qh b l z.1 z.2:=(zai (j1 b l) z).trans (zrp b l z)
def Zy (b:Vbmiab.Bench)(l:List Nat)(c:Nat×Nat)(j:Nat):List Vbmiab.Side:=((List.range j).filter λw=> !Qh b l (wy c w).1 (wy c w).2).map (Ze c)
theorem zgn (b:Vbmiab.Bench)(l:List Nat)(c:Nat×Nat)(j:Nat):Zy b l c (j+1)=Zy b l c j++if (!Qh b l (wy c j).1 (wy c j).2)=true then [Ze c j] else []:=by
 unfold Zy;rw[z49,z9h,z3g,z58,List.filter_nil];split<;>rfl
theorem zaa (b:Vbmiab.Bench)(l:List Nat)(c:Nat×Nat)(j:Nat):(Zy b l c j).length<=j:=by
 unfold Zy;rw[z25];exact z32 (z4w _ _) (by rw[z4q];exact z3c _)
def zml:List Int->Vbmiab.Side
 |[y,x,w]=>⟨x.toNat,y.toNat,w.toNat⟩
 |_=>⟨0,0,0⟩
theorem zsg (s:Vbmiab.Side):zml [(s.y:Int),s.x,s.way]=s:=by
 show (⟨(s.x:Int).toNat,(s.y:Int).toNat,(s.way:Int).toNat⟩:Vbmiab.Side)=s;rw[z3i,z3i,z3i]
theorem zyc (s t:Vbmiab.Side):zvu [(t.y:Int),t.x,t.way] [(s.y:Int),s.x,s.way]=false->¬sLt t s:=by
 intro h hl;have:zvu [(t.y:Int),t.x,t.way] [(s.y:Int),s.x,s.way]=true:=by
  unfold sLt at hl;show (decide ((t.y:Int) < s.y)||(!decide ((s.y:Int) < t.y)&&(decide ((t.x:Int) < s.x)||(!decide ((s.x:Int) < t.x)&&(decide ((t.way:Int) < s.way)||(!decide ((s.way:Int) < t.way)&&false))))))=true;simp only[z44,z3f,z5e,z4p,z7e,z5k,and_false,or_false];omega
 rw[h]at this;cases this
inductive zt7 (C:Addr)(vs:List V)(H:Hp)(Q:VK):Prop
 |mk (a q:Addr) (b:Vbmiab.Bench) (l:List Nat):vs=[.ref a,.ref q]->zq C H a b->(H q=some (.lst (l.map vN))/\l.length=b.ny/\∀(H':Hp) (r:Addr) (as:List Addr),zh H H'->H' r=some (.lst (as.map V.ref))->Rows H' as ((Vbmiab.allSides b l).map sV)->Q (.ref r) H')->zt7 C vs H Q
def z1j (C:Addr):Sp:=λvs H Q _=>zt7 C vs H Q
def zpw:zo ["bench","lines","ore","sides","x","y","way"] ["bench","lines"] (zj G3):=by walk_at "sc"
theorem zhi (T:qf K mg CB CR CC)(U:zap K mg):xo P w K mg base "sides_of" 3 ["bench","lines"] (z1j CB):=by
 refine T.f_sides_of.con λf fd F=>F.ok zpw (λ_ _ _ _ h=>?_) (λ_ A _ s H vs Q E hr h=>?_)
 ·obtain⟨a,q,b,l,rfl,_⟩:=h;rfl
 ·obtain⟨a,q,b,l,rfl,B,hq,hl,k⟩:=h;have gd:=B.good;have g56:=wf gd;obtain⟨qb,hqb,tb⟩:=U.begs;obtain⟨qy,hqy,ty⟩:=U.byds;refine⟨_,zc (zn (i:=2) zpw.nd rfl (Or.inl rfl) (je (Jx T) hr.m0 (za (pv 0) (za (pv 1) zd))))
   (zc (zn (i:=3) zpw.nd rfl (Or.inl rfl) (zy zd))
   (zc (Ka (jt z3v rfl (Y8 (pv 2)) (pg2 K (i:=4) (j:=5) rfl rfl zpw.nd rfl rfl (Or.inl rfl) (Or.inl rfl))
    (zg (jt z3v rfl (yp rfl T.range (za (jc T.c_WAYS) zd)) (zt (i:=6) zpw.nd rfl (Or.inl rfl))
     (zg (ju (Jo (Y7 (xf hr) (qj (za (jd yj (pv 4) (zu jm (zu jm (vg (v:=.ref qy) rfl hqy rfl) (pv 6) (λ_ _=>rfl)) zi (λ_ _=>rfl))) (za (jd yj (pv 5) (zu jm (zu jm (vg (v:=.ref qy) rfl hqy rfl) (pv 6) (λ_ _=>rfl)) zi (λ_ _=>rfl))) zd))) (pv 2)))
      (zg (yb (xp z3y z4k z4j yo (pv 3) (za (qj (za (jd yj (pv 5) (zu jm (zu jm (vg (v:=.ref qb) rfl hqb rfl) (pv 6) (λ_ _=>rfl)) zi (λ_ _=>rfl))) (za (jd yj (pv 4) (zu jm (zu jm (vg (v:=.ref qb) rfl hqb rfl) (pv 6) (λ_ _=>rfl)) zi (λ_ _=>rfl))) (za (pv 6) zd)))) zd)))) (jb)))))))
   (zg (zm (ji zht rfl T.b_sorted (by decide+kernel) (za (pv 3) zd)))))),?_⟩
  refine⟨_,rfl,_,rfl,a,q,b,l,rfl,B,hq,hl,λH1 d s1 nd hd=>?_⟩;have ol:=Jj b l;refine⟨z4c _,λsl hsl=>?_⟩;have s2:zh H1 (upd H1 sl (.lst [])):=zh.upd hsl;have l2:(upd H1 sl (.lst [])) sl=some (.lst (([]:List Addr).map V.ref)):=zb;have d2:=s2 _ _ hd;have nsd:sl≠d:=λz=>by rw[z,hd]at hsl;cases hsl
  have hslH:H sl=none:=s1.free hsl;have s02:=s1.trans s2;generalize (upd H1 sl (.lst []))=H2 at s2 l2 d2 s02 ⊢;refine⟨d,_,d2,trivial,λod=>?_⟩;have d4:(upd H2 d (.frz od (.dT (dC (j1 b l))))) d=some (.frz od (.dT (dC (j1 b l)))):=zb;have l4:(upd H2 d (.frz od (.dT (dC (j1 b l))))) sl=some (.lst (([]:List Addr).map V.ref)):=by rw[ze nsd];exact l2
  have back:∀ H',(∀ c o,c≠sl->(upd H2 d (.frz od (.dT (dC (j1 b l))))) c=some o->H' c=some o)->zh H (upd H' d (.dT (dC (j1 b l)))):=λH' s c o e=>by
   have c2:c≠sl:=zf e hslH;by_cases z:c=d
   ·subst z;rw[nd]at e;cases e
   ·rw[ze z];exact s c o c2 (by rw[ze z];exact s02 _ _ e)
  generalize (upd H2 d (.frz od (.dT (dC (j1 b l)))))=HL at d4 l4 back ⊢;refine⟨_,rfl,d,od,rfl,.inr ⟨_,d4,?_⟩⟩;have el:(dC (j1 b l)).length=(j1 b l).length:=z25 _;refine vm (n:=(j1 b l).length) (λi σ H'=>∃(v4 v5 v6:Option V) (as:List Addr),σ=[some (.ref a),some (.ref q),some (.ref d),some (.ref sl),v4,v5,v6]/\(∀ c o,c≠sl->HL c=some o->H' c=some o)/\H' sl=some (.lst (as.map V.ref))/\
   Rows H' as ((((j1 b l).take i).flatMap λc=>Zy b l c 4).map sV)) ⟨_,_,_,[],rfl,λc o _ e=>e,l4,.nil⟩ ?_ ?_ ?_
  ·rintro i σ H' hi ⟨v4,v5,v6,as,rfl,sm,hs,hrw⟩;exact⟨sm _ _ nsd.symm d4,by rw[el];exact hi⟩
  ·rintro i σ H' x H6 D' hi ⟨v4,v5,v6,as,rfl,sm,hs,hrw⟩ ⟨rfl,kk,v,t,hkv,rfl,ht⟩ ea;obtain⟨c,hc⟩:∃ c,(j1 b l)[i]? =some c:=⟨_,z28 hi⟩;unfold dC at hkv;rw[z27,hc]at hkv;cases hkv;refine⟨t,_,rfl,yw.of ht,rfl,_,_,rfl,_,_,rfl,rfl,?_⟩
   walk_at "rd"
   refine⟨by omega,by omega,?_⟩;refine J7 (n:=4) (λj σ H'=>∃(v6:Option V) (as:List Addr),σ=[some (.ref a),some (.ref q),some (.ref d),some (.ref sl),some (vN c.1),some (vN c.2),v6]/\(∀ c o,c≠sl->HL c=some o->H' c=some o)/\H' sl=some (.lst (as.map V.ref))/\
    Rows H' as (((((j1 b l).take i).flatMap λc=>Zy b l c 4)++Zy b l c j).map sV)) ⟨_,as,rfl,sm,hs,by rw[show Zy b l c 0=[] from rfl,z31];exact hrw⟩ ?_ ?_
   ·rintro j σ H7 D2 hj ⟨v6,as7,rfl,sm7,hs7,hrw7⟩ eb;obtain⟨dx,dy,gx,gy,e1,e2,e3,e4⟩:=zqq c j hj;obtain⟨yas,ya,y1,y2,y3⟩:=ty.at e1;obtain⟨bas,ba,b1,b2,b3⟩:=tb.at e2;have d7:=sm7 _ _ nsd.symm d4;have alen:as7.length<=1000:=by
     have h1:=hrw7.len;rw[z25,z3a]at h1;have h2:=zaa b l c j;have h3:=W3 (λc=>Zy b l c 4) 4 (λc=>zaa b l c 4) ((j1 b l).take i);rw[z35]at h3;omega
    refine⟨_,rfl,_,rfl,qy,_,_,_,rfl,rfl,y1 H7,zk y2,ya,_,_,_,rfl,rfl,y3 H7,zk (j:=0) rfl,_,_,rfl,rfl,?_⟩;refine⟨_,rfl,_,rfl,qy,_,_,_,rfl,rfl,y1 H7,zk y2,ya,_,_,_,rfl,rfl,y3 H7,zk (j:=1) rfl,_,_,rfl,rfl,?_⟩;refine⟨(by show 2<=sizeLine;decide),λt8 ht8=>?_⟩;have s8:zh H7 (upd H7 t8 (.tup [V.int ((c.1:Int)+dx),V.int ((c.2:Int)+dy)])):=zh.upd ht8;have t8':(upd H7 t8 (.tup [V.int ((c.1:Int)+dx),V.int ((c.2:Int)+dy)])) t8=some (.tup ((kZ (wy c j)).map kV)):=by rw[zb,e3];rfl
    generalize (upd H7 t8 (.tup [V.int ((c.1:Int)+dx),V.int ((c.2:Int)+dy)]))=H8 at s8 t8' ⊢;have hs8:=s8 _ _ hs7;have sm8:∀ c o,c≠sl->HL c=some o->H8 c=some o:=λc o n e=>s8 _ _ (sm7 c o n e);have hrw8:=hrw7.same s8;refine⟨_,rfl,d,_,rfl,.inr ⟨_,kZ (wy c j),t8,.inr ⟨od,s8 _ _ d7⟩,rfl,t8',rfl⟩,_,rfl,?_⟩;rw[zqo];have fs:=zgn b l c j;refine jr (λe=>?_) (λe=>?_)
    ·rw[z3m e]at fs;refine⟨_,rfl,.inl ⟨rfl,_,zx.of hs8⟩,?_⟩;refine⟨_,rfl,_,rfl,qb,_,_,_,rfl,rfl,b1 H8,zk b2,ba,_,_,_,rfl,rfl,b3 H8,zk (j:=1) rfl,_,_,rfl,rfl,?_⟩;refine⟨_,rfl,_,rfl,qb,_,_,_,rfl,rfl,b1 H8,zk b2,ba,_,_,_,rfl,rfl,b3 H8,zk (j:=0) rfl,_,_,rfl,rfl,?_⟩;refine⟨_,rfl,?_⟩;refine⟨(by show 3<=sizeLine;decide),λt9 ht9=>?_⟩;have s9:zh H8 (upd H8 t9 (.tup [V.int ((c.2:Int)+gy),V.int ((c.1:Int)+gx),vN j])):=zh.upd ht9;have t9':(upd H8 t9 (.tup [V.int ((c.2:Int)+gy),V.int ((c.1:Int)+gx),vN j])) t9=some (.tup (sV (Ze c j))):=by rw[zb,e4]
     generalize (upd H8 t9 (.tup [V.int ((c.2:Int)+gy),V.int ((c.1:Int)+gx),vN j]))=H9 at s9 t9' ⊢;have hs9:=s9 _ _ hs8;refine⟨sl,_,.ref t9,rfl,rfl,hs9,by rw[z25];exact zp (by omega),?_⟩;refine eb.nx _ _ ⟨_,as7++[t9],rfl,λcc o n e=>?_,?_,?_⟩
     ·rw[ze n];exact s9 _ _ (sm8 cc o n e)
     ·rw[zb,z3g];rfl
     ·rw[fs,<-z4d,z3g];refine Rows.snoc ?_ ((hrw8.same s9).keep λbb r e=>?_)
      ·rw[ze (ja t9' hs9 (by intro z;cases z))];exact t9'
      ·rw[ze (ja e hs9 (by intro z;cases z))];exact e
    ·rw[z3k e,z31]at fs;refine eb.nx _ _ ⟨_,as7,rfl,sm8,hs8,?_⟩;rw[fs];exact hrw8
   ·rintro σ H7 ⟨v6,as7,rfl,sm7,hs7,hrw7⟩;refine ea.nx _ _ ⟨_,_,_,as7,rfl,sm7,hs7,?_⟩;rw[jw hc,z5r,z41,z68,z31];exact hrw7
  ·rintro σ H' ⟨v4,v5,v6,as,rfl,sm,hs,hrw⟩;have d5:=sm _ _ nsd.symm d4;refine⟨⟨d5,by rw[el];exact z3c _⟩,d5,?_⟩;rw[z4s]at hrw;have hrw:Rows H' as ((Jq b l).map sV):=hrw;have b9:=back _ sm;have hs9:(upd H' d (.dT (dC (j1 b l)))) sl=some (.lst (as.map V.ref)):=by rw[ze nsd];exact hs
   have hrw9:Rows (upd H' d (.dT (dC (j1 b l)))) as ((Jq b l).map sV):=hrw.keep λbb r e=>by
    rw[ze (ja e d5 (by intro z;cases z))];exact e
   generalize (upd H' d (.dT (dC (j1 b l))))=H9 at b9 hs9 hrw9 ⊢;have elen:=hrw9.len;rw[z25]at elen;have each:∀ x,x∈as->∃ s:Vbmiab.Side,H9 x=some (.tup (sV s)):=λx hx=>by
    obtain⟨i,hi,e⟩:=z5q hx;obtain⟨r,h1,h2⟩:=hrw9.at (z3b.mpr ⟨hi,e⟩);rw[z27]at h1;obtain⟨sd,h3,rfl⟩:=z3q.mp h1;exact⟨sd,h2⟩
   refine⟨_,rfl,sl,as,rfl,hs9,λx hx=>?_,λp bs hpm hpw hp=>?_⟩
   ·obtain⟨sd,h⟩:=each x hx;exact⟨[(sd.y:Int),sd.x,sd.way],(by intro z;cases z),h⟩
   ·have s10:zh H9 (upd H9 p (.lst (bs.map V.ref))):=zh.upd hp;refine k _ p bs (b9.trans s10) zb ?_;have kz:∀{x:Addr}{s:Vbmiab.Side},H9 x=some (.tup (sV s))->zml (U1 H9 x)=s:=λ{x s} h=>by
     rw[W7 (r:=[(s.y:Int),s.x,s.way]) h];exact zsg s
    have em:as.map (λx=>zml (U1 H9 x))=Jq b l:=by
     apply List.ext_getElem?;intro i;rw[z27];cases e:as[i]? with
     |none=>
      have:=z8b.mp e;exact (z8b.mpr (by omega)).symm
     |some x=>
      obtain⟨r,h1,h2⟩:=hrw9.at e;rw[z27]at h1;obtain⟨sd,h3,rfl⟩:=z3q.mp h1;rw[h3];show some (zml (U1 H9 x))=some sd;rw[kz h2]
    have es:bs.map (λx=>zml (U1 H9 x))=Vbmiab.allSides b l:=by
     refine zmo ((hpm.map _).trans (by rw[em];exact zab b l)) ?_ (Kv b l);rw[z8h];refine hpw.imp_of_mem λ{x y} hx hy hlt=>?_;obtain⟨s1,h1⟩:=each x (hpm.mem_iff.mp hx);obtain⟨s2,h2⟩:=each y (hpm.mem_iff.mp hy);rw[kz h1,kz h2];rw[W7 (r:=[(s1.y:Int),s1.x,s1.way]) h1,W7 (r:=[(s2.y:Int),s2.x,s2.way]) h2]at hlt;exact zyc _ _ hlt
    rw[<-es,z4f];refine Rows.same ?_ s10;refine zec (by rw[z25]) λi r e=>?_;rw[z27]at e;obtain⟨x,hx,rfl⟩:=z3q.mp e;obtain⟨sd,h⟩:=each x (hpm.mem_iff.mp (z3r hx));refine⟨x,hx,?_⟩;show H9 x=some (.tup (sV (zml (U1 H9 x))));rw[kz h];exact h
open Vbmiab (Side)
def zbu (s:Side):PyData:=.tuple [.int s.y,.int s.x,.int s.way]
theorem zj0 {K:Fr}{H:Hp}{t:Addr}{s:Side}(h:H t=some (.tup (sV s))):Dp K H (.ref t) (zbu s):=.tup (yw.of h) (.cons (.int _) (.cons (.int _) (.cons (.int _) .nil)))
theorem G8 (s:Side):SeqAt.shaped (zbu s)=true:=rfl
theorem zn6 (s t:Side):PyData.eqv (zbu s) (zbu t)=decide (s=t):=by
 have e:PyData.eqv (zbu s) (zbu t)=(((s.y:Int)==(t.y:Int))&&(((s.x:Int)==(t.x:Int))&&(((s.way:Int)==(t.way:Int))&&true))):=rfl;rw[e,z4l];simp only[z3f,z4x,and_true,z4p];obtain⟨a,b,c⟩:=s;obtain⟨x,y,z⟩:=t;rw[Side.mk.injEq]
 try dsimp only
 omega
def dS (ss:List Side):List (List j2×V):=ss.map λs=>(kS s,.bl true)
theorem zoj {s t:Side}(h:kS s=kS t):s=t:=by
 unfold kS at h;injection h with h1 h
 injection h with h2 h
 injection h with h3 _
 have e1:=z6e h1;have e2:=z6e h2;have e3:=z6e h3;obtain⟨a,b,c⟩:=s;obtain⟨x,y,z⟩:=t
 try dsimp only at e1 e2 e3
 rw[show a=x by omega,show b=y by omega,show c=z by omega]
theorem zek (cs:List Side)(c:Side):ye (dS cs) (kS c)=if c∈cs then some (.bl true) else none:=by
 induction cs with
 |nil=>rfl
 |cons d cs ih=>
  show ye ((kS d,V.bl true)::dS cs) (kS c)=_;by_cases h:d=c
  ·rw[vq (by rw[h]),z3m (by rw[h];exact z3e)]
  ·rw[xi (λe=>h (zoj e)),ih];by_cases h2:c∈cs
   ·rw[z3m h2,z3m (z3d _ h2)]
   ·rw[z3k h2,z3k (λz=>(z3t.mp z).elim (λe=>h e.symm) h2)]
theorem zrx {cs:List Side}{c:Side}(h:¬c∈cs):Yh (dS cs) (kS c) (.bl true)=dS (cs++[c]):=by
 rw[Yi _ (by rw[zek,z3k h])];unfold dS;rw[z3g];rfl
theorem zp4 {b:Vbmiab.Bench}{l:List Nat}{s:Side}(h:s∈Vbmiab.allSides b l):∃ dx dy,zp5[s.way]? =some [dx,dy]/\(s.y:Int)+dy=(Vbmiab.tip s).2/\(s.x:Int)+dx=(Vbmiab.tip s).1:=by
 obtain⟨h1,h2⟩:=zr.mp h;obtain⟨_,a1,a2⟩:=Qb b l h1 h2;obtain⟨x,y,w⟩:=s
 try dsimp only at a1 a2 h2 ⊢
 match w,h2 with
 |0,_=>exact⟨1,0,rfl,by show (y:Int)+0=(y:Int);omega,by show (x:Int)+1=((x+1:Nat):Int);omega⟩
 |1,_=>exact⟨0,1,rfl,by show (y:Int)+1=((y+1:Nat):Int);omega,by show (x:Int)+0=(x:Int);omega⟩
 |2,_=>
  have:=a1 rfl;exact⟨-1,0,rfl,by show (y:Int)+0=(y:Int);omega,by show (x:Int)+ -1=((x - 1:Nat):Int);omega⟩
 |3,_=>
  have:=a2 rfl;exact⟨0,-1,rfl,by show (y:Int)+ -1=((y - 1:Nat):Int);omega,by show (x:Int)+0=(x:Int);omega⟩
inductive zt6 (vs:List V)(H:Hp)(Q:VK):Prop
 |mk (t d:Addr) (b:Vbmiab.Bench) (l:List Nat) (s:Side):vs=[.ref t,.ref d]->H t=some (.tup (sV s))->Rd H d (.dT (dS (Vbmiab.allSides b l)))->s∈Vbmiab.allSides b l->(∀(H':Hp) (r:Addr),zh H H'->H' r=some (.tup (sV (Vbmiab.nextSide b l s)))->Q (.ref r) H')->zt6 vs H Q
def z1i:Sp:=λvs H Q _=>zt6 vs H Q
def zmk:zo ["side","sides","way","y","x","turn","behind"] ["side","sides"] (zj Q0):=by walk_at "sc"
theorem Qj (T:qf K mg CB CR CC)(U:zap K mg):xo P w K mg base "side_behind" 1 ["side","sides"] z1i:=by
 refine T.f_side_behind.con λf fd F=>F.ok zmk (λ_ _ _ _ h=>?_) (λ_ A _ s H vs Q E hr h=>?_)
 ·obtain⟨t,d,b,l,s,rfl,_⟩:=h;rfl
 ·obtain⟨t,d,b,l,sd,rfl,ht,hd,hs,k⟩:=h;obtain⟨qs,hqs,ts⟩:=U.steps;obtain⟨dx,dy,e1,e2,e3⟩:=zp4 hs;obtain⟨as,sa,s1,s2,s3⟩:=ts.at e1;have w4:=(zr.mp hs).2;refine⟨_,zc (zn (i:=2) zmk.nd rfl (Or.inl rfl) (zu jm (pv 0) zi (λ_ _=>rfl)))
   (zc (zn (i:=3) zmk.nd rfl (Or.inl rfl) (jd yj (zu jm (pv 0) zi (λ_ _=>rfl)) (zu jm (zu jm (vg (v:=.ref qs) rfl hqs rfl) (pv 2) (λ_ _=>rfl)) zi (λ_ _=>rfl))))
   (zc (zn (i:=4) zmk.nd rfl (Or.inl rfl) (jd yj (zu jm (pv 0) zi (λ_ _=>rfl)) (zu jm (zu jm (vg (v:=.ref qs) rfl hqs rfl) (pv 2) (λ_ _=>rfl)) zi (λ_ _=>rfl))))
   (zc (jt z3v rfl (zo8 (qj (za (jc T.c_TO_THE_RIGHT) (za (jc T.c_STRAIGHT_ON) zd)))) (zt (i:=5) zmk.nd rfl (Or.inl rfl))
    (zc (zn (i:=6) zmk.nd rfl (Or.inl rfl) (qj (za (pv 3) (za (pv 4) (za (jd zdr (jd yj (pv 2) (pv 5)) (jc T.c_WAYS)) zd)))))
    (zg (ju (Jo (Gr (xf hr) (pv 6) (pv 1))) (zg (zm (pv 6))) (jb)))))
   (zg (zm (qj (za (pv 3) (za (pv 4) (za (jd zdr (jd yj (pv 2) (jc T.c_TO_THE_LEFT)) (jc T.c_WAYS)) zd))))))))),?_⟩
  refine⟨_,rfl,t,_,_,_,rfl,rfl,yw.of ht,zk (j:=2) rfl,?_⟩;refine⟨_,rfl,t,_,_,_,rfl,rfl,yw.of ht,zk (j:=0) rfl,_,rfl,qs,_,_,_,rfl,rfl,s1 H,zk s2,sa,_,_,_,rfl,rfl,s3 H,zk (j:=1) rfl,_,_,rfl,rfl,?_⟩;refine⟨_,rfl,t,_,_,_,rfl,rfl,yw.of ht,zk (j:=1) rfl,_,rfl,qs,_,_,_,rfl,rfl,s1 H,zk s2,sa,_,_,_,rfl,rfl,s3 H,zk (j:=0) rfl,_,_,rfl,rfl,?_⟩;refine⟨(by show 2<=sizeLine;decide),λtt htt=>?_⟩;have s4:zh H (upd H tt (.tup [V.int 1,V.int 0])):=zh.upd htt;have t4:(upd H tt (.tup [V.int 1,V.int 0])) tt=some (.tup [V.int 1,V.int 0]):=zb;generalize (upd H tt (.tup [V.int 1,V.int 0]))=H4 at s4 t4 ⊢;refine⟨tt,rfl,⟨_,yw.of t4⟩,?_⟩;refine vm (n:=2) (λi σ H'=>∃ v5 v6,σ=[some (.ref t),some (.ref d),some (vN sd.way),some (.int ((sd.y:Int)+dy)),some (.int ((sd.x:Int)+dx)),v5,v6]/\zh H4 H'/\
   (0 < i->Vbmiab.isSide b l ⟨(Vbmiab.tip sd).1,(Vbmiab.tip sd).2,(sd.way+1) % 4⟩=false)/\(1 < i->Vbmiab.isSide b l ⟨(Vbmiab.tip sd).1,(Vbmiab.tip sd).2,sd.way⟩=false)) ⟨_,_,rfl,zh.refl _,λz=>absurd z (by omega),λz=>absurd z (by omega)⟩ ?_ ?_ ?_
  ·rintro i σ H' hi ⟨v5,v6,rfl,sm,_,_⟩;exact⟨_,_,yw.of (sm _ _ t4),z28 hi⟩
  ·rintro i σ H' x H2 D' hi ⟨v5,v6,rfl,sm,n1,n2⟩ ⟨rfl,hx⟩ ea;have ex:=hx _ (yw.of (sm _ _ t4));have main:∀ tn:Nat,x=vN tn->(∀ H5 r,zh H H5->H5 r=some (.tup (sV ⟨(Vbmiab.tip sd).1,(Vbmiab.tip sd).2,(sd.way+tn) % 4⟩))->Vbmiab.isSide b l ⟨(Vbmiab.tip sd).1,(Vbmiab.tip sd).2,(sd.way+tn) % 4⟩=true->Q (.ref r) H5)->
     (Vbmiab.isSide b l ⟨(Vbmiab.tip sd).1,(Vbmiab.tip sd).2,(sd.way+tn) % 4⟩=false->(0 < i+1->Vbmiab.isSide b l ⟨(Vbmiab.tip sd).1,(Vbmiab.tip sd).2,(sd.way+1) % 4⟩=false)/\(1 < i+1->Vbmiab.isSide b l ⟨(Vbmiab.tip sd).1,(Vbmiab.tip sd).2,sd.way⟩=false))->
     wb 5 x [some (.ref t),some (.ref d),some (vN sd.way),some (.int ((sd.y:Int)+dy)),some (.int ((sd.x:Int)+dx)),v5,v6] H2 λσ2 H2=>
      zi2 (zmq (zsy (Q5 (Ky 3) (Q5 (Ky 4) (Q5 (tOp (rI (λx j=>0 < j) λi j=>V.int (i % j)) (tOp (rI0 λi j=>V.int (i+j)) (Ky 2) (Ky 5)) (tC (V.int 4))) zi1)))) (wb 6))
       (zgq (tB (zyv (Ky 6) (Ky 1))) (zw8 (Ky 6)) zgr) D' σ2 H2:=by
    intro tn htn yes no;subst htn;refine⟨_,rfl,_,rfl,_,rfl,_,rfl,_,_,rfl,rfl,_,_,rfl,rfl,(by show (0:Int) < 4;decide),(by show 3<=sizeLine;decide),λtb htb=>?_⟩;have ec:[V.int ((sd.y:Int)+dy),V.int ((sd.x:Int)+dx),V.int (((sd.way:Int)+(tn:Int)) % 4)]=sV ⟨(Vbmiab.tip sd).1,(Vbmiab.tip sd).2,(sd.way+tn) % 4⟩:=by
     rw[e2,e3];show _=[V.int _,V.int _,V.int (((sd.way+tn) % 4:Nat):Int)];rw[Int.natCast_emod,z5h];rfl
    have s5:zh H2 (upd H2 tb (.tup [V.int ((sd.y:Int)+dy),V.int ((sd.x:Int)+dx),V.int (((sd.way:Int)+(tn:Int)) % 4)])):=zh.upd htb;have t5:(upd H2 tb (.tup [V.int ((sd.y:Int)+dy),V.int ((sd.x:Int)+dx),V.int (((sd.way:Int)+(tn:Int)) % 4)])) tb=some (.tup ((kS ⟨(Vbmiab.tip sd).1,(Vbmiab.tip sd).2,(sd.way+tn) % 4⟩).map kV)):=by
     rw[zb,ec];rfl
    generalize (upd H2 tb (.tup [V.int ((sd.y:Int)+dy),V.int ((sd.x:Int)+dx),V.int (((sd.way:Int)+(tn:Int)) % 4)]))=H5 at s5 t5 ⊢;refine⟨_,rfl,_,rfl,d,_,rfl,.inr ⟨_,_,tb,Yj hd ((s4.trans sm).trans s5),rfl,t5,rfl⟩,_,rfl,?_⟩;rw[zek];have im:(⟨(Vbmiab.tip sd).1,(Vbmiab.tip sd).2,(sd.way+tn) % 4⟩:Side)∈Vbmiab.allSides b l↔Vbmiab.isSide b l ⟨(Vbmiab.tip sd).1,(Vbmiab.tip sd).2,(sd.way+tn) % 4⟩=true:=by
     rw[zr];exact⟨λh=>h.1,λh=>⟨h,Nat.mod_lt _ (by decide)⟩⟩
    refine jr (λe=>?_) (λe=>?_)
    ·by_cases hm:(⟨(Vbmiab.tip sd).1,(Vbmiab.tip sd).2,(sd.way+tn) % 4⟩:Side)∈Vbmiab.allSides b l
     ·exact⟨_,rfl,ea.rt _ _ (yes _ tb ((s4.trans sm).trans s5) t5 (im.mp hm))⟩
     ·rw[z3k hm]at e;cases e
    ·by_cases hm:(⟨(Vbmiab.tip sd).1,(Vbmiab.tip sd).2,(sd.way+tn) % 4⟩:Side)∈Vbmiab.allSides b l
     ·rw[z3m hm]at e;exact absurd rfl e
     ·have:=no (by cases q:Vbmiab.isSide b l ⟨(Vbmiab.tip sd).1,(Vbmiab.tip sd).2,(sd.way+tn) % 4⟩ with
       |false=>rfl
       |true=>exact absurd (im.mpr q) hm)
      exact ea.nx _ _ ⟨_,_,rfl,sm.trans s5,this.1,this.2⟩
   match i,hi,ex,n1,n2,ea,main with
   |0,_,ex,n1,n2,ea,main=>
    refine main 1 (z3p ex).symm (λH5 r s5 h5 hi=>k H5 r s5 ?_) (λh=>⟨λ_=>h,λz=>absurd z (by omega)⟩);rw[h5];unfold Vbmiab.nextSide
    try dsimp only
    rw[z3m hi]
   |1,_,ex,n1,n2,ea,main=>
    have h1:=n1 (by omega);refine main 0 (z3p ex).symm (λH5 r s5 h5 hi=>k H5 r s5 ?_) (λh=>⟨λ_=>h1,λ_=>?_⟩)
    ·rw[h5];rw[Nat.add_zero,z7u w4]at hi ⊢;unfold Vbmiab.nextSide
     try dsimp only
     rw[z3k (by rw[h1];exact Bool.noConfusion),z3m hi]
    ·rw[Nat.add_zero,z7u w4]at h;exact h
  ·rintro σ H' ⟨v5,v6,rfl,sm,n1,n2⟩;refine⟨⟨_,yw.of (sm _ _ t4),z3c _⟩,?_⟩;refine⟨_,rfl,_,rfl,_,rfl,_,_,rfl,rfl,_,_,rfl,rfl,(by show (0:Int) < 4;decide),(by show 3<=sizeLine;decide),λtb htb=>?_⟩;refine k _ tb ((s4.trans sm).trans (zh.upd htb)) ?_;rw[zb];have h1:=n1 (by omega);have h2:=n2 (by omega);have en:Vbmiab.nextSide b l sd=⟨(Vbmiab.tip sd).1,(Vbmiab.tip sd).2,(sd.way+3) % 4⟩:=by
    unfold Vbmiab.nextSide
    try dsimp only
    rw[z3k (by rw[h1];exact Bool.noConfusion),z3k (by rw[h2];exact Bool.noConfusion)]
   rw[en];show some (HO.tup [V.int ((sd.y:Int)+dy),V.int ((sd.x:Int)+dx),V.int (((sd.way:Int)+3) % 4)])=some (HO.tup [V.int _,V.int _,V.int (((sd.way+3) % 4:Nat):Int)]);rw[e2,e3,Int.natCast_emod,z5h];rfl
theorem zph {C:Type}(nx:C->C)(s:C)(k:Nat):Jp nx s (k+1)=Jp nx s k++[it nx k s]:=by
 unfold Jp;rw[z49,z3g];rfl
theorem Ku {b:Vbmiab.Bench}{l:List Nat}{s:Side}(h:s∈Vbmiab.allSides b l):∀ k,it (Vbmiab.nextSide b l) k s∈Vbmiab.allSides b l
 |0=>h
 |k+1=>by
  have ih:=Ku h k;obtain⟨h1,h2⟩:=zr.mp ih;exact zr.mpr (wn b l h1 h2)
inductive zt5 (vs:List V)(H:Hp)(Q:VK):Prop
 |mk (t d:Addr) (b:Vbmiab.Bench) (l:List Nat) (s:Side):vs=[.ref t,.ref d]->H t=some (.tup (sV s))->Rd H d (.dT (dS (Vbmiab.allSides b l)))->s∈Vbmiab.allSides b l->(Vbmiab.allSides b l).length<=500->(∀(H':Hp) (q:Addr) (as:List Addr) (n:Nat),zh H H'->H q=none->H' q=some (.lst (as.map V.ref))->Rows H' as ((Jp (Vbmiab.nextSide b l) s n).map sV)->Per (Vbmiab.nextSide b l) s n->n<=(Vbmiab.allSides b l).length->Q (.ref q) H')->zt5 vs H Q
def z1h:Sp:=λvs H Q _=>zt5 vs H Q
def zse:zo ["first","sides","members","side"] ["first","sides"] (zj Kn):=by walk_at "sc"
theorem zc5 (T:qf K mg CB CR CC)(U:zap K mg):xo P w K mg base "round_from" 2 ["first","sides"] z1h:=by
 refine T.f_round_from.con λf fd F=>F.ok zse (λ_ _ _ _ h=>?_) (λ_ A _ s H vs Q E hr h=>?_)
 ·obtain⟨t,d,b,l,s,rfl,_⟩:=h;rfl
 ·obtain⟨t,d,b,l,sd,rfl,ht,hd,hs,hlen,k⟩:=h;refine⟨_,zc (zn (i:=2) zse.nd rfl (Or.inl rfl) (zy (za (pv 0) zd)))
   (zc (zn (i:=3) zse.nd rfl (Or.inl rfl) (je (Qj T U) hr.m0 (za (pv 0) (za (pv 1) zd))))
   (zc (Kb z3v (jh (zvz hr.units) (pv 3) (pv 0) (jl _))
    (zc (yb (xp z3y z4k z4j yo (pv 2) (za (pv 3) zd)))
    (zg (zn (i:=3) zse.nd rfl (Or.inl rfl) (je (Qj T U) hr.m0 (za (pv 3) (za (pv 1) zd)))))))
   (zg (zm (pv 2))))),?_⟩
  refine⟨_,rfl,(by show 1<=sizeLine;decide),λq hq=>?_⟩;have s1:zh H (upd H q (.lst [V.ref t])):=zh.upd hq;have q1:(upd H q (.lst [V.ref t])) q=some (.lst ([t].map V.ref)):=zb;generalize (upd H q (.lst [V.ref t]))=H1 at s1 q1 ⊢;refine⟨_,rfl,_,rfl,t,d,b,l,sd,rfl,s1 _ _ ht,Yj hd s1,hs,λH2 r s2 hr2=>?_⟩;obtain⟨n,hn,hper⟩:=zo6 hs;refine⟨λm σ H'=>∃(kk:Nat) (as:List Addr) (r:Addr),σ=[some (.ref t),some (.ref d),some (.ref q),some (.ref r)]/\zh H H'/\H' q=some (.lst (as.map V.ref))/\Rows H' as ((Jp (Vbmiab.nextSide b l) sd kk).map sV)/\H' r=some (.tup (sV (it (Vbmiab.nextSide b l) kk sd)))/\1<=kk/\kk<=n/\m=n - kk,
   ⟨_,1,[t],r,rfl,s1.trans s2,s2 _ _ q1,.cons ((s1.trans s2) _ _ ht) .nil,hr2,z3c _,hper.1,rfl⟩,?_⟩
  rintro m σ H' ⟨kk,as,r,rfl,sm,hq',hrw,hr',h1,h2,rfl⟩;refine⟨_,rfl,_,rfl,_,_,zj0 hr',zj0 (sm _ _ ht),G8 _,G8 _,_,rfl,?_⟩;rw[zn6];have alen:as.length=kk:=by
   have:=hrw.len;rw[z25]at this;unfold Jp at this;rw[z25,z4q]at this;exact this
  refine jr (λe=>?_) (λe=>?_)
  ·have e:¬it (Vbmiab.nextSide b l) kk sd=sd:=by simpa using e
   have hlt:kk < n:=by
    rcases Nat.lt_or_ge kk n with h|h
    ·exact h
    ·have:kk=n:=by omega
     rw[this]at e;exact absurd hper.2.1 e
   refine⟨λσ' H''=>∃ m',m' < n - kk/\∃(kk:Nat) (as:List Addr) (r:Addr),σ'=[some (.ref t),some (.ref d),some (.ref q),some (.ref r)]/\zh H H''/\H'' q=some (.lst (as.map V.ref))/\Rows H'' as ((Jp (Vbmiab.nextSide b l) sd kk).map sV)/\H'' r=some (.tup (sV (it (Vbmiab.nextSide b l) kk sd)))/\1<=kk/\kk<=n/\m'=n - kk,λσ' H'' h=>h,?_⟩;refine⟨_,rfl,.inl ⟨rfl,_,zx.of hq'⟩,_,rfl,q,_,.ref r,rfl,rfl,hq',by rw[z25];exact zp (by omega),?_⟩;have k4:∀ bb o,bb≠q->H' bb=some o->(upd H' q (.lst (as.map V.ref++[V.ref r]))) bb=some o:=λbb o nn e=>by rw[ze nn];exact e
   have q4:(upd H' q (.lst (as.map V.ref++[V.ref r]))) q=some (.lst ((as++[r]).map V.ref)):=by
    rw[zb,z3g];rfl
   generalize (upd H' q (.lst (as.map V.ref++[V.ref r])))=H4 at k4 q4 ⊢;have sm4:zh H H4:=λbb o e=>k4 _ _ (zf e hq) (sm _ _ e);have tq:∀{bb r},H' bb=some (.tup r)->H4 bb=some (.tup r):=λ{bb r} e=>k4 _ _ (ja e hq' (by intro z;cases z)) e;refine⟨_,rfl,_,rfl,r,d,b,l,_,rfl,tq hr',Yj hd sm4,Ku hs kk,λH5 r5 s5 hr5=>?_⟩;refine⟨n - (kk+1),by omega,kk+1,as++[r],r5,rfl,sm4.trans s5,s5 _ _ q4,?_,hr5,by omega,by omega,rfl⟩;rw[zph,z3g];exact ((hrw.keep λ_ _ e=>tq e).same s5).snoc (s5 _ _ (tq hr'))
  ·have e:it (Vbmiab.nextSide b l) kk sd=sd:=by simpa using e
   have hkn:kk=n:=by
    rcases Nat.lt_or_ge kk n with h|h
    ·exact absurd e (hper.2.2 kk h1 h)
    ·omega
   subst hkn;exact⟨_,rfl,k _ q as kk sm hq hq' hrw hper hn⟩
inductive zt9 (vs:List V)(H:Hp)(Q:VK):Prop
 |mk (q:Addr) (as:List Addr) (r:List Side) (z:Side):vs=[.ref q]->H q=some (.lst (as.map V.ref))->Rows H as (r.map sV)->r.getLast? =some z->r.length<=500->(∀(H':Hp) (c:Addr) (cs:List Addr),zh H H'->H c=none->H' c=some (.lst (cs.map V.ref))->Rows H' cs ((tc z r).map cV)->Q (.ref c) H')->zt9 vs H Q
def z1l:Sp:=λvs H Q _=>zt9 vs H Q
def zpx:zo ["members","corners","before","side"] ["members"] (zj Zp):=by walk_at "sc"
theorem zkv (bf s:Side)(r:List Side):tc bf (s::r)=(if (s.way != bf.way)=true then [(s.x,s.y)] else [])++tc s r:=rfl
theorem Xw (T:qf K mg CB CR CC):xo P w K mg base "turning_corners" 1 ["members"] z1l:=by
 refine T.f_turning_corners.con λf fd F=>F.ok zpx (λ_ _ _ _ h=>?_) (λ_ A _ s H vs Q E hr h=>?_)
 ·obtain⟨q,as,r,z,rfl,_⟩:=h;rfl
 ·obtain⟨q,as,r,z,rfl,hq,hrw,hz,hlen,k⟩:=h;refine⟨_,zc (zn (i:=1) zpx.nd rfl (Or.inl rfl) (zy zd))
   (zc (zn (i:=2) zpx.nd rfl (Or.inl rfl) (zu zw (pv 0) (zkg zei zi) (λ_ _=>rfl)))
   (zc (jt z3v rfl (jo (pv 0)) (zt (i:=3) zpx.nd rfl (Or.inl rfl))
    (zc (ju (jh zb5 (zu jm (pv 3) zi (λ_ _=>rfl)) (zu jm (pv 2) zi (λ_ _=>rfl)) (jl _)) (zg (yb (xp z3y z4k z4j yo (pv 1) (za (qj (za (zu jm (pv 3) zi (λ_ _=>rfl)) (za (zu jm (pv 3) zi (λ_ _=>rfl)) zd))) zd)))) (jb))
    (zg (zn (i:=2) zpx.nd rfl (Or.inl rfl) (pv 3)))))
   (zg (zm (pv 1))))),?_⟩
  refine⟨z4c _,λc hc=>?_⟩;have s1:zh H (upd H c (.lst [])):=zh.upd hc;have c1:(upd H c (.lst [])) c=some (.lst (([]:List Addr).map V.ref)):=zb;have q1:=s1 _ _ hq;have hrw1:=hrw.same s1;generalize (upd H c (.lst []))=H1 at s1 c1 q1 hrw1 ⊢;have elen:as.length=r.length:=by have:=hrw.len;rwa [z25]at this
  have ncq:q≠c:=zf hq hc;obtain⟨r0,er0⟩:=z8a.mp hz;have hlast:r[r.length - 1]? =some z:=by
   rw[er0,z3a,z42,z9g,z5d (z3c _),z7r];rfl
  have rpos:0 < r.length:=by rw[er0,z3a];simp
  obtain⟨az,haz,hzt⟩:=hrw1.at' (i:=r.length - 1) (r:=sV z) (by rw[z27,hlast];rfl);have eat:atI (as.map V.ref) (-1)=some (V.ref az):=by
   obtain⟨as0,az',rfl⟩:∃ as0 az',as=as0++[az']:=by
    rcases z8z as with z|⟨l,x,z⟩
    ·rw[z]at elen;simp at elen;omega
    ·exact⟨l,x,by rw[z,z80]⟩
   rw[<-elen,z3a,z42,z9g,z5d (z3c _),z7r]at haz;cases haz;rw[z3g];exact ze3 _ _
  refine⟨_,rfl,_,rfl,q,_,_,_,rfl,rfl,zx.of q1,eat,?_⟩;refine⟨_,rfl,q,rfl,⟨_,zx.of q1⟩,?_⟩;refine J6 (xs:=as.map V.ref) (λi σ H'=>∃(v3:Option V) (ab:Addr) (bf:Side) (cs:List Addr) (done:List (Nat×Nat)),σ=[some (.ref q),some (.ref c),some (.ref ab),v3]/\(∀ bb o,bb≠c->H1 bb=some o->H' bb=some o)/\H' c=some (.lst (cs.map V.ref))/\Rows H' cs (done.map cV)/\H' ab=some (.tup (sV bf))/\
   done++tc bf (r.drop i)=tc z r/\done.length<=i) ⟨_,az,z,[],[],rfl,λbb o _ e=>e,c1,.nil,hzt,rfl,z4c _⟩ (λi σ H' _ ⟨v3,ab,bf,cs,done,_,k2,_⟩=>zx.of (k2 _ _ ncq q1)) ?_ ?_
  ·rintro i x σ H' D' hx ⟨v3,ab,bf,cs,done,rfl,k2,hcs,hrc,hab,hdn,hdl⟩ ea;rw[z27]at hx;obtain⟨am,ham,rfl⟩:=z3q.mp hx;obtain⟨rm,hrm1,hrm2⟩:=hrw1.at ham;rw[z27]at hrm1;obtain⟨sd,hsd,rfl⟩:=z3q.mp hrm1;have tm:=k2 _ _ (ja hrm2 c1 (by intro z;cases z)) hrm2;have hi:=(z3b.mp hsd).1;have ed:r.drop i=sd::r.drop (i+1):=by
    rw[z5m hi,(z3b.mp hsd).2]
   rw[ed,zkv]at hdn;have clen:cs.length=done.length:=by have:=hrc.len;rwa [z25]at this
   have go:∀(H5:Hp) (cs5:List Addr) (done5:List (Nat×Nat)),(∀ bb o,bb≠c->H1 bb=some o->H5 bb=some o)->H5 c=some (.lst (cs5.map V.ref))->Rows H5 cs5 (done5.map cV)->done5++tc sd (r.drop (i+1))=tc z r->done5.length<=i+1->D'.nx [some (.ref q),some (.ref c),some (.ref am),some (.ref am)] H5:=λH5 cs5 done5 h1 h2 h3 h4 h5=>
    ea.nx _ _ ⟨_,am,sd,cs5,done5,rfl,h1,h2,h3,h1 _ _ (ja hrm2 c1 (by intro z;cases z)) hrm2,h4,h5⟩
   refine⟨_,rfl,am,_,_,_,rfl,rfl,yw.of tm,zk (j:=2) rfl,?_⟩;refine⟨_,rfl,ab,_,_,_,rfl,rfl,yw.of hab,zk (j:=2) rfl,?_⟩;refine⟨rfl,_,rfl,?_⟩;have ew:(!decide (V.int (sd.way:Int)=V.int (bf.way:Int)))=(sd.way != bf.way):=by
    rw[yf zak,z4l];simp;omega
   refine jr (λe=>?_) (λe=>?_)
   ·have e:(sd.way != bf.way)=true:=ew▸e;rw[z3m e]at hdn;refine⟨_,rfl,.inl ⟨rfl,_,zx.of hcs⟩,_,rfl,am,_,_,_,rfl,rfl,yw.of tm,zk (j:=1) rfl,_,rfl,am,_,_,_,rfl,rfl,yw.of tm,zk (j:=0) rfl,(by show 2<=sizeLine;decide),λt5 ht5=>?_⟩;have s5:zh H' (upd H' t5 (.tup [vN sd.x,vN sd.y])):=zh.upd ht5;have t5':(upd H' t5 (.tup [vN sd.x,vN sd.y])) t5=some (.tup (cV (sd.x,sd.y))):=zb;generalize (upd H' t5 (.tup [vN sd.x,vN sd.y]))=H5 at s5 t5' ⊢;have c5:=s5 _ _ hcs;refine⟨c,_,.ref t5,rfl,rfl,c5,by rw[z25];exact zp (by omega),?_⟩;refine⟨_,rfl,?_⟩;refine go _ (cs++[t5]) (done++[(sd.x,sd.y)]) (λbb o n e=>?_) ?_ ?_ (by rw[z4d];exact hdn) (by rw[z3a];exact Nat.succ_le_succ hdl)
    ·rw[ze n];exact s5 _ _ (k2 _ _ n e)
    ·rw[zb,z3g];rfl
    ·rw[z3g];refine Rows.snoc ?_ ((hrc.same s5).keep λbb r e=>?_)
     ·rw[ze (ja t5' c5 (by intro z;cases z))];exact t5'
     ·rw[ze (ja e c5 (by intro z;cases z))];exact e
   ·have e:¬(sd.way != bf.way)=true:=ew▸e;rw[z3k e]at hdn;exact⟨_,rfl,go _ cs done k2 hcs hrc hdn (by omega)⟩
  ·rintro σ H' ⟨v3,ab,bf,cs,done,rfl,k2,hcs,hrc,hab,hdn,hdl⟩;rw[z25,elen,z59]at hdn;have e:done=tc z r:=by
    rw[<-hdn];exact (z31 _).symm
   rw[e]at hrc;exact⟨_,rfl,k _ c cs (λbb o e=>k2 _ _ (zf e hc) (s1 _ _ e)) hc hcs hrc⟩
theorem zwb {b:Vbmiab.Bench}{l:List Nat}{s:Side}{n:Nat}(hs:s∈Vbmiab.allSides b l)(h:Per (Vbmiab.nextSide b l) s n):(Jp (Vbmiab.nextSide b l) s n).Nodup:=by
 refine z52 λz=>?_;obtain⟨i,j,h1,h2,e⟩:=zde z;have:=W5 (nx:=Vbmiab.nextSide b l) (L:=Vbmiab.allSides b l) (λs h=>zr.mpr (wn b l (zr.mp h).1 (zr.mp h).2)) (λs t hs ht e=>Yb b l (zr.mp hs).1 (zr.mp hs).2 (zr.mp ht).1 (zr.mp ht).2 e) hs i (j - i) (by rw[show i+(j - i)=j by omega];exact e);exact h.2.2 (j - i) (by omega) (by omega) this
theorem zpg {b:Vbmiab.Bench}{l:List Nat}{s u:Side}{n:Nat}(hs:s∈Vbmiab.allSides b l)(hu:u∈Vbmiab.allSides b l)(h:Per (Vbmiab.nextSide b l) s n)(e:Vbmiab.nextSide b l u∈Jp (Vbmiab.nextSide b l) s n):u∈Jp (Vbmiab.nextSide b l) s n:=
 zd7 (nx:=Vbmiab.nextSide b l) (L:=Vbmiab.allSides b l) (λs h=>zr.mpr (wn b l (zr.mp h).1 (zr.mp h).2)) (λs t hs ht e=>Yb b l (zr.mp hs).1 (zr.mp hs).2 (zr.mp ht).1 (zr.mp ht).2 e) hs hu h e
theorem zr0 {b:Vbmiab.Bench}{l:List Nat}{s:Side}{n:Nat}(hs:s∈Vbmiab.allSides b l):∀ c,c∈Jp (Vbmiab.nextSide b l) s n->c∈Vbmiab.allSides b l:=λc hc=>by
 obtain⟨k,_,rfl⟩:=Zo.mp hc;exact Ku hs k
def ze2 (H:Hp)(q:Addr)(r:List Side):Prop:=∃ as,H q=some (.lst (as.map V.ref))/\Rows H as (r.map sV)/\r≠[]/\r.length<=500
theorem ze2.keep {H H':Hp}{q:Addr}{r:List Side}(h:ze2 H q r)(k:∀ b o,((∃ r,o=.tup r)\/(b=q/\∃ xs,o=.lst xs))->H b=some o->H' b=some o):ze2 H' q r:=by
 obtain⟨as,h1,h2,h3⟩:=h;exact⟨as,k _ _ (.inr ⟨rfl,_,rfl⟩) h1,h2.keep λb r e=>k _ _ (.inl ⟨r,rfl⟩) e,h3⟩
inductive zt1 (C:Addr)(vs:List V)(H:Hp)(Q:VK):Prop
 |mk (a q:Addr) (b:Vbmiab.Bench) (l:List Nat):vs=[.ref a,.ref q]->zq C H a b->(H q=some (.lst (l.map vN))/\l.length=b.ny/\∀(H':Hp) (r:Addr) (qs:List Addr),zh H H'->H' r=some (.lst (qs.map V.ref))->Paired (ze2 H') qs (rc (Vbmiab.nextSide b l) (4*b.nx*b.ny) (Vbmiab.allSides b l) [])->qs.length<=500->Q (.ref r) H')->zt1 C vs H Q
def z1d (C:Addr):Sp:=λvs H Q _=>zt1 C vs H Q
def zee:zo ["bench","lines","sides","placed","rounds","side","members","member"] ["bench","lines"] (zj Wf):=by walk_at "sc"
theorem zfa (T:qf K mg CB CR CC)(U:zap K mg):xo P w K mg base "rounds_of" 4 ["bench","lines"] (z1d CB):=by
 refine T.f_rounds_of.con λf fd F=>F.ok zee (λ_ _ _ _ h=>?_) (λ_ A _ s H vs Q E hr h=>?_)
 ·obtain⟨a,q,b,l,rfl,_⟩:=h;rfl
 ·obtain⟨a,q,b,l,rfl,B,hq,hl,k⟩:=h;have gd:=B.good;have g56:=wf gd;have slen:(Vbmiab.allSides b l).length<=224:=by
   have h1:=Z9 b l;rw[z8k]at h1;omega
  have F4:(Vbmiab.allSides b l).length<=4*b.nx*b.ny:=Z9 b l;refine⟨_,zc (zn (i:=2) zee.nd rfl (Or.inl rfl) (qv (zhk (z5v (Nat.add_le_add_left (by decide:2<=64) _) hr.units) rfl) rfl T.b_dict (by decide+kernel) (za (ko rfl zee.nd (jo (je (zhi T U) hr.m0 (za (pv 0) (za (pv 1) zd)))) (jq (own:=[("side",5)]) rfl) (λ_ _ _ _ _=>(zt (i:=5) zee.nd rfl (Or.inl rfl))) (λ_ _ _ _ _=>q0) (λ_ _ _ _ _=>(qj (za (pv 5) (za vn zd))))) zd)))
   (zc (zn (i:=3) zee.nd rfl (Or.inl rfl) Gs)
   (zc (zn (i:=4) zee.nd rfl (Or.inl rfl) (zy zd))
   (zc (Ka (jt z3v rfl (Y8 (pv 2)) (zt (i:=5) zee.nd rfl (Or.inl rfl))
    (zg (ju (Jo (Y7 (xf hr) (pv 5) (pv 3))) (zc (zn (i:=6) zee.nd rfl (Or.inl rfl) (je (zc5 T U) hr.m0 (za (pv 5) (za (pv 2) zd))))
     (zc (yb (xp z3y z4k z4j yo (pv 4) (za (pv 6) zd)))
     (zg (jt z3v rfl (jo (pv 6)) (zt (i:=7) zee.nd rfl (Or.inl rfl))
      (zg (Zn (xf hr) (pv 3) (pv 7) vn rfl)))))) (jb)))))
   (zg (zm (pv 4)))))),?_⟩
  refine⟨_,rfl,_,rfl,a,q,b,l,rfl,B,hq,hl,λH1 r1 as1 s1 hr1 hrw1=>?_⟩;have Qg:as1.length=(Vbmiab.allSides b l).length:=by have:=hrw1.len;rwa [z25]at this
  refine⟨r1,rfl,⟨_,zx.of hr1⟩,λD hD=>?_⟩;refine zrh (n:=as1.length) (λi H' acc=>∃ ps:List Addr,acc=ps.map V.ref/\zh H1 H'/\Paired (PrT H') ps (dS ((Vbmiab.allSides b l).take i))) (z36 (zp (by omega))) ⟨[],rfl,zh.upd hD,.nil⟩ (λi H' acc hi _ ⟨ps,_,sm,_⟩=>⟨_,_,zx.of (sm _ _ hr1),by rw[z27,z28 hi];rfl⟩) (λi H' acc x H2 Nt Nf hi hacc hp y hN hF=>?_) (λH' acc hacc hp=>?_)
  ·obtain⟨ps,rfl,sm,hpp⟩:=hp;obtain⟨rfl,hx⟩:=y;have ex:=hx _ (zx.of (sm _ _ hr1));rw[z27,z28 hi]at ex;obtain rfl:V.ref as1[i]=x:=z3p ex;obtain⟨rr,h1,h2⟩:=hrw1.at (z28 hi);rw[z27]at h1;obtain⟨sd,hsd,rfl⟩:=z3q.mp h1;generalize as1[i]=t at h2 ⊢;refine⟨rfl,?_⟩;refine⟨_,rfl,(by show 2<=sizeLine;decide),λtp htp=>?_⟩;have s3:zh H2 (upd H2 tp (.tup [V.ref t,V.bl true])):=zh.upd htp;have t3:(upd H2 tp (.tup [V.ref t,V.bl true])) tp=some (.tup [V.ref t,V.bl true]):=zb;generalize (upd H2 tp (.tup [V.ref t,V.bl true]))=H3 at s3 t3 ⊢;have D3:=s3 _ _ hacc;refine hN _ _ D3 ⟨ps++[tp],by rw[z3g];rfl,yc (sm.trans s3) hD,?_⟩;unfold dS;rw[jw hsd,z3g];have kt:∀{bb r},H3 bb=some (.tup r)->(upd H3 D (.lst (ps.map V.ref++[V.ref tp]))) bb=some (.tup r):=λ{bb r} e=>by
    rw[ze (ja e D3 (by intro z;cases z))];exact e
   refine qe ⟨t,kt t3,kt (s3 _ _ (sm _ _ h2))⟩ (jk hpp λp x _ ⟨qq,e1,e2⟩=>⟨qq,kt (s3 _ _ e1),kt (s3 _ _ e2)⟩)
  ·obtain⟨ps,rfl,sm,hpp⟩:=hp;rw[Qg,z4s]at hpp;refine⟨⟨_,zx.of (sm _ _ hr1),by rw[z25];exact z3c _⟩,?_⟩;refine⟨D,ps,_,rfl,hacc,hpp,?_,λd hd=>?_⟩
   ·unfold dS;rw[z4f];refine List.Pairwise.map _ (λs t h e=>h (zoj e)) (Yq b l)
   ·have s2:zh H (upd H' d (.dT (dS (Vbmiab.allSides b l)))):=(s1.trans sm).trans (zh.upd hd);have d2:(upd H' d (.dT (dS (Vbmiab.allSides b l)))) d=some (.dT (dS (Vbmiab.allSides b l))):=zb;have nd:H d=none:=(s1.trans sm).free hd;generalize (upd H' d (.dT (dS (Vbmiab.allSides b l))))=H2 at s2 d2 ⊢;have Lm:=λs=> @zr b l s;have Lnd:=Yq b l;have Lsub:=λ{s:Side}{n:Nat} (h:s∈Vbmiab.allSides b l)=>zr0 (b:=b) (l:=l) (n:=n) h;have Lrnd:=λ{s:Side}{n:Nat} (h:s∈Vbmiab.allSides b l) (hp:Per (Vbmiab.nextSide b l) s n)=>zwb (b:=b) (l:=l) h hp;have Lpre:=λ{s u:Side}{n:Nat} (h:s∈Vbmiab.allSides b l) (hu:u∈Vbmiab.allSides b l) (hp:Per (Vbmiab.nextSide b l) s n)=>zpg (b:=b) (l:=l) h hu hp;have Lit:=λ{s:Side} (h:s∈Vbmiab.allSides b l)=>Ku (b:=b) (l:=l) h;intro pa hpa;have s3:zh H2 (upd H2 pa (.dT [])):=zh.upd hpa;have a3:(upd H2 pa (.dT [])) pa=some (.dT (dS [])):=zb;generalize (upd H2 pa (.dT []))=H3 at s3 a3 ⊢;refine⟨z4c _,λpr hpr=>?_⟩;have s4:zh H3 (upd H3 pr (.lst [])):=zh.upd hpr;have r4:(upd H3 pr (.lst [])) pr=some (.lst (([]:List Addr).map V.ref)):=zb;have a4:=s4 _ _ a3;have d4:=s4 _ _ (s3 _ _ d2);have npa:pa≠d:=λz=>by rw[z,d2]at hpa;cases hpa
    have npr:pr≠d:=λz=>by rw[z,s3 _ _ d2]at hpr;cases hpr
    have nar:pa≠pr:=λz=>by rw[<-z,a3]at hpr;cases hpr
    have s04:=(s2.trans s3).trans s4;have hpaH:H pa=none:=s2.free hpa;have hprH:H pr=none:=(s2.trans s3).free hpr;generalize (upd H3 pr (.lst []))=H4 at s4 r4 a4 d4 s04 ⊢;refine⟨d,_,d4,trivial,λod=>?_⟩;have d5:(upd H4 d (.frz od (.dT (dS (Vbmiab.allSides b l))))) d=some (.frz od (.dT (dS (Vbmiab.allSides b l)))):=zb;have a5:(upd H4 d (.frz od (.dT (dS (Vbmiab.allSides b l))))) pa=some (.dT (dS [])):=by rw[ze npa];exact a4
    have r5:(upd H4 d (.frz od (.dT (dS (Vbmiab.allSides b l))))) pr=some (.lst (([]:List Addr).map V.ref)):=by rw[ze npr];exact r4
    have back:∀ H',(∀ c o,c≠pa->c≠pr->(upd H4 d (.frz od (.dT (dS (Vbmiab.allSides b l))))) c=some o->H' c=some o)->zh H (upd H' d (.dT (dS (Vbmiab.allSides b l)))):=λH' s c o e=>by
     have c1:c≠pa:=zf e hpaH;have c2:c≠pr:=zf e hprH;by_cases z:c=d
     ·subst z;rw[nd]at e;cases e
     ·rw[ze z];exact s c o c1 c2 (by rw[ze z];exact s04 _ _ e)
    generalize (upd H4 d (.frz od (.dT (dS (Vbmiab.allSides b l)))))=HL at d5 a5 r5 back ⊢;refine⟨_,rfl,d,od,rfl,.inr ⟨_,d5,?_⟩⟩;have el:(dS (Vbmiab.allSides b l)).length=(Vbmiab.allSides b l).length:=z25 _;generalize hLL:Vbmiab.allSides b l=L at*;generalize hNX:Vbmiab.nextSide b l=nx at*;refine vm (n:=L.length) (λi σ H'=>∃(v5 v6 v7:Option V) (pl:List Side) (qs:List Addr) (dn:List (List Side)),σ=[some (.ref a),some (.ref q),some (.ref d),some (.ref pa),some (.ref pr),v5,v6,v7]/\
     (∀ c o,c≠pa->c≠pr->HL c=some o->H' c=some o)/\H' pa=some (.dT (dS pl))/\H' pr=some (.lst (qs.map V.ref))/\Paired (ze2 H') qs dn/\dn++rc nx (4*b.nx*b.ny) (L.drop i) pl=rc nx (4*b.nx*b.ny) L []/\
     pl.Nodup/\(∀ c,c∈pl->c∈L)/\(∀ u,u∈L->nx u∈pl->u∈pl)/\(∀ x,x∈qs->x≠pr)/\qs.length<=i)
     ⟨_,_,_,[],[],[],rfl,λc o _ _ e=>e,a5,r5,.nil,rfl,z7o,(λ_ h=>nomatch h),(λ_ _ h=>nomatch h),(λ_ h=>nomatch h),z3c _⟩ ?_ ?_ ?_
    ·rintro i σ H' hi ⟨v5,v6,v7,pl,qs,dn,rfl,sm,ha,hr',hpc,hent,hnd,hsb,hpre,hqr,hql⟩;exact⟨sm _ _ npa.symm npr.symm d5,by rw[el];exact hi⟩
    ·rintro i σ H' x H6 D' hi ⟨v5,v6,v7,pl,qs,dn,rfl,sm,ha,hr',hpc,hent,hnd,hsb,hpre,hqr,hql⟩ ⟨rfl,kk,v,t,hkv,rfl,ht⟩ ea;obtain⟨c,hc⟩:∃ c,L[i]? =some c:=⟨_,z28 hi⟩;unfold dS at hkv;rw[z27,hc]at hkv;cases hkv;have cL:c∈L:=z3r hc;have ed:L.drop i=c::L.drop (i+1):=by
      rw[z5m hi,(z3b.mp hc).2]
     rw[ed]at hent;have hent:dn++(if c∈pl then rc nx (4*b.nx*b.ny) (L.drop (i+1)) pl else Jv nx c (4*b.nx*b.ny) c::rc nx (4*b.nx*b.ny) (L.drop (i+1)) (pl++Jv nx c (4*b.nx*b.ny) c))=rc nx (4*b.nx*b.ny) L []:=hent;refine⟨_,rfl,_,rfl,pa,_,rfl,Qe.t (k:=kS c) ha ht,_,rfl,?_⟩;rw[zek];refine jr (λe=>?_) (λe=>?_)
     ·have npl:¬c∈pl:=λz=>by
       rw[z3m z]at e;cases e
      rw[z3k npl]at hent;refine⟨_,rfl,_,rfl,t,d,b,l,c,rfl,ht,.inr ⟨od,by rw[hLL];exact sm _ _ npa.symm npr.symm d5⟩,by rw[hLL];exact cL,by rw[hLL];omega,λH7 qa as n s7 nqa hqa hrow hper hnl=>?_⟩;rw[hNX]at hrow hper;rw[hLL]at hnl;have r7:=s7 _ _ hr';have a7:=s7 _ _ ha;have nqp:qa≠pa:=λz=>by rw[z,ha]at nqa;cases nqa
      have nqr:qa≠pr:=λz=>by rw[z,hr']at nqa;cases nqa
      have earn:Jv nx c (4*b.nx*b.ny) c=Jp nx c n:=zct hper (by omega);rw[earn]at hent;have plen:(Jp nx c n).length=n:=by
       unfold Jp;rw[z25,z4q]
      have dis:∀ m,m∈Jp nx c n->¬m∈pl:=λm hm hz=>by
       obtain⟨kk,_,rfl⟩:=Zo.mp hm;have:∀ kk,it nx kk c∈pl->c∈pl:=by
        intro kk
        induction kk with
        |zero=>exact λh=>h
        |succ kk ih=>exact λh=>ih (hpre _ (Lit cL kk) h)
       exact npl (this _ hz)
      refine⟨_,rfl,.inl ⟨rfl,_,zx.of r7⟩,_,rfl,pr,_,.ref qa,rfl,rfl,r7,by rw[z25];exact zp (by omega),?_⟩;have k8:∀ bb o,bb≠pr->H7 bb=some o->(upd H7 pr (.lst (qs.map V.ref++[V.ref qa]))) bb=some o:=λbb o n e=>by rw[ze n];exact e
      have r8:(upd H7 pr (.lst (qs.map V.ref++[V.ref qa]))) pr=some (.lst ((qs++[qa]).map V.ref)):=by
       rw[zb,z3g];rfl
      generalize (upd H7 pr (.lst (qs.map V.ref++[V.ref qa])))=H8 at k8 r8 ⊢;have a8:=k8 _ _ nar a7;have q8:=k8 _ _ nqr hqa;have row8:Rows H8 as ((Jp nx c n).map sV):=hrow.keep λbb r e=>k8 _ _ (ja e r7 (by intro z;cases z)) e;refine⟨_,rfl,qa,rfl,⟨_,zx.of q8⟩,?_⟩;refine J6 (xs:=as.map V.ref) (λj σ H9=>∃ v7,σ=[some (.ref a),some (.ref q),some (.ref d),some (.ref pa),some (.ref pr),some (.ref t),some (.ref qa),v7]/\(∀ bb o,bb≠pa->H8 bb=some o->H9 bb=some o)/\H9 pa=some (.dT (dS (pl++(Jp nx c n).take j))))
       ⟨_,rfl,λbb o _ e=>e,by rw[z96,z31];exact a8⟩ (λj σ H9 _ ⟨v7,_,k9,_⟩=>zx.of (k9 _ _ nqp q8)) ?_ ?_
      ·rintro j x σ H9 D2 hx ⟨v7,rfl,k9,a9⟩ eb;rw[z27]at hx;obtain⟨am,ham,rfl⟩:=z3q.mp hx;obtain⟨rm,hrm1,hrm2⟩:=row8.at ham;rw[z27]at hrm1;obtain⟨mm,hmm,rfl⟩:=z3q.mp hrm1;have t9:H9 am=some (.tup ((kS mm).map kV)):=k9 _ _ (ja hrm2 a8 (by intro z;cases z)) hrm2;have hj:=(z3b.mp hmm).1;have nin:¬mm∈pl++(Jp nx c n).take j:=λz=>by
        rcases z33.mp z with z|z
        ·exact dis mm (z3r hmm) z
        ·obtain⟨i2,h2,e2⟩:=z5q z;rw[z35]at h2;rw[z7n]at e2;have:=zf0 (Lrnd cL hper) (z3b.mpr ⟨by omega,e2⟩) hmm;omega
       have pll:pl.length<=224:=z32 (y8 hnd hsb) slen;refine⟨_,rfl,_,rfl,pa,_,rfl,Xn.t a9 t9 (by unfold dS;rw[z25,z3a,z35];exact zp (by omega)),?_⟩;rw[zrx nin];refine eb.nx _ _ ⟨_,rfl,λbb o n e=>?_,?_⟩
       ·rw[ze n];exact k9 _ _ n e
       ·rw[zb,jw hmm,z4d]
      ·rintro σ H9 ⟨v7,rfl,k9,a9⟩;have el2:as.length=(Jp nx c n).length:=by have:=row8.len;rwa [z25]at this
       rw[z25,el2,z4s]at a9;refine ea.nx _ _ ⟨_,_,_,pl++Jp nx c n,qs++[qa],dn++[Jp nx c n],rfl,λcc o n1 n2 e=>k9 _ _ n1 (k8 _ _ n2 (s7 _ _ (sm _ _ n1 n2 e))),a9,k9 _ _ nar.symm r8,?_,by rw[z4d];exact hent,?_,?_,?_,?_,by rw[z3a,z42];omega⟩
       ·refine qe ⟨as,k9 _ _ nqp q8,row8.keep λbb r e=>k9 _ _ (ja e a8 (by intro z;cases z)) e,(λz=>by rw[z]at plen;have:=hper.1;simp at plen;omega),by omega⟩ (jk hpc λqq x hm h=>h.keep λbb o h e=>?_);have nb1:bb≠pa:=by
         intro z;rw[z,ha]at e;cases e;rcases h with ⟨_,h⟩|⟨_,_,h⟩<;>cases h
        have nb2:bb≠pr:=by
         intro z;rcases h with ⟨r,h⟩|⟨h,_⟩
         ·rw[z,hr']at e;cases e;cases h
         ·exact hqr _ hm (h.symm.trans z)
        exact k9 _ _ nb1 (k8 _ _ nb2 (s7 _ _ e))
       ·exact z6c.mpr ⟨hnd,Lrnd cL hper,λx hx y hy e=>dis y hy (e▸hx)⟩
       ·exact λcc h=>(z33.mp h).elim (hsb cc) (Lsub cL cc)
       ·intro u hu h;rcases z33.mp h with h|h
        ·exact z4b _ (hpre u hu h)
        ·exact z38 _ (Lpre cL hu hper h)
       ·intro x hx;rcases z33.mp hx with hx|hx
        ·exact hqr x hx
        ·rw[z37.mp hx];exact nqr
     ·have ipl:c∈pl:=z6h λz=>e (by rw[z3k z];rfl);rw[z3m ipl]at hent;exact ea.nx _ _ ⟨_,_,_,pl,qs,dn,rfl,sm,ha,hr',hpc,hent,hnd,hsb,hpre,hqr,by omega⟩
    ·rintro σ H' ⟨v5,v6,v7,pl,qs,dn,rfl,sm,ha,hr',hpc,hent,hnd,hsb,hpre,hqr,hql⟩;have d6:=sm _ _ npa.symm npr.symm d5;refine⟨⟨d6,by rw[el];exact z3c _⟩,d6,?_⟩;rw[z59]at hent;have e:dn=rc nx (4*b.nx*b.ny) L []:=by
      rw[<-hent];exact (z31 _).symm
     rw[e]at hpc;refine⟨_,rfl,k _ pr qs (back _ sm) (by rw[ze npr];exact hr') (jk hpc λqa x _ h=>h.keep λc o h e=>?_) (by omega)⟩;rw[ze (λz=>?_)]
     ·exact e
     ·rw[z,d6]at e;cases e;rcases h with ⟨_,h⟩|⟨_,_,h⟩<;>cases h
def zao (H:Hp)(q:Addr)(ol:List (Nat×Nat)):Prop:=∃ cs,H q=some (.lst (cs.map V.ref))/\Rows H cs (ol.map cV)/\ol.length<=500
theorem zao.same {H H':Hp}{q:Addr}{r:List (Nat×Nat)}(h:zao H q r)(s:zh H H'):zao H' q r:=by
 obtain⟨as,h1,h2,h3⟩:=h;exact⟨as,s _ _ h1,h2.same s,h3⟩
theorem ze2.same {H H':Hp}{q:Addr}{r:List Side}(h:ze2 H q r)(s:zh H H'):ze2 H' q r:=h.keep λ_ _ _ e=>s _ _ e
theorem zqb:∀(r:List Side) (z:Side),(tc z r).length<=r.length
 |[],z=>z3c _
 |s::r,z=>by
  rw[zkv,z3a,z3l];have:=zqb r s;split
  ·rw[z42];omega
  ·rw[z73];omega
theorem y9 {α β:Type}{F:α->β->Prop}:∀{l₁:List α}{l₂:List β}{i:Nat}{a:α},Paired F l₁ l₂->l₁[i]? =some a->∃ b,l₂[i]? =some b/\F a b:=λp h=>Xg p h
inductive ztw (C:Addr)(vs:List V)(H:Hp)(Q:VK):Prop
 |mk (a q:Addr) (b:Vbmiab.Bench) (l:List Nat):vs=[.ref a,.ref q]->zq C H a b->(H q=some (.lst (l.map vN))/\l.length=b.ny/\∀(H':Hp) (r:Addr) (qs:List Addr),zh H H'->H' r=some (.lst (qs.map V.ref))->Paired (zao H') qs (Vbmiab.outlines b l)->qs.length<=500->Q (.ref r) H')->ztw C vs H Q
def z08 (C:Addr):Sp:=λvs H Q _=>ztw C vs H Q
def zwo:zo ["bench","lines","members"] ["bench","lines"] (zj Qy):=by walk_at "sc"
theorem za0 (T:qf K mg CB CR CC)(U:zap K mg):xo P w K mg base "outlines_of" 5 ["bench","lines"] (z08 CB):=by
 refine T.f_outlines_of.con λf fd F=>F.ok zwo (λ_ _ _ _ h=>?_) (λ_ A _ s H vs Q E hr h=>?_)
 ·obtain⟨a,q,b,l,rfl,_⟩:=h;rfl
 ·obtain⟨a,q,b,l,rfl,B,hq,hl,k⟩:=h;refine⟨_,zg (zm (ko rfl zwo.nd (jo (je (zfa T U) hr.m0 (za (pv 0) (za (pv 1) zd)))) (jq (own:=[("members",2)]) rfl) (λ_ _ _ _ _=>(zt (i:=2) zwo.nd rfl (Or.inl rfl))) (λ_ _ _ _ _=>q0) (λ_ _ _ _ _=>(je (Xw T) hr.m0 (za (pv 2) zd))))),?_⟩;refine⟨_,rfl,_,rfl,a,q,b,l,rfl,B,hq,hl,λH1 r1 qs1 s1 hr1 hpr hql=>?_⟩;have eo:=V6 b l;generalize rc (Vbmiab.nextSide b l) (4*b.nx*b.ny) (Vbmiab.allSides b l) []=rs at hpr eo;refine⟨r1,rfl,⟨_,zx.of hr1⟩,λD hD=>?_⟩;have elen:qs1.length=rs.length:=z39 hpr;refine zrh (n:=qs1.length) (λi H' acc=>∃ ps:List Addr,acc=ps.map V.ref/\zh H1 H'/\(∀ p,p∈ps->p≠D)/\Paired (zao H') ps ((rs.take i).map Vbmiab.corners)) (z36 (zp (by omega))) ⟨[],rfl,zh.upd hD,(λ_ h=>nomatch h),.nil⟩ (λi H' acc hi _ ⟨ps,_,sm,_⟩=>⟨_,_,zx.of (sm _ _ hr1),by rw[z27,z28 hi];rfl⟩) (λi H' acc x H2 Nt Nf hi hacc hp y hN hF=>?_) (λH' acc hacc hp=>?_)
  ·obtain⟨ps,rfl,sm,hnD,hpp⟩:=hp;obtain⟨rfl,hx⟩:=y;have ex:=hx _ (zx.of (sm _ _ hr1));rw[z27,z28 hi]at ex;obtain rfl:V.ref qs1[i]=x:=z3p ex;obtain⟨rr,h1,h2⟩:=y9 hpr (z28 hi);generalize qs1[i]=qa at h2 ⊢;obtain⟨as,e1,e2,e3,e4⟩:=h2.same sm;obtain⟨z,hz⟩:∃ z,rr.getLast? =some z:=by
    cases h:rr.getLast? with
    |none=>exact absurd (z99.mp h) e3
    |some z=>exact⟨z,rfl⟩
   refine⟨rfl,?_⟩;refine⟨_,rfl,qa,as,rr,z,rfl,e1,e2,hz,e4,λH3 c cs s3 hc hcs hrc=>?_⟩;have D3:=s3 _ _ hacc;have cD:c≠D:=λw=>by rw[w,hacc]at hc;cases hc
   have kD:∀{bb o},bb≠D->H3 bb=some o->(upd H3 D (.lst (ps.map V.ref++[V.ref c]))) bb=some o:=λ{bb o} n e=>by rw[ze n];exact e
   have kt:∀ bb r,H3 bb=some (.tup r)->(upd H3 D (.lst (ps.map V.ref++[V.ref c]))) bb=some (.tup r):=λbb r e=>kD (ja e D3 (by intro z;cases z)) e;refine hN _ _ D3 ⟨ps++[c],by rw[z3g];rfl,yc (sm.trans s3) hD,λp hp=>?_,?_⟩
   ·rcases z33.mp hp with hp|hp
    ·exact hnD p hp
    ·rw[z37.mp hp];exact cD
   ·rw[jw h1,z3g];refine qe ⟨cs,kD cD hcs,by rw[Uw hz];exact hrc.keep kt,by rw[Uw hz];exact z32 (zqb _ _) e4⟩ (jk hpp λp x hm h=>?_);obtain⟨cs',f1,f2,f3⟩:=h.same s3;exact⟨cs',kD (hnD p hm) f1,f2.keep kt,f3⟩
  ·obtain⟨ps,rfl,sm,hnD,hpp⟩:=hp;rw[elen,z4s]at hpp;refine⟨⟨_,zx.of (sm _ _ hr1),by rw[z25];exact z3c _⟩,?_⟩;have pl:ps.length=rs.length:=by have:=z39 hpp;rwa [z25]at this
   exact k _ D ps (s1.trans sm) hacc (by rw[eo];exact hpp) (by omega)
abbrev Uk (h:Heap)(z TI TO a:Addr)(f:Bool):Prop:=h.get? z=some {cls:=.type "zip",dict:=none,data:=.fields #[rawInt a,.bool f,.bool false,.ref TI,.ref TO],slots:= #[]}
section
variable {prog:Program}{w:World}{A:Around}{E:Value->Shared->Prop}{s:Shared}
theorem zcq {z TI TO a:Addr}{f:Bool}{oa:Obj}{Q:Bool->Shared->Prop}(hz:Uk s.heap z TI TO a f)(ha:s.heap.get? a=some oa)
  (hQ:∀ h',Uk h' z TI TO a true->Heap.SameBut z s.heap h'->Q false {s with heap:=h'}):wpAny (model prog w) A (Builtin.SmallTypes.ownedTupleIsFree (.ref z)) Q E s:=by
 unfold Builtin.SmallTypes.ownedTupleIsFree;refine z26 (z5n hz rfl (x:=rawInt a) rfl ?_);show wpAny _ _ (loadIfAlive ((a:Int).toNat) >>= _) _ _ _;rw[z3i];refine z26 (PySem.W.kdx_alive ha ?_);simp only[Option.isNone_some,z5k,z54];refine z26 (z5n hz rfl (x:=.bool f) rfl ?_);cases f with
 |true=>
  rw[z3k (show ¬((Value.bool true != Value.bool true)=true) from z3w)];exact z3h (hQ s.heap hz (Heap.SameBut.refl _ _))
 |false=>
  rw[z3m (show (Value.bool false != Value.bool true)=true from rfl)];refine z26 (z6j hz (by simp) λh₃ he₃ hs₃=>?_);exact z3h (hQ h₃ he₃ hs₃)
theorem zmz {z TI TO i1 i2 l1 l2 a:Addr}{f:Bool}{oa:Obj}{k1 k2:Nat}{xs ys:Array Value}{x y:Value}{Q:Value->Shared->Prop}(D:ZipApart z TI TO i1 i2 l1 l2)(hz:Uk s.heap z TI TO a f)(ha:s.heap.get? a=some oa)(hTI:IsPair s.heap TI (.ref i1) (.ref i2))
  (h1:s.heap.IsListIter i1 l1 k1)(h2:s.heap.IsListIter i2 l2 k2)(hl1:s.heap.IsList l1 xs)(hl2:s.heap.IsList l2 ys)(hx:xs[k1]? =some x)(hy:ys[k2]? =some y)
  (hQ:∀ h',Uk h' z TI TO a true->h'.IsListIter i1 l1 (k1+1)->h'.IsListIter i2 l2 (k2+1)->IsPair h' s.heap.objs.size x y->h'.objs.size=s.heap.objs.size+1->
   (∀ c o,c≠z->c≠i1->c≠i2->s.heap.get? c=some o->h'.get? c=some o)->Q (.ref s.heap.objs.size) {s with heap:=h'}):
  wpAny (model prog w) A (Builtin.«zip.__next__» ⟨[.ref z],[]⟩) (λfin s'=>∃ v,fin=.done (.ret v)/\Q v s') E s:=by
 show wpAny _ _ (field (.ref z) 2 >>= _) _ _ _;refine z26 (z5n hz rfl (x:=.bool false) rfl ?_);show wpAny _ _ (field (.ref z) 3 >>= _) _ _ _;refine z26 (z5n hz rfl (x:=.ref TI) rfl ?_);refine z26 (z5f hTI rfl ?_);show wpAny _ _ (Builtin.SmallTypes.ownedTupleIsFree (.ref z) >>= _) _ _ _;refine z26 (zcq hz ha λg1 z1 e1=>?_);simp only[z5k,z54];refine z26 ?_;rw[<-Array.forIn_toList];simp only[z7i,z67];refine z26 (z26 (z56 ?_));show wpAny _ _ (Builtin.SmallTypes.nextOf (.ref i1) >>= _) _ _ _;refine z26 (z7w (h1.extBut e1.extBut D.i1z) (hl1.extBut e1.extBut D.l1z) hx λg2 a2 e2=>z3h (z3h ?_));refine z26 (z26 (z56 ?_));show wpAny _ _ (Builtin.SmallTypes.nextOf (.ref i2) >>= _) _ _ _;refine z26 (z7w ((h2.extBut e1.extBut D.i2z).extBut e2.extBut D.i12.symm) ((hl2.extBut e1.extBut D.l2z).extBut e2.extBut D.l2i1) hy λg3 b3 e3=>z3h (z3h (z3h ?_)));show wpAny _ _ (newTuple [x,y] >>= _) _ _ _;refine z26 (wpAny_newTuple ?_);have sz3:g3.objs.size=s.heap.objs.size:=by rw[e3.1];show g2.objs.size=_;rw[e2.1];show g1.objs.size=_;rw[e1.1]
 have up3:∀ c o,c≠z->c≠i1->c≠i2->s.heap.get? c=some o->g3.get? c=some o:=λc o c1 c2 c3 e=>e3.extBut _ _ c3 (e2.extBut _ _ c2 (e1.extBut _ _ c1 e));have z3:Uk g3 z TI TO a true:=e3.extBut _ _ D.i2z.symm (e2.extBut _ _ D.i1z.symm z1);have a3:g3.IsListIter i1 l1 (k1+1):=a2.extBut e3.extBut D.i12;have t4:(g3.push {cls:=.type "tuple",data:=.seq #[x,y]}).get? s.heap.objs.size=some {cls:=.type "tuple",data:=.seq #[x,y]}:=by
  rw[<-sz3];exact z3o _ rfl
 refine z3h ⟨_,rfl,?_⟩;show Q (.ref g3.objs.size) _;rw[sz3];exact hQ _ (z29 _ z3) (a3.at λo e=>z29 _ e) (b3.at λo e=>z29 _ e) t4 (by rw[z4v,sz3]) λc o c1 c2 c3 e=>z29 _ (up3 c o c1 c2 c3 e)
theorem zqt {z TI TO i1 i2 l1 l2 a:Addr}{f:Bool}{oa:Obj}{k1 k2:Nat}{xs ys:Array Value}{Q:Fin->Shared->Prop}(hh:A.handled=none)(D:ZipApart z TI TO i1 i2 l1 l2)(hz:Uk s.heap z TI TO a f)(ha:s.heap.get? a=some oa)(hTI:IsPair s.heap TI (.ref i1) (.ref i2))
  (h1:s.heap.IsListIter i1 l1 k1)(hl1:s.heap.IsList l1 xs)(hx:xs[k1]? =none)
  (hE:∀ h' e,(∀ c o,c≠z->c≠i1->s.heap.get? c=some o->h'.get? c=some o)->(∃ o,h'.get? e=some o/\o.cls=.type "StopIteration")->E (.ref e) {s with heap:=h'}):
  wpAny (model prog w) A (Builtin.«zip.__next__» ⟨[.ref z],[]⟩) Q E s:=by
 show wpAny _ _ (field (.ref z) 2 >>= _) _ _ _;refine z26 (z5n hz rfl (x:=.bool false) rfl ?_);show wpAny _ _ (field (.ref z) 3 >>= _) _ _ _;refine z26 (z5n hz rfl (x:=.ref TI) rfl ?_);refine z26 (z5f hTI rfl ?_);show wpAny _ _ (Builtin.SmallTypes.ownedTupleIsFree (.ref z) >>= _) _ _ _;refine z26 (zcq hz ha λg1 z1 e1=>?_);simp only[z5k,z54];refine z26 ?_;rw[<-Array.forIn_toList];simp only[z7i,z67];refine z26 (z26 (z56 ?_));show wpAny _ _ (Builtin.SmallTypes.nextOf (.ref i1) >>= _) _ _ _;exact z26 (wpAny_nextOf_list_end hh (h1.extBut e1.extBut D.i1z) (hl1.extBut e1.extBut D.l1z) hx λh₂ e hs₂ he=>hE h₂ e (λc o c1 c2 x=>hs₂ _ _ c2 (e1.extBut _ _ c1 x)) he)
theorem zic {z TI TO i1 i2 l1 l2 a:Addr}{f:Bool}{oa:Obj}{k1 k2:Nat}{xs ys:Array Value}{x y:Value}{Q:Option Value->Shared->Prop}(D:ZipApart z TI TO i1 i2 l1 l2)(hz:Uk s.heap z TI TO a f)(ha:s.heap.get? a=some oa)(hTI:IsPair s.heap TI (.ref i1) (.ref i2))
  (h1:s.heap.IsListIter i1 l1 k1)(h2:s.heap.IsListIter i2 l2 k2)(hl1:s.heap.IsList l1 xs)(hl2:s.heap.IsList l2 ys)(hx:xs[k1]? =some x)(hy:ys[k2]? =some y)
  (hQ:∀ h',Uk h' z TI TO a true->h'.IsListIter i1 l1 (k1+1)->h'.IsListIter i2 l2 (k2+1)->IsPair h' s.heap.objs.size x y->h'.objs.size=s.heap.objs.size+1->
   (∀ c o,c≠z->c≠i1->c≠i2->s.heap.get? c=some o->h'.get? c=some o)->Q (some (.ref s.heap.objs.size)) {s with heap:=h'}):
  wpAny (model prog w) A (pyNext (.ref z)) Q E s:=by
 have hT:s.TypeIs (.ref z) "zip":=⟨_,hz,rfl⟩;unfold pyNext;exact z26 (z79 (z5l (name:=Str.ofString "__next__") hT z6t
  (z50 z6t hT z87
   (zmz D hz ha hTI h1 h2 hl1 hl2 hx hy λh' a1 a2 a3 a4 a5 a6=>z3h (hQ h' a1 a2 a3 a4 a5 a6)) (z82 _))))
theorem zl4 {z TI TO i1 i2 l1 l2 a:Addr}{f:Bool}{oa:Obj}{k1:Nat}{xs:Array Value}{Q:Option Value->Shared->Prop}(hh:A.handled=none)(D:ZipApart z TI TO i1 i2 l1 l2)(hz:Uk s.heap z TI TO a f)(ha:s.heap.get? a=some oa)(hTI:IsPair s.heap TI (.ref i1) (.ref i2))
  (h1:s.heap.IsListIter i1 l1 k1)(hl1:s.heap.IsList l1 xs)(hx:xs[k1]? =none)
  (hQ:∀ h',(∀ c o,c≠z->c≠i1->s.heap.get? c=some o->h'.get? c=some o)->Q none {s with heap:=h'}):
  wpAny (model prog w) A (pyNext (.ref z)) Q E s:=by
 have hT:s.TypeIs (.ref z) "zip":=⟨_,hz,rfl⟩;unfold pyNext;refine z26 (z79 (z5l (name:=Str.ofString "__next__") hT z6t (z50 z6t hT z87 (zqt (k2:=0) (ys:= #[]) hh D hz ha hTI h1 hl1 hx λh' e hk he=>?_) (z82 _))));obtain⟨oe,hoe,hce⟩:=he;refine z26 (jal (T:="StopIteration") (b:=true) ⟨oe,hoe,hce⟩ isSubtype_stop ?_);exact z3h (hQ _ hk)
def Vs (M n:Nat):List Value:=(List.range n).map λj=>Value.ref (M+j)
theorem zms (M n:Nat):Vs M (n+1)=Vs M n++[.ref (M+n)]:=by
 unfold Vs;rw[z49,z3g];rfl
structure ZSt (h:Heap)(z TI TO i1 i2 l1 l2 S M:Addr)(xs ys:Array Value)(px py:Nat->Value)(i:Nat):Prop where
 zip:(i=0/\IsZip h z TI TO .none/\∃ a b,IsPair h TO a b)\/(1<=i/\∃ f,Uk h z TI TO M f)
 TI:IsPair h TI (.ref i1) (.ref i2)
 i1:h.IsListIter i1 l1 i
 i2:h.IsListIter i2 l2 i
 l1:h.IsList l1 xs
 l2:h.IsList l2 ys
 prs:∀ j,j < i->IsPair h (M+j) (px j) (py j)
 sz:h.objs.size=M+i
theorem zq9 {R:Result->Shared->Prop}{z TI TO i1 i2 l1 l2 S M:Addr}{xs ys:Array Value}{px py:Nat->Value}{n:Nat}{res:Value}(hh:A.handled=none)(D:ZipApart z TI TO i1 i2 l1 l2)(h1n:1<=n)(hn:n<=sizeLine)(hx:∀ j,j < n->xs[j]? =some (px j))(hy:∀ j,j < n->ys[j]? =some (py j))(hxn:xs[n]? =none)
  (Sz:S≠z)(STI:S≠TI)(STO:S≠TO)(Si1:S≠i1)(Si2:S≠i2)(Sl1:S≠l1)(Sl2:S≠l2)(Mz:z < M)(MTI:TI < M)(MTO:TO < M)(Mi1:i1 < M)(Mi2:i2 < M)(Ml1:l1 < M)(Ml2:l2 < M)(MS:S < M):
  ∀(k i:Nat) (s:Shared) (c:Nat),n - i=k->i<=n->ZSt s.heap z TI TO i1 i2 l1 l2 S M xs ys px py i->s.heap.get? S=some {cls:=.type "list",dict:=none,data:=.seq (Vs M i).toArray c,slots:= #[]}->
  (∀ h' tk c',h'.get? S=some {cls:=.type "list",dict:=none,data:=.seq (Vs M n).toArray c',slots:= #[]}->(∀ j,j < n->IsPair h' (M+j) (px j) (py j))->
   (∀ b o,b≠z->b≠TO->b≠i1->b≠i2->b≠S->s.heap.get? b=some o->h'.get? b=some o)->R (.ok (.ret res)) {s with heap:=h',toks:=tk})->
  codeAny (model prog w) A (.builtin "list.extend.loop" ⟨[.ref S,.ref z,res],[]⟩) R s:=by
 intro k
 induction k with
 |zero=>
  intro i s c hk hi Z hS hR;have hin:i=n:=by omega
  subst hin;refine z65 F.entry_extend_loop ?_;rw[z6g z9y _];show wpAny _ A.in1 (pyNext (.ref z) >>= _) _ _ s;rcases Z.zip with ⟨h0,_⟩|⟨_,f,hz⟩
  ·omega
  ·have hM:IsPair s.heap M (px 0) (py 0):=Z.prs 0 (by omega);refine z26 (zl4 (A:=A.in1) hh D hz hM Z.TI Z.i1 Z.l1 hxn λh' hk=>?_);exact z3h (hR h' s.toks c (hk _ _ Sz Si1 hS) (λj hj=>hk _ _ (z4e (z3z Mz (z4r _ _))) (z4e (z3z Mi1 (z4r _ _))) (Z.prs j hj)) λb o b1 _ b3 _ _ e=>hk _ _ b1 b3 e)
 |succ k ih=>
  intro i s c hk hi Z hS hR;have hlt:i < n:=by omega
  refine z65 F.entry_extend_loop ?_;rw[z6g z9y _];show wpAny _ A.in1 (pyNext (.ref z) >>= _) _ _ s;have gt:∀{b},b < M->b≠M+i:=λ{b} h=>z4a (z3z h (z4r _ _));have step:∀ h':Heap,(∃ f,Uk h' z TI TO M f)->h'.IsListIter i1 l1 (i+1)->h'.IsListIter i2 l2 (i+1)->IsPair h' (M+i) (px i) (py i)->h'.objs.size=M+i+1->(∀ c o,c≠z->c≠TO->c≠i1->c≠i2->s.heap.get? c=some o->h'.get? c=some o)->
    wpAny (model prog w) A.in1 (Builtin.List.listUpdate (.ref S) (·.push (.ref (M+i))) >>= λ_=>(again (.builtin "list.extend.loop" ⟨[.ref S,.ref z,res],[]⟩):Sem Fin)) (λfin s'=>match fin with
     | .done f=>R (.ok f) s'
     | .again c'=>c'.quiet=true/\codeAny (model prog w) A c' R s') (λe s'=>R (.error e) s') {s with heap:=h'}:=by
   rintro h' ⟨f,hz'⟩ a1 a2 a3 a4 hkp;have hS':=hkp _ _ Sz STO Si1 Si2 hS;show wpAny _ A.in1 (updateSeq S (·.push (.ref (M+i))) >>= _) _ _ _;refine z26 ?_;have tl:(Vs M i).toArray.size=i:=by rw[z3x];unfold Vs;rw[z25,z4q]
   refine z6o hS' rfl (z3h ⟨z6v z9y _,?_⟩) (by rw[tl];omega) (by show ((Vs M i).toArray.push (.ref (M+i))).size<=sizeLine+1;rw[Array.size_push,tl];omega);have ot:∀ b o,b≠S->h'.get? b=some o->(h'.update S (Obj.mapSeq (·.push (.ref (M+i))))).get? b=some o:=λb o hb e=>(z40 _ _ (z7c hb)).trans e;have hS2:=z5j (Obj.mapSeq (·.push (.ref (M+i)))) hS' rfl;have e2:(Vs M i).toArray.push (.ref (M+i))=(Vs M (i+1)).toArray:=by rw[zms];simp
   refine ih (i+1) _ _ (by omega) hlt ⟨.inr ⟨by omega,f,ot _ _ Sz.symm hz'⟩,ot _ _ STI.symm (hkp _ _ D.TIz D.TITO D.TIi1 D.TIi2 Z.TI),a1.at λo e=>ot _ _ Si1.symm e,a2.at λo e=>ot _ _ Si2.symm e,Z.l1.at λo e=>ot _ _ Sl1.symm (hkp _ _ D.l1z D.l1TO D.l1i1 D.l1i2 e),Z.l2.at λo e=>ot _ _ Sl2.symm (hkp _ _ D.l2z D.l2TO D.l2i1 D.l2i2 e),λj hj=>?_,?_⟩ (by rw[<-e2];exact hS2) λh2 tk c2 q1 q2 q3=>hR h2 tk c2 q1 q2 λb o b1 b2 b3 b4 b5 e=>q3 b o b1 b2 b3 b4 b5 (ot _ _ b5 (hkp _ _ b1 b2 b3 b4 e))
   ·have nS:M+j≠S:=z4e (z3z MS (z4r _ _));by_cases hji:j=i
    ·subst hji;exact ot _ _ nS a3
    ·exact ot _ _ nS (hkp _ _ (z4e (z3z Mz (z4r _ _))) (z4e (z3z MTO (z4r _ _))) (z4e (z3z Mi1 (z4r _ _))) (z4e (z3z Mi2 (z4r _ _))) (Z.prs j (by omega)))
   ·show (h'.update S _).objs.size=_;rw[z86,a4];omega
  have hsz:=Z.sz;rcases Z.zip with ⟨h0,hz,a0,b0,hTO⟩|⟨h0,f,hz⟩
  ·subst h0;refine z26 (wpAny_pyNext_zip_item D hz Z.TI hTO Z.i1 Z.i2 Z.l1 Z.l2 (hx 0 hlt) (hy 0 hlt) λh' z' TO' a1 a2 a3 a4 a5=>?_);rw[hsz]at z' a3 a4 ⊢;exact step h' ⟨false,z'⟩ a1 a2 a3 a4 a5
  ·have hM:IsPair s.heap M (px 0) (py 0):=Z.prs 0 (by omega);refine z26 (zic D hz hM Z.TI Z.i1 Z.i2 Z.l1 Z.l2 (hx i hlt) (hy i hlt) λh' z' a1 a2 a3 a4 a5=>?_);rw[hsz]at a3 a4 ⊢;exact step h' ⟨true,z'⟩ a1 a2 a3 a4 λc o c1 _ c3 c4 e=>a5 c o c1 c3 c4 e
end
theorem zjd:typeLookup (.type "zip") "__len__"=pure none:=by rw[typeLookup_type,builtinLookup_eq_fast];kernel_rfl
theorem zg4:typeLookup (.type "zip") "__length_hint__"=pure none:=by rw[typeLookup_type,builtinLookup_eq_fast];kernel_rfl
section
variable {prog:Program}{w:World}{A:Around}{E:Value->Shared->Prop}{s:Shared}
theorem zqu {r:Addr}{Q:Bool->Shared->Prop}(hT:s.TypeIs (.ref r) "zip")(h:Q true s):wpAny (model prog w) A (Builtin.List.listLengthHint (.ref r)) Q E s:=by
 unfold Builtin.List.listLengthHint;refine z26 (wpAny_specialOf hT zjd ?_)
 wp_delta
 refine wpAny_ite_split (λhab=>absurd hab (by decide)) (λ_=>?_);refine wpAny_ite_split (λhab=>absurd hab (by decide)) (λ_=>?_);refine z26 (wpAny_specialOf hT zg4 ?_);exact z3h h
theorem za5 {z TI TO i1 i2 l1 l2:Addr}{xs ys:Array Value}{px py:Nat->Value}{n:Nat}{Q:Value->Shared->Prop}(hh:A.handled=none)(D:ZipApart z TI TO i1 i2 l1 l2)(h1n:1<=n)(hn:n<=sizeLine)(hx:∀ j,j < n->xs[j]? =some (px j))(hy:∀ j,j < n->ys[j]? =some (py j))(hxn:xs[n]? =none)
  (hz:IsZip s.heap z TI TO .none)(hTI:IsPair s.heap TI (.ref i1) (.ref i2))(hTO:∃ a b,IsPair s.heap TO a b)(h1:s.heap.IsListIter i1 l1 0)(h2:s.heap.IsListIter i2 l2 0)(hl1:s.heap.IsList l1 xs)(hl2:s.heap.IsList l2 ys)
  (h:∀ h' tk c',h'.get? s.heap.objs.size=some {cls:=.type "list",dict:=none,data:=.seq (Vs (s.heap.objs.size+1) n).toArray c',slots:= #[]}->(∀ j,j < n->IsPair h' (s.heap.objs.size+1+j) (px j) (py j))->
   (∀ b o,b≠z->b≠TO->b≠i1->b≠i2->s.heap.get? b=some o->h'.get? b=some o)->Q (.ref s.heap.objs.size) {s with heap:=h',toks:=tk}):
  wpAny (model prog w) A (call (.type "list") [.ref z]) Q E s:=by
 refine callType_codes (Q₁:=λobj s₁=>obj=.ref s.heap.objs.size/\s₁={s with heap:=s.heap.push {cls:=.type "list",data:=.seq #[]}}) PySem.F.called_list (PySem.F.typeCall_list_1 _) PySem.F.entry_list_init
  (code_list_new _ ⟨rfl,rfl⟩) λobj s₁ h₁=>?_
 obtain⟨rfl,rfl⟩:=h₁;have hS:(s.heap.push {cls:=.type "list",data:=.seq #[]}).get? s.heap.objs.size=some {cls:=.type "list",data:=.seq #[]}:=z3o _ rfl;have k0:∀ b o,s.heap.get? b=some o->(s.heap.push {cls:=.type "list",data:=.seq #[]}).get? b=some o:=λb o e=>z29 _ e;have zs:(s.heap.push {cls:=.type "list",data:=.seq #[]}).objs.size=s.heap.objs.size+1:=z4v ..;refine⟨⟨_,hS,rfl⟩,PySem.F.args_list_init_2 _ _,?_⟩;show wpAny _ _ (do let old <-Builtin.List.listItems (.ref s.heap.objs.size);Builtin.List.listUpdate (.ref s.heap.objs.size) (λ_=> #[]);letGo old.toList.reverse;Builtin.List.listExtendWith (.ref s.heap.objs.size) (.ref z) .none) _ _ _;refine z26 ?_;unfold Builtin.List.listItems;refine z26 (z5f hS rfl (z3h ?_));show wpAny _ _ (updateSeq s.heap.objs.size (λ_=> #[]) >>= λ_=>letGo (#[]:Array Value).toList.reverse >>= λ_=>Builtin.List.listExtendWith (.ref s.heap.objs.size) (.ref z) .none) _ _ _;refine z26 (z6o hS rfl ?_);have hS₂:=z5j (Obj.mapSeq (λ_=>(#[]:Array Value))) hS rfl;refine z26 (z7y ?_);have lz:z < s.heap.objs.size:=z3j hz;have lTI:TI < s.heap.objs.size:=z3j hTI;have lTO:TO < s.heap.objs.size:=by obtain⟨a,b,e⟩:=hTO;exact z3j e
 have li1:i1 < s.heap.objs.size:=by obtain⟨o,e,_⟩:=h1;exact z3j e
 have li2:i2 < s.heap.objs.size:=by obtain⟨o,e,_⟩:=h2;exact z3j e
 have ll1:l1 < s.heap.objs.size:=by obtain⟨o,e,_⟩:=hl1;exact z3j e
 have ll2:l2 < s.heap.objs.size:=by obtain⟨o,e,_⟩:=hl2;exact z3j e
 have k1:∀ b o,s.heap.get? b=some o->((s.heap.push {cls:=.type "list",data:=.seq #[]}).update s.heap.objs.size (Obj.mapSeq (λ_=>(#[]:Array Value)))).get? b=some o:=λb o e=>(z40 _ _ (z4e (z3j e))).trans (k0 b o e);have zs1:((s.heap.push {cls:=.type "list",data:=.seq #[]}).update s.heap.objs.size (Obj.mapSeq (λ_=>(#[]:Array Value)))).objs.size=s.heap.objs.size+1:=by rw[z86,zs]
 generalize (s.heap.push {cls:=.type "list",data:=.seq #[]}).update s.heap.objs.size (Obj.mapSeq (λ_=>(#[]:Array Value)))=g1 at hS₂ k1 zs1 ⊢;unfold Builtin.List.listExtendWith;have hT1:({s with heap:=g1}:Shared).TypeIs (.ref z) "zip":=⟨_,k1 _ _ hz,rfl⟩;refine z26 (wpAny_typeOf (T:="zip") hT1 ?_);have h1r:Builtin.List.listSameRef (.ref s.heap.objs.size) (.ref z)=false:=by simp[Builtin.List.listSameRef,z4e lz]
 have nl:(Value.type "zip"==Value.type "list")=false:=by decide
 have nt:(Value.type "zip"==Value.type "tuple")=false:=by decide
 simp only[h1r,nl,nt,Bool.or_false,z5k,z54];refine z26 (z75 (k1 _ _ hz) ?_);refine z26 (z56 (zqu hT1 ?_));rw[z3m (by rfl)];refine z26 (z9j ?_);refine z26 ?_;show wpAny _ _ (updateSeq s.heap.objs.size (·.push .none) >>= λ_=>updateSeq s.heap.objs.size (·.pop)) _ _ _;refine z26 (z6o hS₂ rfl ?_);have hS3:=z5j (Obj.mapSeq (·.push Value.none)) hS₂ rfl;refine z6o (hz:=by seq_fits) hS3 rfl ?_;have hS4:=z5j (Obj.mapSeq (·.pop)) hS3 rfl;have k4:∀ b o,s.heap.get? b=some o->((g1.update s.heap.objs.size (Obj.mapSeq (·.push Value.none))).update s.heap.objs.size (Obj.mapSeq (·.pop))).get? b=some o:=λb o e=>
  (z40 _ _ (z4e (z3j e))).trans ((z40 _ _ (z4e (z3j e))).trans (k1 b o e))
 have zs4:((g1.update s.heap.objs.size (Obj.mapSeq (·.push Value.none))).update s.heap.objs.size (Obj.mapSeq (·.pop))).objs.size=s.heap.objs.size+1:=by rw[z86,z86,zs1]
 generalize (g1.update s.heap.objs.size (Obj.mapSeq (·.push Value.none))).update s.heap.objs.size (Obj.mapSeq (·.pop))=g4 at hS4 k4 zs4 ⊢;refine z3h ⟨z6v PySem.F.plain_extend_loop _,?_⟩;refine zq9 (A:=A.in1) (M:=s.heap.objs.size+1) hh D h1n hn hx hy hxn (z4e lz) (z4e lTI) (z4e lTO) (z4e li1) (z4e li2) (z4e ll1) (z4e ll2) (z48 lz) (z48 lTI) (z48 lTO) (z48 li1) (z48 li2) (z48 ll1) (z48 ll2) (z6r _)
  n 0 _ _ (z7q _) (z4c _) ⟨.inl ⟨rfl,k4 _ _ hz,let ⟨a,b,e⟩:=hTO;⟨a,b,k4 _ _ e⟩⟩,k4 _ _ hTI,h1.at λo e=>k4 _ _ e,h2.at λo e=>k4 _ _ e,hl1.at λo e=>k4 _ _ e,hl2.at λo e=>k4 _ _ e,λj hj=>absurd hj (z8u _),zs4⟩ hS4 λh' tk c' q1 q2 q3=>?_
 exact⟨rfl,h h' tk c' q1 q2 λb o b1 b2 b3 b4 e=>q3 b o b1 b2 b3 b4 (z4a (z3j e)) (k4 _ _ e)⟩
end
def zp8 (K:Fr)(ta:TA):TE:=λσ H Q=>ta σ H λvs H1=>∃(a b:Addr) (xs ys:List V),vs=[.ref a,.ref b]/\zx K H1 a xs/\zx K H1 b ys/\xs.length=ys.length/\1<=xs.length/\
 ∀(l:Addr) (as:List Addr) (H':Hp),zh H1 H'->H1 l=none->H' l=some (.lst (as.map V.ref))->Rows H' as ((xs.zip ys).map λp=>[p.1,p.2])->Q (.ref l) H'
theorem zxe {xs ys:List V}{j:Nat}{x y:V}(hx:xs[j]? =some x)(hy:ys[j]? =some y):(xs.zip ys)[j]? =some (x,y):=by
 rw[z51];exact⟨hx,hy⟩
theorem zkl {H:Hp}:∀{as:List Addr}{rs:List (List V)},as.length=rs.length->(∀(i:Nat) (a:Addr) (r:List V),as[i]? =some a->rs[i]? =some r->H a=some (.tup r))->Rows H as rs
 |[],[],_,_=>.nil
 |[],_::_,h,_=>by cases h
 |_::_,[],h,_=>by cases h
 |a::as,r::rs,h,k=>.cons (k 0 a r rfl rfl) (zkl (by simpa using h) λi a' r' e1 e2=>k (i+1) a' r' (by simpa using e1) (by simpa using e2))
theorem zvr (H1:Nat->Option HO)(N:Nat)(lo:HO)(ts:List HO):∃ H':Nat->Option HO,(∀ bb,bb < N->H' bb=H1 bb)/\H' (N+5)=some lo/\(∀ j o,ts[j]? =some o->H' (N+5+1+j)=some o)/\
  ∀ bb o,H' bb=some o->bb < N\/(bb=N+5)\/∃ j o',ts[j]? =some o'/\bb=N+5+1+j:=by
 refine⟨λbb=>if bb < N then H1 bb else if bb=N+5 then some lo else if N+5 < bb then ts[bb - (N+5+1)]? else none,λbb h=>z3m h,?_,λj o h=>?_,λbb o e=>?_⟩
 ·dsimp only;rw[z3k (by omega),z3m rfl]
 ·dsimp only;rw[z3k (by omega),z3k (by omega),z3m (by omega),show N+5+1+j - (N+5+1)=j by omega];exact h
 ·dsimp only at e;by_cases c1:bb < N
  ·exact .inl c1
  ·rw[z3k c1]at e;by_cases c2:bb=N+5
   ·exact .inr (.inl c2)
   ·rw[z3k c2]at e;by_cases c3:N+5 < bb
    ·rw[z3m c3]at e;exact .inr (.inr ⟨bb - (N+5+1),o,e,by omega⟩)
    ·rw[z3k c3]at e;cases e
theorem zil {X:Cx}{e e2:Expr}{ta:TA}{p p2 pos pos2:Pos}(hc:X.calm=true)(hgl:Gl X "list")(hml:X.mg "list"=none)(hg:Gl X "zip")(hm:X.mg "zip"=none)(ha:PA X [e,e2] ta)
  (hs:starEach [e,e2] X.env=(false,eval e X.env)::starEach [e2] X.env:=by rfl)(hpl:(backTo pos2 (starEach [e2] X.env)).any (·.1)=false:=by rfl)
  (hs2:starEach [.Call (.Name "zip" p2) [e,e2] [] pos2] X.env=[(false,eval (.Call (.Name "zip" p2) [e,e2] [] pos2) X.env)]:=by rfl):
  PE X (.Call (.Name "list" p) [.Call (.Name "zip" p2) [e,e2] [] pos2] [] pos) (zp8 X.K ta):=by
 intro pins s σ H Q I h;refine z5g (vc I hgl hml (by decide+kernel:bootBuiltins "list"=some (.type "list")) ?_ (by decide) (by decide));refine z4y ?_ hs2 rfl;rw[hs2];refine z63 ?_;refine z5g (vc I hg hm Vb (z4y (yd (ha pos2 pins s σ H _ I h) λus s1 ⟨vs,H1,I1,r1,q1⟩=>?_) hs hpl) (by decide) (by decide));obtain⟨a,b,xs,ys,rfl,hqx,hqy,hlen,h1n,q⟩:=q1;obtain⟨u1,u2,rfl,ra,rb⟩:=zg1 r1;cases (show u1=Value.ref a from ra);cases (show u2=Value.ref b from rb);obtain⟨its,rv,p1,hz1⟩:=I1.list hqx;obtain⟨its2,rv2,p2',hz2⟩:=I1.list hqy;have la:a < s1.heap.objs.size:=p1.lt;have lb:b < s1.heap.objs.size:=p2'.lt;have e1:xs.length=its.length:=rv.length;have e2':ys.length=its2.length:=rv2.length;refine call_zip_2 p1.isList p2'.isList λh' hz hTI hTO h1 h2 hsz hk=>z70 ?_;refine za5 (s:={s1 with heap:=h'}) (n:=xs.length) (px:=λj=>its.getD j .none) (py:=λj=>its2.getD j .none) (I1.ok.hd hc) (z9m s1.heap.objs.size a b la lb) h1n hz1 (λj hj=>?_) (λj hj=>?_) ?_ hz hTI ⟨_,_,hTO⟩ h1 h2 (p1.isList.at λo e=>hk _ _ e) (p2'.isList.at λo e=>hk _ _ e) λh'' tk c' q1 q2 q3=>?_
 ·simp[z3s,show j < its.length by omega]
 ·simp[z3s,show j < its2.length by omega]
 ·simp[e1]
 ·have hsz':(({s1 with heap:=h'}:Shared).heap.objs.size)=s1.heap.objs.size+5:=hsz;rw[hsz']at q1 q2 ⊢;generalize hN:s1.heap.objs.size=N at*;have old:∀ bb o,s1.heap.get? bb=some o->h''.get? bb=some o:=λbb o e=>by
   have lt:bb < N:=by rw[<-hN];exact z3j e
   have ne:∀ k,bb≠N+k:=λk=>z4a (z3z lt (z4r N k));exact q3 _ _ (ne 4) (ne 3) (ne 0) (ne 1) (hk _ _ e)
  have ltH:∀ bb o,H1 bb=some o->bb < N:=λbb o e=>by rw[<-hN];exact I1.hok.lt e
  have H'def:∃ H':Hp,(∀ bb,bb < N->H' bb=H1 bb)/\H' (N+5)=some (.lst (((List.range xs.length).map λj=>N+5+1+j).map V.ref))/\(∀ j x y,xs[j]? =some x->ys[j]? =some y->H' (N+5+1+j)=some (.tup [x,y]))/\
    ∀ bb o,H' bb=some o->bb < N\/(bb=N+5)\/∃ j x y,xs[j]? =some x/\ys[j]? =some y/\bb=N+5+1+j:=by
   obtain⟨H',f1,f2,f3,f4⟩:=zvr H1 N (.lst (((List.range xs.length).map λj=>N+5+1+j).map V.ref)) ((xs.zip ys).map λp=>.tup [p.1,p.2]);refine⟨H',f1,f2,λj x y hx hy=>f3 j _ (by rw[z27,zxe hx hy];rfl),λbb o e=>?_⟩;rcases f4 bb o e with h|h|⟨j,o',h,h2⟩
   ·exact .inl h
   ·exact .inr (.inl h)
   ·rw[z27]at h;obtain⟨⟨x,y⟩,hp,_⟩:=z3q.mp h;rw[z51]at hp;exact .inr (.inr ⟨j,x,y,hp.1,hp.2,h2⟩)
  obtain⟨H',f1,f2,f3,f4⟩:=H'def;have sm:zh H1 H':=λbb o e=>by rw[f1 bb (ltH bb o e)];exact e
  refine⟨.ref (N+5),H',I1.un (t':=tk) ⟨λbb o e n _ _=>old bb o e,λbb o e n _ _=>⟨o.slots,old bb o e⟩,λbb o e n _=>?_,λbb o e _=>⟨o,old bb o e⟩,λbb xs e=>sm _ _ e,λbb o u e=>sm _ _ e,λbb ps e=>⟨#[],by rw[sm _ _ e];simp⟩⟩ λbb o e=>?_,rfl,q (N+5) ((List.range xs.length).map λj=>N+5+1+j) H' sm (I1.hok.fresh (by rw[hN];exact z4r _ _)) f2 ?_⟩
  ·rw[f1 bb (by rw[<-hN];exact z3j e)];exact n
  ·rcases f4 bb o e with h|h|⟨j,x,y,hx,hy,rfl⟩
   ·rw[f1 bb h]at e;exact (I1.hok bb o e).stay (λb' u _ g=>old b' u g) (λb' z=>sm _ _ z) λb' xs z=>sm _ _ z
   ·subst h;rw[f2]at e;cases e;refine⟨by rw[z25,z25,z4q];exact hz1,Vs (N+5+1) xs.length,c',?_,q1⟩;unfold Vs;rw[z4f];have:∀ l:List Nat,jf (l.map (V.ref∘λj=>N+5+1+j)) (l.map λj=>Value.ref (N+5+1+j)):=λl=>by
     induction l with
     |nil=>exact .nil
     |cons a l ih=>exact .cons rfl ih
    exact this _
   ·rw[f3 j x y hx hy]at e;cases e;obtain⟨u,hu,ru⟩:=rv.get hx;obtain⟨u',hu',ru'⟩:=rv2.get hy;refine⟨by show 2<=sizeLine;decide,[u,u'],.cons ru (.cons ru' .nil),?_⟩;have:=q2 j (z3b.mp hx).1;rw[z3s,hu,z3s,hu']at this;exact⟨_,this,rfl,_,rfl⟩
  ·refine zkl (by rw[z25,z25,z4q,z60,hlen,Nat.min_self]) λi a r g1 g2=>?_;rw[z27]at g1 g2;obtain⟨j,hj,rfl⟩:=z3q.mp g1;obtain⟨⟨x,y⟩,hp,rfl⟩:=z3q.mp g2;obtain⟨hi,ej⟩:=z3b.mp hj;rw[z4q]at hi;rw[List.getElem_range]at ej;subst ej;rw[z51]at hp;exact f3 i x y hp.1 hp.2
def Z0 (H:Hp)(t:Addr)(s:Pt×Pt):Prop:=∃ a b,H t=some (.tup [.ref a,.ref b])/\H a=some (.tup (cV s.1))/\H b=some (.tup (cV s.2))
theorem Z0.same {H H':Hp}{t:Addr}{s:Pt×Pt}(h:Z0 H t s)(sm:zh H H'):Z0 H' t s:=by
 obtain⟨a,b,h1,h2,h3⟩:=h;exact⟨a,b,sm _ _ h1,sm _ _ h2,sm _ _ h3⟩
theorem Z0.keep {H H':Hp}{t:Addr}{s:Pt×Pt}(h:Z0 H t s)(sm:∀ b r,H b=some (.tup r)->H' b=some (.tup r)):Z0 H' t s:=by
 obtain⟨a,b,h1,h2,h3⟩:=h;exact⟨a,b,sm _ _ h1,sm _ _ h2,sm _ _ h3⟩
theorem Kx (r:List Pt):(vz r).length=r.length:=by
 unfold vz;rw[z60,z3a,z46,z35];omega
theorem zxz (xs:List V):Q7 xs (some 1) none=xs.drop 1:=by
 unfold Q7;have e1:HT.sIx xs.length 0 (some 1)=min 1 xs.length:=by
  unfold HT.sIx;simp
 have e2:HT.sIx xs.length xs.length none=xs.length:=rfl;rw[e1,e2];cases xs with
 |nil=>rfl
 |cons a xs=>
  rw[z3l,Nat.min_eq_left (by omega)];exact jat (by rw[z46,z3l];exact z3c _)
theorem zxy (xs:List V):Q7 xs none (some 1)=xs.take 1:=by
 unfold Q7;have e1:HT.sIx xs.length xs.length (some 1)=min 1 xs.length:=by
  unfold HT.sIx;simp
 have e2:HT.sIx xs.length 0 none=0:=rfl;rw[e1,e2,jab,z7q];cases xs with
 |nil=>rfl
 |cons a xs=>rw[z3l,Nat.min_eq_left (by omega)]
inductive zt8 (vs:List V)(H:Hp)(Q:VK):Prop
 |mk (q:Addr) (as:List Addr) (r:List Pt):vs=[.ref q]->H q=some (.lst (as.map V.ref))->Rows H as (r.map cV)->1<=r.length->r.length<=500->(∀(H':Hp) (l:Addr) (ts:List Addr),zh H H'->H l=none->H' l=some (.lst (ts.map V.ref))->Paired (Z0 H') ts (vz r)->Q (.ref l) H')->zt8 vs H Q
def z1k:Sp:=λvs H Q _=>zt8 vs H Q
def z0m:zo ["corners"] ["corners"] (zj Yp):=by walk_at "sc"
theorem Jy (T:qf K mg CB CR CC):xo P w K mg base "stretches_of" 1 ["corners"] z1k:=by
 refine T.f_stretches_of.con λf fd F=>F.ok z0m (λ_ _ _ _ h=>?_) (λ_ A _ s H vs Q E hr h=>?_)
 ·obtain⟨q,as,r,rfl,_⟩:=h;rfl
 ·obtain⟨q,as,r,rfl,hq,hrw,h1,h5,k⟩:=h;refine⟨_,zg (zm (zil rfl rfl T.list rfl T.b_zip (za (pv 0) (za (jd xy (Ye Kw (pv 0) (Jm zi) zdz) (Ye Kw (pv 0) zdz (Jm zi))) zd)))),?_⟩;have elen:as.length=r.length:=by have:=hrw.len;rwa [z25]at this
  refine⟨_,rfl,_,rfl,_,rfl,q,_,rfl,zx.of hq,λp1 hp1=>?_⟩;rw[zxz];have s1:=zh.upd (o:=.lst ((as.map V.ref).drop 1)) hp1;have l1:(upd H p1 (.lst ((as.map V.ref).drop 1))) p1=some (.lst ((as.map V.ref).drop 1)):=zb;generalize (upd H p1 (.lst ((as.map V.ref).drop 1)))=H1 at s1 l1 ⊢;refine⟨_,rfl,_,rfl,q,_,rfl,zx.of (s1 _ _ hq),λp2 hp2=>?_⟩;rw[zxy];have s2:=zh.upd (o:=.lst ((as.map V.ref).take 1)) hp2;have l2:(upd H1 p2 (.lst ((as.map V.ref).take 1))) p2=some (.lst ((as.map V.ref).take 1)):=zb;generalize (upd H1 p2 (.lst ((as.map V.ref).take 1)))=H2 at s2 l2 ⊢;refine⟨p1,p2,_,_,rfl,rfl,s2 _ _ l1,l2,by rw[z46,z35,z25];exact z36 (zp (by omega)),λp3 hp3=>?_⟩;have s3:=zh.upd (o:=.lst ((as.map V.ref).drop 1++(as.map V.ref).take 1)) hp3;have l3:(upd H2 p3 (.lst ((as.map V.ref).drop 1++(as.map V.ref).take 1))) p3=some (.lst ((as.map V.ref).drop 1++(as.map V.ref).take 1)):=zb;generalize (upd H2 p3 (.lst ((as.map V.ref).drop 1++(as.map V.ref).take 1)))=H3 at s3 l3 ⊢;have s03:=(s1.trans s2).trans s3;refine⟨q,p3,_,_,rfl,zx.of (s03 _ _ hq),zx.of l3,?_,by rw[z25];omega,λl ts H' sm hl hlt hrt=>?_⟩
  ·rw[z3a,z46,z35,z25];omega
  ·have s04:=s03.trans sm;have hrw4:=hrw.same s04;have tl:ts.length=r.length:=by
    have:=hrt.len;rw[z25,z60,z3a,z46,z35,z25]at this;omega
   refine k _ l ts s04 (s03.free hl) hlt ?_;have hpt:∀ i t,ts[i]? =some t->∃ st,(vz r)[i]? =some st/\Z0 H' t st:=λi t ht=>by
    obtain⟨rr,h6,h7⟩:=hrt.at ht;rw[z27]at h6;obtain⟨⟨x,y⟩,h8,rfl⟩:=z3q.mp h6;rw[z51]at h8;obtain⟨h8,h9⟩:=h8;rw[<-jap,<-jao,<-z3g,z27]at h9;rw[z27]at h8;obtain⟨xa,h10,rfl⟩:=z3q.mp h8;obtain⟨ya,h11,rfl⟩:=z3q.mp h9;obtain⟨rx,g1,g2⟩:=hrw4.at h10;rw[z27]at g1;obtain⟨px,g3,rfl⟩:=z3q.mp g1;have hy:∃ py,(r.drop 1++r.take 1)[i]? =some py/\H' ya=some (.tup (cV py)):=by
     have hrot:∀(j:Nat) (z:Addr),as[j]? =some z->∃ pz,r[j]? =some pz/\H' z=some (.tup (cV pz)):=λj z hz=>by
      obtain⟨rz,g4,g5⟩:=hrw4.at hz;rw[z27]at g4;obtain⟨pz,g6,rfl⟩:=z3q.mp g4;exact⟨pz,g6,g5⟩
     by_cases hi:i < (as.drop 1).length
     ·rw[z8c hi,z77]at h11;obtain⟨pz,g6,g7⟩:=hrot _ _ h11;refine⟨pz,?_,g7⟩;rw[z8c (by rw[z46]at hi ⊢;omega),z77];exact g6
     ·rw[z5d (by omega)]at h11;have h12:i - (as.drop 1).length < 1:=by
       have:=(z3b.mp h11).1;rw[z35]at this;omega
      rw[z6k h12]at h11;obtain⟨pz,g6,g7⟩:=hrot _ _ h11;refine⟨pz,?_,g7⟩;have el:(r.drop 1).length=(as.drop 1).length:=by rw[z46,z46,elen]
      rw[z5d (by omega),el,z6k h12];exact g6
    obtain⟨py,g8,g9⟩:=hy;refine⟨(px,py),?_,xa,ya,h7,g2,g9⟩;unfold vz;rw[z51];exact⟨g3,g8⟩
   have sl:=Kx r;generalize vz r=sr at hpt sl;have:∀{ts:List Addr}{sr:List (Pt×Pt)},ts.length=sr.length->(∀(i:Nat) t,ts[i]? =some t->∃ st,sr[i]? =some st/\Z0 H' t st)->Paired (Z0 H') ts sr:=by
    intro ts
    induction ts with
    |nil=>
     intro sr hl _;cases sr with
     |nil=>exact .nil
     |cons _ _=>cases hl
    |cons t ts ih=>
     intro sr hl hk;cases sr with
     |nil=>cases hl
     |cons st sr=>
      refine .cons ?_ (ih (by simpa using hl) λi t' ht'=>?_)
      ·obtain⟨st',e1,e2⟩:=hk 0 t rfl;cases e1;exact e2
      ·obtain⟨st',e1,e2⟩:=hk (i+1) t' (by simpa using ht');exact⟨st',by simpa using e1,e2⟩
   exact this (by omega) hpt
inductive zud (vs:List V)(H:Hp)(Q:VK):Prop
 |mk (t:Addr) (s:Pt×Pt):vs=[.ref t]->Z0 H t s->Q (.bl (up s)) H->zud vs H Q
def z1p:Sp:=λvs H Q _=>zud vs H Q
inductive zm9 (vs:List V)(H:Hp)(Q:VK):Prop
 |mk (t:Addr) (s:Pt×Pt):vs=[.ref t]->Z0 H t s->Q (.bl (lev s)) H->zm9 vs H Q
def zyp:Sp:=λvs H Q _=>zm9 vs H Q
def z0o:zo ["stretch"] ["stretch"] (zj Ki):=by walk_at "sc"
def zyl:zo ["stretch"] ["stretch"] (zj Gz):=by walk_at "sc"
theorem zdn (a b:Nat):decide (V.int (a:Int)=V.int (b:Int))=(a==b):=by
 rw[yf zak,z4l,z4p,z4x];omega
theorem we (T:qf K mg CB CR CC):xo P w K mg base "is_upright" 1 ["stretch"] z1p:=by
 refine T.f_is_upright.con λf fd F=>F.ok z0o (λ_ _ _ _ h=>?_) (λ_ A _ s H vs Q E hr h=>?_)
 ·obtain⟨t,s,rfl,_⟩:=h;rfl
 ·obtain⟨t,st,rfl,⟨a,b,ht,ha,hb⟩,k⟩:=h;refine⟨_,zg (zm (Jl Zm (zu jm (zu jm (pv 0) zi (λ_ _=>rfl)) zi (λ_ _=>rfl)) (zu jm (zu jm (pv 0) zi (λ_ _=>rfl)) zi (λ_ _=>rfl)) (jl _))),?_⟩;refine⟨_,rfl,t,_,_,_,rfl,rfl,yw.of ht,zk (j:=0) rfl,a,_,_,_,rfl,rfl,yw.of ha,zk (j:=0) rfl,?_⟩;refine⟨_,rfl,t,_,_,_,rfl,rfl,yw.of ht,zk (j:=1) rfl,b,_,_,_,rfl,rfl,yw.of hb,zk (j:=0) rfl,rfl,?_⟩;rw[zdn];exact k
theorem zhg (T:qf K mg CB CR CC):xo P w K mg base "is_level" 1 ["stretch"] zyp:=by
 refine T.f_is_level.con λf fd F=>F.ok zyl (λ_ _ _ _ h=>?_) (λ_ A _ s H vs Q E hr h=>?_)
 ·obtain⟨t,s,rfl,_⟩:=h;rfl
 ·obtain⟨t,st,rfl,⟨a,b,ht,ha,hb⟩,k⟩:=h;refine⟨_,zg (zm (Jl Zm (zu jm (zu jm (pv 0) zi (λ_ _=>rfl)) zi (λ_ _=>rfl)) (zu jm (zu jm (pv 0) zi (λ_ _=>rfl)) zi (λ_ _=>rfl)) (jl _))),?_⟩;refine⟨_,rfl,t,_,_,_,rfl,rfl,yw.of ht,zk (j:=0) rfl,a,_,_,_,rfl,rfl,yw.of ha,zk (j:=1) rfl,?_⟩;refine⟨_,rfl,t,_,_,_,rfl,rfl,yw.of ht,zk (j:=1) rfl,b,_,_,_,rfl,rfl,yw.of hb,zk (j:=1) rfl,rfl,?_⟩;rw[zdn];exact k
theorem zni (a b:Bool):decide (V.bl a=V.bl b)=(a==b):=by
 rw[yf zky];cases a<;>cases b<;>rfl
inductive zuc (vs:List V)(H:Hp)(Q:VK):Prop
 |mk (q:Addr) (as:List Addr) (r:List Pt) (z:Pt×Pt):vs=[.ref q]->H q=some (.lst (as.map V.ref))->Rows H as (r.map cV)->1<=r.length->r.length<=500->(vz r).getLast? =some z->Ret H (.bl (trC z (vz r))) Q->zuc vs H Q
def z1o:Sp:=λvs H Q _=>zuc vs H Q
def zpz:zo ["corners","stretches","before","stretch"] ["corners"] (zj kg):=by walk_at "sc"
theorem zq5 (T:qf K mg CB CR CC):xo P w K mg base "turns_at_each_corner" 2 ["corners"] z1o:=by
 refine T.f_turns_at_each_corner.con λf fd F=>F.ok zpz (λ_ _ _ _ h=>?_) (λ_ A _ s H vs Q E hr h=>?_)
 ·obtain⟨q,as,r,z,rfl,_⟩:=h;rfl
 ·obtain⟨q,as,r,z,rfl,hq,hrw,h1,h5,hz,k⟩:=h;refine⟨_,zc (zn (i:=1) zpz.nd rfl (Or.inl rfl) (je (Jy T) hr.m0 (za (pv 0) zd)))
   (zc (zn (i:=2) zpz.nd rfl (Or.inl rfl) (zu zw (pv 1) (zkg zei zi) (λ_ _=>rfl)))
   (zc (jt z3v rfl (jo (pv 1)) (zt (i:=3) zpz.nd rfl (Or.inl rfl))
    (zc (ju (PW.pt (zca (jh Zm (je (we T) hr.m0 (za (pv 3) zd)) (je (zhg T) hr.m0 (za (pv 3) zd)) (jl _)) (Vo (jh Zm (je (we T) hr.m0 (za (pv 3) zd)) (je (we T) hr.m0 (za (pv 2) zd)) (jl _))))) (zg (zm vn)) (jb))
    (zg (zn (i:=2) zpz.nd rfl (Or.inl rfl) (pv 3)))))
   (zg (zm vn)))),?_⟩
  refine⟨_,rfl,q,as,r,rfl,hq,hrw,h1,h5,λH1 l ts s1 hl hlt hpt=>?_⟩;have sl:=Kx r;generalize vz r=sr at hpt sl hz k;have tl:ts.length=sr.length:=z39 hpt;obtain⟨sr0,er0⟩:=z8a.mp hz;obtain⟨ts0,tz,rfl⟩:∃ ts0 tz,ts=ts0++[tz]:=by
   rcases z8z ts with w|⟨l,x,w⟩
   ·rw[w,er0,z3a]at tl;simp at tl
   ·exact⟨l,x,by rw[w,z80]⟩
  have hz2:Z0 H1 tz z:=by
   obtain⟨st,e1,e2⟩:=y9 hpt (i:=ts0.length) (a:=tz) (by rw[z5d (z3c _),z7r];rfl);rw[z3a,er0,z3a]at tl;simp at tl;rw[er0,z5d (by omega),tl,z7r]at e1;cases e1;exact e2
  refine⟨_,rfl,_,rfl,l,_,_,_,rfl,rfl,zx.of hlt,(by rw[z3g];exact ze3 _ _),?_⟩;refine⟨_,rfl,l,rfl,⟨_,zx.of hlt⟩,?_⟩;refine J6 (xs:=(ts0++[tz]).map V.ref) (λi σ H'=>∃(v3:Option V) (ab:Addr) (bf:Pt×Pt),σ=[some (.ref q),some (.ref l),some (.ref ab),v3]/\zh H1 H'/\Z0 H' ab bf/\trC bf (sr.drop i)=trC z sr) ⟨_,tz,z,rfl,zh.refl _,hz2,rfl⟩ (λi σ H' _ ⟨v3,ab,bf,_,sm,_⟩=>zx.of (sm _ _ hlt)) ?_ ?_
  ·rintro i x σ H' D' hx ⟨v3,ab,bf,rfl,sm,hab,htr⟩ ea;rw[z27]at hx;obtain⟨t,ht,rfl⟩:=z3q.mp hx;obtain⟨st,hst,hS⟩:=y9 hpt ht;have hS:=hS.same sm;have hi:=(z3b.mp hst).1;have ed:sr.drop i=st::sr.drop (i+1):=by
    rw[z5m hi,(z3b.mp hst).2]
   rw[ed]at htr;have htr:((up st != lev st)&&((up st != up bf)&&trC st (sr.drop (i+1))))=trC z sr:=htr;refine zgs (up st==lev st) (up st==up bf) (λQ' q'=>?_) (λ_ Q' q'=>?_) ?_
   ·refine⟨_,rfl,t,st,rfl,hS,_,rfl,t,st,rfl,hS,rfl,_,rfl,?_⟩;rw[zni];exact q'
   ·refine⟨_,rfl,t,st,rfl,hS,_,rfl,ab,bf,rfl,hab,rfl,_,rfl,?_⟩;rw[zni];exact q'
   ·refine jr (λe=>?_) (λe=>?_)
    ·have e2:trC z sr=false:=by
      rw[<-htr];rw[z44,z4x,z4x]at e;rcases e with e|e
      ·rw[e];cases lev st<;>rfl
      ·rw[e];cases up bf<;>cases lev st<;>rfl
     rw[e2]at k;exact ea.rt _ _ (k _ (s1.trans sm))
    ·have e2:trC st (sr.drop (i+1))=trC z sr:=by
      rw[<-htr];have e:(up st==lev st||up st==up bf)=false:=by simpa using e
      rw[Bool.or_eq_false_iff]at e;have f1:(up st != lev st)=true:=by
       show (!(up st==lev st))=true;rw[e.1];rfl
      have f2:(up st != up bf)=true:=by
       show (!(up st==up bf))=true;rw[e.2];rfl
      rw[f1,f2,z4n,z4n]
     exact⟨_,rfl,ea.nx _ _ ⟨_,t,st,rfl,sm,hS,e2⟩⟩
  ·rintro σ H' ⟨v3,ab,bf,rfl,sm,hab,htr⟩;rw[z25,tl,z59]at htr;have htr:true=trC z sr:=htr;rw[<-htr]at k;exact k _ (s1.trans sm)
inductive ztk (C:Addr)(vs:List V)(H:Hp)(Q:VK):Prop
 |mk (a q:Addr) (b:Vbmiab.Bench) (as:List Addr) (r:List Pt):vs=[.ref a,.ref q]->zq C H a b->(H q=some (.lst (as.map V.ref))/\Rows H as (r.map cV)/\2<=r.length/\r.length<=500/\Ret H (.bl (Vbmiab.isRound b r)) Q)->ztk C vs H Q
def z0w (C:Addr):Sp:=λvs H Q _=>ztk C vs H Q
def zyk:zo ["bench","corners","x","y"] ["bench","corners"] (zj Qt):=by walk_at "sc"
theorem zax (T:qf K mg CB CR CC):xo P w K mg base "is_drawn_on" 3 ["bench","corners"] (z0w CB):=by
 refine T.f_is_drawn_on.con λf fd F=>F.ok zyk (λ_ _ _ _ h=>?_) (λ_ A _ s H vs Q E hr h=>?_)
 ·obtain⟨a,q,b,as,r,rfl,_⟩:=h;rfl
 ·obtain⟨a,q,b,as,r,rfl,B,hq,hrw,h2,h5,k⟩:=h;have elen:as.length=r.length:=by have:=hrw.len;rwa [z25]at this
  refine⟨_,zc (ju (jh Zm (jd zdr (ji jj rfl T.b_len z4z (za (pv 1) zd)) zi) zi (jl _)) (zg (zm vn)) (jb))
   (zc (jt z3v rfl (jo (pv 1)) (pg2 K (i:=2) (j:=3) rfl rfl zyk.nd rfl rfl (Or.inl rfl) (Or.inl rfl))
    (zg (ju (PW.pt (zca (jh V4 (pv 2) (Jt (·.nx) T.cB.cl T.cB.nx (pv 0)) (jl _)) (Vo (jh V4 (pv 3) (Jt (·.ny) T.cB.cl T.cB.ny (pv 0)) (jl _))))) (zg (zm vn)) (jb))))
   (zg (zm (je (zq5 T) hr.m0 (za (pv 1) zd))))),?_⟩
  obtain⟨z,hz⟩:∃ z,(vz r).getLast? =some z:=by
   cases h:(vz r).getLast? with
   |none=>
    have:=z6a List.length (z99.mp h);rw[Kx,z73]at this;omega
   |some z=>exact⟨z,rfl⟩
  rw[zh3 b h2 hz]at k;refine⟨_,rfl,q,_,rfl,.inl (zx.of hq),_,_,rfl,rfl,(by show (0:Int) < 2;decide),rfl,_,rfl,?_⟩;refine jr (λe=>?_) (λe=>?_)
  ·have e1:r.length % 2=1:=by
    have this:((as.map V.ref).length:Int) % 2=1:=V.int.inj (z30 e);rw[z25,elen]at this;omega
   rw[z4u (by omega),z5c]at k;exact k _ (zh.refl _)
  ·have e1:r.length % 2=0:=by
    have h:¬r.length % 2=1:=λw=>e (z3u (by
     show V.int (((as.map V.ref).length:Int) % 2)=V.int 1;rw[z25,elen];congr 1;omega))
    omega
   rw[z3u e1,z4n]at k;refine⟨_,rfl,q,rfl,⟨_,zx.of hq⟩,?_⟩;refine J6 (xs:=as.map V.ref) (λi σ H'=>∃(v2 v3:Option V),σ=[some (.ref a),some (.ref q),v2,v3]/\zh H H'/\∀ p,p∈r.take i->p.1<=b.nx/\p.2<=b.ny) ⟨_,_,rfl,zh.refl _,λp h=>by rw[z96]at h;cases h⟩ (λi σ H' _ ⟨v2,v3,_,sm,_⟩=>zx.of (sm _ _ hq)) ?_ ?_
   ·rintro i x σ H' D' hx ⟨v2,v3,rfl,sm,hall⟩ ea;rw[z27]at hx;obtain⟨t,ht,rfl⟩:=z3q.mp hx;obtain⟨rr,g1,g2⟩:=hrw.at ht;rw[z27]at g1;obtain⟨p,hp,rfl⟩:=z3q.mp g1;have B':=B.same sm;refine⟨t,_,rfl,yw.of (sm _ _ g2),rfl,_,_,rfl,_,_,rfl,rfl,?_⟩;refine zgs (decide (b.nx < p.1)) (decide (b.ny < p.2)) (λQ' q'=>?_) (λ_ Q' q'=>?_) ?_
    ·refine⟨_,rfl,_,rfl,a,b,rfl,B',_,_,rfl,rfl,_,rfl,?_⟩;rw[yf (show (((b.nx:Nat):Int) < (p.1:Int))↔b.nx < p.1 by omega)];exact q'
    ·refine⟨_,rfl,_,rfl,a,b,rfl,B',_,_,rfl,rfl,_,rfl,?_⟩;rw[yf (show (((b.ny:Nat):Int) < (p.2:Int))↔b.ny < p.2 by omega)];exact q'
    ·refine jr (λe=>?_) (λe=>?_)
     ·have e2:r.all (λp=>decide (p.1<=b.nx/\p.2<=b.ny))=false:=by
       rw[List.all_eq_false];refine⟨p,z3r hp,?_⟩;rw[z44,z4p,z4p]at e;rw[z4p];omega
      rw[e2,z5c]at k;exact ea.rt _ _ (k _ sm)
     ·refine ea.nx _ _ ⟨_,_,rfl,sm,λp' hp'=>?_⟩;rw[jw hp]at hp';rcases z33.mp hp' with h|h
      ·exact hall p' h
      ·rw[z37.mp h];have e:¬(decide (b.nx < p.1)||decide (b.ny < p.2))=true:=e;rw[z44,z4p,z4p]at e;omega
   ·rintro σ H' ⟨v2,v3,rfl,sm,hall⟩;rw[z25,elen,z4s]at hall;have e2:r.all (λp=>decide (p.1<=b.nx/\p.2<=b.ny))=true:=z47.mpr λp hp=>z3u (hall p hp);rw[e2,z4n]at k;exact⟨_,rfl,q,as,r,z,rfl,sm _ _ hq,hrw.same sm,by omega,h5,hz,λH2 s2=>k _ (sm.trans s2)⟩
inductive zts (vs:List V)(H:Hp)(Q:VK):Prop
 |mk (t:Addr) (s:Pt×Pt) (x y:Nat):vs=[.ref t,vN x,vN y]->Z0 H t s->Q (.bl (Je x y s)) H->zts vs H Q
def z04:Sp:=λvs H Q _=>zts vs H Q
def zwm:zo ["stretch","x","y","from_y","to_y"] ["stretch","x","y"] (zj Kh):=by walk_at "sc"
theorem zc0 (T:qf K mg CB CR CC):xo P w K mg base "is_at_left" 1 ["stretch","x","y"] z04:=by
 refine T.f_is_at_left.con λf fd F=>F.ok zwm (λ_ _ _ _ h=>?_) (λ_ A _ s H vs Q E hr h=>?_)
 ·obtain⟨t,s,x,y,rfl,_⟩:=h;rfl
 ·obtain⟨t,st,x,y,rfl,⟨a,b,ht,ha,hb⟩,k⟩:=h;refine⟨_,zc (zn (i:=3) zwm.nd rfl (Or.inl rfl) (zu jm (zu jm (pv 0) zi (λ_ _=>rfl)) zi (λ_ _=>rfl)))
   (zc (zn (i:=4) zwm.nd rfl (Or.inl rfl) (zu jm (zu jm (pv 0) zi (λ_ _=>rfl)) zi (λ_ _=>rfl)))
   (zg (zm (zdu (Jl Gk (zu jm (zu jm (pv 0) zi (λ_ _=>rfl)) zi (λ_ _=>rfl)) (pv 1) (jl _)) (zdv (X8 Gk V5 (ji (zlh rfl) rfl T.b_min (by decide+kernel) (za (pv 3) (za (pv 4) zd))) (pv 2) (ji (zbs rfl) rfl T.b_max (by decide+kernel) (za (pv 3) (za (pv 4) zd))))))))),?_⟩
  refine⟨_,rfl,t,_,_,_,rfl,rfl,yw.of ht,zk (j:=0) rfl,a,_,_,_,rfl,rfl,yw.of ha,zk (j:=1) rfl,?_⟩;refine⟨_,rfl,t,_,_,_,rfl,rfl,yw.of ht,zk (j:=1) rfl,b,_,_,_,rfl,rfl,yw.of hb,zk (j:=1) rfl,?_⟩;refine⟨_,rfl,t,_,_,_,rfl,rfl,yw.of ht,zk (j:=0) rfl,a,_,_,_,rfl,rfl,yw.of ha,zk (j:=0) rfl,_,rfl,_,_,rfl,rfl,_,rfl,?_⟩;unfold Je at k;refine jr (λe=>?_) (λe=>?_)
  ·have e:st.1.1<=x:=by
    have:=z30 e;omega
   rw[z3u e,z4n]at k;refine⟨_,rfl,_,rfl,_,_,rfl,_,rfl,_,_,rfl,rfl,_,rfl,?_⟩;have emin:(if (st.2.2:Int) < (st.1.2:Int) then (st.2.2:Int) else st.1.2)=((min st.1.2 st.2.2:Nat):Int):=by
    split<;>omega
   refine jr (λe=>?_) (λe=>?_)
   ·have e:min st.1.2 st.2.2<=y:=by
     have:=z30 e;rw[emin]at this;omega
    rw[z3u e,z4n]at k;refine⟨_,rfl,_,rfl,_,_,rfl,_,_,rfl,rfl,?_⟩;show Q (V.bl (decide ((y:Int) < (if (st.2.2:Int) > (st.1.2:Int) then (st.2.2:Int) else st.1.2)))) H;rw[yf (show ((y:Int) < (if (st.2.2:Int) > (st.1.2:Int) then (st.2.2:Int) else st.1.2))↔y < max st.1.2 st.2.2 by split<;>omega)];exact k
   ·have e:¬min st.1.2 st.2.2<=y:=λz=>e (z3u (by rw[emin];omega));rw[z4u e,z5c]at k;exact k
  ·have e:¬st.1.1<=x:=λz=>e (z3u (by omega));rw[z4u e,z5c]at k;exact k
inductive zto (C:Addr)(vs:List V)(H:Hp)(Q:VK):Prop
 |mk (a u:Addr) (b:Vbmiab.Bench) (ts:List Addr) (us:List (Pt×Pt)) (y:Nat):vs=[.ref a,.ref u,vN y]->zq C H a b->(H u=some (.lst (ts.map V.ref))/\Paired (Z0 H) ts us/\us.length<=1000/\Ret H (vN (xu us y b.nx)) Q)->zto C vs H Q
def z00 (C:Addr):Sp:=λvs H Q _=>zto C vs H Q
def zmj:zo ["bench","uprights","y","pattern","x","at_left","stretch"] ["bench","uprights","y"] (zj Kf):=by walk_at "sc"
theorem zel {F:Addr->(Pt×Pt)->Prop}:∀{ts:List Addr}{us:List (Pt×Pt)},Paired F ts us->(ts.zip us).map (λp=>V.ref p.1)=ts.map V.ref
 |_,_,.nil=>rfl
 |_,_,.cons _ t=>by
  rw[z7g,z3n,z3n,zel t]
theorem zk1 {F:Addr->(Pt×Pt)->Prop}(g:Pt×Pt->Bool):∀{ts:List Addr}{us:List (Pt×Pt)},Paired F ts us->((ts.zip us).filterMap λp=>if g p.2=true then some (V.ref p.1) else none).length=(us.filter g).length
 |_,_,.nil=>rfl
 |_,_,.cons (b:=u) _ t=>by
  have ih:=zk1 g t;rw[z7g];by_cases h:g u=true
  ·rw[z5a (by rw[z3m h]),z7k h,z3l,z3l,ih]
  ·rw[z5b (by rw[z3k h]),z7l h,ih]
theorem zk0 {F:Addr->(Pt×Pt)->Prop}{ts:List Addr}{us:List (Pt×Pt)}{i:Nat}{p:Addr×(Pt×Pt)}(h:Paired F ts us)(e:(ts.zip us)[i]? =some p):F p.1 p.2:=by
 rw[z51]at e;obtain⟨b,h1,h2⟩:=y9 h e.1;rw[h1]at e;cases e.2;exact h2
theorem zcx (T:qf K mg CB CR CC):xo P w K mg base "filled_row" 2 ["bench","uprights","y"] (z00 CB):=by
 refine T.f_filled_row.con λf fd F=>F.ok zmj (λ_ _ _ _ h=>?_) (λ_ A _ s H vs Q E hr h=>?_)
 ·obtain⟨a,u,b,ts,us,y,rfl,_⟩:=h;rfl
 ·obtain⟨a,u,b,ts,us,y,rfl,B,hu,hp,hlen,k⟩:=h;have g:=B.good;have g7:=g.nx7;have tl:ts.length=us.length:=z39 hp;refine⟨_,zc (zn (i:=3) zmj.nd rfl (Or.inl rfl) zi)
   (zc (jt z3v rfl (yp rfl T.range (za (Jt (·.nx) T.cB.cl T.cB.nx (pv 0)) zd)) (zt (i:=4) zmj.nd rfl (Or.inr rfl))
    (zc (Z6 (i:=5) rfl zmj.nd rfl rfl (Qc rfl rfl rfl rfl) (jo (pv 1)) (jq (own:=[("stretch",6)]) rfl) (λ_ _ _ _ _=>(zt (i:=6) zmj.nd rfl (Or.inl rfl))) (λ_ _ _ _ _=>(vh (j4 (je (zc0 T) hr.m0 (za (pv 6) (za (pv 4) (za (pv 2) zd))))))) (λ_ _ _ _ _=>(pv 6)))
    (zg (ju (jh Zm (jd zdr (ji jj rfl T.b_len z4z (za (pv 5) zd)) zi) zi (jl _)) (zg (Vn (i:=3) zmj.nd rfl (Or.inl rfl) (jd zii zi (pv 4)) Vh)) (jb)))))
   (zg (zm (pv 3)))),?_⟩
  walk_at "rd"
  refine⟨by (try dsimp only);omega,by (try dsimp only);omega,?_⟩;refine J7 (λi σ H'=>zh H H'/\∃ v4 v5 v6,σ=[some (.ref a),some (.ref u),some (vN y),some (vN (xu us y i)),v4,v5,v6]) ⟨zh.refl _,_,_,_,rfl⟩ ?_ ?_
  ·rintro i σ H' D' hi ⟨sm,v4,v5,v6,rfl⟩ ea;have hp':Paired (Z0 H') ts us:=jk hp λ_ _ _ h=>h.same sm;refine⟨_,rfl,u,rfl,⟨_,zx.of (sm _ _ hu)⟩,λD hD=>?_⟩;refine Wy (xs:=ts.zip us) (c:=λp=>V.ref p.1) (λp=>if Je i y p.2=true then some (V.ref p.1) else none) hD (by rw[z60,tl,Nat.min_self];exact z36 (zp hlen)) (by rw[zel hp];exact zx.of (sm _ _ hu)) (λj p H2 Nt Nf hj s2 hN hF=>?_) (λH2 s2 h2=>?_)
   ·refine⟨rfl,?_⟩;refine⟨_,rfl,_,rfl,_,rfl,p.1,p.2,i,y,rfl,(zk0 hp' hj).same s2,_,rfl,?_⟩;refine jr (λe=>?_) (λe=>?_)
    ·exact⟨_,rfl,hN _ _ (zh.refl _) (z3m e)⟩
    ·exact hF _ (zh.refl _) (z3k e)
   ·refine⟨_,rfl,D,_,rfl,.inl (zx.of h2),_,_,rfl,rfl,(by show (0:Int) < 2;decide),rfl,_,rfl,?_⟩;rw[zk1 (Je i y) hp];refine jr (λe=>?_) (λe=>?_)
    ·have e1:(us.filter (Je i y)).length % 2=1:=by
      have this:((us.filter (Je i y)).length:Int) % 2=1:=V.int.inj (z30 e);omega
     have e2:xu us y (i+1)=xu us y i+2 ^ i:=by
      rw[X1];unfold X0;rw[z3m e1]
     walk_at "rd"
     have hi:i < b.nx:=hi;refine⟨⟨by omega,by have:=g.nx7;omega,by decide⟩,?_⟩
     walk_at "rd"
     refine ea.nx _ _ ⟨sm.trans s2,some (vN i),some (.ref D),v6,?_⟩;rw[e2];show _=[_,_,_,some (V.int ((xu us y i+2 ^ i:Nat):Int)),_,_,_];rw[z5h,<-ziw];rfl
    ·have e1:¬(us.filter (Je i y)).length % 2=1:=λz=>e (z3u (by
      show V.int (((us.filter (Je i y)).length:Int) % 2)=V.int 1;congr 1;omega))
     have e2:xu us y (i+1)=xu us y i:=by
      rw[X1];unfold X0;rw[z3k e1,Nat.add_zero]
     refine ea.nx _ _ ⟨sm.trans s2,some (vN i),some (.ref D),v6,?_⟩;rw[e2];rfl
  ·rintro σ H' ⟨sm,v4,v5,v6,rfl⟩;exact⟨_,rfl,k _ sm⟩
theorem rg2 {a n:Nat}(h:1<=n)(ha:a<=1000)(hn:n<=1000):RgC (a:Int) ((a:Int)+2*(n:Int)) 2 n:=by
 have e:Builtin.Range.rangeSize (a:Int) ((a:Int)+2*(n:Int)) 2=n:=by
  unfold Builtin.Range.rangeSize;rw[z3m (by decide),z3m (by omega)];omega
 refine⟨by decide,by decide,?_,e⟩;have fits:∀ i:Int,0<=i->i < 100000->Builtin.Range.rangeFitsLong i=true:=λi h1 h2=>by
  unfold Builtin.Range.rangeFitsLong;rw[z3f,z4p,z4p];omega
 unfold Builtin.Range.small;rw[e,z3m (by decide),fits _ (by omega) (by omega),fits _ (by omega) (by omega),fits _ (by omega) (by omega),fits _ (by omega) (by omega),fits _ (by omega) (by omega),Bool.or_true];rfl
def yy (rs:List (List Pt)):Nat:=(rs.map List.length).sum
inductive ztm (C:Addr)(vs:List V)(H:Hp)(Q:VK):Prop
 |mk (a q:Addr) (b:Vbmiab.Bench) (qs:List Addr) (rs:List (List Pt)):vs=[.ref a,.ref q]->zq C H a b->(H q=some (.lst (qs.map V.ref))/\Paired (zao H) qs rs/\(∀ r,r∈rs->1<=r.length)/\yy rs<=500/\∀(H':Hp) (l:Addr),zh H H'->H' l=some (.lst ((Vbmiab.filled b rs).map vN))->Q (.ref l) H')->ztm C vs H Q
def z0y (C:Addr):Sp:=λvs H Q _=>ztm C vs H Q
def ziq:zo ["bench","rounds","uprights","corners","stretch","y"] ["bench","rounds"] (zj Yo):=by walk_at "sc"
theorem zg3 {H:Hp}(g:Pt×Pt->Bool):∀{ts:List Addr}{us:List (Pt×Pt)},Paired (Z0 H) ts us->∃ ts',((ts.zip us).filterMap λp=>if g p.2=true then some (V.ref p.1) else none)=ts'.map V.ref/\Paired (Z0 H) ts' (us.filter g)
 |_,_,.nil=>⟨[],rfl,.nil⟩
 |_,_,.cons (a:=t) (b:=u) h r=>by
  obtain⟨ts',e1,e2⟩:=zg3 g r;rw[z7g];by_cases hg:g u=true
  ·refine⟨t::ts',?_,?_⟩
   ·rw[z5a (by rw[z3m hg]),e1];rfl
   ·rw[z7k hg];exact .cons h e2
  ·refine⟨ts',?_,?_⟩
   ·rw[z5b (by rw[z3k hg]),e1]
   ·rw[z7l hg];exact e2
theorem Go {α β:Type}{F:α->β->Prop}:∀{l₁ m₁:List α}{l₂ m₂:List β},Paired F l₁ l₂->Paired F m₁ m₂->Paired F (l₁++m₁) (l₂++m₂)
 |_,_,_,_,.nil,h=>h
 |_,_,_,_,.cons x t,h=>.cons x (Go t h)
theorem Uq (T:qf K mg CB CR CC):xo P w K mg base "filled_lines" 3 ["bench","rounds"] (z0y CB):=by
 refine T.f_filled_lines.con λf fd F=>F.ok ziq (λ_ _ _ _ h=>?_) (λ_ A _ s H vs Q E hr h=>?_)
 ·obtain⟨a,q,b,qs,rs,rfl,_⟩:=h;rfl
 ·obtain⟨a,q,b,qs,rs,rfl,B,hq,hp,hr1,hcn,k⟩:=h;have g:=B.good;have g8:=g.ny8;refine⟨_,zc (zn (i:=2) ziq.nd rfl (Or.inr rfl) (zy zd))
   (zc (jt z3v rfl (jo (pv 1)) (zt (i:=3) ziq.nd rfl (Or.inl rfl))
    (zg (yb (xp z3y z5t z5s Z4 (pv 2) (za (ko rfl ziq.nd (jo (je (Jy T) hr.m0 (za (pv 3) zd))) (jq (own:=[("stretch",4)]) rfl) (λ_ _ _ _ _=>(zt (i:=4) ziq.nd rfl (Or.inl rfl))) (λ_ _ _ _ _=>(vh (j4 (je (we T) hr.m0 (za (pv 4) zd))))) (λ_ _ _ _ _=>(pv 4))) zd)))))
   (zg (zm (ko rfl ziq.nd (yp rfl T.range (za (Jt (·.ny) T.cB.cl T.cB.ny (pv 0)) zd)) (jq (own:=[("y",5)]) rfl) (λ_ _ _ _ _=>(zt (i:=5) ziq.nd rfl (Or.inl rfl))) (λ_ _ _ _ _=>q0) (λ_ _ _ _ _=>(je (zcx T) hr.m0 (za (pv 0) (za (pv 2) (za (pv 5) zd))))))))),?_⟩
  refine⟨z4c _,λu hu=>?_⟩;have s1:zh H (upd H u (.lst [])):=zh.upd hu;have u1:(upd H u (.lst [])) u=some (.lst (([]:List Addr).map V.ref)):=zb;generalize (upd H u (.lst []))=H1 at s1 u1 ⊢;have elen:qs.length=rs.length:=z39 hp;have nuq:q≠u:=zf hq hu;have qsu:∀ x,x∈qs->x≠u:=λx hx=>by
   obtain⟨i,hi,e⟩:=z5q hx;obtain⟨r,_,cs,h1,_⟩:=y9 hp (z3b.mpr ⟨hi,e⟩);exact zf h1 hu
  refine⟨_,rfl,q,rfl,⟨_,zx.of (s1 _ _ hq)⟩,?_⟩;refine J6 (xs:=qs.map V.ref) (λi σ H'=>∃(v3 v4 v5:Option V) (ts:List Addr),σ=[some (.ref a),some (.ref q),some (.ref u),v3,v4,v5]/\(∀ bb o,bb≠u->H1 bb=some o->H' bb=some o)/\H' u=some (.lst (ts.map V.ref))/\Paired (Z0 H') ts (zah (rs.take i))/\(zah (rs.take i)).length<=yy (rs.take i)) ⟨_,_,_,[],rfl,λbb o _ e=>e,u1,.nil,z3c _⟩ (λi σ H' _ ⟨v3,v4,v5,ts,_,k2,_⟩=>zx.of (k2 _ _ nuq (s1 _ _ hq))) ?_ ?_
  ·rintro i x σ H' D' hx ⟨v3,v4,v5,ts,rfl,k2,hu',hpt,hul⟩ ea;rw[z27]at hx;obtain⟨qa,hqa,rfl⟩:=z3q.mp hx;obtain⟨r,hri,cs,h1,h2,h3⟩:=y9 hp hqa;have h1':=k2 _ _ (zf h1 hu) (s1 _ _ h1);have h2':Rows H' cs (r.map cV):=h2.keep λbb rr e=>k2 _ _ (zf e hu) (s1 _ _ e);have r1:=hr1 r (z3r hri);have tk:=jw hri;have cn:yy (rs.take (i+1))=yy (rs.take i)+r.length:=by
    unfold yy;rw[tk,z3g,z91];simp
   have cle:yy (rs.take (i+1))<=500:=by
    refine z32 ?_ hcn;unfold yy
    conv=>rhs;rw[<-z8w (i+1) rs,z3g,z91]
    omega
   have us:zah (rs.take (i+1))=zah (rs.take i)++(vz r).filter up:=by
    unfold zah;rw[tk,z5r,z41,z68,z31]
   refine⟨_,rfl,.inl ⟨rfl,_,zx.of hu'⟩,?_⟩;refine⟨_,rfl,qa,cs,r,rfl,h1',h2',r1,h3,λH3 l3 t3 s3 hl3 hlt3 hp3=>?_⟩;refine⟨l3,rfl,⟨_,zx.of hlt3⟩,λD hD=>?_⟩;have t3l:t3.length=(vz r).length:=z39 hp3;have srl:=Kx r;refine Wy (xs:=t3.zip (vz r)) (c:=λp=>V.ref p.1) (λp=>if up p.2=true then some (V.ref p.1) else none) hD (by rw[z60];exact z36 (zp (by omega))) (by rw[zel hp3];exact zx.of hlt3) (λj p H4 Nt Nf hj s4 hN hF=>?_) (λH4 s4 h4=>?_)
   ·refine⟨rfl,?_⟩;refine⟨_,rfl,p.1,p.2,rfl,(zk0 hp3 hj).same s4,_,rfl,?_⟩;refine jr (λe=>?_) (λe=>?_)
    ·exact⟨_,rfl,hN _ _ (zh.refl _) (z3m e)⟩
    ·exact hF _ (zh.refl _) (z3k e)
   ·obtain⟨ts',e1,e2⟩:=zg3 up hp3;rw[e1]at h4;have fl:(vz r |>.filter up).length<=r.length:=by rw[<-srl];exact z4w _ _
    have tsl:ts.length=(zah (rs.take i)).length:=z39 hpt;have tsl':ts'.length=((vz r).filter up).length:=z39 e2;have u4:=s4 _ _ (s3 _ _ hu');have nuD:u≠D:=λw=>by rw[<-w,s3 _ _ hu']at hD;cases hD
    refine⟨u,D,_,_,rfl,rfl,u4,h4,by rw[z25,z25];exact z36 (zp (by omega)),?_⟩;refine ea.nx _ _ ⟨_,_,_,ts++ts',rfl,λbb o n e=>?_,?_,?_,?_⟩
    ·rw[ze n];exact s4 _ _ (s3 _ _ (k2 _ _ n e))
    ·rw[zb,z3g]
    ·have kt:∀ bb rr,H4 bb=some (.tup rr)->(upd H4 u (.lst (ts.map V.ref++ts'.map V.ref))) bb=some (.tup rr):=λbb rr e=>by
      rw[ze (ja e u4 (by intro z;cases z))];exact e
     rw[us];exact Go (jk hpt λ_ _ _ h=>((h.same s3).same s4).keep kt) (jk e2 λ_ _ _ h=>(h.same s4).keep kt)
    ·rw[us,z3a,cn];omega
  ·rintro σ H' ⟨v3,v4,v5,ts,rfl,k2,hu',hpt,hul⟩;rw[z25,elen,z4s]at hpt hul;have sH:zh H H':=λbb o e=>k2 _ _ (zf e hu) (s1 _ _ e);have B':=B.same sH
   walk_at "rd"
   refine⟨by (try dsimp only);omega,by (try dsimp only);omega,λD hD=>?_⟩;refine zoo (n:=b.ny) (λy=>some (vN (xu (zah rs) y b.nx))) hD (z36 (zp (by omega))) (λy H4 Nt Nf hy s4 hN hF=>?_) (λH4 s4 h4=>?_)
   ·refine⟨rfl,?_⟩;refine⟨_,rfl,_,rfl,_,rfl,a,u,b,ts,zah rs,y,rfl,B'.same s4,s4 _ _ hu',jk hpt λ_ _ _ h=>h.same s4,by omega,λH5 s5=>hN _ _ s5 rfl⟩
   ·refine k _ D (sH.trans s4) ?_;rw[h4,zln b hr1,z45,z4f];rfl
theorem zd9:∀ f,Vbmiab.roundsOf f []=some []
 |0=>rfl
 |_+1=>rfl
theorem za6 (rs:List (List Pt))(r:List Pt):yy (rs++[r])=yy rs+r.length:=by
 unfold yy;rw[z3g,z91];simp
inductive zt2 (vs:List V)(H:Hp)(Q:VK):Prop
 |mk (q:Addr) (l:List Nat):vs=[.ref q]->H q=some (.lst (l.map vN))->l.length<=500->((∀ x,x∈l->x<=500))->((Vbmiab.roundsOf l.length l=none->Ret H .non Q))->(∀ rs,Vbmiab.roundsOf l.length l=some rs->∀(H':Hp) (r:Addr) (qs:List Addr),zh H H'->H' r=some (.lst (qs.map V.ref))->Paired (zao H') qs rs->(∀ r,r∈rs->4<=r.length)->yy rs<=500->Q (.ref r) H')->zt2 vs H Q
def z1e:Sp:=λvs H Q _=>zt2 vs H Q
def zgl:zo ["numbers","rounds","at","first","behind","k"] ["numbers"] (zj Qz):=by walk_at "sc"
structure zuj (H:Hp)(q rr:Addr)(l:List Nat)(m:Nat)(σ:L2.St)(H':Hp)(at_:Nat)(qs:List Addr)(dn:List (List Pt)):Prop where
 sg:∃ v3 v4 v5:Option V,σ=[some (.ref q),some (.ref rr),some (vN at_),v3,v4,v5]
 sm:zh H H'
 rl:H' rr=some (.lst (qs.map V.ref))
 pr:Paired (zao H') qs dn
 nr:∀ x,x∈qs->x≠rr
 eq:Vbmiab.roundsOf l.length l=(Vbmiab.roundsOf (l.length - dn.length) (l.drop at_)).map λt=>dn++t
 le:at_<=l.length
 dl:dn.length+yy dn<=at_
 four:∀ r,r∈dn->4<=r.length
 ms:m=l.length - at_
theorem za1 (T:qf K mg CB CR CC):xo P w K mg base "read_rounds" 1 ["numbers"] z1e:=by
 refine T.f_read_rounds.con λf fd F=>F.ok zgl (λ_ _ _ _ h=>?_) (λ_ A _ s H vs Q E hr h=>?_)
 ·obtain⟨q,l,rfl,_⟩:=h;rfl
 ·obtain⟨q,l,rfl,hq,hl5,hx5,kn,ks⟩:=h;refine⟨_,zc (zn (i:=1) zgl.nd rfl (Or.inl rfl) (zy zd))
   (zc (zn (i:=2) zgl.nd rfl (Or.inl rfl) zi)
   (zc (Kb z3v (jh V5 (pv 2) (ji jj rfl T.b_len z4z (za (pv 0) zd)) (jl _))
    (zc (zn (i:=3) zgl.nd rfl (Or.inl rfl) (jd yj (pv 2) zi))
    (zc (zn (i:=4) zgl.nd rfl (Or.inl rfl) (jd yj (pv 3) (jd Zu zi (zu zw (pv 0) (pv 2) (λ_ _=>rfl)))))
    (zc (ju (PW.pt (zca (jh V5 (zu zw (pv 0) (pv 2) (λ_ _=>rfl)) (jc T.c_FEWEST_CORNERS) (jl _)) (Vo (jh V4 (pv 4) (ji jj rfl T.b_len z4z (za (pv 0) zd)) (jl _))))) (zg (zm Zv)) (jb))
    (zc (yb (xp z3y z4k z4j yo (pv 1) (za (ko rfl zgl.nd (zb6 rfl T.range (za (pv 3) (za (pv 4) (za zi zd)))) (jq (own:=[("k",5)]) rfl) (λ_ _ _ _ _=>(zt (i:=5) zgl.nd rfl (Or.inl rfl))) (λ_ _ _ _ _=>q0) (λ_ _ _ _ _=>(qj (za (zo3 K rfl (pv 0) (pv 5)) (za (zo3 K rfl (pv 0) (jd yj (pv 5) zi)) zd))))) zd)))
    (zg (zn (i:=2) zgl.nd rfl (Or.inl rfl) (pv 4))))))))
   (zg (zm (pv 1))))),?_⟩
  refine⟨z4c _,λrr hrr=>?_⟩;have s1:zh H (upd H rr (.lst [])):=zh.upd hrr;have r1:(upd H rr (.lst [])) rr=some (.lst (([]:List Addr).map V.ref)):=zb;generalize (upd H rr (.lst []))=H1 at s1 r1 ⊢;refine⟨λm σ H'=>∃ at_ qs dn,zuj H q rr l m σ H' at_ qs dn,⟨_,0,[],[],⟨_,_,_,rfl⟩,s1,r1,.nil,(λ_ h=>nomatch h),?_,z4c _,z3c _,(λ_ h=>nomatch h),rfl⟩,?_⟩
  ·rw[jab];show _=(Vbmiab.roundsOf (l.length - 0) l).map λt=>[]++t;rw[z7q];cases Vbmiab.roundsOf l.length l<;>rfl
  ·rintro m σ H' ⟨at_,qs,dn,⟨v3,v4,v5,rfl⟩,sm,hrl,hpr,hnr,heq,hle,hdl,hfour,rfl⟩;have hq':=sm _ _ hq;refine⟨_,rfl,_,rfl,q,_,rfl,.inl (zx.of hq'),_,_,rfl,rfl,_,rfl,?_⟩;rw[z25];refine jr (λe=>?_) (λe=>?_)
   ·have hlt:at_ < l.length:=by
     have:=z30 e;omega
    obtain⟨n,hn⟩:∃ n,l[at_]? =some n:=⟨_,z28 hlt⟩;have hn':(l.map vN)[at_]? =some (vN n):=by rw[z27,hn];rfl
    have n5:=hx5 n (z3r hn);refine⟨λσ' H''=>∃ m',m' < l.length - at_/\∃ at_ qs dn,zuj H q rr l m' σ' H'' at_ qs dn,λσ' H'' h=>h,?_⟩;refine⟨_,rfl,_,_,rfl,rfl,?_⟩;refine⟨_,rfl,_,rfl,_,rfl,q,_,_,_,rfl,rfl,zx.of hq',zk hn',_,_,rfl,rfl,(.inl ⟨by decide,by decide⟩),_,_,rfl,rfl,?_⟩;have fuel:l.length - dn.length=(l.length - dn.length - 1)+1:=by omega
    have st:=za9 l at_ (l.length - dn.length - 1) hn;rw[<-fuel]at st;rw[st]at heq
    try dsimp only
    rw[wb,zi2,zgq];refine zgs (decide (n < 4)) (decide (l.length < at_+1+2*n)) (λQ' q'=>?_) (λ_ Q' q'=>?_) ?_
    ·refine⟨_,rfl,_,rfl,q,_,_,_,rfl,rfl,zx.of hq',zk hn',_,_,rfl,rfl,_,rfl,?_⟩;rw[yf (show ((n:Int) < 4)↔n < 4 by omega)];exact q'
    ·refine⟨_,rfl,_,rfl,q,_,rfl,.inl (zx.of hq'),_,_,rfl,rfl,_,rfl,?_⟩;rw[z25,yf (show ((l.length:Int) < (at_:Int)+1+2*(n:Int))↔l.length < at_+1+2*n by omega)];exact q'
    ·refine jr (λe=>?_) (λe=>?_)
     ·have e:n < 4\/l.length < at_+1+2*n:=by
       rw[z44,z4p,z4p]at e;exact e
      rw[z3m e]at heq;exact kn heq _ sm
     ·have e:¬(n < 4\/l.length < at_+1+2*n):=λz=>e (by
       rw[z44,z4p,z4p];exact z)
      rw[z3k e]at heq;refine⟨_,rfl,.inl ⟨rfl,_,zx.of hrl⟩,?_⟩;have hrg:RgC ((at_:Int)+1) ((at_:Int)+1+2*(n:Int)) 2 n:=by
       have:=rg2 (a:=at_+1) (n:=n) (by omega) (by omega) (by omega);rw[z5h]at this;exact this
      refine⟨_,rfl,_,rfl,_,_,_,n,rfl,hrg,λD hD=>?_⟩;refine zrh (J:=Itc ((at_:Int)+1) 2 n) (n:=n) (λi H2 acc=>∃ ps:List Addr,acc=ps.map V.ref/\zh H' H2/\Rows H2 ps (((List.range i).map λj=>(l.getD (at_+1+2*j) 0,l.getD (at_+1+2*j+1) 0)).map cV)) (z36 (zp (by omega))) ⟨[],rfl,zh.upd hD,.nil⟩ (λi H2 acc hi _ _=>hi) (λi H2 acc x H3 Nt Nf hi hacc hp y hN hF=>?_) (λH2 acc hacc hp=>?_)
      ·obtain⟨ps,rfl,sm2,hrw⟩:=hp;obtain⟨rfl,hx⟩:=y;obtain rfl:x=vN (at_+1+2*i):=hx.trans (by
        show V.int ((at_:Int)+1+(i:Int)*2)=V.int ((at_+1+2*i:Nat):Int);congr 1;omega)
       refine⟨rfl,?_⟩;refine⟨_,rfl,_,rfl,q,_,_,_,rfl,rfl,zx.of (sm2 _ _ hq'),zk (W4 (by omega)),_,rfl,_,rfl,_,_,rfl,rfl,q,_,_,_,rfl,rfl,zx.of (sm2 _ _ hq'),(show atI _ (((at_+1+2*i:Nat):Int)+1)=some (vN (l.getD (at_+1+2*i+1) 0)) from zk (j:=at_+1+2*i+1) (W4 (by omega))),(by show 2<=sizeLine;decide),λt ht=>?_⟩;have s3:=zh.upd (o:=.tup [vN (l.getD (at_+1+2*i) 0),vN (l.getD (at_+1+2*i+1) 0)]) ht;have t3:(upd H3 t (.tup [vN (l.getD (at_+1+2*i) 0),vN (l.getD (at_+1+2*i+1) 0)])) t=some (.tup (cV (l.getD (at_+1+2*i) 0,l.getD (at_+1+2*i+1) 0))):=zb;generalize (upd H3 t (.tup [vN (l.getD (at_+1+2*i) 0),vN (l.getD (at_+1+2*i+1) 0)]))=H4 at s3 t3 ⊢;have D4:=s3 _ _ hacc;refine hN _ _ D4 ⟨ps++[t],by rw[z3g];rfl,yc (sm2.trans s3) hD,?_⟩;rw[z49,z3g,z3g];refine Rows.snoc ?_ ((hrw.same s3).keep λbb r e=>?_)
       ·rw[ze (ja t3 D4 (by intro z;cases z))];exact t3
       ·rw[ze (ja e D4 (by intro z;cases z))];exact e
      ·obtain⟨ps,rfl,sm2,hrw⟩:=hp;have hrw:Rows H2 ps ((zdc l (at_+1) n).map cV):=hrw;have cl:=zny l (at_+1) n;refine⟨z3c _,?_⟩;have rl2:=sm2 _ _ hrl;have nDr:D≠rr:=λz=>by rw[z,hrl]at hD;cases hD
       have ql:qs.length=dn.length:=z39 hpr;refine⟨rr,_,.ref D,rfl,rfl,rl2,by rw[z25];exact zp (by omega),?_⟩;refine⟨_,rfl,l.length - (at_+1+2*n),by omega,at_+1+2*n,qs++[D],dn++[zdc l (at_+1) n],⟨_,_,_,rfl⟩,λbb o e=>?_,?_,?_,λx hx=>?_,?_,by omega,?_,λr hr=>?_,rfl⟩
       ·rw[ze (zf e hrr)];exact sm2 _ _ (sm _ _ e)
       ·rw[zb,z3g];rfl
       ·have kt:∀ bb r,H2 bb=some (.tup r)->(upd H2 rr (.lst (qs.map V.ref++[V.ref D]))) bb=some (.tup r):=λbb r e=>by
         rw[ze (ja e rl2 (by intro z;cases z))];exact e
        refine qe ⟨ps,by rw[ze nDr];exact hacc,hrw.keep kt,by omega⟩ (jk hpr λx r hm h=>?_);obtain⟨cs,f1,f2,f3⟩:=h.same sm2;exact⟨cs,by rw[ze (hnr x hm)];exact f1,f2.keep kt,f3⟩
       ·rcases z33.mp hx with hx|hx
        ·exact hnr x hx
        ·rw[z37.mp hx];exact nDr
       ·rw[heq,z3a,z42,Nat.sub_add_eq,Option.map_map];congr 1;funext t;show dn++(zdc l (at_+1) n::t)=dn++[zdc l (at_+1) n]++t;rw[z4d];rfl
       ·rw[za6,z3a,z42,cl];omega
       ·rcases z33.mp hr with hr|hr
        ·exact hfour r hr
        ·rw[z37.mp hr,cl];omega
   ·have hend:at_=l.length:=by
     have:¬at_ < l.length:=λz=>e (z3u (by omega));omega
    subst hend;rw[z59,zd9]at heq;have heq:Vbmiab.roundsOf l.length l=some dn:=by
     rw[heq];show some (dn++[])=_;rw[z31]
    exact⟨_,rfl,ks dn heq _ rr qs sm hrl hpr hfour (by omega)⟩
def zcd (p:Nat):List (List Int):=(j3 p).map λr=>[r.1,r.2]
def Wb (p:Nat):List (List Int):=(y6 p).map λr=>[r.1,r.2.1,r.2.2.1,r.2.2.2]
def Z2 (p:Nat):Str:=(["","tell_cell","change_cell","fix_cell","set_widths","set_price","tell_best","tell_table","check_lines","tell_count","tell_free","tell_losses","tell_pieces","tell_outlines","fill_rounds","tell_runs","tell_forced","tell_bench"]:List Str).getD p ""
structure zbf (P:Program)(w:World)(K:Fr)(mg:Str->Option Value):Prop where
 plain:∃ q kvs,mg "PLAIN_RANGES"=some (.ref q)/\Xo P w K q kvs/\∀ p:Nat,p < 18->∃ t,ye kvs (.inl (p:Int))=some (.ref t)/\K7 K t (zcd p)
 lists:∃ q kvs,mg "LIST_RANGES"=some (.ref q)/\Xo P w K q kvs/\∀ p:Nat,p < 18->(y6 p=[]/\ye kvs (.inl (p:Int))=none)\/∃ t,ye kvs (.inl (p:Int))=some (.ref t)/\K7 K t (Wb p)
 calls:∃ q kvs,mg "CALLS_ON_BENCH"=some (.ref q)/\Xo P w K q kvs/\(∀ p:Nat,1<=p->p < 18->∃ f,ye kvs (.inl (p:Int))=some (.ref f))/\∀ k f,ye kvs k=some (.ref f)->∃ p:Nat,1<=p/\p < 18/\k=.inl (p:Int)/\mg (Z2 p)=some (.ref f)
theorem K7.len {K:Fr}{q:Addr}{rs:List (List Int)}(t:K7 K q rs):∃ as:List Addr,(∀ H,yw K H q (as.map V.ref))/\as.length=rs.length/\zbl K as rs:=by
 obtain⟨as,h1,h2⟩:=t;exact⟨as,h1,z39 h2,h2⟩
def zs6 (H0 H:Hp)(t:Addr)(c:jz):Prop:=∃(pl ls:Addr) (qs:List Addr),(H0 t=none/\H0 pl=none/\H0 ls=none/\∀ q,q∈qs->H0 q=none)/\H t=some (.tup [vN c.place,.ref pl,.ref ls])/\H pl=some (.lst (c.plain.map V.int))/\H ls=some (.lst (qs.map V.ref))/\Paired (λq (xs:List Int)=>H q=some (.lst (xs.map V.int))) qs c.lists
def zbe (z:Addr)(H0 H:Hp)(t:Addr)(c:jz):Prop:=∃(pl ls:Addr) (qs:List Addr),(H0 t=none/\H0 pl=none/\H0 ls=none/\∀ q,q∈qs->H0 q=none)/\(pl≠z/\ls≠z/\∀ q,q∈qs->q≠z)/\H t=some (.tup [vN c.place,.ref pl,.ref ls])/\H pl=some (.lst (c.plain.map V.int))/\H ls=some (.lst (qs.map V.ref))/\Paired (λq (xs:List Int)=>H q=some (.lst (xs.map V.int))) qs c.lists
theorem zbe.at {z:Addr}{H0 H:Hp}{t:Addr}{c:jz}(h:zbe z H0 H t c):zs6 H0 H t c:=by
 obtain⟨pl,ls,qs,f,_,h⟩:=h;exact⟨pl,ls,qs,f,h⟩
theorem zbe.keep {z:Addr}{H0 H H':Hp}{t:Addr}{c:jz}(h:zbe z H0 H t c)(s:∀ b o,(b≠z\/∃ r,o=.tup r)->H b=some o->H' b=some o):zbe z H0 H' t c:=by
 obtain⟨pl,ls,qs,f,n,h1,h2,h3,h4⟩:=h;exact⟨pl,ls,qs,f,n,s _ _ (.inr ⟨_,rfl⟩) h1,s _ _ (.inl n.1) h2,s _ _ (.inl n.2.1) h3,jk h4 λq _ m e=>s _ _ (.inl (n.2.2 q m)) e⟩
theorem jv {H H':Hp}{a:Addr}(s:zh H H')(h:H' a=Option.none):H a=Option.none:=by
 cases e:H a with
 |none=>rfl
 |some o=>rw[s _ _ e]at h;cases h
theorem zjv (xs:List V)(i n:Nat)(h:i+n<=xs.length):Q7 xs (some (i:Int)) (some ((i:Int)+(n:Int)))=(xs.drop i).take n:=by
 unfold Q7;have e1:HT.sIx xs.length 0 (some (i:Int))=i:=by rw[HT.sIx_nat];omega
 have e2:HT.sIx xs.length xs.length (some ((i:Int)+(n:Int)))=i+n:=by
  rw[show (i:Int)+(n:Int)=((i+n:Nat):Int) by omega,HT.sIx_nat];omega
 rw[e1,e2,show i+n - i=n by omega]
inductive ztz (K:Fr)(vs:List V)(H:Hp)(Q:VK):Prop
 |mk (q:Addr) (l:List Int) (css:List (List (List Int))):vs=[.ref q]->zx K H q (l.map V.int)->PyFlat.calls PyVbmiab.shape l.length l=some css->css.length<=400->(∀(H':Hp) (r:Addr) (ts:List Addr) (rcs:List jz),zh H H'->H' r=some (.lst (ts.map V.ref))->Paired (zs6 H H') ts rcs->(∀ c,c∈rcs->c.Form)->css=rcs.map jz.rows->Q (.ref r) H')->ztz K vs H Q
def z1b (K:Fr):Sp:=λvs H Q _=>ztz K vs H Q
def G7:zo ["numbers","calls","at","place","plain","lists","form","length"] ["numbers"] (zj Km):=by walk_at "sc"
structure zui (K:Fr)(H:Hp)(q cl:Addr)(l:List Int)(css:List (List (List Int)))(m:Nat)(σ:L2.St)(H':Hp)(at_:Nat)(ts:List Addr)(dn:List jz):Prop where
 sg:∃ v3 v4 v5 v6 v7:Option V,σ=[some (.ref q),some (.ref cl),some (vN at_),v3,v4,v5,v6,v7]
 sm:zh H H'
 cll:H' cl=some (.lst (ts.map V.ref))
 pr:Paired (zbe cl H H') ts dn
 fm:∀ c,c∈dn->c.Form
 eq:∃ f rest,PyFlat.calls PyVbmiab.shape f (l.drop at_)=some rest/\css=dn.map jz.rows++rest
 le:at_<=l.length
 ms:m=l.length - at_
theorem zc4 (T:qf K mg CB CR CC)(Dd:zbf P w K mg):xo P w K mg base "read_calls" 1 ["numbers"] (z1b K):=by
 refine T.f_read_calls.con λf fd F=>F.ok G7 (λ_ _ _ _ h=>?_) (λ_ A _ s H vs Q E hr h=>?_)
 ·obtain⟨q,l,css,rfl,_⟩:=h;rfl
 ·obtain⟨q,l,css,rfl,hq,hcs,h400,k⟩:=h;obtain⟨qp,kp,hqp,Dp,vp⟩:=Dd.plain;obtain⟨ql,kl,hql,Dl,vl⟩:=Dd.lists;refine⟨_,zc (zn (i:=1) G7.nd rfl (Or.inl rfl) (zy zd))
   (zc (zn (i:=2) G7.nd rfl (Or.inl rfl) zi)
   (zc (Kb z3v (jh V5 (pv 2) (ji jj rfl T.b_len z4z (za (pv 0) zd)) (jl _))
    (zc (zn (i:=3) G7.nd rfl (Or.inl rfl) (zu zw (pv 0) (pv 2) (λ_ _=>rfl)))
    (zc (Vn (i:=2) G7.nd rfl (Or.inl rfl) zi Vh)
    (zc (zn (i:=4) G7.nd rfl (Or.inl rfl) (Ye Kw (pv 0) (Jm (pv 2)) (Jm (jd yj (pv 2) (ji jj rfl T.b_len z4z (za (zke rfl hqp Dp (pv 3)) zd))))))
    (zc (Vn (i:=2) G7.nd rfl (Or.inl rfl) (ji jj rfl T.b_len z4z (za (pv 4) zd)) Vh)
    (zc (zn (i:=5) G7.nd rfl (Or.inl rfl) (zy zd))
    (zc (jt z3v rfl (zo8 (zf7 rfl hql Dl (pv 3) (qj zd) ⟨rfl,rfl,rfl,rfl⟩)) (zt (i:=6) G7.nd rfl (Or.inl rfl))
     (zc (zn (i:=7) G7.nd rfl (Or.inl rfl) (zu zw (pv 0) (pv 2) (λ_ _=>rfl)))
     (zc (yb (xp z3y z4k z4j yo (pv 5) (za (Ye Kw (pv 0) (Jm (jd yj (pv 2) zi)) (Jm (jd yj (jd yj (pv 2) zi) (pv 7)))) zd)))
     (zg (Vn (i:=2) G7.nd rfl (Or.inl rfl) (jd yj zi (pv 7)) Vh)))))
    (zg (yb (xp z3y z4k z4j yo (pv 1) (za (qj (za (pv 3) (za (pv 4) (za (pv 5) zd)))) zd)))))))))))
   (zg (zm (pv 1))))),?_⟩
  refine⟨z4c _,λcl hcl=>?_⟩;have s1:zh H (upd H cl (.lst [])):=zh.upd hcl;have c1:(upd H cl (.lst [])) cl=some (.lst (([]:List Addr).map V.ref)):=zb;generalize (upd H cl (.lst []))=H1 at s1 c1 ⊢;refine⟨λm σ H'=>∃ at_ ts dn,zui K H q cl l css m σ H' at_ ts dn,⟨_,0,[],[],⟨_,_,_,_,_,rfl⟩,s1,c1,.nil,(λ_ h=>nomatch h),⟨l.length,css,by rw[jab];exact hcs,rfl⟩,z4c _,rfl⟩,?_⟩;rintro m σ H' ⟨at_,ts,dn,⟨v3,v4,v5,v6,v7,rfl⟩,sm,hcl',hpr,hfm,⟨fu,rest,hrest,hcss⟩,hle,rfl⟩;have hq':zx K H' q (l.map V.int):=sm.seq hq;refine⟨_,rfl,_,rfl,q,_,rfl,.inl hq',_,_,rfl,rfl,_,rfl,?_⟩;rw[z25];refine jr (λe=>?_) (λe=>?_)
  ·have hlt:at_ < l.length:=by
    have:=z30 e;omega
   obtain⟨p,xs,t,rest',g,hp18,hpl,hnl,hrows,rfl,hrest',rfl⟩:=zhm hlt hrest;refine⟨λσ' H''=>∃ m',m' < l.length - at_/\∃ at_ ts dn,zui K H q cl l css m' σ' H'' at_ ts dn,λσ' H'' h=>h,?_⟩;have hpl':(l.map V.int)[at_]? =some (vN p):=by rw[z27,hpl];rfl
   obtain⟨tp,hvp,tkp⟩:=vp p hp18;obtain⟨pas,hpas,hpal,_⟩:=tkp.len;have hpal:pas.length=(j3 p).length:=by rw[hpal];unfold zcd;rw[z25]
   have dcnt:ts.length=dn.length:=z39 hpr;have d400:dn.length < 400:=by
    rw[hcss,z3a,z25,z3l]at h400;omega
   refine⟨_,rfl,_,rfl,q,_,_,_,rfl,rfl,hq',zk hpl',?_⟩;refine⟨_,rfl,_,_,rfl,rfl,?_⟩;refine⟨_,rfl,_,rfl,_,rfl,_,rfl,_,rfl,.inl (p:Int),.ref tp,rfl,hvp,tp,_,rfl,.inr (hpas H'),_,_,rfl,rfl,_,rfl,q,_,rfl,hq',λpl hpl0=>?_⟩;have ecut:Q7 (l.map V.int) (some ((at_:Int)+1)) (some ((at_:Int)+1+(((pas.map V.ref).length:Nat):Int)))=((l.drop (at_+1)).take (j3 p).length).map V.int:=by
    rw[z25,hpal];have:=zjv (l.map V.int) (at_+1) (j3 p).length (by rw[z25];exact hnl);rw[z5h]at this;rw[jao,jap];exact this
   rw[show Q7 (l.map V.int) (some ((λi j=>i+j) (at_:Int) 1)) (some ((λi j=>i+j) ((λi j=>i+j) (at_:Int) 1) (((pas.map V.ref).length:Nat):Int)))=((l.drop (at_+1)).take (j3 p).length).map V.int from ecut];have s4:zh H' (upd H' pl (.lst (((l.drop (at_+1)).take (j3 p).length).map V.int))):=zh.upd hpl0;have pl4:(upd H' pl (.lst (((l.drop (at_+1)).take (j3 p).length).map V.int))) pl=some (.lst (((l.drop (at_+1)).take (j3 p).length).map V.int)):=zb;have pln:H pl=none:=jv sm hpl0;have plc:pl≠cl:=λz=>by rw[z,hcl']at hpl0;cases hpl0
   generalize (upd H' pl (.lst (((l.drop (at_+1)).take (j3 p).length).map V.int)))=H4 at s4 pl4 ⊢;have plen:(((l.drop (at_+1)).take (j3 p).length).map V.int).length=(j3 p).length:=by
    rw[z25,z35,z46];omega
   refine⟨_,rfl,_,rfl,pl,_,rfl,.inl (zx.of pl4),_,_,rfl,rfl,?_⟩;rw[plen];refine⟨z4c _,λls hls=>?_⟩;have s5:zh H4 (upd H4 ls (.lst [])):=zh.upd hls;have ls5:(upd H4 ls (.lst [])) ls=some (.lst (([]:List Addr).map V.ref)):=zb;have lsn:H ls=none:=jv (sm.trans s4) hls;have lsc:ls≠cl:=λz=>by rw[z,s4 _ _ hcl']at hls;cases hls
   have lsp:ls≠pl:=λz=>by rw[z,pl4]at hls;cases hls
   generalize (upd H4 ls (.lst []))=H5 at s5 ls5 ⊢;refine⟨_,rfl,z4c _,λte hte=>?_⟩;have s6:zh H5 (upd H5 te (.tup [])):=zh.upd hte;have te6:(upd H5 te (.tup [])) te=some (.tup []):=zb;generalize (upd H5 te (.tup []))=H6 at s6 te6 ⊢;have ls6:=s6 _ _ ls5;have s06:=(s4.trans s5).trans s6;have ltup:∃(ta:Addr) (its:List V),(ye kl (.inl (p:Int))).getD (.ref te)=.ref ta/\its.length=(y6 p).length/\∀ H7,(∀ bb o,bb≠ls->H6 bb=some o->H7 bb=some o)->yw K H7 ta its:=by
    rcases vl p hp18 with ⟨e0,e1⟩|⟨ta,e1,tk⟩
    ·refine⟨te,[],by rw[e1];rfl,by rw[e0];rfl,λH7 h7=>yw.of (h7 _ _ (ja te6 ls6 (by intro z;cases z)) te6)⟩
    ·obtain⟨as,h1,h2,_⟩:=tk.len;refine⟨ta,as.map V.ref,by rw[e1];rfl,by rw[z25,h2];unfold Wb;rw[z25],λH7 _=>h1 H7⟩
   obtain⟨ta,its,eta,itl,hta⟩:=ltup;refine⟨.inl (p:Int),rfl,ta,eta,⟨its,hta H6 λ_ _ _ e=>e⟩,?_⟩;have q6:∀ H7,(∀ bb o,bb≠ls->H6 bb=some o->H7 bb=some o)->zx K H7 q (l.map V.int):=λH7 h7=>by
    have hq6:zx K H6 q (l.map V.int):=s06.seq hq';have hqH:zx K H q (l.map V.int):=hq;have sH7:zh H H7:=λbb o e=>by
     have e6:=s06 _ _ (sm _ _ e);by_cases z:bb=ls
     ·subst z;have:H4 bb=some o:=s4 _ _ (sm _ _ e);rw[hls]at this;cases this
     ·exact h7 _ _ z e6
    exact sH7.seq hq
   refine vm (n:=(y6 p).length) (λi σ H7=>∃(v6 v7:Option V) (a7:Nat) (ys done:List (List Int)) (qs:List Addr),σ=[some (.ref q),some (.ref cl),some (vN a7),some (vN p),some (.ref pl),some (.ref ls),v6,v7]/\(∀ bb o,bb≠ls->H6 bb=some o->H7 bb=some o)/\H7 ls=some (.lst (qs.map V.ref))/\
    Paired (λq (xs:List Int)=>H7 q=some (.lst (xs.map V.int))) qs done/\(∀ x,x∈qs->x≠ls/\x≠cl/\H x=none)/\PyFlat.rows ((y6 p).length - i) (l.drop a7)=some (ys,t)/\xs=done++ys/\done.length=i/\a7<=l.length/\at_ < a7)
    ⟨_,_,at_+1+(j3 p).length,xs,[],[],by
     show _=[_,_,some (V.int ((at_+1+(j3 p).length:Nat):Int)),_,_,_,_,_];rw[z5h,z5h];rfl,λ_ _ _ e=>e,ls6,.nil,(λ_ h=>nomatch h),by rw[z7q];exact hrows,rfl,rfl,hnl,by omega⟩ ?_ ?_ ?_
   ·rintro i σ H7 hi ⟨v6,v7,a7,ys,done,qs,rfl,k7,hls7,hqs,hqn,hrw7,hxs,hdl,ha7,hat7⟩;exact⟨its,its[i],hta H7 k7,z28 (by omega)⟩
   ·rintro i σ H7 x H7' D2 hi ⟨v6,v7,a7,ys,done,qs,rfl,k7,hls7,hqs,hqn,hrw7,hxs,hdl,ha7,hat7⟩ ⟨rfl,_⟩ eb;rw[show (y6 p).length - i=((y6 p).length - (i+1))+1 by omega]at hrw7;obtain⟨n,ys',hn,hnl7,rfl,hrw8⟩:=zmh hrw7;have hn':(l.map V.int)[a7]? =some (vN n):=by rw[z27,hn];rfl
    have hq7:=q6 H7' k7;have l3:(y6 p).length<=3:=by
     unfold y6
     repeat (first|split|decide)
    refine⟨_,rfl,_,rfl,q,_,_,_,rfl,rfl,hq7,zk hn',?_⟩;refine⟨_,rfl,.inl ⟨rfl,_,zx.of hls7⟩,?_⟩;refine⟨_,rfl,_,rfl,_,_,rfl,rfl,_,rfl,_,rfl,_,_,rfl,rfl,_,rfl,_,_,rfl,rfl,_,rfl,q,_,rfl,hq7,λxa hxa=>?_⟩;have ecut2:Q7 (l.map V.int) (some ((a7:Int)+1)) (some ((a7:Int)+1+(n:Int)))=((l.drop (a7+1)).take n).map V.int:=by
     have:=zjv (l.map V.int) (a7+1) n (by rw[z25];exact hnl7);rw[z5h]at this;rw[jao,jap];exact this
    rw[show Q7 (l.map V.int) (some ((λi j=>i+j) (a7:Int) 1)) (some ((λi j=>i+j) ((λi j=>i+j) (a7:Int) 1) (n:Int)))=((l.drop (a7+1)).take n).map V.int from ecut2];have s8:zh H7' (upd H7' xa (.lst (((l.drop (a7+1)).take n).map V.int))):=zh.upd hxa;have x8:(upd H7' xa (.lst (((l.drop (a7+1)).take n).map V.int))) xa=some (.lst (((l.drop (a7+1)).take n).map V.int)):=zb;have xls:xa≠ls:=λz=>by rw[z,hls7]at hxa;cases hxa
    have hcl7:H7' cl=some (.lst (ts.map V.ref)):=k7 _ _ lsc.symm (s06 _ _ hcl');have xn:H xa=none:=by
     cases e0:H xa with
     |none=>rfl
     |some o=>
      have e6:=k7 _ _ xls (s06 _ _ (sm _ _ e0));rw[hxa]at e6;cases e6
    have xcl:xa≠cl:=λz=>by rw[z,hcl7]at hxa;cases hxa
    generalize (upd H7' xa (.lst (((l.drop (a7+1)).take n).map V.int)))=H8 at s8 x8 ⊢;have hls8:=s8 _ _ hls7;have ql:qs.length=done.length:=z39 hqs;refine⟨ls,_,.ref xa,rfl,rfl,hls8,by rw[z25];exact zp (by omega),?_⟩;refine⟨_,rfl,_,rfl,_,_,rfl,rfl,_,_,rfl,rfl,?_⟩;refine eb.nx _ _ ⟨some x,some (vN n),a7+1+n,ys',done++[(l.drop (a7+1)).take n],qs++[xa],?_,λbb o nn e=>?_,?_,?_,λx hx=>?_,hrw8,by rw[z4d];exact hxs,by rw[z3a,hdl];rfl,hnl7,by omega⟩
    ·show _=[_,_,some (V.int ((a7+1+n:Nat):Int)),_,_,_,_,_];rw[z5h,z5h,Int.add_assoc];rfl
    ·rw[ze nn];exact s8 _ _ (k7 _ _ nn e)
    ·rw[zb,z3g];rfl
    ·refine qe (by rw[ze xls];exact x8) (jk hqs λx _ hm e=>?_);rw[ze (hqn x hm).1];exact s8 _ _ e
    ·rcases z33.mp hx with hx|hx
     ·exact hqn x hx
     ·rw[z37.mp hx];exact⟨xls,xcl,xn⟩
   ·rintro σ H7 ⟨v6,v7,a7,ys,done,qs,rfl,k7,hls7,hqs,hqn,hrw7,hxs,hdl,ha7,hat7⟩;rw[z7r]at hrw7;obtain⟨rfl,rfl⟩:ys=[]/\t=l.drop a7:=by
     cases hrw7;exact⟨rfl,rfl⟩
    rw[z31]at hxs;subst hxs;have sH7:∀ bb o,bb≠ls->H' bb=some o->H7 bb=some o:=λbb o nn e=>k7 _ _ nn (s06 _ _ e);have nl:∀ bb o,H' bb=some o->bb≠ls:=λbb o e z=>by
     subst z;have:=s4 _ _ e;rw[hls]at this;cases this
    have sm7:zh H' H7:=λbb o e=>sH7 bb o (nl bb o e) e;have hcl7:=sm7 _ _ hcl';have pl7:H7 pl=some (.lst (((l.drop (at_+1)).take (j3 p).length).map V.int)):=k7 _ _ lsp.symm (s6 _ _ (s5 _ _ pl4));refine⟨⟨its,hta H7 k7,by omega⟩,?_⟩;refine⟨_,rfl,.inl ⟨rfl,_,zx.of hcl7⟩,_,rfl,_,rfl,_,rfl,(by show 3<=sizeLine;decide),λtt htt=>?_⟩;have s9:zh H7 (upd H7 tt (.tup [vN p,.ref pl,.ref ls])):=zh.upd htt;have t9:(upd H7 tt (.tup [vN p,.ref pl,.ref ls])) tt=some (.tup [vN p,.ref pl,.ref ls]):=zb;generalize (upd H7 tt (.tup [vN p,.ref pl,.ref ls]))=H9 at s9 t9 ⊢;have hcl9:=s9 _ _ hcl7;refine⟨cl,_,.ref tt,rfl,rfl,hcl9,by rw[z25];exact zp (by omega),?_⟩;have kc:∀ bb o,(bb≠cl\/∃ r,o=HO.tup r)->H9 bb=some o->(upd H9 cl (.lst (ts.map V.ref++[V.ref tt]))) bb=some o:=λbb o h e=>by
     have nc:bb≠cl:=by
      rcases h with h|⟨r,rfl⟩
      ·exact h
      ·exact ja e hcl9 (by intro z;cases z)
     rw[ze nc];exact e
    have frm:jz.Form ⟨p,(l.drop (at_+1)).take (j3 p).length,xs⟩:=⟨hp18,by
     have:=plen
     rwa [z25]at this,hdl⟩
    refine⟨l.length - a7,by omega,a7,ts++[tt],dn++[⟨p,(l.drop (at_+1)).take (j3 p).length,xs⟩],⟨_,_,_,_,_,rfl⟩,λbb o e=>?_,?_,?_,λc hc=>?_,⟨g,rest',hrest',?_⟩,ha7,rfl⟩
    ·rw[ze (zf e hcl)];exact s9 _ _ (sm7 _ _ (sm _ _ e))
    ·rw[zb,z3g];rfl
    ·refine qe ⟨pl,ls,qs,⟨jv (sm.trans sm7) htt,pln,lsn,λx hx=>(hqn x hx).2.2⟩,⟨plc,lsc,λx hx=>(hqn x hx).2.1⟩,kc _ _ (.inr ⟨_,rfl⟩) t9,kc _ _ (.inl plc) (s9 _ _ pl7),kc _ _ (.inl lsc) (s9 _ _ hls7),jk hqs λx _ hm e=>kc _ _ (.inl (hqn x hm).2.1) (s9 _ _ e)⟩ (jk hpr λ_ _ _ h=>h.keep λbb o h e=>kc _ _ h (s9 _ _ (sm7 _ _ e)))
    ·rcases z33.mp hc with hc|hc
     ·exact hfm c hc
     ·rw[z37.mp hc];exact frm
    ·rw[hcss,z3g,z4d];rfl
  ·have hend:at_=l.length:=by
    have:¬at_ < l.length:=λz=>e (z3u (by omega));omega
   subst hend;rw[z59]at hrest;have hr0:rest=[]:=by
    cases fu<;>(cases hrest;rfl)
   rw[hr0,z31]at hcss;exact⟨_,rfl,k _ cl ts dn sm hcl' (jk hpr λ_ _ _ h=>h.at) hfm hcss⟩
def zxp (K:PySem.W.Frag)(a b:Addr):It:=
 ⟨λi H=>∃(xs ys:List V) (x y:V),zx K H a xs/\yw K H b ys/\xs[i]? =some x/\ys[i]? =some y,
  λi H v H'=>∃ T x y,v=.ref T/\H T=none/\H'=upd H T (.tup [x,y])/\(∀ xs,zx K H a xs->xs[i]? =some x)/\∀ ys,yw K H b ys->ys[i]? =some y,
  λi H=>∃ xs ys:List V,zx K H a xs/\yw K H b ys/\(xs.length<=i\/ys.length<=i)⟩
theorem zqe {P:Program}{w:World}{K:PySem.W.Frag}{elts:List Expr}{kk:Nat}{tpos:Pos}{a b z TI TO i1 i2:Addr}(D:ZipApart z TI TO i1 i2 a b):
  Wt P w K (.Tuple elts kk tpos) (zxp K a b) [z,TI,TO,i1,i2] z (λi h=>IsZip h z TI TO .none/\IsPair h TI (.ref i1) (.ref i2)/\(∃ x y,IsPair h TO x y)/\h.IsListIter i1 a i/\IsTupIter h i2 b i) where
 mem:=by simp
 obj:=λi h st c hc=>by
  obtain⟨hz,hTI,⟨x,y,hTO⟩,⟨o1,e1,_,d1⟩,⟨o2,e2,_,d2⟩⟩:=st;have e':c=z\/c=TI\/c=TO\/c=i1\/c=i2:=by simpa using hc
  rcases e' with q|q|q|q|q
  ·rw[q];exact⟨_,hz,λv q=>nomatch q⟩
  ·rw[q];exact⟨_,hTI,λv q=>nomatch q⟩
  ·rw[q];exact⟨_,hTO,λv q=>nomatch q⟩
  ·rw[q];exact⟨o1,e1,λv q=>by rw[d1]at q;cases q⟩
  ·rw[q];exact⟨o2,e2,λv q=>by rw[d2]at q;cases q⟩
 keep:=λi h h' st k=>by
  obtain⟨hz,hTI,⟨x,y,hTO⟩,h1,⟨o2,e2,r2⟩⟩:=st;exact⟨k z (by simp) _ hz,k TI (by simp) _ hTI,⟨x,y,k TO (by simp) _ hTO⟩,h1.at λo q=>k i1 (by simp) o q,⟨o2,k i2 (by simp) _ e2,r2⟩⟩
 item:=by
  intro X hP hw hK hc i pins s σ H E I hf st hg;subst hP hw hK;obtain⟨hz,hTI,⟨x0,y0,hTO⟩,h1,h2⟩:=st;obtain⟨xs,ys,x,y,hqx,hqy,hx,hy⟩:=hg;obtain⟨its,rv,p,_⟩:=I.list hqx;obtain⟨its2,rv2,p2,_⟩:=I.tuple hqy;obtain⟨u,hu,ru⟩:=rv.get hx;obtain⟨u2,hu2,ru2⟩:=rv2.get hy;have hzl:z < s.heap.objs.size:=z3j hz;refine Zlt.nextZ_item D hz hTI hTO h1 h2 p.isList p2 (x:=u) (y:=u2) (by simpa using hu) (by simpa using hu2) λh' z' TO' h1' h2' hT hsz hk=>?_;refine⟨_,rfl,wpAny_letOwnedTupleGo_zip (s:={s with heap:=h'}) z' λh'' z'' sb=>?_⟩;have hT2:h''.get? s.heap.objs.size=some {cls:=.type "tuple",data:=.seq #[u,u2]}:=(sb.2 _ (z4e hzl)).trans hT;have new:j6 X.prog X.w (upd H s.heap.objs.size (.tup [x,y])) h'' s.heap.objs.size (.tup [x,y]):=
   ⟨by show 2<=sizeLine;decide,[u,u2],.cons ru (.cons ru2 .nil),⟨_,hT2,rfl,_,rfl⟩⟩
  have I1:zz X pins σ (upd H s.heap.objs.size (.tup [x,y])) {s with heap:=h''}:=
   I.turnedNew (t':=s.toks) (ch:=[z,TI,TO,i1,i2]) (λc o hb q=>(sb.2 c (λq'=>hb (by simp[q']))).trans (hk c o (λq'=>hb (by simp[q'])) (λq'=>hb (by simp[q'])) (λq'=>hb (by simp[q'])) (λq'=>hb (by simp[q'])) q)) hf (z3c _) new
  refine⟨.ref s.heap.objs.size,_,I1,rfl,⟨_,x,y,rfl,I.hok.fresh (z3c _),rfl,λl hl=>by rw[I.list_inj hl hqx];exact hx,λl hl=>by rw[I.tuple_inj hl hqy];exact hy⟩,⟨z'',?_,⟨u,u2,?_⟩,?_,?_⟩,λc hcm=>?_⟩
  ·exact (sb.2 _ D.TIz).trans (hk _ _ D.TIz D.TITO D.TIi1 D.TIi2 hTI)
  ·exact (sb.2 _ D.TOz).trans TO'
  ·exact h1'.at λo q=>(sb.2 _ D.i1z).trans q
  ·obtain⟨o2,e2,r2⟩:=h2';exact⟨o2,(sb.2 _ D.i2z).trans e2,r2⟩
  ·have hlt:c < s.heap.objs.size:=by
    have e':c=z\/c=TI\/c=TO\/c=i1\/c=i2:=by simpa using hcm
    rcases e' with q|q|q|q|q
    ·rw[q];exact hzl
    ·rw[q];exact z3j hTI
    ·rw[q];exact z3j hTO
    ·rw[q];obtain⟨_,e1,_⟩:=h1;exact z3j e1
    ·rw[q];obtain⟨_,e2,_⟩:=h2;exact z3j e2
   rw[ze (z4a hlt)];exact (hf c hcm).1
 done:=by
  intro X hP hw hK hc i pins s σ H E I hf st hg;subst hP hw hK;obtain⟨hz,hTI,⟨x0,y0,hTO⟩,h1,h2⟩:=st;obtain⟨xs,ys,hqx,hqy,hend⟩:=hg;obtain⟨its,rv,p,_⟩:=I.list hqx;obtain⟨its2,rv2,p2,_⟩:=I.tuple hqy;have l1:=rv.length;have l2:=rv2.length;have he:its.toArray[i]? =none\/its2.toArray[i]? =none:=by
   rcases hend with q|q
   ·exact .inl (by simp;omega)
   ·exact .inr (by simp;omega)
  exact Zlt.nextZ_end (I.ok.hd hc) D hz hTI hTO h1 h2 p.isList p2 he λh' hk=>⟨rfl,I.turnedL (t':=s.toks) (ch:=[z,TI,TO,i1,i2]) (λc o hb q=>
   hk c o (λq'=>hb (by simp[q'])) (λq'=>hb (by simp[q'])) (λq'=>hb (by simp[q'])) (λq'=>hb (by simp[q'])) q) hf⟩
 self:=λA i s Q E st h=>z75 st.1 h
def zzx (K:PySem.W.Frag)(ta:TA):TI:=λσ H R=>ta σ H λvs H1=>∃ a b xs ys,vs=[.ref a,.ref b]/\zx K H1 a xs/\yw K H1 b ys/\R (zxp K a b) H1
theorem zo9 {X:Cx}{e e2:Expr}{ta:TA}{p pos tpos:Pos}{elts:List Expr}{kk:Nat}(hg:Gl X "zip")(hm:X.mg "zip"=none)(ha:PA X [e,e2] ta)
  (hs:starEach [e,e2] X.env=(false,eval e X.env)::starEach [e2] X.env:=by rfl)(hpl:(backTo pos (starEach [e2] X.env)).any (·.1)=false:=by rfl):
  PI X (.Tuple elts kk tpos) (.Call (.Name "zip" p) [e,e2] [] pos) (zzx X.K ta):=by
 intro pins s σ H R I h;refine Call_ (vc I hg hm Vb (z4y (yd (ha pos pins s σ H _ I h) λus s1 ⟨vs,H1,I1,r1,q1⟩=>?_) hs hpl));obtain⟨a,b,xs,ys,ex,hqx,hqy,q⟩:=q1;subst ex;obtain⟨u1,u2,rfl,ra,rb⟩:=zg1 r1;cases (show u1=Value.ref a from ra);cases (show u2=Value.ref b from rb);obtain⟨its,rv,p1,_⟩:=I1.list hqx;obtain⟨its2,rv2,p2,_⟩:=I1.tuple hqy;have la:a < s1.heap.objs.size:=p1.lt;have lb:b < s1.heap.objs.size:=p2.lt;refine Zlt.call_zlt p1.isList p2 λh' hz hTI hTO h1 h2 hsz hk=>z75 hz ?_;have I2:zz X pins σ H1 {s1 with heap:=h'}:=I1.kept (t':=s1.toks) hk;refine⟨s1.heap.objs.size+4,[s1.heap.objs.size+4,s1.heap.objs.size+2,s1.heap.objs.size+3,s1.heap.objs.size,s1.heap.objs.size+1],_,_,H1,rfl,I2,zqe (z9m s1.heap.objs.size a b la lb),⟨hz,hTI,⟨_,_,hTO⟩,h1,h2⟩,λc hcm=>?_,q⟩;have e':c=s1.heap.objs.size+4\/c=s1.heap.objs.size+2\/c=s1.heap.objs.size+3\/c=s1.heap.objs.size\/c=s1.heap.objs.size+1:=by simpa using hcm
 have hle:s1.heap.objs.size<=c:=by
  rcases e' with q|q|q|q|q
  ·rw[q];exact z4r _ _
  ·rw[q];exact z4r _ _
  ·rw[q];exact z4r _ _
  ·rw[q];exact z3c _
  ·rw[q];exact z4r _ _
 exact I1.fpOk hle (I1.hok.fresh hle)
inductive zti (vs:List V)(H:Hp)(Q:VK):Prop
 |mk (q:Addr) (l:List Int) (a b:Int):vs=[.ref q,.int a,.int b]->H q=some (.lst (l.map V.int))->l.length<=1000->(Ret H (.bl (l.all λz=>xb z (a,b))) Q)->zti vs H Q
def z0u:Sp:=λvs H Q _=>zti vs H Q
def zwh:zo ["numbers","least","greatest","number"] ["numbers","least","greatest"] (zj Qn):=by walk_at "sc"
theorem Zs (T:qf K mg CB CR CC):xo P w K mg base "are_between" 1 ["numbers","least","greatest"] z0u:=by
 refine T.f_are_between.con λf fd F=>F.ok zwh (λ_ _ _ _ h=>?_) (λ_ A _ s H vs Q E hr h=>?_)
 ·obtain⟨q,l,a,b,rfl,_⟩:=h;rfl
 ·obtain⟨q,l,a,b,rfl,hq,hlen,k⟩:=h;refine⟨_,zg (zm (ji (zhs rfl) rfl T.b_all (by decide+kernel) (za (ko rfl zwh.nd (jo (pv 0)) (jq (own:=[("number",3)]) rfl) (λ_ _ _ _ _=>(zt (i:=3) zwh.nd rfl (Or.inl rfl))) (λ_ _ _ _ _=>q0) (λ_ _ _ _ _=>(X8 Gk Gk (pv 1) (pv 3) (pv 2)))) zd))),?_⟩;refine⟨_,rfl,q,rfl,⟨_,zx.of hq⟩,λD hD=>?_⟩;refine Wy (xs:=l) (c:=V.int) (λz=>some (.bl (xb z (a,b)))) hD (z36 (zp hlen)) (zx.of hq) (λi z H' Nt Nf hz sm hN hF=>?_) (λH1 s1 h1=>?_)
  ·refine⟨rfl,?_⟩;refine⟨_,rfl,_,rfl,_,_,rfl,rfl,_,rfl,?_⟩;refine jr (λe=>?_) (λe=>?_)
   ·refine⟨_,rfl,_,_,rfl,rfl,?_⟩;have e:decide (a<=z)=true:=e;refine hN _ _ (zh.refl _) ?_;unfold xb;rw[e,z4n]
   ·have e:decide (a<=z)=false:=by simpa using e
    refine hN _ _ (zh.refl _) ?_;unfold xb;rw[e,z5c]
  ·rw[z45]at h1;refine⟨D,l.map λz=>xb z (a,b),rfl,zx.of (by rw[h1,z4f];rfl),?_⟩;rw[z81];exact k _ s1
inductive ztp (vs:List V)(H:Hp)(Q:VK):Prop
 |mk (pl ls:Addr) (c:jz) (qs:List Addr):vs=[vN c.place,.ref pl,.ref ls]->H pl=some (.lst (c.plain.map V.int))->H ls=some (.lst (qs.map V.ref))->(Paired (λq (xs:List Int)=>H q=some (.lst (xs.map V.int))) qs c.lists)->c.Form->((∀ l,l∈c.lists->l.length<=500))->Ret H (.bl (yi c)) Q->ztp vs H Q
def z01:Sp:=λvs H Q _=>ztp vs H Q
def zwk:zo ["place","plain","lists","number","bounds","numbers","form"] ["place","plain","lists"] (zj Qu):=by walk_at "sc"
theorem zig {zs:List Int}{rs:List (Int×Int)}{i:Nat}{z:Int}{r:Int×Int}(h1:zs[i]? =some z)(h2:rs[i]? =some r):Ji (zs.drop i) (rs.drop i)=(xb z r&&Ji (zs.drop (i+1)) (rs.drop (i+1))):=by
 rw[ku h1,ku h2];rfl
theorem zif {zs:List (List Int)}{rs:List (Int×Int×Int×Int)}{i:Nat}{z:List Int}{r:Int×Int×Int×Int}(h1:zs[i]? =some z)(h2:rs[i]? =some r):Zl (zs.drop i) (rs.drop i)=(inL z r&&Zl (zs.drop (i+1)) (rs.drop (i+1))):=by
 rw[ku h1,ku h2];rfl
theorem zf4 (rs:List (Int×Int)):Ji [] rs=true:=rfl
theorem zf3 (rs:List (Int×Int×Int×Int)):Zl [] rs=true:=rfl
theorem zgf {K:Fr}{as:List Addr}{rs:List (List Int)}{i:Nat}{r:List Int}(h:zbl K as rs)(e:rs[i]? =some r):∃ a,as[i]? =some a/\∀ H,yw K H a (r.map V.int):=by
 induction h generalizing i with
 |nil=>simp at e
 |cons x t ih=>
  cases i with
  |zero=>
   simp at e;subst e;exact⟨_,rfl,x⟩
  |succ i=>
   obtain⟨a,e1,e2⟩:=ih (i:=i) (by simpa using e);exact⟨a,by simpa using e1,e2⟩
theorem zay (T:qf K mg CB CR CC)(Dd:zbf P w K mg):xo P w K mg base "is_in_range" 2 ["place","plain","lists"] z01:=by
 refine T.f_is_in_range.con λf fd F=>F.ok zwk (λ_ _ _ _ h=>?_) (λ_ A _ s H vs Q E hr h=>?_)
 ·obtain⟨pl,ls,c,qs,rfl,_⟩:=h;rfl
 ·obtain⟨pl,ls,c,qs,rfl,hpl,hls,hqs,frm,sml,k⟩:=h;obtain⟨qp,kp,hqp,Dp,vp⟩:=Dd.plain;obtain⟨ql,kl,hql,Dl,vl⟩:=Dd.lists;obtain⟨tp,hvp,tkp⟩:=vp c.place frm.place;obtain⟨pas,hpas,hpal,hrk⟩:=tkp.len;have hpal:pas.length=(j3 c.place).length:=by rw[hpal];unfold zcd;rw[z25]
  have fp:=frm.plain;have fl:=frm.lists;refine⟨_,zc (jt z3v rfl (zo9 rfl T.b_zip (za (pv 1) (za (zke rfl hqp Dp (pv 0)) zd))) (pg2 K (i:=3) (j:=4) rfl rfl zwk.nd rfl rfl (Or.inl rfl) (Or.inl rfl))
    (zg (ju (qk (j4 (je (Zs T) hr.m0 (za (zy (za (pv 3) zd)) (za (zu jm (pv 4) zi (λ_ _=>rfl)) (za (zu jm (pv 4) zi (λ_ _=>rfl)) zd)))))) (zg (zm vn)) (jb))))
   (zc (jt z3v rfl (zo9 rfl T.b_zip (za (pv 2) (za (zf7 rfl hql Dl (pv 0) (qj zd) ⟨rfl,rfl,rfl,rfl⟩) zd))) (pg2 K (i:=5) (j:=6) rfl rfl zwk.nd rfl rfl (Or.inl rfl) (Or.inl rfl))
    (zg (ju (PW.pt (zca (qk (j4 (je (Zs T) hr.m0 (za (zy (za (ji jj rfl T.b_len z4z (za (pv 5) zd)) zd)) (za (zu jm (pv 6) zi (λ_ _=>rfl)) (za (zu jm (pv 6) zi (λ_ _=>rfl)) zd)))))) (Vo (qk (j4 (je (Zs T) hr.m0 (za (pv 5) (za (zu jm (pv 6) zi (λ_ _=>rfl)) (za (zu jm (pv 6) zi (λ_ _=>rfl)) zd))))))))) (zg (zm vn)) (jb))))
   (zg (zm vn))),?_⟩
  refine⟨_,rfl,_,rfl,.inl (c.place:Int),.ref tp,rfl,hvp,pl,tp,_,_,rfl,zx.of hpl,hpas H,?_⟩;refine vm (n:=c.plain.length) (λi σ H'=>∃(v3 v4 v5 v6:Option V),σ=[some (vN c.place),some (.ref pl),some (.ref ls),v3,v4,v5,v6]/\zh H H'/\Ji (c.plain.drop i) ((j3 c.place).drop i)=Ji c.plain (j3 c.place)) ⟨_,_,_,_,rfl,zh.refl _,rfl⟩ ?_ ?_ ?_
  ·rintro i σ H' hi ⟨v3,v4,v5,v6,rfl,sm,hok⟩;exact⟨_,_,_,_,zx.of (sm _ _ hpl),hpas H',by rw[z27,z28 hi];rfl,by rw[z27,z28 (by omega)];rfl⟩
  ·rintro i σ H' x H2 D' hi ⟨v3,v4,v5,v6,rfl,sm,hok⟩ ⟨tt,x1,x2,rfl,htt,rfl,hx1,hx2⟩ ea;have e1:c.plain[i]? =some c.plain[i]:=z28 hi;have e2:(j3 c.place)[i]? =some (j3 c.place)[i]:=z28 (by omega);generalize c.plain[i]=z at e1;generalize (j3 c.place)[i]=r at e2;obtain⟨ra,hra1,hra2⟩:=zgf hrk (i:=i) (r:=[r.1,r.2]) (by unfold zcd;rw[z27,e2];rfl);have ex1:=hx1 _ (zx.of (sm _ _ hpl));rw[z27,e1]at ex1;have ex2:=hx2 _ (hpas H');rw[z27,hra1]at ex2;cases ex1;cases ex2;rw[zig e1 e2]at hok;have s2:zh H (upd H' tt (.tup [.int z,.ref ra])):=sm.trans (zh.upd htt);have t2:(upd H' tt (.tup [.int z,.ref ra])) tt=some (.tup [.int z,.ref ra]):=zb;generalize (upd H' tt (.tup [.int z,.ref ra]))=H2 at s2 t2 ⊢;refine⟨tt,_,rfl,yw.of t2,rfl,_,_,rfl,_,_,rfl,rfl,?_⟩;refine⟨_,rfl,(by show 1<=sizeLine;decide),λla hla=>?_⟩;have s3:zh H2 (upd H2 la (.lst [V.int z])):=zh.upd hla;have l3:(upd H2 la (.lst [V.int z])) la=some (.lst ([z].map V.int)):=zb;generalize (upd H2 la (.lst [V.int z]))=H3 at s3 l3 ⊢;refine⟨_,rfl,ra,_,_,_,rfl,rfl,hra2 H3,zk (j:=0) rfl,_,rfl,ra,_,_,_,rfl,rfl,hra2 H3,zk (j:=1) rfl,la,[z],r.1,r.2,rfl,l3,(by show 1<=1000;decide),λH4 s4=>?_⟩;refine⟨_,rfl,?_⟩;have ea2:([z].all λz=>xb z (r.1,r.2))=xb z r:=z4o _;rw[ea2];refine jr (λe=>?_) (λe=>?_)
   ·have e:xb z r=false:=by simpa using e
    rw[e,z5c]at hok;have e5:yi c=false:=by
     unfold yi;rw[<-hok,z5c]
    rw[e5]at k;exact ea.rt _ _ (k _ ((s2.trans s3).trans s4))
   ·have e:xb z r=true:=by simpa using e
    rw[e,z4n]at hok;exact ea.nx _ _ ⟨_,_,_,_,rfl,(s2.trans s3).trans s4,hok⟩
  ·rintro σ H' ⟨v3,v4,v5,v6,rfl,sm,hok⟩;refine⟨⟨_,_,zx.of (sm _ _ hpl),hpas H',.inl (by rw[z25];exact z3c _)⟩,?_⟩;rw[z59,zf4]at hok;have ek:yi c=Zl c.lists (y6 c.place):=by
    unfold yi;rw[<-hok,z4n]
   rw[ek]at k;refine⟨_,rfl,_,rfl,z4c _,λte hte=>?_⟩;have s6:zh H (upd H' te (.tup [])):=sm.trans (zh.upd hte);have te6:(upd H' te (.tup [])) te=some (.tup []):=zb;generalize (upd H' te (.tup []))=H6 at s6 te6 ⊢;have ltup:∃(ta:Addr) (as:List Addr),(ye kl (.inl (c.place:Int))).getD (.ref te)=.ref ta/\(∀ H7,zh H6 H7->yw K H7 ta (as.map V.ref))/\zbl K as (Wb c.place):=by
    rcases vl c.place frm.place with ⟨e0,e1⟩|⟨ta,e1,tk⟩
    ·refine⟨te,[],by rw[e1];rfl,λH7 s7=>yw.of (s7 _ _ te6),?_⟩;unfold Wb;rw[e0];exact .nil
    ·obtain⟨as,h1,h2⟩:=tk;exact⟨ta,as,by rw[e1];rfl,λH7 _=>h1 H7,h2⟩
   obtain⟨ta,las,eta,hta,hrl⟩:=ltup;have lal:las.length=(y6 c.place).length:=by
    have:=z39 hrl;unfold Wb at this
    rwa [z25]at this
   have qlen:qs.length=c.lists.length:=z39 hqs;refine⟨.inl (c.place:Int),rfl,ls,ta,_,_,(by rw[<-eta]),zx.of (s6 _ _ hls),hta H6 (zh.refl _),?_⟩;refine vm (n:=c.lists.length) (λi σ H'=>∃(v3 v4 v5 v6:Option V),σ=[some (vN c.place),some (.ref pl),some (.ref ls),v3,v4,v5,v6]/\zh H6 H'/\Zl (c.lists.drop i) ((y6 c.place).drop i)=Zl c.lists (y6 c.place)) ⟨_,_,_,_,rfl,zh.refl _,rfl⟩ ?_ ?_ ?_
   ·rintro i σ H7 hi ⟨v3,v4,v5,v6,rfl,s7,hok⟩;exact⟨_,_,_,_,zx.of (s7 _ _ (s6 _ _ hls)),hta H7 s7,by rw[z27,z28 (by omega)];rfl,by rw[z27,z28 (by omega)];rfl⟩
   ·rintro i σ H7 x H8 D' hi ⟨v3,v4,v5,v6,rfl,s7,hok⟩ ⟨tt,x1,x2,rfl,htt,rfl,hx1,hx2⟩ ea;have e2:(y6 c.place)[i]? =some (y6 c.place)[i]:=z28 (by omega);have e0:qs[i]? =some qs[i]:=z28 (by omega);generalize (y6 c.place)[i]=r at e2;generalize qs[i]=qa at e0;obtain⟨z,e1,hz⟩:=y9 hqs e0;obtain⟨ra,hra1,hra2⟩:=zgf hrl (i:=i) (r:=[r.1,r.2.1,r.2.2.1,r.2.2.2]) (by unfold Wb;rw[z27,e2];rfl);have ex1:=hx1 _ (zx.of (s7 _ _ (s6 _ _ hls)));rw[z27,e0]at ex1;have ex2:=hx2 _ (hta H7 s7);rw[z27,hra1]at ex2;cases ex1;cases ex2;rw[zif e1 e2]at hok;have s8:zh H6 (upd H7 tt (.tup [.ref qa,.ref ra])):=s7.trans (zh.upd htt);have t8:(upd H7 tt (.tup [.ref qa,.ref ra])) tt=some (.tup [.ref qa,.ref ra]):=zb;generalize (upd H7 tt (.tup [.ref qa,.ref ra]))=H8 at s8 t8 ⊢;have hz8:=s8 _ _ (s6 _ _ hz);have zl:=sml z (z3r e1);refine⟨tt,_,rfl,yw.of t8,rfl,_,_,rfl,_,_,rfl,rfl,?_⟩;refine⟨_,rfl,qa,_,rfl,.inl (zx.of hz8),(by show 1<=sizeLine;decide),λla hla=>?_⟩;rw[z25];have s9:zh H8 (upd H8 la (.lst [V.int (z.length:Int)])):=zh.upd hla;have l9:(upd H8 la (.lst [V.int (z.length:Int)])) la=some (.lst ([(z.length:Int)].map V.int)):=zb;generalize (upd H8 la (.lst [V.int (z.length:Int)]))=H9 at s9 l9 ⊢;refine⟨_,rfl,ra,_,_,_,rfl,rfl,hra2 H9,zk (j:=0) rfl,_,rfl,ra,_,_,_,rfl,rfl,hra2 H9,zk (j:=1) rfl,la,[(z.length:Int)],r.1,r.2.1,rfl,l9,(by show 1<=1000;decide),λH10 s10=>?_⟩;refine⟨_,rfl,?_⟩;have ea2:([(z.length:Int)].all λz=>xb z (r.1,r.2.1))=xb z.length (r.1,r.2.1):=z4o _;rw[ea2];have sa:zh H H10:=((s6.trans s8).trans s9).trans s10;refine jr (λe=>?_) (λe=>?_)
    ·have e:xb z.length (r.1,r.2.1)=false:=by simpa using e
     unfold inL at hok;rw[e,z5c,z5c]at hok;rw[<-hok]at k;exact ea.rt _ _ (k _ sa)
    ·have e:xb z.length (r.1,r.2.1)=true:=by simpa using e
     refine⟨_,rfl,_,rfl,ra,_,_,_,rfl,rfl,hra2 H10,zk (j:=2) rfl,_,rfl,ra,_,_,_,rfl,rfl,hra2 H10,zk (j:=3) rfl,qa,z,r.2.2.1,r.2.2.2,rfl,sa _ _ hz,(z32 zl (by decide)),λH11 s11=>?_⟩;refine⟨_,rfl,?_⟩;unfold inL at hok;rw[e,z4n]at hok;refine jr (λe=>?_) (λe=>?_)
     ·have e:(z.all λz=>xb z (r.2.2.1,r.2.2.2))=false:=by simpa using e
      rw[e,z5c]at hok;rw[<-hok]at k;exact ea.rt _ _ (k _ (sa.trans s11))
     ·have e:(z.all λz=>xb z (r.2.2.1,r.2.2.2))=true:=by simpa using e
      rw[e,z4n]at hok;exact ea.nx _ _ ⟨_,_,_,_,rfl,((s8.trans s9).trans s10).trans s11,hok⟩
   ·rintro σ H7 ⟨v3,v4,v5,v6,rfl,s7,hok⟩;refine⟨⟨_,_,zx.of (s7 _ _ (s6 _ _ hls)),hta H7 s7,.inl (by rw[z25];omega)⟩,?_⟩;rw[z59,zf3]at hok;rw[<-hok]at k;exact k _ (s6.trans s7)
set_option maxRecDepth 8000 in
theorem zq8 (l:Addr)(items:Array Value)(n:Nat)(b:Addr)(items2:Array Value)(n2:Nat)(d2:Option Addr)(sl:Array (Option Value))(hs0:¬(!items.isEmpty&&Builtin.List.listTooLong (items.size+items2.size))=true)(hs1:items.size<=sizeLine)(hs2:items.size+items2.size<=sizeLine+1):
  Meets (Builtin.«list.extend» ⟨[.ref l,.ref b],[]⟩) (λ_ R s=>s.heap.get? l=some {cls:=.type "list",dict:=none,data:=.seq items n,slots:= #[]}/\s.heap.get? b=some {cls:=.type "tuple",dict:=d2,data:=.seq items2 n2,slots:=sl}/\R (.ok (.ret Value.none)) {s with heap:=s.heap.update l (Obj.mapSeq λx=>x++items2),toks:=s.toks}):=
 .of_wp λprog w A R s h=>by
  obtain⟨hp,g,d,tk,os⟩:=s;obtain⟨hl,hb,h⟩:=h;have f1:=AutoSeq1.idx_int;have f2:=AutoSeq1.sub_tuple_tuple;have f3:=AutoSeq1.sub_list_list;have f4:=AutoSeq1.sub_tuple_list;have f5:=AutoSeq1.sub_list_tuple;have hz':(items++items2).size<=sizeLine+1:=by rw[Array.size_append];exact hs2
  wp_walk using (z6o hl rfl (hz:=hs1) (_hz':=hz')),AutoSeq1.wpAny_loadPart' hl,AutoSeq1.wpAny_loadPart' hb;exact⟨_,rfl,h⟩
section
variable {X:Cx}
def zye (K:PySem.W.Frag):V->List V->Hp->VK->Prop:=λx vs H Q=>∃ l b xs zs,x=.ref l/\vs=[.ref b]/\H l=some (.lst xs)/\yw K H b zs/\xs.length+zs.length<=sizeLine/\Q .non (upd H l (.lst (xs++zs)))
theorem U9:MtM X "list.extend" (zye X.K):=by
 intro pins s σ H x vs v us Q I rx rv h;obtain⟨l,b,xs,zs,rfl,rfl,hH,hB,hz,q⟩:=h;cases rx;obtain⟨u,rfl,ru⟩:=rv.one;cases ru;obtain⟨z,its,n,r,hl,e⟩:=I.lstM hH;obtain⟨its2,r2,⟨⟨c2,d2,da2,sl2⟩,e2,hc,n2,hd⟩,hl2⟩:=I.tuple hB;dsimp only at hc hd;subst hc hd;have hl2:=r2.length;have hsz:its.toArray.size+its2.toArray.size<=sizeLine:=by rw[z3x,z3x];omega
 have hlong:¬(!its.toArray.isEmpty&&Builtin.List.listTooLong (its.toArray.size+its2.toArray.size))=true:=by
  rw[Gg hsz,jad];exact z3w
 refine z8e F.slot_list_extend ⟨_,e,rfl⟩ F.entry_list_extend (F.args_list_extend_2 _ _)
  (zq8 l its.toArray n b its2.toArray n2 d2 sl2 hlong (by rw[z3x];omega) (by omega)) ⟨e,e2,?_⟩
 refine⟨.non,_,I.lset (its':=its++its2) hH e (by simp) (r.append r2) ?_,rfl,q⟩;rw[z3a];omega
end
open Vbmiab (ofBench nats)
structure Vw (H:Hp)(pl ls:Addr)(c:jz)(qs:List Addr):Prop where
 pl:H pl=some (.lst (c.plain.map V.int))
 ls:H ls=some (.lst (qs.map V.ref))
 qs:Paired (λq (xs:List Int)=>H q=some (.lst (xs.map V.int))) qs c.lists
 form:c.Form
 ok:yi c=true
def zhb (H:Hp)(r:Addr):Prop:=∀ o,(∀ ps,o≠.tbl ps)->H r≠some o
theorem j8.new {H H1:Hp}{r:Addr}(s:j8 H H1)(h:H1 r=none):zhb H r:=λo n e=>by
 rw[s _ _ n e]at h;cases h
inductive zxk (C tb:Addr)(p:Nat)(vs:List V)(H:Hp)(Q:VK):Prop
 |mk (a pl ls:Addr) (b:Vbmiab.Bench) (c:jz) (qs:List Addr) (dx lw lk lm lt:Addr):vs=[.ref a,.ref pl,.ref ls]->ki C H a b dx lw lk lm lt->Vw H pl ls c qs->c.place=p->wd tb H->((pl≠lk/\pl≠lm/\pl≠lt))->(∀(H':Hp) (r lw':Addr),ki C H' a (ofBench b (yh c)).1 dx lw' lk lm lt->(lw'=lw\/H lw'=none)->(∀ x o,H x=some o->(∀ ps,o≠.tbl ps)->x≠a->x≠lk->x≠lm->x≠lt->H' x=some o)->wd tb H'->zhb H r->H' r=some (.lst ((ofBench b (yh c)).2.map V.int))->(ofBench b (yh c)).2.length<=1000->Q (.ref r) H')->zxk C tb p vs H Q
def Yr (C tb:Addr)(p:Nat):Sp:=λvs H Q _=>zxk C tb p vs H Q
theorem ki.sameT {C:Addr}{H H':Hp}{a:Addr}{b:Vbmiab.Bench}{dx lw lk lm lt:Addr}(B:ki C H a b dx lw lk lm lt)(s:j8 H H'):ki C H' a b dx lw lk lm lt:=
 ⟨s _ _ (by intro _ z;cases z) B.ins,s _ _ (by intro _ z;cases z) B.w,s _ _ (by intro _ z;cases z) B.k,s _ _ (by intro _ z;cases z) B.m,s _ _ (by intro _ z;cases z) B.t,B.km,B.kt,B.mt,B.wk,B.wm,B.wt,B.good⟩
theorem Yr.tells {C tb:Addr}{p:Nat}{vs:List V}{H:Hp}{Q:VK}{E:XK}(h:Yr C tb p vs H Q E)(hp:∀ b c,c.place=p->c.Form->(ofBench b (yh c)).1=b):
  ∃(a pl ls:Addr) (b:Vbmiab.Bench) (c:jz) (qs:List Addr),vs=[.ref a,.ref pl,.ref ls]/\zq C H a b/\Vw H pl ls c qs/\c.place=p/\wd tb H/\
   ∀(H':Hp) (r:Addr) (l:List Int),j8 H H'->wd tb H'->zhb H r->H' r=some (.lst (l.map V.int))->(ofBench b (yh c)).2=l->l.length<=1000->Q (.ref r) H':=by
 obtain⟨a,pl,ls,b,c,qs,dx,lw,lk,lm,lt,hv,B,G,e,hT,_,k⟩:=h;refine⟨a,pl,ls,b,c,qs,hv,⟨dx,lw,lk,lm,lt,B⟩,G,e,hT,λH' r l s T' n hr el hl=>?_⟩;subst el;refine k H' r lw ?_ (.inl rfl) (λx o hx nt _ _ _ _=>s _ _ nt hx) T' n hr hl;rw[hp b c e G.form];exact B.sameT s
theorem yz {tb:Addr}{H H1:Hp}{Q:VK}{ans:List Int}(hT:wd tb H)(k:∀(H':Hp) (r:Addr) (l:List Int),j8 H H'->wd tb H'->zhb H r->H' r=some (.lst (l.map V.int))->ans=l->l.length<=1000->Q (.ref r) H')
  (s:zh H H1){r:Addr}(hr:H1 r=none){xs:List V}(l:List Int)(e1:xs=l.map V.int)(e2:ans=l)(hl:l.length<=1000):Q (.ref r) (upd H1 r (.lst xs)):=by
 have s2:=s.trans (zh.upd (o:=.lst xs) hr);exact k _ r l (j8.of s2) (hT.same s2) ((j8.of s).new hr) (by rw[zb,e1]) e2 hl
theorem zj2 {tb:Addr}{H H1 H2:Hp}{Q:VK}{ans:List Int}(k:∀(H':Hp) (r:Addr) (l:List Int),j8 H H'->wd tb H'->zhb H r->H' r=some (.lst (l.map V.int))->ans=l->l.length<=1000->Q (.ref r) H')
  (s:j8 H H1)(hT:wd tb H1)(s2:zh H1 H2){r:Addr}(hr:H2 r=none){xs:List V}(l:List Int)(e1:xs=l.map V.int)(e2:ans=l)(hl:l.length<=1000):Q (.ref r) (upd H2 r (.lst xs)):=by
 have s3:=s2.trans (zh.upd (o:=.lst xs) hr);exact k _ r l (s.trans (j8.of s3)) (hT.same s3) ((s.trans (j8.of s2)).new hr) (by rw[zb,e1]) e2 hl
theorem zh2 {z a b:Int}(h:xb z (a,b)=true):a<=z/\z<=b:=by
 unfold xb at h;simpa using h
theorem j7 {z m:Int}{l:Int}(h:xb z (l,m)=true)(h0:0<=l):∃ n:Nat,z=n/\(n:Int)<=m/\l<=(n:Int):=by
 have h:=zh2 h;refine⟨z.toNat,?_,?_,?_⟩<;>rw[Int.toNat_of_nonneg (by omega)]
 ·exact h.2
 ·exact h.1
theorem zl1 {l:List Int}{m:Int}(h:(l.all λz=>xb z (0,m))=true):l.map V.int=(nats l).map vN/\∀ x,x∈nats l->(x:Int)<=m:=by
 induction l with
 |nil=>exact⟨rfl,λ_ h=>nomatch h⟩
 |cons z l ih=>
  rw[z6n,z3f]at h;obtain⟨h1,h2⟩:=h;obtain⟨n,rfl,hn,_⟩:=j7 h1 (z5x _);obtain⟨i1,i2⟩:=ih h2;have en:nats ((n:Int)::l)=n::nats l:=by
   unfold nats;rw[z3n,z3i]
  rw[en];refine⟨by rw[z3n,z3n,i1],λx hx=>?_⟩;rcases z3t.mp hx with hx|hx
  ·rw[hx];exact hn
  ·exact i2 x hx
theorem zdj {l:List Int}{a b m:Int}(h:inL l (a,b,0,m)=true):(a<=l.length/\(l.length:Int)<=b)/\l.map V.int=(nats l).map vN/\∀ x,x∈nats l->(x:Int)<=m:=by
 unfold inL at h;rw[z3f]at h;exact⟨zh2 h.1,zl1 h.2⟩
theorem Zb (l:List Int):(nats l).length=l.length:=z25 _
theorem Y3 (l:List Nat):(Vbmiab.ints l).map V.int=l.map vN:=by
 unfold Vbmiab.ints;rw[z4f];rfl
theorem Uz (l:List Nat):(Vbmiab.ints l).length=l.length:=z25 _
theorem Vw.one {H:Hp}{pl ls:Addr}{p:Nat}{c:jz}{qs:List Addr}(G:Vw H pl ls c qs)(hp:c.place=p)(h0:(j3 p).length=0)(h1:(y6 p).length=1):∃(l:List Int) (q:Addr),c=⟨p,[],[l]⟩/\qs=[q]/\H q=some (.lst (l.map V.int)):=by
 obtain⟨p',pls,lss⟩:=c;obtain rfl:p'=p:=hp;have f1:=G.form.plain;have f2:=G.form.lists;dsimp only at f1 f2;obtain rfl:=vd (f1.trans h0);obtain⟨l,rfl⟩:=Qg (f2.trans h1);have hq:=G.qs;have hl:=z39 hq;obtain⟨q,rfl⟩:=Qg (hl.trans rfl);refine⟨l,q,rfl,rfl,?_⟩;cases hq with
 |cons x _=>exact x
theorem Vw.none {H:Hp}{pl ls:Addr}{p:Nat}{c:jz}{qs:List Addr}(G:Vw H pl ls c qs)(hp:c.place=p)(h1:(y6 p).length=0):∃ zs:List Int,zs.length=(j3 p).length/\c=⟨p,zs,[]⟩/\H pl=some (.lst (zs.map V.int)):=by
 obtain⟨p',pls,lss⟩:=c;obtain rfl:p'=p:=hp;have f1:=G.form.plain;have f2:=G.form.lists;dsimp only at f1 f2;obtain rfl:=vd (f2.trans h1);exact⟨pls,f1,rfl,G.pl⟩
theorem wg {α β:Type}{c:Prop}[Decidable c]{x y:α×β}{b:α}(h1:x.1=b)(h2:y.1=b):(if c then x else y).1=b:=by
 split
 ·exact h1
 ·exact h2
theorem qc (b:Vbmiab.Bench){c:jz}(hf:c.Form)(h:c.place≠2/\c.place≠3/\c.place≠4/\c.place≠5):(ofBench b (yh c)).1=b:=by
 refine J8 (M:=λc=>(c.place≠2/\c.place≠3/\c.place≠4/\c.place≠5)->(ofBench b (yh c)).1=b) (λ_ _ _ _ _ _ _ _ _=>rfl) (λ_ _ _=>wg rfl rfl) (λ_ _ _ _ h=>absurd rfl h.1) (λ_ _ _ h=>absurd rfl h.2.1) (λ_ _ _ h=>absurd rfl h.2.2.1) (λ_ h=>absurd rfl h.2.2.2) (λ_=>?_) (λ_ _=>wg rfl rfl)
  (λ_ _=>wg rfl ?_) (λ_=>rfl) (λ_=>rfl) (λ_ _=>wg rfl rfl) (λ_ _=>wg rfl rfl) (λ_ _=>wg rfl rfl) (λ_ _=>?_) (λ_ _=>wg rfl rfl) (λ_ _ _ _=>wg rfl ?_) (λ_=>rfl) hf h
 ·show (match Vbmiab.bestLines b with|none=>(b,[-4])|some z=>(b,0::z.1::Vbmiab.ints z.2)).1=b;cases Vbmiab.bestLines b<;>rfl
 ·rename_i l _;cases Vbmiab.wrong b none 0 (nats l)<;>rfl
 ·rename_i l _;show (match Vbmiab.roundsOf (nats l).length (nats l) with
   |none=>(b,[-5])
   |some rs=>if rs.all (Vbmiab.isRound b)=false then (b,[-6]) else (b,0::Vbmiab.ints (Vbmiab.filled b rs))).1=b
  cases Vbmiab.roundsOf (nats l).length (nats l) with
  |none=>rfl
  |some rs=>exact wg rfl rfl
 ·rename_i x y k _;cases Vbmiab.best (Vbmiab.withFixed b x.toNat y.toNat k.toNat)<;>rfl
theorem zuy {t:TT}{u v:V}{σ:L2.St}{H:Hp}{Q:VK}(h:t σ H λc H1=>Q (if c=true then u else v) H1):tIf t (tC u) (tC v) σ H Q:=by
 have e:(λ(c:Bool) (H1:Hp)=>if c=true then tC u σ H1 Q else tC v σ H1 Q)=λc H1=>Q (if c=true then u else v) H1:=by
  funext c H1;cases c<;>rfl
 show t σ H (λ(c:Bool) (H1:Hp)=>if c=true then tC u σ H1 Q else tC v σ H1 Q);rw[e];exact h
theorem Gi {b:Vbmiab.Bench}{X Y:Nat}(e:(!(decide (X < b.nx)&&decide (Y < b.ny)))=true):b.nx<=X\/b.ny<=Y:=by
 rw[z5e,Bool.and_eq_false_iff,z7e,z7e]at e;omega
theorem zf5 {b:Vbmiab.Bench}{X Y:Nat}(e:¬(!(decide (X < b.nx)&&decide (Y < b.ny)))=true):X < b.nx/\Y < b.ny:=by
 rw[z5e,z9r,z3f,z4i,z4i]at e;exact e
theorem zn7 {b:Vbmiab.Bench}(g:kr b){x y:Nat}(hx:x < b.nx)(hy:y < b.ny):b.fixed[Vbmiab.place b x y]? =some (Vbmiab.fixedAt b x y):=by
 have h:=Yg g hx hy;rw[g.cl,<-g.fl]at h;unfold Vbmiab.fixedAt;rw[z3s,z28 h];rfl
def sc1:zo ["bench","plain","lists","at","own","worths"] ["bench","plain","lists"] (zj Wk):=by walk_at "sc"
theorem zaq {b:Vbmiab.Bench}(h:1<=b.ny){v:Int}{l:List Nat}(e:Vbmiab.bestLines b=some (v,l)):Vbmiab.worth b l=v/\l.length=b.ny:=by
 rw[Jf h]at e;cases e0:jx (z9 b) (G b (b.ny - 1) 0) with
 |none=>rw[e0]at e;cases e
 |some m=>
  rw[e0]at e;cases e;obtain⟨_,h2,h3⟩:=Vg b (b.ny - 1) 0 none _ e0;rw[show b.ny - 1+1=b.ny by omega]at h2 h3;have h3:(bl b b.ny 0 (z9 b)).length=b.ny:=h3;exact⟨(zqs h3).trans h2,h3⟩
theorem ka {α:Type}(f g:α->Int):∀(l:List α),(l.flatMap λq=>[f q,g q]).length=2*l.length
 |[]=>rfl
 |q::l=>by
  rw[z41,z3a,ka f g l,z3l (as:=l)];show 2+2*l.length=_;omega
theorem zn2 {b:Vbmiab.Bench}(g:kr b)(h:Nat->Option Int):(xl b h).length<=128:=z32 (z5u _ _) (Z5 b g)
def sc9:zo ["bench","plain","lists"] ["bench","plain","lists"] (zj Kq):=by walk_at "sc"
def z0g:zo ["bench","plain","lists"] ["bench","plain","lists"] (zj Wl):=by walk_at "sc"
def sc6:zo ["bench","plain","lists","lines"] ["bench","plain","lists"] (zj Wj):=by walk_at "sc"
def sc7:zo ["bench","plain","lists","answer","pattern","most"] ["bench","plain","lists"] (zj Kr):=by walk_at "sc"
theorem X5 {p:Nat}{l:List Int}(h:(true&&(inL l (0,((8:Nat):Int),0,127)&&true))=true):l.length<=8/\l.map V.int=(nats l).map vN/\∀ x,x∈nats l->x<=127:=by
 rw[z4n,z4o]at h;obtain⟨h1,h2,h3⟩:=zdj h;exact⟨by omega,h2,λx hx=>by have:=h3 x hx;omega⟩
def sc8:zo ["bench","plain","lists","lines","fault"] ["bench","plain","lists"] (zj Qp):=by walk_at "sc"
def Q6 (b:Vbmiab.Bench)(l:List Nat):Bool:=decide (l.length=b.ny)&&l.all λp=>decide (p < 2 ^ b.nx)
inductive ztf (C:Addr)(vs:List V)(H:Hp)(Q:VK):Prop
 |mk (a q:Addr) (b:Vbmiab.Bench) (l:List Nat):vs=[.ref a,.ref q]->zq C H a b->(H q=some (.lst (l.map vN))/\l.length<=500/\Ret H (.bl (Q6 b l)) Q)->ztf C vs H Q
def z0r (C:Addr):Sp:=λvs H Q _=>ztf C vs H Q
def zwf:zo ["bench","lines","pattern"] ["bench","lines"] (zj Ym):=by walk_at "sc"
theorem wz (T:qf K mg CB CR CC):xo P w K mg base "are_patterns" 2 ["bench","lines"] (z0r CB):=by
 refine T.f_are_patterns.con λf fd F=>F.ok zwf (λ_ _ _ _ h=>?_) (λ_ A _ s H vs Q E hr h=>?_)
 ·obtain⟨a,q,b,l,rfl,_⟩:=h;rfl
 ·obtain⟨a,q,b,l,rfl,B,hq,hl,k⟩:=h;refine⟨_,zg (zm (zdu (Jl Zm (ji jj rfl T.b_len z4z (za (pv 1) zd)) (Jt (·.ny) T.cB.cl T.cB.ny (pv 0)) (jl _)) (zdv (ji (zhs rfl) rfl T.b_all (by decide+kernel) (za (ko rfl zwf.nd (jo (pv 1)) (jq (own:=[("pattern",2)]) rfl) (λ_ _ _ _ _=>(zt (i:=2) zwf.nd rfl (Or.inl rfl))) (λ_ _ _ _ _=>q0) (λ_ _ _ _ _=>(Jl Gk (pv 2) (zv6 (pv 0) T.cB.cl (zcy T) hr.m0) (jl _)))) zd))))),?_⟩;refine⟨_,rfl,q,_,rfl,.inl (zx.of hq),?_⟩;refine⟨_,rfl,a,b,rfl,B,?_⟩;refine⟨rfl,?_⟩;rw[z25];refine⟨_,rfl,?_⟩;have ed:decide (V.int (l.length:Int)=vN b.ny)=decide (l.length=b.ny):=by
   rw[zdn,z4l,z4x,z4i]
  rw[show vN ((λx=>x.ny) b)=vN b.ny from rfl,ed];have gp:1<=2 ^ b.nx:=z9e (by simp);refine jr (λe=>?_) (λe=>?_)
  ·refine⟨_,rfl,q,rfl,⟨_,zx.of hq⟩,λD hD=>?_⟩;refine Wy (xs:=l) (c:=vN) (λp=>some (.bl (decide (p < 2 ^ b.nx)))) hD (z36 (zp (by omega))) (zx.of hq) (λi p H' Nt Nf hz sm hN hF=>?_) (λH1 s1 h1=>?_)
   ·refine⟨rfl,?_⟩;refine⟨_,rfl,_,rfl,a,b,rfl,B.same sm,a,b,rfl,B.same sm,_,_,rfl,rfl,?_⟩;refine hN _ _ (zh.refl _) ?_;congr 2;have:((p:Int)<=((2 ^ b.nx - 1:Nat):Int))↔p < 2 ^ b.nx:=by omega
    exact z8p.mpr this.symm
   ·rw[z45]at h1;refine⟨D,l.map λp=>decide (p < 2 ^ b.nx),rfl,zx.of (by rw[h1,z4f];rfl),?_⟩;rw[z81];unfold Q6 at k;rw[e,z4n]at k;exact k _ s1
  ·unfold Q6 at k;rw[(by simpa using e:decide (l.length=b.ny)=false),z5c]at k;exact k _ (zh.refl _)
theorem Gd {b:Vbmiab.Bench}{l:List Nat}(h:Q6 b l=false):l.length≠b.ny\/l.any (λp=>decide (2 ^ b.nx<=p))=true:=by
 unfold Q6 at h;rw[Bool.and_eq_false_iff,z7e]at h;rcases h with h|h
 ·exact .inl h
 ·refine .inr ?_;rw[List.all_eq_false]at h;obtain⟨x,hx,hn⟩:=h;exact z7a.mpr ⟨x,hx,z3u (Nat.not_lt.mp λz=>hn (z3u z))⟩
theorem Vv {b:Vbmiab.Bench}{l:List Nat}(h:Q6 b l=true):l.length=b.ny/\¬(l.length≠b.ny\/l.any (λp=>decide (2 ^ b.nx<=p))=true):=by
 unfold Q6 at h;rw[z3f,z4i]at h;refine⟨h.1,λz=>?_⟩;rcases z with z|z
 ·exact z h.1
 ·obtain⟨x,hx,hn⟩:=z7a.mp z;have:=z30 (z47.mp h.2 x hx);have:=z30 hn;omega
def zyi:zo ["bench","plain","lists","lines"] ["bench","plain","lists"] (zj Q3):=by walk_at "sc"
theorem Y9 (qs:List Addr)(l:List Int):HO.lst ((0::l).map V.int)≠HO.lst (qs.map V.ref):=by
 cases qs with
 |nil=>intro z;cases z
 |cons q qs=>intro z;cases z
theorem zhw (b:Vbmiab.Bench)(p:Js):xh b (p.map λc=>Vbmiab.place b c.1 c.2)=(Vbmiab.sumNat (p.map λd=>(Vbmiab.cellAt b d.1 d.2).mass),Vbmiab.sumNat (p.map λd=>(Vbmiab.cellAt b d.1 d.2).metal)):=by
 unfold xh;rw[z4f,z4f,qo,qo];rfl
theorem J4 (b:Vbmiab.Bench):∀(l:List ((Nat×Nat)×Js)),(l.flatMap λx=>Vbmiab.ints (Q9 b x.1 x.2)).length=5*l.length
 |[]=>rfl
 |x::l=>by
  rw[z41,z3a,J4 b l,z3l (as:=l)];show 5+5*l.length=_;omega
theorem Y4 {α:Type}(f:α->List Nat)(l:List α):Vbmiab.ints (l.flatMap f)=l.flatMap λx=>Vbmiab.ints (f x):=by
 unfold Vbmiab.ints;rw[z9x]
def zmi:zo ["bench","plain","lists","lines","answer","piece","places","x","y"] ["bench","plain","lists"] (zj Q4):=by walk_at "sc"
def oL (r:List (Nat×Nat)):List Int:=(r.length:Int)::r.flatMap λp=>[(p.1:Int),(p.2:Int)]
theorem zoy (r:List (Nat×Nat)):(oL r).length=1+2*r.length:=by
 unfold oL;rw[z3l,ka];omega
theorem zkc:∀(rs:List (List (Nat×Nat))),(rs.flatMap oL).length=rs.length+2*(rs.map List.length).sum
 |[]=>rfl
 |r::rs=>by
  rw[z41,z3a,zkc rs,zoy,z3l,z3n,z6b];omega
theorem zdh {α β:Type}(f:α->List β)(l:List α)(n:Nat):((l.take n).flatMap f).length<=(l.flatMap f).length:=by
 have e:l.flatMap f=(l.take n).flatMap f++(l.drop n).flatMap f:=by rw[<-z5r,z8w]
 rw[e,z3a];omega
theorem zre (r:List (Nat×Nat)):Vbmiab.ints (r.length::r.flatMap λp=>[p.1,p.2])=oL r:=by
 unfold Vbmiab.ints oL;rw[z3n,z9x];rfl
theorem xc {α β:Type}(f:α->List β){l:List α}{i:Nat}{x:α}(h:l[i]? =some x):(l.take (i+1)).flatMap f=(l.take i).flatMap f++f x:=by
 rw[z97,h,z9d,z5r,z41,z68,z31]
def zps:zo ["bench","plain","lists","lines","answer","corners","corner"] ["bench","plain","lists"] (zj Ju):=by walk_at "sc"
def zr3:zo ["bench","plain","lists","rounds","corners"] ["bench","plain","lists"] (zj Qr):=by walk_at "sc"
theorem zkm (p:Nat):∀(f x:Nat),(Vbmiab.runsFrom p f x).length<=f
 |0,_=>z3c _
 |f+1,x=>by
  have ih:=zkm p f (x+1);show (match Vbmiab.runsFrom p f (x+1) with
   |r::l=>if r.1=Vbmiab.isOre p x then (r.1,x,r.2.2)::l else (Vbmiab.isOre p x,x,x)::r::l
   |[]=>[(Vbmiab.isOre p x,x,x)]).length<=f+1
  cases e:Vbmiab.runsFrom p f (x+1) with
  |nil=>simp
  |cons r l=>
   rw[e]at ih
   try dsimp only
   rw[z3l]at ih;split
   ·rw[z3l];omega
   ·rw[z3l,z3l];omega
def rnL (r:Bool×Nat×Nat):List Int:=[(r.1.toNat:Int),(r.2.1:Int),(r.2.2:Int)]
theorem zd6:∀(l:List (Bool×Nat×Nat)),(l.flatMap rnL).length=3*l.length
 |[]=>rfl
 |x::l=>by
  rw[z41,z3a,zd6 l,z3l (as:=l)];show 3+3*l.length=_;omega
def zr4:zo ["bench","plain","lists","pattern","answer","run"] ["bench","plain","lists"] (zj Wm):=by walk_at "sc"
def zyj:zo ["bench","plain","lists","most"] ["bench","plain","lists"] (zj Q2):=by walk_at "sc"
def zwe:zo ["bench","plain","lists","answer","kilograms","metal"] ["bench","plain","lists"] (zj Kp):=by walk_at "sc"
theorem vk.updL {pos:Pos}{qual:Str}{P:Addr}{H:Hp}{l:Addr}{xs:List V}{o:HO}(T:vk pos qual P H)(h:H l=some (.lst xs)):vk pos qual P (upd H l o):=by
 rcases T with T|⟨cc,T,u⟩
 ·exact .inl (by rw[ze (ja T h (by intro z;cases z))];exact T)
 ·exact .inr ⟨cc,by rw[ze (ja T h (by intro z;cases z))];exact T,by rw[ze (ja u h (by intro z;cases z))];exact u⟩
theorem vk.updI {pos:Pos}{qual:Str}{P:Addr}{H:Hp}{l C d:Addr}{fs:List (Str×V)}{o:HO}(T:vk pos qual P H)(h:H l=some (.ins C d fs)):vk pos qual P (upd H l o):=by
 rcases T with T|⟨cc,T,u⟩
 ·exact .inl (by rw[ze (ja T h (by intro z;cases z))];exact T)
 ·exact .inr ⟨cc,by rw[ze (ja T h (by intro z;cases z))];exact T,by rw[ze (ja u h (by intro z;cases z))];exact u⟩
def Dom (H H1:Hp):Prop:=∀ x o,H x=some o->∃ o',H1 x=some o'
theorem Dom.refl (H:Hp):Dom H H:=λx o h=>⟨o,h⟩
theorem Dom.put {H H1:Hp}(d:Dom H H1)(l:Addr)(o:HO):Dom H (upd H1 l o):=λx u h=>by
 by_cases e:x=l
 ·exact⟨o,by rw[e,zb]⟩
 ·rw[ze e];exact d x u h
theorem Dom.newT {H H1:Hp}(d:Dom H H1){r:Addr}(h:H1 r=none):zhb H r:=λo _ e=>by
 obtain⟨o',q⟩:=d _ _ e;rw[h]at q;cases q
theorem Vf {C tb a:Addr}{b b':Vbmiab.Bench}{c:jz}{dx lw lk lm lt lw':Addr}{H H1:Hp}{Q:VK}{ans:List Int}
  (k:∀(H':Hp) (r lw':Addr),ki C H' a (ofBench b (yh c)).1 dx lw' lk lm lt->(lw'=lw\/H lw'=none)->(∀ x o,H x=some o->(∀ ps,o≠.tbl ps)->x≠a->x≠lk->x≠lm->x≠lt->H' x=some o)->wd tb H'->zhb H r->H' r=some (.lst ((ofBench b (yh c)).2.map V.int))->(ofBench b (yh c)).2.length<=1000->Q (.ref r) H')
  (e:ofBench b (yh c)=(b',ans))(B1:ki C H1 a b' dx lw' lk lm lt)(hw:lw'=lw\/H lw'=none)(fr:∀ x o,H x=some o->x≠a->x≠lk->x≠lm->x≠lt->H1 x=some o)(T1:wd tb H1)(d:Dom H H1){r:Addr}(hr:H1 r=none){xs:List V}(e1:xs=ans.map V.int)(hl:ans.length<=1000):Q (.ref r) (upd H1 r (.lst xs)):=by
 rw[e]at k
 try dsimp only at k
 have s:=zh.upd (o:=.lst xs) hr;exact k _ r lw' (B1.same s) hw (λx o h _ q1 q2 q3 q4=>s _ _ (fr x o h q1 q2 q3 q4)) (T1.same s) (d.newT hr) (by rw[zb,e1]) hl
theorem ki.setK {C:Addr}{H:Hp}{a:Addr}{b b':Vbmiab.Bench}{dx lw lk lm lt:Addr}(B:ki C H a b dx lw lk lm lt)(g:kr b')(e:yx b' lw lk lm lt=yx b lw lk lm lt)(ew:yl b'=yl b)(em:j5 b'=j5 b)(et:yt b'=yt b){xs:List V}(ek:xs=yr b'):ki C (upd H lk (.lst xs)) a b' dx lw lk lm lt:=
 ⟨by rw[ze (ja B.ins B.k (by intro z;cases z)),e];exact B.ins,by rw[ze B.wk];show _=some (HO.lst (yl b'));rw[ew];exact B.w,by rw[zb,ek],by rw[ze B.km.symm,em];exact B.m,by rw[ze B.kt.symm,et];exact B.t,B.km,B.kt,B.mt,B.wk,B.wm,B.wt,g⟩
theorem ki.setM {C:Addr}{H:Hp}{a:Addr}{b b':Vbmiab.Bench}{dx lw lk lm lt:Addr}(B:ki C H a b dx lw lk lm lt)(g:kr b')(e:yx b' lw lk lm lt=yx b lw lk lm lt)(ew:yl b'=yl b)(ek:yr b'=yr b)(et:yt b'=yt b){xs:List V}(em:xs=j5 b'):ki C (upd H lm (.lst xs)) a b' dx lw lk lm lt:=
 ⟨by rw[ze (ja B.ins B.m (by intro z;cases z)),e];exact B.ins,by rw[ze B.wm];show _=some (HO.lst (yl b'));rw[ew];exact B.w,by rw[ze B.km,ek];exact B.k,by rw[zb,em],by rw[ze B.mt.symm,et];exact B.t,B.km,B.kt,B.mt,B.wk,B.wm,B.wt,g⟩
theorem ki.setT {C:Addr}{H:Hp}{a:Addr}{b b':Vbmiab.Bench}{dx lw lk lm lt:Addr}(B:ki C H a b dx lw lk lm lt)(g:kr b')(e:yx b' lw lk lm lt=yx b lw lk lm lt)(ew:yl b'=yl b)(ek:yr b'=yr b)(em:j5 b'=j5 b){xs:List V}(et:xs=yt b'):ki C (upd H lt (.lst xs)) a b' dx lw lk lm lt:=
 ⟨by rw[ze (ja B.ins B.t (by intro z;cases z)),e];exact B.ins,by rw[ze B.wt];show _=some (HO.lst (yl b'));rw[ew];exact B.w,by rw[ze B.kt,ek];exact B.k,by rw[ze B.mt,em];exact B.m,by rw[zb,et],B.km,B.kt,B.mt,B.wk,B.wm,B.wt,g⟩
def xx (b:Vbmiab.Bench)(i m t:Nat):Vbmiab.Bench:={b with cells:=b.cells.set i ⟨m,t⟩}
theorem Ks {b:Vbmiab.Bench}(g:kr b)(i:Nat){m t:Nat}(hm:m<=1000000000)(ht:t<=1000000000):kr (xx b i m t):=
 ⟨g.nx0,g.nx7,g.ny0,g.ny8,g.pr,g.co,g.du,g.o1,g.o7,g.w1,g.w7,g.n1,g.n7,(by show (b.cells.set i _).length=_;rw[z72];exact g.cl),g.fl,λc hc=>by
  rcases z98 hc with h|h
  ·exact g.cm c h
  ·rw[h];exact⟨hm,ht⟩,g.fx⟩
theorem zp1 {α:Type}{l:List α}{i:Nat}{x:α}(h:l[i]? =some x):l.set i x=l:=by
 refine List.ext_getElem? λj=>?_;rw[List.getElem?_set];by_cases e:i=j
 ·subst e;rw[z3m rfl,z3m (z3b.mp h).1,h]
 ·rw[z3k e]
def sc2:zo ["bench","plain","lists","at"] ["bench","plain","lists"] (zj Qo):=by walk_at "sc"
def sc3:zo ["bench","plain","lists","at","before"] ["bench","plain","lists"] (zj Gy):=by walk_at "sc"
def sc4:zo ["bench","plain","lists","before"] ["bench","plain","lists"] (zj Ko):=by walk_at "sc"
def sc5:zo ["bench","plain","lists","before"] ["bench","plain","lists"] (zj Wi):=by walk_at "sc"
mutual
theorem zff (T:qf K mg CB CR CC):xo P w K mg base "tell_cell" 3 ["bench","plain","lists"] (Yr CB tb 1):=by
 refine T.f_tell_cell.con λf fd F=>F.ok sc1 (λ_ _ _ _ h=>?_) (λ_ A _ s H vs Q E hr h=>?_)
 ·obtain⟨a,pl,ls,b,c,qs,_,_,_,_,_,rfl,_⟩:=h;rfl
 ·obtain⟨a,pl,ls,b,c,qs,rfl,B,G,hc,hT,k⟩:=Yr.tells h λb c e hf=>qc b hf (by rw[e];decide);obtain⟨zs,hz,rfl,hpl⟩:=G.none hc rfl;obtain⟨x,y,rfl⟩:=zvs hz;have ok:((xb x (0,6)&&(xb y (0,7)&&true))&&true)=true:=G.ok;simp only[z4o,z3f]at ok;obtain⟨X,rfl,_⟩:=j7 ok.1 (z5x _);obtain⟨Y,rfl,_⟩:=j7 ok.2 (z5x _);refine⟨_,zc (ju (qk (j4 (Qi (pv 0) T.cB.cl (Xv T) hr.m0 (za (zu zw (pv 1) zi (λ_ _=>rfl)) (za (zu zw (pv 1) zi (λ_ _=>rfl)) zd))))) (zg (zm (zy (za (jc T.c_NOT_ON_BENCH) zd)))) (jb))
   (zc (zn (i:=3) sc1.nd rfl (Or.inl rfl) (Qi (pv 0) T.cB.cl (Zg T) hr.m0 (za (zu zw (pv 1) zi (λ_ _=>rfl)) (za (zu zw (pv 1) zi (λ_ _=>rfl)) zd))))
   (zc (zn (i:=4) sc1.nd rfl (Or.inl rfl) (Yd (j4 (Qi (pv 0) T.cB.cl (zcz T) hr.m0 (za (pv 3) zd))) zi zi))
   (zc (zn (i:=5) sc1.nd rfl (Or.inl rfl) (zy (za (Qi (pv 0) T.cB.cl (zc2 T) hr.m0 (za (pv 3) zd)) (za (Qi (pv 0) T.cB.cl (Xx T) hr.m0 (za (pv 3) zd)) zd))))
   (zg (zm (jd xy (jd xy (zy (za (jc T.c_DONE) (za (pbl yr T.cB.cl T.cB.kilograms ki.lk (pv 0) (pv 3)) (za (pbl j5 T.cB.cl T.cB.metal ki.lm (pv 0) (pv 3)) zd)))) (pv 5)) (zy (za (pbl yt T.cB.cl T.cB.told ki.lt (pv 0) (pv 3)) (za (pv 4) zd))))))))),?_⟩
  refine⟨_,rfl,a,b,rfl,B,_,rfl,pl,_,_,_,rfl,rfl,zx.of hpl,zk (j:=0) rfl,_,rfl,pl,_,_,_,rfl,rfl,zx.of hpl,zk (j:=1) rfl,a,b,X,Y,rfl,B,?_⟩;refine⟨_,rfl,?_⟩;have gd:=B.good;have one:(1:Nat)<=sizeLine:=by decide
  refine jr (λe=>?_) (λe=>?_)
  ·have e:b.nx<=X\/b.ny<=Y:=Gi e;refine⟨one,λr hr=>yz hT k (zh.refl _) hr [-2] rfl ?_ (by decide)⟩;show (ofBench b (.cell (X:Int).toNat (Y:Int).toNat)).2=_;unfold ofBench
   try dsimp only
   rw[z3i,z3i,z3m e]
  ·obtain⟨hx,hy⟩:=zf5 e;have hc:=zda gd hx hy;have hf:=zn7 gd hx hy;refine⟨_,rfl,a,b,rfl,B,_,rfl,pl,_,_,_,rfl,rfl,zx.of hpl,zk (j:=0) rfl,_,rfl,pl,_,_,_,rfl,rfl,zx.of hpl,zk (j:=1) rfl,a,b,X,Y,rfl,B,?_⟩
   try dsimp only
   rw[wb,zi2,zmq];refine zuy ?_;refine⟨_,rfl,a,b,rfl,B,_,rfl,a,b,_,_,rfl,B,hc,?_⟩;refine⟨_,rfl,?_⟩
   try dsimp only
   have eb:(if decide (Vbmiab.asWaste b (Vbmiab.cellAt b X Y) < Vbmiab.asOre b (Vbmiab.cellAt b X Y))=true then V.int 1 else V.int 0)=V.int (Int.ofNat (Vbmiab.alone b X Y).toNat):=by
    unfold Vbmiab.alone;cases decide (Vbmiab.asWaste b (Vbmiab.cellAt b X Y) < Vbmiab.asOre b (Vbmiab.cellAt b X Y))<;>rfl
   rw[eb];refine⟨_,rfl,a,b,rfl,B,_,rfl,a,b,_,_,rfl,B,hc,?_⟩;refine⟨_,rfl,a,b,rfl,B,_,rfl,a,b,_,_,rfl,B,hc,?_⟩;refine⟨(by show 2<=sizeLine;decide),λws hws=>?_⟩;have s1:zh H (upd H ws (.lst [V.int (Vbmiab.asOre b (Vbmiab.cellAt b X Y)),V.int (Vbmiab.asWaste b (Vbmiab.cellAt b X Y))])):=zh.upd hws;have w1:(upd H ws (.lst [V.int (Vbmiab.asOre b (Vbmiab.cellAt b X Y)),V.int (Vbmiab.asWaste b (Vbmiab.cellAt b X Y))])) ws=some (.lst [V.int (Vbmiab.asOre b (Vbmiab.cellAt b X Y)),V.int (Vbmiab.asWaste b (Vbmiab.cellAt b X Y))]):=zb;generalize (upd H ws (.lst [V.int (Vbmiab.asOre b (Vbmiab.cellAt b X Y)),V.int (Vbmiab.asWaste b (Vbmiab.cellAt b X Y))]))=H1 at s1 w1 ⊢;have B1:=B.same s1;refine⟨_,rfl,a,b,rfl,B1,_,rfl,zh.refl _,_,_,rfl,(by unfold yr;rw[z27,hc];rfl),_,rfl,a,b,rfl,B1,_,rfl,zh.refl _,_,_,rfl,(by unfold j5;rw[z27,hc];rfl),(by show 3<=sizeLine;decide),λp1 hp1=>?_⟩;refine⟨_,rfl,p1,ws,_,_,rfl,rfl,zb,(zh.upd hp1) _ _ w1,(by show 5<=sizeLine;decide),λp2 hp2=>?_⟩;generalize eH2:(upd (upd H1 p1 _) p2 _)=H2;have s2:zh H1 H2:=eH2▸(zh.upd hp1).trans (zh.upd hp2);have e2:H2 p2=_:=eH2▸zb;refine⟨_,rfl,a,b,rfl,B1.same s2,_,rfl,zh.refl _,_,_,rfl,(by unfold yt;rw[z27,hf];rfl),_,rfl,(by show 2<=sizeLine;decide),λp3 hp3=>?_⟩;refine⟨p2,p3,_,_,rfl,rfl,(zh.upd hp3) _ _ e2,zb,(by show 7<=sizeLine;decide),λr hr=>?_⟩;refine yz hT k ((s1.trans s2).trans (zh.upd hp3)) hr [0,(Vbmiab.cellAt b X Y).mass,(Vbmiab.cellAt b X Y).metal,Vbmiab.asOre b (Vbmiab.cellAt b X Y),Vbmiab.asWaste b (Vbmiab.cellAt b X Y),Vbmiab.fixedAt b X Y,Int.ofNat (Vbmiab.alone b X Y).toNat] rfl ?_ (by show 7<=1000;decide);show (ofBench b (.cell (X:Int).toNat (Y:Int).toNat)).2=_;unfold ofBench
   try dsimp only
   rw[z3i,z3i,z3k (by omega)];rfl
theorem zc8 (T:qf K mg CB CR CC):xo P w K mg base "tell_count" 8 ["bench","plain","lists"] (Yr CB tb 9):=by
 refine T.f_tell_count.con λf fd F=>F.ok sc9 (λ_ _ _ _ h=>?_) (λ_ A _ s H vs Q E hr h=>?_)
 ·obtain⟨a,pl,ls,b,c,qs,_,_,_,_,_,rfl,_⟩:=h;rfl
 ·obtain⟨a,pl,ls,b,c,qs,rfl,B,G,hc,hT,k⟩:=Yr.tells h λb c e hf=>qc b hf (by rw[e];decide);obtain⟨zs,hz,rfl,hpl⟩:=G.none hc rfl;obtain rfl:=vd hz;refine⟨_,zg (zm (zy (za (jc T.c_DONE) (za (je (zau T) hr.m0 (za (pv 0) zd)) zd)))),?_⟩;refine⟨_,rfl,a,b,rfl,B,λH1 s1=>⟨(by show 2<=sizeLine;decide),λr hr=>?_⟩⟩;exact yz hT k s1 hr [0,(Vbmiab.count b:Int)] rfl rfl (by show 2<=1000;decide)
theorem zfg (T:qf K mg CB CR CC):xo P w K mg base "tell_free" 3 ["bench","plain","lists"] (Yr CB tb 10):=by
 refine T.f_tell_free.con λf fd F=>F.ok z0g (λ_ _ _ _ h=>?_) (λ_ A _ s H vs Q E hr h=>?_)
 ·obtain⟨a,pl,ls,b,c,qs,_,_,_,_,_,rfl,_⟩:=h;rfl
 ·obtain⟨a,pl,ls,b,c,qs,rfl,B,G,hc,hT,k⟩:=Yr.tells h λb c e hf=>qc b hf (by rw[e];decide);obtain⟨zs,hz,rfl,hpl⟩:=G.none hc rfl;obtain rfl:=vd hz;refine⟨_,zg (zm (zy (za (jc T.c_DONE) (za (je (Xu T) hr.m0 (za (pv 0) zd)) zd)))),?_⟩;refine⟨_,rfl,a,b,rfl,B,λH1 s1=>⟨(by show 2<=sizeLine;decide),λr hr=>?_⟩⟩;exact yz hT k s1 hr [0,Vbmiab.free b] rfl rfl (by show 2<=1000;decide)
theorem zfe (T:qf K mg CB CR CC)(Lk:ze1 K mg base tb):xo P w K mg base "tell_best" 8 ["bench","plain","lists"] (Yr CB tb 6):=by
 refine T.f_tell_best.con λf fd F=>F.ok sc6 (λ_ _ _ _ h=>?_) (λ_ A _ s H vs Q E hr h=>?_)
 ·obtain⟨a,pl,ls,b,c,qs,_,_,_,_,_,rfl,_⟩:=h;rfl
 ·obtain⟨a,pl,ls,b,c,qs,rfl,B,G,hc,hT,k⟩:=Yr.tells h λb c e hf=>qc b hf (by rw[e];decide);obtain⟨zs,hz,rfl,hpl⟩:=G.none hc rfl;obtain rfl:=vd hz;have gd:=B.good;have g8:=gd.ny8;refine⟨_,zc (zn (i:=3) sc6.nd rfl (Or.inl rfl) (je (zcw T Lk) hr.m0 (za (pv 0) zd)))
   (zc (ju (jh Gj (pv 3) Zv (jl _)) (zg (zm (zy (za (jc T.c_NO_LINES) zd)))) (jb))
   (zg (zm (jd xy (zy (za (jc T.c_DONE) (za (je (Zt T) hr.m0 (za (pv 0) (za (pv 3) zd))) zd))) (pv 3))))),?_⟩
  refine⟨_,rfl,a,b,rfl,B,hT,λhn H1 s1 T1=>?_,λv l hl H1 q s1 T1 hq=>?_⟩
  ·refine⟨_,rfl,rfl,_,rfl,?_⟩;refine jr (λ_=>?_) (λe=>absurd (z3u rfl) e);refine⟨(by show 1<=sizeLine;decide),λr hr=>zj2 k s1 T1 (zh.refl _) hr [-4] rfl ?_ (by decide)⟩;show (ofBench b .best).2=_;unfold ofBench
   try dsimp only
   rw[hn]
  ·refine⟨_,rfl,rfl,_,rfl,?_⟩;refine jr (λe=>absurd (z30 e) (by intro z;cases z)) (λ_=>?_);obtain⟨w1,w2⟩:=zaq gd.ny0 hl;refine⟨_,rfl,_,rfl,a,q,b,l,rfl,B.sameT s1,hq,w2,λH2 s2=>?_⟩;refine⟨(by show 2<=sizeLine;decide),λp hp=>?_⟩;refine⟨_,rfl,p,q,_,_,rfl,rfl,zb,(zh.upd hp) _ _ (s2 _ _ hq),?_,λr hr=>?_⟩
   ·rw[z25];exact z36 (zp (by show 2+l.length<=1000;omega))
   ·refine zj2 k s1 T1 (s2.trans (zh.upd hp)) hr (0::v::Vbmiab.ints l) ?_ ?_ ?_
    ·rw[w1,z3n,z3n,Y3];rfl
    ·show (ofBench b .best).2=_;unfold ofBench
     try dsimp only
     rw[hl]
    ·rw[z3l,z3l,Uz];omega
theorem zc9 (T:qf K mg CB CR CC):xo P w K mg base "tell_table" 8 ["bench","plain","lists"] (Yr CB tb 7):=by
 refine T.f_tell_table.con λf fd F=>F.ok sc7 (λ_ _ _ _ h=>?_) (λ_ A _ s H vs Q E hr h=>?_)
 ·obtain⟨a,pl,ls,b,c,qs,_,_,_,_,_,rfl,_⟩:=h;rfl
 ·obtain⟨a,pl,ls,b,c,qs,rfl,B,G0,hc,hT,k⟩:=Yr.tells h λb c e hf=>qc b hf (by rw[e];decide);obtain⟨zs,hz,rfl,hpl⟩:=G0.none hc rfl;obtain⟨y,rfl⟩:=Qg hz;have ok:((xb y (0,7)&&true)&&true)=true:=G0.ok;simp only[z4o]at ok;obtain⟨Y,rfl,_⟩:=j7 ok (z5x _);have gd:=B.good;have g8:=gd.ny8;refine⟨_,zc (ju (qk (j4 (Qi (pv 0) T.cB.cl (Xv T) hr.m0 (za zi (za (zu zw (pv 1) zi (λ_ _=>rfl)) zd))))) (zg (zm (zy (za (jc T.c_NOT_ON_BENCH) zd)))) (jb))
   (zc (zn (i:=3) sc7.nd rfl (Or.inl rfl) (zy (za (jc T.c_DONE) zd)))
   (zc (jt z3v rfl (zo7 (zo2 (je (Us T) hr.m0 (za (pv 0) (za (zu zw (pv 1) zi (λ_ _=>rfl)) zd))))) (pg2 K (i:=4) (j:=5) rfl rfl sc7.nd rfl rfl (Or.inl rfl) (Or.inl rfl))
    (zg (yb (xp z3y z5t z5s Z4 (pv 3) (za (zy (za (pv 4) (za (pv 5) zd))) zd)))))
   (zg (zm (pv 3))))),?_⟩
  refine⟨_,rfl,a,b,rfl,B,_,rfl,pl,_,_,_,rfl,rfl,zx.of hpl,zk (j:=0) rfl,a,b,0,Y,rfl,B,?_⟩;refine⟨_,rfl,?_⟩;refine jr (λe=>?_) (λe=>?_)
  ·have e:b.ny<=Y:=by
    have:=gd.nx0;rcases Gi e with h|h<;>omega
   refine⟨(by show 1<=sizeLine;decide),λr hr=>yz hT k (zh.refl _) hr [-2] rfl ?_ (by decide)⟩;show (ofBench b (.table (Y:Int).toNat)).2=_;unfold ofBench
   try dsimp only
   rw[z3i,z3m e]
  ·obtain⟨_,hy⟩:=zf5 e;refine⟨(by show 1<=sizeLine;decide),λan han=>?_⟩;have s1:zh H (upd H an (.lst [V.int 0])):=zh.upd han;have a1:(upd H an (.lst [V.int 0])) an=some (.lst (([(0:Int)]:List Int).map V.int)):=zb;generalize (upd H an (.lst [V.int 0]))=H1 at s1 a1 ⊢;refine⟨_,rfl,_,rfl,pl,_,_,_,rfl,rfl,zx.of (s1 _ _ hpl),zk (j:=0) rfl,a,b,Y,rfl,B.same s1,hy,λH2 t s2 nt ht=>?_⟩;refine⟨t,_,rfl,ht,trivial,λod=>?_⟩;refine⟨t,od,_,rfl,zb,?_⟩;have ta:t≠an:=λz=>by rw[z,a1]at nt;cases nt
   have n2:∀ x o,H1 x=some o->x≠t:=λx o e z=>by rw[z,nt]at e;cases e
   have s3:zh H1 (upd H2 t (.frz od (.dK (kvI (xl b (G b (b.ny - 1 - Y) Y)))))):=λx o e=>by
    rw[ze (n2 x o e)];exact s2 _ _ e
   have t3:(upd H2 t (.frz od (.dK (kvI (xl b (G b (b.ny - 1 - Y) Y)))))) t=some (.frz od (.dK (kvI (xl b (G b (b.ny - 1 - Y) Y))))):=zb;generalize (upd H2 t (.frz od (.dK (kvI (xl b (G b (b.ny - 1 - Y) Y))))))=H3 at s3 t3 ⊢;have dl:(xl b (G b (b.ny - 1 - Y) Y)).length<=128:=zn2 gd _;generalize eD:xl b (G b (b.ny - 1 - Y) Y)=D at t3 dl ⊢;have kl:(kvI D).length=D.length:=by unfold kvI;rw[z25]
   refine vm (n:=D.length) (λi σ H'=>∃(v4 v5:Option V),σ=[some (.ref a),some (.ref pl),some (.ref ls),some (.ref an),v4,v5]/\zh H H'/\H' t=some (.frz od (.dK (kvI D)))/\H' an=some (.lst ((0::(D.take i).flatMap λq=>[Int.ofNat q.1,q.2]).map V.int))) ⟨_,_,rfl,s1.trans s3,t3,s3 _ _ a1⟩ ?_ ?_ ?_
   ·rintro i σ H' hi ⟨v4,v5,rfl,sm,ht',ha'⟩;exact⟨ht',by omega⟩
   ·rintro i σ H' x H4 D' hi ⟨v4,v5,rfl,sm,ht',ha'⟩ ⟨tt,kk,vv,hkv,rfl,htt,rfl⟩ ea;have e1:D[i]? =some D[i]:=z28 hi;generalize D[i]=pr at e1;obtain⟨p,v⟩:=pr;have e2:(kvI D)[i]? =some ((Sum.inl (p:Int):j2),V.int v):=by
     unfold kvI;rw[z27,e1];rfl
    rw[e2]at hkv;cases hkv;have s4:zh H' (upd H' tt (.tup [kV (.inl (p:Int)),V.int v])):=zh.upd htt;have t4:(upd H' tt (.tup [kV (.inl (p:Int)),V.int v])) tt=some (.tup [vN p,V.int v]):=zb;generalize (upd H' tt (.tup [kV (.inl (p:Int)),V.int v]))=H4 at s4 t4 ⊢;refine⟨tt,_,rfl,yw.of t4,rfl,_,_,rfl,_,_,rfl,rfl,?_⟩;refine⟨_,rfl,.inl ⟨rfl,_,zx.of (s4 _ _ ha')⟩,_,rfl,_,rfl,(by show 2<=sizeLine;decide),λla hla=>?_⟩;have s5:zh H4 (upd H4 la (.lst [vN p,V.int v])):=zh.upd hla;have l5:(upd H4 la (.lst [vN p,V.int v])) la=some (.lst [vN p,V.int v]):=zb;generalize (upd H4 la (.lst [vN p,V.int v]))=H5 at s5 l5 ⊢;have a5:=s5 _ _ (s4 _ _ ha');have s05:=s4.trans s5;refine⟨an,la,_,_,rfl,rfl,a5,l5,?_,?_⟩
    ·rw[z25,z3l,ka,z35];exact z36 (zp (by show _+2<=1000;omega))
    ·refine ea.nx _ _ ⟨_,_,rfl,λx o e=>?_,?_,?_⟩
     ·rw[ze (zf e han)];exact s05 _ _ (sm _ _ e)
     ·rw[ze ta];exact s05 _ _ ht'
     ·rw[zb,z97,e1,z9d,z5r,z3n,z3n,z3g,z69];rfl
   ·rintro σ H' ⟨v4,v5,rfl,sm,ht',ha'⟩;refine⟨⟨ht',by omega⟩,?_⟩;rw[z4s]at ha';refine⟨_,rfl,k _ an _ (j8.of sm) (hT.same sm) ((j8.of (zh.refl H)).new han) ha' ?_ ?_⟩
    ·show (ofBench b (.table (Y:Int).toNat)).2=_;unfold ofBench
     try dsimp only
     rw[z3i,z3k (by omega)];have e0:=zci b b.ny 0 Y hy;rw[z6x]at e0;have e3:(Vbmiab.allTables b).getD Y []=kh b (G b (b.ny - 1 - Y) Y):=by
      unfold Vbmiab.allTables;rw[z3s,e0];rfl
     rw[e3,zqa,eD]
    ·rw[z3l,ka];omega
theorem zat (T:qf K mg CB CR CC):xo P w K mg base "check_lines" 8 ["bench","plain","lists"] (Yr CB tb 8):=by
 refine T.f_check_lines.con λf fd F=>F.ok sc8 (λ_ _ _ _ h=>?_) (λ_ A _ s H vs Q E hr h=>?_)
 ·obtain⟨a,pl,ls,b,c,qs,_,_,_,_,_,rfl,_⟩:=h;rfl
 ·obtain⟨a,pl,ls,b,c,qs,rfl,B,G0,hc,hT,k⟩:=Yr.tells h λb c e hf=>qc b hf (by rw[e];decide);obtain⟨l,q,rfl,rfl,hq⟩:=G0.one hc rfl rfl;have hls:=G0.ls;obtain⟨l8,el,l127⟩:=X5 (p:=0) G0.ok;rw[el]at hq;have nl:=Zb l;have ea:(ofBench b (yh ⟨8,[],[l]⟩)).2=(ofBench b (.check (nats l))).2:=rfl;rw[ea]at k;generalize nats l=L at hq l127 nl k;have gd:=B.good;have g8:=gd.ny8;refine⟨_,zc (zn (i:=3) sc8.nd rfl (Or.inl rfl) (zu zw (pv 2) zi (λ_ _=>rfl)))
   (zc (ju (jh zb5 (ji jj rfl T.b_len z4z (za (pv 3) zd)) (Jt (·.ny) T.cB.cl T.cB.ny (pv 0)) (jl _)) (zg (zm (zy (za (jc T.c_NOT_THE_BENCH_LINES) zd)))) (jb))
   (zc (zn (i:=4) sc8.nd rfl (Or.inl rfl) (je (zaw T) hr.m0 (za (pv 0) (za (pv 3) zd))))
   (zc (ju (jh Gj (pv 4) Zv (jl _)) (zg (zm (zy (za (jc T.c_DONE) (za zi (za (je (Zt T) hr.m0 (za (pv 0) (za (pv 3) zd))) zd)))))) (jb))
   (zg (zm (jd xy (zy (za (jc T.c_DONE) (za zi zd))) (qv qh rfl T.list (by decide+kernel) (za (pv 4) zd)))))))),?_⟩
  refine⟨_,rfl,ls,_,_,_,rfl,rfl,zx.of hls,zk (j:=0) rfl,?_⟩;refine⟨_,rfl,q,_,rfl,.inl (zx.of hq),?_⟩;refine⟨_,rfl,a,b,rfl,B,?_⟩;refine⟨rfl,_,rfl,?_⟩;rw[z25];refine jr (λe=>?_) (λe=>?_)
  ·have e:L.length≠b.ny:=λz=>by rw[z]at e;simp at e
   refine⟨(by show 1<=sizeLine;decide),λr hr=>yz hT k (zh.refl _) hr [-3] rfl ?_ (by decide)⟩;unfold ofBench
   try dsimp only
   rw[z3m e]
  ·have e:L.length=b.ny:=by
    refine z52 λz=>e ?_;have:V.int (L.length:Int)≠V.int (b.ny:Int):=λy=>z (by injection y with y;omega);simp[this]
    try omega
   refine⟨_,rfl,_,rfl,a,q,b,L,rfl,B,hq,e,λhw H1 s1=>?_,λkd y hw H1 t s1 ht=>?_⟩
   ·refine⟨_,rfl,rfl,_,rfl,?_⟩;refine jr (λ_=>?_) (λe=>absurd (z3u rfl) e);refine⟨_,rfl,_,rfl,a,q,b,L,rfl,B.same s1,s1 _ _ hq,e,λH2 s2=>?_⟩;refine⟨(by show 3<=sizeLine;decide),λr hr=>yz hT k (s1.trans s2) hr [0,1,Vbmiab.worth b L] rfl ?_ (by show 3<=1000;decide)⟩;unfold ofBench
    try dsimp only
    rw[z3k (λz=>z e),hw]
   ·refine⟨_,rfl,rfl,_,rfl,?_⟩;refine jr (λe=>absurd (z30 e) (by intro z;cases z)) (λ_=>?_);refine⟨(by show 2<=sizeLine;decide),λp hp=>?_⟩;refine⟨_,rfl,t,_,rfl,.inr (yw.of ((zh.upd hp) _ _ ht)),λl2 hl2=>?_⟩;refine⟨p,l2,_,_,rfl,rfl,(zh.upd hl2) _ _ zb,zb,(by show 4<=sizeLine;decide),λr hr=>?_⟩;refine yz hT k ((s1.trans (zh.upd hp)).trans (zh.upd hl2)) hr [0,0,(kd:Int),(y:Int)] rfl ?_ (by show 4<=1000;decide);unfold ofBench
    try dsimp only
    rw[z3k (λz=>z e),hw];rfl
theorem za3 (T:qf K mg CB CR CC):xo P w K mg base "tell_losses" 4 ["bench","plain","lists"] (Yr CB tb 11):=by
 refine T.f_tell_losses.con λf fd F=>F.ok zyi (λ_ _ _ _ h=>?_) (λ_ A _ s H vs Q E hr h=>?_)
 ·obtain⟨a,pl,ls,b,c,qs,_,_,_,_,_,rfl,_⟩:=h;rfl
 ·obtain⟨a,pl,ls,b,c,qs,rfl,B,G0,hc,hT,k⟩:=Yr.tells h λb c e hf=>qc b hf (by rw[e];decide);obtain⟨l,q,rfl,rfl,hq⟩:=G0.one hc rfl rfl;have hls:=G0.ls;obtain⟨l8,el,l127⟩:=X5 (p:=0) G0.ok;rw[el]at hq;have nl:=Zb l;have ea:(ofBench b (yh ⟨11,[],[l]⟩)).2=(ofBench b (.losses (nats l))).2:=rfl;rw[ea]at k;generalize nats l=L at hq l127 nl k;have gd:=B.good;have g8:=gd.ny8;refine⟨_,zc (zn (i:=3) zyi.nd rfl (Or.inl rfl) (zu zw (pv 2) zi (λ_ _=>rfl)))
   (zc (ju (qk (j4 (je (wz T) hr.m0 (za (pv 0) (za (pv 3) zd))))) (zg (zm (zy (za (jc T.c_NOT_THE_BENCH_LINES) zd)))) (jb))
   (zg (zm (jd xy (jd xy (zy (za (jc T.c_DONE) zd)) (je (Um T) hr.m0 (za (pv 0) (za (pv 3) zd)))) (zy (za (jd Zc (je (Xu T) hr.m0 (za (pv 0) zd)) (je (Zt T) hr.m0 (za (pv 0) (za (pv 3) zd)))) zd)))))),?_⟩
  refine⟨_,rfl,ls,_,_,_,rfl,rfl,zx.of hls,zk (j:=0) rfl,?_⟩;refine⟨_,rfl,_,rfl,a,q,b,L,rfl,B,hq,by omega,λH1 s1=>?_⟩;refine⟨_,rfl,?_⟩;refine jr (λe=>?_) (λe=>?_)
  ·have e:=Gd (by simpa using e);refine⟨(by show 1<=sizeLine;decide),λr hr=>yz hT k s1 hr [-3] rfl ?_ (by decide)⟩;unfold ofBench
   try dsimp only
   rw[z3m e]
  ·obtain⟨e1,e2⟩:=Vv (b:=b) (l:=L) (by simpa using e);refine⟨(by show 1<=sizeLine;decide),λp hp=>?_⟩;have s2:zh H1 (upd H1 p (.lst [V.int 0])):=zh.upd hp;have p2:(upd H1 p (.lst [V.int 0])) p=some (.lst [V.int 0]):=zb;generalize (upd H1 p (.lst [V.int 0]))=H2 at s2 p2 ⊢;have s02:=s1.trans s2;refine⟨_,rfl,_,rfl,a,q,b,L,rfl,B.same s02,s02 _ _ hq,e1,λH3 r3 s3 hr3=>?_⟩;refine⟨p,r3,_,_,rfl,rfl,s3 _ _ p2,hr3,(by show 7<=sizeLine;decide),λr4 hr4=>?_⟩;have s4:zh H3 (upd H3 r4 (.lst ([V.int 0]++(zb2 b L).map vN))):=zh.upd hr4;have p4:(upd H3 r4 (.lst ([V.int 0]++(zb2 b L).map vN))) r4=some (.lst ([V.int 0]++(zb2 b L).map vN)):=zb;generalize (upd H3 r4 (.lst ([V.int 0]++(zb2 b L).map vN)))=H4 at s4 p4 ⊢;have s04:=(s02.trans s3).trans s4;refine⟨_,rfl,a,b,rfl,B.same s04,λH5 s5=>?_⟩;refine⟨_,rfl,_,rfl,a,q,b,L,rfl,(B.same s04).same s5,s5 _ _ (s04 _ _ hq),e1,λH6 s6=>?_⟩;refine⟨_,_,rfl,rfl,(by show 1<=sizeLine;decide),λp7 hp7=>?_⟩;refine⟨r4,p7,_,_,rfl,rfl,(zh.upd hp7) _ _ (s6 _ _ (s5 _ _ p4)),zb,(by show 8<=sizeLine;decide),λr hr=>?_⟩;refine yz hT k (((s04.trans s5).trans s6).trans (zh.upd hp7)) hr (0::(Vbmiab.ints (zb2 b L)++[Vbmiab.free b - Vbmiab.worth b L])) ?_ ?_ (by show 8<=1000;decide)
   ·rw[z3n,z3g,Y3];rfl
   ·unfold ofBench
    try dsimp only
    rw[z3k e2,zlx];rfl
theorem za4 (T:qf K mg CB CR CC):xo P w K mg base "tell_pieces" 4 ["bench","plain","lists"] (Yr CB tb 12):=by
 refine T.f_tell_pieces.con λf fd F=>F.ok zmi (λ_ _ _ _ h=>?_) (λ_ A _ s H vs Q E hr h=>?_)
 ·obtain⟨a,pl,ls,b,c,qs,_,_,_,_,_,rfl,_⟩:=h;rfl
 ·obtain⟨a,pl,ls,b,c,qs,rfl,B,G0,hc,hT,k⟩:=Yr.tells h λb c e hf=>qc b hf (by rw[e];decide);obtain⟨l,q,rfl,rfl,hq⟩:=G0.one hc rfl rfl;have hls:=G0.ls;obtain⟨l8,el,l127⟩:=X5 (p:=0) G0.ok;rw[el]at hq;have nl:=Zb l;have ea:(ofBench b (yh ⟨12,[],[l]⟩)).2=(ofBench b (.pieces (nats l))).2:=rfl;rw[ea]at k;generalize nats l=L at hq l127 nl k;have gd:=B.good;have g8:=gd.ny8;have g56:=wf gd;refine⟨_,zc (zn (i:=3) zmi.nd rfl (Or.inl rfl) (zu zw (pv 2) zi (λ_ _=>rfl)))
   (zc (ju (qk (j4 (je (wz T) hr.m0 (za (pv 0) (za (pv 3) zd))))) (zg (zm (zy (za (jc T.c_NOT_THE_BENCH_LINES) zd)))) (jb))
   (zc (zn (i:=4) zmi.nd rfl (Or.inl rfl) (zy (za (jc T.c_DONE) zd)))
   (zc (jt z3v rfl (jo (je (ze9 T) hr.m0 (za (pv 0) (za (pv 3) zd)))) (zt (i:=5) zmi.nd rfl (Or.inl rfl))
    (zc (Z6 (i:=6) rfl zmi.nd rfl rfl (Qc rfl rfl rfl rfl) (jo (pv 5)) (jq (own:=[("x",7),("y",8)]) rfl) (λ_ _ _ _ _=>(pg2 K (i:=7) (j:=8) rfl rfl zmi.nd rfl rfl (Or.inl rfl) (Or.inl rfl))) (λ_ _ _ _ _=>q0) (λ_ _ _ _ _=>(Qi (pv 0) T.cB.cl (Zg T) hr.m0 (za (pv 7) (za (pv 8) zd)))))
    (zg (yb (xp z3y z5t z5s Z4 (pv 4) (za (jd xy (jd xy (qv qh rfl T.list (by decide+kernel) (za (zu zw (pv 5) zi (λ_ _=>rfl)) zd)) (zy (za (ji jj rfl T.b_len z4z (za (pv 5) zd)) zd))) (Qi (pv 0) T.cB.cl (Y0 T) hr.m0 (za (pv 6) zd))) zd))))))
   (zg (zm (pv 4)))))),?_⟩
  refine⟨_,rfl,ls,_,_,_,rfl,rfl,zx.of hls,zk (j:=0) rfl,?_⟩;refine⟨_,rfl,_,rfl,a,q,b,L,rfl,B,hq,by omega,λH1 s1=>?_⟩;refine⟨_,rfl,?_⟩;refine jr (λe=>?_) (λe=>?_)
  ·have e:=Gd (by simpa using e);refine⟨(by show 1<=sizeLine;decide),λr hr=>yz hT k s1 hr [-3] rfl ?_ (by decide)⟩;unfold ofBench
   try dsimp only
   rw[z3m e]
  ·obtain⟨e1,e2⟩:=Vv (b:=b) (l:=L) (by simpa using e);refine⟨(by show 1<=sizeLine;decide),λan han=>?_⟩;have s2:zh H1 (upd H1 an (.lst [V.int 0])):=zh.upd han;have p2:(upd H1 an (.lst [V.int 0])) an=some (.lst (([(0:Int)]:List Int).map V.int)):=zb;generalize (upd H1 an (.lst [V.int 0]))=H2 at s2 p2 ⊢;have s02:=s1.trans s2;have nan:H an=none:=jv s1 han;refine⟨_,rfl,_,rfl,a,q,b,L,rfl,B.same s02,s02 _ _ hq,e1,λH3 r qs pcs s3 hr3 hpc epc=>?_⟩;refine⟨r,rfl,⟨_,zx.of hr3⟩,?_⟩;have p3:=s3 _ _ p2;have s03:=s02.trans s3;have ral:r≠an:=(ja p3 hr3 (Y9 _ _)).symm;have ql:qs.length=pcs.length:=z39 hpc;have pl56:pcs.length<=56:=by
    have:(Vbmiab.pieces b L).length<=(j1 b L).length:=by
     rw[zb7];exact z5u _ _
    rw[<-epc,z25]at this;have:=Jj b L;omega
   have keepP:∀ H',(∀ x o,x≠an->H3 x=some o->H' x=some o)->∀{qa x},zk3 H3 (j1 b L) qa x->zk3 H' (j1 b L) qa x:=λH' h qa x hp=>by
    refine hp.keep λbb o hb e=>h bb o ?_ e;rcases hb with ⟨r,rfl⟩|⟨rfl,_⟩
    ·exact (ja p3 e (by intro z;cases z)).symm
    ·obtain⟨as,h1,_⟩:=hp;exact (ja p3 h1 (Y9 _ _)).symm
   refine vm (n:=qs.length) (λi σ H'=>∃(v5 v6 v7 v8:Option V),σ=[some (.ref a),some (.ref pl),some (.ref ls),some (.ref q),some (.ref an),v5,v6,v7,v8]/\(∀ x o,x≠an->H3 x=some o->H' x=some o)/\H' an=some (.lst ((0::(pcs.take i).flatMap λx=>Vbmiab.ints (Q9 b x.1 x.2)).map V.int))) ⟨_,_,_,_,rfl,λ_ _ _ e=>e,p3⟩ ?_ ?_ ?_
   ·rintro i σ H' hi ⟨v5,v6,v7,v8,rfl,k3,ha'⟩;exact⟨_,_,zx.of (k3 _ _ ral hr3),by rw[z27,z28 hi];rfl⟩
   ·rintro i σ H' x H4 D' hi ⟨v5,v6,v7,v8,rfl,k3,ha'⟩ ⟨rfl,hx⟩ ea;have e0:qs[i]? =some qs[i]:=z28 hi;generalize qs[i]=qa at e0;have ex:=hx _ (zx.of (k3 _ _ ral hr3));rw[z27,e0]at ex;cases ex;obtain⟨pc,ep,hp⟩:=y9 hpc e0;obtain⟨as,ha1,ha2,ha3,ha4,ha5⟩:=keepP _ k3 hp;obtain⟨pc1,cells⟩:=pc
    try dsimp only at ha1 ha2 ha3 ha4 ha5
    have B4:zq CB H4 a b:=by
     obtain⟨dx,lw,lk,lm,lt,Bx⟩:=B;have kk:zh H H4:=λy o e=>k3 y o (zf e nan) (s03 _ _ e);exact⟨dx,lw,lk,lm,lt,Bx.same kk⟩
    have asl:as.length=cells.length:=by
     have:=ha2.len
     rwa [z25]at this
    refine⟨_,rfl,qa,rfl,⟨_,zx.of ha1⟩,λD hD=>?_⟩;refine zrg (n:=cells.length) (λi=>(cells[i]?).bind λc=>some (vN (Vbmiab.place b c.1 c.2))) hD (z36 (zp (by omega))) (λj H' hj sm=>?_) (λj H' x H5 Nt Nf hj sm y hN hF=>?_) (λH5 s5 h5=>?_)
    ·exact⟨_,_,zx.of (sm _ _ ha1),by rw[z27,z28 (by omega)];rfl⟩
    ·obtain⟨rfl,hx2⟩:=y;obtain⟨c,hc⟩:∃ c,cells[j]? =some c:=⟨_,z28 hj⟩;obtain⟨t,ht1,ht2⟩:=Rows.at' (i:=j) ha2 (by rw[z27,hc];rfl);have ex:=hx2 _ (zx.of (sm _ _ ha1));rw[z27,ht1]at ex;cases ex;refine⟨t,_,rfl,yw.of (sm _ _ ht2),rfl,_,_,rfl,_,_,rfl,rfl,rfl,?_⟩;refine⟨_,rfl,a,b,rfl,B4.same sm,_,rfl,_,rfl,a,b,c.1,c.2,rfl,B4.same sm,?_⟩;exact hN _ _ (zh.refl _) (by rw[hc];rfl)
    ·refine⟨⟨_,zx.of (s5 _ _ ha1),by rw[z25];omega⟩,?_⟩;have eo:(List.range cells.length).filterMap (λi=>(cells[i]?).bind λc=>some (vN (Vbmiab.place b c.1 c.2)))=(cells.map λc=>Vbmiab.place b c.1 c.2).map vN:=by
      rw[Kc (λc:Nat×Nat=>some (vN (Vbmiab.place b c.1 c.2))),z45,z4f];rfl
     rw[eo]at h5;obtain⟨t0,ht01,ht02⟩:=Rows.at' (i:=0) (r:=cV pc1) ha2 (by rw[z27,<-List.head?_eq_getElem?,ha3];rfl);have a5:=s5 _ _ ha';have B5:=B4.same s5;refine⟨_,rfl,.inl ⟨rfl,_,zx.of a5⟩,?_⟩;refine⟨_,rfl,qa,_,_,_,rfl,rfl,zx.of (s5 _ _ ha1),zk (j:=0) (by rw[z27,ht01];rfl),?_⟩;refine⟨t0,_,rfl,.inr (yw.of (s5 _ _ ht02)),λl1 hl1=>?_⟩;have s6:zh H5 (upd H5 l1 (.lst (cV pc1))):=zh.upd hl1;have h6:(upd H5 l1 (.lst (cV pc1))) l1=some (.lst (cV pc1)):=zb;generalize (upd H5 l1 (.lst (cV pc1)))=H6 at s6 h6 ⊢;refine⟨_,rfl,qa,_,rfl,.inl (zx.of (s6 _ _ (s5 _ _ ha1))),(by show 1<=sizeLine;decide),λl2 hl2=>?_⟩;refine⟨l1,l2,_,_,rfl,rfl,(zh.upd hl2) _ _ h6,zb,(by show 3<=sizeLine;decide),λl3 hl3=>?_⟩;rw[z25,asl]at hl3 ⊢;generalize eH7:(upd (upd H6 l2 _) l3 _)=H7;have s7:zh H6 H7:=eH7▸(zh.upd hl2).trans (zh.upd hl3);have h7:H7 l3=_:=eH7▸zb;have s57:=s6.trans s7;refine⟨_,rfl,a,b,rfl,B5.same s57,_,rfl,a,D,b,_,rfl,B5.same s57,s57 _ _ h5,λj hj=>?_,?_,λH8 l4 s8 h8=>?_⟩
     ·obtain⟨c,hc,rfl⟩:=z4h.mp hj;have:=kx (Ua.mp (ha5 c hc));exact Yg gd this.1 this.2
     ·rw[z25];omega
     ·refine⟨l3,l4,_,_,rfl,rfl,s8 _ _ h7,h8,(by show 5<=sizeLine;decide),λl5 hl5=>?_⟩;generalize eH9:(upd H8 l5 _)=H9;have s9:zh H8 H9:=eH9▸zh.upd hl5;have h9:H9 l5=_:=eH9▸zb;have sa:=(s57.trans s8).trans s9;refine⟨an,l5,_,_,rfl,rfl,sa _ _ a5,h9,?_,?_⟩
      ·rw[z25,z3l,J4,z35];exact z36 (zp (by show _+5<=1000;omega))
      ·refine ea.nx _ _ ⟨_,_,_,_,rfl,λx o nx e=>?_,?_⟩
       ·rw[ze nx];exact sa _ _ (s5 _ _ (k3 _ _ nx e))
       ·rw[zb,z97,ep,z9d,z5r,z3n,z3n,z3g,z69,zhw];rfl
   ·rintro σ H' ⟨v5,v6,v7,v8,rfl,k3,ha'⟩;refine⟨⟨_,zx.of (k3 _ _ ral hr3),by rw[z25];exact z3c _⟩,?_⟩;rw[ql,z4s]at ha';have sH:zh H H':=λy o e=>k3 y o (zf e nan) (s03 _ _ e);refine⟨_,rfl,k _ an _ (j8.of sH) (hT.same sH) ((j8.of (zh.refl H)).new nan) ha' ?_ ?_⟩
    ·unfold ofBench
     try dsimp only
     rw[z3k e2,Y4,<-epc,List.flatMap_map]
    ·rw[z3l,J4];omega
theorem Wv (T:qf K mg CB CR CC)(U:zap K mg):xo P w K mg base "tell_outlines" 6 ["bench","plain","lists"] (Yr CB tb 13):=by
 refine T.f_tell_outlines.con λf fd F=>F.ok zps (λ_ _ _ _ h=>?_) (λ_ A _ s H vs Q E hr h=>?_)
 ·obtain⟨a,pl,ls,b,c,qs,_,_,_,_,_,rfl,_⟩:=h;rfl
 ·obtain⟨a,pl,ls,b,c,qs,rfl,B,G0,hc,hT,k⟩:=Yr.tells h λb c e hf=>qc b hf (by rw[e];decide);obtain⟨l,q,rfl,rfl,hq⟩:=G0.one hc rfl rfl;have hls:=G0.ls;obtain⟨l8,el,l127⟩:=X5 (p:=0) G0.ok;rw[el]at hq;have nl:=Zb l;have ea:(ofBench b (yh ⟨13,[],[l]⟩)).2=(ofBench b (.outlines (nats l))).2:=rfl;rw[ea]at k;generalize nats l=L at hq l127 nl k;have gd:=B.good;have g8:=gd.ny8;have g56:=wf gd;refine⟨_,zc (zn (i:=3) zps.nd rfl (Or.inl rfl) (zu zw (pv 2) zi (λ_ _=>rfl)))
   (zc (ju (qk (j4 (je (wz T) hr.m0 (za (pv 0) (za (pv 3) zd))))) (zg (zm (zy (za (jc T.c_NOT_THE_BENCH_LINES) zd)))) (jb))
   (zc (zn (i:=4) zps.nd rfl (Or.inl rfl) (zy (za (jc T.c_DONE) zd)))
   (zc (jt z3v rfl (jo (je (za0 T U) hr.m0 (za (pv 0) (za (pv 3) zd)))) (zt (i:=5) zps.nd rfl (Or.inl rfl))
    (zc (yb (xp z3y z4k z4j yo (pv 4) (za (ji jj rfl T.b_len z4z (za (pv 5) zd)) zd)))
    (zg (jt z3v rfl (jo (pv 5)) (zt (i:=6) zps.nd rfl (Or.inl rfl))
     (zg (yb (xp z3y z5t z5s U9 (pv 4) (za (pv 6) zd))))))))
   (zg (zm (pv 4)))))),?_⟩
  refine⟨_,rfl,ls,_,_,_,rfl,rfl,zx.of hls,zk (j:=0) rfl,?_⟩;refine⟨_,rfl,_,rfl,a,q,b,L,rfl,B,hq,by omega,λH1 s1=>?_⟩;refine⟨_,rfl,?_⟩;refine jr (λe=>?_) (λe=>?_)
  ·have e:=Gd (by simpa using e);refine⟨(by show 1<=sizeLine;decide),λr hr=>yz hT k s1 hr [-3] rfl ?_ (by decide)⟩;unfold ofBench
   try dsimp only
   rw[z3m e]
  ·obtain⟨e1,e2⟩:=Vv (b:=b) (l:=L) (by simpa using e);refine⟨(by show 1<=sizeLine;decide),λan han=>?_⟩;have s2:zh H1 (upd H1 an (.lst [V.int 0])):=zh.upd han;have p2:(upd H1 an (.lst [V.int 0])) an=some (.lst (([(0:Int)]:List Int).map V.int)):=zb;generalize (upd H1 an (.lst [V.int 0]))=H2 at s2 p2 ⊢;have s02:=s1.trans s2;have nan:H an=none:=jv s1 han;refine⟨_,rfl,_,rfl,a,q,b,L,rfl,B.same s02,s02 _ _ hq,e1,λH3 r qs s3 hr3 hol q500=>?_⟩;refine⟨r,rfl,⟨_,zx.of hr3⟩,?_⟩;have p3:=s3 _ _ p2;have s03:=s02.trans s3;have ral:r≠an:=(ja p3 hr3 (Y9 _ _)).symm;have osum:=zdt b L;have o4:4*b.nx*b.ny<=224:=by rw[z8k];omega
   have eans:(ofBench b (.outlines L)).2=0::(Vbmiab.outlines b L).flatMap oL:=by
    unfold ofBench
    try dsimp only
    have ef:(λx:List (Nat×Nat)=>Vbmiab.ints (x.length::x.flatMap λp=>[p.1,p.2]))=oL:=funext zre;rw[z3k e2,Y4,ef]
   rw[eans]at k;generalize Vbmiab.outlines b L=rs at hol osum k;have ql:qs.length=rs.length:=z39 hol;have tot:=zkc rs;have keepP:∀ H',(∀ x o,x≠an->H3 x=some o->H' x=some o)->∀{qa x},zao H3 qa x->zao H' qa x:=λH' h qa x hp=>by
    obtain⟨cs,h1,h2,h3⟩:=hp;exact⟨cs,h _ _ (ja p3 h1 (Y9 _ _)).symm h1,h2.keep λy r e=>h _ _ (ja p3 e (by intro z;cases z)).symm e,h3⟩
   refine vm (n:=qs.length) (λi σ H'=>∃(v5 v6:Option V),σ=[some (.ref a),some (.ref pl),some (.ref ls),some (.ref q),some (.ref an),v5,v6]/\(∀ x o,x≠an->H3 x=some o->H' x=some o)/\H' an=some (.lst ((0::(rs.take i).flatMap oL).map V.int))) ⟨_,_,rfl,λ_ _ _ e=>e,p3⟩ ?_ ?_ ?_
   ·rintro i σ H' hi ⟨v5,v6,rfl,k3,ha'⟩;exact⟨_,_,zx.of (k3 _ _ ral hr3),by rw[z27,z28 hi];rfl⟩
   ·rintro i σ H' x H4 D' hi ⟨v5,v6,rfl,k3,ha'⟩ ⟨rfl,hx⟩ ea;have e0:qs[i]? =some qs[i]:=z28 hi;generalize qs[i]=qa at e0;have ex:=hx _ (zx.of (k3 _ _ ral hr3));rw[z27,e0]at ex;cases ex;obtain⟨rr,ep,hp⟩:=y9 hol e0;obtain⟨cs,ha1,ha2,ha3⟩:=keepP _ k3 hp;have csl:cs.length=rr.length:=by
     have:=ha2.len
     rwa [z25]at this
    have t1:=zdh oL rs (i+1);rw[xc oL ep,z3a,zoy]at t1;have qan:qa≠an:=(ja ha' ha1 (Y9 _ _)).symm;refine⟨_,rfl,.inl ⟨rfl,_,zx.of ha'⟩,_,rfl,qa,_,rfl,.inl (zx.of ha1),an,_,_,rfl,rfl,ha',?_,?_⟩
    ·rw[z25,z3l];exact zp (by omega)
    refine⟨_,rfl,qa,rfl,⟨_,zx.of (by rw[ze qan];exact ha1)⟩,?_⟩;refine vm (n:=cs.length) (λj σ H'=>∃(v6:Option V),σ=[some (.ref a),some (.ref pl),some (.ref ls),some (.ref q),some (.ref an),some (.ref qa),v6]/\(∀ x o,x≠an->H4 x=some o->H' x=some o)/\H' an=some (.lst ((0::((rs.take i).flatMap oL++(rr.length:Int)::(rr.take j).flatMap λp=>[(p.1:Int),(p.2:Int)])).map V.int))) ⟨_,rfl,λy o n e=>by rw[ze n];exact e,?_⟩ ?_ ?_ ?_
    ·rw[zb,z25,csl,z3n,z3n,z3g,z69];rfl
    ·rintro j σ H' hj ⟨v6,rfl,k4,ha4⟩;exact⟨_,_,zx.of (k4 _ _ qan ha1),by rw[z27,z28 hj];rfl⟩
    ·rintro j σ H' x H5 D2 hj ⟨v6,rfl,k4,ha4⟩ ⟨rfl,hx⟩ eb;obtain⟨cc,hc⟩:∃ c,rr[j]? =some c:=⟨_,z28 (by omega)⟩;obtain⟨t,ht1,ht2⟩:=Rows.at' (i:=j) ha2 (by rw[z27,hc];rfl);have ex:=hx _ (zx.of (k4 _ _ qan ha1));rw[z27,ht1]at ex;cases ex;have tan:t≠an:=(ja ha' ht2 (by intro z;cases z)).symm;refine⟨_,rfl,.inl ⟨rfl,_,zx.of ha4⟩,_,rfl,an,t,_,_,rfl,rfl,ha4,yw.of (k4 _ _ tan ht2),?_,?_⟩
     ·rw[z25,z3l,z3a,z3l,ka,z35];exact z36 (zp (by show _+2<=1000;omega))
     ·refine eb.nx _ _ ⟨_,rfl,λy o n e=>by rw[ze n];exact k4 _ _ n e,?_⟩;rw[zb,xc _ hc];simp only[z3n,z3g,z69,z4d];rfl
    ·rintro σ H' ⟨v6,rfl,k4,ha4⟩;refine⟨⟨_,zx.of (k4 _ _ qan ha1),by rw[z25];exact z3c _⟩,?_⟩;rw[csl,z4s]at ha4;refine ea.nx _ _ ⟨_,_,rfl,λy o n e=>k4 _ _ n (k3 _ _ n e),?_⟩;rw[ha4,xc oL ep];rfl
   ·rintro σ H' ⟨v5,v6,rfl,k3,ha'⟩;refine⟨⟨_,zx.of (k3 _ _ ral hr3),by rw[z25];exact z3c _⟩,?_⟩;rw[ql,z4s]at ha';have sH:zh H H':=λy o e=>k3 y o (zf e nan) (s03 _ _ e);refine⟨_,rfl,k _ an _ (j8.of sH) (hT.same sH) ((j8.of (zh.refl H)).new nan) ha' rfl ?_⟩;rw[z3l];omega
theorem zav (T:qf K mg CB CR CC):xo P w K mg base "fill_rounds" 4 ["bench","plain","lists"] (Yr CB tb 14):=by
 refine T.f_fill_rounds.con λf fd F=>F.ok zr3 (λ_ _ _ _ h=>?_) (λ_ A _ s H vs Q E hr h=>?_)
 ·obtain⟨a,pl,ls,b,c,qs,_,_,_,_,_,rfl,_⟩:=h;rfl
 ·obtain⟨a,pl,ls,b,c,qs,rfl,B,G0,hc,hT,k⟩:=Yr.tells h λb c e hf=>qc b hf (by rw[e];decide);obtain⟨l,q,rfl,rfl,hq⟩:=G0.one hc rfl rfl;have hls:=G0.ls;have ok:(true&&(inL l (0,((500:Nat):Int),0,500)&&true))=true:=G0.ok;rw[z4n,z4o]at ok;obtain⟨l5,el,lm⟩:=zdj ok;rw[el]at hq;have nl:=Zb l;have ea:(ofBench b (yh ⟨14,[],[l]⟩)).2=(ofBench b (.fill (nats l))).2:=rfl;rw[ea]at k;have l500:∀ x,x∈nats l->x<=500:=λx hx=>by have:=lm x hx;omega
  generalize nats l=L at hq l500 nl k;have gd:=B.good;have g8:=gd.ny8;refine⟨_,zc (zn (i:=3) zr3.nd rfl (Or.inl rfl) (je (za1 T) hr.m0 (za (zu zw (pv 2) zi (λ_ _=>rfl)) zd)))
   (zc (ju (jh Gj (pv 3) Zv (jl _)) (zg (zm (zy (za (jc T.c_NOT_ROUNDS) zd)))) (jb))
   (zc (ju (qk (j4 (ji (zhs rfl) rfl T.b_all (by decide+kernel) (za (ko rfl zr3.nd (jo (pv 3)) (jq (own:=[("corners",4)]) rfl) (λ_ _ _ _ _=>(zt (i:=4) zr3.nd rfl (Or.inl rfl))) (λ_ _ _ _ _=>q0) (λ_ _ _ _ _=>(je (zax T) hr.m0 (za (pv 0) (za (pv 4) zd))))) zd)))) (zg (zm (zy (za (jc T.c_WRONG_ROUND) zd)))) (jb))
   (zg (zm (jd xy (zy (za (jc T.c_DONE) zd)) (je (Uq T) hr.m0 (za (pv 0) (za (pv 3) zd)))))))),?_⟩
  refine⟨_,rfl,ls,_,_,_,rfl,rfl,zx.of hls,zk (j:=0) rfl,q,L,rfl,hq,by omega,l500,λhn H1 s1=>?_,λrs hrs H1 r qs s1 hr1 hol h4 hcn=>?_⟩
  ·refine⟨_,rfl,rfl,_,rfl,?_⟩;refine jr (λ_=>?_) (λe=>absurd (z3u rfl) e);refine⟨(by show 1<=sizeLine;decide),λr hr=>yz hT k s1 hr [-5] rfl ?_ (by decide)⟩;unfold ofBench
   try dsimp only
   rw[hn]
  ·refine⟨_,rfl,rfl,_,rfl,?_⟩;refine jr (λe=>absurd (z30 e) (by intro z;cases z)) (λ_=>?_);refine⟨_,rfl,r,rfl,⟨_,zx.of hr1⟩,λD hD=>?_⟩;have ql:qs.length=rs.length:=z39 hol;have rl:rs.length<=500:=by
    refine z32 ?_ hcn;clear hol hrs k ql hr1 hcn
    induction rs with
    |nil=>exact z4c _
    |cons r rs ih=>
     have:=ih λx hx=>h4 x (z3d _ hx);have:=h4 r z3e;unfold yy at*;simp only[z3n,z6b,z3l]at*;omega
   refine zrg (n:=rs.length) (λi=>(rs[i]?).bind λr=>some (V.bl (Vbmiab.isRound b r))) hD (z36 (zp (by omega))) (λj H' hj sm=>?_) (λj H' x H5 Nt Nf hj sm y hN hF=>?_) (λH5 s5 h5=>?_)
   ·exact⟨_,_,zx.of (sm _ _ hr1),by rw[z27,z28 (by omega)];rfl⟩
   ·obtain⟨rfl,hx2⟩:=y;have e0:qs[j]? =some qs[j]:=z28 (by omega);generalize qs[j]=qa at e0;have ex:=hx2 _ (zx.of (sm _ _ hr1));rw[z27,e0]at ex;cases ex;obtain⟨rr,ep,hp⟩:=y9 hol e0;obtain⟨cs,ha1,ha2,ha3⟩:=hp.same sm;have:=h4 rr (z3r ep);refine⟨rfl,?_⟩;refine⟨_,rfl,_,rfl,a,qa,b,cs,rr,rfl,B.same (s1.trans sm),ha1,ha2,by omega,ha3,λH6 s6=>?_⟩;exact hN _ _ s6 (by rw[ep];rfl)
   ·refine⟨⟨_,zx.of (s5 _ _ hr1),by rw[z25];omega⟩,?_⟩;have eo:(List.range rs.length).filterMap (λi=>(rs[i]?).bind λr=>some (V.bl (Vbmiab.isRound b r)))=(rs.map (Vbmiab.isRound b)).map V.bl:=by
     rw[Kc (λr=>some (V.bl (Vbmiab.isRound b r))),z45,z4f];rfl
    rw[eo]at h5;refine⟨D,rs.map (Vbmiab.isRound b),rfl,zx.of h5,?_⟩;refine⟨_,rfl,?_⟩;rw[z81];have s05:=s1.trans s5;have eal:(rs.all (id∘Vbmiab.isRound b))=rs.all (Vbmiab.isRound b):=rfl;refine jr (λe=>?_) (λe=>?_)
    ·have e:rs.all (Vbmiab.isRound b)=false:=by
      rw[z5e]at e;exact e
     refine⟨(by show 1<=sizeLine;decide),λr hr=>yz hT k s05 hr [-6] rfl ?_ (by decide)⟩;unfold ofBench
     try dsimp only
     rw[hrs]
     try dsimp only
     rw[z3m e]
    ·have e:¬rs.all (Vbmiab.isRound b)=false:=by
      rw[z5e]at e;exact e
     refine⟨(by show 1<=sizeLine;decide),λp hp=>?_⟩;have s6:zh H5 (upd H5 p (.lst [V.int 0])):=zh.upd hp;have p6:(upd H5 p (.lst [V.int 0])) p=some (.lst [V.int 0]):=zb;generalize (upd H5 p (.lst [V.int 0]))=H6 at s6 p6 ⊢;have s16:=s5.trans s6;refine⟨_,rfl,_,rfl,a,r,b,qs,rs,rfl,B.same (s1.trans s16),s16 _ _ hr1,jk hol (λ_ _ _ h=>h.same s16),(λr hr=>by have:=h4 r hr;omega),hcn,λH7 l7 s7 h7=>?_⟩;have fl:(Vbmiab.filled b rs).length=b.ny:=by
      unfold Vbmiab.filled Vbmiab.ys
      try dsimp only
      rw[z25,z4q]
     refine⟨p,l7,_,_,rfl,rfl,s7 _ _ p6,h7,?_,λr hr=>?_⟩
     ·rw[z25];exact z36 (zp (by show 1+_<=1000;omega))
     ·refine yz hT k ((s1.trans s16).trans s7) hr (0::Vbmiab.ints (Vbmiab.filled b rs)) ?_ ?_ ?_
      ·rw[z3n,Y3];rfl
      ·unfold ofBench
       try dsimp only
       rw[hrs]
       try dsimp only
       rw[z3k e]
      ·rw[z3l,Uz];omega
theorem zfh (T:qf K mg CB CR CC):xo P w K mg base "tell_runs" 4 ["bench","plain","lists"] (Yr CB tb 15):=by
 refine T.f_tell_runs.con λf fd F=>F.ok zr4 (λ_ _ _ _ h=>?_) (λ_ A _ s H vs Q E hr h=>?_)
 ·obtain⟨a,pl,ls,b,c,qs,_,_,_,_,_,rfl,_⟩:=h;rfl
 ·obtain⟨a,pl,ls,b,c,qs,rfl,B,G0,hc,hT,k⟩:=Yr.tells h λb c e hf=>qc b hf (by rw[e];decide);obtain⟨zs,hz,rfl,hpl⟩:=G0.none hc rfl;obtain⟨y,rfl⟩:=Qg hz;have ok:((xb y (0,127)&&true)&&true)=true:=G0.ok;simp only[z4o]at ok;obtain⟨p,rfl,_⟩:=j7 ok (z5x _);have gd:=B.good;have g8:=gd.ny8;have g7:=gd.nx7;have gp:1<=2 ^ b.nx:=z9e (by simp);have eans:(ofBench b (yh ⟨15,[(p:Int)],[]⟩)).2=(ofBench b (.runs p)).2:=by
   show (ofBench b (.runs (p:Int).toNat)).2=_;rw[z3i]
  rw[eans]at k;refine⟨_,zc (zn (i:=3) zr4.nd rfl (Or.inl rfl) (zu zw (pv 1) zi (λ_ _=>rfl)))
   (zc (ju (jh V4 (pv 3) (zv6 (pv 0) T.cB.cl (zcy T) hr.m0) (jl _)) (zg (zm (zy (za (jc T.c_NOT_THE_BENCH_LINES) zd)))) (jb))
   (zc (zn (i:=4) zr4.nd rfl (Or.inl rfl) (zy (za (jc T.c_DONE) (za (Yd (j4 (je (znj T) hr.m0 (za (pv 3) (za (Jt (·.nx) T.cB.cl T.cB.nx (pv 0)) (za (pbl yl T.cB.cl T.cB.widths ki.lw (pv 0) zi) (za (pbl yl T.cB.cl T.cB.widths ki.lw (pv 0) zi) zd)))))) zi zi) zd))))
   (zc (jt z3v rfl (jo (je (znl T) hr.m0 (za (pv 3) (za (Jt (·.nx) T.cB.cl T.cB.nx (pv 0)) zd)))) (zt (i:=5) zr4.nd rfl (Or.inl rfl))
    (zg (yb (xp z3y z5t z5s U9 (pv 4) (za (pv 5) zd)))))
   (zg (zm (pv 4)))))),?_⟩
  refine⟨_,rfl,pl,_,_,_,rfl,rfl,zx.of hpl,zk (j:=0) rfl,?_⟩;refine⟨_,rfl,_,rfl,a,b,rfl,B,a,b,rfl,B,_,_,rfl,rfl,_,rfl,?_⟩;refine jr (λe=>?_) (λe=>?_)
  ·have e:2 ^ b.nx<=p:=by
    have:=z30 e;omega
   refine⟨(by show 1<=sizeLine;decide),λr hr=>yz hT k (zh.refl _) hr [-3] rfl ?_ (by decide)⟩;unfold ofBench
   try dsimp only
   rw[z3m e]
  ·have e:¬2 ^ b.nx<=p:=λz=>e (z3u (by omega));unfold zgr zi2 zmq zyz Q5 tC
   try dsimp only
   refine zuy ?_;refine⟨_,rfl,_,rfl,a,b,rfl,B,_,rfl,a,b,rfl,B,zh.refl _,0,_,rfl,rfl,_,rfl,a,b,rfl,B,zh.refl _,1,_,rfl,rfl,p,b.nx,b.ore,b.waste,rfl,gd.nx0,g7,λH1 s1=>?_⟩;refine⟨_,rfl,?_⟩
   try dsimp only
   rw[<-zge b p gd.nx0];have eb:(if Vbmiab.rowOk b p=true then V.int 1 else V.int 0)=V.int ((Vbmiab.rowOk b p).toNat:Int):=by
    cases Vbmiab.rowOk b p<;>rfl
   rw[eb];refine⟨(by show 2<=sizeLine;decide),λan han=>?_⟩;have s2:zh H1 (upd H1 an (.lst [V.int 0,V.int ((Vbmiab.rowOk b p).toNat:Int)])):=zh.upd han;have p2:(upd H1 an (.lst [V.int 0,V.int ((Vbmiab.rowOk b p).toNat:Int)])) an=some (.lst (([(0:Int),((Vbmiab.rowOk b p).toNat:Int)]:List Int).map V.int)):=zb;generalize (upd H1 an (.lst [V.int 0,V.int ((Vbmiab.rowOk b p).toNat:Int)]))=H2 at s2 p2 ⊢;have s02:=s1.trans s2;have nan:H an=none:=jv s1 han;refine⟨_,rfl,_,rfl,a,b,rfl,B.same s02,p,b.nx,rfl,gd.nx0,g7,λH3 r as s3 nr hr3 hrw=>?_⟩;refine⟨r,rfl,⟨_,zx.of hr3⟩,?_⟩;have p3:=s3 _ _ p2;have s03:=s02.trans s3;have ral:r≠an:=(ja p3 hr3 (Y9 _ _)).symm;have rl:=zkm p b.nx 0;have eans2:(ofBench b (.runs p)).2=0::((Vbmiab.rowOk b p).toNat:Int)::(Vbmiab.runsFrom p b.nx 0).flatMap rnL:=by
    unfold ofBench
    try dsimp only
    rw[z3k e,Y4];rfl
   rw[eans2]at k;generalize Vbmiab.runsFrom p b.nx 0=rs at hrw rl k;have al:as.length=rs.length:=by
    have:=hrw.len
    rwa [z25]at this
   refine vm (n:=as.length) (λi σ H'=>∃(v5:Option V),σ=[some (.ref a),some (.ref pl),some (.ref ls),some (vN p),some (.ref an),v5]/\(∀ x o,x≠an->H3 x=some o->H' x=some o)/\H' an=some (.lst ((0::((Vbmiab.rowOk b p).toNat:Int)::(rs.take i).flatMap rnL).map V.int))) ⟨_,rfl,λ_ _ _ e=>e,p3⟩ ?_ ?_ ?_
   ·rintro i σ H' hi ⟨v5,rfl,k3,ha'⟩;exact⟨_,_,zx.of (k3 _ _ ral hr3),by rw[z27,z28 hi];rfl⟩
   ·rintro i σ H' x H4 D' hi ⟨v5,rfl,k3,ha'⟩ ⟨rfl,hx⟩ ea;obtain⟨cc,hc⟩:∃ c,rs[i]? =some c:=⟨_,z28 (by omega)⟩;obtain⟨t,ht1,ht2⟩:=Rows.at' (i:=i) hrw (by rw[z27,hc];rfl);have ex:=hx _ (zx.of (k3 _ _ ral hr3));rw[z27,ht1]at ex;cases ex;have tan:t≠an:=(ja p3 ht2 (by intro z;cases z)).symm;refine⟨_,rfl,.inl ⟨rfl,_,zx.of ha'⟩,_,rfl,an,t,_,_,rfl,rfl,ha',yw.of (k3 _ _ tan ht2),?_,?_⟩
    ·rw[z25,z3l,z3l,zd6,z35];exact z36 (zp (by show _+3<=1000;omega))
    ·refine ea.nx _ _ ⟨_,rfl,λy o n e=>by rw[ze n];exact k3 _ _ n e,?_⟩;rw[zb,xc _ hc];simp only[z3n,z3g,z69,z4d];rfl
   ·rintro σ H' ⟨v5,rfl,k3,ha'⟩;refine⟨⟨_,zx.of (k3 _ _ ral hr3),by rw[z25];exact z3c _⟩,?_⟩;rw[al,z4s]at ha';have sH:zh H H':=λy o e=>k3 y o (zf e nan) (s03 _ _ e);refine⟨_,rfl,k _ an _ (j8.of sH) (hT.same sH) ((j8.of (zh.refl H)).new nan) ha' rfl ?_⟩;rw[z3l,z3l,zd6];omega
theorem za2 (T:qf K mg CB CR CC):xo P w K mg base "tell_forced" 9 ["bench","plain","lists"] (Yr CB tb 16):=by
 refine T.f_tell_forced.con λf fd F=>F.ok zyj (λ_ _ _ _ h=>?_) (λ_ A _ s H vs Q E hr h=>?_)
 ·obtain⟨a,pl,ls,b,c,qs,_,_,_,_,_,rfl,_⟩:=h;rfl
 ·obtain⟨a,pl,ls,b,c,qs,rfl,B,G0,hc,hT,k⟩:=Yr.tells h λb c e hf=>qc b hf (by rw[e];decide);obtain⟨zs,hz,rfl,hpl⟩:=G0.none hc rfl;obtain⟨x,y,kd,rfl⟩:=U4 hz;have ok:((xb x (0,6)&&(xb y (0,7)&&(xb kd (1,2)&&true)))&&true)=true:=G0.ok;simp only[z4o,z3f]at ok;obtain⟨X,rfl,_⟩:=j7 ok.1 (z5x _);obtain⟨Y,rfl,_⟩:=j7 ok.2.1 (z5x _);obtain⟨D,rfl,hD2,_⟩:=j7 ok.2.2 (by decide);have gd:=B.good;have eans:(ofBench b (yh ⟨16,[(X:Int),(Y:Int),(D:Int)],[]⟩)).2=(ofBench b (.forced X Y D)).2:=by
   show (ofBench b (.forced (X:Int).toNat (Y:Int).toNat (D:Int).toNat)).2=_;rw[z3i,z3i,z3i]
  rw[eans]at k;refine⟨_,zc (ju (qk (j4 (Qi (pv 0) T.cB.cl (Xv T) hr.m0 (za (zu zw (pv 1) zi (λ_ _=>rfl)) (za (zu zw (pv 1) zi (λ_ _=>rfl)) zd))))) (zg (zm (zy (za (jc T.c_NOT_ON_BENCH) zd)))) (jb))
   (zc (zn (i:=3) zyj.nd rfl (Or.inl rfl) (je (zc1 T) hr.m0 (za (je (zfi T) hr.m0 (za (pv 0) (za (Qi (pv 0) T.cB.cl (Zg T) hr.m0 (za (zu zw (pv 1) zi (λ_ _=>rfl)) (za (zu zw (pv 1) zi (λ_ _=>rfl)) zd))) (za (zu zw (pv 1) zi (λ_ _=>rfl)) zd)))) zd)))
   (zc (ju (jh Gj (pv 3) Zv (jl _)) (zg (zm (zy (za (jc T.c_NO_LINES) zd)))) (jb))
   (zg (zm (zy (za (jc T.c_DONE) (za (pv 3) zd))))))),?_⟩
  refine⟨_,rfl,a,b,rfl,B,_,rfl,pl,_,_,_,rfl,rfl,zx.of hpl,zk (j:=0) rfl,_,rfl,pl,_,_,_,rfl,rfl,zx.of hpl,zk (j:=1) rfl,a,b,X,Y,rfl,B,?_⟩;refine⟨_,rfl,?_⟩;refine jr (λe=>?_) (λe=>?_)
  ·have e:b.nx<=X\/b.ny<=Y:=Gi e;refine⟨(by show 1<=sizeLine;decide),λr hr=>yz hT k (zh.refl _) hr [-2] rfl ?_ (by decide)⟩;unfold ofBench
   try dsimp only
   rw[z3m e]
  ·obtain⟨hx,hy⟩:=zf5 e;have hlt:=Yg gd hx hy;rw[gd.cl,<-gd.fl]at hlt;refine⟨_,rfl,_,rfl,a,b,rfl,B,_,rfl,pl,_,_,_,rfl,rfl,zx.of hpl,zk (j:=0) rfl,_,rfl,pl,_,_,_,rfl,rfl,zx.of hpl,zk (j:=1) rfl,a,b,X,Y,rfl,B,?_⟩;refine⟨_,rfl,pl,_,_,_,rfl,rfl,zx.of hpl,zk (j:=2) rfl,a,b,Vbmiab.place b X Y,D,rfl,B,hlt,by omega,λH1 bb s1 B1=>?_⟩;refine⟨bb,_,rfl,B1,λH2 s2=>?_⟩;have e0:Xh b (Vbmiab.place b X Y) D=Vbmiab.withFixed b X Y D:=rfl;rw[e0];have ea:(ofBench b (.forced X Y D)).2=match Vbmiab.best (Vbmiab.withFixed b X Y D) with
     |none=>[-4]
     |some v=>[0,v]:=by
    unfold ofBench
    try dsimp only
    rw[z3k (by omega)];cases Vbmiab.best (Vbmiab.withFixed b X Y D)<;>rfl
   rw[ea]at k;cases eb:Vbmiab.best (Vbmiab.withFixed b X Y D) with
   |none=>
    rw[eb]at k;refine⟨_,rfl,rfl,_,rfl,?_⟩;refine jr (λ_=>?_) (λe=>absurd (z3u rfl) e);exact⟨(by show 1<=sizeLine;decide),λr hr=>yz hT k (s1.trans s2) hr [-4] rfl rfl (by decide)⟩
   |some v=>
    rw[eb]at k;refine⟨_,rfl,rfl,_,rfl,?_⟩;refine jr (λe=>absurd (z30 e) (by intro z;cases z)) (λ_=>?_);exact⟨_,rfl,(by show 2<=sizeLine;decide),λr hr=>yz hT k (s1.trans s2) hr [0,v] rfl rfl (by show 2<=1000;decide)⟩
theorem zc7 (T:qf K mg CB CR CC):xo P w K mg base "tell_bench" 1 ["bench","plain","lists"] (Yr CB tb 17):=by
 refine T.f_tell_bench.con λf fd F=>F.ok zwe (λ_ _ _ _ h=>?_) (λ_ A _ s H vs Q E hr h=>?_)
 ·obtain⟨a,pl,ls,b,c,qs,_,_,_,_,_,rfl,_⟩:=h;rfl
 ·obtain⟨a,pl,ls,b,c,qs,rfl,⟨dx,lw,lk,lm,lt,BB⟩,G0,hc,hT,k⟩:=Yr.tells h λb c e hf=>qc b hf (by rw[e];decide);have B:zq CB H a b:=⟨dx,lw,lk,lm,lt,BB⟩;obtain⟨zs,hz,rfl,hpl⟩:=G0.none hc rfl;obtain rfl:=vd hz;have gd:=B.good;have g56:=wf gd;have gcl:=gd.cl;have gfl:=gd.fl;refine⟨_,zc (zn (i:=3) zwe.nd rfl (Or.inl rfl) (jd xy (zy (za (jc T.c_DONE) (za (Jt (·.nx) T.cB.cl T.cB.nx (pv 0)) (za (Jt (·.ny) T.cB.cl T.cB.ny (pv 0)) (za (Jt (·.price) T.cB.cl T.cB.price (pv 0)) (za (Jt (·.cost) T.cB.cl T.cB.cost (pv 0)) (za (Jt (·.dump) T.cB.cl T.cB.dumping (pv 0)) zd))))))) (pbr zws T.cB.cl T.cB.widths (pv 0))))
   (zc (jt z3v rfl (zv9 rfl T.b_zip (za (pbr zwq T.cB.cl T.cB.kilograms (pv 0)) (za (pbr zwr T.cB.cl T.cB.metal (pv 0)) zd))) (pg2 K (i:=4) (j:=5) rfl rfl zwe.nd rfl rfl (Or.inl rfl) (Or.inl rfl))
    (zg (yb (xp z3y z5t z5s Z4 (pv 3) (za (zy (za (pv 4) (za (pv 5) zd))) zd)))))
   (zg (zm (jd xy (pv 3) (pbr zsh T.cB.cl T.cB.told (pv 0)))))),?_⟩
  refine⟨_,rfl,a,b,rfl,B,_,rfl,a,b,rfl,B,_,rfl,a,b,rfl,B,_,rfl,a,b,rfl,B,_,rfl,a,b,rfl,B,(by show 6<=sizeLine;decide),λp hp=>?_⟩;refine⟨_,rfl,a,b,dx,lw,lk,lm,lt,rfl,BB.same (zh.upd hp),?_⟩;refine⟨p,lw,_,_,rfl,rfl,zb,(zh.upd hp) _ _ BB.w,(by show 9<=sizeLine;decide),λan han=>?_⟩;generalize eH2:(upd (upd H p _) an _)=H2;have s2:zh H H2:=eH2▸(zh.upd hp).trans (zh.upd han);have p2:H2 an=some (.lst (([0,(b.nx:Int),(b.ny:Int),(b.price:Int),(b.cost:Int),(b.dump:Int),(b.ore:Int),(b.waste:Int),(b.neck:Int)]:List Int).map V.int)):=eH2▸zb;have nan:H an=none:=jv (zh.upd hp) han;have B2:=BB.same s2;refine⟨_,rfl,a,b,dx,lw,lk,lm,lt,rfl,B2,_,rfl,a,b,dx,lw,lk,lm,lt,rfl,B2,lk,lm,_,_,rfl,zx.of B2.k,zx.of B2.m,?_⟩;have cl1:(yr b).length=b.cells.length:=z25 _;have cl2:(j5 b).length=b.cells.length:=z25 _;refine vm (n:=b.cells.length) (λi σ H'=>∃(v4 v5:Option V),σ=[some (.ref a),some (.ref pl),some (.ref ls),some (.ref an),v4,v5]/\zh H H'/\H' an=some (.lst (([0,(b.nx:Int),(b.ny:Int),(b.price:Int),(b.cost:Int),(b.dump:Int),(b.ore:Int),(b.waste:Int),(b.neck:Int)]++(b.cells.take i).flatMap λc=>[(c.mass:Int),(c.metal:Int)]).map V.int))) ⟨_,_,rfl,s2,p2⟩ ?_ ?_ ?_
  ·rintro i σ H' hi ⟨v4,v5,rfl,sm,ha'⟩;exact⟨_,_,_,_,zx.of (BB.same sm).k,zx.of (BB.same sm).m,z28 (by rw[cl1];exact hi),z28 (by rw[cl2];exact hi)⟩
  ·rintro i σ H' x H3 D' hi ⟨v4,v5,rfl,sm,ha'⟩ ⟨tt,x1,x2,rfl,htt,rfl,hx1,hx2⟩ ea;have e1:b.cells[i]? =some b.cells[i]:=z28 hi;generalize b.cells[i]=cc at e1;have ex1:=hx1 _ (zx.of (BB.same sm).k);unfold yr at ex1;rw[z27,e1]at ex1;have ex2:=hx2 _ (zx.of (BB.same sm).m);unfold j5 at ex2;rw[z27,e1]at ex2;cases ex1;cases ex2;have s4:zh H' (upd H' tt (.tup [vN cc.mass,vN cc.metal])):=zh.upd htt;have t4:(upd H' tt (.tup [vN cc.mass,vN cc.metal])) tt=some (.tup [vN cc.mass,vN cc.metal]):=zb;generalize (upd H' tt (.tup [vN cc.mass,vN cc.metal]))=H4 at s4 t4 ⊢;refine⟨tt,_,rfl,yw.of t4,rfl,_,_,rfl,_,_,rfl,rfl,?_⟩;refine⟨_,rfl,.inl ⟨rfl,_,zx.of (s4 _ _ ha')⟩,_,rfl,_,rfl,(by show 2<=sizeLine;decide),λla hla=>?_⟩;have s5:zh H4 (upd H4 la (.lst [vN cc.mass,vN cc.metal])):=zh.upd hla;have l5:(upd H4 la (.lst [vN cc.mass,vN cc.metal])) la=some (.lst [vN cc.mass,vN cc.metal]):=zb;generalize (upd H4 la (.lst [vN cc.mass,vN cc.metal]))=H5 at s5 l5 ⊢;have a5:=s5 _ _ (s4 _ _ ha');have s05:=s4.trans s5;refine⟨an,la,_,_,rfl,rfl,a5,l5,?_,?_⟩
   ·rw[z25,z3a,ka,z35];exact z36 (zp (by show 9+_+2<=1000;omega))
   ·refine ea.nx _ _ ⟨_,_,rfl,λx o e=>?_,?_⟩
    ·rw[ze (zf e nan)];exact s05 _ _ (sm _ _ e)
    ·rw[zb,xc _ e1];simp only[z3n,z3g,z69,z4d];rfl
  ·rintro σ H' ⟨v4,v5,rfl,sm,ha'⟩;refine⟨⟨_,_,zx.of (BB.same sm).k,zx.of (BB.same sm).m,.inl (by rw[cl1];exact z3c _)⟩,?_⟩;rw[z4s]at ha';have fl:(yt b).length=b.fixed.length:=z25 _;refine⟨_,rfl,_,rfl,a,b,dx,lw,lk,lm,lt,rfl,BB.same sm,an,lt,_,_,rfl,rfl,ha',(BB.same sm).t,?_,λr hr=>?_⟩
   ·rw[z25,z3a,ka,fl];exact z36 (zp (by show 9+_+_<=1000;omega))
   ·refine yz hT k sm hr ([0,(b.nx:Int),(b.ny:Int),(b.price:Int),(b.cost:Int),(b.dump:Int),(b.ore:Int),(b.waste:Int),(b.neck:Int)]++(b.cells.flatMap λc=>[(c.mass:Int),(c.metal:Int)])++Vbmiab.ints b.fixed) ?_ ?_ ?_
    ·simp only[z3g,Y3];rfl
    ·show (ofBench b .told).2=_;unfold ofBench
     try dsimp only
     rw[Y4];rfl
    ·rw[z3a,z3a,ka,Uz];show 9+_+_<=1000;omega
theorem zas (T:qf K mg CB CR CC):xo P w K mg base "change_cell" 2 ["bench","plain","lists"] (Yr CB tb 2):=by
 refine T.f_change_cell.con λf fd F=>F.ok sc2 (λ_ _ _ _ h=>?_) (λ_ A _ s H vs Q E hr h=>?_)
 ·obtain⟨a,pl,ls,b,c,qs,_,_,_,_,_,rfl,_⟩:=h;rfl
 ·obtain⟨a,pl,ls,b,c,qs,dx,lw,lk,lm,lt,rfl,BB,G,hc,hT,⟨n1,n2,n3⟩,k⟩:=h;obtain⟨zs,hz,rfl,hpl⟩:=G.none hc rfl;obtain⟨x,y,m,t,rfl⟩:=zvt hz;have ok:((xb x (0,6)&&(xb y (0,7)&&(xb m (0,1000000000)&&(xb t (0,1000000000)&&true))))&&true)=true:=G.ok;simp only[z4o,z3f]at ok;obtain⟨X,rfl,_⟩:=j7 ok.1 (z5x _);obtain⟨Y,rfl,_⟩:=j7 ok.2.1 (z5x _);obtain⟨M,rfl,hM,_⟩:=j7 ok.2.2.1 (z5x _);obtain⟨N,rfl,hN,_⟩:=j7 ok.2.2.2 (z5x _);have B:zq CB H a b:=⟨dx,lw,lk,lm,lt,BB⟩;refine⟨_,zc (ju (qk (j4 (Qi (pv 0) T.cB.cl (Xv T) hr.m0 (za (zu zw (pv 1) zi (λ_ _=>rfl)) (za (zu zw (pv 1) zi (λ_ _=>rfl)) zd))))) (zg (zm (zy (za (jc T.c_NOT_ON_BENCH) zd)))) (jb))
   (zc (zn (i:=3) sc2.nd rfl (Or.inl rfl) (Qi (pv 0) T.cB.cl (Zg T) hr.m0 (za (zu zw (pv 1) zi (λ_ _=>rfl)) (za (zu zw (pv 1) zi (λ_ _=>rfl)) zd))))
   (zc (zd0 (zu zw (pv 1) zi (λ_ _=>rfl)) (zdw (pbr zwq T.cB.cl T.cB.kilograms (pv 0)) (pv 3) Kt))
   (zc (zd0 (zu zw (pv 1) zi (λ_ _=>rfl)) (zdw (pbr zwr T.cB.cl T.cB.metal (pv 0)) (pv 3) Kt))
   (zg (zm (zy (za (jc T.c_DONE) zd))))))),?_⟩
  refine⟨_,rfl,a,b,rfl,B,_,rfl,pl,_,_,_,rfl,rfl,zx.of hpl,zk (j:=0) rfl,_,rfl,pl,_,_,_,rfl,rfl,zx.of hpl,zk (j:=1) rfl,a,b,X,Y,rfl,B,?_⟩;refine⟨_,rfl,?_⟩;have gd:=BB.good;have one:(1:Nat)<=sizeLine:=by decide
  refine jr (λe=>?_) (λe=>?_)
  ·have e:b.nx<=X\/b.ny<=Y:=Gi e;refine⟨one,λr hr=>Vf k (b':=b) (ans:=[-2]) ?_ BB (.inl rfl) (λx o h _ _ _ _=>h) hT (Dom.refl _) hr rfl (by decide)⟩;show ofBench b (.change (X:Int).toNat (Y:Int).toNat (M:Int).toNat (N:Int).toNat)=_;unfold ofBench
   try dsimp only
   rw[z3i,z3i,z3m e]
  ·obtain⟨hx,hy⟩:=zf5 e;have hc:=zda gd hx hy;have hlt:=(z3b.mp hc).1;refine⟨_,rfl,a,b,rfl,B,_,rfl,pl,_,_,_,rfl,rfl,zx.of hpl,zk (j:=0) rfl,_,rfl,pl,_,_,_,rfl,rfl,zx.of hpl,zk (j:=1) rfl,a,b,X,Y,rfl,B,?_⟩;refine⟨_,rfl,pl,_,_,_,rfl,rfl,zx.of hpl,zk (j:=2) rfl,?_⟩;refine⟨_,rfl,a,b,dx,lw,lk,lm,lt,rfl,BB,_,rfl,?_⟩;refine⟨lk,_,_,Vbmiab.place b X Y,rfl,rfl,BB.k,W6 (by unfold yr;rw[z25];exact hlt),?_⟩;generalize eI:Vbmiab.place b X Y=I at hc hlt ⊢;have cm:=gd.cm _ (z3r hc);generalize eH:upd H lk _=H1;have B1:ki CB H1 a (xx b I M (Vbmiab.cellAt b X Y).metal) dx lw lk lm lt:=by
    rw[<-eH];refine BB.setK (Ks gd I (by omega) cm.2) rfl rfl ?_ rfl ?_
    ·unfold j5 xx
     try dsimp only
     rw[z7t,zp1];rw[z27,hc];rfl
    ·unfold yr xx
     try dsimp only
     rw[z7t]
   have T1:wd tb H1:=eH▸hT.updL BB.k;have d1:Dom H H1:=eH▸(Dom.refl H).put _ _;have f1:∀ x o,H x=some o->x≠lk->H1 x=some o:=λx o h n=>by
    rw[<-eH,ze n];exact h
   have hpl1:=f1 _ _ hpl n1;have hlen:I < (j5 (xx b I M (Vbmiab.cellAt b X Y).metal)).length:=by
    unfold j5 xx;rw[z25,z72];exact hlt
   refine⟨_,rfl,pl,_,_,_,rfl,rfl,zx.of hpl1,zk (j:=3) rfl,?_⟩;refine⟨_,rfl,a,_,dx,lw,lk,lm,lt,rfl,B1,_,rfl,?_⟩;refine⟨lm,_,_,I,rfl,rfl,B1.m,W6 hlen,?_⟩;generalize eH2:upd H1 lm _=H2;have B2:ki CB H2 a (xx b I M N) dx lw lk lm lt:=by
    rw[<-eH2];refine B1.setM (b':=xx b I M N) (Ks gd I (by omega) (by omega)) rfl rfl ?_ rfl ?_
    ·unfold yr xx
     try dsimp only
     rw[z7t,z7t]
    ·unfold j5 xx
     try dsimp only
     rw[z7t,z7t,List.set_set]
   have T2:wd tb H2:=eH2▸T1.updL B1.m;have d2:Dom H H2:=eH2▸d1.put _ _;refine⟨one,λr hr=>Vf k (b':=xx b I M N) (ans:=[0]) ?_ B2 (.inl rfl) (λx o h _ q1 q2 _=>?_) T2 d2 hr rfl (by decide)⟩
   ·show ofBench b (.change (X:Int).toNat (Y:Int).toNat (M:Int).toNat (N:Int).toNat)=_;unfold ofBench
    try dsimp only
    rw[z3i,z3i,z3k (by omega)];show (xx b (Vbmiab.place b X Y) (M:Int).toNat (N:Int).toNat,[0])=_;rw[eI,z3i,z3i]
   ·rw[<-eH2,ze q2];exact f1 _ _ h q1
theorem zhf (T:qf K mg CB CR CC):xo P w K mg base "fix_cell" 2 ["bench","plain","lists"] (Yr CB tb 3):=by
 refine T.f_fix_cell.con λf fd F=>F.ok sc3 (λ_ _ _ _ h=>?_) (λ_ A _ s H vs Q E hr h=>?_)
 ·obtain⟨a,pl,ls,b,c,qs,_,_,_,_,_,rfl,_⟩:=h;rfl
 ·obtain⟨a,pl,ls,b,c,qs,dx,lw,lk,lm,lt,rfl,BB,G,hc,hT,⟨n1,n2,n3⟩,k⟩:=h;obtain⟨zs,hz,rfl,hpl⟩:=G.none hc rfl;obtain⟨x,y,m,rfl⟩:=U4 hz;have ok:((xb x (0,6)&&(xb y (0,7)&&(xb m (0,2)&&true)))&&true)=true:=G.ok;simp only[z4o,z3f]at ok;obtain⟨X,rfl,_⟩:=j7 ok.1 (z5x _);obtain⟨Y,rfl,_⟩:=j7 ok.2.1 (z5x _);obtain⟨M,rfl,hM,_⟩:=j7 ok.2.2 (z5x _);have B:zq CB H a b:=⟨dx,lw,lk,lm,lt,BB⟩;refine⟨_,zc (ju (qk (j4 (Qi (pv 0) T.cB.cl (Xv T) hr.m0 (za (zu zw (pv 1) zi (λ_ _=>rfl)) (za (zu zw (pv 1) zi (λ_ _=>rfl)) zd))))) (zg (zm (zy (za (jc T.c_NOT_ON_BENCH) zd)))) (jb))
   (zc (zn (i:=3) sc3.nd rfl (Or.inl rfl) (Qi (pv 0) T.cB.cl (Zg T) hr.m0 (za (zu zw (pv 1) zi (λ_ _=>rfl)) (za (zu zw (pv 1) zi (λ_ _=>rfl)) zd))))
   (zc (zn (i:=4) sc3.nd rfl (Or.inl rfl) (pbl yt T.cB.cl T.cB.told ki.lt (pv 0) (pv 3)))
   (zc (zd0 (zu zw (pv 1) zi (λ_ _=>rfl)) (zdw (pbr zsh T.cB.cl T.cB.told (pv 0)) (pv 3) Kt))
   (zg (zm (zy (za (jc T.c_DONE) (za (pv 4) zd)))))))),?_⟩
  refine⟨_,rfl,a,b,rfl,B,_,rfl,pl,_,_,_,rfl,rfl,zx.of hpl,zk (j:=0) rfl,_,rfl,pl,_,_,_,rfl,rfl,zx.of hpl,zk (j:=1) rfl,a,b,X,Y,rfl,B,?_⟩;refine⟨_,rfl,?_⟩;have gd:=BB.good;refine jr (λe=>?_) (λe=>?_)
  ·have e:b.nx<=X\/b.ny<=Y:=Gi e;refine⟨(by show 1<=sizeLine;decide),λr hr=>Vf k (b':=b) (ans:=[-2]) ?_ BB (.inl rfl) (λx o h _ _ _ _=>h) hT (Dom.refl _) hr rfl (by decide)⟩;show ofBench b (.fix (X:Int).toNat (Y:Int).toNat (M:Int).toNat)=_;unfold ofBench
   try dsimp only
   rw[z3i,z3i,z3m e]
  ·obtain⟨hx,hy⟩:=zf5 e;have hf:=zn7 gd hx hy;have hlt:=(z3b.mp hf).1;refine⟨_,rfl,a,b,rfl,B,_,rfl,pl,_,_,_,rfl,rfl,zx.of hpl,zk (j:=0) rfl,_,rfl,pl,_,_,_,rfl,rfl,zx.of hpl,zk (j:=1) rfl,a,b,X,Y,rfl,B,?_⟩;refine⟨_,rfl,a,b,rfl,B,_,rfl,zh.refl _,_,_,rfl,(by unfold yt;rw[z27,hf];rfl),?_⟩;refine⟨_,rfl,pl,_,_,_,rfl,rfl,zx.of hpl,zk (j:=2) rfl,?_⟩;refine⟨_,rfl,a,b,dx,lw,lk,lm,lt,rfl,BB,_,rfl,?_⟩;refine⟨lt,_,_,Vbmiab.place b X Y,rfl,rfl,BB.t,W6 (by unfold yt;rw[z25];exact hlt),?_⟩;generalize eH:upd H lt _=H1;have B1:ki CB H1 a (Xh b (Vbmiab.place b X Y) M) dx lw lk lm lt:=by
    rw[<-eH];exact BB.setT (V9 gd _ (by omega)) rfl rfl rfl rfl (zgd b _ M).symm
   refine⟨_,rfl,(by show 2<=sizeLine;decide),λr hr=>Vf k (b':=Xh b (Vbmiab.place b X Y) M) (ans:=[0,(Vbmiab.fixedAt b X Y:Int)]) ?_ B1 (.inl rfl) (λx o h _ _ _ q1=>?_) (eH▸hT.updL BB.t) (eH▸(Dom.refl H).put _ _) hr rfl (by show 2<=1000;decide)⟩
   ·show ofBench b (.fix (X:Int).toNat (Y:Int).toNat (M:Int).toNat)=_;unfold ofBench
    try dsimp only
    rw[z3i,z3i,z3k (by omega)];rfl
   ·rw[<-eH,ze q1];exact h
theorem zc6 (T:qf K mg CB CR CC):xo P w K mg base "set_widths" 1 ["bench","plain","lists"] (Yr CB tb 4):=by
 refine T.f_set_widths.con λf fd F=>F.ok sc4 (λ_ _ _ _ h=>?_) (λ_ A _ s H vs Q E hr h=>?_)
 ·obtain⟨a,pl,ls,b,c,qs,_,_,_,_,_,rfl,_⟩:=h;rfl
 ·obtain⟨a,pl,ls,b,c,qs,dx,lw,lk,lm,lt,rfl,BB,G,hc,hT,⟨n1,n2,n3⟩,k⟩:=h;obtain⟨zs,hz,rfl,hpl⟩:=G.none hc rfl;obtain⟨x,y,m,rfl⟩:=U4 hz;have ok:((xb x (1,7)&&(xb y (1,7)&&(xb m (1,7)&&true)))&&true)=true:=G.ok;simp only[z4o,z3f]at ok;obtain⟨X,rfl,hX,hX1⟩:=j7 ok.1 (by decide);obtain⟨Y,rfl,hY,hY1⟩:=j7 ok.2.1 (by decide);obtain⟨M,rfl,hM,hM1⟩:=j7 ok.2.2 (by decide);have gd:=BB.good;refine⟨_,zc (zn (i:=3) sc4.nd rfl (Or.inl rfl) (pbr zws T.cB.cl T.cB.widths (pv 0)))
   (zc (xg (pv 0) (qv qh rfl T.list (by decide+kernel) (za (pv 1) zd)) rfl)
   (zg (zm (jd xy (zy (za (jc T.c_DONE) zd)) (pv 3))))),?_⟩
  refine⟨_,rfl,a,b,dx,lw,lk,lm,lt,rfl,BB,?_⟩;refine⟨_,rfl,pl,_,rfl,.inl (zx.of hpl),λl3 n3=>?_⟩;have s1:zh H (upd H l3 (.lst (([X,Y,M]:List Int).map V.int))):=zh.upd n3;have e1:(upd H l3 (.lst (([X,Y,M]:List Int).map V.int))) l3=some (.lst (([X,Y,M]:List Int).map V.int)):=zb;have d1:Dom H (upd H l3 (.lst (([X,Y,M]:List Int).map V.int))):=(Dom.refl H).put _ _;generalize (upd H l3 (.lst (([X,Y,M]:List Int).map V.int)))=H1 at s1 e1 d1 ⊢;have B1:=BB.same s1;refine⟨_,rfl,a,CB,dx,_,rfl,B1.ins,T.cB.cl,T.cB.widths,(by show 9 < 1000;decide),?_⟩;have eb:xr "widths" (V.ref l3) (yx b lw lk lm lt)=yx {b with ore:=X,waste:=Y,neck:=M} l3 lk lm lt:=by
   unfold yx;rw[yk (by decide+kernel),yk (by decide+kernel),yk (by decide+kernel),yk (by decide+kernel),yk (by decide+kernel),Ue]
  rw[eb];have nl:∀{l:Addr}{xs:List V},H1 l=some (.lst xs)->l≠a:=λh=>ja h B1.ins (by intro q;cases q);have T2:=(hT.same s1).updI (o:=.ins CB dx (yx {b with ore:=X,waste:=Y,neck:=M} l3 lk lm lt)) B1.ins;have d2:=d1.put a (.ins CB dx (yx {b with ore:=X,waste:=Y,neck:=M} l3 lk lm lt));have B2:ki CB (upd H1 a (.ins CB dx (yx {b with ore:=X,waste:=Y,neck:=M} l3 lk lm lt))) a {b with ore:=X,waste:=Y,neck:=M} dx l3 lk lm lt:=by
   refine⟨zb,?_,?_,?_,?_,BB.km,BB.kt,BB.mt,(zf BB.k n3).symm,(zf BB.m n3).symm,(zf BB.t n3).symm,⟨gd.nx0,gd.nx7,gd.ny0,gd.ny8,gd.pr,gd.co,gd.du,?_,?_,?_,?_,?_,?_,gd.cl,gd.fl,gd.cm,gd.fx⟩⟩
   ·rw[ze (nl e1)];exact e1
   ·rw[ze (nl B1.k)];exact B1.k
   ·rw[ze (nl B1.m)];exact B1.m
   ·rw[ze (nl B1.t)];exact B1.t
   all_goals ((try dsimp only);omega)
  have w2:(upd H1 a (.ins CB dx (yx {b with ore:=X,waste:=Y,neck:=M} l3 lk lm lt))) lw=some (.lst (yl b)):=by
   rw[ze (nl B1.w)];exact B1.w
  have f2:∀ x o,H x=some o->x≠a->(upd H1 a (.ins CB dx (yx {b with ore:=X,waste:=Y,neck:=M} l3 lk lm lt))) x=some o:=λx o h n=>by
   rw[ze n];exact s1 _ _ h
  generalize (upd H1 a (.ins CB dx (yx {b with ore:=X,waste:=Y,neck:=M} l3 lk lm lt)))=H2 at T2 d2 B2 w2 f2 ⊢;refine⟨(by show 1<=sizeLine;decide),λp hp=>?_⟩;have s3:=zh.upd (o:=.lst [V.int 0]) hp;refine⟨_,rfl,p,lw,_,_,rfl,rfl,zb,s3 _ _ w2,(by show 4<=sizeLine;decide),λr hr=>?_⟩;refine Vf k (b':={b with ore:=X,waste:=Y,neck:=M}) (ans:=[0,b.ore,b.waste,b.neck]) ?_ (B2.same s3) (.inr n3) (λx o h q _ _ _=>s3 _ _ (f2 x o h q)) (T2.same s3) (d2.put _ _) hr rfl (by show 4<=1000;decide);rfl
theorem zfd (T:qf K mg CB CR CC):xo P w K mg base "set_price" 1 ["bench","plain","lists"] (Yr CB tb 5):=by
 refine T.f_set_price.con λf fd F=>F.ok sc5 (λ_ _ _ _ h=>?_) (λ_ A _ s H vs Q E hr h=>?_)
 ·obtain⟨a,pl,ls,b,c,qs,_,_,_,_,_,rfl,_⟩:=h;rfl
 ·obtain⟨a,pl,ls,b,c,qs,dx,lw,lk,lm,lt,rfl,BB,G,hc,hT,⟨n1,n2,n3⟩,k⟩:=h;obtain⟨zs,hz,rfl,hpl⟩:=G.none hc rfl;obtain⟨x,rfl⟩:=Qg hz;have ok:((xb x (0,1000000)&&true)&&true)=true:=G.ok;simp only[z4o]at ok;obtain⟨X,rfl,hX,_⟩:=j7 ok (z5x _);have gd:=BB.good;refine⟨_,zc (zn (i:=3) sc5.nd rfl (Or.inl rfl) (Jt (·.price) T.cB.cl T.cB.price (pv 0)))
   (zc (xg (pv 0) (zu zw (pv 1) zi (λ_ _=>rfl)) rfl)
   (zg (zm (zy (za (jc T.c_DONE) (za (pv 3) zd)))))),?_⟩
  refine⟨_,rfl,a,b,rfl,⟨dx,lw,lk,lm,lt,BB⟩,?_⟩;refine⟨_,rfl,pl,_,_,_,rfl,rfl,zx.of hpl,zk (j:=0) rfl,?_⟩;refine⟨_,rfl,a,CB,dx,_,rfl,BB.ins,T.cB.cl,T.cB.price,(by show 9 < 1000;decide),?_⟩;have eb:xr "price" (V.int X) (yx b lw lk lm lt)=yx {b with price:=X} lw lk lm lt:=by
   unfold yx;rw[yk (by decide+kernel),yk (by decide+kernel),Ue]
  rw[eb];have nl:∀{l:Addr}{xs:List V},H l=some (.lst xs)->l≠a:=λh=>ja h BB.ins (by intro q;cases q);have T2:=hT.updI (o:=.ins CB dx (yx {b with price:=X} lw lk lm lt)) BB.ins;have B2:ki CB (upd H a (.ins CB dx (yx {b with price:=X} lw lk lm lt))) a {b with price:=X} dx lw lk lm lt:=by
   refine⟨zb,?_,?_,?_,?_,BB.km,BB.kt,BB.mt,BB.wk,BB.wm,BB.wt,⟨gd.nx0,gd.nx7,gd.ny0,gd.ny8,?_,gd.co,gd.du,gd.o1,gd.o7,gd.w1,gd.w7,gd.n1,gd.n7,gd.cl,gd.fl,gd.cm,gd.fx⟩⟩
   ·rw[ze (nl BB.w)];exact BB.w
   ·rw[ze (nl BB.k)];exact BB.k
   ·rw[ze (nl BB.m)];exact BB.m
   ·rw[ze (nl BB.t)];exact BB.t
   ·dsimp only;omega
  refine⟨_,rfl,(by show 2<=sizeLine;decide),λr hr=>Vf k (b':={b with price:=X}) (ans:=[0,(b.price:Int)]) rfl B2 (.inl rfl) (λx o h q _ _ _=>?_) T2 ((Dom.refl H).put _ _) hr rfl (by show 2<=1000;decide)⟩;rw[ze q];exact h
end
section
variable {X:Cx}{x m:Str}{a C:Addr}{i e o:Expr}{es:List Expr}{kvs:List (j2×V)}{ta ty tx:TE}{t:TA}{p pos apos cpos:Pos}{k:Nat}{ps:List Str}{sp:Sp}
theorem zol {R:j2->V->Hp->Prop}{pins:List (Addr×Obj)}{s:Shared}{σ:L2.St}{H:Hp}(hg:Gl X x)(hm:X.mg x=some (.ref a))(D:Xo X.prog X.w X.K a kvs)(hi:PE X i ty)(hs:znb i)(hd:(x==("__debug__":Str))=false)(I:zz X pins σ H s)
  (h:ty σ H λy H1=>∃ k v,y=kV k/\ye kvs k=some v/\R k v H1):wpAny (model X.prog X.w) X.A (eval (.Subscript (.Name x p) i pos) X.env) (EP X pins σ λv H1=>∃ k,ye kvs k=some v/\R k v H1) X.xe s:=by
 refine Ug z66.lookup hs (yd ((vg (v:=.ref a) hg hm rfl hd) pins s σ H (λx H1=>x=.ref a/\H1=H) I ⟨rfl,rfl⟩) λu s1 ⟨x,H1,I1,rx,ex,eH⟩=>?_);subst ex eH;obtain rfl:u=Value.ref a:=rx;refine yd (hi pins s1 σ _ _ I1 h) λiv s2 ⟨y,H2,I2,ry,k,v,ey,ev,q2⟩=>?_;subst ey;obtain⟨vs,rel,dd⟩:=D.dd;have dd:=dd _ I2.kIn;obtain⟨w',hw,rw'⟩:=Zr.some_of (v:=v) (o:=valueAt vs k) (by rw[<-ev];exact rel.val k);exact⟨dd.typeIs,z85 (V0 ry) dd.mapOf hw ⟨v,H2,I2.tok _,rw',k,ev,q2⟩⟩
def zsv (kvs:List (j2×V))(ty:TE)(spf:j2->Sp)(t:TA):TE:=λσ H Q=>ty σ H λy H1=>∃ k f,y=kV k/\ye kvs k=some (.ref f)/\t σ H1 λvs H2=>spf k vs H2 Q E0
theorem zmc {spf:j2->Sp}(hg:Gl X x)(hm:X.mg x=some (.ref a))(D:Xo X.prog X.w X.K a kvs)(hi:PE X i ty)(hr:Room k X.A)(ha:PA X (e::es) t)
  (c:∀ kk f,ye kvs kk=some (.ref f)->∃ fd,PySem.W.keepIn X.K (.ref f)=true/\vi X.K fd ps []/\wx X.prog X.w X.K X.mg X.base CX0 k f fd ps (spf kk))
  (hs:znb i:=by exact λ_ _=>rfl)(hd:(x==("__debug__":Str))=false:=by decide)(he:starEach (e::es) X.env=(false,eval e X.env)::starEach es X.env:=by rfl)(hpl:(backTo cpos (starEach es X.env)).any (·.1)=false:=by rfl)
  (hv:eval (.Call (.Subscript (.Name x p) i pos) (e::es) [] cpos) X.env=(do callWith cpos (<-eval (.Subscript (.Name x p) i pos) X.env) [] (backTo cpos (starEach (e::es) X.env)) (backToKw cpos (keywordEach [] X.env))):=by rfl):
  PE X (.Call (.Subscript (.Name x p) i pos) (e::es) [] cpos) (zsv kvs ty spf t):=by
 intro pins s σ H Q I h;refine PyProof.Rows.Call_ (yd (zol (R:=λk v H1=>∃ f,v=.ref f/\t σ H1 λvs H2=>spf k vs H2 Q E0) hg hm D hi hs hd I ?_) λu s1 ⟨v,H1,I1,rv,kk,ek,f,ev,q⟩=>?_) hv
 ·have h':ty σ H λy H1=>∃ k f,y=kV k/\ye kvs k=some (.ref f)/\t σ H1 λvs H2=>spf k vs H2 Q E0:=h;have e1:(λy H1=>∃ k f,y=kV k/\ye kvs k=some (.ref f)/\t σ H1 λvs H2=>spf k vs H2 Q E0)=λy H1=>∃ k v,y=kV k/\ye kvs k=some v/\∃ f,v=.ref f/\t σ H1 λvs H2=>spf k vs H2 Q E0:=by
   funext y H1;apply propext;constructor
   ·rintro⟨k,f,e1,e2,q⟩;exact⟨k,.ref f,e1,e2,f,rfl,q⟩
   ·rintro⟨k,v,e1,e2,f,rfl,q⟩;exact⟨k,f,e1,e2,q⟩
  rw[<-e1];exact h'
 ·subst ev;obtain rfl:u=Value.ref f:=rv;obtain⟨fd,hk,hb,F⟩:=c kk f ek;refine z7f (h₀:=X.base) I1.ok.mod.kin hk (yd (ha cpos pins s1 σ H1 _ I1 q) λus s2 ⟨vs,H2,I2,r,q2⟩=>⟨I2.kIn,?_⟩) he hpl;exact Gx F hr hb .nil Gq I2 r (by rw[z31];exact q2)
end
theorem zxb {w:List Int}(h:inL w (3,3,1,7)=true):∃ x y z:Nat,w=[(x:Int),(y:Int),(z:Int)]/\(1<=x/\x<=7)/\(1<=y/\y<=7)/\(1<=z/\z<=7):=by
 unfold inL at h;rw[z3f]at h;obtain⟨h1,h2⟩:=h;have h1:=zh2 h1
 try dsimp only at h1
 obtain⟨x,y,z,rfl⟩:=U4 (l:=w) (by omega);rw[z6n,z6n,z6n,z3f,z3f,z3f]at h2
 try dsimp only at h2
 obtain⟨X,rfl,a1,a2⟩:=j7 h2.1 (by decide);obtain⟨Y,rfl,b1,b2⟩:=j7 h2.2.1 (by decide);obtain⟨Z,rfl,c1,c2⟩:=j7 h2.2.2.1 (by decide);exact⟨X,Y,Z,rfl,⟨by omega,by omega⟩,⟨by omega,by omega⟩,⟨by omega,by omega⟩⟩
def Gb (nx ny p c d x y z:Nat)(m t:List Nat):Vbmiab.Bench:=⟨nx,ny,p,c,d,x,y,z,(m.zip t).map λq=>⟨q.1,q.2⟩,List.replicate (nx*ny) 0⟩
theorem zl2 {nx ny p c d x y z:Nat}{m t:List Nat}(h1:1<=nx/\nx<=7)(h2:1<=ny/\ny<=8)(h3:p<=1000000)(h4:c<=1000000)(h5:d<=1000000)(h6:1<=x/\x<=7)(h7:1<=y/\y<=7)(h8:1<=z/\z<=7)
  (hm:m.length=nx*ny)(ht:t.length=nx*ny)(hm9:∀ v,v∈m->v<=1000000000)(ht9:∀ v,v∈t->v<=1000000000):kr (Gb nx ny p c d x y z m t):=
 ⟨h1.1,h1.2,h2.1,h2.2,h3,h4,h5,h6.1,h6.2,h7.1,h7.2,h8.1,h8.2,(by show ((m.zip t).map _).length=_;rw[z25,z60,hm,ht,Nat.min_self];rfl),z8y,λc hc=>by
  obtain⟨q,hq,rfl⟩:=z4h.mp hc;have:=z8x hq;exact⟨hm9 _ this.1,ht9 _ this.2⟩,λk hk=>by
  have:=jaj hk;omega⟩
theorem zl3 {nx ny p c d x y z:Nat}{m t:List Nat}(h:m.length=t.length):yr (Gb nx ny p c d x y z m t)=m.map vN:=by
 unfold yr Gb
 try dsimp only
 rw[z4f];have e:(λc:Vbmiab.Cell=>vN c.mass)∘(λq:Nat×Nat=>(⟨q.1,q.2⟩:Vbmiab.Cell))=vN∘Prod.fst:=rfl;rw[e,<-z4f,List.map_fst_zip (by omega)]
theorem zib {nx ny p c d x y z:Nat}{m t:List Nat}(h:m.length=t.length):j5 (Gb nx ny p c d x y z m t)=t.map vN:=by
 unfold j5 Gb
 try dsimp only
 rw[z4f];have e:(λc:Vbmiab.Cell=>vN c.metal)∘(λq:Nat×Nat=>(⟨q.1,q.2⟩:Vbmiab.Cell))=vN∘Prod.snd:=rfl;rw[e,<-z4f,List.map_snd_zip (by omega)]
def ctl (v:V):List (Str×V):=[("bench",v)]
inductive zet (C:Addr)(vs:List V)(H:Hp)(Q:VK):Prop
 |mk (z dz:Addr):vs=[.ref z]->H z=some (.ins C dz [])->Q .non (upd H z (.ins C dz (ctl .non)))->zet C vs H Q
def zsl (C:Addr):Sp:=λvs H Q _=>zet C vs H Q
def zr6:zo ["self"] ["self"] (zj zpk):=by walk_at "sc"
theorem zq4 (T:qf K mg CB CR CC):zbd P w K mg base CC 1 ["self"] (zsl CC):=by
 refine T.cInit.con λf fd F=>F.ok zr6 (λ_ _ _ _ h=>?_) (λ_ A _ s H vs Q E hr h=>?_)
 ·obtain⟨z,dz,rfl,_⟩:=h;rfl
 ·obtain⟨z,dz,rfl,hz,k⟩:=h;refine⟨_,zg (xg (pv 0) Zv rfl),?_⟩;refine⟨_,rfl,z,CC,dz,_,rfl,hz,T.cC.cl,T.cC.bench,(by show 0 < 1000;decide),?_⟩;exact k
inductive ztq (CB CC:Addr)(vs:List V)(H:Hp)(Q:VK):Prop
 |mk (z dz pl ls:Addr) (v:V) (c:jz) (qs:List Addr) (s:Vbmiab.State):vs=[.ref z,.ref pl,.ref ls]->H z=some (.ins CC dz (ctl v))->Vw H pl ls c qs->c.place=0->(∀(H':Hp) (r:Addr),Frm H z H'->H r=none->H' r=some (.lst ((Vbmiab.step s (yh c)).2.map V.int))->(Vbmiab.step s (yh c)).2.length<=1000->((Vbmiab.step s (yh c)).1=s/\H' z=H z\/∃ b a dx lw lk lm lt,(Vbmiab.step s (yh c)).1=some b/\H' z=some (.ins CC dz (ctl (.ref a)))/\ki CB H' a b dx lw lk lm lt/\H a=none/\H lw=none/\H lk=none/\H lm=none/\H lt=none)->Q (.ref r) H')->ztq CB CC vs H Q
def z02 (CB CC:Addr):Sp:=λvs H Q _=>ztq CB CC vs H Q
def sc0:zo ["control","plain","lists","nx","ny"] ["control","plain","lists"] (zj Wc):=by walk_at "sc"
theorem ze7 (T:qf K mg CB CR CC):xo P w K mg base "lay_bench" 3 ["control","plain","lists"] (z02 CB CC):=by
 refine T.f_lay_bench.con λf fd F=>F.ok sc0 (λ_ _ _ _ h=>?_) (λ_ A _ s H vs Q E hr h=>?_)
 ·obtain⟨z,dz,pl,ls,v,c,qs,s,rfl,_⟩:=h;rfl
 ·obtain⟨z,dz,pl,ls,v,c,qs,st,rfl,hz,G,hc,k⟩:=h;obtain⟨p,pls,lss⟩:=c;obtain rfl:p=0:=hc;have f1:=G.form.plain;have f2:=G.form.lists
  try dsimp only at f1 f2
  obtain⟨nx,ny,p,c,d,rfl⟩:=zyb f1;obtain⟨ws,m,t,rfl⟩:=U4 f2;have hpl:=G.pl;have hls:=G.ls;have hqs:=G.qs;obtain⟨qw,qm,qt,rfl⟩:=U4 ((z39 hqs).trans rfl);obtain⟨hw,hm,ht⟩:H qw=some (.lst (ws.map V.int))/\H qm=some (.lst (m.map V.int))/\H qt=some (.lst (t.map V.int)):=by
   cases hqs with
   |cons x1 r=>cases r with
    |cons x2 r=>cases r with
     |cons x3 _=>exact⟨x1,x2,x3⟩
  have ok:((xb nx (1,7)&&(xb ny (1,8)&&(xb p (0,1000000)&&(xb c (0,1000000)&&(xb d (0,1000000)&&true)))))&&(inL ws (3,3,1,7)&&(inL m (0,56,0,1000000000)&&(inL t (0,56,0,1000000000)&&true))))=true:=G.ok;simp only[z4o,z3f]at ok;obtain⟨⟨o1,o2,o3,o4,o5⟩,o6,o7,o8⟩:=ok;obtain⟨NX,rfl,a1,a2⟩:=j7 o1 (by decide);obtain⟨NY,rfl,b1,b2⟩:=j7 o2 (by decide);obtain⟨PR,rfl,c1,_⟩:=j7 o3 (by decide);obtain⟨CO,rfl,d1,_⟩:=j7 o4 (by decide);obtain⟨DU,rfl,e1,_⟩:=j7 o5 (by decide);obtain⟨WO,WW,WN,rfl,w1,w2,w3⟩:=zxb o6;obtain⟨m1,m2,m3⟩:=zdj o7;obtain⟨t1,t2,t3⟩:=zdj o8;have lm1:=Zb m;have lt1:=Zb t;rw[m2]at hm;rw[t2]at ht;have es:Vbmiab.step st (yh ⟨0,[(NX:Int),(NY:Int),(PR:Int),(CO:Int),(DU:Int)],[[(WO:Int),(WW:Int),(WN:Int)],m,t]⟩)=if ((nats m).length==NX*NY&&(nats t).length==NX*NY)=false then (st,[-7]) else (some (Gb NX NY PR CO DU WO WW WN (nats m) (nats t)),[0]):=rfl
  rw[es]at k;generalize nats m=M at m2 m3 hm k lm1;generalize nats t=N at t2 t3 ht k lt1;have hle:NX*NY<=56:=Nat.mul_le_mul (show NX<=7 by omega) (show NY<=8 by omega);refine⟨_,zc (zn (i:=3) sc0.nd rfl (Or.inl rfl) (zu zw (pv 1) zi (λ_ _=>rfl)))
   (zc (zn (i:=4) sc0.nd rfl (Or.inl rfl) (zu zw (pv 1) zi (λ_ _=>rfl)))
   (zc (ju (PW.pt (zca (jh zb5 (ji jj rfl T.b_len z4z (za (zu zw (pv 2) zi (λ_ _=>rfl)) zd)) (jd Zu (pv 3) (pv 4)) (jl _)) (Vo (jh zb5 (ji jj rfl T.b_len z4z (za (zu zw (pv 2) zi (λ_ _=>rfl)) zd)) (jd Zu (pv 3) (pv 4)) (jl _))))) (zg (zm (zy (za (jc T.c_WRONG_NUMBER_OF_CELLS) zd)))) (jb))
   (zc (xg (pv 0) (zb9 (zjr T) T.m_Bench hr.m0 (za (pv 3) (za (pv 4) (za (Ye Kw (pv 1) (Jm zi) zdz) (za (zu zw (pv 2) zi (λ_ _=>rfl)) (za (zu zw (pv 2) zi (λ_ _=>rfl)) (za (zu zw (pv 2) zi (λ_ _=>rfl)) zd))))))) rfl)
   (zg (zm (zy (za (jc T.c_DONE) zd))))))),?_⟩
  refine⟨_,rfl,pl,_,_,_,rfl,rfl,zx.of hpl,zk (j:=0) rfl,?_⟩;refine⟨_,rfl,pl,_,_,_,rfl,rfl,zx.of hpl,zk (j:=1) rfl,?_⟩;have e0:((NX:Int)*(NY:Int))=((NX*NY:Nat):Int):=by rw[z6m]
  have ne1:∀ L:List Nat,(!decide (V.int ((L.map vN).length:Int)=V.int ((NX:Int)*(NY:Int))))= !(L.length==NX*NY):=λL=>by
   rw[z25,e0];congr 1;rw[show (L.length==NX*NY)=decide (L.length=NX*NY) from rfl];exact yf ⟨λq=>by injection q with q;omega,λq=>by rw[q]⟩
  try dsimp only
  rw[wb,zi2,zgq];refine zgs (!(M.length==NX*NY)) (!(N.length==NX*NY)) (λQ' q=>?_) (λ_ Q' q=>?_) ?_
  ·refine⟨_,rfl,ls,_,_,_,rfl,rfl,zx.of hls,zk (j:=1) rfl,qm,_,rfl,.inl (zx.of hm),_,rfl,_,rfl,_,_,rfl,rfl,.inl ⟨by omega,by omega⟩,rfl,_,rfl,?_⟩;rw[ne1];exact q
  ·refine⟨_,rfl,ls,_,_,_,rfl,rfl,zx.of hls,zk (j:=2) rfl,qt,_,rfl,.inl (zx.of ht),_,rfl,_,rfl,_,_,rfl,rfl,.inl ⟨by omega,by omega⟩,rfl,_,rfl,?_⟩;rw[ne1];exact q
  rw[<-Bool.not_and];refine jr (λe=>?_) (λe=>?_)
  ·rw[z5e]at e;rw[z3m e]at k;refine⟨(by show 1<=sizeLine;decide),λr hr=>?_⟩;exact k _ r (λc o h _=>(zh.upd hr) _ _ h) hr zb (by show 1<=1000;decide) (.inl ⟨rfl,(zh.upd hr _ _ hz).trans hz.symm⟩)
  ·rw[z5e,z9r]at e;rw[z3k (by rw[e];decide)]at k;rw[z3f]at e;have eM:M.length=NX*NY:=eq_of_beq e.1;have eN:N.length=NX*NY:=eq_of_beq e.2;have gd:kr (Gb NX NY PR CO DU WO WW WN M N):=zl2 ⟨by omega,by omega⟩ ⟨by omega,by omega⟩ (by omega) (by omega) (by omega) w1 w2 w3 eM eN (λv hv=>by have:=m3 v hv;omega) (λv hv=>by have:=t3 v hv;omega);have eu:Yu (Gb NX NY PR CO DU WO WW WN M N)=Gb NX NY PR CO DU WO WW WN M N:=rfl;have em:=zl3 (nx:=NX) (ny:=NY) (p:=PR) (c:=CO) (d:=DU) (x:=WO) (y:=WW) (z:=WN) (eM.trans eN.symm);have en:=zib (nx:=NX) (ny:=NY) (p:=PR) (c:=CO) (d:=DU) (x:=WO) (y:=WW) (z:=WN) (eM.trans eN.symm);refine⟨_,rfl,_,rfl,_,rfl,2,rfl,?_⟩;refine⟨pl,_,rfl,zx.of hpl,λrt hrt=>?_⟩;have ec:Q7 (([(NX:Int),(NY:Int),(PR:Int),(CO:Int),(DU:Int)]:List Int).map V.int) (some 2) none=[vN PR,vN CO,vN DU]:=rfl;rw[ec];have s1:zh H (upd H rt (.lst [vN PR,vN CO,vN DU])):=zh.upd hrt;have r1:(upd H rt (.lst [vN PR,vN CO,vN DU])) rt=some (.lst [vN PR,vN CO,vN DU]):=zb;generalize (upd H rt (.lst [vN PR,vN CO,vN DU]))=H1 at s1 r1 ⊢;refine⟨_,rfl,ls,_,_,_,rfl,rfl,zx.of (s1 _ _ hls),zk (j:=0) rfl,_,rfl,ls,_,_,_,rfl,rfl,zx.of (s1 _ _ hls),zk (j:=1) rfl,_,rfl,ls,_,_,_,rfl,rfl,zx.of (s1 _ _ hls),zk (j:=2) rfl,?_⟩;intro x dx nx nd nxd;have keep:∀ c o,H1 c=some o->(upd (upd H1 dx (.own x)) x (.ins CB dx [])) c=some o:=λc o e=>by
    rw[ze (zf e nx),ze (zf e nd)];exact e
   refine⟨x,dx,rt,qw,qm,qt,Gb NX NY PR CO DU WO WW WN M N,rfl,gd,zb,keep _ _ r1,keep _ _ (s1 _ _ hw),(by rw[em];exact keep _ _ (s1 _ _ hm)),(by rw[en];exact keep _ _ (s1 _ _ ht)),λH2 lw lk lm lt B2 e1 e2 e3 e4 fr=>⟨rfl,?_⟩⟩;rw[eu]at B2;have s2:zh H1 H2:=λc o e=>fr c o (keep c o e) (zf e nx);have s3:=s1.trans s2;have z2:=s3 _ _ hz;have xz:x≠z:=λq=>by
    rw[q]at nx;rw[s1 _ _ hz]at nx;cases nx
   have fre:∀{l:Addr},(upd (upd H1 dx (.own x)) x (.ins CB dx [])) l=none->H l=none:=λ{l} h=>by
    refine jv s1 ?_;cases q:H1 l with
    |none=>rfl
    |some o=>
     rw[keep _ _ q]at h;cases h
   refine⟨_,rfl,z,CC,dz,_,rfl,z2,T.cC.cl,T.cC.bench,(by show 1 < 1000;decide),?_⟩;have eb:xr "bench" (V.ref x) (ctl v)=ctl (.ref x):=Ue;rw[eb];have nl:∀{l:Addr}{xs:List V},H2 l=some (.lst xs)->l≠z:=λh=>ja h z2 (by intro q;cases q);have B3:ki CB (upd H2 z (.ins CC dz (ctl (.ref x)))) x (Gb NX NY PR CO DU WO WW WN M N) dx lw lk lm lt:=by
    refine⟨?_,?_,?_,?_,?_,B2.km,B2.kt,B2.mt,B2.wk,B2.wm,B2.wt,gd⟩
    ·rw[ze xz];exact B2.ins
    ·rw[ze (nl B2.w)];exact B2.w
    ·rw[ze (nl B2.k)];exact B2.k
    ·rw[ze (nl B2.m)];exact B2.m
    ·rw[ze (nl B2.t)];exact B2.t
   have z3:(upd H2 z (.ins CC dz (ctl (.ref x)))) z=some (.ins CC dz (ctl (.ref x))):=zb;have f3:Frm H z (upd H2 z (.ins CC dz (ctl (.ref x)))):=λc o h n=>by
    rw[ze n];exact s3 _ _ h
   have n3:∀ r,(upd H2 z (.ins CC dz (ctl (.ref x)))) r=none->H r=none:=λr h=>by
    cases q:H r with
    |none=>rfl
    |some o=>
     by_cases e:r=z
     ·rw[e,zb]at h;cases h
     ·rw[f3 _ _ q e]at h;cases h
   generalize (upd H2 z (.ins CC dz (ctl (.ref x))))=H3 at B3 z3 f3 n3 ⊢;refine⟨(by show 1<=sizeLine;decide),λr hr=>?_⟩;have s4:=zh.upd (o:=.lst [V.int 0]) hr;exact k _ r (λc o h n=>s4 _ _ (f3 c o h n)) (n3 r hr) zb (by show 1<=1000;decide) (.inr ⟨_,x,dx,lw,lk,lm,lt,rfl,s4 _ _ z3,B3.same s4,jv s1 nx,fre e1,fre e2,fre e3,fre e4⟩)
def CSt (CB CC:Addr)(G H:Hp)(z dz:Addr):Vbmiab.State->Prop
 |none=>H z=some (.ins CC dz (ctl .non))
 |some b=>∃ a dx lw lk lm lt,H z=some (.ins CC dz (ctl (.ref a)))/\ki CB H a b dx lw lk lm lt/\G a=none/\G lw=none/\G lk=none/\G lm=none/\G lt=none
theorem CSt.same {CB CC:Addr}{G H H':Hp}{z dz:Addr}:∀{s:Vbmiab.State},CSt CB CC G H z dz s->zh H H'->CSt CB CC G H' z dz s
 |none,h,m=>m _ _ h
 |some b,⟨a,dx,lw,lk,lm,lt,hz,B,n⟩,m=>⟨a,dx,lw,lk,lm,lt,m _ _ hz,B.same m,n⟩
theorem CSt.ins {CB CC:Addr}{G H:Hp}{z dz:Addr}:∀{s:Vbmiab.State},CSt CB CC G H z dz s->∃ v,H z=some (.ins CC dz (ctl v))
 |none,h=>⟨_,h⟩
 |some b,⟨a,dx,lw,lk,lm,lt,hz,_⟩=>⟨_,hz⟩
def zxr (G:Hp):Prop:=∀ x ps,G x≠some (.tbl ps)
inductive ztc (CB CC tb:Addr)(vs:List V)(H:Hp)(Q:VK):Prop
 |mk (G:Hp) (z dz pl ls:Addr) (c:jz) (qs:List Addr) (s:Vbmiab.State):vs=[.ref z,vN c.place,.ref pl,.ref ls]->zh G H->zxr G->G z=none->CSt CB CC G H z dz s->wd tb H->((G pl=some (.lst (c.plain.map V.int))/\G ls=some (.lst (qs.map V.ref))/\Paired (λq (xs:List Int)=>G q=some (.lst (xs.map V.int))) qs c.lists/\c.Form/\∀ l,l∈c.lists->l.length<=500))->(∀(H':Hp) (r:Addr),zh G H'->CSt CB CC G H' z dz (qr s c).1->wd tb H'->G r=none->H' r=some (.lst ((qr s c).2.map V.int))->(qr s c).2.length<=1000->Q (.ref r) H')->ztc CB CC tb vs H Q
def z0p (CB CC tb:Addr):Sp:=λvs H Q _=>ztc CB CC tb vs H Q
theorem xo.at {x:Str}{k:Nat}{ps:List Str}{sp:Sp}(c:xo P w K mg base x k ps sp){f:Addr}(h:mg x=some (.ref f)){j:Nat}(hj:k<=j):∃ fd,PySem.W.keepIn K (.ref f)=true/\vi K fd ps []/\wx P w K mg base CX0 j f fd ps sp:=by
 obtain⟨f',fd,hm,hk,hb,F⟩:=c;rw[hm]at h;cases h;exact⟨fd,hk,hb,F.mono hj⟩
def spK (CB tb:Addr):j2->Sp
 | .inl p=>Yr CB tb p.toNat
 | .inr _=>λ_ _ _ _=>False
theorem znu (T:qf K mg CB CR CC)(U:zap K mg)(Lk:ze1 K mg base tb){p:Nat}(h1:1<=p)(h18:p < 18){f:Addr}(h:mg (Z2 p)=some (.ref f)):
  ∃ fd,PySem.W.keepIn K (.ref f)=true/\vi K fd ["bench","plain","lists"] []/\wx P w K mg base CX0 9 f fd ["bench","plain","lists"] (Yr CB tb p):=by
 match p,h1,h18,h with
 |1,_,_,h=>exact (zff T).at h (by decide)
 |2,_,_,h=>exact (zas T).at h (by decide)
 |3,_,_,h=>exact (zhf T).at h (by decide)
 |4,_,_,h=>exact (zc6 T).at h (by decide)
 |5,_,_,h=>exact (zfd T).at h (by decide)
 |6,_,_,h=>exact (zfe T Lk).at h (by decide)
 |7,_,_,h=>exact (zc9 T).at h (by decide)
 |8,_,_,h=>exact (zat T).at h (by decide)
 |9,_,_,h=>exact (zc8 T).at h (by decide)
 |10,_,_,h=>exact (zfg T).at h (by decide)
 |11,_,_,h=>exact (za3 T).at h (by decide)
 |12,_,_,h=>exact (za4 T).at h (by decide)
 |13,_,_,h=>exact (Wv T U).at h (by decide)
 |14,_,_,h=>exact (zav T).at h (by decide)
 |15,_,_,h=>exact (zfh T).at h (by decide)
 |16,_,_,h=>exact (za2 T).at h (by decide)
 |17,_,_,h=>exact (zc7 T).at h (by decide)
 |p+18,_,h18,_=>omega
def z0k:zo ["control","place","plain","lists"] ["control","place","plain","lists"] (zj Qm):=by walk_at "sc"
theorem zfj {c:jz}(h:c.Form)(h0:c.place≠0)(s:Vbmiab.State):Vbmiab.step s (yh c)=match s with|none=>(s,[-8])|some b=>(some (ofBench b (yh c)).1,(ofBench b (yh c)).2):=
 J8 (M:=λc=>c.place≠0->Vbmiab.step s (yh c)=match s with|none=>(s,[-8])|some b=>(some (ofBench b (yh c)).1,(ofBench b (yh c)).2)) (λ_ _ _ _ _ _ _ _ h=>absurd rfl h) (λ_ _ _=>rfl) (λ_ _ _ _ _=>rfl) (λ_ _ _ _=>rfl) (λ_ _ _ _=>rfl) (λ_ _=>rfl) (λ_=>rfl) (λ_ _=>rfl) (λ_ _=>rfl) (λ_=>rfl) (λ_=>rfl) (λ_ _=>rfl) (λ_ _=>rfl) (λ_ _=>rfl) (λ_ _=>rfl) (λ_ _=>rfl) (λ_ _ _ _=>rfl) (λ_=>rfl) h h0
theorem zar (T:qf K mg CB CR CC)(Dd:zbf P w K mg)(U:zap K mg)(Lk:ze1 K mg base tb):xo P w K mg base "answer_call" 10 ["control","place","plain","lists"] (z0p CB CC tb):=by
 refine T.f_answer_call.con λf fd F=>F.ok z0k (λ_ _ _ _ h=>?_) (λ_ A _ s H vs Q E hr h=>?_)
 ·obtain⟨G,z,dz,pl,ls,c,qs,s,rfl,_⟩:=h;rfl
 ·obtain⟨G,z,dz,pl,ls,c,qs,s,rfl,sG,nT,gz,C,hT,⟨gpl,gls,gqs,fm,l5⟩,k⟩:=h;obtain⟨kq,kvs,hm,KD,hall,hk⟩:=Dd.calls;refine⟨_,zc (ju (qk (j4 (je (zay T Dd) hr.m0 (za (pv 1) (za (pv 2) (za (pv 3) zd)))))) (zg (zm (zy (za (jc T.c_OUT_OF_RANGE) zd)))) jb)
   (zc (ju (jh Zm (pv 1) (jc T.c_BENCH_CALL) (jl _)) (zg (zm (je (ze7 T) hr.m0 (za (pv 0) (za (pv 2) (za (pv 3) zd)))))) jb)
   (zc (ju (jh Gj (Vk (pv 0) rfl) Zv (jl _)) (zg (zm (zy (za (jc T.c_NO_BENCH) zd)))) jb)
   (zg (zm (zmc (spf:=spK CB tb) (ps:=["bench","plain","lists"]) (k:=9) rfl hm KD (pv 1) hr.m0 (za (Vk (pv 0) rfl) (za (pv 2) (za (pv 3) zd))) ?c))))),?_⟩
  case c=>
   intro kk f h;obtain⟨p,h1,h18,rfl,hp⟩:=hk kk f h;exact znu T U Lk h1 h18 hp
  refine⟨_,rfl,_,rfl,_,rfl,pl,ls,c,qs,rfl,sG _ _ gpl,sG _ _ gls,jk gqs (λ_ _ _ e=>sG _ _ e),fm,l5,λH1 s1=>?_⟩;have sG1:=sG.trans s1;have C1:=C.same s1;have T1:=hT.same s1;refine⟨_,rfl,?_⟩;refine jr (λe=>?_) (λe=>?_)
  ·rw[z5e]at e;have es:qr s c=(s,[-1]):=by
    unfold qr;rw[e];rfl
   rw[es]at k;refine⟨(by show 1<=sizeLine;decide),λr hr=>?_⟩;have s2:=zh.upd (o:=.lst [V.int (-1)]) hr;exact k _ r (sG1.trans s2) (C1.same s2) (T1.same s2) (jv sG1 hr) zb (by show 1<=1000;decide)
  ·rw[z5e,z9r]at e;have es:qr s c=Vbmiab.step s (yh c):=by
    unfold qr;rw[z3m e]
   rw[es]at k;have G1:Vw H1 pl ls c qs:=⟨sG1 _ _ gpl,sG1 _ _ gls,jk gqs (λ_ _ _ e=>sG1 _ _ e),fm,e⟩;refine⟨_,rfl,rfl,_,rfl,?_⟩;refine jr (λe0=>?_) (λe0=>?_)
   ·have e0:c.place=0:=by
     have:=z30 e0;injection this with this
     omega
    obtain⟨v,hz⟩:=C1.ins;refine⟨_,rfl,_,rfl,_,rfl,z,dz,pl,ls,v,c,qs,s,rfl,hz,G1,e0,λH2 r fr hr0 hr2 hl hd=>?_⟩;have sG2:zh G H2:=λx o h=>fr _ _ (sG1 _ _ h) (zf h gz);have T2:wd tb H2:=by
     rcases T1 with T1|⟨cc,T1,u⟩
     ·exact .inl (fr _ _ T1 (ja T1 hz (by intro q;cases q)))
     ·exact .inr ⟨cc,fr _ _ T1 (ja T1 hz (by intro q;cases q)),fr _ _ u (ja u hz (by intro q;cases q))⟩
    refine k H2 r sG2 ?_ T2 (jv sG1 hr0) hr2 hl;rcases hd with ⟨e1,e2⟩|⟨b,a,dx,lw,lk,lm,lt,e1,e2,B2,n1,n2,n3,n4,n5⟩
    ·rw[e1];cases s with
     |none=>exact e2.trans C1
     |some b=>
      obtain⟨a,dx,lw,lk,lm,lt,hz1,B1,n⟩:=C1;have nl:∀{l:Addr}{xs:List V},H1 l=some (.lst xs)->l≠z:=λh=>ja h hz1 (by intro q;cases q);have na:a≠z:=ja B1.ins hz1 (by intro q;cases q);exact⟨a,dx,lw,lk,lm,lt,e2.trans hz1,⟨fr _ _ B1.ins na,fr _ _ B1.w (nl B1.w),fr _ _ B1.k (nl B1.k),fr _ _ B1.m (nl B1.m),fr _ _ B1.t (nl B1.t),B1.km,B1.kt,B1.mt,B1.wk,B1.wm,B1.wt,B1.good⟩,n⟩
    ·rw[e1];exact⟨a,dx,lw,lk,lm,lt,e2,B2,jv sG1 n1,jv sG1 n2,jv sG1 n3,jv sG1 n4,jv sG1 n5⟩
   ·have e0:c.place≠0:=λq=>by
     rw[q]at e0;exact e0 (z3u rfl)
    have h18:=fm.place;rw[zfj fm e0]at k;cases s with
    |none=>
     refine⟨_,rfl,z,CC,dz,_,_,rfl,C1,T.cC.cl,T.cC.bench,rfl,rfl,_,rfl,?_⟩;refine jr (λ_=>?_) (λq=>absurd (z3u rfl) q);refine⟨(by show 1<=sizeLine;decide),λr hr=>?_⟩;have s2:=zh.upd (o:=.lst [V.int (-8)]) hr;exact k _ r (sG1.trans s2) (C1.same s2) (T1.same s2) (jv sG1 hr) zb (by show 1<=1000;decide)
    |some b=>
     obtain⟨a,dx,lw,lk,lm,lt,hz1,B1,n1,n2,n3,n4,n5⟩:=C1;refine⟨_,rfl,z,CC,dz,_,_,rfl,hz1,T.cC.cl,T.cC.bench,rfl,rfl,_,rfl,?_⟩;refine jr (λq=>absurd (z30 q) (by intro z;cases z)) (λ_=>?_);obtain⟨fc,hfc⟩:=hall c.place (by omega) h18;refine⟨_,rfl,.inl (c.place:Int),fc,rfl,hfc,_,rfl,z,CC,dz,_,_,rfl,hz1,T.cC.cl,T.cC.bench,rfl,_,rfl,_,rfl,?_⟩;show Yr CB tb (c.place:Int).toNat _ _ _ E0;rw[z3i];have np:∀{l:Addr},G l=none->pl≠l:=λh=>zf gpl h;refine⟨a,pl,ls,b,c,qs,dx,lw,lk,lm,lt,rfl,B1,G1,rfl,T1,⟨np n3,np n4,np n5⟩,λH2 r lw' B2 hw fr T2 nr hr2 hl=>?_⟩;have sG2:zh G H2:=λx o h=>fr x o (sG1 _ _ h) (λps q=>nT x ps (by rw[h,q])) (zf h n1) (zf h n3) (zf h n4) (zf h n5);refine k H2 r sG2 ⟨a,dx,lw',lk,lm,lt,?_,B2,n1,?_,n3,n4,n5⟩ T2 ?_ hr2 hl
     ·have nl:∀{l:Addr}{xs:List V},H1 l=some (.lst xs)->z≠l:=λh=>ja hz1 h (by intro q;cases q);exact fr z _ hz1 (by intro _ q;cases q) (ja hz1 B1.ins (by intro q;cases q)) (nl B1.k) (nl B1.m) (nl B1.t)
     ·rcases hw with rfl|hw
      ·exact n2
      ·exact jv sG1 hw
     ·cases q:G r with
      |none=>rfl
      |some o=>exact (nr o (λps y=>nT r ps (by rw[q,y])) (sG1 _ _ q)).elim
def zcj:Vbmiab.State->List jz->List Int
 |_,[]=>[]
 |s,c::r=>((qr s c).2.length:Int)::((qr s c).2++zcj (qr s c).1 r)
theorem zkw:∀(rcs:List jz) (s:Vbmiab.State),(∀ c,c∈rcs->c.Form)->PyFlat.told (PyFlat.played VbmiabNeutral.step s (rcs.map jz.rows))=zcj s rcs
 |[],_,_=>rfl
 |c::r,s,h=>by
  have e:=zss (h c (z3e ..)) s;have ih:=zkw r (qr s c).1 λc hc=>h c (z3d _ hc);rw[z3n];show PyFlat.told ((VbmiabNeutral.step s c.rows).2::PyFlat.played VbmiabNeutral.step (VbmiabNeutral.step s c.rows).1 (r.map jz.rows))=_;rw[e];unfold PyFlat.told at ih ⊢;rw[z41,ih];rfl
theorem Vt:∀{rcs:List jz},(∀ c,c∈rcs->c.Form)->(rcs.map jz.rows).map PyVbmiab.whole=rcs.map jz.rows
 |[],_=>rfl
 |c::r,h=>by
  rw[z3n,z3n,zja (h c (z3e ..)),Vt λc hc=>h c (z3d _ hc)]
def noT (z:Addr)(H:Hp):Hp:=λx=>if x=z then none else match H x with
 |some (.tbl _)=>none
 |o=>o
theorem zkb {z:Addr}{H:Hp}{x:Addr}{o:HO}(h:H x=some o)(n:x≠z)(t:∀ ps,o≠.tbl ps):noT z H x=some o:=by
 unfold noT;rw[z3k n,h];split
 ·rename_i q;exact (t _ (z3p q)).elim
 ·rfl
theorem zox {z:Addr}{H:Hp}{x:Addr}{o:HO}(h:noT z H x=some o):x≠z/\H x=some o/\∀ ps,o≠.tbl ps:=by
 unfold noT at h;by_cases e:x=z
 ·rw[z3m e]at h;cases h
 ·rw[z3k e]at h;split at h
  ·cases h
  ·rename_i q;exact⟨e,h,λps y=>q ps (by rw[h,y])⟩
theorem CSt.put {CB CC:Addr}{G G' H:Hp}{z dz td:Addr}{o u:HO}(ht:G td=some u)(htz:z≠td)(hG:∀ x,G x=none->G' x=none):∀{s:Vbmiab.State},CSt CB CC G H z dz s->CSt CB CC G' (upd H td o) z dz s
 |none,h=>by
  show (upd H td o) z=_;rw[ze htz];exact h
 |some b,⟨a,dx,lw,lk,lm,lt,hz,B,n1,n2,n3,n4,n5⟩=>by
  have ne:∀{x:Addr},G x=none->x≠td:=λh=>(zf ht h).symm;refine⟨a,dx,lw,lk,lm,lt,by rw[ze htz];exact hz,⟨?_,?_,?_,?_,?_,B.km,B.kt,B.mt,B.wk,B.wm,B.wt,B.good⟩,hG _ n1,hG _ n2,hG _ n3,hG _ n4,hG _ n5⟩
  ·rw[ze (ne n1)];exact B.ins
  ·rw[ze (ne n2)];exact B.w
  ·rw[ze (ne n3)];exact B.k
  ·rw[ze (ne n4)];exact B.m
  ·rw[ze (ne n5)];exact B.t
theorem zqm {G:Hp}{td x:Addr}{o o':HO}(h:upd G td o x=none):upd G td o' x=none:=by
 by_cases e:x=td
 ·rw[e,zb]at h;cases h
 ·rw[ze e]at h ⊢;exact h
inductive zm7 (tb:Addr)(K:Fr)(vs:List V)(H:Hp)(Q:VK):Prop
 |mk (q:Addr) (l:List Int):vs=[.ref q]->zx K H q (l.map V.int)->PyVbmiab.answers_asked l=true->wd tb H->(∀(H':Hp) (r:Addr),H' r=some (.lst ((PyVbmiab.answers l).map V.int))->Q (.ref r) H')->zm7 tb K vs H Q
def zkr (tb:Addr)(K:Fr):Sp:=λvs H Q _=>zm7 tb K vs H Q
def zgi:zo ["calls","control","told","place","plain","lists","answer"] ["calls"] (zj wq):=by walk_at "sc"
theorem zih (T:qf K mg CB CR CC)(Dd:zbf P w K mg)(U:zap K mg)(Lk:ze1 K mg base tb){f:Addr}{fd:FuncData}(F:Fun K "answers" "answers" wq f fd):wx P w K mg base CX0 11 f fd ["calls"] (zkr tb K):=by
 refine F.ok zgi (λ_ _ _ _ h=>?_) (λ_ A _ s H vs Q E hr h=>?_)
 ·obtain⟨q,l,rfl,_⟩:=h;rfl
 ·obtain⟨q,l,rfl,hq,hask,hT,k⟩:=h;refine⟨_,zc (zn (i:=1) zgi.nd rfl (Or.inl rfl) (zwa (zq4 T) T.m_Control hr.m0))
   (zc (zn (i:=2) zgi.nd rfl (Or.inl rfl) (zy zd))
   (zc (jt z3v rfl (jo (je (zc4 T Dd) hr.m0 (za (pv 0) zd))) (pg3 K (i:=3) (j:=4) (l:=5) rfl rfl zgi.nd rfl rfl rfl (Or.inl rfl) (Or.inl rfl) (Or.inl rfl))
    (zc (zn (i:=6) zgi.nd rfl (Or.inl rfl) (je (zar T Dd U Lk) hr.m0 (za (pv 1) (za (pv 3) (za (pv 4) (za (pv 5) zd))))))
    (zc (yb (xp z3y z4k z4j yo (pv 2) (za (ji jj rfl T.b_len z4z (za (pv 6) zd)) zd)))
    (zg (yb (xp z3y z5t z5s Z4 (pv 2) (za (pv 6) zd)))))))
   (zg (zm (pv 2))))),?_⟩
  unfold PyVbmiab.answers_asked at hask;have ek:PyVbmiab.answers l=match PyVbmiab.calls l with
   |none=>[]
   |some cs=>PyFlat.told (PyFlat.played VbmiabNeutral.step VbmiabNeutral.start cs):=rfl
  rw[zhl]at hask ek;cases ec:PyFlat.calls PyVbmiab.shape l.length l with
  |none=>
   rw[ec]at hask;cases hask
  |some css=>
   rw[ec]at hask ek
   try dsimp only at hask ek
   rw[z3f]at hask;unfold VbmiabNeutral.asked at hask;rw[z3f,z3f]at hask;have h1:=z30 hask.2.2.1;have h400:(css.map PyVbmiab.whole).length<=400:=z30 hask.1;rw[z25]at h400;rw[z25]at h1;intro z dz nz nd nzd;refine⟨z,dz,rfl,zb,rfl,?_⟩;generalize eH1:upd (upd (upd H dz _) z _) z _=H1;have s1:zh H H1:=λx o h=>by
    rw[<-eH1,ze (zf h nz),ze (zf h nz),ze (zf h nd)];exact h
   have z1:H1 z=some (.ins CC dz (ctl .non)):=by rw[<-eH1,zb]
   clear eH1;refine⟨(by show 0<=sizeLine;decide),λtd htd=>?_⟩;have s2:zh H1 (upd H1 td (.lst [])):=zh.upd htd;have t2:(upd H1 td (.lst [])) td=some (.lst []):=zb;generalize upd H1 td (.lst [])=H2 at s2 t2 ⊢;refine⟨_,rfl,q,l,css,rfl,(s1.trans s2).seq hq,ec,h400,λH3 r ts rcs s3 hr pr fm ecs=>?_⟩;have s13:=s2.trans s3;have s03:=s1.trans s13;have z3:=s13 _ _ z1;have t3:=s3 _ _ t2;have T3:=hT.same s03;have lts:=z39 pr;have lr:rcs.length=css.length:=by rw[ecs,z25]
   have rtd:r≠td:=λe=>by
    rw[e,t3]at hr;have h:=z6a List.length (HO.lst.inj (z3p hr));rw[z25]at h;have h:0=ts.length:=h;omega
   have rz:r≠z:=ja hr z3 (by intro q;cases q);have ztd:z≠td:=ja z3 t3 (by intro q;cases q);rw[ecs,Vt fm]at hask;have hall:=z47.mp hask.2.1;rw[ecs,Vt fm,zkw rcs _ fm]at ek;have el:∀ c,c∈rcs->∀ x,x∈c.lists->x.length<=500:=λc hc x hx=>zk6 (fm c hc) (hall c.rows (List.mem_map_of_mem hc)) x hx;refine⟨r,rfl,⟨_,zx.of hr⟩,J6 (xs:=ts.map V.ref) (λi σ H'=>∃(v3 v4 v5 v6:Option V) (s:Vbmiab.State) (done:List Int),σ=[some (.ref q),some (.ref z),some (.ref td),v3,v4,v5,v6]/\zh (upd (noT z H3) td (.lst (done.map V.int))) H'/\CSt CB CC (upd (noT z H3) td (.lst (done.map V.int))) H' z dz s/\wd tb H'/\done.length<=i*1001/\done++zcj s (rcs.drop i)=zcj none rcs)
    ⟨_,_,_,_,none,[],rfl,?_,z3,T3,z3c _,rfl⟩ (λi σ H' _ ⟨v3,v4,v5,v6,st,done,e0,sG,_⟩=>zx.of (sG _ _ (by rw[ze rtd];exact zkb hr rz (by intro _ q;cases q)))) ?_ ?_⟩
   ·intro x o h;by_cases e:x=td
    ·subst e;rw[zb]at h;rw[t3];exact h
    ·rw[ze e]at h;exact (zox h).2.1
   ·intro i x σ H' D' hx ⟨v3,v4,v5,v6,st,done,e0,sG,C,hT',hlen,hdone⟩ ea;subst e0;rw[z27]at hx;cases ht:ts[i]? with
    |none=>
     rw[ht]at hx;cases hx
    |some t=>
    rw[ht]at hx;obtain rfl:V.ref t=x:=z3p hx;obtain⟨c,hc,pl,ls,qs,⟨n1,n2,n3,n4⟩,h1,h2,h3,h4⟩:=y9 pr ht;have hi:=(z3b.mp ht).1;have cm:=z3r hc;have ed:rcs.drop i=c::rcs.drop (i+1):=ku hc;rw[ed]at hdone;have z2:=s2 _ _ z1;have get:∀{x:Addr}{o:HO},H2 x=none->H3 x=some o->(∀ ps,o≠.tbl ps)->upd (noT z H3) td (.lst (done.map V.int)) x=some o:=λ{x o} hn h nt=>by
     rw[ze (zf t2 hn).symm];exact zkb h (zf z2 hn).symm nt
    have nT:zxr (upd (noT z H3) td (.lst (done.map V.int))):=λx ps h=>by
     by_cases e:x=td
     ·rw[e,zb]at h;cases h
     ·rw[ze e]at h;exact (zox h).2.2 ps rfl
    have gz:upd (noT z H3) td (.lst (done.map V.int)) z=none:=by
     rw[ze ztd];unfold noT;rw[z3m rfl]
    have gtd:upd (noT z H3) td (.lst (done.map V.int)) td=some (.lst (done.map V.int)):=zb;have gt:=get n1 h1 (by intro _ q;cases q);have gpl:=get n2 h2 (by intro _ q;cases q);have gls:=get n3 h3 (by intro _ q;cases q);have gqs:Paired (λq (xs:List Int)=>upd (noT z H3) td (.lst (done.map V.int)) q=some (.lst (xs.map V.int))) qs c.lists:=jk h4 λq _ hm e=>get (n4 q hm) e (by intro _ y;cases y);have hG:∀(d2:List Int) x,upd (noT z H3) td (.lst (done.map V.int)) x=none->upd (noT z H3) td (.lst (d2.map V.int)) x=none:=λd2 x h=>zqm h;have hG2:∀(d2:List Int) x o,x≠td->upd (noT z H3) td (.lst (d2.map V.int)) x=some o->upd (noT z H3) td (.lst (done.map V.int)) x=some o:=λd2 x o n h=>by
     rw[ze n]at h ⊢;exact h
    generalize eG:upd (noT z H3) td (.lst (done.map V.int))=G at sG C nT gz gtd gt gpl gls gqs hG hG2;refine⟨t,_,rfl,yw.of (sG _ _ gt),rfl,_,_,rfl,_,_,rfl,_,_,rfl,rfl,?_⟩;refine⟨_,rfl,_,rfl,_,rfl,_,rfl,G,z,dz,pl,ls,c,qs,st,rfl,sG,nT,gz,C,hT',⟨gpl,gls,gqs,fm c cm,el c cm⟩,λH4 ra sG4 C4 T4 gra h4 l4=>?_⟩;have td4:=sG4 _ _ gtd;have rtd4:ra≠td:=(zf gtd gra).symm;have z4:z≠td:=ztd;have small:done.length+1001<=400400:=by omega
    refine⟨_,rfl,.inl ⟨rfl,_,zx.of td4⟩,_,rfl,ra,_,rfl,.inl (zx.of h4),td,_,_,rfl,rfl,td4,?_,?_⟩
    ·rw[z25];exact z5v (show done.length<=400400 by omega) (by decide)
    ·have r5:(upd H4 td (.lst (done.map V.int++[V.int (((qr st c).2.map V.int).length:Int)]))) ra=some (.lst ((qr st c).2.map V.int)):=by
      rw[ze rtd4];exact h4
     refine⟨_,rfl,.inl ⟨rfl,_,zx.of zb⟩,_,rfl,td,ra,_,_,rfl,rfl,zb,r5,?_,?_⟩
     ·rw[z3a,z25,z25,z42];exact z32 (show done.length+1+(qr st c).2.length<=400400 by omega) (by decide)
     ·have en:done.map V.int++[V.int (((qr st c).2.map V.int).length:Int)]++(qr st c).2.map V.int=(done++(((qr st c).2.length:Int)::(qr st c).2)).map V.int:=by
       rw[z25,z3g,z3n,z4d];rfl
      rw[en];refine ea.nx _ _ ⟨_,_,_,_,(qr st c).1,done++(((qr st c).2.length:Int)::(qr st c).2),rfl,?_,?_,?_,?_,?_⟩
      ·intro x o h;by_cases e:x=td
       ·subst e;rw[zb]at h ⊢;exact h
       ·rw[ze e,ze e];exact sG4 _ _ (hG2 _ x o e h)
      ·have C5:CSt CB CC G (upd H4 td (.lst (done.map V.int++[V.int (((qr st c).2.map V.int).length:Int)]))) z dz (qr st c).1:=C4.put gtd ztd (λ_ h=>h);exact C5.put gtd ztd (hG _)
      ·exact (T4.updL td4).updL zb
      ·rw[z3a,z3l];omega
      ·rw[<-hdone,z4d];rfl
   ·intro σ H' ⟨v3,v4,v5,v6,st,done,e0,sG,C,hT',hlen,hdone⟩;subst e0;rw[z25,lts,z59]at hdone;have hdone:done++[]=zcj none rcs:=hdone;rw[z31]at hdone;refine⟨_,rfl,k H' td ?_⟩;rw[ek];show _=some (HO.lst ((zcj none rcs).map V.int));rw[<-hdone];exact sG _ _ zb
open PySem.W (WData Codec OpenSpec Well WellAll ReadsW ReadsAllW)
theorem zh.seqT {K:Fr}{H H':Hp}{a:Addr}{xs:List V}(e:zh H H')(h:yw K H a xs):yw K H' a xs:=by
 rcases h with (h|⟨o,h⟩)|h
 ·exact .inl (.inl (e _ _ h))
 ·exact .inl (.inr ⟨o,e _ _ h⟩)
 ·exact .inr h
theorem kj.same {K:Fr}{H H':Hp}{xs:List V}{ds:List WData}(s:zh H H')(h:kj K H xs ds):kj K H' xs ds:=
 kj.rec (motive_1:=λv d _=>Dw K H' v d) (motive_2:=λxs ds _=>kj K H' xs ds) .non .bl .int .str .byt (λq _ ih=>.lst (zh.seq s q) ih) (λq _ ih=>.tup (zh.seqT s q) ih) .nil (λ_ _ a b=>.cons a b) h
theorem ziy {P:Program}{w:World}{K:Fr}{mg mb:Str->Option Value}{CX:CXT}{k:Nat}{fa:Addr}{fd:FuncData}{ps:List Str}{sp:Sp}{s₁:Shared}{vals:List Value}{ds:List WData}{R:PySem.W.WRecords}{cl:Str->Option Addr}{d0:WData}{c Pt:Addr}
  (KX:K.In s₁.heap)(hns:s₁.heap.Ns mainGlobals mg)(hb:s₁.heap.Ns builtinsNs mb)(hbb:∀ x:Str,x≠"__name__"->mb x=bootBuiltins x)(hlim:s₁.heap.NoLimit)(hg:s₁.gens= #[])
  (hwl:WellAll w.params s₁.heap vals ds)(hpl:Wz ds=true)(hwt:∀ d∈ds,d.weight<=1048576)(hr:Room k callerA)
  (L:zbk s₁.heap mg c Pt)(hP:s₁.heap.get? Pt=some (PySem.W.tabObj #[]))(hKP:K.lookup Pt=none)
  (F:∀ base:Heap,K.In base->base.Ns mainGlobals mg->zbk base mg c Pt->wx P w K mg base CX k fa fd ps sp)(hbind:∀(s:Shared) (us:List Value),us.length=ps.length->BindsTo s fd ⟨us,[]⟩ (ps.zip us))(hlen:ds.length=ps.length)
  (hsp:∀(H:Hp) (xs:List V),H Pt=some (.tbl #[])->kj K H xs ds->sp xs H (λv H'=>Dw K H' v d0) λ_ _ _=>False)
  (hCX:∀ H e s',CX [] H s₁ (λ_ _ _=>False) e s'->False):
  codeAny (model P w) callerA (.call (.ref fa) ⟨vals,[]⟩) (λr s'=>∃ u as,r=.ok (.ret u)/\ReadsW R cl s'.heap u d0 as/\OldK s₁.heap s'.heap/\s'.os=s₁.os/\AllBare s'.gens) s₁:=by
 obtain⟨A,ho,ar⟩:=Xr ds vals hwl hpl hwt;have noA:∀{b:Addr}{o:Obj},s₁.heap.get? b=some o->(∀ vs n,o.data≠.seq vs n)->vw K s₁.heap A b=none:=λ{b o} e d=>by
  cases q:vw K s₁.heap A b with
  |none=>rfl
  |some u=>
   obtain⟨_,vs,_,_,⟨e2,_⟩|⟨e2,_⟩⟩:=W1 ar q
   ·rw[e2]at e;cases e;exact (d _ _ rfl).elim
   ·rw[e2]at e;cases e;exact (d _ _ rfl).elim
 have aP:vw K s₁.heap A Pt=none:=noA hP (by intro vs n z;cases z);have hO:zug (vw K s₁.heap A):=zk4 ar;have hok:Yx P w (upd (vw K s₁.heap A) Pt (.tbl #[])) s₁.heap:=λb u q=>by
  by_cases e:b=Pt
  ·subst e;rw[zb]at q;cases q;exact hP
  ·rw[ze e]at q;obtain⟨_,vs,h1,h2,⟨e,rfl⟩|⟨e,rfl⟩⟩:=W1 ar q
   ·exact⟨e,by rw[z25];exact h1,vs,_,Ja h2,e⟩
   ·exact⟨e,by rw[z25];exact h1,vs,Ja h2,_,e,rfl,_,rfl⟩
 have hS:=kj.same (zh.upd (o:=.tbl #[]) aP) (zdf KX ar ds vals hwl hpl ho);have hV:=Ja ho;have hK:∀ b u,vw K s₁.heap A b=some u->K.lookup b=none:=λb u q=>(W1 ar q).1;have hPt:(upd (vw K s₁.heap A) Pt (.tbl #[])) Pt=some (.tbl #[]):=zb;have nK:∀ b o,K.lookup b=some o->(upd (vw K s₁.heap A) Pt (.tbl #[])) b=none:=λb o e=>by
  by_cases z:b=Pt
  ·rw[z,hKP]at e;cases e
  ·rw[ze z];cases q:vw K s₁.heap A b with
   |none=>rfl
   |some u=>
    rw[hK b u q]at e;cases e
 have noH:∀{b:Addr}{o:Obj},s₁.heap.get? b=some o->(∀ vs n,o.data≠.seq vs n)->b≠Pt->(upd (vw K s₁.heap A) Pt (.tbl #[])) b=none:=λ{b o} e d n=>by
  rw[ze n];exact noA e d
 have only:∀ b,b≠Pt->(upd (vw K s₁.heap A) Pt (.tbl #[])) b=none\/∃ o u,(upd (vw K s₁.heap A) Pt (.tbl #[])) b=some (.frz o u):=λb n=>by
  rw[ze n];exact hO b
 generalize upd (vw K s₁.heap A) Pt (.tbl #[])=H at hok hS nK noH hPt only;have base_of:∀{b:Addr}{o:Obj},s₁.heap.get? b=some o->H b=none->(za7 s₁.heap H).get? b=some o:=λe n=>zoe e n;have neP:∀{b:Addr}{o:Obj},s₁.heap.get? b=some o->o≠PySem.W.tabObj #[]->b≠Pt:=λe n z=>by
  rw[z,hP]at e;exact n (z3p e).symm
 have nsK:∀{b:Addr}{m:Str->Option Value},s₁.heap.Ns b m->(za7 s₁.heap H).Ns b m:=λ{b m} ⟨o,es,ep,e,d,r⟩=>⟨o,es,ep,base_of e (noH e (by intro vs n z;rw[d]at z;cases z) (neP e (by intro z;rw[z]at d;cases d))),d,r⟩;have hKb:K.In (za7 s₁.heap H):=λb o e=>base_of (KX b o e) (nK b o e);have hM:Mod K mg (za7 s₁.heap H):=⟨hKb,nsK hns,⟨mb,nsK hb,hbb⟩,let ⟨mc,h1,h2⟩:=hlim;⟨mc,nsK h1,h2⟩⟩;have hL:zbk (za7 s₁.heap H) mg c Pt:=by
  obtain⟨⟨o,vs,file,tf,flags,tg,inF,text,tt,e1,e2,e3,e4,e5,e6,e7,e8,e9,e10⟩,bm,ob,b1,b2,b3,b4,b5,b6⟩:=L;exact⟨⟨o,vs,file,tf,flags,tg,inF,text,tt,base_of e1 (noH e1 (by intro vs n z;rw[e3]at z;cases z) e10),e2,e3,e4,e5,e6,e7,e8,e9,e10⟩,bm,ob,b1,b2,base_of b3 (noH b3 (by intro vs n z;rw[b6]at z;cases z) (neP b3 (by intro z;rw[z]at b6;cases b6))),b4,b5,b6⟩
 have e0:zg8 P w K mg (za7 s₁.heap H) callerA [] s₁ H:=⟨rfl,hM,λb o e=>zrn e,z8v (zlr _ _),trivial,λb hb=>absurd (show b∈([]:List Addr) from hb) (by simp),hok,.of_eq hg⟩;have hl:vals.length=ps.length:=by rw[Zq hwl];exact hlen
 refine jae ((F _ hKb (nsK hns) hL).run callerA [] s₁ H ⟨vals,[]⟩ vals (vals.map toV) _ _ hr e0 (hbind s₁ vals hl) hV (hsp H _ hPt hS)) λr s' x=>?_;cases r with
 |error e=>exact (hCX H e s' x).elim
 |ok fl=>
  cases fl with
  |next=>exact False.elim x
  |brk=>exact False.elim x
  |cont=>exact False.elim x
  |ret u=>
   obtain⟨v,H',os,bare,un,hok',r',q⟩:=x;have kept:∀ b o,b≠Pt->s₁.heap.get? b=some o->s'.heap.get? b=some o:=λb o n e=>by
    rcases only b n with z|⟨ob,u3,z⟩
    ·exact un.keep b o e z (by intro z;exact absurd (show b∈([]:List Addr) from z) (by simp)) (by simp)
    ·have z2:=un.frzs b ob _ z;obtain⟨e1,_⟩:=hok b _ z;obtain⟨e2,_⟩:=hok' b _ z2;rw[e]at e1;cases e1;exact e2
   obtain⟨more,hmore⟩:=un.tbls Pt _ hPt;have hmo:s'.heap.get? Pt=some {cls:=.none,data:=.fields (#[]++more)}:=hok' Pt _ hmore;have KX':K.In s'.heap:=λb o e=>kept b o (λz=>by rw[z,hKP]at e;cases e) (KX b o e);obtain⟨as,hrd⟩:=Dw.reads (R:=R) (cl:=cl) hok' KX' d0 v u q r';refine⟨u,as,rfl,hrd,⟨λb o e=>?_,λb o e=>?_⟩,os,bare⟩
   ·by_cases z:b=Pt
    ·subst z;rw[hP]at e;cases e;exact .inr (.inl ⟨(L.code.tab hP).isCodeTable,rfl,#[],more,rfl,hmo⟩)
    ·exact .inl (kept b o z e)
   ·by_cases z:b=Pt
    ·rw[z];exact⟨_,hmo⟩
    ·exact⟨o,kept b o z e⟩
theorem zi9 {r:OpenSpec}{k:Nat}{q:Program}{loose:List Str}{XP:(Str->Option Value)->Heap->Prop}{YP:World->Heap->Prop}{d:DefRec}{K:Params->Fr}{ps:List Str}{sp:Fr->Sp}{c Pt:Addr}
  (hwell:r.wellSaid=true)(hdf:d.params.defaults=[])(hlen:r.args.length=ps.length)(hr:Room k callerA)
  (hY:∀(w:World) (h:Heap),YP w h->(K w.params).In h)
  (hrec:((recsOf q).find? λe=>e.name==("best_pattern":Str)).isSome=true)(htab:∀ p,PySem.W.tabIn (K p) "best_pattern"=some (c,Pt))(hKP:∀ p,(K p).lookup Pt=none)
  (F:∀(w:World) (mg:Str->Option Value) (fa:Addr) (h:Heap),YP w h->(K w.params).In h->h.Ns mainGlobals mg->mg d.name=some (.ref fa)->
   ∃ fd:FuncData,(∀(s:Shared) (us:List Value),us.length=ps.length->BindsTo s fd ⟨us,[]⟩ (ps.zip us))/\
    ∀ base:Heap,(K w.params).In base->base.Ns mainGlobals mg->ze1 (K w.params) mg base Pt->wx r.prog w (K w.params) mg base CX0 k fa fd ps (sp (K w.params)))
  (hsp:∀(K:Fr) (H:Hp) (xs:List V) (a:Codec.denoteAll r.args),H Pt=some (.tbl #[])->Codec.withinAll r.args a=true->Codec.app r.args r.asked a=true->kj K H xs (Codec.encAll r.args a)->
   sp K xs H (λv H'=>Dw K H' v (r.ret.enc (Codec.app r.args r.f a))) λ_ _ _=>False):
  PySem.W.WalkOS q loose XP YP r d [] (λf vs=>PySem.call f vs):=by
 intro w s_0 s₁ mg mb G Y fa o pm cd doc dV kV ho hd hcd hD hmg hg args vals as hpre hlay hrd hwl hlo;obtain⟨a,e1,e2⟩:=PySem.W.os_pre_some hpre;obtain⟨e3,hwi⟩:=Codec.encAll_of_decAll r.args args a e1;subst e3;have KX:=hY w _ Y;obtain⟨fd,hb,hF⟩:=F w mg fa _ Y KX G.T.g hmg;obtain⟨dr,hdr⟩:=z7d.mp hrec;obtain⟨hC,hP⟩:=PySem.W.tab_of G.T KX hdr (htab w.params);refine PySem.W.enter_call (jae (ziy (R:=[]) (cl:=classAt s_0.heap) (d0:=r.ret.enc (Codec.app r.args r.f a)) KX G.T.g G.T.b G.T.builtins G.T.nolimit hg hwl (zb8 _ _) (U3 hlay) hr ⟨hC,G.T.bmain⟩ hP (hKP _)
  (λbase h1 h2 h3=>hF base h1 h2 ⟨c,h3,λf o fd q1 q2 q3=>PySem.W.law_code KX G.T.g (htab w.params) q1 (KX _ _ q2) q3⟩) hb (by rw[Uy];exact hlen)
  (λH xs hO hS=>hsp _ H xs a hO hwi e2 hS) λH e s' z=>z) λr' s' hq=>?_)
 obtain⟨u,as',rfl,h1,h2,h3,h4⟩:=hq;exact⟨.inl ⟨u,_,as',rfl,λ_=>rfl,h1,(OpenSpec.post_iff hwell hwi _ _).mpr rfl,λz=>Bool.noConfusion (show false=true from z)⟩,h2,h3,h4⟩
section
variable {P:Program}{w:World}{K:Fr}{h:Heap}{mg:Str->Option Value}{x m qual:Str}{st:Stmt}{ps:List Str}{C f:Addr}{od an:Option Addr}{osl:Array (Option Value)}{oc kV doc pm cdv ct:Value}
theorem zod (X:K.In h)(G:h.Ns mainGlobals mg)(a:PySem.W.nsIn K mainGlobals x=some (some (.ref f)))(l:K.lookup f=some ⟨oc,od,.func (PySem.W.fnOf x x (ke st) (xj st) (zj st) .none kV doc pm an cdv ct),osl⟩)
  (c:PySem.W.codeIn K cdv x=true)(k:PySem.W.keepIn K (.ref f)=true)
  (b:∀(kV doc pm:Value) (an:Option Addr) (cdv ct:Value) (us:List Value),us.length=ps.length->bindArgs (PySem.W.fnOf x x (ke st) (xj st) (zj st) .none kV doc pm an cdv ct) ⟨us,[]⟩=pure (ps.zip us)):jg K mg x st ps:=
 have F:=zhy (st:=st) l c k
 ⟨f,_,F,jam X G a,F.binds b⟩
theorem zh0 (a:PySem.W.findIn K (.ref C) m=some (some (.ref f)))(i:PySem.W.isFn K (.ref f)=true)(l:K.lookup f=some ⟨oc,od,.func (PySem.W.fnOf m qual (ke st) (xj st) (zj st) .none kV doc pm an cdv ct),osl⟩)
  (c:PySem.W.codeIn K cdv qual=true)(k:PySem.W.keepIn K (.ref f)=true)
  (b:∀(kV doc pm:Value) (an:Option Addr) (cdv ct:Value) (us:List Value),us.length=ps.length->bindArgs (PySem.W.fnOf m qual (ke st) (xj st) (zj st) .none kV doc pm an cdv ct) ⟨us,[]⟩=pure (ps.zip us)):qx K C m qual st ps:=
 have F:=zhy (st:=st) l c k
 ⟨f,_,F,⟨a,i,k⟩,F.binds b⟩
theorem zhz (mk:PySem.W.makesIn K C=true)(kc:PySem.W.keepIn K (.ref C)=true)(a:PySem.W.findIn K (.ref C) "__init__"=some (some (.ref f)))(i:PySem.W.isFn K (.ref f)=true)(l:K.lookup f=some ⟨oc,od,.func (PySem.W.fnOf "__init__" qual (ke st) (xj st) (zj st) .none kV doc pm an cdv ct),osl⟩)
  (c:PySem.W.codeIn K cdv qual=true)(k:PySem.W.keepIn K (.ref f)=true)
  (b:∀(kV doc pm:Value) (an:Option Addr) (cdv ct:Value) (us:List Value),us.length=ps.length->bindArgs (PySem.W.fnOf "__init__" qual (ke st) (xj st) (zj st) .none kV doc pm an cdv ct) ⟨us,[]⟩=pure (ps.zip us)):Yy K C qual st ps:=
 have F:=zhy (st:=st) l c k
 ⟨f,_,F,⟨mk,a,i,kc⟩,F.binds b⟩
theorem zu6 {i:Int}{t:Tok}(X:K.In h)(G:h.Ns mainGlobals mg)(a:PySem.W.nsIn K mainGlobals x=some (some (.int i t))):∃ t,mg x=some (.int i t):=⟨t,jam X G a⟩
def names:List Str:=["","tell_cell","change_cell","fix_cell","set_widths","set_price","tell_best","tell_table","check_lines","tell_count","tell_free","tell_losses","tell_pieces","tell_outlines","fill_rounds","tell_runs","tell_forced","tell_bench"]
def js1:List Int:=[0,1,2,3,4,5,6,7,8,9,10,11,12,13,14,15,16,17]
def js2:List Int:=[0,8,11,12,13,14]
def js3:List Int:=[1,2,3,4,5,6,7,8,9,10,11,12,13,14,15,16,17]
theorem zvh {p:Nat}(h:p < 18):(p:Int)∈js1:=by
 have:∀ p:Fin 18,((p.val:Nat):Int)∈js1:=by decide+kernel
 exact this ⟨p,h⟩
theorem zvi {p:Nat}(h:p < 18):y6 p=[]\/(p:Int)∈js2:=by
 have:∀ p:Fin 18,y6 p.val=[]\/((p.val:Nat):Int)∈js2:=by decide+kernel
 exact this ⟨p,h⟩
theorem zvj {p:Nat}(h:p < 18):y6 p=[]->¬(p:Int)∈js2:=by
 have:∀ p:Fin 18,y6 p.val=[]->¬((p.val:Nat):Int)∈js2:=by decide+kernel
 exact this ⟨p,h⟩
theorem zvk {p:Nat}(h1:1<=p)(h:p < 18):(p:Int)∈js3:=by
 have:∀ p:Fin 18,1<=p.val->((p.val:Nat):Int)∈js3:=by decide+kernel
 exact this ⟨p,h⟩ h1
theorem zvl {i:Int}(h:i∈js3):∃ p:Nat,1<=p/\p < 18/\i=p:=by
 have:∀ i∈js3,1<=i/\i < 18:=by decide+kernel
 have:=this i h;exact⟨i.toNat,by omega,by omega,by omega⟩
theorem zog {i:Int}{v:Value}(h:zof K names i v=true):∃ x,jp x v/\∃ f,x=V.ref f/\nsV K (Z2 i.toNat)=some (.ref f):=by
 unfold zof at h;split at h
 ·rename_i x hx;split at h
  ·rename_i _ f g hf;rw[z4x]at h;subst h;refine⟨.ref f,rfl,f,rfl,?_⟩;have:Z2 i.toNat=x:=by
    unfold Z2;show names.getD i.toNat ""=x;rw[z3s,hx];rfl
   rw[this];exact hf
  ·cases h
 ·cases h
theorem zn3 (X:K.In h)(G:h.Ns mainGlobals mg)(c1:ckD K "PLAIN_RANGES" (λi v=>K1 K v (zcd i.toNat)) js1=true)(c2:ckD K "LIST_RANGES" (λi v=>K1 K v (Wb i.toNat)) js2=true)(c3:ckD K "CALLS_ON_BENCH" (zof K names) js3=true):zbf P w K mg:=by
 obtain⟨q1,k1,a1,a2,_,a3⟩:=zhn (P:=P) (w:=w) (R:=λi x=>∃ t,x=V.ref t/\K7 K t (zcd i.toNat)) (λi v hh=>by obtain⟨q,rfl,t⟩:=Xl hh;exact⟨.ref q,rfl,q,rfl,t⟩) (by decide+kernel) X G c1;obtain⟨q2,k2,b1,b2,_,b3⟩:=zhn (P:=P) (w:=w) (R:=λi x=>∃ t,x=V.ref t/\K7 K t (Wb i.toNat)) (λi v hh=>by obtain⟨q,rfl,t⟩:=Xl hh;exact⟨.ref q,rfl,q,rfl,t⟩) (by decide+kernel) X G c2;obtain⟨q3,k3,d1,d2,d4,d3⟩:=zhn (P:=P) (w:=w) (R:=λi x=>∃ f,x=V.ref f/\nsV K (Z2 i.toNat)=some (.ref f)) (λi v hh=>zog hh) (by decide+kernel) X G c3;refine⟨⟨q1,k1,a1,a2,λp hp=>?_⟩,⟨q2,k2,b1,b2,λp hp=>?_⟩,⟨q3,k3,d1,d2,λp h1 hp=>?_,λk f hk=>?_⟩⟩
 ·obtain⟨x,e,t,rfl,ht⟩:=(a3 (p:Int)).1 (zvh hp);rw[z3i]at ht;exact⟨t,e,ht⟩
 ·by_cases hl:y6 p=[]
  ·exact .inl ⟨hl,(b3 (p:Int)).2 (zvj hp hl)⟩
  ·obtain⟨x,e,t,rfl,ht⟩:=(b3 (p:Int)).1 ((zvi hp).resolve_left hl);rw[z3i]at ht;exact .inr ⟨t,e,ht⟩
 ·obtain⟨x,e,f,rfl,_⟩:=(d3 (p:Int)).1 (zvk h1 hp);exact⟨f,e⟩
 ·have:=zs2 hk;rw[d4]at this;obtain⟨i,hi,rfl⟩:=z4h.mp this;obtain⟨p,h1,h2,rfl⟩:=zvl hi;obtain⟨x,e,f',rfl,hf⟩:=(d3 (p:Int)).1 hi;rw[e]at hk;cases hk;rw[z3i]at hf;exact⟨p,h1,h2,rfl,zie X G hf⟩
theorem zwd {CB CR CC Pt fa:Addr}(hfa:mg "answers"=some (.ref fa))(T:qf K mg CB CR CC)(Dd:zbf P w K mg)(U:zap K mg)(X:K.In h):
  ∃ fd:FuncData,(∀(s:Shared) (us:List Value),us.length=(["calls"]:List Str).length->BindsTo s fd ⟨us,[]⟩ ((["calls"]:List Str).zip us))/\
   ∀ base:Heap,K.In base->base.Ns mainGlobals mg->ze1 K mg base Pt->wx P w K mg base CX0 11 fa fd ["calls"] (zkr Pt K):=by
 obtain⟨f,fd,F,hm,hb⟩:=T.f_answers;rw[hm]at hfa;cases hfa;have F':=F;obtain⟨oc,od,kV,doc,pm,an,cdv,ct,osl,e,lk,hcd⟩:=F'.ex;subst e;exact⟨PySem.W.fnOf "answers" "answers" (ke wq) (xj wq) (zj wq) .none kV doc pm an cdv ct,λs us hu=>match us,hu with|[_],_=>.of_eq rfl,λbase _ _ Lk=>zih T Dd U Lk F⟩
end
theorem zwc {K:Fr}{H:Hp}{Pt:Addr}{a:List Int}{xs:List V}{Q:VK}{E:XK}(hP:H Pt=some (.tbl #[]))(hask:PyVbmiab.answers_asked a=true)(hx:kj K H xs [.list (a.map PySem.W.WData.int)])
  (hQ:∀ H' r,H' r=some (.lst ((PyVbmiab.answers a).map V.int))->Q (.ref r) H'):zkr Pt K xs H Q E:=by
 cases hx with
 |cons h1 h2=>
  cases h2;cases h1 with
  |lst hs ha=>
   have e:=L2.zj5 a _ ha;subst e;exact⟨_,a,rfl,hs,hask,.inl hP,hQ⟩
theorem zz2 {α:Type}{l:List α}(h:l.length=7):∃ a b c d e f g,l=[a,b,c,d,e,f,g]:=by
 match l,h with
 |[a,b,c,d,e,f,g],_=>exact⟨a,b,c,d,e,f,g,rfl⟩
end Ore
local macro_rules|`(tactic| walk_at "bd")=>`(tactic|(intro _ _ _ _ _ _ us hl;first|(obtain ⟨_,h⟩:=Ore.Qg hl;subst h;exact rfl)|(obtain ⟨_,_,h⟩:=Ore.zvs hl;subst h;exact rfl)|(obtain ⟨_,_,_,h⟩:=Ore.U4 hl;subst h;exact rfl)|(obtain ⟨_,_,_,_,h⟩:=Ore.zvt hl;subst h;exact rfl)|(obtain ⟨_,_,_,_,_,_,_,h⟩:=Ore.zz2 hl;subst h;exact rfl)))
structure PySem.W.Fast:Prop where(tw2507462799370017644 tw17892899368271725449 tw388565837389119873 tw18145300346428147928 tw2337810486422308564 tw11131620919053734414 tw14788452747428701115 tw5135405204063465740 tw4256322465777451649 tw13157347984236355590 tw13647920972207977669 tw14094159197892852981 tw11667818901062569498 tw4833768084875451122 tw5883027596810085183 tw8010218948258803007 tw7773845895689491892 tw13187242383836643444 tw16866590720535673128 tw11118018706187830429 tw4805476101532323934 tw17249002116494194276 tw15381046724846354869 tw17452698413438720341 tw11660850861510545000 tw13922851659291160038 tw304065525818239634 tw13615688933016202686 tw9160976121539014353 tw14767238322112255159 tw4377467093210404295 tw13448882850118183940 tw11644543619363273123 tw16382042731853549608 tw130917347536423718 tw13560713858045749034 tw12196168009318479333 tw3562772488631065911 tw13707044574656082549 tw10378602144480407360 tw2379086298587051987 tw9352936596452001884 tw6079961681782195496 tw18365083316250524921 tw6328560071863753781 tw8193297098335413410 tw3165147383162977590 tw1826627223033607233 tw11802319740156593965 tw6059759680807694156 tw11406648045410856202 tw336966021018821461 tw11388586169847816875 tw15446511320464596391 tw6475994912228140389 tw9471626548698237498 tw10425580651894323313 tw16641349980145049661 tw10665979050962121168 tw2234862107976185371 tw13839824950442823365 tw17959907624570705195 tw10035262610549145765 tw18400752836440238697 tw547979371150649409 tw3104098379666374268 tw1631723954996697483 tw7680282998446904283 tw4112971733910693319 tw16220106340523117254 tw16433534997132865106 tw10469463134617230565 tw4866636439948010159 tw1971310875323555619 tw11578013532083775199 tw9920661063932322344 tw2259090973427625610 tw183027272903718084 tw18350583756659925731 tw17835710868878182433 tw5590684669318339020 tw260629630526897419 tw5214261525408881589 tw16186291143739737211 tw8063659473883101205 tw16502011383741986874 tw11768154404235284622 tw12367468640029531071 tw17043784666302260442 tw2975867980101287764 tw15653172863351962317 tw6228052814458764585 tw5433551105292092959 tw18097624698456118595 tw9923593808635905804 tw12920312542144934195 tw5285913083626517689 tw9938422619850010116 tw18248547540804979280 tw7953775621884814553 tw1857145662059178860 tw6340193343029201802 tw2020835837030883729 tw8499836194650514649 tw11444024406998389154 tw17293632098182927192 tw12133671067773916886 tw18136773812176347843 tw14838931316890717432 tw279602440916636856 tw2887086993720676507 tw15815992603341260627 tw8483686213246552722 tw826820857127488341 tw12193495575996112141 tw7525372800064847146 tw6819338170118040193 tw13732171886621507868 tw64273066121589129 tw11196619964882290228 tw4907201786413330124 tw10787066430713895684 tw12058214411582097495 tw2709683673169385883 tw16922185934448285162 tw9803265751948122720 tw14988464054982933018 tw10165439522557846357 tw9856369293679880141 tw9368691748521236733 tw108199108311286560 tw14506609663369994466 tw16148304594777490162 tw7653750483758674522 tw10765260711524619457 tw3603413412042400016 tw11550271957117591596 tw9861443742568174242 tw12197287746046929969 tw9163165817034953165 tw11791721587149756889 tw12368166855266249191 tw14374830499644611021 tw3537999135434895546 tw8098332828648525977 tw1059268107630504845 tw18199420810505089548 tw16197762336109404657 tw12448781965325544063 tw7453514947974475634 tw16140453126307869171 tw2683982032350575411 tw17745011960275430322 tw666527977316677032 tw9861057167149021361 tw17809424540997435932 tw5929834794638070130 tw11309632784841199721 tw10149625928531358605 tw6545296134601704344 tw6469542796712603596 tw11014388222847561089 tw17352982620997809814 tw6345047213424066453 tw12461276363899383809 tw1104909716021169188 tw13594070303475474576 tw8218293562378379750 tw17447143660281995754 tw5778841478937100082 tw10063740582434725831 tw5685674750548054591 tw14203334883829267954 tw13873865798335931684 tw934670182430775036 tw16380404205335380897 tw14841780492894367567 tw1402042075124676201 tw18044847569557133912 tw176748492644604893 tw237329882285808747 tw6773441639192807963 tw1720306607461101565 tw6776462563399340605 tw62249890323293225 tw4122015243082738116 tw8345336777409640820 tw1749264230063713499 tw5123343669287408854 tw16298831068877821372 tw15610458396695822466 tw8855800890050536183 tw6982403370380087722 tw11894403894919114696 tw16874941282593283624 tw1680289073278458812 tw378658940688385188 tw7366197803623550702 tw10671798517627588439 tw10966750475322017002 tw1199790153202310942 tw3427060313172696042 tw18384868202283847727 tw14922573270464050825 tw5197954107775604814 tw17022445249344003652 tw5341179236923042060 tw17584730719505107000 tw16410425573580383923 tw15739214053641425963 tw3367070674115607622 tw3965639224015526669 tw10522443929635502265 tw4241451355826617487 tw4010212306020716090 tw5038567768427687749 tw13777115742327288856 tw12351486802207140014 tw13977039089137474746 tw18253088888432206418 tw12746870739524338526 tw13929990004838753133 tw547737675799813936 tw1769197482675664899 tw13315635373286836429 tw1533647645082526988 tw58063825897380490 tw9844970900190886951 tw9700091171209464320 tw4327565795507794889 tw13036553408332324304 tw11298870983479922404 tw18320984320225466400 tw12416604370685692901 tw9688732395849710805 tw17299530262240499493 tw2733594196173390086 tw17086334763879525928 tw15516792207755195928 tw3299825937044617523 tw17550781562511284254 tw14706622950572174059 tw10105467729501870347 tw7596733212037985329 tw6043135821461721661 tw15032060000347698657 tw13748733529387417942 tw5636034182751627615 tw14117979389021433421 tw6750683715300664197 tw10022887701543882566 tw3950427679931902712 tw9193915452932176299 tw8863670913474256207 tw12056395403007831539 tw17555180043087208126 tw11308145054485400362 tw9666933768040981996 tw7800418736810561677 tw5606663517520694317 tw15421441274461088685 tw7984949569008972178 tw7949858410662765633 tw2957492871835200927 tw2883922266694571606 tw17735643169308354863 tw13334575754790820704 tw9055339120942580390 tw8901589076328434092 tw18146582746212352262 tw17974753560391064065 tw913558937514503755 tw7225912741600744442 tw18263908745144187811 tw17506071173497314305 tw14936285665365916205 tw7783334499669529438 tw9922565133931682924 tw9339930839329355588 tw3830471005632754422 tw17467881395793936052 tw16922106077946487675 tw13442669873729990699 tw12893446970173881867 tw9504717835326384541 tw15258195893401229608 tw12123397695718541719 tw12548278009105797581 tw4753020009456651007 tw4396030853489037362 tw6317388063718598187 tw17401033052950497041 tw13299744178736092598 tw10635776923842447469 tw15217594906091336914 tw13023002608010235184 tw10857095891956790382 tw6447088655654696934 tw4365777973545489707 tw374551940822112298 tw12603006116579989564 tw4841288781712255583 tw17477996788896560796 tw17315875441571406622 tw15026144185069213970 tw2298426546122021364 tw2225630304549544991 tw13605300866872296119 tw11529685902904189128 tw16115619245387427392 tw17060931234307539178 tw11425472196655260467 tw4842132056144254278 tw4841882511629820453 tw3000281170612083413 tw15766614264721094583 tw10978478013347508265 tw9823272411885856251 tw13921812495672151390 tw16058358329422305503 tw6287499093760686742 tw17116023011762661546 tw9171174135207308047 tw14060994694855537143 tw6933962035931705752 tw105656390073040321 tw6858768199318406815:True)
open PySem PySem.W PyProof.Rows
set_option maxRecDepth 100000 in
set_option maxHeartbeats 0 in
theorem PySem.Challenge.cw_orelines_s01_answers_holds : PySem.Challenge.rw_orelines_s01_answers.Holds := by
  w_on; k_headS; (case hw => exact ⟨[.list [.int 6]], by decide +kernel, by decide +kernel⟩)
  k_fillS
  refine Ore.zi9 (r := PySem.Challenge.rw_orelines_s01_answers) (k := 11) (ps := ["calls"]) (sp := Ore.zkr 285) (c := 287) (Pt := 285) (by decide +kernel) rfl rfl ⟨rfl, by decide, by decide⟩ (fun w h Y => PySem.W.kIn_of Y) (by decide +kernel) (fun p => by kernel_rfl) (fun p => by kernel_rfl) ?F ?S
  case S =>
    intro K H xs a hP hwi hask hx
    exact Ore.zwc hP hask hx (fun H' r hr => .lst (L2.zx.of hr) (L2.zj1 _))
  case F =>
    intro w mg fa h Y KX G hmg
    refine Ore.zwd (CB := 92) (CR := 224) (CC := 487) hmg ?T (Ore.zn3 KX G (by kernel_rfl) (by kernel_rfl) (by kernel_rfl)) ⟨Ore.zho KX G (by kernel_rfl), Ore.zho KX G (by kernel_rfl), Ore.zho KX G (by kernel_rfl)⟩ KX
    constructor
    all_goals first
      | (refine' Ore.zod KX G ?a ?l ?c ?k ?b
         (case a => k_is); (case l => k_is); (case c => k_is); (case k => k_is); (case b => walk_at "bd"))
      | (refine' Ore.zh0 ?a ?i ?l ?c ?k ?b
         (case a => k_is); (case i => k_is); (case l => k_is); (case c => k_is); (case k => k_is); (case b => walk_at "bd"))
      | (refine' Ore.zhz ?m ?n ?a ?i ?l ?c ?k ?b
         (case m => k_is); (case n => k_is); (case a => k_is); (case i => k_is); (case l => k_is); (case c => k_is); (case k => k_is); (case b => walk_at "bd"))
      | (refine' Ore.zu6 KX G ?a; (case a => k_is))
      | (refine' mg_of KX G ?a; (case a => k_is))
      | (refine' mg_none_of KX G ?a; (case a => k_is))
      | (constructor; (constructor <;> k_is); all_goals (show findIn _ _ _ = _; k_is))
