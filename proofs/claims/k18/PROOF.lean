import PyProof.Rows.All
import Wide.All
import OpenK.AllK
import Wide.FinOn
import Lean
import PyProof.EqAt
import PyProof.EqKinds
import PyProof.TupleCall
import PyProof.Rows.SetFrom
import PyProof.SetRoads
import KE.KDictSum
import PyProof.DictCompW
import KE.KEqDict
import KE.KxText
import PyProof.WalksEnum
import PyProof.EnumMake
import KE.KDictLaws
import PyProof.ReprBulk
import KE.KRevSl
import PyProof.AttrMissHeap
import KE.KDictOf
import PyProof.ZipIter
import PyProof.ListRange
import PyProof.Rows.SortStr
import PySem.Challenge.RW_keyrooms_k18_first_orders
set_option Elab.async false
set_option linter.all false
set_option maxRecDepth 100000
set_option maxHeartbeats 4000000
open PySem.W (instObj methodObj lookIn plainGet findIn kitOne kitx_list kitx_dict keepIn fnOf codeIn nsIn)
def aeO:=@List.getElem?_eq_getElem
def aeP:=@List.length_map
def aeQ:=@PySem.wpAny_bind
def aeR:=@List.length_append
def aeS:=@List.mem_singleton
def aeT:=@List.mem_append
def aeU:=@List.getElem?_eq_some_iff
def aeV:=@PySem.Heap.get?_push_of_some
def aeW:=@List.mem_append_right
def aeX:=@PySem.wpAny_pure
def aeY:=@Bool.false_ne_true
def aeZ:=@List.getElem?_map
def ae0:=@List.mem_cons_self
def ae1:=@Nat.le_refl
def ae2:=@List.map_append
def ae3:=@PySem.F.plainAttrs_list
def ae4:=@List.mem_map
def ae5:=@Array.length_toList
def ae6:=@List.mem_cons_of_mem
def ae7:=@List.mem_cons
def ae8:=@PySem.Heap.lt_size
def ae9:=@List.size_toArray
def afa:=@List.append_assoc
def afb:=@List.map_cons
def afc:=@PyProof.Rows.wpS_bind
def afd:=@PySem.Heap.get?_push_size
def afe:=@Nat.zero_le
def aff:=@List.mem_append_left
def afg:=@Nat.lt_of_lt_of_le
def afh:=@List.getElem_mem
def afi:=@PySem.boot_len
def afj:=@Int.toNat_natCast
def afk:=@List.take_add_one
def afl:=@PyProof.Rows.wpS_pure
def afm:=@Nat.ne_of_lt
def afn:=@List.length_take
def afo:=@Nat.le_of_lt
def afp:=@Int.emod_lt_of_pos
def afq:=@PySem.PassesOwn.never
def afr:=@List.length_cons
def afs:=@List.take_length
def aft:=@Nat.le_trans
def afu:=@beq_iff_eq
def afv:=@decide_eq_true
def afw:=@decide_eq_false
def afx:=@Nat.lt_of_le_of_lt
def afy:=@Int.emod_nonneg
def afz:=@List.length_range
def afA:=@Bool.false_eq_true
def afB:=@List.mem_of_getElem?
def afC:=@List.pairwise_append
def afD:=@List.take_append_drop
def afE:=@List.take_of_length_le
def afF:=@List.getElem?_append_right
def afG:=@List.nodup_cons
def afH:=@PySem.F.slot_list_append
def afI:=@PySem.F.type_list_append
def afJ:=@congrArg
def afK:=@Array.getElem?_toList
def afL:=@PySem.wpAny_mono
def afM:=@List.mem_flatMap
def afN:=@Classical.byContradiction
def afO:=@List.append_nil
def afP:=@List.pairwise_cons
def afQ:=@List.filter_append
def afR:=@List.count_append
def afS:=@PySem.W.mg_none_of
def afT:=@List.length_singleton
def afU:=@List.drop_eq_getElem_cons
def afV:=@Bool.and_eq_true
def afW:=@Option.some.inj
def afX:=@PySem.Heap.SameBut.update
def afY:=@List.flatMap_append
def afZ:=@List.mem_range
def af0:=@List.mem_of_mem_take
def af1:=@Array.perm_iff_toList_perm
def af2:=@PySem.wpAny_newObj_type
def af3:=@List.nodup_append
def af4:=@List.not_mem_nil
def af5:=@PySem.wpAny_holding
def af6:=@List.length_eq_zero_iff
def af7:=@List.map_map
def af8:=@List.length_filter_le
def af9:=@List.count_pos_iff
def aga:=@PySem.Around.under_plainId
def agb:=@List.mem_iff_getElem
def agc:=@PySem.wpAny_truthy_bool
def agd:=@List.flatMap_cons
def age:=@List.drop_zero
def agf:=@List.length_replicate
def agg:=@PyProof.Rows.wpS_forRange
def agh:=@List.mem_filter
def agi:=@Nat.min_eq_left
def agj:=@PySem.codeAny_builtin
def agk:=@PySem.F.called_set
def agl:=@PySem.F.slot_list_pop
def agm:=@PySem.F.type_list_pop
def agn:=@Nat.lt_succ_of_lt
def ago:=@decide_eq_true_eq
def agp:=@List.getD_eq_getElem?_getD
def agq:=@List.mem_of_mem_drop
def agr:=@Option.map_eq_some_iff
def ags:=@PySem.W.kia_one
def agt:=@List.getElem?_append_left
def agu:=@List.pairwise_iff_getElem
def agv:=@List.extract_eq_take_drop
def agw:=@List.length_drop
def agx:=@PySem.wpAny_call_entry
def agy:=@List.filter_cons
def agz:=@PySem.Heap.get?_update_self
def agA:=@List.flatten_cons
def agB:=@PySem.F.slot_dict_keyiterator_next
def agC:=@PySem.Heap.size_push
def agD:=@PySem.wpAny_standAt
def agE:=@PyProof.Rows.callWith_type1
def agF:=@if_false
def agG:=@PySem.F.plain_list_iadd
def agH:=@decide_eq_true_iff
def agI:=@PySem.F.slot_list_count
def agJ:=@PySem.F.type_list_count
def agK:=@PySem.Heap.get?_update_other
def agL:=@List.replicate_succ
def agM:=@Ne.symm
def agN:=@List.Perm.append_left
def agO:=@PySem.wpAny_rule
def agP:=@PySem.F.slot_list_extend
def agQ:=@PySem.F.type_list_extend
def agR:=@List.all_eq_true
def agS:=@PySem.wpAny_typeNameOfWhole_keyiter
def agT:=@Array.toList_extract
def agU:=@List.eraseIdx_cons_succ
def agV:=@List.take_zero
def agW:=@of_decide_eq_true
def agX:=@List.filter_eq_self
def agY:=@List.getElem?_set_self
def agZ:=@List.drop_of_length_le
def ag0:=@List.filter_eq_nil_iff
def ag1:=@List.Perm.append_right
def ag2:=@List.flatten_singleton
def ag3:=@List.nodup_range
def ag4:=@Nat.lt_irrefl
def ag5:=@PySem.codeAny_mono
def ag6:=@List.getElem?_eq_none
def ag7:=@List.count_eq_zero
def ag8:=@PyProof.Rows.wpS_mono
def ag9:=@List.nodup_nil
def aha:=@PyProof.Rows.boot_sorted
def ahb:=@PySem.wpAny_passesOwn
def ahc:=@List.getElem?_take_of_lt
def ahd:=@List.eraseIdxIfInBounds_toArray
def ahe:=@PySem.wpAny_comprehension_free
def ahf:=@Bool.not_eq_true'
def ahg:=@PySem.wpAny_setState_of
def ahh:=@List.ext_getElem?
def ahi:=@List.getElem_take
def ahj:=@PySem.F.slot_list_remove
def ahk:=@PySem.F.type_list_remove
def ahl:=@PyProof.Rows.KeyOrd.kle_refl
def ahm:=@Nat.ne_of_gt
def ahn:=@PySem.mem_of_lookup
def aho:=@Nat.le_succ
def ahp:=@PySem.wpAny_getItem_str_slice
def ahq:=@PySem.plainId_quiet
def ahr:=@decide_eq_false_iff_not
def ahs:=@List.flatten_append
def aht:=@PySem.W.mg_of
def ahu:=@PySem.wpAny_askSetting
def ahv:=@PyProof.Rows.KeyOrd.kle_trans
def ahw:=@List.take_append_of_le_length
def ahx:=@PyProof.Rows.wpS_modify
def ahy:=@if_true
def ahz:=@PySem.Calls.callWith_builtin
def ahA:=@PySem.Calls.spliced_cons
def ahB:=@PySem.wpAny_Call_Name_kw
def ahC:=@PySem.Obj.data_mapFields
def ahD:=@List.filter_filter
def ahE:=@List.find?_cons
def ahF:=@List.length_nil
def ahG:=@List.count_cons
def ahH:=@Nat.sub_self
def ahI:=@Nat.zero_add
def ahJ:=@PySem.F.plain_proto_collect
def ahK:=@List.mem_of_mem_erase
def ahL:=@List.perm_append_comm
def ahM:=@List.any_cons
def ahN:=@bne_self_eq_false
def ahO:=@or_false
def ahP:=@PyProof.Rows.KeyOrd.kle_of_klt
def ahQ:=@PySem.wpAny_newFunctionEnv
def ahR:=@Array.toArray_toList
def ahS:=@List.mem_erase_of_ne
def ahT:=@PySem.Calls.call_function_entry
def ahU:=@List.count_singleton_self
def ahV:=@List.drop_drop
def ahW:=@Nat.succ_le_succ
def ahX:=@beq_self_eq_true
def ahY:=@List.perm_middle
def ahZ:=@Nat.add_le_add_left
def ah0:=@List.map_congr_left
def ah1:=@Option.isSome_iff_exists
def ah2:=@PySem.call_meets
def ah3:=@List.getElem?_replicate
def ah4:=@List.all_cons
def ah5:=@List.foldl_cons
def ah6:=@PySem.tupleKind_room_in1
def ah7:=@List.forIn_cons
def ah8:=@List.getElem?_cons_succ
def ah9:=@PyProof.Rows.F.plain_set_update_loop
def aia:=@PySem.codeAny_of_tree
def aib:=@List.range_succ
def aic:=@List.append_of_mem
def aid:=@List.eraseIdx_append_of_length_le
def aie:=@Option.toList_some
def aif:=@Array.getElem?_eq_none
def aih:=@Option.map_eq_none_iff
def aii:=@PySem.Calls.spliced_nil
def aij:=@Array.toList_push
def aik:=@PySem.fits_of_scanBound
def ail:=@List.pairwise_map
def aim:=@PySem.wpAny_setField
def ain:=@List.take_take
def aio:=@List.map_nil
def aip:=@PySem.F.slot_dict_get
def aiq:=@List.mem_iff_getElem?
def air:=@PySem.F.args_dict_keyiterator_next_1
def ais:=@List.lookup_cons
def ait:=@Nat.min_le_right
def aiu:=@List.count_erase
def aiv:=@PySem.StrLaws.seqIndex_nonneg
def aiw:=@List.flatMap_nil
def aix:=@decide_eq_decide
def aiy:=@List.drop_append_of_le_length
def aiz:=@PySem.F.entry_dict_keyiterator_next
def aiA:=@List.getElem?_set_ne
def aiB:=@PySem.Calls.evalArgs_plain
def aiC:=@List.length_dropLast
def aiD:=@PyProof.Rows.entry_proto_collect'
def aiE:=@List.replicate_succ'
def aiF:=@List.length_erase_le
def aiG:=@Nat.add_le_add_right
def aiH:=@List.Pairwise.filter
def aiI:=@Array.toList_reverse
def aiJ:=@List.length_take_le'
def aiK:=@PySem.wpAny_attempt
def aiL:=@PySem.wpAny_newList
def aiM:=@PySem.F.slot_dict_setdefault
def aiN:=@Bool.true_and
def aiO:=@PySem.wpAny_load
def aiP:=@PySem.Value.isStrOf_shape
def aiQ:=@beq_eq_false_iff_ne
def aiR:=@List.filterMap_cons
def aiS:=@PySem.wpAny_execs_nil
def aiT:=@Bool.eq_iff_iff
def aiU:=@List.nil_append
def aiV:=@Option.map_some
def aiW:=@PySem.post_val_or_str
def aiX:=@PyProof.Rows.entry_list_sort
def aiY:=@PySem.F.plain_set_new
def aiZ:=@Nat.not_lt_zero
def ai0:=@List.length_reverse
def ai1:=@List.length_pos_iff
def ai2:=@Int.toNat_of_nonneg
def ai3:=@List.map_eq_nil_iff
def ai4:=@List.filter_map
def ai5:=@PyProof.Rows.wpS_get
def ai6:=@List.drop_length_add_append
def ai7:=@List.getElem_of_mem
def ai9:=@List.length_eraseIdx_of_lt
def aja:=@Array.getElem?_eq_some_iff
def ajb:=@List.getElem?_take_eq_none
def ajc:=@List.perm_ext_iff_of_nodup
def ajd:=@List.all_map
def aje:=@List.find?_eq_none
def ajf:=@Int.zero_add
def ajg:=@Nat.add_zero
def ajh:=@Array.size_reverse
def aji:=@Int.toNat_zero
def ajj:=@PySem.F.plain_extend_loop
def ajk:=@PySem.wpAny_runValue
def ajl:=@PyProof.Rows.slot_list_sort
def ajm:=@PySem.wpAny_pyIter_list
def ajn:=@List.take_sublist
def ajo:=@PySem.F.args_tuple_add_2
def ajp:=@PySem.slot_list_getitem
def ajr:=@Option.some.injEq
def ajs:=@PySem.Heap.SameBut.refl
def ajt:=@PySem.Obj.cls_mapFields
def aju:=@PySem.wpAny_pyIter_slot
def ajv:=@PyProof.Rows.size_push'
def ajw:=@List.reverse_cons
def ajx:=@List.length_erase_of_mem
def ajy:=@List.foldl_append
def ajz:=@List.mem_of_mem_eraseIdx
def ajA:=@List.getElem_drop
def ajB:=@PySem.wpAny_dictEntries
def ajC:=@List.Pairwise.imp_of_mem
def ajD:=@List.eq_of_mem_replicate
def ajE:=@PySem.Paired.length
def ajF:=@PySem.F.entry_tuple_add
def ajG:=@PySem.F.args_dict_get_3
def ajH:=@PySem.F.plainAttrs_dict
def ajI:=@Option.bind_eq_some_iff
def ajJ:=@PySem.wpAny_of_eq
def ajL:=@List.length_eraseIdx_le
def ajM:=@List.pairwise_singleton
def ajO:=@PySem.noFill_tuple_add
def ajP:=@List.cons_append
def ajQ:=@Option.getD_some
def ajR:=@Nat.min_eq_right
def ajS:=@PySem.wpAny_isInstance
def ajT:=@Nat.lt_succ_self
def ajV:=@PySem.Heap.size_update
def ajW:=@PySem.pairTrees_length
def ajX:=@PySem.W.cellsFrom_some
def ajY:=@PySem.F.slot_tuple_add
def aj1:=@PySem.F.entry_dict_get
def aj3:=@Array.size_eq_zero_iff
def aj4:=@List.length_pos_of_mem
def aj6:=@List.of_mem_zip
def aj7:=@PySem.Txt.slice_le
def aj8:=@List.le_refl
def aka:=@Array.size_eq_one_iff
def akc:=@PySem.wpAny_ite_split
def akg:=@List.pairwise_flatMap
def akh:=@List.eq_nil_or_concat
def aki:=@List.concat_eq_append
def akj:=@List.Pairwise.sublist
def akl:=@List.singleton_append
def akn:=@List.take_left'
def ako:=@PySem.wpAny_dictEpoch
def akA:=@List.drop_left
def akB:=@List.forIn_nil
def akG:=@PySem.wpAny_alloc
def akY:=@List.map_take
def akZ:=@Bool.and_self
def ak3:=@Int.ofNat.inj
def als:=@Nat.sub_zero
def alx:=@Nat.min_self
namespace L2
open PySem PySem.Spec PyProof.Rows
abbrev Key:=Sum Int Str
def wO:Key->Value->Bool
 | .inl k,v=>Value.isInt k v
 | .inr x,v=>Value.isStrOf x v
def aeG (w:World):Key->Int
 | .inl k=>hashInt k
 | .inr x=>hashStr w x
theorem bL:∀ {k:Key} {v:Value},wO k v=true->(∃ i t,k=Sum.inl i/\v=Value.int i t)\/(∃ x t,k=Sum.inr x/\v=Value.str x t)
 | .inl i,v,h=>by
  obtain⟨t,e⟩:=Value.isInt_shape (k:=i) (v:=v) h;exact .inl ⟨i,t,rfl,e⟩
 | .inr x,v,h=>by
  obtain⟨t,e⟩:=aiP (x:=x) (v:=v) h;exact .inr ⟨x,t,rfl,e⟩
theorem xm (i:Int)(t:Tok):wO (.inl i) (.int i t)=true:=by simp [wO,Value.isInt]
theorem yF (x:Str)(t:Tok):wO (.inr x) (.str x t)=true:=by simp [wO,Value.isStrOf]
theorem acZ (a b:Int):decide ((Sum.inl a:Key)=Sum.inl b)=(a == b):=by
 by_cases e:a=b
 ·subst e;simp
 ·have h:¬ (Sum.inl a:Key)=Sum.inl b:=fun q=>e (Sum.inl.inj q);rw [afw h];exact (aiQ.mpr e).symm
theorem adj (a b:Str):decide ((Sum.inr a:Key)=Sum.inr b)=decide (a=b):=by
 by_cases e:a=b
 ·subst e;simp
 ·have h:¬ (Sum.inr a:Key)=Sum.inr b:=fun q=>e (Sum.inr.inj q);rw [afw h,afw e]
theorem acx (a:Int)(b:Str):decide ((Sum.inl a:Key)=Sum.inr b)=false:=afw (fun q=>nomatch q)
theorem acH (a:Str)(b:Int):decide ((Sum.inr a:Key)=Sum.inl b)=false:=afw (fun q=>nomatch q)
def bE (prog:Program)(w:World):PySem.KeyKind prog w Key where
 is:=wO
 hash:=aeG w
 inj:=fun v a b ha hb=>by
  rcases bL ha with ⟨i,t,rfl,rfl⟩ | ⟨x,t,rfl,rfl⟩
  ·rcases bL hb with ⟨j,u,rfl,e⟩ | ⟨y,u,rfl,e⟩
   ·injection e with e1 _;rw [e1]
   ·exact nomatch e
  ·rcases bL hb with ⟨j,u,rfl,e⟩ | ⟨y,u,rfl,e⟩
   ·exact nomatch e
   ·injection e with e1 _;rw [e1]
 byValue:=fun k v h=>by
  rcases bL h with ⟨i,t,rfl,rfl⟩ | ⟨x,t,rfl,rfl⟩<;>rfl
 pyHash:=fun hv h=>by
  rcases bL hv with ⟨i,t,rfl,rfl⟩ | ⟨x,t,rfl,rfl⟩
  ·exact wpAny_pyHash_int h
  ·exact wpAny_pyHash_str h
 eqBool:=fun hu hv h=>by
  rcases bL hu with ⟨i,t,rfl,rfl⟩ | ⟨x,t,rfl,rfl⟩
  ·rcases bL hv with ⟨j,u,rfl,rfl⟩ | ⟨y,u,rfl,rfl⟩
   ·rw [acZ] at h;exact wpAny_eqBool_int h
   ·rw [acx] at h;exact SeqAt.EqAt.int_str i t y u _ _ _ _ h
  ·rcases bL hv with ⟨j,u,rfl,rfl⟩ | ⟨y,u,rfl,rfl⟩
   ·rw [acH] at h;exact SeqAt.EqAt.str_int x t j u _ _ _ _ h
   ·rw [adj] at h;exact wpAny_eqBool_str h
 «strs»:=fun k x t v h=>by
  rcases bL h with ⟨i,u,rfl,e⟩ | ⟨y,u,rfl,e⟩
  ·exact nomatch e
  ·injection e with e1 _
   subst e1;cases v<;>rfl
theorem tM (prog:Program)(w:World)(i:Int)(t:Tok):(bE prog w).is (.inl i) (.int i t)=true:=xm i t
theorem uv (prog:Program)(w:World)(x:Str)(t:Tok):(bE prog w).is (.inr x) (.str x t)=true:=yF x t
inductive V where
 | non | bl (b:Bool) | int (i:Int) | str (x:Str) | byt (b:Array UInt8) | flt (b:UInt64) | ref (a:Addr) | ty (n:String)
 deriving DecidableEq
def RelV:V->Value->Prop
 | .non,u=>u=Value.none
 | .bl b,u=>u=Value.bool b
 | .int i,u=>∃ t,u=Value.int i t
 | .str x,u=>∃ t,u=Value.str x t
 | .byt b,u=>∃ t,u=Value.bytes b t
 | .flt b,u=>∃ t,u=Value.float b t
 | .ref a,u=>u=Value.ref a
 | .ty n,u=>u=Value.type n
abbrev Vals:List V->List Value->Prop:=Paired RelV
theorem Vals.length {xs:List V}{us:List Value}(r:Vals xs us):xs.length=us.length:=ajE r
theorem Vals.get:∀ {xs:List V} {us:List Value} {i:Nat} {x:V},Vals xs us->xs[i]? = some x->∃ u,us[i]? = some u/\RelV x u
 | _,_,_,_,.nil,e=>by simp at e
 | _,_,0,_,.cons r _,e=>by simp at e;subst e;exact⟨_,rfl,r⟩
 | _,_,i+1,x,.cons _ t,e=>by
  obtain⟨u,h1,h2⟩:=Vals.get (i:=i) (x:=x) t (by simpa using e);exact⟨u,by simpa using h1,h2⟩
theorem Vals.set {x:V}{u:Value}(r:RelV x u):∀ {xs:List V} {us:List Value} (i:Nat),Vals xs us->Vals (xs.set i x) (us.set i u)
 | _,_,_,.nil=>.nil
 | _,_,0,.cons _ t=>.cons r t
 | _,_,i+1,.cons q t=>.cons q (Vals.set r i t)
theorem Vals.append:∀ {xs ys:List V} {us ws:List Value},Vals xs us->Vals ys ws->Vals (xs++ys) (us++ws)
 | _,_,_,_,.nil,s=>s
 | _,_,_,_,.cons r t,s=>.cons r (Vals.append t s)
theorem Vals.take:∀ {xs:List V} {us:List Value} (n:Nat),Vals xs us->Vals (xs.take n) (us.take n)
 | _,_,0,_=>.nil
 | _,_,_+1,.nil=>.nil
 | _,_,n+1,.cons r t=>.cons r (Vals.take n t)
theorem Vals.drop:∀ {xs:List V} {us:List Value} (n:Nat),Vals xs us->Vals (xs.drop n) (us.drop n)
 | _,_,0,r=>r
 | _,_,_+1,.nil=>.nil
 | _,_,n+1,.cons _ t=>Vals.drop n t
def RelO:Option V->Option Value->Prop
 | some v,some u=>RelV v u
 | none,none=>True
 | _,_=>False
def KV {κ:Type}:List (κ×V)->List (κ×Value)->Prop:=Paired fun (p:κ×V) (q:κ×Value)=>p.1=q.1/\RelV p.2 q.2
def kV:Key->V
 | .inl i=>.int i
 | .inr x=>.str x
inductive HO where
 | lst (xs:List V)
 | tup (xs:List V)
 | dK (kvs:List (Key×V)) | dT (kvs:List (List Key×V))
 | set (S:Int->Bool) (n:Nat)
 | ins (C dx:Addr) (fs:List (Str×V))
 | own (x:Addr)
 | xd (fs:List (Str×V))
 | met (f x:Addr)
 | rng (lo hi:Int)
 | frz (o:Obj) (u:HO)
 | tbl (ps:Array Value)
 | ext (φ:Heap->Prop)
abbrev Hp:=Addr->Option HO
def upd (H:Hp)(a:Addr)(o:HO):Hp:=fun b=>if b=a then some o else H b
theorem ag {H:Hp}{a:Addr}{o:HO}:upd H a o a=some o:=by unfold upd;rw [if_pos rfl]
theorem ah {H:Hp}{a b:Addr}{o:HO}(h:b≠a):upd H a o b=H b:=by unfold upd;rw [if_neg h]
theorem bU {H:Hp}{a b:Addr}{o u:HO}(h:H a=some o)(h':H b=some u)(d:o≠u):a≠b:=by
 intro e;subst e;rw [h] at h';exact d (afW h')
theorem af {H:Hp}{a b:Addr}{o:HO}(h:H a=some o)(h':H b=none):a≠b:=by
 intro e;subst e;rw [h] at h';cases h'
section
variable (P:Program)(w:World)
def ObjOk (H:Hp)(h:Heap)(a:Addr):HO->Prop
 | .lst xs=>xs.length<=sizeLine/\∃ (its:List Value) (n:Nat),Vals xs its/\h.get? a=some { cls:=.type "list",data:=.seq its.toArray n }
 | .tup xs=>xs.length<=sizeLine/\∃ its:List Value,Vals xs its/\IsTup h a its.toArray
 | .dK kvs=>kvs.length<=sizeLine/\(a == sysModules)=false/\∃ vs,KV kvs vs/\h.DictOf (bE P w) a vs
 | .dT kvs=>kvs.length<=sizeLine/\(a == sysModules)=false/\∃ xs:List (List Key×Addr×Value),
  Paired (fun (p:List Key×V) (q:List Key×Addr×Value)=>p.1=q.1/\H q.2.1=some (.tup (p.1.map kV))/\RelV p.2 q.2.2) kvs xs ∧
  ∃ o es ep,h.get? a=some o/\o.ExactDict/\o.data=.dict es ep/\es.toList=xs.map (entryOfKey (tupleKind (bE P w)))/\(xs.map (·.1)).Nodup
 | .set S n=>h.SetOf (intKind P w) a S n
 | .ins C dx fs=>H dx=some (.own a)/\fs.length<=1000/\dx≠a/\h.get? a=some (instObj C dx) ∧
  ∃ mA,h.Ns1 dx mA/\(∀ f,RelO (fs.lookup f) (mA f))/\PySem.Within mA (fs.map (·.1))
 | .own _=>∃ o,h.get? a=some o
 | .xd fs=>∃ mA,h.Ns1 a mA/\∀ f,RelO (fs.lookup f) (mA f)
 | .rng lo hi=>∃ t u v,h.get? a=some { cls:=.type "range",data:=.fields #[.int lo t,.int hi u,.int 1 v] }
 | .frz o u=>h.get? a=some o/\ObjOk H h a u
 | .tbl ps=>h.get? a=some { cls:=.none,data:=.fields ps }
 | .met f x=>h.get? a=some (methodObj (.ref f) (.ref x))
 | .ext φ=>φ h/\(∃ o,h.get? a=some o)/\∀ h1 h2:Heap,φ h1->(∀ o,h1.get? a=some o->h2.get? a=some o)->φ h2
def HOk (H:Hp)(h:Heap):Prop:=∀ a o,H a=some o->ObjOk P w H h a o
end
section
variable {P:Program}{w:World}{H H':Hp}{h h':Heap}{a:Addr}{o:HO}
theorem ObjOk.lt (x:ObjOk P w H h a o):a < h.objs.size:=by
 cases o with
 | lst xs=>obtain⟨_,_,_,_,e⟩:=x;exact ae8 e
 | tup xs=>obtain⟨_,_,_,p⟩:=x;exact p.lt
 | dK kvs=>obtain⟨_,_,_,_,o,_,_,e,_⟩:=x;exact ae8 e
 | dT kvs=>obtain⟨_,_,_,_,o,_,_,e,_⟩:=x;exact ae8 e
 | set S n=>obtain⟨o,_,_,_,e,_⟩:=x;exact ae8 e
 | ins C dx fs=>obtain⟨_,_,_,e,_⟩:=x;exact ae8 e
 | own y=>obtain⟨_,e⟩:=x;exact ae8 e
 | xd fs=>obtain⟨_,⟨_,_,_,e,_⟩,_⟩:=x;exact ae8 e
 | rng lo hi=>obtain⟨_,_,_,e⟩:=x;exact ae8 e
 | frz ob u=>obtain⟨e,_⟩:=x;exact ae8 e
 | tbl ps=>exact ae8 (show h.get? a=some _ from x)
 | met f y=>exact ae8 (show h.get? a=some _ from x)
 | ext φ=>obtain⟨_,⟨_,e⟩,_⟩:=x;exact ae8 e
theorem Paired.mapP {α β:Type}{F G:α->β->Prop}:∀ {l₁:List α} {l₂:List β},Paired F l₁ l₂->(∀ a b,F a b->G a b)->Paired G l₁ l₂
 | _,_,.nil,_=>.nil
 | _,_,.cons r t,f=>.cons (f _ _ r) (Paired.mapP t f)
theorem ObjOk.stay (x:ObjOk P w H h a o)(k:∀ b u,(b=a\/H b=some (.own a))->h.get? b=some u->h'.get? b=some u)
 (ho:∀ b,H b=some (.own a)->H' b=some (.own a))(ht:∀ b xs,H b=some (.tup xs)->H' b=some (.tup xs)):ObjOk P w H' h' a o:=by
 induction o with
 | lst xs=>obtain⟨z,its,n,r,e⟩:=x;exact⟨z,its,n,r,k _ _ (.inl rfl) e⟩
 | tup xs=>obtain⟨z,its,r,ob,e,c⟩:=x;exact⟨z,its,r,ob,k _ _ (.inl rfl) e,c⟩
 | dK kvs=>obtain⟨z,y,vs,r,ob,es,ep,e,c⟩:=x;exact⟨z,y,vs,r,ob,es,ep,k _ _ (.inl rfl) e,c⟩
 | dT kvs =>
  obtain⟨z,y,xs,r,ob,es,ep,e,c⟩:=x;exact⟨z,y,xs,Paired.mapP r fun p q z=>⟨z.1,ht _ _ z.2.1,z.2.2⟩,ob,es,ep,k _ _ (.inl rfl) e,c⟩
 | set S n=>obtain⟨ob,es,ep,t,e,c⟩:=x;exact⟨ob,es,ep,t,k _ _ (.inl rfl) e,c⟩
 | ins C dx fs =>
  obtain⟨d,z,ne,e,mA,⟨od,es,ep,e2,c⟩,r⟩:=x;exact⟨ho _ d,z,ne,k _ _ (.inl rfl) e,mA,⟨od,es,ep,k _ _ (.inr d) e2,c⟩,r⟩
 | own y=>obtain⟨ob,e⟩:=x;exact⟨ob,k _ _ (.inl rfl) e⟩
 | xd fs=>obtain⟨mA,⟨od,es,ep,e,c⟩,r⟩:=x;exact⟨mA,⟨od,es,ep,k _ _ (.inl rfl) e,c⟩,r⟩
 | rng lo hi=>obtain⟨t,u,v,e⟩:=x;exact⟨t,u,v,k _ _ (.inl rfl) e⟩
 | frz ob u ih=>obtain⟨e,q⟩:=x;exact⟨k _ _ (.inl rfl) e,ih q⟩
 | tbl ps =>
  have e:h.get? a=some { cls:=.none,data:=.fields ps }:=x;show h'.get? a=some { cls:=.none,data:=.fields ps };exact k a _ (.inl rfl) e
 | met f y =>
  have e:h.get? a=some (methodObj (.ref f) (.ref y)):=x;show h'.get? a=some (methodObj (.ref f) (.ref y));exact k a _ (.inl rfl) e
 | ext φ=>obtain⟨p,⟨o,e⟩,st⟩:=x;exact⟨st _ _ p fun o q=>k _ _ (.inl rfl) q,⟨o,k _ _ (.inl rfl) e⟩,st⟩
theorem HOk.lt (x:HOk P w H h)(e:H a=some o):a < h.objs.size:=(x a o e).lt
theorem HOk.fresh (x:HOk P w H h)(e:h.objs.size<=a):H a=none:=by
 cases q:H a with
 | none=>rfl
 | some u=>exact absurd (afg (x.lt q) e) (ag4 _)
theorem HOk.kept (x:HOk P w H h)(k:∀ b u,h.get? b=some u->h'.get? b=some u):HOk P w H h':=fun a o e =>
 (x a o e).stay (fun b u _ q=>k b u q) (fun _ q=>q) fun _ _ q=>q
theorem HOk.laid (x:HOk P w H h)(k:∀ b u,h.get? b=some u->h'.get? b=some u)(hp:h.objs.size<=a)(new:ObjOk P w (upd H a o) h' a o):HOk P w (upd H a o) h':=fun b u e=>by
 have hn:=x.fresh hp;by_cases hb:b=a
 ·subst hb;rw [ag] at e;cases e;exact new
 ·rw [ah hb] at e;exact (x b u e).stay (fun c v _ q=>k c v q) (fun c q=>by rw [ah (af q hn)];exact q) fun c xs q=>by rw [ah (af q hn)];exact q
end
def Rd (H:Hp)(a:Addr)(u:HO):Prop:=H a=some u\/∃ o,H a=some (.frz o u)
theorem Rd.ok {P:Program}{w:World}{H:Hp}{h:Heap}{a:Addr}{u:HO}(r:Rd H a u)(x:HOk P w H h):ObjOk P w H h a u:=by
 rcases r with r | ⟨o,r⟩
 ·exact x a u r
 ·obtain⟨_,q⟩:=x a _ r;exact q
def Mut:Option HO->Prop
 | some (.lst _)=>True
 | some (.dK _)=>True
 | some (.dT _)=>True
 | some (.set _ _)=>True
 | some (.ins _ _ _)=>True
 | some (.ext _)=>True
 | _=>False
section
variable {P:Program}{w:World}{H:Hp}{h h':Heap}{x e:Addr}{o':HO}
theorem HOk.write (ok:HOk P w H h)(mu:Mut (H x))(he:e=x\/H e=some (.own x))(k:∀ b u,b≠e->h.get? b=some u->h'.get? b=some u)(heo:∃ u,h'.get? e=some u)
 (new:ObjOk P w (upd H x o') h' x o'):HOk P w (upd H x o') h':=fun b u q=>by
 have nown:∀ c y,H c=some (.own y)->c≠x:=fun c y r z=>by subst z;rw [r] at mu;exact mu
 have ntup:∀ c xs,H c=some (.tup xs)->c≠x:=fun c xs r z=>by subst z;rw [r] at mu;exact mu
 by_cases hb:b=x
 ·subst hb;rw [ag] at q;cases q;exact new
 ·rw [ah hb] at q;by_cases hbe:b=e
  ·have q':H b=some (.own x):=by
    rcases he with z | z
    ·exact absurd (hbe.trans z) hb
    ·rw [hbe];exact z
   rw [q] at q';cases q';obtain⟨v,hv⟩:=heo;exact⟨v,by rw [hbe];exact hv⟩
  ·refine (ok b u q).stay (fun c v hc r=>k c v ?_ r) (fun c r=>by rw [ah (nown c b r)];exact r) fun c xs r=>by rw [ah (ntup c xs r)];exact r
   rcases hc with rfl | hc
   ·exact hbe
   ·rintro rfl;rcases he with z | z
    ·exact nown c b hc z
    ·rw [hc] at z;cases z;exact hb rfl
end
structure Un (fs ex:List Addr)(H H':Hp)(h h':Heap):Prop where
 keep:∀ b o,h.get? b=some o->H b=none->b ∉ fs->b ∉ ex->h'.get? b=some o
 slot:∀ b o,h.get? b=some o->H b=none->b∈fs->b ∉ ex->∃ sl,h'.get? b=some { o with slots:=sl }
 free:∀ b o,h.get? b=some o->H b=none->b ∉ ex->H' b=none
 there:∀ b o,h.get? b=some o->b ∉ ex->∃ o',h'.get? b=some o'
 tups:∀ b xs,H b=some (.tup xs)->H' b=some (.tup xs)
 frzs:∀ b o u,H b=some (.frz o u)->H' b=some (.frz o u)
 tbls:∀ b ps,H b=some (.tbl ps)->∃ more,H' b=some (.tbl (ps++more))
section
variable {fs fs' ex ex':List Addr}{H H1 H2:Hp}{h h1 h2 h':Heap}{a x e:Addr}{o:HO}
theorem Un.any (u:Un fs ex H H1 h h1){b:Addr}{ob:Obj}(q:h.get? b=some ob)(n:H b=none)(hx:b ∉ ex):∃ sl,h1.get? b=some { ob with slots:=sl }:=by
 by_cases hb:b∈fs
 ·exact u.slot b ob q n hb hx
 ·exact⟨ob.slots,u.keep b ob q n hb hx⟩
theorem Un.kept (k:∀ b u,h.get? b=some u->h'.get? b=some u):Un fs ex H H h h' :=
 ⟨fun b ob q _ _ _=>k b ob q,fun b ob q _ _ _=>⟨ob.slots,k b ob q⟩,fun _ _ _ n _=>n,fun b ob q _=>⟨ob,k b ob q⟩,fun _ _ q=>q,fun _ _ _ q=>q,fun _ ps q=>⟨#[],by rw [q];simp⟩⟩
theorem Un.refl:Un fs ex H H h h:=Un.kept fun _ _ q=>q
theorem Un.laid (k:∀ b u,h.get? b=some u->h'.get? b=some u)(hp:h.objs.size<=a)(hn:H a=none):Un fs ex H (upd H a o) h h' where
 keep:=fun b u q _ _ _=>k b u q
 slot:=fun b u q _ _ _=>⟨u.slots,k b u q⟩
 free:=fun b u q n _=>by rw [ah (afm (afg (ae8 q) hp))];exact n
 there:=fun b u q _=>⟨u,k b u q⟩
 tups:=fun b xs q=>by rw [ah (af q hn)];exact q
 frzs:=fun b u xs q=>by rw [ah (af q hn)];exact q
 tbls:=fun b ps q=>⟨#[],by rw [ah (af q hn),q];simp⟩
theorem Un.write (mu:Mut (H x))(he:e=x\/H e=some (.own x))(k:∀ b u,b≠e->h.get? b=some u->h'.get? b=some u)(heo:∃ u,h'.get? e=some u):Un fs ex H (upd H x o) h h':=by
 have hx:∀ b,H b=none->b≠x:=fun b n z=>by subst z;rw [n] at mu;exact mu
 have hb:∀ b,H b=none->b≠e:=fun b n z=>by
  subst z;rcases he with r | r
  ·exact hx b n r
  ·rw [n] at r;cases r
 have hm:∀ b u,H b=some u->¬ Mut (some u)->b≠x:=fun b u q nm z=>by subst z;rw [q] at mu;exact nm mu
 refine⟨fun b u q n _ _=>k b u (hb b n) q,fun b u q n _ _=>⟨u.slots,k b u (hb b n) q⟩,fun b u q n _=>by rw [ah (hx b n)];exact n,fun b u q _=>?_,
  fun b xs q=>by rw [ah (hm b _ q fun z=>z)];exact q,fun b u xs q=>by rw [ah (hm b _ q fun z=>z)];exact q,fun b ps q=>⟨#[],by rw [ah (hm b _ q fun z=>z),q];simp⟩⟩
 by_cases hbe:b=e
 ·subst hbe;exact heo
 ·exact⟨u,k b u hbe q⟩
end
def trk (h:Heap)(H:Hp):List Addr:=(List.range h.objs.size).filter fun a=>(H a).isSome
def zt (h:Heap)(H:Hp):Heap:=PySem.W.hideAll h (trk h H)
theorem yj (h:Heap)(H:Hp):(zt h H).objs.size=h.objs.size:=PySem.W.hideAll_size _ _
theorem aan {h:Heap}{H:Hp}{b:Addr}{o:Obj}(e:h.get? b=some o)(n:H b=none):(zt h H).get? b=some o :=
 PySem.W.hideAll_get _ e fun hm=>by
  have q:(H b).isSome=true:=(agh.mp hm).2;rw [n] at q;simp at q
theorem abJ {h:Heap}{H:Hp}{b:Addr}{o:Obj}(e:(zt h H).get? b=some o):h.get? b=some o/\H b=none:=by
 have e':h.get? b=some o:=PySem.W.of_hideAll (trk h H) e;refine⟨e',?_⟩;cases q:H b with
 | none=>rfl
 | some x =>
  have hm:b∈trk h H:=agh.mpr ⟨afZ.mpr (ae8 e'),by simp [q]⟩;have z:(zt h H).get? b=none:=PySem.W.hideAll_none (trk h H) hm;rw [z] at e;cases e
def acq (g h:Heap)(L:Addr):List (Addr×Obj):=(List.range h.objs.size).filterMap fun a=>if a=L\/(g.get? a).isSome=true then none else (h.get? a).map fun o=>(a,o)
def rest (g h:Heap)(L d:Addr):List (Addr×Obj):=(acq g h L).filter fun p=>decide (p.1≠d)
structure Mod (K:PySem.W.Frag)(mg:Str->Option Value)(base:Heap):Prop where
 kin:K.In base
 glob:base.Ns mainGlobals mg
 blt:∃ mb,base.Ns builtinsNs mb/\∀ x:Str,x ≠ "__name__" → mb x=bootBuiltins x
 nolimit:base.NoLimit
structure Cx where
 prog:Program
 w:World
 K:PySem.W.Frag
 mg:Str->Option Value
 base:Heap
 A:Around
 N:List Str
 s₀:Shared
 H₀:Hp
 env:Env
 outer:List Env
 stack:List Env
 ex:List Addr
 fn:Str->Bool
 calm:Bool
 pn:List (Addr×Obj)
 xe:Value->Shared->Prop
def frs (l:List Env):List Addr:=l.filterMap (·.frame)
abbrev Cx.fs (X:Cx):List Addr:=frs X.outer
def Vis (sc:Scope)(x:Str):Prop:=sc.names.lookup x=some .local\/sc.names.lookup x=some .cell\/sc.names.lookup x=some .free
def Loc (sc:Scope)(x:Str):Prop:=sc.names.lookup x=some .local\/sc.names.lookup x=some .cell
def aez (env:Env)(h:Heap)(m:Str->Option Value)(x:Str)(u:Value):Prop :=
 (env.kindOf x=some .local/\m x=some u)\/((env.kindOf x=some .cell\/env.kindOf x=some .free)/\∃ c,env.cells.lookup x=some c/\h.IsCell c (some u))
structure Cx.Ok (X:Cx):Prop where
 mod:Mod X.K X.mg X.base
 kind:X.env.scope.kind=.function
 glob:X.env.globals=mainGlobals
 blt:X.env.builtins=builtinsNs
 above:X.s₀.heap.objs.size<=X.env.locals
 inj:∀ x y c,X.env.cells.lookup x=some c->X.env.cells.lookup y=some c->x=y
 has:∀ x,(X.env.kindOf x=some .cell\/X.env.kindOf x=some .free)->∃ c,X.env.cells.lookup x=some c
 cab:∀ x c,X.fn x=true->X.env.cells.lookup x=some c->X.s₀.heap.objs.size<=c
 hd:X.calm=true->X.A.handled=none
 frames:X.A.frames=some X.stack
 stk:X.stack=X.outer\/(X.stack=X.env::X.outer/\X.env.frame=some X.env.locals)
 exf:∀ b∈X.ex,b≠X.env.locals/\∀ x c,X.env.cells.lookup x=some c->c≠b
 bs:∀ b o,X.base.get? b=some o->X.s₀.heap.get? b=some o/\X.H₀ b=none
 bsz:X.base.objs.size<=X.s₀.heap.objs.size
 noex:∀ b o,X.base.get? b=some o->b ∉ X.ex
 exfs:∀ b∈X.ex,b ∉ X.fs
 funs:X.s₀.heap.FunFrames X.base X.outer
 frf:∀ b∈X.fs,X.H₀ b=none
structure Inv (X:Cx)(pins:List (Addr×Obj))(σ:List (Option V))(H:Hp)(s:Shared):Prop where
 ok:X.Ok
 os:s.os=X.s₀.os
 bare:AllBare s.gens
 base:Un X.fs X.ex X.H₀ H X.s₀.heap s.heap
 loc:∃ m,s.heap.Ns X.env.locals m/\∀ (i:Nat) (x:Str) (v:V),X.N[i]? = some x->σ[i]? = some (some v)->Vis X.env.scope x->∃ u,RelV v u/\aez X.env s.heap m x u
 cell:∀ x c,X.env.cells.lookup x=some c->∃ v,s.heap.IsCell c v
 free:H X.env.locals=none
 freeC:∀ x c,X.env.cells.lookup x=some c->H c=none
 pin:∀ p∈X.pn++pins,s.heap.get? p.1=some p.2/\H p.1=none/\p.1≠X.env.locals/\p.1 ∉ X.fs/\∀ v,p.2.data≠.cell v
 hok:HOk X.prog X.w H s.heap
 len:σ.length=X.N.length
section
variable {X:Cx}{pins:List (Addr×Obj)}{σ:List (Option V)}{H H':Hp}{s:Shared}{h':Heap}
theorem Cx.Ok.nofr (ok:X.Ok){b:Addr}{o:Obj}(e:X.base.get? b=some o):b ∉ X.fs:=fun hb=>by
 have:=(ok.funs.mem hb).1;rw [e] at this;cases this
theorem Inv.bs (I:Inv X pins σ H s):∀ b o,X.base.get? b=some o->s.heap.get? b=some o/\H b=none:=fun b o e =>
 ⟨I.base.keep b o (I.ok.bs b o e).1 (I.ok.bs b o e).2 (I.ok.nofr e) (I.ok.noex b o e),I.base.free b o (I.ok.bs b o e).1 (I.ok.bs b o e).2 (I.ok.noex b o e)⟩
theorem Inv.bk (I:Inv X pins σ H s):∀ b o,X.base.get? b=some o->s.heap.get? b=some o:=fun b o e=>(I.bs b o e).1
theorem Inv.mod (I:Inv X pins σ H s):Mod X.K X.mg X.base:=I.ok.mod
theorem Inv.kIn (I:Inv X pins σ H s):X.K.In s.heap:=I.ok.mod.kin.keeps I.bk
theorem Inv.fr (I:Inv X pins σ H s):∃ m,Fr X.base X.env.locals s.heap m :=
 let ⟨m,hn,_⟩:=I.loc
 ⟨m,hn,I.bk,aft I.ok.bsz I.ok.above⟩
theorem Inv.lt (I:Inv X pins σ H s):X.env.locals < s.heap.objs.size:=let ⟨_,hn,_⟩:=I.loc;hn.lt
theorem Inv.sz (I:Inv X pins σ H s):X.s₀.heap.objs.size<=s.heap.objs.size:=aft I.ok.above (afo I.lt)
theorem Inv.nofs (I:Inv X pins σ H s){a:Addr}(h:s.heap.objs.size<=a):a ∉ X.fs:=fun hb=>by
 obtain⟨_,o,ho,_⟩:=I.ok.funs.mem hb;exact absurd (afg (ae8 ho) (aft I.sz h)) (ag4 _)
theorem Inv.cne (I:Inv X pins σ H s):∀ x c,X.env.cells.lookup x=some c->c≠X.env.locals:=fun x c e z=>by
 obtain⟨v,o,ho,hd⟩:=I.cell x c e;obtain⟨m,⟨o',es,ep,ho',hd',_⟩,_⟩:=I.loc;rw [z,ho'] at ho;cases ho;rw [hd'] at hd;cases hd
theorem Inv.funs (I:Inv X pins σ H s):s.heap.FunFrames X.base X.outer:=by
 have all:∀ (l:List Env),(∀ b∈frs l,b∈X.fs)->X.s₀.heap.FunFrames X.base l->s.heap.FunFrames X.base l:=by
  intro l
  induction l with
  | nil=>intro _ _;trivial
  | cons env r ih =>
   intro hs hl;obtain⟨hk,⟨L,o,hf,hn,ho,hd⟩,hr⟩:=hl;have hL:L∈X.fs:=hs L (by unfold frs;rw [aiR,hf];exact ae0);obtain⟨sl,e⟩:=I.base.slot L o ho (I.ok.frf L hL) hL fun z=>I.ok.exfs L z hL;exact⟨hk,⟨L,_,hf,hn,e,hd⟩,ih (fun b hb=>hs b (by unfold frs;rw [aiR,hf];exact ae6 _ hb)) hr⟩
 exact all X.outer (fun _ hb=>hb) I.ok.funs
theorem Inv.stack (I:Inv X pins σ H s):s.heap.FunFrames X.base X.stack:=by
 rcases I.ok.stk with e | ⟨e,hf⟩
 ·rw [e];exact I.funs
 ·rw [e];obtain⟨m,hn,_⟩:=I.loc;refine .cons (by rw [I.ok.kind];decide) hf hn ?_ I.funs;exact Heap.get?_none_of_le (aft I.ok.bsz I.ok.above)
theorem Inv.stkSub (I:Inv X pins σ H s):∀ b∈frs X.stack,b∈X.env.locals::X.fs:=fun b hb=>by
 rcases I.ok.stk with e | ⟨e,hf⟩
 ·rw [e] at hb;exact ae6 _ hb
 ·rw [e] at hb;unfold frs at hb;rw [aiR,hf] at hb;exact hb
theorem Inv.stkFree (I:Inv X pins σ H s):∀ b∈frs X.stack,H b=none:=fun b hb=>by
 rcases ae7.mp (I.stkSub b hb) with e | hb
 ·rw [e];exact I.free
 ·obtain⟨_,o,ho,_⟩:=I.ok.funs.mem hb;exact I.base.free b o ho (I.ok.frf b hb) fun z=>I.ok.exfs b z hb
theorem Inv.step {g':Array GenState}{t':Nat}{d':Drawn}{ch:List Addr}(I:Inv X pins σ H s)
 (hch:∀ b∈ch,(b∈X.ex\/X.s₀.heap.objs.size<=b)/\b≠X.env.locals/\(∀ x c,X.env.cells.lookup x=some c->c≠b)/\∀ p∈X.pn++pins,p.1≠b)
 (keep:∀ b o,b≠X.env.locals->b ∉ X.fs->b ∉ ch->s.heap.get? b=some o->H b=none->h'.get? b=some o)
 (slot:∀ b o,b≠X.env.locals->b∈X.fs->b ∉ ch->s.heap.get? b=some o->H b=none->∃ sl,h'.get? b=some { o with slots:=sl })(free:∀ b o,b ∉ ch->s.heap.get? b=some o->H b=none->H' b=none)
 (there:∀ b o,b ∉ ch->s.heap.get? b=some o->∃ o',h'.get? b=some o')
 (tups:∀ b xs,H b=some (.tup xs)->H' b=some (.tup xs))(frzs:∀ b o u,H b=some (.frz o u)->H' b=some (.frz o u))(tbls:∀ b ps,H b=some (.tbl ps)->∃ more,H' b=some (.tbl (ps++more)))
 (ns:∀ m,s.heap.Ns X.env.locals m->h'.Ns X.env.locals m)(hok:HOk X.prog X.w H' h')(hg:AllBare g') :
 Inv X pins σ H' { s with heap:=h',gens:=g',drawn:=d',toks:=t' }:=by
 have neL:∀ b o,X.s₀.heap.get? b=some o->b≠X.env.locals:=fun b o e=>afm (afg (ae8 e) I.ok.above);have neC:∀ b o,X.s₀.heap.get? b=some o->b ∉ X.ex->b ∉ ch:=fun b o e hx hb=>by
  rcases (hch b hb).1 with z | z
  ·exact hx z
  ·exact absurd (afg (ae8 e) z) (ag4 _)
 have cellK:∀ x c,X.env.cells.lookup x=some c->∀ v,s.heap.IsCell c v->h'.IsCell c v:=fun x c e v ⟨o,ho,hd⟩=>by
  have nch:c ∉ ch:=fun z=>(hch c z).2.2.1 x c e rfl;by_cases hc:c∈X.fs
  ·obtain⟨sl,q⟩:=slot c o (I.cne x c e) hc nch ho (I.freeC x c e);exact⟨_,q,hd⟩
  ·exact⟨o,keep c o (I.cne x c e) hc nch ho (I.freeC x c e),hd⟩
 refine⟨I.ok,I.os,hg,⟨fun b o e n hb hx=>?_,fun b o e n hb hx=>?_,fun b o e n hx=>?_,fun b o e hx=>?_,fun b xs e=>tups b xs (I.base.tups b xs e),fun b o xs e=>frzs b o xs (I.base.frzs b o xs e),fun b ps e=>?_⟩,?_,fun x c e=>?_,?_,fun x c e=>?_,fun p hp=>?_,hok,I.len⟩
 ·exact keep b o (neL b o e) hb (neC b o e hx) (I.base.keep b o e n hb hx) (I.base.free b o e n hx)
 ·obtain⟨sl,e1⟩:=I.base.slot b o e n hb hx;obtain⟨sl',e2⟩:=slot b _ (neL b o e) hb (neC b o e hx) e1 (I.base.free b o e n hx);exact⟨sl',e2⟩
 ·obtain⟨o',e1⟩:=I.base.there b o e hx;exact free b o' (neC b o e hx) e1 (I.base.free b o e n hx)
 ·obtain⟨o',e1⟩:=I.base.there b o e hx;exact there b o' (neC b o e hx) e1
 ·obtain⟨m1,e1⟩:=I.base.tbls b ps e;obtain⟨m2,e2⟩:=tbls b _ e1;exact⟨m1++m2,by rw [e2,Array.append_assoc]⟩
 ·obtain⟨m,hn,hl⟩:=I.loc;refine⟨m,ns m hn,fun i x v e1 e2 e3=>?_⟩;obtain⟨u,r,l⟩:=hl i x v e1 e2 e3;refine⟨u,r,?_⟩;rcases l with l | ⟨k,c,e,z⟩
  ·exact .inl l
  ·exact .inr ⟨k,c,e,cellK x c e _ z⟩
 ·obtain⟨v,z⟩:=I.cell x c e;exact⟨v,cellK x c e v z⟩
 ·obtain⟨m,⟨o,_,_,ho,_⟩,_⟩:=I.loc;exact free _ o (fun z=>(hch _ z).2.1 rfl) ho I.free
 ·obtain⟨v,o,ho,hd⟩:=I.cell x c e;exact free c o (fun z=>(hch c z).2.2.1 x c e rfl) ho (I.freeC x c e)
 ·obtain⟨e,n,ne,nf,d⟩:=I.pin p hp;have nch:p.1 ∉ ch:=fun z=>(hch p.1 z).2.2.2 p hp rfl;exact⟨keep p.1 p.2 ne nf nch e n,free p.1 p.2 nch e n,ne,nf,d⟩
theorem Inv.un {t':Nat}(I:Inv X pins σ H s)(u:Un X.fs [] H H' s.heap h')(hok:HOk X.prog X.w H' h'):Inv X pins σ H' { s with heap:=h',toks:=t' }:=by
 obtain⟨m,⟨o,es,ep,ho,r⟩,_⟩:=id I.loc;obtain⟨sl,hL⟩:=u.any ho I.free (by simp);exact I.step (g':=s.gens) (d':=s.drawn) (ch:=[]) (fun _ z=>nomatch z) (fun b o _ hb _ e n=>u.keep b o e n hb (by simp)) (fun b o _ hb _ e n=>u.slot b o e n hb (by simp)) (fun b o _ e n=>u.free b o e n (by simp)) (fun b o _ e=>u.there b o e (by simp)) u.tups u.frzs u.tbls (fun m' hm=>by
  obtain⟨o',es',ep',ho',r'⟩:=hm;rw [ho] at ho';cases ho';exact⟨_,es',ep',hL,r'⟩) hok I.bare
theorem Inv.call {g':Array GenState}{t':Nat}{d':Drawn}{ch:List Addr}(I:Inv X pins σ H s)(u:Un (frs X.stack) ch H H' s.heap h')(hok:HOk X.prog X.w H' h')(hg:AllBare g')
 (hch:∀ b∈ch,(b∈X.ex\/X.s₀.heap.objs.size<=b)/\b≠X.env.locals/\(∀ x c,X.env.cells.lookup x=some c->c≠b)/\∀ p∈X.pn++pins,p.1≠b) :
 Inv X pins σ H' { s with heap:=h',gens:=g',drawn:=d',toks:=t' }:=by
 obtain⟨m,⟨o,es,ep,ho,r⟩,_⟩:=id I.loc;obtain⟨sl,hL⟩:=u.any ho I.free fun z=>(hch _ z).2.1 rfl;exact I.step (ch:=ch) hch (fun b o hL hb hc e n=>u.keep b o e n (fun z=>(ae7.mp (I.stkSub b z)).elim hL hb) hc) (fun b o _ _ hc e n=>u.any e n hc) (fun b o hc e n=>u.free b o e n hc) (fun b o hc e=>u.there b o e hc) u.tups u.frzs u.tbls (fun m' hm=>by
  obtain⟨o',es',ep',ho',r'⟩:=hm;rw [ho] at ho';cases ho';exact⟨_,es',ep',hL,r'⟩) hok hg
theorem Inv.turned {t':Nat}{it:Addr}(I:Inv X pins σ H s)(k:∀ b o,b≠it->s.heap.get? b=some o->h'.get? b=some o)(hn:H it=none)(hL:it≠X.env.locals)
 (h1:it∈X.ex\/X.s₀.heap.objs.size<=it)(h2:∀ x c,X.env.cells.lookup x=some c->c≠it)(h3:∀ p∈X.pn++pins,p.1≠it):Inv X pins σ H { s with heap:=h',toks:=t' }:=by
 have nit:∀ b u,H b=some u->b≠it:=fun b u e z=>by rw [z,hn] at e;cases e
 refine I.step (g':=s.gens) (d':=s.drawn) (ch:=[it]) (fun b hb=>?_) (fun b o _ _ hc e _=>k b o (fun z=>hc (by simp [z])) e) (fun b o _ _ hc e _=>⟨o.slots,k b o (fun z=>hc (by simp [z])) e⟩) (fun _ _ _ _ n=>n)
  (fun b o hc e=>⟨o,k b o (fun z=>hc (by simp [z])) e⟩) (fun _ _ e=>e) (fun _ _ _ e=>e) (fun b ps e=>⟨#[],by rw [e];simp⟩) (fun m hm=>?_) (fun b u e=>?_) I.bare
 ·have e:b=it:=by simpa using hb
  subst e;exact⟨h1,hL,h2,h3⟩
 ·obtain⟨o,es,ep,ho,r⟩:=hm;exact⟨o,es,ep,k _ o (agM hL) ho,r⟩
 ·refine (I.hok b u e).stay (fun c v hc q=>k c v ?_ q) (fun _ q=>q) fun _ _ q=>q;rcases hc with z | z
  ·rw [z];exact nit b u e
  ·exact nit c _ z
theorem Inv.tok (I:Inv X pins σ H s)(t:Nat):Inv X pins σ H { s with toks:=t }:=I.un (h':=s.heap) (t':=t) Un.refl I.hok
theorem Inv.kept {t':Nat}(I:Inv X pins σ H s)(k:∀ b u,s.heap.get? b=some u->h'.get? b=some u):Inv X pins σ H { s with heap:=h',toks:=t' }:=I.un (Un.kept k) (I.hok.kept k)
theorem Inv.laid {a:Addr}{o:HO}{t':Nat}(I:Inv X pins σ H s)(k:∀ b u,s.heap.get? b=some u->h'.get? b=some u)(hp:s.heap.objs.size<=a)(new:ObjOk X.prog X.w (upd H a o) h' a o) :
 Inv X pins σ (upd H a o) { s with heap:=h',toks:=t' }:=I.un (Un.laid k hp (I.hok.fresh hp)) (I.hok.laid k hp new)
theorem Inv.write {x e:Addr}{o:HO}{t':Nat}(I:Inv X pins σ H s)(mu:Mut (H x))(he:e=x\/H e=some (.own x))(k:∀ b u,b≠e->s.heap.get? b=some u->h'.get? b=some u)(heo:∃ u,h'.get? e=some u)
 (new:ObjOk X.prog X.w (upd H x o) h' x o):Inv X pins σ (upd H x o) { s with heap:=h',toks:=t' }:=I.un (Un.write mu he k heo) (I.hok.write mu he k heo new)
theorem Inv.weak {σ':List (Option V)}(I:Inv X pins σ H s)(hl:σ'.length=σ.length)(w:∀ (i:Nat) v,σ'[i]? = some (some v)->σ[i]? = some (some v)):Inv X pins σ' H s :=
 ⟨I.ok,I.os,I.bare,I.base,let ⟨m,hn,hl'⟩:=I.loc;⟨m,hn,fun i x v e1 e2 e3=>hl' i x v e1 (w i v e2) e3⟩,I.cell,I.free,I.freeC,I.pin,I.hok,hl.trans I.len⟩
theorem Inv.pins_of {pins':List (Addr×Obj)}(I:Inv X pins σ H s)(h:∀ p∈pins',s.heap.get? p.1=some p.2/\H p.1=none/\p.1≠X.env.locals/\p.1 ∉ X.fs/\∀ v,p.2.data≠.cell v):Inv X pins' σ H s :=
 ⟨I.ok,I.os,I.bare,I.base,I.loc,I.cell,I.free,I.freeC,fun p hp=>(aeT.mp hp).elim (fun z=>I.pin p (aff _ z)) (h p),I.hok,I.len⟩
theorem vt {N:List Str}(hN:N.Nodup){i j:Nat}{x:Str}(a:N[i]? = some x)(b:N[j]? = some x):i=j:=by
 obtain⟨h1,e1⟩:=aeU.mp a;obtain⟨h2,e2⟩:=aeU.mp b;exact (List.getElem_inj hN).mp (e1.trans e2.symm)
theorem rn {M:Model}{A:Around}{E:Value->Shared->Prop}{i:Nat}{x:Str}{v:V}{u:Value}{Q:Unit->Shared->Prop}(I:Inv X pins σ H s)(hN:X.N.Nodup)(hi:X.N[i]? = some x)(hx:Loc X.env.scope x)(r:RelV v u)
 (h:∀ s',Inv X pins (σ.set i (some v)) H s'->(∃ a,Heap.SameBut a s.heap s'.heap/\(a=X.env.locals\/X.env.cells.lookup x=some a))->Q () s')(hf:X.fn x=true\/X.env.scope.names.lookup x=some .local:=by first | exact .inl rfl | exact .inr rfl | assumption):wpAny M A (storeName X.env x u) Q E s:=by
 obtain⟨m,hn,hl⟩:=id I.loc;have hcls:(X.env.scope.kind == .class || (X.env.scope.kind == .module && X.env.locals != X.env.globals))=false:=by rw [I.ok.kind];rfl
 have hiσ:i < σ.length:=by rw [I.len];exact (aeU.mp hi).1
 have cne:=I.cne;have tracked:∀ {a:Addr} {h':Heap},(∃ o,s.heap.get? a=some o/\H a=none)->Heap.SameBut a s.heap h'->HOk X.prog X.w H h':=fun {a h'} ha hs b ob e=>by
  obtain⟨_,_,hfree⟩:=ha;refine (I.hok b ob e).stay (fun c w' hc q=>(hs.2 c ?_).trans q) (fun _ q=>q) fun _ _ q=>q;rintro rfl;rcases hc with rfl | hc
  ·rw [hfree] at e;cases e
  ·rw [hfree] at hc;cases hc
 rcases hx with hk | hk
 ·refine wpAny_storeName_local hk hn (fun h' hn' hs=>?_) hcls;obtain⟨oL,_,_,hoL,_⟩:=id hn;refine h _ ⟨I.ok,I.os,I.bare,⟨fun b o e n hb hx=>?_,fun b o e n hb hx=>?_,I.base.free,fun b o e hx=>?_,I.base.tups,I.base.frzs,I.base.tbls⟩,⟨_,hn',fun j y v' e1 e2 e3=>?_⟩,fun y c e=>?_,I.free,I.freeC,fun p hp=>?_,tracked ⟨oL,hoL,I.free⟩ hs,by simpa using I.len⟩ ⟨_,hs,.inl rfl⟩
  ·exact (hs.2 b (afm (afg (ae8 e) I.ok.above))).trans (I.base.keep b o e n hb hx)
  ·obtain⟨sl,e1⟩:=I.base.slot b o e n hb hx;exact⟨sl,(hs.2 b (afm (afg (ae8 e) I.ok.above))).trans e1⟩
  ·obtain⟨o',e1⟩:=I.base.there b o e hx;exact⟨o',(hs.2 b (afm (afg (ae8 e) I.ok.above))).trans e1⟩
  ·by_cases hj:j=i
   ·subst hj;rw [hi] at e1;cases e1;rw [agY hiσ] at e2;cases e2;exact⟨u,r,.inl ⟨hk,by simp⟩⟩
   ·rw [aiA (agM hj)] at e2;obtain⟨u',r',q⟩:=hl j y v' e1 e2 e3;refine⟨u',r',?_⟩;rcases q with ⟨k,e⟩ | ⟨k,c,e,z⟩
    ·refine .inl ⟨k,?_⟩;have:y≠x:=fun e=>hj (vt hN e1 (e▸hi));simp [this,e]
    ·exact .inr ⟨k,c,e,z.sameBut hs (cne y c e)⟩
  ·obtain⟨w',z⟩:=I.cell y c e;exact⟨w',z.sameBut hs (cne y c e)⟩
  ·obtain⟨e,n,ne,nf,d⟩:=I.pin p hp;exact⟨(hs.2 p.1 ne).trans e,n,ne,nf,d⟩
 ·have hfn:X.fn x=true:=by
   rcases hf with z | z
   ·exact z
   ·rw [z] at hk;cases hk
  obtain⟨c,hc⟩:=I.ok.has x (.inl hk);obtain⟨w',z⟩:=I.cell x c hc;refine wpAny_storeName_cell I.ok.kind hk hc z (fun h' hc' hs=>?_);obtain⟨oc,hoc,hocd⟩:=id z;refine h { s with heap:=h' } ⟨I.ok,I.os,I.bare,⟨fun b o e n hb hx=>?_,fun b o e n hb hx=>?_,I.base.free,fun b o e hx=>?_,I.base.tups,I.base.frzs,I.base.tbls⟩,⟨m,hn.sameBut hs (agM (cne x c hc)),fun j y v' e1 e2 e3=>?_⟩,fun y c' e=>?_,I.free,I.freeC,fun p hp=>?_,tracked ⟨oc,hoc,I.freeC x c hc⟩ hs,by simpa using I.len⟩ ⟨c,hs,.inr hc⟩
  ·exact (hs.2 b (afm (afg (ae8 e) (I.ok.cab x c hfn hc)))).trans (I.base.keep b o e n hb hx)
  ·obtain⟨sl,e1⟩:=I.base.slot b o e n hb hx;exact⟨sl,(hs.2 b (afm (afg (ae8 e) (I.ok.cab x c hfn hc)))).trans e1⟩
  ·obtain⟨o',e1⟩:=I.base.there b o e hx;exact⟨o',(hs.2 b (afm (afg (ae8 e) (I.ok.cab x c hfn hc)))).trans e1⟩
  ·by_cases hj:j=i
   ·subst hj;rw [hi] at e1;cases e1;rw [agY hiσ] at e2;cases e2;exact⟨u,r,.inr ⟨.inl hk,c,hc,hc'⟩⟩
   ·rw [aiA (agM hj)] at e2;obtain⟨u',r',q⟩:=hl j y v' e1 e2 e3;refine⟨u',r',?_⟩;rcases q with q | ⟨k,c',e,z'⟩
    ·exact .inl q
    ·refine .inr ⟨k,c',e,z'.sameBut hs ?_⟩;rintro rfl;exact hj (vt hN e1 (I.ok.inj _ _ _ e hc▸hi))
  ·by_cases hcc:c'=c
   ·subst hcc;exact⟨_,hc'⟩
   ·obtain⟨w2,z2⟩:=I.cell y c' e;exact⟨w2,z2.sameBut hs hcc⟩
  ·obtain⟨e,n,ne,nf,d⟩:=I.pin p hp;refine⟨(hs.2 p.1 ?_).trans e,n,ne,nf,d⟩;intro q;rw [q,hoc] at e;have q':oc=p.2:=afW e;exact d w' (by rw [← q'];exact hocd)
theorem pU {M:Model}{A:Around}{E:Value->Shared->Prop}{i:Nat}{x:Str}{v:V}{u:Value}{Q:Unit->Shared->Prop}(I:Inv X pins σ H s)(hN:X.N.Nodup)(hi:X.N[i]? = some x)(hx:Loc X.env.scope x)(r:RelV v u)
 (h:∀ s',Inv X pins (σ.set i (some v)) H s'->Q () s')(hf:X.fn x=true\/X.env.scope.names.lookup x=some .local:=by first | exact .inl rfl | exact .inr rfl | assumption):wpAny M A (storeName X.env x u) Q E s :=
 rn I hN hi hx r (fun s' I' _=>h s' I') hf
theorem Inv.call' {s':Shared}{ch:List Addr}(I:Inv X pins σ H s)(ho:s'.os=s.os)(u:Un (frs X.stack) ch H H' s.heap s'.heap)(hok:HOk X.prog X.w H' s'.heap)(hg:AllBare s'.gens)
 (hch:∀ b∈ch,(b∈X.ex\/X.s₀.heap.objs.size<=b)/\b≠X.env.locals/\(∀ x c,X.env.cells.lookup x=some c->c≠b)/\∀ p∈X.pn++pins,p.1≠b):Inv X pins σ H' s':=by
 obtain⟨h',g',d',t',o'⟩:=s';have e:o'=s.os:=ho;subst e;exact I.call (g':=g') (t':=t') (d':=d') u hok hg hch
end
abbrev XK:=Value->Option Addr->Hp->Prop
abbrev St:=List (Option V)
abbrev VK:=V->Hp->Prop
abbrev TE:=St->Hp->VK->Prop
abbrev TT:=St->Hp->(Bool->Hp->Prop)->Prop
abbrev TA:=St->Hp->(List V->Hp->Prop)->Prop
structure zh where
 nx:St->Hp->Prop
 rt:VK
 bk:St->Hp->Prop:=fun _ _=>False
 ct:St->Hp->Prop:=fun _ _=>False
abbrev TS:=zh->St->Hp->Prop
def EP (X:Cx)(pins:List (Addr×Obj))(σ:St)(Q:VK)(u:Value)(s':Shared):Prop:=∃ v H',Inv X pins σ H' s'/\RelV v u/\Q v H'
def TP (X:Cx)(pins:List (Addr×Obj))(σ:St)(Q:Bool->Hp->Prop)(b:Bool)(s':Shared):Prop:=∃ H',Inv X pins σ H' s'/\Q b H'
def AP (X:Cx)(pins:List (Addr×Obj))(σ:St)(Q:List V->Hp->Prop)(us:List Value)(s':Shared):Prop:=∃ vs H',Inv X pins σ H' s'/\Vals vs us/\Q vs H'
def SP (X:Cx)(pins:List (Addr×Obj))(D:zh)(f:Flow)(s':Shared):Prop :=
 match f with
 | .next=>∃ σ' H',Inv X pins σ' H' s'/\D.nx σ' H'
 | .brk=>∃ σ' H',Inv X pins σ' H' s'/\D.bk σ' H'
 | .cont=>∃ σ' H',Inv X pins σ' H' s'/\D.ct σ' H'
 | .ret u=>∃ v σ' H',Inv X pins σ' H' s'/\RelV v u/\D.rt v H'
def PE (X:Cx)(e:Expr)(t:TE):Prop :=
 ∀ (pins:List (Addr×Obj)) (s:Shared) (σ:St) (H:Hp) (Q:VK),Inv X pins σ H s->t σ H Q->wpAny (model X.prog X.w) X.A (eval e X.env) (EP X pins σ Q) X.xe s
def PT (X:Cx)(e:Expr)(t:TT):Prop :=
 ∀ (pins:List (Addr×Obj)) (s:Shared) (σ:St) (H:Hp) (Q:Bool->Hp->Prop),Inv X pins σ H s->t σ H Q->wpAny (model X.prog X.w) X.A (isTrue e X.env (eval e X.env)) (TP X pins σ Q) X.xe s
def PW (X:Cx)(e:Expr)(t:TT):Prop :=
 ∀ (whole:Sem Value) (pins:List (Addr×Obj)) (s:Shared) (σ:St) (H:Hp) (Q:Bool->Hp->Prop),Inv X pins σ H s->t σ H Q->wpAny (model X.prog X.w) X.A (isTrue e X.env whole) (TP X pins σ Q) X.xe s
theorem PW.pt {X:Cx}{e:Expr}{t:TT}(h:PW X e t):PT X e t:=h _
def PA (X:Cx)(es:List Expr)(t:TA):Prop :=
 ∀ (pos:Pos) (pins:List (Addr×Obj)) (s:Shared) (σ:St) (H:Hp) (Q:List V->Hp->Prop),Inv X pins σ H s->t σ H Q->wpAny (model X.prog X.w) X.A (spliced (backTo pos (starEach es X.env))) (AP X pins σ Q) X.xe s
def PS (X:Cx)(st:Stmt)(t:TS):Prop :=
 ∀ (pins:List (Addr×Obj)) (s:Shared) (σ:St) (H:Hp) (D:zh),Inv X pins σ H s->t D σ H->wpAny (model X.prog X.w) X.A (exec st X.env) (SP X pins D) X.xe s
def PSs (X:Cx)(st:List Stmt)(t:TS):Prop :=
 ∀ (pins:List (Addr×Obj)) (s:Shared) (σ:St) (H:Hp) (D:zh),Inv X pins σ H s->t D σ H->wpAny (model X.prog X.w) X.A (execs st X.env) (SP X pins D) X.xe s
theorem thn {α:Type}{t:Sem α}{Q Q':α->Shared->Prop}{M:Model}{A:Around}{E:Value->Shared->Prop}{s:Shared}(h:wpAny M A t Q E s)(hQ:∀ a s,Q a s->Q' a s):wpAny M A t Q' E s:=afL h hQ fun _ _ x=>x
section
variable {X:Cx}
theorem bin {a b:Expr}{ta tb:TE}(ha:PE X a ta)(hb:PE X b tb){pins:List (Addr×Obj)}{s:Shared}{σ:St}{H:Hp}{R:V->V->Hp->Prop}(I:Inv X pins σ H s)(h:ta σ H fun x H1=>tb σ H1 fun y H2=>R x y H2)
 {α:Type}{Q:α->Shared->Prop}{f:Value->Value->Sem α}
 (hf:∀ v u s2 x y H2,Inv X pins σ H2 s2->RelV x v->RelV y u->R x y H2->wpAny (model X.prog X.w) X.A (f v u) Q X.xe s2) :
 wpAny (model X.prog X.w) X.A (eval a X.env) (fun v s₁=>wpAny (model X.prog X.w) X.A (eval b X.env) (fun u s₂=>wpAny (model X.prog X.w) X.A (f v u) Q X.xe s₂) X.xe s₁) X.xe s:=by
 refine thn (ha pins s σ H _ I h) fun v s1 ⟨x,H1,I1,r1,q1⟩=>?_;refine thn (hb pins s1 σ H1 _ I1 q1) fun u s2 ⟨y,H2,I2,r2,q2⟩=>?_;exact hf v u s2 x y H2 I2 r1 r2 q2
def wV (i:Nat):TE:=fun σ H Q=>∃ v,σ[i]? = some (some v)/\Q v H
def tC (v:V):TE:=fun _ H Q=>Q v H
theorem ac5 {i:Nat}{x:Str}{pos:Pos}(hN:X.N[i]? = some x)(hv:Vis X.env.scope x)(hd:(x == ("__debug__" : Str))=false:=by decide)(hcd:(x == ("__classdict__" : Str))=false:=by decide):PE X (.Name x pos) (wV i):=by
 intro pins s σ H Q I h;obtain⟨v,e,h⟩:=h;obtain⟨m,hn,hl⟩:=I.loc;obtain⟨u,r,l⟩:=hl i x v hN e hv;have fin:EP X pins σ Q u s:=⟨v,H,I,r,h⟩;rcases l with ⟨hk,hm⟩ | ⟨hk,c,hc,hcell⟩
 ·exact wpAny_Name (wpAny_loadName_local I.ok.kind hk hn hm fin) hd
 ·rcases hk with hk | hk
  ·exact wpAny_Name (wpAny_loadName_cell I.ok.kind hk hc hcell fin) hd
  ·exact wpAny_Name (wpAny_loadName_free I.ok.kind hk hc hcell fin hcd) hd
theorem ak {i j pos}:PE X (.Constant (.int i) j pos) (tC (.int i)):=fun _ _ _ H _ I h=>wpAny_Constant_int ⟨.int i,H,I.tok _,⟨_,rfl⟩,h⟩
theorem jU {b j pos}:PE X (.Constant (.bool b) j pos) (tC (.bl b)):=fun _ _ _ H _ I h=>Constant_bool ⟨.bl b,H,I,rfl,h⟩
theorem j9 {j pos}:PE X (.Constant .none j pos) (tC .non):=fun _ _ _ H _ I h=>Constant_none ⟨.non,H,I,rfl,h⟩
theorem cN {x j pos}:PE X (.Constant (.str x) j pos) (tC (.str x)):=fun _ _ _ H _ I h=>Calls.Constant_str ⟨.str x,H,I.tok _,⟨_,rfl⟩,h⟩
def Gl (X:Cx)(x:Str):Prop:=X.env.kindOf x=some .globalImplicit
theorem yQ {E:Value->Shared->Prop}{pins:List (Addr×Obj)}{s:Shared}{σ:St}{H:Hp}{x:Str}{u:Value}{pos:Pos}{Q:Value->Shared->Prop}(I:Inv X pins σ H s)(hg:Gl X x)(hm:X.mg x=some u)(h:Q u s)
 (hd:(x == ("__debug__" : Str))=false:=by decide):wpAny (model X.prog X.w) X.A (eval (.Name x pos) X.env) Q E s :=
 Calls.Name_function_global I.ok.kind hg (Calls.loadGlobal_global (by rw [I.ok.glob];exact I.mod.glob.keeps I.bk) hm h) hd
theorem iK {E:Value->Shared->Prop}{pins:List (Addr×Obj)}{s:Shared}{σ:St}{H:Hp}{x:Str}{u:Value}{pos:Pos}{Q:Value->Shared->Prop}(I:Inv X pins σ H s)(hg:Gl X x)(hm:X.mg x=none)(hv:bootBuiltins x=some u)(h:Q u s)
 (hn:x ≠ "__name__" := by decide)(hd:(x == ("__debug__" : Str))=false:=by decide):wpAny (model X.prog X.w) X.A (eval (.Name x pos) X.env) Q E s:=by
 obtain⟨mb,h1,h2⟩:=I.mod.blt;exact Calls.Name_function_global I.ok.kind hg (Calls.loadGlobal_builtin (by rw [I.ok.glob];exact I.mod.glob.keeps I.bk) hm (by rw [I.ok.blt];exact h1.keeps I.bk) ((h2 x hn).trans hv) h) hd
theorem uk {x:Str}{v:V}{u:Value}{pos:Pos}(hg:Gl X x)(hm:X.mg x=some u)(r:RelV v u)(hd:(x == ("__debug__" : Str))=false:=by decide):PE X (.Name x pos) (tC v) :=
 fun _ _ _ H _ I h=>yQ I hg hm ⟨v,H,I,r,h⟩ hd
theorem jd {x:Str}{v:V}{u:Value}{pos:Pos}(hg:Gl X x)(hm:X.mg x=none)(hv:bootBuiltins x=some u)(r:RelV v u)(hn:x ≠ "__name__" := by decide)(hd:(x == ("__debug__" : Str))=false:=by decide):PE X (.Name x pos) (tC v) :=
 fun _ _ _ H _ I h=>iK I hg hm hv ⟨v,H,I,r,h⟩ hn hd
variable {a b:Expr}{ta tb:TE}{pos:Pos}
def PC (X:Cx)(op:CmpOp)(a b:Expr)(t:TE):Prop :=
 ∀ (pins:List (Addr×Obj)) (s:Shared) (σ:St) (H:Hp) (Q:VK),Inv X pins σ H s->t σ H Q →
  wpAny (model X.prog X.w) X.A (eval a X.env) (fun v s₁=>wpAny (model X.prog X.w) X.A (eval b X.env) (fun u s₂=>wpAny (model X.prog X.w) X.A (compareOp op v u) (EP X pins σ Q) X.xe s₂) X.xe s₁) X.xe s
def tB (t:TE):TT:=fun σ H Q=>t σ H fun x H1=>∃ c,x=.bl c/\Q c H1
theorem za {op:CmpOp}{t:TE}(h:PC X op a b t)(h1:behindInMarks op b=false:=by first | exact nobehind _ (by decide) (by decide) | rfl):PT X (.Compare a [op] [b] pos) (tB t):=by
 intro pins s σ H Q I hw;refine wpAny_isTrue_Compare1 (thn (h pins s σ H _ I hw) fun v s1 h1=>thn h1 fun u s2 h2=>thn h2 fun c s3 ⟨x,H1,I1,r1,q1⟩=>?_) h1;obtain⟨d,rfl,q⟩:=q1;cases r1;exact agc ⟨H1,I1,q⟩
theorem fJ {e:Expr}{t:TE}(h:PE X e t)(he:∀ whole,isTrue e X.env whole=(do let v ← whole;standAt e.pos;holding [v] (truthy v)):=by intro _;rfl):PT X e (tB t):=by
 intro pins s σ H Q I hw;refine isTrue_plain (thn (h pins s σ H _ I hw) fun v s1 ⟨x,H1,I1,r1,q1⟩=>?_) (he _);obtain⟨d,rfl,q⟩:=q1;cases r1;exact agc ⟨H1,I1,q⟩
variable {tA tB':TT}{rest:List Expr}
def aeK (t u:TT):TT:=fun σ H Q=>t σ H fun c H1=>if c=true then u σ H1 Q else Q false H1
def tOr (t u:TT):TT:=fun σ H Q=>t σ H fun c H1=>if c=true then Q true H1 else u σ H1 Q
def aeI (t:TT):TT:=fun σ H Q=>t σ H fun c H1=>Q (!c) H1
theorem gX (ha:PT X a tA):PW X (.BoolOp .And [a] pos) tA:=by
 intro wh pins s σ H Q I h;refine isTrue_and (thn (ha pins s σ H Q I h) fun c s1 e=>?_);cases c with
 | true=>exact isTrue_and_nil e
 | false=>exact e
theorem sS (ha:PT X a tA):PW X (.BoolOp .Or [a] pos) tA:=by
 intro wh pins s σ H Q I h;refine isTrue_or (thn (ha pins s σ H Q I h) fun c s1 e=>?_);cases c with
 | false=>exact isTrue_or_nil e
 | true=>exact e
theorem ki (ha:PT X a tA)(hb:PW X (.BoolOp .And (b::rest) pos) tB'):PW X (.BoolOp .And (a::b::rest) pos) (aeK tA tB'):=by
 intro wh pins s σ H Q I h;refine isTrue_and (thn (ha pins s σ H _ I h) fun c s1 ⟨H1,I1,q1⟩=>?_);cases c with
 | true=>exact hb wh pins s1 σ H1 Q I1 q1
 | false=>exact⟨H1,I1,q1⟩
theorem wx (ha:PT X a tA)(hb:PW X (.BoolOp .Or (b::rest) pos) tB'):PW X (.BoolOp .Or (a::b::rest) pos) (tOr tA tB'):=by
 intro wh pins s σ H Q I h;refine isTrue_or (thn (ha pins s σ H _ I h) fun c s1 ⟨H1,I1,q1⟩=>?_);cases c with
 | true=>exact⟨H1,I1,q1⟩
 | false=>exact hb wh pins s1 σ H1 Q I1 q1
theorem gL (ha:PT X a tA):PT X (.UnaryOp .Not a pos) (aeI tA):=by
 intro pins s σ H Q I h;exact isTrue_not (ha pins s σ H (fun c H1=>Q (!c) H1) I h)
def adC (ta tb:TE):TE:=fun σ H Q=>ta σ H fun x H1=>∃ c,x=.bl c/\if c=true then tb σ H1 Q else Q (.bl false) H1
def aeC (ta tb:TE):TE:=fun σ H Q=>ta σ H fun x H1=>∃ c,x=.bl c/\if c=true then Q (.bl true) H1 else tb σ H1 Q
def adK (ta:TE):TE:=fun σ H Q=>ta σ H fun x H1=>∃ c,x=.bl c/\Q (.bl (!c)) H1
theorem nQ {op}{t:TE}(h:PE X a t):PE X (.BoolOp op [a] pos) t:=fun pins s σ H Q I hw=>BoolOp_one (h pins s σ H Q I hw)
theorem iJ (ha:PE X a ta)(hb:PE X (.BoolOp .And (b::rest) pos) tb):PE X (.BoolOp .And (a::b::rest) pos) (adC ta tb):=by
 intro pins s σ H Q I h;refine BoolOp_and (thn (ha pins s σ H _ I h) fun v s1 ⟨x,H1,I1,r1,q1⟩=>?_);obtain⟨c,rfl,q1⟩:=q1;cases r1;refine agc ?_;cases c with
 | true=>exact hb pins s1 σ H1 Q I1 q1
 | false=>exact⟨.bl false,H1,I1,rfl,q1⟩
theorem ad0 (ha:PE X a ta)(hb:PE X (.BoolOp .Or (b::rest) pos) tb):PE X (.BoolOp .Or (a::b::rest) pos) (aeC ta tb):=by
 intro pins s σ H Q I h;refine BoolOp_or (thn (ha pins s σ H _ I h) fun v s1 ⟨x,H1,I1,r1,q1⟩=>?_);obtain⟨c,rfl,q1⟩:=q1;cases r1;refine agc ?_;cases c with
 | false=>exact hb pins s1 σ H1 Q I1 q1
 | true=>exact⟨.bl true,H1,I1,rfl,q1⟩
theorem acT (ha:PE X a ta):PE X (.UnaryOp .Not a pos) (adK ta):=by
 intro pins s σ H Q I h;refine UnaryOp_ (thn (ha pins s σ H _ I h) fun v s1 ⟨x,H1,I1,r1,q1⟩=>?_);obtain⟨c,rfl,q1⟩:=q1;cases r1;exact not_of (agc ⟨.bl (!c),H1,I1,rfl,q1⟩)
end
def SqL (K:PySem.W.Frag)(H:Hp)(a:Addr)(xs:List V):Prop :=
 Rd H a (.lst xs) ∨
  ∃ (o:Obj) (its:Array Value) (n:Nat),K.lookup a=some o/\o.cls=.type "list" ∧ o.dict=none/\o.data=.seq its n/\its.size<=sizeLine/\Vals xs its.toList
def SqT (K:PySem.W.Frag)(H:Hp)(a:Addr)(xs:List V):Prop :=
 Rd H a (.tup xs) ∨
  ∃ (o:Obj) (its:Array Value) (n:Nat),K.lookup a=some o/\o.cls=.type "tuple" ∧ o.data=.seq its n/\its.size<=sizeLine/\Vals xs its.toList
def aeu:Value->Option V
 | .none=>some .non
 | .bool b=>some (.bl b)
 | .int i _=>some (.int i)
 | .str x _=>some (.str x)
 | .bytes b _=>some (.byt b)
 | .float b _=>some (.flt b)
 | .ref a=>some (.ref a)
 | .type n=>some (.ty n)
 | _=>none
theorem RelV.abs {x:V}{u:Value}(r:RelV x u):aeu u=some x:=by
 cases x with
 | non=>cases r;rfl
 | bl _=>cases r;rfl
 | int _=>obtain⟨t,rfl⟩:=r;rfl
 | str _=>obtain⟨t,rfl⟩:=r;rfl
 | byt _=>obtain⟨t,rfl⟩:=r;rfl
 | flt _=>obtain⟨t,rfl⟩:=r;rfl
 | ref _=>cases r;rfl
 | ty _=>cases r;rfl
theorem RelV.inj {x y:V}{u:Value}(r:RelV x u)(q:RelV y u):x=y:=afW (r.abs.symm.trans q.abs)
theorem Vals.inj:∀ {xs ys:List V} {us:List Value},Vals xs us->Vals ys us->xs=ys
 | _,_,_,.nil,.nil=>rfl
 | _,_,_,.cons r t,.cons r' t'=>by rw [r.inj r',Vals.inj t t']
section
variable {X:Cx}{pins:List (Addr×Obj)}{σ:St}{H:Hp}{s:Shared}{a:Addr}{xs ys:List V}
theorem SqL.of {K:PySem.W.Frag}(h:H a=some (.lst xs)):SqL K H a xs:=.inl (.inl h)
def aAA:=@SqL.of
theorem SqT.of {K:PySem.W.Frag}(h:H a=some (.tup xs)):SqT K H a xs:=.inl (.inl h)
def aAB:=@SqT.of
theorem Inv.list (I:Inv X pins σ H s)(h:SqL X.K H a xs):∃ its:List Value,Vals xs its/\PlainL s.heap a its.toArray/\xs.length<=sizeLine:=by
 rcases h with h | ⟨o,its,n,hk,hc,hd,hs,hz,r⟩
 ·obtain⟨z,its,n,r,e⟩:=h.ok I.hok;exact⟨its,r,⟨_,n,e,rfl,rfl,rfl⟩,z⟩
 ·refine⟨its.toList,r,⟨o,n,I.kIn a o hk,hc,hd,by simpa using hs⟩,?_⟩;have e:=r.length;simp only [ae5] at e;lia
theorem Inv.tuple (I:Inv X pins σ H s)(h:SqT X.K H a xs):∃ its:List Value,Vals xs its/\IsTup s.heap a its.toArray/\xs.length<=sizeLine:=by
 rcases h with h | ⟨o,its,n,hk,hc,hs,hz,r⟩
 ·obtain⟨z,its,r,p⟩:=h.ok I.hok;exact⟨its,r,p,z⟩
 ·refine⟨its.toList,r,⟨o,I.kIn a o hk,hc,n,by simpa using hs⟩,?_⟩;have e:=r.length;simp only [ae5] at e;lia
theorem Inv.list_inj (I:Inv X pins σ H s)(h:SqL X.K H a xs)(h':SqL X.K H a ys):xs=ys:=by
 obtain⟨its,r,⟨o,n,e,_,_,d⟩,_⟩:=I.list h;obtain⟨its',r',⟨o',n',e',_,_,d'⟩,_⟩:=I.list h';rw [e] at e';cases e';rw [d] at d';injection d' with d1 _
 have:its=its':=by simpa using afJ Array.toList d1
 subst this;exact r.inj r'
theorem Inv.tuple_inj (I:Inv X pins σ H s)(h:SqT X.K H a xs)(h':SqT X.K H a ys):xs=ys:=by
 obtain⟨its,r,⟨o,e,_,n,d⟩,_⟩:=I.tuple h;obtain⟨its',r',⟨o',e',_,n',d'⟩,_⟩:=I.tuple h';rw [e] at e';cases e';rw [d] at d';injection d' with d1 _
 have:its=its':=by simpa using afJ Array.toList d1
 subst this;exact r.inj r'
end
abbrev Cx.wish (X:Cx)(E:Value->Shared->Prop):Cx:={ X with xe:=E }
abbrev Cx.nox (X:Cx):Cx:=X.wish fun _ _=>False
theorem Cx.Ok.wish {X:Cx}(ok:X.Ok)(E:Value->Shared->Prop):(X.wish E).Ok :=
 ⟨ok.mod,ok.kind,ok.glob,ok.blt,ok.above,ok.inj,ok.has,ok.cab,ok.hd,ok.frames,ok.stk,ok.exf,ok.bs,ok.bsz,ok.noex,ok.exfs,ok.funs,ok.frf⟩
theorem Cx.Ok.unwish {X:Cx}{E:Value->Shared->Prop}(ok:(X.wish E).Ok):X.Ok :=
 ⟨ok.mod,ok.kind,ok.glob,ok.blt,ok.above,ok.inj,ok.has,ok.cab,ok.hd,ok.frames,ok.stk,ok.exf,ok.bs,ok.bsz,ok.noex,ok.exfs,ok.funs,ok.frf⟩
section
variable {X:Cx}{pins:List (Addr×Obj)}{σ:St}{H:Hp}{s:Shared}{E:Value->Shared->Prop}
theorem Inv.wish (I:Inv X pins σ H s)(E:Value->Shared->Prop):Inv (X.wish E) pins σ H s:=⟨I.ok.wish E,I.os,I.bare,I.base,I.loc,I.cell,I.free,I.freeC,I.pin,I.hok,I.len⟩
theorem Inv.unwish (I:Inv (X.wish E) pins σ H s):Inv X pins σ H s:=⟨I.ok.unwish,I.os,I.bare,I.base,I.loc,I.cell,I.free,I.freeC,I.pin,I.hok,I.len⟩
theorem SP.unwish {D:zh}{f:Flow}{s':Shared}(h:SP (X.wish E) pins D f s'):SP X pins D f s':=by
 cases f with
 | next=>obtain⟨σ',H',I,q⟩:=h;exact⟨σ',H',I.unwish,q⟩
 | brk=>obtain⟨σ',H',I,q⟩:=h;exact⟨σ',H',I.unwish,q⟩
 | cont=>obtain⟨σ',H',I,q⟩:=h;exact⟨σ',H',I.unwish,q⟩
 | ret u=>obtain⟨v,σ',H',I,r,q⟩:=h;exact⟨v,σ',H',I.unwish,r,q⟩
theorem PSs.nox {st:List Stmt}{t:TS}(h:PSs X.nox st t):PSs X st t:=fun pins s σ H D I hw =>
 afL (h pins s σ H D (I.wish _) hw) (fun _ _ q=>q.unwish) fun _ _ z=>False.elim z
end
section
variable {X:Cx}{st:Stmt}{rest:List Stmt}{t u:TS}{e:Expr}{te:TE}{pos:Pos}
def oj:TS:=fun D σ H=>D.nx σ H
def tI (t u:TS):TS:=fun D σ H=>t { D with nx:=u D } σ H
theorem bf:PSs X [] oj:=fun _ _ σ H _ I h=>aiS ⟨σ,H,I,h⟩
theorem aj (h1:PS X st t)(h2:PSs X rest u):PSs X (st::rest) (tI t u):=by
 intro pins s σ H D I h;refine wpAny_execs_cons (thn (h1 pins s σ H { D with nx:=u D } I h) fun f s1 q=>?_);cases f with
 | next =>
  obtain⟨σ',H',I',q⟩:=q;exact h2 pins s1 σ' H' D I' q
 | ret v=>exact q
 | brk=>exact q
 | cont=>exact q
theorem au (h1:PS X st t):PSs X [st] t:=by
 intro pins s σ H D I h;refine wpAny_execs_cons (thn (h1 pins s σ H D I h) fun f s1 q=>?_);cases f with
 | next=>exact aiS q
 | ret v=>exact q
 | brk=>exact q
 | cont=>exact q
def ad3:TS:=fun D σ H=>D.ct σ H
theorem tH:PS X (.Continue pos) ad3:=fun _ _ σ H _ I h=>wpAny_Continue ⟨σ,H,I,h⟩
theorem Inv.quiet {pins:List (Addr×Obj)}{σ:St}{H:Hp}{s:Shared}(I:Inv X pins σ H s):interactive X.env=false:=by simp [interactive,I.ok.kind]
def adB (te:TE):TS:=fun D σ H=>te σ H fun _ H1=>D.nx σ H1
theorem bq (he:PE X e te)(hs:swapsWith e none pos.line X.env=pure false:=by rfl):PS X (.Expr e pos) (adB te):=by
 intro pins s σ H D I h;exact wpAny_Expr_any (thn (he pins s σ H _ I h) fun v s1 ⟨x,H1,I1,r1,q1⟩=>⟨σ,H1,I1,q1⟩) I.quiet hs
def zi (te:TE):TS:=fun D σ H=>te σ H D.rt
theorem aQ (he:PE X e te):PS X (.Return (some e) pos) (zi te):=by
 intro pins s σ H D I h;exact wpAny_Return_some (thn (he pins s σ H _ I h) fun v s1 ⟨x,H1,I1,r1,q1⟩=>⟨x,σ,H1,I1,r1,q1⟩)
def adU (c:TT)(t u:TS):TS:=fun D σ H=>c σ H fun b H1=>if b=true then t D σ H1 else u D σ H1
theorem cu {c:Expr}{a b:List Stmt}{tc:TT}(hc:PT X c tc)(ha:PSs X a t)(hb:PSs X b u):PS X (.If c a b pos) (adU tc t u):=by
 intro pins s σ H D I h;refine wpAny_If (thn (hc pins s σ H _ I h) fun d s1 ⟨H1,I1,q1⟩=>?_);cases d with
 | true=>exact ha pins s1 σ H1 D I1 q1
 | false=>exact hb pins s1 σ H1 D I1 q1
def ac4:TS:=fun _ _ _=>False
theorem qD {sts:List Stmt}:PSs X sts ac4:=fun _ _ _ _ _ _ h=>h.elim
end
abbrev TG:=V->St->Hp->(St->Hp->Prop)->Prop
abbrev TGs:=List V->St->Hp->(St->Hp->Prop)->Prop
def PG (X:Cx)(target:Expr)(t:TG):Prop :=
 ∀ (pins:List (Addr×Obj)) (s:Shared) (σ:St) (H:Hp) (v:V) (u:Value) (Q:St->Hp->Prop),Inv X pins σ H s->RelV v u->t v σ H Q →
  wpAny (model X.prog X.w) X.A (assign target X.env u) (fun _ s'=>∃ σ' H',Inv X pins σ' H' s'/\Q σ' H') X.xe s
def PGs (X:Cx)(ts:List Expr)(t:TGs):Prop :=
 ∀ (pins:List (Addr×Obj)) (s:Shared) (σ:St) (H:Hp) (vs:List V) (us:List Value) (Q:St->Hp->Prop),Inv X pins σ H s->Vals vs us->t vs σ H Q →
  wpAny (model X.prog X.w) X.A (assignInOrder ((assignEach ts X.env).map (·.2)) us) (fun _ s'=>∃ σ' H',Inv X pins σ' H' s'/\Q σ' H') X.xe s
abbrev acQ:=V->V->V->Hp->(Hp->Prop)->Prop
def adE (X:Cx)(t:acQ):Prop :=
 ∀ (pins:List (Addr×Obj)) (s:Shared) (σ:St) (H:Hp) (o i v:V) (ov iv u:Value) (Q:Hp->Prop),Inv X pins σ H s->RelV o ov->RelV i iv->RelV v u->t o i v H Q →
  wpAny (model X.prog X.w) X.A (setItem ov iv u) (fun _ s'=>∃ H',Inv X pins σ H' s'/\Q H') X.xe s
abbrev TIp:=V->V->Hp->VK->Prop
def PIp (X:Cx)(op:Operator)(t:TIp):Prop :=
 ∀ (pins:List (Addr×Obj)) (s:Shared) (σ:St) (H:Hp) (x y:V) (v u:Value) (Q:VK),Inv X pins σ H s->RelV x v->RelV y u->t x y H Q →
  wpAny (model X.prog X.w) X.A (inplaceOp op v u) (EP X pins σ Q) X.xe s
section
variable {X:Cx}{pos:Pos}
def bg (i:Nat):TG:=fun v σ H Q=>Q (σ.set i (some v)) H
theorem az {i:Nat}{x:Str}(hN:X.N.Nodup)(hi:X.N[i]? = some x)(hx:Loc X.env.scope x)(hf:X.fn x=true\/X.env.scope.names.lookup x=some .local:=by first | exact .inl rfl | exact .inr rfl | assumption):PG X (.Name x pos) (bg i):=by
 intro pins s σ H v u Q I r h;exact wpAny_assign_Name (pU I hN hi hx r (fun s' I'=>⟨_,H,I',h⟩) hf)
def abf:TGs:=fun vs σ H Q=>vs=[]/\Q σ H
def kQ (t:TG)(u:TGs):TGs:=fun vs σ H Q=>∃ v r,vs=v::r/\t v σ H fun σ' H'=>u r σ' H' Q
theorem bS:PGs X [] abf:=by
 intro pins s σ H vs us Q I r h;obtain⟨e,h⟩:=h;subst e;cases r;exact assignInOrder_nil ⟨σ,H,I,h⟩
theorem aG {e:Expr}{es:List Expr}{t:TG}{u:TGs}(h1:PG X e t)(h2:PGs X es u)
 (hs:(assignEach (e::es) X.env).map (·.2)=assign e X.env::(assignEach es X.env).map (·.2):=by rfl):PGs X (e::es) (kQ t u):=by
 intro pins s σ H vs us Q I r h;obtain⟨v,vr,e1,h⟩:=h;subst e1;cases r with
 | cons r rr =>
  rw [hs];refine assignInOrder_cons (thn (h1 pins s σ H _ _ _ I r h) fun _ s1 ⟨σ1,H1,I1,q1⟩=>?_);exact h2 pins s1 σ1 H1 _ _ Q I1 rr q1
def zP (K:PySem.W.Frag)(n:Nat)(t:TGs):TG:=fun v σ H Q=>∃ a xs,v=.ref a/\SqT K H a xs/\xs.length=n/\t xs σ H Q
theorem eV {es:List Expr}{k:Nat}{t:TGs}{n:Nat}(hc:X.calm=true)(h:PGs X es t)
 (hn:(assignEach es X.env).length=n:=by rfl)(hst:(assignEach es X.env).findIdx? (·.1)=none:=by rfl):PG X (.Tuple es k pos) (zP X.K n t):=by
 intro pins s σ H v u Q I r hw;obtain⟨a,xs,e1,hq,hl,hw⟩:=hw;subst e1;cases r;obtain⟨its,rv,ht,hz⟩:=I.tuple hq;refine assign_Tuple_tuple (I.ok.hd hc) ht (by simp [hn,← hl,rv.length]) hst fun h' hx=>?_;have I1:Inv X pins σ H { s with heap:=h' }:=I.kept (t':=s.toks) fun b o e=>hx b o (afm (ae8 e)) e;exact h pins _ σ H xs _ Q I1 (by simpa using rv) hw
def aew (to ti:TE)(t:acQ):TG:=fun v σ H Q=>to σ H fun o H1=>ti σ H1 fun i H2=>t o i v H2 fun H3=>Q σ H3
theorem acK {o i:Expr}{to ti:TE}{t:acQ}(ho:PE X o to)(hi:PE X i ti)(hs:adE X t)
 (ha:∀ v,assign (.Subscript o i pos) X.env v=(do
  let ov ← holding [v] (eval o X.env)
  let iv ← holding [v,ov] (eval i X.env)
  standAt pos
  holding [v,ov,iv] (setItem ov iv v)
  release [v,ov,iv] []):=by intro _;rfl):PG X (.Subscript o i pos) (aew to ti t):=by
 intro pins s σ H v u Q I r h;rw [ha];refine aeQ (af5 (thn (ho pins s σ H _ I h) fun ov s1 ⟨x,H1,I1,r1,q1⟩=>?_));refine aeQ (af5 (thn (hi pins s1 σ H1 _ I1 q1) fun iv s2 ⟨y,H2,I2,r2,q2⟩=>?_));refine aeQ (agD (aeQ (af5 (thn (hs pins s2 σ H2 x y v ov iv u _ I2 r1 r2 r q2) fun _ s3 ⟨H3,I3,q3⟩=>?_))));exact wpAny_release ⟨σ,H3,I3,q3⟩
def sd (te:TE)(g:TG):TS:=fun D σ H=>te σ H fun x H1=>g x σ H1 D.nx
theorem jD {tg e:Expr}{te:TE}{g:TG}(he:PE X e te)(hg:PG X tg g)(hs:swapsWithSole [tg] e pos.line X.env=pure false:=by rfl)(hw:swappedStores [tg] e X.env=pure none:=by rfl)
 (h1:(assignEach [tg] X.env).map (·.2)=[assign tg X.env]:=by rfl):PS X (.Assign [tg] e pos) (sd te g):=by
 intro pins s σ H D I h;refine wpAny_Assign_stores (thn (he pins s σ H _ I h) fun v s1 ⟨x,H1,I1,r1,q1⟩=>?_) hs hw;rw [h1];exact thn (hg pins s1 σ H1 x v _ I1 r1 q1) fun _ s2 q=>q
theorem aD {i:Nat}{x:Str}{e:Expr}{te:TE}{pos':Pos}(hN:X.N.Nodup)(hi:X.N[i]? = some x)(hx:Loc X.env.scope x)(he:PE X e te)(hs:swapsWith e (some (.Name x pos')) pos.line X.env=pure false:=by rfl)(hf:X.fn x=true\/X.env.scope.names.lookup x=some .local:=by first | exact .inl rfl | exact .inr rfl | assumption) :
 PS X (.Assign [.Name x pos'] e pos) (sd te (bg i)):=by
 intro pins s σ H D I h;refine wpAny_Assign_Name (thn (he pins s σ H _ I h) fun v s1 ⟨y,H1,I1,r1,q1⟩=>?_) hs;exact pU I1 hN hi hx r1 (fun s2 I2=>⟨_,H1,I2,q1⟩) hf
def aeF (i:Nat)(te:TE)(ti:TIp):TS:=fun D σ H=>∃ x,σ[i]? = some (some x)/\te σ H fun y H1=>ti x y H1 fun z H2=>D.nx (σ.set i (some z)) H2
theorem acz {i:Nat}{x:Str}{e:Expr}{te:TE}{op:Operator}{ti:TIp}{pos':Pos}(hN:X.N.Nodup)(hi:X.N[i]? = some x)(hx:Loc X.env.scope x)(he:PE X e te)(ho:PIp X op ti)(hf:X.fn x=true\/X.env.scope.names.lookup x=some .local:=by first | exact .inl rfl | exact .inr rfl | assumption) :
 PS X (.AugAssign (.Name x pos') op e pos) (aeF i te ti):=by
 intro pins s σ H D I h;obtain⟨v,e1,h⟩:=h;obtain⟨m,hn,hl⟩:=I.loc;have vis:Vis X.env.scope x:=by rcases hx with k | k;exact .inl k;exact .inr (.inl k)
 obtain⟨u,r,l⟩:=hl i x v hi e1 vis;refine wpAny_AugAssign_Name ?_;have go:wpAny (model X.prog X.w) X.A (eval e X.env) (fun w s₂=>wpAny (model X.prog X.w) X.A (inplaceOp op u w) (fun r s₃=>wpAny (model X.prog X.w) X.A (storeName X.env x r) (fun _=>SP X pins D .next) X.xe s₃) X.xe s₂) X.xe s:=by
  refine thn (he pins s σ H _ I h) fun w s1 ⟨y,H1,I1,r1,q1⟩=>?_;refine thn (ho pins s1 σ H1 v y u w _ I1 r r1 q1) fun z s2 ⟨zv,H2,I2,r2,q2⟩=>?_;exact pU I2 hN hi hx r2 (fun s3 I3=>⟨_,H2,I3,q2⟩) hf
 rcases l with ⟨hk,hm⟩ | ⟨hk,c,hc,hcell⟩
 ·exact wpAny_loadName_local I.ok.kind hk hn hm go
 ·rcases hk with hk | hk
  ·exact wpAny_loadName_cell I.ok.kind hk hc hcell go
  ·rcases hx with k | k
   ·have:X.env.scope.names.lookup x=some .free:=hk;rw [k] at this;cases this
   ·have:X.env.scope.names.lookup x=some .free:=hk;rw [k] at this;cases this
def adY (to ti te:TE)(tget:V->V->Hp->VK->Prop)(tip:TIp)(tset:acQ):TS:=fun D σ H=>to σ H fun o H1=>ti σ H1 fun i H2=>tget o i H2 fun x H3=>te σ H3 fun y H4=>tip x y H4 fun z H5=>tset o i z H5 fun H6=>D.nx σ H6
def aek (X:Cx)(t:V->V->Hp->VK->Prop):Prop :=
 ∀ (pins:List (Addr×Obj)) (s:Shared) (σ:St) (H:Hp) (o i:V) (ov iv:Value) (Q:VK),Inv X pins σ H s->RelV o ov->RelV i iv->t o i H Q →
  wpAny (model X.prog X.w) X.A (getItem ov iv) (EP X pins σ Q) X.xe s
theorem abO {o i e:Expr}{to ti te:TE}{tget:V->V->Hp->VK->Prop}{tip:TIp}{tset:acQ}{op:Operator}{tpos:Pos}(ho:PE X o to)(hi:PE X i ti)(hg:aek X tget)(he:PE X e te)(hp:PIp X op tip)(hs:adE X tset)
 (ha:∀ ov iv new,augStore i ov iv new=(do holding [new,ov,iv] (setItem ov iv new);release [new,ov,iv] [];pure .next):=by intros;rfl):PS X (.AugAssign (.Subscript o i tpos) op e pos) (adY to ti te tget tip tset):=by
 intro pins s σ H D I h;refine wpAny_AugAssign_SubscriptAny (thn (ho pins s σ H _ I h) fun ov s1 ⟨x1,H1,I1,r1,q1⟩=>?_) ha;refine thn (hi pins s1 σ H1 _ I1 q1) fun iv s2 ⟨x2,H2,I2,r2,q2⟩=>?_;refine thn (hg pins s2 σ H2 x1 x2 ov iv _ I2 r1 r2 q2) fun old s3 ⟨x3,H3,I3,r3,q3⟩=>?_;refine thn (he pins s3 σ H3 _ I3 q3) fun v s4 ⟨x4,H4,I4,r4,q4⟩=>?_;refine thn (hp pins s4 σ H4 x3 x4 old v _ I4 r3 r4 q4) fun new s5 ⟨x5,H5,I5,r5,q5⟩=>?_;exact thn (hs pins s5 σ H5 x1 x2 x5 ov iv new _ I5 r1 r2 r5 q5) fun _ s6 ⟨H6,I6,q6⟩=>⟨σ,H6,I6,q6⟩
def ipI (f:Int->Int->Int):TIp:=fun x y H Q=>∃ i j,x=.int i/\y=.int j/\Q (.int (f i j)) H
theorem acY:PIp X .Add (ipI fun i j=>i+j):=by
 intro pins s σ H x y v u Q I r1 r2 h;obtain⟨i,j,e1,e2,q⟩:=h;subst e1;subst e2;obtain⟨t,rfl⟩:=r1;obtain⟨t',rfl⟩:=r2;exact iadd_int ⟨.int _,H,I.tok _,⟨_,rfl⟩,q⟩
theorem acG:PIp X .Sub (ipI fun i j=>i - j):=by
 intro pins s σ H x y v u Q I r1 r2 h;obtain⟨i,j,e1,e2,q⟩:=h;subst e1;subst e2;obtain⟨t,rfl⟩:=r1;obtain⟨t',rfl⟩:=r2;exact isub_int ⟨.int _,H,I.tok _,⟨_,rfl⟩,q⟩
end
section
variable {X:Cx}{pos:Pos}
def acE (c:TT)(tb:TS):TS:=fun D σ H=>∃ W:Nat->St->Hp->Prop,(∃ m,W m σ H)/\∀ m σ H,W m σ H →
 c σ H fun b H1=>if b=true then ∃ N:St->Hp->Prop,(∀ σ' H',N σ' H'->∃ m',m' < m/\W m' σ' H')/\tb { D with nx:=N,ct:=N,bk:=D.nx } σ H1 else D.nx σ H1
theorem gj {c:Expr}{body:List Stmt}{tc:TT}{tb:TS}(hp:PassesOwn (model X.prog X.w) X.A X.env X.xe)(hc:PT X c tc)(hb:PSs X body tb):PS X (.While c body [] pos) (acE tc tb):=by
 intro pins s σ H D I h;obtain⟨W,⟨m0,w0⟩,turn⟩:=h;refine wpAny_While (codeAny_whileLoop (fun n s'=>∃ σ' H',Inv X pins σ' H' s'/\W n σ' H') ?_ m0 ⟨σ,H,I,w0⟩);rintro n s1 ⟨σ1,H1,I1,w1⟩;refine ahb hp (thn (hc pins s1 σ1 H1 _ I1 (turn n σ1 H1 w1)) fun b s2 ⟨H2,I2,q2⟩=>?_);cases b with
 | true =>
  obtain⟨N,hN,q2⟩:=q2;rw [if_pos rfl];refine ahb hp (thn (hb pins s2 σ1 H2 _ I2 q2) fun f s3 q3=>?_);cases f with
  | next =>
   obtain⟨σ3,H3,I3,n3⟩:=q3;obtain⟨m',hm,w3⟩:=hN σ3 H3 n3;exact⟨m',hm,σ3,H3,I3,w3⟩
  | cont =>
   obtain⟨σ3,H3,I3,n3⟩:=q3;obtain⟨m',hm,w3⟩:=hN σ3 H3 n3;exact⟨m',hm,σ3,H3,I3,w3⟩
  | brk=>exact q3
  | ret v=>exact q3
 | false =>
  rw [if_neg aeY];exact aiS ⟨σ1,H2,I2,q2⟩
end
structure It where
 go:Nat->Hp->Prop
 yld:Nat->Hp->V->Hp->Prop
 stop:Nat->Hp->Prop
def oh (X:Cx)(pins:List (Addr×Obj))(H:Hp)(b:Addr):Prop :=
 H b=none/\b≠X.env.locals/\b ∉ X.fs/\(b∈X.ex\/X.s₀.heap.objs.size<=b)/\(∀ x c,X.env.cells.lookup x=some c->c≠b)/\∀ p∈X.pn++pins,p.1≠b
theorem Inv.fpOk {X:Cx}{pins:List (Addr×Obj)}{σ:St}{H H':Hp}{s:Shared}{b:Addr}(I:Inv X pins σ H s)(hb:s.heap.objs.size<=b)(hn:H' b=none):oh X pins H' b:=by
 refine⟨hn,ahm (afg I.lt hb),I.nofs hb,.inr (aft I.sz hb),fun x c e z=>?_,fun p hp z=>?_⟩
 ·obtain⟨v,q⟩:=I.cell x c e;exact absurd (afg q.lt (by rw [z];exact hb)) (ag4 _)
 ·exact absurd (afg (ae8 (I.pin p hp).1) (by rw [z];exact hb)) (ag4 _)
structure acv (P:Program)(w:World)(K:PySem.W.Frag)(tg:Expr)(J:It)(fp:List Addr)(it:Addr)(tn:Nat->Heap->Prop):Prop where
 mem:it∈fp
 obj:∀ i h,tn i h->∀ b∈fp,∃ o,h.get? b=some o/\∀ v,o.data≠.cell v
 keep:∀ i h h',tn i h->(∀ b∈fp,∀ o,h.get? b=some o->h'.get? b=some o)->tn i h'
 item:∀ (X:Cx),X.prog=P->X.w=w->X.K=K->X.calm=true->∀ (i:Nat) (pins:List (Addr×Obj)) (s:Shared) (σ:St) (H:Hp) (E:Value->Shared->Prop),Inv X pins σ H s->(∀ b∈fp,oh X pins H b)->tn i s.heap->J.go i H →
  wpAny (model P w) X.A (pyNext (.ref it)) (fun r s1=>∃ u,r=some u ∧
   wpAny (model P w) X.A (letOwnedTupleGo tg (.ref it) u) (fun _ s2=>∃ x H',Inv X pins σ H' s2/\RelV x u/\J.yld i H x H'/\tn (i+1) s2.heap/\∀ b∈fp,H' b=none) E s1) E s
 done:∀ (X:Cx),X.prog=P->X.w=w->X.K=K->X.calm=true->∀ (i:Nat) (pins:List (Addr×Obj)) (s:Shared) (σ:St) (H:Hp) (E:Value->Shared->Prop),Inv X pins σ H s->(∀ b∈fp,oh X pins H b)->tn i s.heap->J.stop i H →
  wpAny (model P w) X.A (pyNext (.ref it)) (fun r s1=>r=none/\Inv X pins σ H s1) E s
 self:∀ (A:Around) (i:Nat) (s:Shared) (Q:Value->Shared->Prop) (E:Value->Shared->Prop),tn i s.heap->Q (.ref it) s->wpAny (model P w) A (pyIter (.ref it)) Q E s
abbrev TI:=St->Hp->(It->Hp->Prop)->Prop
def PIE (X:Cx)(pins:List (Addr×Obj))(σ:St)(tg:Expr)(R:It->Hp->Prop)(itv:Value)(s2:Shared):Prop :=
 ∃ (it:Addr) (fp:List Addr) (tn:Nat->Heap->Prop) (J:It) (H':Hp),itv=.ref it/\Inv X pins σ H' s2/\acv X.prog X.w X.K tg J fp it tn/\tn 0 s2.heap/\(∀ b∈fp,oh X pins H' b)/\R J H'
def PI (X:Cx)(tg iter:Expr)(wi:TI):Prop :=
 ∀ (pins:List (Addr×Obj)) (s:Shared) (σ:St) (H:Hp) (R:It->Hp->Prop),Inv X pins σ H s->wi σ H R →
  wpAny (model X.prog X.w) X.A (eval iter X.env) (fun v s1=>wpAny (model X.prog X.w) X.A (pyIter v) (PIE X pins σ tg R) X.xe s1) X.xe s
theorem abA {M:Model}{A:Around}{E:Value->Shared->Prop}{s:Shared}{tg:Expr}{it:Addr}{u:Value}{o:Obj}{n:String}{vs:Array Value}{Q:Unit->Shared->Prop}(ho:s.heap.get? it=some o)(hc:o.cls=.type n)(hd:o.data=.fields vs)
 (hn:["enumerate","zip","dict_itemiterator","dict_reverseitemiterator","odict_iterator","itertools.zip_longest","itertools.pairwise"].contains n=false)(hQ:Q () s):wpAny M A (letOwnedTupleGo tg (.ref it) u) Q E s:=by
 unfold letOwnedTupleGo;cases tg<;>first
  | exact aeX hQ
  | (cases u<;>first
   | exact aeX hQ
   | (refine aeQ (aiO ho ?_);rw [hc,hd];show wpAny M A (if (["enumerate","zip","dict_itemiterator","dict_reverseitemiterator","odict_iterator","itertools.zip_longest","itertools.pairwise"].contains n && vs[0]? == some (rawInt _))=true then _ else _) Q E s;rw [if_neg (by intro h;rw [hn,Bool.false_and] at h;cases h)];exact aeX hQ))
def Itl (K:PySem.W.Frag)(a:Addr):It :=
 ⟨fun i H=>∃ xs x,SqL K H a xs/\xs[i]? = some x,fun i H x H'=>H'=H/\∀ xs,SqL K H a xs->xs[i]? = some x,fun i H=>∃ xs,SqL K H a xs/\xs.length<=i⟩
def Itt (K:PySem.W.Frag)(a:Addr):It :=
 ⟨fun i H=>∃ xs x,SqT K H a xs/\xs[i]? = some x,fun i H x H'=>H'=H/\∀ xs,SqT K H a xs->xs[i]? = some x,fun i H=>∃ xs,SqT K H a xs/\xs.length<=i⟩
def Itr (lo:Int)(n:Nat):It:=⟨fun i _=>i < n,fun i H x H'=>H'=H/\x=.int (lo+i),fun i _=>n<=i⟩
theorem xT {P:Program}{w:World}{K:PySem.W.Frag}{tg:Expr}(a it:Addr):acv P w K tg (Itl K a) [it] it (fun i h=>h.IsListIter it a i) where
 mem:=by simp
 obj:=fun i h st b hb=>by
  have e:b=it:=by simpa using hb
  subst e;obtain⟨o,e,c,d⟩:=st;exact⟨o,e,fun v z=>by rw [d] at z;cases z⟩
 keep:=fun i h h' st k=>st.at fun o e=>k it (by simp) o e
 item:=by
  intro X hP hw hK hc i pins s σ H E I hf st hg;subst hP hw hK;obtain⟨xs,x,hq,hx⟩:=hg;obtain⟨its,rv,p,hz⟩:=I.list hq;obtain⟨u,hu,ru⟩:=rv.get hx;obtain⟨f0,f1,f2,f3,f4,f5⟩:=hf it (by simp);refine wpAny_pyNext_list_item st p.isList (x:=u) (by simpa using hu) fun h' st' sb=>?_;have I1:Inv X pins σ H { s with heap:=h' }:=I.turned (t':=s.toks) (fun b o hb e=>(sb.2 b hb).trans e) f0 f1 f3 f4 f5;obtain⟨o,e,c,d⟩:=id st';exact⟨u,rfl,abA (s:={ s with heap:=h' }) e c d (by decide) ⟨x,H,I1,ru,⟨rfl,fun ys hy=>by rw [I.list_inj hy hq];exact hx⟩,st',fun b hb=>(hf b hb).1⟩⟩
 done:=by
  intro X hP hw hK hc i pins s σ H E I hf st hg;subst hP hw hK;obtain⟨xs,hq,hx⟩:=hg;obtain⟨its,rv,p,hz⟩:=I.list hq;obtain⟨f0,f1,f2,f3,f4,f5⟩:=hf it (by simp);have hl:=rv.length;exact wpAny_pyNext_list_end (I.ok.hd hc) st p.isList (by simp;lia) fun h' eb=>⟨rfl,I.turned (t':=s.toks) (fun b o hb e=>eb b o hb e) f0 f1 f3 f4 f5⟩
 self:=fun _ _ _ _ _ st h=>wpAny_pyIter_listiter st h
theorem vW {P:Program}{w:World}{K:PySem.W.Frag}{tg:Expr}(a it:Addr):acv P w K tg (Itt K a) [it] it (fun i h=>h.IsTupleIter it a i) where
 mem:=by simp
 obj:=fun i h st b hb=>by
  have e:b=it:=by simpa using hb
  subst e;obtain⟨o,e,c,d⟩:=st;exact⟨o,e,fun v z=>by rw [d] at z;cases z⟩
 keep:=fun i h h' st k=>st.at fun o e=>k it (by simp) o e
 item:=by
  intro X hP hw hK hc i pins s σ H E I hf st hg;subst hP hw hK;obtain⟨xs,x,hq,hx⟩:=hg;obtain⟨its,rv,p,hz⟩:=I.tuple hq;obtain⟨u,hu,ru⟩:=rv.get hx;obtain⟨f0,f1,f2,f3,f4,f5⟩:=hf it (by simp);refine wpAny_pyNext_tuple_item st (show s.heap.IsTuple a its.toArray from p) (x:=u) (by simpa using hu) fun h' st' sb=>?_;have I1:Inv X pins σ H { s with heap:=h' }:=I.turned (t':=s.toks) (fun b o hb e=>(sb.2 b hb).trans e) f0 f1 f3 f4 f5;obtain⟨o,e,c,d⟩:=id st';exact⟨u,rfl,abA (s:={ s with heap:=h' }) e c d (by decide) ⟨x,H,I1,ru,⟨rfl,fun ys hy=>by rw [I.tuple_inj hy hq];exact hx⟩,st',fun b hb=>(hf b hb).1⟩⟩
 done:=by
  intro X hP hw hK hc i pins s σ H E I hf st hg;subst hP hw hK;obtain⟨xs,hq,hx⟩:=hg;obtain⟨its,rv,p,hz⟩:=I.tuple hq;obtain⟨f0,f1,f2,f3,f4,f5⟩:=hf it (by simp);have hl:=rv.length;exact wpAny_pyNext_tuple_end (I.ok.hd hc) st (show s.heap.IsTuple a its.toArray from p) (by simp;lia) fun h' eb=>⟨rfl,I.turned (t':=s.toks) (fun b o hb e=>eb b o hb e) f0 f1 f3 f4 f5⟩
 self:=fun _ _ _ _ _ st h=>wpAny_pyIter_tupleiter st h
theorem wo {P:Program}{w:World}{K:PySem.W.Frag}{tg:Expr}(it:Addr)(lo:Int)(n:Nat):acv P w K tg (Itr lo n) [it] it (fun i h=>IsRangeIter h it (lo+(i:Nat) * 1) ((n:Int) - (i:Nat)) 1) where
 mem:=by simp
 obj:=fun i h st b hb=>by
  have e:b=it:=by simpa using hb
  subst e;exact⟨_,st,fun v z=>by
   have z':Data.fields _=Data.cell v:=z;cases z'⟩
 keep:=fun i h h' st k=>k it (by simp) _ st
 item:=by
  intro X hP hw hK hc i pins s σ H E I hf st hg;subst hP hw hK;obtain⟨f0,f1,f2,f3,f4,f5⟩:=hf it (by simp);have W:=Walks.range (prog:=X.prog) (w:=X.w) (I.ok.hd hc) it lo 1 n;refine W.item i s _ _ hg st fun v h' tk hv st' kk=>?_;obtain⟨t,rfl⟩:=hv;have I1:Inv X pins σ H { s with heap:=h',toks:=tk }:=I.turned (fun b o hb e=>kk b o (by simpa using hb) e) f0 f1 f3 f4 f5;refine⟨_,rfl,abA (s:={ s with heap:=h',toks:=tk }) (n := "range_iterator") st' rfl rfl (by decide) ⟨.int (lo+i),H,I1,⟨t,?_⟩,⟨rfl,rfl⟩,st',fun b hb=>(hf b hb).1⟩⟩;rw [Int.mul_one]
 done:=by
  intro X hP hw hK hc i pins s σ H E I hf st hg;subst hP hw hK;obtain⟨f0,f1,f2,f3,f4,f5⟩:=hf it (by simp);exact wpAny_pyNext_range_end (I.ok.hd hc) st (by have:n<=i:=hg;lia) fun h' eb=>⟨rfl,I.turned (t':=s.toks) (fun b o hb e=>eb b o hb e) f0 f1 f3 f4 f5⟩
 self:=fun _ _ _ _ _ st h=>wpAny_pyIter_rangeiter st h
section
variable {X:Cx}{tg:Expr}
def ad6 (K:PySem.W.Frag)(tl:TE):TI:=fun σ H R=>tl σ H fun x H1=>∃ a,x=.ref a/\(∃ xs,SqL K H1 a xs)/\R (Itl K a) H1
def aeJ (K:PySem.W.Frag)(tl:TE):TI:=fun σ H R=>tl σ H fun x H1=>∃ a,x=.ref a/\(∃ xs,SqT K H1 a xs)/\R (Itt K a) H1
theorem aX {l:Expr}{tl:TE}(hl:PE X l tl):PI X tg l (ad6 X.K tl):=by
 intro pins s σ H R I h;refine thn (hl pins s σ H _ I h) fun v s1 ⟨x,H1,I1,r1,q1⟩=>?_;obtain⟨a,e,⟨xs,hq⟩,q⟩:=q1;subst e;cases r1;obtain⟨its,rv,p,hz⟩:=I1.list hq;refine ajm p.isList ?_;refine⟨s1.heap.objs.size,[s1.heap.objs.size],_,_,H1,rfl,I1.kept (t':=s1.toks) fun b o e=>aeV _ e,xT a _,⟨_,afd _ rfl,rfl,rfl⟩,fun b hb=>?_,q⟩;have e:b=s1.heap.objs.size:=by simpa using hb
 subst e;exact I1.fpOk (ae1 _) (I1.hok.fresh (ae1 _))
theorem aaM {l:Expr}{tl:TE}(hl:PE X l tl):PI X tg l (aeJ X.K tl):=by
 intro pins s σ H R I h;refine thn (hl pins s σ H _ I h) fun v s1 ⟨x,H1,I1,r1,q1⟩=>?_;obtain⟨a,e,⟨xs,hq⟩,q⟩:=q1;subst e;cases r1;obtain⟨its,rv,p,hz⟩:=I1.tuple hq;refine wpAny_pyIter_tuple (show s1.heap.IsTuple a its.toArray from p) ?_;refine⟨s1.heap.objs.size,[s1.heap.objs.size],_,_,H1,rfl,I1.kept (t':=s1.toks) fun b o e=>aeV _ e,vW a _,⟨_,afd _ rfl,rfl,rfl⟩,fun b hb=>?_,q⟩;have e:b=s1.heap.objs.size:=by simpa using hb
 subst e;exact I1.fpOk (ae1 _) (I1.hok.fresh (ae1 _))
theorem aaD {pins:List (Addr×Obj)}{σ:St}{H:Hp}{s:Shared}{R:It->Hp->Prop}{E:Value->Shared->Prop}{lo hi:Int}{t u v:Tok}{tk:Nat}(I:Inv X pins σ H s)(h1:-(2 ^ 62)<=lo)(h2:lo < 2 ^ 62)(h3:-(2 ^ 62)<=hi)(h4:hi < 2 ^ 62)
 (q:R (Itr lo (hi - lo).toNat) H):wpAny (model X.prog X.w) X.A (pyIter (.ref s.heap.objs.size)) (PIE X pins σ tg R) E { s with heap:=s.heap.push { cls:=.type "range",data:=.fields #[.int lo t,.int hi u,.int 1 v] },toks:=tk }:=by
 refine wpAny_pyIter_range (IsRange.new ..) (small_one h1 h2 h3 h4) ?_;have I1:Inv X pins σ H { s with heap:=s.heap.push { cls:=.type "range",data:=.fields #[.int lo t,.int hi u,.int 1 v] },toks:=tk }:=I.kept fun b o e=>aeV _ e;refine⟨(s.heap.push { cls:=.type "range",data:=.fields #[.int lo t,.int hi u,.int 1 v] }).objs.size,[(s.heap.push { cls:=.type "range",data:=.fields #[.int lo t,.int hi u,.int 1 v] }).objs.size],_,_,H,rfl,
  I1.kept (t':=tk) fun b o e=>aeV _ e,wo _ lo (hi - lo).toNat,?_,fun b hb=>?_,q⟩
 ·have e1:lo+((0:Nat):Int) * 1=lo:=by simp
  have e2:(((hi - lo).toNat:Nat):Int) - ((0:Nat):Int)=Builtin.Range.rangeSize lo hi 1:=by rw [rangeSize_one];split<;>lia
  show IsRangeIter _ _ (lo+((0:Nat):Int) * 1) ((((hi - lo).toNat:Nat):Int) - ((0:Nat):Int)) 1;rw [e1,e2];exact afd _ rfl
 ·have e:b=(s.heap.push { cls:=.type "range",data:=.fields #[.int lo t,.int hi u,.int 1 v] }).objs.size:=by simpa using hb
  subst e;exact I1.fpOk (ae1 _) (I1.hok.fresh (ae1 _))
def adW (ta:TA):TI:=fun σ H R=>ta σ H fun vs H1=>∃ j:Int,vs=[.int j]/\-(2 ^ 62)<=j/\j < 2 ^ 62/\R (Itr 0 j.toNat) H1
theorem bK {a:Expr}{ta:TA}{p pos:Pos}(hg:Gl X "range")(hm:X.mg "range" = none)(ha:PA X [a] ta)(hs:starEach [a] X.env=[(false,eval a X.env)]:=by rfl):PI X tg (.Call (.Name "range" p) [a] [] pos) (adW ta):=by
 intro pins s σ H R I h;refine Call_ (iK I hg hm boot_range (agE (thn (ha pos pins s σ H _ I h) fun us s1 ⟨vs,H1,I1,r1,q1⟩=>?_) hs rfl));obtain⟨j,e,q1,q2,q⟩:=q1;subst e;cases r1 with
 | cons r rr =>
  cases rr;obtain⟨t,rfl⟩:=r;exact call_range_1 (aaD I1 (by lia) (by lia) q1 q2 (by simpa using q))
def aeL (wi:TI)(g:TG)(tb:TS):TS:=fun D σ H=>wi σ H fun J H1=>∃ W:Nat->Nat->St->Hp->Prop,(∃ m,W 0 m σ H1)/\∀ i m σ H,W i m σ H →
 (J.stop i H/\D.nx σ H)\/(J.go i H/\∃ N:St->Hp->Prop,(∀ σ' H',N σ' H'->∃ m',m' < m/\W (i+1) m' σ' H')/\∀ x H',J.yld i H x H'->g x σ H' fun σ2 H2=>tb { D with nx:=N,ct:=N,bk:=D.nx } σ2 H2)
def ku (fp:List Addr)(h:Heap):List (Addr×Obj):=fp.filterMap fun b=>(h.get? b).map fun o=>(b,o)
theorem bW {fp:List Addr}{h:Heap}{b:Addr}{o:Obj}(hb:b∈fp)(e:h.get? b=some o):(b,o)∈ku fp h:=List.mem_filterMap.mpr ⟨b,hb,by rw [e];rfl⟩
theorem yy {fp:List Addr}{h:Heap}{p:Addr×Obj}(hp:p∈ku fp h):p.1∈fp/\h.get? p.1=some p.2:=by
 obtain⟨b,hb,e⟩:=List.mem_filterMap.mp hp;cases q:h.get? b with
 | none=>rw [q] at e;cases e
 | some o =>
  rw [q] at e;have e':(b,o)=p:=afW e;subst e';exact⟨hb,q⟩
theorem Inv.pinned {pins:List (Addr×Obj)}{σ:St}{H:Hp}{s:Shared}{fp:List Addr}(I:Inv X pins σ H s)(hf:∀ b∈fp,oh X pins H b)(ho:∀ b∈fp,∃ o,s.heap.get? b=some o/\∀ v,o.data≠.cell v):Inv X (pins++ku fp s.heap) σ H s :=
 I.pins_of fun p hp=>(aeT.mp hp).elim (fun z=>I.pin p (aeW _ z)) fun z=>by
  obtain⟨hb,e⟩:=yy z;obtain⟨f0,f1,f2,_⟩:=hf p.1 hb;obtain⟨o,e',d⟩:=ho p.1 hb;rw [e] at e';cases e';exact⟨e,f0,f1,f2,d⟩
theorem Inv.unpinned {pins pl:List (Addr×Obj)}{σ:St}{H:Hp}{s:Shared}(I:Inv X (pins++pl) σ H s):Inv X pins σ H s:=I.pins_of fun p hp=>I.pin p (aeW _ (aff _ hp))
theorem b4 {iter:Expr}{body:List Stmt}{wi:TI}{g:TG}{tb:TS}{pos:Pos}(hp:PassesOwn (model X.prog X.w) X.A X.env X.xe)(hc:X.calm=true)(hi:PI X tg iter wi)(hg:PG X tg g)(hb:PSs X body tb)
 (hs:∀ x,foldedSetIterable iter X.env x=pure x:=by intro _;rfl):PS X (.For tg iter body [] pos) (aeL wi g tb):=by
 intro pins s σ H D I h;refine wpAny_For (thn (hi pins s σ H _ I h) fun v s1 h1=>thn h1 fun itv s2 h2=>?_) hs;obtain⟨it,fp,tn,J,H2,e,I2,T,st2,f2,W,⟨m0,w0⟩,turn⟩:=h2;subst e;have stat:∀ {H':Hp},(∀ b∈fp,H' b=none)->∀ b∈fp,oh X pins H' b:=fun hn b hb=>⟨hn b hb,(f2 b hb).2⟩;refine codeAny_forLoop_any (fun n s'=>∃ i σ' H',Inv X pins σ' H' s'/\tn i s'.heap/\(∀ b∈fp,H' b=none)/\W i n σ' H') ?_ m0 ⟨0,σ,H2,I2,st2,fun b hb=>(f2 b hb).1,w0⟩;rintro n s3 ⟨i,σ3,H3,I3,st3,fr3,w3⟩;rcases turn i n σ3 H3 w3 with ⟨stop,qn⟩ | ⟨go,N,hN,step⟩
 ·refine ahb hp (thn (T.done X rfl rfl rfl hc i pins s3 σ3 H3 X.xe I3 (stat fr3) st3 stop) fun r s4 ⟨hr,I4⟩=>?_);subst hr;exact aiS ⟨σ3,H3,I4,qn⟩
 ·refine ahb hp (thn (T.item X rfl rfl rfl hc i pins s3 σ3 H3 X.xe I3 (stat fr3) st3 go) fun r s4 ⟨u,hr,h4⟩=>?_);subst hr;refine ahb hp (thn h4 fun _ s5 ⟨x,H5,I5,r5,y5,st5,fr5⟩=>?_);have I5':=I5.pinned (stat fr5) (T.obj _ _ st5);refine ahb hp (thn (hg _ s5 σ3 H5 x u _ I5' r5 (step x H5 y5)) fun _ s6 ⟨σ6,H6,I6,q6⟩=>?_);refine ahb hp (thn (hb _ s6 σ6 H6 _ I6 q6) fun f s7 q7=>?_);have again:∀ {σ7:St} {H7:Hp},Inv X (pins++ku fp s5.heap) σ7 H7 s7->N σ7 H7->∃ m,m < n/\∃ i σ' H',Inv X pins σ' H' s7/\tn i s7.heap/\(∀ b∈fp,H' b=none)/\W i m σ' H':=fun {σ7 H7} I7 n7=>by
   obtain⟨m',hm,w7⟩:=hN σ7 H7 n7;refine⟨m',hm,i+1,σ7,H7,I7.unpinned,T.keep _ _ _ st5 fun b hb o e=>(I7.pin (b,o) (aeW _ (aeW _ (bW hb e)))).1,fun b hb=>?_,w7⟩;obtain⟨o,e,d⟩:=T.obj _ _ st5 b hb;exact (I7.pin (b,o) (aeW _ (aeW _ (bW hb e)))).2.1
  cases f with
  | next=>obtain⟨σ7,H7,I7,n7⟩:=q7;exact again I7 n7
  | cont=>obtain⟨σ7,H7,I7,n7⟩:=q7;exact again I7 n7
  | brk=>obtain⟨σ7,H7,I7,q7⟩:=q7;exact⟨σ7,H7,I7.unpinned,q7⟩
  | ret v=>obtain⟨x7,σ7,H7,I7,r7,q7⟩:=q7;exact⟨x7,σ7,H7,I7.unpinned,r7,q7⟩
end
theorem bQ {K:PySem.W.Frag}{a:Addr}{xs:List V}{g:TG}{tb:TS}{D:zh}{σ:St}{H:Hp}(Pv:Nat->St->Hp->Prop)(h0:Pv 0 σ H)(hl:∀ i σ H,i<=xs.length->Pv i σ H->SqL K H a xs)
 (hs:∀ i x σ H,xs[i]? = some x->Pv i σ H->g x σ H fun σ2 H2=>tb { D with nx:=Pv (i+1),ct:=Pv (i+1),bk:=D.nx } σ2 H2)(hd:∀ σ H,Pv xs.length σ H->D.nx σ H) :
 ∃ W:Nat->Nat->St->Hp->Prop,(∃ m,W 0 m σ H)/\∀ i m σ H,W i m σ H →
  ((Itl K a).stop i H/\D.nx σ H)\/((Itl K a).go i H/\∃ N:St->Hp->Prop,(∀ σ' H',N σ' H'->∃ m',m' < m/\W (i+1) m' σ' H')/\∀ x H',(Itl K a).yld i H x H'->g x σ H' fun σ2 H2=>tb { D with nx:=N,ct:=N,bk:=D.nx } σ2 H2):=by
 refine⟨fun i m σ H=>m=xs.length - i/\i<=xs.length/\Pv i σ H,⟨xs.length,by simp,afe _,h0⟩,?_⟩;rintro i m σ H ⟨rfl,hi,p⟩;have q:=hl i σ H hi p;by_cases hlt:i < xs.length
 ·refine .inr ⟨⟨xs,xs[i],q,by simp [hlt]⟩,Pv (i+1),fun σ' H' p'=>⟨xs.length - (i+1),by lia,rfl,hlt,p'⟩,fun x H' y=>?_⟩;obtain⟨e,y⟩:=y;subst e;exact hs i x σ _ (y xs q) p
 ·have e:i=xs.length:=by lia
  subst e;exact .inl ⟨⟨xs,q,ae1 _⟩,hd σ H p⟩
theorem y1 {K:PySem.W.Frag}{a:Addr}{xs:List V}{g:TG}{tb:TS}{D:zh}{σ:St}{H:Hp}(Pv:Nat->St->Hp->Prop)(h0:Pv 0 σ H)(hl:∀ i σ H,i<=xs.length->Pv i σ H->SqT K H a xs)
 (hs:∀ i x σ H,xs[i]? = some x->Pv i σ H->g x σ H fun σ2 H2=>tb { D with nx:=Pv (i+1),ct:=Pv (i+1),bk:=D.nx } σ2 H2)(hd:∀ σ H,Pv xs.length σ H->D.nx σ H) :
 ∃ W:Nat->Nat->St->Hp->Prop,(∃ m,W 0 m σ H)/\∀ i m σ H,W i m σ H →
  ((Itt K a).stop i H/\D.nx σ H)\/((Itt K a).go i H/\∃ N:St->Hp->Prop,(∀ σ' H',N σ' H'->∃ m',m' < m/\W (i+1) m' σ' H')/\∀ x H',(Itt K a).yld i H x H'->g x σ H' fun σ2 H2=>tb { D with nx:=N,ct:=N,bk:=D.nx } σ2 H2):=by
 refine⟨fun i m σ H=>m=xs.length - i/\i<=xs.length/\Pv i σ H,⟨xs.length,by simp,afe _,h0⟩,?_⟩;rintro i m σ H ⟨rfl,hi,p⟩;have q:=hl i σ H hi p;by_cases hlt:i < xs.length
 ·refine .inr ⟨⟨xs,xs[i],q,by simp [hlt]⟩,Pv (i+1),fun σ' H' p'=>⟨xs.length - (i+1),by lia,rfl,hlt,p'⟩,fun x H' y=>?_⟩;obtain⟨e,y⟩:=y;subst e;exact hs i x σ _ (y xs q) p
 ·have e:i=xs.length:=by lia
  subst e;exact .inl ⟨⟨xs,q,ae1 _⟩,hd σ H p⟩
theorem fu {lo:Int}{n:Nat}{g:TG}{tb:TS}{D:zh}{σ:St}{H:Hp}(Pv:Nat->St->Hp->Prop)(h0:Pv 0 σ H)
 (hs:∀ i σ H,i < n->Pv i σ H->g (.int (lo+i)) σ H fun σ2 H2=>tb { D with nx:=Pv (i+1),ct:=Pv (i+1),bk:=D.nx } σ2 H2)(hd:∀ σ H,Pv n σ H->D.nx σ H) :
 ∃ W:Nat->Nat->St->Hp->Prop,(∃ m,W 0 m σ H)/\∀ i m σ H,W i m σ H →
  ((Itr lo n).stop i H/\D.nx σ H)\/((Itr lo n).go i H/\∃ N:St->Hp->Prop,(∀ σ' H',N σ' H'->∃ m',m' < m/\W (i+1) m' σ' H')/\∀ x H',(Itr lo n).yld i H x H'->g x σ H' fun σ2 H2=>tb { D with nx:=N,ct:=N,bk:=D.nx } σ2 H2):=by
 refine⟨fun i m σ H=>m=n - i/\i<=n/\Pv i σ H,⟨n,by simp,afe _,h0⟩,?_⟩;rintro i m σ H ⟨rfl,hi,p⟩;by_cases hlt:i < n
 ·refine .inr ⟨hlt,Pv (i+1),fun σ' H' p'=>⟨n - (i+1),by lia,rfl,hlt,p'⟩,fun x H' y=>?_⟩;obtain⟨e,y⟩:=y;subst e y;exact hs i σ _ hlt p
 ·have e:i=n:=by lia
  subst e;exact .inl ⟨ae1 _,hd σ H p⟩
abbrev R2:=V->V->Hp->VK->Prop
def OpR (X:Cx)(f:Value->Value->Sem Value)(r:R2):Prop :=
 ∀ (pins:List (Addr×Obj)) (s:Shared) (σ:St) (H:Hp) (x y:V) (v u:Value) (Q:VK),Inv X pins σ H s->RelV x v->RelV y u->r x y H Q →
  wpAny (model X.prog X.w) X.A (f v u) (EP X pins σ Q) X.xe s
def UnR (X:Cx)(f:Value->Sem Value)(r:V->Hp->VK->Prop):Prop :=
 ∀ (pins:List (Addr×Obj)) (s:Shared) (σ:St) (H:Hp) (x:V) (v:Value) (Q:VK),Inv X pins σ H s->RelV x v->r x H Q →
  wpAny (model X.prog X.w) X.A (f v) (EP X pins σ Q) X.xe s
def di (X:Cx)(f:Value)(r:List V->Hp->VK->Prop):Prop :=
 ∀ (pins:List (Addr×Obj)) (s:Shared) (σ:St) (H:Hp) (xs:List V) (us:List Value) (Q:VK),Inv X pins σ H s->Vals xs us->r xs H Q →
  wpAny (model X.prog X.w) X.A (call f us) (EP X pins σ Q) X.xe s
def aes (X:Cx)(r:V->Hp->(Bool->Hp->Prop)->Prop):Prop :=
 ∀ (pins:List (Addr×Obj)) (s:Shared) (σ:St) (H:Hp) (x:V) (v:Value) (Q:Bool->Hp->Prop),Inv X pins σ H s->RelV x v->r x H Q →
  wpAny (model X.prog X.w) X.A (truthy v) (TP X pins σ Q) X.xe s
def tOp (r:R2)(ta tb:TE):TE:=fun σ H Q=>ta σ H fun x H1=>tb σ H1 fun y H2=>r x y H2 Q
def tUn (r:V->Hp->VK->Prop)(ta:TE):TE:=fun σ H Q=>ta σ H fun x H1=>r x H1 Q
def rI (C:Int->Int->Prop)(g:Int->Int->V):R2:=fun x y H Q=>∃ i j,x=.int i/\y=.int j/\C i j/\Q (g i j) H
def rI0 (g:Int->Int->V):R2:=fun x y H Q=>∃ i j,x=.int i/\y=.int j/\Q (g i j) H
def rU (g:Int->V):V->Hp->VK->Prop:=fun x H Q=>∃ i,x=.int i/\Q (g i) H
section
variable {X:Cx}{a b c:Expr}{ta tb tc:TE}{pos:Pos}
theorem adF (ha:PE X a ta)(hb:PE X b tb){pins:List (Addr×Obj)}{s:Shared}{σ:St}{H:Hp}{R:V->V->Hp->Prop}(I:Inv X pins σ H s)
 (h:ta σ H fun x H1=>tb σ H1 fun y H2=>R x y H2){Q:Value->Shared->Prop}{f:Value->Value->Sem Value}
 (hf:∀ v u s2 x y H2,Inv X pins σ H2 s2->RelV x v->RelV y u->R x y H2->wpAny (model X.prog X.w) X.A (f v u) Q X.xe s2) :
 wpAny (model X.prog X.w) X.A (eval a X.env) (fun v s₁=>wpAny (model X.prog X.w) X.A (eval b X.env) (fun u s₂=>wpAny (model X.prog X.w) X.A (f v u) Q X.xe s₂) X.xe s₁) X.xe s:=by
 refine thn (ha pins s σ H _ I h) fun v s1 ⟨x,H1,I1,r1,q1⟩=>?_;refine thn (hb pins s1 σ H1 _ I1 q1) fun u s2 ⟨y,H2,I2,r2,q2⟩=>?_;exact hf v u s2 x y H2 I2 r1 r2 q2
theorem aI {op:Operator}{r:R2}(ho:OpR X (binaryOp op) r)(ha:PE X a ta)(hb:PE X b tb):PE X (.BinOp a op b pos) (tOp r ta tb):=by
 intro pins s σ H Q I h;exact wpAny_BinOp (adF ha hb I h fun v u s2 x y H2 I2 rx ry q=>ho pins s2 σ H2 x y v u Q I2 rx ry q)
theorem acw {op:UnaryOp}{r:V->Hp->VK->Prop}(ho:UnR X (unaryOp op) r)(ha:PE X a ta):PE X (.UnaryOp op a pos) (tUn r ta):=by
 intro pins s σ H Q I h;exact UnaryOp_ (thn (ha pins s σ H _ I h) fun v s1 ⟨x,H1,I1,r1,q1⟩=>ho pins s1 σ H1 x v Q I1 r1 q1)
theorem opI {f:Value->Value->Sem Value}{C:Int->Int->Prop}{g:Int->Int->Int}
 (rule:∀ (i j:Int) (t u:Tok) (s:Shared) (Q:Value->Shared->Prop) (E:Value->Shared->Prop),C i j->Q (.int (g i j) s.toks) { s with toks:=s.toks+1 }->wpAny (model X.prog X.w) X.A (f (.int i t) (.int j u)) Q E s) :
 OpR X f (rI C fun i j=>.int (g i j)):=by
 intro pins s σ H x y v u Q I rx ry h;obtain⟨i,j,rfl,rfl,hc,q⟩:=h;obtain⟨t,rfl⟩:=rx;obtain⟨t',rfl⟩:=ry;exact rule i j t t' s _ _ hc ⟨.int (g i j),H,I.tok _,⟨_,rfl⟩,q⟩
theorem ad8 {f:Value->Value->Sem Value}{g:Int->Int->Int}
 (rule:∀ (i j:Int) (t u:Tok) (s:Shared) (Q:Value->Shared->Prop) (E:Value->Shared->Prop),Q (.int (g i j) s.toks) { s with toks:=s.toks+1 }->wpAny (model X.prog X.w) X.A (f (.int i t) (.int j u)) Q E s) :
 OpR X f (rI0 fun i j=>.int (g i j)):=by
 intro pins s σ H x y v u Q I rx ry h;obtain⟨i,j,rfl,rfl,q⟩:=h;obtain⟨t,rfl⟩:=rx;obtain⟨t',rfl⟩:=ry;exact rule i j t t' s _ _ ⟨.int (g i j),H,I.tok _,⟨_,rfl⟩,q⟩
theorem adq {f:Value->Value->Sem Value}{g:Int->Int->Bool}
 (rule:∀ (i j:Int) (t u:Tok) (s:Shared) (Q:Value->Shared->Prop) (E:Value->Shared->Prop),Q (.bool (g i j)) s->wpAny (model X.prog X.w) X.A (f (.int i t) (.int j u)) Q E s) :
 OpR X f (rI0 fun i j=>.bl (g i j)):=by
 intro pins s σ H x y v u Q I rx ry h;obtain⟨i,j,rfl,rfl,q⟩:=h;obtain⟨t,rfl⟩:=rx;obtain⟨t',rfl⟩:=ry;exact rule i j t t' s _ _ ⟨.bl (g i j),H,I,rfl,q⟩
def aeH (i j:Int):Prop:=0 < j/\j < 1073741824
def aeM (i j:Int):Prop:=0<=j/\j<=1000000/\i.natAbs < 2 ^ 64
def CMul (i j:Int):Prop:=(-(2 ^ 64) < i/\i < 2 ^ 64)\/(-(2 ^ 64) < j/\j < 2 ^ 64)
theorem CMul.ok {i j:Int}(h:CMul i j):IntMulOk i j:=by
 rcases h with ⟨h1,h2⟩ | ⟨h1,h2⟩
 ·exact .of_left (intBits_le_64 h1 h2)
 ·exact .of_right (intBits_le_64 h1 h2)
theorem cV:OpR X (binaryOp .Add) (rI0 fun i j=>.int (i+j)):=ad8 fun _ _ _ _ _ _ _ q=>add_int q
theorem aaH:OpR X (binaryOp .Sub) (rI0 fun i j=>.int (i - j)):=ad8 fun _ _ _ _ _ _ _ q=>sub_int q
theorem oO:OpR X (binaryOp .Mult) (rI CMul fun i j=>.int (i * j)):=opI fun _ _ _ _ _ _ _ hc q=>mul_int q hc.ok
theorem mS:OpR X (binaryOp .FloorDiv) (rI aeH fun i j=>.int (i / j)):=opI fun i j _ _ _ _ _ hc q=>by
 have h1:(0:Int) < j:=hc.1;have h2:j < 1073741824:=hc.2;exact floordiv_int (by lia) (by rw [Int.fdiv_eq_ediv_of_nonneg i (by lia)];exact q) (.inl (PyProof.noPylong_small (by lia)))
theorem a9:OpR X (binaryOp .Mod) (rI (fun _ j=>0 < j) fun i j=>.int (i % j)):=opI fun i j _ _ _ _ _ hc q=>by
 have h1:(0:Int) < j:=hc;exact mod_int' (by lia) (by rw [Int.fmod_eq_emod_of_nonneg i (by lia)];exact q)
theorem acF:OpR X (binaryOp .Pow) (rI aeM fun i j=>.int (i ^ j.toNat)):=opI fun _ _ _ _ _ _ _ hc q=>pow_int_small hc.1 hc.2.1 hc.2.2 q
theorem unI {f:Value->Sem Value}{g:Int->Int}
 (rule:∀ (i:Int) (t:Tok) (s:Shared) (Q:Value->Shared->Prop) (E:Value->Shared->Prop),Q (.int (g i) s.toks) { s with toks:=s.toks+1 }->wpAny (model X.prog X.w) X.A (f (.int i t)) Q E s) :
 UnR X f (rU fun i=>.int (g i)):=by
 intro pins s σ H x v Q I rx h;obtain⟨i,rfl,q⟩:=h;obtain⟨t,rfl⟩:=rx;exact rule i t s _ _ ⟨.int (g i),H,I.tok _,⟨_,rfl⟩,q⟩
theorem aaI:UnR X (unaryOp .USub) (rU fun i=>.int (-i)):=unI fun _ _ _ _ _ q=>neg_int q
end
def aea:V->V->Bool
 | .non,.non=>true | .non,.int _=>true | .int _,.non=>true | .non,.bl _=>true | .bl _,.non=>true | .non,.str _=>true | .str _,.non=>true
 | .int _,.int _=>true | .bl _,.bl _=>true | .str _,.str _=>true | .byt _,.byt _=>true
 | .int _,.str _=>true | .str _,.int _=>true | .bl _,.str _=>true | .str _,.bl _=>true
 | _,_=>false
def rEq:R2:=fun x y H Q=>aea x y=true/\Q (.bl (decide (x=y))) H
def rNe:R2:=fun x y H Q=>aea x y=true/\Q (.bl (!decide (x=y))) H
theorem qc {i j:Int}:decide (V.int i=V.int j)=(i == j):=by
 rw [aiT];simp
theorem aaY {i j:Bool}:decide (V.bl i=V.bl j)=(i == j):=by
 rw [aiT];simp
theorem xk {i j:Str}:decide (V.str i=V.str j)=(i == j):=by
 rw [aiT];simp
theorem yu {i j:Array UInt8}:decide (V.byt i=V.byt j)=(i.toList == j.toList):=by
 rw [aiT];cases i;cases j;simp
section
variable {X:Cx}{a b c:Expr}{ta tb tc:TE}{pos:Pos}
theorem bB {pins:List (Addr×Obj)}{σ:St}{H:Hp}{s:Shared}{Q:VK}{k k':Bool}(I:Inv X pins σ H s)(q:Q (.bl k) H)(e:k=k'):EP X pins σ Q (.bool k') s:=by
 subst e;exact⟨.bl k,H,I,rfl,q⟩
theorem gy:OpR X (compareOp .Eq) rEq:=by
 intro pins s σ H x y v u Q I rx ry h;obtain⟨hs,q⟩:=h;cases x with
 | non =>
  cases rx;cases y with
  | non=>cases ry;exact PySem.EqNone.eq_none_none (bB I q (by simp))
  | bl j=>cases ry;exact PySem.EqNone.eq_none_bool (bB I q (by simp))
  | int j=>obtain⟨t',rfl⟩:=ry;exact PySem.EqNone.eq_none_int (bB I q (by simp))
  | str j=>obtain⟨t',rfl⟩:=ry;exact PySem.EqNone.eq_none_str (bB I q (by simp))
  | _=>exact absurd (show false=true from hs) aeY
 | bl i =>
  cases rx;cases y with
  | non=>cases ry;exact PySem.EqNone.eq_bool_none (bB I q (by simp))
  | bl j=>cases ry;exact eq_bool (bB I q aaY)
  | str j=>obtain⟨t',rfl⟩:=ry;exact PySem.EqMixed.eq_bool_str (bB I q (by simp))
  | _=>exact absurd (show false=true from hs) aeY
 | int i =>
  obtain⟨t,rfl⟩:=rx;cases y with
  | non=>cases ry;exact PySem.EqNone.eq_int_none (bB I q (by simp))
  | int j=>obtain⟨t',rfl⟩:=ry;exact eq_int (bB I q qc)
  | str j=>obtain⟨t',rfl⟩:=ry;exact PySem.EqMixed.eq_int_str (bB I q (by simp))
  | _=>exact absurd (show false=true from hs) aeY
 | str i =>
  obtain⟨t,rfl⟩:=rx;cases y with
  | non=>cases ry;exact PySem.EqNone.eq_str_none (bB I q (by simp))
  | bl j=>cases ry;exact PySem.EqMixed.eq_str_bool (bB I q (by simp))
  | int j=>obtain⟨t',rfl⟩:=ry;exact PySem.EqMixed.eq_str_int (bB I q (by simp))
  | str j=>obtain⟨t',rfl⟩:=ry;exact eq_str (bB I q xk)
  | _=>exact absurd (show false=true from hs) aeY
 | byt i =>
  obtain⟨t,rfl⟩:=rx;cases y with
  | byt j=>obtain⟨t',rfl⟩:=ry;exact PySem.W.eq_bytes (bB I q yu)
  | _=>exact absurd (show false=true from hs) aeY
 | _=>cases y<;>exact absurd (show false=true from hs) aeY
theorem xy:OpR X (compareOp .NotEq) rNe:=by
 intro pins s σ H x y v u Q I rx ry h;obtain⟨hs,q⟩:=h;cases x with
 | non =>
  cases rx;cases y with
  | non=>cases ry;exact PySem.EqNone.ne_none_none (bB I q (by simp))
  | bl j=>cases ry;exact PySem.EqNone.ne_none_bool (bB I q (by simp))
  | int j=>obtain⟨t',rfl⟩:=ry;exact PySem.EqNone.ne_none_int (bB I q (by simp))
  | str j=>obtain⟨t',rfl⟩:=ry;exact PySem.EqNone.ne_none_str (bB I q (by simp))
  | _=>exact absurd (show false=true from hs) aeY
 | bl i =>
  cases rx;cases y with
  | non=>cases ry;exact PySem.EqNone.ne_bool_none (bB I q (by simp))
  | bl j=>cases ry;exact ne_bool (bB I q (afJ not aaY))
  | str j=>obtain⟨t',rfl⟩:=ry;exact PySem.EqMixed.ne_bool_str (bB I q (by simp))
  | _=>exact absurd (show false=true from hs) aeY
 | int i =>
  obtain⟨t,rfl⟩:=rx;cases y with
  | non=>cases ry;exact PySem.EqNone.ne_int_none (bB I q (by simp))
  | int j=>obtain⟨t',rfl⟩:=ry;exact ne_int (bB I q (afJ not qc))
  | str j=>obtain⟨t',rfl⟩:=ry;exact PySem.EqMixed.ne_int_str (bB I q (by simp))
  | _=>exact absurd (show false=true from hs) aeY
 | str i =>
  obtain⟨t,rfl⟩:=rx;cases y with
  | non=>cases ry;exact PySem.EqNone.ne_str_none (bB I q (by simp))
  | bl j=>cases ry;exact PySem.EqMixed.ne_str_bool (bB I q (by simp))
  | int j=>obtain⟨t',rfl⟩:=ry;exact PySem.EqMixed.ne_str_int (bB I q (by simp))
  | str j=>obtain⟨t',rfl⟩:=ry;exact ne_str (bB I q (afJ not xk))
  | _=>exact absurd (show false=true from hs) aeY
 | byt i =>
  obtain⟨t,rfl⟩:=rx;cases y with
  | byt j=>obtain⟨t',rfl⟩:=ry;exact PySem.W.ne_bytes (bB I q (afJ not yu))
  | _=>exact absurd (show false=true from hs) aeY
 | _=>cases y<;>exact absurd (show false=true from hs) aeY
theorem abx:OpR X (compareOp .Lt) (rI0 fun i j=>.bl (decide (i < j))):=adq fun _ _ _ _ _ _ _ q=>lt_int q
theorem aaq:OpR X (compareOp .LtE) (rI0 fun i j=>.bl (decide (i<=j))):=adq fun _ _ _ _ _ _ _ q=>le_int q
theorem zb:OpR X (compareOp .Gt) (rI0 fun i j=>.bl (decide (j < i))):=adq fun _ _ _ _ _ _ _ q=>gt_int q
theorem acP:OpR X (compareOp .GtE) (rI0 fun i j=>.bl (decide (j<=i))):=adq fun _ _ _ _ _ _ _ q=>ge_int q
theorem xF:OpR X (compareOp .In) (fun x y H Q=>∃ i j,x=.str i/\y=.str j/\Q (.bl (!(Builtin.Str.occurrences j i 0 j.length 1).isEmpty)) H):=by
 intro pins s σ H x y v u Q I rx ry h;obtain⟨i,j,rfl,rfl,q⟩:=h;obtain⟨t,rfl⟩:=rx;obtain⟨t',rfl⟩:=ry;exact in_str (bB I q rfl)
theorem xu:OpR X (compareOp .Is) (fun x y H Q=>y=.non/\Q (.bl (decide (x=.non))) H):=by
 intro pins s σ H x y v u Q I rx ry h;obtain⟨rfl,q⟩:=h;cases ry;refine is_none_gen (bB I q ?_);cases x<;>first
  | (cases rx;rfl)
  | (obtain⟨t,rfl⟩:=rx;rfl)
theorem abv:OpR X (compareOp .IsNot) (fun x y H Q=>y=.non/\Q (.bl (!decide (x=.non))) H):=by
 intro pins s σ H x y v u Q I rx ry h;obtain⟨rfl,q⟩:=h;cases ry;refine isnot_none_gen (bB I q ?_);cases x<;>first
  | (cases rx;rfl)
  | (obtain⟨t,rfl⟩:=rx;rfl)
theorem aM (b:Expr){op:CmpOp}(h:op≠.In:=by decide)(h2:op≠.NotIn:=by decide):behindInMarks op b=false:=by
 have e1:(op == CmpOp.In)=false:=by cases op<;>first | rfl | exact absurd rfl h
 have e2:(op == CmpOp.NotIn)=false:=by cases op<;>first | rfl | exact absurd rfl h2
 cases b<;>simp [behindInMarks,e1,e2]
theorem b7 {op:CmpOp}{r:R2}(ho:OpR X (compareOp op) r)(ha:PE X a ta)(hb:PE X b tb)(hm:behindInMarks op b=false):PE X (.Compare a [op] [b] pos) (tOp r ta tb):=by
 intro pins s σ H Q I h;exact wpAny_Compare1 (adF ha hb I h fun v u s2 x y H2 I2 rx ry q=>ho pins s2 σ H2 x y v u Q I2 rx ry q) hm
def zq (t:TE):TT:=fun σ H Q=>t σ H fun x H'=>∃ k,x=.bl k/\Q k H'
theorem aH {op:CmpOp}{r:R2}(ho:OpR X (compareOp op) r)(ha:PE X a ta)(hb:PE X b tb)(hm:behindInMarks op b=false):PT X (.Compare a [op] [b] pos) (zq (tOp r ta tb)):=by
 intro pins s σ H Q I h;refine wpAny_isTrue_Compare1 (thn (ha pins s σ H _ I h) fun v s1 ⟨x,H1,I1,r1,q1⟩=>thn (hb pins s1 σ H1 _ I1 q1) fun u s2 ⟨y,H2,I2,r2,q2⟩ =>
  thn (ho pins s2 σ H2 x y v u _ I2 r1 r2 q2) fun c s3 ⟨z,H3,I3,r3,k,e,q3⟩=>?_) hm
 subst e;cases r3;exact agc ⟨H3,I3,q3⟩
def aa9 (r r':R2)(ta tb tc:TE):TE:=fun σ H Q=>ta σ H fun x H1=>tb σ H1 fun y H2=>r x y H2 fun z H3=>∃ k,z=.bl k ∧
 (if k=true then tc σ H3 fun w' H4=>r' y w' H4 Q else Q (.bl false) H3)
theorem z9 {op op':CmpOp}{r r':R2}(ho:OpR X (compareOp op) r)(ho':OpR X (compareOp op') r')(ha:PE X a ta)(hb:PE X b tb)(hc:PE X c tc)
 (hm:lastMarks [op,op'] [b,c]=false:=by with_unfolding_all rfl):PE X (.Compare a [op,op'] [b,c] pos) (aa9 r r' ta tb tc):=by
 intro pins s σ H Q I h;refine Compare_chain (thn (ha pins s σ H _ I h) fun v s1 ⟨x,H1,I1,r1,q1⟩=>chain_link (thn (hb pins s1 σ H1 _ I1 q1) fun u s2 ⟨y,H2,I2,r2,q2⟩ =>
  thn (ho pins s2 σ H2 x y v u _ I2 r1 r2 q2) fun d s3 ⟨z,H3,I3,r3,k,e,q3⟩=>?_)) hm
 subst e;cases r3;refine agc ?_;cases k with
 | false=>exact ite_ff ⟨.bl false,H3,I3,rfl,q3⟩
 | true=>exact ite_tt (chain_last (thn (hc pins s3 σ H3 _ I3 q3) fun w' s4 ⟨z',H4,I4,r4,q4⟩=>ho' pins s4 σ H4 y z' u w' Q I4 r2 r4 q4))
theorem zr {op op':CmpOp}{r r':R2}(ho:OpR X (compareOp op) r)(ho':OpR X (compareOp op') r')(ha:PE X a ta)(hb:PE X b tb)(hc:PE X c tc)
 (hm:lastMarks [op,op'] [b,c]=false:=by with_unfolding_all rfl):PT X (.Compare a [op,op'] [b,c] pos) (zq (aa9 r r' ta tb tc)):=by
 intro pins s σ H Q I h;refine isTrue_chain (thn (ha pins s σ H _ I h) fun v s1 ⟨x,H1,I1,r1,q1⟩=>test_link (thn (hb pins s1 σ H1 _ I1 q1) fun u s2 ⟨y,H2,I2,r2,q2⟩ =>
  thn (ho pins s2 σ H2 x y v u _ I2 r1 r2 q2) fun d s3 ⟨z,H3,I3,r3,k,e,q3⟩=>?_)) hm
 subst e;cases r3;refine agc ?_;cases k with
 | false =>
  obtain⟨k',e',q'⟩:=q3;cases e';exact ite_ff ⟨H3,I3,q'⟩
 | true =>
  refine ite_tt (test_last (thn (hc pins s3 σ H3 _ I3 q3) fun w' s4 ⟨z',H4,I4,r4,q4⟩=>thn (ho' pins s4 σ H4 y z' u w' _ I4 r2 r4 q4) fun d' s5 ⟨z2,H5,I5,r5,k2,e2,q5⟩=>?_));subst e2;cases r5;exact agc ⟨H5,I5,q5⟩
def adR (K:PySem.W.Frag)(x:V)(H:Hp)(k:Bool):Prop :=
 match x with
 | .non=>k=false
 | .bl b=>k=b
 | .int i=>k=(i != 0)
 | .str y=>y.length<=sizeLine/\k=((y.length:Int) != 0)
 | .byt y=>y.size<=sizeLine/\k=((y.size:Int) != 0)
 | .ref p=>(∃ xs,SqL K H p xs/\k=!xs.isEmpty)\/(∃ xs,SqT K H p xs/\k=!xs.isEmpty)\/∃ kvs,H p=some (.dK kvs)/\k=!kvs.isEmpty
 | _=>False
theorem vP {κ:Type}{kvs:List (κ×V)}{vs:List (κ×Value)}(r:KV kvs vs):(!vs.isEmpty)=!kvs.isEmpty:=by
 cases r<;>rfl
theorem oX {xs:List V}{its:List Value}(r:Vals xs its):(!its.toArray.isEmpty)=!xs.isEmpty:=by
 cases r<;>simp
theorem jt:(sizeLine:Nat) < 2 ^ 63:=by rw [sizeLine_eq];decide
theorem aa7:aes X (fun x H Q=>∃ k,adR X.K x H k/\Q k H):=by
 intro pins s σ H x v Q I rx h;obtain⟨k,e,q⟩:=h;have hl:=jt;have hs:sizeLine=16777216:=sizeLine_eq;cases x with
 | non =>
  cases rx;have e':k=false:=e;subst e';exact truthy_none ⟨H,I,q⟩
 | bl b =>
  cases rx;have e':k=b:=e;subst e';exact agc ⟨H,I,q⟩
 | int i =>
  obtain⟨t,rfl⟩:=rx;have e':k=(i != 0):=e;subst e';exact PySem.P.truthy_int ⟨H,I,q⟩
 | str y =>
  obtain⟨t,rfl⟩:=rx;obtain⟨hy,e'⟩:y.length<=sizeLine/\k=((y.length:Int) != 0):=e;subst e';exact PySem.P.truthy_str (by lia) ⟨H,I.tok _,q⟩
 | byt y =>
  obtain⟨t,rfl⟩:=rx;obtain⟨hy,e'⟩:y.size<=sizeLine/\k=((y.size:Int) != 0):=e;subst e';exact PySem.W.truthy_bytes (by lia) ⟨H,I.tok _,q⟩
 | ref p =>
  cases rx;have e':(∃ xs,SqL X.K H p xs/\k=!xs.isEmpty)\/(∃ xs,SqT X.K H p xs/\k=!xs.isEmpty)\/∃ kvs,H p=some (.dK kvs)/\k=!kvs.isEmpty:=e;rcases e' with ⟨xs,hx,e'⟩ | ⟨xs,hx,e'⟩ | ⟨kvs,hx,e'⟩
  ·subst e';obtain⟨its,r,pl,hz⟩:=I.list hx;have hlen:=r.length;exact wpAny_truthy_list pl.isList (by simp only [ae9];lia) ⟨H,I.tok _,by rw [oX r];exact q⟩
  ·subst e';obtain⟨its,r,pl,hz⟩:=I.tuple hx;have hlen:=r.length;exact truthy_tuple pl (by simp only [ae9];lia) ⟨H,I.tok _,by rw [oX r];exact q⟩
  ·subst e';obtain⟨hz,hS,vs,r,m⟩:kvs.length<=sizeLine/\(p == sysModules)=false/\∃ vs,KV kvs vs/\s.heap.DictOf (bE X.prog X.w) p vs:=I.hok p _ hx;have hlen:kvs.length=vs.length:=ajE r;exact wpAny_truthy_dict hS m (by lia) ⟨H,I.tok _,by rw [vP r];exact q⟩
 | _=>exact (show False from e).elim
theorem vg (ha:PE X a ta)(he:∀ whole,isTrue a X.env whole=(do let v ← whole;standAt a.pos;holding [v] (truthy v))) :
 PT X a (fun σ H Q=>ta σ H fun x H'=>∃ k,adR X.K x H' k/\Q k H'):=by
 intro pins s σ H Q I h;exact isTrue_plain (thn (ha pins s σ H _ I h) fun v s1 ⟨x,H1,I1,r1,q1⟩=>aa7 pins s1 σ H1 x v Q I1 r1 q1) (he _)
theorem iy:OpR X (binaryOp .Add) (fun x y H Q=>∃ i j,x=.str i/\y=.str j/\i.length+j.length<=sizeLine/\Q (.str (i++j)) H):=by
 intro pins s σ H x y v u Q I rx ry h;obtain⟨i,j,rfl,rfl,hz,q⟩:=h;obtain⟨t,rfl⟩:=rx;obtain⟨t',rfl⟩:=ry;exact add_str (fun t' tk=>⟨.str (i++j),H,I.tok _,⟨_,rfl⟩,q⟩) hz
theorem gZ {x:V}{us:List Value}(r:Vals [x] us):∃ u,us=[u]/\RelV x u:=by
 cases r with
 | cons r1 r2=>cases r2;exact⟨_,rfl,r1⟩
theorem acp {x y:V}{us:List Value}(r:Vals [x,y] us):∃ u w',us=[u,w']/\RelV x u/\RelV y w':=by
 cases r with
 | cons r1 r2 =>
  cases r2 with
  | cons r3 r4=>cases r4;exact⟨_,_,rfl,r1,r3⟩
theorem w9 (hc:X.calm=true):di X (.builtin "max") (fun xs H Q=>∃ i j,xs=[.int i,.int j]/\Q (.int (if j > i then j else i)) H):=by
 intro pins s σ H xs us Q I r h;obtain⟨i,j,rfl,q⟩:=h;obtain⟨u,w',rfl,⟨t,rfl⟩,⟨t',rfl⟩⟩:=acp r;refine max_two_ints (I.ok.hd hc) fun h' tk k=>⟨_,H,I.kept k,?_,q⟩;by_cases hj:j > i
 ·rw [if_pos hj,if_pos hj];exact⟨_,rfl⟩
 ·rw [if_neg hj,if_neg hj];exact⟨_,rfl⟩
theorem rB (hc:X.calm=true):di X (.builtin "min") (fun xs H Q=>∃ i j,xs=[.int i,.int j]/\Q (.int (if j < i then j else i)) H):=by
 intro pins s σ H xs us Q I r h;obtain⟨i,j,rfl,q⟩:=h;obtain⟨u,w',rfl,⟨t,rfl⟩,⟨t',rfl⟩⟩:=acp r;refine min_two_ints (I.ok.hd hc) fun h' tk k=>⟨_,H,I.kept k,?_,q⟩;by_cases hj:j < i
 ·rw [if_pos hj,if_pos hj];exact⟨_,rfl⟩
 ·rw [if_neg hj,if_neg hj];exact⟨_,rfl⟩
theorem lQ:di X (.type "int") (fun xs H Q=>(∃ i,xs=[.int i]/\Q (.int i) H)\/∃ k,xs=[.bl k]/\Q (.int (if k then 1 else 0)) H):=by
 intro pins s σ H xs us Q I r h;rcases h with ⟨i,rfl,q⟩ | ⟨k,rfl,q⟩
 ·obtain⟨u,rfl,t,rfl⟩:=gZ r;exact call_int_int ⟨.int i,H,I,⟨_,rfl⟩,q⟩
 ·obtain⟨u,rfl,r1⟩:=gZ r;cases r1;exact call_int_bool ⟨.int (if k then 1 else 0),H,I.tok _,⟨_,rfl⟩,q⟩
end
structure ObjM (h:Heap)(x dx C:Addr)(mA:Str->Option Value):Prop where
 obj:h.get? x=some (instObj C dx)
 ns:h.Ns1 dx mA
 ne:dx≠x
theorem yL {h:Heap}{dx:Addr}{mA:Str->Option Value}(n:h.Ns1 dx mA):∃ od,h.get? dx=some od/\∀ name,lookIn name od=some (mA name):=by
 obtain⟨o,es,ep,ho,hd,hk,_,hm⟩:=n;refine⟨o,ho,fun name=>?_⟩;have e:=hm name;unfold nsFind findBy at e;rw [← Array.find?_toList] at e;unfold lookIn;rw [hd];dsimp only;split
 ·rename_i y q;rw [q] at e;exact afJ some e
 ·rename_i q;rw [q] at e;have a:es.toList.any (·.refKey)=false:=by
   rw [List.any_eq_false];intro y hy;obtain⟨z,t,hkey⟩:=hk y (Array.mem_toList_iff.mp hy);simp [DictEntry.refKey,hkey]
  have a':¬ es.toList.any (·.refKey)=true:=by rw [a];exact aeY
  rw [if_neg a'];exact afJ some e
theorem ObjM.look {h:Heap}{x dx C:Addr}{mA:Str->Option Value}(I:ObjM h x dx C mA):∃ od,PySem.W.InstAt h x (instObj C dx) C (some od)/\∀ name,lookIn name od=some (mA name) :=
 let ⟨od,ho,hl⟩:=yL I.ns
 ⟨od,⟨I.obj,rfl,rfl,ho⟩,hl⟩
section
variable {prog:Program}{w:World}{A:Around}{E:Value->Shared->Prop}{s:Shared}{K:PySem.W.Frag}{x dx C f:Addr}{mA:Str->Option Value}{name:Str}{v:Value}
end
theorem RelO.some_of {v:V}{o:Option Value}(r:RelO (some v) o):∃ u,o=some u/\RelV v u:=by
 cases o with
 | none=>exact (show False from r).elim
 | some u=>exact⟨u,rfl,r⟩
section
variable {P:Program}{w:World}{H H':Hp}{h h':Heap}{a C dx:Addr}{fs fs':List (Str×V)}
theorem abT (hok:HOk P w H h)(e:H a=some (.ins C dx fs)):∃ mA,ObjM h a dx C mA/\(∀ f,RelO (fs.lookup f) (mA f))/\PySem.Within mA (fs.map (·.1))/\fs.length<=1000/\H dx=some (.own a):=by
 obtain⟨d,z,ne,ob,mA,n,r,q⟩:=(show ObjOk P w H h a (.ins C dx fs) from hok a _ e);exact⟨mA,⟨ob,n,ne⟩,r,q,z,d⟩
end
structure Cls (K:PySem.W.Frag)(C:Addr):Prop where
 pg:plainGet K C Str.empty=true
 hd:PySem.W.hasDictIn K C=true
 po:PySem.W.plainOver K C=true
 sa:findIn K (.ref C) "__setattr__" = some (some (.builtin "object.__setattr__"))
theorem Cls.get {K:PySem.W.Frag}{C:Addr}(c:Cls K C)(f:Str):plainGet K C f=true:=c.pg
section
variable {X:Cx}{pins:List (Addr×Obj)}{σ:St}{H:Hp}{s:Shared}{a C dx:Addr}{fs:List (Str×V)}{f:Str}{v:V}{A:Around}{E:Value->Shared->Prop}
end
section
variable {X:Cx}{o e value:Expr}{f:Str}{pos pos' tpos:Pos}{ta tv:TE}
end
section
variable {X:Cx}{pins:List (Addr×Obj)}{σ:St}{H:Hp}{s:Shared}{A:Around}{E:Value->Shared->Prop}{Q:Value->Shared->Prop}{c:Value}{b:Bool}
inductive uE (K:PySem.W.Frag)(H:Hp):V->Value->Prop where
 | non:uE K H .non (.type "NoneType")
 | bl (x:Bool):uE K H (.bl x) (.type "bool")
 | int (i:Int):uE K H (.int i) (.type "int")
 | str (x:Str):uE K H (.str x) (.type "str")
 | flt (x:UInt64):uE K H (.flt x) (.type "float")
 | lst {a:Addr} {xs:List V} (e:H a=some (.lst xs)):uE K H (.ref a) (.type "list")
 | frz {a:Addr} {o:Obj} {xs:List V} (e:H a=some (.frz o (.lst xs))):uE K H (.ref a) (.type "list")
 | tup {a:Addr} {xs:List V} (e:H a=some (.tup xs)):uE K H (.ref a) (.type "tuple")
 | dK {a:Addr} {kvs:List (Key×V)} (e:H a=some (.dK kvs)):uE K H (.ref a) (.type "dict")
 | dT {a:Addr} {kvs:List (List Key×V)} (e:H a=some (.dT kvs)):uE K H (.ref a) (.type "dict")
 | ins {a C dx:Addr} {fs:List (Str×V)} (e:H a=some (.ins C dx fs)) (cl:Cls K C) (ha:findIn K (.ref C) "__class__" = some (some (.builtin "object.__class__")))
  (hn:PySem.W.specialIn K (.builtin "object.__class__") "__get__" = some (some (.builtin "getset_descriptor.__get__"))) (htk:PySem.W.takesIn K (.builtin "object.__class__")=some true)
  (hm:PySem.W.mroIn K C (.type "object")=some true):uE K H (.ref a) (.ref C)
theorem xD {x:V}{u t:Value}(I:Inv X pins σ H s)(rx:RelV x u)(ty:uE X.K H x t)(e:kitOne X.K t c=some b)(h:∀ tk,Q (.bool b) { s with toks:=tk }) :
 wpAny (model X.prog X.w) A (call (.builtin "isinstance") [u,c]) Q E s:=by
 cases ty with
 | non=>cases (show u=Value.none from rx);exact ags PySem.W.kitx_none I.kIn True.intro e (fun z=>nomatch z) h
 | bl y=>cases (show u=Value.bool y from rx);exact ags PySem.W.kitx_bool I.kIn True.intro e (fun z=>nomatch z) h
 | int i=>obtain⟨t,q⟩:=(show ∃ t,u=Value.int i t from rx);cases q;exact ags PySem.W.kitx_int I.kIn True.intro e (fun z=>nomatch z) h
 | str y=>obtain⟨t,q⟩:=(show ∃ t,u=Value.str y t from rx);cases q;exact ags PySem.W.kitx_str I.kIn True.intro e (fun z=>nomatch z) h
 | flt y=>obtain⟨t,q⟩:=(show ∃ t,u=Value.float y t from rx);cases q;exact ags PySem.W.kitx_float I.kIn True.intro e (fun z=>nomatch z) h
 | @lst a xs ea =>
  cases (show u=Value.ref a from rx);obtain⟨_,_,n,_,h1⟩:=(show ObjOk X.prog X.w H s.heap a (.lst xs) from I.hok a _ ea);exact ags kitx_list I.kIn ⟨_,h1,rfl⟩ e (fun z=>nomatch z) h
 | @frz a ob xs ea =>
  cases (show u=Value.ref a from rx);obtain⟨_,_,_,n,_,h1⟩:=(show ObjOk X.prog X.w H s.heap a (.frz ob (.lst xs)) from I.hok a _ ea);exact ags kitx_list I.kIn ⟨_,h1,rfl⟩ e (fun z=>nomatch z) h
 | @tup a xs ea =>
  cases (show u=Value.ref a from rx);obtain⟨_,_,_,p⟩:=(show ObjOk X.prog X.w H s.heap a (.tup xs) from I.hok a _ ea);obtain⟨o,h1,h2,_⟩:=p;exact ags PySem.W.kitx_tuple I.kIn ⟨o,h1,h2⟩ e (fun z=>nomatch z) h
 | @dK a kvs ea =>
  cases (show u=Value.ref a from rx);obtain⟨_,_,vs,_,p⟩:=(show ObjOk X.prog X.w H s.heap a (.dK kvs) from I.hok a _ ea);obtain⟨o,es,ep,h1,h2,_⟩:=p;exact ags kitx_dict I.kIn ⟨o,h1,h2.1⟩ e (fun z=>nomatch z) h
 | @dT a kvs ea =>
  cases (show u=Value.ref a from rx);obtain⟨_,_,xs,_,o,es,ep,h1,h2,_⟩:=(show ObjOk X.prog X.w H s.heap a (.dT kvs) from I.hok a _ ea);exact ags kitx_dict I.kIn ⟨o,h1,h2.1⟩ e (fun z=>nomatch z) h
 | @ins a C dx fs ea cl ha hn htk hm =>
  cases (show u=Value.ref a from rx);obtain⟨mA,O,_⟩:=abT I.hok ea;obtain⟨od,J,_⟩:=O.look;exact ags (PySem.W.kitx_own (cl.get _) cl.hd ha hn htk hm) I.kIn J e (fun z=>nomatch z) h
end
structure Room (k:Nat)(A:Around):Prop where
 hd:A.handled=none
 dp:A.depth+3 * k+5 < recursionLimit
 un:A.units+16 * k+200 < cLine
theorem Room.mono {j k:Nat}{A:Around}(r:Room k A)(h:j<=k):Room j A:=⟨r.hd,by have:=r.dp;lia,by have:=r.un;lia⟩
theorem Room.deeper {k:Nat}{A:Around}(r:Room (k+1) A)(env:Env):Room k (A.deeper env) :=
 ⟨r.hd,by have:=r.dp;show A.depth+1+3 * k+5 < _;lia,by have:=r.un;show A.units+3+16 * k+200 < _;lia⟩
theorem Room.depth {k:Nat}{A:Around}(r:Room k A):A.depth < recursionLimit:=by have:=r.dp;lia
theorem Room.units {k:Nat}{A:Around}(r:Room k A):A.units+64 < cLine:=by have:=r.un;lia
def kX:TA:=fun _ H Q=>Q [] H
def eP (ta:TE)(tr:TA):TA:=fun σ H Q=>ta σ H fun x H1=>tr σ H1 fun xs H2=>Q (x::xs) H2
section
variable {X:Cx}{e:Expr}{es:List Expr}{te:TE}{t:TA}{pos:Pos}
theorem ai:PA X [] kX:=fun _ _ _ _ H Q I h=>aii ⟨[],H,I,.nil,h⟩
theorem ae (ha:PE X e te)(hr:PA X es t)(hs:starEach (e::es) X.env=(false,eval e X.env)::starEach es X.env:=by rfl):PA X (e::es) (eP te t):=by
 intro pos pins s σ H Q I h;rw [hs];show wpAny _ _ (spliced ((false,eval e X.env)::backTo pos (starEach es X.env))) _ _ s;refine ahA (thn (ha pins s σ H _ I h) fun u s1 ⟨x,H1,I1,r1,q1⟩=>?_);exact thn (hr pos pins s1 σ H1 _ I1 q1) fun us s2 ⟨xs,H2,I2,r2,q2⟩=>⟨x::xs,H2,I2,.cons r1 r2,q2⟩
def ael (t:TA):TE:=fun σ H Q=>t σ H fun xs H1=>xs.length<=sizeLine/\∀ p,H1 p=none->Q (.ref p) (upd H1 p (.tup xs))
def ad9 (t:TA):TE:=fun σ H Q=>t σ H fun xs H1=>xs.length<=sizeLine/\∀ p,H1 p=none->Q (.ref p) (upd H1 p (.lst xs))
theorem bZ {x1}(h:PA X es t):PE X (.Tuple es x1 pos) (ael t):=by
 intro pins s σ H Q I hq;refine wpAny_Tuple_spliced (thn (h pos pins s σ H _ I hq) fun us s1 ⟨xs,H1,I1,r,z,q⟩=>⟨by rw [← r.length];exact z,?_⟩);have hf:H1 s1.heap.objs.size=none:=I1.hok.fresh (ae1 _);refine⟨.ref s1.heap.objs.size,upd H1 s1.heap.objs.size (.tup xs),I1.laid (t':=s1.toks) (fun b u e=>aeV _ e) (ae1 _) ?_,rfl,q _ hf⟩;exact⟨z,us,r,⟨_,afd _ rfl,rfl,_,rfl⟩⟩
theorem c9 (h:PA X es t):PE X (.List es pos) (ad9 t):=by
 intro pins s σ H Q I hq;refine wpAny_List_spliced (thn (h pos pins s σ H _ I hq) fun us s1 ⟨xs,H1,I1,r,z,q⟩=>⟨by rw [← r.length];exact z,?_⟩);have hf:H1 s1.heap.objs.size=none:=I1.hok.fresh (ae1 _);refine⟨.ref s1.heap.objs.size,upd H1 s1.heap.objs.size (.lst xs),I1.laid (t':=s1.toks) (fun b u e=>aeV _ e) (ae1 _) ?_,rfl,q _ hf⟩;exact⟨z,us,0,r,afd _ rfl⟩
end
abbrev Sp:=List V->Hp->VK->XK->Prop
abbrev CXT:=List Env->Hp->Shared->XK->Value->Shared->Prop
structure adt (P:Program)(w:World)(K:PySem.W.Frag)(mg:Str->Option Value)(base:Heap)(A:Around)(outer:List Env)(s:Shared)(H:Hp):Prop where
 frames:A.frames=some outer
 mod:Mod K mg base
 bs:∀ b o,base.get? b=some o->s.heap.get? b=some o/\H b=none
 bsz:base.objs.size<=s.heap.objs.size
 funs:s.heap.FunFrames base outer
 frf:∀ b∈frs outer,H b=none
 hok:HOk P w H s.heap
 bare:AllBare s.gens
def CE (outer:List Env)(P:Program)(w:World)(H:Hp)(s:Shared)(Q:VK)(u:Value)(s':Shared):Prop :=
 ∃ v H',s'.os=s.os/\AllBare s'.gens/\Un (frs outer) [] H H' s.heap s'.heap/\HOk P w H' s'.heap/\RelV v u/\Q v H'
def CR (CX:CXT)(outer:List Env)(P:Program)(w:World)(H:Hp)(s:Shared)(Q:VK)(E:XK)(r:Result)(s':Shared):Prop :=
 match r with
 | .ok (.ret u)=>CE outer P w H s Q u s'
 | .ok _=>False
 | .error e=>CX outer H s E e s'
structure bF (P:Program)(w:World)(K:PySem.W.Frag)(mg:Str->Option Value)(base:Heap)(CX:CXT)(k:Nat)(f:Addr)(fd:FuncData)(ps:List Str)(sp:Sp):Prop where
 len:∀ vs H Q E,sp vs H Q E->vs.length=ps.length
 run:∀ (A:Around) (outer:List Env) (s:Shared) (H:Hp) (args:Args) (us:List Value) (vs:List V) (Q:VK) (E:XK),Room k A->adt P w K mg base A outer s H->BindsTo s fd args (ps.zip us)->Vals vs us->sp vs H Q E →
  codeAny (model P w) A (.call (.ref f) args) (CR CX outer P w H s Q E) s
section
variable {X:Cx}{pins:List (Addr×Obj)}{σ:St}{H:Hp}{s s':Shared}
theorem Inv.env0 (I:Inv X pins σ H s):adt X.prog X.w X.K X.mg X.base X.A X.stack s H :=
 ⟨I.ok.frames,I.ok.mod,I.bs,aft I.ok.bsz I.sz,I.stack,I.stkFree,I.hok,I.bare⟩
theorem Inv.after {Q:VK}{u:Value}(I:Inv X pins σ H s)(h:CE X.stack X.prog X.w H s Q u s'):EP X pins σ Q u s':=by
 obtain⟨v,H',os,bare,un,hok,r,q⟩:=h;obtain⟨hh,g,d,t,os'⟩:=s';obtain rfl:os'=s.os:=os;exact⟨v,H',I.call (h':=hh) (g':=g) (d':=d) (t':=t) (ch:=[]) un hok bare (fun b z=>absurd z (by simp)),r,q⟩
end
def xq (sp:Sp)(dvs:List V)(E:XK)(t:TA):TE:=fun σ H Q=>t σ H fun vs H1=>sp (vs++dvs) H1 Q E
def Binds (K:PySem.W.Frag)(fd:FuncData)(ps:List Str)(ds:List Value):Prop :=
 ∀ (s:Shared) (us:List Value),K.In s.heap->(us++ds).length=ps.length->BindsTo s fd ⟨us,[]⟩ (ps.zip (us++ds))
theorem Binds.all {K:PySem.W.Frag}{fd:FuncData}{ps:List Str}(h:∀ us:List Value,us.length=ps.length->bindArgs fd ⟨us,[]⟩=pure (ps.zip us)):Binds K fd ps []:=fun s us _ hl=>by
 rw [afO] at hl ⊢;exact .of_eq (h us hl)
def yM (CX:CXT)(X:Cx)(E:XK):Prop:=∀ (pins:List (Addr×Obj)) (σ:St) (H:Hp) (s:Shared) (e:Value) (s':Shared),Inv X pins σ H s->CX X.stack H s E e s'->X.xe e s'
section
variable {X:Cx}{CX:CXT}{k:Nat}{f C:Addr}{fd:FuncData}{ps:List Str}{sp:Sp}{dvs:List V}{ds:List Value}{E:XK}{x m:Str}{p pos apos:Pos}{e o:Expr}{es:List Expr}{ta:TE}{t:TA}
theorem acL {pins:List (Addr×Obj)}{σ:St}{H:Hp}{s:Shared}{Q:VK}{us:List Value}{vs:List V}(F:bF X.prog X.w X.K X.mg X.base CX k f fd ps sp)(hr:Room k X.A)(hb:Binds X.K fd ps ds)(hd:Vals dvs ds)(hx:yM CX X E)
 (I:Inv X pins σ H s)(r:Vals vs us)(h:sp (vs++dvs) H Q E):wpAny (model X.prog X.w) X.A (call (.ref f) us) (EP X pins σ Q) X.xe s:=by
 have r2:Vals (vs++dvs) (us++ds):=r.append hd;have hl:(us++ds).length=ps.length:=by rw [← r2.length];exact F.len _ _ _ _ h
 refine wpAny_call (ag5 (F.run X.A X.stack s H ⟨us,[]⟩ (us++ds) (vs++dvs) Q E hr I.env0 (hb s us I.kIn hl) r2 h) fun r s' hq=>?_);cases r with
 | error e=>exact hx pins σ H s e s' I hq
 | ok fl =>
  cases fl with
  | ret u=>exact I.after hq
  | next=>exact False.elim hq
  | brk=>exact False.elim hq
  | cont=>exact False.elim hq
theorem gc (F:bF X.prog X.w X.K X.mg X.base CX k f fd ps sp)(hr:Room k X.A)(hg:Gl X x)(hm:X.mg x=some (.ref f))(hk:keepIn X.K (.ref f)=true)(hb:Binds X.K fd ps ds)(hd:Vals dvs ds)(hx:yM CX X E)
 (ha:PA X (e::es) t)(hdb:(x == ("__debug__" : Str))=false:=by decide)(he:starEach (e::es) X.env=(false,eval e X.env)::starEach es X.env:=by rfl)(hpl:(backTo pos (starEach es X.env)).any (·.1)=false:=by rfl) :
 PE X (.Call (.Name x p) (e::es) [] pos) (xq sp dvs E t):=by
 intro pins s σ H Q I h;refine ahB (yQ I hg hm ?_ hdb);refine PySem.W.callWith_K (h₀:=X.base) I.ok.mod.kin hk (thn (ha pos pins s σ H _ I h) fun us s1 ⟨vs,H1,I1,r,q⟩=>⟨I1.kIn,?_⟩) he hpl;exact acL F hr hb hd hx I1 r q
end
section
variable {X:Cx}{CX:CXT}{k:Nat}{f C:Addr}{fd:FuncData}{ps ks:List Str}{sp:Sp}{E:XK}{x m:Str}{p pos apos kpos:Pos}{e o:Expr}{es:List Expr}{kws:List Keyword}{te ta:TE}{t tk:TA}{nm:Option Str}
variable {g:List Value->List Value->List Value}{gV:List V->List V->List V}
end
structure aJ (N P:List Str)(sc:Scope):Prop where
 kind:sc.kind=.function
 co:sc.isCoroutine=false
 gen:sc.isGenerator=false
 nd:N.Nodup
 pre:N.take P.length=P
 par:∀ x∈P,sc.names.lookup x=some .local\/sc.names.lookup x=some .cell
 nofree:∀ y∈sc.names,y.2≠.free
theorem scM {N P:List Str}{sc:Scope}(a:sc.kind=.function)(b:sc.isCoroutine=false)(c:sc.isGenerator=false)(e:N.take P.length=P)(d:N.Nodup/\(∀ x∈P,sc.names.lookup x=some .local\/sc.names.lookup x=some .cell)/\∀ y∈sc.names,y.2≠.free):aJ N P sc:=⟨a,b,c,d.1,e,d.2.1,d.2.2⟩
theorem rQ {kindOf:Str->Option NameKind}{x:Str}:∀ {binds:List (Str×Value)} {m:Str->Option Value},(∀ v,(x,v) ∉ binds)->bindL kindOf binds m x=m x
 | [],_,_=>rfl
 | (n,v)::r,m,h=>by
  unfold bindL;rw [rQ fun w hw=>h w (ae6 _ hw)];split
  ·have:x≠n:=by rintro rfl;exact h v ae0
   simp [this]
  ·rfl
theorem sQ {kindOf:Str->Option NameKind}{x:Str}:∀ {binds:List (Str×Value)} {m:Str->Option Value},(∀ v,(x,v) ∉ binds)->bindC kindOf binds m x=m x
 | [],_,_=>rfl
 | (n,v)::r,m,h=>by
  unfold bindC;rw [sQ fun w hw=>h w (ae6 _ hw)];split
  ·rfl
  ·have:x≠n:=by rintro rfl;exact h v ae0
   simp [this]
theorem qT {kindOf:Str->Option NameKind}{x:Str}{v:Value}:∀ {P:List Str} {vs:List Value} {i:Nat} {m:Str->Option Value},P.Nodup->P[i]? = some x->vs[i]? = some v->kindOf x=some .local →
 bindL kindOf (P.zip vs) m x=some v
 | [],_,_,_,_,h,_,_=>by simp at h
 | _::_,[],_,_,_,_,h,_=>by simp at h
 | p::P,w::vs,0,m,nd,h1,h2,hk=>by
  simp at h1 h2;subst h1;subst h2;show bindL kindOf ((p,w)::P.zip vs) m p=_;unfold bindL;rw [rQ fun v hv=>(afG.mp nd).1 (aj6 hv).1,if_pos hk];simp
 | p::P,w::vs,i+1,m,nd,h1,h2,hk=>by
  show bindL kindOf ((p,w)::P.zip vs) m x=_;unfold bindL;exact qT (i:=i) (afG.mp nd).2 (by simpa using h1) (by simpa using h2) hk
theorem qt {kindOf:Str->Option NameKind}{x:Str}{v:Value}:∀ {P:List Str} {vs:List Value} {i:Nat} {m:Str->Option Value},P.Nodup->P[i]? = some x->vs[i]? = some v->kindOf x≠some .local →
 bindC kindOf (P.zip vs) m x=some v
 | [],_,_,_,_,h,_,_=>by simp at h
 | _::_,[],_,_,_,_,h,_=>by simp at h
 | p::P,w::vs,0,m,nd,h1,h2,hk=>by
  simp at h1 h2;subst h1;subst h2;show bindC kindOf ((p,w)::P.zip vs) m p=_;unfold bindC;rw [sQ fun v hv=>(afG.mp nd).1 (aj6 hv).1,if_neg hk];simp
 | p::P,w::vs,i+1,m,nd,h1,h2,hk=>by
  show bindC kindOf ((p,w)::P.zip vs) m x=_;unfold bindC;exact qt (i:=i) (afG.mp nd).2 (by simpa using h1) (by simpa using h2) hk
def rR (N:List Str)(vs:List V):St:=vs.map some++List.replicate (N.length - vs.length) none
def uM (CX:CXT)(P:Program)(w:World)(K:PySem.W.Frag)(mg:Str->Option Value)(base:Heap)(N:List Str)(qual:Str)(scope:Scope)(f:Addr)(cd:Value)(A:Around)(outer:List Env)(s:Shared)(H:Hp)(E:XK):Cx where
 prog:=P
 w:=w
 K:=K
 mg:=mg
 base:=base
 A:=A.deeper (envOfC qual scope s.heap.objs.size f cd)
 N:=N
 s₀:=s
 H₀:=H
 env:=envOfC qual scope s.heap.objs.size f cd
 outer:=outer
 stack:=envOfC qual scope s.heap.objs.size f cd::outer
 ex:=[]
 calm:=true
 fn:=fun _=>true
 pn:=[]
 xe:=fun e s'=>wpAny (model P w) (A.deeper (envOfC qual scope s.heap.objs.size f cd)) (leaving (envOfC qual scope s.heap.objs.size f cd) e) (fun _ s''=>CX outer H s E e s'') (fun e' s''=>CX outer H s E e' s'') s'
theorem uX {sc:Scope}{n:Nat}{x:Str}(h:sc.names.lookup x=some .cell):∃ c,(cellsFrom n sc.names []).lookup x=some c:=by
 have q:=ajX sc.names n [] (.inl h);exact ah1.mp q
theorem xc {CX:CXT}{P:Program}{w:World}{K:PySem.W.Frag}{mg:Str->Option Value}{base:Heap}{N ps:List Str}{qual:Str}{scope:Scope}{f:Addr}{cd:Value}{A:Around}{outer:List Env}{s s1:Shared}{H:Hp}{E:XK}{us:List Value}{vs:List V}
 (S:aJ N ps scope)(hd:A.handled=none)(e0:adt P w K mg base A outer s H)(hl:vs.length=ps.length)(r:Vals vs us)
 (x:InCallC s s.heap.objs.size (bindL (envOfC qual scope s.heap.objs.size f cd).kindOf (ps.zip us) fun _=>none) (cellsFrom (s.heap.objs.size+1) scope.names []) (bindC (envOfC qual scope s.heap.objs.size f cd).kindOf (ps.zip us) fun _=>none) s1) :
 Inv (uM CX P w K mg base N qual scope f cd A outer s H E) [] (rR N vs) H s1:=by
 have hpl:ps.length<=N.length:=by have:=afJ List.length S.pre;rw [afn] at this;lia
 obtain⟨h1,tk,rfl,hk⟩:=x.done;have noA:∀ b:Addr,b ∉ (uM CX P w K mg base N qual scope f cd A outer s H E).ex:=fun b z=>absurd (show b∈([]:List Addr) from z) (by simp);refine⟨⟨e0.mod,S.kind,rfl,rfl,ae1 _,fun y z c h1 h2=>?_,fun y hy=>?_,fun y c _ h=>?_,fun _=>hd,Around.frames_deeper e0.frames,.inr ⟨rfl,rfl⟩,fun b z=>absurd z (noA b),e0.bs,e0.bsz,fun b _ _=>noA b,fun b z=>absurd z (noA b),e0.funs,e0.frf⟩,
  rfl,e0.bare,Un.kept hk,⟨_,x.toInCall.ns,fun i y v h1 h2 h3=>?_⟩,fun y c h=>⟨_,x.cell y c h⟩,e0.hok.fresh (ae1 _),fun y c h=>?_,fun p hp=>absurd (show p∈([]:List (Addr×Obj)) from hp) (by simp),e0.hok.kept hk,?_⟩
 ·exact name_of_addr x.apart (ahn h1) (ahn h2)
 ·have hy:scope.names.lookup y=some .cell\/scope.names.lookup y=some .free:=hy;rcases hy with hy | hy
  ·exact uX hy
  ·exact absurd rfl (S.nofree _ (ahn hy))
 ·exact afo (x.above y c (ahn h))
 ·have hi:i < vs.length:=by
   unfold rR at h2;by_cases hi:i < vs.length
   ·exact hi
   ·rw [afF (by simpa using hi)] at h2;rw [ah3] at h2;split at h2<;>cases h2
  have ha:vs[i]? = some v:=by
   unfold rR at h2;rw [agt (by simpa using hi),aeZ] at h2;cases e:vs[i]? with
   | none=>rw [e] at h2;cases h2
   | some a=>rw [e] at h2;cases h2;rfl
  obtain⟨u,hu,rv⟩:=r.get ha;have hp:ps[i]? = some y:=by
   rw [← S.pre,ahc (by lia)];exact h1
  have ndP:ps.Nodup:=by rw [← S.pre];exact S.nd.sublist (ajn _ _)
  refine⟨u,rv,?_⟩;rcases S.par y (afB hp) with k | k
  ·exact .inl ⟨k,qT ndP hp hu k⟩
  ·obtain⟨c,e⟩:=uX (n:=s.heap.objs.size+1) k;refine .inr ⟨.inl k,c,e,?_⟩;have q:=x.cell y c e;rw [qt ndP hp hu (by show scope.names.lookup y≠_;rw [k];decide)] at q;exact q
 ·exact e0.hok.fresh (afo (x.above y c (ahn h)))
 ·unfold rR;show _=N.length;rw [aeR,aeP,agf];lia
theorem adX {CX:CXT}{P:Program}{w:World}{K:PySem.W.Frag}{mg:Str->Option Value}{base:Heap}{k:Nat}{f:Addr}{name qual:Str}{params:Arguments}{body:List Stmt}{scope:Scope}{dV kV doc pm cdv ct oc:Value}{an od:Option Addr}
 {osl:Array (Option Value)}{N ps:List Str}{sp:Sp}(lk:K.lookup f=some ⟨oc,od,.func (fnOf name qual params body scope dV kV doc pm an cdv ct),osl⟩)(hcd:codeIn K cdv qual=true)(S:aJ N ps scope)
 (len:∀ vs H Q E,sp vs H Q E->vs.length=ps.length)
 (hbody:∀ (A:Around) (outer:List Env) (s:Shared) (H:Hp) (vs:List V) (Q:VK) (E:XK),Room k (A.deeper (envOfC qual scope s.heap.objs.size f cdv))->sp vs H Q E →
  ∃ t,PSs (uM CX P w K mg base N qual scope f cdv A outer s H E) body t/\t { nx:=fun _ H'=>Q .non H',rt:=Q } (rR N vs) H) :
 bF P w K mg base CX (k+1) f (fnOf name qual params body scope dV kV doc pm an cdv ct) ps sp:=by
 refine⟨len,fun A outer s H args us vs Q E hr e0 hb r hsp=>?_⟩;have hl:=len _ _ _ _ hsp;have KX:K.In s.heap:=e0.mod.kin.keeps fun b o e=>(e0.bs b o e).1;have lim:s.heap.NoLimit:=e0.mod.nolimit.keeps fun b o e=>(e0.bs b o e).1;have hkind:∀ y∈ps.zip us,scope.names.lookup y.1=some .local\/(scope.names.lookup y.1=some .cell/\((cellsFrom (s.heap.objs.size+1) scope.names []).lookup y.1).isSome=true):=fun ⟨n,v⟩ hy=>by
  rcases S.par n (aj6 hy).1 with q | q
  ·exact .inl q
  ·exact .inr ⟨q,ajX _ _ _ (.inl q)⟩
 refine codeAny_call_function hr.depth (KX _ _ lk) rfl S.co S.gen rfl (PySem.W.codeRec_of KX hcd) (hb _ _ _ _ ?_);refine wpAny_newFunctionEnv_cells S.kind hkind fun env he s1 x=>?_;subst he;refine⟨lim.keeps x.toInCall.keep,codeAny_func ?_⟩;obtain⟨t,ht,hq⟩:=hbody A outer s H vs Q E (hr.deeper _) hsp;have I:Inv (uM CX P w K mg base N qual scope f cdv A outer s H E) [] (rR N vs) H s1:=xc S hr.hd e0 hl r x;refine afL (ht [] s1 (rR N vs) H _ I hq) (fun fl s' hs=>?_) fun e s' hs=>hs;have fin:∀ {σ':St} {H':Hp} {v:V} {u:Value},Inv (uM CX P w K mg base N qual scope f cdv A outer s H E) [] σ' H' s'->RelV v u->Q v H'->CE outer P w H s Q u s' :=
  fun {σ' H' v u} J rv q=>⟨v,H',J.os,J.bare,J.base,J.hok,rv,q⟩
 cases fl with
 | ret u =>
  obtain⟨v,σ',H',J,rv,q⟩:=hs;exact fin J rv q
 | next =>
  obtain⟨σ',H',J,q⟩:=hs;exact fin (v:=V.non) (u:=Value.none) J rfl q
 | brk =>
  obtain⟨_,_,_,q⟩:=hs;exact False.elim q
 | cont =>
  obtain⟨_,_,_,q⟩:=hs;exact False.elim q
section
variable {X:Cx}{x:Str}{p pos:Pos}{e:Expr}{es:List Expr}{t:TA}{id T:String}{r:List V->Hp->VK->Prop}
def tCB (r:List V->Hp->VK->Prop)(t:TA):TE:=fun σ H Q=>t σ H fun vs H1=>r vs H1 Q
theorem ax (hc:di X (.builtin id) r)(hg:Gl X x)(hm:X.mg x=none)(hv:bootBuiltins x=some (.builtin id))(ha:PA X (e::es) t)(hn:x ≠ "__name__" := by decide)(hdb:(x == ("__debug__" : Str))=false:=by decide)
 (he:starEach (e::es) X.env=(false,eval e X.env)::starEach es X.env:=by rfl)(hpl:(backTo pos (starEach es X.env)).any (·.1)=false:=by rfl):PE X (.Call (.Name x p) (e::es) [] pos) (tCB r t):=by
 intro pins s σ H Q I h;refine ahB (iK I hg hm hv ?_ hn hdb);exact PyProof.Rows.callWith_builtin1 (thn (ha pos pins s σ H _ I h) fun us s1 ⟨vs,H1,I1,r1,q1⟩=>hc pins s1 σ H1 vs us Q I1 r1 q1) he hpl
theorem aZ (hc:di X (.type T) r)(hg:Gl X x)(hm:X.mg x=none)(hv:bootBuiltins x=some (.type T))(ha:PA X (e::es) t)(hn:x ≠ "__name__" := by decide)(hdb:(x == ("__debug__" : Str))=false:=by decide)
 (he:starEach (e::es) X.env=(false,eval e X.env)::starEach es X.env:=by rfl)(hpl:(backTo pos (starEach es X.env)).any (·.1)=false:=by rfl):PE X (.Call (.Name x p) (e::es) [] pos) (tCB r t):=by
 intro pins s σ H Q I h;refine ahB (iK I hg hm hv ?_ hn hdb);exact agE (thn (ha pos pins s σ H _ I h) fun us s1 ⟨vs,H1,I1,r1,q1⟩=>hc pins s1 σ H1 vs us Q I1 r1 q1) he hpl
theorem vO (hc:di X (.type T) r)(hg:Gl X x)(hm:X.mg x=none)(hv:bootBuiltins x=some (.type T))(hn:x ≠ "__name__" := by decide)(hdb:(x == ("__debug__" : Str))=false:=by decide) :
 PE X (.Call (.Name x p) [] [] pos) (tCB r kX):=by
 intro pins s σ H Q I h;refine ahB (iK I hg hm hv ?_ hn hdb);exact PyProof.Rows.callWith_type0 (hc pins s σ H [] [] Q I .nil h)
end
end L2
namespace HT
open PySem PyProof.Rows
section
open PySem.SeqAt
open PySem.AutoSeq1 (wpAny_loadPart')
open PySem.MeetsSeq PySem.MeetsSeq2 PySem.MeetsSeq3
end
section
variable {prog:Program}{w:World}{A:Around}{E:Value->Shared->Prop}{s:Shared}
theorem cat_tup {t b:Addr}{vs ws:List Value}{Q:Value->Shared->Prop}(ht:IsTup s.heap t vs.toArray)(hb:IsTup s.heap b ws.toArray)(hv:vs≠[])
 (h1:ws=[]->Q (.ref t) s)(h2:ws≠[]->Q (.ref s.heap.objs.size) { s with heap:=s.heap.push { cls:=.type "tuple",data:=.seq (vs++ws).toArray } })
 (hsz:vs.length+ws.length<=sizeLine):wpAny (model prog w) A (binaryOp .Add (.ref t) (.ref b)) Q E s:=by
 obtain⟨⟨cls,dd,data,sl⟩,ho,hc,n,hd⟩:=id ht;obtain⟨⟨cls2,dd2,data2,sl2⟩,ho2,hc2,n2,hd2⟩:=id hb;simp only at hc hd hc2 hd2;subst hc hd hc2 hd2;have e:vs.toArray++ws.toArray=(vs++ws).toArray:=by simp
 by_cases hw:ws=[]
 ·exact concat_meets ⟨_,ho,rfl⟩ ⟨_,ho2,rfl⟩ ajO seq_tuple_add ajY ajF (ajo _ _)
   (tuple_addW1 t b vs.toArray ws.toArray n n2 dd dd2 sl sl2 (by simpa using hv) (by simp [hw])) ⟨ho,ho2,h1 hw⟩
 ·refine concat_meets ⟨_,ho,rfl⟩ ⟨_,ho2,rfl⟩ ajO seq_tuple_add ajY ajF (ajo _ _)
   (tuple_addW2 t b vs.toArray ws.toArray n n2 dd dd2 sl sl2 (by simpa using hv) (by simpa using hw) (by rw [ae9,ae9];exact hsz)) ⟨ho,ho2,?_⟩
  rw [e];exact h2 hw
def sIx (n d:Nat):Option Int->Nat
 | none=>d
 | some v=>if v < 0 then (v+(n:Int)).toNat else min v.toNat n
theorem sIx_none (n d:Nat):sIx n d none=d:=rfl
theorem sIx_nat (n d k:Nat):sIx n d (some (k:Int))=min k n:=by
 show (if (k:Int) < 0 then ((k:Int)+(n:Int)).toNat else min (k:Int).toNat n)=min k n;rw [if_neg (by lia),afj]
end
end HT
namespace L2
open PySem PySem.Spec PyProof.Rows
abbrev TO:=St->Hp->(Option Int->Hp->Prop)->Prop
def PO (X:Cx)(e:Option Expr)(t:TO):Prop :=
 ∀ (pins:List (Addr×Obj)) (s:Shared) (σ:St) (H:Hp) (Q:Option Int->Hp->Prop),Inv X pins σ H s->t σ H Q →
  wpAny (model X.prog X.w) X.A (evalPart e X.env) (fun u s'=>∃ o H',Inv X pins σ H' s'/\IsPart u o/\Q o H') X.xe s
def abr:TO:=fun _ H Q=>Q none H
def adO (t:TE):TO:=fun σ H Q=>t σ H fun x H1=>∃ i,x=.int i/\Q (some i) H1
theorem oS {ns:List Int}:∀ {us:List Value},Vals (ns.map V.int) us->IntsAre us ns:=by
 induction ns with
 | nil=>intro us r;rw [aio] at r;cases r;exact .nil
 | cons n ns ih =>
  intro us r;rw [afb] at r;cases r with
  | cons r1 r2 =>
   obtain⟨t,e⟩:=r1;subst e;exact .cons n t (ih r2)
section
variable {X:Cx}{e:Expr}{te:TE}{lo hi:Option Expr}{tl th:TO}{pos p2:Pos}
theorem mO:PO X none abr:=by
 intro pins s σ H Q I h;rw [evalPart_none];exact aeX ⟨none,H,I,.none,h⟩
theorem lJ (h:PE X e te):PO X (some e) (adO te):=by
 intro pins s σ H Q I hw;rw [evalPart_some];refine thn (h pins s σ H _ I hw) fun u s1 ⟨x,H1,I1,r1,q1⟩=>?_;obtain⟨i,rfl,q⟩:=q1;obtain⟨t,rfl⟩:=r1;exact⟨some i,H1,I1,.int i t,q⟩
def SlR (X:Cx)(r:V->Option Int->Option Int->Hp->VK->Prop):Prop :=
 ∀ (pins:List (Addr×Obj)) (s:Shared) (σ:St) (H:Hp) (x:V) (v vl vu:Value) (lo hi:Option Int) (sl:Addr) (Q:VK),Inv X pins σ H s->RelV x v->s.heap.IsSliceOf sl vl vu .none->IsPart vl lo->IsPart vu hi->r x lo hi H Q →
  ∃ T id,typeLookup (.type T) "__getitem__" = pure (some (.builtin id))/\s.TypeIs v T/\wpAny (model X.prog X.w) X.A (getItem v (.ref sl)) (EP X pins σ Q) X.xe s
def tSl (r:V->Option Int->Option Int->Hp->VK->Prop)(te:TE)(tl th:TO):TE:=fun σ H Q=>te σ H fun x H1=>tl σ H1 fun l H2=>th σ H2 fun u H3=>r x l u H3 Q
theorem jz {r:V->Option Int->Option Int->Hp->VK->Prop}(hr:SlR X r)(he:PE X e te)(hl:PO X lo tl)(hu:PO X hi th):PE X (.Subscript e (.Slice lo hi none p2) pos) (tSl r te tl th):=by
 intro pins s σ H Q I h;refine Subscript_ (thn (he pins s σ H _ I h) fun v s1 ⟨x,H1,I1,r1,q1⟩=>?_);refine wpAny_Slice (thn (hl pins s1 σ H1 _ I1 q1) fun vl s2 ⟨l,H2,I2,pl,q2⟩=>thn (hu pins s2 σ H2 _ I2 q2) fun vu s3 ⟨u,H3,I3,pu,q3⟩=>?_);rw [evalPart_none];refine aeX ?_;have I4:Inv X pins σ H3 { s3 with heap:=s3.heap.push { cls:=.type "slice",data:=.fields #[vl,vu,.none] } }:=I3.kept (t':=s3.toks) fun b ob q=>aeV _ q;obtain⟨T,id,hT,ht,hg⟩:=hr pins { s3 with heap:=s3.heap.push { cls:=.type "slice",data:=.fields #[vl,vu,.none] } } σ H3 x v vl vu l u s3.heap.objs.size Q I4 r1 (Heap.IsSliceOf.new ..) pl pu q3;show wpAny (model X.prog X.w) X.A (subscriptTail e (.Slice lo hi none p2) v (.ref s3.heap.objs.size)) (EP X pins σ Q) X.xe { s3 with heap:=s3.heap.push { cls:=.type "slice",data:=.fields #[vl,vu,.none] } };exact tail_any (ops:=[.ref s3.heap.objs.size,v]) ht hT hg (by with_unfolding_all rfl)
def wU (xs:List V)(lo hi:Option Int):List V:=(xs.drop (HT.sIx xs.length 0 lo)).take (HT.sIx xs.length xs.length hi - HT.sIx xs.length 0 lo)
theorem t8 (xs:List V)(lo hi:Option Int):(wU xs lo hi).length<=xs.length:=by
 unfold wU;rw [afn,agw];lia
def adD (K:PySem.W.Frag):R2:=fun x y H Q=>∃ a b xs ys,x=.ref a/\y=.ref b/\SqT K H a xs/\SqT K H b ys/\xs≠[]/\xs.length+ys.length<=sizeLine ∧
 (ys=[]->Q (.ref a) H)/\(ys≠[]->∀ p,H p=none->Q (.ref p) (upd H p (.tup (xs++ys))))
theorem Vals.nil_iff {xs:List V}{us:List Value}(r:Vals xs us):us=[]↔xs=[]:=by
 cases r with
 | nil=>simp
 | cons _ _=>simp
theorem abH:OpR X (binaryOp .Add) (adD X.K):=by
 intro pins s σ H x y v u Q I rx ry h;obtain⟨a,b,xs,ys,rfl,rfl,ha,hb,hx,hz,q1,q2⟩:=h;cases rx;cases ry;obtain⟨its,r1,p1,_⟩:=I.tuple ha;obtain⟨its2,r2,p2,_⟩:=I.tuple hb;refine HT.cat_tup p1 p2 (fun z=>hx (r1.nil_iff.mp z)) (fun z=>⟨.ref a,H,I,rfl,q1 (r2.nil_iff.mp z)⟩) (fun z=>?_) (by rw [← r1.length,← r2.length];exact hz);refine⟨.ref s.heap.objs.size,_,I.laid (t':=s.toks) (o:=.tup (xs++ys)) (fun b ob q=>aeV _ q) (ae1 _) ?_,rfl,q2 (fun w=>z (r2.nil_iff.mpr w)) _ (I.hok.fresh (ae1 _))⟩;exact⟨by rw [aeR];exact hz,_,r1.append r2,IsTup.new _ _⟩
end
def ixN (n:Nat)(i:Int):Option Nat:=if 0<=i then (if i < n then some i.toNat else none) else if -(n:Int)<=i then some (i+n).toNat else none
def atI {α:Type}(xs:List α)(i:Int):Option α:=(ixN xs.length i).bind fun j=>xs[j]?
theorem xh {n:Nat}{i:Int}{j:Nat}(h:ixN n i=some j):seqIndex? i n=some j/\j < n/\-(n:Int)<=i/\i < n:=by
 unfold ixN at h;by_cases h0:0<=i
 ·rw [if_pos h0] at h;by_cases h1:i < n
  ·rw [if_pos h1] at h;have e:i.toNat=j:=afW h;exact⟨by rw [seqIndex_of h0 h1,e],by lia,by lia,h1⟩
  ·rw [if_neg h1] at h;cases h
 ·rw [if_neg h0] at h;by_cases h1:-(n:Int)<=i
  ·rw [if_pos h1] at h;have e:(i+n).toNat=j:=afW h;exact⟨by rw [seqIndex_neg (by lia) h1,e],by lia,h1,by lia⟩
  ·rw [if_neg h1] at h;cases h
theorem tG {α:Type}{xs:List α}{i:Int}{v:α}(h:atI xs i=some v):∃ j,seqIndex? i xs.length=some j/\xs[j]? = some v/\j < xs.length/\-(xs.length:Int)<=i/\i < xs.length:=by
 unfold atI at h;cases e:ixN xs.length i with
 | none=>rw [e] at h;cases h
 | some j =>
  rw [e] at h;obtain⟨h1,h2,h3,h4⟩:=xh e;exact⟨j,h1,h,h2,h3,h4⟩
theorem bw {α:Type}{xs:List α}{j:Nat}{v:α}(h:xs[j]? = some v):atI xs (j:Int)=some v:=by
 have hj:j < xs.length:=(aeU.mp h).1;have e:ixN xs.length (j:Int)=some j:=by
  unfold ixN;rw [if_pos (by lia),if_pos (by lia)];simp
 unfold atI;rw [e];exact h
def acb (b:Expr):Prop:=∀ o i,subscripted b false o i=operate [o,i] (getItem o i)
def IxR (X:Cx)(r:R2):Prop :=
 ∀ (value slice:Expr) (pins:List (Addr×Obj)) (s:Shared) (σ:St) (H:Hp) (x y:V) (v u:Value) (Q:VK),Inv X pins σ H s->RelV x v->RelV y u->r x y H Q →
  subscripted slice false v u=operate [v,u] (getItem v u)->wpAny (model X.prog X.w) X.A (subscriptTail value slice v u) (EP X pins σ Q) X.xe s
def MtR (X:Cx)(id:String)(r:V->List V->Hp->VK->Prop):Prop :=
 ∀ (pins:List (Addr×Obj)) (s:Shared) (σ:St) (H:Hp) (x:V) (xs:List V) (v:Value) (us:List Value) (Q:VK),Inv X pins σ H s->RelV x v->Vals xs us->r x xs H Q →
  wpAny (model X.prog X.w) X.A (call (.builtin id) (v::us)) (EP X pins σ Q) X.xe s
section
variable {X:Cx}{a b:Expr}{ta tb:TE}{pos:Pos}
theorem aF {r:R2}(hr:IxR X r)(ha:PE X a ta)(hb:PE X b tb)(hs:acb b):PE X (.Subscript a b pos) (tOp r ta tb):=by
 intro pins s σ H Q I h;exact Subscript_ (adF ha hb I h fun v u s2 x y H2 I2 rx ry q=>hr a b pins s2 σ H2 x y v u Q I2 rx ry q (hs _ _))
def adp (K:PySem.W.Frag):R2:=fun x y H Q=>∃ p xs i v,x=.ref p/\y=.int i/\SqL K H p xs/\atI xs i=some v/\Q v H
def aeo (K:PySem.W.Frag):R2:=fun x y H Q=>∃ p xs i v,x=.ref p/\y=.int i/\SqT K H p xs/\atI xs i=some v/\Q v H
def aeD:R2:=fun x y H Q=>∃ z i c,x=.str z/\y=.int i/\z.length<=sizeLine/\atI z.cps.toList i=some c/\Q (.str ⟨#[c]⟩) H
theorem aT:IxR X (adp X.K):=by
 intro value slice pins s σ H x y v u Q I rx ry h hs;obtain⟨p,xs,i,z,rfl,rfl,hq,he,q⟩:=h;cases rx;obtain⟨t,rfl⟩:=ry;obtain⟨its,r,pl,hz⟩:=I.list hq;obtain⟨j,h1,h2,h3,h4,h5⟩:=tG he;obtain⟨w,ew,rw'⟩:=r.get h2;have hl:=r.length;have hn:=jt;have fin:EP X pins σ Q w s:=⟨z,H,I,rw',q⟩;by_cases h0:0<=i
 ·have hj:i.toNat=j:=by
   rw [seqIndex_of h0 h5] at h1;exact afW h1
  exact item_listR pl.isList h0 (by lia) (by rw [hj];simpa using ew) fin hs
 ·have hj:(i+(its.toArray.size:Int)).toNat=j:=by
   rw [seqIndex_neg (by lia) h4] at h1;rw [ae9,← hl];exact afW h1
  exact subscriptTail_builtinR (x:=w) pl.isList.typeIs ajp.lookup
   (wpAny_getItem_list_neg (Q:=fun r s'=>r=w/\EP X pins σ Q r s') pl.isList (by lia) (by rw [ae9]<;>lia) (by lia) (by rw [hj];simpa using ew) ⟨rfl,fin⟩) hs
theorem aO:IxR X (aeo X.K):=by
 intro value slice pins s σ H x y v u Q I rx ry h hs;obtain⟨p,xs,i,z,rfl,rfl,hq,he,q⟩:=h;cases rx;obtain⟨t,rfl⟩:=ry;obtain⟨its,r,pl,hz⟩:=I.tuple hq;obtain⟨j,h1,h2,h3,h4,h5⟩:=tG he;obtain⟨w,ew,rw'⟩:=r.get h2;have hl:=r.length;have hn:=jt;have fin:EP X pins σ Q w s:=⟨z,H,I,rw',q⟩;exact subscriptTail_builtinR (x:=w) pl.typeIs slot_tuple_getitem.lookup
  (getItem_tuple (j:=j) (Q:=fun r s'=>r=w/\EP X pins σ Q r s') pl (by lia) (by lia) (by rw [ae9,← hl];exact h1) (by simpa using ew) ⟨rfl,fin⟩) hs
theorem rH:IxR X aeD:=by
 intro value slice pins s σ H x y v u Q I rx ry h hs;obtain⟨z,i,c,rfl,rfl,hz,he,q⟩:=h;obtain⟨t,rfl⟩:=rx;obtain⟨t',rfl⟩:=ry;obtain⟨j,h1,h2,h3,h4,h5⟩:=tG he;have hl:z.cps.toList.length=z.length:=by simp [Str.length]
 rw [hl] at h1 h4 h5;have hn:=jt;exact tail_any (typeIs_str s z t) slot_str_getitem.lookup (getItem_str (c:=c) (by
  have e1:decide (i < -(2 ^ 63:Int))=false:=afw (by lia);have e2:decide (i ≥ 2 ^ 63)=false:=afw (by lia);rw [e1,e2,Bool.or_false]) (by rw [h1];simpa using h2) ⟨.str ⟨#[c]⟩,H,I.tok _,⟨_,rfl⟩,q⟩) hs
theorem wC (its:List Value)(n j:Nat)(u:Value):Obj.mapSeq (·.setIfInBounds j u) { cls:=.type "list",data:=.seq its.toArray n }={ cls:=.type "list",data:=.seq (its.set j u).toArray n }:=by
 simp [Obj.mapSeq]
theorem Inv.lst {pins:List (Addr×Obj)}{σ:St}{H:Hp}{s:Shared}{p:Addr}{xs:List V}(I:Inv X pins σ H s)(h:H p=some (.lst xs)) :
 ∃ (its:List Value) (n:Nat),Vals xs its/\s.heap.get? p=some { cls:=.type "list",data:=.seq its.toArray n }/\xs.length<=sizeLine:=by
 obtain⟨z,its,n,r,e⟩:=I.hok p _ h;exact⟨its,n,r,e,z⟩
theorem Inv.lstUpd {pins:List (Addr×Obj)}{σ:St}{H:Hp}{s:Shared}{p:Addr}{xs ys:List V}{its its':List Value}{n n':Nat}{f:Obj->Obj}(I:Inv X pins σ H s)(h:H p=some (.lst xs))
 (ho:s.heap.get? p=some { cls:=.type "list",data:=.seq its.toArray n })(hf:f { cls:=.type "list",data:=.seq its.toArray n }={ cls:=.type "list",data:=.seq its'.toArray n' })(r:Vals ys its')(hz:ys.length<=sizeLine)(t:Nat) :
 Inv X pins σ (upd H p (.lst ys)) { s with heap:=s.heap.update p f,toks:=t }:=by
 have e:(s.heap.update p f).get? p=some { cls:=.type "list",data:=.seq its'.toArray n' }:=by
  rw [agz f ho (by rw [hf]<;>rfl),hf]
 refine I.write (x:=p) (e:=p) (by rw [h];trivial) (.inl rfl) (fun b u hb q=>(agK _ _ (agM hb)).trans q) ⟨_,e⟩ ?_;exact⟨hz,its',n',r,e⟩
def adA:V->V->V->Hp->(Hp->Prop)->Prop:=fun o i v H Q=>∃ p xs k j,o=.ref p/\i=.int k/\H p=some (.lst xs)/\ixN xs.length k=some j/\Q (upd H p (.lst (xs.set j v)))
theorem uV:adE X adA:=by
 intro pins s σ H o i v ov iv u Q I ro ri rv h;obtain⟨p,xs,k,j,rfl,rfl,hp,hj,q⟩:=h;cases ro;obtain⟨t,rfl⟩:=ri;obtain⟨its,n,r,ho,hz⟩:=I.lst hp;obtain⟨h1,h2,h3,h4⟩:=xh hj;have hl:=r.length;have hn:=jt;have I':Inv X pins σ (upd H p (.lst (xs.set j v))) { s with heap:=s.heap.update p (Obj.mapSeq (·.setIfInBounds j u)) } :=
  I.lstUpd hp ho (wC its n j u) (r.set rv j) (by rw [List.length_set];exact hz) s.toks
 by_cases h0:0<=k
 ·have hk:k.toNat=j:=by
   rw [seqIndex_of h0 h4] at h1;exact afW h1
  exact PySem.W.ki_setAt ho h0 (by lia) (by rw [ae9,← hl];exact h4) (by rw [hk];exact⟨_,I',q⟩)
 ·have hk:(k+(its.toArray.size:Int)).toNat=j:=by
   rw [seqIndex_neg (by lia) h3] at h1;rw [ae9,← hl];exact afW h1
  exact PySem.W.ki_setBack ho (by lia) (by rw [ae9,← hl];exact h3) (by lia) (by rw [hk];exact⟨_,I',q⟩)
theorem rV (lo hi:Option Int)(n:Nat):(sliceBounds lo hi none n).1=((HT.sIx n 0 lo:Nat):Int)/\(sliceBounds lo hi none n).2.1=((HT.sIx n n hi:Nat):Int)/\(sliceBounds lo hi none n).2.2=1:=by
 refine⟨?_,?_,rfl⟩
 ·cases lo with
  | none=>simp [sliceBounds,HT.sIx]
  | some i =>
   simp only [sliceBounds,HT.sIx,Option.getD_none,show (1:Int) > 0 by decide,ahy];by_cases h:i < 0
   ·simp only [h,ahy]<;>lia
   ·simp only [h,agF]<;>lia
 ·cases hi with
  | none=>simp [sliceBounds,HT.sIx]
  | some i =>
   simp only [sliceBounds,HT.sIx,Option.getD_none,show (1:Int) > 0 by decide,ahy];by_cases h:i < 0
   ·simp only [h,ahy]<;>lia
   ·simp only [h,agF]<;>lia
theorem pd (its:List Value)(lo hi:Option Int):slicePick its.toArray lo hi none=((its.drop (HT.sIx its.length 0 lo)).take (HT.sIx its.length its.length hi - HT.sIx its.length 0 lo)).toArray:=by
 obtain⟨h1,h2,h3⟩:=rV lo hi its.toArray.size;unfold slicePick;rw [h1,h2,h3];simp only [sliceRange_one,pick_run,ae9]<;>rfl
def aep (K:PySem.W.Frag):V->Option Int->Option Int->Hp->VK->Prop:=fun x lo hi H Q=>∃ a xs,x=.ref a/\SqL K H a xs/\∀ p,H p=none->Q (.ref p) (upd H p (.lst (wU xs lo hi)))
theorem tu:SlR X (aep X.K):=by
 intro pins s σ H x v vl vu lo hi sl Q I rx hs pl pu h;obtain⟨a,xs,rfl,hx,q⟩:=h;cases rx;obtain⟨its,r,ht,hz⟩:=I.list hx;have hlen:=r.length;refine⟨"list",_,ajp.lookup,ht.isList.typeIs,?_⟩;refine wpAny_getItem_list_slice ht.isList hs pl pu .none (by simp) ?_ (by rw [ae9]<;>lia);rw [pd,← hlen];refine⟨.ref s.heap.objs.size,_,I.laid (t':=s.toks) (o:=.lst (wU xs lo hi)) (fun b ob q=>aeV _ q) (ae1 _) ?_,rfl,q _ (I.hok.fresh (ae1 _))⟩;exact⟨aft (t8 xs lo hi) hz,_,0,(r.drop (HT.sIx xs.length 0 lo)).take (HT.sIx xs.length xs.length hi - HT.sIx xs.length 0 lo),afd _ rfl⟩
def kO:V->Bool
 | .non=>true
 | .bl _=>true
 | .int _=>true
 | .str _=>true
 | _=>false
def eqV:V->V->Bool
 | .non,.non=>true
 | .bl a,.bl b=>a == b
 | .bl a,.int b=>(if a then 1 else 0) == b
 | .int a,.bl b=>a == (if b then 1 else 0)
 | .int a,.int b=>a == b
 | .str a,.str b=>a == b
 | _,_=>false
theorem adk {A:Around}{s:Shared}{y x:V}{u v:Value}(ry:RelV y u)(rx:RelV x v)(fy:kO y=true)(fx:kO x=true):SeqAt.EqAt A s u v (eqV y x):=by
 cases y with
 | non =>
  cases ry;cases x with
  | non=>cases rx;exact SeqAt.EqAt.same _
  | bl b=>cases rx;exact SeqAt.EqAt.none_bool b
  | int b=>obtain⟨t,rfl⟩:=rx;exact SeqAt.EqAt.none_int b t
  | str b=>obtain⟨t,rfl⟩:=rx;exact SeqAt.EqAt.none_str b t
  | _=>exact absurd (show false=true from fx) aeY
 | bl a =>
  cases ry;cases x with
  | non=>cases rx;exact SeqAt.EqAt.bool_none a
  | bl b=>cases rx;exact SeqAt.EqAt.bool_bool a b
  | int b=>obtain⟨t,rfl⟩:=rx;exact SeqAt.EqAt.bool_int a b t
  | str b=>obtain⟨t,rfl⟩:=rx;exact SeqAt.EqAt.bool_str a b t
  | _=>exact absurd (show false=true from fx) aeY
 | int a =>
  obtain⟨t',rfl⟩:=ry;cases x with
  | non=>cases rx;exact SeqAt.EqAt.int_none a t'
  | bl b=>cases rx;exact SeqAt.EqAt.int_bool a t' b
  | int b=>obtain⟨t,rfl⟩:=rx;exact SeqAt.EqAt.int_int a t' b t
  | str b=>obtain⟨t,rfl⟩:=rx;exact SeqAt.EqAt.int_str a t' b t
  | _=>exact absurd (show false=true from fx) aeY
 | str a =>
  obtain⟨t',rfl⟩:=ry;cases x with
  | non=>cases rx;exact SeqAt.EqAt.str_none a t'
  | bl b=>cases rx;exact SeqAt.EqAt.str_bool a t' b
  | int b=>obtain⟨t,rfl⟩:=rx;exact SeqAt.EqAt.str_int a t' b t
  | str b=>obtain⟨t,rfl⟩:=rx;exact SeqAt.EqAt.str_str a t' b t
  | _=>exact absurd (show false=true from fx) aeY
 | _=>exact absurd (show false=true from fy) aeY
def eqU (x:V)(u:Value):Bool:=match u with
 | .none=>eqV .non x
 | .bool b=>eqV (.bl b) x
 | .int i _=>eqV (.int i) x
 | .str z _=>eqV (.str z) x
 | _=>false
theorem aaP {x y:V}{u:Value}(r:RelV y u)(f:kO y=true):eqU x u=eqV y x:=by
 cases y with
 | non=>cases r;rfl
 | bl b=>cases r;rfl
 | int i=>obtain⟨t,rfl⟩:=r;rfl
 | str z=>obtain⟨t,rfl⟩:=r;rfl
 | _=>exact absurd (show false=true from f) aeY
theorem nK {x:V}:∀ {xs:List V} {us:List Value},Vals xs us->xs.all kO=true->us.any (eqU x)=xs.any fun y=>eqV y x
 | _,_,.nil,_=>rfl
 | y::xs,u::us,.cons r t,f=>by
  rw [ah4,afV] at f;rw [ahM,ahM,aaP r f.1,nK t f.2]
theorem jn {A:Around}{s:Shared}{x:V}{v:Value}(rx:RelV x v)(fx:kO x=true):∀ {xs:List V} {us:List Value},Vals xs us->xs.all kO=true->∀ u∈us,SeqAt.EqAt A s u v (eqU x u)
 | _,_,.nil,_=>fun u hu=>by cases hu
 | y::xs,u::us,.cons r t,f=>fun u' hu=>by
  rw [ah4,afV] at f;rcases ae7.mp hu with rfl | hu
  ·rw [aaP r f.1];exact adk r rx f.1 fx
  ·exact jn rx fx t f.2 u' hu
def inV (x:V)(xs:List V):Bool:=xs.any fun y=>eqV y x
def rIn (K:PySem.W.Frag)(neg:Bool):R2:=fun x y H Q=>∃ p xs,y=.ref p/\(SqL K H p xs\/SqT K H p xs)/\kO x=true/\xs.all kO=true/\Q (.bl (if neg then !inV x xs else inV x xs)) H
theorem mX:OpR X (compareOp .In) (rIn X.K false):=by
 intro pins s σ H x y v u Q I rx ry h;obtain⟨p,xs,rfl,hq,fx,fs,q⟩:=h;cases ry;rcases hq with hq | hq
 ·obtain⟨its,r,pl,hz⟩:=I.list hq;refine SeqAt.in_listAt (eqU x) pl.isList (fun w hw=>jn rx fx r fs w (by simpa using hw)) ⟨.bl _,H,I,rfl,?_⟩;rw [show its.toArray.any (eqU x)=its.any (eqU x) by simp,nK r fs];exact q
 ·obtain⟨its,r,pl,hz⟩:=I.tuple hq;refine SeqAt.in_tupleAt (eqU x) pl (fun w hw=>jn rx fx r fs w (by simpa using hw)) ⟨.bl _,H,I,rfl,?_⟩;rw [show its.toArray.any (eqU x)=its.any (eqU x) by simp,nK r fs];exact q
theorem kJ:OpR X (compareOp .NotIn) (rIn X.K true):=by
 intro pins s σ H x y v u Q I rx ry h;obtain⟨p,xs,rfl,hq,fx,fs,q⟩:=h;cases ry;rcases hq with hq | hq
 ·obtain⟨its,r,pl,hz⟩:=I.list hq;refine SeqAt.notIn_listAt (eqU x) pl.isList (fun w hw=>jn rx fx r fs w (by simpa using hw)) ⟨.bl _,H,I,rfl,?_⟩;rw [show its.toArray.any (eqU x)=its.any (eqU x) by simp,nK r fs];exact q
 ·obtain⟨its,r,pl,hz⟩:=I.tuple hq;refine SeqAt.notIn_tupleAt (eqU x) pl (fun w hw=>jn rx fx r fs w (by simpa using hw)) ⟨.bl _,H,I,rfl,?_⟩;rw [show its.toArray.any (eqU x)=its.any (eqU x) by simp,nK r fs];exact q
theorem aA:di X (.builtin "len") (fun xs H Q=>∃ p ys,xs=[.ref p]/\(SqL X.K H p ys\/SqT X.K H p ys)/\Q (.int ys.length) H):=by
 intro pins s σ H xs us Q I r h;obtain⟨p,ys,rfl,hq,q⟩:=h;obtain⟨u,rfl,rx⟩:=gZ r;cases rx;have hn:=jt;rcases hq with hq | hq
 ·obtain⟨its,r',pl,hz⟩:=I.list hq;have hlen:=r'.length;exact Calls.call_len_list pl.isList (by simp only [ae9]<;>lia) ⟨.int ys.length,H,I.tok _,⟨s.toks+1,by rw [ae9,hlen]⟩,q⟩
 ·obtain⟨its,r',pl,hz⟩:=I.tuple hq;have hlen:=r'.length;exact len_tuple pl (by simp only [ae9]<;>lia) ⟨.int ys.length,H,I.tok _,⟨s.toks+1,by rw [ae9,hlen]⟩,q⟩
theorem kj:di X (.builtin "len") (fun xs H Q=>∃ z,xs=[.str z]/\z.length<=sizeLine/\Q (.int z.length) H):=by
 intro pins s σ H xs us Q I r h;obtain⟨z,rfl,hz,q⟩:=h;obtain⟨u,rfl,t,rfl⟩:=gZ r;have hn:=jt;exact len_str (by lia) ⟨.int z.length,H,I.tok _,⟨_,rfl⟩,q⟩
theorem bu:di X (.type "list") (fun xs H Q=>∃ p ys,xs=[.ref p]/\(SqL X.K H p ys\/SqT X.K H p ys)/\∀ l,H l=none->Q (.ref l) (upd H l (.lst ys))):=by
 intro pins s σ H xs us Q I r h;obtain⟨p,ys,rfl,hq,q⟩:=h;obtain⟨u,rfl,rx⟩:=gZ r;cases rx;have fin:∀ (its:List Value),Vals ys its->ys.length<=sizeLine->∀ (h':Heap) (c':Nat),(∀ b o',s.heap.get? b=some o'->h'.get? b=some o') →
  h'.get? s.heap.objs.size=some { cls:=.type "list",dict:=none,data:=.seq its.toArray c',slots:=#[] }->EP X pins σ Q (.ref s.heap.objs.size) { s with heap:=h' }:=fun its r' hz h' c' kp e =>
  ⟨.ref s.heap.objs.size,_,I.laid (t':=s.toks) kp (ae1 _) (show ObjOk X.prog X.w _ h' _ (.lst ys) from ⟨hz,its,c',r',e⟩),rfl,q _ (I.hok.fresh (ae1 _))⟩
 rcases hq with hq | hq
 ·obtain⟨its,r',pl,hz⟩:=I.list hq;have hlen:=r'.length;obtain⟨o,ho,hc,n,hd⟩:=pl.isList;exact call_list_seq p (.inl rfl) ho hc hd (fun h' c' kp e=>fin its r' hz h' c' kp e) (by simp only [ae9]<;>lia)
 ·obtain⟨its,r',pl,hz⟩:=I.tuple hq;have hlen:=r'.length;obtain⟨o,ho,hc,n,hd⟩:=pl;exact call_list_seq p (.inr rfl) ho hc hd (fun h' c' kp e=>fin its r' hz h' c' kp e) (by simp only [ae9]<;>lia)
theorem gk:di X (.type "tuple") (fun xs H Q=>∃ p ys,xs=[.ref p]/\((SqL X.K H p ys/\∀ l,H l=none->Q (.ref l) (upd H l (.tup ys)))\/(SqT X.K H p ys/\Q (.ref p) H))):=by
 intro pins s σ H xs us Q I r h;obtain⟨p,ys,rfl,h⟩:=h;obtain⟨u,rfl,rx⟩:=gZ r;cases rx;rcases h with ⟨hq,q⟩ | ⟨hq,q⟩
 ·obtain⟨its,r',pl,hz⟩:=I.list hq;have hlen:=r'.length;refine call_tuple_list pl.isList (fun h' kp=>?_) (by simp only [ae9]<;>lia);have I1:Inv X pins σ H { s with heap:=h' }:=I.kept (t':=s.toks) kp;have I2:Inv X pins σ (upd H h'.objs.size (.tup ys)) { s with heap:=h'.push { cls:=.type "tuple",data:=.seq its.toArray } } :=
   I1.laid (t':=s.toks) (fun b o e=>aeV _ e) (ae1 _) (show ObjOk X.prog X.w _ _ _ (.tup ys) from ⟨hz,its,r',IsTup.new _ _⟩)
  exact⟨.ref h'.objs.size,_,I2,rfl,q _ (I1.hok.fresh (ae1 _))⟩
 ·obtain⟨its,r',pl,hz⟩:=I.tuple hq;exact call_tuple_same pl ⟨.ref p,H,I,rfl,q⟩
def tyV (K:PySem.W.Frag)(T:String)(x:V)(H:Hp):Prop:=match x with
 | .str _=>T = "str"
 | .int _=>T = "int"
 | .ref p=>(T = "list" ∧ ∃ xs,SqL K H p xs)\/(T = "tuple" ∧ ∃ o,K.lookup p=some o/\o.cls=.type "tuple" ∧ o.dict=none) ∨
  (T = "dict" ∧ ((∃ kvs,H p=some (.dK kvs))\/∃ kvs,H p=some (.dT kvs)))\/(T = "set" ∧ ∃ S n,H p=some (.set S n))
 | _=>False
theorem aaO {pins:List (Addr×Obj)}{σ:St}{H:Hp}{s:Shared}{T:String}{x:V}{v:Value}(I:Inv X pins σ H s)(r:RelV x v)(ty:tyV X.K T x H) :
 s.TypeIs v T/\∀ a,v=.ref a->∃ ob,s.heap.get? a=some ob/\ob.dict=none:=by
 cases x with
 | str z =>
  obtain⟨t,rfl⟩:=r;cases (show T = "str" from ty);exact⟨typeIs_str s z t,fun _ e=>nomatch e⟩
 | int i =>
  obtain⟨t,rfl⟩:=r;cases (show T = "int" from ty);exact⟨typeIs_int s i t,fun _ e=>nomatch e⟩
 | ref p =>
  cases r;rcases ty with ⟨rfl,xs,hq⟩ | ⟨rfl,o,hk,hc,hd⟩ | ⟨rfl,hk⟩ | ⟨rfl,S,n,hk⟩
  ·obtain⟨its,_,pl,_⟩:=I.list hq;refine⟨pl.isList.typeIs,fun a e=>?_⟩;cases e;obtain⟨o,n,e,c,hd,_⟩:=pl;exact⟨o,e,hd⟩
  ·refine⟨⟨o,I.kIn p o hk,hc⟩,fun a e=>?_⟩;cases e;exact⟨o,I.kIn _ o hk,hd⟩
  ·have z:∃ o,s.heap.get? p=some o/\o.ExactDict:=by
    rcases hk with ⟨kvs,hk⟩ | ⟨kvs,hk⟩
    ·obtain⟨_,_,_,_,o,_,_,e,ex,_⟩:=I.hok p _ hk;exact⟨o,e,ex⟩
    ·obtain⟨_,_,_,_,o,_,_,e,ex,_⟩:=I.hok p _ hk;exact⟨o,e,ex⟩
   obtain⟨o,e,ex⟩:=z;refine⟨⟨o,e,ex.1⟩,fun a e2=>?_⟩;cases e2;exact⟨o,e,ex.2.1⟩
  ·obtain⟨o,_,_,_,e,ex,_⟩:=I.hok p _ hk;refine⟨⟨o,e,ex.1⟩,fun a e2=>?_⟩;cases e2;exact⟨o,e,ex.2.1⟩
 | _=>exact False.elim ty
def aey (K:PySem.W.Frag)(T:String)(r:V->List V->Hp->VK->Prop)(to:TE):TE:=fun σ H Q=>to σ H fun x H1=>tyV K T x H1/\r x [] H1 Q
def tBM (K:PySem.W.Frag)(T:String)(r:V->List V->Hp->VK->Prop)(to:TE)(t:TA):TE:=fun σ H Q=>to σ H fun x H1=>tyV K T x H1/\t σ H1 fun xs H2=>r x xs H2 Q
variable {o e:Expr}{es:List Expr}{to:TE}{t:TA}{name:Str}{apos cpos:Pos}{T id:String}{r:V->List V->Hp->VK->Prop}
theorem u0 (pa:PlainAttrs T)(slot:Slot T name id)(hty:typeOf (.builtin id)=pure (.type "method_descriptor"))(hm:MtR X id r)(ho:PE X o to)
 (hbase:attributeBase o name X.env (eval o X.env)=eval o X.env:=by rfl)(hline:(apos.endLine == cpos.line)=true:=by rfl):PE X (.Call (.Attribute o name apos) [] [] cpos) (aey X.K T r to):=by
 intro pins s σ H Q I h;refine wpAny_Call_method0_late hbase hline (thn (ho pins s σ H _ I h) fun v s1 ⟨x,H1,I1,r1,ty,q1⟩=>?_);obtain⟨h1,h2⟩:=aaO I1 r1 ty;exact⟨T,id,pa,slot,hty,h1,h2,ahz rfl (PySem.evalArgs_none (hm pins s1 σ H1 x [] v [] Q I1 r1 .nil q1))⟩
theorem dc (pa:PlainAttrs T)(slot:Slot T name id)(hty:typeOf (.builtin id)=pure (.type "method_descriptor"))(hm:MtR X id r)(ho:PE X o to)(ha:PA X (e::es) t)
 (hbase:attributeBase o name X.env (eval o X.env)=eval o X.env:=by rfl)
 (hfew:((backTo cpos (starEach (e::es) X.env)).all (fun x=>!x.1) && (backToKw cpos (keywordEach [] X.env)).all (fun x=>x.1.isSome)
  && decide ((e::es).length+([]:List Keyword).length+(if ([]:List Keyword).isEmpty then 0 else 1) < 30))=true:=by rfl)
 (hline:(apos.endLine == cpos.line)=true:=by rfl)(hs:starEach (e::es) X.env=(false,eval e X.env)::starEach es X.env:=by rfl)(hplain:(backTo cpos (starEach es X.env)).any (·.1)=false:=by rfl) :
 PE X (.Call (.Attribute o name apos) (e::es) [] cpos) (tBM X.K T r to t):=by
 intro pins s σ H Q I h;refine wpAny_Call_method_late hbase hfew hline rfl (thn (ho pins s σ H _ I h) fun v s1 ⟨x,H1,I1,r1,ty,q1⟩=>?_);obtain⟨h1,h2⟩:=aaO I1 r1 ty;refine⟨T,id,pa,slot,hty,h1,h2,?_⟩;have hA:=ha cpos pins s1 σ H1 _ I1 q1;rw [hs] at hA ⊢;refine ahz (by show (false || (backTo cpos (starEach es X.env)).any (·.1))=false;rw [hplain]<;>rfl) (aiB ?_);exact thn hA fun us s2 ⟨vs,H2,I2,r2,q2⟩=>hm pins s2 σ H2 x vs v us Q I2 r1 r2 q2
end
def MtM (X:Cx)(id:String)(r:V->List V->Hp->VK->Prop):Prop :=
 ∀ (pins:List (Addr×Obj)) (s:Shared) (σ:St) (H:Hp) (x:V) (xs:List V) (v:Value) (us:List Value) (Q:VK),Inv X pins σ H s->RelV x v->Vals xs us->r x xs H Q →
  wpAny (model X.prog X.w) X.A (call (.builtin id) (v::us)) (EP X pins σ Q) X.xe s
theorem Vals.one:∀ {x:V} {us:List Value},Vals [x] us->∃ u,us=[u]/\RelV x u
 | _,_,.cons r .nil=>⟨_,rfl,r⟩
theorem Vals.two:∀ {x y:V} {us:List Value},Vals [x,y] us->∃ u v,us=[u,v]/\RelV x u/\RelV y v
 | _,_,_,.cons r (.cons q .nil)=>⟨_,_,rfl,r,q⟩
theorem Vals.zero:∀ {us:List Value},Vals [] us->us=[]
 | _,.nil=>rfl
theorem Vals.dropLast {xs:List V}{us:List Value}(h:Vals xs us):Vals xs.dropLast us.dropLast:=by
 induction h with
 | nil=>exact .nil
 | cons r t ih =>
  cases t with
  | nil=>exact .nil
  | cons q t'=>exact .cons r ih
theorem Vals.eraseIdx:∀ {xs:List V} {us:List Value} (i:Nat),Vals xs us->Vals (xs.eraseIdx i) (us.eraseIdx i)
 | _,_,_,.nil=>.nil
 | _,_,0,.cons _ t=>t
 | _,_,i+1,.cons r t=>.cons r (Vals.eraseIdx i t)
theorem Vals.rep {xs:List V}{us:List Value}(h:Vals xs us):∀ k:Nat,Vals (List.replicate k xs).flatten (List.replicate k us).flatten
 | 0=>.nil
 | k+1=>by
  rw [agL,agL,agA,agA];exact Vals.append h (Vals.rep h k)
theorem wq {α:Type}(l:List α):l.eraseIdx (l.length - 1)=l.dropLast:=by
 induction l with
 | nil=>rfl
 | cons a r ih =>
  cases r with
  | nil=>rfl
  | cons b r =>
   have e:(a::b::r).length - 1=((b::r).length - 1)+1:=by
    have h1:(a::b::r).length=r.length+2:=rfl;have h2:(b::r).length=r.length+1:=rfl;lia
   rw [e,agU,ih]
   all_goals rfl
theorem lL {α:Type}:∀ (l:List α) (i:Nat),(l.eraseIdx i).length<=l.length
 | [],_=>ae1 _
 | _::_,0=>aho _
 | _::r,i+1=>ahW (lL r i)
theorem rN (its:List Value):∀ (k:Nat) (acc:List Value),
 List.foldl (fun x1 x2=>x1++x2) acc.toArray (List.replicate k its.toArray)=(acc++(List.replicate k its).flatten).toArray
 | 0,acc=>by simp
 | k+1,acc=>by
  have e:acc.toArray++its.toArray=(acc++its).toArray:=by simp
  have e2:(acc++its)++(List.replicate k its).flatten=acc++(List.replicate (k+1) its).flatten:=by
   rw [agL,agA,afa]
  rw [← e2,← rN its k (acc++its),← e,agL,ah5]
section
variable {X:Cx}{pins:List (Addr×Obj)}{σ:St}{H:Hp}{s:Shared}{l b:Addr}{xs ys zs:List V}
theorem Inv.lset {its its':List Value}{n:Nat}{f:Array Value->Array Value}{t':Nat}(I:Inv X pins σ H s)(hH:H l=some (.lst xs))
 (e:s.heap.get? l=some { cls:=.type "list",data:=.seq its.toArray n })(hf:f its.toArray=its'.toArray)(hv:Vals ys its')(hz:ys.length<=sizeLine) :
 Inv X pins σ (upd H l (.lst ys)) { s with heap:=s.heap.update l (Obj.mapSeq f),toks:=t' }:=by
 have q:=PySem.IsL.update e f;rw [hf] at q;refine I.write (x:=l) (e:=l) (by rw [hH];exact trivial) (.inl rfl) (fun b' u hb hu=>(agK s.heap (Obj.mapSeq f) (agM hb)).trans hu) ⟨_,q⟩ ?_;exact⟨hz,its',_,hv,q⟩
theorem Inv.lnew {its:List Value}{t':Nat}(I:Inv X pins σ H s)(hv:Vals ys its)(hz:ys.length<=sizeLine) :
 Inv X pins σ (upd H s.heap.objs.size (.lst ys)) { s with heap:=s.heap.push { cls:=.type "list",data:=.seq its.toArray },toks:=t' } :=
 I.laid (fun _ _ q=>aeV _ q) (ae1 _) ⟨hz,its,0,hv,afd _ rfl⟩
theorem Inv.fresh (I:Inv X pins σ H s):H s.heap.objs.size=none:=I.hok.fresh (ae1 _)
theorem Inv.lstM (I:Inv X pins σ H s)(hH:H l=some (.lst xs)):xs.length<=sizeLine/\∃ (its:List Value) (n:Nat),Vals xs its/\xs.length=its.length/\s.heap.get? l=some { cls:=.type "list",data:=.seq its.toArray n }:=by
 obtain⟨z,its,n,r,e⟩:=I.hok l _ hH;exact⟨z,its,n,r,r.length,e⟩
theorem vz {n:Nat}(h:n<=sizeLine):Builtin.List.listTooLong n=false:=by
 unfold Builtin.List.listTooLong;exact afw (by lia)
end
section
variable {X:Cx}
def ab2:V->List V->Hp->VK->Prop:=fun x vs H Q=>∃ l xs y,x=.ref l/\vs=[y]/\H l=some (.lst xs)/\xs.length < sizeLine/\Q .non (upd H l (.lst (xs++[y])))
theorem bJ:MtM X "list.append" ab2:=by
 intro pins s σ H x vs v us Q I rx rv h;obtain⟨l,xs,y,rfl,rfl,hH,hz,q⟩:=h;cases rx;obtain⟨u,rfl,ru⟩:=rv.one;obtain⟨z,its,n,r,hl,e⟩:=I.lstM hH;refine ah2 F.slot_list_append ⟨_,e,rfl⟩ F.entry_list_append (F.args_list_append_2 _ _) (PySem.list_append l its.toArray n u (by rw [ae9];lia)) ⟨e,?_⟩;refine⟨.non,_,I.lset (its':=its++[u]) hH e (by simp) (r.append (.cons ru .nil)) ?_,rfl,q⟩;rw [aeR,afT];lia
def abl:V->List V->Hp->VK->Prop:=fun x vs H Q=>∃ l b xs zs,x=.ref l/\vs=[.ref b]/\H l=some (.lst xs)/\H b=some (.lst zs)/\xs.length+zs.length<=sizeLine/\Q .non (upd H l (.lst (xs++zs)))
theorem gE:MtM X "list.extend" abl:=by
 intro pins s σ H x vs v us Q I rx rv h;obtain⟨l,b,xs,zs,rfl,rfl,hH,hB,hz,q⟩:=h;cases rx;obtain⟨u,rfl,ru⟩:=rv.one;cases ru;obtain⟨z,its,n,r,hl,e⟩:=I.lstM hH;obtain⟨z2,its2,n2,r2,hl2,e2⟩:=I.lstM hB;have hsz:its.toArray.size+its2.toArray.size<=sizeLine:=by rw [ae9,ae9];lia
 have hlong:¬ (!its.toArray.isEmpty && Builtin.List.listTooLong (its.toArray.size+its2.toArray.size))=true:=by
  rw [vz hsz,Bool.and_false];exact aeY
 refine ah2 F.slot_list_extend ⟨_,e,rfl⟩ F.entry_list_extend (F.args_list_extend_2 _ _)
  (AutoSeq1.list_extend_list_list_0 l its.toArray n b its2.toArray n2 hlong (by rw [ae9];lia) (by lia)) ⟨e,e2,?_⟩
 refine⟨.non,_,I.lset (its':=its++its2) hH e (by simp) (r.append r2) ?_,rfl,q⟩;rw [aeR];lia
def aeq:V->List V->Hp->VK->Prop:=fun x vs H Q=>∃ l xs y,x=.ref l/\vs=[]/\H l=some (.lst xs)/\xs[xs.length - 1]? = some y/\Q y (upd H l (.lst xs.dropLast))
theorem yc:MtM X "list.pop" aeq:=by
 intro pins s σ H x vs v us Q I rx rv h;obtain⟨l,xs,y,rfl,rfl,hH,hy,q⟩:=h;cases rx;have hus:=rv.zero;subst hus;obtain⟨z,its,n,r,hl,e⟩:=I.lstM hH;obtain⟨u,hu,ru⟩:=r.get hy;have hy':its.toArray[its.toArray.size - 1]? = some u:=by
  show its.toArray[its.length - 1]? = some u;rw [← afK,← hl];exact hu
 refine ah2 F.slot_list_pop ⟨_,e,rfl⟩ F.entry_list_pop (F.args_list_pop_1 _) (MeetsSeq.list_pop_last l its.toArray n u hy' (by rw [ae9];lia)) ⟨e,?_⟩;refine⟨y,_,I.lset (its':=its.dropLast) hH e ?_ r.dropLast ?_,ru,q⟩
 ·show its.toArray.eraseIdxIfInBounds (its.toArray.size - 1)=its.dropLast.toArray;rw [ae9,ahd,wq]
 ·rw [aiC];lia
def aa3:V->List V->Hp->VK->Prop:=fun x vs H Q=>∃ l xs i k y,x=.ref l/\vs=[.int i]/\H l=some (.lst xs)/\-(2 ^ 63)<=i/\i < 2 ^ 63/\seqIndex? i xs.length=some k/\xs[k]? = some y/\Q y (upd H l (.lst (xs.eraseIdx k)))
theorem jC:MtM X "list.pop" aa3:=by
 intro pins s σ H x vs v us Q I rx rv h;obtain⟨l,xs,i,k,y,rfl,rfl,hH,h1,h2,hk,hy,q⟩:=h;cases rx;obtain⟨u,rfl,ru⟩:=rv.one;obtain⟨t,rfl⟩:=ru;obtain⟨z,its,n,r,hl,e⟩:=I.lstM hH;obtain⟨w,hw,rw'⟩:=r.get hy;refine ah2 F.slot_list_pop ⟨_,e,rfl⟩ F.entry_list_pop (F.args_list_pop_2 _ _)
  (MeetsSeq.list_pop_at l its.toArray n i t k w (fitsIndex_both h1 h2) (by rw [ae9,← hl];exact hk) (by rw [← afK];exact hw) (by rw [ae9];lia)) ⟨e,?_⟩
 refine⟨y,_,I.lset (its':=its.eraseIdx k) hH e ?_ (r.eraseIdx k) ?_,rw',q⟩
 ·show its.toArray.eraseIdxIfInBounds k=(its.eraseIdx k).toArray;rw [ahd]
 ·have:=lL xs k;lia
def ado:V->List V->Hp->VK->Prop:=fun x vs H Q=>∃ l xs,x=.ref l/\vs=[]/\H l=some (.lst xs)/\Q .non (upd H l (.lst []))
theorem zI:MtM X "list.clear" ado:=by
 intro pins s σ H x vs v us Q I rx rv h;obtain⟨l,xs,rfl,rfl,hH,q⟩:=h;cases rx;have hus:=rv.zero;subst hus;obtain⟨z,its,n,r,hl,e⟩:=I.lstM hH;refine ah2 F.slot_list_clear ⟨_,e,rfl⟩ F.entry_list_clear (F.args_list_clear_1 _) (AutoSeq1.list_clear_list_0 l its.toArray n (by rw [ae9];lia)) ⟨e,?_⟩;exact⟨.non,_,I.lset (its':=[]) (ys:=[]) hH e rfl .nil (afe _),rfl,q⟩
def aeb:R2:=fun x y H Q=>∃ l b xs zs,x=.ref l/\y=.ref b/\H l=some (.lst xs)/\H b=some (.lst zs)/\xs.length+zs.length<=sizeLine/\∀ p,H p=none->Q (.ref p) (upd H p (.lst (xs++zs)))
theorem mG:OpR X (binaryOp .Add) aeb:=by
 intro pins s σ H x y v u Q I rx ry h;obtain⟨l,b,xs,zs,rfl,rfl,hH,hB,hz,q⟩:=h;cases rx;cases ry;obtain⟨z,its,n,r,hl,e⟩:=I.lstM hH;obtain⟨z2,its2,n2,r2,hl2,e2⟩:=I.lstM hB;refine PySem.P.add_list e e2 ?_ (by rw [ae9,ae9];lia);have ea:its.toArray++its2.toArray=(its++its2).toArray:=by simp
 rw [ea];exact⟨.ref _,_,I.lnew (t':=s.toks) (r.append r2) (by rw [aeR];lia),rfl,q _ I.fresh⟩
def aex:R2:=fun x y H Q=>∃ l k xs,x=.ref l/\y=.int k/\H l=some (.lst xs)/\-(2 ^ 63)<=k/\k < 2 ^ 63/\xs.length * k.toNat<=sizeLine ∧
 ∀ p,H p=none->Q (.ref p) (upd H p (.lst (List.replicate k.toNat xs).flatten))
theorem abW {α:Type}(xs:List α)(k:Nat):(List.replicate k xs).flatten.length=k * xs.length:=by
 induction k with
 | zero=>simp
 | succ k ih=>rw [agL,agA,aeR,ih,Nat.succ_mul,Nat.add_comm]
theorem abe:OpR X (binaryOp .Mult) aex:=by
 intro pins s σ H x y v u Q I rx ry h;obtain⟨l,k,xs,rfl,rfl,hH,h1,h2,hz,q⟩:=h;cases rx;obtain⟨t,rfl⟩:=ry;obtain⟨z,its,n,r,hl,e⟩:=I.lstM hH;have hlen:its.toArray.size * k.toNat<=sizeLine:=by rw [ae9,← hl];exact hz
 have hcap:¬ its.toArray.size * k.toNat > (2 ^ 63 - 1) / 8:=by
  have:(sizeLine:Nat)<=(2 ^ 63 - 1) / 8:=by decide
  lia
 have hfit:¬ (!Builtin.List.listFitsIndex k)=true:=by
  rw [fitsIndex_both h1 h2];exact aeY
 have hlong:¬ Builtin.List.listTooLong (its.toArray.size * k.toNat)=true:=by
  rw [vz hlen];exact aeY
 have hnew:List.foldl (fun x1 x2=>x1++x2) #[] (List.replicate (if its.toArray.isEmpty=true then 0 else k.toNat) its.toArray)=(List.replicate k.toNat its).flatten.toArray:=by
  have f0:∀ m:Nat,List.foldl (fun x1 x2=>x1++x2) #[] (List.replicate m its.toArray)=(List.replicate m its).flatten.toArray:=fun m=>by
   have:=rN its m [];rw [aiU] at this;exact this
  rw [f0];cases its with
  | nil=>simp
  | cons a r'=>rw [if_neg (by simp)]
 refine wpAny_binaryOp_repeat_ref (T := "list") (U := "int") (by decide) ⟨_,e,rfl⟩ (fun s'=>typeIs_int s' k t) noFill_list_mul F.fills_int_mul F.slot_int_rmul repeat_list F.slot_int_index.lookup
  (ah2 F.slot_int_rmul (typeIs_int s k t) F.entry_int_rmul (F.args_int_rmul_2 _ _) (int___rmul___int_list k t l its.toArray n)
   ⟨e,rfl,⟨_,e,rfl⟩,ah2 F.slot_list_mul ⟨_,e,rfl⟩ F.entry_list_mul (F.args_list_mul_2 _ _) (AutoListH.list___mul___list_int_3 l its.toArray n k t hfit hcap hlong) ⟨e,?_⟩⟩)
 rw [hnew];exact⟨.ref _,_,I.lnew (t':=s.toks) (r.rep k.toNat) (by rw [abW,Nat.mul_comm];exact hz),rfl,q _ I.fresh⟩
end
section
variable {prog:Program}{w:World}{A:Around}{E:Value->Shared->Prop}{s:Shared}
end
section
variable {X:Cx}
end
end L2
namespace Att
open PySem PySem.W PySem.Calls PyProof.Rows
theorem nZ {P:Params}{h:Heap}:∀ (ns:List Int) (vs:List Value),WellAll P h vs (ns.map WData.int)->IntsAre vs ns:=by
 intro ns
 induction ns with
 | nil =>
  intro vs w;rw [aio] at w;cases w;exact .nil
 | cons n ns ih =>
  intro vs w;rw [afb] at w;cases w with
  | cons a b =>
   cases a;exact .cons _ _ (ih _ b)
theorem ym {l:OpenLaw}{n:Nat}(hn:l.most=some n){P:Params}{h:Heap}{args:List WData}{vals:List Value}
 (hpre:l.row.toRowW.claim.pre args=true)(hwl:WellAll P h vals args) :
 ∃ a vs ns,vals=[Value.ref a]/\args=[WData.list (ns.map WData.int)]/\h.get? a=some { cls:=.type "list",data:=.seq vs.toArray }/\IntsAre vs ns/\ns.length<=n:=by
 have hsh:WShape.hasAll [] args [.list .int]=true:=(pre_splitW hpre).1;have hc:l.pre.holds [] { args:=args }=true:=(pre_splitW hpre).2;obtain⟨d,r,rfl,h1,h2⟩:=hasAllW_cons hsh;obtain rfl:=hasAllW_nil h2;obtain⟨xs,rfl,h3⟩:=hasW_list h1;obtain⟨ns,rfl⟩:=items_int h3;have hlen:ns.length<=n:=by
  unfold OpenLaw.pre at hc;have h4:(WTm.not (.lt (.lit (.int (n:Int))) (.len (.arg 0)))).holds [] { args:=[.list (ns.map .int)] }=true:=by
   have h4:=(holds_andW hc).1;rw [hn] at h4;exact h4
  have h5:=condW_of h4 (w_not (w_lt w_lit (w_len_list (w_arg rfl))));rw [aeP] at h5;refine Nat.le_of_not_lt fun q=>?_;have q':(n:Int) < ((ns.length:Nat):Int):=by lia
  first
   | (rw [afv q'] at h5;exact absurd h5 (by decide))
   | (simp at h5;lia)
 cases hwl with
 | cons w1 w2 =>
  cases w2;cases w1 with
  | list ho hall=>exact⟨_,_,ns,rfl,rfl,ho,nZ ns _ hall,hlen⟩
theorem xP (l:OpenLaw)(args:List WData):l.row.toRowW.claim.post args (.bool true) args=true :=
 postW_of (r:=l.row.toRowW) (X:=(true == true))
  (show WShape.has [] (.bool true) .bool=true by first | rfl | decide | simp [WShape.has,WShape.arms,WShape.armsAll])
  (show (WTm.eq .res (.lit (.bool true))).value [] { args:=args,res:=some (.bool true),after:=args }=some (.bool (true == true)) from w_eq_bool (w_res rfl) w_lit) rfl
theorem attach_call {l:OpenLaw}{n:Nat}{q:Program}{loose:List Str}{XP:(Str->Option Value)->Heap->Prop}{YP:World->Heap->Prop}{d:DefRec}
 (hn:l.most=some n)(hdf:d.params.defaults=[])
 (call:∀ (w:World) (s₀ s₁:Shared) (mg mb:Str->Option Value) (fa:Addr) (o:Obj) (pm cd doc:Value) (a:Addr) (vs:List Value) (ns:List Int),
  Ground q loose [] XP w s₀ mg mb s₁.heap->YP w s₁.heap →
  s₁.heap.get? fa=some o->o.data=.func (docDef d.name d.params d.body d.scope pm cd doc)->s₁.heap.CodeRec cd d.name->mg d.name=some (.ref fa) →
  s₁.heap.get? a=some { cls:=.type "list",data:=.seq vs.toArray }->IntsAre vs ns->ns.length<=n->s₁.gens=#[] →
  codeAny (model l.prog w) callerA (.call (.ref fa) ⟨[.ref a],[]⟩) (fun r s'=>r=.ok (.ret (.bool true))/\OldK s₁.heap s'.heap/\s'.os=s₁.os/\AllBare s'.gens) s₁) :
 WalkO q loose XP YP l.row.toRowW d [] (fun f vs=>PySem.call f vs):=by
 intro w s₀ s₁ mg mb G Y fa o pm cd doc dV kV ho hd hcd hD hmg hg args vals as hpre hlay hrd hwl hlo;obtain rfl:dV=.none:=Dflts.none hD hdf;obtain rfl:kV=.none:=Dflts.noKw hD;obtain⟨a,vs,ns,rfl,rfl,hobj,hints,hlen⟩:=ym hn hpre hwl;refine enter_call (ag5 (call w s₀ s₁ mg mb fa o pm cd doc a vs ns G Y ho (fd_plain hd) hcd hmg hobj hints hlen hg) fun r s' hq=>?_);obtain⟨rfl,h2,h3,h4⟩:=hq;exact⟨.inl ⟨.bool true,.bool true,[],rfl,fun _=>rfl,.bool true,xP l _,fun _=>⟨List.Pairwise.nil,fun _ hm=>(nomatch hm)⟩⟩,h2,h3,h4⟩
section
variable {prog:Program}{w:World}{A:Around}{E:Value->Shared->Prop}{s:Shared}{K:Frag}
end
end Att
namespace L2
open PySem PySem.Spec PyProof.Rows
theorem jj:∀ {vs:List Value} {ns:List Int},IntsAre vs ns->Vals (ns.map V.int) vs
 | _,_,.nil=>.nil
 | _,_,.cons n t h=>.cons ⟨t,rfl⟩ (jj h)
def ad1 (H:Hp):Prop:=∀ b,H b=none\/∃ o xs,H b=some (.frz o (.lst xs))
theorem aar {P:Program}{w:World}{K:PySem.W.Frag}{mg mb:Str->Option Value}{CX:CXT}{k:Nat}{fa a:Addr}{fd:FuncData}{x:Str}{sp:Sp}{s₁:Shared}{vs:List Value}{ns:List Int}
 (KX:K.In s₁.heap)(hns:s₁.heap.Ns mainGlobals mg)(hb:s₁.heap.Ns builtinsNs mb)(hbb:∀ x:Str,x ≠ "__name__" → mb x=bootBuiltins x)(hlim:s₁.heap.NoLimit)(hg:s₁.gens=#[])
 (ha:s₁.heap.get? a=some { cls:=.type "list",data:=.seq vs.toArray })(hi:IntsAre vs ns)(hl:ns.length<=sizeLine)(hr:Room k callerA)
 (F:∀ base:Heap,K.In base->base.Ns mainGlobals mg->bF P w K mg base CX k fa fd [x] sp)(hbind:∀ (s:Shared) (u:Value),BindsTo s fd ⟨[u],[]⟩ [(x,u)])
 (hsp:∀ H:Hp,ad1 H->SqL K H a (ns.map V.int)->sp [.ref a] H (fun v _=>v=.bl true) fun _ _ _=>False)
 (hCX:∀ H e s',CX [] H s₁ (fun _ _ _=>False) e s'->False) :
 codeAny (model P w) callerA (.call (.ref fa) ⟨[.ref a],[]⟩) (fun r s'=>r=.ok (.ret (.bool true))/\OldK s₁.heap s'.heap/\s'.os=s₁.os/\AllBare s'.gens) s₁:=by
 have rv:=jj hi;have lenV:=hi.length;have core:∀ H:Hp,ad1 H->SqL K H a (ns.map V.int)->HOk P w H s₁.heap->(∀ b,H b≠none->b=a)->(H a≠none->K.lookup a=none) →
  codeAny (model P w) callerA (.call (.ref fa) ⟨[.ref a],[]⟩) (fun r s'=>r=.ok (.ret (.bool true))/\OldK s₁.heap s'.heap/\s'.os=s₁.os/\AllBare s'.gens) s₁:=by
  intro H hO hS hok hA hK;have base_of:∀ {b:Addr} {o:Obj},s₁.heap.get? b=some o->H b=none->(zt s₁.heap H).get? b=some o:=fun e n=>aan e n;have noA:∀ {b:Addr} {o:Obj} {es:Array DictEntry} {ep:Nat},s₁.heap.get? b=some o->o.data=.dict es ep->H b=none:=fun {b o es ep} e d=>by
   cases q:H b with
   | none=>rfl
   | some u =>
    have e':b=a:=hA b (by rw [q];simp);subst e';rw [ha] at e;cases e;have d':Data.seq vs.toArray _=Data.dict es ep:=d;cases d'
  have nsK:∀ {b:Addr} {m:Str->Option Value},s₁.heap.Ns b m->(zt s₁.heap H).Ns b m:=fun {b m} ⟨o,es,ep,e,d,r⟩=>⟨o,es,ep,base_of e (noA e d),d,r⟩;have hKb:K.In (zt s₁.heap H):=fun b o e=>base_of (KX b o e) (by
   cases q:H b with
   | none=>rfl
   | some u =>
    have e':b=a:=hA b (by rw [q];simp);subst e';rw [hK (by rw [q];simp)] at e;cases e)
  have hM:Mod K mg (zt s₁.heap H):=⟨hKb,nsK hns,⟨mb,nsK hb,hbb⟩,let ⟨mc,h1,h2⟩:=hlim;⟨mc,nsK h1,h2⟩⟩;have e0:adt P w K mg (zt s₁.heap H) callerA [] s₁ H:=⟨rfl,hM,fun b o e=>abJ e,Nat.le_of_eq (yj _ _),trivial,fun b hb=>absurd (show b∈([]:List Addr) from hb) (by simp),hok,.of_eq hg⟩;refine ag5 ((F _ hKb (nsK hns)).run callerA [] s₁ H ⟨[.ref a],[]⟩ [.ref a] [.ref a] _ _ hr e0 (hbind s₁ (.ref a)) (.cons rfl .nil) (hsp H hO hS)) fun r s' h=>?_;cases r with
  | error e=>exact (hCX H e s' h).elim
  | ok fl =>
   cases fl with
   | next=>exact False.elim h
   | brk=>exact False.elim h
   | cont=>exact False.elim h
   | ret u =>
    obtain⟨v,H',os,bare,un,hok',r',q⟩:=h;have q':v=.bl true:=q;subst q';obtain rfl:u=Value.bool true:=r';refine⟨rfl,OldK.of_keep fun b o e=>?_,os,bare⟩;cases q:H b with
    | none=>exact un.keep b o e q (by intro z;exact absurd (show b∈([]:List Addr) from z) (by simp)) (by simp)
    | some u =>
     rcases hO b with z | ⟨ob,xs,z⟩
     ·rw [q] at z;cases z
     ·have z2:=un.frzs b ob _ z;obtain⟨e1,_⟩:=hok b _ z;obtain⟨e2,_⟩:=hok' b _ z2;rw [e] at e1;cases e1;exact e2
 cases hk:K.lookup a with
 | some o =>
  have e:=KX a o hk;rw [ha] at e;cases e;refine core (fun _=>none) (fun _=>.inl rfl) (.inr ⟨_,vs.toArray,_,hk,rfl,rfl,rfl,by rw [ae9,lenV];exact hl,by simpa using rv⟩) (fun b u z=>by have z':(none:Option HO)=some u:=z;cases z') (fun b z=>absurd rfl z) fun z=>absurd rfl z
 | none =>
  refine core (fun b=>if b=a then some (.frz { cls:=.type "list",data:=.seq vs.toArray } (.lst (ns.map V.int))) else none) (fun b=>?_) (.inl (.inr ⟨{ cls:=.type "list",data:=.seq vs.toArray },if_pos rfl⟩)) (fun b u z=>?_) (fun b z=>?_) fun _=>hk
  ·by_cases hb:b=a
   ·exact .inr ⟨_,_,if_pos hb⟩
   ·exact .inl (if_neg hb)
  ·by_cases hb:b=a
   ·have z':=(if_pos hb).symm.trans z;cases z';subst hb;exact⟨ha,by rw [aeP];exact hl,vs,_,rv,ha⟩
   ·have z':=(if_neg hb).symm.trans z;cases z'
  ·by_cases hb:b=a
   ·exact hb
   ·exact absurd (if_neg hb) z
theorem walk_of {l:PySem.W.OpenLaw}{n k:Nat}{q:Program}{loose:List Str}{XP:(Str->Option Value)->Heap->Prop}{YP:World->Heap->Prop}{d:DefRec}{K:Params->PySem.W.Frag}{CX:World->CXT}{sp:World->Sp}{x:Str}
 (hn:l.most=some n)(hn2:n<=sizeLine)(hdf:d.params.defaults=[])(hr:Room k callerA)
 (hY:∀ (w:World) (h:Heap),YP w h->(K w.params).In h)
 (F:∀ (w:World) (mg:Str->Option Value) (fa:Addr) (h:Heap),(K w.params).In h->h.Ns mainGlobals mg->mg d.name=some (.ref fa) →
  ∃ fd:FuncData,(∀ (s:Shared) (u:Value),BindsTo s fd ⟨[u],[]⟩ [(x,u)]) ∧
   ∀ base:Heap,(K w.params).In base->base.Ns mainGlobals mg->bF l.prog w (K w.params) mg base (CX w) k fa fd [x] (sp w))
 (hsp:∀ (w:World) (H:Hp) (a:Addr) (ns:List Int),ns.length<=n->ad1 H->SqL (K w.params) H a (ns.map V.int)->sp w [.ref a] H (fun v _=>v=.bl true) fun _ _ _=>False)
 (hCX:∀ (w:World) (H:Hp) (s:Shared) (e:Value) (s':Shared),CX w [] H s (fun _ _ _=>False) e s'->False) :
 PySem.W.WalkO q loose XP YP l.row.toRowW d [] (fun f vs=>PySem.call f vs):=by
 refine Att.attach_call hn hdf fun w s₀ s₁ mg mb fa o pm cd doc a vs ns G Y ho hd hcd hmg hobj hints hlen hg=>?_;have KX:=hY w _ Y;obtain⟨fd,hb,hF⟩:=F w mg fa _ KX G.T.g hmg;exact aar KX G.T.g G.T.b G.T.builtins G.T.nolimit hg hobj hints (aft hlen hn2) hr hF hb (fun H hO hS=>hsp w H a ns hlen hO hS) fun H e s'=>hCX w H s₁ e s'
def fc (s:Stmt):Arguments:=match s with
 | .FunctionDef _ a _ _ _ _ _ _ _ _=>a
 | _=>{ posonlyargs:=[],args:=[],vararg:=none,kwonlyargs:=[],kw_defaults:=[],kwarg:=none,defaults:=[] }
def cq (s:Stmt):List Stmt:=match s with
 | .FunctionDef _ _ b _ _ _ _ _ _ _=>b
 | _=>[]
def ar (s:Stmt):Scope:=match s with
 | .FunctionDef _ _ _ _ _ _ sc _ _ _=>sc
 | _=>{ kind:=.function,names:=[],isGenerator:=false,isCoroutine:=false }
abbrev CX0:CXT:=fun _ _ _ _ _ _=>False
abbrev E0:XK:=fun _ _ _=>False
theorem qf {X:Cx}:yM CX0 X E0:=fun _ _ _ _ _ _ _ h=>h.elim
structure Fun (K:PySem.W.Frag)(x qual:Str)(st:Stmt)(f:Addr)(fd:FuncData):Prop where
 ex:∃ (oc:Value) (od:Option Addr) (kV doc pm:Value) (an:Option Addr) (cdv ct:Value) (osl:Array (Option Value)),
  fd=fnOf x qual (fc st) (cq st) (ar st) .none kV doc pm an cdv ct/\K.lookup f=some ⟨oc,od,.func fd,osl⟩/\codeIn K cdv qual=true
 kp:keepIn K (.ref f)=true
section
variable {P:Program}{w:World}{K:PySem.W.Frag}{mg:Str->Option Value}{base:Heap}
theorem Fun.ok {x qual:Str}{st:Stmt}{f:Addr}{fd:FuncData}{N ps:List Str}{k:Nat}{sp:Sp}(F:Fun K x qual st f fd)(S:aJ N ps (ar st))(len:∀ vs H Q E,sp vs H Q E->vs.length=ps.length)
 (hbody:∀ (cdv:Value) (A:Around) (outer:List Env) (s:Shared) (H:Hp) (vs:List V) (Q:VK) (E:XK),Room k (A.deeper (envOfC qual (ar st) s.heap.objs.size f cdv))->sp vs H Q E →
  ∃ t,PSs (uM CX0 P w K mg base N qual (ar st) f cdv A outer s H E).nox (cq st) t/\t { nx:=fun _ H'=>Q .non H',rt:=Q } (rR N vs) H):bF P w K mg base CX0 (k+1) f fd ps sp:=by
 obtain⟨oc,od,kV,doc,pm,an,cdv,ct,osl,rfl,lk,hcd⟩:=F.ex;refine adX lk hcd S len fun A outer s H vs Q E hr hsp=>?_;obtain⟨t,h,q⟩:=hbody cdv A outer s H vs Q E hr hsp;exact⟨t,h.nox,q⟩
theorem Fun.binds {x qual:Str}{st:Stmt}{f:Addr}{fd:FuncData}{ps:List Str}(F:Fun K x qual st f fd)
 (h:∀ (kV doc pm:Value) (an:Option Addr) (cdv ct:Value) (us:List Value),us.length=ps.length->bindArgs (fnOf x qual (fc st) (cq st) (ar st) .none kV doc pm an cdv ct) ⟨us,[]⟩=pure (ps.zip us)):Binds K fd ps []:=by
 obtain⟨oc,od,kV,doc,pm,an,cdv,ct,osl,rfl,lk,hcd⟩:=F.ex;exact .all (h kV doc pm an cdv ct)
theorem fun_mk {x qual:Str}{st:Stmt}{f:Addr}{oc:Value}{od an:Option Addr}{osl:Array (Option Value)}{kV doc pm cdv ct:Value}(l:K.lookup f=some ⟨oc,od,.func (fnOf x qual (fc st) (cq st) (ar st) .none kV doc pm an cdv ct),osl⟩)
 (c:codeIn K cdv qual=true)(k:keepIn K (.ref f)=true):Fun K x qual st f (fnOf x qual (fc st) (cq st) (ar st) .none kV doc pm an cdv ct):=⟨⟨oc,od,kV,doc,pm,an,cdv,ct,osl,rfl,l,c⟩,k⟩
end
theorem i6 {A:Around}{k:Nat}(hr:Room k A):A.units+1 < cLine:=afx (ahZ (by decide:1<=64) _) hr.units
theorem aC {n:Nat}(h:n<=1000):n < sizeLine:=afx h (by decide)
section
variable {X:Cx}
theorem pv (i:Nat){x:Str}{pos:Pos}(hN:X.N[i]? = some x:=by rfl)(hv:Vis X.env.scope x:=by first | exact Or.inl rfl | exact Or.inr (.inl rfl) | exact Or.inr (.inr rfl))(hd:(x == ("__debug__" : Str))=false:=by decide)
 (hcd:(x == ("__classdict__" : Str))=false:=by decide):PE X (.Name x pos) (wV i):=ac5 hN hv hd hcd
end
theorem gz {A B:Prop}(h:B):if false=true then A else B:=by
 rw [if_neg aeY];exact h
theorem fT {A B:Prop}(h:A):if true=true then A else B:=by
 rw [if_pos rfl];exact h
theorem uI {c A B:Prop}[Decidable c](h1:c->A)(h2:¬ c->B):if c then A else B:=by
 by_cases h:c
 ·rw [if_pos h];exact h1 h
 ·rw [if_neg h];exact h2 h
def Same (H H':Hp):Prop:=∀ b o,H b=some o->H' b=some o
theorem Same.refl (H:Hp):Same H H:=fun _ _ h=>h
theorem Same.trans {H H1 H2:Hp}(a:Same H H1)(b:Same H1 H2):Same H H2:=fun c o h=>b c o (a c o h)
theorem Same.free {H H':Hp}(e:Same H H'){l:Addr}(h:H' l=Option.none):H l=Option.none:=by
 cases q:H l with
 | none=>rfl
 | some o =>
  rw [e l o q] at h;cases h
theorem Same.seq {K:PySem.W.Frag}{H H':Hp}{a:Addr}{xs:List V}(e:Same H H')(h:SqL K H a xs):SqL K H' a xs:=by
 rcases h with (h | ⟨o,h⟩) | h
 ·exact .inl (.inl (e _ _ h))
 ·exact .inl (.inr ⟨o,e _ _ h⟩)
 ·exact .inr h
section
variable {κ:Type}[DecidableEq κ]
def b9 (kvs:List (κ×V))(k:κ):Option V:=(kvs.find? fun kv=>decide (kv.1=k)).map (·.2)
def fU (kvs:List (κ×V))(k:κ)(v:V):List (κ×V) :=
 if (kvs.any fun kv=>decide (kv.1=k))=true then kvs.map (fun kv=>if kv.1=k then (kv.1,v) else kv) else kvs++[(k,v)]
theorem cj {p:κ×V}{r:List (κ×V)}{k:κ}(e:p.1=k):b9 (p::r) k=some p.2:=by simp [b9,ahE,e]
theorem bY {p:κ×V}{r:List (κ×V)}{k:κ}(e:¬ p.1=k):b9 (p::r) k=b9 r k:=by simp [b9,ahE,e]
theorem iz (k:κ):∀ kvs:List (κ×V),(kvs.any fun kv=>decide (kv.1=k))=(b9 kvs k).isSome
 | []=>rfl
 | p::r=>by
  rw [ahM];by_cases e:p.1=k
  ·simp only [cj e,afv e,Bool.true_or,Option.isSome_some]
  ·rw [bY e,afw e,Bool.false_or];exact iz k r
theorem uD (k j:κ)(y:V):∀ kvs:List (κ×V),b9 (kvs.map fun kv=>if kv.1=k then (kv.1,y) else kv) j=(b9 kvs j).map fun x=>if j=k then y else x
 | []=>rfl
 | p::r=>by
  have ih:=uD k j y r;rw [afb];by_cases h:p.1=k
  ·rw [if_pos h];by_cases e:p.1=j
   ·rw [cj (p:=(p.1,y)) e,cj e,aiV,if_pos (e.symm.trans h)]
   ·rw [bY (p:=(p.1,y)) e,bY e,ih]
  ·rw [if_neg h];by_cases e:p.1=j
   ·rw [cj (p:=p) e,cj e,aiV,if_neg (fun z=>h (e.trans z))]
   ·rw [bY (p:=p) e,bY e,ih]
theorem si (k j:κ)(y:V):∀ kvs:List (κ×V),b9 kvs k=none->b9 (kvs++[(k,y)]) j=if j=k then some y else b9 kvs j
 | [],_=>by
  by_cases e:k=j
  ·rw [if_pos e.symm];exact cj (p:=(k,y)) e
  ·rw [if_neg (fun z=>e z.symm)];exact bY (p:=(k,y)) e
 | p::r,hn=>by
  rw [ajP];have hk:¬ p.1=k:=fun z=>by rw [cj z] at hn;cases hn
  rw [bY hk] at hn;have ih:=si k j y r hn;by_cases e:p.1=j
  ·rw [cj e,cj e,if_neg (fun z=>hk (e.trans z))]
  ·rw [bY e,bY e,ih]
theorem gq (kvs:List (κ×V))(k j:κ)(y:V):b9 (fU kvs k y) j=if j=k then some y else b9 kvs j:=by
 unfold fU;by_cases a:(kvs.any fun kv=>decide (kv.1=k))=true
 ·rw [if_pos a,uD];rw [iz] at a;by_cases e:j=k
  ·obtain⟨x,hx⟩:=ah1.mp a;rw [if_pos e,e,hx,aiV,if_pos rfl]
  ·rw [if_neg e];cases b9 kvs j with
   | none=>rfl
   | some x=>rw [aiV,if_neg e]
 ·rw [if_neg a];refine si k j y kvs ?_;rw [iz] at a;cases q:b9 kvs k with
  | none=>rfl
  | some x=>rw [q] at a;exact (a rfl).elim
theorem dt (kvs:List (κ×V))(k:κ)(v:V):(fU kvs k v).length<=kvs.length+1:=by
 unfold fU;split
 ·rw [aeP];lia
 ·rw [aeR,afr,ahF];lia
theorem k8 {kvs:List (κ×V)}{k:κ}(v:V)(h:b9 kvs k=none):fU kvs k v=kvs++[(k,v)]:=by
 unfold fU;rw [iz,h];exact if_neg (by decide)
theorem RelO.isSome_eq {o:Option V}{u:Option Value}(r:RelO o u):o.isSome=u.isSome:=by
 cases o with
 | none=>cases u with
  | none=>rfl
  | some _=>exact (show False from r).elim
 | some _=>cases u with
  | none=>exact (show False from r).elim
  | some _=>rfl
theorem RelO.getD {o:Option V}{u:Option Value}{d:V}{d':Value}(r:RelO o u)(rd:RelV d d'):RelV (o.getD d) (u.getD d'):=by
 cases o with
 | none=>cases u with
  | none=>exact rd
  | some _=>exact (show False from r).elim
 | some _=>cases u with
  | none=>exact (show False from r).elim
  | some _=>exact r
theorem KV.val {kvs:List (κ×V)}{vs:List (κ×Value)}(r:KV kvs vs)(k:κ):RelO (b9 kvs k) (valueAt vs k):=by
 unfold KV at r
 induction r with
 | nil=>exact True.intro
 | @cons p q ps qs h t ih =>
  obtain⟨h1,h2⟩:=h;by_cases e:p.1=k
  ·have e':q.1=k:=h1.symm.trans e;have b:valueAt (q::qs) k=some q.2:=by simp [valueAt,ahE,e']
   rw [cj e,b];exact h2
  ·have e':¬ q.1=k:=fun z=>e (h1.trans z);have b:valueAt (q::qs) k=valueAt qs k:=by simp [valueAt,ahE,e']
   rw [bY e,b];exact ih
theorem KV.any {kvs:List (κ×V)}{vs:List (κ×Value)}(r:KV kvs vs)(k:κ):(kvs.any fun kv=>decide (kv.1=k))=vs.any fun kv=>decide (kv.1=k):=by
 unfold KV at r
 induction r with
 | nil=>rfl
 | cons h t ih=>rw [ahM,ahM,ih,h.1]
theorem KV.repl {kvs:List (κ×V)}{vs:List (κ×Value)}(r:KV kvs vs)(k:κ){y:V}{u:Value}(ry:RelV y u) :
 KV (kvs.map fun kv=>if kv.1=k then (kv.1,y) else kv) (vs.map fun kv=>if kv.1=k then (kv.1,u) else kv):=by
 unfold KV at r ⊢
 induction r with
 | nil=>exact .nil
 | @cons p q ps qs h t ih =>
  rw [afb,afb];refine .cons ?_ ih;obtain⟨h1,h2⟩:=h;by_cases e:p.1=k
  ·rw [if_pos e,if_pos (h1.symm.trans e)];exact⟨h1,ry⟩
  ·rw [if_neg e,if_neg (fun z=>e (h1.trans z))];exact⟨h1,h2⟩
theorem KV.put {kvs:List (κ×V)}{vs:List (κ×Value)}(r:KV kvs vs)(k:κ){y:V}{u:Value}(ry:RelV y u):KV (fU kvs k y) (stored vs k u):=by
 unfold fU stored;rw [r.any k];by_cases e:(vs.any fun kv=>decide (kv.1=k))=true
 ·rw [if_pos e,if_pos e];exact r.repl k ry
 ·rw [if_neg e,if_neg e];exact Paired.snoc r ⟨rfl,ry⟩
theorem KV.keys {kvs:List (κ×V)}{vs:List (κ×Value)}(r:KV kvs vs):kvs.map (·.1)=vs.map (·.1):=by
 unfold KV at r
 induction r with
 | nil=>rfl
 | cons h t ih=>rw [afb,afb,ih,h.1]
theorem KV.length {kvs:List (κ×V)}{vs:List (κ×Value)}(r:KV kvs vs):kvs.length=vs.length:=ajE r
end
theorem t4 {P:Program}{w:World}{k:Key}{u:Value}(r:RelV (kV k) u):(bE P w).is k u=true:=by
 cases k with
 | inl i=>obtain⟨t,e⟩:=(show ∃ t,u=Value.int i t from r);subst e;exact tM P w i t
 | inr x=>obtain⟨t,e⟩:=(show ∃ t,u=Value.str x t from r);subst e;exact uv P w x t
theorem qv {P:Program}{w:World}:∀ {ks:List Key} {us:List Value},Vals (ks.map kV) us->ItemsAre (bE P w) ks us
 | [],_,r=>by rw [aio] at r;cases r;exact .nil
 | k::ks,_,r=>by
  rw [afb] at r;cases r with
  | cons h t=>exact .cons (t4 h) (qv t)
abbrev KT (H:Hp):List (List Key×V)->List (List Key×Addr×Value)->Prop:=Paired fun p q=>p.1=q.1/\H q.2.1=some (.tup (p.1.map kV))/\RelV p.2 q.2.2
theorem KT.val {H:Hp}{kvs:List (List Key×V)}{xs:List (List Key×Addr×Value)}(r:KT H kvs xs)(k:List Key):RelO (b9 kvs k) ((atKey xs k).map (·.2)):=by
 induction r with
 | nil=>exact True.intro
 | @cons p q ps qs h t ih =>
  obtain⟨h1,_,h2⟩:=h;by_cases e:p.1=k
  ·have e':q.1=k:=h1.symm.trans e;have b:atKey (q::qs) k=some q.2:=by simp [atKey,ahE,e']
   rw [cj e,b];exact h2
  ·have e':¬ q.1=k:=fun z=>e (h1.trans z);have b:atKey (q::qs) k=atKey qs k:=by simp [atKey,ahE,e']
   rw [bY e,b];exact ih
theorem KT.repl {H:Hp}{kvs:List (List Key×V)}{xs:List (List Key×Addr×Value)}(r:KT H kvs xs)(k:List Key){y:V}{u:Value}(ry:RelV y u) :
 KT H (kvs.map fun kv=>if kv.1=k then (kv.1,y) else kv) (xs.map (putAt k u)):=by
 induction r with
 | nil=>exact .nil
 | @cons p q ps qs h t ih =>
  rw [afb,afb];refine .cons ?_ ih;obtain⟨h1,h2,h3⟩:=h;unfold putAt;by_cases e:p.1=k
  ·rw [if_pos e,if_pos (h1.symm.trans e)];exact⟨h1,h2,ry⟩
  ·rw [if_neg e,if_neg (fun z=>e (h1.trans z))];exact⟨h1,h2,h3⟩
theorem KT.put {H:Hp}{kvs:List (List Key×V)}{xs:List (List Key×Addr×Value)}(r:KT H kvs xs)(k:List Key){b:Addr}{y:V}{u:Value}(hb:H b=some (.tup (k.map kV)))(ry:RelV y u) :
 KT H (fU kvs k y) (storedH xs k b u):=by
 have e:(kvs.any fun kv=>decide (kv.1=k))=(atKey xs k).isSome:=by
  rw [iz,(r.val k).isSome_eq,Option.isSome_map]
 unfold fU storedH;rw [e];by_cases q:(atKey xs k).isSome=true
 ·rw [if_pos q,if_pos q];exact r.repl k ry
 ·rw [if_neg q,if_neg q];exact Paired.snoc r ⟨rfl,hb,ry⟩
theorem KT.keeps {H H':Hp}{kvs:List (List Key×V)}{xs:List (List Key×Addr×Value)}(r:KT H kvs xs)(ht:∀ b ys,H b=some (.tup ys)->H' b=some (.tup ys)):KT H' kvs xs :=
 Paired.mapP r fun _ _ z=>⟨z.1,ht _ _ z.2.1,z.2.2⟩
section
variable {P:Program}{w:World}{H:Hp}{h:Heap}{a:Addr}
theorem ade {u:HO}(ok:HOk P w H h)(e:Rd H a u):ObjOk P w H h a u:=e.ok ok
theorem t9 {kvs:List (Key×V)}(ok:HOk P w H h)(e:Rd H a (.dK kvs)):kvs.length<=sizeLine/\(a == sysModules)=false/\∃ vs,KV kvs vs/\h.DictOf (bE P w) a vs :=
 show ObjOk P w H h a (.dK kvs) from ade ok e
theorem aag {kvs:List (Key×V)}(ok:HOk P w H h)(e:H a=some (.dK kvs)):kvs.length<=sizeLine/\(a == sysModules)=false/\∃ vs,KV kvs vs/\h.DictOf (bE P w) a vs:=t9 ok (.inl e)
theorem oJ {ks:List Key}(ok:HOk P w H h)(e:H a=some (.tup (ks.map kV))):(tupleKind (bE P w)).is h ks a:=by
 obtain⟨_,its,r,o,h1,h2,n,h3⟩:=(show ObjOk P w H h a (.tup (ks.map kV)) from ok a _ e);exact⟨o,its.toArray,n,h1,h2,h3,by simpa using qv r⟩
theorem wG {kvs:List (List Key×V)}(ok:HOk P w H h)(e:Rd H a (.dT kvs)):kvs.length<=sizeLine/\(a == sysModules)=false ∧
 ∃ xs,KT H kvs xs/\h.DictOfH (tupleKind (bE P w)) a xs:=by
 obtain⟨z,y,xs,r,o,es,ep,h1,h2,h3,h4,h5⟩:=(show ObjOk P w H h a (.dT kvs) from ade ok e);refine⟨z,y,xs,r,o,es,ep,h1,h2,h3,h4,fun x hx=>?_,h5⟩;have all:∀ {l:List (List Key×V)} {m:List (List Key×Addr×Value)},KT H l m->∀ x∈m,(tupleKind (bE P w)).is h x.1 x.2.1:=by
  intro l m q
  induction q with
  | nil=>intro x hx;exact nomatch hx
  | @cons p q ps qs hq t ih =>
   intro x hx;rcases ae7.mp hx with e | hx
   ·subst e;exact oJ ok (by rw [← hq.1];exact hq.2.1)
   ·exact ih x hx
 exact all r x hx
theorem aca {kvs:List (List Key×V)}(ok:HOk P w H h)(e:H a=some (.dT kvs)):kvs.length<=sizeLine/\(a == sysModules)=false ∧
 ∃ xs,KT H kvs xs/\h.DictOfH (tupleKind (bE P w)) a xs:=wG ok (.inl e)
end
def DGet (H:Hp)(a:Addr)(y:V)(r:Option V):Prop :=
 (∃ kvs k,Rd H a (.dK kvs)/\y=kV k/\r=b9 kvs k)\/∃ kvs k b,Rd H a (.dT kvs)/\y=.ref b/\H b=some (.tup (k.map kV))/\r=b9 kvs k
def DPut (H:Hp)(a:Addr)(y v:V)(H':Hp):Prop :=
 (∃ kvs k,H a=some (.dK kvs)/\y=kV k/\kvs.length < sizeLine/\H'=upd H a (.dK (fU kvs k v))) ∨
 ∃ kvs k b,H a=some (.dT kvs)/\y=.ref b/\H b=some (.tup (k.map kV))/\kvs.length < sizeLine/\H'=upd H a (.dT (fU kvs k v))
theorem DGet.k {H:Hp}{a:Addr}{kvs:List (Key×V)}{k:Key}(e:H a=some (.dK kvs)):DGet H a (kV k) (b9 kvs k):=.inl ⟨kvs,k,.inl e,rfl,rfl⟩
theorem DGet.t {H:Hp}{a b:Addr}{kvs:List (List Key×V)}{k:List Key}(e:H a=some (.dT kvs))(eb:H b=some (.tup (k.map kV))):DGet H a (.ref b) (b9 kvs k):=.inr ⟨kvs,k,b,.inl e,rfl,eb,rfl⟩
theorem DPut.k {H:Hp}{a:Addr}{kvs:List (Key×V)}{k:Key}{v:V}(e:H a=some (.dK kvs))(hl:kvs.length < sizeLine):DPut H a (kV k) v (upd H a (.dK (fU kvs k v))):=.inl ⟨kvs,k,e,rfl,hl,rfl⟩
theorem DPut.t {H:Hp}{a b:Addr}{kvs:List (List Key×V)}{k:List Key}{v:V}(e:H a=some (.dT kvs))(eb:H b=some (.tup (k.map kV)))(hl:kvs.length < sizeLine) :
 DPut H a (.ref b) v (upd H a (.dT (fU kvs k v))):=.inr ⟨kvs,k,b,e,rfl,eb,hl,rfl⟩
section
variable {X:Cx}{pins:List (Addr×Obj)}{σ:St}{H:Hp}{s:Shared}{a:Addr}{y v:V}{u r:Value}{o:Option V}{A:Around}{E:Value->Shared->Prop}
theorem Inv.big (I:Inv X pins σ H s):sysModules < s.heap.objs.size:=by
 have h:mainGlobals < s.heap.objs.size:=(I.mod.glob.keeps I.bk).lt;exact Nat.lt_trans (by decide) h
theorem yV {Q:Value->Shared->Prop}(hu:A.units+1 < cLine)(I:Inv X pins σ H s)(g:DGet H a y (some v))(ry:RelV y u)(h:∀ w' s',Inv X pins σ H s'->RelV v w'->Q w' s') :
 wpAny (model X.prog X.w) A (getItem (.ref a) u) Q E s:=by
 rcases g with ⟨kvs,k,e,ey,l⟩ | ⟨kvs,k,b,e,ey,eb,l⟩
 ·subst ey;obtain⟨z,hd,vs,rel,dd⟩:=t9 I.hok e;obtain⟨w',hw,rw'⟩:=RelO.some_of (v:=v) (o:=valueAt vs k) (by rw [l];exact rel.val k);exact wpAny_getItem_of (t4 ry) dd.mapOf hw (h w' _ (I.tok _) rw')
 ·subst ey;cases (show u=Value.ref b from ry);obtain⟨z,hd,xs,rel,dd⟩:=wG I.hok e;obtain⟨w',hw,rw'⟩:=RelO.some_of (v:=v) (o:=(atKey xs k).map (·.2)) (by rw [l];exact rel.val k);obtain⟨p,hp,hp2⟩:=agr.mp hw;refine wpAny_getItem_heap (ah6 hu) (oJ I.hok eb) dd hp ?_;rw [hp2];exact h w' _ (I.tok _) rw'
theorem abR {Q:Value->Shared->Prop}(hu:A.units+1 < cLine)(I:Inv X pins σ H s)(g:DGet H a y o)(ry:RelV y u)(h:∀ s',Inv X pins σ H s'->Q (.bool (!o.isSome)) s') :
 wpAny (model X.prog X.w) A (compareOp .NotIn u (.ref a)) Q E s:=by
 rcases g with ⟨kvs,k,e,ey,l⟩ | ⟨kvs,k,b,e,ey,eb,l⟩
 ·subst ey;obtain⟨z,hd,vs,rel,dd⟩:=t9 I.hok e;refine wpAny_notIn_of (t4 ry) hd dd.mapOf ?_;rw [← (rel.val k).isSome_eq,← l];exact h _ (I.tok _)
 ·subst ey;cases (show u=Value.ref b from ry);obtain⟨z,hd,xs,rel,dd⟩:=wG I.hok e;refine wpAny_notIn_heap (ah6 hu) (oJ I.hok eb) hd dd ?_;have q:=(rel.val k).isSome_eq;rw [Option.isSome_map] at q;rw [← q,← l];exact h _ (I.tok _)
theorem jO {h':Heap}{t':Nat}{ob:HO}(I:Inv X pins σ H s)(mu:Mut (H a))(hs:Heap.SameBut a s.heap h')(he:∃ q,h'.get? a=some q)(new:ObjOk X.prog X.w (upd H a ob) h' a ob) :
 Inv X pins σ (upd H a ob) { s with heap:=h',toks:=t' } :=
 I.write (x:=a) (e:=a) mu (.inl rfl) (fun b q hb z=>(hs.2 b hb).trans z) he new
theorem xx {P:Program}{w:World}{H':Hp}{h':Heap}{kvs:List (Key×V)}{vs:List (Key×Value)}(z:kvs.length<=sizeLine)(hd:(a == sysModules)=false)(rel:KV kvs vs)(dd:h'.DictOf (bE P w) a vs) :
 ObjOk P w H' h' a (.dK kvs):=⟨z,hd,vs,rel,dd⟩
theorem xI {H':Hp}{Q:Unit->Shared->Prop}(hu:A.units+1 < cLine)(I:Inv X pins σ H s)(g:DPut H a y v H')(ry:RelV y u)(rv:RelV v r)(h:∀ s',Inv X pins σ H' s'->Q () s') :
 wpAny (model X.prog X.w) A (setItem (.ref a) u r) Q E s:=by
 rcases g with ⟨kvs,k,e,ey,l,eH⟩ | ⟨kvs,k,b,e,ey,eb,l,eH⟩
 ·subst ey eH;obtain⟨z,hd,vs,rel,dd⟩:=aag I.hok e;have hz:vs.length<=sizeLine:=by rw [← rel.length];exact z
  have hl:(fU kvs k v).length<=sizeLine:=by have:=dt kvs k v;lia
  refine wpAny_setItem_pairs (hsz:=hz) (t4 ry) dd fun h' dd' hs=>h _ ?_;have he:∃ q,h'.get? a=some q:=let ⟨q,_,_,hq,_⟩:=dd';⟨q,hq⟩;exact jO I (by rw [e];exact True.intro) hs he (xx hl hd (rel.put k rv) dd')
 ·subst ey eH;cases (show u=Value.ref b from ry);obtain⟨z,hd,xs,rel,dd⟩:=aca I.hok e;have hz:xs.length<=sizeLine:=by rw [← ajE rel];exact z
  have hl:(fU kvs k v).length<=sizeLine:=by have:=dt kvs k v;lia
  refine wpAny_setItem_heap (hsz:=hz) (ah6 hu) (oJ I.hok eb) dd fun h' dd' hs=>h _ ?_;obtain⟨q,es,ep,hq,h2,h3,h4,_,h5⟩:=dd';refine jO I (by rw [e];exact True.intro) hs ⟨q,hq⟩ ⟨hl,hd,_,(rel.put k eb rv).keeps fun c ys ec=>?_,q,es,ep,hq,h2,h3,h4,h5⟩;rw [ah (bU ec e (fun z=>nomatch z))];exact ec
end
section
variable {X:Cx}{pins:List (Addr×Obj)}{σ:St}{H:Hp}{s:Shared}{a:Addr}{kvs:List (Key×V)}{k:Key}{u:Value}{A:Around}{E:Value->Shared->Prop}
theorem adG {Q:Value->Shared->Prop}(I:Inv X pins σ H s)(e:Rd H a (.dK kvs))(h:∀ t s',Inv X pins σ H s'->Q (.int kvs.length t) s'):wpAny (model X.prog X.w) A (call (.builtin "len") [.ref a]) Q E s:=by
 obtain⟨z,hd,vs,rel,dd⟩:=t9 I.hok e;refine call_len_dict hd dd (by rw [← rel.length];rw [sizeLine_eq] at z;lia) ?_;rw [← rel.length];exact h _ _ (I.tok _)
end
def aed (i:Expr):Prop:=∀ ov iv,subscripted i false ov iv=operate [ov,iv] (getItem ov iv)
theorem abX {prog:Program}{w:World}{A:Around}{E:Value->Shared->Prop}{s:Shared}{env:Env}{value slice:Expr}{pos:Pos}{T id:String}{Q:Value->Shared->Prop}
 (hl:typeLookup (.type T) "__getitem__" = pure (some (.builtin id)))(hs:aed slice)
 (h:wpAny (model prog w) A (eval value env) (fun o s₁=>wpAny (model prog w) A (eval slice env) (fun i s₂=>s₂.TypeIs o T/\wpAny (model prog w) A (getItem o i) Q E s₂) E s₁) E s) :
 wpAny (model prog w) A (eval (.Subscript value slice pos) env) Q E s:=by
 refine Subscript_ (afL h (fun o s₁ h₁=>afL h₁ (fun i s₂ h₂=>?_) fun _ _ x=>x) fun _ _ x=>x);obtain⟨hT,h₂⟩:=h₂;unfold subscriptTail;refine aeQ ?_;rw [getitemInPython_of_ne hT.not_modules];refine aeQ (wpAny_specialOf hT hl ?_);have fin:wpAny (model prog w) A (subscripted slice false o i) (fun r s₃=>wpAny (model prog w) A (letTemporaryGo value o r >>= fun _=>pure r) Q E s₃) E s₂:=by
  rw [hs o i];exact wpAny_operating (afL h₂ (fun r s₃ h₃=>aeQ (wpAny_letTemporaryGo (aeX h₃))) fun _ _ x=>x)
 first
  | exact aeX (aeQ fin)
  | exact aeQ (aeX (aeQ fin))
  | exact aeQ fin
theorem t6 {X:Cx}{pins:List (Addr×Obj)}{σ:St}{H:Hp}{s:Shared}{a:Addr}{y:V}{o:Option V}(I:Inv X pins σ H s)(g:DGet H a y o):s.TypeIs (.ref a) "dict" := by
 rcases g with ⟨kvs,k,e,_,_⟩ | ⟨kvs,k,b,e,_,_,_⟩
 ·obtain⟨_,_,vs,_,dd⟩:=t9 I.hok e;exact dd.typeIs
 ·obtain⟨_,_,xs,_,dd⟩:=wG I.hok e;exact dd.typeIs
def adM (td ty:TE):TE:=fun σ H Q=>td σ H fun x H1=>ty σ H1 fun y H2=>∃ a v,x=.ref a/\DGet H2 a y (some v)/\Q v H2
def acf (ty td:TE):TE:=fun σ H Q=>ty σ H fun y H1=>td σ H1 fun x H2=>∃ a o,x=.ref a/\DGet H2 a y o/\Q (.bl (!o.isSome)) H2
def adT (td ty tv:TE):TS:=fun D σ H=>tv σ H fun v H1=>td σ H1 fun x H2=>ty σ H2 fun y H3=>∃ a H4,x=.ref a/\DPut H3 a y v H4/\D.nx σ H4
section
variable {X:Cx}{o i e value:Expr}{pos pos' tpos:Pos}{td ty tv:TE}
theorem gN (hu:X.A.units+1 < cLine)(ho:PE X o td)(hi:PE X i ty)(hs:aed i):PE X (.Subscript o i pos) (adM td ty):=by
 intro pins s σ H Q I h;refine abX PySem.F.slot_dict_getitem.lookup hs (thn (ho pins s σ H _ I h) fun u s1 ⟨x,H1,I1,rx,q1⟩=>thn (hi pins s1 σ H1 _ I1 q1) fun iv s2 ⟨y,H2,I2,ry,a,v,ex,g,q2⟩=>?_);subst ex;obtain rfl:u=Value.ref a:=rx;exact⟨t6 I2 g,yV hu I2 g ry fun w' s3 I3 rw'=>⟨v,H2,I3,rw',q2⟩⟩
theorem lg (hu:X.A.units+1 < cLine)(hi:PE X i ty)(ho:PE X o td):PC X .NotIn i o (acf ty td):=by
 intro pins s σ H Q I h;refine thn (hi pins s σ H _ I h) fun iv s1 ⟨y,H1,I1,ry,q1⟩=>thn (ho pins s1 σ H1 _ I1 q1) fun u s2 ⟨x,H2,I2,rx,a,ov,ex,g,q2⟩=>?_;subst ex;obtain rfl:u=Value.ref a:=rx;exact abR hu I2 g ry fun s3 I3=>⟨.bl (!ov.isSome),H2,I3,rfl,q2⟩
theorem iW (hu:X.A.units+1 < cLine)(ho:PE X o td)(hi:PE X i ty)(hv:PE X value tv)(hs:swapsWith value (some (.Subscript o i pos')) pos.line X.env=pure false) :
 PS X (.Assign [.Subscript o i pos'] value pos) (adT td ty tv):=by
 intro pins s σ H D I h;refine wpAny_Assign_Subscript (thn (hv pins s σ H _ I h) fun r s1 ⟨v,H1,I1,rv,q1⟩=>thn (ho pins s1 σ H1 _ I1 q1) fun u s2 ⟨x,H2,I2,rx,q2⟩=>thn (hi pins s2 σ H2 _ I2 q2) fun iv s3 ⟨y,H3,I3,ry,a,H4,ex,g,q3⟩=>?_) hs;subst ex;obtain rfl:u=Value.ref a:=rx;exact xI hu I3 g ry rv fun s4 I4=>⟨σ,H4,I4,q3⟩
end
theorem vn {P:Program}{w:World}{H:Hp}(h:Heap)(hb:sysModules < h.objs.size):ObjOk P w H (h.push { cls:=.type "dict",data:=.dict #[] }) h.objs.size (.dK []) :=
 ⟨afe _,aiQ.mpr (agM (afm hb)),[],.nil,Heap.DictOf.new h⟩
theorem vj {P:Program}{w:World}{H:Hp}(h:Heap)(hb:sysModules < h.objs.size):ObjOk P w H (h.push { cls:=.type "dict",data:=.dict #[] }) h.objs.size (.dT []) :=
 ⟨afe _,aiQ.mpr (agM (afm hb)),[],.nil,_,#[],0,afd _ rfl,⟨rfl,rfl,rfl⟩,rfl,rfl,ag9⟩
def acN:TE:=fun _ H Q=>∀ p,H p=none->Q (.ref p) (upd H p (.dK []))
def acV:TE:=fun _ H Q=>∀ p,H p=none->Q (.ref p) (upd H p (.dT []))
section
variable {X:Cx}{pos:Pos}
theorem qb:PE X (.Dict [] [] pos) acN:=fun pins s σ H Q I h =>
 wpAny_Dict_empty ⟨.ref s.heap.objs.size,_,I.laid (a:=s.heap.objs.size) (o:=.dK []) (t':=s.toks) (fun _ _ q=>aeV _ q) (ae1 _) (vn s.heap I.big),rfl,h _ (I.hok.fresh (ae1 _))⟩
theorem z7:PE X (.Dict [] [] pos) acV:=fun pins s σ H Q I h =>
 wpAny_Dict_empty ⟨.ref s.heap.objs.size,_,I.laid (a:=s.heap.objs.size) (o:=.dT []) (t':=s.toks) (fun _ _ q=>aeV _ q) (ae1 _) (vj s.heap I.big),rfl,h _ (I.hok.fresh (ae1 _))⟩
end
def aa2:List (TE×TE)->St->Hp->(List (V×V)->Hp->Prop)->Prop
 | [],_,H,Q=>Q [] H
 | (tk,tv)::r,σ,H,Q=>tk σ H fun x H1=>tv σ H1 fun y H2=>aa2 r σ H2 fun ps H3=>Q ((x,y)::ps) H3
abbrev VV:List (V×V)->List (Value×Value)->Prop:=Paired fun p q=>RelV p.1 q.1/\RelV p.2 q.2
def PPs (X:Cx)(pos:Pos)(keys:List (Option Expr))(values:List Expr)(trs:List (TE×TE)):Prop :=
 ∀ (pins:List (Addr×Obj)) (s:Shared) (σ:St) (H:Hp) (Q:List (V×V)->Hp->Prop),Inv X pins σ H s->aa2 trs σ H Q →
  wpAny (model X.prog X.w) X.A (evalPairs (pairTrees keys values X.env pos)) (fun vs s'=>∃ ps H',Inv X pins σ H' s'/\VV ps vs/\Q ps H') X.xe s
theorem abE {X:Cx}{pos:Pos}:PPs X pos [] [] []:=fun pins s σ H Q I h=>pairTrees_nil_walk ⟨[],H,I,.nil,h⟩
theorem zj {X:Cx}{pos:Pos}{k v:Expr}{ks:List (Option Expr)}{vs:List Expr}{tk tv:TE}{trs:List (TE×TE)}(hk:PE X k tk)(hv:PE X v tv)(hr:PPs X pos ks vs trs) :
 PPs X pos (some k::ks) (v::vs) ((tk,tv)::trs):=fun pins s σ H Q I h =>
 pairTrees_cons_walk (thn (hk pins s σ H _ I h) fun u s1 ⟨x,H1,I1,rx,q1⟩=>thn (hv pins s1 σ H1 _ I1 q1) fun w2 s2 ⟨y,H2,I2,ry,q2⟩ =>
  thn (hr pins s2 σ H2 _ I2 q2) fun ws s3 ⟨ps,H3,I3,rel,q3⟩=>⟨(x,y)::ps,H3,I3,.cons ⟨rx,ry⟩ rel,q3⟩)
structure M1 (X:Cx)(o:Expr)(m:Str)(apos:Pos)(e:Expr)(cpos:Pos):Prop where
 base:attributeBase o m X.env (eval o X.env)=eval o X.env
 few:((backTo cpos (starEach [e] X.env)).all (fun x=>!x.1) && (backToKw cpos (keywordEach [] X.env)).all (fun x=>x.1.isSome)
  && decide (([e]:List Expr).length+([]:List Keyword).length+(if ([]:List Keyword).isEmpty then 0 else 1) < 30))=true
 line:(apos.endLine == cpos.line)=true
 trees:backTo cpos (starEach [e] X.env)=[(false,eval e X.env)]
structure M2 (X:Cx)(o:Expr)(m:Str)(apos:Pos)(e f:Expr)(cpos:Pos):Prop where
 base:attributeBase o m X.env (eval o X.env)=eval o X.env
 few:((backTo cpos (starEach [e,f] X.env)).all (fun x=>!x.1) && (backToKw cpos (keywordEach [] X.env)).all (fun x=>x.1.isSome)
  && decide (([e,f]:List Expr).length+([]:List Keyword).length+(if ([]:List Keyword).isEmpty then 0 else 1) < 30))=true
 line:(apos.endLine == cpos.line)=true
 trees:backTo cpos (starEach [e,f] X.env)=[(false,eval e X.env),(false,eval f X.env)]
def IsD (H:Hp)(a:Addr):Prop:=(∃ kvs,Rd H a (.dK kvs))\/∃ kvs,Rd H a (.dT kvs)
theorem acM {X:Cx}{pins:List (Addr×Obj)}{σ:St}{H:Hp}{s:Shared}{a:Addr}(I:Inv X pins σ H s)(d:IsD H a) :
 s.TypeIs (.ref a) "dict" ∧ (∀ b,Value.ref a=.ref b->∃ ob,s.heap.get? b=some ob/\ob.dict=none)/\(a == sysModules)=false:=by
 rcases d with ⟨kvs,e⟩ | ⟨kvs,e⟩
 ·obtain⟨_,hd,vs,_,dd⟩:=t9 I.hok e;refine⟨dd.typeIs,fun b q=>?_,hd⟩;cases q;obtain⟨ob,_,_,h1,h2,_⟩:=dd;exact⟨ob,h1,h2.2.1⟩
 ·obtain⟨_,hd,xs,_,dd⟩:=wG I.hok e;refine⟨dd.typeIs,fun b q=>?_,hd⟩;cases q;obtain⟨ob,_,_,h1,h2,_⟩:=dd;exact⟨ob,h1,h2.2.1⟩
section
variable {X:Cx}{pins:List (Addr×Obj)}{σ:St}{H:Hp}{s:Shared}{a:Addr}{y d:V}{u r:Value}{o:Option V}{A:Around}{E:Value->Shared->Prop}
theorem adm {Q:Value->Shared->Prop}(hu:A.units+1 < cLine)(I:Inv X pins σ H s)(g:DGet H a y o)(ry:RelV y u)(rd:RelV d r)(h:∀ w' s',Inv X pins σ H s'->RelV (o.getD d) w'->Q w' s') :
 wpAny (model X.prog X.w) A (call (.builtin "dict.get") [.ref a,u,r]) Q E s:=by
 rcases g with ⟨kvs,k,e,ey,l⟩ | ⟨kvs,k,b,e,ey,eb,l⟩
 ·subst ey;obtain⟨z,hd,vs,rel,dd⟩:=t9 I.hok e;refine call_meetsIn aip dd.typeIs aj1 (ajG _ _ _) (meets_dict_get_default (bE X.prog X.w) a (t4 ry) hd r) ⟨_,dd.mapOf,h _ _ (I.tok _) ?_⟩;rw [l];exact (rel.val k).getD rd
 ·subst ey;cases (show u=Value.ref b from ry);obtain⟨z,hd,xs,rel,dd⟩:=wG I.hok e;refine call_meetsIn aip dd.typeIs aj1 (ajG _ _ _) (meetsH_dict_get_default (tupleKind (bE X.prog X.w)) a b hd r) ⟨ah6 hu,k,xs,oJ I.hok eb,dd,h _ _ (I.tok _) ?_⟩;rw [l];exact (rel.val k).getD rd
end
def acI (td ty tx:TE):TE:=fun σ H Q=>td σ H fun x H1=>∃ a,x=.ref a/\IsD H1 a/\ty σ H1 fun y H2=>tx σ H2 fun z H3=>∃ o,DGet H3 a y o/\Q (o.getD z) H3
section
variable {X:Cx}{o e f:Expr}{apos cpos:Pos}{td ty tx:TE}
theorem iE (hu:X.A.units+1 < cLine)(ho:PE X o td)(he:PE X e ty)(hf:PE X f tx)(m:M2 X o "get" apos e f cpos):PE X (.Call (.Attribute o "get" apos) [e,f] [] cpos) (acI td ty tx):=by
 intro pins s σ H Q I h;refine wpAny_Call_method m.base m.few m.line ajH aip PySem.F.type_dict_get (thn (ho pins s σ H _ I h) fun u s1 ⟨x,H1,I1,rx,a,ex,d,q1⟩=>?_);subst ex;obtain rfl:u=Value.ref a:=rx;obtain⟨t1,t2,_⟩:=acM I1 d;refine⟨t1,t2,?_⟩;rw [m.trees];refine ahz rfl (aiB (ahA (thn (he pins s1 σ H1 _ I1 q1) fun iv s2 ⟨y,H2,I2,ry,q2⟩ =>
  ahA (thn (hf pins s2 σ H2 _ I2 q2) fun fv s3 ⟨z,H3,I3,rz,ov,g,q3⟩=>aii ?_))))
 exact adm hu I3 g ry rz fun w' s4 I4 rw'=>⟨_,H3,I4,rw',q3⟩
end
section
variable {X:Cx}{pins:List (Addr×Obj)}{σ:St}{H:Hp}{s:Shared}{a:Addr}{kvs:List (Key×V)}{A:Around}{E:Value->Shared->Prop}
end
section
variable {X:Cx}{pins:List (Addr×Obj)}{σ:St}{H:Hp}{s:Shared}{a:Addr}{y:V}{u:Value}{A:Around}{E:Value->Shared->Prop}
end
def pH (env:Env):List (Str×NameKind)->List (Str×Addr)->List (Str×Addr)
 | [],cs=>cs
 | (n,k)::r,cs=>pH env r (if k=.free then (n,(env.cells.lookup n).getD 0)::cs else cs)
theorem yZ {env:Env}:∀ (ns:List (Str×NameKind)) (cs:List (Str×Addr)),(∀ x∈ns,x.2=.free->∃ c,env.cells.lookup x.1=some c) →
 (forIn (m:=Sem) ns cs fun (x:Str×NameKind) (r:List (Str×Addr))=>(if (x.2 == .free)=true then (do let a ← cellOf env x.1;pure (ForInStep.yield ((x.1,a)::r))) else pure (ForInStep.yield r)))=pure (pH env ns cs)
 | [],cs,_=>by simp [pH]
 | (n,k)::r,cs,h=>by
  have ih:=fun cs=>yZ r cs fun x hx=>h x (ae6 _ hx);rw [ah7];by_cases hk:k=.free
  ·subst hk;obtain⟨c,hc⟩:=h (n,.free) ae0 rfl;have e1:cellOf env n=pure c:=by unfold cellOf;rw [hc]
   have hb:(NameKind.free == NameKind.free)=true:=rfl;simp only [hb,ahy,e1,pure_bind,pH,hc,ajQ];exact ih _
  ·have hb:(k == NameKind.free)=false:=by simpa using hk
   simp only [hb,afA,agF,pure_bind,pH,if_neg hk];exact ih _
theorem uQ {env:Env}:∀ (ns:List (Str×NameKind)) (cs:List (Str×Addr)) (x:Str) (c:Addr),(∀ x∈ns,x.2=.free->∃ c,env.cells.lookup x.1=some c)->(pH env ns cs).lookup x=some c->cs.lookup x=some c\/env.cells.lookup x=some c
 | [],cs,x,c,_,e=>.inl e
 | (n,k)::r,cs,x,c,h,e=>by
  have ih:=uQ r (if k=.free then (n,(env.cells.lookup n).getD 0)::cs else cs) x c (fun x hx=>h x (ae6 _ hx)) e;rcases ih with ih | ih
  ·by_cases hk:k=.free
   ·subst hk;rw [if_pos rfl] at ih;obtain⟨d,hd⟩:=h (n,.free) ae0 rfl;have hd':env.cells.lookup n=some d:=hd;rw [hd'] at ih;rw [ais] at ih;cases hx:x == n with
    | true =>
     rw [hx] at ih;have:x=n:=by simpa using hx
     subst this;right;rw [hd'];exact ih
    | false =>
     rw [hx] at ih;exact .inl ih
   ·rw [if_neg hk] at ih;exact .inl ih
  ·exact .inr ih
theorem rf {env:Env}:∀ (ns:List (Str×NameKind)) (cs:List (Str×Addr)) (x:Str),(∃ c,cs.lookup x=some c)->∃ c,(pH env ns cs).lookup x=some c
 | [],_,_,h=>h
 | (n,k)::r,cs,x,h=>by
  refine rf r _ x ?_;split
  ·rw [ais];split
   ·exact⟨_,rfl⟩
   ·exact h
  ·exact h
theorem pP {env:Env}:∀ (ns:List (Str×NameKind)) (cs:List (Str×Addr)) (x:Str),(x,NameKind.free)∈ns->∃ c,(pH env ns cs).lookup x=some c
 | [],_,_,h=>nomatch h
 | (n,k)::r,cs,x,h=>by
  rcases ae7.mp h with e | h
  ·cases e;refine rf r _ _ ⟨(env.cells.lookup n).getD 0,?_⟩;rw [if_pos rfl,ais,ahX]
  ·exact pP r _ x h
theorem ij {scope:Scope}{env:Env}(h:∀ x∈scope.names,x.2=.free->∃ c,env.cells.lookup x.1=some c):closureFor scope env=pure (pH env scope.names []):=by
 have e:=yZ scope.names [] h;unfold closureFor;simp only [] at e ⊢;rw [e]
 rfl
theorem lS {scope:Scope}{env:Env}{x:Str}{k:NameKind}:(relabel scope env).names.lookup x=some k->∃ k',(x,k')∈scope.names/\(k=k'\/(k'=.free/\k=.cell)):=by
 intro h;have all:∀ (ns:List (Str×NameKind)),(ns.map fun (n,k)=>if (k == NameKind.free && env.scope.kind == .function && env.kindOf n == some .cell) then (n,NameKind.cell) else (n,k)).lookup x=some k->∃ k',(x,k')∈ns/\(k=k'\/(k'=.free/\k=.cell)):=by
  intro ns
  induction ns with
  | nil=>intro h;simp at h
  | cons y r ih =>
   obtain⟨n,k'⟩:=y;intro h;rw [afb,ais] at h;by_cases hc:(k' == NameKind.free && env.scope.kind == .function && env.kindOf n == some .cell)=true
   ·simp only [hc,ahy] at h;cases hx:x == n with
    | true =>
     rw [hx] at h;have e:x=n:=by simpa using hx
     subst e;have hk:k'=.free:=by
      simp only [afV] at hc;simpa using hc.1.1
     exact⟨k',ae0,.inr ⟨hk,(afW h).symm⟩⟩
    | false =>
     rw [hx] at h;obtain⟨k2,h1,h2⟩:=ih h;exact⟨k2,ae6 _ h1,h2⟩
   ·simp only [hc,afA,agF] at h;cases hx:x == n with
    | true =>
     rw [hx] at h;have e:x=n:=by simpa using hx
     subst e;exact⟨k',ae0,.inl (afW h).symm⟩
    | false =>
     rw [hx] at h;obtain⟨k2,h1,h2⟩:=ih h;exact⟨k2,ae6 _ h1,h2⟩
 exact all scope.names h
def Cx.comp (X:Cx)(scope:Scope)(N':List Str)(C:Addr)(fp:List Addr)(s₀:Shared)(H₀:Hp):Cx :=
 { X with N:=N',s₀:=s₀,H₀:=H₀,env:=compEnvC scope (pH X.env scope.names []) C X.env,outer:=X.stack,stack:=X.stack,ex:=fp,fn:=fun _=>false,pn:=[],xe:=fun _ _=>False }
structure CompScope (X:Cx)(scope:Scope):Prop where
 kind:scope.kind=.function
 nocell:∀ x∈scope.names,x.2≠.cell
 loc:∀ x∈scope.names,x.2=.local->scope.names.lookup x.1=some .local
 free:∀ x∈scope.names,x.2=.free->X.env.kindOf x.1=some .cell
section
variable {X:Cx}{pins:List (Addr×Obj)}{σ:St}{H:Hp}{s:Shared}{scope:Scope}{N':List Str}{fp:List Addr}
theorem CompScope.cells (S:CompScope X scope)(ok:X.Ok):∀ x∈scope.names,x.2=.free->∃ c,X.env.cells.lookup x.1=some c:=fun x hx hk=>ok.has x.1 (.inl (S.free x hx hk))
theorem CompScope.sub (S:CompScope X scope)(ok:X.Ok){x:Str}{c:Addr}(e:(pH X.env scope.names []).lookup x=some c):X.env.cells.lookup x=some c:=by
 rcases uQ scope.names [] x c (S.cells ok) e with h | h
 ·cases h
 ·exact h
theorem CompScope.ok (S:CompScope X scope)(I:Inv X pins σ H s)(hf:∀ b∈fp,oh X pins H b)(ho:∀ b∈fp,b < s.heap.objs.size):(X.comp scope N' s.heap.objs.size fp s H).Ok where
 mod:=I.ok.mod
 kind:=S.kind
 glob:=I.ok.glob
 blt:=I.ok.blt
 above:=ae1 _
 inj:=fun x y c e1 e2=>I.ok.inj x y c (S.sub I.ok e1) (S.sub I.ok e2)
 has:=fun x hx=>by
  have hx':(relabel scope X.env).names.lookup x=some .cell\/(relabel scope X.env).names.lookup x=some .free:=hx;have fr:(x,NameKind.free)∈scope.names:=by
   rcases hx' with h | h
   ·obtain⟨k',h1,h2⟩:=lS h;rcases h2 with h2 | ⟨h2,_⟩
    ·subst h2;exact absurd rfl (S.nocell _ h1)
    ·subst h2;exact h1
   ·obtain⟨k',h1,h2⟩:=lS h;rcases h2 with h2 | ⟨h2,h3⟩
    ·subst h2;exact h1
    ·cases h3
  exact pP scope.names [] x fr
 cab:=fun x c h _=>by cases h
 hd:=I.ok.hd
 frames:=I.ok.frames
 stk:=.inl rfl
 exf:=fun b hb=>⟨afm (ho b hb),fun x c e=>(hf b hb).2.2.2.2.1 x c (S.sub I.ok e)⟩
 bs:=I.bs
 bsz:=aft I.ok.bsz I.sz
 noex:=fun b o e hb=>by
  rcases (hf b hb).2.2.2.1 with h | h
  ·exact I.ok.noex b o e h
  ·exact absurd (afg (ae8 e) (aft I.ok.bsz h)) (ag4 _)
 exfs:=fun b hb hs=>by
  rcases ae7.mp (I.stkSub b hs) with h | h
  ·exact (hf b hb).2.1 h
  ·exact (hf b hb).2.2.1 h
 funs:=I.stack
 frf:=I.stkFree
def cn (nl:Nat)(ix:List Nat)(σ:St):St:=List.replicate nl none++ix.map fun j=>(σ[j]?).join
structure acu (X:Cx)(scope:Scope)(N':List Str)(nl:Nat)(ix:List Nat):Prop where
 len:N'.length=nl+ix.length
 at':∀ (k j:Nat),ix[k]? = some j->∃ x,X.N[j]? = some x/\N'[nl+k]? = some x/\X.env.kindOf x=some .cell/\(relabel scope X.env).names.lookup x=some .cell/\(x,NameKind.free)∈scope.names
theorem kW {nl:Nat}{ix:List Nat}{h1:Heap}{tk:Nat}(S:CompScope X scope)(Cp:acu X scope N' nl ix)(I:Inv X pins σ H s)(hf:∀ b∈fp,oh X pins H b)(ho:∀ b∈fp,b < s.heap.objs.size)
 (hn:h1.Ns s.heap.objs.size (fun _=>none))(hk:∀ b o,s.heap.get? b=some o->h1.get? b=some o):Inv (X.comp scope N' s.heap.objs.size fp s H) [] (cn nl ix σ) H { s with heap:=h1,toks:=tk }:=by
 have ok:=S.ok (N':=N') I hf ho;refine⟨ok,rfl,I.bare,Un.kept hk,⟨_,hn,fun i x v e1 e2 e3=>?_⟩,fun x c e=>?_,I.hok.fresh (ae1 _),fun x c e=>I.freeC x c (S.sub I.ok e),fun p hp=>by simp [Cx.comp] at hp,I.hok.kept hk,?_⟩
 ·unfold cn at e2;rw [List.getElem?_append] at e2;split at e2
  ·rw [ah3] at e2;split at e2<;>simp at e2
  ·rename_i hi;rw [agf] at hi e2;rw [aeZ] at e2;cases ej:ix[i - nl]? with
   | none=>rw [ej] at e2;simp at e2
   | some j =>
    rw [ej] at e2;have e2':(σ[j]?).join=some v:=by simpa using e2
    have e2'':σ[j]? = some (some v):=by
     cases q:σ[j]? with
     | none=>rw [q] at e2';simp at e2'
     | some z=>rw [q] at e2';simp at e2';rw [e2']
    obtain⟨x',a1,a2,a3,a4,a5⟩:=Cp.at' _ _ ej;have hi2:nl+(i - nl)=i:=by lia
    rw [hi2] at a2;have e1':N'[i]? = some x:=e1;rw [a2] at e1';cases e1';obtain⟨m,hm,hl⟩:=I.loc;obtain⟨u,r,l⟩:=hl j x v a1 e2'' (.inr (.inl a3));refine⟨u,r,?_⟩;rcases l with ⟨k,_⟩ | ⟨_,c,ec,z⟩
    ·rw [k] at a3;cases a3
    ·obtain⟨c',hc'⟩:=pP (env:=X.env) scope.names [] x a5;have ec':=S.sub I.ok hc';rw [ec] at ec';cases ec';obtain⟨o,ho',hd⟩:=z;exact .inr ⟨.inl a4,c,hc',o,hk _ _ ho',hd⟩
 ·obtain⟨v,o,ho',hd⟩:=I.cell x c (S.sub I.ok e);exact⟨v,o,hk _ _ ho',hd⟩
 ·show (cn nl ix σ).length=N'.length;unfold cn;rw [aeR,agf,aeP,Cp.len]
theorem jw {H':Hp}{σ':St}{pins':List (Addr×Obj)}{s':Shared}{h':Heap}(I:Inv X pins σ H s)(hf:∀ b∈fp,oh X pins H b)
 (I':Inv (X.comp scope N' s.heap.objs.size fp s H) pins' σ' H' s')(hs:Heap.SameBut s.heap.objs.size s'.heap h'):Inv X pins σ H' { s' with heap:=h' }:=by
 have lo:∀ b o,s.heap.get? b=some o->b≠s.heap.objs.size:=fun b o e=>afm (ae8 e);have B:=I'.base;refine I.call' (ch:=fp) (show s'.os=s.os from I'.os) ⟨fun b o e n hb hx=>?_,fun b o e n hb hx=>?_,fun b o e n hx=>B.free b o e n hx,fun b o e hx=>?_,B.tups,B.frzs,B.tbls⟩ (fun b u e=>?_) I'.bare fun b hb=>⟨(hf b hb).2.2.2.1,(hf b hb).2.1,(hf b hb).2.2.2.2.1,(hf b hb).2.2.2.2.2⟩
 ·exact (hs.2 b (lo b o e)).trans (B.keep b o e n hb hx)
 ·obtain⟨sl,q⟩:=B.slot b o e n hb hx;exact⟨sl,(hs.2 b (lo b o e)).trans q⟩
 ·obtain⟨o',q⟩:=B.there b o e hx;exact⟨o',(hs.2 b (lo b o e)).trans q⟩
 ·have nl:H' s.heap.objs.size=none:=I'.free;refine (I'.hok b u e).stay (fun c v hc q=>(hs.2 c ?_).trans q) (fun _ q=>q) fun _ _ q=>q;rintro rfl;rcases hc with z | z
  ·rw [← z,nl] at e;cases e
  ·rw [nl] at z;cases z
end
def PIf (X:Cx)(ifs:List Expr)(t:TT):Prop :=
 ∀ (pins:List (Addr×Obj)) (s:Shared) (σ:St) (H:Hp) (Q:Bool->Hp->Prop),Inv X pins σ H s->t σ H Q →
  wpAny (model X.prog X.w) X.A (forIn ifs true fun c r=>if r=true then do let ok ← isTrue c X.env (eval c X.env);pure (ForInStep.yield ok) else pure (ForInStep.yield r)) (TP X pins σ Q) X.xe s
def xj:TT:=fun _ H Q=>Q true H
theorem bX {X:Cx}:PIf X [] xj:=fun _ _ _ H _ I h=>wpAny_tests_nil ⟨H,I,h⟩
theorem dM {X:Cx}{c:Expr}{t:TT}(h:PT X c t):PIf X [c] t:=fun pins s σ H Q I hw=>wpAny_tests_one (h pins s σ H Q I hw)
section
variable {prog:Program}{w:World}{A:Around}{R:Result->Shared->Prop}{s:Shared}
theorem oM {elt target iter:Expr}{ifs:List Expr}{scope:Scope}{pos:Pos}{it acc:Value}{env:Env}(I:Nat->Shared->Prop)
 (turn:∀ n s,I n s->wpAny (model prog w) A (pyNext it) (fun r s₁=>match r with
  | none=>R (.ok .next) s₁
  | some v=>wpAny (model prog w) A (letOwnedTupleGo target it v) (fun _ s₁'=>wpAny (model prog w) A (assign target env v) (fun _ s₂ =>
   wpAny (model prog w) A (forIn ifs true fun c r=>if r=true then do let ok ← isTrue c env (eval c env);pure (ForInStep.yield ok) else pure (ForInStep.yield r)) (fun ok s₃ =>
    if ok=true then wpAny (model prog w) A (eval elt env) (fun x s₄ =>
     wpAny (model prog w) A (call (.builtin "list.append") [acc,x]) (fun _ s₅=>∃ m,m < n/\I m s₅) (fun _ _=>False) s₄) (fun _ _=>False) s₃
    else ∃ m,m < n/\I m s₃) (fun _ _=>False) s₂) (fun _ _=>False) s₁') (fun _ _=>False) s₁) (fun _ _=>False) s)
 (n:Nat)(h:I n s) :
 codeAny (model prog w) A (.compLoop (.ListComp elt [⟨target,iter,ifs,0⟩] scope pos) 0 it acc env) R s:=by
 have no:∀ {E:Value->Shared->Prop} (x:Value) (s:Shared),False->E x s:=fun _ _ z=>z.elim;refine codeAny_loop rfl I (fun n s hI=>?_) n h;show wpAny _ A ((compTurn (.ListComp elt [⟨target,iter,ifs,0⟩] scope pos) 0 it acc env).onRaise (fun x=>do noteFrame x env;theTreesLotGoes x)) _ _ s;refine wpAny_noted ?_;rw [compTurn_list];refine aeQ (agD (aeQ (afL (turn n s hI) (fun r s₁ h₁=>?_) no)));cases r with
 | none=>exact aeX h₁
 | some v =>
  refine aeQ (afL h₁ (fun _ s₁' h₁'=>aeQ (afL h₁' (fun _ s₂ h₂=>aeQ (afL h₂ (fun ok s₃ h₃=>?_) no)) no)) no);cases ok with
  | false=>exact aeX ⟨rfl,h₃⟩
  | true =>
   exact aeQ (aeQ (afL h₃ (fun x s₄ h₄=>aeQ (afL h₄ (fun _ s₅ h₅=>aeX (aeX ⟨rfl,h₅⟩)) no)) no))
end
def qX (nl:Nat)(ix:List Nat)(wi:TI)(g:TG)(tf:TT)(te:TE):TE:=fun σ H Q=>wi σ H fun J H1=>∀ D,H1 D=none->∃ W:Nat->Nat->List V->Hp->Prop,(∃ m,W 0 m [] (upd H1 D (.lst []))) ∧
 ∀ i m ys H2,W i m ys H2->H2 D=some (.lst ys)/\((J.stop i H2/\Q (.ref D) H2)\/(J.go i H2/\∀ x H3,J.yld i H2 x H3->g x (cn nl ix σ) H3 fun σ4 H4=>(σ4.length=(cn nl ix σ).length/\σ4.drop nl=ix.map fun j=>(σ[j]?).join)/\tf σ4 H4 fun b H5 =>
  if b=true then te σ4 H5 fun y H6=>H6 D=some (.lst ys)/\ys.length < sizeLine/\∃ m',m' < m/\W (i+1) m' (ys++[y]) (upd H6 D (.lst (ys++[y]))) else ∃ m',m' < m/\W (i+1) m' ys H5))
theorem jy {X:Cx}{pins:List (Addr×Obj)}{σ σ4:St}{H:Hp}{s:Shared}{nl:Nat}{ix:List Nat}(I:Inv X pins σ4 H s)(hl:σ4.length=(cn nl ix σ).length)(hd:σ4.drop nl=ix.map fun j=>(σ[j]?).join):Inv X pins (cn nl ix σ) H s:=by
 refine I.weak hl.symm fun i v e=>?_;unfold cn at e;rw [List.getElem?_append] at e;split at e
 ·rw [ah3] at e;split at e<;>simp at e
 ·rename_i hi;rw [agf] at hi e;rw [← hd,List.getElem?_drop] at e;have hi2:nl+(i - nl)=i:=by lia
  rw [hi2] at e;exact e
section
variable {X:Cx}
theorem jo {elt tg iter:Expr}{ifs:List Expr}{scope:Scope}{pos:Pos}{N':List Str}{nl:Nat}{ix:List Nat}{wi:TI}{g:TG}{tf:TT}{te:TE}(hc:X.calm=true)(S:CompScope X scope)(Cp:acu X scope N' nl ix)(hi:PI X tg iter wi)
 (hg:∀ C fp s₀ H₀,PG (X.comp scope N' C fp s₀ H₀) tg g)(hf:∀ C fp s₀ H₀,PIf (X.comp scope N' C fp s₀ H₀) ifs tf)(he:∀ C fp s₀ H₀,PE (X.comp scope N' C fp s₀ H₀) elt te)
 (hs:∀ x,foldedSetIterable iter X.env x=pure x:=by intro _;rfl):PE X (.ListComp elt [⟨tg,iter,ifs,0⟩] scope pos) (qX nl ix wi g tf te):=by
 intro pins s σ H Q I h;rw [eval_ListComp];refine ahe (use:=none) (cl:=pH X.env scope.names []) rfl hs (ij (S.cells I.ok)) S.kind S.loc ?_;refine thn (hi pins s σ H _ I h) fun v s1 h1=>thn h1 fun itv s2 h2=>?_;obtain⟨it,fp,tn,J,H2,rfl,I2,T,st2,f2,h2⟩:=h2;obtain⟨W,⟨m0,w0⟩,turn⟩:=h2 s2.heap.objs.size I2.fresh;refine af2 (ahQ S.nocell (by intro y hy;simp at hy) (fun h₁ hns₁ hsb₁=>?_) S.kind);dsimp only at hns₁ hsb₁ ⊢;have fpo:∀ b∈fp,b < s2.heap.objs.size:=fun b hb=>by
  obtain⟨o,e,_⟩:=T.obj 0 _ st2 b hb;exact ae8 e
 have I3:Inv X pins σ (upd H2 s2.heap.objs.size (.lst [])) { s2 with heap:=s2.heap.push { cls:=.type "list",data:=.seq ([]:List Value).toArray },toks:=s2.toks }:=I2.lnew .nil (afe _);have hD:(upd H2 s2.heap.objs.size (.lst [])) s2.heap.objs.size=some (.lst []):=ag;have f3:∀ b∈fp,oh X pins (upd H2 s2.heap.objs.size (.lst [])) b:=fun b hb=>by
  refine⟨?_,(f2 b hb).2⟩;rw [ah (afm (fpo b hb))];exact (f2 b hb).1
 generalize hS3:s2.heap.push { cls:=.type "list",dict:=none,data:=.seq ([]:List Value).toArray }=g3 at hns₁ hsb₁ I3 ⊢;have sz3:g3.objs.size=s2.heap.objs.size+1:=by rw [← hS3,agC]
 have fpo3:∀ b∈fp,b < ({ s2 with heap:=g3,toks:=s2.toks }:Shared).heap.objs.size:=fun b hb=>by
  show b < g3.objs.size;rw [sz3];exact agn (fpo b hb)
 have old:∀ b o,g3.get? b=some o->h₁.get? b=some o:=fun b o e=>hsb₁.extBut b o (afm (ae8 e)) (aeV _ e);have I4:=kW (tk:=s2.toks+([]:List (Str×Value)).length) S Cp I3 f3 fpo3 hns₁ old;generalize hX:X.comp scope N' g3.objs.size fp { s2 with heap:=g3,toks:=s2.toks } (upd H2 s2.heap.objs.size (.lst []))=X' at *;have hPr:X'.prog=X.prog:=by rw [← hX];rfl
 have hWr:X'.w=X.w:=by rw [← hX];rfl
 have hKr:X'.K=X.K:=by rw [← hX];rfl
 have hAr:X'.A=X.A:=by rw [← hX];rfl
 have hCa:X'.calm=true:=by rw [← hX];exact hc
 have hXe:X'.xe=fun _ _=>False:=by rw [← hX];rfl
 have hEx:X'.ex=fp:=by rw [← hX];rfl
 have hPn:X'.pn=[]:=by rw [← hX];rfl
 have hLo:X'.env.locals=g3.objs.size:=by rw [← hX];rfl
 have hEn:X'.env=compEnvC scope (pH X.env scope.names []) g3.objs.size X.env:=by rw [← hX];rfl
 have hg':=hg g3.objs.size fp { s2 with heap:=g3,toks:=s2.toks } (upd H2 s2.heap.objs.size (.lst []));have hf':=hf g3.objs.size fp { s2 with heap:=g3,toks:=s2.toks } (upd H2 s2.heap.objs.size (.lst []));have he':=he g3.objs.size fp { s2 with heap:=g3,toks:=s2.toks } (upd H2 s2.heap.objs.size (.lst []));rw [hX] at hg' hf' he';have I4':Inv X' [] (cn nl ix σ) (upd H2 s2.heap.objs.size (.lst [])) { s2 with heap:=h₁,toks:=s2.toks+([]:List (Str×Value)).length }:=I4;have back:∀ {H':Hp} {σ':St} {pins':List (Addr×Obj)} {s':Shared} {h':Heap},Inv X' pins' σ' H' s'->Heap.SameBut g3.objs.size s'.heap h'->Inv X pins σ H' { s' with heap:=h' }:=fun I' sb=>by
  subst hX;exact jw I3 f3 I' sb
 have stat:∀ {H':Hp},(∀ b∈fp,H' b=none)->∀ b∈fp,oh X' [] H' b:=fun hn b hb=>by
  refine⟨hn b hb,?_,?_,.inl (by rw [hEx];exact hb),?_,fun p hp=>by rw [hPn] at hp;cases hp⟩
  ·rw [hLo];exact afm (fpo3 b hb)
  ·exact I4'.ok.exfs b (by rw [hEx];exact hb)
  ·exact (I4'.ok.exf b (by rw [hEx];exact hb)).2
 have loop:codeAny (model X.prog X.w) X.A (.compLoop (.ListComp elt [⟨tg,iter,ifs,0⟩] scope pos) 0 (.ref it) (.ref s2.heap.objs.size) X'.env)
  (compPost (model X.prog X.w) X.A X.xe none (EP X pins σ Q) (.ref s2.heap.objs.size) g3.objs.size) { s2 with heap:=h₁,toks:=s2.toks+([]:List (Str×Value)).length }:=by
  rw [← hPr,← hWr,← hAr];refine oM (fun n s'=>∃ i ys H',Inv X' [] (cn nl ix σ) H' s'/\tn i s'.heap/\(∀ b∈fp,H' b=none)/\W i n ys H') ?_ m0
   ⟨0,[],_,I4',T.keep _ _ _ st2 (fun b hb o e=>old b o (by rw [← hS3];exact aeV _ e)),fun b hb=>(f3 b hb).1,w0⟩
  rintro n s5 ⟨i,ys,H5,I5,st5,fr5,w5⟩;obtain⟨hD5,alt⟩:=turn i n ys H5 w5;rcases alt with ⟨stop,qn⟩ | ⟨go,step⟩
  ·rw [hPr,hWr];refine thn (T.done X' hPr hWr hKr hCa i [] s5 _ H5 _ I5 (stat fr5) st5 stop) fun r s6 ⟨hr,I6⟩=>?_;subst hr;obtain⟨m,hn,_⟩:=I6.loc;rw [hLo] at hn;exact⟨m,hn,fun h' sb=>⟨.ref s2.heap.objs.size,H5,back I6 sb,rfl,qn⟩⟩
  ·have it5:=T.item X' hPr hWr hKr hCa i [] s5 _ H5 (fun _ _=>False) I5 (stat fr5) st5 go;rw [← hPr,← hWr] at it5;refine thn it5 fun r s6 ⟨u,hr,h6⟩=>?_;subst hr;refine thn h6 fun _ s7 ⟨x,H7,I7,r7,y7,st7,fr7⟩=>?_;have I7':=I7.pinned (stat fr7) (T.obj _ _ st7);have g7:=hg' _ s7 _ H7 x u _ I7' r7 (step x H7 y7);rw [hXe] at g7;refine thn g7 fun _ s8 ⟨σ8,H8,I8,⟨hl8,hd8⟩,q8⟩=>?_;have f8:=hf' _ s8 σ8 H8 _ I8 q8;rw [hXe] at f8;refine thn f8 fun ok s9 ⟨H9,I9,q9⟩=>?_;have again:∀ {H10:Hp} {s10:Shared} {ys':List V},Inv X' ([]++ku fp s7.heap) σ8 H10 s10->(∃ m',m' < n/\W (i+1) m' ys' H10)->∃ m,m < n/\∃ i ys H',Inv X' [] (cn nl ix σ) H' s10/\tn i s10.heap/\(∀ b∈fp,H' b=none)/\W i m ys H':=fun {H10 s10 ys'} I10 ⟨m',hm,w'⟩=>by
    refine⟨m',hm,i+1,ys',H10,jy I10.unpinned hl8 hd8,T.keep _ _ _ st7 fun b hb o e=>(I10.pin (b,o) (aeW _ (aeW _ (bW hb e)))).1,fun b hb=>?_,w'⟩;obtain⟨o,e,d⟩:=T.obj _ _ st7 b hb;exact (I10.pin (b,o) (aeW _ (aeW _ (bW hb e)))).2.1
   cases ok with
   | false =>
    rw [if_neg aeY] at q9 ⊢;exact again I9 q9
   | true =>
    rw [if_pos rfl] at q9 ⊢;have e9:=he' _ s9 σ8 H9 _ I9 q9;rw [hXe] at e9;refine thn e9 fun xv s10 ⟨y,H10,I10,r10,hD10,hz,mw⟩=>?_;have a10:=bJ (X:=X') _ s10 σ8 H10 (.ref s2.heap.objs.size) [y] _ [xv] (fun _ H'=>H'=upd H10 s2.heap.objs.size (.lst (ys++[y]))) I10 rfl (.cons r10 .nil) ⟨_,ys,y,rfl,rfl,hD10,hz,rfl⟩;rw [hXe] at a10;refine thn a10 fun _ s11 ⟨_,H11,I11,_,e11⟩=>?_;subst e11;exact again I11 mw
 rw [hEn] at loop;exact codeAny_compStart_list loop (T.self _ 0 _ _ _ (T.keep _ _ _ st2 (fun b hb o e=>old b o (by rw [← hS3];exact aeV _ e))) loop)
theorem dU:∀ {ss:List Str} {us:List Value},Vals (ss.map V.str) us->StrsAre us ss
 | [],_,.nil=>.nil
 | _::_,_,.cons r t=>by
  obtain⟨k,rfl⟩:=r;exact .cons _ k (dU t)
theorem iw:∀ {ss:List Str} {us:List Value},StrsAre us ss->Vals (ss.map V.str) us
 | _,_,.nil=>.nil
 | _,_,.cons y t h=>.cons ⟨t,rfl⟩ (iw h)
theorem vC:∀ bs:List Bool,(List.range bs.length).all (fun i=>bs.getD i false)=bs.all id
 | []=>rfl
 | b::r=>by
  rw [afr,List.range_succ_eq_map,ah4,ajd,ah4,← vC r]
  rfl
theorem jF (hc:X.calm=true):di X (.builtin "all") (fun xs H Q=>∃ (p:Addr) (bs:List Bool),xs=[.ref p]/\SqL X.K H p (bs.map V.bl)/\Q (.bl (bs.all id)) H):=by
 intro pins s σ H xs us Q I r h;obtain⟨p,bs,rfl,hq,q⟩:=h;obtain⟨u,rfl,rx⟩:=gZ r;cases rx;obtain⟨its,rv,pl,hz⟩:=I.list hq;have hh:X.A.in1.handled=none:=I.ok.hd hc;have hlt:p < s.heap.objs.size:=by obtain⟨o,e,_⟩:=pl.isList;exact ae8 e
 have hlen:=rv.length;rw [aeP] at hlen;refine call_all_walk (ajm pl.isList ?_);refine⟨s.heap.objs.size,_,_,_,_,_,fun i=>bs.getD i false,rfl,Walks.list hh s.heap.objs.size p (afm hlt) its.toArray,⟨⟨_,afd _ rfl,rfl,rfl⟩,pl.isList.push _⟩,fun i v s' Q' E' hv hq'=>?_,fun h' tk hk=>?_⟩
 ·have hv':its[i]? = some v:=by simpa using hv
  have hi:i < its.length:=(aeU.mp hv').1;have hb:bs[i]? = some (bs.getD i false):=by
   rw [agp];rw [aeO (by lia)]
   rfl
  obtain⟨u,hu,ru⟩:=rv.get (i:=i) (x:=.bl (bs.getD i false)) (by rw [aeZ,hb];rfl);rw [hv'] at hu;cases hu;cases ru;exact agc hq'
 ·have e:(List.range its.toArray.size).all (fun i=>bs.getD i false)=bs.all id:=by
   rw [ae9,← hlen,vC]
  rw [e];refine⟨.bl _,H,?_,rfl,q⟩;refine (I.kept (t':=s.toks) (h':=s.heap.push { cls:=.type "list_iterator",data:=.fields #[.ref p,.int 0 0] }) fun b o e=>aeV _ e).turned (it:=s.heap.objs.size) (t':=tk) (h':=h') (fun b o hb e=>hk b o (by simpa using hb) e) I.fresh (ahm I.lt) (.inr I.sz) (fun x c e z=>?_) fun p' hp z=>?_
  ·obtain⟨v,q⟩:=I.cell x c e;exact absurd (z▸q.lt) (ag4 _)
  ·exact absurd (z▸ae8 (I.pin p' hp).1) (ag4 _)
theorem tE:di X (.builtin "sorted") (fun xs H Q=>∃ (p:Addr) (ss:List Str),xs=[.ref p]/\SqL X.K H p (ss.map V.str)/\ss.length < 64/\∀ (l:Addr) (ss':List Str),H l=none->ss'.Perm ss->sortedS ss'=true->Q (.ref l) (upd H l (.lst (ss'.map V.str)))):=by
 intro pins s σ H xs us Q I r h;obtain⟨p,ss,rfl,hq,hl,q⟩:=h;obtain⟨u,rfl,rx⟩:=gZ r;cases rx;obtain⟨its,rv,pl,hz⟩:=I.list hq;have hlen:=rv.length;rw [aeP] at hlen;refine sorted_strs pl.isList (dU rv) (by lia) fun out ss' a1 a2 a3=>?_;obtain⟨e,he⟩:=sortedAll_at s.heap its out;have hlen':ss'.length=ss.length:=a2.length_eq;refine⟨.ref (s.heap.objs.size+1),_,I.laid (t':=s.toks) (o:=.lst (ss'.map V.str)) (fun b o e=>sortedAll_old e) (aho _) ⟨?_,out.toList,e,iw a1,?_⟩,rfl,q _ ss' (I.hok.fresh (aho _)) a2 a3⟩
 ·rw [aeP];exact afo (afg (by lia:ss'.length < 64) (by decide))
 ·simpa using he
def adf:V->List V->Hp->VK->Prop:=fun x vs H Q=>∃ (l:Addr) (ss:List Str) (k:Str),x=.ref l/\vs=[.str k]/\H l=some (.lst (ss.map V.str))/\Q (.int (ss.count k)) H
theorem uo (k:Str):∀ ss:List Str,countIn (.str k) (ss.map PyData.str)=((ss.count k:Nat):Int):=by
 intro ss
 induction ss with
 | nil=>rfl
 | cons y r ih =>
  rw [afb,countIn,ih,ahG];by_cases e:y=k
  ·subst e;have e1:same (.str y) (.str y)=true:=same_refl _;rw [if_pos e1,ahX,if_pos rfl];lia
  ·have e1:¬ same (.str y) (.str k)=true:=by simpa [same] using e
   have e2:(y == k)=false:=by simpa using e
   rw [if_neg e1,e2];simp
theorem iF:MtM X "list.count" adf:=by
 intro pins s σ H x vs v us Q I rx rv h;obtain⟨l,ss,k,rfl,rfl,hH,q⟩:=h;cases rx;obtain⟨u,rfl,t,rfl⟩:=rv.one;obtain⟨its,r,pl,hz⟩:=I.list (aAA hH);refine count_list_strs pl.isList (dU r) ⟨.int (ss.count k),H,I.tok _,⟨s.toks,?_⟩,q⟩;rw [uo]
def adN:V->List V->Hp->VK->Prop:=fun x vs H Q=>∃ (z:Str) (l:Addr) (ss:List Str),x=.str z/\vs=[.ref l]/\SqL X.K H l (ss.map V.str)/\(ss.map (·.length)).sum+ss.length * z.length<=16777216/\Q (.str (Txt.join z ss)) H
theorem ab0:MtM X "str.join" (adN (X:=X)):=by
 intro pins s σ H x vs v us Q I rx rv h;obtain⟨z,l,ss,rfl,rfl,hq,hz,q⟩:=h;obtain⟨t,rfl⟩:=rx;obtain⟨u,rfl,ru⟩:=rv.one;cases ru;obtain⟨its,r,pl,_⟩:=I.list hq;exact join_list pl.isList (by simpa using dU r) hz fun t' k=>⟨.str _,H,I.tok _,⟨t',rfl⟩,q⟩
end
mutual
inductive Sees (H:Hp):V->PyData->Prop
 | non:Sees H .non .none
 | bl (b:Bool):Sees H (.bl b) (.bool b)
 | int (i:Int):Sees H (.int i) (.int i)
 | str (x:Str):Sees H (.str x) (.str x)
 | lst {a:Addr} {vs:List V} {ds:List PyData}:H a=some (.lst vs)->SeesAll H vs ds->Sees H (.ref a) (.list ds)
 | tup {a:Addr} {vs:List V} {ds:List PyData}:H a=some (.tup vs)->SeesAll H vs ds->Sees H (.ref a) (.tuple ds)
inductive SeesAll (H:Hp):List V->List PyData->Prop
 | nil:SeesAll H [] []
 | cons {v:V} {vs:List V} {d:PyData} {ds:List PyData}:Sees H v d->SeesAll H vs ds->SeesAll H (v::vs) (d::ds)
end
mutual
theorem Sees.reads {P:Program}{w:World}{H:Hp}{h:Heap}(ok:HOk P w H h):∀ {d:PyData} {v:V} {u:Value},Sees H v d->RelV v u->∃ as,Reads h u d as
 | _,_,_,.non,r=>by cases r;exact⟨_,.none⟩
 | _,_,_,.bl b,r=>by cases r;exact⟨_,.bool b⟩
 | _,_,_,.int i,r=>by obtain⟨t,rfl⟩:=r;exact⟨_,.int i t⟩
 | _,_,_,.str x,r=>by obtain⟨t,rfl⟩:=r;exact⟨_,.str x t⟩
 | _,_,_,.lst e q,r=>by
  cases r;obtain⟨_,its,n,rv,g⟩:=ok _ _ e;obtain⟨as,ra⟩:=SeesAll.reads ok q rv;exact⟨_,.list g rfl rfl (by simpa using ra)⟩
 | _,_,_,.tup e q,r=>by
  cases r;obtain⟨_,its,rv,o,g,hc,n,hd⟩:=ok _ _ e;obtain⟨as,ra⟩:=SeesAll.reads ok q rv;exact⟨_,.tuple g hc hd (by simpa using ra)⟩
theorem SeesAll.reads {P:Program}{w:World}{H:Hp}{h:Heap}(ok:HOk P w H h):∀ {ds:List PyData} {vs:List V} {us:List Value},SeesAll H vs ds->Vals vs us->∃ as,ReadsAll h us ds as
 | _,_,_,.nil,r=>by cases r;exact⟨_,.nil⟩
 | _,_,_,.cons a b,r=>by
  cases r with
  | cons r1 r2 =>
   obtain⟨_,x⟩:=Sees.reads ok a r1;obtain⟨_,y⟩:=SeesAll.reads ok b r2;exact⟨_,.cons x y⟩
end
theorem SeesAll.strs {H:Hp}:∀ ss:List Str,SeesAll H (ss.map V.str) (ss.map PyData.str)
 | []=>.nil
 | s::r=>.cons (.str s) (SeesAll.strs r)
section
variable {X:Cx}
def abp (A:Around)(neg:Bool):R2:=fun x y H Q=>∃ da db,Sees H x da/\Sees H y db/\da.canLay0=true/\db.canLay0=true/\A.units+min da.depth db.depth < cLine/\Q (.bl (if neg then !PyData.eqv da db else PyData.eqv da db)) H
theorem rq:OpR X (compareOp .Eq) (abp X.A false):=by
 intro pins s σ H x y v u Q I rx ry h;obtain⟨da,db,sa,sb,la,lb,hu,q⟩:=h;obtain⟨_,ra⟩:=sa.reads I.hok rx;obtain⟨_,rb⟩:=sb.reads I.hok ry;exact SeqAt.rcAt_reads ra rb la lb hu _ _ _ _ ⟨.bl _,H,I,rfl,q⟩
theorem gw:OpR X (compareOp .NotEq) (abp X.A true):=by
 intro pins s σ H x y v u Q I rx ry h;obtain⟨da,db,sa,sb,la,lb,hu,q⟩:=h;obtain⟨_,ra⟩:=sa.reads I.hok rx;obtain⟨_,rb⟩:=sb.reads I.hok ry;exact SeqAt.compareNe_reads ra rb la lb hu ⟨.bl _,H,I,rfl,q⟩
def Itn (n:Nat)(val:Nat->V->Prop):It:=⟨fun i _=>i < n,fun i H x H'=>H'=H/\val i x,fun i _=>i=n⟩
theorem o6 {P:Program}{w:World}{K:PySem.W.Frag}{x:Str}{p:Pos}{I:Addr}{n:Nat}{Pv:Nat->Value->Prop}{St:Nat->Heap->Prop}{val:Nat->V->Prop}
 (W:∀ A':Around,A'.handled=none->Walks P w A' I [I] [I] n Pv St)(ho:∀ i h,St i h->∃ o,h.get? I=some o/\∀ v,o.data≠.cell v)(hv:∀ i u,Pv i u->∃ v,RelV v u/\val i v)
 (hself:∀ (A:Around) (i:Nat) (s:Shared) (Q:Value->Shared->Prop) (E:Value->Shared->Prop),St i s.heap->Q (.ref I) s->wpAny (model P w) A (pyIter (.ref I)) Q E s) :
 acv P w K (.Name x p) (Itn n val) [I] I St where
 mem:=by simp
 obj:=fun i h st b hb=>by
  have e:b=I:=by simpa using hb
  subst e;exact ho i h st
 keep:=fun i h h' st k=>(W { handled:=none,depth:=0,frames:=none,guards:=none,units:=0 } rfl).frame i h h' st k
 item:=by
  intro X hP hw hK hc i pins s σ H E J hf st hg;subst hP hw hK;obtain⟨f0,f1,f2,f3,f4,f5⟩:=hf I (by simp);refine (W X.A (J.ok.hd hc)).item i s _ _ hg st fun v h' tk hPv st' kk=>?_;obtain⟨y,ry,vy⟩:=hv i v hPv;have J1:Inv X pins σ H { s with heap:=h',toks:=tk }:=J.turned (fun b o hb e=>kk b o (by simpa using hb) e) f0 f1 f3 f4 f5;exact⟨v,rfl,aeX ⟨y,H,J1,ry,⟨rfl,vy⟩,st',fun b hb=>(hf b hb).1⟩⟩
 done:=by
  intro X hP hw hK hc i pins s σ H E J hf st hg;subst hP hw hK;obtain⟨f0,f1,f2,f3,f4,f5⟩:=hf I (by simp);have e:i=n:=hg;subst e;exact (W X.A (J.ok.hd hc)).done s _ _ st fun h' tk kk=>⟨rfl,J.turned (fun b o hb e=>kk b o (by simpa using hb) e) f0 f1 f3 f4 f5⟩
 self:=hself
theorem mM {h:Heap}{I:Addr}{n:String}{x:Str}{t:Tok}{i:Nat}(st:h.IsStrIter I n x t i):∃ o,h.get? I=some o/\∀ v,o.data≠.cell v:=by
 obtain⟨o,e,_,d⟩:=st;exact⟨o,e,fun v z=>by rw [d] at z;cases z⟩
def ItS (z:Str):It:=Itn z.cps.size fun i v=>∃ c,z.cps[i]? = some c/\v=.str ⟨#[c]⟩
def aeB (tl:TE):TI:=fun σ H R=>tl σ H fun x H1=>∃ z,x=.str z/\R (ItS z) H1
theorem uU {z:Str}(i:Nat)(u:Value)(h:SignAt z i u):∃ v,RelV v u/\∃ c,z.cps[i]? = some c/\v=.str ⟨#[c]⟩:=by
 obtain⟨c,t,e,rfl⟩:=h;exact⟨.str ⟨#[c]⟩,⟨t,rfl⟩,c,e,rfl⟩
theorem acR {l:Expr}{tl:TE}{x:Str}{p:Pos}(hl:PE X l tl):PI X (.Name x p) l (aeB tl):=by
 intro pins s σ H R I h;refine thn (hl pins s σ H _ I h) fun v s1 ⟨y,H1,I1,r1,q1⟩=>?_;obtain⟨z,rfl,q⟩:=q1;obtain⟨t,rfl⟩:=r1;have fin:∀ (o:Obj),Inv X pins σ H1 { s1 with heap:=s1.heap.push o }:=fun o=>I1.kept (t':=s1.toks) fun b o e=>aeV _ e;have ff:∀ b∈[s1.heap.objs.size],oh X pins H1 b:=fun b hb=>by
  have e:b=s1.heap.objs.size:=by simpa using hb
  subst e;exact I1.fpOk (ae1 _) I1.fresh
 cases ha:z.cps.all (· < 128)
 ·refine wpAny_pyIter_wide ha ⟨s1.heap.objs.size,[s1.heap.objs.size],_,ItS z,H1,rfl,fin _,o6 (fun A' hA=>Walks.strWide hA _ z t) (fun i h st=>mM st) uU (fun A i s Q E st h=>wpAny_pyIter_striter_wide st h),⟨_,afd _ rfl,rfl,rfl⟩,ff,q⟩
 ·refine wpAny_pyIter_ascii ha ⟨s1.heap.objs.size,[s1.heap.objs.size],_,ItS z,H1,rfl,fin _,o6 (fun A' hA=>Walks.strAscii hA _ z t) (fun i h st=>mM st) uU (fun A i s Q E st h=>wpAny_pyIter_striter_ascii st h),⟨_,afd _ rfl,rfl,rfl⟩,ff,q⟩
def aeN:V->Option Int->Option Int->Hp->VK->Prop:=fun x lo hi H Q=>∃ z:Str,x=.str z/\z.length<=sizeLine/\Q (.str (Txt.slice z lo hi)) H
theorem aa0:SlR X aeN:=by
 intro pins s σ H x v vl vu lo hi sl Q I rx hs pl pu h;obtain⟨z,rfl,hz,q⟩:=h;obtain⟨t,rfl⟩:=rx;refine⟨"str",_,PySem.F.slot_str_getitem.lookup,typeIs_str _ _ _,?_⟩;obtain⟨o,ho,hc,hd⟩:=hs;have fin:∀ t' k,EP X pins σ Q (.str (Txt.slice z lo hi) t') { s with toks:=k }:=fun t' k=>⟨.str _,H,I.tok _,⟨t',rfl⟩,q⟩;cases pl with
 | none =>
  cases pu with
  | none=>exact ahp (l:=none) (u:=none) (st:=none) ⟨o,ho,hc,hd⟩ rfl (aiW ⟨aft (aj7 z _ _) hz,fun t' k=>fin t' k⟩)
  | int j tj=>exact ahp (l:=none) (u:=some (j,tj)) (st:=none) ⟨o,ho,hc,hd⟩ rfl (aiW ⟨aft (aj7 z _ _) hz,fun t' k=>fin t' k⟩)
 | int i ti =>
  cases pu with
  | none=>exact ahp (l:=some (i,ti)) (u:=none) (st:=none) ⟨o,ho,hc,hd⟩ rfl (aiW ⟨aft (aj7 z _ _) hz,fun t' k=>fin t' k⟩)
  | int j tj=>exact ahp (l:=some (i,ti)) (u:=some (j,tj)) (st:=none) ⟨o,ho,hc,hd⟩ rfl (aiW ⟨aft (aj7 z _ _) hz,fun t' k=>fin t' k⟩)
end
open PySem.Builtin PySem.Builtin.Str in
theorem mN (z:Str)(a b:Nat)(hab:a<=b)(hb:b<=z.length):(Txt.slice z (some (a:Int)) (some (b:Int))).cps.toList=(z.cps.toList.drop a).take (b - a):=by
 unfold Txt.slice;have e:=StrLaws.sliced_plain z hab hb;split
 ·rename_i h;rw [StrLaws.strSliceIndices_plain hab hb] at h;simp only [aeP,afz,afV,afu] at h;have h2:b - a=z.length:=h.2;have ha:a=0:=by lia
  subst ha;have hz:z.cps.toList.length=z.length:=by simp [Str.length]
  rw [age,afE (by lia)]
 ·rw [e]
def uz (scope outer:Scope):List (Str×NameKind) :=
 scope.names.map fun (n,k)=>if (k == .free && outer.kind == .function && outer.names.lookup n == some .cell) then (n,.cell) else (n,k)
def iT (outer scope:Scope)(N N':List Str)(nl:Nat)(ix:List Nat):Bool :=
 (scope.kind == .function && scope.names.all fun x=>x.2 != .cell && (x.2 != .local || scope.names.lookup x.1 == some .local) && (x.2 != .free || outer.names.lookup x.1 == some .cell)) &&
 (N'.length == nl+ix.length && (List.range ix.length).all fun k=>match ix[k]? with
  | none=>false
  | some j=>match N[j]? with
   | none=>false
   | some x=>N'[nl+k]? == some x && outer.names.lookup x == some .cell && (uz scope outer).lookup x == some .cell && decide ((x,NameKind.free)∈scope.names))
theorem gJ {X:Cx}{outer scope:Scope}{N N':List Str}{nl:Nat}{ix:List Nat}(h1:X.env.scope=outer)(h2:X.N=N)(h:iT outer scope N N' nl ix=true):CompScope X scope/\acu X scope N' nl ix:=by
 unfold iT at h;simp only [afV,agR,afu,bne_iff_ne,Bool.or_eq_true,ne_eq,afZ] at h;obtain⟨⟨hk,ha⟩,hl,hb⟩:=h;have kd:∀ x,X.env.kindOf x=outer.names.lookup x:=fun x=>by rw [← h1];rfl
 refine⟨⟨hk,fun x hx=>(ha x hx).1.1,fun x hx e=>?_,fun x hx e=>?_⟩,⟨hl,fun k j e=>?_⟩⟩
 ·rcases (ha x hx).1.2 with z | z
  ·exact absurd e z
  ·exact z
 ·rcases (ha x hx).2 with z | z
  ·exact absurd e z
  ·rw [kd];exact z
 ·have hk':k < ix.length:=(aeU.mp e).1;have q:=hb k hk';rw [e] at q;simp only at q;cases ex:N[j]? with
  | none=>rw [ex] at q;simp at q
  | some x =>
   rw [ex] at q;simp only [afV,afu,ago] at q;obtain⟨⟨⟨q1,q2⟩,q3⟩,q4⟩:=q;refine⟨x,by rw [h2];exact ex,q1,by rw [kd];exact q2,?_,q4⟩;have er:(relabel scope X.env).names=uz scope outer:=by rw [← h1];rfl
   rw [er];exact q3
def Nx (n i:Nat)(p:Prop):Prop:=∃ m',m' < n - i/\m'=n - (i+1)/\i+1<=n/\p
theorem nx {n i:Nat}{p:Prop}(h:i < n)(q:p):Nx n i p:=⟨n - (i+1),by lia,rfl,h,q⟩
def bN (nl:Nat)(ix:List Nat)(g:TG)(tf:TT)(te:TE)(σ:St)(D:Addr)(ys:List V)(H:Hp)(x:V)(nxt:List V->Hp->Prop):Prop :=
 g x (cn nl ix σ) H fun σ4 H4=>(σ4.length=(cn nl ix σ).length/\σ4.drop nl=ix.map fun j=>(σ[j]?).join)/\tf σ4 H4 fun b H5 =>
  if b=true then te σ4 H5 fun y H6=>H6 D=some (.lst ys)/\ys.length < sizeLine/\nxt (ys++[y]) (upd H6 D (.lst (ys++[y]))) else nxt ys H5
def i5 (nl:Nat)(ix:List Nat)(g:TG)(tf:TT)(te:TE)(σ:St)(J:It)(H1:Hp)(D:Addr)(Q:VK):Prop :=
 ∃ W:Nat->Nat->List V->Hp->Prop,(∃ m,W 0 m [] (upd H1 D (.lst []))) ∧
 ∀ i m ys H2,W i m ys H2->H2 D=some (.lst ys)/\((J.stop i H2/\Q (.ref D) H2)\/(J.go i H2/\∀ x H3,J.yld i H2 x H3->bN nl ix g tf te σ D ys H3 x fun ys' H'=>∃ m',m' < m/\W (i+1) m' ys' H'))
theorem aW (nl:Nat)(ix:List Nat)(wi:TI)(g:TG)(tf:TT)(te:TE)(σ:St)(H:Hp)(Q:VK)(h:wi σ H fun J H1=>∀ D,H1 D=none->i5 nl ix g tf te σ J H1 D Q):qX nl ix wi g tf te σ H Q:=h
section
variable {nl:Nat}{ix:List Nat}{g:TG}{tf:TT}{te:TE}{σ:St}{H1:Hp}{D:Addr}{Q:VK}(Pv:Nat->List V->Hp->Prop)
theorem uZ {J:It}{n:Nat}(h0:Pv 0 [] (upd H1 D (.lst [])))(hD:∀ i ys H,Pv i ys H->H D=some (.lst ys))(go:∀ i ys H,i < n->Pv i ys H->J.go i H)(stop:∀ ys H,Pv n ys H->J.stop n H)
 (hs:∀ i ys H x H',i < n->Pv i ys H->J.yld i H x H'->bN nl ix g tf te σ D ys H' x fun ys' H'=>Nx n i (Pv (i+1) ys' H'))
 (hd:∀ ys H,Pv n ys H->Q (.ref D) H):i5 nl ix g tf te σ J H1 D Q:=by
 refine⟨fun i m ys H=>m=n - i/\i<=n/\Pv i ys H,⟨n,by simp,afe _,h0⟩,?_⟩;rintro i m ys H ⟨rfl,hi,p⟩;refine⟨hD i ys H p,?_⟩;by_cases hlt:i < n
 ·exact .inr ⟨go i ys H hlt p,fun x H' y=>hs i ys H x H' hlt p y⟩
 ·have e:i=n:=by lia
  subst e;exact .inl ⟨stop ys H p,hd ys H p⟩
theorem iB {lo:Int}{n:Nat}(h0:Pv 0 [] (upd H1 D (.lst [])))(hD:∀ i ys H,Pv i ys H->H D=some (.lst ys))
 (hs:∀ i ys H,i < n->Pv i ys H->bN nl ix g tf te σ D ys H (.int (lo+i)) fun ys' H'=>Nx n i (Pv (i+1) ys' H'))(hd:∀ ys H,Pv n ys H->Q (.ref D) H):i5 nl ix g tf te σ (Itr lo n) H1 D Q:=by
 refine uZ (n:=n) Pv h0 hD (fun _ _ _ hi _=>hi) (fun _ _ _=>ae1 _) (fun i ys H x H' hi p y=>?_) hd;obtain⟨e,y⟩:=y;subst e y;exact hs i ys H' hi p
theorem bV {K:PySem.W.Frag}{a:Addr}{xs:List V}(h0:Pv 0 [] (upd H1 D (.lst [])))(hD:∀ i ys H,Pv i ys H->H D=some (.lst ys))(hl:∀ i ys H,Pv i ys H->SqL K H a xs)
 (hs:∀ i ys H x,xs[i]? = some x->Pv i ys H->bN nl ix g tf te σ D ys H x fun ys' H'=>Nx xs.length i (Pv (i+1) ys' H'))(hd:∀ ys H,Pv xs.length ys H->Q (.ref D) H):i5 nl ix g tf te σ (Itl K a) H1 D Q:=by
 refine uZ (n:=xs.length) Pv h0 hD (fun i ys H hi p=>⟨xs,xs[i],hl i ys H p,by simp [hi]⟩) (fun ys H p=>⟨xs,hl _ ys H p,ae1 _⟩) (fun i ys H x H' hi p y=>?_) hd;obtain⟨e,y⟩:=y;subst e;exact hs i ys H' x (y xs (hl i ys H' p)) p
theorem zS {z:Str}(h0:Pv 0 [] (upd H1 D (.lst [])))(hD:∀ i ys H,Pv i ys H->H D=some (.lst ys))
 (hs:∀ i ys H c,z.cps[i]? = some c->Pv i ys H->bN nl ix g tf te σ D ys H (.str ⟨#[c]⟩) fun ys' H'=>Nx z.cps.size i (Pv (i+1) ys' H'))(hd:∀ ys H,Pv z.cps.size ys H->Q (.ref D) H):i5 nl ix g tf te σ (ItS z) H1 D Q:=by
 refine uZ (n:=z.cps.size) Pv h0 hD (fun _ _ _ hi _=>hi) (fun _ _ _=>rfl) (fun i ys H x H' hi p y=>?_) hd;obtain⟨e,c,ec,ex⟩:=y;subst e ex;exact hs i ys H' c ec p
end
section
variable {X:Cx}{K:PySem.W.Frag}
theorem dv (hK:X.K=K):IxR X (adp K):=by subst hK;exact aT
theorem ma (hK:X.K=K):IxR X (aeo K):=by subst hK;exact aO
theorem h9 (hK:X.K=K):di X (.builtin "len") (fun xs H Q=>∃ p ys,xs=[.ref p]/\(SqL K H p ys\/SqT K H p ys)/\Q (.int ys.length) H):=by subst hK;exact aA
theorem oB (hK:X.K=K):di X (.type "list") (fun xs H Q=>∃ p ys,xs=[.ref p]/\(SqL K H p ys\/SqT K H p ys)/\∀ l,H l=none->Q (.ref l) (upd H l (.lst ys))):=by subst hK;exact bu
theorem jQ {pos:Pos}{es:List Expr}{k:Nat}{t:TGs}{n:Nat}(hK:X.K=K)(hc:X.calm=true)(h:PGs X es t)(hn:(assignEach es X.env).length=n:=by rfl)(hst:(assignEach es X.env).findIdx? (·.1)=none:=by rfl):PG X (.Tuple es k pos) (zP K n t):=by
 subst hK;exact eV hc h hn hst
end
theorem cZ {nl:Nat}{ix:List Nat}{te:TE}{σ:St}{D:Addr}{ys:List V}{H:Hp}{x:V}{nxt:List V->Hp->Prop}{i:Nat}(h1:((cn nl ix σ).set i (some x)).drop nl=ix.map fun j=>(σ[j]?).join)
 (h:te ((cn nl ix σ).set i (some x)) H fun y H6=>H6 D=some (.lst ys)/\ys.length < sizeLine/\nxt (ys++[y]) (upd H6 D (.lst (ys++[y])))):bN nl ix (bg i) xj te σ D ys H x nxt:=by
 unfold bN bg xj;dsimp only;rw [if_pos rfl];exact⟨⟨by simp,h1⟩,h⟩
section
variable {X:Cx}
theorem cE:di X (.builtin "isinstance") (fun xs H Q=>∃ (x:V) (T:String) (t:Value) (b:Bool),xs=[x,.ty T]/\uE X.K H x t/\kitOne X.K t (.type T)=some b/\Q (.bl b) H):=by
 intro pins s σ H xs us Q I r h;obtain⟨x,T,t,b,rfl,ty,e,q⟩:=h;obtain⟨u,v,rfl,rx,ry⟩:=acp r;cases ry;exact xD I rx ty e fun tk=>⟨.bl b,H,I.tok _,rfl,q⟩
theorem ik (K:PySem.W.Frag)(n:String):kitOne K (.type n) (.type n)=some true:=by
 unfold kitOne;rw [if_pos (by simp)]
end
def leS (a b:Str):Prop:=ltCps b.cps.toList a.cps.toList=false
theorem leS_iff {a b:Str}:leS a b↔a.cps.toList<=b.cps.toList:=by
 unfold leS;rw [ltCps_eq];constructor
 ·intro h;exact List.not_lt.mp (of_decide_eq_false h)
 ·intro h;exact afw (List.not_lt.mpr h)
theorem sH {a b:Str}(h1:leS a b)(h2:leS b a):a=b:=by
 have e:=List.le_antisymm (leS_iff.mp h1) (leS_iff.mp h2);cases a;cases b;simp only at e;rw [Str.mk.injEq];exact Array.toList_inj.mp e
theorem yR {a b c:Str}(h1:leS a b)(h2:leS b c):leS a c:=leS_iff.mpr (List.le_trans (leS_iff.mp h1) (leS_iff.mp h2))
theorem lW:∀ {l:List Str} {p:Str},risingS p l=true->(∀ x∈l,leS p x)/\l.Pairwise leS
 | [],p,_=>⟨(fun x hx=>nomatch hx),List.Pairwise.nil⟩
 | y::r,p,h=>by
  have h':(!ltCps y.cps.toList p.cps.toList && risingS y r)=true:=h;rw [afV,ahf] at h';obtain⟨i1,i2⟩:=lW h'.2;have py:leS p y:=h'.1;refine⟨fun x hx=>?_,List.Pairwise.cons i1 i2⟩;rcases ae7.mp hx with rfl | hx
  ·exact py
  ·exact yR py (i1 x hx)
theorem dJ:∀ {l:List Str},sortedS l=true->l.Pairwise leS
 | [],_=>List.Pairwise.nil
 | _::_,h=>let ⟨a,b⟩:=lW h;List.Pairwise.cons a b
theorem oW:∀ {l1 l2:List Str},l1.Pairwise leS->l2.Pairwise leS->l1.Perm l2->l1=l2
 | [],l2,_,_,p=>(List.nil_perm.mp p).symm▸rfl
 | a::r,[],_,_,p=>absurd p.length_eq (by simp)
 | a::r,b::t,h1,h2,p=>by
  have ab:leS a b:=by
   rcases ae7.mp (p.mem_iff.mpr ae0:b∈a::r) with e | hb
   ·subst e;exact leS_iff.mpr (aj8 _)
   ·exact (afP.mp h1).1 b hb
  have ba:leS b a:=by
   rcases ae7.mp (p.mem_iff.mp ae0:a∈b::t) with e | ha
   ·subst e;exact leS_iff.mpr (aj8 _)
   ·exact (afP.mp h2).1 a ha
  have e:=sH ab ba;subst e;rw [oW (afP.mp h1).2 (afP.mp h2).2 p.cons_inv]
theorem pz {K:PySem.W.Frag}{nl:Nat}{ix:List Nat}{te:TE}{σ:St}{D:Addr}{ys:List V}{H:Hp}{x:V}{nxt:List V->Hp->Prop}{i j:Nat}(a:Addr)(v1 v2:V)(hx:x=.ref a)(hs:SqT K H a [v1,v2])
 (h1:(((cn nl ix σ).set i (some v1)).set j (some v2)).drop nl=ix.map fun j=>(σ[j]?).join)
 (h:te (((cn nl ix σ).set i (some v1)).set j (some v2)) H fun y H6=>H6 D=some (.lst ys)/\ys.length < sizeLine/\nxt (ys++[y]) (upd H6 D (.lst (ys++[y])))) :
 bN nl ix (zP K 2 (kQ (bg i) (kQ (bg j) abf))) xj te σ D ys H x nxt:=by
 subst hx;unfold bN zP kQ bg abf xj;dsimp only;refine⟨a,[v1,v2],rfl,hs,rfl,v1,[v2],rfl,v2,[],rfl,rfl,⟨by simp,h1⟩,?_⟩;rw [if_pos rfl];exact h
open PySem.Builtin PySem.Builtin.Str in
theorem acX (j n:Nat):strSliceIndices none (some (j:Int)) 1 n=strSliceIndices (some ((0:Nat):Int)) (some ((min j n:Nat):Int)) 1 n:=by
 unfold strSliceIndices;have h1:¬ ((j:Int) < 0):=by lia
 have h2:¬ (((min j n:Nat):Int) < 0):=by lia
 have h3:¬ (((0:Nat):Int) < 0):=by lia
 simp only [h1,h2,h3,agF,show ((1:Int) > 0)=True from by simp,ahy];congr 1<;>lia
open PySem.Builtin PySem.Builtin.Str in
theorem aas (i n:Nat):strSliceIndices (some (i:Int)) none 1 n=strSliceIndices (some ((min i n:Nat):Int)) (some ((n:Nat):Int)) 1 n:=by
 unfold strSliceIndices;have h1:¬ ((i:Int) < 0):=by lia
 have h2:¬ (((min i n:Nat):Int) < 0):=by lia
 have h3:¬ (((n:Nat):Int) < 0):=by lia
 simp only [h1,h2,h3,agF,show ((1:Int) > 0)=True from by simp,ahy];congr 1<;>lia
theorem uK (z:Str)(j:Nat):(Txt.slice z none (some (j:Int))).cps.toList=z.cps.toList.take j:=by
 have e:Txt.slice z none (some (j:Int))=Txt.slice z (some ((0:Nat):Int)) (some ((min j z.length:Nat):Int)):=by
  unfold Txt.slice;rw [acX]
 rw [e,mN z 0 (min j z.length) (afe _) (ait _ _),age,als];have hz:z.cps.toList.length=z.length:=by simp [Str.length]
 by_cases h:j<=z.length
 ·rw [agi h]
 ·rw [ajR (by lia),afE (by lia),afE (by lia)]
theorem oK (z:Str)(i:Nat):(Txt.slice z (some (i:Int)) none).cps.toList=z.cps.toList.drop i:=by
 have e:Txt.slice z (some (i:Int)) none=Txt.slice z (some ((min i z.length:Nat):Int)) (some ((z.length:Nat):Int)):=by
  unfold Txt.slice;rw [aas]
 have hz:z.cps.toList.length=z.length:=by simp [Str.length]
 rw [e,mN z (min i z.length) z.length (ait _ _) (ae1 _)];by_cases h:i<=z.length
 ·rw [agi h,afE (by rw [agw];lia)]
 ·rw [ajR (by lia),ahH,agV,agZ (by lia)]
section
variable {M:Model}{A:Around}{E:Value->Shared->Prop}{s:Shared}
theorem pB {src:Source}{n:Nat}{Q:Nat->Shared->Prop}(hn:n≠0)(h:∀ i,i < n->Q i { s with drawn:=s.drawn.bump src }):wpAny M A (choose src n) Q E s:=fun _ _ _ =>
 ⟨hn,h _ (Nat.mod_lt _ (Nat.pos_of_ne_zero hn))⟩
theorem gp {α:Type}:∀ (xs:List α) (i:Nat) (x:α),xs[i]? = some x->(x::xs.eraseIdx i).Perm xs
 | [],_,_,h=>by simp at h
 | y::r,0,x,h=>by simp at h;subst h;exact .rfl
 | y::r,i+1,x,h=>by
  have h':r[i]? = some x:=by simpa using h
  rw [agU];exact (List.Perm.swap y x _).trans ((gp r i x h').cons y)
theorem gQ {α:Type}:∀ (n:Nat) (xs:List α) (s:Shared) (Q:List α->Shared->Prop),xs.length=n->(∀ ys d,ys.Perm xs->Q ys { s with drawn:=d })->wpAny M A (drawOrder n xs) Q E s
 | 0,xs,s,Q,hl,h=>by
  have e:xs=[]:=af6.mp hl;subst e;unfold drawOrder;exact aeX (h [] s.drawn .rfl)
 | n+1,[],s,Q,hl,h=>by simp at hl
 | n+1,y::r,s,Q,hl,h=>by
  unfold drawOrder;refine aeQ (pB (by simp) fun i hi=>?_);have hx:(y::r)[i]? = some (y::r)[i]:=aeO hi;rw [hx];dsimp only;refine aeQ (gQ n _ _ _ (by rw [ai9 hi];simpa using hl) fun ys d p=>?_);exact aeX (h _ d ((p.cons _).trans (gp _ i _ hx)))
theorem lH {α:Type}(next:Nat->Nat):∀ (fuel k:Nat) (left:List α) (out:Array α),left.length=fuel->(pickOrder.go next fuel k left out).toList.Perm (out.toList++left)
 | 0,k,left,out,h=>by
  have e:left=[]:=af6.mp h;subst e;unfold pickOrder.go;simp
 | fuel+1,k,left,out,h=>by
  unfold pickOrder.go;have hp:0 < left.length:=by lia
  have hi:next k % left.length < left.length:=Nat.mod_lt _ hp
  rw [aeO hi];dsimp only;refine (lH next fuel (k+1) _ _ (by rw [ai9 hi];lia)).trans ?_;rw [aij,afa];exact (gp left _ _ (aeO hi)).append_left _
theorem iQ {α:Type}(next:Nat->Nat)(xs:Array α):(pickOrder next xs).toList.Perm xs.toList:=by
 unfold pickOrder;simpa using lH next xs.size 0 xs.toList #[] (by simp)
end
theorem vK (t:SetTable)(es:Array (Int×Value))(h:Int)(x:Value):(layNew t es h x).2.1.led=t.led:=by
 unfold layNew;split
 ·dsimp only;unfold SetTable.orStandIn;split<;>rfl
 ·rfl
theorem qA (t:SetTable)(es:Array (Int×Value))(n:Nat):(relayAll t es n).2.1.led=t.led:=by
 unfold relayAll;split
 ·rename_i t' order e;have e2:t'.led=t.led:=by
   unfold SetTable.relaid SetTable.laid at e;simp only [Option.bind_eq_bind,ajI] at e;obtain⟨ow,_,e⟩:=e;simp only [Option.pure_def,ajr,Prod.mk.injEq] at e;rw [← e.1]
  dsimp only;split
  ·exact e2
  ·rfl
 ·rfl
theorem oq (t:SetTable)(es:Array (Int×Value))(n:Nat)(h:t.plain=false):(relayAll t es n).2.1.plain=false:=by
 unfold relayAll;split
 ·rename_i t' order e;have e2:t'.plain=t.plain:=by
   unfold SetTable.relaid SetTable.laid at e;simp only [Option.bind_eq_bind,ajI] at e;obtain⟨ow,_,e⟩:=e;simp only [Option.pure_def,ajr,Prod.mk.injEq] at e;rw [← e.1]
  dsimp only;split
  ·rw [e2];exact h
  ·rfl
 ·rfl
structure TxAt (prog:Program)(w:World)(h:Heap)(a:Addr)(es:Array (Int×Value))(ep:Nat)(t:SetTable):Prop where
 get:h.get? a=some { cls:=.type "set",dict:=none,data:=.set es ep t,slots:=#[] }
 el:ElemsOf (PySem.strKind prog w) es.toList
 bd:es.size < scanBound
 fit:t.fits es.size=true
 led:t.led=!w.params.followText "set-order"
 pl:t.plain=false\/es=#[]
def uJ (es:Array (Int×Value)):List Str:=es.toList.map fun e=>strOf e.2
def TxSet (prog:Program)(w:World)(h:Heap)(a:Addr)(ss:List Str):Prop:=∃ es ep t,TxAt prog w h a es ep t/\uJ es=ss/\ss.Nodup
section
variable {prog:Program}{w:World}{h h':Heap}{a:Addr}{es:Array (Int×Value)}{ep:Nat}{t:SetTable}{ss:List Str}
theorem TxAt.at' (x:TxAt prog w h a es ep t)(k:∀ o,h.get? a=some o->h'.get? a=some o):TxAt prog w h' a es ep t:=⟨k _ x.get,x.el,x.bd,x.fit,x.led,x.pl⟩
theorem TxSet.at' (x:TxSet prog w h a ss)(k:∀ o,h.get? a=some o->h'.get? a=some o):TxSet prog w h' a ss:=let ⟨es,ep,t,y,r⟩:=x;⟨es,ep,t,y.at' k,r⟩
theorem xZ {l:List (Int×Value)}(h:ElemsOf (PySem.strKind prog w) l){e:Int×Value}(he:e∈l):∃ tk,e=(hashStr w (strOf e.2),.str (strOf e.2) tk):=by
 obtain⟨⟨k,hk,hh⟩,_⟩:=h e he;obtain⟨tk,e2⟩:=aiP hk;obtain⟨e1,v⟩:=e;simp only at e2 hh;subst e2;exact⟨tk,by rw [hh];rfl⟩
theorem oY {k:Str}{v:Value}{x:Str}{tk:Tok}(e:v=.str x tk):(PySem.strKind prog w).is k v=true↔k=x:=by
 subst e;constructor
 ·intro h;have h':Value.isStrOf k (.str x tk)=true:=h;obtain⟨u,e⟩:=aiP h';injection e with e
  exact e.symm
 ·intro h;subst h;show Value.isStrOf k (.str k tk)=true;simp [Value.isStrOf]
theorem abd {l:List (Int×Value)}(h:ElemsOf (PySem.strKind prog w) l)(k:Str):k∈l.map (fun e=>strOf e.2)↔∃ e∈l,(PySem.strKind prog w).is k e.2=true:=by
 rw [ae4];constructor
 ·rintro⟨e,he,rfl⟩;obtain⟨tk,e2⟩:=xZ h he;exact⟨e,he,(oY (by rw [e2];rfl)).mpr rfl⟩
 ·rintro⟨e,he,hk⟩;obtain⟨tk,e2⟩:=xZ h he;exact⟨e,he,((oY (x:=strOf e.2) (tk:=tk) (by rw [e2];rfl)).mp hk).symm⟩
theorem TxSet.setOf (x:TxSet prog w h a ss):h.SetOf (PySem.strKind prog w) a (fun k=>decide (k∈ss)) ss.length:=by
 obtain⟨es,ep,t,y,e,n⟩:=x;subst e;refine⟨_,es,ep,t,y.get,⟨rfl,rfl,rfl⟩,rfl,y.el,fun k=>?_,y.bd,y.fit,by simp [uJ]⟩;rw [ago];exact abd y.el k
theorem TxSet.len (x:TxSet prog w h a ss):ss.length < scanBound:=by
 obtain⟨es,ep,t,y,e,n⟩:=x;subst e;simpa [uJ] using y.bd
section
variable {A:Around}{E:Value->Shared->Prop}{s:Shared}
theorem iU {g:Bool->Sem Unit}(hg:∀ (b:Bool) (s₁:Shared) (Q':Unit->Shared->Prop),Q' () s₁->wpAny (model prog w) A (g b) Q' E s₁)
 (ho:s.heap.get? a=some { cls:=.type "set",dict:=none,data:=.set es ep t,slots:=#[] })
 {es1:Array (Int×Value)}{t2:SetTable}(hel1:ElemsOf (PySem.strKind prog w) es1.toList)
 (hb1:es1.size < scanBound)(hf2:t2.fits es1.size=true)(hl2:t2.led=!w.params.followText "set-order")(hp2:t2.plain=false){wasDummy:Bool}{R:Option Bool->Shared->Prop}
 (h:∀ h' es' ep' t',Heap.SameBut a s.heap h'->TxAt prog w h' a es' ep' t'->es'.toList.Perm es1.toList->R (some true) { s with heap:=h' }) :
 wpAny (model prog w) A (do
  storeSet a es1 t2
  if (!wasDummy && t2.tooFull)=true then do
   g (relayAll t2 es1 (SetTable.grown es1.size)).2.2
   storeSet a (relayAll t2 es1 (SetTable.grown es1.size)).1 (relayAll t2 es1 (SetTable.grown es1.size)).2.1
   pure (some true)
   else pure (some true)) R E s:=by
 refine aeQ (wpAny_storeSet_of ho rfl ?_ (aik hb1));have up:∀ {h0:Heap} {es0:Array (Int×Value)} {ep0:Nat} {t0:SetTable} (es':Array (Int×Value)) (t':SetTable),h0.get? a=some { cls:=.type "set",dict:=none,data:=.set es0 ep0 t0,slots:=#[] }->(h0.update a (Obj.putSet es' t')).get? a=some { cls:=.type "set",dict:=none,data:=.set es' (ep0+1) t',slots:=#[] }:=fun es' t' q=>by
  have:=agz (Obj.putSet es' t') q (by rw [putSet_of es' t' rfl];rfl);rw [putSet_of es' t' rfl] at this;exact this
 have ho1:=up es1 t2 ho;have hsb1:=afX s.heap a (Obj.putSet es1 t2);split
 ·have hp:=relayAll_perm t2 es1 (SetTable.grown es1.size);have hfr:=relayAll_fits t2 es1 (SetTable.grown es1.size);have hlr:=qA t2 es1 (SetTable.grown es1.size);have hpr:=oq t2 es1 (SetTable.grown es1.size) hp2;generalize hRl:relayAll t2 es1 (SetTable.grown es1.size)=Rl at hp hfr hlr hpr ⊢;obtain⟨es2,t3,gave2⟩:=Rl;dsimp only at hp hfr hlr hpr ⊢;have hsz:es2.size=es1.size:=by rw [← ae5,hp.length_eq,ae5]
  have hb2:es2.size < scanBound:=by rw [hsz];exact hb1
  refine aeQ (hg _ _ _ ?_);refine aeQ (wpAny_storeSet_of ho1 rfl ?_ (aik hb2));exact aeX (h _ es2 _ t3 (hsb1.trans (afX _ a _)) ⟨up es2 t3 ho1,hel1.perm hp,hb2,hfr,hlr.trans hl2,.inl hpr⟩ hp)
 ·exact aeX (h _ es1 _ t2 hsb1 ⟨ho1,hel1,hb1,hf2,hl2,.inl hp2⟩ .rfl)
theorem mH {α:Type}{l:List α}{x:α}{l':List α}(hn:l.Nodup)(hx:x ∉ l)(p:l'.Perm (l++[x])):l'.Nodup:=by
 refine p.nodup_iff.mpr ?_;rw [af3];refine⟨hn,by simp,fun a ha b hb e=>?_⟩;rw [aeS.mp hb] at e;exact hx (e▸ha)
theorem iS {x:Str}{tk:Tok}{Q:Bool->Shared->Prop}(hS:TxSet prog w s.heap a ss)(hroom:ss.length+1 < scanBound)
 (h:∀ h' ss',Heap.SameBut a s.heap h'->TxSet prog w h' a ss'->((x∈ss/\ss'=ss)\/(x ∉ ss/\ss'.Perm (ss++[x])))->Q (!decide (x∈ss)) { s with heap:=h' }) :
 wpAny (model prog w) A (setAddHashed a (.str x tk) (hashStr w x)) Q E s:=by
 obtain⟨es,ep,t,T,e,nd⟩:=hS;subst e;have hkey:(PySem.strKind prog w).is x (.str x tk)=true:=(oY rfl).mpr rfl;have hsc:(Value.str x tk).scannable=true:=rfl;have hb1:es.size+1 < scanBound:=by simpa [uJ] using hroom
 have hmem:=abd T.el x;unfold setAddHashed setAddHashedIn;refine af5 (aeQ (ahg T.get rfl T.fit ?_));dsimp only;rw [byScan_of hsc T.bd T.el];simp only [↓reduceIte];unfold setAddByScan;refine aeQ ?_;refine aeQ (agO ?_);refine aeQ (wpAny_setScan_of (knd:=PySem.strKind prog w) hkey T.get rfl T.fit T.el ?_);cases hr:List.findIdx? (fun e=>(PySem.strKind prog w).is x e.2) es.toList with
 | some j =>
  dsimp only;obtain⟨hj,hpj,_⟩:=List.findIdx?_eq_some_iff_getElem.mp hr;have hx:x∈uJ es:=hmem.mpr ⟨es.toList[j],afh hj,hpj⟩;refine aeX (aeX ?_);have q:=h s.heap (uJ es) (ajs a s.heap) ⟨es,ep,t,T,rfl,nd⟩ (.inl ⟨hx,rfl⟩);rw [afv hx] at q;exact q
 | none =>
  dsimp only;have hx:x ∉ uJ es:=fun hk=>by
   obtain⟨e,he,hp⟩:=hmem.mp hk;have:=List.findIdx?_eq_none_iff.mp hr e he;rw [hp] at this;exact Bool.noConfusion this
  have hgw:∀ (b:Bool) {s₁:Shared} {Q':Unit->Shared->Prop},Q' () s₁->wpAny (model prog w) A (match b with | true=>rule "set.scan.the-table-gave-way" | false=>pure ()) Q' E s₁ :=
   fun b s₁ Q' hq=>by cases b<;>first | exact aeX hq | exact agO hq
  have hperm:=layNew_perm t es (hashStr w x) (.str x tk);have hfits:=layNew_fits t es (hashStr w x) (.str x tk);have hled:=vK t es (hashStr w x) (.str x tk);generalize hL:layNew t es ((PySem.strKind prog w).hash x) (.str x tk)=L;have hL':layNew t es (hashStr w x) (.str x tk)=L:=hL;rw [hL'] at hperm hfits hled ⊢;obtain⟨es1,t1,wasDummy,gave⟩:=L;dsimp only at hperm hfits hled ⊢;rw [aij] at hperm;have hel1:ElemsOf (PySem.strKind prog w) es1.toList:=(T.el.push hkey hsc).perm hperm;have hb1':es1.size < scanBound:=by rw [← ae5,hperm.length_eq,aeR,ae5];simpa using hb1
  refine aeQ (hgw _ ?_);have hend:∀ h' es' ep' t',Heap.SameBut a s.heap h'->TxAt prog w h' a es' ep' t'->es'.toList.Perm es1.toList->Q true { s with heap:=h' }:=by
   intro h' es' ep' t' hsb T' p';have p2:(uJ es').Perm (uJ es++[x]):=by
    have:=(p'.trans hperm).map (fun e=>strOf e.2);simpa [uJ,strOf] using this
   have q:=h h' (uJ es') hsb ⟨es',ep',t',T',rfl,mH nd hx p2⟩ (.inr ⟨hx,p2⟩);rw [afw hx] at q;exact q
  split
  ·refine aeQ ?_;rw [hashByValue_scannable 8 hsc];refine aeX ?_;refine iU ?_ T.get hel1 hb1' ?_ ?_ ?_ ?_
   ·intro b s₁ Q' hq;cases b<;>first | exact aeX hq | exact agO hq
   ·exact SetTable.fits_plain_off hfits
   ·exact hled.trans T.led
   ·rfl
   ·intro h' es' ep' t' hsb T' p';dsimp only;exact aeX (hend h' es' ep' t' hsb T' p')
  ·rename_i hpl;refine aeQ (aeX ?_);simp only [↓reduceIte];refine iU ?_ T.get hel1 hb1' hfits (hled.trans T.led) (by simpa using hpl) ?_
   ·intro b s₁ Q' hq;cases b<;>first | exact aeX hq | exact agO hq
   ·intro h' es' ep' t' hsb T' p';dsimp only;exact aeX (hend h' es' ep' t' hsb T' p')
end
end
theorem ot:entryFor table "set.__iter__" = some Builtin.«frozenset.__iter__» :=
 entryFor_alias (id' := "frozenset.__iter__") (by kernel_rfl) rfl (by decide +kernel) (by kernel_rfl)
theorem slot_si_next:Slot "set_iterator" "__next__" "set_iterator.__next__" :=
 .of (owner := "set_iterator") (n := "__next__") (by rw [typeLookup_type,builtinLookup_eq_fast];kernel_rfl) (by decide +kernel) (by decide +kernel) (by decide +kernel)
  (by first | exact .inl (by decide +kernel) | exact .inr (by decide +kernel)) (by rw [isSubtype_type];kernel_rfl)
theorem pQ:entryFor table "set_iterator.__next__" = some Builtin.«set_iterator.__next__»:=entryFor_of_tree (by kernel_rfl)
theorem uH:Manifest.owners.lookup (String.ofList ['r','o','t','a','r','e','t','i','_','t','e','s'].reverse)=some Manifest.sig_set_iterator:=by kernel_rfl
theorem rJ (a:Value):argsOk "set_iterator.__next__" ⟨[a],[]⟩:=by
 unfold argsOk;rw [signature?_of (id := "set_iterator.__next__") (n:=['_','_','t','x','e','n','_','_']) (o:=['r','o','t','a','r','e','t','i','_','t','e','s']) (by kernel_rfl) uH];kernel_rfl
theorem kD:Slot "set_iterator" "__iter__" "set_iterator.__iter__" :=
 .of (owner := "set_iterator") (n := "__iter__") (by rw [typeLookup_type,builtinLookup_eq_fast];kernel_rfl) (by decide +kernel) (by decide +kernel) (by decide +kernel)
  (by first | exact .inl (by decide +kernel) | exact .inr (by decide +kernel)) (by rw [isSubtype_type];kernel_rfl)
theorem pR:entryFor table "set_iterator.__iter__" = some Builtin.«dict_keyiterator.__iter__» :=
 entryFor_alias (id' := "dict_keyiterator.__iter__") (by kernel_rfl) rfl (by decide +kernel) (by kernel_rfl)
theorem rK (a:Value):argsOk "set_iterator.__iter__" ⟨[a],[]⟩:=by
 unfold argsOk;rw [signature?_of (id := "set_iterator.__iter__") (n:=['_','_','r','e','t','i','_','_']) (o:=['r','o','t','a','r','e','t','i','_','t','e','s']) (by kernel_rfl) uH];kernel_rfl
def SIter (h:Heap)(it a:Addr)(first:Value)(i n ep:Nat):Prop :=
 ∃ o,h.get? it=some o/\o.cls=.type "set_iterator" ∧ o.data=.fields #[first,.int i 0,.ref a,.int n 0,.int ep 0]
theorem SIter.typeIs {s:Shared}{it a:Addr}{first:Value}{i n ep:Nat}(x:SIter s.heap it a first i n ep):s.TypeIs (.ref it) "set_iterator" := let ⟨o,ho,hc,_⟩:=x;⟨o,ho,hc⟩
theorem SIter.at' {h h':Heap}{it a:Addr}{first:Value}{i n ep:Nat}(x:SIter h it a first i n ep)(k:∀ o,h.get? it=some o->h'.get? it=some o):SIter h' it a first i n ep:=let ⟨o,ho,r⟩:=x;⟨o,k _ ho,r⟩
section
variable {prog:Program}{w:World}{A:Around}{E:Value->Shared->Prop}{s:Shared}{a I:Addr}{es:Array (Int×Value)}{ep:Nat}{t:SetTable}
def bO (w:World)(es:Array (Int×Value))(t:SetTable)(T:Addr)(i:Nat):Value :=
 if w.params.followText "set-order" = true then .int 0 0 else if es.size > 1 then .ref T else if i=0 then .int 0 0 else .int ((t.place.getD 0 0+1:Nat):Int) 0
def eR (w:World)(a:Addr)(es:Array (Int×Value))(ep:Nat)(ps:List Nat):List (Int×Value) :=
 if w.params.followText "set-order" = true then (pickOrder (w.params.setOrder a ep) es).toList else if es.size > 1 then ps.filterMap fun p=>es[p]? else es.toList
structure SSt (prog:Program)(w:World)(a I T:Addr)(es:Array (Int×Value))(ep:Nat)(t:SetTable)(ps:List Nat)(i:Nat)(h:Heap):Prop where
 set:TxAt prog w h a es ep t
 it:SIter h I a (bO w es t T i) i es.size ep
 tup:w.params.followText "set-order" = false->es.size > 1->IsTup h T (ps.map fun (p:Nat)=>Value.int p 0).toArray
theorem jN (es:Array (Int×Value)){ps:List Nat}(h:ps.Perm (List.range es.size)):(ps.filterMap fun p=>es[p]?).Perm es.toList:=by
 have:=h.filterMap fun p=>es[p]?
 rwa [filterMap_getElem?_range] at this
theorem kf (es:Array (Int×Value)):∀ (ps:List Nat),(∀ p∈ps,p < es.size)->∀ i:Nat,(ps.filterMap fun p=>es[p]?)[i]? = (ps[i]?).bind fun p=>es[p]?
 | [],_,i=>by simp
 | p::r,h,i=>by
  have hp:p < es.size:=h p ae0;rw [List.filterMap_cons_some (b:=es[p]) (by simp [hp])];cases i with
  | zero=>simp [hp]
  | succ i =>
   rw [ah8,ah8];exact kf es r (fun q hq=>h q (ae6 _ hq)) i
theorem xw (j k:Nat)(hk:k<=j):SetTable.below #[j] k=0:=by
 unfold SetTable.below;simp only [ae9,afr,ahF,ahI];unfold SetTable.below.go;rw [if_pos (by decide:0 < 1)];simp only;have:(0+1) / 2=0:=by decide
 rw [this];have e:(#[j]:Array Nat).getD 0 k=j:=rfl;rw [e,if_neg (by lia)]
 rfl
theorem vZ (j:Nat):SetTable.below #[j] (j+1)=1:=by
 unfold SetTable.below;simp only [ae9,afr,ahF,ahI];unfold SetTable.below.go;rw [if_pos (by decide:0 < 1)];simp only;have:(0+1) / 2=0:=by decide
 rw [this];have e:(#[j]:Array Nat).getD 0 (j+1)=j:=rfl;rw [e,if_pos (by lia)]
 rfl
theorem yS (k:Nat):SetTable.below #[] k=0:=rfl
theorem zX {Q:Option Value->Shared->Prop}{s₁:Shared}(hh:A.handled=none)(hQ:∀ h',(∀ b o,s₁.heap.get? b=some o->h'.get? b=some o)->Q none { s₁ with heap:=h' }) :
 wpAny (model prog w) A.in1 (do raiseNew (← newExc (.type "StopIteration") [])) (fun fin s'=>∃ r,fin=Fin.done (.ret r)/\wpAny (model prog w) A (match Except.ok (ε:=Value) (some r) with | .ok (some v)=>pure (some v) | .ok none=>unsupported "x" | .error e=>throw e) Q E s')
  (fun e s'=>wpAny (model prog w) A (do if ← isInstance e (.type "StopIteration") then pure none else throw e) Q E s') s₁:=by
 refine aeQ ?_;simp only [newExc,newTuple];refine aeQ (af2 ?_ (by size_fits));refine aeQ (m:=firstArgMember _ _) (ajJ (a:=Value.none) (by first | rfl | (simp only [firstArgMember];rfl)) ?_);refine af2 ?_ (by size_fits);simp only [raiseNew];refine aeQ (wpAny_handled ?_);rw [show A.in1.handled=none from hh];refine aeQ (aeX (wpAny_throw ?_));refine aeQ (ajS (T := "StopIteration") (b:=true) ⟨_,afd _ rfl,rfl⟩ isSubtype_stop ?_);exact aeX (hQ _ fun b o e=>aeV _ (aeV _ e))
end
def ic (es:Array (Int×Value))(t:SetTable)(slot:Nat):Option (Value×Nat) :=
 match es[SetTable.below t.place slot]?,t.place[SetTable.below t.place slot]? with
  | some (_,x),some j=>some (x,j+1)
  | _,_=>none
def abK (b:Bool):Sem Unit:=do
 if b then unsupported "set:maker-not-led"
theorem tR (a:Addr):setDrawn a=(do
 let (es,_,t) ← setState a
 let byText ← setsByText
 return !byText && (!t.plain && decide (es.size > 1))):=rfl
theorem wI (a:Addr):setWalk a=(do
 let (es,epoch,t) ← setState a
 if ← setsByText then return pickOrder ((← ask).params.setOrder a epoch) es
 if (!t.plain && decide (es.size > 1)) then return (← drawOrder es.size es.toList).toArray
 abK (!t.led && decide (es.size > 1)) >>= fun _=>pure es):=rfl
theorem oZ (a:Addr)(slot given epochThen:Nat):setNext a slot given epochThen=(do
 let (es,epoch,t) ← setState a
 if ← setsByText then
  if epoch != epochThen then unsupported "set_iterator.__next__:elements-changed"
  return ((← setWalk a)[given]?).map fun e=>(e.2,slot)
 if (!t.plain && decide (es.size > 1)) then unsupported "set_iterator.__next__:the-table-is-plain-no-more"
 abK (!t.led && !es.isEmpty) >>= fun _=>pure (ic es t slot)):=rfl
section
variable {prog:Program}{w:World}{A:Around}{E:Value->Shared->Prop}{s:Shared}{a I T:Addr}{es:Array (Int×Value)}{ep:Nat}{t:SetTable}{ps:List Nat}
theorem cy {Q:Bool->Shared->Prop}(h:Q (w.params.followText "set-order") s):wpAny (model prog w) A setsByText Q E s:=by
 unfold setsByText;exact aeQ (ahu (aeX h))
theorem ua {Q:Bool->Shared->Prop}(x:TxAt prog w s.heap a es ep t)(h:Q (!w.params.followText "set-order" && decide (es.size > 1)) s):wpAny (model prog w) A (setDrawn a) Q E s:=by
 rw [tR];refine aeQ (ahg x.get rfl x.fit ?_);dsimp only;refine aeQ (cy (aeX ?_));have e:(!t.plain && decide (es.size > 1))=decide (es.size > 1):=by
  rcases x.pl with q | q
  ·rw [q];rfl
  ·subst q;simp
 rw [e];exact h
theorem rC {Q:Array (Int×Value)->Shared->Prop}(x:TxAt prog w s.heap a es ep t)(ht:w.params.followText "set-order" = true)(h:Q (pickOrder (w.params.setOrder a ep) es) s):wpAny (model prog w) A (setWalk a) Q E s:=by
 rw [wI];refine aeQ (ahg x.get rfl x.fit ?_);dsimp only;refine aeQ (cy ?_);rw [ht];simp only [ahy];exact aeQ (ahu (aeX h))
theorem kK {Q:Option (Value×Nat)->Shared->Prop}{given:Nat}(x:TxAt prog w s.heap a es ep t)(ht:w.params.followText "set-order" = true)(h:Q (((pickOrder (w.params.setOrder a ep) es)[given]?).map fun e=>(e.2,0)) s) :
 wpAny (model prog w) A (setNext a 0 given ep) Q E s:=by
 rw [oZ];refine aeQ (ahg x.get rfl x.fit ?_);dsimp only;refine aeQ (cy ?_);rw [ht];simp only [ahy,ahN,afA,agF];refine aeQ (rC x ht (aeX h))
theorem jh {Q:Option (Value×Nat)->Shared->Prop}{slot given:Nat}(x:TxAt prog w s.heap a es ep t)(ht:w.params.followText "set-order" = false)(hs:¬ es.size > 1)
 (h:Q (ic es t slot) s) :
 wpAny (model prog w) A (setNext a slot given ep) Q E s:=by
 rw [oZ];refine aeQ (ahg x.get rfl x.fit ?_);dsimp only;refine aeQ (cy ?_);have hl:t.led=true:=by rw [x.led,ht];rfl
 rw [ht];simp only [afA,agF,afw hs,Bool.and_false,hl,Bool.not_true,Bool.false_and,abK];exact aeQ (aeX (aeX h))
theorem se (x:TxAt prog w s.heap a es ep t)(hs:¬ es.size > 1):(es=#[]/\t.place=#[])\/∃ e j,es=#[e]/\t.place=#[j]:=by
 have hp:t.place.size=es.size:=by
  have:=x.fit;simp only [SetTable.fits,afV,afu] at this;exact this.1
 by_cases h0:es.size=0
 ·exact .inl ⟨aj3.mp h0,aj3.mp (by lia)⟩
 ·have h1:es.size=1:=by lia
  obtain⟨e,he⟩:=aka.mp h1;obtain⟨j,hj⟩:=aka.mp (hp.trans h1);exact .inr ⟨e,j,he,hj⟩
theorem jR (hps:ps.Perm (List.range es.size)):(eR w a es ep ps).Perm es.toList:=by
 unfold eR;split
 ·exact iQ _ _
 ·split
  ·exact jN es hps
  ·exact .rfl
end
section
variable {prog:Program}{w:World}{A:Around}{E:Value->Shared->Prop}{s:Shared}{a I T:Addr}{es:Array (Int×Value)}{ep:Nat}{t:SetTable}{ps:List Nat}{i:Nat}
theorem tD {f x:Value}{n:Nat}{Q:Unit->Shared->Prop}(hit:SIter s.heap I a f i n ep)(h:∀ h',SIter h' I a x i n ep->Heap.SameBut I s.heap h'->Q () { s with heap:=h' }):wpAny (model prog w) A (setField (.ref I) 0 x) Q E s:=by
 obtain⟨o,ho,hc,hd⟩:=hit;refine aim ho hd (by simp) (h _ ⟨_,agz _ ho (Obj.isFreed_of_fields (ahC hd _)),(ajt ..).trans hc,by rw [ahC hd];simp⟩ (afX ..))
theorem xB {f:Value}{n:Nat}{Q:Unit->Shared->Prop}(hit:SIter s.heap I a f i n ep)(h:∀ h',SIter h' I a f (i+1) n ep->Heap.SameBut I s.heap h'->Q () { s with heap:=h' }):wpAny (model prog w) A (setField (.ref I) 1 (rawInt ((i:Int)+1))) Q E s:=by
 obtain⟨o,ho,hc,hd⟩:=hit;refine aim ho hd (by simp) (h _ ⟨_,agz _ ho (Obj.isFreed_of_fields (ahC hd _)),(ajt ..).trans hc,by rw [ahC hd];simp [rawInt]⟩ (afX ..))
theorem pS {f:Value}{n:Nat}{Q:Unit->Shared->Prop}(hit:SIter s.heap I a f i n ep)(h:∀ h',Heap.SameBut I s.heap h'->Q () { s with heap:=h' }):wpAny (model prog w) A (setField (.ref I) 2 .none) Q E s:=by
 obtain⟨o,ho,hc,hd⟩:=hit;exact aim ho hd (by simp) (h _ (afX ..))
theorem SSt.next {s':Heap}(hit:SSt prog w a I T es ep t ps i s')(hI:a≠I)(hT:T≠I)(i':Nat){h':Heap}(he:SIter h' I a (bO w es t T i') i' es.size ep)(k:∀ b o,b≠I->s'.get? b=some o->h'.get? b=some o):SSt prog w a I T es ep t ps i' h' :=
 ⟨hit.set.at' fun o e=>k a o hI e,he,fun h1 h2=>by
  obtain⟨o,e,c⟩:=hit.tup h1 h2;exact⟨o,k T o hT e,c⟩⟩
theorem rG {Q:Option Value->Shared->Prop}(hst:SSt prog w a I T es ep t ps i s.heap)
 (h:wpAny (model prog w) A.in1 (match bO w es t T i with
 | Value.int slot tok=>do
  match ← setNext a slot.toNat (i:Int).toNat (ep:Int).toNat with
   | some (x,next)=>do
    setField (Value.ref I) 0 (rawInt (next:Nat))
    setField (Value.ref I) 1 (rawInt ((i:Int)+1))
    ret x
   | none=>do
    setField (Value.ref I) 2 Value.none
    raiseNew (← newExc (Value.type "StopIteration") [])
 | _=>do
  let some places ← seqItems? (bO w es t T i) | unsupported "internal:set_iterator"
  match places[(i:Int).toNat]? with
   | some (Value.int place tok)=>do
    let x ← setNextDrawn a place.toNat (ep:Int).toNat
    setField (Value.ref I) 1 (rawInt ((i:Int)+1))
    ret x
   | some _=>unsupported "internal:set_iterator"
   | none=>do
    setField (Value.ref I) 0 (rawInt 0)
    setField (Value.ref I) 2 Value.none
    raiseNew (← newExc (Value.type "StopIteration") []))
 (fun fin s'=>∃ v,fin=Fin.done (Flow.ret v)/\wpAny (model prog w) A (pure (some v)) Q E s')
 (fun e s' =>
  wpAny (model prog w) A
   (do
    if ← isInstance e (Value.type "StopIteration") then pure none else throw e)
   Q E s')
 s):wpAny (model prog w) A (pyNext (.ref I)) Q E s:=by
 obtain⟨o,ho,hc,hd⟩:=id hst.it;obtain⟨oc,odict,odata,oslots⟩:=o;simp only at hc hd;subst hc hd;unfold pyNext;refine aeQ (aiK (wpAny_callSpecial?_slot (name:=Str.ofString "__next__") hst.it.typeIs slot_si_next
  (agx slot_si_next hst.it.typeIs pQ ?_ (rJ _))))
 unfold Builtin.«set_iterator.__next__»;refine aeQ (aeX ?_);refine aeQ (wpAny_fieldsOf ho rfl ?_);dsimp only;refine aeQ (wpAny_setEntries_of hst.set.get rfl hst.set.fit ?_);simp only [ahN,afA,agF];exact h
theorem mY {Q:Value->Shared->Prop}{p:Nat}{e:Int×Value}(x:TxAt prog w s.heap a es ep t)(hp:es[p]? = some e)(h:Q e.2 s):wpAny (model prog w) A (setNextDrawn a p ep) Q E s:=by
 unfold setNextDrawn;refine aeQ (ahg x.get rfl x.fit ?_);simp only [ahN,afA,agF,hp];exact aeX h
theorem nu {h h':Heap}(x:Heap.SameBut I h h'):∀ b o,b≠I->h.get? b=some o->h'.get? b=some o:=fun b o hb e=>(x.2 b hb).trans e
theorem p4 {Q:Option Value->Shared->Prop}(hst:SSt prog w a I T es ep t ps i s.heap)(hps:ps.Perm (List.range es.size))(hI:a≠I)(hT:T≠I)(hi:i < es.size)
 (hQ:∀ v h' tk,(eR w a es ep ps)[i]?.map (·.2)=some v->SSt prog w a I T es ep t ps (i+1) h'->(∀ b o,b≠I->s.heap.get? b=some o->h'.get? b=some o)->Q (some v) { s with heap:=h',toks:=tk }) :
 wpAny (model prog w) A (pyNext (.ref I)) Q E s:=by
 refine rG hst ?_;have ol:(eR w a es ep ps).length=es.size:=by rw [(jR (w:=w) (a:=a) (ep:=ep) hps).length_eq,ae5]
 obtain⟨e,he⟩:∃ e,(eR w a es ep ps)[i]? = some e:=⟨_,aeO (by lia)⟩;have hit:=hst.it;rw [afj,afj];cases hb:w.params.followText "set-order" with
 | true =>
  have ef:∀ j,bO w es t T j=.int 0 0:=fun j=>by unfold bO;rw [if_pos hb]
  rw [ef i] at hit ⊢;dsimp only;rw [aji];refine aeQ (kK hst.set hb ?_);have e2:(pickOrder (w.params.setOrder a ep) es)[i]? = some e:=by
   unfold eR at he;rw [if_pos hb,afK] at he;exact he
  rw [e2];dsimp only [Option.map];refine aeQ (tD (x:=.int 0 0) hit fun h1 it1 k1=>?_);refine aeQ (xB it1 fun h2 it2 k2=>?_);have k12:=(k1.trans k2);exact aeX ⟨_,rfl,aeX (hQ e.2 h2 s.toks (by rw [he];rfl) (hst.next hI hT (i+1) (by rw [ef];exact it2) (nu k12)) (nu k12))⟩
 | false =>
  by_cases hs:es.size > 1
  ·have ef:∀ j,bO w es t T j=.ref T:=fun j=>by unfold bO;rw [if_neg (by rw [hb];exact aeY),if_pos hs]
   rw [ef i] at hit ⊢;dsimp only;obtain⟨oT,hoT,hcT,nT,hdT⟩:=hst.tup hb hs;have hlt:i < ps.length:=by rw [hps.length_eq,afz];exact hi
   refine aeQ (wpAny_seqItems hoT hdT ?_);dsimp only;have e1:(ps.map fun (p:Nat)=>Value.int p 0).toArray[i]? = some (.int ps[i] 0):=by simp [hlt]
   rw [e1];dsimp only;rw [afj];have pl:∀ p∈ps,p < es.size:=fun p hp=>afZ.mp (hps.mem_iff.mp hp);have e2:es[ps[i]]? = some e:=by
    unfold eR at he;rw [if_neg (by rw [hb];exact aeY),if_pos hs,kf es ps pl i,aeO hlt] at he;exact he
   refine aeQ (mY hst.set e2 ?_);refine aeQ (xB hit fun h2 it2 k2=>?_);exact aeX ⟨_,rfl,aeX (hQ e.2 h2 s.toks (by rw [he];rfl) (hst.next hI hT (i+1) (by rw [ef];exact it2) (nu k2)) (nu k2))⟩
  ·rcases se hst.set hs with ⟨e0,_⟩ | ⟨e0,j,ee,ej⟩
   ·subst e0;simp at hi
   have i0:i=0:=by rw [ee] at hi;simp at hi;exact hi
   subst i0;have ef0:bO w es t T 0=.int 0 0:=by unfold bO;rw [if_neg (by rw [hb];exact aeY),if_neg hs,if_pos rfl]
   have ef1:bO w es t T 1=.int ((j+1:Nat):Int) 0:=by unfold bO;rw [if_neg (by rw [hb];exact aeY),if_neg hs,if_neg (by decide),ej];rfl
   rw [ef0] at hit ⊢;dsimp only;rw [aji];refine aeQ (jh hst.set hb hs ?_);have e2:e=e0:=by
    unfold eR at he;rw [if_neg (by rw [hb];exact aeY),if_neg hs,ee] at he;simpa using he.symm
   have em:ic es t 0=some (e0.2,j+1):=by
    unfold ic;rw [ej,xw j 0 (afe _),ee];rfl
   rw [em];dsimp only;refine aeQ (tD (x:=.int ((j+1:Nat):Int) 0) hit fun h1 it1 k1=>?_);refine aeQ (xB it1 fun h2 it2 k2=>?_);have k12:=(k1.trans k2);exact aeX ⟨_,rfl,aeX (hQ e0.2 h2 s.toks (by rw [he,e2];rfl) (hst.next hI hT 1 (by rw [ef1];exact it2) (nu k12)) (nu k12))⟩
theorem ql {Q:Option Value->Shared->Prop}(hh:A.handled=none)(hst:SSt prog w a I T es ep t ps es.size s.heap)(hps:ps.Perm (List.range es.size))
 (hQ:∀ h' tk,(∀ b o,b≠I->s.heap.get? b=some o->h'.get? b=some o)->Q none { s with heap:=h',toks:=tk }) :
 wpAny (model prog w) A (pyNext (.ref I)) Q E s:=by
 refine rG hst ?_;have hit:=hst.it;have fin:∀ {h1:Heap},Heap.SameBut I s.heap h1->wpAny (model prog w) A.in1 (do raiseNew (← newExc (.type "StopIteration") [])) (fun fin s'=>∃ v,fin=Fin.done (Flow.ret v)/\wpAny (model prog w) A (pure (some v)) Q E s')
  (fun e s'=>wpAny (model prog w) A (do if ← isInstance e (Value.type "StopIteration") then pure none else throw e) Q E s') { s with heap:=h1 }:=fun {h1} k1 =>
  zX (s₁:={ s with heap:=h1 }) hh fun h' k=>hQ h' s.toks fun b o hb e=>k b o (nu k1 b o hb e)
 rw [afj,afj];cases hb:w.params.followText "set-order" with
 | true =>
  have ef:∀ j,bO w es t T j=.int 0 0:=fun j=>by unfold bO;rw [if_pos hb]
  rw [ef] at hit ⊢;dsimp only;rw [aji];refine aeQ (kK hst.set hb ?_);have e2:(pickOrder (w.params.setOrder a ep) es)[es.size]? = none:=by
   have:=(iQ (w.params.setOrder a ep) es).length_eq;rw [ae5,ae5] at this;exact aif (by lia)
  rw [e2];dsimp only [Option.map];exact aeQ (pS hit fun h1 k1=>fin k1)
 | false =>
  by_cases hs:es.size > 1
  ·have ef:∀ j,bO w es t T j=.ref T:=fun j=>by unfold bO;rw [if_neg (by rw [hb];exact aeY),if_pos hs]
   rw [ef] at hit ⊢;dsimp only;obtain⟨oT,hoT,hcT,nT,hdT⟩:=hst.tup hb hs;refine aeQ (wpAny_seqItems hoT hdT ?_);dsimp only;have e1:(ps.map fun (p:Nat)=>Value.int p 0).toArray[es.size]? = none:=by
    have:=hps.length_eq;rw [afz] at this;simp [this]
   rw [e1];dsimp only;refine aeQ (tD (x:=.int 0 0) hit fun h1 it1 k1=>?_);exact aeQ (pS it1 fun h2 k2=>fin (k1.trans k2))
  ·rcases se hst.set hs with ⟨ee,ej⟩ | ⟨e0,j,ee,ej⟩
   ·have ef0:bO w es t T es.size=.int 0 0:=by unfold bO;rw [if_neg (by rw [hb];exact aeY),if_neg hs,ee,if_pos (by simp)]
    rw [ef0] at hit ⊢;dsimp only;rw [aji];refine aeQ (jh hst.set hb hs ?_);have em:ic es t 0=none:=by
     unfold ic;rw [ej,yS,ee];rfl
    rw [em];dsimp only;exact aeQ (pS hit fun h1 k1=>fin k1)
   ·have ef1:bO w es t T es.size=.int ((j+1:Nat):Int) 0:=by unfold bO;rw [if_neg (by rw [hb];exact aeY),if_neg hs,ee,if_neg (by simp),ej];rfl
    rw [ef1] at hit ⊢;dsimp only;rw [afj];refine aeQ (jh hst.set hb hs ?_);have em:ic es t (j+1)=none:=by
     unfold ic;rw [ej,vZ,ee];rfl
    rw [em];dsimp only;exact aeQ (pS hit fun h1 k1=>fin k1)
theorem abo {Q:Value->Shared->Prop}{f:Value}{n:Nat}(hit:SIter s.heap I a f i n ep)(h:Q (.ref I) s):wpAny (model prog w) A (pyIter (.ref I)) Q E s:=by
 refine aju hit.typeIs kD (agx kD hit.typeIs pR ?_ (rK _));show wpAny _ _ (ret (.ref I)) _ _ s;exact aeX ⟨_,rfl,"set_iterator",_,hit.typeIs,slot_si_next.lookup,h⟩
theorem Walks.set (hh:A.handled=none)(hI:a≠I)(hT:T≠I)(hps:ps.Perm (List.range es.size)) :
 Walks prog w A I [I,a,T] [I] es.size (fun i v=>(eR w a es ep ps)[i]?.map (·.2)=some v) (fun i h=>SSt prog w a I T es ep t ps i h) where
 sub:=fun b hb=>by simp at hb;simp [hb]
 frame:=fun i h h' st hk=>⟨st.set.at' fun o e=>hk a (by simp) o e,st.it.at' fun o e=>hk I (by simp) o e,fun h1 h2=>let ⟨o,e,c⟩:=st.tup h1 h2;⟨o,hk T (by simp) o e,c⟩⟩
 item:=fun i s Q E hi st hQ=>p4 st hps hI hT hi fun v h' tk e st' k=>hQ v h' tk e st' fun b o hb q=>k b o (fun z=>hb (by simp [z])) q
 done:=fun s Q E st hQ=>ql hh st hps fun h' tk k=>hQ h' tk fun b o hb q=>k b o (fun z=>hb (by simp [z])) q
 self:=fun i s Q E st hQ=>abo st.it hQ
theorem wJ {Q:Value->Shared->Prop}(x:TxAt prog w s.heap a es ep t)
 (h:∀ (I T:Addr) (ps:List Nat) (h':Heap) (d:Drawn),ps.Perm (List.range es.size)->a≠I->T≠I->s.heap.objs.size<=I->(T=a\/s.heap.objs.size<=T)->I < h'.objs.size->T < h'.objs.size->SSt prog w a I T es ep t ps 0 h'->(∀ b o,s.heap.get? b=some o->h'.get? b=some o)->Q (.ref I) { s with heap:=h',drawn:=d }) :
 wpAny (model prog w) A (pyIter (.ref a)) Q E s:=by
 have hT:s.TypeIs (.ref a) "set" := ⟨_,x.get,rfl⟩;have hlt:a < s.heap.objs.size:=ae8 x.get;refine aju hT F.slot_set_iter (agx F.slot_set_iter hT ot ?_ (F.args_set_iter_1 _));unfold Builtin.«frozenset.__iter__» Builtin.Frozenset.slot0 slotArgs;simp only [List.isEmpty_nil,Bool.not_true,afA,↓reduceIte,bind_assoc,ahF,ahN];unfold Builtin.Frozenset.addrOf Builtin.Frozenset.sizeOf;refine aeQ (aeX ?_)
 try dsimp only
 refine aeQ (aeX ?_);refine aeQ (aeQ (wpAny_setEntries_of x.get rfl x.fit (aeX ?_)));refine aeQ (ua x ?_);have fin:∀ (T:Addr) (ps:List Nat) (h1:Heap) (d:Drawn),ps.Perm (List.range es.size)->(T=a\/s.heap.objs.size<=T)->T < h1.objs.size->(∀ b o,s.heap.get? b=some o->h1.get? b=some o)->s.heap.objs.size<=h1.objs.size →
  (w.params.followText "set-order" = false->es.size > 1->IsTup h1 T (ps.map fun (p:Nat)=>Value.int p 0).toArray) →
  wpAny (model prog w) A.in1 (do
   let r ← newFields "set_iterator" [bO w es t T 0,rawInt 0,Value.ref a,rawInt (es.size:Nat),rawInt (ep:Nat)]
   ret r) (fun fin s'=>∃ v,fin=Fin.done (Flow.ret v)/\∃ T' r,s'.TypeIs v T'/\typeLookup (Value.type T') (Str.ofString "__next__")=pure (some r)/\Q v s') E { s with heap:=h1,drawn:=d }:=fun T ps h1 d hps hTa hTl k hz hp=>by
  refine aeQ (af2 (aeX ⟨_,rfl,"set_iterator",_,⟨_,afd _ rfl,rfl⟩,slot_si_next.lookup,?_⟩));have k2:∀ b o,h1.get? b=some o->(h1.push { cls:=.type "set_iterator",data:=.fields #[bO w es t T 0,rawInt 0,Value.ref a,rawInt (es.size:Nat),rawInt (ep:Nat)] }).get? b=some o:=fun b o e=>aeV _ e;refine h h1.objs.size T ps (h1.push { cls:=.type "set_iterator",data:=.fields #[bO w es t T 0,rawInt 0,Value.ref a,rawInt (es.size:Nat),rawInt (ep:Nat)] }) d hps (afm (afg hlt hz)) (afm hTl) hz hTa (by rw [agC];exact ajT _) (by rw [agC];exact agn hTl) ⟨x.at' fun o e=>k2 _ _ (k _ _ e),⟨_,afd _ rfl,rfl,rfl⟩,fun h1 h2=>?_⟩ fun b o e=>k2 _ _ (k _ _ e);obtain⟨o,e,c⟩:=hp h1 h2;exact⟨o,k2 _ _ e,c⟩
 by_cases hd:w.params.followText "set-order" = false/\es.size > 1
 ·have e1:(!w.params.followText "set-order" && decide (es.size > 1))=true:=by rw [hd.1,afv hd.2];rfl
  rw [e1];simp only [ahy];refine aeQ (gQ _ _ _ _ (by simp) fun ys d p=>?_);simp only [newTuple];have hys:ys.length<=sizeLine:=by rw [p.length_eq,afz];exact aik x.bd
  refine aeQ (af2 ?_ (by show (List.map (fun (i:Nat)=>rawInt i) ys).toArray.size<=sizeLine;simpa using hys));refine aeQ (wpAny_setEpoch_of (aeV _ x.get) rfl x.fit ?_);have ef:bO w es t s.heap.objs.size 0=.ref s.heap.objs.size:=by unfold bO;rw [if_neg (by rw [hd.1];exact aeY),if_pos hd.2]
  have q:=fin s.heap.objs.size ys (s.heap.push { cls:=.type "tuple",data:=.seq (ys.map fun (p:Nat)=>Value.int p 0).toArray }) d p (.inr (ae1 _)) (by rw [agC];exact ajT _) (fun b o e=>aeV _ e) (by rw [agC];exact aho _) (fun _ _=>⟨_,afd _ rfl,rfl,_,rfl⟩);rw [ef] at q;exact q
 ·have e1:(!w.params.followText "set-order" && decide (es.size > 1))=false:=by
   rw [Bool.eq_false_iff];intro z;rw [afV,ahf,ago] at z;exact hd z
  rw [e1];simp only [afA,agF];refine aeQ (aeX ?_);refine aeQ (wpAny_setEpoch_of x.get rfl x.fit ?_);have ef:bO w es t a 0=rawInt 0:=by
   unfold bO;split
   ·rfl
   ·split
    ·rename_i q1 q2;exact absurd ⟨by simpa using q1,q2⟩ hd
    ·rfl
  have q:=fin a (List.range es.size) s.heap s.drawn .rfl (.inl rfl) hlt (fun _ _ e=>e) (ae1 _) (fun h1 h2=>absurd ⟨h1,h2⟩ hd);rw [ef] at q;exact q
end
end L2
namespace L2
open PySem PySem.Spec PyProof.Rows PySem.W
section
variable {prog:Program}{w:World}{A:Around}{E:Value->Shared->Prop}{s:Shared}{a I T:Addr}{es:Array (Int×Value)}{ep:Nat}{t:SetTable}{ps:List Nat}{i:Nat}
theorem zF {Q:Bool->Shared->Prop}(hT:s.TypeIs (.ref a) "set")(h:Q false s):wpAny (model prog w) A (Builtin.List.listLengthHint (.ref a)) Q E s:=by
 unfold Builtin.List.listLengthHint;refine aeQ (wpAny_specialOf hT PySem.F.slot_set_len.lookup ?_);generalize hid:("set.__len__" : String)=id0
 wp_delta
 rw [show splitId id0=some ("set","__len__") from by subst hid;decide +kernel];subst hid;refine aeQ (ajS (T := "set") (b:=true) hT (by rw [isSubtype_type];kernel_rfl) ?_);refine akc (fun hab=>absurd hab (by decide)) (fun _=>?_);refine akc (fun _=>?_) (fun hab=>absurd (by decide +kernel) hab);refine aeQ (wpAny_typeOf hT ?_);exact aeX h
theorem vT {R:Result->Shared->Prop}(hh:A.handled=none)(x:TxAt prog w s.heap a es ep t)(S:Addr)(hSa:S≠a)(res:Value)(c₀:Nat)(hS:s.heap.get? S=some { cls:=.type "list",data:=.seq #[] c₀ })
 (hR:∀ h' d tk acc' c' ps,ps.Perm (List.range es.size)->(∀ b o,b≠S->s.heap.get? b=some o->h'.get? b=some o)->h'.get? S=some { cls:=.type "list",dict:=none,data:=.seq acc' c',slots:=#[] }->ItemsOf (fun i v=>(eR w a es ep ps)[i]?.map (·.2)=some v) acc' es.size->R (.ok (.ret res)) { s with heap:=h',drawn:=d,toks:=tk }) :
 wpAny (model prog w) A.in1 (Builtin.List.listExtendWith (.ref S) (.ref a) res)
  (fun fin s'=>match fin with | .done f=>R (.ok f) s' | .again c'=>c'.quiet=true/\codeAny (model prog w) A c' R s') (fun e s'=>R (.error e) s') s:=by
 have hn:es.size<=sizeLine:=aik x.bd;have hSlt:S < s.heap.objs.size:=ae8 hS;unfold Builtin.List.listExtendWith;refine aeQ (wpAny_typeOf (T := "set") ⟨_,x.get,rfl⟩ ?_);have h1:Builtin.List.listSameRef (.ref S) (.ref a)=false:=by simp [Builtin.List.listSameRef,hSa]
 have h2:(Value.type "set" == Value.type "list")=false:=by decide
 have h3:(Value.type "set" == Value.type "tuple")=false:=by decide
 simp only [h1,h2,h3,Bool.or_false,afA,agF];refine aeQ (wJ x fun I T ps h1 d hps haI hTI hIs hTs hIl hTl st k1=>?_);have hSI:S≠I:=afm (afg hSlt hIs);have hST:S≠T:=by
  rcases hTs with z | z
  ·rw [z];exact hSa
  ·exact afm (afg hSlt z)
 have hSf:S ∉ [I,a,T]:=by simp only [ae7,af4,ahO,not_or];exact⟨hSI,hSa,hST⟩
 have W:Walks prog w A.in1 I [I,a,T] [I] es.size (fun i v=>(eR w a es ep ps)[i]?.map (·.2)=some v) (fun i h=>SSt prog w a I T es ep t ps i h):=Walks.set hh haI hTI hps;have key:∀ (h:Heap) (c₁ tk:Nat),SSt prog w a I T es ep t ps 0 h->(∀ b o,b≠S->s.heap.get? b=some o->h.get? b=some o) →
  h.get? S=some { cls:=.type "list",data:=.seq #[] c₁ }->codeAny (model prog w) A (.builtin "list.extend.loop" ⟨[.ref S,.ref I,res],[]⟩) R { s with heap:=h,drawn:=d,toks:=tk }:=by
  intro h c₁ tk hst hk hS₁;refine codeAny_extend_loopS W.toS hn S hSf res es.size 0 _ #[] c₁ rfl (afe _) hst hS₁ (ItemsOf.nil _) fun s' acc' c' hm hS' hacc=>?_;rw [Moved.eq_with hm];refine hR s'.heap _ s'.toks acc' c' ps hps (fun b o hb e=>hm.heap b o (fun hmem=>?_) (hk b o hb e)) hS' hacc;rcases ae7.mp hmem with e' | hmem
  ·exact hb e'
  ·rw [aeS.mp hmem] at e;exact absurd (afg (ae8 e) hIs) (ag4 _)
 have hS₁:=k1 _ _ hS;refine aeQ (af5 (zF ⟨_,k1 _ _ x.get,rfl⟩ ?_));refine akc (fun _=>?_) (fun _=>aeX ⟨ahq ajj _,key _ c₀ _ st (fun b o _ e=>k1 _ _ e) hS₁⟩);refine aeQ (agO ?_);refine aeQ ?_;show wpAny _ _ (updateSeq S (·.push .none) >>= fun _=>updateSeq S (·.pop)) _ _ _;refine aeQ (wpAny_updateSeq hS₁ rfl ?_);have hS₂:=agz (Obj.mapSeq (·.push Value.none)) hS₁ rfl;refine wpAny_updateSeq (hz:=by seq_fits) hS₂ rfl ?_;have hS₃:=agz (Obj.mapSeq (·.pop)) hS₂ rfl;refine aeX ⟨ahq ajj _,key _ _ _ ?_ (fun b o hb e=>?_) hS₃⟩
 ·refine W.frame 0 _ _ st fun b hb o e=>?_;have hbS:b≠S:=fun h=>hSf (h▸hb);exact (agK _ _ (agM hbS)).trans ((agK _ _ (agM hbS)).trans e)
 ·exact (agK _ _ (agM hb)).trans ((agK _ _ (agM hb)).trans (k1 _ _ e))
theorem tP {R:List Value->Shared->Prop}(hh:A.handled=none)(x:TxAt prog w s.heap a es ep t)
 (h:∀ (h':Heap) (d:Drawn) (tk:Nat) (acc:List Value),(∀ b o,s.heap.get? b=some o->h'.get? b=some o)->s.heap.objs.size<=h'.objs.size->acc.Perm (es.toList.map (·.2))->R acc { s with heap:=h',drawn:=d,toks:=tk }) :
 wpAny (model prog w) A (collect (.ref a)) R E s:=by
 have hlt:a < s.heap.objs.size:=ae8 x.get;have fin:∀ (acc:Array Value) (ps:List Nat),ps.Perm (List.range es.size)->ItemsOf (fun i v=>(eR w a es ep ps)[i]?.map (·.2)=some v) acc es.size->acc.toList.Perm (es.toList.map (·.2)):=fun acc ps hps ha=>by
  have e:acc.toList=(eR w a es ep ps).map (·.2):=by
   apply ahh;intro i;rw [aeZ];cases q:acc.toList[i]? with
   | some v=>exact (ha.2 i v (by rw [← afK];exact q)).symm
   | none =>
    have:=List.getElem?_eq_none_iff.mp q;rw [ae5,ha.1] at this;have ol:(eR w a es ep ps).length=es.size:=by rw [(jR (w:=w) (a:=a) (ep:=ep) hps).length_eq,ae5]
    rw [ag6 (by lia)]
    rfl
  rw [e];exact (jR hps).map _
 unfold collect;refine aeQ (ajk (agj aiD ?_));rw [aga ahJ _];show wpAny _ A.in1 (newList [] >>= fun l=>again (.builtin "list.__iadd__" ⟨[l,.ref a],[]⟩)) _ _ s;refine aeQ (af2 ?_);refine aeX ⟨ahq agG _,agj entry_list_iadd' ?_⟩;rw [aga agG _];have hS₁:(s.heap.push { cls:=.type "list",data:=.seq ([]:List Value).toArray }).get? s.heap.objs.size=some { cls:=.type "list",data:=.seq #[] }:=afd _ rfl;show wpAny _ A.in1 (Builtin.List.listExtendWith (.ref s.heap.objs.size) (.ref a) (.ref s.heap.objs.size)) _ _ _;have key:=vT (A:=A) (s:={ s with heap:=s.heap.push { cls:=.type "list",data:=.seq ([]:List Value).toArray } })
  (R:=fun (q:Result) (s':Shared)=>∃ (h':Heap) (d:Drawn) (tk:Nat) (acc':Array Value) (c':Nat),q=.ok (.ret (.ref s.heap.objs.size))/\s'={ s with heap:=h',drawn:=d,toks:=tk } ∧
   (∀ b o,s.heap.get? b=some o->h'.get? b=some o)/\h'.get? s.heap.objs.size=some { cls:=.type "list",dict:=none,data:=.seq acc' c',slots:=#[] }/\acc'.toList.Perm (es.toList.map (·.2)))
  hh (x.at' fun o e=>aeV _ e) s.heap.objs.size (ahm hlt) (.ref s.heap.objs.size) 0 hS₁
  (fun h' d tk acc' c' ps hps hk hS' hacc=>⟨h',d,tk,acc',c',rfl,rfl,fun b o e=>hk b o (afm (ae8 e)) (aeV _ e),hS',fin _ _ hps hacc⟩)
 refine afL key (fun fin s' x=>?_) fun e s' x=>?_
 ·cases fin with
  | done f =>
   obtain⟨h',d,tk,acc',c',e,rfl,hk,hS',hacc⟩:=x;cases e;show wpAny _ A (load s.heap.objs.size >>= _) _ _ _;refine aeQ (aiO hS' ?_);exact aeX (h h' d tk acc'.toList hk (afo (ae8 hS')) hacc)
  | again c₁ =>
   refine⟨x.1,ag5 x.2 fun q s₂ y=>?_⟩;obtain⟨h',d,tk,acc',c',rfl,rfl,hk,hS',hacc⟩:=y;show wpAny _ A (load s.heap.objs.size >>= _) _ _ _;refine aeQ (aiO hS' ?_);exact aeX (h h' d tk acc'.toList hk (afo (ae8 hS')) hacc)
 ·obtain⟨_,_,_,_,_,e',_⟩:=x;cases e'
theorem abn {l:List (Int×Value)}(h:ElemsOf (PySem.strKind prog w) l):StrsAre (l.map (·.2)) (l.map fun e=>strOf e.2):=by
 have:=strsAre_map (l.map (·.2)) fun v hv=>by
  obtain⟨e,he,rfl⟩:=ae4.mp hv;obtain⟨tk,e2⟩:=xZ h he;exact⟨strOf e.2,tk,by rw [e2];rfl⟩
 rw [af7] at this;exact this
theorem vI {Q:Value->Shared->Prop}{ss:List Str}(hh:A.handled=none)(x:TxSet prog w s.heap a ss)(h64:ss.length < 64)
 (h:∀ (h':Heap) (d:Drawn) (tk:Nat) (l:Addr) (vs:List Value) (ss':List Str) (e:Nat),(∀ b o,s.heap.get? b=some o->h'.get? b=some o)->s.heap.objs.size<=l->h'.get? l=some (seqObj "list" vs.toArray e)->StrsAre vs ss'->ss'.Perm ss->sortedS ss'=true->Q (.ref l) { s with heap:=h',drawn:=d,toks:=tk }) :
 wpAny (model prog w) A (call (.builtin "sorted") [.ref a]) Q E s:=by
 obtain⟨es,ep,t,T,e,nd⟩:=x;subst e;refine ahT kind_sorted plain_sorted entry_sorted (args_sorted1 _) ?_;unfold Builtin.«sorted»;refine aeQ (m:=checkCount "sorted" 1 1 _) (aeX ?_);refine aeQ (tP (A:=A.in1) hh T fun h1 d tk acc k1 hsz hp=>?_);have hst:=abn T.el;have hS:StrsAre acc (acc.map strOf):=strsAre_map acc fun v hv=>hst.all v (hp.mem_iff.mp hv);have hpm:(acc.map strOf).Perm (uJ es):=by
  have:=hp.map strOf;rw [af7] at this;exact this
 have hl:acc.length < 64:=by
  have:=hpm.length_eq;rw [aeP] at this;lia
 refine aeQ (aiL ?_ (afo (afg hl (by decide))));show wpAny _ _ _ _ _ { s with heap:=h1.push (seqObj "list" acc.toArray 0),drawn:=d,toks:=tk };have hoL:(h1.push (seqObj "list" acc.toArray 0)).get? h1.objs.size=some (seqObj "list" acc.toArray 0):=afd _ rfl;refine aeQ (af5 (agx ajl ⟨_,hoL,rfl⟩ aiX (list_sort_treeK strKind_oneLt hoL hS.keysOf (fun v₁ v₂ rest e=>keyKind_strs (by rw [← e];exact hS)) hl fun st' a1 a2=>⟨_,rfl,?_⟩) (args_list_sort _)));obtain⟨ss',b1,b2,b3⟩:=sorted_out_str hS a1 a2;obtain⟨e,he⟩:=sortedHeap_at (vs:=acc) (out:=(arrOf st').map (·.2)) hoL;refine aeX ⟨_,rfl,h _ d tk h1.objs.size ((arrOf st').map (·.2)).toList ss' e (fun b o q=>?_) hsz (by rw [ahR];exact he) b1 (b2.trans hpm) b3⟩;have q1:=k1 _ _ q;rw [sortedHeap_old (afm (ae8 q1)) (by rw [ajv];exact agn (ae8 q1))];exact aeV _ q1
end
end L2
namespace L2
open PySem PySem.Spec PyProof.Rows
def zT (ts ss:List Str):Prop:=ts.Nodup/\∀ x,x∈ts↔x∈ss
section
variable {prog:Program}{w:World}{A:Around}{R:Result->Shared->Prop}{I:Addr}{fp wr:List Addr}{G:Array GenState->Array GenState->Prop}{n:Nat}{P:Nat->Value->Prop}{St:Nat->Shared->Prop}
theorem TxSet.nd {h:Heap}{a:Addr}{ss:List Str}(x:TxSet prog w h a ss):ss.Nodup:=let ⟨_,_,_,_,_,n⟩:=x;n
theorem lC (W:WalksS prog w A.in1 I fp wr G n P St)(S:Addr)(hSf:S ∉ fp)(val:Nat->Str)(hval:∀ i v,P i v->∃ t,v=.str (val i) t)(hb:n+1 < scanBound) :
 ∀ (k i:Nat) (s:Shared) (ts:List Str),n - i=k->i<=n->St i s->TxSet prog w s.heap S ts->ts.length<=i->(∀ x,x∈ts↔∃ j,j < i/\val j=x) →
  (∀ s' ts',Moved (S::wr) G s s'->TxSet prog w s'.heap S ts'->(∀ x,x∈ts'↔∃ j,j < n/\val j=x)->R (.ok (.ret .none)) s') →
  codeAny (model prog w) A (.builtin "set.update.loop" ⟨[.ref S,.ref I],[]⟩) R s:=by
 have hSw:S ∉ wr:=fun h=>hSf (W.sub _ h);have hsub:∀ b∈wr,b∈S::wr:=fun b hb=>ae6 _ hb;intro k
 induction k with
 | zero =>
  intro i s ts hk hi hst hS hl hm hR;have hin:i=n:=by lia
  subst hin;refine agj F.entry_set_update_loop ?_;rw [aga ah9 _];show wpAny _ A.in1 (pyNext (.ref I) >>= _) _ _ s;refine aeQ (W.done s _ _ hst fun s' hmv=>?_);show wpAny _ A.in1 (ret Value.none) _ _ s';exact aeX (hR s' ts (hmv.mono hsub) (hS.at' fun o e=>hmv.heap S _ hSw e) hm)
 | succ k ih =>
  intro i s ts hk hi hst hS hl hm hR;have hlt:i < n:=by lia
  refine agj F.entry_set_update_loop ?_;rw [aga ah9 _];show wpAny _ A.in1 (pyNext (.ref I) >>= _) _ _ s;refine aeQ (W.item i s _ _ hlt hst fun v s' hP hst' hmv=>?_);obtain⟨t,rfl⟩:=hval i v hP;have hS':TxSet prog w s'.heap S ts:=hS.at' fun o e=>hmv.heap S _ hSw e;show wpAny _ A.in1 (holding [Value.str (val i) t] (setAdd S (.str (val i) t)) >>= _) _ _ s';refine aeQ (af5 ?_);unfold setAdd;refine af5 ?_;refine aeQ ((PySem.strKind prog w).pyHash (k:=val i) ((oY rfl).mpr rfl) ?_);refine iS (s:={ s' with toks:=s'.toks+1 }) hS' (by lia) fun h' ts' hsb hS2 alt=>?_;have hl':ts'.length<=i+1:=by
   rcases alt with ⟨_,e⟩ | ⟨_,p⟩
   ·rw [e];lia
   ·rw [p.length_eq,aeR];simp;lia
  have hm':∀ x,x∈ts'↔∃ j,j < i+1/\val j=x:=fun x=>by
   constructor
   ·intro hx;have:x∈ts\/x=val i:=by
     rcases alt with ⟨_,e⟩ | ⟨_,p⟩
     ·rw [e] at hx;exact .inl hx
     ·rcases aeT.mp (p.mem_iff.mp hx) with z | z
      ·exact .inl z
      ·exact .inr (aeS.mp z)
    rcases this with z | z
    ·obtain⟨j,hj,e⟩:=(hm x).mp z;exact⟨j,by lia,e⟩
    ·exact⟨i,by lia,z.symm⟩
   ·rintro⟨j,hj,rfl⟩;rcases alt with ⟨q,e⟩ | ⟨_,p⟩
    ·rw [e];by_cases hji:j=i
     ·subst hji;exact q
     ·exact (hm _).mpr ⟨j,by lia,rfl⟩
    ·refine p.mem_iff.mpr (aeT.mpr ?_);by_cases hji:j=i
     ·subst hji;exact .inr (aeS.mpr rfl)
     ·exact .inl ((hm _).mpr ⟨j,by lia,rfl⟩)
  refine aeX ⟨ahq ah9 _,ih (i+1) _ ts' (by lia) hlt (W.frame _ s' _ _ hst' (aho _) fun b hb o e=>?_) hS2 hl' hm' fun s'' ts'' hm'' hS'' q=>?_⟩
  ·rw [hsb.2 b (fun h:b=S=>hSf (by rw [← h];exact hb))];exact e
  ·refine hR s'' ts'' (Moved.trans W.gtrans ((hmv.mono hsub).then_heap (aho _) fun b o hb e=>?_) hm'') hS'' q;rw [hsb.2 b (fun h:b=S=>hb (by rw [h];exact ae0))];exact e
end
section
variable {prog:Program}{w:World}{A:Around}{E:Value->Shared->Prop}{s:Shared}
theorem lR (a:Value){Q₁:Value->Shared->Prop}
 (h:Q₁ (.ref s.heap.objs.size) { s with heap:=s.heap.push { cls:=.type "set",dict:=none,data:=.set #[] 0 (.fresh 0 0 (!w.params.followText "set-order")) } }) :
 codeAny (model prog w) A (.call (.builtin "set.__new__") ⟨[.type "set",a],[]⟩) (wants Q₁ E) s:=by
 refine aia ?_;show wpAny _ A.in1 (do checkBuiltinCall "set.__new__" ⟨[.type "set",a],[]⟩;again (.builtin "set.__new__" ⟨[.type "set",a],[]⟩)) _ _ s;refine aeQ (ajJ (F.newCall_set_1 a) (aeX ⟨ahq aiY _,agj F.entry_set_new ?_⟩));rw [aga aiY _];unfold Builtin.«set.__new__» Builtin.Frozenset.newClass;have hsub:=sub_set_self;obtain⟨hp,g,d,tk,os⟩:=s;dsimp only
 wp_walk
 refine ahu (aeX ?_);dsimp only;simp only [newObj];refine aeQ (akG (aeX ?_));exact aeX h
theorem pF (prog:Program)(w:World)(h:Heap):TxSet prog w (h.push { cls:=.type "set",dict:=none,data:=.set #[] 0 (.fresh 0 0 (!w.params.followText "set-order")) }) h.objs.size [] :=
 ⟨#[],0,_,⟨afd _ rfl,fun e he=>by simp at he,by decide,rfl,rfl,.inr rfl⟩,rfl,ag9⟩
theorem pX {l:Addr}{items:Array Value}{ss:List Str}{Q:Value->Shared->Prop}
 (hh:A.handled=none)(hl:s.heap.IsList l items)(hi:StrsAre items.toList ss)(hb:items.size+1 < scanBound)
 (h:∀ (h':Heap) (tk:Nat) (ts:List Str),TxSet prog w h' s.heap.objs.size ts->zT ts ss →
  (∀ b o,b < s.heap.objs.size->s.heap.get? b=some o->h'.get? b=some o)->Q (.ref s.heap.objs.size) { s with heap:=h',toks:=tk }) :
 wpAny (model prog w) A (call (.type "set") [.ref l]) Q E s:=by
 obtain⟨c,tl,hmro⟩:=agk.mro;have hmade:=agk.made;have hsub:=agk.sub;refine wpAny_call (aia ?_);show wpAny _ _ (callAny (.type "set") _) _ _ _;refine aeX ⟨Code.quiet_builtin _ (by decide +kernel),agj F.entry_type_call ?_⟩;rw [Around.under_plain (weight_type_call_type "set" [.ref l] []) rfl];have h1:=agk.notType;have h2:=agk.canCreate;have hct:=F.typeCall_set_1 (.ref l)
 repeat (any_goals (first | assumption | wp_step))
 refine ag5 (lR (.ref l) (E:=E) (Q₁:=fun obj s₁=>obj=.ref s.heap.objs.size/\s₁={ s with heap:=s.heap.push { cls:=.type "set",dict:=none,data:=.set #[] 0 (.fresh 0 0 (!w.params.followText "set-order")) } }) ⟨rfl,rfl⟩) fun r s₁ hr=>?_;cases r with
 | error e=>exact hr
 | ok fl =>
  cases fl with
  | ret obj =>
   obtain⟨rfl,rfl⟩:=hr;generalize hled:(!w.params.followText "set-order")=led at *;have hS0:TxSet prog w (s.heap.push { cls:=.type "set",dict:=none,data:=.set #[] 0 (.fresh 0 0 led) }) s.heap.objs.size []:=by rw [← hled];exact pF prog w s.heap
   have hS:(s.heap.push { cls:=.type "set",dict:=none,data:=.set #[] 0 (.fresh 0 0 led) }).get? s.heap.objs.size=some { cls:=.type "set",dict:=none,data:=.set #[] 0 (.fresh 0 0 led) }:=afd _ rfl;have hT:Shared.TypeIs { s with heap:=s.heap.push { cls:=.type "set",dict:=none,data:=.set #[] 0 (.fresh 0 0 led) } } (.ref s.heap.objs.size) "set" := ⟨_,hS,rfl⟩;have hli:=agk.init.lookup;have hbi:=agk.init.bind (.ref s.heap.objs.size)
   repeat (any_goals (first | assumption | wp_step))
   refine ag5 (codeAny_call_builtin (R:=wants (fun r s₂=>r=.none/\∃ h' tk ts,s₂={ s with heap:=h',toks:=tk }/\TxSet prog w h' s.heap.objs.size ts/\zT ts ss ∧
    (∀ b o,b < s.heap.objs.size->s.heap.get? b=some o->h'.get? b=some o)) E) agk.init.plain F.entry_set_init (check_set_init_1 hT ?_)) fun r₂ s₂ hr₂=>?_
   ·obtain⟨ol,hol,hcl,nl,hdl⟩:=hl;obtain⟨ocls,odict,odata,oslots⟩:=ol;simp only at hcl hdl;subst hcl;subst hdl;have hol':(s.heap.push { cls:=.type "set",dict:=none,data:=.set #[] 0 (.fresh 0 0 led) }).get? l=some { cls:=.type "list",dict:=odict,data:=.seq items nl,slots:=oslots }:=aeV _ hol;have hsls:=F.sub_list_set;have hslf:=F.sub_list_frozenset;have hne:(Value.type "list" == Value.type "dict")=false:=by decide
    have hl1:(s.heap.push { cls:=.type "set",dict:=none,data:=.set #[] 0 (.fresh 0 0 led) }).IsList l items:=⟨_,hol',rfl,nl,rfl⟩;unfold Builtin.«set.__init__» noKeywords Builtin.Frozenset.updateFrom;generalize hPI:pyIter=PI
    wp_walk
    subst hPI;refine ajm hl1 ?_;refine aeQ (ajk ?_);have hlS:l < s.heap.objs.size:=ae8 hol;have hh3:A.in1.in1.in1.handled=none:=by simp [hh]
    have hneI:l≠(s.heap.push { cls:=.type "set",dict:=none,data:=.set #[] 0 (.fresh 0 0 led) }).objs.size:=by
     rw [agC];exact afm (agn hlS)
    have hSf:s.heap.objs.size ∉ [(s.heap.push { cls:=.type "set",dict:=none,data:=.set #[] 0 (.fresh 0 0 led) }).objs.size,l]:=by
     rw [agC];simp only [ae7,aeS,af4,ahO,not_or];exact⟨afm (ajT _),ahm hlS⟩
    have hln:items.toList.length=ss.length:=by
     have:=afJ List.length hi.strs
     rwa [aeP] at this
    have hval:∀ (i:Nat) (v:Value),items[i]? = some v->∃ t,v=.str ((fun i=>ss.getD i ⟨#[]⟩) i) t:=fun i v hv=>by
     have hv':items.toList[i]? = some v:=by rw [afK];exact hv
     obtain⟨x,t,e⟩:=hi.all v (afB hv');refine⟨t,?_⟩;have e2:ss[i]? = some (strOf v):=by rw [← hi.strs,aeZ,hv'];rfl
     rw [e];simp only [agp,e2,e]
     rfl
    refine lC ((Walks.list hh3 _ l hneI items).toS) s.heap.objs.size
     hSf (fun i=>ss.getD i ⟨#[]⟩) hval hb (items.size - 0) 0 _ [] (by lia) (afe _)
     ⟨⟨_,afd _ rfl,rfl,rfl⟩,(hl1.push _)⟩ ?hS0 (ae1 _) (fun x=>?hM) ?hR
    case hS0=>exact hS0.at' fun o e=>aeV _ e
    case hM=>exact⟨(fun h=>nomatch h),fun ⟨j,hj,_⟩=>absurd hj (aiZ j)⟩
    case hR =>
     intro s' ts hm hS' hq;obtain⟨h',g',d',tk',os'⟩:=s';have eg:g'=s.gens:=hm.gens;have ed:d'=s.drawn:=hm.drawn;have eo:os'=s.os:=hm.os;subst eg;subst ed;subst eo;show wpAny _ _ _ _ _ _;refine aeX ?_;show wpAny _ _ (ret Value.none) _ _ _;refine aeX ⟨rfl,h',tk',ts,rfl,hS',⟨hS'.nd,fun x=>(hq x).trans ?_⟩,fun b o hb e=>?_⟩
     ·have hz:items.size=ss.length:=by rw [← hln,ae5]
      constructor
      ·rintro⟨j,hj,e⟩;rw [hz] at hj;rw [← e,agp,aeO hj];exact afh hj
      ·intro hx;obtain⟨j,hj,e⟩:=agb.mp hx;refine⟨j,by rw [hz];exact hj,?_⟩;rw [agp,aeO hj];exact e
     ·have hb1:b≠s.heap.objs.size:=afm hb;have hb2:b≠(s.heap.push { cls:=.type "set",dict:=none,data:=.set #[] 0 (.fresh 0 0 led) }).objs.size:=by
       rw [agC];exact afm (agn hb)
      exact hm.heap b o (by simp only [ae7,aeS,af4,ahO,not_or];exact⟨hb1,hb2⟩) (aeV _ (aeV _ e))
   ·cases r₂ with
    | error e=>exact hr₂
    | ok fl₂ =>
     cases fl₂ with
     | ret r =>
      obtain⟨rfl,h',tk,ts,rfl,hS',hi',hk'⟩:=hr₂
      repeat (any_goals (first | assumption | wp_step))
      exact h _ _ ts hS' hi' hk'
     | _=>exact hr₂.elim
  | _=>exact hr.elim
end
theorem Inv.drawn' {X:Cx}{pins:List (Addr×Obj)}{σ:St}{H:Hp}{s:Shared}(I:Inv X pins σ H s)(d:Drawn):Inv X pins σ H { s with drawn:=d }:=⟨I.ok,I.os,I.bare,I.base,I.loc,I.cell,I.free,I.freeC,I.pin,I.hok,I.len⟩
def cM (P:Program)(w:World)(a:Addr)(ss:List Str):HO:=.ext fun h=>TxSet P w h a ss
theorem vw {P:Program}{w:World}{H:Hp}{h:Heap}{a:Addr}{ss:List Str}(x:TxSet P w h a ss):ObjOk P w H h a (cM P w a ss) :=
 ⟨x,(let ⟨_,_,_,T,_⟩:=x;⟨_,T.get⟩),fun _ _ y k=>y.at' k⟩
theorem qR {P:Program}{w:World}{H:Hp}{h:Heap}{a:Addr}{ss:List Str}(ok:HOk P w H h)(e:H a=some (cM P w a ss)):TxSet P w h a ss:=(ok a _ e).1
section
variable {X:Cx}
theorem b8 (hc:X.calm=true):di X (.builtin "sorted") (fun xs H Q=>∃ (a:Addr) (ss:List Str),xs=[.ref a]/\H a=some (cM X.prog X.w a ss)/\ss.length < 64/\∀ (l:Addr) (ss':List Str),H l=none->ss'.Perm ss->sortedS ss'=true->Q (.ref l) (upd H l (.lst (ss'.map V.str)))):=by
 intro pins s σ H xs us Q I r h;obtain⟨a,ss,rfl,e,hl,q⟩:=h;obtain⟨u,rfl,rx⟩:=gZ r;cases rx;refine vI (I.ok.hd hc) (qR I.hok e) hl fun h' d tk l vs ss' ep k hz hg hS hp hs=>?_;refine⟨.ref l,_,((I.laid (t':=tk) (o:=.lst (ss'.map V.str)) k hz ⟨?_,vs,ep,iw hS,hg⟩).drawn' d),rfl,q l ss' (I.hok.fresh hz) hp hs⟩;rw [aeP,hp.length_eq];exact afo (afg hl (by decide))
theorem gi (hc:X.calm=true):di X (.type "set") (fun xs H Q=>∃ (p:Addr) (ss:List Str),xs=[.ref p]/\SqL X.K H p (ss.map V.str)/\ss.length+1 < scanBound/\∀ (a:Addr) (ts:List Str),H a=none->zT ts ss->Q (.ref a) (upd H a (cM X.prog X.w a ts))):=by
 intro pins s σ H xs us Q I r h;obtain⟨p,ss,rfl,hq,hb,q⟩:=h;obtain⟨u,rfl,rx⟩:=gZ r;cases rx;obtain⟨its,rv,pl,hz⟩:=I.list hq;have hlen:=rv.length;rw [aeP] at hlen;refine pX (I.ok.hd hc) pl.isList (by simpa using dU rv) (by simpa [← hlen] using hb) fun h' tk ts hS hi k=>?_;exact⟨.ref s.heap.objs.size,_,I.laid (t':=tk) (o:=cM X.prog X.w s.heap.objs.size ts) (fun b o e=>k b o (ae8 e) e) (ae1 _) (vw hS),rfl,q _ ts I.fresh hi⟩
end
section
variable {prog:Program}{w:World}{A:Around}{R:Result->Shared->Prop}{s:Shared}
theorem vH {kx vx target iter:Expr}{ifs:List Expr}{scope:Scope}{pos:Pos}{it:Value}{D:Addr}{env:Env}(I:Nat->Shared->Prop)
 (turn:∀ n s,I n s->wpAny (model prog w) A (pyNext it) (fun r s₁=>match r with
  | none=>R (.ok .next) s₁
  | some v=>wpAny (model prog w) A (letOwnedTupleGo target it v) (fun _ s₁'=>wpAny (model prog w) A (assign target env v) (fun _ s₂ =>
   wpAny (model prog w) A (forIn ifs true fun c r=>if r=true then do let ok ← isTrue c env (eval c env);pure (ForInStep.yield ok) else pure (ForInStep.yield r)) (fun ok s₃ =>
    if ok=true then wpAny (model prog w) A (eval kx env) (fun kv s₄=>wpAny (model prog w) A (eval vx env) (fun vv s₅ =>
     wpAny (model prog w) A (dictSet D kv vv) (fun _ s₆=>∃ m,m < n/\I m s₆) (fun _ _=>False) s₅) (fun _ _=>False) s₄) (fun _ _=>False) s₃
    else ∃ m,m < n/\I m s₃) (fun _ _=>False) s₂) (fun _ _=>False) s₁') (fun _ _=>False) s₁) (fun _ _=>False) s)
 (n:Nat)(h:I n s) :
 codeAny (model prog w) A (.compLoop (.DictComp kx vx [⟨target,iter,ifs,0⟩] scope pos) 0 it (.ref D) env) R s:=by
 have no:∀ {E:Value->Shared->Prop} (x:Value) (s:Shared),False->E x s:=fun _ _ z=>z.elim;refine codeAny_loop rfl I (fun n s hI=>?_) n h;show wpAny _ A ((compTurn (.DictComp kx vx [⟨target,iter,ifs,0⟩] scope pos) 0 it (.ref D) env).onRaise (fun x=>do noteFrame x env;theTreesLotGoes x)) _ _ s;refine wpAny_noted ?_;rw [compTurn_dict];refine aeQ (agD (aeQ (afL (turn n s hI) (fun r s₁ h₁=>?_) no)));cases r with
 | none=>exact aeX h₁
 | some v =>
  refine aeQ (afL h₁ (fun _ s₁' h₁'=>aeQ (afL h₁' (fun _ s₂ h₂=>aeQ (afL h₂ (fun ok s₃ h₃=>?_) no)) no)) no);cases ok with
  | false=>exact aeX ⟨rfl,h₃⟩
  | true =>
   exact aeQ (aeQ (afL h₃ (fun kv s₄ h₄=>aeQ (af5 (afL h₄ (fun vv s₅ h₅=>aeQ (agD (af5 (afL h₅ (fun _ s₆ h₆=>aeX ⟨rfl,h₆⟩) no)))) no))) no))
end
def aba (nl:Nat)(ix:List Nat)(wi:TI)(g:TG)(tf:TT)(tk tv:TE):TE:=fun σ H Q=>wi σ H fun J H1=>∀ D,H1 D=none->∃ W:Nat->Nat->List (Key×V)->Hp->Prop,(∃ m,W 0 m [] (upd H1 D (.dK []))) ∧
 ∀ i m ys H2,W i m ys H2->H2 D=some (.dK ys)/\((J.stop i H2/\Q (.ref D) H2)\/(J.go i H2/\∀ x H3,J.yld i H2 x H3->g x (cn nl ix σ) H3 fun σ4 H4=>(σ4.length=(cn nl ix σ).length/\σ4.drop nl=ix.map fun j=>(σ[j]?).join)/\tf σ4 H4 fun b H5 =>
  if b=true then tk σ4 H5 fun z H6=>tv σ4 H6 fun y H7=>∃ k:Key,z=kV k/\H7 D=some (.dK ys)/\ys.length < sizeLine/\∃ m',m' < m/\W (i+1) m' (fU ys k y) (upd H7 D (.dK (fU ys k y))) else ∃ m',m' < m/\W (i+1) m' ys H5))
section
variable {X:Cx}
theorem aaC {kx vx tg iter:Expr}{ifs:List Expr}{scope:Scope}{pos:Pos}{N':List Str}{nl:Nat}{ix:List Nat}{wi:TI}{g:TG}{tf:TT}{tk tv:TE}(hc:X.calm=true)(S:CompScope X scope)(Cp:acu X scope N' nl ix)(hi:PI X tg iter wi)
 (hg:∀ C fp s₀ H₀,PG (X.comp scope N' C fp s₀ H₀) tg g)(hf:∀ C fp s₀ H₀,PIf (X.comp scope N' C fp s₀ H₀) ifs tf)(hk:∀ C fp s₀ H₀,PE (X.comp scope N' C fp s₀ H₀) kx tk)(hv:∀ C fp s₀ H₀,PE (X.comp scope N' C fp s₀ H₀) vx tv)
 (hs:∀ x,foldedSetIterable iter X.env x=pure x:=by intro _;rfl):PE X (.DictComp kx vx [⟨tg,iter,ifs,0⟩] scope pos) (aba nl ix wi g tf tk tv):=by
 intro pins s σ H Q I h;rw [arm_eval_DictComp];refine ahe (use:=none) (cl:=pH X.env scope.names []) rfl hs (ij (S.cells I.ok)) S.kind S.loc ?_;refine thn (hi pins s σ H _ I h) fun v s1 h1=>thn h1 fun itv s2 h2=>?_;obtain⟨it,fp,tn,J,H2,rfl,I2,T,st2,f2,h2⟩:=h2;obtain⟨W,⟨m0,w0⟩,turn⟩:=h2 s2.heap.objs.size I2.fresh;refine af2 (ahQ S.nocell (by intro y hy;simp at hy) (fun h₁ hns₁ hsb₁=>?_) S.kind);dsimp only at hns₁ hsb₁ ⊢;have fpo:∀ b∈fp,b < s2.heap.objs.size:=fun b hb=>by
  obtain⟨o,e,_⟩:=T.obj 0 _ st2 b hb;exact ae8 e
 have I3:Inv X pins σ (upd H2 s2.heap.objs.size (.dK [])) { s2 with heap:=s2.heap.push { cls:=.type "dict",data:=.dict #[] },toks:=s2.toks }:=I2.laid (a:=s2.heap.objs.size) (o:=.dK []) (t':=s2.toks) (fun _ _ q=>aeV _ q) (ae1 _) (vn s2.heap I2.big);have hD:(upd H2 s2.heap.objs.size (.dK [])) s2.heap.objs.size=some (.dK []):=ag;have f3:∀ b∈fp,oh X pins (upd H2 s2.heap.objs.size (.dK [])) b:=fun b hb=>by
  refine⟨?_,(f2 b hb).2⟩;rw [ah (afm (fpo b hb))];exact (f2 b hb).1
 generalize hS3:s2.heap.push { cls:=.type "dict",dict:=none,data:=.dict #[] }=g3 at hns₁ hsb₁ I3 ⊢;have sz3:g3.objs.size=s2.heap.objs.size+1:=by rw [← hS3,agC]
 have fpo3:∀ b∈fp,b < ({ s2 with heap:=g3,toks:=s2.toks }:Shared).heap.objs.size:=fun b hb=>by
  show b < g3.objs.size;rw [sz3];exact agn (fpo b hb)
 have old:∀ b o,g3.get? b=some o->h₁.get? b=some o:=fun b o e=>hsb₁.extBut b o (afm (ae8 e)) (aeV _ e);have I4:=kW (tk:=s2.toks+([]:List (Str×Value)).length) S Cp I3 f3 fpo3 hns₁ old;generalize hX:X.comp scope N' g3.objs.size fp { s2 with heap:=g3,toks:=s2.toks } (upd H2 s2.heap.objs.size (.dK []))=X' at *;have hPr:X'.prog=X.prog:=by rw [← hX];rfl
 have hWr:X'.w=X.w:=by rw [← hX];rfl
 have hKr:X'.K=X.K:=by rw [← hX];rfl
 have hAr:X'.A=X.A:=by rw [← hX];rfl
 have hCa:X'.calm=true:=by rw [← hX];exact hc
 have hXe:X'.xe=fun _ _=>False:=by rw [← hX];rfl
 have hEx:X'.ex=fp:=by rw [← hX];rfl
 have hPn:X'.pn=[]:=by rw [← hX];rfl
 have hLo:X'.env.locals=g3.objs.size:=by rw [← hX];rfl
 have hEn:X'.env=compEnvC scope (pH X.env scope.names []) g3.objs.size X.env:=by rw [← hX];rfl
 have hg':=hg g3.objs.size fp { s2 with heap:=g3,toks:=s2.toks } (upd H2 s2.heap.objs.size (.dK []));have hf':=hf g3.objs.size fp { s2 with heap:=g3,toks:=s2.toks } (upd H2 s2.heap.objs.size (.dK []));have hk':=hk g3.objs.size fp { s2 with heap:=g3,toks:=s2.toks } (upd H2 s2.heap.objs.size (.dK []));have hv':=hv g3.objs.size fp { s2 with heap:=g3,toks:=s2.toks } (upd H2 s2.heap.objs.size (.dK []));rw [hX] at hg' hf' hk' hv';have I4':Inv X' [] (cn nl ix σ) (upd H2 s2.heap.objs.size (.dK [])) { s2 with heap:=h₁,toks:=s2.toks+([]:List (Str×Value)).length }:=I4;have back:∀ {H':Hp} {σ':St} {pins':List (Addr×Obj)} {s':Shared} {h':Heap},Inv X' pins' σ' H' s'->Heap.SameBut g3.objs.size s'.heap h'->Inv X pins σ H' { s' with heap:=h' }:=fun I' sb=>by
  subst hX;exact jw I3 f3 I' sb
 have stat:∀ {H':Hp},(∀ b∈fp,H' b=none)->∀ b∈fp,oh X' [] H' b:=fun hn b hb=>by
  refine⟨hn b hb,?_,?_,.inl (by rw [hEx];exact hb),?_,fun p hp=>by rw [hPn] at hp;cases hp⟩
  ·rw [hLo];exact afm (fpo3 b hb)
  ·exact I4'.ok.exfs b (by rw [hEx];exact hb)
  ·exact (I4'.ok.exf b (by rw [hEx];exact hb)).2
 have loop:codeAny (model X.prog X.w) X.A (.compLoop (.DictComp kx vx [⟨tg,iter,ifs,0⟩] scope pos) 0 (.ref it) (.ref s2.heap.objs.size) X'.env)
  (compPost (model X.prog X.w) X.A X.xe none (EP X pins σ Q) (.ref s2.heap.objs.size) g3.objs.size) { s2 with heap:=h₁,toks:=s2.toks+([]:List (Str×Value)).length }:=by
  rw [← hPr,← hWr,← hAr];refine vH (fun n s'=>∃ i ys H',Inv X' [] (cn nl ix σ) H' s'/\tn i s'.heap/\(∀ b∈fp,H' b=none)/\W i n ys H') ?_ m0
   ⟨0,[],_,I4',T.keep _ _ _ st2 (fun b hb o e=>old b o (by rw [← hS3];exact aeV _ e)),fun b hb=>(f3 b hb).1,w0⟩
  rintro n s5 ⟨i,ys,H5,I5,st5,fr5,w5⟩;obtain⟨hD5,alt⟩:=turn i n ys H5 w5;rcases alt with ⟨stop,qn⟩ | ⟨go,step⟩
  ·rw [hPr,hWr];refine thn (T.done X' hPr hWr hKr hCa i [] s5 _ H5 _ I5 (stat fr5) st5 stop) fun r s6 ⟨hr,I6⟩=>?_;subst hr;obtain⟨m,hn,_⟩:=I6.loc;rw [hLo] at hn;exact⟨m,hn,fun h' sb=>⟨.ref s2.heap.objs.size,H5,back I6 sb,rfl,qn⟩⟩
  ·have it5:=T.item X' hPr hWr hKr hCa i [] s5 _ H5 (fun _ _=>False) I5 (stat fr5) st5 go;rw [← hPr,← hWr] at it5;refine thn it5 fun r s6 ⟨u,hr,h6⟩=>?_;subst hr;refine thn h6 fun _ s7 ⟨x,H7,I7,r7,y7,st7,fr7⟩=>?_;have I7':=I7.pinned (stat fr7) (T.obj _ _ st7);have g7:=hg' _ s7 _ H7 x u _ I7' r7 (step x H7 y7);rw [hXe] at g7;refine thn g7 fun _ s8 ⟨σ8,H8,I8,⟨hl8,hd8⟩,q8⟩=>?_;have f8:=hf' _ s8 σ8 H8 _ I8 q8;rw [hXe] at f8;refine thn f8 fun ok s9 ⟨H9,I9,q9⟩=>?_;have again:∀ {H10:Hp} {s10:Shared} {ys':List (Key×V)},Inv X' ([]++ku fp s7.heap) σ8 H10 s10->(∃ m',m' < n/\W (i+1) m' ys' H10)->∃ m,m < n/\∃ i ys H',Inv X' [] (cn nl ix σ) H' s10/\tn i s10.heap/\(∀ b∈fp,H' b=none)/\W i m ys H':=fun {H10 s10 ys'} I10 ⟨m',hm,w'⟩=>by
    refine⟨m',hm,i+1,ys',H10,jy I10.unpinned hl8 hd8,T.keep _ _ _ st7 fun b hb o e=>(I10.pin (b,o) (aeW _ (aeW _ (bW hb e)))).1,fun b hb=>?_,w'⟩;obtain⟨o,e,d⟩:=T.obj _ _ st7 b hb;exact (I10.pin (b,o) (aeW _ (aeW _ (bW hb e)))).2.1
   cases ok with
   | false =>
    rw [if_neg aeY] at q9 ⊢;exact again I9 q9
   | true =>
    rw [if_pos rfl] at q9 ⊢;have e9:=hk' _ s9 σ8 H9 _ I9 q9;rw [hXe] at e9;refine thn e9 fun zv s10 ⟨z,H10,I10,r10,q10⟩=>?_;have e10:=hv' _ s10 σ8 H10 _ I10 q10;rw [hXe] at e10;refine thn e10 fun xv s11 ⟨y,H11,I11,r11,k,ez,hD11,hz,mw⟩=>?_;subst ez;obtain⟨z1,hd,vs,rel,dd⟩:=aag I11.hok hD11;refine wpAny_dictSet_pairs (t4 r10) dd (hsz:=by rw [← rel.length];exact z1) fun h' dd' hs=>?_;have heo:∃ q,h'.get? s2.heap.objs.size=some q:=let ⟨q,_,_,hq,_⟩:=dd';⟨q,hq⟩;have hl:(fU ys k y).length<=sizeLine:=by have:=dt ys k y;lia
    exact again (jO I11 (by rw [hD11];exact True.intro) hs heo (xx hl hd (rel.put k r11) dd')) mw
 rw [hEn] at loop;exact codeAny_compStart_dict loop (T.self _ 0 _ _ _ (T.keep _ _ _ st2 (fun b hb o e=>old b o (by rw [← hS3];exact aeV _ e))) loop)
end
end L2
namespace L2
open PySem PySem.Spec PyProof.Rows PySem.W
section
variable {X:Cx}{pins:List (Addr×Obj)}{σ:St}{H:Hp}{s:Shared}{a:Addr}{o:Obj}{kvs:List (Key×V)}
end
theorem zu {P:Program}{w:World}{k:Key}{u:Value}(h:(bE P w).is k u=true):RelV (kV k) u:=by
 rcases bL h with ⟨i,t,rfl,rfl⟩ | ⟨x,t,rfl,rfl⟩
 ·exact⟨t,rfl⟩
 ·exact⟨t,rfl⟩
section
variable {X:Cx}{tg:Expr}
end
section
variable {X:Cx}
end
end L2
namespace L2
open PySem PySem.Spec PyProof.Rows
def h7 (nl:Nat)(ix:List Nat)(g:TG)(tf:TT)(tk tv:TE)(σ:St)(D:Addr)(ys:List (Key×V))(H:Hp)(x:V)(nxt:List (Key×V)->Hp->Prop):Prop :=
 g x (cn nl ix σ) H fun σ4 H4=>(σ4.length=(cn nl ix σ).length/\σ4.drop nl=ix.map fun j=>(σ[j]?).join)/\tf σ4 H4 fun b H5 =>
  if b=true then tk σ4 H5 fun z H6=>tv σ4 H6 fun y H7=>∃ k:Key,z=kV k/\H7 D=some (.dK ys)/\ys.length < sizeLine/\nxt (fU ys k y) (upd H7 D (.dK (fU ys k y))) else nxt ys H5
def xR (nl:Nat)(ix:List Nat)(g:TG)(tf:TT)(tk tv:TE)(σ:St)(J:It)(H1:Hp)(D:Addr)(Q:VK):Prop :=
 ∃ W:Nat->Nat->List (Key×V)->Hp->Prop,(∃ m,W 0 m [] (upd H1 D (.dK []))) ∧
 ∀ i m ys H2,W i m ys H2->H2 D=some (.dK ys)/\((J.stop i H2/\Q (.ref D) H2)\/(J.go i H2/\∀ x H3,J.yld i H2 x H3->h7 nl ix g tf tk tv σ D ys H3 x fun ys' H'=>∃ m',m' < m/\W (i+1) m' ys' H'))
theorem zW (nl:Nat)(ix:List Nat)(wi:TI)(g:TG)(tf:TT)(tk tv:TE)(σ:St)(H:Hp)(Q:VK)(h:wi σ H fun J H1=>∀ D,H1 D=none->xR nl ix g tf tk tv σ J H1 D Q):aba nl ix wi g tf tk tv σ H Q:=h
section
variable {nl:Nat}{ix:List Nat}{g:TG}{tf:TT}{tk tv:TE}{σ:St}{H1:Hp}{D:Addr}{Q:VK}(Pv:Nat->List (Key×V)->Hp->Prop)
theorem abq {J:It}{n:Nat}(h0:Pv 0 [] (upd H1 D (.dK [])))(hD:∀ i ys H,Pv i ys H->H D=some (.dK ys))(go:∀ i ys H,i < n->Pv i ys H->J.go i H)(stop:∀ ys H,Pv n ys H->J.stop n H)
 (hs:∀ i ys H x H',i < n->Pv i ys H->J.yld i H x H'->h7 nl ix g tf tk tv σ D ys H' x fun ys' H'=>Nx n i (Pv (i+1) ys' H'))
 (hd:∀ ys H,Pv n ys H->Q (.ref D) H):xR nl ix g tf tk tv σ J H1 D Q:=by
 refine⟨fun i m ys H=>m=n - i/\i<=n/\Pv i ys H,⟨n,by simp,afe _,h0⟩,?_⟩;rintro i m ys H ⟨rfl,hi,p⟩;refine⟨hD i ys H p,?_⟩;by_cases hlt:i < n
 ·exact .inr ⟨go i ys H hlt p,fun x H' y=>hs i ys H x H' hlt p y⟩
 ·have e:i=n:=by lia
  subst e;exact .inl ⟨stop ys H p,hd ys H p⟩
theorem wR {K:PySem.W.Frag}{a:Addr}{xs:List V}(h0:Pv 0 [] (upd H1 D (.dK [])))(hD:∀ i ys H,Pv i ys H->H D=some (.dK ys))(hl:∀ i ys H,Pv i ys H->SqL K H a xs)
 (hs:∀ i ys H x,xs[i]? = some x->Pv i ys H->h7 nl ix g tf tk tv σ D ys H x fun ys' H'=>Nx xs.length i (Pv (i+1) ys' H'))(hd:∀ ys H,Pv xs.length ys H->Q (.ref D) H):xR nl ix g tf tk tv σ (Itl K a) H1 D Q:=by
 refine abq (n:=xs.length) Pv h0 hD (fun i ys H hi p=>⟨xs,xs[i],hl i ys H p,by simp [hi]⟩) (fun ys H p=>⟨xs,hl _ ys H p,ae1 _⟩) (fun i ys H x H' hi p y=>?_) hd;obtain⟨e,y⟩:=y;subst e;exact hs i ys H' x (y xs (hl i ys H' p)) p
end
theorem wz {nl:Nat}{ix:List Nat}{tk tv:TE}{σ:St}{D:Addr}{ys:List (Key×V)}{H:Hp}{x:V}{nxt:List (Key×V)->Hp->Prop}{i:Nat}(h1:((cn nl ix σ).set i (some x)).drop nl=ix.map fun j=>(σ[j]?).join)
 (h:tk ((cn nl ix σ).set i (some x)) H fun z H6=>tv ((cn nl ix σ).set i (some x)) H6 fun y H7=>∃ k:Key,z=kV k/\H7 D=some (.dK ys)/\ys.length < sizeLine/\nxt (fU ys k y) (upd H7 D (.dK (fU ys k y)))):h7 nl ix (bg i) xj tk tv σ D ys H x nxt:=by
 unfold h7 bg xj;dsimp only;rw [if_pos rfl];exact⟨⟨by simp,h1⟩,h⟩
structure CountMap (H:Hp)(kvs:List (Key×V))(ks ls:List Str):Prop where
 nd:(kvs.map (·.1)).Nodup
 mem:∀ q,q∈kvs.map (·.1)↔∃ x,q=Sum.inr x/\(x∈ks\/x∈ls)
 val:∀ x v,(Sum.inr x,v)∈kvs->∃ t:Addr,v=.ref t/\H t=some (.tup [.int ((ks.count x:Nat):Int),.int ((ls.count x:Nat):Int)])
theorem iG {kvs:List (Key×V)}{k:Key}{v:V}(h:b9 kvs k=some v):(k,v)∈kvs:=by
 unfold b9 at h;cases e:kvs.find? fun kv=>decide (kv.1=k) with
 | none=>rw [e] at h;cases h
 | some p =>
  rw [e] at h;have h':p.2=v:=by simpa using h
  have hp:=List.find?_some e;have hk:p.1=k:=by simpa using hp
  have:=List.mem_of_find?_eq_some e;obtain⟨p1,p2⟩:=p;simp only at h' hk;subst h' hk;exact this
theorem qO {kvs:List (Key×V)}{k:Key}(h:b9 kvs k=none):k ∉ kvs.map (·.1):=by
 intro hm;obtain⟨p,hp,e⟩:=ae4.mp hm;unfold b9 at h;rw [aih] at h;have:=aje.mp h p hp;simp [e] at this
theorem uL (kvs:List (Key×V))(k:Key)(v:V):((fU kvs k v).map (·.1)=kvs.map (·.1)/\k∈kvs.map (·.1))\/((fU kvs k v).map (·.1)=kvs.map (·.1)++[k]/\k ∉ kvs.map (·.1)):=by
 cases e:b9 kvs k with
 | none =>
  rw [k8 v e];exact .inr ⟨by simp,qO e⟩
 | some y =>
  have hm:=iG e;have hk:k∈kvs.map (·.1):=ae4.mpr ⟨_,hm,rfl⟩;refine .inl ⟨?_,hk⟩;unfold fU;have ha:(kvs.any fun kv=>decide (kv.1=k))=true:=by rw [iz,e];rfl
  rw [if_pos ha,af7];apply ah0;intro p _;show (if p.1=k then (p.1,v) else p).1=p.1;split<;>rfl
theorem vS {kvs:List (Key×V)}(h:(kvs.map (·.1)).Nodup){k:Key}{v:V}(hm:(k,v)∈kvs):b9 kvs k=some v:=by
 induction kvs with
 | nil=>cases hm
 | cons p r ih =>
  rw [afb,afG] at h;rcases ae7.mp hm with e | hm
  ·subst e;exact cj rfl
  ·rw [bY (fun e=>h.1 (by rw [e];exact ae4.mpr ⟨_,hm,rfl⟩))];exact ih h.2 hm
theorem mB {kvs:List (Key×V)}(h:(kvs.map (·.1)).Nodup)(k:Key)(v:V):((fU kvs k v).map (·.1)).Nodup:=by
 rcases uL kvs k v with ⟨e,_⟩ | ⟨e,n⟩
 ·rw [e];exact h
 ·rw [e,af3];refine⟨h,by simp,fun a ha b hb z=>?_⟩;rw [aeS.mp hb] at z;exact n (z▸ha)
theorem ab5 {kvs:List (Key×V)}(h:(kvs.map (·.1)).Nodup){k j:Key}{v u:V}(hm:(j,u)∈fU kvs k v):(j=k/\u=v)\/(j≠k/\(j,u)∈kvs):=by
 have e:=vS (mB h k v) hm;rw [gq] at e;by_cases hj:j=k
 ·rw [if_pos hj] at e;exact .inl ⟨hj,(afW e).symm⟩
 ·rw [if_neg hj] at e;exact .inr ⟨hj,iG e⟩
theorem cI (kvs:List (Key×V))(k:Key)(v:V)(q:Key):q∈(fU kvs k v).map (·.1)↔q=k\/q∈kvs.map (·.1):=by
 rcases uL kvs k v with ⟨e,hk⟩ | ⟨e,_⟩
 ·rw [e];exact⟨.inr,fun z=>z.elim (fun z=>z▸hk) id⟩
 ·rw [e,aeT,aeS];exact⟨fun z=>z.elim .inr .inl,fun z=>z.elim .inr .inl⟩
def wu (H H':Hp):Prop:=∀ b xs,H b=some (.tup xs)->H' b=some (.tup xs)
theorem Same.keepT {H H':Hp}(s:Same H H'):wu H H':=fun b xs e=>s b _ e
theorem CountMap.on {H H':Hp}{kvs:List (Key×V)}{ks ls:List Str}(c:CountMap H kvs ks ls)(k:wu H H'):CountMap H' kvs ks ls :=
 ⟨c.nd,c.mem,fun x v h=>let ⟨t,e,q⟩:=c.val x v h;⟨t,e,k _ _ q⟩⟩
theorem CountMap.nil (H:Hp):CountMap H [] [] []:=⟨ag9,fun q=>⟨(fun h=>nomatch h),fun ⟨x,_,h⟩=>h.elim (fun z=>nomatch z) fun z=>nomatch z⟩,fun x v h=>nomatch h⟩
theorem CountMap.put {H H':Hp}{kvs:List (Key×V)}{ks ls ks' ls':List Str}{x:Str}{t:Addr}(c:CountMap H kvs ks ls)(k:wu H H')(hm:∀ y,(y∈ks'\/y∈ls')↔(y=x\/y∈ks\/y∈ls))
 (ho:∀ y,y≠x->ks'.count y=ks.count y/\ls'.count y=ls.count y)(ht:H' t=some (.tup [.int ((ks'.count x:Nat):Int),.int ((ls'.count x:Nat):Int)])):CountMap H' (fU kvs (Sum.inr x) (.ref t)) ks' ls' where
 nd:=mB c.nd _ _
 mem:=fun q=>by
  rw [cI,c.mem];constructor
  ·rintro (e | ⟨y,e,h⟩)
   ·exact⟨x,e,(hm x).mpr (.inl rfl)⟩
   ·exact⟨y,e,(hm y).mpr (.inr h)⟩
  ·rintro⟨y,e,h⟩;rcases (hm y).mp h with z | z
   ·exact .inl (by rw [e,z])
   ·exact .inr ⟨y,e,z⟩
 val:=fun y v h=>by
  rcases ab5 c.nd h with ⟨e,ev⟩ | ⟨e,h⟩
  ·cases e;exact⟨t,ev,ht⟩
  ·have ne:y≠x:=fun z=>e (by rw [z]);obtain⟨t',e',q⟩:=c.val y v h;obtain⟨h1,h2⟩:=ho y ne;rw [h1,h2];exact⟨t',e',k _ _ q⟩
theorem CountMap.get {H:Hp}{kvs:List (Key×V)}{ks ls:List Str}(c:CountMap H kvs ks ls)(x:Str){t0:Addr}(h0:H t0=some (.tup [.int 0,.int 0])) :
 ∃ t:Addr,(b9 kvs (Sum.inr x)).getD (.ref t0)=.ref t/\H t=some (.tup [.int ((ks.count x:Nat):Int),.int ((ls.count x:Nat):Int)]):=by
 cases e:b9 kvs (Sum.inr x) with
 | some v =>
  obtain⟨t,e',q⟩:=c.val x v (iG e);exact⟨t,e',q⟩
 | none =>
  have hn:=qO e;have hx:¬ (x∈ks\/x∈ls):=fun z=>hn ((c.mem _).mpr ⟨x,rfl,z⟩);have h1:ks.count x=0:=ag7.mpr fun z=>hx (.inl z);have h2:ls.count x=0:=ag7.mpr fun z=>hx (.inr z);exact⟨t0,rfl,by rw [h1,h2];exact h0⟩
def aeE (t:TS):TS:=fun D σ H=>∃ N:St->Hp->Prop,(∀ σ' H',N σ' H'->D.nx σ' H')/\t { D with nx:=N } σ H
theorem aR {X:Cx}{st:Stmt}{t:TS}(h:PS X st t):PS X st (aeE t):=by
 intro pins s σ H D I hw;obtain⟨N,hN,q⟩:=hw;refine thn (h pins s σ H _ I q) fun f s1 q1=>?_;cases f with
 | next=>obtain⟨σ',H',I',n⟩:=q1;exact⟨σ',H',I',hN _ _ n⟩
 | brk=>exact q1
 | cont=>exact q1
 | ret u=>exact q1
theorem dA (a b:Str):(a++b).cps.toList=a.cps.toList++b.cps.toList:=by
 show (a.cps++b.cps).toList=_;simp
theorem jS:∀ ss:List Str,(Txt.join (Str.ofString "") ss).cps.toList=(ss.map (·.cps.toList)).flatten:=by
 intro ss;show (Builtin.Str.glued (PySem.Str.ofString "") ss).cps.toList=_;rw [StrLaws.glued_eq_join];have e0:(Str.ofString "").cps.toList=[]:=by decide
 induction ss with
 | nil=>rfl
 | cons a r ih =>
  cases r with
  | nil=>simp [Str.join]
  | cons b r' =>
   have:Str.join (Str.ofString "") (a::b::r')=a++Str.ofString "" ++ Str.join (Str.ofString "") (b::r'):=rfl;rw [this,dA,dA,e0,afO,ih];simp
section
variable {X:Cx}{outer scope:Scope}{N N':List Str}{nl:Nat}{ix:List Nat}{tg iter:Expr}{ifs:List Expr}{pos:Pos}{wi:TI}{g:TG}{tf:TT}
theorem jP {elt:Expr}{te:TE}(h1:X.env.scope=outer)(h2:X.N=N)(hc:X.calm=true)(hi:PI X tg iter wi)
 (hg:∀ C fp s₀ H₀,PG (X.comp scope N' C fp s₀ H₀) tg g)(hf:∀ C fp s₀ H₀,PIf (X.comp scope N' C fp s₀ H₀) ifs tf)(he:∀ C fp s₀ H₀,PE (X.comp scope N' C fp s₀ H₀) elt te)
 (hck:iT outer scope N N' nl ix=true:=by decide +kernel)(hs:∀ x,foldedSetIterable iter X.env x=pure x:=by intro _;rfl):PE X (.ListComp elt [⟨tg,iter,ifs,0⟩] scope pos) (qX nl ix wi g tf te) :=
 let ⟨S,Cp⟩:=gJ h1 h2 hck
 jo hc S Cp hi hg hf he hs
end
section
variable {X:Cx}{pins:List (Addr×Obj)}{σ:St}{H:Hp}{s:Shared}{h':Heap}
theorem Inv.turnedL {t':Nat}{fp:List Addr}(I:Inv X pins σ H s)(k:∀ b o,b ∉ fp->s.heap.get? b=some o->h'.get? b=some o)(hf:∀ b∈fp,oh X pins H b):Inv X pins σ H { s with heap:=h',toks:=t' }:=by
 have nit:∀ b u,H b=some u->b ∉ fp:=fun b u e z=>by have:=(hf b z).1;rw [e] at this;cases this
 refine I.step (g':=s.gens) (d':=s.drawn) (ch:=fp) (fun b hb=>?_) (fun b o _ _ hc e _=>k b o hc e) (fun b o _ _ hc e _=>⟨o.slots,k b o hc e⟩) (fun _ _ _ _ n=>n)
  (fun b o hc e=>⟨o,k b o hc e⟩) (fun _ _ e=>e) (fun _ _ _ e=>e) (fun b ps e=>⟨#[],by rw [e];simp⟩) (fun m hm=>?_) (fun b u e=>?_) I.bare
 ·obtain⟨f0,f1,f2,f3,f4,f5⟩:=hf b hb;exact⟨f3,f1,f4,f5⟩
 ·obtain⟨o,es,ep,ho,r⟩:=hm;exact⟨o,es,ep,k _ o (fun z=>(hf _ z).2.1 rfl) ho,r⟩
 ·refine (I.hok b u e).stay (fun c v hc q=>k c v ?_ q) (fun _ q=>q) fun _ _ q=>q;rcases hc with z | z
  ·rw [z];exact nit b u e
  ·exact nit c _ z
theorem Inv.turnedNew {t':Nat}{fp:List Addr}{a:Addr}{o:HO}(I:Inv X pins σ H s)(k:∀ b o,b ∉ fp->s.heap.get? b=some o->h'.get? b=some o)(hf:∀ b∈fp,oh X pins H b)(hp:s.heap.objs.size<=a)(new:ObjOk X.prog X.w (upd H a o) h' a o) :
 Inv X pins σ (upd H a o) { s with heap:=h',toks:=t' }:=by
 have ha:H a=none:=I.hok.fresh hp;have nit:∀ b u,H b=some u->b ∉ fp:=fun b u e z=>by have:=(hf b z).1;rw [e] at this;cases this
 have up:∀ {b u},H b=some u->upd H a o b=some u:=fun {b u} e=>by rw [ah (af e ha)];exact e
 refine I.step (g':=s.gens) (d':=s.drawn) (ch:=fp) (fun b hb=>?_) (fun b o _ _ hc e _=>k b o hc e) (fun b o _ _ hc e _=>⟨o.slots,k b o hc e⟩) (fun b ob _ e n=>?_)
  (fun b o hc e=>⟨o,k b o hc e⟩) (fun _ _ e=>up e) (fun _ _ _ e=>up e) (fun b ps e=>⟨#[],by rw [up e];simp⟩) (fun m hm=>?_) (fun b u e=>?_) I.bare
 ·obtain⟨f0,f1,f2,f3,f4,f5⟩:=hf b hb;exact⟨f3,f1,f4,f5⟩
 ·rw [ah (afm (afg (ae8 e) hp))];exact n
 ·obtain⟨o,es,ep,ho,r⟩:=hm;exact⟨o,es,ep,k _ o (fun z=>(hf _ z).2.1 rfl) ho,r⟩
 ·by_cases hb:b=a
  ·subst hb;rw [ag] at e;cases e;exact new
  ·rw [ah hb] at e;refine (I.hok b u e).stay (fun c v hc q=>k c v ?_ q) (fun _ q=>up q) fun _ _ q=>up q;rcases hc with z | z
   ·rw [z];exact nit b u e
   ·exact nit c _ z
end
def ItE (K:PySem.W.Frag)(a:Addr):It :=
 ⟨fun i H=>∃ xs x,SqL K H a xs/\xs[i]? = some x,fun i H x H'=>∃ T v,x=.ref T/\H T=none/\H'=upd H T (.tup [.int (i:Int),v])/\∀ xs,SqL K H a xs->xs[i]? = some v,fun i H=>∃ xs,SqL K H a xs/\xs.length<=i⟩
theorem yK {P:Program}{w:World}{K:PySem.W.Frag}{es:List Expr}{kk:Nat}{tp:Pos}(a e it:Addr)(hei:e≠it):acv P w K (.Tuple es kk tp) (ItE K a) [e,it] e (fun i h=>(∃ old,IsEnum h e it (i:Int) old)/\h.IsListIter it a i) where
 mem:=by simp
 obj:=fun i h st b hb=>by
  obtain⟨⟨old,he⟩,hi⟩:=st;rcases ae7.mp hb with z | hb
  ·rw [z];exact⟨_,he,fun v z=>by cases z⟩
  ·rw [aeS.mp hb];obtain⟨o,e,c,d⟩:=hi;exact⟨o,e,fun v z=>by rw [d] at z;cases z⟩
 keep:=fun i h h' st k=>⟨let ⟨old,he⟩:=st.1;⟨old,k e (by simp) _ he⟩,st.2.at fun o e=>k it (by simp) o e⟩
 item:=by
  intro X hP hw hK hc i pins s σ H E I hf st hg;subst hP hw hK;obtain⟨xs,x,hq,hx⟩:=hg;obtain⟨its,rv,p,hz⟩:=I.list hq;obtain⟨u,hu,ru⟩:=rv.get hx;obtain⟨⟨old,he⟩,hit⟩:=st;refine wpAny_pyNext_enum_item he hit p.isList (x:=u) (by simpa using hu) hei fun h' ho hit' hT hsz k=>?_;have hh:∀ b o,b ∉ [e,it]->s.heap.get? b=some o->h'.get? b=some o:=fun b o hb q=>k b o (fun z=>hb (by simp [z])) (fun z=>hb (by simp [z])) q;refine⟨_,rfl,wpAny_letOwnedTupleGo_enum ho fun h2 he2 hs2=>?_⟩;have eT:s.heap.objs.size≠e:=ahm (ae8 he);have hT2:h2.get? s.heap.objs.size=some { cls:=.type "tuple",data:=.seq #[.int i s.toks,u] }:=(hs2.2 _ eT).trans hT;have hh2:∀ b o,b ∉ [e,it]->s.heap.get? b=some o->h2.get? b=some o:=fun b o hb q=>(hs2.2 b (fun z=>hb (by simp [z]))).trans (hh b o hb q);have I2:=I.turnedNew (t':=s.toks+1) (h':=h2) (o:=.tup [.int (i:Int),x]) hh2 hf (ae1 _) ⟨by show 2<=sizeLine;decide,[.int i s.toks,u],.cons ⟨_,rfl⟩ (.cons ru .nil),_,hT2,rfl,_,rfl⟩;have fr:H s.heap.objs.size=none:=I.fresh;refine⟨.ref s.heap.objs.size,_,I2,rfl,⟨_,x,rfl,fr,rfl,fun ys hy=>by rw [I.list_inj hy hq];exact hx⟩,⟨⟨_,by simpa using he2⟩,hit'.at fun o q=>(hs2.2 it (agM hei)).trans q⟩,fun b hb=>?_⟩;have hlt:b < s.heap.objs.size:=by
   rcases ae7.mp hb with z | hb
   ·rw [z];exact ae8 he
   ·rw [aeS.mp hb];obtain⟨o,q,_⟩:=hit;exact ae8 q
  rw [ah (afm hlt)];exact (hf b hb).1
 done:=by
  intro X hP hw hK hc i pins s σ H E I hf st hg;subst hP hw hK;obtain⟨xs,hq,hx⟩:=hg;obtain⟨its,rv,p,hz⟩:=I.list hq;obtain⟨⟨old,he⟩,hit⟩:=st;have hl:=rv.length;exact wpAny_pyNext_enum_end (I.ok.hd hc) he hit p.isList (by simp;lia) fun h' eb=>⟨rfl,I.turnedL (t':=s.toks) (fun b o hb q=>eb b o (fun z=>hb (by simp [z])) q) hf⟩
 self:=fun _ _ _ _ _ st h=>let ⟨⟨_,he⟩,_⟩:=st;wpAny_pyIter_enum he h
def ad7 (K:PySem.W.Frag)(ta:TA):TI:=fun σ H R=>ta σ H fun vs H1=>∃ a,vs=[.ref a]/\(∃ xs,SqL K H1 a xs)/\R (ItE K a) H1
section
variable {X:Cx}
theorem oe:bootBuiltins "enumerate" = some (.type "enumerate"):=by decide +kernel
theorem yv {a:Expr}{ta:TA}{p pos:Pos}{es:List Expr}{kk:Nat}{tp:Pos}(hg:Gl X "enumerate")(hm:X.mg "enumerate" = none)(ha:PA X [a] ta)(hs:starEach [a] X.env=[(false,eval a X.env)]:=by rfl):PI X (.Tuple es kk tp) (.Call (.Name "enumerate" p) [a] [] pos) (ad7 X.K ta):=by
 intro pins s σ H R I h;refine Call_ (iK I hg hm oe (agE (thn (ha pos pins s σ H _ I h) fun us s1 ⟨vs,H1,I1,r1,q1⟩=>?_) hs rfl));obtain⟨a,e,⟨xs,hq⟩,q⟩:=q1;subst e;obtain⟨u,rfl,ru⟩:=gZ r1;cases ru;obtain⟨its,rv,p,hz⟩:=I1.list hq;refine call_enumerate_list p.isList fun h' he hi hsz k=>?_;have I2:Inv X pins σ H1 { s1 with heap:=h' }:=I1.kept (t':=s1.toks) k;refine wpAny_pyIter_enum he ⟨s1.heap.objs.size+1,[s1.heap.objs.size+1,s1.heap.objs.size],_,ItE X.K a,H1,rfl,I2,yK a _ _ (Nat.succ_ne_self _),⟨⟨_,he⟩,hi⟩,fun b hb=>?_,q⟩;rcases ae7.mp hb with z | hb
 ·rw [z];exact I1.fpOk (aho _) (I1.hok.fresh (aho _))
 ·rw [aeS.mp hb];exact I1.fpOk (ae1 _) I1.fresh
end
theorem aae {K:PySem.W.Frag}{a:Addr}{xs:List V}{g:TG}{tb:TS}{D:zh}{σ:St}{H:Hp}(Pv:Nat->St->Hp->Prop)(h0:Pv 0 σ H)(hl:∀ i σ H,i<=xs.length->Pv i σ H->SqL K H a xs)
 (hs:∀ i x σ H T,xs[i]? = some x->Pv i σ H->H T=none->g (.ref T) σ (upd H T (.tup [.int (i:Int),x])) fun σ2 H2=>tb { D with nx:=Pv (i+1),ct:=Pv (i+1),bk:=D.nx } σ2 H2)(hd:∀ σ H,Pv xs.length σ H->D.nx σ H) :
 ∃ W:Nat->Nat->St->Hp->Prop,(∃ m,W 0 m σ H)/\∀ i m σ H,W i m σ H →
  ((ItE K a).stop i H/\D.nx σ H)\/((ItE K a).go i H/\∃ N:St->Hp->Prop,(∀ σ' H',N σ' H'->∃ m',m' < m/\W (i+1) m' σ' H')/\∀ x H',(ItE K a).yld i H x H'->g x σ H' fun σ2 H2=>tb { D with nx:=N,ct:=N,bk:=D.nx } σ2 H2):=by
 refine⟨fun i m σ H=>m=xs.length - i/\i<=xs.length/\Pv i σ H,⟨xs.length,by simp,afe _,h0⟩,?_⟩;rintro i m σ H ⟨rfl,hi,p⟩;have q:=hl i σ H hi p;by_cases hlt:i < xs.length
 ·refine .inr ⟨⟨xs,xs[i],q,by simp [hlt]⟩,Pv (i+1),fun σ' H' p'=>⟨xs.length - (i+1),by lia,rfl,hlt,p'⟩,fun x H' y=>?_⟩;obtain⟨T,v,ex,hT,eH,hv⟩:=y;subst ex eH;exact hs i v σ H T (hv xs q) p hT
 ·have e:i=xs.length:=by lia
  subst e;exact .inl ⟨⟨xs,q,ae1 _⟩,hd σ H p⟩
theorem yI {nl:Nat}{ix:List Nat}{g:TG}{tf:TT}{te:TE}{σ:St}{H1:Hp}{D:Addr}{Q:VK}(Pv:Nat->List V->Hp->Prop){K:PySem.W.Frag}{a:Addr}{xs:List V}(h0:Pv 0 [] (upd H1 D (.lst [])))(hD:∀ i ys H,Pv i ys H->H D=some (.lst ys))(hl:∀ i ys H,Pv i ys H->SqL K H a xs)
 (hs:∀ i ys H x T,xs[i]? = some x->Pv i ys H->H T=none->bN nl ix g tf te σ D ys (upd H T (.tup [.int (i:Int),x])) (.ref T) fun ys' H'=>Nx xs.length i (Pv (i+1) ys' H'))(hd:∀ ys H,Pv xs.length ys H->Q (.ref D) H):i5 nl ix g tf te σ (ItE K a) H1 D Q:=by
 refine uZ (n:=xs.length) Pv h0 hD (fun i ys H hi p=>⟨xs,xs[i],hl i ys H p,by simp [hi]⟩) (fun ys H p=>⟨xs,hl _ ys H p,ae1 _⟩) (fun i ys H x H' hi p y=>?_) hd;obtain⟨T,v,ex,hT,eH,hv⟩:=y;subst ex eH;exact hs i ys H v T (hv xs (hl i ys H p)) p hT
section
variable {prog:Program}{w:World}{A:Around}{E:Value->Shared->Prop}{s:Shared}
theorem qd {Q₁:Value->Shared->Prop}
 (h:Q₁ (.ref s.heap.objs.size) { s with heap:=s.heap.push { cls:=.type "set",dict:=none,data:=.set #[] 0 (.fresh 0 0 (!w.params.followText "set-order")) } }) :
 codeAny (model prog w) A (.call (.builtin "set.__new__") ⟨[.type "set"],[]⟩) (wants Q₁ E) s:=by
 refine aia ?_;show wpAny _ A.in1 (do checkBuiltinCall "set.__new__" ⟨[.type "set"],[]⟩;again (.builtin "set.__new__" ⟨[.type "set"],[]⟩)) _ _ s;refine aeQ (ajJ F.newCall_set_0 (aeX ⟨ahq aiY _,agj F.entry_set_new ?_⟩));rw [aga aiY _];unfold Builtin.«set.__new__» Builtin.Frozenset.newClass;have hsub:=sub_set_self;obtain⟨hp,g,d,tk,os⟩:=s;dsimp only
 wp_walk
 refine ahu (aeX ?_);dsimp only;simp only [newObj];refine aeQ (akG (aeX ?_));exact aeX h
theorem pA {Q:Value->Shared->Prop}
 (h:Q (.ref s.heap.objs.size) { s with heap:=s.heap.push { cls:=.type "set",dict:=none,data:=.set #[] 0 (.fresh 0 0 (!w.params.followText "set-order")) } }) :
 wpAny (model prog w) A (call (.type "set") []) Q E s:=by
 obtain⟨c,tl,hmro⟩:=agk.mro;have hmade:=agk.made;have hsub:=agk.sub;refine wpAny_call (aia ?_);show wpAny _ _ (callAny (.type "set") _) _ _ _;refine aeX ⟨Code.quiet_builtin _ (by decide +kernel),agj F.entry_type_call ?_⟩;rw [Around.under_plain (weight_type_call_type "set" [] []) rfl];have h1:=agk.notType;have h2:=agk.canCreate;have hct:=F.typeCall_set_0
 repeat (any_goals (first | assumption | wp_step))
 generalize hled:(!w.params.followText "set-order")=led at h;refine ag5 (qd (E:=E) (Q₁:=fun obj s₁=>obj=.ref s.heap.objs.size/\s₁={ s with heap:=s.heap.push { cls:=.type "set",dict:=none,data:=.set #[] 0 (.fresh 0 0 led) } }) ⟨rfl,by rw [hled]⟩) fun r s₁ hr=>?_;cases r with
 | error e=>exact hr
 | ok fl =>
  cases fl with
  | ret obj =>
   obtain⟨rfl,rfl⟩:=hr;have hS:(s.heap.push { cls:=.type "set",dict:=none,data:=.set #[] 0 (.fresh 0 0 led) }).get? s.heap.objs.size=some { cls:=.type "set",dict:=none,data:=.set #[] 0 (.fresh 0 0 led) }:=afd _ rfl;have hT:Shared.TypeIs { s with heap:=s.heap.push { cls:=.type "set",dict:=none,data:=.set #[] 0 (.fresh 0 0 led) } } (.ref s.heap.objs.size) "set" := ⟨_,hS,rfl⟩;have hli:=agk.init.lookup;have hbi:=agk.init.bind (.ref s.heap.objs.size)
   repeat (any_goals (first | assumption | wp_step))
   refine ag5 (codeAny_call_builtin (R:=wants (fun r s₂=>r=.none/\Q (.ref s.heap.objs.size) s₂) E) agk.init.plain F.entry_set_init (check_set_init hT ?_)) fun r₂ s₂ hr₂=>?_
   ·unfold Builtin.«set.__init__» noKeywords
    wp_walk
    exact⟨rfl,h⟩
   ·cases r₂ with
    | error e=>exact hr₂
    | ok fl₂ =>
     cases fl₂ with
     | ret r =>
      obtain⟨rfl,hq⟩:=hr₂
      repeat (any_goals (first | assumption | wp_step))
     | _=>exact hr₂.elim
  | _=>exact hr.elim
end
section
variable {X:Cx}
theorem qE:di X (.type "set") (fun xs H Q=>xs=[]/\∀ a,H a=none->Q (.ref a) (upd H a (cM X.prog X.w a []))):=by
 intro pins s σ H xs us Q I r h;obtain⟨rfl,q⟩:=h;cases r.zero;exact pA ⟨.ref s.heap.objs.size,_,I.laid (t':=s.toks) (o:=cM X.prog X.w s.heap.objs.size []) (fun b o e=>aeV _ e) (ae1 _) (vw (pF X.prog X.w s.heap)),rfl,q _ I.fresh⟩
def acS (P:Program)(w:World)(neg:Bool):R2:=fun x y H Q=>∃ a ss z,x=.str z/\y=.ref a/\H a=some (cM P w a ss)/\Q (.bl (if neg then !decide (z∈ss) else decide (z∈ss))) H
theorem zd:OpR X (compareOp .In) (acS X.prog X.w false):=by
 intro pins s σ H x y v u Q I rx ry h;obtain⟨a,ss,z,rfl,rfl,e,q⟩:=h;obtain⟨t,rfl⟩:=rx;cases ry;exact wpAny_inSet_of (knd:=PySem.strKind X.prog X.w) ((oY rfl).mpr rfl) rfl (qR I.hok e).setOf ⟨.bl _,H,I.tok _,rfl,q⟩
def aet (ty:V->Hp->Prop)(r:V->List V->Hp->VK->Prop)(to:TE)(t:TA):TE:=fun σ H Q=>to σ H fun x H1=>ty x H1/\t σ H1 fun xs H2=>r x xs H2 Q
variable {o e:Expr}{es:List Expr}{to:TE}{t:TA}{name:Str}{apos cpos:Pos}{T id:String}{r:V->List V->Hp->VK->Prop}{ty:V->Hp->Prop}
theorem acW (hT:∀ (pins:List (Addr×Obj)) (s:Shared) (σ:St) (H:Hp) (x:V) (v:Value),Inv X pins σ H s->RelV x v->ty x H->s.TypeIs v T/\∀ a,v=.ref a->∃ ob,s.heap.get? a=some ob/\ob.dict=none)
 (pa:PlainAttrs T)(slot:Slot T name id)(hty:typeOf (.builtin id)=pure (.type "method_descriptor"))(hm:MtR X id r)(ho:PE X o to)(ha:PA X (e::es) t)
 (hbase:attributeBase o name X.env (eval o X.env)=eval o X.env:=by rfl)
 (hfew:((backTo cpos (starEach (e::es) X.env)).all (fun x=>!x.1) && (backToKw cpos (keywordEach [] X.env)).all (fun x=>x.1.isSome)
  && decide ((e::es).length+([]:List Keyword).length+(if ([]:List Keyword).isEmpty then 0 else 1) < 30))=true:=by rfl)
 (hline:(apos.endLine == cpos.line)=true:=by rfl)(hs:starEach (e::es) X.env=(false,eval e X.env)::starEach es X.env:=by rfl)(hplain:(backTo cpos (starEach es X.env)).any (·.1)=false:=by rfl) :
 PE X (.Call (.Attribute o name apos) (e::es) [] cpos) (aet ty r to t):=by
 intro pins s σ H Q I h;refine wpAny_Call_method_late hbase hfew hline rfl (thn (ho pins s σ H _ I h) fun v s1 ⟨x,H1,I1,r1,ty,q1⟩=>?_);obtain⟨h1,h2⟩:=hT pins s1 σ H1 x v I1 r1 ty;refine⟨T,id,pa,slot,hty,h1,h2,?_⟩;have hA:=ha cpos pins s1 σ H1 _ I1 q1;rw [hs] at hA ⊢;refine ahz (by show (false || (backTo cpos (starEach es X.env)).any (·.1))=false;rw [hplain]<;>rfl) (aiB ?_);exact thn hA fun us s2 ⟨vs,H2,I2,r2,q2⟩=>hm pins s2 σ H2 x vs v us Q I2 r1 r2 q2
def ad4 (P:Program)(w:World):V->Hp->Prop:=fun x H=>∃ a ss,x=.ref a/\H a=some (cM P w a ss)
theorem zL:∀ (pins:List (Addr×Obj)) (s:Shared) (σ:St) (H:Hp) (x:V) (v:Value),Inv X pins σ H s->RelV x v->ad4 X.prog X.w x H->s.TypeIs v "set" ∧ ∀ a,v=.ref a->∃ ob,s.heap.get? a=some ob/\ob.dict=none:=by
 intro pins s σ H x v I r h;obtain⟨a,ss,rfl,e⟩:=h;cases r;obtain⟨es,ep,t,T,_⟩:=qR I.hok e;exact⟨⟨_,T.get,rfl⟩,fun b z=>by cases z;exact⟨_,T.get,rfl⟩⟩
def acs (P:Program)(w:World):V->List V->Hp->VK->Prop:=fun x vs H Q=>∃ a ss z,x=.ref a/\vs=[.str z]/\H a=some (cM P w a ss)/\ss.length+1 < scanBound/\∀ ss',((z∈ss/\ss'=ss)\/(z ∉ ss/\ss'.Perm (ss++[z])))->ss'.Nodup->Q .non (upd H a (cM P w a ss'))
theorem oI:MtM X "set.add" (acs X.prog X.w):=by
 intro pins s σ H x vs v us Q I rx rv h;obtain⟨a,ss,z,rfl,rfl,e,hr,q⟩:=h;cases rx;obtain⟨u,rfl,t,rfl⟩:=rv.one;have tx:=qR I.hok e;refine agx F.slot_set_add tx.setOf.typeIs F.entry_set_add ?_ (F.args_set_add_2 _ _);unfold Builtin.«set.add» Builtin.Frozenset.oneOther;simp only [List.isEmpty_nil,bind_assoc];unfold Builtin.Frozenset.addrOf setAdd;refine aeQ (aeX ?_)
 try dsimp only
 refine aeQ (aeX ?_)
 try dsimp only
 refine aeQ ?_;refine af5 ?_;refine aeQ ((PySem.strKind X.prog X.w).pyHash (k:=z) ((oY rfl).mpr rfl) ?_);refine iS (s:={ s with toks:=s.toks+1 }) tx hr fun h' ss' hsb tx' alt=>?_;show wpAny _ _ (ret Value.none) _ _ _;refine aeX ⟨_,rfl,.non,_,jO (t':=s.toks+1) (I.tok (s.toks+1)) (by rw [e];exact True.intro) hsb ?_ (vw tx'),rfl,q ss' alt tx'.nd⟩;obtain⟨_,_,_,T,_⟩:=tx';exact⟨_,T.get⟩
def abF:V->List V->Hp->VK->Prop:=fun x vs H Q=>∃ a kvs k y,x=.ref a/\vs=[kV k,y]/\H a=some (.dK kvs)/\kvs.length < sizeLine/\(∀ v,b9 kvs k=some v->Q v H)/\(b9 kvs k=none->Q y (upd H a (.dK (fU kvs k y))))
theorem pG:MtM X "dict.setdefault" abF:=by
 intro pins s σ H x vs v us Q I rx rv h;obtain⟨a,kvs,k,y,rfl,rfl,e,hl,q1,q2⟩:=h;cases rx;obtain⟨u,r,rfl,ru,rr⟩:=rv.two;obtain⟨z,hd,ws,rel,dd⟩:=aag I.hok e;refine call_meetsIn aiM dd.typeIs PySem.F.entry_dict_setdefault (PySem.F.args_dict_setdefault_3 _ _ _) (kt_meets_setdefault (bE X.prog X.w) a (t4 ru) hd r) ⟨ws,dd,by rw [← rel.length];exact z,fun v' hv'=>?_,fun hn h' dd' hs=>?_⟩
 ·have ro:=rel.val k;rw [hv'] at ro;cases q:b9 kvs k with
  | none=>rw [q] at ro;exact ro.elim
  | some v0 =>
   rw [q] at ro;exact⟨v0,H,I.tok _,ro,q1 v0 q⟩
 ·have ro:=rel.val k;rw [hn] at ro;cases q:b9 kvs k with
  | some v0=>rw [q] at ro;exact ro.elim
  | none =>
   have he:∃ q,h'.get? a=some q:=let ⟨q,_,_,hq,_⟩:=dd';⟨q,hq⟩;have hl':(fU kvs k y).length<=sizeLine:=by have:=dt kvs k y;lia
   exact⟨y,_,jO I (by rw [e];exact True.intro) hs he (xx hl' hd (rel.put k rr) dd'),rr,q2 q⟩
theorem zo:aek X (fun x y H Q=>∃ p xs i v,x=.ref p/\y=.int (i:Nat)/\SqL X.K H p xs/\xs[i]? = some v/\Q v H):=by
 intro pins s σ H x y v u Q I rx ry h;obtain⟨p,xs,i,z,rfl,rfl,hq,he,q⟩:=h;cases rx;obtain⟨t,rfl⟩:=ry;obtain⟨its,r,pl,hz⟩:=I.list hq;obtain⟨w,ew,rw'⟩:=r.get he;have hi:i < xs.length:=(aeU.mp he).1;have hn:=jt;exact wpAny_getItem_list pl.isList (by lia) (by lia) (by simpa using ew) ⟨z,H,I,rw',q⟩
theorem wb:OpR X (binaryOp .Mult) (fun x y H Q=>∃ z n,x=.str z/\y=.int n/\-1000000<=n/\n<=1000/\z.length<=1000/\Q (.str (Txt.mul z n)) H):=by
 intro pins s σ H x y v u Q I rx ry h;obtain⟨z,n,rfl,rfl,h1,h2,h3,q⟩:=h;obtain⟨t,rfl⟩:=rx;obtain⟨t',rfl⟩:=ry;refine SB.mul ⟨by simp;lia,fun a b=>?_,fun a b=>?_⟩ fun t' k=>⟨.str _,H,I.tok _,⟨t',rfl⟩,q⟩
 ·intro c;have:(2 ^ 63 - 1:Int) / n ≥ 1000:=by
   have:(1000:Int) * n<=2 ^ 63 - 1:=by lia
   exact Int.le_ediv_of_mul_le (by lia) this
  lia
 ·unfold Builtin.Str.tooLong;have:z.length * n.toNat<=1000 * 1000:=Nat.mul_le_mul h3 (by lia);have h4:z.length * n.toNat<=sizeLine:=aft this (by decide);simpa using h4
end
section
variable {X:Cx}{K:PySem.W.Frag}{P:Program}{w:World}
theorem call_len_set (hP:X.prog=P)(hw:X.w=w):di X (.builtin "len") (fun xs H Q=>∃ a ss,xs=[.ref a]/\H a=some (cM P w a ss)/\Q (.int ss.length) H):=by
 subst hP hw;intro pins s σ H xs us Q I r h;obtain⟨a,ss,rfl,e,q⟩:=h;obtain⟨u,rfl,rx⟩:=gZ r;cases rx;have tx:=qR I.hok e;have hl:=tx.len;obtain⟨es,ep,t,T,e2,nd⟩:=tx;subst e2;have hz:(uJ es).length=es.size:=by simp [uJ]
 have h4:scanBound=4096:=rfl;refine PySem.call_len_set T.get ⟨rfl,rfl,rfl⟩ rfl T.fit (by lia) ⟨.int _,H,I.tok _,⟨_,rfl⟩,?_⟩;rw [hz] at q;exact q
theorem qY (hP:X.prog=P)(hw:X.w=w)(hK:X.K=K)(hc:X.calm=true):di X (.type "set") (fun xs H Q=>∃ (p:Addr) (ss:List Str),xs=[.ref p]/\SqL K H p (ss.map V.str)/\ss.length+1 < scanBound/\∀ (a:Addr) (ts:List Str),H a=none->zT ts ss->Q (.ref a) (upd H a (cM P w a ts))):=by
 subst hP hw hK;exact gi hc
theorem wc (hK:X.K=K):OpR X (compareOp .In) (rIn K false):=by subst hK;exact mX
theorem fX (hK:X.K=K):OpR X (compareOp .NotIn) (rIn K true):=by subst hK;exact kJ
theorem gD:di X (.builtin "sorted") (fun xs H Q=>∃ (p:Addr) (ns:List Int),xs=[.ref p]/\SqL X.K H p (ns.map V.int)/\ns.length < 64/\∀ (l:Addr) (ns':List Int),H l=none->ns'.Perm ns->ns'.Pairwise (·<=·)->Q (.ref l) (upd H l (.lst (ns'.map V.int)))):=by
 intro pins s σ H xs us Q I r h;obtain⟨p,ns,rfl,hq,hl,q⟩:=h;obtain⟨u,rfl,rx⟩:=gZ r;cases rx;obtain⟨its,rv,pl,hz⟩:=I.list hq;have hlen:=rv.length;rw [aeP] at hlen;refine sorted_ints pl.isList (oS rv) (by lia) fun out ns' a1 a2 a3=>?_;obtain⟨e,he⟩:=sortedAll_at s.heap its out;have hlen':ns'.length=ns.length:=a2.length_eq;refine⟨.ref (s.heap.objs.size+1),_,I.laid (t':=s.toks) (o:=.lst (ns'.map V.int)) (fun b o e=>sortedAll_old e) (aho _) ⟨?_,out.toList,e,jj a1,?_⟩,rfl,q _ ns' (I.hok.fresh (aho _)) a2 a3⟩
 ·rw [aeP];exact afo (afg (by lia:ns'.length < 64) (by decide))
 ·simpa using he
end
section
variable {X:Cx}
theorem zm {i:Nat}{x:Str}{pos' spos:Pos}{elt tg iter:Expr}{ifs:List Expr}{scope:Scope}{pos:Pos}{N':List Str}{nl:Nat}{ix:List Nat}{wi:TI}{g:TG}{tf:TT}{te:TE}(hN:X.N.Nodup)(hi':X.N[i]? = some x)(hx:Loc X.env.scope x)
 (hc:X.calm=true)(S:CompScope X scope)(Cp:acu X scope N' nl ix)(hi:PI X tg iter wi)
 (hg:∀ C fp s₀ H₀,PG (X.comp scope N' C fp s₀ H₀) tg g)(hf:∀ C fp s₀ H₀,PIf (X.comp scope N' C fp s₀ H₀) ifs tf)(he:∀ C fp s₀ H₀,PE (X.comp scope N' C fp s₀ H₀) elt te)
 (hsw:swapsWith (.ListComp elt [⟨tg,iter,ifs,0⟩] scope pos) (some (.Name x pos')) spos.line X.env=pure true)
 (hs:∀ x,foldedSetIterable iter X.env x=pure x)(hfn:X.fn x=true\/X.env.scope.names.lookup x=some .local):PS X (.Assign [.Name x pos'] (.ListComp elt [⟨tg,iter,ifs,0⟩] scope pos) spos) (sd (qX nl ix wi g tf te) (bg i)):=by
 intro pins s σ H D I h;rw [exec_Assign_Name_used _ _ _ _ hsw];refine aeQ (agD (aeQ ?_));show wpAny _ X.A (do let _ ← comprehension (.ListComp elt [⟨tg,iter,ifs,0⟩] scope pos) scope X.env _ (newList []) false (eval iter X.env) (some (assign (.Name x pos') X.env))) _ _ s;refine aeQ (afL (ahe (use:=some (assign (.Name x pos') X.env)) (cl:=pH X.env scope.names []) (Q:=fun _ s'=>∃ σ' H',Inv X pins σ' H' s'/\D.nx σ' H') rfl hs (ij (S.cells I.ok)) S.kind S.loc ?_) (fun _ s' hq=>aeX (aeX hq)) fun _ _ e=>e);refine thn (hi pins s σ H _ I h) fun v s1 h1=>thn h1 fun itv s2 h2=>?_;obtain⟨it,fp,tn,J,H2,rfl,I2,T,st2,f2,h2⟩:=h2;obtain⟨W,⟨m0,w0⟩,turn⟩:=h2 s2.heap.objs.size I2.fresh;refine af2 (ahQ S.nocell (by intro y hy;simp at hy) (fun h₁ hns₁ hsb₁=>?_) S.kind);dsimp only at hns₁ hsb₁ ⊢;have fpo:∀ b∈fp,b < s2.heap.objs.size:=fun b hb=>by
  obtain⟨o,e,_⟩:=T.obj 0 _ st2 b hb;exact ae8 e
 have I3:Inv X pins σ (upd H2 s2.heap.objs.size (.lst [])) { s2 with heap:=s2.heap.push { cls:=.type "list",data:=.seq ([]:List Value).toArray },toks:=s2.toks }:=I2.lnew .nil (afe _);have hD:(upd H2 s2.heap.objs.size (.lst [])) s2.heap.objs.size=some (.lst []):=ag;have f3:∀ b∈fp,oh X pins (upd H2 s2.heap.objs.size (.lst [])) b:=fun b hb=>by
  refine⟨?_,(f2 b hb).2⟩;rw [ah (afm (fpo b hb))];exact (f2 b hb).1
 generalize hS3:s2.heap.push { cls:=.type "list",dict:=none,data:=.seq ([]:List Value).toArray }=g3 at hns₁ hsb₁ I3 ⊢;have sz3:g3.objs.size=s2.heap.objs.size+1:=by rw [← hS3,agC]
 have fpo3:∀ b∈fp,b < ({ s2 with heap:=g3,toks:=s2.toks }:Shared).heap.objs.size:=fun b hb=>by
  show b < g3.objs.size;rw [sz3];exact agn (fpo b hb)
 have old:∀ b o,g3.get? b=some o->h₁.get? b=some o:=fun b o e=>hsb₁.extBut b o (afm (ae8 e)) (aeV _ e);have I4:=kW (tk:=s2.toks+([]:List (Str×Value)).length) S Cp I3 f3 fpo3 hns₁ old;generalize hX:X.comp scope N' g3.objs.size fp { s2 with heap:=g3,toks:=s2.toks } (upd H2 s2.heap.objs.size (.lst []))=X' at *;have hPr:X'.prog=X.prog:=by rw [← hX];rfl
 have hWr:X'.w=X.w:=by rw [← hX];rfl
 have hKr:X'.K=X.K:=by rw [← hX];rfl
 have hAr:X'.A=X.A:=by rw [← hX];rfl
 have hCa:X'.calm=true:=by rw [← hX];exact hc
 have hXe:X'.xe=fun _ _=>False:=by rw [← hX];rfl
 have hEx:X'.ex=fp:=by rw [← hX];rfl
 have hPn:X'.pn=[]:=by rw [← hX];rfl
 have hLo:X'.env.locals=g3.objs.size:=by rw [← hX];rfl
 have hEn:X'.env=compEnvC scope (pH X.env scope.names []) g3.objs.size X.env:=by rw [← hX];rfl
 have hg':=hg g3.objs.size fp { s2 with heap:=g3,toks:=s2.toks } (upd H2 s2.heap.objs.size (.lst []));have hf':=hf g3.objs.size fp { s2 with heap:=g3,toks:=s2.toks } (upd H2 s2.heap.objs.size (.lst []));have he':=he g3.objs.size fp { s2 with heap:=g3,toks:=s2.toks } (upd H2 s2.heap.objs.size (.lst []));rw [hX] at hg' hf' he';have I4':Inv X' [] (cn nl ix σ) (upd H2 s2.heap.objs.size (.lst [])) { s2 with heap:=h₁,toks:=s2.toks+([]:List (Str×Value)).length }:=I4;have back:∀ {H':Hp} {σ':St} {pins':List (Addr×Obj)} {s':Shared} {h':Heap},Inv X' pins' σ' H' s'->Heap.SameBut g3.objs.size s'.heap h'->Inv X pins σ H' { s' with heap:=h' }:=fun I' sb=>by
  subst hX;exact jw I3 f3 I' sb
 have stat:∀ {H':Hp},(∀ b∈fp,H' b=none)->∀ b∈fp,oh X' [] H' b:=fun hn b hb=>by
  refine⟨hn b hb,?_,?_,.inl (by rw [hEx];exact hb),?_,fun p hp=>by rw [hPn] at hp;cases hp⟩
  ·rw [hLo];exact afm (fpo3 b hb)
  ·exact I4'.ok.exfs b (by rw [hEx];exact hb)
  ·exact (I4'.ok.exf b (by rw [hEx];exact hb)).2
 have loop:codeAny (model X.prog X.w) X.A (.compLoop (.ListComp elt [⟨tg,iter,ifs,0⟩] scope pos) 0 (.ref it) (.ref s2.heap.objs.size) X'.env)
  (compPost (model X.prog X.w) X.A X.xe (some (assign (.Name x pos') X.env)) (fun _ s'=>∃ σ' H',Inv X pins σ' H' s'/\D.nx σ' H') (.ref s2.heap.objs.size) g3.objs.size) { s2 with heap:=h₁,toks:=s2.toks+([]:List (Str×Value)).length }:=by
  rw [← hPr,← hWr,← hAr];refine oM (fun n s'=>∃ i ys H',Inv X' [] (cn nl ix σ) H' s'/\tn i s'.heap/\(∀ b∈fp,H' b=none)/\W i n ys H') ?_ m0
   ⟨0,[],_,I4',T.keep _ _ _ st2 (fun b hb o e=>old b o (by rw [← hS3];exact aeV _ e)),fun b hb=>(f3 b hb).1,w0⟩
  rintro n s5 ⟨i,ys,H5,I5,st5,fr5,w5⟩;obtain⟨hD5,alt⟩:=turn i n ys H5 w5;rcases alt with ⟨stop,qn⟩ | ⟨go,step⟩
  ·rw [hPr,hWr];refine thn (T.done X' hPr hWr hKr hCa i [] s5 _ H5 _ I5 (stat fr5) st5 stop) fun r s6 ⟨hr,I6⟩=>?_;subst hr;obtain⟨m,hn,_⟩:=I6.loc;rw [hLo] at hn;have I7:Inv X pins σ H5 s6:=back I6 (ajs _ _);have nC:H5 g3.objs.size=none:=by
    have:=I6.free;rw [hLo] at this;exact this
   have fC:oh X pins H5 g3.objs.size:=I3.fpOk (ae1 _) nC;show wpAny _ _ (assign (.Name x pos') X.env (.ref s2.heap.objs.size)) _ _ _;refine wpAny_assign_Name (rn I7 hN hi' hx (v:=.ref s2.heap.objs.size) rfl (fun s8 I8 ⟨a8,sb8,ha8⟩=>?_) hfn);have nCa:g3.objs.size≠a8:=by
    rcases ha8 with z | z
    ·rw [z];exact fC.2.1
    ·exact fun q=>fC.2.2.2.2.1 x a8 z q.symm
   refine⟨m,hn.sameBut sb8 nCa,fun h' sb=>⟨_,H5,?_,qn⟩⟩;exact I8.turnedL (t':=s8.toks) (fp:=[g3.objs.size]) (fun b o hb e=>(sb.2 b (fun z=>hb (by rw [z];exact aeS.mpr rfl))).trans e) (fun b hb=>by rw [aeS.mp hb];exact fC)
  ·have it5:=T.item X' hPr hWr hKr hCa i [] s5 _ H5 (fun _ _=>False) I5 (stat fr5) st5 go;rw [← hPr,← hWr] at it5;refine thn it5 fun r s6 ⟨u,hr,h6⟩=>?_;subst hr;refine thn h6 fun _ s7 ⟨x,H7,I7,r7,y7,st7,fr7⟩=>?_;have I7':=I7.pinned (stat fr7) (T.obj _ _ st7);have g7:=hg' _ s7 _ H7 x u _ I7' r7 (step x H7 y7);rw [hXe] at g7;refine thn g7 fun _ s8 ⟨σ8,H8,I8,⟨hl8,hd8⟩,q8⟩=>?_;have f8:=hf' _ s8 σ8 H8 _ I8 q8;rw [hXe] at f8;refine thn f8 fun ok s9 ⟨H9,I9,q9⟩=>?_;have again:∀ {H10:Hp} {s10:Shared} {ys':List V},Inv X' ([]++ku fp s7.heap) σ8 H10 s10->(∃ m',m' < n/\W (i+1) m' ys' H10)->∃ m,m < n/\∃ i ys H',Inv X' [] (cn nl ix σ) H' s10/\tn i s10.heap/\(∀ b∈fp,H' b=none)/\W i m ys H':=fun {H10 s10 ys'} I10 ⟨m',hm,w'⟩=>by
    refine⟨m',hm,i+1,ys',H10,jy I10.unpinned hl8 hd8,T.keep _ _ _ st7 fun b hb o e=>(I10.pin (b,o) (aeW _ (aeW _ (bW hb e)))).1,fun b hb=>?_,w'⟩;obtain⟨o,e,d⟩:=T.obj _ _ st7 b hb;exact (I10.pin (b,o) (aeW _ (aeW _ (bW hb e)))).2.1
   cases ok with
   | false =>
    rw [if_neg aeY] at q9 ⊢;exact again I9 q9
   | true =>
    rw [if_pos rfl] at q9 ⊢;have e9:=he' _ s9 σ8 H9 _ I9 q9;rw [hXe] at e9;refine thn e9 fun xv s10 ⟨y,H10,I10,r10,hD10,hz,mw⟩=>?_;have a10:=bJ (X:=X') _ s10 σ8 H10 (.ref s2.heap.objs.size) [y] _ [xv] (fun _ H'=>H'=upd H10 s2.heap.objs.size (.lst (ys++[y]))) I10 rfl (.cons r10 .nil) ⟨_,ys,y,rfl,rfl,hD10,hz,rfl⟩;rw [hXe] at a10;refine thn a10 fun _ s11 ⟨_,H11,I11,_,e11⟩=>?_;subst e11;exact again I11 mw
 rw [hEn] at loop;exact codeAny_compStart_list loop (T.self _ 0 _ _ _ (T.keep _ _ _ st2 (fun b hb o e=>old b o (by rw [← hS3];exact aeV _ e))) loop)
theorem eO {i:Nat}{x:Str}{pos' spos:Pos}{elt tg iter:Expr}{ifs:List Expr}{outer scope:Scope}{pos:Pos}{N N':List Str}{nl:Nat}{ix:List Nat}{wi:TI}{g:TG}{tf:TT}{te:TE}(hN:X.N.Nodup)(hi':X.N[i]? = some x)(hx:Loc X.env.scope x)
 (h1:X.env.scope=outer)(h2:X.N=N)(hc:X.calm=true)(hi:PI X tg iter wi)
 (hg:∀ C fp s₀ H₀,PG (X.comp scope N' C fp s₀ H₀) tg g)(hf:∀ C fp s₀ H₀,PIf (X.comp scope N' C fp s₀ H₀) ifs tf)(he:∀ C fp s₀ H₀,PE (X.comp scope N' C fp s₀ H₀) elt te)
 (hsw:swapsWith (.ListComp elt [⟨tg,iter,ifs,0⟩] scope pos) (some (.Name x pos')) spos.line X.env=pure true:=by rfl)
 (hck:iT outer scope N N' nl ix=true:=by decide +kernel)(hs:∀ x,foldedSetIterable iter X.env x=pure x:=by intro _;rfl)(hfn:X.fn x=true\/X.env.scope.names.lookup x=some .local:=by first | exact .inl rfl | exact .inr rfl | assumption) :
 PS X (.Assign [.Name x pos'] (.ListComp elt [⟨tg,iter,ifs,0⟩] scope pos) spos) (sd (qX nl ix wi g tf te) (bg i)) :=
 let ⟨S,Cp⟩:=gJ h1 h2 hck
 zm hN hi' hx hc S Cp hi hg hf he hsw hs hfn
end
section
variable {X:Cx}{K:PySem.W.Frag}{P:Program}{w:World}
end
theorem uW (k:Str):∀ {ss:List Str},k∈ss->∃ j,ss[j]? = some k/\(∀ m,m < j->ss[m]?≠some k)/\ss.erase k=ss.eraseIdx j
 | a::r,h=>by
  by_cases e:a=k
  ·subst e;exact⟨0,rfl,fun m hm=>absurd hm (aiZ _),by simp⟩
  ·have hk:k∈r:=(ae7.mp h).resolve_left fun z=>e z.symm;obtain⟨j,h1,h2,h3⟩:=uW k hk;refine⟨j+1,by simpa using h1,fun m hm=>?_,?_⟩
   ·cases m with
    | zero=>simpa using e
    | succ m=>simpa using h2 m (by lia)
   ·rw [List.erase_cons_tail (by simpa using e),h3]
    rfl
theorem jf {k:Str}:∀ {vs:List Value} {ss:List Str},StrsAre vs ss->∀ j (hj:j < vs.length),isStrOf k vs[j]=true↔ss[j]? = some k
 | _,_,.nil,j,hj=>absurd hj (aiZ _)
 | _,_,.cons x t r,0,hj=>by simp [isStrOf]
 | _,_,.cons x t r,j+1,hj=>by
  have:=jf (k:=k) r j (by simpa using hj);simpa using this
theorem gO {α β:Type}(f:α->β):∀ (l:List α) (j:Nat),(l.eraseIdx j).map f=(l.map f).eraseIdx j
 | [],_=>rfl
 | _::_,0=>rfl
 | a::l,j+1=>by
  show f a::(l.eraseIdx j).map f=f a::(l.map f).eraseIdx j;rw [gO f l j]
section
variable {X:Cx}
def abM:V->List V->Hp->VK->Prop:=fun x vs H Q=>∃ (l:Addr) (ss:List Str) (k:Str),x=.ref l/\vs=[.str k]/\H l=some (.lst (ss.map V.str))/\k∈ss/\Q .non (upd H l (.lst ((ss.erase k).map V.str)))
theorem jm:MtM X "list.remove" abM:=by
 intro pins s σ H x vs v us Q I rx rv h;obtain⟨l,ss,k,rfl,rfl,hH,hk,q⟩:=h;cases rx;obtain⟨u,rfl,t,rfl⟩:=rv.one;obtain⟨z,its,n,r,hl,e⟩:=I.lstM hH;have hi:StrsAre its ss:=dU r;obtain⟨j,h1,h2,h3⟩:=uW k hk;have hjs:j < ss.length:=(aeU.mp h1).1;have hlen:its.length=ss.length:=by rw [← hl,aeP]
 have hj:j < its.length:=by lia
 refine ah2 F.slot_list_remove ⟨_,e,rfl⟩ F.entry_list_remove (F.args_list_remove_2 _ _)
  (MeetsSeq.list_remove l its.toArray n (.str k t) (isStrOf k) (fun y hy=>eq_isStrOf k t hi y (by simpa using hy)) j (by simpa using hj) (by simpa using (jf hi j hj).mpr h1) (fun m hm hlt=>?_) (by rw [ae9];lia)) ⟨e,?_⟩
 ·have hm':m < its.length:=by simpa using hm
  have:=h2 m hlt;rw [← Bool.not_eq_true];intro c;exact this ((jf hi m hm').mp (by simpa using c))
 rw [h3,gO] at q;refine⟨.non,_,I.lset (its':=its.eraseIdx j) hH e ?_ (r.eraseIdx j) ?_,rfl,q⟩
 ·show its.toArray.eraseIdxIfInBounds j=(its.eraseIdx j).toArray;rw [ahd]
 ·have:=lL (ss.map V.str) j;lia
def adZ (K:PySem.W.Frag)(ta:TE):TE:=fun σ H Q=>ta σ H fun x H1=>∃ k,adR K x H1 k/\Q (.bl (!k)) H1
theorem ab7 {a:Expr}{ta:TE}{pos:Pos}(ha:PE X a ta):PE X (.UnaryOp .Not a pos) (adZ X.K ta):=by
 intro pins s σ H Q I h;refine UnaryOp_ (thn (ha pins s σ H _ I h) fun v s1 ⟨x,H1,I1,r1,k,tr,q1⟩=>?_);exact not_of (thn (aa7 pins s1 σ H1 x v (fun b H'=>Q (.bl (!b)) H') I1 r1 ⟨k,tr,q1⟩) fun b s2 ⟨H2,I2,q2⟩=>⟨.bl (!b),H2,I2,rfl,q2⟩)
end
section
variable {prog:Program}{w:World}{A:Around}{E:Value->Shared->Prop}
end
section
variable {X:Cx}
end
section
variable {P:Program}{w:World}{K:PySem.W.Frag}{mg:Str->Option Value}{base:Heap}
end
section
variable {X:Cx}
def aer (K:PySem.W.Frag)(te tk:TE):TE:=fun σ H Q=>te σ H fun x H1=>tk σ H1 fun y H2=>y=.int (-1)/\∃ a xs,x=.ref a/\SqL K H2 a xs/\∀ p,H2 p=none->Q (.ref p) (upd H2 p (.lst xs.reverse))
theorem Vals.rev:∀ {xs:List V} {us:List Value},Vals xs us->Vals xs.reverse us.reverse
 | _,_,.nil=>.nil
 | _,_,.cons a b=>by
  rw [ajw,ajw];exact (Vals.rev b).append (.cons a .nil)
end
section
variable {prog:Program}{w:World}{A:Around}{E:Value->Shared->Prop}{s:Shared}
def pr:Nat->List Value->List (Key×Value)
 | _,[]=>[]
 | k,v::r=>(.inl (k:Int),v)::pr (k+1) r
end
section
variable {prog:Program}{w:World}{A:Around}{R:Result->Shared->Prop}
end
section
variable {prog:Program}{w:World}{A:Around}{E:Value->Shared->Prop}{s:Shared}
end
section
variable {X:Cx}
end
section
variable {prog:Program}{w:World}{A:Around}{E:Value->Shared->Prop}{s:Shared}
end
section
variable {prog:Program}{w:World}{A:Around}{R:Result->Shared->Prop}
end
section
variable {prog:Program}{w:World}{A:Around}{E:Value->Shared->Prop}{s:Shared}
end
def wK (ta:TA):TE:=fun σ H Q=>ta σ H fun xs H1=>∃ n:Nat,xs=[.int (n:Int)]/\n<=1000000/\∀ l,H1 l=none->Q (.ref l) (upd H1 l (.lst ((List.range n).map fun i=>V.int (i:Nat))))
section
variable {X:Cx}
theorem wM:bootBuiltins "list" = some (.type "list"):=by decide +kernel
theorem oR:∀ {its:List Value} {m:Nat},(∀ (j:Nat) v,its[j]? = some v->∃ t,v=.int (((m+j:Nat):Int)) t)->Vals ((List.range' m its.length).map fun i=>V.int (i:Nat)) its
 | [],_,_=>.nil
 | u::us,m,h=>by
  rw [afr,List.range'_succ,afb];refine .cons ?_ (oR (m:=m+1) fun j v e=>?_)
  ·obtain⟨t,rfl⟩:=h 0 u rfl;exact⟨t,rfl⟩
  ·obtain⟨t,rfl⟩:=h (j+1) v (by simpa using e);exact⟨t,by rw [show m+1+j=m+(j+1) by lia]⟩
theorem j7 {a:Expr}{ta:TA}{p p2 pos pos2:Pos}(hg:Gl X "list")(hm:X.mg "list" = none)(hg2:Gl X "range")(hm2:X.mg "range" = none)(hc:X.calm=true)(ha:PA X [a] ta)(hs2:starEach [a] X.env=[(false,eval a X.env)]:=by rfl)
 (hs:starEach [.Call (.Name "range" p2) [a] [] pos2] X.env=[(false,eval (.Call (.Name "range" p2) [a] [] pos2) X.env)]:=by rfl):PE X (.Call (.Name "list" p) [.Call (.Name "range" p2) [a] [] pos2] [] pos) (wK ta):=by
 intro pins s σ H Q I h;refine Call_ (iK I hg hm wM (agE ?_ hs rfl));rw [hs];show wpAny _ _ (spliced [(false,eval _ X.env)]) _ _ s;refine ahA ?_;refine Call_ (iK I hg2 hm2 boot_range (agE (thn (ha pos2 pins s σ H _ I h) fun us s1 ⟨vs,H1,I1,r1,q1⟩=>?_) hs2 rfl));obtain⟨n,e,hn,q⟩:=q1;subst e;obtain⟨u,rfl,t,rfl⟩:=gZ r1;refine call_range_1 ?_;refine aii ?_;have I2:Inv X pins σ H1 { s1 with heap:=s1.heap.push { cls:=.type "range",data:=.fields #[.int 0 s1.toks,.int n t,.int 1 (s1.toks+1)] },toks:=s1.toks+1+1 }:=I1.kept fun b o e=>aeV _ e;refine call_list_range (n:=n) (I1.ok.hd hc) (IsRange.new ..) (small_one (by lia) (by lia) (by lia) (by lia)) (by rw [rangeSize_one];split<;>lia) (by lia) fun h' tk acc c k hg it=>?_;refine⟨.ref _,_,I2.laid (t':=tk) (o:=.lst ((List.range n).map fun i=>V.int (i:Nat))) k (ae1 _) ?_,rfl,q _ (I2.hok.fresh (ae1 _))⟩;obtain⟨i1,i2⟩:=it;refine⟨by rw [aeP,afz];exact aft hn (by decide),acc.toList,c,?_,by simpa using hg⟩;have z:=oR (its:=acc.toList) (m:=0) fun j v e=>by
  obtain⟨t',rfl⟩:=i2 j v (by simpa using e);exact⟨t',by simp⟩
 rw [ae5,i1,← List.range_eq_range'] at z;exact z
theorem uC {K:PySem.W.Frag}{nl:Nat}{ix:List Nat}{te:TE}{σ:St}{H1:Hp}{D a:Addr}{Q:VK}{xs:List V}{F:V->V}(ha:H1 a=some (.lst xs))(nD:H1 D=none)(hl:xs.length<=1000000)
 (hc:∀ x,((cn nl ix σ).set 0 (some x)).drop nl=ix.map fun j=>(σ[j]?).join)
 (ht:∀ (H:Hp) (x:V) (R:VK),x∈xs->Same H1 H->R (F x) H->te ((cn nl ix σ).set 0 (some x)) H R)
 (hd:∀ H,Same H1 H->H D=some (.lst (xs.map F))->Q (.ref D) H):i5 nl ix (bg 0) xj te σ (Itl K a) H1 D Q:=by
 have lim:1000000 < sizeLine:=by decide
 refine bV (xs:=xs) (fun i ys H=>ys=(xs.take i).map F/\H D=some (.lst ys)/\Same H1 H) ⟨rfl,ag,fun b u e=>by rw [ah (af e nD)];exact e⟩ (fun i ys H ⟨_,h,_⟩=>h) (fun i ys H ⟨_,_,s⟩=>aAA (s a _ ha)) ?_ ?_
 ·rintro i ys H x hx ⟨rfl,hD,s⟩;have hi:i < xs.length:=(aeU.mp hx).1;refine cZ (hc x) (ht H x _ (afB hx) s ⟨hD,by rw [aeP,afn];lia,nx hi ⟨?_,ag,fun b u e=>?_⟩⟩)
  ·rw [afk,hx,ae2]
   rfl
  ·rw [ah (af e nD)];exact s b u e
 ·rintro ys H ⟨rfl,hD,s⟩;rw [afs] at hD;exact hd H s hD
theorem qV {nl:Nat}{ix:List Nat}{te:TE}{σ:St}{H1:Hp}{D:Addr}{Q:VK}{lo:Int}{n:Nat}{F:Nat->V}(nD:H1 D=none)(hl:n<=1000000)
 (hc:∀ x,((cn nl ix σ).set 0 (some x)).drop nl=ix.map fun j=>(σ[j]?).join)
 (ht:∀ (H:Hp) (i:Nat) (R:VK),i < n->Same H1 H->R (F i) H->te ((cn nl ix σ).set 0 (some (.int (lo+i)))) H R)
 (hd:∀ H,Same H1 H->H D=some (.lst ((List.range n).map F))->Q (.ref D) H):i5 nl ix (bg 0) xj te σ (Itr lo n) H1 D Q:=by
 have lim:1000000 < sizeLine:=by decide
 refine iB (fun i ys H=>ys=(List.range i).map F/\H D=some (.lst ys)/\Same H1 H) ⟨rfl,ag,fun b u e=>by rw [ah (af e nD)];exact e⟩ (fun i ys H ⟨_,h,_⟩=>h) ?_ ?_
 ·rintro i ys H hi ⟨rfl,hD,s⟩;refine cZ (hc _) (ht H i _ hi s ⟨hD,by rw [aeP,afz];lia,nx hi ⟨?_,ag,fun b u e=>?_⟩⟩)
  ·rw [aib,ae2]
   rfl
  ·rw [ah (af e nD)];exact s b u e
 ·rintro ys H ⟨rfl,hD,s⟩;exact hd H s hD
theorem dm {K:PySem.W.Frag}{nl:Nat}{ix:List Nat}{tf:TT}{te:TE}{σ:St}{H1:Hp}{D a:Addr}{Q:VK}{xs:List V}{pb:V->Bool}(ha:H1 a=some (.lst xs))(nD:H1 D=none)(hl:xs.length<=1000000)
 (hc:∀ x,((cn nl ix σ).set 0 (some x)).drop nl=ix.map fun j=>(σ[j]?).join)
 (ht:∀ (H:Hp) (x:V) (R:Bool->Hp->Prop),x∈xs->Same H1 H->R (pb x) H->tf ((cn nl ix σ).set 0 (some x)) H R)
 (he:∀ (H:Hp) (x:V) (R:VK),R x H->te ((cn nl ix σ).set 0 (some x)) H R)
 (hd:∀ H,Same H1 H->H D=some (.lst (xs.filter pb))->Q (.ref D) H):i5 nl ix (bg 0) tf te σ (Itl K a) H1 D Q:=by
 have lim:1000000 < sizeLine:=by decide
 refine bV (xs:=xs) (fun i ys H=>ys=(xs.take i).filter pb/\H D=some (.lst ys)/\Same H1 H) ⟨rfl,ag,fun b u e=>by rw [ah (af e nD)];exact e⟩ (fun i ys H ⟨_,h,_⟩=>h) (fun i ys H ⟨_,_,s⟩=>aAA (s a _ ha)) ?_ ?_
 ·rintro i ys H x hx ⟨rfl,hD,s⟩;have hi:i < xs.length:=(aeU.mp hx).1;have lf:((xs.take i).filter pb).length<=i:=aft (af8 _ _) (by rw [afn];lia);unfold bN bg;refine⟨⟨by simp,hc x⟩,ht H x _ (afB hx) s ?_⟩;cases e:pb x with
  | true =>
   rw [if_pos rfl];refine he H x _ ⟨hD,by lia,nx hi ⟨?_,ag,fun b u e=>?_⟩⟩
   ·rw [afk,hx,afQ];simp [e]
   ·rw [ah (af e nD)];exact s b u e
  | false =>
   rw [if_neg aeY];refine nx hi ⟨?_,hD,s⟩;rw [afk,hx,afQ];simp [e]
 ·rintro ys H ⟨rfl,hD,s⟩;rw [afs] at hD;exact hd H s hD
theorem fm {pos:Pos}:PE X (.List [] pos) (ad9 kX):=c9 ai
theorem ad2 {k:Nat}{pos:Pos}:PE X (.Tuple [] k pos) (ael kX):=bZ ai
def aa8:Expr->Bool
 | .Starred .. => false
 | _=>true
theorem ud (e:Expr)(es:List Expr)(env:Env)(h:aa8 e=true):starEach (e::es) env=(false,eval e env)::starEach es env:=by
 cases e<;>first | rfl | exact absurd h aeY
theorem dB {e:Expr}{es:List Expr}{te:TE}{t:TA}(ha:PE X e te)(hr:PA X es t)(h:aa8 e=true):PA X (e::es) (eP te t):=ae ha hr (ud e es _ h)
theorem abC {e k:Expr}{te tk:TE}{p2 pos:Pos}(he:PE X e te)(hk:PE X k tk)(hsb:∀ v i:Value,subscripted (.Slice none none (some k) p2) false v i=operate [v,i] (getItem v i):=by intro _ _;with_unfolding_all rfl):PE X (.Subscript e (.Slice none none (some k) p2) pos) (aer X.K te tk):=by
 intro pins s σ H Q I h;refine Subscript_ (thn (he pins s σ H _ I h) fun v s1 ⟨x,H1,I1,r1,q1⟩=>?_);refine wpAny_Slice ?_;rw [evalPart_none];refine aeX ?_;refine aeX ?_;refine thn (hk pins s1 σ H1 _ I1 q1) fun vk s3 ⟨y,H3,I3,r3,q3⟩=>?_;obtain⟨rfl,a,xs,rfl,hx,q⟩:=q3;obtain⟨tk,rfl⟩:=r3;cases r1;have I4:Inv X pins σ H3 { s3 with heap:=s3.heap.push { cls:=.type "slice",data:=.fields #[.none,.none,.int (-1) tk] } }:=I3.kept (t':=s3.toks) fun b ob q=>aeV _ q;obtain⟨its,r,ht,hz⟩:=I4.list hx;have hlen:=r.length;refine tail_any (ops:=[.ref a,.ref s3.heap.objs.size]) ht.isList.typeIs ajp.lookup ?_ (hsb _ _);refine wpAny_getItem_list_slice ht.isList (Heap.IsSliceOf.new ..) .none .none (.int (-1) tk) (by simp) ?_ (by rw [ae9]<;>lia);rw [PySem.W.krv_pick];refine⟨.ref _,_,I4.laid (t':=s3.toks) (o:=.lst xs.reverse) (fun b ob q=>aeV _ q) (ae1 _) ?_,rfl,q _ (I4.hok.fresh (ae1 _))⟩;exact⟨by rw [ai0];exact hz,_,0,by simpa using r.rev,afd _ rfl⟩
def zD:V->List V->Hp->VK->Prop:=fun x vs H Q=>∃ l xs y,x=.ref l/\vs=[.int 0,y]/\H l=some (.lst xs)/\xs.length < sizeLine/\Q .non (upd H l (.lst (y::xs)))
theorem wF:MtM X "list.insert" zD:=by
 intro pins s σ H x vs v us Q I rx rv h;obtain⟨l,xs,y,rfl,rfl,hH,hz,q⟩:=h;cases rx;obtain⟨u,w,rfl,ru,rw'⟩:=rv.two;obtain⟨t,rfl⟩:=ru;obtain⟨z,its,n,r,hl,e⟩:=I.lstM hH;refine ah2 F.slot_list_insert ⟨_,e,rfl⟩ F.entry_list_insert (F.args_list_insert_3 _ _ _)
  (AutoSeq1.list_insert_list_int_val_1 l its.toArray n 0 t w (by decide) (by rw [ae9];lia)) ⟨e,?_⟩
 refine⟨.non,_,I.lset (its':=w::its) hH e ?_ (.cons rw' r) (by rw [afr];lia),rfl,q⟩;simp
end
end L2
namespace K7
open PySem L2 PyProof.Rows
def top (i:Nat):Stmt:=PySem.Challenge.pw_keyrooms_k18_first_orders.main.body.getD i (.Pass ⟨0,0,0,0⟩)
abbrev qF:Stmt:=top 8
abbrev mL:Stmt:=top 9
abbrev yq:Stmt:=top 10
abbrev abz:Stmt:=top 11
abbrev mC:Stmt:=top 12
abbrev adS:Stmt:=top 13
abbrev gv:Stmt:=top 19
abbrev uj:Stmt:=top 41
abbrev z6:Stmt:=top 50
abbrev fZ:Stmt:=top 14
abbrev dN:Stmt:=top 15
abbrev jL:Stmt:=top 16
abbrev fj:Stmt:=top 17
abbrev dI:Stmt:=top 20
abbrev fz:Stmt:=top 21
abbrev cQ:Stmt:=top 22
abbrev ig:Stmt:=top 24
abbrev dQ:Stmt:=top 25
abbrev iC:Stmt:=top 26
abbrev eE:Stmt:=top 27
abbrev eB:Stmt:=top 29
abbrev fe:Stmt:=top 30
abbrev eM:Stmt:=top 32
abbrev hG:Stmt:=top 33
abbrev gP:Stmt:=top 34
abbrev ie:Stmt:=top 35
abbrev cW:Stmt:=top 36
abbrev cS:Stmt:=top 37
abbrev gM:Stmt:=top 38
abbrev cc:Stmt:=top 39
abbrev dO:Stmt:=top 40
abbrev fh:Stmt:=top 42
abbrev eQ:Stmt:=top 43
abbrev gn:Stmt:=top 44
abbrev eX:Stmt:=top 45
abbrev dy:Stmt:=top 46
abbrev i9:Stmt:=top 47
abbrev cf:Stmt:=top 48
abbrev bC:Stmt:=top 49
abbrev aa4:Stmt:=top 50
structure Cal (K:PySem.W.Frag)(mg:Str->Option Value)(x:Str)(ps:List Str)(f:Addr)(fd:FuncData):Prop where
 mg:mg x=some (.ref f)
 kp:keepIn K (.ref f)=true
 b:Binds K fd ps []
theorem pcl {X:Cx}{k:Nat}{f:Addr}{fd:FuncData}{ps:List Str}{sp:Sp}{x:Str}{e:Expr}{es:List Expr}{t:TA}{p pos:Pos}(F:bF X.prog X.w X.K X.mg X.base CX0 k f fd ps sp)(c:Cal X.K X.mg x ps f fd)(hr:Room k X.A)(hg:Gl X x)(ha:PA X (e::es) t)(hdb:(x == ("__debug__" : Str))=false:=by decide)(he:starEach (e::es) X.env=(false,eval e X.env)::starEach es X.env:=by rfl)(hpl:(backTo pos (starEach es X.env)).any (·.1)=false:=by rfl):PE X (.Call (.Name x p) (e::es) [] pos) (xq sp [] E0 t):=gc F hr hg c.mg c.kp c.b .nil qf ha hdb he hpl
def But (p:Addr)(H H':Hp):Prop:=∀ b u,b≠p->H b=some u->H' b=some u
theorem But.refl (p:Addr)(H:Hp):But p H H:=fun _ _ _ e=>e
theorem But.trans {p:Addr}{H H1 H2:Hp}(a:But p H H1)(b:But p H1 H2):But p H H2:=fun c u n e=>b c u n (a c u n e)
theorem But.upd {p:Addr}{H:Hp}{o:HO}:But p H (upd H p o):=fun b u n e=>by rw [ah n];exact e
theorem But.free {p q:Addr}{H H':Hp}(a:But p H H')(n:q≠p)(e:H' q=none):H q=none:=by
 cases h:H q with
 | none=>rfl
 | some u=>rw [a q u n h] at e;cases e
def gF (e:Expr):Scope:=match e with
 | .ListComp _ _ s _=>s
 | .DictComp _ _ _ s _=>s
 | _=>{ kind:=.function,names:=[],isGenerator:=false,isCoroutine:=false }
def mE (s:Stmt):Expr:=match s with
 | .Return (some e) _=>e
 | _=>.Name "" ⟨0,0,0,0⟩
def bD (z:Str):Prop:=1<=z.length/\z.length<=4/\∀ c∈z.cps.toList,97<=c/\c<=122
def aaQ:Sp:=fun vs H Q _=>∃ z:Str,vs=[.str z]/\bD z/\∀ H',Same H H'->Q (.bl true) H'
abbrev lettersS:Str := "abcdefghijklmnopqrstuvwxyz"
theorem wy (c:Nat)(h1:97<=c)(h2:c<=122):(!(Builtin.Str.occurrences lettersS ⟨#[c]⟩ 0 lettersS.length 1).isEmpty)=true:=by
 have all:∀ k:_root_.Fin 26,(!(Builtin.Str.occurrences lettersS ⟨#[97+k.val]⟩ 0 lettersS.length 1).isEmpty)=true:=by decide +kernel
 have e:=all ⟨c - 97,by lia⟩;have e2:97+(c - 97)=c:=by lia
 simp only [e2] at e;exact e
section
variable {P:Program}{w:World}{K:PySem.W.Frag}{mg:Str->Option Value}{base:Heap}
structure Glb (mg:Str->Option Value):Prop where
 isi:mg "isinstance" = none
 str:mg "str" = none
 len:mg "len" = none
 all:mg "all" = none
 letters:∃ t,mg "LETTERS" = some (.str lettersS t)
 most:∃ t,mg "MOST_LETTERS" = some (.int 4 t)
theorem acU:aJ ["thing"] ["thing"] (ar qF):=scM rfl rfl rfl rfl (by decide +kernel)
def p5 (e:Expr):Expr:=match e with
 | .Call _ (a::_) _ _=>a
 | e=>e
abbrev aap:Expr:=p5 (mE ((cq qF).getD 1 (.Pass ⟨0,0,0,0⟩)))
theorem ac9:iT (ar qF) (gF aap) ["thing"] ["sign"] 1 []=true:=by decide +kernel
theorem nd2:(["sign"]:List Str).Nodup:=by decide +kernel
theorem abU {f:Addr}{fd:FuncData}(F:Fun K "is_kind" "is_kind" qF f fd)(G:Glb mg):bF P w K mg base CX0 1 f fd ["thing"] aaQ:=by
 obtain⟨tl,hL⟩:=G.letters;obtain⟨tm,hM⟩:=G.most;refine F.ok acU (fun vs H Q E h=>?_) (fun cdv A outer s H vs Q E hr h=>?_)
 ·obtain⟨z,rfl,_⟩:=h
  rfl
 ·obtain⟨z,rfl,⟨z1,z2,z3⟩,k⟩:=h;obtain⟨S,Cp⟩:=gJ (X:=(uM CX0 P w K mg base ["thing"] "is_kind" (ar qF) f cdv A outer s H E).nox) (outer:=ar qF) (N:=["thing"]) rfl rfl ac9;refine⟨_,aj (cu (PW.pt (wx (gL (fJ (ax cE rfl G.isi (by decide +kernel) (ae (pv 0) (ae (jd (v:=.ty "str") (u:=.type "str") rfl G.str (by decide +kernel) rfl) ai)))))
   (sS (gL (zr aaq aaq ak (ax kj rfl G.len afi (ae (pv 0) ai)) (uk (v:=.int 4) rfl hM ⟨tm,rfl⟩))))))
   (au (aQ jU)) bf)
   (au (aQ (ax (jF rfl) rfl G.all (by decide +kernel) (ae (jo (tg:=.Name "sign" _) rfl S Cp (acR (pv 0))
    (fun _ _ _ _=>az (i:=0) nd2 rfl (.inl rfl) (.inr rfl)) (fun _ _ _ _=>bX)
    (fun _ _ _ _=>b7 xF (pv 0) (uk (v:=.str lettersS) rfl hL ⟨tl,rfl⟩) (by with_unfolding_all rfl))) ai)))),?_⟩
  have zs:z.length<=sizeLine:=afo (aC (by lia));refine⟨_,rfl,_,_,_,true,rfl,.str z,ik K _,true,rfl,?_⟩;refine gz ?_;refine⟨_,rfl,z,rfl,zs,1,_,rfl,rfl,true,afJ V.bl (afv (by lia)),?_⟩;refine fT ?_;refine⟨_,4,rfl,rfl,true,afJ V.bl (afv (by lia)),?_⟩;refine gz ?_;dsimp only [oj,zi,tCB,eP,kX];refine aW _ _ _ _ _ _ _ _ _ ?_;refine⟨_,rfl,z,rfl,?_⟩;intro D hD;refine zS (fun i ys H2=>ys=(List.replicate i true).map V.bl/\H2 D=some (.lst ys)/\Same H H2) ⟨rfl,ag,fun b u e=>by rw [ah (af e hD)];exact e⟩ (fun i ys H2 ⟨_,h,_⟩=>h) ?_ ?_
  ·rintro i ys H2 c hc ⟨rfl,hD2,sm⟩;have hi:i < z.cps.size:=(aja.mp hc).1;have hz:z.length=z.cps.size:=rfl;have hm:c∈z.cps.toList:=by
    have:=Array.mem_of_getElem? hc;simpa using this
   refine cZ rfl ?_;refine⟨_,rfl,_,_,rfl,rfl,hD2,by rw [aeP,agf];exact aC (by lia),nx hi ⟨?_,ag,fun b u e=>?_⟩⟩
   ·rw [wy c (z3 c hm).1 (z3 c hm).2,aiE,ae2]
    rfl
   ·rw [ah (af e hD)];exact sm b u e
  ·rintro ys H2 ⟨rfl,hD2,sm⟩;refine⟨D,List.replicate z.cps.size true,rfl,aAA hD2,?_⟩;have e:(List.replicate z.cps.size true).all id=true:=by simp
   rw [e];exact k H2 sm
def qi:Sp:=fun vs H Q _=>∃ (a:Addr) (ks:List Str),vs=[.ref a]/\H a=some (.lst (ks.map V.str))/\(∀ k∈ks,bD k)/\ks.length<=1000/\∀ H',Same H H'->Q (.bl true) H'
def uT (e:Expr):Expr:=match e with
 | .BoolOp _ es _=>es.getLastD e
 | e=>e
theorem ack:aJ ["thing"] ["thing"] (ar mL):=scM rfl rfl rfl rfl (by decide +kernel)
abbrev xW:Expr:=p5 (uT (mE ((cq mL).getD 0 (.Pass ⟨0,0,0,0⟩))))
theorem ach:iT (ar mL) (gF xW) ["thing"] ["kind"] 1 []=true:=by decide +kernel
theorem nd3:(["kind"]:List Str).Nodup:=by decide +kernel
theorem zw {f fK:Addr}{fd fdK:FuncData}(F:Fun K "are_kinds" "are_kinds" mL f fd)(FK:Fun K "is_kind" "is_kind" qF fK fdK)(cK:Cal K mg "is_kind" ["thing"] fK fdK)(G:Glb mg)(mLi:mg "list" = none):bF P w K mg base CX0 2 f fd ["thing"] qi:=by
 have GK:bF P w K mg base CX0 1 fK fdK ["thing"] aaQ:=abU FK G;refine F.ok ack (fun vs H Q E h=>?_) (fun cdv A outer s H vs Q E hr h=>?_)
 ·obtain⟨a,ks,rfl,_⟩:=h
  rfl
 ·obtain⟨a,ks,rfl,ha,hk,hl,k⟩:=h;obtain⟨S,Cp⟩:=gJ (X:=(uM CX0 P w K mg base ["thing"] "are_kinds" (ar mL) f cdv A outer s H E).nox) (outer:=ar mL) (N:=["thing"]) rfl rfl ach;refine⟨_,au (aQ (iJ (ax cE rfl G.isi (by decide +kernel) (ae (pv 0) (ae (jd (v:=.ty "list") (u:=.type "list") rfl mLi (by decide +kernel) rfl) ai)))
   (nQ (ax (jF rfl) rfl G.all (by decide +kernel) (ae (jo (tg:=.Name "kind" _) rfl S Cp (aX (pv 0))
    (fun _ _ _ _=>az (i:=0) nd3 rfl (.inl rfl) (.inr rfl)) (fun _ _ _ _=>bX)
    (fun _ _ _ _=>gc GK hr rfl cK.mg cK.kp cK.b .nil qf (ae (pv 0) ai))) ai))))),?_⟩
  refine⟨_,rfl,_,_,_,true,rfl,.lst ha,ik K _,true,rfl,?_⟩;refine fT ?_;dsimp only [oj,zi,tCB,eP,kX];refine aW _ _ _ _ _ _ _ _ _ ?_;refine⟨_,rfl,a,rfl,⟨_,aAA ha⟩,?_⟩;intro D hD;refine bV (xs:=ks.map V.str) (fun i ys H2=>ys=(List.replicate i true).map V.bl/\i<=1000/\H2 D=some (.lst ys)/\Same H H2) ⟨rfl,by decide,ag,fun b u e=>by rw [ah (af e hD)];exact e⟩ (fun i ys H2 ⟨_,_,h,_⟩=>h) (fun i ys H2 ⟨_,_,_,sm⟩=>aAA (sm a _ ha)) ?_ ?_
  ·rintro i ys H2 x hx ⟨rfl,hi0,hD2,sm⟩;have hi:i < (ks.map V.str).length:=(aeU.mp hx).1;have hi':=hi;rw [aeP] at hi';rw [aeZ,aeO hi'] at hx;cases hx;refine cZ rfl ?_;refine⟨_,rfl,ks[i],rfl,hk _ (afh hi'),fun H3 sm3=>?_⟩;refine⟨sm3 D _ hD2,by rw [aeP,agf];exact aC (by lia),nx hi ⟨?_,by lia,ag,fun b u e=>?_⟩⟩
   ·rw [aiE,ae2]
    rfl
   ·rw [ah (af e hD)];exact sm3 b u (sm b u e)
  ·rintro ys H2 ⟨rfl,_,hD2,sm⟩;refine⟨D,List.replicate (ks.map V.str).length true,rfl,aAA hD2,?_⟩;have e:(List.replicate (ks.map V.str).length true).all id=true:=by simp
   rw [e];exact k H2 sm
def yg:Sp:=fun vs H Q _=>∃ (a:Addr) (ks:List Str),vs=[.ref a]/\H a=some (.lst (ks.map V.str))/\(∀ k∈ks,bD k)/\1<=ks.length/\ks.length<=4/\ks.Pairwise leS/\∀ H',Same H H'->Q (.bl true) H'
theorem cP {ks:List Str}(h:∀ k∈ks,bD k):PyData.canLayAll0 (ks.map PyData.str)=true:=by
 induction ks with
 | nil=>rfl
 | cons z r ih =>
  have hz:=h z ae0;have hs:PyData.strOk z=true:=by
   unfold PyData.strOk;rw [← Array.all_toList,agR];intro c hc;exact afv (by have:=hz.2.2 c hc;lia)
  rw [afb];simp only [PyData.canLayAll0,PyData.canLay0,hs,aiN];exact ih fun k hk=>h k (ae6 _ hk)
theorem kS:∀ ks:List Str,PyData.eqvAll (ks.map PyData.str) (ks.map PyData.str)=true
 | []=>rfl
 | z::r=>by
  rw [afb];simp only [PyData.eqvAll,PyData.eqv,ahX,aiN];exact kS r
theorem iD:∀ ks:List Str,PyData.depthAll (ks.map PyData.str)=0
 | []=>rfl
 | z::r=>by
  rw [afb];simp only [PyData.depthAll,PyData.depth,iD r]
  rfl
theorem abk:aJ ["thing"] ["thing"] (ar yq):=scM rfl rfl rfl rfl (by decide +kernel)
theorem aab {f fK:Addr}{fd fdK:FuncData}(F:Fun K "are_locks" "are_locks" yq f fd)(GK:bF P w K mg base CX0 2 fK fdK ["thing"] qi)(cK:Cal K mg "are_kinds" ["thing"] fK fdK)(mLe:mg "len" = none)(mSo:mg "sorted" = none)(hM:∃ t,mg "MOST_LOCKS" = some (.int 4 t)) :
 bF P w K mg base CX0 3 f fd ["thing"] yg:=by
 obtain⟨tm,hM⟩:=hM;refine F.ok abk (fun vs H Q E h=>?_) (fun cdv A outer s H vs Q E hr h=>?_)
 ·obtain⟨a,ks,rfl,_⟩:=h
  rfl
 ·obtain⟨a,ks,rfl,ha,hk,h1,h4,hs,k⟩:=h;have hu:=i6 hr;refine⟨_,au (aQ (iJ (gc GK hr rfl cK.mg cK.kp cK.b .nil qf (ae (pv 0) ai))
   (iJ (z9 aaq aaq ak (ax aA rfl mLe afi (ae (pv 0) ai)) (uk (v:=.int 4) rfl hM ⟨tm,rfl⟩))
   (nQ (b7 rq (pv 0) (ax tE rfl mSo aha (ae (pv 0) ai)) (aM _)))))),?_⟩
  refine⟨_,rfl,a,ks,rfl,ha,hk,by lia,fun H1 s1=>⟨true,rfl,?_⟩⟩;refine fT ?_;have ha1:=s1 a _ ha;refine⟨_,rfl,a,_,rfl,.inl (aAA ha1),1,_,rfl,rfl,true,afJ V.bl (afv (by rw [aeP];lia)),?_⟩;refine fT ?_;refine⟨_,4,rfl,rfl,true,afJ V.bl (afv (by rw [aeP];lia)),?_⟩;refine fT ?_;refine⟨_,rfl,_,rfl,a,ks,rfl,aAA ha1,by lia,fun l ss hl hp hs'=>?_⟩;have e:ss=ks:=oW (dJ hs') hs hp;subst e;have ne:a≠l:=af ha1 hl;refine⟨.list (ss.map PyData.str),.list (ss.map PyData.str),.lst (by rw [ah ne];exact ha1) (SeesAll.strs ss),.lst ag (SeesAll.strs ss),cP hk,cP hk,?_,?_⟩
  ·show _+min (PyData.depthAll (ss.map PyData.str)+1) (PyData.depthAll (ss.map PyData.str)+1) < cLine;rw [iD];exact hu
  ·have ee:PyData.eqv (.list (ss.map PyData.str)) (.list (ss.map PyData.str))=true:=kS ss;rw [ee];exact k _ fun b u e=>by rw [ah (af (s1 b u e) hl)];exact s1 b u e
abbrev Rm:=List Str×List Str
structure xf (r:Rm):Prop where
 lk:∀ k∈r.1,bD k
 l1:1<=r.1.length
 l4:r.1.length<=4
 so:r.1.Pairwise leS
 kk:∀ k∈r.2,bD k
 kl:r.2.length<=1000
def RoomAt (H:Hp)(v:V)(r:Rm):Prop:=∃ t a b:Addr,v=.ref t/\H t=some (.tup [.ref a,.ref b])/\H a=some (.lst (r.1.map V.str))/\H b=some (.lst (r.2.map V.str))
theorem RoomAt.same {H H':Hp}{v:V}{r:Rm}(s:Same H H')(h:RoomAt H v r):RoomAt H' v r:=by
 obtain⟨t,a,b,e,h1,h2,h3⟩:=h;exact⟨t,a,b,e,s _ _ h1,s _ _ h2,s _ _ h3⟩
def aaV:Sp:=fun vs H Q _=>∃ (v:V) (r:Rm),vs=[v]/\RoomAt H v r/\xf r/\∀ H',Same H H'->Q (.bl true) H'
theorem adi:aJ ["thing"] ["thing"] (ar abz):=scM rfl rfl rfl rfl (by decide +kernel)
theorem abi {f fL fK:Addr}{fd fdL fdK:FuncData}(F:Fun K "is_room" "is_room" abz f fd)(GL:bF P w K mg base CX0 3 fL fdL ["thing"] yg)(cL:Cal K mg "are_locks" ["thing"] fL fdL)
 (GK:bF P w K mg base CX0 2 fK fdK ["thing"] qi)(cK:Cal K mg "are_kinds" ["thing"] fK fdK)(mI:mg "isinstance" = none)(mLe:mg "len" = none)(mTu:mg "tuple" = none):bF P w K mg base CX0 4 f fd ["thing"] aaV:=by
 refine F.ok adi (fun vs H Q E h=>?_) (fun cdv A outer s H vs Q E hr h=>?_)
 ·obtain⟨v,r,rfl,_⟩:=h
  rfl
 ·obtain⟨v,r,rfl,⟨t,a,b,rfl,ht,ha,hb⟩,ok,k⟩:=h;refine⟨_,au (aQ (iJ (ax cE rfl mI (by decide +kernel) (ae (pv 0) (ae (jd (v:=.ty "tuple") (u:=.type "tuple") rfl mTu (by decide +kernel) rfl) ai)))
   (iJ (b7 gy (ax aA rfl mLe afi (ae (pv 0) ai)) ak (aM _))
   (iJ (gc GL hr rfl cL.mg cL.kp cL.b .nil qf (ae (aF aO (pv 0) ak (fun _ _=>rfl)) ai))
   (nQ (gc GK (hr.mono (by decide)) rfl cK.mg cK.kp cK.b .nil qf (ae (aF aO (pv 0) ak (fun _ _=>rfl)) ai))))))),?_⟩
  refine⟨_,rfl,_,_,_,true,rfl,.tup ht,ik K _,true,rfl,?_⟩;refine fT ?_;refine⟨_,rfl,t,_,rfl,.inr (aAB ht),rfl,true,rfl,?_⟩;refine fT ?_;refine⟨_,rfl,t,_,0,.ref a,rfl,rfl,aAB ht,rfl,a,r.1,rfl,ha,ok.lk,ok.l1,ok.l4,ok.so,fun H1 s1=>⟨true,rfl,?_⟩⟩;refine fT ?_;refine⟨_,rfl,t,_,1,.ref b,rfl,rfl,aAB (s1 _ _ ht),rfl,b,r.2,rfl,s1 _ _ hb,ok.kk,ok.kl,fun H2 s2=>?_⟩;exact k H2 (s1.trans s2)
abbrev Hs:=List Str×List Rm
def RoomsAt (H:Hp)(vs:List V)(rs:List Rm):Prop:=vs.length=rs.length/\∀ (i:Nat) (v:V) (r:Rm),vs[i]? = some v->rs[i]? = some r->RoomAt H v r
theorem RoomsAt.same {H H':Hp}{vs:List V}{rs:List Rm}(s:Same H H')(h:RoomsAt H vs rs):RoomsAt H' vs rs:=⟨h.1,fun i v r a b=>(h.2 i v r a b).same s⟩
def HouseAt (H:Hp)(v:V)(h:Hs):Prop:=∃ (t a r:Addr) (vs:List V),v=.ref t/\H t=some (.tup [.ref a,.ref r])/\H a=some (.lst (h.1.map V.str))/\H r=some (.lst vs)/\RoomsAt H vs h.2
theorem HouseAt.same {H H':Hp}{v:V}{h:Hs}(s:Same H H')(x:HouseAt H v h):HouseAt H' v h:=by
 obtain⟨t,a,r,vs,e,h1,h2,h3,h4⟩:=x;exact⟨t,a,r,vs,e,s _ _ h1,s _ _ h2,s _ _ h3,h4.same s⟩
structure gu (h:Hs):Prop where
 kk:∀ k∈h.1,bD k
 kl:h.1.length<=1000
 rs:∀ r∈h.2,xf r
 rl:h.2.length<=1000
def xQ:Sp:=fun vs H Q _=>∃ (v:V) (h:Hs),vs=[v]/\HouseAt H v h/\gu h/\∀ H',Same H H'->Q (.bl true) H'
def aad:Sp:=fun vs H Q _=>∃ (v:V) (h:Hs),vs=[v]/\HouseAt H v h/\gu h/\∀ H',Same H H'->Q .non H'
theorem scHouse:aJ ["thing","keys","rooms"] ["thing"] (ar mC):=scM rfl rfl rfl rfl (by decide +kernel)
abbrev xA:Expr:=p5 (uT (mE ((cq mC).getD 2 (.Pass ⟨0,0,0,0⟩))))
theorem acm:iT (ar mC) (gF xA) ["thing","keys","rooms"] ["room"] 1 []=true:=by decide +kernel
theorem nd4:(["room"]:List Str).Nodup:=by decide +kernel
theorem aaB {f fR fK:Addr}{fd fdR fdK:FuncData}(F:Fun K "is_house" "is_house" mC f fd)(GR:bF P w K mg base CX0 4 fR fdR ["thing"] aaV)(cR:Cal K mg "is_room" ["thing"] fR fdR)
 (GK:bF P w K mg base CX0 2 fK fdK ["thing"] qi)(cK:Cal K mg "are_kinds" ["thing"] fK fdK)(mI:mg "isinstance" = none)(mLe:mg "len" = none)(mTu:mg "tuple" = none)(mLi:mg "list" = none)(mAl:mg "all" = none):bF P w K mg base CX0 5 f fd ["thing"] xQ:=by
 refine F.ok scHouse (fun vs H Q E h=>?_) (fun cdv A outer s H vs Q E hr h=>?_)
 ·obtain⟨v,r,rfl,_⟩:=h
  rfl
 ·obtain⟨v,hs,rfl,⟨t,a,r,vs,rfl,ht,ha,hr',hR⟩,ok,k⟩:=h;obtain⟨S,Cp⟩:=gJ (X:=(uM CX0 P w K mg base ["thing","keys","rooms"] "is_house" (ar mC) f cdv A outer s H E).nox) (outer:=ar mC) (N:=["thing","keys","rooms"]) rfl rfl acm;refine⟨_,aj (cu (PW.pt (wx (gL (fJ (ax cE rfl mI (by decide +kernel) (ae (pv 0) (ae (jd (v:=.ty "tuple") (u:=.type "tuple") rfl mTu (by decide +kernel) rfl) ai)))))
   (sS (aH xy (ax aA rfl mLe afi (ae (pv 0) ai)) ak (aM _)))))
   (au (aQ jU)) bf)
   (aj (jD (pv 0) (eV rfl (aG (az (i:=1) scHouse.nd rfl (.inl rfl)) (aG (az (i:=2) scHouse.nd rfl (.inl rfl)) bS))))
   (au (aQ (iJ (gc GK (hr.mono (by decide)) rfl cK.mg cK.kp cK.b .nil qf (ae (pv 1) ai))
    (iJ (ax cE rfl mI (by decide +kernel) (ae (pv 2) (ae (jd (v:=.ty "list") (u:=.type "list") rfl mLi (by decide +kernel) rfl) ai)))
    (nQ (ax (jF rfl) rfl mAl (by decide +kernel) (ae (jo (tg:=.Name "room" _) rfl S Cp (aX (pv 2))
     (fun _ _ _ _=>az (i:=0) nd4 rfl (.inl rfl) (.inr rfl)) (fun _ _ _ _=>bX)
     (fun _ _ _ _=>gc GR hr rfl cR.mg cR.kp cR.b .nil qf (ae (pv 0) ai))) ai)))))))),?_⟩
  refine⟨_,rfl,_,_,_,true,rfl,.tup ht,ik K _,true,rfl,?_⟩;refine gz ?_;refine⟨_,rfl,t,_,rfl,.inr (aAB ht),rfl,false,rfl,?_⟩;refine gz ?_;refine⟨_,rfl,t,_,rfl,aAB ht,rfl,_,_,rfl,_,_,rfl,rfl,?_⟩;refine⟨_,rfl,a,hs.1,rfl,ha,ok.kk,ok.kl,fun H1 s1=>⟨true,rfl,?_⟩⟩;refine fT ?_;refine⟨_,rfl,_,_,_,true,rfl,.lst (s1 _ _ hr'),ik K _,true,rfl,?_⟩;refine fT ?_;dsimp only [oj,zi,tCB,eP,kX];refine aW _ _ _ _ _ _ _ _ _ ?_;refine⟨_,rfl,r,rfl,⟨_,aAA (s1 _ _ hr')⟩,?_⟩;intro D hD;have hl:vs.length<=1000:=by rw [hR.1];exact ok.rl
  refine bV (xs:=vs) (fun i ys H2=>ys=(List.replicate i true).map V.bl/\i<=1000/\H2 D=some (.lst ys)/\Same H1 H2) ⟨rfl,by decide,ag,fun b u e=>by rw [ah (af e hD)];exact e⟩ (fun i ys H2 ⟨_,_,h,_⟩=>h) (fun i ys H2 ⟨_,_,_,sm⟩=>aAA (sm r _ (s1 _ _ hr'))) ?_ ?_
  ·rintro i ys H2 x hx ⟨rfl,hi0,hD2,sm⟩;have hi:i < vs.length:=(aeU.mp hx).1;have hi':i < hs.2.length:=by rw [← hR.1];exact hi
   refine cZ rfl ?_;refine⟨_,rfl,x,hs.2[i],rfl,((hR.2 i x _ hx (aeO hi')).same s1).same sm,ok.rs _ (afh hi'),fun H3 sm3=>?_⟩;refine⟨sm3 D _ hD2,by rw [aeP,agf];exact aC (by lia),nx hi ⟨?_,by lia,ag,fun b u e=>?_⟩⟩
   ·rw [aiE,ae2]
    rfl
   ·rw [ah (af e hD)];exact sm3 b u (sm b u e)
  ·rintro ys H2 ⟨rfl,_,hD2,sm⟩;refine⟨D,List.replicate vs.length true,rfl,aAA hD2,?_⟩;have e:(List.replicate vs.length true).all id=true:=by simp
   rw [e];exact k H2 (s1.trans sm)
theorem adI:aJ ["thing"] ["thing"] (ar adS):=scM rfl rfl rfl rfl (by decide +kernel)
theorem ac7 {f fH:Addr}{fd fdH:FuncData}(F:Fun K "require_house" "require_house" adS f fd)(GH:bF P w K mg base CX0 5 fH fdH ["thing"] xQ)(cH:Cal K mg "is_house" ["thing"] fH fdH):bF P w K mg base CX0 6 f fd ["thing"] aad:=by
 refine F.ok adI (fun vs H Q E h=>?_) (fun cdv A outer s H vs Q E hr h=>?_)
 ·obtain⟨v,r,rfl,_⟩:=h
  rfl
 ·obtain⟨v,hs,rfl,hh,ok,k⟩:=h;refine⟨_,au (cu (gL (fJ (gc GH hr rfl cH.mg cH.kp cH.b .nil qf (ae (pv 0) ai)))) qD bf),?_⟩;refine⟨_,rfl,v,hs,rfl,hh,ok,fun H1 s1=>⟨true,rfl,?_⟩⟩;refine gz ?_;exact k H1 s1
structure adh (ns:List Int):Prop where
 ne:ns≠[]
 few:ns.length<=1000
 all:∀ n∈ns,0<=n/\n < 2147483648
def DeckAt (H:Hp)(p:Addr):Prop:=∃ ns:List Int,H p=some (.lst (ns.map V.int))/\adh ns
def aaS (K:PySem.W.Frag):Sp:=fun vs H Q _=>∃ (a:Addr) (k:Nat) (ns:List Int),vs=[.ref a,.int k]/\SqL K H a (ns.map V.int)/\∀ c:Int,Q (.int c) H
def w8:Sp:=fun vs H Q _=>∃ (cell k:Int),vs=[.int cell,.int k]/\0<=k/\k<=10000/\∀ r:Int,0<=r->r < 268435456->Q (.int r) H
def abb:Sp:=fun vs H Q _=>∃ (cell:Int) (n:Nat),vs=[.int cell,.int n]/\0 < n/\n<=1000/\∀ (l:Addr) (H':Hp),H l=none->Same H H'->DeckAt H' l->Q (.ref l) H'
def iO:Sp:=fun vs H Q _=>∃ p:Addr,vs=[.ref p]/\DeckAt H p/\∀ (r:Int) (H':Hp),0<=r->r < 2147483648->DeckAt H' p->But p H H'->(∀ b,b≠p->H b=none->H' b=none)->Q (.int r) H'
inductive DkI (cell:Int)(n:Nat)(H:Hp)(i:Nat)(σ':L2.St)(H':Hp):Prop
 | mk (l:Addr) (ns:List Int) (dg:Int) (x4 x5:Option V):σ'=[some (.int cell),some (.int n),some (.ref l),some (.int dg),x4,x5]->H l=none->H' l=some (.lst (ns.map V.int))->ns.length=i->(∀ n∈ns,0<=n/\n < 2147483648)->Same H H'->DkI cell n H i σ' H'
theorem nI:aJ ["script","k"] ["script","k"] (ar eM):=scM rfl rfl rfl rfl (by decide +kernel)
theorem gT:aJ ["cell","k","one"] ["cell","k"] (ar hG):=scM rfl rfl rfl rfl (by decide +kernel)
theorem b6:aJ ["cell","many","found","digits","k","number"] ["cell","many"] (ar gP):=scM rfl rfl rfl rfl (by decide +kernel)
theorem qr:aJ ["deck"] ["deck"] (ar ie):=scM rfl rfl rfl rfl (by decide +kernel)
theorem abP {f:Addr}{fd:FuncData}(F:Fun K "_law_cell_at" "_law_cell_at" eM f fd)(aU:mg "len" = none):bF P w K mg base CX0 1 f fd ["script","k"] (aaS K):=by
 refine F.ok nI (fun vs H Q E h=>?_) (fun cdv A outer s H vs Q E hr h=>?_)
 ·obtain⟨a,k,ns,rfl,_⟩:=h
  rfl
 ·obtain⟨a,k,ns,rfl,hS,q⟩:=h;refine⟨_,(aj (cu (aH abx (pv 1) (ax aA rfl aU afi (ae (pv 0) ai)) (aM _))
   (au (aQ (aF aT (pv 0) (pv 1) (fun _ _=>rfl)))) bf)
   (au (aQ ak))),?_⟩
  refine⟨_,rfl,_,rfl,a,_,rfl,.inl hS,_,_,rfl,rfl,_,rfl,?_⟩;refine uI (fun hlt=>?_) (fun _=>q 0);have hlt':k < ns.length:=by
   have z:=agW hlt;rw [aeP] at z;lia
  exact⟨_,rfl,_,rfl,a,_,_,.int ns[k],rfl,rfl,hS,bw (by rw [aeZ,aeO hlt'];rfl),q _⟩
theorem abY {f:Addr}{fd:FuncData}(F:Fun K "_law_stir" "_law_stir" hG f fd):bF P w K mg base CX0 1 f fd ["cell","k"] w8:=by
 refine F.ok gT (fun vs H Q E h=>?_) (fun cdv A outer s H vs Q E hr h=>?_)
 ·obtain⟨cell,k,rfl,_⟩:=h
  rfl
 ·obtain⟨cell,k,rfl,k0,k1,q⟩:=h;refine⟨_,(aj (aD (i:=2) gT.nd rfl (.inl rfl) (aI a9 (aI oO (aI cV (aI cV (aI a9 (pv 0) ak) (aI oO ak (pv 1))) ak) ak) ak))
   (aj (aD (i:=2) gT.nd rfl (.inl rfl) (aI a9 (aI oO (pv 2) (pv 2)) ak))
   (au (aQ (aI mS (aI a9 (aI oO (aI cV (pv 2) (aI oO ak (pv 1))) ak) ak) ak))))),?_⟩
  have a0:0<=cell % 2147483629:=afy _ (by decide);have a1:cell % 2147483629 < 2147483629:=afp _ (by decide);refine⟨_,rfl,_,2147483629,rfl,rfl,(by show (0:Int) < 2147483629;decide),_,rfl,9973,_,rfl,rfl,.inl ⟨by decide,by decide⟩,_,_,rfl,rfl,_,_,rfl,rfl,_,_,rfl,rfl,.inl ⟨by lia,by lia⟩,_,2147483647,rfl,rfl,(by show (0:Int) < 2147483647;decide),?_⟩;generalize hb:(cell % 2147483629+9973 * k+5) * 48271 % 2147483647=b;have b0:0<=b:=by rw [← hb];exact afy _ (by decide)
  have b1:b < 2147483647:=by rw [← hb];exact afp _ (by decide)
  refine⟨_,rfl,_,rfl,_,_,rfl,rfl,.inl ⟨by lia,by lia⟩,_,2147483587,rfl,rfl,(by show (0:Int) < 2147483587;decide),?_⟩;generalize hc:b * b % 2147483587=c;have c0:0<=c:=by rw [← hc];exact afy _ (by decide)
  have c1:c < 2147483587:=by rw [← hc];exact afp _ (by decide)
  refine⟨_,rfl,_,rfl,7919,_,rfl,rfl,.inl ⟨by decide,by decide⟩,_,_,rfl,rfl,_,_,rfl,rfl,.inl ⟨by lia,by lia⟩,_,2147483563,rfl,rfl,(by show (0:Int) < 2147483563;decide),_,8,rfl,rfl,⟨by decide,by decide⟩,?_⟩;generalize hd:(c+7919 * k) * 16807 % 2147483563=d;have d0:0<=d:=by rw [← hd];exact afy _ (by decide)
  have d1:d < 2147483563:=by rw [← hd];exact afp _ (by decide)
  exact q _ (by lia) (by lia)
theorem abZ {f fS:Addr}{fd fdS:FuncData}(F:Fun K "_law_deck" "_law_deck" gP f fd)(i7:bF P w K mg base CX0 1 fS fdS ["cell","k"] w8)(du:Cal K mg "_law_stir" ["cell","k"] fS fdS)(aP:mg "range" = none):bF P w K mg base CX0 2 f fd ["cell","many"] abb:=by
 refine F.ok b6 (fun vs H Q E h=>?_) (fun cdv A outer s H vs Q E hr h=>?_)
 ·obtain⟨cell,n,rfl,_⟩:=h
  rfl
 ·obtain⟨cell,n,rfl,n0,n1,q⟩:=h;refine⟨_,(aj (aD (i:=2) b6.nd rfl (.inl rfl) fm)
   (aj (aD (i:=3) b6.nd rfl (.inl rfl) (pv 0))
   (aj (aR (b4 afq rfl (bK rfl aP (ae (pv 1) ai)) (az (i:=4) b6.nd rfl (.inl rfl))
    (aj (aD (i:=5) b6.nd rfl (.inl rfl) (pcl i7 du hr rfl (ae (pv 0) (ae (pv 4) ai))))
    (aj (aR (cu (aH acP (pv 0) (aI acF ak ak) (aM _))
     (au (aD (i:=5) b6.nd rfl (.inl rfl) (aI a9 (pv 3) ak))) bf))
    (aj (aD (i:=3) b6.nd rfl (.inl rfl) (aI mS (pv 3) ak))
    (au (bq (dc ae3 afH afI bJ (pv 2) (ae (pv 5) ai)))))))))
   (au (aQ (abC (pv 2) (acw aaI ak))))))),?_⟩
  refine⟨afe _,fun l nl=>?_⟩;have s1:Same H (upd H l (.lst [])):=fun b u e=>by rw [ah (af e nl)];exact e
  have e1:(upd H l (.lst [])) l=some (.lst (([]:List Int).map V.int)):=ag;generalize upd H l (.lst [])=H1 at *;refine⟨_,rfl,?_⟩;refine⟨fun σ' H'=>DkI cell n H n σ' H',?_,?_⟩
  ·rintro σ H2 ⟨l,ns,dg,x4,x5,rfl,nl,hl,len,all,sm⟩;refine⟨_,rfl,1,rfl,rfl,l,_,rfl,aAA hl,fun l2 nl2=>?_⟩;refine q l2 _ (sm.free nl2) (fun b u e=>by rw [ah (af (sm b u e) nl2)];exact sm b u e) ⟨ns.reverse,by rw [ag,List.map_reverse],fun z=>?_,by rw [ai0];lia,fun z hz=>all z (List.mem_reverse.mp hz)⟩;have:=afJ List.length z;rw [ai0,len] at this;simp at this;lia
  refine⟨_,rfl,(n:Int),rfl,by lia,by lia,?_⟩;rw [afj];refine fu (fun i σ' H'=>DkI cell n H i σ' H') ⟨l,[],cell,_,_,rfl,nl,e1,rfl,(fun _ h=>nomatch h),s1⟩ ?_ (fun σ H' z=>z);rintro i σ H2 hi ⟨l,ns,dg,x4,x5,rfl,nl,hl,len,all,sm⟩;refine⟨_,rfl,_,rfl,cell,_,rfl,by lia,by lia,fun r r0 r1=>?_⟩;refine⟨fun σ' H'=>∃ m:Int,σ'=[some (.int cell),some (.int n),some (.ref l),some (.int dg),some (.int (0+i)),some (.int m)]/\0<=m/\m < 2147483648/\H'=H2,?_,?_⟩
  ·rintro σ' H' ⟨m,rfl,m0,m1,rfl⟩;refine⟨_,rfl,_,720720,rfl,rfl,⟨by decide,by decide⟩,_,rfl,.inl ⟨rfl,_,aAA hl⟩,_,rfl,l,_,_,rfl,rfl,hl,by rw [aeP];exact aC (by lia),?_⟩;refine⟨l,ns++[m],_,_,_,rfl,nl,by rw [ag,ae2];rfl,by simp [len],fun z hz=>?_,fun b u e=>?_⟩
   ·rcases aeT.mp hz with y | y
    ·exact all z y
    ·rw [aeS.mp y];exact⟨m0,m1⟩
   ·rw [ah (af e nl)];exact sm b u e
  refine⟨_,rfl,10,18,rfl,rfl,⟨by decide,by decide,by decide⟩,_,_,rfl,rfl,_,rfl,uI (fun _=>?_) (fun _=>?_)⟩
  ·refine⟨_,rfl,_,720720,rfl,rfl,(by show (0:Int) < 720720;decide),?_⟩;exact⟨_,rfl,afy _ (by decide),Int.lt_trans (afp _ (by decide)) (by decide),rfl⟩
  ·exact⟨r,rfl,r0,by lia,rfl⟩
theorem aco {f fS:Addr}{fd fdS:FuncData}(F:Fun K "_law_next" "_law_next" ie f fd)(i7:bF P w K mg base CX0 1 fS fdS ["cell","k"] w8)(du:Cal K mg "_law_stir" ["cell","k"] fS fdS)(pW:mg "int" = none)(aU:mg "len" = none):bF P w K mg base CX0 2 f fd ["deck"] iO:=by
 refine F.ok qr (fun vs H Q E h=>?_) (fun cdv A outer s H vs Q E hr h=>?_)
 ·obtain⟨p,rfl,_⟩:=h
  rfl
 ·obtain⟨p,rfl,⟨ns,hp,ok⟩,q⟩:=h;refine⟨_,(aj (aR (cu (aH gy (ax aA rfl aU afi (ae (pv 0) ai)) ak (aM _))
   (au (bq (dc ae3 PySem.F.slot_list_insert PySem.F.type_list_insert wF (pv 0) (ae ak (ae (aI oO (pcl i7 du hr rfl (ae (aF aT (pv 0) ak (fun _ _=>rfl)) (ae ak ai))) (aZ lQ rfl pW (by decide +kernel) (ae (b7 zb (aF aT (pv 0) ak (fun _ _=>rfl)) ak (aM _)) ai))) ai))))) bf))
   (au (aQ (u0 ae3 agl agm yc (pv 0))))),?_⟩
  refine⟨fun σ' H'=>σ'=[some (.ref p)]/\∃ ns:List Int,H' p=some (.lst (ns.map V.int))/\2<=ns.length/\ns.length<=1000/\(∀ n∈ns,0<=n/\n < 2147483648)/\But p H H'/\∀ b,b≠p->H b=none->H' b=none,?_,?_⟩
  ·rintro σ' H' ⟨rfl,ns,hp,l2,l3,all,B,fr⟩;have hi:ns.length - 1 < ns.length:=by lia
   refine⟨_,rfl,.inl ⟨rfl,_,aAA hp⟩,p,_,.int (ns[ns.length - 1]'hi),rfl,rfl,hp,by rw [aeP,aeZ,aeO hi];rfl,?_⟩;have al:=all _ (afh hi);refine q _ _ al.1 al.2 ⟨ns.dropLast,by rw [ag,List.map_dropLast],fun z=>?_,by rw [aiC];lia,fun z hz=>all z (List.dropLast_subset _ hz)⟩ (B.trans But.upd) (fun b nb e=>by rw [ah nb];exact fr b nb e);have:=afJ List.length z;rw [aiC] at this;simp at this;lia
  refine⟨_,rfl,p,_,rfl,.inl (aAA hp),rfl,_,rfl,uI (fun h1=>?_) (fun h1=>?_)⟩
  ·have e1:ns.length=1:=by
    have:=agW h1;injection this with this
    rw [aeP] at this;lia
   obtain⟨n0,rfl⟩:∃ n0,ns=[n0]:=List.length_eq_one_iff.mp e1;have a0:=ok.all n0 ae0;refine⟨_,rfl,.inl ⟨rfl,_,aAA hp⟩,_,rfl,p,_,0,.int n0,rfl,rfl,aAA hp,rfl,n0,7,rfl,by decide,by decide,fun r r0 r1=>?_⟩;refine⟨_,rfl,p,_,0,.int n0,rfl,rfl,aAA hp,rfl,n0,0,rfl,rfl,.inr ⟨_,rfl,?_⟩⟩;have hf:∀ b:Bool,0<=r * (if b=true then 1 else 0)/\r * (if b=true then 1 else 0) < 2147483648:=fun b=>by cases b<;>simp<;>lia
   refine⟨r,_,rfl,rfl,.inl ⟨by lia,by lia⟩,p,_,_,rfl,rfl,hp,by show 1 < sizeLine;decide,?_⟩;refine⟨rfl,[r * (if decide (n0 > 0)=true then 1 else 0),n0],ag,ae1 _,by show 2<=1000;decide,fun z hz=>?_,But.upd,fun b nb e=>by rw [ah nb];exact e⟩;rcases ae7.mp hz with y | y
   ·rw [y];exact hf _
   ·rw [aeS.mp y];exact a0
  ·have e2:ns.length≠1:=fun z=>h1 (afv (by rw [aeP,z];rfl));have e3:=ai1.mpr ok.ne;exact⟨rfl,ns,hp,by lia,ok.few,ok.all,But.refl _ _,fun b _ e=>e⟩
end
theorem DeckAt.same {H H':Hp}{p:Addr}(x:DeckAt H p)(s:Same H H'):DeckAt H' p:=let ⟨ns,e,o⟩:=x;⟨ns,s _ _ e,o⟩
theorem DeckAt.ne {H:Hp}{p b:Addr}(x:DeckAt H p)(n:H b=none):b≠p:=fun z=>by
 obtain⟨_,e,_⟩:=x;rw [z,e] at n;cases n
theorem jV {nl:Nat}{ix:List Nat}{te:TE}{σ:L2.St}{H1:Hp}{D p:Addr}{Q:VK}{lo:Int}{n:Nat}{Pr:Nat->V->Prop}(nD:H1 D=none)(dk:DeckAt H1 p)(hl:n<=1000000)
 (hc:∀ x,((cn nl ix σ).set 0 (some x)).drop nl=ix.map fun j=>(σ[j]?).join)
 (ht:∀ (H:Hp) (i:Nat) (R:VK),i < n->But p H1 H->DeckAt H p->(∀ y H',Pr i y->DeckAt H' p->But p H H'->R y H')->te ((cn nl ix σ).set 0 (some (.int (lo+i)))) H R)
 (hd:∀ ys H,ys.length=n->(∀ i y,ys[i]? = some y->Pr i y)->H D=some (.lst ys)->But p H1 H->DeckAt H p->Q (.ref D) H):i5 nl ix (bg 0) xj te σ (Itr lo n) H1 D Q:=by
 have lim:1000000 < sizeLine:=by decide
 have Dp:D≠p:=dk.ne nD;have s0:Same H1 (upd H1 D (.lst [])):=fun b u e=>by rw [ah (af e nD)];exact e
 refine iB (fun i ys H=>ys.length=i/\(∀ j y,ys[j]? = some y->Pr j y)/\H D=some (.lst ys)/\But p H1 H/\DeckAt H p) ⟨rfl,fun j y e=>by simp at e,ag,fun b u _ e=>s0 b u e,dk.same s0⟩ (fun i ys H ⟨_,_,h,_⟩=>h) ?_ ?_
 ·rintro i ys H hi ⟨len,pr,hD,B,dk'⟩;refine cZ (hc _) (ht H i _ hi B dk' fun y H' py dk2 B2=>⟨B2 _ _ Dp hD,by lia,nx hi ⟨by simp [len],fun j z e=>?_,ag,fun b u nb e=>?_,?_⟩⟩)
  ·by_cases hj:j < ys.length
   ·rw [agt hj] at e;exact pr j z e
   ·rw [afF (by lia)] at e;have h0:j - ys.length=0:=by
     have:=(aeU.mp e).1;simp at this;lia
    rw [h0] at e;cases e;rw [show j=i by lia];exact py
  ·rw [ah (af e nD)];exact B2 b u nb (B b u nb e)
  ·obtain⟨ns,e,o⟩:=dk2;exact⟨ns,by rw [ah (agM Dp)];exact e,o⟩
 ·rintro ys H ⟨len,pr,hD,B,dk'⟩;exact hd ys H len pr hD B dk'
def aa6:Sp:=fun vs H Q _=>∃ (v:V) (h:Hs),vs=[v]/\HouseAt H v h/\gu h/\∀ (u:V) (H':Hp),Same H H'->HouseAt H' u h->Q u H'
def zK (e:Expr):Expr:=match e with
 | .Tuple es _ _=>es.getLastD e
 | e=>e
def RoomOff (D:Addr)(H:Hp)(v:V)(r:Rm):Prop:=∃ t a b:Addr,v=.ref t/\H t=some (.tup [.ref a,.ref b])/\H a=some (.lst (r.1.map V.str))/\H b=some (.lst (r.2.map V.str))/\t≠D/\a≠D/\b≠D
theorem RoomOff.at {D:Addr}{H:Hp}{v:V}{r:Rm}(h:RoomOff D H v r):RoomAt H v r:=let ⟨t,a,b,e,h1,h2,h3,_⟩:=h;⟨t,a,b,e,h1,h2,h3⟩
theorem RoomOff.on {D:Addr}{H H':Hp}{v:V}{r:Rm}(h:RoomOff D H v r)(s:∀ b u,b≠D->H b=some u->H' b=some u):RoomOff D H' v r:=by
 obtain⟨t,a,b,e,h1,h2,h3,n1,n2,n3⟩:=h;exact⟨t,a,b,e,s _ _ n1 h1,s _ _ n2 h2,s _ _ n3 h3,n1,n2,n3⟩
end K7
namespace L2
open PySem PySem.Spec PyProof.Rows
section
variable {X:Cx}{o e:Expr}{es:List Expr}{to:TE}{t:TA}{name:Str}{apos cpos:Pos}{T id:String}{r:V->List V->Hp->VK->Prop}{K:PySem.W.Frag}
theorem j8 (hK:X.K=K)(pa:PlainAttrs T)(slot:Slot T name id)(hty:typeOf (.builtin id)=pure (.type "method_descriptor"))(hm:MtR X id r)(ho:PE X o to)(ha:PA X (e::es) t)
 (hbase:attributeBase o name X.env (eval o X.env)=eval o X.env:=by rfl)
 (hfew:((backTo cpos (starEach (e::es) X.env)).all (fun x=>!x.1) && (backToKw cpos (keywordEach [] X.env)).all (fun x=>x.1.isSome)
  && decide ((e::es).length+([]:List Keyword).length+(if ([]:List Keyword).isEmpty then 0 else 1) < 30))=true:=by rfl)
 (hline:(apos.endLine == cpos.line)=true:=by rfl)(hs:starEach (e::es) X.env=(false,eval e X.env)::starEach es X.env:=by rfl)(hplain:(backTo cpos (starEach es X.env)).any (·.1)=false:=by rfl) :
 PE X (.Call (.Attribute o name apos) (e::es) [] cpos) (tBM K T r to t):=by
 subst hK;exact dc pa slot hty hm ho ha hbase hfew hline hs hplain
end
end L2
namespace K7
open PySem L2 PyProof.Rows
def a7 (h:Hs):List Str:=h.1++h.2.flatMap (·.2)
def aN (h:Hs):List Str:=h.2.flatMap (·.1)
structure qk (h:Hs):Prop where
 few:∃ U:List Str,U.length < 64/\∀ x,(x∈a7 h\/x∈aN h)->x∈U
 nk:(a7 h).length<=1000
 nl:(aN h).length<=1000
def jG:Sp:=fun vs H Q _=>∃ (v:V) (h:Hs),vs=[v]/\HouseAt H v h/\gu h/\qk h/\∀ (d:Addr) (kvs:List (Key×V)) (H':Hp),H d=none->Same H H'->H' d=some (.dK kvs)->CountMap H' kvs (a7 h) (aN h)->Q (.ref d) H'
theorem aB {α:Type}[DecidableEq α]:∀ {l U:List α},l.Nodup->(∀ x∈l,x∈U)->l.length<=U.length
 | [],U,_,_=>afe _
 | a::r,U,hn,h=>by
  rw [afG] at hn;have ha:=h a ae0;have ih:=aB (U:=U.erase a) hn.2 fun x hx=>by
   have ne:x≠a:=fun z=>hn.1 (z▸hx);exact (ahS ne).mpr (h x (ae6 _ hx))
  have hl:=ajx ha;have hp:0 < U.length:=aj4 ha;rw [afr];lia
theorem jH {α β:Type}(f:α->List β)(l:List α)(i:Nat):((l.take i).flatMap f).length<=(l.flatMap f).length:=by
 have e:l.flatMap f=(l.take i).flatMap f++(l.drop i).flatMap f:=by rw [← afY,afD]
 rw [e,aeR];lia
theorem dz {α β:Type}(f:α->List β)(l:List α)(i:Nat)(hi:i < l.length):(l.take (i+1)).flatMap f=(l.take i).flatMap f++f l[i]:=by
 rw [afk,aeO hi,afY];simp
end K7
namespace L2
open PySem PySem.Spec PyProof.Rows
theorem qK {X:Cx}{K:PySem.W.Frag}(hK:X.K=K):di X (.builtin "isinstance") (fun xs H Q=>∃ (x:V) (T:String) (t:Value) (b:Bool),xs=[x,.ty T]/\uE K H x t/\kitOne K t (.type T)=some b/\Q (.bl b) H):=by
 subst hK;exact cE
end L2
namespace K7
open PySem L2 PyProof.Rows
theorem pC:lettersS.cps.toList=List.range' 97 26:=by decide +kernel
theorem vG (r:Nat)(h:r < 26):atI lettersS.cps.toList (r:Int)=some (97+r):=bw (by rw [pC,List.getElem?_range' h];simp)
theorem eN:lettersS.length<=sizeLine:=by decide
def xG (l:List Nat):Prop:=1<=l.length/\l.length<=4/\∀ c∈l,97<=c/\c<=122
theorem uh {z:Str}(h:xG z.cps.toList):bD z:=by
 obtain⟨h1,h2,h3⟩:=h;have e:z.cps.toList.length=z.length:=ae5;exact⟨by lia,by lia,h3⟩
theorem yA {z:Str}(h:bD z):xG z.cps.toList:=by
 obtain⟨h1,h2,h3⟩:=h;have e:z.cps.toList.length=z.length:=ae5;exact⟨by lia,by lia,h3⟩
theorem oQ:∀ {ss:List Str},(∀ x∈ss,∃ c,x=⟨#[c]⟩/\97<=c/\c<=122)->((ss.map (·.cps.toList)).flatten).length=ss.length/\∀ c∈(ss.map (·.cps.toList)).flatten,97<=c/\c<=122
 | [],_=>⟨rfl,(fun c h=>by simp at h)⟩
 | a::r,h=>by
  obtain⟨c,rfl,h1,h2⟩:=h a ae0;obtain⟨i1,i2⟩:=oQ (ss:=r) fun x hx=>h x (ae6 _ hx);rw [afb,agA];refine⟨?_,fun d hd=>?_⟩
  ·rw [aeR,i1,afr];show 1+r.length=r.length+1;lia
  ·rcases aeT.mp hd with hd | hd
   ·have:d=c:=by simpa using hd
    lia
   ·exact i2 d hd
theorem vc:∀ {ss:List Str},(∀ x∈ss,∃ c,x=⟨#[c]⟩/\97<=c/\c<=122)->(ss.map (·.length)).sum=ss.length
 | [],_=>rfl
 | a::r,h=>by
  obtain⟨c,rfl,h1,h2⟩:=h a ae0;rw [afb,List.sum_cons,vc fun x hx=>h x (ae6 _ hx),afr];show 1+r.length=r.length+1;lia
theorem tN (z:Str)(ks:List Str):inV (.str z) (ks.map V.str)=decide (z∈ks):=by
 unfold inV
 induction ks with
 | nil=>rfl
 | cons a r ih =>
  rw [afb,ahM,ih];show (a == z || decide (z∈r))=_;by_cases e:a=z
  ·subst e;simp
  ·have e':(a == z)=false:=by simpa using e
   rw [e',Bool.false_or];by_cases hz:z∈r
   ·simp [hz]
   ·simp [hz,agM e]
theorem rL (ks:List Str):(ks.map V.str).all kO=true:=by
 rw [ajd,agR];intro _ _
 rfl
theorem lF {z:Str}(h:bD z):z.length<=sizeLine:=afo (aC (by have:=h.2.1;lia))
def twelve:List Str:=["a","b","ab","c","zzzz","d","ba","abc","abcd","z","zz","cab"]
theorem yk:∀ x∈twelve,bD x:=fun x hx=>by
 unfold twelve at hx;simp only [ae7,af4,ahO] at hx;rcases hx with rfl | rfl | rfl | rfl | rfl | rfl | rfl | rfl | rfl | rfl | rfl | rfl<;>exact⟨by decide +kernel,by decide +kernel,by decide +kernel⟩
theorem yH:∀ {ys:List V},(∀ y∈ys,∃ c,y=V.str ⟨#[c]⟩/\97<=c/\c<=122)->∃ ss:List Str,ys=ss.map V.str/\∀ x∈ss,∃ c,x=⟨#[c]⟩/\97<=c/\c<=122
 | [],_=>⟨[],rfl,fun _ h=>nomatch h⟩
 | y::ys,h=>by
  obtain⟨ss,rfl,k⟩:=yH fun z hz=>h z (ae6 _ hz);obtain⟨c,rfl,c1,c2⟩:=h y ae0;refine⟨⟨#[c]⟩::ss,rfl,fun x hx=>?_⟩;rcases ae7.mp hx with z | z
  ·exact⟨c,z,c1,c2⟩
  ·exact k x z
theorem dZ (q:Int):atI lettersS.cps.toList (q % 26)=some (97+(q % 26).toNat):=by
 have h0:0<=q % 26:=afy _ (by decide);have h1:q % 26 < 26:=afp _ (by decide);have e:=vG (q % 26).toNat (by lia);rw [ai2 h0] at e;exact e
theorem aaX {xs:List V}{k:Nat}(h:k<=xs.length):wU xs none (some (k:Int))=xs.take k:=by
 unfold wU;rw [HT.sIx_none,HT.sIx_nat,als,age,agi h]
def rj (z:Str)(a:Nat)(c:Nat):Str:=Txt.slice z none (some (a:Int))++(⟨#[c]⟩:Str)++Txt.slice z (some ((a:Int)+1)) none
theorem wD (z:Str)(a c:Nat):(rj z a c).cps.toList=z.cps.toList.take a++[c]++z.cps.toList.drop (a+1):=by
 unfold rj;rw [dA,dA,uK,show ((a:Int)+1)=((a+1:Nat):Int) by lia,oK]
theorem acn {z:Str}(h:bD z){a c:Nat}(ha:a < z.length)(c1:97<=c)(c2:c<=122):bD (rj z a c):=by
 obtain⟨h1,h2,h3⟩:=yA h;have e:z.cps.toList.length=z.length:=ae5;refine uh ?_;rw [wD];refine⟨?_,?_,fun x hx=>?_⟩
 ·simp only [aeR,afn,agw,afT];lia
 ·simp only [aeR,afn,agw,afT];lia
 ·rcases aeT.mp hx with q | q
  ·rcases aeT.mp q with q | q
   ·exact h3 x (af0 q)
   ·rw [aeS.mp q];exact⟨c1,c2⟩
  ·exact h3 x (agq q)
def yn:Sp:=fun vs H Q _=>∃ (p:Addr) (n:Nat),vs=[.ref p,.int n]/\DeckAt H p/\1<=n/\n<=12/\∀ (l:Addr) (ks:List Str) (H':Hp),H l=none->H' l=some (.lst (ks.map V.str))->ks.length=n->(∀ k∈ks,bD k)->DeckAt H' p->But p H H'->Q (.ref l) H'
section
variable {P:Program}{w:World}{K:PySem.W.Frag}{mg:Str->Option Value}{base:Heap}
theorem bR:aJ ["deck","many","some","letters","base","at","start"] ["deck","many"] (ar cW):=scM rfl rfl rfl rfl (by decide +kernel)
theorem lu:(["k","letters","deck"]:List Str).Nodup:=by decide +kernel
theorem lz:(["k","base","letters","at","start"]:List Str).Nodup:=by decide +kernel
theorem zB {f fN:Addr}{fd fdN:FuncData}(F:Fun K "_law_names" "_law_names" cW f fd)(ay:bF P w K mg base CX0 2 fN fdN ["deck"] iO)(av:Cal K mg "_law_next" ["deck"] fN fdN)(aU:mg "len" = none)(aP:mg "range" = none):bF P w K mg base CX0 3 f fd ["deck","many"] yn:=by
 refine F.ok bR (fun vs H Q E h=>?_) (fun cdv A outer s H vs Q E hr h=>?_)
 ·obtain⟨p,n,rfl,_⟩:=h
  rfl
 ·obtain⟨p,n,rfl,dk,n1,n2,k⟩:=h;refine⟨_,(@aj _ _ _ _ _ (@aD _ _ 2 _ _ _ _ bR.nd rfl (.inl rfl) (@c9 _ _ _ _ (@dB _ _ _ _ _ (@cN _ _ _ _) (@dB _ _ _ _ _ (@cN _ _ _ _) (@dB _ _ _ _ _ (@cN _ _ _ _) (@dB _ _ _ _ _ (@cN _ _ _ _) (@dB _ _ _ _ _ (@cN _ _ _ _) (@dB _ _ _ _ _ (@cN _ _ _ _) (@dB _ _ _ _ _ (@cN _ _ _ _) (@dB _ _ _ _ _ (@cN _ _ _ _) (@dB _ _ _ _ _ (@cN _ _ _ _) (@dB _ _ _ _ _ (@cN _ _ _ _) (@dB _ _ _ _ _ (@cN _ _ _ _) (@dB _ _ _ _ _ (@cN _ _ _ _) (@ai _) rfl) rfl) rfl) rfl) rfl) rfl) rfl) rfl) rfl) rfl) rfl) rfl)) rfl (by first | exact .inl rfl | exact .inr rfl))
   (aj (aD (i:=3) bR.nd rfl (.inr rfl) cN)
   (aj (aD (i:=4) bR.nd rfl (.inr rfl) (dc PySem.F.plainAttrs_str PySem.F.slot_str_join PySem.F.type_str_join ab0 cN (ae (jP (tg:=.Name "k" _) (outer:=ar (cW)) (N:=["deck","many","some","letters","base","at","start"]) (N':=["k","letters","deck"]) (nl:=1) (ix:=[3,0]) rfl rfl rfl (bK rfl aP (ae (aI cV ak (aI a9 (pcl ay av hr rfl (ae (pv 0) ai)) ak)) ai))
    (fun _ _ _ _=>(az (i:=0) lu rfl (.inl rfl) (.inr rfl))) (fun _ _ _ _=>bX)
    (fun _ _ _ _=>(aF rH (pv 1) (aI a9 (pcl ay av hr rfl (ae (pv 2) ai)) ak) (fun _ _=>rfl)))) ai)))
   (aj (aD (i:=5) bR.nd rfl (.inr rfl) (aI a9 (pcl ay av hr rfl (ae (pv 0) ai)) (ax kj rfl aU afi (ae (pv 4) ai))))
   (aj (aD (i:=6) bR.nd rfl (.inr rfl) (pcl ay av hr rfl (ae (pv 0) ai)))
   (aj (aR (cu (aH gy (aI a9 (pcl ay av hr rfl (ae (pv 0) ai)) ak) ak (aM _))
    (au (eO (i:=2) (tg:=.Name "k" _) (outer:=ar (cW)) (N:=["deck","many","some","letters","base","at","start"]) (N':=["k","base","letters","at","start"]) (nl:=1) (ix:=[4,3,5,6]) bR.nd rfl (.inl rfl) rfl rfl rfl (bK rfl aP (ae ak ai))
    (fun _ _ _ _=>(az (i:=0) lz rfl (.inl rfl) (.inr rfl))) (fun _ _ _ _=>bX)
    (fun _ _ _ _=>(aI iy (aI iy (jz aa0 (pv 1) mO (lJ (pv 3))) (aF rH (pv 2) (aI a9 (aI cV (pv 4) (pv 0)) ak) (fun _ _=>rfl))) (jz aa0 (pv 1) (lJ (aI cV (pv 3) ak)) mO))))) bf))
   (au (aQ (jz tu (pv 2) mO (lJ (pv 1))))))))))),?_⟩
  refine⟨by show 12<=sizeLine;decide,fun sA nsA=>?_⟩;have s1:Same H (upd H sA (.lst (twelve.map V.str))):=fun b u e=>by rw [ah (af e nsA)];exact e
  have e1:(upd H sA (.lst (twelve.map V.str))) sA=some (.lst (twelve.map V.str)):=ag;have dk1:=dk.same s1;have sAp:=dk.ne nsA;refine⟨rfl,?_⟩;dsimp only [eP,kX];refine aW _ _ _ _ _ _ _ _ _ ?_;refine⟨_,rfl,p,rfl,dk1,fun r H2 r0 r1 dk2 B2 fr2=>⟨r,4,rfl,rfl,(by show (0:Int) < 4;decide),1,r % 4,rfl,rfl,1+r % 4,rfl,by lia,by lia,?_⟩⟩;intro D nD;obtain⟨m,hm,hm1,hm2⟩:∃ m:Nat,(1+r % 4).toNat=m/\1<=m/\m<=4:=⟨_,rfl,by lia,by lia⟩;rw [hm];refine jV (Pr:=fun _ y=>∃ c,y=V.str ⟨#[c]⟩/\97<=c/\c<=122) nD dk2 (by lia) (fun x=>rfl) (fun G i R hi BG dG kG=>?_) (fun ys H3 len pr hD3 B3 dk3=>?_)
  ·refine⟨_,rfl,_,rfl,p,rfl,dG,fun q G' q0 q1 dG' BG' _=>⟨q,26,rfl,rfl,(by show (0:Int) < 26;decide),lettersS,_,97+(q % 26).toNat,rfl,rfl,eN,dZ q,kG _ _ ⟨_,rfl,by lia,by lia⟩ dG' BG'⟩⟩
  obtain⟨ss,rfl,hss⟩:=yH fun y hy=>by
   obtain⟨i,e⟩:=aiq.mp hy;exact pr i y e
  rw [aeP] at len;obtain⟨q1,q2⟩:=oQ hss;refine⟨Str.ofString "",D,ss,rfl,rfl,aAA hD3,?_,?_⟩
  ·rw [vc hss];have:(Str.ofString "").length=0:=by decide
   rw [this];exact afo (aC (by lia))
  have kz:bD (Txt.join (Str.ofString "") ss):=uh ⟨by rw [jS,q1];lia,by rw [jS,q1];lia,by rw [jS];exact q2⟩;generalize Txt.join (Str.ofString "") ss=z at kz ⊢;have Bs:But p H _:=fun b u _ e=>s1 b u e;have B03:But p H H3:=Bs.trans (B2.trans B3);have hs3:=B3 _ _ sAp (B2 _ _ sAp e1);have zl:=kz.1;refine⟨_,rfl,p,rfl,dk3,fun r4 H4 _ _ dk4 B4 _=>⟨_,rfl,z,rfl,lF kz,_,_,rfl,rfl,(by show (0:Int) < (z.length:Int);lia),?_⟩⟩;obtain⟨a,ea,ha⟩:∃ a:Nat,r4 % (z.length:Int)=(a:Int)/\a < z.length:=by
   have h0:0<=r4 % (z.length:Int):=afy _ (by lia);have h1:r4 % (z.length:Int) < (z.length:Int):=afp _ (by lia);exact⟨(r4 % (z.length:Int)).toNat,by lia,by lia⟩
  show bg 5 (V.int (r4 % (z.length:Int))) _ _ _;rw [ea];refine⟨_,rfl,p,rfl,dk4,fun st H5 _ _ dk5 B5 _=>?_⟩;have B05:=B03.trans (B4.trans B5);have hs5:=B5 _ _ sAp (B4 _ _ sAp hs3);refine⟨fun σ' H'=>∃ (l:Addr) (ks:List Str),σ'=[some (.ref p),some (.int n),some (.ref l),some (.str lettersS),some (.str z),some (.int a),some (.int st)]/\H' l=some (.lst (ks.map V.str))/\ks.length=12/\(∀ k∈ks,bD k)/\DeckAt H' p/\But p H H',?_,?_⟩
  ·rintro σ' H' ⟨l,ks,rfl,hl,len,kk,dk',B⟩;refine⟨_,rfl,_,rfl,(n:Int),rfl,l,_,rfl,aAA hl,fun l2 nl2=>?_⟩;rw [aaX (by rw [aeP];lia)];have s8:Same H' (upd H' l2 (.lst ((ks.map V.str).take n))):=fun b u e=>by rw [ah (af e nl2)];exact e
   exact k l2 (ks.take n) _ (B.free (dk'.ne nl2) nl2) (by rw [ag,akY]) (by rw [afn];lia) (fun x hx=>kk x (af0 hx)) (dk'.same s8) (B.trans fun b u _ e=>s8 b u e)
  refine⟨_,rfl,p,rfl,dk5,fun r6 H6 _ _ dk6 B6 _=>⟨_,2,rfl,rfl,(by show (0:Int) < 2;decide),rfl,_,rfl,uI (fun _=>?_) (fun _=>?_)⟩⟩
  ·dsimp only [sd];refine aW _ _ _ _ _ _ _ _ _ ?_;refine⟨12,rfl,by decide,by decide,?_⟩;intro D2 nD2;refine qV (n:=12) (F:=fun i=>V.str (rj z a (97+((st+(0+(i:Int))) % 26).toNat))) nD2 (by decide) (fun x=>rfl) (fun G i R hi sG q=>?_) (fun H7 s7 hD7=>?_)
   ·have sz:∀ y:Str,y.cps.toList.length<=8->y.length<=sizeLine:=fun y h=>afo (aC (by have:y.cps.toList.length=y.length:=ae5;lia));have cz:z.cps.toList.length<=4:=(yA kz).2.1;have l1:(Txt.slice z none (some (a:Int))).length<=4:=by
     have e1:=afJ List.length (uK z a);have e2:(Txt.slice z none (some (a:Int))).cps.toList.length=(Txt.slice z none (some (a:Int))).length:=ae5;rw [afn] at e1;lia
    have l2:(Txt.slice z (some ((a:Int)+1)) none).length<=4:=by
     have e1:=afJ List.length (oK z (a+1));rw [show ((a+1:Nat):Int)=(a:Int)+1 by lia] at e1;have e2:(Txt.slice z (some ((a:Int)+1)) none).cps.toList.length=(Txt.slice z (some ((a:Int)+1)) none).length:=ae5;rw [agw] at e1;lia
    have l3:∀ c:Nat,(Txt.slice z none (some (a:Int))++(⟨#[c]⟩:Str)).length<=5:=fun c=>by
     have e1:=afJ List.length (dA (Txt.slice z none (some (a:Int))) ⟨#[c]⟩);have e2:(Txt.slice z none (some (a:Int))++(⟨#[c]⟩:Str)).cps.toList.length=(Txt.slice z none (some (a:Int))++(⟨#[c]⟩:Str)).length:=ae5;have e3:(Txt.slice z none (some (a:Int))).cps.toList.length=(Txt.slice z none (some (a:Int))).length:=ae5;rw [aeR,e2,e3] at e1;have e4:((⟨#[c]⟩:Str).cps.toList).length=1:=rfl;lia
    refine⟨_,rfl,_,rfl,(a:Int),rfl,z,rfl,lF kz,_,rfl,_,rfl,_,rfl,_,_,rfl,rfl,_,26,rfl,rfl,(by show (0:Int) < 26;decide),lettersS,_,97+((st+(0+(i:Int))) % 26).toNat,rfl,rfl,eN,dZ _,_,_,rfl,rfl,afo (aC (by show _+1<=1000;lia)),?_⟩;exact⟨_,rfl,_,rfl,_,1,rfl,rfl,(a:Int)+1,rfl,z,rfl,lF kz,_,_,rfl,rfl,afo (aC (by have:=l3 (97+((st+(0+(i:Int))) % 26).toNat);lia)),q⟩
   ·refine⟨D2,(List.range 12).map fun (i:Nat)=>rj z a (97+((st+(0+(i:Int))) % 26).toNat),rfl,by rw [hD7,af7];rfl,by rw [aeP,afz],fun x hx=>?_,dk6.same s7,B05.trans (B6.trans fun b u _ e=>s7 b u e)⟩;obtain⟨i,_,rfl⟩:=ae4.mp hx;have h0:0<=(st+(0+(i:Int))) % 26:=afy _ (by decide);have h1:(st+(0+(i:Int))) % 26 < 26:=afp _ (by decide);exact acn kz ha (by lia) (by lia)
  ·exact⟨sA,twelve,rfl,B6 _ _ sAp hs5,rfl,yk,dk6,B05.trans B6⟩
end
theorem pq {K K':PySem.W.Frag}{i j:Nat}{σ:L2.St}{q p:Addr}{ks:List Str}{G:Hp}{R:VK}(h1:σ[i]? = some (some (.ref q)))(h2:σ[j]? = some (some (.ref p)))(hq:G q=some (.lst (ks.map V.str)))(qp:q≠p)(ne:ks≠[])(dG:DeckAt G p)
 (k:∀ z G',z∈ks->DeckAt G' p->But p G G'->R (.str z) G') :
 tOp (adp K) (wV i) (tOp (rI (fun _ j=>0 < j) fun i j=>.int (i % j)) (xq iO [] E0 (eP (wV j) kX)) (tCB (fun xs H Q=>∃ p ys,xs=[V.ref p]/\(SqL K' H p ys\/SqT K' H p ys)/\Q (.int ys.length) H) (eP (wV i) kX))) σ G R:=by
 have pos:=ai1.mpr ne;refine⟨_,h1,_,h2,p,rfl,dG,fun r G' r0 r1 dG' B' _=>⟨_,h1,q,_,rfl,.inl (aAA (B' _ _ qp hq)),r,_,rfl,rfl,(by rw [aeP];show (0:Int) < (ks.length:Int);lia),?_⟩⟩;rw [aeP];obtain⟨m,em,hm⟩:∃ m:Nat,r % (ks.length:Int)=(m:Int)/\m < ks.length:=by
  have a:0<=r % (ks.length:Int):=afy _ (by lia);have b:r % (ks.length:Int) < (ks.length:Int):=afp _ (by lia);exact⟨(r % (ks.length:Int)).toNat,by lia,by lia⟩
 refine⟨q,_,(m:Int),.str ks[m],rfl,afJ V.int em,aAA (B' _ _ qp hq),bw (by rw [aeZ,aeO hm];rfl),k _ _ (afh hm) dG' B'⟩
structure RC where
 t:Addr
 d:Addr
 w:Addr
 r:Rm
def RC.two (x:RC):List Addr:=[x.d,x.w]
def own (kA rA:Addr)(L:List RC):List Addr:=kA::rA::L.flatMap RC.two
structure Sep (H0 H:Hp)(p kA rA:Addr)(ks:List Str)(L:List RC):Prop where
 dk0:DeckAt H0 p
 dk:DeckAt H p
 but:But p H0 H
 fr:∀ a∈own kA rA L,H0 a=none
 nd:(own kA rA L).Nodup
 hk:H kA=some (.lst (ks.map V.str))
 hr:H rA=some (.lst (L.map fun x=>V.ref x.t))
 it:∀ x∈L,H x.t=some (.tup [.ref x.d,.ref x.w])/\H x.d=some (.lst (x.r.1.map V.str))/\H x.w=some (.lst (x.r.2.map V.str))
theorem DeckAt.net {H:Hp}{p b:Addr}{vs:List V}(x:DeckAt H p)(n:H b=some (.tup vs)):b≠p:=fun z=>by
 obtain⟨_,e,_⟩:=x;rw [z,e] at n;cases n
theorem DeckAt.up {H:Hp}{p b:Addr}{o:HO}(x:DeckAt H p)(n:b≠p):DeckAt (upd H b o) p:=let ⟨ns,e,k⟩:=x;⟨ns,by rw [ah n.symm];exact e,k⟩
theorem own_mem {kA rA a:Addr}{L:List RC}:a∈own kA rA L↔a=kA\/a=rA\/∃ x∈L,a=x.d\/a=x.w:=by
 unfold own RC.two;simp only [ae7,afM,af4,ahO]
section
variable {H0 H H':Hp}{p kA rA:Addr}{ks:List Str}{L:List RC}
theorem Sep.ne (x:Sep H0 H p kA rA ks L){a:Addr}(h:a∈own kA rA L):a≠p:=x.dk0.ne (x.fr a h)
theorem Sep.on (x:Sep H0 H p kA rA ks L)(d:DeckAt H' p)(b:But p H H'):Sep H0 H' p kA rA ks L :=
 ⟨x.dk0,d,x.but.trans b,x.fr,x.nd,b _ _ (x.ne (own_mem.mpr (.inl rfl))) x.hk,b _ _ (x.ne (own_mem.mpr (.inr (.inl rfl)))) x.hr,fun y hy =>
  let ⟨a,c,e⟩:=x.it y hy
  ⟨b _ _ (x.dk.net a) a,b _ _ (x.ne (own_mem.mpr (.inr (.inr ⟨y,hy,.inl rfl⟩)))) c,b _ _ (x.ne (own_mem.mpr (.inr (.inr ⟨y,hy,.inr rfl⟩)))) e⟩⟩
theorem Sep.same (x:Sep H0 H p kA rA ks L)(s:Same H H'):Sep H0 H' p kA rA ks L:=x.on (x.dk.same s) fun b u _ e=>s b u e
theorem Sep.some (x:Sep H0 H p kA rA ks L){a:Addr}(h:a∈own kA rA L):∃ vs,H a=some (.lst vs):=by
 rcases own_mem.mp h with rfl | rfl | ⟨y,hy,rfl | rfl⟩
 ·exact⟨_,x.hk⟩
 ·exact⟨_,x.hr⟩
 ·exact⟨_,(x.it y hy).2.1⟩
 ·exact⟨_,(x.it y hy).2.2⟩
theorem Sep.out (x:Sep H0 H p kA rA ks L){a:Addr}(n:H a=none):a ∉ own kA rA L:=fun h=>by
 obtain⟨vs,e⟩:=x.some h;rw [n] at e;cases e
theorem Sep.free (x:Sep H0 H p kA rA ks L){a:Addr}(n:H a=none):H0 a=none:=x.but.free (x.dk.ne n) n
theorem Sep.tne (x:Sep H0 H p kA rA ks L){a:Addr}(h:a∈own kA rA L){y:RC}(hy:y∈L):y.t≠a:=fun z=>by
 obtain⟨vs,e⟩:=x.some h;have:=(x.it y hy).1;rw [z,e] at this;cases this
theorem Sep.butu (x:Sep H0 H p kA rA ks L){a:Addr}{o:HO}(h:a∈own kA rA L):But p H0 (upd H a o):=fun b u nb e=>by
 rw [ah (af e (x.fr a h))];exact x.but b u nb e
theorem rT (nd:(own kA rA L).Nodup):kA≠rA/\∀ y∈L,y.d≠kA/\y.w≠kA/\y.d≠rA/\y.w≠rA/\y.d≠y.w:=by
 unfold own at nd;rw [afG,afG] at nd;obtain⟨n1,n2,n3⟩:=nd;have m1:∀ y∈L,y.d∈L.flatMap RC.two:=fun y hy=>afM.mpr ⟨y,hy,ae0⟩;have m2:∀ y∈L,y.w∈L.flatMap RC.two:=fun y hy=>afM.mpr ⟨y,hy,ae6 _ ae0⟩;refine⟨fun z=>n1 (z▸ae0),fun y hy=>⟨fun z=>n1 (ae6 _ (z▸m1 y hy)),fun z=>n1 (ae6 _ (z▸m2 y hy)),fun z=>n2 (z▸m1 y hy),fun z=>n2 (z▸m2 y hy),?_⟩⟩;have:=(akg.mp n3).1 y hy;unfold RC.two at this;rw [afP] at this;exact this.1 _ ae0
theorem sj {L1 L2:List RC}{x:RC}(nd:(own kA rA (L1++x::L2)).Nodup):∀ y∈L1++L2,y.d≠x.d/\y.d≠x.w/\y.w≠x.d/\y.w≠x.w:=by
 unfold own at nd;rw [afG,afG] at nd;have h:=(akg.mp nd.2.2).2;rw [afC,afP] at h;obtain⟨_,⟨h2,_⟩,h3⟩:=h;have a:∀ z:RC,z.d∈z.two:=fun z=>ae0;have b:∀ z:RC,z.w∈z.two:=fun z=>ae6 _ ae0;intro y hy;rcases aeT.mp hy with q | q
 ·have g:=h3 y q x ae0;exact⟨g _ (a y) _ (a x),g _ (a y) _ (b x),g _ (b y) _ (a x),g _ (b y) _ (b x)⟩
 ·have g:=h2 y q;exact⟨(g _ (a x) _ (a y)).symm,(g _ (b x) _ (a y)).symm,(g _ (a x) _ (b y)).symm,(g _ (b x) _ (b y)).symm⟩
theorem Sep.key (x:Sep H0 H p kA rA ks L)(ks':List Str):Sep H0 (upd H kA (.lst (ks'.map V.str))) p kA rA ks' L:=by
 have m:kA∈own kA rA L:=own_mem.mpr (.inl rfl);obtain⟨n1,n2⟩:=rT x.nd;refine⟨x.dk0,x.dk.up (x.ne m),x.butu m,x.fr,x.nd,ag,by rw [ah n1.symm];exact x.hr,fun y hy=>?_⟩;obtain⟨a,b,c⟩:=x.it y hy;obtain⟨e1,e2,_⟩:=n2 y hy;exact⟨by rw [ah (x.tne m hy)];exact a,by rw [ah e1];exact b,by rw [ah e2];exact c⟩
theorem Sep.newk (x:Sep H0 H p kA rA ks L){kB:Addr}{ks':List Str}(n:kB ∉ own kA rA L)(f:H0 kB=none)(h:H kB=Option.some (.lst (ks'.map V.str))):Sep H0 H p kB rA ks' L:=by
 refine⟨x.dk0,x.dk,x.but,fun a ha=>?_,?_,h,x.hr,x.it⟩
 ·rcases ae7.mp ha with q | q
  ·rw [q];exact f
  ·exact x.fr a (ae6 _ q)
 ·have:=x.nd;unfold own at this ⊢;rw [afG] at this ⊢;exact⟨fun z=>n (ae6 _ z),this.2⟩
theorem Sep.more (x1:Sep H0 H p kA rA ks L){y:RC}(dk:DeckAt H' p)(b:But p H H')(nd:H y.d=none)(nw:H y.w=none)(dw:y.d≠y.w)(ht:H' y.t=Option.some (.tup [.ref y.d,.ref y.w]))(hd:H' y.d=Option.some (.lst (y.r.1.map V.str)))(hw:H' y.w=Option.some (.lst (y.r.2.map V.str))) :
 Sep H0 (upd H' rA (.lst (L.map (fun x=>V.ref x.t)++[.ref y.t]))) p kA rA ks (L++[y]):=by
 have x:=x1.on dk b;have m:rA∈own kA rA L:=own_mem.mpr (.inr (.inl rfl));obtain⟨n1,n2⟩:=rT x.nd;have o1:=x1.out nd;have o2:=x1.out nw;have eo:own kA rA (L++[y])=own kA rA L++[y.d,y.w]:=by
  unfold own;rw [afY];simp [RC.two]
 have tr:y.t≠rA:=fun z=>by have:=x.hr;rw [← z,ht] at this;cases this
 refine⟨x.dk0,dk.up (x.ne m),x.butu m,fun a ha=>?_,?_,by rw [ah n1];exact x.hk,by rw [ag,ae2];rfl,fun z hz=>?_⟩
 ·rw [eo] at ha;rcases aeT.mp ha with q | q
  ·exact x.fr a q
  ·simp only [ae7,af4,ahO] at q;rcases q with rfl | rfl
   ·exact x1.free nd
   ·exact x1.free nw
 ·rw [eo,af3];refine⟨x.nd,?_,fun a ha c hc=>?_⟩
  ·rw [afG];exact⟨fun z=>dw (aeS.mp z),by simp⟩
  ·simp only [ae7,af4,ahO] at hc;rcases hc with rfl | rfl
   ·exact fun z=>o1 (z▸ha)
   ·exact fun z=>o2 (z▸ha)
 ·rcases aeT.mp hz with q | q
  ·obtain⟨a,c,e⟩:=x.it z q;obtain⟨_,_,e3,e4,_⟩:=n2 z q;exact⟨by rw [ah (x.tne m q)];exact a,by rw [ah e3];exact c,by rw [ah e4];exact e⟩
  ·rw [aeS.mp q];refine⟨by rw [ah tr];exact ht,?_,?_⟩
   ·rw [ah fun z=>o1 (by rw [z];exact m)];exact hd
   ·rw [ah fun z=>o2 (by rw [z];exact m)];exact hw
theorem Sep.lock {L1 L2:List RC}{y:RC}(x:Sep H0 H p kA rA ks (L1++y::L2))(l:List Str):Sep H0 (upd H y.d (.lst (l.map V.str))) p kA rA ks (L1++⟨y.t,y.d,y.w,(l,y.r.2)⟩::L2):=by
 have hy:y∈L1++y::L2:=aeW _ ae0;have m:y.d∈own kA rA (L1++y::L2):=own_mem.mpr (.inr (.inr ⟨y,hy,.inl rfl⟩));obtain⟨n1,n2⟩:=rT x.nd;have sp:=sj x.nd;have eo:own kA rA (L1++(⟨y.t,y.d,y.w,(l,y.r.2)⟩:RC)::L2)=own kA rA (L1++y::L2):=by
  unfold own;rw [afY,afY]
  rfl
 obtain⟨f1,f2,f3,f4,f5⟩:=n2 y hy;refine⟨x.dk0,x.dk.up (x.ne m),x.butu m,by rw [eo];exact x.fr,by rw [eo];exact x.nd,by rw [ah f1.symm];exact x.hk,by rw [ah f3.symm,x.hr];simp,fun z hz=>?_⟩;obtain⟨a,b,c⟩:=x.it y hy;rcases aeT.mp hz with q | q
 ·have q':z∈L1++y::L2:=aff _ q;obtain⟨a,b,c⟩:=x.it z q';obtain⟨s1,_,s3,_⟩:=sp z (aff _ q);exact⟨by rw [ah (x.tne m q')];exact a,by rw [ah s1];exact b,by rw [ah s3];exact c⟩
 ·rcases ae7.mp q with q | q
  ·rw [q];exact⟨by rw [ah (x.tne m hy)];exact a,ag,by rw [ah f5.symm];exact c⟩
  ·have q':z∈L1++y::L2:=aeW _ (ae6 _ q);obtain⟨a,b,c⟩:=x.it z q';obtain⟨s1,_,s3,_⟩:=sp z (aeW _ q);exact⟨by rw [ah (x.tne m q')];exact a,by rw [ah s1];exact b,by rw [ah s3];exact c⟩
theorem Sep.inner {L1 L2:List RC}{y:RC}(x:Sep H0 H p kA rA ks (L1++y::L2))(l:List Str):Sep H0 (upd H y.w (.lst (l.map V.str))) p kA rA ks (L1++⟨y.t,y.d,y.w,(y.r.1,l)⟩::L2):=by
 have hy:y∈L1++y::L2:=aeW _ ae0;have m:y.w∈own kA rA (L1++y::L2):=own_mem.mpr (.inr (.inr ⟨y,hy,.inr rfl⟩));obtain⟨n1,n2⟩:=rT x.nd;have sp:=sj x.nd;have eo:own kA rA (L1++(⟨y.t,y.d,y.w,(y.r.1,l)⟩:RC)::L2)=own kA rA (L1++y::L2):=by
  unfold own;rw [afY,afY]
  rfl
 obtain⟨f1,f2,f3,f4,f5⟩:=n2 y hy;refine⟨x.dk0,x.dk.up (x.ne m),x.butu m,by rw [eo];exact x.fr,by rw [eo];exact x.nd,by rw [ah f2.symm];exact x.hk,by rw [ah f4.symm,x.hr];simp,fun z hz=>?_⟩;obtain⟨a,b,c⟩:=x.it y hy;rcases aeT.mp hz with q | q
 ·have q':z∈L1++y::L2:=aff _ q;obtain⟨a,b,c⟩:=x.it z q';obtain⟨_,s2,_,s4⟩:=sp z (aff _ q);exact⟨by rw [ah (x.tne m q')];exact a,by rw [ah s2];exact b,by rw [ah s4];exact c⟩
 ·rcases ae7.mp q with q | q
  ·rw [q];exact⟨by rw [ah (x.tne m hy)];exact a,by rw [ah f5];exact b,ag⟩
  ·have q':z∈L1++y::L2:=aeW _ (ae6 _ q);obtain⟨a,b,c⟩:=x.it z q';obtain⟨_,s2,_,s4⟩:=sp z (aeW _ q);exact⟨by rw [ah (x.tne m q')];exact a,by rw [ah s2];exact b,by rw [ah s4];exact c⟩
theorem Sep.rooms (x:Sep H0 H p kA rA ks L):RoomsAt H (L.map fun x=>V.ref x.t) (L.map (·.r)):=⟨by simp,fun i v r e1 e2=>by
 rw [aeZ] at e1 e2;obtain⟨y,hy,rfl⟩:=agr.mp e1;rw [hy] at e2;cases e2;obtain⟨a,b,c⟩:=x.it y (afB hy);exact⟨y.t,y.d,y.w,rfl,a,b,c⟩⟩
end
def PlU (U:List Str)(r:Rm):Prop:=(∃ k,r.1=[k]/\k∈U)/\(∀ k∈r.2,k∈U)/\r.2.length<=12
theorem PlU.mono {U V:List Str}{r:Rm}(h:PlU U r)(s:∀ k∈U,k∈V):PlU V r:=let ⟨⟨k,e,m⟩,a,b⟩:=h;⟨⟨k,e,s k m⟩,fun k hk=>s k (a k hk),b⟩
theorem gr {A:Around}{H:Hp}{x y:Addr}{xs:List V}{ds:List PyData}{Q:VK}(hx:H x=some (.lst xs))(s:SeesAll H xs ds)(l:PyData.canLayAll0 ds=true)(hy:H y=some (.lst []))(hu:A.units+1 < cLine)(q:Q (.bl (!xs.isEmpty)) H):abp A true (.ref x) (.ref y) H Q:=by
 refine⟨.list ds,.list [],.lst hx s,.lst hy .nil,by simp only [PyData.canLay0,l],rfl,afx (ahZ (ait _ _) _) hu,?_⟩;have e:ds.isEmpty=xs.isEmpty:=by cases s<;>rfl
 rw [if_pos rfl,show PyData.eqv (.list ds) (.list [])=ds.isEmpty by cases ds<;>rfl,e];exact q
theorem kY {A:Around}{H:Hp}{x y:Addr}{xs:List V}{ds:List PyData}{Q:VK}(hx:H x=some (.lst xs))(s:SeesAll H xs ds)(l:PyData.canLayAll0 ds=true)(hy:H y=some (.lst []))(hu:A.units+1 < cLine)(q:Q (.bl xs.isEmpty) H):abp A false (.ref x) (.ref y) H Q:=by
 refine⟨.list ds,.list [],.lst hx s,.lst hy .nil,by simp only [PyData.canLay0,l],rfl,afx (ahZ (ait _ _) _) hu,?_⟩;have e:ds.isEmpty=xs.isEmpty:=by cases s<;>rfl
 rw [if_neg (by decide),show PyData.eqv (.list ds) (.list [])=ds.isEmpty by cases ds<;>rfl,e];exact q
theorem aq {H:Hp}{l:Addr}{o:HO}(n:H l=none):Same H (upd H l o):=fun b u e=>by rw [ah (af e n)];exact e
theorem cB {H H':Hp}{p:Addr}(s:Same H H'):But p H H':=fun b u _ e=>s b u e
theorem md {r:Int}{n:Nat}(h:0 < n):∃ m:Nat,r % (n:Int)=(m:Int)/\m < n:=by
 have a:0<=r % (n:Int):=afy _ (by lia);have b:r % (n:Int) < (n:Int):=afp _ (by lia);exact⟨(r % (n:Int)).toNat,by lia,by lia⟩
theorem adV {xs:List Int}{r:Int}(h0:0<=r)(h1:r < xs.length):∃ m∈xs,atI (xs.map V.int) r=some (.int m):=by
 obtain⟨j,rfl⟩:∃ j:Nat,r=(j:Int):=⟨r.toNat,by lia⟩;have hj:j < xs.length:=by lia
 exact⟨xs[j],afh hj,bw (by rw [aeZ,aeO hj];rfl)⟩
def dP (r:Rm):PyData:=.tuple [.list (r.1.map PyData.str),.list (r.2.map PyData.str)]
theorem jZ {H:Hp}:∀ {vs:List V} {rs:List Rm},RoomsAt H vs rs->SeesAll H vs (rs.map dP)
 | [],[],_=>.nil
 | [],_::_,h=>absurd h.1 (by simp)
 | _::_,[],h=>absurd h.1 (by simp)
 | v::vs,r::rs,h=>by
  obtain⟨t,a,b,rfl,h1,h2,h3⟩:=h.2 0 v r rfl rfl;refine .cons (.tup h1 (.cons (.lst h2 (SeesAll.strs _)) (.cons (.lst h3 (SeesAll.strs _)) .nil))) (jZ ⟨by simpa using h.1,fun i v' r' e1 e2=>h.2 (i+1) v' r' (by simpa using e1) (by simpa using e2)⟩)
theorem mR:∀ {rs:List Rm},(∀ r∈rs,(∀ k∈r.1,bD k)/\∀ k∈r.2,bD k)->PyData.canLayAll0 (rs.map dP)=true
 | [],_=>rfl
 | r::rs,h=>by
  obtain⟨h1,h2⟩:=h r ae0;have e1:=cP h1;have e2:=cP h2;have e3:=mR fun q hq=>h q (ae6 _ hq);rw [afb];simp only [PyData.canLayAll0,PyData.canLay0,dP,e1,e2,e3,akZ]
def hV (rs:List Rm)(x:Str):Nat->List Nat
 | 0=>[]
 | n+1=>hV rs x n++(if x∈((rs[n]?).getD ([],[])).1 then [n] else [])
theorem uY (rs:List Rm)(x:Str):∀ n,(hV rs x n).length<=n
 | 0=>ae1 0
 | n+1=>by
  have:=uY rs x n;unfold hV;rw [aeR];split<;>simp<;>lia
theorem mem_nums {rs:List Rm}{x:Str}{i:Nat}:∀ {n},i∈hV rs x n↔i < n/\x∈((rs[i]?).getD ([],[])).1
 | 0=>⟨(fun h=>nomatch h),fun h=>absurd h.1 (aiZ _)⟩
 | n+1=>by
  unfold hV;rw [aeT,mem_nums (n:=n)];constructor
  ·rintro (⟨h1,h2⟩ | h)
   ·exact⟨by lia,h2⟩
   ·split at h
    ·rename_i hx;cases aeS.mp h;exact⟨by lia,hx⟩
    ·exact nomatch h
  ·rintro⟨h1,h2⟩;by_cases e:i=n
   ·subst e;exact .inr (by rw [if_pos h2];exact aeS.mpr rfl)
   ·exact .inl ⟨by lia,h2⟩
theorem yC {rs:List Rm}{x:Str}:∀ n,(hV rs x n).Nodup
 | 0=>ag9
 | n+1=>by
  unfold hV;rw [af3];refine⟨yC n,by split<;>simp,fun a ha b hb z=>?_⟩;subst z;have:=(mem_nums.mp ha).1;split at hb
  ·cases aeS.mp hb;lia
  ·exact nomatch hb
structure LockMap (B H:Hp)(kvs:List (Key×V))(D:Str->List Nat):Prop where
 non:∀ x,b9 kvs (.inr x)=none->D x=[]
 som:∀ x v,b9 kvs (.inr x)=some v->∃ a:Addr,v=.ref a/\B a=none/\H a=some (.lst ((D x).map fun i=>V.int (i:Nat)))
 inj:∀ x y a,b9 kvs (.inr x)=some (.ref a)->b9 kvs (.inr y)=some (.ref a)->x=y
theorem LockMap.congr {B H:Hp}{kvs:List (Key×V)}{D D':Str->List Nat}(h:LockMap B H kvs D)(e:∀ x,D x=D' x):LockMap B H kvs D':=by
 have:D=D':=funext e;rw [← this];exact h
theorem LockMap.keep {B H H':Hp}{kvs:List (Key×V)}{D:Str->List Nat}(h:LockMap B H kvs D)(s:∀ a xs,B a=none->H a=some (.lst xs)->H' a=some (.lst xs)):LockMap B H' kvs D :=
 ⟨h.non,fun x v e=>let ⟨a,e1,e2,e3⟩:=h.som x v e;⟨a,e1,e2,s _ _ e2 e3⟩,h.inj⟩
theorem LockMap.more {B H:Hp}{kvs:List (Key×V)}{D:Str->List Nat}(h:LockMap B H kvs D){z:Str}{a:Addr}{i:Nat}(e:b9 kvs (.inr z)=some (.ref a)) :
 LockMap B (upd H a (.lst ((D z++[i]).map fun i=>V.int (i:Nat)))) kvs (fun x=>if x=z then D x++[i] else D x):=by
 refine⟨fun x hx=>?_,fun x v hx=>?_,h.inj⟩
 ·have:x≠z:=fun w=>by rw [w,e] at hx;cases hx
  rw [if_neg this];exact h.non x hx
 ·obtain⟨b,rfl,h1,h2⟩:=h.som x v hx;refine⟨b,rfl,h1,?_⟩;by_cases w:x=z
  ·subst w;rw [e] at hx;cases hx;rw [ag,if_pos rfl]
  ·have:b≠a:=fun q=>by subst q;exact w (h.inj x z b hx e)
   rw [ah this,if_neg w];exact h2
theorem LockMap.fresh {B H:Hp}{kvs:List (Key×V)}{D:Str->List Nat}(h:LockMap B H kvs D){z:Str}{l:Addr}{i:Nat}(e:b9 kvs (.inr z)=none)(hl:H l=none)(bl:B l=none) :
 LockMap B (upd H l (.lst ([i].map fun i=>V.int (i:Nat)))) (fU kvs (.inr z) (.ref l)) (fun x=>if x=z then D x++[i] else D x):=by
 refine⟨fun x hx=>?_,fun x v hx=>?_,fun x y a hx hy=>?_⟩
 ·rw [gq] at hx;by_cases w:x=z
  ·subst w;rw [if_pos rfl] at hx;cases hx
  ·rw [if_neg (fun q=>w (by cases q;rfl))] at hx;rw [if_neg w];exact h.non x hx
 ·rw [gq] at hx;by_cases w:x=z
  ·subst w;rw [if_pos rfl] at hx;cases hx;refine⟨l,rfl,bl,?_⟩;rw [ag,if_pos rfl,h.non x e];rfl
  ·rw [if_neg (fun q=>w (by cases q;rfl))] at hx;obtain⟨b,rfl,h1,h2⟩:=h.som x v hx;refine⟨b,rfl,h1,?_⟩;rw [ah (af h2 hl),if_neg w];exact h2
 ·rw [gq] at hx hy;by_cases w:x=z<;>by_cases w':y=z
  ·rw [w,w']
  ·subst w;rw [if_pos rfl] at hx;cases hx;rw [if_neg (fun q=>w' (by cases q;rfl))] at hy;obtain⟨b,q,_,h2⟩:=h.som y _ hy;cases q;rw [hl] at h2;cases h2
  ·subst w';rw [if_pos rfl] at hy;cases hy;rw [if_neg (fun q=>w (by cases q;rfl))] at hx;obtain⟨b,q,_,h2⟩:=h.som x _ hx;cases q;rw [hl] at h2;cases h2
  ·rw [if_neg (fun q=>w (by cases q;rfl))] at hx;rw [if_neg (fun q=>w' (by cases q;rfl))] at hy;exact h.inj x y a hx hy
end K7
namespace L2
open PySem PyProof.Rows
theorem qG {K:PySem.W.Frag}{nl:Nat}{ix:List Nat}{tf:TT}{te:TE}{σ:St}{D:Addr}{ys:List V}{H:Hp}{x:V}{nxt:List V->Hp->Prop}{i j:Nat}(a:Addr)(v1 v2:V)(hx:x=.ref a)(hs:SqT K H a [v1,v2])
 (hl:(((cn nl ix σ).set i (some v1)).set j (some v2)).drop nl=ix.map fun j=>(σ[j]?).join)
 (h:tf (((cn nl ix σ).set i (some v1)).set j (some v2)) H fun b H5=>if b=true then te (((cn nl ix σ).set i (some v1)).set j (some v2)) H5 fun y H6=>H6 D=some (.lst ys)/\ys.length < sizeLine/\nxt (ys++[y]) (upd H6 D (.lst (ys++[y]))) else nxt ys H5) :
 bN nl ix (zP K 2 (kQ (bg i) (kQ (bg j) abf))) tf te σ D ys H x nxt:=by
 subst hx;unfold bN zP kQ bg abf;exact⟨a,_,rfl,hs,rfl,v1,[v2],rfl,v2,[],rfl,rfl,⟨by simp,hl⟩,h⟩
end L2
namespace K7
open PySem L2 PyProof.Rows
inductive Com (ks:List Str)(rs:List Rm):Str->Prop
 | key {x:Str}:x∈ks->Com ks rs x
 | room {x:Str} {r:Rm}:r∈rs->(∀ y∈r.1,Com ks rs y)->x∈r.2->Com ks rs x
def dd:List Str->List Str
 | []=>[]
 | a::r=>if a∈dd r then dd r else a::dd r
theorem mem_dd {x:Str}:∀ {l:List Str},x∈dd l↔x∈l
 | []=>Iff.rfl
 | a::r=>by
  unfold dd;split
  ·rename_i h;rw [mem_dd,ae7];refine⟨.inr,fun z=>z.elim (fun e=>?_) id⟩;subst e;exact mem_dd.mp h
  ·rw [ae7,ae7,mem_dd]
theorem zQ:∀ l:List Str,(dd l).Nodup
 | []=>ag9
 | a::r=>by
  unfold dd;split
  ·exact zQ r
  ·rename_i h;exact afG.mpr ⟨h,zQ r⟩
def tW (l:List Str)(C:List Str):Nat:=(l.filter fun x=>decide (x ∉ C)).length
def bj (r:Rm)(C:List Str):Nat:=tW (dd r.1) C
theorem rF {z:Str}{C C':List Str}(hz:z ∉ C)(hC:∀ x,x∈C'↔x∈C\/x=z):∀ l:List Str,l.Nodup->tW l C'+(if z∈l then 1 else 0)=tW l C
 | [],_=>rfl
 | a::l,nd=>by
  rw [afG] at nd;have ih:=rF hz hC l nd.2;unfold tW at ih ⊢;rw [agy,agy];by_cases e:a=z
  ·subst e;rw [if_neg nd.1] at ih;have h1:a∈C':=(hC a).mpr (.inr rfl);simp [h1,hz];simpa using ih
  ·have h1:a∈C'↔a∈C:=⟨fun h=>((hC a).mp h).resolve_right e,fun h=>(hC a).mpr (.inl h)⟩;have h2:(z∈a::l)↔z∈l:=⟨fun h=>(ae7.mp h).resolve_left (fun q=>e q.symm),fun h=>ae6 _ h⟩;by_cases h3:a∈C
   ·simp only [h1.mpr h3,h3,not_true_eq_false,decide_false,afA,agF,h2];exact ih
   ·have h3':a ∉ C':=fun q=>h3 (h1.mp q);simp only [h3',h3,not_false_eq_true,decide_true,ahy,h2,afr];lia
theorem rP {z:Str}{C C':List Str}(hz:z ∉ C)(hC:∀ x,x∈C'↔x∈C\/x=z)(r:Rm):bj r C'+(if z∈r.1 then 1 else 0)=bj r C:=by
 have:=rF hz hC (dd r.1) (zQ _);unfold bj;simp only [mem_dd] at this;exact this
theorem wantN_zero {r:Rm}{C:List Str}:bj r C=0↔∀ x∈r.1,x∈C:=by
 unfold bj tW;rw [af6,ag0];constructor
 ·intro h x hx;have:=h x (mem_dd.mpr hx);exact afN fun q=>this (by simpa using q)
 ·intro h x hx;simpa using h x (mem_dd.mp hx)
theorem xH (r:Rm):bj r []=(dd r.1).length:=by
 unfold bj tW;rw [agX.mpr];intro x _;simp
def pend:List Nat->List Rm->Nat
 | m::ws,r::rs=>(if m=0 then 0 else r.2.length)+pend ws rs
 | _,_=>0
theorem uN:∀ (ws:List Nat) (rs:List Rm) (i m:Nat) (r:Rm),ws[i]? = some (m+1)->rs[i]? = some r->pend (ws.set i m) rs+(if m=0 then r.2.length else 0)=pend ws rs
 | [],_,_,_,_,h,_=>by simp at h
 | _::_,[],_,_,_,_,h=>by simp at h
 | a::ws,b::rs,0,m,r,h1,h2=>by
  simp only [List.getElem?_cons_zero,ajr] at h1 h2;subst h1 h2;simp only [List.set_cons_zero,pend,Nat.add_one_ne_zero,agF];split<;>lia
 | a::ws,b::rs,i+1,m,r,h1,h2=>by
  simp only [ah8] at h1 h2;have:=uN ws rs i m r h1 h2;simp only [List.set_cons_succ,pend];lia
theorem yG:∀ (ws:List Nat) (rs:List Rm),pend ws rs<=(rs.flatMap (·.2)).length
 | [],_=>afe _
 | _::_,[]=>afe _
 | a::ws,b::rs=>by
  have:=yG ws rs;simp only [pend,agd,aeR];split<;>lia
def vh (rs:List Rm)(C:List Str):List Nat:=(List.range rs.length).filter fun i=>decide (bj ((rs[i]?).getD ([],[])) C=0)
def mF (hand locks:List Str):Bool:=locks.all fun x=>decide (locks.count x<=hand.count x)
def kL (hand:List Str)(r:Rm):List Str:=r.1.foldl List.erase hand++r.2
theorem eW (x:Str):∀ (l h:List Str),(l.foldl List.erase h).count x=h.count x - l.count x
 | [],h=>by simp
 | a::l,h=>by
  rw [ah5,eW x l,aiu,ahG];by_cases e:a=x
  ·subst e;simp;lia
  ·have:¬ x=a:=fun z=>e z.symm;simp [e,this]
theorem oV:∀ (l h:List Str),(l.foldl List.erase h).length<=h.length
 | [],h=>ae1 _
 | a::l,h=>by
  rw [ah5];exact aft (oV l _) (aiF ..)
theorem ac6 {hand locks:List Str}(h:mF hand locks=true){i:Nat}(hi:i < locks.length):locks[i]∈(locks.take i).foldl List.erase hand:=by
 unfold mF at h;rw [agR] at h;have h1:=agW (h locks[i] (afh hi));have h2:=eW locks[i] (locks.take i) hand;have e:locks=locks.take i++locks[i]::locks.drop (i+1):=by rw [← afU hi,afD]
 have h3:locks.count locks[i]=(locks.take i).count locks[i]+(1+(locks.drop (i+1)).count locks[i]):=by
  have:=afJ (List.count locks[i]) e;rw [afR,List.count_cons_self] at this;lia
 exact af9.mp (by lia)
def aE (ks:List Str)(rs:List Rm)(order:List Nat):List Str:=order.foldl (fun hd i=>kL hd ((rs[i]?).getD ([],[]))) ks
theorem nY (ks:List Str)(rs:List Rm)(order:List Nat)(i:Nat):aE ks rs (order++[i])=kL (aE ks rs order) ((rs[i]?).getD ([],[])):=by
 unfold aE;rw [ajy]
 rfl
def rE (rs:List Rm)(hand:List Str)(order:List Nat):List Nat:=(List.range rs.length).filter fun i=>!decide (i∈order) && mF hand ((rs[i]?).getD ([],[])).1
def Gone (ks:List Str)(rs:List Rm)(order:List Nat):Prop:=∀ j i,order[j]? = some i->i < rs.length/\i ∉ order.take j/\mF (aE ks rs (order.take j)) ((rs[i]?).getD ([],[])).1=true
theorem Sep.side {H0 H:Hp}{p kA rA a:Addr}{ks:List Str}{L:List RC}{vs:List V}{o:HO}(x:Sep H0 H p kA rA ks L)(n:a ∉ own kA rA L)(f:H0 a=none)(h:H a=Option.some (.lst vs)):Sep H0 (upd H a o) p kA rA ks L:=by
 have ap:a≠p:=x.dk0.ne f;have ne:∀ b∈own kA rA L,b≠a:=fun b hb z=>n (z▸hb);refine⟨x.dk0,x.dk.up ap,fun b u nb e=>by rw [ah (af e f)];exact x.but b u nb e,x.fr,x.nd,by rw [ah (ne _ (own_mem.mpr (.inl rfl)))];exact x.hk,by rw [ah (ne _ (own_mem.mpr (.inr (.inl rfl))))];exact x.hr,fun y hy=>?_⟩;obtain⟨a1,a2,a3⟩:=x.it y hy;refine⟨?_,by rw [ah (ne _ (own_mem.mpr (.inr (.inr ⟨y,hy,.inl rfl⟩))))];exact a2,by rw [ah (ne _ (own_mem.mpr (.inr (.inr ⟨y,hy,.inr rfl⟩))))];exact a3⟩;rw [ah fun z=>?_]
 ·exact a1
 ·rw [z,h] at a1;cases a1
theorem jv {α β:Type}(f:α->β):∀ (l:List α) (k:Nat),(l.map f).eraseIdx k=(l.eraseIdx k).map f
 | [],_=>rfl
 | _::_,0=>rfl
 | a::l,k+1=>by simp [jv f l k]
theorem xa {m n:Nat}(h:m < n)(l:n<=2000):seqIndex? (m:Int) n=some m:=(aiv (Int.natCast_nonneg m) (by lia)).trans (by simp)
def yD:Sp:=fun vs H Q _=>∃ (p q:Addr) (ks:List Str) (n:Nat),vs=[.ref p,.ref q,.int n]/\DeckAt H p/\H q=some (.lst (ks.map V.str))/\q≠p/\ks≠[]/\(∀ k∈ks,bD k)/\n<=60/\∀ (t kA rA:Addr) (keys:List Str) (L:List RC) (H':Hp),H' t=some (.tup [.ref kA,.ref rA])->Sep H H' p kA rA keys L->L.length=n->(∀ x∈L,PlU ks x.r)->(∀ k∈keys,k∈ks)->keys.length<=12->Q (.ref t) H'
inductive GrI (p q:Addr)(ks:List Str)(n:Nat)(H:Hp)(i:Nat)(σ':L2.St)(H':Hp):Prop
 | mk (kA hA rA:Addr) (keys hand:List Str) (L:List RC) (sp:Int) (x3 x8 x9 x10:Option V):σ'=[some (.ref p),some (.ref q),some (.int n),x3,some (.ref kA),some (.ref hA),some (.ref rA),some (.int sp),x8,x9,x10]->Sep H H' p kA rA keys L->L.length=i->(∀ x∈L,PlU ks x.r)->(∀ k∈keys,k∈ks)->keys.length<=12->0<=sp->H' hA=some (.lst (hand.map V.str))->hA ∉ own kA rA L->H hA=none->(∀ k∈hand,k∈ks)->hand.length<=12+12 * i->GrI p q ks n H i σ' H'
theorem pO {ks:List Str}:∀ {ys:List V},(∀ y∈ys,∃ z∈ks,y=V.str z)->∃ ss:List Str,ys=ss.map V.str/\∀ x∈ss,x∈ks
 | [],_=>⟨[],rfl,fun _ h=>nomatch h⟩
 | y::ys,h=>by
  obtain⟨ss,rfl,k⟩:=pO fun z hz=>h z (ae6 _ hz);obtain⟨z,hz,rfl⟩:=h y ae0;refine⟨z::ss,rfl,fun x hx=>?_⟩;rcases ae7.mp hx with e | e
  ·rw [e];exact hz
  ·exact k x e
section
variable {P:Program}{w:World}{K:PySem.W.Frag}{mg:Str->Option Value}{base:Heap}
theorem aS:aJ ["deck","kinds","many","few","keys","hand","rooms","spare","k","lock","gives"] ["deck","kinds","many"] (ar cS):=scM rfl rfl rfl rfl (by decide +kernel)
theorem nX:(["k","kinds","deck"]:List Str).Nodup:=by decide +kernel
theorem nM:(["j","kinds","deck"]:List Str).Nodup:=by decide +kernel
theorem aaA {f fN:Addr}{fd fdN:FuncData}(F:Fun K "_law_grown" "_law_grown" cS f fd)(ay:bF P w K mg base CX0 2 fN fdN ["deck"] iO)(av:Cal K mg "_law_next" ["deck"] fN fdN)(aU:mg "len" = none)(aP:mg "range" = none)(pW:mg "int" = none)(bz:mg "list" = none)(wB:mg "min" = none):bF P w K mg base CX0 3 f fd ["deck","kinds","many"] yD:=by
 refine F.ok aS (fun vs H Q E h=>?_) (fun cdv A outer s H vs Q E hr h=>?_)
 ·obtain⟨p,q,ks,n,rfl,_⟩:=h
  rfl
 ·obtain⟨p,q,ks,n,rfl,dk,hq,qp,ne,kk,hn,k⟩:=h;have hu:=i6 hr;refine⟨_,(aj (aD (i:=3) aS.nd rfl (.inl rfl) (aF aT (c9 (ae (aI a9 (pcl ay av hr rfl (ae (pv 0) ai)) ak) (ae (aI a9 (pcl ay av hr rfl (ae (pv 0) ai)) ak) ai))) (aZ lQ rfl pW (by decide +kernel) (ae (b7 gy (aI a9 (pcl ay av hr rfl (ae (pv 0) ai)) ak) ak (aM _)) ai)) (fun _ _=>rfl)))
   (aj (eO (i:=4) (tg:=.Name "k" _) (outer:=ar (cS)) (N:=["deck","kinds","many","few","keys","hand","rooms","spare","k","lock","gives"]) (N':=["k","kinds","deck"]) (nl:=1) (ix:=[1,0]) aS.nd rfl (.inl rfl) rfl rfl rfl (bK rfl aP (ae (pv 3) ai))
    (fun _ _ _ _=>(az (i:=0) nX rfl (.inl rfl) (.inr rfl))) (fun _ _ _ _=>bX)
    (fun _ _ _ _=>(aF (dv (K:=K) rfl) (pv 1) (aI a9 (pcl ay av hr rfl (ae (pv 2) ai)) (ax (h9 (K:=K) rfl) rfl aU afi (ae (pv 1) ai))) (fun _ _=>rfl))))
   (aj (aD (i:=5) aS.nd rfl (.inl rfl) (aZ bu rfl bz (by decide +kernel) (ae (pv 4) ai)))
   (aj (aD (i:=6) aS.nd rfl (.inl rfl) fm)
   (aj (aD (i:=7) aS.nd rfl (.inl rfl) ak)
   (aj (aR (b4 afq rfl (bK rfl aP (ae (pv 2) ai)) (az (i:=8) aS.nd rfl (.inl rfl))
    (aj (aD (i:=9) aS.nd rfl (.inl rfl) (aF aT (pv 1) (aI a9 (pcl ay av hr rfl (ae (pv 0) ai)) (ax aA rfl aU afi (ae (pv 1) ai))) (fun _ _=>rfl)))
    (aj (aR (cu (aH gw (pv 5) fm (aM _))
     (au (aD (i:=9) aS.nd rfl (.inl rfl) (dc ae3 agl agm jC (pv 5) (ae (aI a9 (pcl ay av hr rfl (ae (pv 0) ai)) (ax aA rfl aU afi (ae (pv 5) ai))) ai)))) bf))
    (@aj _ _ _ _ _ (@aD _ _ 3 _ _ _ _ aS.nd rfl (.inl rfl) (@aF _ _ _ _ _ _ _ aT (@c9 _ _ _ _ (@dB _ _ _ _ _ (@ak _ _ _ _) (@dB _ _ _ _ _ (@ak _ _ _ _) (@dB _ _ _ _ _ (@ak _ _ _ _) (@dB _ _ _ _ _ (@ak _ _ _ _) (@dB _ _ _ _ _ (@ak _ _ _ _) (@dB _ _ _ _ _ (@ak _ _ _ _) (@ai _) rfl) rfl) rfl) rfl) rfl) rfl)) (aI a9 (pcl ay av hr rfl (ae (pv 0) ai)) ak) (fun _ _=>rfl)) rfl (by first | exact .inl rfl | exact .inr rfl))
    (aj (aR (cu (aH gy (aI a9 (pcl ay av hr rfl (ae (pv 0) ai)) ak) ak (aM _))
     (aj (aD (i:=3) aS.nd rfl (.inl rfl) (ax (rB rfl) rfl wB (by decide +kernel) (ae (pv 7) (ae (aI cV ak (aI a9 (pcl ay av hr rfl (ae (pv 0) ai)) ak)) ai))))
     (au (aD (i:=7) aS.nd rfl (.inl rfl) (aI aaH (pv 7) (pv 3))))) bf))
    (aj (eO (i:=10) (tg:=.Name "j" _) (outer:=ar (cS)) (N:=["deck","kinds","many","few","keys","hand","rooms","spare","k","lock","gives"]) (N':=["j","kinds","deck"]) (nl:=1) (ix:=[1,0]) aS.nd rfl (.inl rfl) rfl rfl rfl (bK rfl aP (ae (pv 3) ai))
    (fun _ _ _ _=>(az (i:=0) nM rfl (.inl rfl) (.inr rfl))) (fun _ _ _ _=>bX)
    (fun _ _ _ _=>(aF (dv (K:=K) rfl) (pv 1) (aI a9 (pcl ay av hr rfl (ae (pv 2) ai)) (ax (h9 (K:=K) rfl) rfl aU afi (ae (pv 1) ai))) (fun _ _=>rfl))))
    (aj (bq (dc ae3 afH afI bJ (pv 6) (ae (bZ (ae (c9 (ae (pv 9) ai)) (ae (pv 10) ai))) ai)))
    (au (aD (i:=5) aS.nd rfl (.inl rfl) (aI mG (pv 5) (pv 10))))))))))))
   (au (aQ (bZ (ae (pv 4) (ae (pv 6) ai))))))))))),?_⟩
  refine⟨_,rfl,p,rfl,dk,fun r1 H1 _ _ dk1 B1 _=>⟨_,4,rfl,rfl,(by show (0:Int) < 4;decide),?_⟩⟩;refine⟨_,rfl,p,rfl,dk1,fun r2 H2 _ _ dk2 B2 _=>⟨_,13,rfl,rfl,(by show (0:Int) < 13;decide),by show 2<=sizeLine;decide,fun l nl=>?_⟩⟩;have s3:Same H2 (upd H2 l (.lst ([r1 % 4,r2 % 13].map V.int))):=aq nl;have e3:(upd H2 l (.lst ([r1 % 4,r2 % 13].map V.int))) l=some (.lst ([r1 % 4,r2 % 13].map V.int)):=ag;have dk3:=dk2.same s3;have B3:But p H (upd H2 l (.lst ([r1 % 4,r2 % 13].map V.int))):=B1.trans (B2.trans (cB s3));have lp:=dk2.ne nl;refine⟨_,rfl,p,rfl,dk3,fun r3 H4 _ _ dk4 B4 _=>⟨_,8,rfl,rfl,(by show (0:Int) < 8;decide),?_⟩⟩;have e4:=B4 _ _ lp e3;have B04:=B3.trans B4;clear e3 s3 dk3 B3;refine⟨rfl,.inr ⟨_,rfl,?_⟩⟩;have key:∀ b:Bool,∃ m:Nat,m<=12/\atI (([r1 % 4,r2 % 13]:List Int).map V.int) (if b=true then 1 else 0)=some (.int m):=fun b=>by
   have a0:0<=r1 % 4:=afy _ (by decide);have a1:r1 % 4 < 4:=afp _ (by decide);have b0:0<=r2 % 13:=afy _ (by decide);have b1:r2 % 13 < 13:=afp _ (by decide);split
   ·exact⟨(r2 % 13).toNat,by lia,by rw [ai2 b0];rfl⟩
   ·exact⟨(r1 % 4).toNat,by lia,by rw [ai2 a0];rfl⟩
  obtain⟨m,hm,em⟩:=key (decide (V.int (r3 % 8)=V.int 3));refine⟨l,_,_,.int m,rfl,rfl,aAA e4,em,?_⟩;dsimp only [bg,tI,sd];refine aW _ _ _ _ _ _ _ _ _ ?_;refine⟨_,rfl,(m:Int),rfl,by lia,by lia,?_⟩;intro D nD;rw [afj];refine jV (Pr:=fun _ y=>∃ z∈ks,y=V.str z) nD dk4 (by lia) (fun x=>rfl) (fun G i R hi BG dG kG=>?_) (fun ys H5 len pr hD5 B5 dk5=>?_)
  ·exact pq rfl rfl (BG _ _ qp (B04 _ _ qp hq)) qp ne dG fun z G' hz dG' BG'=>kG _ _ ⟨z,hz,rfl⟩ dG' BG'
  obtain⟨keys,rfl,hkeys⟩:=pO fun y hy=>by
   obtain⟨i,e⟩:=aiq.mp hy;exact pr i y e
  rw [aeP] at len;have B05:=B04.trans B5;refine⟨_,rfl,D,_,rfl,.inl (aAA hD5),fun hA nH=>⟨afe _,fun rA nR=>?_⟩⟩;have nD0:H D=none:=B04.free (dk4.ne nD) nD;have s6:Same H5 (upd H5 hA (.lst (keys.map V.str))):=aq nH;have e6:(upd H5 hA (.lst (keys.map V.str))) hA=some (.lst (keys.map V.str)):=ag;have nH0:H hA=none:=B05.free (dk5.ne nH) nH;have DhA:hA≠D:=(af hD5 nH).symm;generalize upd H5 hA (.lst (keys.map V.str))=H6 at *;have s7:Same H6 (upd H6 rA (.lst [])):=aq nR;have e7:(upd H6 rA (.lst [])) rA=some (.lst []):=ag;have rAh:hA≠rA:=af e6 nR;have rAD:D≠rA:=af (s6 _ _ hD5) nR;have nR0:H rA=none:=B05.free (dk5.ne (s6.free nR)) (s6.free nR);have s57:=s6.trans s7;have e67:=s7 _ _ e6;generalize upd H6 rA (.lst [])=H7 at *;have sep:Sep H H7 p D rA keys []:=⟨dk,dk5.same s57,B05.trans (cB s57),fun a ha=>by
   unfold own at ha;simp only [aiw,ae7,af4,ahO] at ha;rcases ha with rfl | rfl
   ·exact nD0
   ·exact nR0,by unfold own;simp [rAD],s57 _ _ hD5,e7,fun x hx=>nomatch hx⟩
  have hAo:hA ∉ own D rA []:=fun h=>by
   unfold own at h;simp only [aiw,ae7,af4,ahO] at h;rcases h with h | h
   ·exact DhA h
   ·exact rAh h
  refine⟨fun σ' H'=>GrI p q ks n H n σ' H',?_,?_⟩
  ·rintro σ H8 ⟨kA,hA,rA,keys,hand,L,sp,x3,x8,x9,x10,rfl,sep,len,pl,hk,hkl,sp0,hh,ho,hh0,hin,hlen⟩;refine⟨_,rfl,_,rfl,by show 2<=sizeLine;decide,fun t nt=>?_⟩;exact k t kA rA keys L _ ag (sep.same (aq nt)) len pl hk hkl
  refine⟨_,rfl,(n:Int),rfl,by lia,by lia,?_⟩;rw [afj];refine fu (fun i σ' H'=>GrI p q ks n H i σ' H') ⟨D,hA,rA,keys,keys,[],40,_,_,_,_,rfl,sep,rfl,(fun _ h=>nomatch h),hkeys,by lia,by decide,e67,hAo,nH0,hkeys,by lia⟩ ?_ (fun σ H' z=>z);clear sep hAo e67 e7 s57 s7 s6 e6 hD5 nR nH nD pr;rintro i σ H8 hi ⟨kA,hA,rA,keys,hand,L,sp,x3,x8,x9,x10,rfl,sep,len,pl,hk,hkl,sp0,hh,ho,hh0,hin,hlen⟩;have q8:=sep.but _ _ qp hq;have hAp:hA≠p:=dk.ne hh0;refine pq rfl rfl q8 qp ne sep.dk fun lk H9 hlk dk9 B9=>?_;have sep9:=sep.on dk9 B9;have hh9:=B9 _ _ hAp hh;refine⟨fun σ' H'=>∃ (lk:Str) (hand:List Str),σ'=[some (.ref p),some (.ref q),some (.int n),x3,some (.ref kA),some (.ref hA),some (.ref rA),some (.int sp),some (.int (0+i)),some (.str lk),x10]/\lk∈ks/\Sep H H' p kA rA keys L/\H' hA=some (.lst (hand.map V.str))/\(∀ k∈hand,k∈ks)/\hand.length<=12+12 * i,?_,?_⟩;rotate_left
  ·refine⟨_,rfl,afe _,fun e ne=>?_⟩;have s1:Same H9 (upd H9 e (.lst [])):=aq ne;have e1:(upd H9 e (.lst [])) e=some (.lst []):=ag;have sepA:=sep9.same s1;have hhA:=s1 _ _ hh9;generalize upd H9 e (.lst [])=HA at *;refine gr hhA (SeesAll.strs _) (cP fun k hk=>kk k (hin k hk)) e1 hu ⟨_,rfl,?_⟩;cases hand with
   | nil=>exact⟨lk,[],rfl,hlk,sepA,hhA,hin,hlen⟩
   | cons z0 zs =>
   refine fT ?_;refine⟨_,rfl,.inl ⟨rfl,_,aAA hhA⟩,_,rfl,p,rfl,sepA.dk,fun r HB _ _ dkB BB _=>⟨_,rfl,hA,_,rfl,.inl (aAA (BB _ _ hAp hhA)),r,_,rfl,rfl,(by rw [aeP];show (0:Int) < ((z0::zs).length:Int);simp),?_⟩⟩;obtain⟨m,em,hm⟩:=md (r:=r) (n:=(z0::zs).length) (by simp);have em':r % (((z0::zs).map V.str).length:Int)=(m:Int):=by rw [aeP];exact em
   refine⟨hA,_,(m:Int),m,.str (z0::zs)[m],rfl,afJ (fun x=>[V.int x]) em',BB _ _ hAp hhA,by lia,by lia,xa (by rw [aeP];exact hm) (by rw [aeP];lia),by rw [aeZ,aeO hm];rfl,?_⟩;have sepB:=(sepA.on dkB BB).side (o:=.lst (((z0::zs).map V.str).eraseIdx m)) ho hh0 (BB _ _ hAp hhA);refine⟨(z0::zs)[m],(z0::zs).eraseIdx m,rfl,hin _ (afh hm),sepB,by rw [ag,jv],fun k hk=>hin k (ajz hk),?_⟩;have:=ajL (z0::zs) m;lia
  clear hlen hin hh hh9 sep9 dk9 B9 sep q8 hlk;clear hand lk H9 H8;rintro σ H8 ⟨lk,hand,rfl,hlk,sep,hh,hin,hlen⟩;have lens:L.length<=60:=by lia
  refine⟨by show 6<=sizeLine;decide,fun l nl=>?_⟩;have s1:Same H8 (upd H8 l (.lst (([0,1,1,1,2,3]:List Int).map V.int))):=aq nl;have e1:(upd H8 l (.lst (([0,1,1,1,2,3]:List Int).map V.int))) l=some (.lst (([0,1,1,1,2,3]:List Int).map V.int)):=ag;have dk1:=sep.dk.same s1;have lp:=sep.dk.ne nl;refine⟨_,rfl,p,rfl,dk1,fun r H9 _ _ dk9 B9 _=>⟨_,6,rfl,rfl,(by show (0:Int) < 6;decide),?_⟩⟩;have e9:=B9 _ _ lp e1;have B89:But p H8 H9:=(cB s1).trans B9;obtain⟨mi,hmi,ha⟩:=adV (xs:=[0,1,1,1,2,3]) (r:=r % 6) (afy _ (by decide)) (afp _ (by decide));have hmi':0<=mi/\mi<=3:=by simp only [ae7,af4,ahO] at hmi;lia
  obtain⟨m,rfl⟩:∃ m:Nat,mi=(m:Int):=⟨mi.toNat,by lia⟩;refine⟨l,_,_,.int m,rfl,rfl,aAA e9,ha,?_⟩;clear e9 B9 dk1 lp e1 s1 ha hmi;refine⟨fun σ' H'=>∃ (m:Nat) (sp:Int),σ'=[some (.ref p),some (.ref q),some (.int n),some (.int m),some (.ref kA),some (.ref hA),some (.ref rA),some (.int sp),some (.int (0+i)),some (.str lk),x10]/\m<=12/\0<=sp/\DeckAt H' p/\But p H8 H',?_,?_⟩;rotate_left
  ·refine⟨_,rfl,p,rfl,dk9,fun r2 HA _ _ dkA BA _=>⟨_,12,rfl,rfl,(by show (0:Int) < 12;decide),rfl,_,rfl,uI (fun _=>?_) (fun _=>?_)⟩⟩
   ·refine⟨_,rfl,_,rfl,p,rfl,dkA,fun r3 HB _ _ dkB BB _=>⟨_,9,rfl,rfl,(by show (0:Int) < 9;decide),4,_,rfl,rfl,_,_,rfl,?_⟩⟩;have a0:0<=r3 % 9:=afy _ (by decide);have a1:r3 % 9 < 9:=afp _ (by decide);have mi:(if 4+r3 % 9 < sp then 4+r3 % 9 else sp)<=sp/\0<=(if 4+r3 % 9 < sp then 4+r3 % 9 else sp)/\(if 4+r3 % 9 < sp then 4+r3 % 9 else sp)<=12:=by split<;>lia
    generalize (if 4+r3 % 9 < sp then 4+r3 % 9 else sp)=mv at mi ⊢;obtain⟨mv,rfl⟩:∃ n:Nat,mv=(n:Int):=⟨mv.toNat,by lia⟩;refine⟨_,rfl,_,rfl,_,_,rfl,rfl,?_⟩;exact⟨mv,_,rfl,by lia,by lia,dkB,B89.trans (BA.trans BB)⟩
   ·exact⟨m,sp,rfl,by lia,sp0,dkA,B89.trans BA⟩
  clear B89 dk9 sp0 hmi';rintro σ H9 ⟨m,sp,rfl,hm,sp0,dk9,B9⟩;have sep9:=sep.on dk9 B9;have hh9:=B9 _ _ hAp hh;dsimp only [bg,tI,sd];refine aW _ _ _ _ _ _ _ _ _ ?_;refine⟨_,rfl,(m:Int),rfl,by lia,by lia,?_⟩;intro D nD;rw [afj];refine jV (Pr:=fun _ y=>∃ z∈ks,y=V.str z) nD dk9 (by lia) (fun x=>rfl) (fun G i R hi BG dG kG=>?_) (fun ys HA len' pr hDA BA dkA=>?_)
  ·exact pq rfl rfl (BG _ _ qp (sep9.but _ _ qp hq)) qp ne dG fun z G' hz dG' BG'=>kG _ _ ⟨z,hz,rfl⟩ dG' BG'
  obtain⟨gives,rfl,hgives⟩:=pO fun y hy=>by
   obtain⟨i,e⟩:=aiq.mp hy;exact pr i y e
  rw [aeP] at len';have sepA:=sep9.on dkA BA;have hhA:=BA _ _ hAp hh9;refine⟨_,rfl,.inl ⟨rfl,_,aAA sepA.hr⟩,_,rfl,by show 1<=sizeLine;decide,fun d nd=>?_⟩;have s1:Same HA (upd HA d (.lst [.str lk])):=aq nd;have e1:(upd HA d (.lst [.str lk])) d=some (.lst [.str lk]):=ag;have nd9:H9 d=none:=BA.free (dkA.ne nd) nd;have dD:d≠D:=(af hDA nd).symm;generalize upd HA d (.lst [.str lk])=HB at *;refine⟨_,rfl,by show 2<=sizeLine;decide,fun t nt=>?_⟩;have s2:Same HB (upd HB t (.tup [.ref d,.ref D])):=aq nt;have e2:(upd HB t (.tup [.ref d,.ref D])) t=some (.tup [.ref d,.ref D]):=ag;generalize upd HB t (.tup [.ref d,.ref D])=HC at *;have sAC:=s1.trans s2;have B9C:But p H9 HC:=BA.trans (cB sAC);have dkC:=dkA.same sAC;have sepC:=sepA.same sAC;have hhC:=sAC _ _ hhA;have hDC:=sAC _ _ hDA;refine⟨rA,_,_,rfl,rfl,sepC.hr,by rw [aeP];exact aC (by lia),?_⟩;have sepD:=sep9.more (y:=⟨t,d,D,([lk],gives)⟩) dkC B9C nd9 nD dD e2 (s2 _ _ e1) hDC;have rh:hA≠rA:=fun z=>ho (by rw [z];exact own_mem.mpr (.inr (.inl rfl)));have rD:D≠rA:=fun z=>sep9.out nD (by rw [z];exact own_mem.mpr (.inr (.inl rfl)));have hhD:(upd HC rA (.lst (L.map (fun x=>V.ref x.t)++[.ref t]))) hA=some (.lst (hand.map V.str)):=by rw [ah rh];exact hhC
  have hDD:(upd HC rA (.lst (L.map (fun x=>V.ref x.t)++[.ref t]))) D=some (.lst (gives.map V.str)):=by rw [ah rD];exact hDC
  generalize upd HC rA (.lst (L.map (fun x=>V.ref x.t)++[.ref t]))=HD at *;refine⟨_,rfl,_,rfl,hA,D,_,_,rfl,rfl,hhD,hDD,by rw [aeP,aeP];exact afo (aC (by lia)),fun hB nB=>?_⟩;refine⟨kA,hB,rA,keys,hand++gives,L++[⟨t,d,D,([lk],gives)⟩],sp,_,_,_,_,rfl,sepD.same (aq nB),by simp [len],fun x hx=>?_,hk,hkl,sp0,by rw [ag,ae2],sepD.out nB,sepD.free nB,fun k hk=>?_,?_⟩
  ·rcases aeT.mp hx with q | q
   ·exact pl x q
   ·rw [aeS.mp q];exact⟨⟨lk,rfl,hlk⟩,hgives,by show gives.length<=12;lia⟩
  ·rcases aeT.mp hk with q | q
   ·exact hin k q
   ·exact hgives k q
  ·rw [aeR];lia
theorem qm {K K':PySem.W.Frag}{i j:Nat}{σ:L2.St}{q p:Addr}{xs:List V}{G:Hp}{R:VK}(h1:σ[i]? = some (some (.ref q)))(h2:σ[j]? = some (some (.ref p)))(hq:G q=some (.lst xs))(qp:q≠p)(pos:0 < xs.length)(dG:DeckAt G p)
 (k:∀ (m:Nat) v G',xs[m]? = some v->DeckAt G' p->But p G G'->R v G') :
 tOp (adp K) (wV i) (tOp (rI (fun _ j=>0 < j) fun i j=>.int (i % j)) (xq iO [] E0 (eP (wV j) kX)) (tCB (fun xs H Q=>∃ p ys,xs=[V.ref p]/\(SqL K' H p ys\/SqT K' H p ys)/\Q (.int ys.length) H) (eP (wV i) kX))) σ G R:=by
 refine⟨_,h1,_,h2,p,rfl,dG,fun r G' r0 r1 dG' B' _=>⟨_,h1,q,_,rfl,.inl (aAA (B' _ _ qp hq)),r,_,rfl,rfl,(by show (0:Int) < (xs.length:Int);lia),?_⟩⟩;obtain⟨m,em,hm⟩:=md (r:=r) pos;refine⟨q,_,(m:Int),xs[m],rfl,afJ V.int em,aAA (B' _ _ qp hq),bw (aeO hm),k m _ _ (aeO hm) dG' B'⟩
theorem abN {xs:List V}{k:Nat}:wU xs none (some (k:Int))=xs.take k:=by
 unfold wU;rw [HT.sIx_none,HT.sIx_nat,als,age];rcases Nat.le_total k xs.length with h | h
 ·rw [agi h]
 ·rw [ajR h,afE (ae1 _),afE h]
theorem vA {α:Type}{l:List α}{m:Nat}{y:α}(h:l[m]? = some y):∃ L1 L2,l=L1++y::L2:=by
 obtain⟨hm,rfl⟩:=aeU.mp h;exact⟨l.take m,l.drop (m+1),by rw [← afU hm,afD]⟩
def ring3:List Str:=["far","qq","w"]
theorem uS:∀ x∈ring3,bD x:=fun x hx=>by
 unfold ring3 at hx;simp only [ae7,af4,ahO] at hx;rcases hx with rfl | rfl | rfl<;>exact⟨by decide +kernel,by decide +kernel,by decide +kernel⟩
def aaZ:Sp:=fun vs H Q _=>∃ (H0:Hp) (p kA rA q:Addr) (ks keys:List Str) (L:List RC),vs=[.ref p,.ref kA,.ref rA,.ref q]/\Sep H0 H p kA rA keys L/\H0 q=some (.lst (ks.map V.str))/\q≠p/\ks≠[]/\(∀ k∈ks,bD k)/\(∀ k∈keys,k∈ks)/\keys.length<=12/\(∀ x∈L,PlU ks x.r)/\L.length<=60 ∧
 ∀ (t kB:Addr) (keys':List Str) (L':List RC) (H':Hp),H' t=some (.tup [.ref kB,.ref rA])->Sep H0 H' p kB rA keys' L'->L'.length<=L.length+3->(∀ x∈L',PlU (ks++ring3) x.r)->(∀ k∈keys',k∈ks++ring3)->keys'.length<=24->Q (.ref t) H'
inductive BnI (H0:Hp)(p rA q:Addr)(way:Int)(U:List Str)(kn ln:Nat)(σ':L2.St)(H':Hp):Prop
 | mk (kA:Addr) (keys:List Str) (L:List RC) (x5 x6 x7:Option V):σ'=[some (.ref p),some (.ref kA),some (.ref rA),some (.ref q),some (.int way),x5,x6,x7]->Sep H0 H' p kA rA keys L->(∀ x∈L,PlU U x.r)->(∀ k∈keys,k∈U)->keys.length<=kn->L.length<=ln->BnI H0 p rA q way U kn ln σ' H'
inductive RgI (H0:Hp)(p kA rA q rg:Addr)(way:Int)(U keys ring:List Str)(ln i:Nat)(σ':L2.St)(H':Hp):Prop
 | mk (L:List RC) (x5 x7:Option V):σ'=[some (.ref p),some (.ref kA),some (.ref rA),some (.ref q),some (.int way),x5,some (.ref rg),x7]->Sep H0 H' p kA rA keys L->(∀ x∈L,PlU U x.r)->L.length<=ln+i->rg ∉ own kA rA L->H' rg=some (.lst (ring.map V.str))->RgI H0 p kA rA q rg way U keys ring ln i σ' H'
theorem qW {H0 H:Hp}{p kA rA:Addr}{ks U:List Str}{L:List RC}(x:Sep H0 H p kA rA ks L)(u:∀ k∈U,bD k)(pl:∀ x∈L,PlU U x.r):∃ ds,SeesAll H (L.map fun x=>V.ref x.t) ds/\PyData.canLayAll0 ds=true :=
 ⟨_,jZ x.rooms,mR fun r hr=>by
  obtain⟨y,hy,rfl⟩:=ae4.mp hr;obtain⟨⟨k,e,m⟩,a,_⟩:=pl y hy;exact⟨fun z hz=>by rw [e] at hz;rw [aeS.mp hz];exact u k m,fun z hz=>u z (a z hz)⟩⟩
theorem cJ:aJ ["deck","keys","rooms","kinds","way","kind","ring","k"] ["deck","keys","rooms","kinds"] (ar gM):=scM rfl rfl rfl rfl (by decide +kernel)
theorem abG {f fN:Addr}{fd fdN:FuncData}(F:Fun K "_law_bent" "_law_bent" gM f fd)(ay:bF P w K mg base CX0 2 fN fdN ["deck"] iO)(av:Cal K mg "_law_next" ["deck"] fN fdN)(aU:mg "len" = none)(aP:mg "range" = none):bF P w K mg base CX0 3 f fd ["deck","keys","rooms","kinds"] aaZ:=by
 refine F.ok cJ (fun vs H Q E h=>?_) (fun cdv A outer s H vs Q E hr h=>?_)
 ·obtain⟨H0,p,kA,rA,q,ks,keys,L,rfl,_⟩:=h
  rfl
 ·obtain⟨H0,p,kA,rA,q,ks,keys,L,rfl,sep,hq,qp,ne,kk,hk,hkl,pl,ll,k⟩:=h;have hu:=i6 hr;have kk':∀ k∈ks++ring3,bD k:=fun k h=>(aeT.mp h).elim (kk k) (uS k);refine⟨_,(aj (aD (i:=4) cJ.nd rfl (.inl rfl) (aI a9 (pcl ay av hr rfl (ae (pv 0) ai)) ak))
   (aj (aR (cu (PW.pt (ki (aH gy (pv 4) ak (aM _)) (gX (aH gw (pv 1) fm (aM _)))))
    (au (bq (dc ae3 agl agm jC (pv 1) (ae (aI a9 (pcl ay av hr rfl (ae (pv 0) ai)) (ax aA rfl aU afi (ae (pv 1) ai))) ai)))) bf))
   (aj (aR (cu (PW.pt (ki (aH gy (pv 4) ak (aM _)) (gX (aH gw (pv 2) fm (aM _)))))
    (aj (aD (i:=5) cJ.nd rfl (.inl rfl) (aF aT (pv 3) (aI a9 (pcl ay av hr rfl (ae (pv 0) ai)) (ax aA rfl aU afi (ae (pv 3) ai))) (fun _ _=>rfl)))
    (au (jD (pv 5) (acK (aF aO (aF aT (pv 2) (aI a9 (pcl ay av hr rfl (ae (pv 0) ai)) (ax aA rfl aU afi (ae (pv 2) ai))) (fun _ _=>rfl)) ak (fun _ _=>rfl)) ak uV)))) bf))
   (aj (aR (cu (PW.pt (ki (aH gy (pv 4) ak (aM _)) (gX (aH gw (pv 2) fm (aM _)))))
    (aj (aD (i:=1) cJ.nd rfl (.inl rfl) (aI mG (pv 1) (aF aO (aF aT (pv 2) (aI a9 (pcl ay av hr rfl (ae (pv 0) ai)) (ax aA rfl aU afi (ae (pv 2) ai))) (fun _ _=>rfl)) ak (fun _ _=>rfl))))
    (au (bq (u0 ae3 PySem.F.slot_list_clear PySem.F.type_list_clear zI (aF aO (aF aT (pv 2) (aI a9 (pcl ay av hr rfl (ae (pv 0) ai)) (ax aA rfl aU afi (ae (pv 2) ai))) (fun _ _=>rfl)) ak (fun _ _=>rfl)))))) bf))
   (aj (aR (cu (aH gy (pv 4) ak (aM _))
    (aj (aD (i:=6) cJ.nd rfl (.inl rfl) (jz tu (c9 (ae cN (ae cN (ae cN ai)))) mO (lJ (aI cV ak (aI a9 (pcl ay av hr rfl (ae (pv 0) ai)) ak)))))
    (au (aR (b4 afq rfl (bK rfl aP (ae (ax aA rfl aU afi (ae (pv 6) ai)) ai)) (az (i:=7) cJ.nd rfl (.inl rfl))
     (au (bq (dc ae3 afH afI bJ (pv 2) (ae (bZ (ae (c9 (ae (aF aT (pv 6) (pv 7) (fun _ _=>rfl)) ai)) (ae (aI mG (c9 (ae (aF aT (pv 6) (aI a9 (aI cV (pv 7) ak) (ax aA rfl aU afi (ae (pv 6) ai))) (fun _ _=>rfl)) ai)) (jz tu (pv 1) mO (lJ (aI a9 (pcl ay av hr rfl (ae (pv 0) ai)) ak)))) ai))) ai)))))))) bf))
   (au (aQ (bZ (ae (pv 1) (ae (pv 2) ai)))))))))),?_⟩
  refine⟨_,rfl,p,rfl,sep.dk,fun r1 H1 _ _ dk1 B1 _=>⟨_,5,rfl,rfl,(by show (0:Int) < 5;decide),?_⟩⟩;have sep1:=sep.on dk1 B1;show bg 4 (V.int (r1 % 5)) _ _ _;generalize r1 % 5=way;refine⟨fun σ' H'=>BnI H0 p rA q way ks 12 L.length σ' H',?_,?_⟩;rotate_left
  ·refine⟨_,rfl,rfl,_,rfl,uI (fun _=>?_) (fun _=>?_)⟩;rotate_left
   ·exact⟨kA,keys,L,_,_,_,rfl,sep1,pl,hk,hkl,ae1 _⟩
   refine⟨_,rfl,afe _,fun e ne=>?_⟩;have s1:Same H1 (upd H1 e (.lst [])):=aq ne;have e1:(upd H1 e (.lst [])) e=some (.lst []):=ag;have sepA:=sep1.same s1;generalize upd H1 e (.lst [])=HA at *;refine gr sepA.hk (SeesAll.strs _) (cP fun x hx=>kk x (hk x hx)) e1 hu ⟨_,rfl,?_⟩;cases keys with
   | nil=>exact⟨kA,[],L,_,_,_,rfl,sepA,pl,hk,hkl,ae1 _⟩
   | cons z0 zs =>
   refine fT ?_;have kp:=sepA.ne (own_mem.mpr (.inl rfl));refine⟨_,rfl,.inl ⟨rfl,_,aAA sepA.hk⟩,_,rfl,p,rfl,sepA.dk,fun r HB _ _ dkB BB _=>⟨_,rfl,kA,_,rfl,.inl (aAA (BB _ _ kp sepA.hk)),r,_,rfl,rfl,(by rw [aeP];show (0:Int) < ((z0::zs).length:Int);simp),?_⟩⟩;obtain⟨m,em,hm⟩:=md (r:=r) (n:=(z0::zs).length) (by simp);have em':r % (((z0::zs).map V.str).length:Int)=(m:Int):=by rw [aeP];exact em
   have sepB:=sepA.on dkB BB;refine⟨kA,_,(m:Int),m,.str (z0::zs)[m],rfl,afJ (fun x=>[V.int x]) em',sepB.hk,by lia,by lia,xa (by rw [aeP];exact hm) (by rw [aeP];lia),by rw [aeZ,aeO hm];rfl,?_⟩;rw [jv];have:=ajL (z0::zs) m;exact⟨kA,(z0::zs).eraseIdx m,L,_,_,_,rfl,sepB.key _,pl,fun k hk'=>hk k (ajz hk'),by lia,ae1 _⟩
  generalize hln:L.length=ln at *;clear sep1 dk1 B1 sep pl hk hkl hln;clear keys L;rintro σ H2 ⟨kA,keys,L,x5,x6,x7,rfl,sep,pl,hk,hkl,hln⟩;refine⟨fun σ' H'=>BnI H0 p rA q way ks 12 ln σ' H',?_,?_⟩;rotate_left
  ·refine⟨_,rfl,rfl,_,rfl,uI (fun _=>?_) (fun _=>?_)⟩;rotate_left
   ·exact⟨kA,keys,L,_,_,_,rfl,sep,pl,hk,hkl,hln⟩
   refine⟨_,rfl,afe _,fun e ne'=>?_⟩;have s1:Same H2 (upd H2 e (.lst [])):=aq ne';have e1:(upd H2 e (.lst [])) e=some (.lst []):=ag;have sepA:=sep.same s1;generalize upd H2 e (.lst [])=HA at *;obtain⟨ds,sds,lds⟩:=qW sepA kk pl;refine gr sepA.hr sds lds e1 hu ⟨_,rfl,?_⟩;cases L with
   | nil=>exact⟨kA,keys,[],_,_,_,rfl,sepA,pl,hk,hkl,hln⟩
   | cons z0 zs =>
   refine fT ?_;refine pq rfl rfl (sepA.but _ _ qp hq) qp ne sepA.dk fun lk HB hlk dkB BB=>?_;have sepB:=sepA.on dkB BB;have rp:=sepA.ne (own_mem.mpr (.inr (.inl rfl)));refine⟨_,rfl,qm rfl rfl sepB.hr rp (by simp) dkB fun m v HC hv dkC BC=>?_⟩;rw [aeZ] at hv;obtain⟨y,hy,rfl⟩:=agr.mp hv;obtain⟨L1,L2,eL⟩:=vA hy;have sepC:=sepB.on dkC BC;generalize z0::zs=L at *;subst eL;have my:y∈L1++y::L2:=aeW _ ae0;obtain⟨h1,h2,h3⟩:=sepC.it y my;obtain⟨⟨lk0,elk,_⟩,py2,py3⟩:=pl y my;refine⟨y.t,_,0,.ref y.d,rfl,rfl,aAB h1,rfl,y.d,_,0,0,rfl,rfl,h2,by rw [elk];rfl,?_⟩;have sepD:=sepC.lock [lk];refine⟨kA,keys,L1++⟨y.t,y.d,y.w,([lk],y.r.2)⟩::L2,_,_,_,rfl,?_,fun x hx=>?_,hk,hkl,by simpa using hln⟩
   ·exact (by rw [elk];exact sepD:Sep H0 (upd HC y.d (.lst ((y.r.1.map V.str).set 0 (.str lk)))) p kA rA keys (L1++⟨y.t,y.d,y.w,([lk],y.r.2)⟩::L2))
   ·rcases aeT.mp hx with q | q
    ·exact pl x (aff _ q)
    ·rcases ae7.mp q with q | q
     ·rw [q];exact⟨⟨lk,rfl,hlk⟩,py2,py3⟩
     ·exact pl x (aeW _ (ae6 _ q))
  clear sep pl hk hkl hln;rintro σ H3 ⟨kA,keys,L,x5,x6,x7,rfl,sep,pl,hk,hkl,hln⟩;refine⟨fun σ' H'=>BnI H0 p rA q way ks 24 ln σ' H',?_,?_⟩;rotate_left
  ·refine⟨_,rfl,rfl,_,rfl,uI (fun _=>?_) (fun _=>?_)⟩;rotate_left
   ·exact⟨kA,keys,L,_,_,_,rfl,sep,pl,hk,by lia,hln⟩
   refine⟨_,rfl,afe _,fun e ne'=>?_⟩;have s1:Same H3 (upd H3 e (.lst [])):=aq ne';have e1:(upd H3 e (.lst [])) e=some (.lst []):=ag;have sepA:=sep.same s1;generalize upd H3 e (.lst [])=HA at *;obtain⟨ds,sds,lds⟩:=qW sepA kk pl;refine gr sepA.hr sds lds e1 hu ⟨_,rfl,?_⟩;cases L with
   | nil=>exact⟨kA,keys,[],_,_,_,rfl,sepA,pl,hk,by lia,hln⟩
   | cons z0 zs =>
   refine fT ?_;have rp:=sepA.ne (own_mem.mpr (.inr (.inl rfl)));refine⟨_,rfl,qm rfl rfl sepA.hr rp (by simp) sepA.dk fun m v HC hv dkC BC=>?_⟩;rw [aeZ] at hv;obtain⟨y,hy,rfl⟩:=agr.mp hv;have my:=afB hy;have sepC:=sepA.on dkC BC;obtain⟨h1,h2,h3⟩:=sepC.it y my;obtain⟨_,py2,py3⟩:=pl y my;refine⟨y.t,_,1,.ref y.w,rfl,rfl,aAB h1,rfl,kA,y.w,_,_,rfl,rfl,sepC.hk,h3,by rw [aeP,aeP];exact afo (aC (by lia)),fun kB nB=>?_⟩;have sepD:=(sepC.same (aq (o:=.lst (keys.map V.str++y.r.2.map V.str)) nB)).newk (ks':=keys++y.r.2) (sepC.out nB) (sepC.free nB) (by rw [ag,ae2]);generalize upd HC kB (.lst (keys.map V.str++y.r.2.map V.str))=HD at *;clear hy my h1 h2 h3;refine qm rfl rfl sepD.hr rp (by simp) sepD.dk fun m2 v HE hv dkE BE=>?_;rw [aeZ] at hv;obtain⟨x,hx,rfl⟩:=agr.mp hv;obtain⟨L1,L2,eL⟩:=vA hx;have sepE:=sepD.on dkE BE;generalize z0::zs=L at *;subst eL;have mx:x∈L1++x::L2:=aeW _ ae0;obtain⟨h1,h2,h3⟩:=sepE.it x mx;obtain⟨px1,px2,px3⟩:=pl x mx;refine⟨x.t,_,1,.ref x.w,rfl,rfl,aAB h1,rfl,.inl ⟨rfl,_,aAA h3⟩,x.w,_,rfl,rfl,h3,?_⟩;refine⟨kB,keys++y.r.2,L1++⟨x.t,x.d,x.w,(x.r.1,[])⟩::L2,_,_,_,rfl,sepE.inner [],fun z hz=>?_,fun z hz=>?_,by rw [aeR];lia,by simpa using hln⟩
   ·rcases aeT.mp hz with q | q
    ·exact pl z (aff _ q)
    ·rcases ae7.mp q with q | q
     ·rw [q];exact⟨px1,(fun k hk=>nomatch hk),by simp⟩
     ·exact pl z (aeW _ (ae6 _ q))
   ·exact (aeT.mp hz).elim (hk z) (py2 z)
  clear sep pl hk hkl hln;rintro σ H4 ⟨kA,keys,L,x5,x6,x7,rfl,sep,pl,hk,hkl,hln⟩;have inl:∀ k∈ks,k∈ks++ring3:=fun k h=>aff _ h;refine⟨fun σ' H'=>BnI H0 p rA q way (ks++ring3) 24 (ln+3) σ' H',?_,?_⟩
  ·rintro σ H5 ⟨kA,keys,L,x5,x6,x7,rfl,sep,pl,hk,hkl,hln⟩;refine⟨_,rfl,_,rfl,by show 2<=sizeLine;decide,fun t nt=>?_⟩;exact k t kA keys L _ ag (sep.same (aq nt)) hln pl hk hkl
  refine⟨_,rfl,rfl,_,rfl,uI (fun _=>?_) (fun _=>?_)⟩;rotate_left
  ·exact⟨kA,keys,L,_,_,_,rfl,sep,fun x hx=>(pl x hx).mono inl,fun k h=>inl k (hk k h),hkl,by lia⟩
  refine⟨by show 3<=sizeLine;decide,fun l3 n3=>?_⟩;have s5:Same H4 (upd H4 l3 (.lst (ring3.map V.str))):=aq n3;have e5:(upd H4 l3 (.lst (ring3.map V.str))) l3=some (.lst (ring3.map V.str)):=ag;have sep5:=sep.same s5;have l3p:=sep.dk.ne n3;refine⟨_,rfl,p,rfl,sep5.dk,fun r H6 _ _ dk6 B6 _=>⟨_,3,rfl,rfl,(by show (0:Int) < 3;decide),1,_,rfl,rfl,_,rfl,l3,_,rfl,aAA (B6 _ _ l3p e5),fun rg ng=>?_⟩⟩;obtain⟨m,em,m1,m3⟩:∃ m:Nat,1+r % 3=(m:Int)/\1<=m/\m<=3:=by
   have a0:0<=r % 3:=afy _ (by decide);have a1:r % 3 < 3:=afp _ (by decide);exact⟨(1+r % 3).toNat,by lia,by lia,by lia⟩
  have ec:wU (ring3.map V.str) none (some (1+r % 3))=(ring3.take m).map V.str:=by
   rw [em,aaX (by rw [aeP];exact m3),akY]
  have sep6:=sep5.on dk6 B6;have s7:Same H6 (upd H6 rg (.lst ((ring3.take m).map V.str))):=aq ng;have e7:(upd H6 rg (.lst ((ring3.take m).map V.str))) rg=some (.lst ((ring3.take m).map V.str)):=ag;have sep7:=sep6.same s7;have rgo:=sep6.out ng;have rgp:=sep6.dk.ne ng;show bg 6 (V.ref rg) _ (upd H6 rg (.lst (wU (ring3.map V.str) none (some (1+r % 3))))) _;rw [ec];generalize upd H6 rg (.lst ((ring3.take m).map V.str))=H7 at *;have rl:(ring3.take m).length=m:=by rw [afn];exact agi m3
  have rin:∀ k∈ring3.take m,k∈ks++ring3:=fun k h=>aeW _ (af0 h);generalize ring3.take m=ring at *;refine⟨fun σ' H'=>RgI H0 p kA rA q rg way (ks++ring3) keys ring ln 3 σ' H',?_,?_⟩
  ·rintro σ H8 ⟨L,x5,x7,rfl,sep,pl,hln,_,_⟩;exact⟨kA,keys,L,_,_,_,rfl,sep,pl,fun k h=>inl k (hk k h),hkl,hln⟩
  refine⟨_,rfl,rg,_,rfl,.inl (aAA e7),_,rfl,by rw [aeP];lia,by rw [aeP];lia,?_⟩;rw [afj,aeP];refine fu (fun i σ' H'=>RgI H0 p kA rA q rg way (ks++ring3) keys ring ln i σ' H') ⟨L,_,_,rfl,sep7,fun x hx=>(pl x hx).mono inl,hln,rgo,e7⟩ ?_ (fun σ H' ⟨L,x5,x7,e,s,pl,hl,o,g⟩=>⟨L,x5,x7,e,s,pl,by lia,o,g⟩);clear sep7 rgo e7 ec s7 sep6 sep5 s5 e5 pl hln sep;rintro i σ H8 hi ⟨L,x5,x7,rfl,sep,pl,hln,ro,hg⟩;have hi':i < ring.length:=hi;refine⟨_,rfl,.inl ⟨rfl,_,aAA sep.hr⟩,_,rfl,_,rfl,rg,_,_,.str ring[i],rfl,rfl,aAA hg,by rw [ajf];exact bw (by rw [aeZ,aeO hi'];rfl),by show 1<=sizeLine;decide,fun d nd=>?_⟩;have s1:Same H8 (upd H8 d (.lst [.str ring[i]])):=aq nd;have e1:(upd H8 d (.lst [.str ring[i]])) d=some (.lst [.str ring[i]]):=ag;generalize upd H8 d (.lst [.str ring[i]])=H9 at *;refine⟨_,rfl,_,rfl,_,1,rfl,rfl,_,rfl,rg,_,rfl,.inl (aAA (s1 _ _ hg)),_,_,rfl,rfl,(by rw [aeP];show (0:Int) < (ring.length:Int);lia),?_⟩;obtain⟨j,ej,hj⟩:=md (r:=0+(i:Int)+1) (n:=ring.length) (by lia);have ej':(0+(i:Int)+1) % ((ring.map V.str).length:Int)=(j:Int):=by rw [aeP];exact ej
  refine⟨rg,_,(j:Int),.str ring[j],rfl,afJ V.int ej',aAA (s1 _ _ hg),bw (by rw [aeZ,aeO hj];rfl),by show 1<=sizeLine;decide,fun l1 n1=>?_⟩;have s2:Same H9 (upd H9 l1 (.lst [.str ring[j]])):=aq n1;have e2:(upd H9 l1 (.lst [.str ring[j]])) l1=some (.lst [.str ring[j]]):=ag;generalize upd H9 l1 (.lst [.str ring[j]])=H10 at *;have s12:=s1.trans s2;have sep10:=sep.same s12;have kp:=sep.ne (own_mem.mpr (.inl rfl));have l1p:=(sep.same s1).dk.ne n1;refine⟨_,rfl,_,rfl,p,rfl,sep10.dk,fun r HB _ _ dkB BB _=>⟨_,2,rfl,rfl,(by show (0:Int) < 2;decide),_,rfl,kA,_,rfl,aAA (sep10.on dkB BB).hk,fun l2 n2=>?_⟩⟩;obtain⟨c,ec,hc⟩:∃ c:Nat,r % 2=(c:Int)/\c<=1:=by
   have a0:0<=r % 2:=afy _ (by decide);have a1:r % 2 < 2:=afp _ (by decide);exact⟨(r % 2).toNat,by lia,by lia⟩
  have ecut:wU (keys.map V.str) none (some (r % 2))=(keys.take c).map V.str:=by rw [ec,abN,akY]
  show aeb _ _ (upd HB l2 (.lst (wU (keys.map V.str) none (some (r % 2))))) _;rw [ecut];have sepB:=sep10.on dkB BB;have s3:Same HB (upd HB l2 (.lst ((keys.take c).map V.str))):=aq n2;have e3:(upd HB l2 (.lst ((keys.take c).map V.str))) l2=some (.lst ((keys.take c).map V.str)):=ag;generalize upd HB l2 (.lst ((keys.take c).map V.str))=HC at *;have tl:(keys.take c).length<=1:=by rw [afn];lia
  refine⟨l1,l2,_,_,rfl,rfl,s3 _ _ (BB _ _ l1p e2),e3,by rw [aeP];exact afo (aC (by show 1+_<=1000;lia)),fun D nD=>?_⟩;have s4:Same HC (upd HC D (.lst (([ring[j]]++keys.take c).map V.str))):=aq nD;have e4:(upd HC D (.lst (([ring[j]]++keys.take c).map V.str))) D=some (.lst (([ring[j]]++keys.take c).map V.str)):=ag;have ecat:([V.str ring[j]]++(keys.take c).map V.str)=([ring[j]]++keys.take c).map V.str:=by rw [ae2];rfl
  rw [ecat];generalize upd HC D (.lst (([ring[j]]++keys.take c).map V.str))=HD at *;refine⟨by show 2<=sizeLine;decide,fun t nt=>?_⟩;have s6:Same HD (upd HD t (.tup [.ref d,.ref D])):=aq nt;have e6:(upd HD t (.tup [.ref d,.ref D])) t=some (.tup [.ref d,.ref D]):=ag;generalize upd HD t (.tup [.ref d,.ref D])=HE at *;have sBE:Same HB HE:=s3.trans (s4.trans s6);have B8B:But p H8 HB:=(cB s12).trans BB;have B8E:But p H8 HE:=B8B.trans (cB sBE);have nDB:HB D=none:=s3.free nD;have nD8:H8 D=none:=B8B.free (dkB.ne nDB) nDB;have dp:d≠p:=sep.dk.ne nd;have hdB:=BB _ _ dp (s2 _ _ e1);have dD:d≠D:=af hdB nDB;have sepE:=sepB.same sBE;have L60:L.length<=70:=by lia
  refine⟨rA,_,_,rfl,rfl,sepE.hr,by rw [aeP];exact aC (by lia),?_⟩;have sepF:=sep.more (y:=⟨t,d,D,([ring[i]],[ring[j]]++keys.take c)⟩) sepE.dk B8E nd nD8 dD e6 (sBE _ _ hdB) (s6 _ _ e4);have rr:rg≠rA:=fun z=>ro (by rw [z];exact own_mem.mpr (.inr (.inl rfl)));refine⟨L++[⟨t,d,D,([ring[i]],[ring[j]]++keys.take c)⟩],_,_,rfl,sepF,fun x hx=>?_,by simp;lia,fun z=>?_,by rw [ah rr];exact B8E _ _ rgp hg⟩
  ·rcases aeT.mp hx with q | q
   ·exact pl x q
   ·rw [aeS.mp q];refine⟨⟨_,rfl,rin _ (afh hi')⟩,fun k h=>?_,by show ([ring[j]]++keys.take c).length<=12;rw [aeR,afT];lia⟩;rcases aeT.mp h with h | h
    ·rw [aeS.mp h];exact rin _ (afh hj)
    ·exact inl k (hk k (af0 h))
  ·rcases own_mem.mp z with h | h | ⟨x,hx,h⟩
   ·exact ro (own_mem.mpr (.inl h))
   ·exact ro (own_mem.mpr (.inr (.inl h)))
   ·rcases aeT.mp hx with q | q
    ·exact ro (own_mem.mpr (.inr (.inr ⟨x,q,h⟩)))
    ·rw [aeS.mp q] at h;rcases h with h | h
     ·exact af hg nd h
     ·exact af hg nD8 h
end
theorem z4 {xs ys zs:List V}{k:Nat}{y:V}(h:(ys++zs).Perm xs)(e:zs[k]? = some y):((ys++[y])++zs.eraseIdx k).Perm xs:=by
 refine .trans ?_ h;rw [afa];refine agN _ ?_;obtain⟨hk,rfl⟩:=aeU.mp e;have ez:zs=zs.take k++zs[k]::zs.drop (k+1):=by rw [← afU hk,afD]
 rw [List.eraseIdx_eq_take_drop_succ];exact .trans (ahY (l₁:=zs.take k)).symm (.of_eq ez.symm)
theorem ko {α β:Type}{f:α->β}:∀ {zs ys:List β},zs.Perm ys->∀ {xs:List α},xs.map f=zs->∃ ws:List α,ys=ws.map f/\ws.Perm xs:=by
 intro zs ys h
 induction h with
 | nil =>
  intro xs e;rw [ai3.mp e];exact⟨[],rfl,.refl _⟩
 | cons x p ih =>
  intro xs e;cases xs with
  | nil=>cases e
  | cons a t =>
   rw [afb] at e;injection e with e1 e2
   obtain⟨ws,rfl,pw⟩:=ih e2;exact⟨a::ws,by rw [afb,e1],pw.cons _⟩
 | swap x y l =>
  intro xs e;cases xs with
  | nil=>cases e
  | cons a t =>
   cases t with
   | nil=>cases e
   | cons b t =>
    rw [afb,afb] at e;injection e with e1 e2
    injection e2 with e2 e3
    exact⟨b::a::t,by rw [afb,afb,e1,e2,e3],.swap _ _ _⟩
 | trans _ _ ih1 ih2 =>
  intro xs e;obtain⟨ws,rfl,pw⟩:=ih1 e;obtain⟨vs,rfl,pv⟩:=ih2 rfl;exact⟨vs,rfl,pv.trans pw⟩
def ad5 (p q:Addr)(H H':Hp):Prop:=∀ b u,b≠p->b≠q->H b=some u->H' b=some u
theorem ve {K:PySem.W.Frag}{nl:Nat}{ix:List Nat}{a b:Nat}{σ:L2.St}{H1:Hp}{D p q:Addr}{Q:VK}{lo:Int}{xs:List V}(nD:H1 D=none)(dk:DeckAt H1 p)(hq:H1 q=some (.lst xs))(qp:q≠p)(hl:xs.length<=1000)
 (hc:∀ x,((cn nl ix σ).set 0 (some x)).drop nl=ix.map fun j=>(σ[j]?).join)
 (h1:∀ x,((cn nl ix σ).set 0 (some x))[a]? = some (some (.ref q)))(h2:∀ x,((cn nl ix σ).set 0 (some x))[b]? = some (some (.ref p)))
 (hd:∀ ys H,ys.Perm xs->H D=some (.lst ys)->DeckAt H p->ad5 p q H1 H->Q (.ref D) H) :
 i5 nl ix (bg 0) xj (tBM K "list" aa3 (wV a) (eP (tOp (rI (fun _ j=>0 < j) fun i j=>.int (i % j)) (xq iO [] E0 (eP (wV b) kX)) (tCB (fun xs H Q=>∃ p ys,xs=[V.ref p]/\(SqL K H p ys\/SqT K H p ys)/\Q (.int ys.length) H) (eP (wV a) kX))) kX)) σ (Itr lo xs.length) H1 D Q:=by
 have lim:1000000 < sizeLine:=by decide
 have Dp:D≠p:=dk.ne nD;have Dq:D≠q:=fun z=>by rw [z,hq] at nD;cases nD
 have s0:Same H1 (upd H1 D (.lst [])):=fun b u e=>by rw [ah (af e nD)];exact e
 refine iB (fun i ys H=>∃ zs:List V,ys.length=i/\(ys++zs).Perm xs/\H q=some (.lst zs)/\H D=some (.lst ys)/\ad5 p q H1 H/\DeckAt H p) ⟨xs,rfl,.refl _,s0 _ _ hq,ag,fun b u _ _ e=>s0 b u e,dk.same s0⟩ (fun i ys H ⟨_,_,_,_,h,_⟩=>h) ?_ ?_
 ·rintro i ys H hi ⟨zs,len,pm,hz,hD,B,dk'⟩;have pml:=pm.length_eq;rw [aeR] at pml;have zpos:0 < zs.length:=by lia
  refine cZ (hc _) ⟨_,h1 _,.inl ⟨rfl,_,aAA hz⟩,_,h2 _,p,rfl,dk',fun r H' _ _ dk2 B2 _=>⟨_,h1 _,q,_,rfl,.inl (aAA (B2 _ _ qp hz)),r,_,rfl,rfl,(by show (0:Int) < (zs.length:Int);lia),?_⟩⟩;obtain⟨m,em,hm⟩:=md (r:=r) zpos;have ey:zs[m]? = some zs[m]:=aeO hm;refine⟨q,_,(m:Int),m,zs[m],rfl,afJ (fun x=>[V.int x]) em,B2 _ _ qp hz,by lia,by lia,(aiv (Int.natCast_nonneg m) (by lia)).trans (by simp),ey,?_⟩;have hD':(upd H' q (.lst (zs.eraseIdx m))) D=some (.lst ys):=by rw [ah Dq];exact B2 _ _ Dp hD
  refine⟨hD',by lia,nx hi ⟨zs.eraseIdx m,by simp [len],z4 pm ey,by rw [ah Dq.symm,ag],ag,fun b u nb nq e=>?_,?_⟩⟩
  ·rw [ah (af e nD),ah nq];exact B2 b u nb (B b u nb nq e)
  ·exact (dk2.up qp).up Dp
 ·rintro ys H ⟨zs,len,pm,hz,hD,B,dk'⟩;have pml:=pm.length_eq;rw [aeR] at pml;have ez:zs=[]:=af6.mp (by lia);subst ez;rw [afO] at pm;exact hd ys H pm hD dk' B
structure HouseD (h:Hs):Prop where
 ok:gu h
 few:∃ U:List Str,U.length<=62/\∀ x,(x∈a7 h\/x∈aN h)->x∈U
 nk:(a7 h).length<=1000
 nl:(aN h).length<=1000
 pl:∀ r∈h.2,∃ k,r.1=[k]
 rl:h.2.length<=63
theorem HouseD.few' {h:Hs}(x:HouseD h):qk h:=⟨let ⟨U,a,b⟩:=x.few;⟨U,by lia,b⟩,x.nk,x.nl⟩
theorem p7 {α β:Type}{f:α->List β}{n:Nat}:∀ {l:List α},(∀ r∈l,(f r).length<=n)->(l.flatMap f).length<=n * l.length
 | [],_=>afe _
 | a::t,h=>by
  have h1:=h a ae0;have h2:=p7 (l:=t) fun r hr=>h r (ae6 _ hr);rw [agd,aeR,afr,Nat.mul_succ];lia
theorem ya {U keys:List Str}{rs:List Rm}(kk:∀ k∈U,bD k)(ul:U.length<=62)(hk:∀ k∈keys,k∈U)(hkl:keys.length<=24)(pl:∀ r∈rs,PlU U r)(rl:rs.length<=63):HouseD (keys,rs):=by
 have e1:∀ r∈rs,r.1.length<=1:=fun r hr=>by obtain⟨⟨k,e,_⟩,_⟩:=pl r hr;rw [e];exact ae1 _
 have e2:∀ r∈rs,r.2.length<=12:=fun r hr=>(pl r hr).2.2;have f1:=p7 (f:=fun x:Rm=>x.1) e1;have f2:=p7 (f:=fun x:Rm=>x.2) e2;refine⟨⟨fun k h=>kk k (hk k h),by show keys.length<=1000;lia,fun r hr=>?_,by show rs.length<=1000;lia⟩,⟨U,ul,fun x h=>?_⟩,?_,?_,fun r hr=>let ⟨⟨k,e,_⟩,_⟩:=pl r hr;⟨k,e⟩,rl⟩
 ·obtain⟨⟨k,e,m⟩,a,b⟩:=pl r hr;refine⟨fun z hz=>?_,by rw [e];exact ae1 _,by rw [e];show 1<=4;decide,by rw [e];exact ajM ..,fun z hz=>kk z (a z hz),by lia⟩;rw [e] at hz;rw [aeS.mp hz];exact kk k m
 ·rcases h with h | h
  ·rcases aeT.mp h with h | h
   ·exact hk x h
   ·obtain⟨r,hr,hx⟩:=afM.mp h;exact (pl r hr).2.1 x hx
  ·obtain⟨r,hr,hx⟩:=afM.mp h;obtain⟨⟨k,e,m⟩,_⟩:=pl r hr;rw [e] at hx;rw [aeS.mp hx];exact m
 ·show (keys++rs.flatMap (·.2)).length<=1000;rw [aeR];lia
 ·show (rs.flatMap (·.1)).length<=1000;lia
structure HouseE (U:List Str)(n:Nat)(h:Hs):Prop where
 kk:∀ k∈U,bD k
 hk:∀ k∈h.1,k∈U
 hl:h.1.length<=24
 pl:∀ r∈h.2,PlU U r
 rl:h.2.length<=n
theorem HouseE.houseD {U:List Str}{n:Nat}{h:Hs}(x:HouseE U n h)(ul:U.length<=62)(hn:n<=63):HouseD h:=ya (keys:=h.1) (rs:=h.2) x.kk ul x.hk x.hl x.pl (aft x.rl hn)
def yN (most:Nat)(h:Hs):Prop:=∃ U,HouseE U (most+3) h/\(U.length<=most+1\/U.length<=15)
theorem qC {U keys:List Str}{rs:List Rm}{most:Nat}(kk:∀ k∈U,bD k)(ul:U.length<=most+1\/U.length<=15)(hk:∀ k∈keys,k∈U)(hkl:keys.length<=24)(pl:∀ r∈rs,PlU U r)(rl:rs.length<=most+3):yN most (keys,rs):=⟨U,⟨kk,hk,hkl,pl,rl⟩,ul⟩
def kU (lo:Nat):Sp:=fun vs H Q _=>∃ (p:Addr) (most:Nat),vs=[.ref p,.int most]/\DeckAt H p/\lo<=most/\most<=60/\∀ (v:V) (h:Hs) (H':Hp),HouseAt H' v h->yN most h->DeckAt H' p->But p H H'->Q v H'
def aw (r:Rm):Str:=r.1.headD ""
def Plain (rs:List Rm):Prop:=∀ r∈rs,r.1=[aw r]
theorem Plain.sub {rs rs':List Rm}(h:Plain rs)(s:∀ r∈rs',r∈rs):Plain rs':=fun r hr=>h r (s r hr)
structure iI (hand:List Str)(rs:List Rm):Prop where
 cnt:∀ k,(rs.map aw).count k<=(hand++rs.flatMap (·.2)).count k
 com:∀ r∈rs,Com hand rs (aw r)
def adn (hand:List Str)(A:List Rm)(r:Rm)(B:List Rm):Prop:=aw r∈hand/\∀ q∈A++B,Com (hand.erase (aw r)++r.2) (A++B) (aw q)
theorem Com.lock {ks:List Str}{rs:List Rm}(pl:Plain rs){r:Rm}(hr:r∈rs)(h:Com ks rs (aw r)){x:Str}(hx:x∈r.2):Com ks rs x:=.room hr (fun y hy=>by rw [pl r hr] at hy;rw [aeS.mp hy];exact h) hx
theorem p6 {ks:List Str}{rs:List Rm}(pl:Plain rs){M:Str->Prop}(hk:∀ x∈ks,M x)(hr:∀ r∈rs,M (aw r)->∀ x∈r.2,M x):∀ {x},Com ks rs x->M x:=by
 intro x h
 induction h with
 | key h=>exact hk _ h
 | room h1 _ h3 ih=>exact hr _ h1 (ih _ (by rw [pl _ h1];exact aeS.mpr rfl)) _ h3
theorem abS {hand:List Str}{rs:List Rm}(pl:Plain rs)(f:iI hand rs)(ne:rs≠[]):∃ r∈rs,aw r∈hand:=by
 apply afN;intro no;cases rs with
 | nil=>exact ne rfl
 | cons r0 t =>
  have:∀ {x},Com hand (r0::t) x->x∈hand:=p6 pl (fun _ h=>h) fun r hr h=>absurd ⟨r,hr,h⟩ no;exact no ⟨r0,ae0,this (f.com r0 ae0)⟩
theorem mem_mid {A B:List Rm}{r q:Rm}:q∈A++r::B↔q=r\/q∈A++B:=by
 simp only [aeT,ae7];exact⟨fun h=>h.elim (fun z=>.inr (.inl z)) fun h=>h.elim .inl fun z=>.inr (.inr z),fun h=>h.elim (fun z=>.inr (.inl z)) fun h=>h.elim .inl fun z=>.inr (.inr z)⟩
theorem mP {rs:List Rm}{r:Rm}(h:r∈rs):∃ A B,rs=A++r::B:=aic h
theorem ub {hand:List Str}{rs:List Rm}(pl:Plain rs)(f:iI hand rs)(ne:rs≠[]):∃ A r B,rs=A++r::B/\adn hand A r B:=by
 obtain⟨r0,h0,hk⟩:=abS pl f ne;generalize ek:aw r0=k at hk;have plAB:∀ {A B:List Rm} {r:Rm},rs=A++r::B->Plain (A++B):=fun e=>pl.sub fun q hq=>by rw [e];exact mem_mid.mpr (.inr hq)
 by_cases any:∃ A r B,rs=A++r::B/\aw r=k/\Com (hand.erase k++r.2) (A++B) k
 ·obtain⟨A,r,B,e,lk,d⟩:=any;refine⟨A,r,B,e,by rw [lk];exact hk,fun q hq=>?_⟩;rw [lk];have all:∀ {x},Com hand rs x->Com (hand.erase k++r.2) (A++B) x:=p6 pl (fun x hx=>?_) fun q hq hc x hx=>?_
  ·exact all (f.com q (by rw [e];exact mem_mid.mpr (.inr hq)))
  ·by_cases z:x=k
   ·rw [z];exact d
   ·exact .key (aff _ ((ahS z).mpr hx))
  ·rw [e] at hq;rcases mem_mid.mp hq with z | z
   ·rw [z] at hx;exact .key (aeW _ hx)
   ·exact Com.lock (plAB e) z hc hx
 ·have none:∀ A r B,rs=A++r::B->aw r=k->¬ Com (hand.erase k++r.2) (A++B) k:=fun A r B e lk d=>any ⟨A,r,B,e,lk,d⟩;obtain⟨A,B,e⟩:=mP h0;have step:∀ {x},Com hand rs x->x=k\/∃ A r B,rs=A++r::B/\aw r=k/\Com (hand.erase k++r.2) (A++B) x:=p6 (M:=fun x=>x=k\/∃ A r B,rs=A++r::B/\aw r=k/\Com (hand.erase k++r.2) (A++B) x) pl (fun x hx=>?_) fun q hq hc x hx=>?_;rotate_left
  ·by_cases z:x=k
   ·exact .inl z
   ·exact .inr ⟨A,r0,B,e,ek,.key (aff _ ((ahS z).mpr hx))⟩
  ·right;rcases hc with z | ⟨A',r',B',e',lk',c'⟩
   ·obtain⟨A',B',e'⟩:=mP hq;exact⟨A',q,B',e',z,.key (aeW _ hx)⟩
   ·refine⟨A',r',B',e',lk',?_⟩;have nk:aw q≠k:=fun z=>none A' r' B' e' lk' (z▸c');rw [e'] at hq;rcases mem_mid.mp hq with z | z
    ·exact absurd (z▸lk') nk
    ·exact Com.lock (plAB e') z c' hx
  have nin:∀ q∈rs,k ∉ q.2:=fun q hq hx=>by
   rcases step (f.com q hq) with z | ⟨A',r',B',e',lk',c'⟩
   ·obtain⟨A',B',e'⟩:=mP hq;exact none A' q B' e' z (.key (aeW _ hx))
   ·have nk:aw q≠k:=fun z=>none A' r' B' e' lk' (z▸c');have hq':=hq;rw [e'] at hq';rcases mem_mid.mp hq' with z | z
    ·exact absurd (z▸lk') nk
    ·exact none A' r' B' e' lk' (Com.lock (plAB e') z c' hx)
  have c0:(rs.flatMap (·.2)).count k=0:=ag7.mpr fun z=>by
   obtain⟨q,hq,hx⟩:=afM.mp z;exact nin q hq hx
  have c1:hand.count k<=1:=by
   have:k ∉ hand.erase k:=fun z=>none A r0 B e ek (.key (aff _ z));have h1:=ag7.mpr this;rw [List.count_erase_self] at h1;lia
  have cl:=f.cnt k;rw [afR,c0] at cl;have only:∀ q∈A++B,aw q≠k:=fun q hq z=>by
   have h1:(rs.map aw).count k=((A++B).map aw).count k+1:=by
    rw [e];simp only [ae2,afb,afR,ahG,ek,ahX,ahy];lia
   have h2:0 < ((A++B).map aw).count k:=af9.mpr (ae4.mpr ⟨q,hq,z⟩);lia
  refine⟨A,r0,B,e,by rw [ek];exact hk,fun q hq=>?_⟩;rw [ek];have all:∀ {x},Com hand rs x->x=k\/Com (hand.erase k++r0.2) (A++B) x:=p6 (M:=fun x=>x=k\/Com (hand.erase k++r0.2) (A++B) x) pl (fun x hx=>?_) fun q hq hc x hx=>?_
  ·exact (all (f.com q (by rw [e];exact mem_mid.mpr (.inr hq)))).resolve_left (only q hq)
  ·by_cases z:x=k
   ·exact .inl z
   ·exact .inr (.key (aff _ ((ahS z).mpr hx)))
  ·right;rw [e] at hq;rcases mem_mid.mp hq with z | z
   ·rw [z] at hx;exact .key (aeW _ hx)
   ·exact Com.lock (plAB e) z (hc.resolve_left (only q z)) hx
theorem xK {hand:List Str}{A B:List Rm}{r:Rm}(f:iI hand (A++r::B))(s:adn hand A r B):iI (hand.erase (aw r)++r.2) (A++B):=by
 refine⟨fun k=>?_,s.2⟩;have h1:=f.cnt k;have h2:(hand.erase (aw r)).count k=hand.count k - if aw r=k then 1 else 0:=by
  rw [aiu];simp only [afu]
 have h3:0 < hand.count (aw r):=af9.mpr s.1;simp only [ae2,afb,afY,agd,afR,ahG,afu] at h1 ⊢;rw [h2];by_cases z:aw r=k
 ·rw [if_pos z] at h1 ⊢;rw [z] at h3;lia
 ·rw [if_neg z] at h1 ⊢;lia
end K7
namespace L2
theorem tvE {i:Nat}{σ:St}{H:Hp}{Q:VK}{v:V}(h:σ[i]? = some (some v))(k:Q v H):wV i σ H Q:=⟨v,h,k⟩
end L2
namespace K7
open PySem L2 PyProof.Rows
def u9:Sp:=fun vs H Q _=>∃ (r:Addr) (us:List V) (rs:List Rm),vs=[.ref r]/\H r=some (.lst us)/\RoomsAt H us rs/\(∀ q∈rs,q.1.length<=4)/\rs.length<=200 ∧
 ∀ (d:Addr) (kvs:List (Key×V)) (H':Hp),H d=none->H' d=some (.dK kvs)->Same H H'->LockMap H H' kvs (fun x=>hV rs x rs.length)->Q (.ref d) H'
section
variable {P:Program}{w:World}{K:PySem.W.Frag}{mg:Str->Option Value}{base:Heap}
theorem bI:aJ ["rooms","numbers","number","locks","within","kind"] ["rooms"] (ar dI):=scM rfl rfl rfl rfl (by decide +kernel)
inductive aeh (r:Addr)(d:Addr)(H:Hp)(rs:List Rm)(σ':L2.St)(H':Hp):Prop
 | mk (x2 x3 x4 x5:Option V) (kvs:List (Key×V)):(σ'=[some (.ref r),some (.ref d),x2,x3,x4,x5])->(H' d=some (.dK kvs))->(Same H H')->(LockMap H H' kvs (fun x=>hV rs x rs.length))->aeh r d H rs σ' H'
inductive aem (r:Addr)(d:Addr)(H:Hp)(rs:List Rm)(i:Nat)(σ':L2.St)(H':Hp):Prop
 | mk (x2 x3 x4 x5:Option V) (kvs:List (Key×V)):(σ'=[some (.ref r),some (.ref d),x2,x3,x4,x5])->(H' d=some (.dK kvs))->(kvs.length<=4 * i)->(Same H H')->(LockMap H H' kvs (fun x=>hV rs x i))->aem r d H rs i σ' H'
inductive aeg (r:Addr)(d:Addr)(i:Nat)(aa:Addr)(bb:Addr)(H:Hp)(rs:List Rm)(σ':L2.St)(H':Hp):Prop
 | mk (x5:Option V) (kvs:List (Key×V)):(σ'=[some (.ref r),some (.ref d),some (.int i),some (.ref aa),some (.ref bb),x5])->(H' d=some (.dK kvs))->(kvs.length<=4 * (i+1))->(Same H H')->(LockMap H H' kvs (fun x=>hV rs x (i+1)))->aeg r d i aa bb H rs σ' H'
inductive aef (r:Addr)(d:Addr)(i:Nat)(aa:Addr)(bb:Addr)(ss:List Str)(H:Hp)(oA:Addr)(rs:List Rm)(j:Nat)(σ':L2.St)(H':Hp):Prop
 | mk (x5:Option V) (kvs':List (Key×V)):(σ'=[some (.ref r),some (.ref d),some (.int i),some (.ref aa),some (.ref bb),x5])->(H' d=some (.dK kvs'))->(kvs'.length<=4 * i+j)->(j<=ss.length)->(Same H H')->(H' oA=some (.lst (ss.map V.str)))->((∀ x,b9 kvs' (.inr x)≠some (.ref oA)))->(LockMap H H' kvs' (fun x=>hV rs x i++if x∈ss.take j then [i] else []))->aef r d i aa bb ss H oA rs j σ' H'
theorem xY {f:Addr}{fd:FuncData}(F:Fun K "rooms_by_lock" "rooms_by_lock" dI f fd)(de:mg "enumerate" = none)(mZ:mg "set" = none)(aV:mg "sorted" = none) :
 bF P w K mg base CX0 1 f fd ["rooms"] u9:=by
 refine F.ok bI (fun vs H Q E h=>?_) (fun cdv A outer s H vs Q E hr h=>?_)
 ·obtain⟨r,us,rs,rfl,_⟩:=h
  rfl
 ·obtain⟨r,us,rs,rfl,hr0,hR,h4,hn,k⟩:=h;refine⟨_,(aj (aD (i:=1) bI.nd rfl (.inl rfl) qb)
   (aj (aR (b4 afq rfl (yv rfl de (ae (pv 0) ai)) (eV rfl (aG (az (i:=2) bI.nd rfl (.inl rfl)) (aG (eV rfl (aG (az (i:=3) bI.nd rfl (.inl rfl)) (aG (az (i:=4) bI.nd rfl (.inl rfl)) bS))) bS)))
    (au (aR (b4 afq rfl (aX (ax (b8 rfl) rfl aV aha (ae (aZ (gi rfl) rfl mZ (by decide +kernel) (ae (pv 3) ai)) ai))) (az (i:=5) bI.nd rfl (.inl rfl))
     (au (bq (dc ae3 afH afI bJ (dc ajH aiM PySem.F.type_dict_setdefault pG (pv 1) (ae (pv 5) (ae (c9 ai) ai))) (ae (pv 2) ai)))))))))
   (au (aQ (pv 1))))),?_⟩
  intro d nd;have s1:Same H (upd H d (.dK [])):=fun b u e=>by rw [ah (af e nd)];exact e
  refine⟨aeh r d H rs,?_,?_⟩
  ·rintro σ H2 ⟨x2,x3,x4,x5,kvs,rfl,hd,sm,lm⟩
   first | refine tvE rfl ?_ | refine⟨_,rfl,?_⟩
   exact k d kvs H2 nd hd sm lm
  first | refine tvE rfl ?_ | refine⟨_,rfl,?_⟩
  refine⟨r,rfl,⟨_,aAA (s1 _ _ hr0)⟩,?_⟩;refine aae (xs:=us) (aem r d H rs) ?_ (fun i σ H2 _ ⟨_,_,_,_,_,_,_,_,sm,_⟩=>aAA (sm _ _ hr0)) ?_ ?_
  ·exact⟨none,none,none,none,[],rfl,ag,afe _,s1,⟨fun x _=>rfl,(fun x v h=>nomatch h),(fun x y a h=>nomatch h)⟩⟩
  ·rintro i x σ H2 T hx ⟨x2,x3,x4,x5,kvs,rfl,hd,hk,sm,lm⟩ nT;have hi:i < us.length:=(aeU.mp hx).1;have hi':i < rs.length:=by rw [← hR.1];exact hi
   obtain⟨tt,aa,bb,rfl,q1,q2,q3⟩:=hR.2 i x _ hx (aeO hi');have sT:Same H2 (upd H2 T (.tup [.int (i:Int),.ref tt])):=fun b u e=>by rw [ah (af e nT)];exact e
   have g1:=sT _ _ (sm _ _ q1);have g2:=sT _ _ (sm _ _ q2);refine⟨T,_,rfl,aAB ag,rfl,_,_,rfl,_,_,rfl,tt,_,rfl,aAB g1,rfl,_,_,rfl,_,_,rfl,rfl,rfl,?_⟩;have hl4:(rs[i]).1.length<=4:=h4 _ (afh hi');have hT:=sm.trans sT;have lmT:LockMap H (upd H2 T (.tup [.int (i:Int),.ref tt])) kvs (fun x=>hV rs x i):=lm.keep fun a xs _ e=>sT a _ e;have hdT:=sT _ _ hd;generalize upd H2 T (.tup [.int (i:Int),.ref tt])=H3 at *;refine⟨aeg r d i aa bb H rs,?_,?_⟩
   ·rintro σ H4 ⟨x5,kvs4,rfl,hd4,hk4,sm4,lm4⟩;exact⟨_,_,_,_,kvs4,rfl,hd4,hk4,sm4,lm4⟩
   first | refine tvE rfl ?_ | refine⟨_,rfl,?_⟩
   refine⟨aa,(rs[i]).1,rfl,aAA g2,afx (ahW hl4) (by decide),fun sA ts nS hts=>?_⟩;have tl:ts.length<=4:=aft (aB (U:=(rs[i]).1) hts.1 fun x hx=>(hts.2 x).mp hx) hl4;refine⟨sA,ts,rfl,ag,afx tl (by decide),fun oA ss nO hp hso=>?_⟩;have s35:Same H3 (upd (upd H3 sA (cM P w sA ts)) oA (.lst (ss.map V.str))):=fun b u e=>by
    have e1:(upd H3 sA (cM P w sA ts)) b=some u:=by rw [ah (af e nS)];exact e
    have nO':(upd H3 sA (cM P w sA ts)) oA=none:=nO;rw [ah (af e1 nO')];exact e1
   have ho5:(upd (upd H3 sA (cM P w sA ts)) oA (.lst (ss.map V.str))) oA=some (.lst (ss.map V.str)):=ag;have nO3:H3 oA=none:=by
    by_cases z:oA=sA
    ·rw [z];exact nS
    ·rw [ah z] at nO;exact nO
   have smem:∀ x,x∈ss↔x∈(rs[i]).1:=fun x=>by rw [hp.mem_iff,hts.2 x]
   have snd:ss.Nodup:=hp.nodup_iff.mpr hts.1;have sl:ss.length<=4:=by rw [hp.length_eq];exact tl
   refine⟨oA,rfl,⟨_,aAA ho5⟩,?_⟩;refine bQ (xs:=ss.map V.str) (aef r d i aa bb ss H oA rs) ?_ (fun j σ H6 _ ⟨_,_,_,_,_,_,_,h,_,_⟩=>aAA h) ?_ ?_
   ·exact⟨_,kvs,rfl,s35 _ _ hdT,by (first | lia | lia),afe _,hT.trans s35,ho5,(fun x z=>let ⟨a,e1,_,e3⟩:=lmT.som x _ z;by cases e1;rw [nO3] at e3;cases e3),(lmT.keep fun a xs _ e=>s35 a _ e).congr fun x=>by rw [agV,if_neg (fun z=>nomatch z),afO]⟩
   ·rintro j y σ H6 hy ⟨x5',kv6,rfl,hd6,hk6,hj6,sm6,ho6,hno,lm6⟩;have hj:j < ss.length:=by
     have:=(aeU.mp hy).1;rw [aeP] at this;exact this
    rw [aeZ,aeO hj] at hy;cases hy;have hDz:(hV rs ss[j] i++if ss[j]∈ss.take j then [i] else [])=hV rs ss[j] i:=by
     rw [if_neg,afO];intro z;obtain⟨m,hm,e⟩:=agb.mp z;rw [ahi] at e;rw [afn] at hm;exact agu.mp snd m j (by (first | lia | lia)) hj (by (first | lia | lia)) e
    have hDD:∀ x,(if x=ss[j] then (hV rs x i++if x∈ss.take j then [i] else [])++[i] else (hV rs x i++if x∈ss.take j then [i] else []))=hV rs x i++if x∈ss.take (j+1) then [i] else []:=fun x=>by
     rw [afk,aeO hj];by_cases e:x=ss[j]
     ·rw [if_pos e,e,hDz,if_pos (show ss[j]∈ss.take j++(some ss[j]).toList from aeW _ (aeS.mpr rfl))]
     ·rw [if_neg e];by_cases e2:x∈ss.take j
      ·rw [if_pos e2,if_pos (aff _ e2)]
      ·rw [if_neg e2,if_neg];intro z;rcases aeT.mp z with z | z
       ·exact e2 z
       ·exact e (aeS.mp z)
    have nl:=uY rs ss[j] i;have nod:oA≠d:=bU ho6 hd6 (fun z=>nomatch z);have nOH:H oA=none:=hT.free nO3
    first | refine tvE rfl ?_ | refine⟨_,rfl,?_⟩
    refine⟨.inr (.inr (.inl ⟨rfl,.inl ⟨_,hd6⟩⟩)),_,rfl,afe _,fun l nl6=>?_⟩;have nlH:H l=none:=sm6.free nl6;have ndl:d≠l:=af hd6 nl6;have nol:oA≠l:=af ho6 nl6;have s6l:Same H6 (upd H6 l (.lst [])):=fun b u e=>by rw [ah (af e nl6)];exact e
    refine⟨d,kv6,Sum.inr ss[j],.ref l,rfl,rfl,by rw [ah ndl];exact hd6,aC (by (first | lia | lia)),fun v hv=>?_,fun hv=>?_⟩
    ·obtain⟨a,rfl,ha1,ha2⟩:=lm6.som _ v hv;rw [hDz] at ha2;have ha2':=s6l _ _ ha2;have nao:oA≠a:=fun z=>by subst z;exact hno _ hv
     refine⟨.inl ⟨rfl,_,aAA ha2'⟩,_,rfl,a,_,.int i,rfl,rfl,ha2',by rw [aeP];exact aC (by (first | lia | lia)),?_⟩;have e1:(List.map (fun i=>V.int ((i:Nat):Int)) (hV rs ss[j] i)++[V.int i])=(List.map (fun i=>V.int ((i:Nat):Int)) ((hV rs ss[j] i++if ss[j]∈ss.take j then [i] else [])++[i])):=by rw [hDz,ae2];rfl
     rw [e1];have lm7:=(lm6.keep fun a xs _ e=>s6l a _ e).more (i:=i) hv;refine⟨_,kv6,rfl,?_,by (first | lia | lia),hj,fun b u e=>?_,?_,?_,lm7.congr hDD⟩
     ·rw [ah (bU hd6 ha2 (fun z=>nomatch z)),ah ndl];exact hd6
     ·rw [ah (af e ha1)];exact s6l _ _ (sm6 _ _ e)
     ·rw [ah nao];exact s6l _ _ ho6
     ·exact hno
    ·refine⟨.inl ⟨rfl,[],aAA ?_⟩,_,rfl,l,[],.int i,rfl,rfl,?_,afg (by decide:0 < 1) (by decide),?_⟩
     ·rw [ah (agM ndl),ag]
     ·rw [ah (agM ndl),ag]
     have lm7:=lm6.fresh (i:=i) hv nl6 nlH;refine⟨_,_,rfl,?_,?_,hj,fun b u e=>?_,?_,fun x z=>?_,(lm7.congr hDD).keep fun b xs _ e=>?_⟩
     ·rw [ah ndl,ag]
     ·have:=dt kv6 (Sum.inr ss[j]) (.ref l)
      (first | lia | lia)
     ·rw [ah (af e nlH),ah (af e nd)];exact s6l _ _ (sm6 _ _ e)
     ·rw [ah nol,ah nod];exact s6l _ _ ho6
     ·rw [gq] at z;split at z
      ·exact nol (by cases z;rfl)
      ·exact hno x z
     ·by_cases z:b=l
      ·subst z;rw [ag] at e ⊢;exact e
      ·rw [ah z] at e ⊢;rw [ah (bU e hd6 (fun z=>nomatch z)),ah z];exact e
   ·rintro σ H6 ⟨x5',kv6,rfl,hd6,hk6,hj6,sm6,ho6,hno,lm6⟩;rw [aeP] at hk6 lm6;refine⟨_,kv6,rfl,hd6,by (first | lia | lia),sm6,lm6.congr fun x=>?_⟩;rw [afs];show _=hV rs x i++_;rw [aeO hi',ajQ];by_cases e:x∈ss
    ·rw [if_pos e,if_pos ((smem x).mp e)]
    ·rw [if_neg e,if_neg (fun z=>e ((smem x).mpr z))]
  ·rintro σ H2 ⟨x2,x3,x4,x5,kvs,rfl,hd,hk,sm,lm⟩;rw [hR.1] at lm;exact⟨_,_,_,_,kvs,rfl,hd,sm,lm⟩
def mK:Sp:=fun vs H Q _=>∃ (a r:Addr) (us:List V) (ks:List Str) (rs:List Rm),vs=[.ref a,.ref r]/\H a=some (.lst (ks.map V.str))/\H r=some (.lst us)/\RoomsAt H us rs/\(∀ q∈rs,q.1≠[]/\q.1.length<=4)/\rs.length<=200 ∧
 (ks++rs.flatMap (·.2)).length<=1000/\(∃ U:List Str,U.length < 64/\∀ x∈ks++rs.flatMap (·.2),x∈U) ∧
 ∀ (t A B:Addr) (ss:List Str) (ns:List Nat) (H':Hp),Same H H'->H A=none->H B=none->H' t=some (.tup [.ref A,.ref B])->H' A=some (.lst (ss.map V.str))->H' B=some (.lst (ns.map fun i=>V.int (i:Nat))) →
  ss.Nodup->sortedS ss=true->(∀ x,x∈ss↔Com ks rs x)->ns=vh rs ss->Q (.ref t) H'
theorem Com.mem {ks:List Str}{rs:List Rm}{x:Str}(h:Com ks rs x):x∈ks++rs.flatMap (·.2):=by
 cases h with
 | key h=>exact aff _ h
 | room h1 _ h3=>exact aeW _ (afM.mpr ⟨_,h1,h3⟩)
abbrev intsN (ns:List Nat):List V:=ns.map fun i=>V.int (i:Nat)
structure Rch (P:Program)(w:World)(ks:List Str)(rs:List Rm)(H1 H':Hp)(wA cA fA:Addr)(C F:List Str):Prop where
 hw:H' wA=some (.lst (intsN (rs.map fun q=>bj q C)))
 hc:H' cA=some (cM P w cA C)
 hf:H' fA=some (.lst (F.map V.str))
 sm:Same H1 H'
 nd:C.Nodup
 cC:∀ x∈C,Com ks rs x
 cF:∀ x∈F,Com ks rs x
 ke:∀ x∈ks,x∈C\/x∈F
 cl:∀ q∈rs,(∀ y∈q.1,y∈C)->∀ x∈q.2,x∈C\/x∈F
theorem Rch.all {P:Program}{w:World}{ks:List Str}{rs:List Rm}{H1 H':Hp}{wA cA fA:Addr}{C:List Str}(h:Rch P w ks rs H1 H' wA cA fA C []){x:Str}(c:Com ks rs x):x∈C:=by
 induction c with
 | key hx=>exact (h.ke _ hx).resolve_right (fun z=>nomatch z)
 | room hr _ hx ih=>exact (h.cl _ hr ih _ hx).resolve_right (fun z=>nomatch z)
theorem df:aJ ["keys","rooms","numbers","wanted","come","found","kind","number"] ["keys","rooms"] (ar fz):=scM rfl rfl rfl rfl (by decide +kernel)
theorem km:(["locks","within"]:List Str).Nodup:=by decide +kernel
theorem kc:(["number","many"]:List Str).Nodup:=by decide +kernel
inductive aec (a:Addr)(r:Addr)(d:Addr)(H1:Hp)(rs:List Rm)(σ':L2.St)(H':Hp):Prop
 | mk (wA:Addr):(σ'=[some (.ref a),some (.ref r),some (.ref d),some (.ref wA),none,none,none,none])->(H1 wA=none)->(H' wA=some (.lst (intsN (rs.map fun q=>bj q []))))->(Same H1 H')->aec a r d H1 rs σ' H'
inductive aee (a:Addr)(r:Addr)(d:Addr)(wA:Addr)(cA:Addr)(fA:Addr)(P:Program)(w:World)(ks:List Str)(rs:List Rm)(H1:Hp)(σ':L2.St)(H':Hp):Prop
 | mk (x6 x7:Option V) (C:List Str):(σ'=[some (.ref a),some (.ref r),some (.ref d),some (.ref wA),some (.ref cA),some (.ref fA),x6,x7])->(Rch P w ks rs H1 H' wA cA fA C [])->aee a r d wA cA fA P w ks rs H1 σ' H'
inductive aej (a:Addr)(r:Addr)(d:Addr)(wA:Addr)(cA:Addr)(fA:Addr)(P:Program)(w:World)(ks:List Str)(rs:List Rm)(H1:Hp)(m:Nat)(σ':L2.St)(H':Hp):Prop
 | mk (x6 x7:Option V) (C F:List Str):(σ'=[some (.ref a),some (.ref r),some (.ref d),some (.ref wA),some (.ref cA),some (.ref fA),x6,x7])->(Rch P w ks rs H1 H' wA cA fA C F)->(F.length+pend (rs.map fun q=>bj q C) rs=m)->(m<=1000)->aej a r d wA cA fA P w ks rs H1 m σ' H'
inductive adH (a:Addr)(r:Addr)(d:Addr)(wA:Addr)(cA:Addr)(fA:Addr)(P:Program)(w:World)(ks:List Str)(rs:List Rm)(H1:Hp)(m:Nat)(σ':L2.St)(H':Hp):Prop
 | mk (x6 x7:Option V) (C F:List Str):(σ'=[some (.ref a),some (.ref r),some (.ref d),some (.ref wA),some (.ref cA),some (.ref fA),x6,x7])->(Rch P w ks rs H1 H' wA cA fA C F)->(F.length+pend (rs.map fun q=>bj q C) rs=m - 1)->adH a r d wA cA fA P w ks rs H1 m σ' H'
inductive aen (a:Addr)(r:Addr)(d:Addr)(wA:Addr)(cA:Addr)(fA:Addr)(z:Str)(P:Program)(w:World)(C':List Str)(H1:Hp)(b:Addr)(rs:List Rm)(C:List Str)(m:Nat)(ks:List Str)(F0:List Str)(j:Nat)(σ':L2.St)(H':Hp):Prop
 | mk (x7:Option V) (ws:List Nat) (F:List Str):(σ'=[some (.ref a),some (.ref r),some (.ref d),some (.ref wA),some (.ref cA),some (.ref fA),some (.str z),x7])->(H' wA=some (.lst (intsN ws)))->(H' cA=some (cM P w cA C'))->(H' fA=some (.lst (F.map V.str)))->(Same H1 H')->(H' b=some (.lst (intsN (hV rs z rs.length))))->(ws.length=rs.length)->((∀ i q,rs[i]? = some q->ws[i]? = some (bj q C - if i∈(hV rs z rs.length).take j then 1 else 0)))->(F.length+pend ws rs=m - 1)->((∀ x∈F,Com ks rs x))->((∀ x∈F0,x∈F))->((∀ i∈(hV rs z rs.length).take j,∀ q,rs[i]? = some q->bj q C'=0->∀ x∈q.2,x∈F))->aen a r d wA cA fA z P w C' H1 b rs C m ks F0 j σ' H'
theorem vL {f fB:Addr}{fd fdB:FuncData}(F:Fun K "reached" "reached" fz f fd)(lB:bF P w K mg base CX0 1 fB fdB ["rooms"] u9)(eC:Cal K mg "rooms_by_lock" ["rooms"] fB fdB)
 (de:mg "enumerate" = none)(aU:mg "len" = none)(bz:mg "list" = none)(mZ:mg "set" = none)(aV:mg "sorted" = none) :
 bF P w K mg base CX0 2 f fd ["keys","rooms"] mK:=by
 refine F.ok df (fun vs H Q E h=>?_) (fun cdv A outer s H vs Q E hr h=>?_)
 ·obtain⟨a,r,us,ks,rs,rfl,_⟩:=h
  rfl
 ·obtain⟨a,r,us,ks,rs,rfl,ha,hr0,hR,h4,hn,hM,⟨U,hU,hUm⟩,k⟩:=h;have hu:=i6 hr;refine⟨_,(aj (aD (i:=2) df.nd rfl (.inl rfl) (pcl lB eC hr rfl (ae (pv 1) ai)))
   (aj (aR (eO (i:=3) (outer:=ar (fz)) (N:=["keys","rooms","numbers","wanted","come","found","kind","number"]) (N':=["locks","within"]) (nl:=2) (ix:=[]) df.nd rfl (.inl rfl) rfl rfl rfl (aX (pv 1))
    (fun _ _ _ _=>(jQ (K:=K) (n:=2) rfl rfl (aG (az (i:=0) km rfl (.inl rfl) (.inr rfl)) (aG (az (i:=1) km rfl (.inl rfl) (.inr rfl)) bS)))) (fun _ _ _ _=>bX)
    (fun _ _ _ _=>(ax (call_len_set (P:=P) (w:=w) rfl rfl) rfl aU afi (ae (aZ (qY (P:=P) (w:=w) (K:=K) rfl rfl rfl rfl) rfl mZ (by decide +kernel) (ae (pv 0) ai)) ai)))))
   (aj (aD (i:=4) df.nd rfl (.inl rfl) (vO qE rfl mZ (by decide +kernel)))
   (aj (aD (i:=5) df.nd rfl (.inl rfl) (aZ bu rfl bz (by decide +kernel) (ae (pv 0) ai)))
   (aj (aR (gj afq (vg (pv 5) (by intro _;rfl))
    (aj (aD (i:=6) df.nd rfl (.inl rfl) (u0 ae3 agl agm yc (pv 5)))
    (aj (aR (cu (aH (zd) (pv 6) (pv 4) rfl)
     (au tH) bf))
    (aj (bq (acW zL PySem.F.plainAttrs_set PySem.F.slot_set_add PySem.F.type_set_add oI (pv 4) (ae (pv 6) ai)))
    (au (aR (b4 afq rfl (aX (iE hu (pv 2) (pv 6) (c9 ai) ⟨rfl,rfl,rfl,rfl⟩)) (az (i:=7) df.nd rfl (.inl rfl))
     (aj (abO (pv 3) (pv 7) zo ak acG uV)
     (au (aR (cu (aH gy (aF aT (pv 3) (pv 7) (fun _ _=>rfl)) ak (aM _))
      (au (bq (dc ae3 agP agQ gE (pv 5) (ae (aF aO (aF aT (pv 1) (pv 7) (fun _ _=>rfl)) ak (fun _ _=>rfl)) ai)))) bf))))))))))))
   (au (aQ (bZ (ae (ax (b8 rfl) rfl aV aha (ae (pv 4) ai)) (ae (jP (outer:=ar (fz)) (N:=["keys","rooms","numbers","wanted","come","found","kind","number"]) (N':=["number","many"]) (nl:=2) (ix:=[]) rfl rfl rfl (yv rfl de (ae (pv 3) ai))
    (fun _ _ _ _=>(jQ (K:=K) (n:=2) rfl rfl (aG (az (i:=0) kc rfl (.inl rfl) (.inr rfl)) (aG (az (i:=1) kc rfl (.inl rfl) (.inr rfl)) bS)))) (fun _ _ _ _=>(dM (aH gy (pv 1) ak (aM _))))
    (fun _ _ _ _=>(pv 0))) ai)))))))))),?_⟩
  first | refine tvE rfl ?_ | refine⟨_,rfl,?_⟩
  refine⟨r,us,rs,rfl,hr0,hR,(fun q hq=>(h4 q hq).2),hn,fun d kvs H1 nd hd s1 lm=>?_⟩;have hRm:=hR.same s1;refine⟨aec a r d H1 rs,?_,?_⟩
  ·rintro σ H2 ⟨wA,rfl,nw,hw2,s2⟩;refine⟨rfl,fun cA nC=>?_⟩;have n1c:H1 cA=none:=s2.free nC;have nwc:wA≠cA:=af hw2 nC;have sC:Same H2 (upd H2 cA (cM P w cA [])):=fun b u e=>by rw [ah (af e nC)];exact e
   first | refine tvE rfl ?_ | refine⟨_,rfl,?_⟩
   refine⟨a,_,rfl,.inl (aAA (sC _ _ (s2 _ _ (s1 _ _ ha)))),fun fA nF=>?_⟩;have sF:Same (upd H2 cA (cM P w cA [])) (upd (upd H2 cA (cM P w cA [])) fA (.lst (ks.map V.str))):=fun b u e=>by rw [ah (af e nF)];exact e
   have n1f:H1 fA=none:=(s2.trans sC).free nF;have nwf:wA≠fA:=af (sC _ _ hw2) nF;have ncf:cA≠fA:=af (show (upd H2 cA (cM P w cA [])) cA=some _ from ag) nF;refine⟨aee a r d wA cA fA P w ks rs H1,?_,?_⟩
   ·rintro σ H3 ⟨x6,x7,C,rfl,R⟩;have cl64:C.length < 64:=afx (aB (U:=U) R.nd fun x hx=>hUm x (R.cC x hx).mem) hU
    first | refine tvE rfl ?_ | refine⟨_,rfl,?_⟩
    refine⟨cA,C,rfl,R.hc,cl64,fun oA ss nO hp hso=>?_⟩;have sO:Same H3 (upd H3 oA (.lst (ss.map V.str))):=fun b u e=>by rw [ah (af e nO)];exact e
    have nOH:H oA=none:=s1.free (R.sm.free nO);have hw3:=sO _ _ R.hw;have hmem:∀ x,x∈ss↔x∈C:=fun x=>hp.mem_iff;have snd:ss.Nodup:=hp.nodup_iff.mpr R.nd;have hwe:∀ q:Rm,bj q C=0↔bj q ss=0:=fun q=>by
     rw [wantN_zero,wantN_zero];exact⟨fun h x hx=>(hmem x).mpr (h x hx),fun h x hx=>(hmem x).mp (h x hx)⟩
    dsimp only [eP,kX];refine aW _ _ _ _ _ _ _ _ _ ?_
    first | refine tvE rfl ?_ | refine⟨_,rfl,?_⟩
    refine⟨wA,rfl,⟨_,aAA hw3⟩,?_⟩;intro D hD;have ho3:(upd H3 oA (.lst (ss.map V.str))) oA=some (.lst (ss.map V.str)):=ag;generalize upd H3 oA (.lst (ss.map V.str))=H4 at *;refine yI (xs:=intsN (rs.map fun q=>bj q C)) (fun i ys H'=>ys=intsN ((List.range i).filter fun i=>decide (bj ((rs[i]?).getD ([],[])) ss=0))/\i<=1000/\H' D=some (.lst ys)/\Same H4 H') ⟨rfl,by decide,ag,fun b u e=>by rw [ah (af e hD)];exact e⟩ (fun i ys H' ⟨_,_,h,_⟩=>h) (fun i ys H' ⟨_,_,_,sm⟩=>aAA (sm _ _ hw3)) ?_ ?_
    ·rintro i ys H5 x T hx ⟨rfl,hi0,hD5,sm⟩ nT;have hi:i < rs.length:=by
      have:=(aeU.mp hx).1;rw [aeP,aeP] at this;exact this
     have hil:i < (intsN (rs.map fun q=>bj q C)).length:=(aeU.mp hx).1;have ex:x=.int ((bj rs[i] C:Nat):Int):=by
      rw [aeZ,aeZ,aeO hi] at hx;exact (afW hx).symm
     subst ex;have sT:Same H5 (upd H5 T (.tup [.int (i:Int),.int ((bj rs[i] C:Nat):Int)])):=fun b u e=>by rw [ah (af e nT)];exact e
     refine qG T (.int (i:Int)) (.int ((bj rs[i] C:Nat):Int)) rfl (aAB ag) rfl ?_;have hlen:(intsN ((List.range i).filter fun i=>decide (bj ((rs[i]?).getD ([],[])) ss=0))).length<=1000:=by
      rw [aeP];exact aft (af8 _ _) (by rw [afz];(first | lia | lia))
     first | refine tvE rfl ?_ | refine⟨_,rfl,?_⟩
     refine⟨rfl,?_⟩;by_cases h0:bj rs[i] C=0
     ·refine⟨true,afJ V.bl (by rw [h0];rfl),fT ?_⟩
      first | refine tvE rfl ?_ | refine⟨_,rfl,?_⟩
      refine⟨sT _ _ hD5,aC hlen,nx hil ⟨?_,by (first | lia | lia),ag,fun b u e=>?_⟩⟩
      ·rw [aib,afQ];unfold intsN;rw [ae2];congr 1;rw [agy,if_pos (by rw [aeO hi,agH];exact (hwe _).mp h0)]
       rfl
      ·rw [ah (af e hD)];exact sT _ _ (sm b u e)
     ·refine⟨false,afJ V.bl ?_,gz ?_⟩
      ·rw [qc];have:((bj rs[i] C:Nat):Int)≠0:=by (first | lia | lia)
       simpa using this
      refine nx hil ⟨?_,by (first | lia | lia),sT _ _ hD5,fun b u e=>sT _ _ (sm b u e)⟩;rw [aib,afQ];unfold intsN;rw [ae2];have:(List.filter (fun i=>decide (bj ((rs[i]?).getD ([],[])) ss=0)) [i])=[]:=by
       rw [agy,if_neg (by rw [aeO hi,agH];exact fun z=>h0 ((hwe _).mpr z))]
       rfl
      rw [this,aio,afO]
    ·rintro ys H5 ⟨rfl,_,hD5,sm⟩;rw [aeP,aeP] at hD5;refine⟨by show 2<=sizeLine;decide,fun t nt=>?_⟩;have st:Same H5 (upd H5 t (.tup [.ref oA,.ref D])):=fun b u e=>by rw [ah (af e nt)];exact e
     exact k t oA D ss _ _ (s1.trans (R.sm.trans (sO.trans (sm.trans st)))) nOH (s1.free (R.sm.free (sO.free hD))) ag (st _ _ (sm _ _ ho3)) (st _ _ hD5) snd hso (fun x=>⟨fun h=>R.cC x ((hmem x).mp h),fun h=>(hmem x).mpr (R.all h)⟩) rfl
   ·refine⟨aej a r d wA cA fA P w ks rs H1,⟨_,_,_,[],ks,rfl,⟨?_,?_,?_,s2.trans (sC.trans sF),ag9,(fun x h=>nomatch h),fun x h=>.key h,fun x h=>.inr h,fun q hq h=>?_⟩,rfl,?_⟩,?_⟩
    ·exact sF _ _ (sC _ _ hw2)
    ·exact sF _ _ ag
    ·exact ag
    ·obtain⟨y,hy⟩:=List.exists_mem_of_ne_nil _ (h4 q hq).1;exact absurd (h y hy) (fun z=>nomatch z)
    ·rw [aeR] at hM;have:=yG (rs.map fun q=>bj q []) rs
     (first | lia | lia)
    rintro m σ H3 ⟨x6,x7,C,F,rfl,R,hm,hm1⟩;rcases akh F with rfl | ⟨F0,z,rfl⟩
    ·first | refine tvE rfl ?_ | refine⟨_,rfl,?_⟩
     exact⟨false,.inl ⟨[],aAA R.hf,rfl⟩,gz ⟨_,_,C,rfl,R⟩⟩
    rw [aki] at R hm;have hf:=R.hf
    first | refine tvE rfl ?_ | refine⟨_,rfl,?_⟩
    refine⟨true,.inl ⟨_,aAA hf,by simp⟩,fT ?_⟩;have cz:Com ks rs z:=R.cF z (aeW _ (aeS.mpr rfl));rw [aeR,afT] at hm;have s3:∀ o,Same H1 (upd H3 fA o):=fun o b u e=>by rw [ah (af e n1f)];exact R.sm b u e
    refine⟨adH a r d wA cA fA P w ks rs H1 m,?_,?_⟩
    ·rintro σ' H' ⟨y6,y7,C',F',rfl,R',hm'⟩;exact⟨m - 1,by (first | lia | lia),y6,y7,C',F',rfl,R',hm',by (first | lia | lia)⟩
    first | refine tvE rfl ?_ | refine⟨_,rfl,?_⟩
    refine⟨.inl ⟨rfl,_,aAA hf⟩,fA,_,.str z,rfl,rfl,hf,by simp,?_⟩;have edl:(List.map V.str (F0++[z])).dropLast=F0.map V.str:=by rw [ae2];exact List.dropLast_concat
    rw [edl];have hw3:(upd H3 fA (.lst (F0.map V.str))) wA=some (.lst (intsN (rs.map fun q=>bj q C))):=by rw [ah nwf];exact R.hw
    have hc3:(upd H3 fA (.lst (F0.map V.str))) cA=some (cM P w cA C):=by rw [ah ncf];exact R.hc
    have sm3:=s3 (.lst (F0.map V.str));have hf3:(upd H3 fA (.lst (F0.map V.str))) fA=some (.lst (F0.map V.str)):=ag;refine⟨fun σ' H'=>σ'=[some (.ref a),some (.ref r),some (.ref d),some (.ref wA),some (.ref cA),some (.ref fA),some (.str z),x7]/\z ∉ C/\H'=upd H3 fA (.lst (F0.map V.str)),?_,?_⟩;rotate_left
    ·by_cases hz:z∈C
     ·first | refine tvE rfl ?_ | refine⟨_,rfl,?_⟩
      first | refine tvE rfl ?_ | refine⟨_,rfl,?_⟩
      refine⟨cA,C,z,rfl,rfl,hc3,true,afJ V.bl (by rw [if_neg aeY,afv hz]),fT ?_⟩;refine⟨_,_,C,F0,rfl,⟨hw3,hc3,hf3,sm3,R.nd,R.cC,fun x h=>R.cF x (aff _ h),fun x h=>?_,fun q hq h x hx=>?_⟩,by (first | lia | lia)⟩
      ·rcases R.ke x h with h | h
       ·exact .inl h
       ·rcases aeT.mp h with h | h
        ·exact .inr h
        ·rw [aeS.mp h];exact .inl hz
      ·rcases R.cl q hq h x hx with h | h
       ·exact .inl h
       ·rcases aeT.mp h with h | h
        ·exact .inr h
        ·rw [aeS.mp h];exact .inl hz
     ·first | refine tvE rfl ?_ | refine⟨_,rfl,?_⟩
      first | refine tvE rfl ?_ | refine⟨_,rfl,?_⟩
      refine⟨cA,C,z,rfl,rfl,hc3,false,afJ V.bl (by rw [if_neg aeY,afw hz]),gz ?_⟩;exact⟨rfl,hz,rfl⟩
    rintro σ H4 ⟨rfl,hz,rfl⟩;have cl64:C.length < 64:=afx (aB (U:=U) R.nd fun x hx=>hUm x (R.cC x hx).mem) hU
    first | refine tvE rfl ?_ | refine⟨_,rfl,?_⟩
    refine⟨⟨cA,C,rfl,hc3⟩,_,rfl,cA,C,z,rfl,rfl,hc3,afx (by (first | lia | lia):C.length+1<=64) (by decide),fun C' alt nd'=>?_⟩;have hC':∀ x,x∈C'↔x∈C\/x=z:=fun x=>by
     rcases alt with ⟨h,_⟩ | ⟨_,h⟩
     ·exact absurd h hz
     ·rw [h.mem_iff,aeT,aeS]
    have s4:Same H1 (upd (upd H3 fA (.lst (F0.map V.str))) cA (cM P w cA C')):=fun b u e=>by rw [ah (af e n1c)];exact sm3 b u e
    have hw4:(upd (upd H3 fA (.lst (F0.map V.str))) cA (cM P w cA C')) wA=some (.lst (intsN (rs.map fun q=>bj q C))):=by rw [ah nwc];exact hw3
    have hc4:(upd (upd H3 fA (.lst (F0.map V.str))) cA (cM P w cA C')) cA=some (cM P w cA C'):=ag;have hf4:(upd (upd H3 fA (.lst (F0.map V.str))) cA (cM P w cA C')) fA=some (.lst (F0.map V.str)):=by rw [ah (agM ncf)];exact hf3
    refine⟨adH a r d wA cA fA P w ks rs H1 m,fun σ' H' h=>h,?_⟩
    first | refine tvE rfl ?_ | refine⟨_,rfl,?_⟩
    refine⟨d,rfl,.inl ⟨_,.inl (s4 _ _ hd)⟩,_,rfl,afe _,fun l nl=>?_⟩;have s5:Same (upd (upd H3 fA (.lst (F0.map V.str))) cA (cM P w cA C')) (upd (upd (upd H3 fA (.lst (F0.map V.str))) cA (cM P w cA C')) l (.lst [])):=fun b u e=>by rw [ah (af e (show (upd (upd H3 fA (.lst (F0.map V.str))) cA (cM P w cA C')) l=none from nl))];exact e
    have nl':(upd (upd H3 fA (.lst (F0.map V.str))) cA (cM P w cA C')) l=none:=nl;have hgo:∃ b:Addr,(b9 kvs (.inr z)).getD (.ref l)=.ref b/\(upd (upd (upd H3 fA (.lst (F0.map V.str))) cA (cM P w cA C')) l (.lst [])) b=some (.lst (intsN (hV rs z rs.length)))/\b≠wA/\b≠fA:=by
     cases hv:b9 kvs (Sum.inr z) with
     | none =>
      refine⟨l,rfl,?_,agM (af hw4 nl'),agM (af hf4 nl')⟩;rw [ag,lm.non z hv];rfl
     | some v =>
      obtain⟨b,rfl,h1,h2⟩:=lm.som z v hv;exact⟨b,rfl,s5 _ _ (s4 _ _ h2),af h2 nw,af h2 n1f⟩
    obtain⟨b,hb1,hb2,nbw,nbf⟩:=hgo;refine⟨b9 kvs (Sum.inr z),DGet.k (k:=Sum.inr z) (s5 _ _ (s4 _ _ hd)),b,hb1,⟨_,aAA hb2⟩,?_⟩;have nn:=yC (rs:=rs) (x:=z) rs.length;refine bQ (xs:=intsN (hV rs z rs.length)) (aen a r d wA cA fA z P w C' H1 b rs C m ks F0) ?_ (fun j σ H6 _ ⟨_,_,_,_,_,_,_,_,h,_,_,_,_,_,_⟩=>aAA h) ?_ ?_
    ·refine⟨_,_,F0,rfl,s5 _ _ hw4,s5 _ _ hc4,s5 _ _ hf4,s4.trans s5,hb2,by rw [aeP],fun i q e=>?_,by (first | lia | lia),fun x h=>R.cF x (aff _ h),fun x h=>h,(fun i h=>nomatch h)⟩;rw [aeZ,e,if_neg (fun z=>nomatch z)];rfl
    ·rintro j y σ H6 hy ⟨y7,ws,F,rfl,hw6,hc6,hf6,sm6,hb6,wl,wv,hsum,hFc,hF0,hFz⟩;have hj:j < (hV rs z rs.length).length:=by
      have:=(aeU.mp hy).1;rw [aeP] at this;exact this
     rw [aeZ,aeO hj] at hy;obtain⟨i,hi⟩:∃ i,(hV rs z rs.length)[j]=i:=⟨_,rfl⟩;rw [hi] at hy;cases hy;have him:=mem_nums.mp (show i∈hV rs z rs.length from hi▸afh hj);have hin:i < rs.length:=him.1;obtain⟨q,hq⟩:∃ q,rs[i]? = some q:=⟨_,aeO hin⟩;have hzq:z∈q.1:=by have:=him.2;rw [hq] at this;exact this
     have hqm:q∈rs:=afB hq;have hnt:i ∉ (hV rs z rs.length).take j:=fun h=>by
      obtain⟨m',hm',e⟩:=agb.mp h;rw [ahi] at e;rw [afn] at hm';exact agu.mp nn m' j (by (first | lia | lia)) hj (by (first | lia | lia)) (e.trans hi.symm)
     have hwa:=rP hz hC' q;rw [if_pos hzq] at hwa;have hwi:ws[i]? = some (bj q C'+1):=by rw [wv i q hq,if_neg hnt,← hwa];rfl
     have hil:i < ws.length:=by rw [wl];exact hin
     first | refine tvE rfl ?_ | refine⟨_,rfl,?_⟩
     first | refine tvE rfl ?_ | refine⟨_,rfl,?_⟩
     refine⟨wA,_,i,.int ((bj q C'+1:Nat):Int),rfl,rfl,aAA hw6,by rw [aeZ,hwi];rfl,_,_,rfl,rfl,wA,_,(i:Int),i,rfl,rfl,hw6,?_,?_⟩
     ·unfold ixN;rw [if_pos (by (first | lia | lia)),if_pos (by rw [aeP];(first | lia | lia))];rfl
     have ews:(intsN ws).set i (.int (((bj q C'+1:Nat):Int) - 1))=intsN (ws.set i (bj q C')):=by
      rw [show (((bj q C'+1:Nat):Int) - 1)=((bj q C':Nat):Int) by (first | lia | lia)];exact List.map_set.symm
     rw [ews];have hp:=uN ws rs i (bj q C') q hwi hq;have hw7:(upd H6 wA (.lst (intsN (ws.set i (bj q C'))))) wA=some (.lst (intsN (ws.set i (bj q C')))):=ag;have hf7:(upd H6 wA (.lst (intsN (ws.set i (bj q C'))))) fA=some (.lst (F.map V.str)):=by rw [ah (agM nwf)];exact hf6
     have hc7:(upd H6 wA (.lst (intsN (ws.set i (bj q C'))))) cA=some (cM P w cA C'):=by rw [ah (agM nwc)];exact hc6
     have hb7:(upd H6 wA (.lst (intsN (ws.set i (bj q C'))))) b=some (.lst (intsN (hV rs z rs.length))):=by rw [ah nbw];exact hb6
     have sm7:Same H1 (upd H6 wA (.lst (intsN (ws.set i (bj q C'))))):=fun c u e=>by rw [ah (af e nw)];exact sm6 c u e
     generalize upd H6 wA (.lst (intsN (ws.set i (bj q C'))))=H7 at hw7 hf7 hc7 hb7 sm7 ⊢;have etk:∀ i',i'∈(hV rs z rs.length).take (j+1)↔i'∈(hV rs z rs.length).take j\/i'=i:=fun i'=>by
      rw [afk,aeO hj,hi,aeT];exact or_congr Iff.rfl aeS
     have wv7:∀ i' q',rs[i']? = some q'->(ws.set i (bj q C'))[i']? = some (bj q' C - if i'∈(hV rs z rs.length).take (j+1) then 1 else 0):=fun i' q' e=>by
      by_cases h:i'=i
      ·subst h;rw [hq] at e;cases e;rw [agY hil,if_pos ((etk _).mpr (.inr rfl)),← hwa];rfl
      ·rw [aiA (agM h),wv i' q' e];by_cases h2:i'∈(hV rs z rs.length).take j
       ·rw [if_pos h2,if_pos ((etk _).mpr (.inl h2))]
       ·rw [if_neg h2,if_neg (fun z=>((etk _).mp z).elim h2 h)]
     have wl7:(ws.set i (bj q C')).length=rs.length:=by rw [List.length_set];exact wl
     refine⟨_,fun σ' H' h=>h,?_⟩;have hat:atI (intsN (ws.set i (bj q C'))) (i:Int)=some (.int ((bj q C':Nat):Int)):=bw (by rw [aeZ,agY hil];rfl)
     first | refine tvE rfl ?_ | refine⟨_,rfl,?_⟩
     first | refine tvE rfl ?_ | refine⟨_,rfl,?_⟩
     refine⟨wA,_,(i:Int),_,rfl,rfl,aAA hw7,hat,rfl,?_⟩;by_cases h0:bj q C'=0
     ·refine⟨true,afJ V.bl (by rw [h0];rfl),fT ?_⟩;rw [if_pos h0] at hp;obtain⟨v,hv⟩:∃ v,us[i]? = some v:=⟨_,aeO (by rw [hR.1];exact hin)⟩;obtain⟨tt,aa,bb,rfl,q1,q2,q3⟩:=hRm.2 i v q hv hq;have q3':=sm7 _ _ q3;have nbb:bb≠fA:=af q3 n1f
      first | refine tvE rfl ?_ | refine⟨_,rfl,?_⟩
      refine⟨.inl ⟨rfl,_,aAA hf7⟩,_,rfl,_,rfl,r,_,(i:Int),_,rfl,rfl,aAA (sm7 _ _ (s1 _ _ hr0)),bw hv,tt,_,1,.ref bb,rfl,rfl,aAB (sm7 _ _ q1),rfl,fA,bb,_,_,rfl,rfl,hf7,q3',?_,?_⟩
      ·rw [aeP,aeP];exact afo (aC (by (first | lia | lia)))
      refine⟨_,_,F++q.2,rfl,?_,?_,?_,fun c u e=>?_,?_,wl7,wv7,?_,fun x hx=>?_,fun x hx=>aff _ (hF0 x hx),fun i' hi' q' e hw' x hx=>?_⟩
      ·rw [ah nwf];exact hw7
      ·rw [ah ncf];exact hc7
      ·rw [ag,ae2]
      ·rw [ah (af e n1f)];exact sm7 c u e
      ·rw [ah nbf];exact hb7
      ·rw [aeR];(first | lia | lia)
      ·rcases aeT.mp hx with hx | hx
       ·exact hFc x hx
       ·refine .room hqm (fun y hy=>?_) hx;have:=wantN_zero.mp h0 y hy;rcases (hC' y).mp this with h | h
        ·exact R.cC y h
        ·rw [h];exact cz
      ·rcases (etk i').mp hi' with h | h
       ·exact aff _ (hFz i' h q' e hw' x hx)
       ·subst h;rw [hq] at e;cases e;exact aeW _ hx
     ·refine⟨false,afJ V.bl ?_,gz ?_⟩
      ·rw [qc];have:((bj q C':Nat):Int)≠0:=by (first | lia | lia)
       simpa using this
      rw [if_neg h0] at hp;refine⟨_,_,F,rfl,hw7,hc7,hf7,sm7,hb7,wl7,wv7,by (first | lia | lia),hFc,hF0,fun i' hi' q' e hw' x hx=>?_⟩;rcases (etk i').mp hi' with h | h
      ·exact hFz i' h q' e hw' x hx
      ·subst h;rw [hq] at e;cases e;exact absurd hw' h0
    ·rintro σ H6 ⟨y7,ws,F,rfl,hw6,hc6,hf6,sm6,hb6,wl,wv,hsum,hFc,hF0,hFz⟩;rw [aeP,afs] at wv hFz;have ews:ws=rs.map fun q=>bj q C':=by
      refine ahh fun i=>?_;by_cases hi:i < rs.length
      ·rw [wv i _ (aeO hi),aeZ,aeO hi];have hwa:=rP hz hC' rs[i];show some _=some _;congr 1;by_cases h:z∈(rs[i]).1
       ·rw [if_pos h] at hwa;rw [if_pos (mem_nums.mpr ⟨hi,by rw [aeO hi];exact h⟩)];show bj rs[i] C - 1=bj rs[i] C'
        (first | lia | lia)
       ·rw [if_neg h] at hwa;rw [if_neg (fun q=>h (by have:=(mem_nums.mp q).2;rw [aeO hi] at this;exact this))];show bj rs[i] C - 0=bj rs[i] C'
        (first | lia | lia)
      ·rw [ag6 (by (first | lia | lia)),ag6 (by rw [aeP];(first | lia | lia))]
     subst ews;refine⟨_,_,C',F,rfl,⟨hw6,hc6,hf6,sm6,nd',fun x hx=>?_,hFc,fun x hx=>?_,fun q hq h x hx=>?_⟩,hsum⟩
     ·rcases (hC' x).mp hx with h | h
      ·exact R.cC x h
      ·rw [h];exact cz
     ·rcases R.ke x hx with h | h
      ·exact .inl ((hC' x).mpr (.inl h))
      ·rcases aeT.mp h with h | h
       ·exact .inr (hF0 x h)
       ·exact .inl ((hC' x).mpr (.inr (aeS.mp h)))
     ·by_cases hzq:z∈q.1
      ·obtain⟨i,hi,e⟩:=agb.mp hq;have e':rs[i]? = some q:=by rw [aeO hi,e]
       exact .inr (hFz i (mem_nums.mpr ⟨hi,by rw [e'];exact hzq⟩) q e' (wantN_zero.mpr h) x hx)
      ·have h':∀ y∈q.1,y∈C:=fun y hy=>((hC' y).mp (h y hy)).resolve_right fun e=>hzq (e▸hy);rcases R.cl q hq h' x hx with h | h
       ·exact .inl ((hC' x).mpr (.inl h))
       ·rcases aeT.mp h with h | h
        ·exact .inr (hF0 x h)
        ·exact .inl ((hC' x).mpr (.inr (aeS.mp h)))
  ·refine aW _ _ _ _ _ _ _ _ _ ?_
   first | refine tvE rfl ?_ | refine⟨_,rfl,?_⟩
   refine⟨r,rfl,⟨_,aAA (s1 _ _ hr0)⟩,?_⟩;intro D hD;refine bV (xs:=us) (fun i ys H'=>ys=intsN ((rs.take i).map fun q=>bj q [])/\i<=1000/\H' D=some (.lst ys)/\Same H1 H') ⟨rfl,by decide,ag,fun b u e=>by rw [ah (af e hD)];exact e⟩ (fun i ys H' ⟨_,_,h,_⟩=>h) (fun i ys H' ⟨_,_,_,sm⟩=>aAA (sm _ _ (s1 _ _ hr0))) ?_ ?_
   ·rintro i ys H2 x hx ⟨rfl,hi0,hD2,sm⟩;have hi:i < us.length:=(aeU.mp hx).1;have hi':i < rs.length:=by rw [← hR.1];exact hi
    obtain⟨tt,aa,bb,rfl,g1,g2,g3⟩:=(hRm.2 i x _ hx (aeO hi')).same sm;have hl4:=(h4 _ (afh hi')).2;refine pz tt (.ref aa) (.ref bb) rfl (aAB g1) rfl ?_
    first | refine tvE rfl ?_ | refine⟨_,rfl,?_⟩
    refine⟨aa,(rs[i]).1,rfl,aAA g2,afx (ahW hl4) (by decide),fun sA ts nS hts=>?_⟩;have e1:ts.length=bj rs[i] []:=by
     rw [xH];refine Nat.le_antisymm (aB hts.1 fun x hx=>mem_dd.mpr ((hts.2 x).mp hx)) (aB (zQ _) fun x hx=>(hts.2 x).mpr (mem_dd.mp hx))
    refine⟨sA,ts,rfl,ag,?_,?_,nx hi ⟨?_,by (first | lia | lia),ag,fun b u e=>?_⟩⟩
    ·rw [ah (af hD2 nS)];exact hD2
    ·rw [aeP,aeP,afn];exact aC (by (first | lia | lia))
    ·rw [e1,afk,aeO hi'];unfold intsN;rw [ae2,ae2];rfl
    ·rw [ah (af e hD),ah (af (sm b u e) nS)];exact sm b u e
   ·rintro ys H2 ⟨rfl,_,hD2,sm⟩;rw [hR.1,afs] at hD2;exact⟨D,rfl,hD,hD2,sm⟩
def uG:Sp:=fun vs H Q _=>∃ (a b:Addr) (hand locks:List Str),vs=[.ref a,.ref b]/\H a=some (.lst (hand.map V.str))/\H b=some (.lst (locks.map V.str))/\locks.length<=1000/\∀ H',Same H H'->Q (.bl (mF hand locks)) H'
def qj:Sp:=fun vs H Q _=>∃ (a:Addr) (v:V) (hand:List Str) (r:Rm),vs=[.ref a,v]/\H a=some (.lst (hand.map V.str))/\RoomAt H v r/\mF hand r.1=true/\hand.length+r.2.length<=sizeLine ∧
 ∀ (l:Addr) (H':Hp),Same H H'->H l=none->H' l=some (.lst ((kL hand r).map V.str))->Q (.ref l) H'
theorem xC:aJ ["hand","locks"] ["hand","locks"] (ar jL):=scM rfl rfl rfl rfl (by decide +kernel)
theorem tU:(["kind","hand","locks"]:List Str).Nodup:=by decide +kernel
theorem yO {f:Addr}{fd:FuncData}(F:Fun K "serves" "serves" jL f fd)(sV:mg "all" = none):bF P w K mg base CX0 1 f fd ["hand","locks"] uG:=by
 refine F.ok xC (fun vs H Q E h=>?_) (fun cdv A outer s H vs Q E hr h=>?_)
 ·obtain⟨a,b,hand,locks,rfl,_⟩:=h
  rfl
 ·obtain⟨a,b,hand,locks,rfl,ha,hb,hl,k⟩:=h;refine⟨_,(au (aQ (ax (jF rfl) rfl sV (by decide +kernel) (ae (jP (tg:=.Name "kind" _) (outer:=ar (jL)) (N:=["hand","locks"]) (N':=["kind","hand","locks"]) (nl:=1) (ix:=[0,1]) rfl rfl rfl (aX (pv 1))
   (fun _ _ _ _=>(az (i:=0) tU rfl (.inl rfl) (.inr rfl))) (fun _ _ _ _=>bX)
   (fun _ _ _ _=>(b7 acP (j8 (K:=K) rfl ae3 agI agJ iF (pv 1) (ae (pv 0) ai)) (j8 (K:=K) rfl ae3 agI agJ iF (pv 2) (ae (pv 0) ai)) (aM _)))) ai)))),?_⟩
  dsimp only [zi,tCB,eP,kX];refine aW _ _ _ _ _ _ _ _ _ ?_;refine⟨_,rfl,b,rfl,⟨_,aAA hb⟩,?_⟩;intro D hD;refine bV (xs:=locks.map V.str) (fun i ys H'=>ys=((locks.take i).map fun x=>V.bl (decide (locks.count x<=hand.count x)))/\i<=1000/\H' D=some (.lst ys)/\Same H H') ⟨rfl,by decide,ag,fun b u e=>by rw [ah (af e hD)];exact e⟩ (fun i ys H' ⟨_,_,h,_⟩=>h) (fun i ys H' ⟨_,_,_,s⟩=>aAA (s _ _ hb)) ?_ ?_
  ·rintro i ys H2 x hx ⟨rfl,hi0,hD2,s2⟩;have hi:=(aeU.mp hx).1;have hi':=hi;rw [aeP] at hi';rw [aeZ,aeO hi'] at hx;cases hx;refine cZ rfl ?_;refine⟨_,rfl,.inl ⟨rfl,_,aAA (s2 _ _ ha)⟩,_,rfl,a,hand,locks[i],rfl,rfl,s2 _ _ ha,?_⟩;refine⟨_,rfl,.inl ⟨rfl,_,aAA (s2 _ _ hb)⟩,_,rfl,b,locks,locks[i],rfl,rfl,s2 _ _ hb,?_⟩;refine⟨_,_,rfl,rfl,hD2,by rw [aeP,afn];exact aC (by lia),nx hi ⟨?_,(by lia:i+1<=1000),ag,fun b u e=>?_⟩⟩
   ·rw [afk,aeO hi',ae2];have e1:decide (((locks.count locks[i]:Nat):Int)<=((hand.count locks[i]:Nat):Int))=decide (locks.count locks[i]<=hand.count locks[i]):=aix.mpr Int.ofNat_le;exact afJ (fun z=>_++[V.bl z]) e1
   ·rw [ah (af e hD)];exact s2 b u e
  ·rintro ys H2 ⟨rfl,_,hD2,s2⟩;rw [aeP,afs] at hD2;refine⟨D,locks.map (fun x=>decide (locks.count x<=hand.count x)),rfl,aAA (by rw [hD2,af7];rfl),?_⟩;have e:(locks.map (fun x=>decide (locks.count x<=hand.count x))).all id=mF hand locks:=by rw [ajd];rfl
   rw [e];exact k H2 s2
theorem cw:aJ ["hand","room","locks","within","rest","kind"] ["hand","room"] (ar fj):=scM rfl rfl rfl rfl (by decide +kernel)
theorem wW {f:Addr}{fd:FuncData}(F:Fun K "hand_behind" "hand_behind" fj f fd)(bz:mg "list" = none):bF P w K mg base CX0 1 f fd ["hand","room"] qj:=by
 refine F.ok cw (fun vs H Q E h=>?_) (fun cdv A outer s H vs Q E hr h=>?_)
 ·obtain⟨a,v,hand,r,rfl,_⟩:=h
  rfl
 ·obtain⟨a,v,hand,r,rfl,ha,⟨t,b,c,rfl,ht,hb,hc⟩,hm,hl,k⟩:=h;refine⟨_,(aj (jD (pv 1) (eV rfl (aG (az (i:=2) cw.nd rfl (.inl rfl)) (aG (az (i:=3) cw.nd rfl (.inl rfl)) bS))))
   (aj (aD (i:=4) cw.nd rfl (.inl rfl) (aZ bu rfl bz (by decide +kernel) (ae (pv 0) ai)))
   (aj (aR (b4 afq rfl (aX (pv 2)) (az (i:=5) cw.nd rfl (.inl rfl))
    (au (bq (dc ae3 ahj ahk jm (pv 4) (ae (pv 5) ai))))))
   (au (aQ (aI mG (pv 4) (pv 3))))))),?_⟩
  refine⟨_,rfl,t,_,rfl,aAB ht,rfl,_,_,rfl,_,_,rfl,rfl,?_⟩;refine⟨_,rfl,a,_,rfl,.inl (aAA ha),fun l nl=>?_⟩;have s1:∀ o,Same H (upd H l o):=fun o b u e=>by rw [ah (af e nl)];exact e
  refine⟨fun σ' H'=>∃ x5,σ'=[some (.ref a),some (.ref t),some (.ref b),some (.ref c),some (.ref l),x5]/\H' l=some (.lst ((r.1.foldl List.erase hand).map V.str))/\Same H H',?_,?_⟩
  ·rintro σ H2 ⟨x5,rfl,hl2,s2⟩;refine⟨_,rfl,_,rfl,l,c,_,_,rfl,rfl,hl2,s2 _ _ hc,?_,fun p np=>?_⟩
   ·rw [aeP,aeP];exact aft (aiG (oV _ _) _) hl
   ·refine k p _ (fun b u e=>?_) (s2.free np) (by rw [ag];unfold kL;rw [ae2]);have:=s2 b u e;rw [ah (af this np)];exact this
  ·refine⟨_,rfl,b,rfl,⟨_,aAA (s1 _ _ _ hb)⟩,?_⟩;refine bQ (xs:=r.1.map V.str) (fun i σ' H'=>∃ x5,σ'=[some (.ref a),some (.ref t),some (.ref b),some (.ref c),some (.ref l),x5]/\H' l=some (.lst (((r.1.take i).foldl List.erase hand).map V.str))/\Same H H') ⟨_,rfl,ag,s1 _⟩ (fun i σ H' _ ⟨_,_,_,s⟩=>aAA (s _ _ hb)) ?_ ?_
   ·rintro i x σ H2 hx ⟨x5,rfl,hl2,s2⟩;have hi:=(aeU.mp hx).1;rw [aeP] at hi;rw [aeZ,aeO hi] at hx;cases hx;refine⟨_,rfl,.inl ⟨rfl,_,aAA hl2⟩,_,rfl,l,_,r.1[i],rfl,rfl,hl2,ac6 hm hi,?_⟩;refine⟨_,rfl,?_,fun b u e=>?_⟩
    ·rw [ag,afk,aeO hi,ajy]
     rfl
    ·rw [ah (af e nl)];exact s2 b u e
   ·rintro σ H2 ⟨x5,rfl,hl2,s2⟩;rw [aeP,afs] at hl2;exact⟨x5,rfl,hl2,s2⟩
def bh (rs:List Rm)(n:Nat):Rm:=(rs[n]?).getD ([],[])
theorem cD {rs:List Rm}{n:Nat}(h:n < rs.length):rs[n]? = some (bh rs n):=by
 unfold bh;rw [aeO h]
 rfl
theorem bx {rs:List Rm}{n:Nat}(h:n < rs.length):bh rs n∈rs:=afB (cD h)
def fo (rs:List Rm)(hand:List Str)(n:Nat):List Str:=hand.erase (aw (bh rs n))++(bh rs n).2
def fE (rs:List Rm)(hand:List Str)(left:List Nat)(n:Nat):Prop:=aw (bh rs n)∈hand/\∀ m∈left.filter (fun m=>decide (m≠n)),Com (fo rs hand n) ((left.filter fun m=>decide (m≠n)).map (bh rs)) (aw (bh rs m))
inductive Greedy (rs:List Rm):List Str->List Nat->List Nat->Prop
 | nil {hand:List Str}:Greedy rs hand [] []
 | cons {hand:List Str} {A B o:List Nat} {n:Nat}:(∀ m∈A,¬ fE rs hand (A++n::B) m)->fE rs hand (A++n::B) n->Greedy rs (fo rs hand n) (A++B) o->Greedy rs hand (A++n::B) (n::o)
theorem qu {α:Type}{S:α->Prop}:∀ {A A' B B':List α} {n n':α},A++n::B=A'++n'::B'->(∀ m∈A,¬ S m)->S n->(∀ m∈A',¬ S m)->S n'->A=A'/\n=n'/\B=B'
 | [],[],B,B',n,n',e,_,_,_,_=>by
  injection e with e1 e2
  exact⟨rfl,e1,e2⟩
 | [],a::A',B,B',n,n',e,_,h,h',_=>by
  injection e with e1 e2
  exact absurd h (by rw [e1];exact h' a ae0)
 | a::A,[],B,B',n,n',e,h,_,_,h'=>by
  injection e with e1 e2
  exact absurd h' (by rw [← e1];exact h a ae0)
 | a::A,a'::A',B,B',n,n',e,h,hn,h',hn'=>by
  injection e with e1 e2
  obtain⟨q1,q2,q3⟩:=qu e2 (fun m hm=>h m (ae6 _ hm)) hn (fun m hm=>h' m (ae6 _ hm)) hn';exact⟨by rw [e1,q1],q2,q3⟩
theorem Greedy.one {rs:List Rm}{hand:List Str}{left o o':List Nat}(g:Greedy rs hand left o)(g':Greedy rs hand left o'):o=o':=by
 induction g generalizing o' with
 | nil =>
  generalize e:([]:List Nat)=L at g';cases g' with
  | nil=>rfl
  | @cons _ A' B' o2 n' h1' h2' g2=>cases A'<;>cases e
 | @cons hand A B o n h1 h2 g ih =>
  generalize e:A++n::B=L at g';cases g' with
  | nil=>cases A<;>cases e
  | @cons _ A' B' o2 n' h1' h2' g2 =>
   rw [← e] at h1' h2';obtain⟨q1,q2,q3⟩:=qu (S:=fE rs hand (A++n::B)) e h1 h2 h1' h2';subst q1 q2 q3;rw [ih g2]
theorem dS {A B:List Nat}{n:Nat}(nd:(A++n::B).Nodup):(A++n::B).filter (fun m=>decide (m≠n))=A++B:=by
 rw [af3] at nd;obtain⟨_,h2,h3⟩:=nd;rw [afG] at h2;have f1:A.filter (fun m=>decide (m≠n))=A:=agX.mpr fun m hm=>afv (h3 m hm n ae0);have f2:B.filter (fun m=>decide (m≠n))=B:=agX.mpr fun m hm=>afv fun z=>h2.1 (z▸hm);rw [afQ,agy,f1,f2];simp
theorem Greedy.perm {rs:List Rm}{hand:List Str}{left o:List Nat}(g:Greedy rs hand left o):o.Perm left:=by
 induction g with
 | nil=>exact .refl _
 | cons _ _ _ ih=>exact .trans (.cons _ ih) ahY.symm
theorem zc {rs:List Rm}{hand:List Str}{left:List Nat}(pl:Plain (left.map (bh rs)))(nd:left.Nodup)(f:iI hand (left.map (bh rs)))(ne:left≠[]):∃ n∈left,fE rs hand left n:=by
 obtain⟨A,r,B,e,s1,s2⟩:=ub pl f (fun z=>ne (ai3.mp z));obtain⟨A',C,rfl,rfl,e2⟩:=List.map_eq_append_iff.mp e;obtain⟨n,B',rfl,rfl,rfl⟩:=List.map_eq_cons_iff.mp e2;refine⟨n,aeW _ ae0,s1,fun m hm=>?_⟩;rw [dS nd] at hm ⊢;have:=s2 (bh rs m) (by rw [← ae2];exact ae4.mpr ⟨m,hm,rfl⟩);rw [← ae2] at this;exact this
theorem qJ {rs:List Rm}{hand:List Str}{A B:List Nat}{n:Nat}(nd:(A++n::B).Nodup)(f:iI hand ((A++n::B).map (bh rs)))(s:fE rs hand (A++n::B) n):iI (fo rs hand n) ((A++B).map (bh rs)):=by
 obtain⟨s1,s2⟩:=s;rw [dS nd] at s2;rw [ae2,afb] at f;have:=xK f (r:=bh rs n) ⟨s1,fun q hq=>by
  rw [← ae2] at hq ⊢;obtain⟨m,hm,rfl⟩:=ae4.mp hq;exact s2 m hm⟩
 rw [ae2];exact this
theorem v8 (rs:List Rm)(C:List Str):(vh rs C).length=rs.length↔∀ r∈rs,∀ y∈r.1,y∈C:=by
 have w0:∀ r:Rm,bj r C=0↔∀ y∈r.1,y∈C:=fun r=>by
  unfold bj tW;rw [af6,ag0];constructor
  ·intro h y hy;have:=h y (mem_dd.mpr hy);simpa using this
  ·intro h y hy;have:=h y (mem_dd.mp hy);simpa using this
 have e:(vh rs C).length=rs.length↔∀ i∈List.range rs.length,decide (bj ((rs[i]?).getD ([],[])) C=0)=true:=by
  unfold vh;have l:=afz (n:=rs.length);constructor
  ·intro h;have:((List.range rs.length).filter fun i=>decide (bj ((rs[i]?).getD ([],[])) C=0)).length=(List.range rs.length).length:=by rw [h,l]
   exact List.length_filter_eq_length_iff.mp this
  ·intro h;rw [agX.mpr h,l]
 rw [e];constructor
 ·intro h r hr;obtain⟨i,hi,rfl⟩:=agb.mp hr;have:=agW (h i (afZ.mpr hi));rw [aeO hi] at this;exact (w0 _).mp this
 ·intro h i hi;have hi':=afZ.mp hi;rw [aeO hi'];exact afv ((w0 _).mpr (h _ (afh hi')))
theorem gb (hand:List Str)(k:Str):mF hand [k]=true↔k∈hand:=by
 unfold mF;simp only [ah4,List.all_nil,Bool.and_true,ago,ahU];exact af9
structure aaU (rs:List Rm)(U:List Str):Prop where
 pl:Plain rs
 kk:∀ r∈rs,∀ k∈r.2,k∈U
 ul:U.length < 64
 rl:rs.length<=63
 fl:(rs.flatMap (·.2)).length<=1000
structure LeftD (rs:List Rm)(left:List Nat):Prop where
 nd:left.Nodup
 lt:∀ m∈left,m < rs.length
theorem LeftD.len {rs:List Rm}{left:List Nat}(h:LeftD rs left):left.length<=rs.length:=by
 have:=aB (U:=List.range rs.length) h.nd fun x hx=>afZ.mpr (h.lt x hx)
 rwa [afz] at this
def aaR:Sp:=fun vs H Q _=>∃ (a r l:Addr) (n:Nat) (us:List V) (rs:List Rm) (hand U:List Str) (left:List Nat),vs=[.ref a,.ref r,.ref l,.int n]/\H a=some (.lst (hand.map V.str))/\H r=some (.lst us)/\RoomsAt H us rs/\H l=some (.lst (intsN left))/\aaU rs U/\LeftD rs left/\n∈left/\(∀ k∈hand,k∈U)/\hand.length+((left.map (bh rs)).flatMap (·.2)).length<=1000 ∧
 ∀ (c:Bool) (H':Hp),Same H H'->(c=true↔fE rs hand left n)->Q (.bl c) H'
theorem uA {rs:List Rm}{left:List Nat}{n:Nat}(hn:n∈left):((left.filter fun m=>decide (m≠n)).map (bh rs)).flatMap (·.2) |>.length |> (· + (bh rs n).2.length<=((left.map (bh rs)).flatMap (·.2)).length):=by
 induction left with
 | nil=>cases hn
 | cons a t ih =>
  show (((a::t).filter fun m=>decide (m≠n)).map (bh rs)).flatMap (·.2) |>.length |> (· + (bh rs n).2.length<=(((a::t).map (bh rs)).flatMap (·.2)).length);have sub:∀ l:List Nat,(((l.filter fun m=>decide (m≠n)).map (bh rs)).flatMap (·.2)).length<=((l.map (bh rs)).flatMap (·.2)).length:=fun l=>by
   induction l with
   | nil=>exact ae1 _
   | cons b l ih =>
    rw [agy];split
    ·simp only [afb,agd,aeR];lia
    ·simp only [afb,agd,aeR];lia
  by_cases e:a=n
  ·subst e;have:=sub t;simp only [agy,afb,agd,aeR,ne_eq,not_true_eq_false,decide_false,afA,agF] at this ⊢;lia
  ·have:=ih ((ae7.mp hn).resolve_left fun z=>e z.symm);simp only [agy,afb,agd,aeR,ne_eq,e,not_false_eq_true,decide_true,ahy] at this ⊢;lia
theorem v9 {K:PySem.W.Frag}{nl:Nat}{ix:List Nat}{tf:TT}{te:TE}{σ:L2.St}{H1:Hp}{D a:Addr}{Q:VK}{xs:List V}{pb:V->Bool}{F:V->V}(ha:H1 a=some (.lst xs))(nD:H1 D=none)(hl:xs.length<=1000000)
 (hc:∀ x,((cn nl ix σ).set 0 (some x)).drop nl=ix.map fun j=>(σ[j]?).join)
 (ht:∀ (H:Hp) (x:V) (R:Bool->Hp->Prop),x∈xs->Same H1 H->R (pb x) H->tf ((cn nl ix σ).set 0 (some x)) H R)
 (he:∀ (H:Hp) (x:V) (R:VK),x∈xs->Same H1 H->R (F x) H->te ((cn nl ix σ).set 0 (some x)) H R)
 (hd:∀ H,Same H1 H->H D=some (.lst ((xs.filter pb).map F))->Q (.ref D) H):i5 nl ix (bg 0) tf te σ (Itl K a) H1 D Q:=by
 have lim:1000000 < sizeLine:=by decide
 refine bV (xs:=xs) (fun i ys H=>ys=((xs.take i).filter pb).map F/\H D=some (.lst ys)/\Same H1 H) ⟨rfl,ag,aq nD⟩ (fun i ys H ⟨_,h,_⟩=>h) (fun i ys H ⟨_,_,s⟩=>aAA (s a _ ha)) ?_ ?_
 ·rintro i ys H x hx ⟨rfl,hD,s⟩;have hi:i < xs.length:=(aeU.mp hx).1;have lf:(((xs.take i).filter pb).map F).length<=i:=by
   rw [aeP];exact aft (af8 _ _) (by rw [afn];lia)
  unfold bN bg;refine⟨⟨by simp,hc x⟩,ht H x _ (afB hx) s ?_⟩;cases e:pb x with
  | true =>
   rw [if_pos rfl];refine he H x _ (afB hx) s ⟨hD,by lia,nx hi ⟨?_,ag,fun b u e=>?_⟩⟩
   ·rw [afk,hx,afQ,ae2];simp [e]
   ·rw [ah (af e nD)];exact s b u e
  | false =>
   rw [if_neg aeY];refine nx hi ⟨?_,hD,s⟩;rw [afk,hx,afQ];simp [e]
 ·rintro ys H ⟨rfl,hD,s⟩;rw [afs] at hD;exact hd H s hD
def adv (us:List V):V->V
 | .int i=>(us[i.toNat]?).getD .non
 | v=>v
theorem fI:aJ ["hand","rooms","left","number","behind","rest","kinds","numbers"] ["hand","rooms","left","number"] (ar iC):=scM rfl rfl rfl rfl (by decide +kernel)
theorem qw:(["other","rooms","number"]:List Str).Nodup:=by decide +kernel
theorem abB {f fS fB fR:Addr}{fd fdS fdB fdR:FuncData}(F:Fun K "is_safe" "is_safe" iC f fd)(aah:bF P w K mg base CX0 1 fS fdS ["hand","locks"] uG)(p9:Cal K mg "serves" ["hand","locks"] fS fdS)(fW:bF P w K mg base CX0 1 fB fdB ["hand","room"] qj)(cg:Cal K mg "hand_behind" ["hand","room"] fB fdB)
 (nV:bF P w K mg base CX0 2 fR fdR ["keys","rooms"] mK)(fP:Cal K mg "reached" ["keys","rooms"] fR fdR)(aU:mg "len" = none):bF P w K mg base CX0 3 f fd ["hand","rooms","left","number"] aaR:=by
 refine F.ok fI (fun vs H Q E h=>?_) (fun cdv A outer s H vs Q E hr h=>?_)
 ·obtain⟨a,r,l,n,us,rs,hand,U,left,rfl,_⟩:=h
  rfl
 ·obtain⟨a,r,l,n,us,rs,hand,U,left,rfl,ha,hrr,hR,hl,hD,hL,hn,hU,hlen,q⟩:=h;have hu:=i6 hr;refine⟨_,(aj (cu (gL (fJ (pcl aah p9 (hr.mono (by decide:1<=2)) rfl (ae (pv 0) (ae (aF aO (aF aT (pv 1) (pv 3) (fun _ _=>rfl)) ak (fun _ _=>rfl)) ai)))))
   (au (aQ jU)) bf)
   (aj (aD (i:=4) fI.nd rfl (.inl rfl) (pcl fW cg (hr.mono (by decide:1<=2)) rfl (ae (pv 0) (ae (aF aT (pv 1) (pv 3) (fun _ _=>rfl)) ai))))
   (aj (eO (i:=5) (tg:=.Name "other" _) (outer:=ar (iC)) (N:=["hand","rooms","left","number","behind","rest","kinds","numbers"]) (N':=["other","rooms","number"]) (nl:=1) (ix:=[1,3]) fI.nd rfl (.inl rfl) rfl rfl rfl (aX (pv 2))
    (fun _ _ _ _=>(az (i:=0) qw rfl (.inl rfl) (.inr rfl))) (fun _ _ _ _=>(dM (aH xy (pv 0) (pv 2) (aM _))))
    (fun _ _ _ _=>(aF (dv (K:=K) rfl) (pv 1) (pv 0) (fun _ _=>rfl))))
   (aj (jD (pcl nV fP hr rfl (ae (pv 4) (ae (pv 5) ai))) (eV rfl (aG (az (i:=6) fI.nd rfl (.inl rfl)) (aG (az (i:=7) fI.nd rfl (.inl rfl)) bS))))
   (au (aQ (b7 gy (ax aA rfl aU afi (ae (pv 7) ai)) (ax aA rfl aU afi (ae (pv 5) ai)) (aM _)))))))),?_⟩
  have hnl:=hL.lt n hn;have er:=cD hnl;have nl':n < us.length:=by rw [hR.1];exact hnl
  have eu:us[n]? = some us[n]:=aeO nl';obtain⟨t,d,b,et,h1,h2,h3⟩:=hR.2 n _ _ eu er;have elk:=hD.pl _ (bx hnl);rw [elk] at h2;refine⟨_,rfl,_,rfl,_,rfl,r,us,(n:Int),us[n],rfl,rfl,aAA hrr,bw eu,t,_,0,.ref d,et,rfl,aAB h1,rfl,a,d,hand,[aw (bh rs n)],rfl,ha,h2,by show 1<=1000;decide,fun H1 s1=>⟨_,rfl,?_⟩⟩;cases em:mF hand [aw (bh rs n)] with
  | false =>
   refine fT ?_;refine q _ _ s1 ⟨(fun z=>nomatch z),fun z=>?_⟩;have:=(gb hand _).mpr z.1;rw [em] at this;cases this
  | true =>
  refine gz ?_;have hin:=(gb hand _).mp em;have fl:=uA (rs:=rs) hn;refine⟨_,rfl,_,rfl,_,rfl,r,us,(n:Int),us[n],rfl,rfl,aAA (s1 _ _ hrr),bw eu,?_⟩;refine⟨a,us[n],hand,bh rs n,rfl,s1 _ _ ha,(hR.2 n _ _ eu er).same s1,by rw [elk];exact em,afo (aC (by lia)),fun bA H2 s2 nb hb=>?_⟩;have ehb:kL hand (bh rs n)=fo rs hand n:=by
   unfold kL fo;rw [elk]
   rfl
  rw [ehb] at hb;have s02:=s1.trans s2;dsimp only [bg,tI,sd];refine aW _ _ _ _ _ _ _ _ _ ?_;refine⟨_,rfl,l,rfl,⟨_,aAA (s02 _ _ hl)⟩,?_⟩;intro D nD;have ll:=hL.len;have rl:=hD.rl;have inl:∀ x∈intsN left,∃ m∈left,x=.int (m:Nat):=fun x hx=>by
   obtain⟨m,hm,e⟩:=ae4.mp hx;exact⟨m,hm,e.symm⟩
  refine v9 (pb:=fun x=>!decide (x=V.int n)) (F:=adv us) (s02 _ _ hl) nD (by rw [aeP];lia) (fun x=>rfl) (fun G x R hx sG q=>by obtain⟨m,hm,rfl⟩:=inl x hx;exact⟨_,rfl,_,rfl,rfl,_,rfl,q⟩) (fun G x R hx sG q=>?_) (fun H3 s3 hD3=>?_)
  ·obtain⟨m,hm,rfl⟩:=inl x hx;have hm':m < us.length:=by rw [hR.1];exact hL.lt m hm
   have e1:adv us (.int (m:Nat))=us[m]:=by
    show (us[((m:Nat):Int).toNat]?).getD .non=us[m];rw [afj,aeO hm']
    rfl
   rw [e1] at q;exact⟨_,rfl,_,rfl,r,us,(m:Int),us[m],rfl,rfl,aAA (sG _ _ (s02 _ _ hrr)),bw (aeO hm'),q⟩
  have ef:((intsN left).filter fun x=>!decide (x=V.int n))=intsN (left.filter fun m=>decide (m≠n)):=by
   unfold intsN;rw [ai4];congr 1;refine List.filter_congr fun m hm=>?_;show (!decide (V.int (m:Nat)=V.int n))=decide (m≠n);by_cases z:m=n
   ·subst z;simp
   ·have:¬ (V.int (m:Nat)=V.int (n:Nat)):=fun y=>by injection y with y;lia
    simp [z,this]
  rw [ef] at hD3;generalize hlf:left.filter (fun m=>decide (m≠n))=lf at *;have lfm:∀ m∈lf,m∈left:=fun m hm=>by rw [← hlf] at hm;exact (agh.mp hm).1
  have lfl:lf.length<=left.length:=by rw [← hlf];exact af8 _ _
  have s03:=s02.trans s3;have hR3:RoomsAt H3 ((intsN lf).map (adv us)) (lf.map (bh rs)):=by
   refine⟨by simp,fun i v rm e1 e2=>?_⟩;rw [aeZ] at e1 e2;unfold intsN at e1;rw [aeZ] at e1;cases em:lf[i]? with
   | none=>rw [em] at e2;cases e2
   | some m =>
    rw [em] at e1 e2;cases e1;cases e2;have hm:=hL.lt m (lfm m (afB em));have hm':m < us.length:=by rw [hR.1];exact hm
    show RoomAt H3 ((us[((m:Nat):Int).toNat]?).getD .non) (bh rs m);rw [afj,aeO hm'];exact (hR.2 m _ _ (aeO hm') (cD hm)).same s03
  have inrs:∀ rm∈lf.map (bh rs),rm∈rs:=fun rm hrm=>by
   obtain⟨m,hm,rfl⟩:=ae4.mp hrm;exact bx (hL.lt m (lfm m hm))
  have shl:(fo rs hand n).length<=hand.length+(bh rs n).2.length:=by
   unfold fo;rw [aeR];have:=aiF (a:=aw (bh rs n)) (l:=hand);lia
  have shU:∀ x∈fo rs hand n,x∈U:=fun x hx=>by
   rcases aeT.mp hx with z | z
   ·exact hU x (ahK z)
   ·exact hD.kk _ (bx hnl) x z
  refine⟨_,rfl,_,rfl,bA,D,_,fo rs hand n,lf.map (bh rs),rfl,s3 _ _ hb,hD3,hR3,fun rm hrm=>by rw [hD.pl rm (inrs rm hrm)];exact⟨(fun z=>nomatch z),by show 1<=4;decide⟩,by rw [aeP];lia,by rw [aeR];lia,⟨U,hD.ul,fun x hx=>?_⟩,fun tt A' B' ss ns H4 s4 nA nB ht hA hB nd so com ens=>?_⟩
  ·rcases aeT.mp hx with z | z
   ·exact shU x z
   ·obtain⟨rm,hrm,hx'⟩:=afM.mp z;exact hD.kk rm (inrs rm hrm) x hx'
  refine⟨tt,_,rfl,aAB ht,rfl,_,_,rfl,_,_,rfl,rfl,?_⟩;refine⟨_,rfl,B',_,rfl,.inl (aAA hB),_,rfl,D,_,rfl,.inl (aAA (s4 _ _ hD3)),rfl,q _ _ (s03.trans s4) ?_⟩;rw [agH];have key:=v8 (lf.map (bh rs)) ss;rw [← ens,aeP] at key;have e2:(V.int ((ns.map fun i=>V.int (i:Nat)).length:Nat)=V.int (((intsN lf).map (adv us)).length:Nat))↔ns.length=lf.length:=by
   simp only [aeP,V.int.injEq];lia
  refine e2.trans (key.trans ?_);unfold fE;rw [hlf];constructor
  ·intro z;refine⟨hin,fun m hm=>?_⟩;have hrm:bh rs m∈lf.map (bh rs):=ae4.mpr ⟨m,hm,rfl⟩;exact (com _).mp (z _ hrm _ (by rw [hD.pl _ (inrs _ hrm)];exact aeS.mpr rfl))
  ·rintro⟨_,z⟩ rm hrm y hy;obtain⟨m,hm,rfl⟩:=ae4.mp hrm;rw [hD.pl _ (inrs _ hrm)] at hy;rw [aeS.mp hy];exact (com _).mpr (z m hm)
theorem dj (rs:List Rm):(List.range rs.length).map (bh rs)=rs:=by
 apply ahh;intro i;rw [aeZ];by_cases h:i < rs.length
 ·rw [List.getElem?_range h];exact (cD h).symm
 ·rw [ag6 (by rw [afz];lia),ag6 (by lia)]
  rfl
def xp:Sp:=fun vs H Q _=>∃ (v:V) (h:Hs) (U:List Str),vs=[v]/\HouseAt H v h/\aaU h.2 U/\(∀ k∈h.1,k∈U)/\iI h.1 h.2/\h.1.length+(h.2.flatMap (·.2)).length<=1000 ∧
 ∀ (l:Addr) (o:List Nat) (H':Hp),H l=none->Same H H'->H' l=some (.lst (intsN o))->Greedy h.2 h.1 (List.range h.2.length) o->Q (.ref l) H'
inductive OdI (v:V)(h:Hs)(U:List Str)(r:Addr)(H:Hp)(m:Nat)(σ:L2.St)(H':Hp):Prop
 | mk (a l oA:Addr) (hand:List Str) (left o:List Nat) (x5 x6:Option V):σ=[some v,some (.ref a),some (.ref r),some (.ref l),some (.ref oA),x5,x6]->Same H H'->H l=none->H oA=none->l≠oA->H' a=some (.lst (hand.map V.str))->a≠l->a≠oA->H' l=some (.lst (intsN left))->H' oA=some (.lst (intsN o))->LeftD h.2 left->iI hand (left.map (bh h.2))->(∀ k∈hand,k∈U)->hand.length+((left.map (bh h.2)).flatMap (·.2)).length<=1000->o.length+left.length=h.2.length->left.length=m->(∀ o',Greedy h.2 hand left o'->Greedy h.2 h.1 (List.range h.2.length) (o++o'))->OdI v h U r H m σ H'
inductive OeI (v:V)(h:Hs)(a r l oA:Addr)(hand:List Str)(left:List Nat)(H1:Hp)(x6:Option V)(m:Nat)(σ:L2.St)(H':Hp):Prop
 | mk (i:Nat):σ=[some v,some (.ref a),some (.ref r),some (.ref l),some (.ref oA),some (.int i),x6]->Same H1 H'->i < left.length->(∀ n∈left.take i,¬ fE h.2 hand left n)->i+m=left.length->OeI v h a r l oA hand left H1 x6 m σ H'
inductive OfI (v:V)(h:Hs)(a r l oA:Addr)(hand:List Str)(left:List Nat)(H1:Hp)(x6:Option V)(σ:L2.St)(H':Hp):Prop
 | mk (A B:List Nat) (n:Nat):σ=[some v,some (.ref a),some (.ref r),some (.ref l),some (.ref oA),some (.int A.length),x6]->Same H1 H'->left=A++n::B->(∀ n∈A,¬ fE h.2 hand left n)->fE h.2 hand left n->OfI v h a r l oA hand left H1 x6 σ H'
theorem yP {α:Type}(A:List α)(n:α)(B:List α):(A++n::B).eraseIdx A.length=A++B:=by
 rw [aid (ae1 _),ahH]
 rfl
theorem xX {rs:List Rm}{A B:List Nat}{n:Nat}:(((A++n::B).map (bh rs)).flatMap (·.2)).length=(((A++B).map (bh rs)).flatMap (·.2)).length+(bh rs n).2.length:=by
 simp only [ae2,afb,afY,agd,aeR];lia
theorem bp:aJ ["house","hand","rooms","left","order","at","number"] ["house"] (ar eE):=scM rfl rfl rfl rfl (by decide +kernel)
theorem zY {f fS fB:Addr}{fd fdS fdB:FuncData}(F:Fun K "order_of_all" "order_of_all" eE f fd)(yd:bF P w K mg base CX0 3 fS fdS ["hand","rooms","left","number"] aaR)(lI:Cal K mg "is_safe" ["hand","rooms","left","number"] fS fdS)(fW:bF P w K mg base CX0 1 fB fdB ["hand","room"] qj)(cg:Cal K mg "hand_behind" ["hand","room"] fB fdB)
 (aU:mg "len" = none)(bz:mg "list" = none)(aP:mg "range" = none):bF P w K mg base CX0 4 f fd ["house"] xp:=by
 refine F.ok bp (fun vs H Q E h=>?_) (fun cdv A outer s H vs Q E hr h=>?_)
 ·obtain⟨v,h,U,rfl,_⟩:=h
  rfl
 ·obtain⟨v,h,U,rfl,⟨t,a,r,us,rfl,ht,ha,hrr,hR⟩,hD,hU,fine,hlen,q⟩:=h;refine⟨_,(aj (jD (pv 0) (eV rfl (aG (az (i:=1) bp.nd rfl (.inl rfl)) (aG (az (i:=2) bp.nd rfl (.inl rfl)) bS))))
   (aj (aD (i:=3) bp.nd rfl (.inl rfl) (j7 rfl bz rfl aP rfl (ae (ax aA rfl aU afi (ae (pv 2) ai)) ai)))
   (aj (aD (i:=4) bp.nd rfl (.inl rfl) fm)
   (aj (aR (gj afq (vg (pv 3) (by intro _;rfl))
    (aj (aD (i:=5) bp.nd rfl (.inl rfl) ak)
    (aj (aR (gj afq (gL (fJ (pcl yd lI hr rfl (ae (pv 1) (ae (pv 2) (ae (pv 3) (ae (aF aT (pv 3) (pv 5) (fun _ _=>rfl)) ai)))))))
     (au (acz (i:=5) bp.nd rfl (.inl rfl) ak acY))))
    (aj (aD (i:=6) bp.nd rfl (.inl rfl) (dc ae3 agl agm jC (pv 3) (ae (pv 5) ai)))
    (aj (aD (i:=1) bp.nd rfl (.inl rfl) (pcl fW cg (hr.mono (by decide:1<=3)) rfl (ae (pv 1) (ae (aF aT (pv 2) (pv 6) (fun _ _=>rfl)) ai))))
    (au (bq (dc ae3 afH afI bJ (pv 4) (ae (pv 6) ai))))))))))
   (au (aQ (pv 4))))))),?_⟩
  have rl:=hD.rl;refine⟨_,rfl,t,_,rfl,aAB ht,rfl,_,_,rfl,_,_,rfl,rfl,?_⟩;refine⟨_,rfl,r,_,rfl,.inl (aAA hrr),?_⟩;refine⟨us.length,rfl,by rw [hR.1];lia,fun l nl=>⟨afe _,fun oA nO=>?_⟩⟩;rw [hR.1];have s1:Same H (upd H l (.lst (intsN (List.range h.2.length)))):=aq nl;have e1:(upd H l (.lst (intsN (List.range h.2.length)))) l=some (.lst (intsN (List.range h.2.length))):=ag;rw [hR.1] at nO;generalize upd H l (.lst (intsN (List.range h.2.length)))=H1 at *;have s2:Same H1 (upd H1 oA (.lst (intsN []))):=aq nO;have e2:(upd H1 oA (.lst (intsN []))) oA=some (.lst (intsN [])):=ag;have nO0:H oA=none:=s1.free nO;have lo:l≠oA:=af e1 nO;show bg 4 (V.ref oA) _ (upd H1 oA (.lst (intsN []))) _;have e12:=s2 _ _ e1;generalize upd H1 oA (.lst (intsN []))=H2 at *;have s02:=s1.trans s2;refine⟨fun σ' H'=>OdI (.ref t) h U r H 0 σ' H',?_,?_⟩
  ·rintro σ H3 ⟨a,l,oA,hand,left,o,x5,x6,rfl,sm,nl,nO,lo,ha3,al,ao,hl3,ho3,hL,fi,hU3,hle,hol,hm,fin⟩;have el:left=[]:=af6.mp hm;subst el;have:=fin [] .nil;rw [afO] at this;exact⟨_,rfl,q oA o H3 nO sm ho3 this⟩
  have hL0:LeftD h.2 (List.range h.2.length):=⟨ag3,fun m hm=>afZ.mp hm⟩;refine⟨fun m σ' H'=>OdI (.ref t) h U r H m σ' H',⟨_,a,l,oA,h.1,List.range h.2.length,[],none,none,rfl,s02,nl,nO0,lo,s02 _ _ ha,af ha nl,af ha nO0,e12,e2,hL0,by rw [dj];exact fine,hU,by rw [dj];exact hlen,by simp,rfl,fun o' g=>g⟩,?_⟩;clear e12 e2 e1 s1 s2 s02 nO nO0 lo nl hL0 ha;clear H2 H1 l oA;rintro m σ H2 ⟨a,l,oA,hand,left,o,x5,x6,rfl,sm,nl,nO,lo,ha,al,ao,hl,ho,hL,fi,hUh,hle,hol,hm,fin⟩;refine⟨_,rfl,_,.inl ⟨_,aAA hl,rfl⟩,?_⟩;cases hlf:left with
  | nil =>
   subst hlf;have:m=0:=hm.symm;subst this;exact⟨a,l,oA,hand,[],o,x5,x6,rfl,sm,nl,nO,lo,ha,al,ao,hl,ho,hL,fi,hUh,hle,hol,rfl,fin⟩
  | cons n0 lf0 =>
  refine fT ?_;have lne:left≠[]:=by rw [hlf];exact fun z=>nomatch z
  clear hlf;have lpos:=ai1.mpr lne;have pln:Plain (left.map (bh h.2)):=hD.pl.sub fun rm hrm=>by
   obtain⟨n,hn,rfl⟩:=ae4.mp hrm;exact bx (hL.lt n hn)
  obtain⟨ns,hns,safe⟩:=zc pln hL.nd fi lne;refine⟨fun σ' H'=>OdI (.ref t) h U r H (m - 1) σ' H',fun σ' H' h=>⟨_,by lia,h⟩,?_⟩;refine⟨fun σ' H'=>OfI (.ref t) h a r l oA hand left H2 x6 σ' H',?_,?_⟩;rotate_left
  ·refine⟨fun m σ' H'=>OeI (.ref t) h a r l oA hand left H2 x6 m σ' H',⟨left.length,0,rfl,Same.refl _,lpos,(fun n hn=>by simp at hn),by lia⟩,?_⟩;rintro m2 σ H3 ⟨i,rfl,s3,hi,no,him⟩;refine⟨_,rfl,_,rfl,_,rfl,_,rfl,_,rfl,l,_,(i:Int),.int (left[i]:Nat),rfl,rfl,aAA (s3 _ _ hl),bw (by show (intsN left)[i]? = _;unfold intsN;rw [aeZ,aeO hi];rfl),a,r,l,left[i],us,h.2,hand,U,left,rfl,s3 _ _ ha,s3 _ _ (sm _ _ hrr),(hR.same sm).same s3,s3 _ _ hl,hD,hL,afh hi,hUh,hle,fun c H4 s4 hc=>⟨c,rfl,?_⟩⟩;have tk:left.take (i+1)=left.take i++[left[i]]:=by rw [afk,aeO hi];rfl
   cases c with
   | true =>
    refine gz ?_;exact⟨left.take i,left.drop (i+1),left[i],by rw [afn,agi (afo hi)],s3.trans s4,by rw [← afU hi,afD],no,hc.mp rfl⟩
   | false =>
    refine fT ?_;have no':∀ n∈left.take (i+1),¬ fE h.2 hand left n:=fun n hn=>by
     rw [tk] at hn;rcases aeT.mp hn with z | z
     ·exact no n z
     ·rw [aeS.mp z];exact fun y=>nomatch hc.mpr y
    have hi1:i+1 < left.length:=by
     apply afN;intro z;have:left.take (i+1)=left:=afE (by lia);rw [this] at no';exact no' ns hns safe
    refine⟨fun σ' H'=>OeI (.ref t) h a r l oA hand left H2 x6 (m2 - 1) σ' H',fun σ' H' h=>⟨_,by lia,h⟩,?_⟩;refine⟨_,rfl,_,1,rfl,rfl,?_⟩;exact⟨i+1,rfl,s3.trans s4,hi1,no',by lia⟩
  rintro σ H3 ⟨A,B,n,rfl,s3,rfl,no,sf⟩;have nin:n∈A++n::B:=aeW _ ae0;have hn:=hL.lt n nin;have hn':n < us.length:=by rw [hR.1];exact hn
  have er:=cD hn;have eu:us[n]? = some us[n]:=aeO hn';have ll:=hL.len;have hl3:=s3 _ _ hl;have fl:=xX (rs:=h.2) (A:=A) (B:=B) (n:=n);have aL:(A++n::B).length=A.length+(B.length+1):=by rw [aeR,afr]
  refine⟨_,rfl,.inl ⟨rfl,_,aAA hl3⟩,_,rfl,l,_,(A.length:Int),A.length,.int (n:Nat),rfl,rfl,hl3,by lia,by lia,xa (by unfold intsN;rw [aeP,aeR,afr];lia) (by unfold intsN;rw [aeP];lia),by unfold intsN;rw [aeZ,afF (ae1 _),ahH];rfl,?_⟩;have ee:(intsN (A++n::B)).eraseIdx A.length=intsN (A++B):=by
   unfold intsN;rw [jv,yP]
  rw [ee];have sm4:Same H (upd H3 l (.lst (intsN (A++B)))):=fun b u e=>by rw [ah (af e nl)];exact s3 _ _ (sm _ _ e)
  have hl4:(upd H3 l (.lst (intsN (A++B)))) l=some (.lst (intsN (A++B))):=ag;have ha4:(upd H3 l (.lst (intsN (A++B)))) a=some (.lst (hand.map V.str)):=by rw [ah al];exact s3 _ _ ha
  have ho4:(upd H3 l (.lst (intsN (A++B)))) oA=some (.lst (intsN o)):=by rw [ah lo.symm];exact s3 _ _ ho
  generalize upd H3 l (.lst (intsN (A++B)))=H4 at *;have elk:=hD.pl _ (bx hn);refine⟨_,rfl,_,rfl,_,rfl,r,us,(n:Int),us[n],rfl,rfl,aAA (sm4 _ _ hrr),bw eu,a,us[n],hand,bh h.2 n,rfl,ha4,(hR.2 n _ _ eu er).same sm4,by rw [elk];exact (gb hand _).mpr sf.1,afo (aC (by lia)),fun bA H5 s5 nb hb=>?_⟩;have ehb:kL hand (bh h.2 n)=fo h.2 hand n:=by
   unfold kL fo;rw [elk]
   rfl
  rw [ehb] at hb;refine⟨_,rfl,.inl ⟨rfl,_,aAA (s5 _ _ ho4)⟩,_,rfl,oA,_,_,rfl,rfl,s5 _ _ ho4,by unfold intsN;rw [aeP];exact aC (by rw [aeR,afr] at hol;lia),?_⟩;have bl:bA≠l:=fun z=>by rw [z,hl4] at nb;cases nb
  have bo:bA≠oA:=fun z=>by rw [z,ho4] at nb;cases nb
  have shl:(fo h.2 hand n).length+1=hand.length+(bh h.2 n).2.length:=by
   unfold fo;rw [aeR,ajx sf.1];have:=aj4 sf.1;lia
  have nd:=hL.nd;refine⟨bA,l,oA,fo h.2 hand n,A++B,o++[n],_,_,rfl,fun b u e=>by rw [ah (af e nO)];exact s5 _ _ (sm4 _ _ e),nl,nO,lo,by rw [ah bo];exact hb,bl,bo,by rw [ah lo];exact s5 _ _ hl4,by rw [ag];unfold intsN;rw [ae2];rfl,⟨?_,fun x hx=>hL.lt x ?_⟩,qJ nd fi sf,fun x hx=>?_,by lia,?_,?_,fun o' g=>?_⟩
  ·exact (ahY.nodup_iff.mp nd |> afG.mp).2
  ·rcases aeT.mp hx with z | z
   ·exact aff _ z
   ·exact aeW _ (ae6 _ z)
  ·rcases aeT.mp hx with z | z
   ·exact hUh x (ahK z)
   ·exact hD.kk _ (bx hn) x z
  ·rw [aeR,aeR,afr] at *;simp only [afT,ahF];lia
  ·rw [← hm,aeR,aeR,afr];lia
  ·rw [afa];exact fin _ (.cons no sf g)
def lE:Sp:=fun vs H Q _=>∃ (v:V) (h:Hs),vs=[v]/\HouseAt H v h/\gu h/\qk h/\h.2.length<=200 ∧
 ∀ (B:Addr) (ss:List Str) (H':Hp),Same H H'->H B=none->H' B=some (.lst (ss.map V.str))->ss.Nodup->sortedS ss=true->(∀ x,x∈ss↔Com h.1 h.2 x)->Q (.ref B) H'
theorem cT:aJ ["house","kinds","numbers"] ["house"] (ar cQ):=scM rfl rfl rfl rfl (by decide +kernel)
theorem rY {f fR fQ:Addr}{fd fdR fdQ:FuncData}(F:Fun K "kinds_that_come" "kinds_that_come" cQ f fd)(eJ:bF P w K mg base CX0 6 fR fdR ["thing"] aad)(bG:Cal K mg "require_house" ["thing"] fR fdR)
 (nV:bF P w K mg base CX0 2 fQ fdQ ["keys","rooms"] mK)(fP:Cal K mg "reached" ["keys","rooms"] fQ fdQ) :
 bF P w K mg base CX0 7 f fd ["house"] lE:=by
 refine F.ok cT (fun vs H Q E h=>?_) (fun cdv A outer s H vs Q E hr h=>?_)
 ·obtain⟨v,h,rfl,_⟩:=h
  rfl
 ·obtain⟨v,h,rfl,hh,ok,⟨⟨U,hU,hUm⟩,nk,nl⟩,hn,k⟩:=h;refine⟨_,(aj (bq (pcl eJ bG hr rfl (ae (pv 0) ai)))
   (aj (jD (pcl nV fP (hr.mono (by decide:2<=6)) rfl (ae (aF aO (pv 0) ak (fun _ _=>rfl)) (ae (aF aO (pv 0) ak (fun _ _=>rfl)) ai))) (eV rfl (aG (az (i:=1) cT.nd rfl (.inl rfl)) (aG (az (i:=2) cT.nd rfl (.inl rfl)) bS))))
   (au (aQ (pv 1))))),?_⟩
  refine⟨_,rfl,v,h,rfl,hh,ok,fun H1 s1=>?_⟩;obtain⟨t,a,r,us,rfl,ht,ha,hr',hR⟩:=hh.same s1;refine⟨_,rfl,t,_,0,.ref a,rfl,rfl,aAB ht,rfl,_,rfl,t,_,1,.ref r,rfl,rfl,aAB ht,rfl,a,r,us,h.1,h.2,rfl,ha,hr',hR,fun q hq=>⟨?_,(ok.rs q hq).l4⟩,hn,nk,⟨U,hU,fun x hx=>hUm x (.inl hx)⟩,fun T A' B ss ns H2 s2 nA nB hT hA hB snd sso smem ens=>?_⟩
  ·have:=(ok.rs q hq).l1;intro z;rw [z] at this;exact absurd this (by decide)
  ·subst ens;refine⟨T,_,rfl,aAB hT,rfl,_,_,rfl,_,_,rfl,rfl,?_⟩;exact⟨_,rfl,k A' ss H2 (s1.trans s2) (s1.free nA) hA snd sso smem⟩
end
end K7
namespace L2
open PySem PySem.Spec PySem.Calls PyProof.Rows PySem.W
theorem o5 {P:Program}{w:World}:∀ {acc:List Value} {kvs:List (Key×Value)} {ss:List Str},kvs.map (·.1)=ss.map Sum.inr->acc.length=kvs.length->(∀ (j:Nat) v,acc[j]? = some v->∃ k x,kvs[j]? = some (k,x)/\(bE P w).is k v=true)->StrsAre acc ss
 | [],[],[],_,_,_=>.nil
 | [],[],_::_,h,_,_=>by simp at h
 | _::_,[],_,_,h,_=>by simp at h
 | [],_::_,_,_,h,_=>by simp at h
 | _::_,_::_,[],h,_,_=>by simp at h
 | v::acc,(k,x)::kvs,s::ss,h,hl,hp=>by
  rw [afb,afb] at h;injection h with h1 h2
  obtain⟨k',x',e,hk⟩:=hp 0 v rfl;cases e;have hk1:k=Sum.inr s:=h1;subst hk1;have:=o5 (P:=P) (w:=w) h2 (by simpa using hl) fun j u e=>hp (j+1) u e;obtain⟨t,rfl⟩:∃ t,v=.str s t:=zu hk;exact .cons _ t this
section
variable {prog:Program}{w:World}{A:Around}{E:Value->Shared->Prop}{s:Shared}{a:Addr}
theorem qH {R:List Value->Shared->Prop}{kvs:List (Key×Value)}{ep:Nat}(hh:A.handled=none)(lo:(a == sysModules)=false)(x:s.heap.DictAt (bE prog w) a kvs ep)(hn:kvs.length<=sizeLine)
 (h:∀ (h':Heap) (tk:Nat) (acc:Array Value),(∀ b o,s.heap.get? b=some o->h'.get? b=some o)->s.heap.objs.size<=h'.objs.size->ItemsOf (fun i v=>∃ k x,kvs[i]? = some (k,x)/\(bE prog w).is k v=true) acc kvs.length->R acc.toList { s with heap:=h',toks:=tk }) :
 wpAny (model prog w) A (collect (.ref a)) R E s:=by
 have hlt:=x.lt_size;unfold collect;refine aeQ (ajk (agj aiD ?_));rw [aga ahJ _];show wpAny _ A.in1 (newList [] >>= fun l=>again (.builtin "list.__iadd__" ⟨[l,.ref a],[]⟩)) _ _ s;refine aeQ (af2 ?_);refine aeX ⟨ahq agG _,agj entry_list_iadd' ?_⟩;rw [aga agG _];have hS₁:(s.heap.push { cls:=.type "list",data:=.seq ([]:List Value).toArray }).get? s.heap.objs.size=some { cls:=.type "list",data:=.seq #[] }:=afd _ rfl;show wpAny _ A.in1 (Builtin.List.listExtendWith (.ref s.heap.objs.size) (.ref a) (.ref s.heap.objs.size)) _ _ _;have key:=kdl_extend (A:=A) (s:={ s with heap:=s.heap.push { cls:=.type "list",data:=.seq ([]:List Value).toArray } })
  (R:=fun (q:Result) (s':Shared)=>∃ (h':Heap) (tk:Nat) (acc':Array Value) (c':Nat),q=.ok (.ret (.ref s.heap.objs.size))/\s'={ s with heap:=h',toks:=tk } ∧
   (∀ b o,s.heap.get? b=some o->h'.get? b=some o)/\h'.get? s.heap.objs.size=some { cls:=.type "list",dict:=none,data:=.seq acc' c',slots:=#[] }/\ItemsOf (fun i v=>∃ k x,kvs[i]? = some (k,x)/\(bE prog w).is k v=true) acc' kvs.length)
  (kdl_dict (knd:=bE prog w) (kvs:=kvs) (ep:=ep) lo) hh (x.at' fun o e=>aeV _ e) s.heap.objs.size (ahm hlt) (ahm hlt) (.ref s.heap.objs.size) 0 hS₁
  (fun h' tk acc' c' hk hS' hacc=>⟨h',tk,acc',c',rfl,rfl,fun b o e=>hk b o (afm (ae8 e)) (aeV _ e),hS',hacc⟩) hn
 refine afL key (fun fin s' x=>?_) fun e s' x=>?_
 ·cases fin with
  | done f =>
   obtain⟨h',tk,acc',c',e,rfl,hk,hS',hacc⟩:=x;cases e;show wpAny _ A (load s.heap.objs.size >>= _) _ _ _;refine aeQ (aiO hS' ?_);exact aeX (h h' tk acc' hk (afo (ae8 hS')) hacc)
  | again c₁ =>
   refine⟨x.1,ag5 x.2 fun q s₂ y=>?_⟩;obtain⟨h',tk,acc',c',rfl,rfl,hk,hS',hacc⟩:=y;show wpAny _ A (load s.heap.objs.size >>= _) _ _ _;refine aeQ (aiO hS' ?_);exact aeX (h h' tk acc' hk (afo (ae8 hS')) hacc)
 ·obtain⟨_,_,_,_,e',_⟩:=x;cases e'
theorem uw {Q:Value->Shared->Prop}{kvs:List (Key×Value)}{ep:Nat}{ss:List Str}(hh:A.handled=none)(lo:(a == sysModules)=false)(x:s.heap.DictAt (bE prog w) a kvs ep)(hs:kvs.map (·.1)=ss.map Sum.inr)(h64:ss.length < 64)
 (h:∀ (h':Heap) (tk:Nat) (l:Addr) (vs:List Value) (ss':List Str) (e:Nat),(∀ b o,s.heap.get? b=some o->h'.get? b=some o)->s.heap.objs.size<=l->h'.get? l=some (seqObj "list" vs.toArray e)->StrsAre vs ss'->ss'.Perm ss->sortedS ss'=true->Q (.ref l) { s with heap:=h',toks:=tk }) :
 wpAny (model prog w) A (call (.builtin "sorted") [.ref a]) Q E s:=by
 refine ahT kind_sorted plain_sorted entry_sorted (args_sorted1 _) ?_;unfold Builtin.«sorted»;refine aeQ (m:=checkCount "sorted" 1 1 _) (aeX ?_);have kl:kvs.length=ss.length:=by simpa using afJ List.length hs
 refine aeQ (qH (A:=A.in1) hh lo x (afo (afg (by lia:kvs.length < 64) (by decide))) fun h1 tk acc k1 hsz hacc=>?_);have hl0:acc.toList.length=kvs.length:=by rw [ae5];exact hacc.1
 have hS:StrsAre acc.toList ss:=o5 hs hl0 fun j v e=>hacc.2 j v (by rw [← afK];exact e);have hl:acc.toList.length < 64:=by lia
 refine aeQ (aiL ?_ (afo (afg hl (by decide))));show wpAny _ _ _ _ _ { s with heap:=h1.push (seqObj "list" acc.toList.toArray 0),toks:=tk };have hoL:(h1.push (seqObj "list" acc.toList.toArray 0)).get? h1.objs.size=some (seqObj "list" acc.toList.toArray 0):=afd _ rfl;refine aeQ (af5 (agx ajl ⟨_,hoL,rfl⟩ aiX (list_sort_treeK strKind_oneLt hoL hS.keysOf (fun v₁ v₂ rest e=>keyKind_strs (by rw [← e];exact hS)) hl fun st' a1 a2=>⟨_,rfl,?_⟩) (args_list_sort _)));obtain⟨ss',b1,b2,b3⟩:=sorted_out_str hS a1 a2;obtain⟨e,he⟩:=sortedHeap_at (vs:=acc.toList) (out:=(arrOf st').map (·.2)) hoL;refine aeX ⟨_,rfl,h _ tk h1.objs.size ((arrOf st').map (·.2)).toList ss' e (fun b o q=>?_) hsz (by rw [ahR];exact he) b1 b2 b3⟩;have q1:=k1 _ _ q;rw [sortedHeap_old (afm (ae8 q1)) (by rw [ajv];exact agn (ae8 q1))];exact aeV _ q1
end
section
variable {X:Cx}
theorem gx (hc:X.calm=true):di X (.builtin "sorted") (fun xs H Q=>∃ (a:Addr) (kvs:List (Key×V)) (ss:List Str),xs=[.ref a]/\H a=some (.dK kvs)/\kvs.map (·.1)=ss.map Sum.inr/\ss.length < 64/\∀ (l:Addr) (ss':List Str),H l=none->ss'.Perm ss->sortedS ss'=true->Q (.ref l) (upd H l (.lst (ss'.map V.str)))):=by
 intro pins s σ H xs us Q I r h;obtain⟨a,kvs,ss,rfl,e,hs,hl,q⟩:=h;obtain⟨u,rfl,rx⟩:=gZ r;cases rx;obtain⟨z,hd,vs,rel,dd⟩:=aag I.hok e;obtain⟨ep,da⟩:=dd.dictAt;have hs':vs.map (·.1)=ss.map Sum.inr:=by rw [← rel.keys];exact hs
 refine uw (I.ok.hd hc) hd da hs' hl fun h' tk l vs ss' ep k hz hg hS hp hso=>?_;refine⟨.ref l,_,I.laid (t':=tk) (o:=.lst (ss'.map V.str)) k hz ⟨?_,vs,ep,iw hS,hg⟩,rfl,q l ss' (I.hok.fresh hz) hp hso⟩;rw [aeP,hp.length_eq];exact afo (afg hl (by decide))
end
end L2
namespace L2
open PySem PySem.Spec PyProof.Rows
theorem qI (ex target iter:Expr)(ifs:List Expr)(scope:Scope)(pos:Pos)(it:Value)(D:Addr)(env:Env) :
 compTurn (.SetComp ex [⟨target,iter,ifs,0⟩] scope pos) 0 it (.ref D) env=(do
  standAt iter.pos
  match ← pyNext it with
  | none=>pure (.done .next)
  | some v =>
   letOwnedTupleGo target it v
   assign target env v
   let mut ok:=true
   for c in ifs do
    if ok then ok ← isTrue c env (eval c env)
   if ok then
    (do
     let v ← eval ex env
     standAt ex.pos
     let _ ← call (.builtin "set.add") [.ref D,v])
   again (.compLoop (.SetComp ex [⟨target,iter,ifs,0⟩] scope pos) 0 it (.ref D) env)):=by rfl
section
variable {prog:Program}{w:World}{A:Around}{E:Value->Shared->Prop}{R:Result->Shared->Prop}{s:Shared}
theorem tV {ex target iter ifs rest scope pos it acc env}
 (h0:codeAny (model prog w) A (.compLoop (.SetComp ex (⟨target,iter,ifs,0⟩::rest) scope pos) 0 it acc env) R s)
 (h:wpAny (model prog w) A (pyIter it) (fun it' s'=>codeAny (model prog w) A (.compLoop (.SetComp ex (⟨target,iter,ifs,0⟩::rest) scope pos) 0 it' acc env) R s')
  (notedBy (model prog w) A env fun x s'=>R (.error x) s') s) :
 codeAny (model prog w) A (.compStart (.SetComp ex (⟨target,iter,ifs,0⟩::rest) scope pos) 0 it acc env) R s:=by
 refine aia ?_;show wpAny _ A ((compStart (.SetComp ex (⟨target,iter,ifs,0⟩::rest) scope pos) 0 it acc env).onRaise (fun x=>do noteFrame x env;standAt theWindowsPlace)) _ _ s;refine wpAny_notedAt ?_;unfold compStart;show wpAny _ A (ask >>= _) _ _ s;refine aeQ (ahu (wpAny_ite ?_));split
 ·first
   | exact aeQ (aeX (aeX (And.intro rfl h0)))
   | exact aeX (And.intro rfl h0)
 ·first
   | exact aeQ (agO (aeQ (agD (aeQ (afL h (fun it' s' h'=>aeX (And.intro rfl h')) fun _ _ x=>x)))))
   | (refine aeQ (agO ?_);show wpAny _ _ (standAt iter.pos >>= _) _ _ s;exact aeQ (agD (aeQ (afL h (fun it' s' h'=>aeX (And.intro rfl h')) fun _ _ x=>x))))
theorem vJ {ex target iter:Expr}{ifs:List Expr}{scope:Scope}{pos:Pos}{it:Value}{D:Addr}{env:Env}(I:Nat->Shared->Prop)
 (turn:∀ n s,I n s->wpAny (model prog w) A (pyNext it) (fun r s₁=>match r with
  | none=>R (.ok .next) s₁
  | some v=>wpAny (model prog w) A (letOwnedTupleGo target it v) (fun _ s₁'=>wpAny (model prog w) A (assign target env v) (fun _ s₂ =>
   wpAny (model prog w) A (forIn ifs true fun c r=>if r=true then do let ok ← isTrue c env (eval c env);pure (ForInStep.yield ok) else pure (ForInStep.yield r)) (fun ok s₃ =>
    if ok=true then wpAny (model prog w) A (eval ex env) (fun kv s₄ =>
     wpAny (model prog w) A (call (.builtin "set.add") [.ref D,kv]) (fun _ s₆=>∃ m,m < n/\I m s₆) (fun _ _=>False) s₄) (fun _ _=>False) s₃
    else ∃ m,m < n/\I m s₃) (fun _ _=>False) s₂) (fun _ _=>False) s₁') (fun _ _=>False) s₁) (fun _ _=>False) s)
 (n:Nat)(h:I n s) :
 codeAny (model prog w) A (.compLoop (.SetComp ex [⟨target,iter,ifs,0⟩] scope pos) 0 it (.ref D) env) R s:=by
 have no:∀ {E:Value->Shared->Prop} (x:Value) (s:Shared),False->E x s:=fun _ _ z=>z.elim;refine codeAny_loop rfl I (fun n s hI=>?_) n h;show wpAny _ A ((compTurn (.SetComp ex [⟨target,iter,ifs,0⟩] scope pos) 0 it (.ref D) env).onRaise (fun x=>do noteFrame x env;theTreesLotGoes x)) _ _ s;refine wpAny_noted ?_;rw [qI];refine aeQ (agD (aeQ (afL (turn n s hI) (fun r s₁ h₁=>?_) no)));cases r with
 | none=>exact aeX h₁
 | some v =>
  refine aeQ (afL h₁ (fun _ s₁' h₁'=>aeQ (afL h₁' (fun _ s₂ h₂=>aeQ (afL h₂ (fun ok s₃ h₃=>?_) no)) no)) no);cases ok with
  | false=>exact aeX ⟨rfl,h₃⟩
  | true =>
   exact aeQ (aeQ (afL h₃ (fun kv s₄ h₄=>aeQ (agD (aeQ (afL h₄ (fun _ s₆ h₆=>aeX (aeX ⟨rfl,h₆⟩)) no)))) no))
theorem acj {Q:Value->Shared->Prop}(h:Q (.ref s.heap.objs.size) { s with heap:=s.heap.push { cls:=.type "set",dict:=none,data:=.set #[] 0 (.fresh 0 0 (!w.params.followText "set-order")) } }) :
 wpAny (model prog w) A (newSet (.type "set")) Q E s:=by
 unfold newSet setsByText;refine aeQ (aeQ (ahu (aeX ?_)));dsimp only;simp only [newObj];exact aeQ (akG (aeX h))
end
def xn (P:Program)(w:World)(nl:Nat)(ix:List Nat)(wi:TI)(g:TG)(tf:TT)(tk:TE):TE:=fun σ H Q=>wi σ H fun J H1=>∀ D,H1 D=none->∃ W:Nat->Nat->List Str->Hp->Prop,(∃ m,W 0 m [] (upd H1 D (cM P w D []))) ∧
 ∀ i m ys H2,W i m ys H2->H2 D=some (cM P w D ys)/\((J.stop i H2/\Q (.ref D) H2)\/(J.go i H2/\∀ x H3,J.yld i H2 x H3->g x (cn nl ix σ) H3 fun σ4 H4=>(σ4.length=(cn nl ix σ).length/\σ4.drop nl=ix.map fun j=>(σ[j]?).join)/\tf σ4 H4 fun b H5 =>
  if b=true then tk σ4 H5 fun z H6=>∃ k:Str,z=.str k/\H6 D=some (cM P w D ys)/\ys.length+1 < scanBound/\∀ ys',((k∈ys/\ys'=ys)\/(k ∉ ys/\ys'.Perm (ys++[k])))->ys'.Nodup->∃ m',m' < m/\W (i+1) m' ys' (upd H6 D (cM P w D ys')) else ∃ m',m' < m/\W (i+1) m' ys H5))
section
variable {X:Cx}
theorem aaw {P:Program}{w:World}{ex tg iter:Expr}{ifs:List Expr}{scope:Scope}{pos:Pos}{N':List Str}{nl:Nat}{ix:List Nat}{wi:TI}{g:TG}{tf:TT}{tk:TE}(hP:X.prog=P)(hw:X.w=w)(hc:X.calm=true)(S:CompScope X scope)(Cp:acu X scope N' nl ix)(hi:PI X tg iter wi)
 (hg:∀ C fp s₀ H₀,PG (X.comp scope N' C fp s₀ H₀) tg g)(hf:∀ C fp s₀ H₀,PIf (X.comp scope N' C fp s₀ H₀) ifs tf)(hk:∀ C fp s₀ H₀,PE (X.comp scope N' C fp s₀ H₀) ex tk)
 (hs:∀ x,foldedSetIterable iter X.env x=pure x:=by intro _;rfl):PE X (.SetComp ex [⟨tg,iter,ifs,0⟩] scope pos) (xn P w nl ix wi g tf tk):=by
 subst hP hw;intro pins s σ H Q I h;rw [arm_eval_SetComp];refine ahe (use:=none) (cl:=pH X.env scope.names []) rfl hs (ij (S.cells I.ok)) S.kind S.loc ?_;refine thn (hi pins s σ H _ I h) fun v s1 h1=>thn h1 fun itv s2 h2=>?_;obtain⟨it,fp,tn,J,H2,rfl,I2,T,st2,f2,h2⟩:=h2;obtain⟨W,⟨m0,w0⟩,turn⟩:=h2 s2.heap.objs.size I2.fresh;refine acj (ahQ S.nocell (by intro y hy;simp at hy) (fun h₁ hns₁ hsb₁=>?_) S.kind);dsimp only at hns₁ hsb₁ ⊢;have fpo:∀ b∈fp,b < s2.heap.objs.size:=fun b hb=>by
  obtain⟨o,e,_⟩:=T.obj 0 _ st2 b hb;exact ae8 e
 have I3:Inv X pins σ (upd H2 s2.heap.objs.size (cM X.prog X.w s2.heap.objs.size [])) { s2 with heap:=s2.heap.push { cls:=.type "set",dict:=none,data:=.set #[] 0 (.fresh 0 0 (!X.w.params.followText "set-order")) },toks:=s2.toks }:=I2.laid (a:=s2.heap.objs.size) (o:=cM X.prog X.w s2.heap.objs.size []) (t':=s2.toks) (fun _ _ q=>aeV _ q) (ae1 _) (vw (pF X.prog X.w s2.heap));have hD:(upd H2 s2.heap.objs.size (cM X.prog X.w s2.heap.objs.size [])) s2.heap.objs.size=some (cM X.prog X.w s2.heap.objs.size []):=ag;have f3:∀ b∈fp,oh X pins (upd H2 s2.heap.objs.size (cM X.prog X.w s2.heap.objs.size [])) b:=fun b hb=>by
  refine⟨?_,(f2 b hb).2⟩;rw [ah (afm (fpo b hb))];exact (f2 b hb).1
 generalize hS3:s2.heap.push { cls:=.type "set",dict:=none,data:=.set #[] 0 (.fresh 0 0 (!X.w.params.followText "set-order")) }=g3 at hns₁ hsb₁ I3 ⊢;have sz3:g3.objs.size=s2.heap.objs.size+1:=by rw [← hS3,agC]
 have fpo3:∀ b∈fp,b < ({ s2 with heap:=g3,toks:=s2.toks }:Shared).heap.objs.size:=fun b hb=>by
  show b < g3.objs.size;rw [sz3];exact agn (fpo b hb)
 have old:∀ b o,g3.get? b=some o->h₁.get? b=some o:=fun b o e=>hsb₁.extBut b o (afm (ae8 e)) (aeV _ e);have I4:=kW (tk:=s2.toks+([]:List (Str×Value)).length) S Cp I3 f3 fpo3 hns₁ old;generalize hX:X.comp scope N' g3.objs.size fp { s2 with heap:=g3,toks:=s2.toks } (upd H2 s2.heap.objs.size (cM X.prog X.w s2.heap.objs.size []))=X' at *;have hPr:X'.prog=X.prog:=by rw [← hX];rfl
 have hWr:X'.w=X.w:=by rw [← hX];rfl
 have hKr:X'.K=X.K:=by rw [← hX];rfl
 have hAr:X'.A=X.A:=by rw [← hX];rfl
 have hCa:X'.calm=true:=by rw [← hX];exact hc
 have hXe:X'.xe=fun _ _=>False:=by rw [← hX];rfl
 have hEx:X'.ex=fp:=by rw [← hX];rfl
 have hPn:X'.pn=[]:=by rw [← hX];rfl
 have hLo:X'.env.locals=g3.objs.size:=by rw [← hX];rfl
 have hEn:X'.env=compEnvC scope (pH X.env scope.names []) g3.objs.size X.env:=by rw [← hX];rfl
 have hg':=hg g3.objs.size fp { s2 with heap:=g3,toks:=s2.toks } (upd H2 s2.heap.objs.size (cM X.prog X.w s2.heap.objs.size []));have hf':=hf g3.objs.size fp { s2 with heap:=g3,toks:=s2.toks } (upd H2 s2.heap.objs.size (cM X.prog X.w s2.heap.objs.size []));have hk':=hk g3.objs.size fp { s2 with heap:=g3,toks:=s2.toks } (upd H2 s2.heap.objs.size (cM X.prog X.w s2.heap.objs.size []));rw [hX] at hg' hf' hk';have I4':Inv X' [] (cn nl ix σ) (upd H2 s2.heap.objs.size (cM X.prog X.w s2.heap.objs.size [])) { s2 with heap:=h₁,toks:=s2.toks+([]:List (Str×Value)).length }:=I4;have back:∀ {H':Hp} {σ':St} {pins':List (Addr×Obj)} {s':Shared} {h':Heap},Inv X' pins' σ' H' s'->Heap.SameBut g3.objs.size s'.heap h'->Inv X pins σ H' { s' with heap:=h' }:=fun I' sb=>by
  subst hX;exact jw I3 f3 I' sb
 have stat:∀ {H':Hp},(∀ b∈fp,H' b=none)->∀ b∈fp,oh X' [] H' b:=fun hn b hb=>by
  refine⟨hn b hb,?_,?_,.inl (by rw [hEx];exact hb),?_,fun p hp=>by rw [hPn] at hp;cases hp⟩
  ·rw [hLo];exact afm (fpo3 b hb)
  ·exact I4'.ok.exfs b (by rw [hEx];exact hb)
  ·exact (I4'.ok.exf b (by rw [hEx];exact hb)).2
 have loop:codeAny (model X.prog X.w) X.A (.compLoop (.SetComp ex [⟨tg,iter,ifs,0⟩] scope pos) 0 (.ref it) (.ref s2.heap.objs.size) X'.env)
  (compPost (model X.prog X.w) X.A X.xe none (EP X pins σ Q) (.ref s2.heap.objs.size) g3.objs.size) { s2 with heap:=h₁,toks:=s2.toks+([]:List (Str×Value)).length }:=by
  rw [← hPr,← hWr,← hAr];refine vJ (fun n s'=>∃ i ys H',Inv X' [] (cn nl ix σ) H' s'/\tn i s'.heap/\(∀ b∈fp,H' b=none)/\W i n ys H') ?_ m0
   ⟨0,[],_,I4',T.keep _ _ _ st2 (fun b hb o e=>old b o (by rw [← hS3];exact aeV _ e)),fun b hb=>(f3 b hb).1,w0⟩
  rintro n s5 ⟨i,ys,H5,I5,st5,fr5,w5⟩;obtain⟨hD5,alt⟩:=turn i n ys H5 w5;rcases alt with ⟨stop,qn⟩ | ⟨go,step⟩
  ·rw [hPr,hWr];refine thn (T.done X' hPr hWr hKr hCa i [] s5 _ H5 _ I5 (stat fr5) st5 stop) fun r s6 ⟨hr,I6⟩=>?_;subst hr;obtain⟨m,hn,_⟩:=I6.loc;rw [hLo] at hn;exact⟨m,hn,fun h' sb=>⟨.ref s2.heap.objs.size,H5,back I6 sb,rfl,qn⟩⟩
  ·have it5:=T.item X' hPr hWr hKr hCa i [] s5 _ H5 (fun _ _=>False) I5 (stat fr5) st5 go;rw [← hPr,← hWr] at it5;refine thn it5 fun r s6 ⟨u,hr,h6⟩=>?_;subst hr;refine thn h6 fun _ s7 ⟨x,H7,I7,r7,y7,st7,fr7⟩=>?_;have I7':=I7.pinned (stat fr7) (T.obj _ _ st7);have g7:=hg' _ s7 _ H7 x u _ I7' r7 (step x H7 y7);rw [hXe] at g7;refine thn g7 fun _ s8 ⟨σ8,H8,I8,⟨hl8,hd8⟩,q8⟩=>?_;have f8:=hf' _ s8 σ8 H8 _ I8 q8;rw [hXe] at f8;refine thn f8 fun ok s9 ⟨H9,I9,q9⟩=>?_;have again:∀ {H10:Hp} {s10:Shared} {ys':List Str},Inv X' ([]++ku fp s7.heap) σ8 H10 s10->(∃ m',m' < n/\W (i+1) m' ys' H10)->∃ m,m < n/\∃ i ys H',Inv X' [] (cn nl ix σ) H' s10/\tn i s10.heap/\(∀ b∈fp,H' b=none)/\W i m ys H':=fun {H10 s10 ys'} I10 ⟨m',hm,w'⟩=>by
    refine⟨m',hm,i+1,ys',H10,jy I10.unpinned hl8 hd8,T.keep _ _ _ st7 fun b hb o e=>(I10.pin (b,o) (aeW _ (aeW _ (bW hb e)))).1,fun b hb=>?_,w'⟩;obtain⟨o,e,d⟩:=T.obj _ _ st7 b hb;exact (I10.pin (b,o) (aeW _ (aeW _ (bW hb e)))).2.1
   cases ok with
   | false =>
    rw [if_neg aeY] at q9 ⊢;exact again I9 q9
   | true =>
    rw [if_pos rfl] at q9 ⊢;have e9:=hk' _ s9 σ8 H9 _ I9 q9;rw [hXe] at e9;refine thn e9 fun zv s10 ⟨z,H10,I10,r10,k,ez,hD10,hz,mw⟩=>?_;subst ez;have hadd:=oI (X:=X') _ s10 σ8 H10 (.ref s2.heap.objs.size) [.str k] (.ref s2.heap.objs.size) [zv] (fun _ H11=>∃ m',m' < n/\∃ ys',W (i+1) m' ys' H11) I10 rfl (.cons r10 .nil) ⟨_,ys,k,rfl,rfl,by rw [hPr,hWr];exact hD10,hz,fun ss' alt nd=>by
     obtain⟨m',hm,w'⟩:=mw ss' alt nd;exact⟨m',hm,ss',by rw [hPr,hWr];exact w'⟩⟩
    rw [hXe] at hadd;refine thn hadd fun _ s11 ⟨_,H11,I11,_,m',hm,ys',w'⟩=>?_;exact again I11 ⟨m',hm,w'⟩
 rw [hEn] at loop;exact tV loop (T.self _ 0 _ _ _ (T.keep _ _ _ st2 (fun b hb o e=>old b o (by rw [← hS3];exact aeV _ e))) loop)
end
def nz (P:Program)(w:World)(nl:Nat)(ix:List Nat)(g:TG)(tf:TT)(tk:TE)(σ:St)(D:Addr)(ys:List Str)(H:Hp)(x:V)(nxt:List Str->Hp->Prop):Prop :=
 g x (cn nl ix σ) H fun σ4 H4=>(σ4.length=(cn nl ix σ).length/\σ4.drop nl=ix.map fun j=>(σ[j]?).join)/\tf σ4 H4 fun b H5 =>
  if b=true then tk σ4 H5 fun z H6=>∃ k:Str,z=.str k/\H6 D=some (cM P w D ys)/\ys.length+1 < scanBound/\∀ ys',((k∈ys/\ys'=ys)\/(k ∉ ys/\ys'.Perm (ys++[k])))->ys'.Nodup->nxt ys' (upd H6 D (cM P w D ys')) else nxt ys H5
def yi (P:Program)(w:World)(nl:Nat)(ix:List Nat)(g:TG)(tf:TT)(tk:TE)(σ:St)(J:It)(H1:Hp)(D:Addr)(Q:VK):Prop :=
 ∃ W:Nat->Nat->List Str->Hp->Prop,(∃ m,W 0 m [] (upd H1 D (cM P w D []))) ∧
 ∀ i m ys H2,W i m ys H2->H2 D=some (cM P w D ys)/\((J.stop i H2/\Q (.ref D) H2)\/(J.go i H2/\∀ x H3,J.yld i H2 x H3->nz P w nl ix g tf tk σ D ys H3 x fun ys' H'=>∃ m',m' < m/\W (i+1) m' ys' H'))
theorem aax (P:Program)(w:World)(nl:Nat)(ix:List Nat)(wi:TI)(g:TG)(tf:TT)(tk:TE)(σ:St)(H:Hp)(Q:VK)(h:wi σ H fun J H1=>∀ D,H1 D=none->yi P w nl ix g tf tk σ J H1 D Q):xn P w nl ix wi g tf tk σ H Q:=h
section
variable {P:Program}{w:World}{nl:Nat}{ix:List Nat}{g:TG}{tf:TT}{tk:TE}{σ:St}{H1:Hp}{D:Addr}{Q:VK}(Pv:Nat->List Str->Hp->Prop)
theorem vM {K:PySem.W.Frag}{a:Addr}{xs:List V}(h0:Pv 0 [] (upd H1 D (cM P w D [])))(hD:∀ i ys H,Pv i ys H->H D=some (cM P w D ys))(hl:∀ i ys H,Pv i ys H->SqL K H a xs)
 (hs:∀ i ys H x,xs[i]? = some x->Pv i ys H->nz P w nl ix g tf tk σ D ys H x fun ys' H'=>Nx xs.length i (Pv (i+1) ys' H'))(hd:∀ ys H,Pv xs.length ys H->Q (.ref D) H):yi P w nl ix g tf tk σ (Itl K a) H1 D Q:=by
 refine⟨fun i m ys H=>m=xs.length - i/\i<=xs.length/\Pv i ys H,⟨xs.length,by simp,afe _,h0⟩,?_⟩;rintro i m ys H ⟨rfl,hi,p⟩;refine⟨hD i ys H p,?_⟩;by_cases hlt:i < xs.length
 ·refine .inr ⟨⟨xs,xs[i],hl i ys H p,by simp [hlt]⟩,fun x H' y=>?_⟩;obtain⟨e,y⟩:=y;subst e;exact hs i ys H' x (y xs (hl i ys H' p)) p
 ·have e:i=xs.length:=by lia
  subst e;exact .inl ⟨⟨xs,hl _ ys H p,ae1 _⟩,hd ys H p⟩
end
section
variable {X:Cx}{P:Program}{w:World}{outer scope:Scope}{N N':List Str}{nl:Nat}{ix:List Nat}{tg iter:Expr}{ifs:List Expr}{pos:Pos}{wi:TI}{g:TG}{tf:TT}
theorem ady {ex:Expr}{tk:TE}(h1:X.env.scope=outer)(h2:X.N=N)(hc:X.calm=true)(hi:PI X tg iter wi)
 (hg:∀ C fp s₀ H₀,PG (X.comp scope N' C fp s₀ H₀) tg g)(hf:∀ C fp s₀ H₀,PIf (X.comp scope N' C fp s₀ H₀) ifs tf)(hk:∀ C fp s₀ H₀,PE (X.comp scope N' C fp s₀ H₀) ex tk)
 (hP:X.prog=P:=by rfl)(hw:X.w=w:=by rfl)(hck:iT outer scope N N' nl ix=true:=by decide +kernel)(hs:∀ x,foldedSetIterable iter X.env x=pure x:=by intro _;rfl):PE X (.SetComp ex [⟨tg,iter,ifs,0⟩] scope pos) (xn P w nl ix wi g tf tk) :=
 let ⟨S,Cp⟩:=gJ h1 h2 hck
 aaw hP hw hc S Cp hi hg hf hk hs
end
end L2
namespace K7
open PySem L2 PyProof.Rows
section
variable {P:Program}{w:World}{K:PySem.W.Frag}{mg:Str->Option Value}{base:Heap}
theorem scCounted:aJ ["house","keys","locks","room_locks","within"] ["house"] (ar gv):=scM rfl rfl rfl rfl (by decide +kernel)
abbrev yT:Expr:=mE ((cq gv).getD 4 (.Pass ⟨0,0,0,0⟩))
theorem yB:iT (ar gv) (gF yT) ["house","keys","locks","room_locks","within"] ["kind","keys","locks"] 1 [1,2]=true:=by decide +kernel
theorem nd6:(["kind","keys","locks"]:List Str).Nodup:=by decide +kernel
theorem wj {f fR:Addr}{fd fdR:FuncData}(F:Fun K "kinds_counted" "kinds_counted" gv f fd)(GR:bF P w K mg base CX0 6 fR fdR ["thing"] aad)(cR:Cal K mg "require_house" ["thing"] fR fdR)
 (mLi:mg "list" = none)(mSo:mg "sorted" = none)(mSe:mg "set" = none):bF P w K mg base CX0 7 f fd ["house"] jG:=by
 refine F.ok scCounted (fun vs H Q E h=>?_) (fun cdv A outer s H vs Q E hr h=>?_)
 ·obtain⟨v,r,rfl,_⟩:=h
  rfl
 ·obtain⟨v,hs,rfl,hh,ok,⟨⟨U,hU,hUm⟩,nk,nl⟩,k⟩:=h;obtain⟨S,Cp⟩:=gJ (X:=(uM CX0 P w K mg base ["house","keys","locks","room_locks","within"] "kinds_counted" (ar gv) f cdv A outer s H E).nox) (outer:=ar gv) (N:=["house","keys","locks","room_locks","within"]) rfl rfl yB;refine⟨_,aj (bq (gc GR hr rfl cR.mg cR.kp cR.b .nil qf (ae (pv 0) ai)))
   (aj (aD (i:=1) scCounted.nd rfl (.inr rfl) (aZ bu rfl mLi (by decide +kernel) (ae (aF aO (pv 0) ak (fun _ _=>rfl)) ai)))
   (aj (aD (i:=2) scCounted.nd rfl (.inr rfl) (c9 ai))
   (aj (b4 afq rfl (aX (aF aO (pv 0) ak (fun _ _=>rfl)))
    (eV rfl (aG (az (i:=3) scCounted.nd rfl (.inl rfl)) (aG (az (i:=4) scCounted.nd rfl (.inl rfl)) bS)))
    (aj (bq (dc ae3 agP agQ gE (pv 2) (ae (pv 3) ai)))
    (au (bq (dc ae3 agP agQ gE (pv 1) (ae (pv 4) ai))))))
   (au (aQ (aaC (tg:=.Name "kind" _) rfl S Cp (aX (ax (b8 rfl) rfl mSo aha (ae (aZ (gi rfl) rfl mSe (by decide +kernel) (ae (aI mG (pv 1) (pv 2)) ai)) ai)))
    (fun _ _ _ _=>az (i:=0) nd6 rfl (.inl rfl) (.inr rfl)) (fun _ _ _ _=>bX) (fun _ _ _ _=>pv 0)
    (fun _ _ _ _=>bZ (ae (j8 (K:=K) rfl ae3 agI agJ iF (pv 1) (ae (pv 0) ai))
     (ae (j8 (K:=K) rfl ae3 agI agJ iF (pv 2) (ae (pv 0) ai)) ai))))))))),?_⟩
  refine⟨_,rfl,v,hs,rfl,hh,ok,fun H1 s1=>?_⟩;obtain⟨t,a,r,vs,rfl,ht,ha,hr',hR⟩:=hh.same s1;refine⟨_,rfl,t,_,0,.ref a,rfl,rfl,aAB ht,rfl,a,_,rfl,.inl (aAA ha),fun kA nA=>?_⟩;have m1:Same H1 (upd H1 kA (.lst (hs.1.map V.str))):=fun b u e=>by rw [ah (af e nA)];exact e
  refine⟨afe _,fun lA nL=>?_⟩;have nkl:kA≠lA:=af (show (upd H1 kA (.lst (hs.1.map V.str))) kA=some _ from ag) nL;have nL1:H1 lA=none:=m1.free nL;have m2:Same H1 (upd (upd H1 kA (.lst (hs.1.map V.str))) lA (.lst [])):=fun b u e=>by rw [ah (af e nL1)];exact m1 b u e
  refine⟨_,rfl,t,_,1,.ref r,rfl,rfl,aAB (m2 _ _ ht),rfl,r,rfl,⟨_,aAA (m2 _ _ hr')⟩,?_⟩;have kl:∀ i,(hs.1++(hs.2.take i).flatMap (·.2)).length<=1000:=fun i=>by
   have:=jH (fun x:Rm=>x.2) hs.2 i;unfold a7 at nk;rw [aeR] at nk ⊢;lia
  have ll:∀ i,((hs.2.take i).flatMap (·.1)).length<=1000:=fun i=>aft (jH (fun x:Rm=>x.1) hs.2 i) nl;refine bQ (xs:=vs) (fun i σ H2=>∃ x3 x4,σ=[some (.ref t),some (.ref kA),some (.ref lA),x3,x4]/\H2 kA=some (.lst ((hs.1++(hs.2.take i).flatMap (·.2)).map V.str))/\H2 lA=some (.lst (((hs.2.take i).flatMap (·.1)).map V.str))/\Same H1 H2) ?_ (fun i σ H2 _ ⟨_,_,_,_,_,sm⟩=>aAA (sm _ _ hr')) ?_ ?_
  ·exact⟨none,none,rfl,by rw [ah nkl,ag];simp,by rw [ag];rfl,m2⟩
  ·rintro i x σ H2 hx ⟨x3,x4,rfl,hk,hlk,sm⟩;have hi:i < vs.length:=(aeU.mp hx).1;have hi':i < hs.2.length:=by rw [← hR.1];exact hi
   obtain⟨tt,aa,bb,rfl,q1,q2,q3⟩:=hR.2 i x _ hx (aeO hi');have g1:=sm _ _ q1;have g2:=sm _ _ q2;have g3:=sm _ _ q3;have naL:aa≠lA:=af q2 nL1;have nbL:bb≠lA:=af q3 nL1;have nbK:bb≠kA:=af q3 nA;have l1:=ll (i+1);have k1:=kl (i+1);rw [dz _ _ _ hi',aeR] at l1;rw [dz _ _ _ hi',← afa,aeR] at k1;refine⟨tt,_,rfl,aAB g1,rfl,.ref aa,[.ref bb],rfl,.ref bb,[],rfl,rfl,?_⟩;refine⟨_,rfl,.inl ⟨rfl,_,aAA hlk⟩,_,rfl,lA,aa,_,_,rfl,rfl,hlk,g2,?_,?_⟩
   ·rw [aeP,aeP];exact afo (aC l1)
   ·have hk3:(upd H2 lA (.lst (((hs.2.take i).flatMap (·.1)).map V.str++(hs.2[i]).1.map V.str))) kA=some (.lst ((hs.1++(hs.2.take i).flatMap (·.2)).map V.str)):=by rw [ah nkl];exact hk
    have g3':(upd H2 lA (.lst (((hs.2.take i).flatMap (·.1)).map V.str++(hs.2[i]).1.map V.str))) bb=some (.lst ((hs.2[i]).2.map V.str)):=by rw [ah nbL];exact g3
    refine⟨_,rfl,.inl ⟨rfl,_,aAA hk3⟩,_,rfl,kA,bb,_,_,rfl,rfl,hk3,g3',?_,?_⟩
    ·rw [aeP,aeP];exact afo (aC k1)
    ·refine⟨_,_,rfl,?_,?_,fun b u e=>?_⟩
     ·rw [ag,dz _ _ _ hi',← afa,ae2 (l₂:=(hs.2[i]).2)]
     ·rw [ah (agM nkl),ag,dz _ _ _ hi',ae2]
     ·rw [ah (af e nA),ah (af e nL1)];exact sm b u e
  ·rintro σ H2 ⟨x3,x4,rfl,hk,hlk,sm⟩;have ek:hs.1++(hs.2.take vs.length).flatMap (·.2)=a7 hs:=by rw [hR.1,afs];rfl
   have el:(hs.2.take vs.length).flatMap (·.1)=aN hs:=by rw [hR.1,afs];rfl
   rw [ek] at hk;rw [el] at hlk;dsimp only [zi];refine zW _ _ _ _ _ _ _ _ _ _ ?_;refine⟨_,rfl,_,rfl,kA,lA,_,_,rfl,rfl,hk,hlk,by rw [aeP,aeP];exact aft (Nat.add_le_add nk nl) (by decide),fun cA nC=>?_⟩;refine⟨cA,a7 hs++aN hs,rfl,aAA (by rw [ag,ae2]),by rw [aeR];exact afx (aiG (Nat.add_le_add nk nl) 1) (by decide),fun sA ts nS hts=>?_⟩;have tl:ts.length < 64:=afx (aB (U:=U) hts.1 fun x hx=>hUm x (aeT.mp ((hts.2 x).mp hx))) hU;refine⟨sA,ts,rfl,ag,tl,fun oA ss nO hp hso=>?_⟩;dsimp only [uM];generalize hH3:upd (upd (upd H2 cA (.lst ((a7 hs).map V.str++(aN hs).map V.str))) sA (cM P w sA ts)) oA (.lst (ss.map V.str))=H3;have sm3:Same H2 H3:=fun b u e=>by
    have n1:b≠cA:=af e nC;have e1:(upd H2 cA (.lst ((a7 hs).map V.str++(aN hs).map V.str))) b=some u:=by rw [ah n1];exact e
    have n2:b≠sA:=af e1 nS;have e2:(upd (upd H2 cA (.lst ((a7 hs).map V.str++(aN hs).map V.str))) sA (cM P w sA ts)) b=some u:=by rw [ah n2];exact e1
    rw [← hH3,ah (af e2 nO)];exact e2
   have ho3:H3 oA=some (.lst (ss.map V.str)):=by rw [← hH3];exact ag
   have hk3:=sm3 _ _ hk;have hl3:=sm3 _ _ hlk;have smem:∀ x,x∈ss↔(x∈a7 hs\/x∈aN hs):=fun x=>by rw [hp.mem_iff,hts.2 x,aeT]
   have snd:ss.Nodup:=hp.nodup_iff.mpr hts.1;have sl:ss.length < 64:=by rw [hp.length_eq];exact tl
   refine⟨oA,rfl,⟨_,aAA ho3⟩,?_⟩;intro D hD;refine wR (xs:=ss.map V.str) (fun i ys H4=>ys.map (·.1)=(ss.take i).map Sum.inr/\i<=64/\(∀ x v,(Sum.inr x,v)∈ys->∃ t:Addr,v=.ref t/\H4 t=some (.tup [.int (((a7 hs).count x:Nat):Int),.int (((aN hs).count x:Nat):Int)]))/\H4 D=some (.dK ys)/\Same H3 H4)
    ⟨rfl,by decide,(fun x v h=>nomatch h),ag,fun b u e=>by rw [ah (af e hD)];exact e⟩ (fun i ys H4 ⟨_,_,_,h,_⟩=>h) (fun i ys H4 ⟨_,_,_,_,sm4⟩=>aAA (sm4 _ _ ho3)) ?_ ?_
   ·rintro i ys H4 x hx ⟨hy,hi0,hv,hD4,sm4⟩;have hi:i < (ss.map V.str).length:=(aeU.mp hx).1;have hi':=hi;rw [aeP] at hi';rw [aeZ,aeO hi'] at hx;cases hx;have hk4:=sm4 _ _ hk3;have hl4:=sm4 _ _ hl3;refine wz rfl ?_;refine⟨_,rfl,?_⟩;refine⟨_,rfl,.inl ⟨rfl,_,aAA hk4⟩,_,rfl,kA,a7 hs,ss[i],rfl,rfl,hk4,?_⟩;refine⟨_,rfl,.inl ⟨rfl,_,aAA hl4⟩,_,rfl,lA,aN hs,ss[i],rfl,rfl,hl4,?_⟩;refine⟨by show 2<=sizeLine;decide,fun tA nT=>?_⟩;have nD:D≠tA:=af hD4 nT;have yl:ys.length=i:=by
     have:=afJ List.length hy;rw [aeP,aeP,afn] at this;lia
    have hnew:(Sum.inr ss[i]:Key) ∉ ys.map (·.1):=by
     rw [hy];intro z;obtain⟨x,hx,e⟩:=ae4.mp z;cases e;obtain⟨j,hj,e⟩:=agb.mp hx;rw [ahi] at e;rw [afn] at hj;have hd:=agu.mp snd j i (by lia) hi' (by lia);exact hd e
    have hvn:b9 ys (Sum.inr ss[i])=none:=by
     cases q:b9 ys (Sum.inr ss[i]) with
     | none=>rfl
     | some v=>exact absurd (ae4.mpr ⟨_,iG q,rfl⟩) hnew
    refine⟨Sum.inr ss[i],rfl,by rw [ah nD];exact hD4,by rw [yl];exact aC (by lia),nx hi ⟨?_,by lia,?_,ag,fun b u e=>?_⟩⟩
    ·rw [k8 _ hvn,ae2,hy,afk,aeO hi',ae2]
     rfl
    ·intro x v h;rw [k8 _ hvn] at h;rcases aeT.mp h with h | h
     ·obtain⟨t',e,q⟩:=hv x v h;exact⟨t',e,by rw [ah (bU q hD4 (fun z=>nomatch z)),ah (af q nT)];exact q⟩
     ·have h':=aeS.mp h;cases h';exact⟨tA,rfl,by rw [ah (agM nD),ag]⟩
    ·rw [ah (af e hD)];have:=sm4 b u e;rw [ah (af this nT)];exact this
   ·rintro ys H4 ⟨hy,_,hv,hD4,sm4⟩;rw [aeP,afs] at hy;refine k D ys H4 ((s1.trans (sm.trans sm3)).free hD) (s1.trans (sm.trans (sm3.trans sm4))) hD4 ⟨?_,fun q=>?_,hv⟩
    ·rw [hy];exact List.Pairwise.map _ (fun a b h z=>h (by cases z;rfl)) snd
    ·rw [hy,ae4];exact⟨fun ⟨x,hx,e⟩=>⟨x,e.symm,(smem x).mp hx⟩,fun ⟨x,e,hx⟩=>⟨x,(smem x).mpr hx,e.symm⟩⟩
def sI (h:Hs):Bool:=h.2.all fun r=>decide (r.1.length=1)
def yf:Sp:=fun vs H Q _=>∃ (v:V) (h:Hs),vs=[v]/\HouseAt H v h/\gu h/\∀ H',Same H H'->Q (.bl (sI h)) H'
def oC:Sp:=fun vs H Q _=>∃ (v:V) (h:Hs),vs=[v]/\HouseAt H v h/\gu h/\sI h=true/\∀ H',Same H H'->Q .non H'
theorem ug:aJ ["house"] ["house"] (ar fZ):=scM rfl rfl rfl rfl (by decide +kernel)
theorem jK:(["locks","within"]:List Str).Nodup:=by decide +kernel
theorem kP:aJ ["thing"] ["thing"] (ar dN):=scM rfl rfl rfl rfl (by decide +kernel)
theorem zx {f fQ:Addr}{fd fdQ:FuncData}(F:Fun K "is_plain" "is_plain" fZ f fd)(eJ:bF P w K mg base CX0 6 fQ fdQ ["thing"] aad)(bG:Cal K mg "require_house" ["thing"] fQ fdQ)(sV:mg "all" = none)(aU:mg "len" = none):bF P w K mg base CX0 7 f fd ["house"] yf:=by
 refine F.ok ug (fun vs H Q E h=>?_) (fun cdv A outer s H vs Q E hr h=>?_)
 ·obtain⟨v,h,rfl,_⟩:=h
  rfl
 ·obtain⟨v,h,rfl,hh,ok,k⟩:=h;refine⟨_,(aj (bq (pcl eJ bG hr rfl (ae (pv 0) ai)))
   (au (aQ (ax (jF rfl) rfl sV (by decide +kernel) (ae (jP (outer:=ar (fZ)) (N:=["house"]) (N':=["locks","within"]) (nl:=2) (ix:=[]) rfl rfl rfl (aX (aF aO (pv 0) ak (fun _ _=>rfl)))
    (fun _ _ _ _=>(jQ (K:=K) (n:=2) rfl rfl (aG (az (i:=0) jK rfl (.inl rfl) (.inr rfl)) (aG (az (i:=1) jK rfl (.inl rfl) (.inr rfl)) bS)))) (fun _ _ _ _=>bX)
    (fun _ _ _ _=>(b7 gy (ax (h9 (K:=K) rfl) rfl aU afi (ae (pv 0) ai)) ak (aM _)))) ai))))),?_⟩
  refine⟨_,rfl,v,h,rfl,hh,ok,fun H1 s1=>?_⟩;obtain⟨t,a,r,vs,rfl,ht,ha,hrr,hR⟩:=hh.same s1;dsimp only [oj,zi,tCB,eP,kX];refine aW _ _ _ _ _ _ _ _ _ ?_;refine⟨_,rfl,t,_,1,.ref r,rfl,rfl,aAB ht,rfl,r,rfl,⟨_,aAA hrr⟩,?_⟩;intro D hD;have hl:=hR.1;have rl:=ok.rl;refine bV (xs:=vs) (fun i ys H2=>ys=((h.2.take i).map fun r=>decide (r.1.length=1)).map V.bl/\i<=h.2.length/\H2 D=some (.lst ys)/\Same H1 H2) ⟨rfl,afe _,ag,fun b u e=>by rw [ah (af e hD)];exact e⟩ (fun i ys H2 ⟨_,_,h,_⟩=>h) (fun i ys H2 ⟨_,_,_,sm⟩=>aAA (sm r _ hrr)) ?_ ?_
  ·rintro i ys H2 x hx ⟨rfl,hi0,hD2,sm⟩;have hi:i < vs.length:=(aeU.mp hx).1;have hi':i < h.2.length:=by lia
   have er:h.2[i]? = some h.2[i]:=aeO hi';obtain⟨tt,aa,bb,rfl,g1,g2,g3⟩:=(hR.2 i x _ hx er).same sm;refine pz tt (.ref aa) (.ref bb) rfl (aAB g1) rfl ?_;refine⟨_,rfl,aa,_,rfl,.inl (aAA g2),rfl,hD2,by rw [aeP,aeP,afn];exact aC (by lia),nx hi ⟨?_,by lia,ag,fun b u e=>?_⟩⟩
   ·rw [List.take_succ,er,ae2,ae2];simp only [aie,afb,aio,aeP];congr 3;by_cases q:(h.2[i]).1.length=1
    ·rw [q];rfl
    ·rw [afw q,afw];intro z;injection z with z
     lia
   ·rw [ah (af e hD)];exact sm b u e
  ·rintro ys H2 ⟨rfl,_,hD2,sm⟩;refine⟨D,_,rfl,aAA hD2,?_⟩;have z3:=k H2 (s1.trans sm);have e3:sI h=(((h.2.take vs.length).map fun r=>decide (r.1.length=1)).all id):=by
    rw [hl,afs,ajd]
    rfl
   rw [e3] at z3;exact z3
theorem ui {f fL:Addr}{fd fdL:FuncData}(F:Fun K "require_plain" "require_plain" dN f fd)(wk:bF P w K mg base CX0 7 fL fdL ["house"] yf)(jY:Cal K mg "is_plain" ["house"] fL fdL):bF P w K mg base CX0 8 f fd ["thing"] oC:=by
 refine F.ok kP (fun vs H Q E h=>?_) (fun cdv A outer s H vs Q E hr h=>?_)
 ·obtain⟨v,h,rfl,_⟩:=h
  rfl
 ·obtain⟨v,h,rfl,hh,ok,pl,k⟩:=h;refine⟨_,(au (cu (gL (fJ (pcl wk jY hr rfl (ae (pv 0) ai))))
   qD bf)),?_⟩
  refine⟨_,rfl,v,h,rfl,hh,ok,fun H1 s1=>⟨true,by rw [pl],gz (k H1 s1)⟩⟩
theorem aaG {H:Hp}{kvs:List (Key×V)}{ks ls:List Str}(c:CountMap H kvs ks ls)(k:Str) :
 (∃ t:Addr,b9 kvs (Sum.inr k)=some (.ref t)/\H t=some (.tup [.int ((ks.count k:Nat):Int),.int ((ls.count k:Nat):Int)]))\/(b9 kvs (Sum.inr k)=none/\ks.count k=0/\ls.count k=0):=by
 cases e:b9 kvs (Sum.inr k) with
 | some v =>
  obtain⟨t,rfl,ht⟩:=c.val k v (iG e);exact .inl ⟨t,rfl,ht⟩
 | none =>
  have no:Sum.inr k ∉ kvs.map (·.1):=fun hm=>by
   obtain⟨⟨k',v⟩,hkv,ek⟩:=ae4.mp hm;have ek':k'=Sum.inr k:=ek;subst ek';unfold b9 at e;rw [aih,aje] at e;exact e _ hkv (by simp)
  have no':¬(k∈ks\/k∈ls):=fun z=>no ((c.mem _).mpr ⟨k,rfl,z⟩);exact .inr ⟨rfl,ag7.mpr fun z=>no' (.inl z),ag7.mpr fun z=>no' (.inr z)⟩
theorem xo {H:Hp}{kvs:List (Key×V)}{ks ls:List Str}(c:CountMap H kvs ks ls):∃ ss:List Str,kvs.map (·.1)=ss.map Sum.inr/\ss.Nodup/\∀ x∈ss,x∈ks\/x∈ls:=by
 have gen:∀ l:List Key,(∀ q∈l,∃ x,q=Sum.inr x/\(x∈ks\/x∈ls))->∃ ss:List Str,l=ss.map Sum.inr/\∀ x∈ss,x∈ks\/x∈ls:=fun l=>by
  induction l with
  | nil=>intro _;exact⟨[],rfl,fun _ h=>nomatch h⟩
  | cons q l ih =>
   intro h;obtain⟨ss,rfl,k⟩:=ih fun q hq=>h q (ae6 _ hq);obtain⟨x,rfl,hx⟩:=h q ae0;refine⟨x::ss,rfl,fun y hy=>?_⟩;rcases ae7.mp hy with e | e
   ·rw [e];exact hx
   ·exact k y e
 obtain⟨ss,e,k⟩:=gen _ fun q hq=>(c.mem q).mp hq;refine⟨ss,e,?_,k⟩;have:=c.nd;rw [e] at this;exact List.Pairwise.of_map _ (fun a b h z=>h (by rw [z])) this
def FewK (h:Hs)(k:Str):Prop:=(a7 h).count k < (aN h).count k
def pj (h:Hs)(k:Str):Prop:=FewK h k/\∀ k',FewK h k'->leS k k'
abbrev aev (h:Hs)(k:Str):List V:=[.str "few",.str k,.int (((a7 h).count k:Nat):Int),.int (((aN h).count k:Nat):Int)]
def aaW:Sp:=fun vs H Q _=>∃ (v:V) (h:Hs),vs=[v]/\HouseAt H v h/\HouseD h/\(∀ H',Same H H'->(∀ k,¬ FewK h k)->Q .non H')/\∀ (t:Addr) (k:Str) (H':Hp),Same H H'->H' t=some (.tup (aev h k))->pj h k->Q (.ref t) H'
inductive FpI (h:Hs)(ss:List Str)(H2:Hp)(i:Nat)(f:Option V->Option V->Option V->L2.St)(σ:L2.St)(H':Hp):Prop
 | mk (x2 x3 x4:Option V):σ=f x2 x3 x4->Same H2 H'->(∀ k∈ss.take i,¬ FewK h k)->FpI h ss H2 i f σ H'
theorem FewK.mem {h:Hs}{k:Str}(x:FewK h k):k∈aN h:=af9.mp (afx (afe _) x)
theorem xO {ss:List Str}(so:sortedS ss=true){i:Nat}(hi:i < ss.length){k:Str}(hk:k∈ss)(no:k ∉ ss.take i):leS ss[i] k:=by
 have pw:=dJ so;have e:ss=ss.take i++ss[i]::ss.drop (i+1):=by rw [← afU hi,afD]
 generalize ss[i]=z at *;rw [e,afC,afP] at pw;rw [e] at hk;rcases aeT.mp hk with m | m
 ·exact absurd m no
 ·rcases ae7.mp m with m | m
  ·rw [m];exact leS_iff.mpr (aj8 _)
  ·exact pw.2.1.1 k m
theorem dC:aJ ["house","counts","kind","keys","locks"] ["house"] (ar ig):=scM rfl rfl rfl rfl (by decide +kernel)
theorem ace {f fC:Addr}{fd fdC:FuncData}(F:Fun K "few_paper" "few_paper" ig f fd)(lr:bF P w K mg base CX0 7 fC fdC ["house"] jG)(eI:Cal K mg "kinds_counted" ["house"] fC fdC)(aV:mg "sorted" = none):bF P w K mg base CX0 8 f fd ["house"] aaW:=by
 refine F.ok dC (fun vs H Q E h=>?_) (fun cdv A outer s H vs Q E hr h=>?_)
 ·obtain⟨v,h,rfl,_⟩:=h
  rfl
 ·obtain⟨v,h,rfl,hh,hD,q1,q2⟩:=h;have hu:=i6 hr;refine⟨_,(aj (aD (i:=1) dC.nd rfl (.inl rfl) (pcl lr eI hr rfl (ae (pv 0) ai)))
   (aj (aR (b4 afq rfl (aX (ax (gx rfl) rfl aV aha (ae (pv 1) ai))) (az (i:=2) dC.nd rfl (.inl rfl))
    (aj (jD (gN hu (pv 1) (pv 2) (fun _ _=>rfl)) (eV rfl (aG (az (i:=3) dC.nd rfl (.inl rfl)) (aG (az (i:=4) dC.nd rfl (.inl rfl)) bS))))
    (au (cu (aH zb (pv 4) (pv 3) (aM _))
     (au (aQ (bZ (ae cN (ae (pv 2) (ae (pv 3) (ae (pv 4) ai))))))) bf)))))
   (au (aQ j9)))),?_⟩
  refine⟨_,rfl,v,h,rfl,hh,hD.ok,hD.few',fun d kvs H1 nd s1 hd cm=>?_⟩;obtain⟨ss,ess,ssn,ssm⟩:=xo cm;obtain⟨U,ul,inU⟩:=hD.few;have ssl:ss.length<=62:=aft (aB (U:=U) ssn fun x hx=>inU x (ssm x hx)) ul;have lin:∀ k∈aN h,k∈ss:=fun k hk=>by
   have:=(cm.mem (Sum.inr k)).mpr ⟨k,rfl,.inr hk⟩;rw [ess] at this;obtain⟨x,hx,e⟩:=ae4.mp this;injection e with e
   rw [← e];exact hx
  refine⟨fun σ' H'=>Same H1 H'/\∀ k,¬ FewK h k,fun σ' H' z=>q1 H' (s1.trans z.1) z.2,?_⟩;refine⟨_,rfl,d,kvs,ss,rfl,hd,ess,by lia,fun sl sk nsl perm so=>?_⟩;have s2:Same H1 (upd H1 sl (.lst (sk.map V.str))):=aq nsl;have e2:(upd H1 sl (.lst (sk.map V.str))) sl=some (.lst (sk.map V.str)):=ag;generalize upd H1 sl (.lst (sk.map V.str))=H2 at *;have lin':∀ k∈aN h,k∈sk:=fun k hk=>perm.mem_iff.mpr (lin k hk);have cm2:=cm.on s2.keepT;refine⟨sl,rfl,⟨_,aAA e2⟩,?_⟩;refine bQ (xs:=sk.map V.str) (fun i σ' H'=>FpI h sk H2 i (fun x2 x3 x4=>[some v,some (.ref d),x2,x3,x4]) σ' H') ⟨none,none,none,rfl,Same.refl _,fun k hk=>by simp at hk⟩ (fun i σ H' _ ⟨_,_,_,_,sm,_⟩=>aAA (sm _ _ e2)) ?_ (fun σ H' ⟨_,_,_,_,sm,no⟩=>⟨s2.trans sm,fun k hk=>by rw [aeP,afs] at no;exact no k (lin' k hk.mem) hk⟩);rintro i x σ H3 hx ⟨x2,x3,x4,rfl,sm,no⟩;have hi:i < sk.length:=by have:=(aeU.mp hx).1;rwa [aeP] at this
  rw [aeZ,aeO hi] at hx;cases hx;have hd3:=sm _ _ (s2 _ _ hd);have kin:sk[i]∈a7 h\/sk[i]∈aN h:=ssm _ (perm.mem_iff.mp (afh hi));rcases aaG (cm2.on sm.keepT) sk[i] with ⟨t',ev,ht'⟩ | ⟨_,c1,c2⟩;rotate_left
  ·exfalso;rcases kin with z | z
   ·exact absurd (af9.mpr z) (by lia)
   ·exact absurd (af9.mpr z) (by lia)
  have tk:sk.take (i+1)=sk.take i++[sk[i]]:=by rw [afk,aeO hi];rfl
  refine⟨_,rfl,_,rfl,d,.ref t',rfl,by rw [← ev];exact DGet.k (k:=Sum.inr sk[i]) hd3,t',_,rfl,aAB ht',rfl,_,_,rfl,_,_,rfl,rfl,?_⟩;refine⟨_,rfl,_,rfl,_,_,rfl,rfl,_,rfl,uI (fun hb=>?_) (fun hb=>?_)⟩
  ·have hb':FewK h sk[i]:=by
    have:=agW hb;unfold FewK;lia
   refine⟨_,rfl,_,rfl,_,rfl,by show 4<=sizeLine;decide,fun t nt=>?_⟩;refine q2 t sk[i] _ (s1.trans (s2.trans (sm.trans (aq nt)))) ag ⟨hb',fun k' hk'=>?_⟩;exact xO so hi (lin' k' hk'.mem) fun z=>no k' z hk'
  ·refine⟨_,_,_,rfl,sm,fun k hk=>?_⟩;rw [tk] at hk;rcases aeT.mp hk with z | z
   ·exact no k z
   ·rw [aeS.mp z];intro y;unfold FewK at y;exact hb (afv (by lia))
theorem ue {P:Program}{w:World}{K:PySem.W.Frag}{nl:Nat}{ix:List Nat}{tf:TT}{te:TE}{σ:L2.St}{H1:Hp}{D r:Addr}{Q:VK}{vs:List V}{rs:List Rm}{pb:Rm->Bool}(hr:H1 r=some (.lst vs))(hR:RoomsAt H1 vs rs)(nD:H1 D=none)(hl:rs.length<=1000)
 (hc:∀ x y,(((cn nl ix σ).set 0 (some x)).set 1 (some y)).drop nl=ix.map fun j=>(σ[j]?).join)
 (ht:∀ (H:Hp) (rm:Rm) (aa bb:Addr) (R:Bool->Hp->Prop),rm∈rs->H aa=some (.lst (rm.1.map V.str))->Same H1 H->R (pb rm) H->tf (((cn nl ix σ).set 0 (some (.ref aa))).set 1 (some (.ref bb))) H R)
 (he:∀ (H:Hp) (rm:Rm) (aa bb:Addr) (R:VK),rm∈rs->H aa=some (.lst (rm.1.map V.str))->Same H1 H->R (.str (aw rm)) H->te (((cn nl ix σ).set 0 (some (.ref aa))).set 1 (some (.ref bb))) H R)
 (hd:∀ ys H,Same H1 H->H D=some (cM P w D ys)->ys.Nodup->(∀ x,x∈ys↔∃ m∈rs,pb m=true/\aw m=x)->Q (.ref D) H):yi P w nl ix (zP K 2 (kQ (bg 0) (kQ (bg 1) abf))) tf te σ (Itl K r) H1 D Q:=by
 have hl1:=hR.1;have lim:1001 < scanBound:=by decide
 refine vM (xs:=vs) (fun i ys H=>i<=rs.length/\ys.Nodup/\ys.length<=i/\(∀ x,x∈ys↔∃ m∈rs.take i,pb m=true/\aw m=x)/\H D=some (cM P w D ys)/\Same H1 H) ⟨afe _,ag9,ae1 _,fun x=>by simp,ag,aq nD⟩ (fun i ys H ⟨_,_,_,_,h,_⟩=>h) (fun i ys H ⟨_,_,_,_,_,s⟩=>aAA (s r _ hr)) ?_ ?_
 ·rintro i ys H x hx ⟨hi0,nd,yl,mem,hD,s⟩;have hi:i < vs.length:=(aeU.mp hx).1;have hi':i < rs.length:=by lia
  have er:rs[i]? = some rs[i]:=aeO hi';have mr:rs[i]∈rs:=afh hi';have tk:rs.take (i+1)=rs.take i++[rs[i]]:=by rw [afk,er];rfl
  obtain⟨tt,aa,bb,rfl,g1,g2,g3⟩:=(hR.2 i x _ hx er).same s;unfold nz zP kQ bg abf;refine⟨tt,_,rfl,aAB g1,rfl,.ref aa,[.ref bb],rfl,.ref bb,[],rfl,rfl,⟨by simp,hc _ _⟩,ht H rs[i] aa bb _ mr g2 s ?_⟩;cases e:pb rs[i] with
  | true =>
   rw [if_pos rfl];refine he H rs[i] aa bb _ mr g2 s ⟨aw rs[i],rfl,hD,by lia,fun ys' alt nd'=>nx hi ⟨by lia,nd',?_,fun x=>?_,ag,fun b u e=>?_⟩⟩
   ·rcases alt with ⟨_,rfl⟩ | ⟨_,p⟩
    ·lia
    ·rw [p.length_eq,aeR,afT];lia
   ·have m1:x∈ys'↔x∈ys\/x=aw rs[i]:=by
     rcases alt with ⟨h1,rfl⟩ | ⟨_,p⟩
     ·exact⟨.inl,fun h=>h.elim id fun z=>z▸h1⟩
     ·rw [p.mem_iff,aeT,aeS]
    rw [m1,mem,tk];constructor
    ·rintro (⟨m,hm,q⟩ | z)
     ·exact⟨m,aff _ hm,q⟩
     ·exact⟨rs[i],aeW _ (aeS.mpr rfl),e,z.symm⟩
    ·rintro⟨m,hm,q1,q2⟩;rcases aeT.mp hm with z | z
     ·exact .inl ⟨m,z,q1,q2⟩
     ·rw [aeS.mp z] at q2;exact .inr q2.symm
   ·rw [ah (af e nD)];exact s b u e
  | false =>
   rw [if_neg aeY];refine nx hi ⟨by lia,nd,by lia,fun x=>?_,hD,s⟩;rw [mem,tk];constructor
   ·rintro⟨m,hm,q⟩;exact⟨m,aff _ hm,q⟩
   ·rintro⟨m,hm,q1,q2⟩;rcases aeT.mp hm with z | z
    ·exact⟨m,z,q1,q2⟩
    ·rw [aeS.mp z,e] at q1;cases q1
 ·rintro ys H ⟨_,nd,_,mem,hD,s⟩;rw [hl1,afs] at mem;exact hd ys H s hD nd mem
structure abh (h:Hs)(ss:List Str):Prop where
 nd:ss.Nodup
 so:sortedS ss=true
 mem:∀ x,x∈ss↔(∃ m∈h.2,aw m=x)/\¬ Com h.1 h.2 x
theorem b5 {h:Hs}(x:HouseD h):Plain h.2:=fun r hr=>by
 obtain⟨k,e⟩:=x.pl r hr;unfold aw;rw [e]
 rfl
theorem pD {h:Hs}(x:HouseD h):aN h=h.2.map aw:=by
 have:∀ rs:List Rm,Plain rs->rs.flatMap (·.1)=rs.map aw:=fun rs=>by
  induction rs with
  | nil=>intro _;rfl
  | cons a t ih =>
   intro p;rw [agd,afb,ih fun r hr=>p r (ae6 _ hr),p a ae0]
   rfl
 exact this h.2 (b5 x)
def qh:Sp:=fun vs H Q _=>∃ (v:V) (h:Hs),vs=[v]/\HouseAt H v h/\HouseD h/\∀ (l:Addr) (ss:List Str) (H':Hp),H l=none->Same H H'->H' l=some (.lst (ss.map V.str))->abh h ss->Q (.ref l) H'
theorem jx:aJ ["house","come"] ["house"] (ar dQ):=scM rfl rfl rfl rfl (by decide +kernel)
theorem hJ:(["locks","within","come"]:List Str).Nodup:=by decide +kernel
theorem aam {f fC:Addr}{fd fdC:FuncData}(F:Fun K "shut_kinds" "shut_kinds" dQ f fd)(jT:bF P w K mg base CX0 7 fC fdC ["house"] lE)(dq:Cal K mg "kinds_that_come" ["house"] fC fdC)(aV:mg "sorted" = none):bF P w K mg base CX0 8 f fd ["house"] qh:=by
 refine F.ok jx (fun vs H Q E h=>?_) (fun cdv A outer s H vs Q E hr h=>?_)
 ·obtain⟨v,h,rfl,_⟩:=h
  rfl
 ·obtain⟨v,h,rfl,hh,hD,k⟩:=h;refine⟨_,(aj (aD (i:=1) jx.nd rfl (.inr rfl) (pcl jT dq hr rfl (ae (pv 0) ai)))
   (au (aQ (ax (b8 rfl) rfl aV aha (ae (ady (P:=P) (w:=w) (outer:=ar (dQ)) (N:=["house","come"]) (N':=["locks","within","come"]) (nl:=2) (ix:=[1]) rfl rfl rfl (aX (aF aO (pv 0) ak (fun _ _=>rfl)))
    (fun _ _ _ _=>(jQ (K:=K) (n:=2) rfl rfl (aG (az (i:=0) hJ rfl (.inl rfl) (.inr rfl)) (aG (az (i:=1) hJ rfl (.inl rfl) (.inr rfl)) bS)))) (fun _ _ _ _=>(dM (aH (fX (K:=K) rfl) (aF (dv (K:=K) rfl) (pv 0) ak (fun _ _=>rfl)) (pv 2) rfl)))
    (fun _ _ _ _=>(aF (dv (K:=K) rfl) (pv 0) ak (fun _ _=>rfl)))) ai))))),?_⟩
  have rl:=hD.rl;refine⟨_,rfl,v,h,rfl,hh,hD.ok,hD.few',by lia,fun cA cs H1 s1 nC hC cnd cso com=>?_⟩;obtain⟨t,a,r,vs,rfl,ht,ha,hrr,hR⟩:=hh.same s1;have pl:=b5 hD;dsimp only [bg,tI,sd,zi,tCB,eP,kX];refine aax _ _ _ _ _ _ _ _ _ _ _ ?_;refine⟨_,rfl,t,_,1,.ref r,rfl,rfl,aAB ht,rfl,r,rfl,⟨_,aAA hrr⟩,?_⟩;intro D nD;refine ue (pb:=fun m=>!inV (.str (aw m)) (cs.map V.str)) hrr hR nD (by lia) (fun x y=>rfl) (fun G rm aa bb R hm g2 sG q=>?_) (fun G rm aa bb R hm g2 sG q=>?_) (fun ys H2 s2 hD2 nd2 mem2=>?_)
  ·rw [pl rm hm] at g2;exact⟨_,rfl,aa,_,0,.str (aw rm),rfl,rfl,aAA g2,rfl,_,rfl,cA,_,rfl,.inl (aAA (sG _ _ hC)),rfl,by simp [kO],_,rfl,q⟩
  ·rw [pl rm hm] at g2;exact⟨_,rfl,aa,_,0,.str (aw rm),rfl,rfl,aAA g2,rfl,q⟩
  obtain⟨U,ul,inU⟩:=hD.few;have yl:ys.length<=62:=aft (aB (U:=U) nd2 fun x hx=>by
   obtain⟨m,hm,_,e⟩:=(mem2 x).mp hx;refine inU x (.inr ?_);rw [pD hD];exact ae4.mpr ⟨m,hm,e⟩) ul
  refine⟨D,ys,rfl,hD2,by lia,fun oA ss nO hp hso=>?_⟩;have s02:=s1.trans s2;refine k oA ss _ (s02.free nO) (s02.trans (aq nO)) ag ⟨hp.nodup_iff.mpr nd2,hso,fun x=>?_⟩;rw [hp.mem_iff,mem2];have ni:∀ m:Rm,((!inV (.str (aw m)) (cs.map V.str))=true)↔¬ Com h.1 h.2 (aw m):=fun m=>by
   rw [tN,ahf,ahr];exact not_congr (com _)
  constructor
  ·rintro⟨m,hm,q1,q2⟩;exact⟨⟨m,hm,q2⟩,by rw [← q2];exact (ni m).mp q1⟩
  ·rintro⟨⟨m,hm,q2⟩,nc⟩;exact⟨m,hm,(ni m).mpr (by rw [q2];exact nc),q2⟩
end
end K7
namespace TS
open PySem PyProof.Rows
def xi:Bool->Keyed->Array Keyed->Nat->Nat->Nat->StateT SortSt Sem (Option Nat):=sortPriv% PySem.Builtin.gallop
def kk (κ:KeyKind)(p:Keyed):κ.α:=(κ.keyOf p.1).getD κ.dflt
def Va (κ:KeyKind)(p:Keyed):Prop:=∃ a,κ.keyOf p.1=some a
theorem pJ {κ:KeyKind}{xs:Array Keyed}{i:Nat}{p:Keyed}(h:xs[i]? = some p):KK κ xs i=kk κ p:=by
 unfold KK kk;rw [h]
section
variable {prog:Program}{w:World}{A:Around}{E:Value->Shared->Prop}{s:Shared}{κ:KeyKind}
theorem ads (hO:κ.OneLt){st:SortSt}{x y:Keyed}{Q:Option Bool->SortSt->Prop}(hk:kindOf st=oneType')(hx:Va κ x)(hy:Va κ y)(h:Q (some (κ.blt (kk κ x) (kk κ y))) st):wpS (model prog w) A E s (lt' x y) Q st:=by
 obtain⟨a,ha⟩:=hx;obtain⟨b,hb⟩:=hy;have ea:kk κ x=a:=by unfold kk;rw [ha];rfl
 have eb:kk κ y=b:=by unfold kk;rw [hb];rfl
 rw [ea,eb] at h;rw [lt'_eq];refine afc (ai5 ?_);rw [hk,keyLt'_oneType];exact afc (wpS_lift (aiK (hO prog w A _ s x.1 y.1 a b ha hb ⟨rfl,afl h⟩)))
theorem cx {arr:Array Keyed}{i:Nat}{p:Keyed}{st:SortSt}{Q:Keyed->SortSt->Prop}(h:arr[i]? = some p)(q:Q p st):wpS (model prog w) A E s (elem' arr i) Q st:=by
 rw [elem'_eq,h];exact afl q
def bey (κ:KeyKind)(left:Bool)(key:Keyed)(arr:Array Keyed)(base i:Nat):Bool:=if left=true then κ.blt (KK κ arr (base+i)) (kk κ key) else !κ.blt (kk κ key) (KK κ arr (base+i))
theorem aaf (hO:κ.OneLt){left:Bool}{key:Keyed}{arr:Array Keyed}{base i:Nat}{st:SortSt}{Q:Option Bool->SortSt->Prop}(hk:kindOf st=oneType')(hkey:Va κ key)(hv:∃ p,arr[base+i]? = some p/\Va κ p)(h:Q (some (bey κ left key arr base i)) st) :
 wpS (model prog w) A E s (elem' arr (base+i) >>= fun x=>if left=true then lt' x key else lt' key x >>= fun l=>pure (l.map fun b=>!b)) Q st:=by
 obtain⟨p,hp,vp⟩:=hv;unfold bey at h;rw [pJ hp] at h;refine afc (cx hp ?_);cases left with
 | true =>
  rw [if_pos rfl] at h ⊢;exact ads hO hk vp hkey h
 | false =>
  rw [if_neg aeY] at h ⊢;exact afc (ads hO hk hkey vp (afl h))
theorem wd (hO:κ.OneLt){left:Bool}{key:Keyed}{arr:Array Keyed}{base n hint:Nat}{st:SortSt}{Q:Option Nat->SortSt->Prop}(hk:kindOf st=oneType')(hkey:Va κ key)(hv:∀ i,i < n->∃ p,arr[base+i]? = some p/\Va κ p)(hn:hint < n)
 (mono:∀ i j,i<=j->j < n->bey κ left key arr base j=true->bey κ left key arr base i=true)
 (h:∀ k,k<=n->(∀ i,i < k->bey κ left key arr base i=true)->(∀ i,k<=i->i < n->bey κ left key arr base i=false)->Q (some k) st) :
 wpS (model prog w) A E s (xi left key arr base n hint) Q st:=by
 have down:∀ i j,i<=j->j < n->bey κ left key arr base i=false->bey κ left key arr base j=false:=fun i j hij hj e=>by
  cases q:bey κ left key arr base j with
  | false=>rfl
  | true=>rw [mono i j hij hj q] at e;cases e
 refine afc (aaf hO hk hkey (hv hint hn) ?_);dsimp -zeta -zetaHave only
 lift_lets
 extract_lets jp
 have hjp:∀ lastofs ofs lo hi,lo<=hi->hi<=n->(∀ i,i < lo->bey κ left key arr base i=true)->(∀ i,hi<=i->i < n->bey κ left key arr base i=false)->wpS (model prog w) A E s (jp () lastofs ofs lo hi) Q st:=by
  intro lastofs ofs lo hi h1 h2 h3 h4;refine afc (ag8 (agg (I:=fun x c st'=>st'=st/\∃ l r,c=(none,l,r)/\l<=r/\r<=n/\r - l<=n - x/\(∀ i,i < l->bey κ left key arr base i=true)/\(∀ i,r<=i->i < n->bey κ left key arr base i=false))
   (Q:=fun c st'=>st'=st/\∃ l r,c=(none,l,r)/\r<=n/\(∀ i,i < r->bey κ left key arr base i=true)/\(∀ i,r<=i->i < n->bey κ left key arr base i=false)) ?_ ?_ ⟨rfl,lo,hi,rfl,h1,h2,by lia,h3,h4⟩) ?_)
  ·rintro x c st' _ hx ⟨rfl,l,r,rfl,g1,g2,g3,g4,g5⟩;dsimp only;by_cases hge:l ≥ r
   ·rw [if_pos hge];have e:l=r:=by lia
    subst e;exact afl ⟨rfl,l,l,rfl,g2,g4,g5⟩
   ·rw [if_neg hge];refine afc (aaf hO hk hkey (hv _ (by lia)) ?_);dsimp only;cases q:bey κ left key arr base (l+(r - l) / 2) with
    | true =>
     rw [if_pos rfl];exact afl ⟨rfl,_,r,rfl,by lia,g2,by lia,fun i hi=>mono i _ (by lia) (by lia) q,g5⟩
    | false =>
     rw [if_neg aeY];exact afl ⟨rfl,l,_,rfl,by lia,by lia,by lia,g4,fun i hi hin=>down _ i hi hin q⟩
  ·rintro c st' ⟨rfl,l,r,rfl,g1,g2,g3,g4,g5⟩;have e:l=r:=by lia
   subst e;exact⟨rfl,l,l,rfl,g2,g4,g5⟩
  ·rintro c st' ⟨rfl,l,r,rfl,g2,g4,g5⟩;exact afl (h r g2 g4 g5)
 clear_value jp
 cases q0:bey κ left key arr base hint with
 | true =>
  rw [if_pos rfl];refine afc (ag8 (agg (I:=fun x c st'=>st'=st/\∃ lf of,c=(none,lf,of)/\x+1<=of/\lf < of/\hint+lf < n/\bey κ left key arr base (hint+lf)=true)
   (Q:=fun c st'=>st'=st/\∃ lf of,c=(none,lf,of)/\lf < of/\hint+lf < n/\bey κ left key arr base (hint+lf)=true/\(n - hint<=of\/bey κ left key arr base (hint+of)=false)) ?_ ?_ ⟨rfl,0,1,rfl,by lia,by lia,by lia,q0⟩) ?_)
  ·rintro x c st' _ hx ⟨rfl,lf,of,rfl,g1,g2,g3,g4⟩;dsimp only;by_cases hge:of ≥ n - hint
   ·rw [if_pos hge];exact afl ⟨rfl,lf,of,rfl,g2,g3,g4,.inl hge⟩
   ·rw [if_neg hge];refine afc (aaf hO hk hkey (hv _ (by lia)) ?_);dsimp only;cases q:bey κ left key arr base (hint+of) with
    | true =>
     rw [if_neg (by simp)];exact afl ⟨rfl,of,_,rfl,by lia,by lia,by lia,q⟩
    | false =>
     rw [if_pos (show (!false)=true from rfl)];exact afl ⟨rfl,lf,of,rfl,g2,g3,g4,.inr q⟩
  ·rintro c st' ⟨rfl,lf,of,rfl,g1,g2,g3,g4⟩;exact⟨rfl,lf,of,rfl,g2,g3,g4,.inl (by lia)⟩
  ·rintro c st' ⟨rfl,lf,of,rfl,g2,g3,g4,g5⟩;dsimp only;refine hjp _ _ _ _ (by lia) (by lia) (fun i hi=>mono i (hint+lf) (by lia) g3 g4) (fun i hi hin=>?_);rcases g5 with g5 | g5
   ·lia
   ·exact down (hint+of) i (by lia) hin g5
 | false =>
  rw [if_neg aeY];refine afc (ag8 (agg (I:=fun x c st'=>st'=st/\∃ lf of,c=(none,lf,of)/\x+1<=of/\lf < of/\lf<=hint/\bey κ left key arr base (hint - lf)=false)
   (Q:=fun c st'=>st'=st/\∃ lf of,c=(none,lf,of)/\lf < of/\lf<=hint/\bey κ left key arr base (hint - lf)=false/\(hint+1<=of\/bey κ left key arr base (hint - of)=true)) ?_ ?_ ⟨rfl,0,1,rfl,by lia,by lia,by lia,q0⟩) ?_)
  ·rintro x c st' _ hx ⟨rfl,lf,of,rfl,g1,g2,g3,g4⟩;dsimp only;by_cases hge:of ≥ hint+1
   ·rw [if_pos hge];exact afl ⟨rfl,lf,of,rfl,g2,g3,g4,.inl hge⟩
   ·rw [if_neg hge];refine afc (aaf hO hk hkey (hv _ (by lia)) ?_);dsimp only;cases q:bey κ left key arr base (hint - of) with
    | true =>
     rw [if_pos rfl];exact afl ⟨rfl,lf,of,rfl,g2,g3,g4,.inr q⟩
    | false =>
     rw [if_neg aeY];exact afl ⟨rfl,of,_,rfl,by lia,by lia,by lia,q⟩
  ·rintro c st' ⟨rfl,lf,of,rfl,g1,g2,g3,g4⟩;exact⟨rfl,lf,of,rfl,g2,g3,g4,.inl (by lia)⟩
  ·rintro c st' ⟨rfl,lf,of,rfl,g2,g3,g4,g5⟩;dsimp only;refine hjp _ _ _ _ (by lia) (by lia) (fun i hi=>?_) (fun i hi hin=>down (hint - lf) i (by lia) hin g4);rcases g5 with g5 | g5
   ·lia
   ·exact mono i (hint - of) (by lia) (by lia) g5
end
def zH:Array Keyed->Array Keyed->StateT SortSt Sem (Array Keyed):=sortPriv% PySem.Builtin.mergeLo
def zC:Array Keyed->Array Keyed->StateT SortSt Sem (Array Keyed):=sortPriv% PySem.Builtin.mergeHi
def le (κ:KeyKind)(x y:Keyed):Prop:=κ.kle (kk κ x) (kk κ y)
def lt (κ:KeyKind)(x y:Keyed):Prop:=κ.klt (kk κ x) (kk κ y)
def SL (κ:KeyKind)(l:List Keyed):Prop:=l.Pairwise (le κ)
section
variable {κ:KeyKind}
theorem le_trans {x y z:Keyed}(a:le κ x y)(b:le κ y z):le κ x z:=ahv a b
theorem le_of_lt {x y:Keyed}(a:lt κ x y):le κ x y:=ahP a
theorem le_refl (x:Keyed):le κ x x:=ahl _
structure Mg (κ:KeyKind)(LL o A B:List Keyed):Prop where
 perm:(o++(A++B)).Perm LL
 sa:SL κ (o++A)
 sb:SL κ (o++B)
def oz (κ:KeyKind)(LL m:List Keyed):Prop:=m.Perm LL/\SL κ m
theorem Mg.a {LL o c A B:List Keyed}(h:Mg κ LL o (c++A) B)(hc:∀ x∈c,∀ y∈B,le κ x y):Mg κ LL (o++c) A B:=by
 refine⟨?_,?_,?_⟩
 ·have:=h.perm;rw [afa] at this;rw [afa];exact this
 ·rw [afa];exact h.sa
 ·have s1:=h.sa;have s2:=h.sb;unfold SL at *;rw [← afa] at s1;rw [afC] at s1 s2 ⊢;refine⟨s1.1,s2.2.1,fun x hx y hy=>?_⟩;rcases aeT.mp hx with hx | hx
  ·exact s2.2.2 x hx y hy
  ·exact hc x hx y hy
theorem Mg.b {LL o c A B:List Keyed}(h:Mg κ LL o A (c++B))(hc:∀ y∈c,∀ x∈A,le κ y x):Mg κ LL (o++c) A B:=by
 refine⟨?_,?_,?_⟩
 ·refine List.Perm.trans ?_ h.perm;rw [afa];refine agN o ?_;rw [← afa,← afa];exact ag1 B ahL
 ·have s1:=h.sa;have s2:=h.sb;unfold SL at *;rw [← afa] at s2;rw [afC] at s1 s2 ⊢;refine⟨s2.1,s1.2.1,fun x hx y hy=>?_⟩;rcases aeT.mp hx with hx | hx
  ·exact s1.2.2 x hx y hy
  ·exact hc x hx y hy
 ·rw [afa];exact h.sb
theorem Mg.endA {LL o A:List Keyed}(h:Mg κ LL o A []):oz κ LL (o++A):=⟨by have:=h.perm;rwa [afO] at this,h.sa⟩
theorem Mg.endB {LL o B:List Keyed}(h:Mg κ LL o [] B):oz κ LL (o++B):=⟨h.perm,h.sb⟩
theorem Mg.last {LL o B:List Keyed}{z:Keyed}(h:Mg κ LL o [z] B)(hz:∀ y∈B,le κ y z):oz κ LL (o++B++[z]):=by
 refine⟨?_,?_⟩
 ·refine List.Perm.trans ?_ h.perm;rw [afa];exact agN o ahL
 ·have s1:=h.sa;have s2:=h.sb;unfold SL at *;rw [afC] at s1 ⊢;refine⟨s2,s1.2.1,fun x hx y hy=>?_⟩;rcases aeT.mp hx with hx | hx
  ·exact s1.2.2 x hx y hy
  ·rw [aeS.mp hy];exact hz x hx
theorem SL.at {l:List Keyed}(h:SL κ l){i j:Nat}{x y:Keyed}(hij:i<=j)(hx:l[i]? = some x)(hy:l[j]? = some y):le κ x y:=by
 obtain⟨hi,ex⟩:=aeU.mp hx;obtain⟨hj,ey⟩:=aeU.mp hy;rcases Nat.lt_or_eq_of_le hij with q | q
 ·rw [← ex,← ey];exact agu.mp h i j hi hj q
 ·subst q;rw [← ex,← ey];exact le_refl _
theorem SL.head {l:List Keyed}{x:Keyed}(h:SL κ (x::l)):∀ y∈x::l,le κ x y:=fun y hy=>by
 rcases ae7.mp hy with e | e
 ·rw [e];exact le_refl _
 ·exact (afP.mp h).1 y e
theorem SL.drop {l:List Keyed}(h:SL κ l)(n:Nat):SL κ (l.drop n):=akj (List.drop_sublist _ _) h
theorem SL.take {l:List Keyed}(h:SL κ l)(n:Nat):SL κ (l.take n):=akj (ajn _ _) h
end
section
variable {prog:Program}{w:World}{A:Around}{E:Value->Shared->Prop}{s:Shared}{κ:KeyKind}
theorem dW (hO:κ.OneLt){left:Bool}{key:Keyed}{arr:Array Keyed}{base n hint:Nat}{st:SortSt}{Q:Option Nat->SortSt->Prop}(hk:kindOf st=oneType')(hkey:Va κ key)(hb:base+n<=arr.size)(va:∀ p∈(arr.toList.drop base).take n,Va κ p)(so:SL κ ((arr.toList.drop base).take n))(hn:hint < n)
 (h:∀ k,k<=n->(∀ x∈((arr.toList.drop base).take n).take k,if left=true then lt κ x key else le κ x key)->(∀ x∈((arr.toList.drop base).take n).drop k,if left=true then le κ key x else lt κ key x)->Q (some k) st) :
 wpS (model prog w) A E s (xi left key arr base n hint) Q st:=by
 have at_:∀ i,i < n->∃ p,arr[base+i]? = some p/\((arr.toList.drop base).take n)[i]? = some p:=fun i hi=>by
  refine⟨arr[base+i],getElem?_pos _ _ (by lia),?_⟩;rw [ahc hi,List.getElem?_drop];simp
 have len:((arr.toList.drop base).take n).length=n:=by
  rw [afn,agw,ae5];lia
 generalize (arr.toList.drop base).take n=S at va so h at_ len;refine wd hO hk hkey (fun i hi=>?_) hn (fun i j hij hj e=>?_) fun k hkn h1 h2=>h k hkn (fun x hx=>?_) (fun x hx=>?_)
 ·obtain⟨p,e1,e2⟩:=at_ i hi;exact⟨p,e1,va p (afB e2)⟩
 ·obtain⟨p,e1,e2⟩:=at_ i (by lia);obtain⟨q,e3,e4⟩:=at_ j hj;have hle:=so.at hij e2 e4;unfold bey at e ⊢;rw [pJ e1];rw [pJ e3] at e;cases left with
  | true =>
   rw [if_pos rfl] at e ⊢;exact KeyOrd.klt_of_kle_of_klt hle e
  | false =>
   rw [if_neg aeY] at e ⊢;have e':κ.blt (kk κ key) (kk κ q)=false:=by simpa using e
   have this:κ.blt (kk κ key) (kk κ p)=false:=ahv hle e';rw [this]
   rfl
 ·obtain⟨i,hi,ex⟩:=agb.mp hx;rw [afn] at hi;rw [ahi] at ex;obtain⟨p,e1,e2⟩:=at_ i (by lia);have q:=h1 i (by lia);rw [aeO (by lia)] at e2;rw [ex] at e2;cases e2;unfold bey at q;rw [pJ e1] at q;cases left with
  | true=>exact q
  | false =>
   rw [if_neg aeY] at q ⊢;show κ.blt (kk κ key) (kk κ x)=false;simpa using q
 ·obtain⟨i,hi,ex⟩:=agb.mp hx;rw [agw] at hi;rw [ajA] at ex;obtain⟨p,e1,e2⟩:=at_ (k+i) (by lia);have q:=h2 (k+i) (by lia) (by lia);rw [aeO (by lia)] at e2;rw [ex] at e2;cases e2;unfold bey at q;rw [pJ e1] at q;cases left with
  | true=>exact q
  | false =>
   rw [if_neg aeY] at q ⊢;show κ.blt (kk κ key) (kk κ x)=true;simpa using q
end
def Eqv (st st':SortSt):Prop:=kindOf st'=kindOf st/\arrOf st'=arrOf st/\pendingOf st'=pendingOf st/\failedOf st'=failedOf st
theorem Eqv.refl (st:SortSt):Eqv st st:=⟨rfl,rfl,rfl,rfl⟩
def adz:Nat->StateT SortSt Sem Unit:=sortPriv% PySem.Builtin.setMinGallop
theorem vd {prog:Program}{w:World}{A:Around}{E:Value->Shared->Prop}{s:Shared}{g:Nat}{st0 st:SortSt}{Q:Unit->SortSt->Prop}(e:Eqv st0 st)(h:∀ st',Eqv st0 st'->Q () st'):wpS (model prog w) A E s (adz g) Q st :=
 ahx (h _ e)
theorem bH {a:Array Keyed}{i:Nat}{x:Keyed}(h:a[i]? = some x):a.toList.drop i=[x]++a.toList.drop (i+1):=by
 obtain⟨hi,e⟩:=aja.mp h;rw [afU (by simpa using hi)];simp [e]
theorem jM (o:Array Keyed)(x:Keyed):(o.push x).toList=o.toList++[x]:=by simp
theorem vm (o a:Array Keyed)(i k:Nat):(o++a.extract i (i+k)).toList=o.toList++(a.toList.drop i).take k:=by
 simp [agT,agv]
theorem iu (o a:Array Keyed)(i:Nat):(o++a.extract i a.size).toList=o.toList++a.toList.drop i:=by
 simp only [Array.toList_append,agT,agv];rw [afE (by simp)]
section
variable {κ:KeyKind}{LL:List Keyed}{a b out:Array Keyed}{ia ib:Nat}
theorem aaF (M:Mg κ LL out.toList (a.toList.drop ia) (b.toList.drop ib))(c:ib=b.size):oz κ LL (out++a.extract ia a.size++b.extract ib b.size).toList:=by
 rw [iu,iu];have e:b.toList.drop ib=[]:=agZ (by rw [ae5];lia);rw [e] at M ⊢;rw [afO];exact M.endA
theorem adP (M:Mg κ LL out.toList (a.toList.drop ia) (b.toList.drop ib))(c:ia=a.size):oz κ LL (out++a.extract ia a.size++b.extract ib b.size).toList:=by
 rw [iu,iu];have e:a.toList.drop ia=[]:=agZ (by rw [ae5];lia);rw [e] at M ⊢;rw [afO];exact M.endB
theorem zp (M:Mg κ LL out.toList (a.toList.drop ia) (b.toList.drop ib))(c:ia+1=a.size)(P2:∀ y∈b.toList,∀ z∈a.toList.drop (a.size - 1),le κ y z):oz κ LL (out++b.extract ib b.size++a.extract ia a.size).toList:=by
 rw [iu,iu];have hp:a[ia]? = some a[ia]:=getElem?_pos _ _ (by lia);have e:a.toList.drop ia=[a[ia]]:=by
  rw [bH hp,agZ (by rw [ae5];lia),afO]
 rw [e] at M ⊢;refine M.last fun y hy=>P2 y (agq hy) _ ?_;rw [show a.size - 1=ia by lia,e];exact aeS.mpr rfl
theorem ir (x:Array Keyed)(i:Nat):(x.toList.drop i).take (x.size - i)=x.toList.drop i:=afE (by rw [agw,ae5];lia)
theorem su (x:Array Keyed)(i k:Nat):x.toList.drop i=(x.toList.drop i).take k++x.toList.drop (i+k):=by
 have:=(afD k (x.toList.drop i)).symm
 rwa [ahV] at this
theorem eG {x:Array Keyed}{i:Nat}(h:i < x.size):∃ p,x[i]? = some p/\p∈x.toList:=⟨x[i],getElem?_pos x i h,by simp⟩
end
section
variable {prog:Program}{w:World}{A:Around}{E:Value->Shared->Prop}{s:Shared}{κ:KeyKind}
theorem ifp {M:Model}{σ α:Type}{c:Prop}[Decidable c]{m1 m2:StateT σ Sem α}{Q:α->σ->Prop}{st:σ}(hc:c)(h:wpS M A E s m1 Q st):wpS M A E s (if c then m1 else m2) Q st:=by
 rw [if_pos hc];exact h
theorem ifn {M:Model}{σ α:Type}{c:Prop}[Decidable c]{m1 m2:StateT σ Sem α}{Q:α->σ->Prop}{st:σ}(hc:¬ c)(h:wpS M A E s m2 Q st):wpS M A E s (if c then m1 else m2) Q st:=by
 rw [if_neg hc];exact h
theorem ifs {M:Model}{σ α:Type}{c:Prop}[Decidable c]{m1 m2:StateT σ Sem α}{Q:α->σ->Prop}{st:σ}(h1:c->wpS M A E s m1 Q st)(h2:¬ c->wpS M A E s m2 Q st):wpS M A E s (if c then m1 else m2) Q st:=by
 by_cases hc:c
 ·exact ifp hc (h1 hc)
 ·exact ifn hc (h2 hc)
theorem aak {M:Model}{σ α β γ:Type}{jp:Unit->β->γ->StateT σ Sem α}{m:StateT σ Sem α}{Q:α->σ->Prop}{st:σ}(R:β->γ->Prop)(h1:∀ x y,R x y->wpS M A E s (jp () x y) Q st)(h2:(∀ x y,R x y->wpS M A E s (jp () x y) Q st)->wpS M A E s m Q st):wpS M A E s m Q st:=h2 h1
theorem ifj {M:Model}{σ α β:Type}{c:Prop}[Decidable c]{jp:Unit->β->StateT σ Sem α}{x y:β}{Q:α->σ->Prop}{st:σ}(h:∀ g,wpS M A E s (jp () g) Q st):wpS M A E s (if c then jp () x else jp () y) Q st:=ifs (fun _=>h x) (fun _=>h y)
theorem uc (hO:κ.OneLt){a b:Array Keyed}{st:SortSt}{Q:Array Keyed->SortSt->Prop}(hk:kindOf st=oneType')(va:∀ p∈a.toList,Va κ p)(vb:∀ p∈b.toList,Va κ p)(ha:1<=a.size)(hb:1<=b.size)(sa:SL κ a.toList)(sb:SL κ b.toList)
 (P1:∀ y∈b.toList.take 1,∀ x∈a.toList,le κ y x)(P2:∀ y∈b.toList,∀ z∈a.toList.drop (a.size - 1),le κ y z)
 (h:∀ m st',Eqv st st'->oz κ (a.toList++b.toList) m.toList->Q m st'):wpS (model prog w) A E s (zH a b) Q st:=by
 have hL:∃ LL,LL=a.toList++b.toList:=⟨_,rfl⟩;obtain⟨LL,eL⟩:=hL;rw [← eL] at h;obtain⟨b0,hb0,mb0⟩:=eG (x:=b) (i:=0) (by lia);have M0:Mg κ LL [] a.toList b.toList:=⟨by rw [eL];exact List.Perm.refl _,sa,sb⟩;have M1:Mg κ LL (#[b0]:Array Keyed).toList (a.toList.drop 0) (b.toList.drop 1):=by
  have e:b.toList=[b0]++b.toList.drop 1:=by
   have:=bH hb0
   rwa [age] at this
  have M0':=M0;rw [e] at M0';rw [age];refine Mg.b M0' fun y hy x hx=>P1 y ?_ x hx;rw [e];rw [aeS.mp hy];simp
 refine afc (wpS_lift (agO ⟨rfl,?_⟩));refine afc (cx hb0 ?_);by_cases c1:1=b.size
 ·rw [if_pos (by simpa using c1)];exact afl (h _ _ (Eqv.refl _) (aaF M1 c1))
 rw [if_neg (by simpa using c1)];by_cases c2:0+1=a.size
 ·rw [if_pos (by simpa using c2)];exact afl (h _ _ (Eqv.refl _) (zp M1 c2 P2))
 rw [if_neg (by simpa using c2)];refine afc (ai5 ?_);refine afc (ag8 (agg (I:=fun x c st'=>Eqv st st'/\∃ out ia ib mg,c=(none,out,ia,ib,mg)/\Mg κ LL out.toList (a.toList.drop ia) (b.toList.drop ib)/\ia+1 < a.size/\ib < b.size/\x+1<=ia+ib)
  (Q:=fun c st'=>Eqv st st'/\∃ m r,c=(some m,r)/\oz κ LL m.toList) ?_ ?_ ⟨Eqv.refl _,_,_,_,_,rfl,M1,by lia,by lia,by lia⟩) ?_)
 rotate_left
 ·rintro c st' ⟨ev,out,ia,ib,mg,rfl,M,hia,hib,hpr⟩;lia
 ·rintro c st' ⟨ev,m,r,rfl,g⟩;exact afl (h _ _ ev g)
 rintro x c st1 _ hx ⟨ev1,out,ia,ib,mg,rfl,M,hia,hib,hpr⟩;refine afc (ag8 (agg (I:=fun y c st2=>Eqv st st2/\∃ out' ia' ib' ac bc,c=(none,out',ia',ib',ac,bc)/\Mg κ LL out'.toList (a.toList.drop ia') (b.toList.drop ib')/\ia'+1 < a.size/\ib' < b.size/\ia+ib+y<=ia'+ib')
  (Q:=fun c st2=>Eqv st st2/\((∃ m r,c=(some m,r)/\oz κ LL m.toList)\/∃ out' ia' ib' ac bc,c=(none,out',ia',ib',ac,bc)/\Mg κ LL out'.toList (a.toList.drop ia') (b.toList.drop ib')/\ia'+1 < a.size/\ib' < b.size/\ia+ib+1<=ia'+ib')) ?_ ?_ ⟨ev1,out,ia,ib,_,_,rfl,M,hia,hib,ae1 _⟩) ?_)
 ·rintro y c st2 _ hy ⟨ev2,out',ia',ib',ac,bc,rfl,M',hia',hib',hpr'⟩;obtain⟨q,hq,mq⟩:=eG hib';obtain⟨p,hp,mp⟩:=eG (x:=a) (i:=ia') (by lia);have sB:=sb.drop ib';have sA:=sa.drop ia';rw [bH hq] at sB;rw [bH hp] at sA;refine afc (cx hq (afc (cx hp (afc (ads hO (ev2.1.trans hk) (vb q mq) (va p mp) ?_)))));cases hw:κ.blt (kk κ q) (kk κ p) with
  | true =>
   refine ifp rfl ?_;refine afc (cx hq ?_);have M2:Mg κ LL (out'.push q).toList (a.toList.drop ia') (b.toList.drop (ib'+1)):=by
    rw [jM];refine Mg.b (by rw [← bH hq];exact M') fun y hy x hx=>?_;rw [aeS.mp hy];rw [bH hp] at hx;exact le_trans (le_of_lt hw) (sA.head x hx)
   by_cases c:ib'+1=b.size
   ·refine ifp (afu.mpr c) ?_;exact afl ⟨ev2,.inl ⟨_,_,rfl,aaF M2 c⟩⟩
   refine ifn (fun z=>c (afu.mp z)) ?_;refine ifs (fun _=>?_) (fun _=>?_)
   ·exact afl ⟨ev2,.inr ⟨_,ia',ib'+1,_,_,rfl,M2,hia',by lia,by lia⟩⟩
   ·exact afl ⟨ev2,_,ia',ib'+1,_,_,rfl,M2,hia',by lia,by lia⟩
  | false =>
   refine ifn aeY ?_;refine afc (cx hp ?_);have M2:Mg κ LL (out'.push p).toList (a.toList.drop (ia'+1)) (b.toList.drop ib'):=by
    rw [jM];refine Mg.a (by rw [← bH hp];exact M') fun y hy x hx=>?_;rw [aeS.mp hy];rw [bH hq] at hx;exact le_trans (show le κ p q from hw) (sB.head x hx)
   by_cases c:ia'+1+1=a.size
   ·refine ifp (afu.mpr c) ?_;exact afl ⟨ev2,.inl ⟨_,_,rfl,zp M2 c P2⟩⟩
   refine ifn (fun z=>c (afu.mp z)) ?_;refine ifs (fun _=>?_) (fun _=>?_)
   ·exact afl ⟨ev2,.inr ⟨_,ia'+1,ib',_,_,rfl,M2,by lia,by lia,by lia⟩⟩
   ·exact afl ⟨ev2,_,ia'+1,ib',_,_,rfl,M2,by lia,by lia,by lia⟩
 ·rintro c st2 ⟨ev2,out',ia',ib',ac,bc,rfl,M',hia',hib',hpr'⟩;exact⟨ev2,.inr ⟨_,_,_,_,_,rfl,M',hia',hib',by lia⟩⟩
 rintro c st2 ⟨ev2,hc⟩;rcases hc with ⟨m,r,rfl,g⟩ | ⟨out1,ia1,ib1,ac1,bc1,rfl,N1,hia1,hib1,hpr1⟩
 ·exact afl ⟨ev2,m,_,rfl,g⟩
 refine afc (wpS_lift (agO ⟨rfl,?_⟩));refine afc (ag8 (agg (I:=fun y c st3=>Eqv st st3/\∃ out' ia' ib' mg' ac bc,c=(none,out',ia',ib',mg',ac,bc)/\Mg κ LL out'.toList (a.toList.drop ia') (b.toList.drop ib')/\ia'+1 < a.size/\ib' < b.size/\ia1+ib1<=ia'+ib')
  (Q:=fun c st3=>Eqv st st3/\((∃ m r,c=(some m,r)/\oz κ LL m.toList)\/∃ out' ia' ib' mg' ac bc,c=(none,out',ia',ib',mg',ac,bc)/\Mg κ LL out'.toList (a.toList.drop ia') (b.toList.drop ib')/\ia'+1 < a.size/\ib' < b.size/\ia1+ib1<=ia'+ib')) ?_ ?_ ⟨ev2,out1,ia1,ib1,_,ac1,bc1,rfl,N1,hia1,hib1,ae1 _⟩) ?_)
 rotate_left
 ·rintro c st3 ⟨ev3,out',ia',ib',mg',ac,bc,rfl,M',hia',hib',hpr'⟩;exact⟨ev3,.inr ⟨_,_,_,_,_,_,rfl,M',hia',hib',by lia⟩⟩
 ·rintro c st3 ⟨ev3,hc⟩;rcases hc with ⟨m,r,rfl,g⟩ | ⟨out2,ia2,ib2,mg2,ac2,bc2,rfl,N2,hia2,hib2,hpr2⟩
  ·exact afl ⟨ev3,m,_,rfl,g⟩
  refine afc (vd ev3 fun st4 ev4=>?_);exact afl ⟨ev4,_,ia2,ib2,_,rfl,N2,hia2,hib2,by lia⟩
 rintro y c st3 _ hy ⟨ev3,out2,ia2,ib2,mg2,ac2,bc2,rfl,M',hia',hib',hpr'⟩;obtain⟨q,hq,mq⟩:=eG hib';have sB:=sb.drop ib2;rw [bH hq] at sB;dsimp -zeta -zetaHave only
 lift_lets
 extract_lets s1 v1 s2 v2 s3 v3 s4 v4 s5 v5 v6 v7 jp
 refine ifj (jp:=jp) (fun g=>?_)
 ·refine afc (vd ev3 fun st4 ev4=>?_);refine afc (cx hq (afc (dW (left:=false) (key:=q) (arr:=a) (base:=ia2) (n:=a.size - ia2) (hint:=0) hO (ev4.1.trans hk) (vb q mq) (by lia) (by rw [ir];exact fun p hp=>va p (agq hp)) (by rw [ir];exact sa.drop _) (by lia) fun k hkn g1 g2=>?_)));rw [ir] at g1 g2;rw [ahV] at g2;simp only [afA,agF] at g1 g2;dsimp -zeta -zetaHave only
  lift_lets
  extract_lets w1 jp2
  refine aak (jp:=jp2) (fun (out3:Array Keyed) (ia3:Nat)=>Mg κ LL out3.toList (a.toList.drop ia3) (b.toList.drop ib2)/\ia3+1 < a.size/\ia2<=ia3/\∀ x∈a.toList.drop ia3,le κ q x) (fun out3 ia3 hR=>?_) (fun hj=>?_)
  ·obtain⟨M3,hA1,hA2,hA⟩:=hR;refine afc (cx hq ?_);have M4:Mg κ LL (out3.push q).toList (a.toList.drop ia3) (b.toList.drop (ib2+1)):=by
    rw [jM];refine Mg.b (by rw [← bH hq];exact M3) fun y hy x hx=>?_;rw [aeS.mp hy];exact hA x hx
   by_cases c4:ib2+1=b.size
   ·refine ifp (afu.mpr c4) ?_;exact afl ⟨ev4,.inl ⟨_,_,rfl,aaF M4 c4⟩⟩
   refine ifn (fun z=>c4 (afu.mp z)) ?_;obtain⟨p,hp,mp⟩:=eG (x:=a) (i:=ia3) (by lia);refine afc (cx hp (afc (dW (left:=true) (key:=p) (arr:=b) (base:=ib2+1) (n:=b.size - (ib2+1)) (hint:=0) hO (ev4.1.trans hk) (va p mp) (by lia) (by rw [ir];exact fun p hp=>vb p (agq hp)) (by rw [ir];exact sb.drop _) (by lia) fun k2 hkn2 g3 g4=>?_)));rw [ir] at g3 g4;rw [ahV] at g4;simp only [ahy] at g3 g4;dsimp -zeta -zetaHave only
   lift_lets
   extract_lets w3 jp3
   refine aak (jp:=jp3) (fun (out5:Array Keyed) (ib3:Nat)=>Mg κ LL out5.toList (a.toList.drop ia3) (b.toList.drop ib3)/\ib3 < b.size/\ib2+1<=ib3/\∀ y∈b.toList.drop ib3,le κ p y) (fun out5 ib3 hR=>?_) (fun hj3=>?_)
   ·obtain⟨M5,hB1,hB2,hB⟩:=hR;refine afc (cx hp ?_);have M6:Mg κ LL (out5.push p).toList (a.toList.drop (ia3+1)) (b.toList.drop ib3):=by
     rw [jM];refine Mg.a (by rw [← bH hp];exact M5) fun y hy x hx=>?_;rw [aeS.mp hy];exact hB x hx
    by_cases c7:ia3+1+1=a.size
    ·refine ifp (afu.mpr c7) ?_;exact afl ⟨ev4,.inl ⟨_,_,rfl,zp M6 c7 P2⟩⟩
    refine ifn (fun z=>c7 (afu.mp z)) ?_;refine ifs (fun _=>?_) (fun _=>?_)
    ·exact afl ⟨ev4,.inr ⟨_,ia3+1,ib3,_,_,_,rfl,M6,by lia,by lia,by lia⟩⟩
    ·exact afl ⟨ev4,_,ia3+1,ib3,_,_,_,rfl,M6,by lia,by lia,by lia⟩
   by_cases hk2:k2=0
   ·subst hk2;rw [ajg] at g4;exact ifn (show ¬ (0 > 0) by lia) (hj3 _ (ib2+1) ⟨M4,by lia,ae1 _,g4⟩)
   ·refine ifp (show k2 > 0 by lia) ?_;have M5:Mg κ LL ((out3.push q)++b.extract (ib2+1) (ib2+1+k2)).toList (a.toList.drop ia3) (b.toList.drop (ib2+1+k2)):=by
     rw [vm];refine Mg.b (by rw [← su];exact M4) fun y hy x hx=>?_;have sA:=sa.drop ia3;rw [bH hp] at sA;rw [bH hp] at hx;exact le_trans (le_of_lt (g3 y hy)) (sA.head x hx)
    by_cases c5:ib2+1+k2=b.size
    ·refine ifp (afu.mpr c5) ?_;exact afl ⟨ev4,.inl ⟨_,_,rfl,aaF M5 c5⟩⟩
    exact ifn (fun z=>c5 (afu.mp z)) (hj3 _ (ib2+1+k2) ⟨M5,by lia,by lia,g4⟩)
  by_cases hk0:k=0
  ·subst hk0;rw [ajg] at g2;exact ifn (show ¬ (0 > 0) by lia) (hj _ ia2 ⟨M',hia',ae1 _,fun x hx=>le_of_lt (g2 x hx)⟩)
  ·refine ifp (show k > 0 by lia) ?_;have M3:Mg κ LL (out2++a.extract ia2 (ia2+k)).toList (a.toList.drop (ia2+k)) (b.toList.drop ib2):=by
    rw [vm];refine Mg.a (by rw [← su];exact M') fun y hy x hx=>?_;rw [bH hq] at hx;exact le_trans (g1 y hy) (sB.head x hx)
   by_cases c2':ia2+k+1=a.size
   ·refine ifp (afu.mpr c2') ?_;exact afl ⟨ev4,.inl ⟨_,_,rfl,zp M3 c2' P2⟩⟩
   refine ifn (fun z=>c2' (afu.mp z)) ?_;by_cases c3:ia2+k=a.size
   ·refine ifp (afu.mpr c3) ?_;exact afl ⟨ev4,.inl ⟨_,_,rfl,adP M3 c3⟩⟩
   exact ifn (fun z=>c3 (afu.mp z)) (hj _ (ia2+k) ⟨M3,by lia,by lia,fun x hx=>le_of_lt (g2 x hx)⟩)
end
section
variable {κ:KeyKind}
structure MgH (κ:KeyKind)(LL o A B:List Keyed):Prop where
 perm:(A++(B++o)).Perm LL
 sa:SL κ (A++o)
 sb:SL κ (B++o)
theorem MgH.a {LL o c A B:List Keyed}(h:MgH κ LL o (A++c) B)(hc:∀ x∈c,∀ y∈B,le κ y x):MgH κ LL (c++o) A B:=by
 refine⟨?_,?_,?_⟩
 ·refine List.Perm.trans ?_ h.perm;rw [afa];refine agN A ?_;rw [← afa,← afa];exact ag1 o ahL
 ·rw [← afa];exact h.sa
 ·have s1:=h.sa;have s2:=h.sb;unfold SL at *;rw [afa,afC] at s1;rw [afC] at s2 ⊢;refine⟨s2.1,s1.2.1,fun x hx y hy=>?_⟩;rcases aeT.mp hy with hy | hy
  ·exact hc y hy x hx
  ·exact s2.2.2 x hx y hy
theorem MgH.b {LL o c A B:List Keyed}(h:MgH κ LL o A (B++c))(hc:∀ y∈c,∀ x∈A,le κ x y):MgH κ LL (c++o) A B:=by
 refine⟨?_,?_,?_⟩
 ·have:=h.perm;rw [afa] at this;exact this
 ·have s1:=h.sa;have s2:=h.sb;unfold SL at *;rw [afa,afC] at s2;rw [afC] at s1 ⊢;refine⟨s1.1,s2.2.1,fun x hx y hy=>?_⟩;rcases aeT.mp hy with hy | hy
  ·exact hc y hy x hx
  ·exact s1.2.2 x hx y hy
 ·rw [← afa];exact h.sb
theorem MgH.endA {LL o A:List Keyed}(h:MgH κ LL o A []):oz κ LL (A++o):=⟨h.perm,h.sa⟩
theorem MgH.endB {LL o B:List Keyed}(h:MgH κ LL o [] B):oz κ LL (B++o):=⟨h.perm,h.sb⟩
theorem MgH.first {LL o A:List Keyed}{z:Keyed}(h:MgH κ LL o A [z])(hz:∀ x∈A,le κ z x):oz κ LL ([z]++A++o):=by
 refine⟨?_,?_⟩
 ·refine List.Perm.trans ?_ h.perm;rw [← afa];exact ag1 o ahL
 ·have s1:=h.sa;have s2:=h.sb;unfold SL at *;rw [afa,akl,afP];rw [akl,afP] at s2;refine⟨fun y hy=>?_,s1⟩;rcases aeT.mp hy with hy | hy
  ·exact hz y hy
  ·exact s2.1 y hy
theorem fw {a:Array Keyed}{n:Nat}{x:Keyed}(h:a[n]? = some x):a.toList.take (n+1)=a.toList.take n++[x]:=by
 rw [afk];have:a.toList[n]? = some x:=by simpa using h
 rw [this]
 rfl
theorem k5 (o:Array Keyed)(x:Keyed):(o.push x).toList.reverse=[x]++o.toList.reverse:=by simp
theorem yJ (o a:Array Keyed)(i n:Nat):(o++(a.extract i n).reverse).toList.reverse=(a.toList.take n).drop i++o.toList.reverse:=by
 simp [agT,agv,List.drop_take]
theorem vq (a:Array Keyed){i n:Nat}(h:i<=n):a.toList.take n=a.toList.take i++(a.toList.take n).drop i:=by
 have:=(afD i (a.toList.take n)).symm
 rwa [ain,agi h] at this
theorem pY (o a b:Array Keyed)(na nb:Nat):(a.extract 0 na++b.extract 0 nb++o.reverse).toList=a.toList.take na++b.toList.take nb++o.toList.reverse:=by
 simp [agT,agv]
theorem SL.lastOf {l:List Keyed}{x:Keyed}(h:SL κ (l++[x])):∀ y∈l++[x],le κ y x:=fun y hy=>by
 rcases aeT.mp hy with e | e
 ·exact (afC.mp h).2.2 y e x (aeS.mpr rfl)
 ·rw [aeS.mp e];exact le_refl _
end
section
variable {κ:KeyKind}{LL:List Keyed}{a b out:Array Keyed}{na nb:Nat}
theorem adw (M:MgH κ LL out.toList.reverse (a.toList.take na) (b.toList.take nb))(c:na=0):oz κ LL (a.extract 0 na++b.extract 0 nb++out.reverse).toList:=by
 subst c;rw [pY,agV,aiU];rw [agV] at M;exact M.endB
theorem aeA (M:MgH κ LL out.toList.reverse (a.toList.take na) (b.toList.take nb))(c:nb=0):oz κ LL (a.extract 0 na++b.extract 0 nb++out.reverse).toList:=by
 subst c;rw [pY,agV,afO];rw [agV] at M;exact M.endA
theorem adu (M:MgH κ LL out.toList.reverse (a.toList.take na) (b.toList.take nb))(c:nb=1)(hb:1<=b.size)(P1:∀ y∈b.toList.take 1,∀ x∈a.toList,le κ y x):oz κ LL (b.extract 0 nb++a.extract 0 na++out.reverse).toList:=by
 subst c;rw [pY];have hp:b[0]? = some b[0]:=getElem?_pos _ _ (by lia);have e:b.toList.take 1=[b[0]]:=by rw [fw hp,agV,aiU]
 rw [e] at M P1 ⊢;exact M.first fun x hx=>P1 _ (aeS.mpr rfl) x (af0 hx)
end
section
variable {prog:Program}{w:World}{A:Around}{E:Value->Shared->Prop}{s:Shared}{κ:KeyKind}
theorem uf (hO:κ.OneLt){a b:Array Keyed}{st:SortSt}{Q:Array Keyed->SortSt->Prop}(hk:kindOf st=oneType')(va:∀ p∈a.toList,Va κ p)(vb:∀ p∈b.toList,Va κ p)(ha:1<=a.size)(hb:1<=b.size)(sa:SL κ a.toList)(sb:SL κ b.toList)
 (P1:∀ y∈b.toList.take 1,∀ x∈a.toList,le κ y x)(P2:∀ y∈b.toList,∀ z∈a.toList.drop (a.size - 1),le κ y z)
 (h:∀ m st',Eqv st st'->oz κ (a.toList++b.toList) m.toList->Q m st'):wpS (model prog w) A E s (zC a b) Q st:=by
 have hL:∃ LL,LL=a.toList++b.toList:=⟨_,rfl⟩;obtain⟨LL,eL⟩:=hL;rw [← eL] at h;obtain⟨a0,ha0,ma0⟩:=eG (x:=a) (i:=a.size - 1) (by lia);have M1:MgH κ LL (#[a0]:Array Keyed).toList.reverse (a.toList.take (a.size - 1)) (b.toList.take b.size):=by
  have e:a.toList=a.toList.take (a.size - 1)++[a0]:=by
   have:=fw ha0
   rwa [show a.size - 1+1=a.size by lia,afE (by rw [ae5];exact ae1 _)] at this
  have M0:MgH κ LL [] (a.toList.take (a.size - 1)++[a0]) b.toList:=by
   refine⟨?_,?_,?_⟩
   ·rw [← e,afO,eL]
   ·rw [← e,afO];exact sa
   ·rw [afO];exact sb
  rw [afE (l:=b.toList) (by rw [ae5];exact ae1 _)];refine MgH.a M0 fun x hx y hy=>P2 y hy x ?_;rw [bH ha0,aeS.mp hx];simp
 refine afc (wpS_lift (agO ⟨rfl,?_⟩));refine afc (cx ha0 ?_);by_cases c1:a.size - 1=0
 ·refine ifp (afu.mpr c1) ?_;exact afl (h _ _ (Eqv.refl _) (adw M1 c1))
 refine ifn (fun z=>c1 (afu.mp z)) ?_;by_cases c2:b.size=1
 ·refine ifp (afu.mpr c2) ?_;exact afl (h _ _ (Eqv.refl _) (adu M1 c2 hb P1))
 refine ifn (fun z=>c2 (afu.mp z)) ?_;refine afc (ai5 ?_);refine afc (ag8 (agg (I:=fun x c st'=>Eqv st st'/\∃ na nb out mg,c=(none,na,nb,out,mg)/\MgH κ LL out.toList.reverse (a.toList.take na) (b.toList.take nb)/\1<=na/\na<=a.size/\2<=nb/\nb<=b.size/\na+nb+x+1<=a.size+b.size)
  (Q:=fun c st'=>Eqv st st'/\∃ m r,c=(some m,r)/\oz κ LL m.toList) ?_ ?_ ⟨Eqv.refl _,a.size - 1,b.size,_,_,rfl,M1,by lia,by lia,by lia,by lia,by lia⟩) ?_)
 rotate_left
 ·rintro c st' ⟨ev,na,nb,out,mg,rfl,M,_,_,_,_,hpr⟩;lia
 ·rintro c st' ⟨ev,m,r,rfl,g⟩;exact afl (h _ _ ev g)
 rintro x c st1 _ hx ⟨ev1,na,nb,out,mg,rfl,M,hna,hna2,hnb,hnb2,hpr⟩;refine afc (ag8 (agg (I:=fun y c st2=>Eqv st st2/\∃ na' nb' out' ac bc,c=(none,na',nb',out',ac,bc)/\MgH κ LL out'.toList.reverse (a.toList.take na') (b.toList.take nb')/\1<=na'/\na'<=a.size/\2<=nb'/\nb'<=b.size/\na'+nb'+y<=na+nb)
  (Q:=fun c st2=>Eqv st st2/\((∃ m r,c=(some m,r)/\oz κ LL m.toList)\/∃ na' nb' out' ac bc,c=(none,na',nb',out',ac,bc)/\MgH κ LL out'.toList.reverse (a.toList.take na') (b.toList.take nb')/\1<=na'/\na'<=a.size/\2<=nb'/\nb'<=b.size/\na'+nb'+1<=na+nb)) ?_ ?_ ⟨ev1,na,nb,out,_,_,rfl,M,hna,hna2,hnb,hnb2,ae1 _⟩) ?_)
 ·rintro y c st2 _ hy ⟨ev2,na',nb',out',ac,bc,rfl,M',hna',hna2',hnb',hnb2',hpr'⟩;obtain⟨q,hq,mq⟩:=eG (x:=b) (i:=nb' - 1) (by lia);obtain⟨p,hp,mp⟩:=eG (x:=a) (i:=na' - 1) (by lia);have tq:=fw hq;have tp:=fw hp;rw [show nb' - 1+1=nb' by lia] at tq;rw [show na' - 1+1=na' by lia] at tp;have sB:=sb.take nb';have sA:=sa.take na';rw [tq] at sB;rw [tp] at sA;refine afc (cx hq (afc (cx hp (afc (ads hO (ev2.1.trans hk) (vb q mq) (va p mp) ?_)))));cases hw:κ.blt (kk κ q) (kk κ p) with
  | true =>
   refine ifp rfl ?_;refine afc (cx hp ?_);have M2:MgH κ LL (out'.push p).toList.reverse (a.toList.take (na' - 1)) (b.toList.take nb'):=by
    rw [k5];refine MgH.a (by rw [← tp];exact M') fun x hx y hy=>?_;rw [aeS.mp hx];rw [tq] at hy;exact le_trans (sB.lastOf y hy) (le_of_lt hw)
   by_cases c:na' - 1=0
   ·refine ifp (afu.mpr c) ?_;exact afl ⟨ev2,.inl ⟨_,_,rfl,adw M2 c⟩⟩
   refine ifn (fun z=>c (afu.mp z)) ?_;refine ifs (fun _=>?_) (fun _=>?_)
   ·exact afl ⟨ev2,.inr ⟨na' - 1,nb',_,_,_,rfl,M2,by lia,by lia,by lia,by lia,by lia⟩⟩
   ·exact afl ⟨ev2,na' - 1,nb',_,_,_,rfl,M2,by lia,by lia,by lia,by lia,by lia⟩
  | false =>
   refine ifn aeY ?_;refine afc (cx hq ?_);have M2:MgH κ LL (out'.push q).toList.reverse (a.toList.take na') (b.toList.take (nb' - 1)):=by
    rw [k5];refine MgH.b (by rw [← tq];exact M') fun y hy x hx=>?_;rw [aeS.mp hy];rw [tp] at hx;exact le_trans (sA.lastOf x hx) (show le κ p q from hw)
   by_cases c:nb' - 1=1
   ·refine ifp (afu.mpr c) ?_;exact afl ⟨ev2,.inl ⟨_,_,rfl,adu M2 c hb P1⟩⟩
   refine ifn (fun z=>c (afu.mp z)) ?_;refine ifs (fun _=>?_) (fun _=>?_)
   ·exact afl ⟨ev2,.inr ⟨na',nb' - 1,_,_,_,rfl,M2,by lia,by lia,by lia,by lia,by lia⟩⟩
   ·exact afl ⟨ev2,na',nb' - 1,_,_,_,rfl,M2,by lia,by lia,by lia,by lia,by lia⟩
 ·rintro c st2 ⟨ev2,na',nb',out',ac,bc,rfl,M',g1,g2,g3,g4,hpr'⟩;exact⟨ev2,.inr ⟨_,_,_,_,_,rfl,M',g1,g2,g3,g4,by lia⟩⟩
 rintro c st2 ⟨ev2,hc⟩;rcases hc with ⟨m,r,rfl,g⟩ | ⟨na1,nb1,out1,ac1,bc1,rfl,N1,i1,i2,i3,i4,hpr1⟩
 ·exact afl ⟨ev2,m,_,rfl,g⟩
 refine afc (wpS_lift (agO ⟨rfl,?_⟩));refine afc (ag8 (agg (I:=fun y c st3=>Eqv st st3/\∃ na' nb' out' mg' ac bc,c=(none,na',nb',out',mg',ac,bc)/\MgH κ LL out'.toList.reverse (a.toList.take na') (b.toList.take nb')/\1<=na'/\na'<=a.size/\2<=nb'/\nb'<=b.size/\na'+nb'<=na1+nb1)
  (Q:=fun c st3=>Eqv st st3/\((∃ m r,c=(some m,r)/\oz κ LL m.toList)\/∃ na' nb' out' mg' ac bc,c=(none,na',nb',out',mg',ac,bc)/\MgH κ LL out'.toList.reverse (a.toList.take na') (b.toList.take nb')/\1<=na'/\na'<=a.size/\2<=nb'/\nb'<=b.size/\na'+nb'<=na1+nb1)) ?_ ?_ ⟨ev2,na1,nb1,out1,_,ac1,bc1,rfl,N1,i1,i2,i3,i4,ae1 _⟩) ?_)
 rotate_left
 ·rintro c st3 ⟨ev3,na',nb',out',mg',ac,bc,rfl,M',g⟩;exact⟨ev3,.inr ⟨_,_,_,_,_,_,rfl,M',g⟩⟩
 ·rintro c st3 ⟨ev3,hc⟩;rcases hc with ⟨m,r,rfl,g⟩ | ⟨na2,nb2,out2,mg2,ac2,bc2,rfl,N2,j1,j2,j3,j4,hpr2⟩
  ·exact afl ⟨ev3,m,_,rfl,g⟩
  refine afc (vd ev3 fun st4 ev4=>?_);exact afl ⟨ev4,na2,nb2,_,_,rfl,N2,j1,j2,j3,j4,by lia⟩
 rintro y c st3 _ hy ⟨ev3,na2,nb2,out2,mg2,ac2,bc2,rfl,M',j1,j2,j3,j4,hpr'⟩;obtain⟨q,hq,mq⟩:=eG (x:=b) (i:=nb2 - 1) (by lia);have tq:=fw hq;rw [show nb2 - 1+1=nb2 by lia] at tq;have sB:=sb.take nb2;rw [tq] at sB;dsimp -zeta -zetaHave only
 lift_lets
 extract_lets s1 v1 s2 v2 s3 v3 s4 v4 s5 v5 v6 v7 jp
 refine ifj (jp:=jp) (fun g=>?_)
 ·refine afc (vd ev3 fun st4 ev4=>?_);refine afc (cx hq (afc (dW (left:=false) (key:=q) (arr:=a) (base:=0) (n:=na2) (hint:=na2 - 1) hO (ev4.1.trans hk) (vb q mq) (by lia) (by rw [age];exact fun p hp=>va p (af0 hp)) (by rw [age];exact sa.take _) (by lia) fun k hkn g1 g2=>?_)));rw [age] at g1 g2;rw [ain,agi hkn] at g1;simp only [afA,agF] at g1 g2;dsimp -zeta -zetaHave only
  lift_lets
  extract_lets w1 w2 jp2
  refine aak (jp:=jp2) (fun (na3:Nat) (out3:Array Keyed)=>MgH κ LL out3.toList.reverse (a.toList.take na3) (b.toList.take nb2)/\1<=na3/\na3<=na2/\∀ x∈a.toList.take na3,le κ x q) (fun na3 out3 hR=>?_) (fun hj=>?_)
  ·obtain⟨M3,hA1,hA2,hA⟩:=hR;refine afc (cx hq ?_);have M4:MgH κ LL (out3.push q).toList.reverse (a.toList.take na3) (b.toList.take (nb2 - 1)):=by
    rw [k5];refine MgH.b (by rw [← tq];exact M3) fun y hy x hx=>?_;rw [aeS.mp hy];exact hA x hx
   by_cases c4:nb2 - 1=1
   ·refine ifp (afu.mpr c4) ?_;exact afl ⟨ev4,.inl ⟨_,_,rfl,adu M4 c4 hb P1⟩⟩
   refine ifn (fun z=>c4 (afu.mp z)) ?_;obtain⟨p,hp,mp⟩:=eG (x:=a) (i:=na3 - 1) (by lia);have tp:=fw hp;rw [show na3 - 1+1=na3 by lia] at tp;refine afc (cx hp (afc (dW (left:=true) (key:=p) (arr:=b) (base:=0) (n:=nb2 - 1) (hint:=nb2 - 1 - 1) hO (ev4.1.trans hk) (va p mp) (by lia) (by rw [age];exact fun p hp=>vb p (af0 hp)) (by rw [age];exact sb.take _) (by lia) fun k2 hkn2 g3 g4=>?_)));rw [age] at g3 g4;rw [ain,agi hkn2] at g3;simp only [ahy] at g3 g4;dsimp -zeta -zetaHave only
   lift_lets
   extract_lets w3 w4 jp3
   refine aak (jp:=jp3) (fun (nb3:Nat) (out5:Array Keyed)=>MgH κ LL out5.toList.reverse (a.toList.take na3) (b.toList.take nb3)/\2<=nb3/\nb3<=nb2 - 1/\∀ y∈b.toList.take nb3,le κ y p) (fun nb3 out5 hR=>?_) (fun hj3=>?_)
   ·obtain⟨M5,hB1,hB2,hB⟩:=hR;refine afc (cx hp ?_);have M6:MgH κ LL (out5.push p).toList.reverse (a.toList.take (na3 - 1)) (b.toList.take nb3):=by
     rw [k5];refine MgH.a (by rw [← tp];exact M5) fun x hx y hy=>?_;rw [aeS.mp hx];exact hB y hy
    by_cases c7:na3 - 1=0
    ·refine ifp (afu.mpr c7) ?_;exact afl ⟨ev4,.inl ⟨_,_,rfl,adw M6 c7⟩⟩
    refine ifn (fun z=>c7 (afu.mp z)) ?_;refine ifs (fun _=>?_) (fun _=>?_)
    ·exact afl ⟨ev4,.inr ⟨na3 - 1,nb3,_,_,_,_,rfl,M6,by lia,by lia,by lia,by lia,by lia⟩⟩
    ·exact afl ⟨ev4,na3 - 1,nb3,_,_,_,_,rfl,M6,by lia,by lia,by lia,by lia,by lia⟩
   by_cases hk2:k2=nb2 - 1
   ·subst hk2;refine ifn (show ¬ (nb2 - 1 - (nb2 - 1) > 0) by lia) (hj3 (nb2 - 1) _ ⟨M4,by lia,ae1 _,fun y hy=>le_of_lt (g3 y hy)⟩)
   ·refine ifp (show nb2 - 1 - k2 > 0 by lia) ?_;have M5:MgH κ LL ((out3.push q)++(b.extract k2 (nb2 - 1)).reverse).toList.reverse (a.toList.take na3) (b.toList.take k2):=by
     rw [yJ];refine MgH.b (by rw [← vq b hkn2];exact M4) fun y hy x hx=>?_;have sA:=sa.take na3;rw [tp] at sA;rw [tp] at hx;exact le_trans (sA.lastOf x hx) (g4 y hy)
    by_cases c5:k2=1
    ·refine ifp (afu.mpr c5) ?_;exact afl ⟨ev4,.inl ⟨_,_,rfl,adu M5 c5 hb P1⟩⟩
    refine ifn (fun z=>c5 (afu.mp z)) ?_;by_cases c6:k2=0
    ·refine ifp (afu.mpr c6) ?_;exact afl ⟨ev4,.inl ⟨_,_,rfl,aeA M5 c6⟩⟩
    exact ifn (fun z=>c6 (afu.mp z)) (hj3 k2 _ ⟨M5,by lia,by lia,fun y hy=>le_of_lt (g3 y hy)⟩)
  by_cases hk0:k=na2
  ·subst hk0;exact ifn (show ¬ (k - k > 0) by lia) (hj k _ ⟨M',j1,ae1 _,fun x hx=>g1 x hx⟩)
  ·refine ifp (show na2 - k > 0 by lia) ?_;have M3:MgH κ LL (out2++(a.extract k na2).reverse).toList.reverse (a.toList.take k) (b.toList.take nb2):=by
    rw [yJ];refine MgH.a (by rw [← vq a hkn];exact M') fun x hx y hy=>?_;rw [tq] at hy;exact le_trans (sB.lastOf y hy) (le_of_lt (g2 x hx))
   by_cases c3:k=0
   ·refine ifp (afu.mpr c3) ?_;exact afl ⟨ev4,.inl ⟨_,_,rfl,adw M3 c3⟩⟩
   exact ifn (fun z=>c3 (afu.mp z)) (hj k _ ⟨M3,by lia,hkn,fun x hx=>g1 x hx⟩)
end
theorem uF (s:Nat):∀ (m:List Keyed) (off:Nat) (arr:Array Keyed),s+off+m.length<=arr.size →
 ((m.zipIdx off).foldl (fun a x=>a.setIfInBounds (s+x.2) x.1) arr).toList=arr.toList.take (s+off)++(m++arr.toList.drop (s+off+m.length))
 | [],off,arr,h=>by simp
 | x::m,off,arr,h=>by
  rw [List.zipIdx_cons,ah5];rw [afr] at h;rw [uF s m (off+1) _ (by rw [Array.size_setIfInBounds];lia)];have e:(arr.setIfInBounds (s+off) x).toList=arr.toList.set (s+off) x:=by simp
  show (arr.setIfInBounds (s+off) x).toList.take _++(m++(arr.setIfInBounds (s+off) x).toList.drop _)=_;rw [e];have hl:s+off < arr.toList.length:=by rw [ae5];lia
  have t1:(arr.toList.set (s+off) x).take (s+(off+1))=arr.toList.take (s+off)++[x]:=by
   rw [show s+(off+1)=s+off+1 by lia,afk,List.take_set_of_le (ae1 _),agY hl]
   rfl
  have t2:(arr.toList.set (s+off) x).drop (s+(off+1)+m.length)=arr.toList.drop (s+off+(m.length+1)):=by
   rw [List.drop_set_of_lt (by lia)];congr 1;lia
  rw [t1,t2,afr,afa]
  rfl
section
variable {prog:Program}{w:World}{A:Around}{E:Value->Shared->Prop}{s:Shared}{κ:KeyKind}
theorem pE {X Y:List Keyed}(hX:SL κ X)(hY:SL κ Y)(h:∀ x∈X,∀ y∈Y,le κ x y):SL κ (X++Y):=afC.mpr ⟨hX,hY,h⟩
theorem uq (hO:κ.OneLt){i:Nat}{st:SortSt}{P X Y R:List Keyed}{pw pw2:Nat}{Q:Bool->SortSt->Prop}(hk:kindOf st=oneType')(hf:failedOf st=none)
 (hp1:(pendingOf st)[i]? = some (P.length,X.length,pw))(hp2:(pendingOf st)[i+1]? = some (P.length+X.length,Y.length,pw2))(ea:(arrOf st).toList=P++(X++(Y++R)))
 (vX:∀ p∈X,Va κ p)(vY:∀ p∈Y,Va κ p)(sX:SL κ X)(sY:SL κ Y)(hX:1<=X.length)(hY:1<=Y.length)
 (h:∀ M st',M.Perm (X++Y)->SL κ M->kindOf st'=oneType'->failedOf st'=none->(arrOf st').toList=P++(M++R)->pendingOf st'=((pendingOf st).setIfInBounds i (P.length,X.length+Y.length,pw)).eraseIdxIfInBounds (i+1)->Q true st') :
 wpS (model prog w) A E s (mergeAt' i) Q st:=by
 have asz:(arrOf st).size=P.length+(X.length+(Y.length+R.length)):=by
  have:=afJ List.length ea;simpa using this
 have dX:((arrOf st).toList.drop P.length).take X.length=X:=by rw [ea];simp
 have dY:((arrOf st).toList.drop (P.length+X.length)).take Y.length=Y:=by
  rw [ea,← afa];rw [← aeR];simp
 obtain⟨y0,Y',eY⟩:∃ y0 Y',Y=y0::Y':=by
  cases Y with
  | nil=>simp at hY
  | cons y r=>exact⟨y,r,rfl⟩
 have my0:y0∈Y:=by rw [eY];exact ae0
 have hy0:(arrOf st)[P.length+X.length]? = some y0:=by
  have:(arrOf st).toList[P.length+X.length]? = some y0:=by
   rw [ea,eY,← afa,afF (by simp)];simp
  simpa using this
 have y0le:∀ y∈Y,le κ y0 y:=by
  rw [eY] at sY ⊢;exact sY.head
 refine afc (ai5 ?_);have hmatch:((pendingOf st)[i]?,(pendingOf st)[i+1]?)=(some (P.length,X.length,pw),some (P.length+X.length,Y.length,pw2)):=by rw [hp1,hp2]
 rw [hmatch];refine afc (ahx ?_);have k1:kindOf (SortSt.mk' (kindOf st) (arrOf st) (((pendingOf st).setIfInBounds i (P.length,X.length+Y.length,pw)).eraseIdxIfInBounds (i+1)) (gallopOf st) (failedOf st))=oneType':=hk;have f1:failedOf (SortSt.mk' (kindOf st) (arrOf st) (((pendingOf st).setIfInBounds i (P.length,X.length+Y.length,pw)).eraseIdxIfInBounds (i+1)) (gallopOf st) (failedOf st))=none:=hf;have a1:arrOf (SortSt.mk' (kindOf st) (arrOf st) (((pendingOf st).setIfInBounds i (P.length,X.length+Y.length,pw)).eraseIdxIfInBounds (i+1)) (gallopOf st) (failedOf st))=arrOf st:=rfl;have p1:pendingOf (SortSt.mk' (kindOf st) (arrOf st) (((pendingOf st).setIfInBounds i (P.length,X.length+Y.length,pw)).eraseIdxIfInBounds (i+1)) (gallopOf st) (failedOf st))=((pendingOf st).setIfInBounds i (P.length,X.length+Y.length,pw)).eraseIdxIfInBounds (i+1):=rfl;show wpS _ _ _ _ _ _ (SortSt.mk' (kindOf st) (arrOf st) (((pendingOf st).setIfInBounds i (P.length,X.length+Y.length,pw)).eraseIdxIfInBounds (i+1)) (gallopOf st) (failedOf st));generalize SortSt.mk' (kindOf st) (arrOf st) (((pendingOf st).setIfInBounds i (P.length,X.length+Y.length,pw)).eraseIdxIfInBounds (i+1)) (gallopOf st) (failedOf st)=st1 at k1 f1 a1 p1 ⊢;have same:SL κ (X++Y)->Q true st1:=fun so=>h (X++Y) st1 (List.Perm.refl _) so k1 f1 (by rw [a1,ea,afa]) p1;refine afc (cx hy0 (afc (dW (left:=false) (key:=y0) (arr:=arrOf st) (base:=P.length) (n:=X.length) (hint:=0) hO k1 (vY y0 my0) (by lia) (by rw [dX];exact vX) (by rw [dX];exact sX) (by lia) fun k hkn g1 g2=>?_)));rw [dX] at g1 g2;simp only [afA,agF] at g1 g2;have sp:=afD k X;have l2:(X.drop k).length=X.length - k:=agw;have l1:(X.take k).length=k:=by rw [afn];lia
 have g1Y:∀ x∈X.take k,∀ y∈Y,le κ x y:=fun x hx y hy=>le_trans (g1 x hx) (y0le y hy);by_cases c1:X.length - k=0
 ·refine ifp (afu.mpr c1) ?_;refine afl (same (pE sX sY fun x hx y hy=>g1Y x ?_ y hy));rw [afE (by lia)];exact hx
 refine ifn (fun z=>c1 (afu.mp z)) ?_;obtain⟨xl,hxl⟩:∃ xl,X[X.length - 1]? = some xl:=⟨_,aeO (by lia)⟩;have mxl:xl∈X:=afB hxl;have hxa:(arrOf st)[P.length+k+(X.length - k) - 1]? = some xl:=by
  have:(arrOf st).toList[P.length+k+(X.length - k) - 1]? = some xl:=by
   rw [ea,show P.length+k+(X.length - k) - 1=P.length+(X.length - 1) by lia,afF (by lia),Nat.add_sub_cancel_left,agt (by lia)];exact hxl
  simpa using this
 have lex:∀ x∈X,le κ x xl:=fun x hx=>by
  obtain⟨j,hj,ej⟩:=agb.mp hx;exact sX.at (i:=j) (j:=X.length - 1) (by lia) (by rw [aeO hj,ej]) hxl
 refine afc (cx hxa (afc (dW (left:=true) (key:=xl) (arr:=arrOf st) (base:=P.length+X.length) (n:=Y.length) (hint:=Y.length - 1) hO k1 (vX xl mxl) (by lia) (by rw [dY];exact vY) (by rw [dY];exact sY) (by lia) fun k2 hkn2 g3 g4=>?_)));rw [dY] at g3 g4;simp only [ahy] at g3 g4;by_cases c2:k2=0
 ·refine ifp (afu.mpr c2) ?_;refine afl (same (pE sX sY fun x hx y hy=>le_trans (lex x hx) (g4 y ?_)));rw [c2,age];exact hy
 refine ifn (fun z=>c2 (afu.mp z)) ?_;have l3:(Y.take k2).length=k2:=by rw [afn];lia
 have ex:((arrOf st).extract (P.length+k) (P.length+X.length)).toList=X.drop k:=by
  rw [agT,agv,ea,← ahV,akA,aiy hkn,show P.length+X.length - (P.length+k)=(X.drop k).length by rw [l2];lia,List.take_left]
 have ey:((arrOf st).extract (P.length+X.length) (P.length+X.length+k2)).toList=Y.take k2:=by
  rw [agT,agv,ea,← ahV,akA,akA,show P.length+X.length+k2 - (P.length+X.length)=k2 by lia,ahw hkn2]
 have fin:∀ (m:Array Keyed) (st2:SortSt),Eqv st1 st2->oz κ (X.drop k++Y.take k2) m.toList->Q true (SortSt.mk' (kindOf st2) ((m.toList.zipIdx).foldl (fun a x=>a.setIfInBounds (P.length+k+x.2) x.1) (arrOf st2)) (pendingOf st2) (gallopOf st2) (failedOf st2)):=by
  intro m st2 ev g;have ml:m.toList.length=X.length - k+k2:=by rw [g.1.length_eq,aeR,l2,l3]
  have msz:m.size=X.length - k+k2:=by rw [← ae5];exact ml
  refine h (X.take k++(m.toList++Y.drop k2)) _ ?_ ?_ (ev.1.trans k1) (ev.2.2.2.trans f1) ?_ (ev.2.2.1.trans p1)
  ·refine List.Perm.trans (agN _ (ag1 _ g.1)) ?_;rw [afa,afD,← afa,afD]
  ·have inM:∀ z∈m.toList,z∈X.drop k\/z∈Y.take k2:=fun z hz=>aeT.mp (g.1.mem_iff.mp hz);have sX':=sX;rw [← sp] at sX';have cX:=(afC.mp sX').2.2;have sY':=sY;rw [← afD k2 Y] at sY';have cY:=(afC.mp sY').2.2;refine pE (sX.take k) (pE g.2 (sY.drop k2) fun z hz y hy=>?_) fun x hx z hz=>?_
   ·rcases inM z hz with q | q
    ·exact le_trans (lex z (agq q)) (g4 y hy)
    ·exact cY z q y hy
   ·rcases aeT.mp hz with hz | hz
    ·rcases inM z hz with q | q
     ·exact cX x hx z q
     ·exact g1Y x hx z (af0 q)
    ·exact g1Y x hx z (agq hz)
  ·show ((m.toList.zipIdx).foldl (fun a x=>a.setIfInBounds (P.length+k+x.2) x.1) (arrOf st2)).toList=_;have asz2:(arrOf st2).size=(arrOf st).size:=by rw [ev.2.1,a1]
   rw [uF (P.length+k) m.toList 0 (arrOf st2) (by lia),ev.2.1,a1,ea];have t1:(P++(X++(Y++R))).take (P.length+k+0)=P++X.take k:=by
    rw [ajg,List.take_length_add_append,ahw hkn]
   have t2:(P++(X++(Y++R))).drop (P.length+k+0+m.toList.length)=Y.drop k2++R:=by
    rw [show P.length+k+0+m.toList.length=P.length+(X.length+k2) by lia,ai6,ai6,aiy hkn2]
   rw [t1,t2];simp only [afa]
 have P1':∀ y∈(Y.take k2).take 1,∀ x∈X.drop k,le κ y x:=fun y hy x hx=>by
  rw [ain,agi (by lia),eY] at hy;have:y=y0:=by simpa using hy
  rw [this];exact le_of_lt (g2 x hx)
 have P2':∀ y∈Y.take k2,∀ z∈(X.drop k).drop (X.length - k - 1),le κ y z:=fun y hy z hz=>by
  rw [ahV,show k+(X.length - k - 1)=X.length - 1 by lia] at hz;have ez:X.drop (X.length - 1)=[xl]:=by
   obtain⟨hl,e⟩:=aeU.mp hxl;rw [afU hl,e,agZ (by lia)]
  rw [ez] at hz;rw [aeS.mp hz];exact le_of_lt (g3 y hy)
 have xsz:((arrOf st).extract (P.length+k) (P.length+X.length)).size=X.length - k:=by rw [← ae5,ex,l2]
 have ysz:((arrOf st).extract (P.length+X.length) (P.length+X.length+k2)).size=k2:=by rw [← ae5,ey,l3]
 refine ifs (fun _=>?_) (fun _=>?_)
 ·refine afc (uc hO k1 (by rw [ex];exact fun p hp=>vX p (agq hp)) (by rw [ey];exact fun p hp=>vY p (af0 hp)) (by rw [xsz];lia) (by rw [ysz];lia) (by rw [ex];exact sX.drop k) (by rw [ey];exact sY.take k2) (by rw [ex,ey];exact P1') (by rw [ex,ey,xsz];exact P2') fun m st2 ev g=>?_);rw [ex,ey] at g;refine afc (ahx (afc (ai5 ?_)));have:=fin m st2 ev g;have e:(failedOf st2).isNone=true:=by rw [ev.2.2.2,f1];rfl
  refine afl ?_;show Q (failedOf st2).isNone _;rw [e];exact this
 ·refine afc (uf hO k1 (by rw [ex];exact fun p hp=>vX p (agq hp)) (by rw [ey];exact fun p hp=>vY p (af0 hp)) (by rw [xsz];lia) (by rw [ysz];lia) (by rw [ex];exact sX.drop k) (by rw [ey];exact sY.take k2) (by rw [ex,ey];exact P1') (by rw [ex,ey,xsz];exact P2') fun m st2 ev g=>?_);rw [ex,ey] at g;refine afc (ahx (afc (ai5 ?_)));have:=fin m st2 ev g;have e:(failedOf st2).isNone=true:=by rw [ev.2.2.2,f1];rfl
  refine afl ?_;show Q (failedOf st2).isNone _;rw [e];exact this
end
structure Rl (lo:Nat)(st0 st:SortSt):Prop where
 kind:kindOf st=oneType'
 failed:failedOf st=none
 pend:pendingOf st=pendingOf st0
 perm:(arrOf st).Perm (arrOf st0)
 pre:∀ i,i < lo->(arrOf st)[i]? = (arrOf st0)[i]?
theorem Rl.size {lo:Nat}{st0 st:SortSt}(R:Rl lo st0 st):(arrOf st).size=(arrOf st0).size:=R.perm.size_eq
theorem Rl.mir {lo i j:Nat}{st0 st:SortSt}(R:Rl lo st0 st)(hi:lo<=i)(hj:j<=(arrOf st0).size):Rl lo st0 (setArr st (mirror (arrOf st) i j ((j - i) / 2))) :=
 ⟨R.kind,R.failed,R.pend,(mirror_perm _ _ _ _).trans R.perm,fun k hk=>by
  show (mirror (arrOf st) i j ((j - i) / 2))[k]? = _;rw [getElem?_mirror_all (by rw [R.size];exact hj),if_neg (by lia)];exact R.pre k hk⟩
theorem Rl.bub {lo src d:Nat}{st0 st:SortSt}(R:Rl lo st0 st)(hi:lo<=src - d)(hd:d<=src)(hs:src < (arrOf st0).size):Rl lo st0 (setArr st (bubble (arrOf st) src d)) :=
 ⟨R.kind,R.failed,R.pend,(bubble_perm _ _ _).trans R.perm,fun k hk=>by
  show (bubble (arrOf st) src d)[k]? = _;rw [getElem?_bubble (by rw [R.size];exact hs) d hd,if_neg (by lia),if_neg (by lia)];exact R.pre k hk⟩
def UpK (κ:KeyKind)(xs:Array Keyed)(lo n:Nat):Prop:=∀ i j,i<=j->j < n->κ.kle (KK κ xs (lo+i)) (KK κ xs (lo+j))
def DnK (κ:KeyKind)(xs:Array Keyed)(lo n:Nat):Prop:=∀ i j,i<=j->j < n->κ.kle (KK κ xs (lo+j)) (KK κ xs (lo+i))
section
variable {κ:KeyKind}
theorem UpK.one (xs:Array Keyed)(lo n:Nat)(hn:n<=1):UpK κ xs lo n:=fun i j hij hj=>by
 have e:i=j:=by lia
 subst e;exact ahl _
theorem UpK.more {xs:Array Keyed}{lo x:Nat}(h:UpK κ xs lo x)(hx:1<=x)(q:κ.kle (KK κ xs (lo+(x - 1))) (KK κ xs (lo+x))):UpK κ xs lo (x+1):=fun i j hij hj=>by
 by_cases hjx:j < x
 ·exact h i j hij hjx
 ·have e:j=x:=by lia
  subst e;by_cases e2:i=j
  ·subst e2;exact ahl _
  ·exact ahv (h i (j - 1) (by lia) (by lia)) q
theorem DnK.more {xs:Array Keyed}{lo x:Nat}(h:DnK κ xs lo x)(hx:1<=x)(q:κ.kle (KK κ xs (lo+x)) (KK κ xs (lo+(x - 1)))):DnK κ xs lo (x+1):=fun i j hij hj=>by
 by_cases hjx:j < x
 ·exact h i j hij hjx
 ·have e:j=x:=by lia
  subst e;by_cases e2:i=j
  ·subst e2;exact ahl _
  ·exact ahv q (h i (j - 1) (by lia) (by lia))
theorem DnK.congr {xs ys:Array Keyed}{lo n:Nat}(h:DnK κ xs lo n)(e:∀ k,KK κ ys k=KK κ xs k):DnK κ ys lo n:=fun i j hij hj=>by
 rw [e,e];exact h i j hij hj
end
section
variable {prog:Program}{w:World}{A:Around}{E:Value->Shared->Prop}{s:Shared}{κ:KeyKind}
theorem oD (hO:κ.OneLt){lo i j:Nat}{st0 st:SortSt}{Q:Option Bool->SortSt->Prop}(R:Rl lo st0 st)(va:∀ p∈(arrOf st0).toList,Va κ p)(hi:i < (arrOf st0).size)(hj:j < (arrOf st0).size)
 (h:Q (some (κ.blt (KK κ (arrOf st) i) (KK κ (arrOf st) j))) st):wpS (model prog w) A E s (ltAt' i j) Q st:=by
 have get:∀ k,k < (arrOf st0).size->∃ p,(arrOf st)[k]? = some p/\Va κ p:=fun k hk=>by
  obtain⟨p,e,m⟩:=eG (x:=arrOf st) (i:=k) (by rw [R.size];exact hk);exact⟨p,e,va p ((af1.mp R.perm).mem_iff.mp m)⟩
 obtain⟨p,e1,a,ha⟩:=get i hi;obtain⟨q,e2,b,hb⟩:=get j hj;have ka:KK κ (arrOf st) i=a:=by rw [pJ e1];unfold kk;rw [ha];rfl
 have kb:KK κ (arrOf st) j=b:=by rw [pJ e2];unfold kk;rw [hb];rfl
 rw [ka,kb] at h;exact wpS_ltAtK hO R.kind (x:=p.1) (y:=q.1) (p:=p.2) (q:=q.2) e1 e2 ha hb h
theorem wa (hO:κ.OneLt){lo n ok:Nat}{st0 st:SortSt}{Q:Bool->SortSt->Prop}(R:Rl lo st0 st)(va:∀ p∈(arrOf st0).toList,Va κ p)(hn:lo+n<=(arrOf st0).size)(h1:1<=ok)(hok:ok<=n)(hs:UpK κ (arrOf st) lo ok)
 (h:∀ st',Rl lo st0 st'->UpK κ (arrOf st') lo n->Q true st'):wpS (model prog w) A E s (binarySort' lo n ok) Q st:=by
 rw [binarySort'_eq];refine afc (ag8 (agg (I:=fun k c st'=>c=(none,())/\Rl lo st0 st'/\UpK κ (arrOf st') lo k) (Q:=fun c st'=>c=(none,())/\Rl lo st0 st'/\UpK κ (arrOf st') lo n) ?_ ?_ ⟨rfl,R,by rw [Nat.max_eq_left h1];exact hs⟩) ?_);rotate_left
 ·rintro c st' ⟨rfl,R',hs'⟩;rw [show max (max ok 1) n=n by lia] at hs';exact⟨rfl,R',hs'⟩
 ·rintro c st' ⟨rfl,R',hs'⟩;exact afl (h st' R' hs')
 rintro k c st1 hak hkn ⟨rfl,R1,s1⟩;have hk1:1<=k:=by lia
 refine afc (ag8 (agg (I:=fun x c st2=>st2=st1/\∃ l r,c=(none,l,r)/\l<=r/\r<=k/\r - l<=k - x/\(∀ i,i < l->κ.kle (KK κ (arrOf st1) (lo+i)) (KK κ (arrOf st1) (lo+k)))/\∀ i,r<=i->i < k->κ.klt (KK κ (arrOf st1) (lo+k)) (KK κ (arrOf st1) (lo+i)))
  (Q:=fun c st2=>st2=st1/\∃ l r,c=(none,l,r)/\l<=k/\(∀ i,i < l->κ.kle (KK κ (arrOf st1) (lo+i)) (KK κ (arrOf st1) (lo+k)))/\∀ i,l<=i->i < k->κ.klt (KK κ (arrOf st1) (lo+k)) (KK κ (arrOf st1) (lo+i))) ?_ ?_ ⟨rfl,0,k,rfl,afe _,ae1 _,by lia,fun i hi=>absurd hi (by lia),fun i a b=>absurd b (by lia)⟩) ?_)
 ·rintro x c st2 _ hx ⟨rfl,l,r,rfl,g1,g2,g3,g4,g5⟩;by_cases hge:l ≥ r
  ·refine ifp hge ?_;have e:l=r:=by lia
   subst e;exact afl ⟨rfl,l,l,rfl,g2,g4,g5⟩
  ·refine ifn hge ?_;refine afc (oD hO R1 va (by show lo+k < _;lia) (by show lo+(l+r) / 2 < _;lia) ?_);show wpS _ _ _ _ (if κ.blt (KK κ (arrOf st2) (lo+k)) (KK κ (arrOf st2) (lo+(l+r) / 2))=true then _ else _) _ _;cases q:κ.blt (KK κ (arrOf st2) (lo+k)) (KK κ (arrOf st2) (lo+(l+r) / 2)) with
   | true =>
    refine ifp rfl ?_;exact afl ⟨rfl,l,(l+r) / 2,rfl,by lia,by lia,by lia,g4,fun i a b=>KeyOrd.klt_of_klt_of_kle q (s1 _ _ a b)⟩
   | false =>
    refine ifn aeY ?_;exact afl ⟨rfl,(l+r) / 2+1,r,rfl,by lia,by lia,by lia,fun i a=>ahv (s1 i ((l+r) / 2) (by lia) (by lia)) (show κ.kle _ _ from q),g5⟩
 ·rintro c st2 ⟨rfl,l,r,rfl,g1,g2,g3,g4,g5⟩;have e:l=r:=by lia
  subst e;exact⟨rfl,l,l,rfl,g2,g4,g5⟩
 ·rintro c st2 ⟨rfl,l,r,rfl,g2,g4,g5⟩;show wpS _ _ _ _ (moveDown' (lo+k) (lo+l) >>= fun _=>pure (ForInStep.yield (none,()))) _ _;rw [moveDown'_eq];have hks:lo+k < (arrOf st2).size:=by rw [R1.size];lia
  refine afc (ahx (afl ⟨rfl,R1.bub (by lia) (by lia) (by lia),?_⟩));intro i j hij hj;show κ.kle (KK κ (bubble (arrOf st2) (lo+k) (lo+k - (lo+l))) (lo+i)) (KK κ (bubble (arrOf st2) (lo+k) (lo+k - (lo+l))) (lo+j));rw [KK_bubble hks (by lia),KK_bubble hks (by lia)];have e1:∀ {z:Nat},l < z->z<=k->lo+z - 1=lo+(z - 1):=fun {z} a b=>by lia
  by_cases hj1:j=l
  ·subst hj1;rw [if_pos (show lo+j=lo+k - (lo+k - (lo+j)) by lia)];by_cases hi1:i=j
   ·rw [hi1,if_pos (show lo+j=lo+k - (lo+k - (lo+j)) by lia)];exact ahl _
   ·rw [if_neg (by lia),if_neg (by lia)];exact g4 i (by lia)
  ·by_cases hj2:l < j
   ·rw [if_neg (show ¬ (lo+j=lo+k - (lo+k - (lo+l))) by lia),if_pos (show lo+k - (lo+k - (lo+l)) < lo+j/\lo+j<=lo+k by lia),e1 hj2 (by lia)];by_cases hi1:i=l
    ·rw [hi1,if_pos (show lo+l=lo+k - (lo+k - (lo+l)) by lia)];exact ahP (g5 (j - 1) (by lia) (by lia))
    ·by_cases hi2:l < i
     ·rw [if_neg (show ¬ (lo+i=lo+k - (lo+k - (lo+l))) by lia),if_pos (show lo+k - (lo+k - (lo+l)) < lo+i/\lo+i<=lo+k by lia),e1 hi2 (by lia)];exact s1 _ _ (by lia) (by lia)
     ·rw [if_neg (by lia),if_neg (by lia)];exact s1 _ _ (by lia) (by lia)
   ·rw [if_neg (show ¬ (lo+j=lo+k - (lo+k - (lo+l))) by lia),if_neg (show ¬ (lo+k - (lo+k - (lo+l)) < lo+j/\lo+j<=lo+k) by lia),if_neg (by lia),if_neg (by lia)];exact s1 _ _ hij (by lia)
end
section
variable {prog:Program}{w:World}{A:Around}{E:Value->Shared->Prop}{s:Shared}{κ:KeyKind}
theorem yW (hO:κ.OneLt){lo nrem:Nat}{st0:SortSt}{Q:Option Nat->SortSt->Prop}(hk:kindOf st0=oneType')(hf:failedOf st0=none)(va:∀ p∈(arrOf st0).toList,Va κ p)(hn:lo+nrem<=(arrOf st0).size)(h1:1<=nrem)
 (h:∀ m st',Rl lo st0 st'->1<=m->m<=nrem->UpK κ (arrOf st') lo m->Q (some m) st'):wpS (model prog w) A E s (countRun' lo nrem) Q st0:=by
 rw [countRun'_eq];have R0:Rl lo st0 st0:=⟨hk,hf,rfl,Array.Perm.refl _,fun _ _=>rfl⟩;refine afc (ag8 (agg (I:=fun x c st'=>st'=st0/\c=(none,x)/\UpK κ (arrOf st0) lo x) (Q:=fun c st'=>st'=st0/\∃ n,c=(none,n)/\1<=n/\n<=nrem/\UpK κ (arrOf st0) lo n/\(n=nrem\/κ.klt (KK κ (arrOf st0) (lo+n)) (KK κ (arrOf st0) (lo+(n - 1))))) ?_ ?_ ⟨rfl,rfl,UpK.one _ _ _ (ae1 _)⟩) ?_)
 ·rintro x c st' hx1 hx ⟨rfl,rfl,s1⟩;refine afc (oD hO R0 va (by show lo+x < _;lia) (by show lo+x - 1 < _;lia) ?_);show wpS _ _ _ _ (if κ.blt (KK κ (arrOf st') (lo+x)) (KK κ (arrOf st') (lo+x - 1))=true then _ else _) _ _;rw [show lo+x - 1=lo+(x - 1) by lia];cases q:κ.blt (KK κ (arrOf st') (lo+x)) (KK κ (arrOf st') (lo+(x - 1))) with
  | true =>
   refine ifp rfl ?_;exact afl ⟨rfl,x,rfl,hx1,by lia,s1,.inr q⟩
  | false =>
   refine ifn aeY ?_;exact afl ⟨rfl,rfl,s1.more hx1 q⟩
 ·rintro c st' ⟨rfl,rfl,s1⟩;rw [show max 1 nrem=nrem by lia] at s1 ⊢;exact⟨rfl,nrem,rfl,h1,ae1 _,s1,.inl rfl⟩
 rintro c st' ⟨rfl,n,rfl,g1,g2,s1,alt⟩;by_cases hnn:n=nrem
 ·refine ifp (afu.mpr hnn) ?_;exact afl (h n st' R0 g1 g2 s1)
 refine ifn (fun z=>hnn (afu.mp z)) ?_;have hlt:=alt.resolve_left hnn
 lift_lets
 extract_lets n0 q0 jp
 have hjp:∀ st1,Rl lo st' st1->DnK κ (arrOf st1) lo (n+1)->wpS (model prog w) A E s (jp ()) Q st1:=by
  intro st1 R1 d1;refine afc (wpS_lift (agO ⟨rfl,?_⟩));refine afc (ag8 (agg (a:=n+1) (b:=nrem) (I:=fun x c st2=>Rl lo st' st2/\∃ neq,c=(none,x,neq)/\DnK κ (arrOf st2) lo x/\neq+1<=x/\∀ i,x - (neq+1)<=i->i < x->KK κ (arrOf st2) (lo+i)=KK κ (arrOf st2) (lo+(x - 1)))
   (Q:=fun c st2=>Rl lo st' st2/\∃ x neq,c=(none,x,neq)/\1<=x/\x<=nrem/\DnK κ (arrOf st2) lo x/\neq+1<=x/\∀ i,x - (neq+1)<=i->i < x->KK κ (arrOf st2) (lo+i)=KK κ (arrOf st2) (lo+(x - 1))) ?_ ?_ ⟨R1,0,rfl,d1,by lia,fun i a b=>by congr 1;lia⟩) ?_)
  ·rintro x c st2 hx1 hx ⟨R2,neq,rfl,d2,q1,q2⟩;have hsz:lo+x<=(arrOf st2).size:=by rw [R2.size];lia
   refine afc (oD hO R2 va (by show lo+x < _;lia) (by show lo+x - 1 < _;lia) ?_);show wpS _ _ _ _ (if κ.blt (KK κ (arrOf st2) (lo+x)) (KK κ (arrOf st2) (lo+x - 1))=true then _ else _) _ _;rw [show lo+x - 1=lo+(x - 1) by lia];cases q:κ.blt (KK κ (arrOf st2) (lo+x)) (KK κ (arrOf st2) (lo+(x - 1))) with
   | true =>
    refine ifp rfl ?_;have d3:=d2.more (by lia) (ahP q);refine ifs (fun hq=>?_) (fun hq=>?_)
    ·refine afc (wpS_reverse (i:=lo+x - (neq+1)) (j:=lo+x) (afl ⟨R2.mir (by lia) (by lia),0,rfl,?_,by lia,fun i a b=>by congr 1;lia⟩));refine d3.congr fun k=>KK_mirror_equal hsz (fun k a b=>?_) k;have e:=q2 (k - lo) (by lia) (by lia);rw [show lo+(k - lo)=k by lia] at e;rw [e];congr 1;lia
    ·exact afl ⟨R2,0,rfl,d3,by lia,fun i a b=>by congr 1;lia⟩
   | false =>
    refine ifn aeY ?_;refine afc (oD hO R2 va (by show lo+(x - 1) < _;lia) (by show lo+x < _;lia) ?_);show wpS _ _ _ _ (if κ.blt (KK κ (arrOf st2) (lo+(x - 1))) (KK κ (arrOf st2) (lo+x))=true then _ else _) _ _;cases p:κ.blt (KK κ (arrOf st2) (lo+(x - 1))) (KK κ (arrOf st2) (lo+x)) with
    | true =>
     refine ifp rfl ?_;exact afl ⟨R2,x,neq,rfl,by lia,by lia,d2,q1,q2⟩
    | false =>
     refine ifn aeY ?_;have e:KK κ (arrOf st2) (lo+x)=KK κ (arrOf st2) (lo+(x - 1)):=KeyOrd.kle_antisymm p q;refine afl ⟨R2,neq+1,rfl,d2.more (by lia) (show κ.kle _ _ from p),by lia,fun i a b=>?_⟩;rw [show x+1 - 1=x by lia];by_cases hix:i=x
     ·rw [hix]
     ·rw [e];exact q2 i (by lia) (by lia)
  ·rintro c st2 ⟨R2,neq,rfl,d2,q1,q2⟩;rw [show max (n+1) nrem=nrem by lia] at d2 q1 q2 ⊢;exact⟨R2,nrem,neq,rfl,h1,ae1 _,d2,q1,q2⟩
  rintro c st2 ⟨R2,x,neq,rfl,x1,x2,d2,q1,q2⟩
  lift_lets
  extract_lets r5 s5 n5 q5 jp2
  have hjp2:∀ st3,Rl lo st' st3->DnK κ (arrOf st3) lo x->wpS (model prog w) A E s (jp2 ()) Q st3:=by
   intro st3 R3 d3;have hsz:lo+x<=(arrOf st3).size:=by rw [R3.size];lia
   refine afc (wpS_reverse (i:=lo) (j:=lo+x) ?_);have R4:=R3.mir (i:=lo) (j:=lo+x) (ae1 _) (by lia);have u4:UpK κ (arrOf (setArr st3 (mirror (arrOf st3) lo (lo+x) ((lo+x - lo) / 2)))) lo x:=fun i j hij hj=>by
    show κ.kle (KK κ (mirror (arrOf st3) lo (lo+x) ((lo+x - lo) / 2)) (lo+i)) (KK κ (mirror (arrOf st3) lo (lo+x) ((lo+x - lo) / 2)) (lo+j));rw [KK_mirror hsz,KK_mirror hsz,if_pos (by lia),if_pos (by lia),show lo+(lo+x) - 1 - (lo+i)=lo+(x - 1 - i) by lia,show lo+(lo+x) - 1 - (lo+j)=lo+(x - 1 - j) by lia];exact d3 _ _ (by lia) (by lia)
   generalize setArr st3 (mirror (arrOf st3) lo (lo+x) ((lo+x - lo) / 2))=st4 at R4 u4 ⊢;refine afc (ag8 (agg (a:=x) (b:=nrem) (I:=fun y c st5=>st5=st4/\c=(none,y)/\UpK κ (arrOf st4) lo y) (Q:=fun c st5=>st5=st4/\∃ m,c=(none,m)/\1<=m/\m<=nrem/\UpK κ (arrOf st4) lo m) ?_ ?_ ⟨rfl,rfl,u4⟩) ?_)
   ·rintro y c st5 hy1 hy ⟨rfl,rfl,s5⟩;refine afc (oD hO R4 va (by show lo+y < _;lia) (by show lo+y - 1 < _;lia) ?_);show wpS _ _ _ _ (if κ.blt (KK κ (arrOf st5) (lo+y)) (KK κ (arrOf st5) (lo+y - 1))=true then _ else _) _ _;rw [show lo+y - 1=lo+(y - 1) by lia];cases q:κ.blt (KK κ (arrOf st5) (lo+y)) (KK κ (arrOf st5) (lo+(y - 1))) with
    | true =>
     refine ifp rfl ?_;exact afl ⟨rfl,y,rfl,by lia,by lia,s5⟩
    | false =>
     refine ifn aeY ?_;exact afl ⟨rfl,rfl,s5.more (by lia) q⟩
   ·rintro c st5 ⟨rfl,rfl,s5⟩;rw [show max x nrem=nrem by lia] at s5 ⊢;exact⟨rfl,nrem,rfl,h1,ae1 _,s5⟩
   ·rintro c st5 ⟨rfl,m,rfl,m1,m2,s5⟩;exact afl (h m st5 R4 m1 m2 s5)
  clear_value jp2
  refine ifs (fun hq=>?_) (fun hq=>hjp2 st2 R2 d2);have hsz:lo+x<=(arrOf st2).size:=by rw [R2.size];lia
  refine afc (wpS_reverse (i:=lo+x - (neq+1)) (j:=lo+x) (hjp2 _ (R2.mir (by lia) (by lia)) ?_));refine d2.congr fun k=>KK_mirror_equal hsz (fun k a b=>?_) k;have e:=q2 (k - lo) (by lia) (by lia);rw [show lo+(k - lo)=k by lia] at e;rw [e];congr 1;lia
 clear_value jp
 have hsz:lo+n<=(arrOf st').size:=by lia
 refine ifs (fun hgt=>?_) (fun hgt=>?_)
 ·refine afc (oD hO R0 va (by show lo < _;lia) (by show lo+n - 1 < _;lia) ?_);show wpS _ _ _ _ (if κ.blt (KK κ (arrOf st') lo) (KK κ (arrOf st') (lo+n - 1))=true then _ else _) _ _;cases q:κ.blt (KK κ (arrOf st') lo) (KK κ (arrOf st') (lo+n - 1)) with
  | true =>
   refine ifp rfl ?_;exact afl (h n st' R0 g1 g2 s1)
  | false =>
   refine ifn aeY ?_;have all:∀ k,k < n->KK κ (arrOf st') (lo+k)=KK κ (arrOf st') (lo+(n - 1)):=fun k hk=>by
    have a1:=s1 0 k (by lia) hk;have a2:=s1 k (n - 1) (by lia) (by lia);rw [ajg] at a1;rw [show lo+n - 1=lo+(n - 1) by lia] at q;exact KeyOrd.kle_antisymm a2 (ahv q a1)
   refine afc (wpS_reverse (i:=lo) (j:=lo+n) (hjp _ (R0.mir (ae1 _) (by lia)) ?_));have d0:DnK κ (arrOf st') lo n:=fun i j hij hj=>by rw [all i (by lia),all j hj];exact ahl _
   refine (d0.more g1 (ahP hlt)).congr fun k=>KK_mirror_equal hsz (fun k a b=>?_) k;have e:=all (k - lo) (by lia);rw [show lo+(k - lo)=k by lia] at e;rw [e,show lo+n - 1=lo+(n - 1) by lia]
 ·have e1:n=1:=by lia
  subst e1;have d0:DnK κ (arrOf st') lo 1:=fun i j hij hj=>by
   have e:i=j:=by lia
   subst e;exact ahl _
  exact hjp st' R0 (d0.more (ae1 _) (ahP hlt))
end
def jA:Nat->List (List Keyed)->List (Nat×Nat)
 | _,[]=>[]
 | s,g::gs=>(s,g.length)::jA (s+g.length) gs
theorem dE:∀ (A B:List (List Keyed)) (s:Nat),jA s (A++B)=jA s A++jA (s+A.flatten.length) B
 | [],B,s=>by simp [jA]
 | g::A,B,s=>by
  rw [ajP];simp only [jA,agA,aeR,ajP];rw [dE A B,Nat.add_assoc]
theorem gW:∀ (A:List (List Keyed)) (s:Nat),(jA s A).length=A.length
 | [],s=>rfl
 | g::A,s=>by simp only [jA,afr,gW A]
def two (p:Nat×Nat×Nat):Nat×Nat:=(p.1,p.2.1)
structure Runs (κ:KeyKind)(a₀:Array Keyed)(segs:List (List Keyed))(rest:List Keyed)(st:SortSt):Prop where
 kind:kindOf st=oneType'
 failed:failedOf st=none
 perm:(arrOf st).Perm a₀
 arr:(arrOf st).toList=segs.flatten++rest
 pend:(pendingOf st).toList.map two=jA 0 segs
 sl:∀ g∈segs,SL κ g/\1<=g.length
theorem Runs.psize {κ:KeyKind}{a₀:Array Keyed}{segs:List (List Keyed)}{rest:List Keyed}{st:SortSt}(r:Runs κ a₀ segs rest st):(pendingOf st).size=segs.length:=by
 have:=afJ List.length r.pend;rw [aeP,gW,ae5] at this;exact this
theorem Runs.total {κ:KeyKind}{a₀:Array Keyed}{segs:List (List Keyed)}{rest:List Keyed}{st:SortSt}(r:Runs κ a₀ segs rest st):segs.flatten.length+rest.length=a₀.size:=by
 have:=afJ List.length r.arr;rw [aeR,ae5,r.perm.size_eq] at this;exact this.symm
theorem wX:∀ {segs:List (List Keyed)},(∀ g∈segs,1<=g.length)->segs.length<=segs.flatten.length
 | [],_=>ae1 _
 | g::gs,h=>by
  have a:=h g ae0;have b:=wX (segs:=gs) fun q hq=>h q (ae6 _ hq);rw [agA,aeR,afr];lia
theorem rX:∀ {segs:List (List Keyed)} {i:Nat},i+1 < segs.length->∃ S1 X Y S2,segs=S1++(X::Y::S2)/\S1.length=i
 | [],i,h=>absurd h (by simp)
 | [g],i,h=>absurd h (by simp)
 | g::g'::gs,0,h=>⟨[],g,g',gs,rfl,rfl⟩
 | g::g'::gs,i+1,h=>by
  obtain⟨S1,X,Y,S2,e,l⟩:=rX (segs:=g'::gs) (i:=i) (by simpa using h);exact⟨g::S1,X,Y,S2,by rw [e];rfl,by simp [l]⟩
theorem gO {α β:Type}(f:α->β):∀ (l:List α) (n:Nat),(l.eraseIdx n).map f=(l.map f).eraseIdx n
 | [],n=>by simp
 | x::l,0=>by simp
 | x::l,n+1=>by
  rw [agU,afb,afb,agU,gO f l n]
theorem Runs.after {κ:KeyKind}{a₀:Array Keyed}{segs:List (List Keyed)}{rest:List Keyed}{st st':SortSt}(r:Runs κ a₀ segs rest st)(R:Rl segs.flatten.length st st'):Runs κ a₀ segs ((arrOf st').toList.drop segs.flatten.length) st':=by
 refine⟨R.kind,R.failed,R.perm.trans r.perm,?_,by rw [R.pend];exact r.pend,r.sl⟩;have e:(arrOf st').toList.take segs.flatten.length=segs.flatten:=by
  have e1:(arrOf st).toList.take segs.flatten.length=segs.flatten:=by rw [r.arr,List.take_left]
  rw [← e1];refine ahh fun i=>?_;have hlen:(List.take segs.flatten.length (arrOf st).toList).length=segs.flatten.length:=by
   rw [e1]
  rw [hlen];by_cases hi:i < segs.flatten.length
  ·rw [ahc hi,ahc hi,afK,afK];exact R.pre i hi
  ·rw [ajb (by lia),ajb (by lia)]
 have:=(afD segs.flatten.length (arrOf st').toList).symm
 rwa [e] at this
theorem UpK.sl {κ:KeyKind}{xs:Array Keyed}{lo n:Nat}(h:UpK κ xs lo n):SL κ ((xs.toList.drop lo).take n):=by
 refine agu.mpr fun i j hi hj hij=>?_;have hj':j < n/\j < xs.size - lo:=by
  rw [afn,agw,ae5] at hj;lia
 have q:=h i j (afo hij) hj'.1;rw [pJ (p:=xs[lo+i]) (getElem?_pos xs (lo+i) (by lia)),pJ (p:=xs[lo+j]) (getElem?_pos xs (lo+j) (by lia))] at q;rw [ahi,ajA,ahi,ajA];exact q
theorem adb {c:Prop}[Decidable c]{a b n:Nat}(h1:a+1 < n)(h2:b+1 < n):(if c then a else b)+1 < n:=by
 split<;>assumption
theorem yw (f:Nat×Nat×Nat->Nat×Nat×Nat)(hf:∀ x,two (f x)=two x)(p:Array (Nat×Nat×Nat))(i:Nat):(p.modify i f).toList.map two=p.toList.map two:=by
 refine ahh fun j=>?_;rw [aeZ,aeZ,afK,afK,Array.getElem?_modify];cases p[j]? with
 | none=>split<;>rfl
 | some v =>
  split
  ·show some (two (f v))=some (two v);rw [hf]
  ·rfl
section
variable {prog:Program}{w:World}{A:Around}{E:Value->Shared->Prop}{s:Shared}{κ:KeyKind}
theorem gh (hO:κ.OneLt){a₀:Array Keyed}{segs:List (List Keyed)}{rest:List Keyed}{i:Nat}{st:SortSt}{Q:Bool->SortSt->Prop}(va:∀ p∈a₀.toList,Va κ p)(r:Runs κ a₀ segs rest st)(hi:i+1 < segs.length)
 (h:∀ segs' st',Runs κ a₀ segs' rest st'->segs'.length+1=segs.length->segs'.flatten.length=segs.flatten.length->Q true st'):wpS (model prog w) A E s (mergeAt' i) Q st:=by
 obtain⟨S1,X,Y,S2,rfl,l1⟩:=rX hi;have pe:=r.pend;rw [dE] at pe;simp only [jA,ahI] at pe;have l1':(jA 0 S1).length=i:=by rw [gW];exact l1
 have at1:((pendingOf st).toList.map two)[i]? = some (S1.flatten.length,X.length):=by
  rw [pe,afF (by lia),l1',ahH]
  rfl
 have at2:((pendingOf st).toList.map two)[i+1]? = some (S1.flatten.length+X.length,Y.length):=by
  rw [pe,afF (by lia),l1',show i+1 - i=1 by lia]
  rfl
 have get:∀ {k a b:Nat},((pendingOf st).toList.map two)[k]? = some (a,b)->∃ c,(pendingOf st)[k]? = some (a,b,c):=fun {k a b} e=>by
  rw [aeZ,afK] at e;cases q:(pendingOf st)[k]? with
  | none=>rw [q] at e;cases e
  | some v =>
   rw [q] at e;obtain⟨x,y,z⟩:=v;have e':(x,y)=(a,b):=afW e;cases e';exact⟨z,rfl⟩
 obtain⟨pw,hp1⟩:=get at1;obtain⟨pw2,hp2⟩:=get at2;have ea:(arrOf st).toList=S1.flatten++(X++(Y++(S2.flatten++rest))):=by
  rw [r.arr];simp [afa]
 have vall:∀ p∈(arrOf st).toList,Va κ p:=fun p hp=>va p ((af1.mp r.perm).mem_iff.mp hp);have sX:=r.sl X (by simp);have sY:=r.sl Y (by simp);refine uq hO r.kind r.failed hp1 hp2 ea (fun p hp=>vall p (by rw [ea];simp [hp])) (fun p hp=>vall p (by rw [ea];simp [hp])) sX.1 sY.1 sX.2 sY.2 fun M st' pM sM k' f' a' p'=>?_;have lM:M.length=X.length+Y.length:=by rw [pM.length_eq,aeR]
 refine h (S1++M::S2) st' ⟨k',f',?_,?_,?_,fun g hg=>?_⟩ (by simp only [aeR,afr];lia) (by simp only [ahs,agA,aeR];lia)
 ·refine Array.Perm.trans (af1.mpr ?_) r.perm;rw [a',ea];refine agN _ ?_;rw [← afa X];exact ag1 _ pM
 ·rw [a'];simp [afa]
 ·rw [p',Array.toList_eraseIdxIfInBounds,Array.toList_setIfInBounds,dE];simp only [jA,ahI];rw [gO,List.map_set,pe];rw [show two (S1.flatten.length,X.length+Y.length,pw)=(S1.flatten.length,X.length+Y.length) from rfl];rw [List.set_append_right _ _ (by lia),l1',ahH,List.set_cons_zero,aid (by lia),l1',show i+1 - i=1 by lia];simp only [agU,List.eraseIdx_cons_zero];rw [lM,Nat.add_assoc]
 ·rcases aeT.mp hg with hg | hg
  ·exact r.sl g (by simp [hg])
  ·rcases ae7.mp hg with hg | hg
   ·rw [hg];exact⟨sM,by lia⟩
   ·exact r.sl g (by simp [hg])
theorem wpS_sortAll (hO:κ.OneLt){a₀:Array Keyed}{st:SortSt}{Q:Unit->SortSt->Prop}(va:∀ p∈a₀.toList,Va κ p)(hk:kindOf st=oneType')(hf:failedOf st=none)(hp:(arrOf st).Perm a₀)(hpe:pendingOf st=#[])
 (h:∀ st',(arrOf st').Perm a₀->failedOf st'=none->SL κ (arrOf st').toList->Q () st'):wpS (model prog w) A E s sortRuns' Q st:=by
 have hN:(arrOf st).size=a₀.size:=hp.size_eq;have none_left:∀ {segs:List (List Keyed)} {rest:List Keyed} {st':SortSt},Runs κ a₀ segs rest st'->(arrOf st).size<=segs.flatten.length->Runs κ a₀ segs [] st':=fun {segs rest st'} r hl=>by
  have t:=r.total;have e:rest=[]:=af6.mp (by lia);rw [← e];exact r
 refine afc (ai5 ?_);refine afc (ag8 (agg (a:=0) (b:=(arrOf st).size) (I:=fun x c st'=>∃ segs rest,c=(none,segs.flatten.length)/\Runs κ a₀ segs rest st'/\x<=segs.flatten.length)
  (Q:=fun c st'=>∃ segs lo,c=(none,lo)/\Runs κ a₀ segs [] st') ?_ ?_ ⟨[],(arrOf st).toList,rfl,⟨hk,hf,hp,rfl,by rw [hpe];rfl,fun g hg=>nomatch hg⟩,ae1 _⟩) ?_)
 ·rintro x c st1 _ hx ⟨segs,rest,rfl,r,hxl⟩;by_cases hge:segs.flatten.length ≥ (arrOf st).size
  ·refine ifp hge ?_;exact afl ⟨segs,_,rfl,none_left r hge⟩
  refine ifn hge ?_;have hN1:(arrOf st1).size=a₀.size:=r.perm.size_eq;have vall:∀ p∈(arrOf st1).toList,Va κ p:=fun p hp=>va p ((af1.mp r.perm).mem_iff.mp hp);refine afc (yW (lo:=segs.flatten.length) (nrem:=(arrOf st).size - segs.flatten.length) hO r.kind r.failed vall (by lia) (by lia) fun m st2 R2 m1 m2 u2=>?_);have r2:=r.after R2;have t2:=r2.total;refine ifs (fun hlt=>?_) (fun hlt=>?_)
  ·refine afc (wpS_lift (agO ⟨rfl,?_⟩));have fo1:m<=min ((arrOf st).size - segs.flatten.length) (minRun' (arrOf st).size (arrOf st).size 0):=by
    have hlt':m < minRun' (arrOf st).size (arrOf st).size 0:=hlt;lia
   have fo2:min ((arrOf st).size - segs.flatten.length) (minRun' (arrOf st).size (arrOf st).size 0)<=(arrOf st).size - segs.flatten.length:=Nat.min_le_left _ _;refine afc (wa (lo:=segs.flatten.length) (n:=min ((arrOf st).size - segs.flatten.length) (minRun' (arrOf st).size (arrOf st).size 0)) (ok:=m) hO R2 vall (by lia) m1 fo1 u2 fun st3 R3 u3=>?_);refine ifn (by simp) ?_;have r3:=r.after R3;have t3:=r3.total;have sN:=u3.sl;generalize (arrOf st3).toList.drop segs.flatten.length=rest3 at r3 sN t3;have push:∀ (segs':List (List Keyed)) (st4:SortSt),Runs κ a₀ segs' rest3 st4->segs'.flatten.length=segs.flatten.length->∃ segs5 rest5,((none,segs.flatten.length+min ((arrOf st).size - segs.flatten.length) (minRun' (arrOf st).size (arrOf st).size 0)):Option Unit×Nat)=(none,segs5.flatten.length)/\Runs κ a₀ segs5 rest5 (setPending st4 ((pendingOf st4).push (segs.flatten.length,min ((arrOf st).size - segs.flatten.length) (minRun' (arrOf st).size (arrOf st).size 0),0)))/\x+1<=segs5.flatten.length:=fun segs' st4 r4 e4=>by
    have lN:(rest3.take (min ((arrOf st).size - segs.flatten.length) (minRun' (arrOf st).size (arrOf st).size 0))).length=min ((arrOf st).size - segs.flatten.length) (minRun' (arrOf st).size (arrOf st).size 0):=by rw [afn];lia
    have lf:(segs'++[rest3.take (min ((arrOf st).size - segs.flatten.length) (minRun' (arrOf st).size (arrOf st).size 0))]).flatten.length=segs.flatten.length+min ((arrOf st).size - segs.flatten.length) (minRun' (arrOf st).size (arrOf st).size 0):=by
     rw [ahs,aeR,ag2,lN,e4]
    refine⟨segs'++[rest3.take (min ((arrOf st).size - segs.flatten.length) (minRun' (arrOf st).size (arrOf st).size 0))],rest3.drop (min ((arrOf st).size - segs.flatten.length) (minRun' (arrOf st).size (arrOf st).size 0)),by rw [lf],⟨r4.kind,r4.failed,r4.perm,?_,?_,fun g hg=>?_⟩,by rw [lf];lia⟩
    ·show (arrOf st4).toList=_;rw [r4.arr,ahs,ag2,afa,afD]
    ·show ((pendingOf st4).push (segs.flatten.length,min ((arrOf st).size - segs.flatten.length) (minRun' (arrOf st).size (arrOf st).size 0),0)).toList.map two=_;rw [aij,ae2,r4.pend,dE,e4];simp only [jA,ahI,lN]
     rfl
    ·rcases aeT.mp hg with hg | hg
     ·exact r4.sl g hg
     ·rw [aeS.mp hg];exact⟨sN,by lia⟩
   refine afc (ai5 ?_);cases hb:(pendingOf st3).back? with
   | none=>exact afc (ahx (afl (push segs st3 r3 rfl)))
   | some v =>
    obtain⟨s1,n1,p0⟩:=v;refine afc (ag8 (agg (a:=0) (b:=(arrOf st).size) (I:=fun y c st4=>c=(none,())/\∃ segs',Runs κ a₀ segs' rest3 st4/\segs'.flatten.length=segs.flatten.length) (Q:=fun c st4=>c=(none,())/\∃ segs',Runs κ a₀ segs' rest3 st4/\segs'.flatten.length=segs.flatten.length) ?_ (fun _ _ h=>h) ⟨rfl,segs,r3,rfl⟩) ?_)
    ·rintro y c st4 _ hy ⟨rfl,segs',r4,e4⟩;refine afc (ai5 ?_);have ps:=r4.psize;by_cases hsz:(pendingOf st4).size > 1
     ·obtain⟨v,hv⟩:∃ v,(pendingOf st4)[(pendingOf st4).size - 2]? = some v:=⟨_,getElem?_pos _ _ (by lia)⟩;obtain⟨q1,q2,q3⟩:=v;have em:(if (pendingOf st4).size > 1 then (pendingOf st4)[(pendingOf st4).size - 2]? else none)=some (q1,q2,q3):=by rw [if_pos hsz,hv]
      dsimp only;rw [em];refine ifs (fun ho=>afl ⟨rfl,segs',r4,e4⟩) (fun ho=>?_);refine afc (gh (i:=(pendingOf st4).size - 2) hO va r4 (by lia) fun segs5 st5 r5 l5 e5=>?_);exact ifn (by simp) (afl ⟨rfl,segs5,r5,by lia⟩)
     ·have em:(if (pendingOf st4).size > 1 then (pendingOf st4)[(pendingOf st4).size - 2]? else none)=none:=if_neg hsz;dsimp only;rw [em];exact afl ⟨rfl,segs',r4,e4⟩
    ·rintro c st4 ⟨rfl,segs',r4,e4⟩;refine afc (ahx (afc (ahx (afl (push segs' _ ⟨r4.kind,r4.failed,r4.perm,r4.arr,?_,r4.sl⟩ e4)))));refine (yw _ ?_ _ _).trans r4.pend;intro z
     rfl
  ·have sN:=u2.sl;have r3:=r2;have t3:=t2;generalize (arrOf st2).toList.drop segs.flatten.length=rest3 at r3 sN t3;have push:∀ (segs':List (List Keyed)) (st4:SortSt),Runs κ a₀ segs' rest3 st4->segs'.flatten.length=segs.flatten.length->∃ segs5 rest5,((none,segs.flatten.length+m):Option Unit×Nat)=(none,segs5.flatten.length)/\Runs κ a₀ segs5 rest5 (setPending st4 ((pendingOf st4).push (segs.flatten.length,m,0)))/\x+1<=segs5.flatten.length:=fun segs' st4 r4 e4=>by
    have lN:(rest3.take (m)).length=m:=by rw [afn];lia
    have lf:(segs'++[rest3.take (m)]).flatten.length=segs.flatten.length+m:=by
     rw [ahs,aeR,ag2,lN,e4]
    refine⟨segs'++[rest3.take (m)],rest3.drop (m),by rw [lf],⟨r4.kind,r4.failed,r4.perm,?_,?_,fun g hg=>?_⟩,by rw [lf];lia⟩
    ·show (arrOf st4).toList=_;rw [r4.arr,ahs,ag2,afa,afD]
    ·show ((pendingOf st4).push (segs.flatten.length,m,0)).toList.map two=_;rw [aij,ae2,r4.pend,dE,e4];simp only [jA,ahI,lN]
     rfl
    ·rcases aeT.mp hg with hg | hg
     ·exact r4.sl g hg
     ·rw [aeS.mp hg];exact⟨sN,by lia⟩
   refine afc (ai5 ?_);cases hb:(pendingOf st2).back? with
   | none=>exact afc (ahx (afl (push segs st2 r3 rfl)))
   | some v =>
    obtain⟨s1,n1,p0⟩:=v;refine afc (ag8 (agg (a:=0) (b:=(arrOf st).size) (I:=fun y c st4=>c=(none,())/\∃ segs',Runs κ a₀ segs' rest3 st4/\segs'.flatten.length=segs.flatten.length) (Q:=fun c st4=>c=(none,())/\∃ segs',Runs κ a₀ segs' rest3 st4/\segs'.flatten.length=segs.flatten.length) ?_ (fun _ _ h=>h) ⟨rfl,segs,r3,rfl⟩) ?_)
    ·rintro y c st4 _ hy ⟨rfl,segs',r4,e4⟩;refine afc (ai5 ?_);have ps:=r4.psize;by_cases hsz:(pendingOf st4).size > 1
     ·obtain⟨v,hv⟩:∃ v,(pendingOf st4)[(pendingOf st4).size - 2]? = some v:=⟨_,getElem?_pos _ _ (by lia)⟩;obtain⟨q1,q2,q3⟩:=v;have em:(if (pendingOf st4).size > 1 then (pendingOf st4)[(pendingOf st4).size - 2]? else none)=some (q1,q2,q3):=by rw [if_pos hsz,hv]
      dsimp only;rw [em];refine ifs (fun ho=>afl ⟨rfl,segs',r4,e4⟩) (fun ho=>?_);refine afc (gh (i:=(pendingOf st4).size - 2) hO va r4 (by lia) fun segs5 st5 r5 l5 e5=>?_);exact ifn (by simp) (afl ⟨rfl,segs5,r5,by lia⟩)
     ·have em:(if (pendingOf st4).size > 1 then (pendingOf st4)[(pendingOf st4).size - 2]? else none)=none:=if_neg hsz;dsimp only;rw [em];exact afl ⟨rfl,segs',r4,e4⟩
    ·rintro c st4 ⟨rfl,segs',r4,e4⟩;refine afc (ahx (afc (ahx (afl (push segs' _ ⟨r4.kind,r4.failed,r4.perm,r4.arr,?_,r4.sl⟩ e4)))));refine (yw _ ?_ _ _).trans r4.pend;intro z
     rfl
 ·rintro c st1 ⟨segs,rest,rfl,r,hxl⟩;rw [Nat.max_eq_right (afe _)] at hxl;exact⟨segs,_,rfl,none_left r hxl⟩
 ·rintro c st1 ⟨segs,lo,rfl,r⟩;have tt:=r.total;rw [ahF,ajg] at tt;have fg:=wX fun g hg=>(r.sl g hg).2;refine afc (ag8 (agg (a:=0) (b:=(arrOf st).size) (I:=fun y c st2=>c=(none,())/\∃ segs',Runs κ a₀ segs' [] st2/\(segs'.length+y<=a₀.size\/segs'.length<=1)) (Q:=fun c st2=>c=(none,())/\∃ segs',Runs κ a₀ segs' [] st2/\segs'.length<=1) ?_ ?_ ⟨rfl,segs,r,.inl (by lia)⟩) ?_)
  ·rintro y c st2 _ hy ⟨rfl,segs',r2,alt⟩;refine afc (ai5 ?_);have ps:=r2.psize;by_cases hsz:(pendingOf st2).size<=1
   ·refine ifp hsz ?_;exact afl ⟨rfl,segs',r2,by lia⟩
   refine ifn hsz ?_;refine afc (gh hO va r2 ?_ fun segs5 st5 r5 l5 e5=>?_)
   ·exact adb (show (pendingOf st2).size - 2 - 1+1 < _ by lia) (show (pendingOf st2).size - 2+1 < _ by lia)
   ·exact ifn (by simp) (afl ⟨rfl,segs5,r5,.inl (by lia)⟩)
  ·rintro c st2 ⟨rfl,segs',r2,alt⟩;refine⟨rfl,segs',r2,?_⟩;rw [Nat.max_eq_right (afe _)] at alt;lia
  ·rintro c st2 ⟨rfl,segs',r2,l2⟩;refine afl (h st2 r2.perm r2.failed ?_);rw [r2.arr,afO]
   match segs',l2,r2 with
   | [],_,_=>exact List.Pairwise.nil
   | [g],_,r2=>rw [ag2];exact (r2.sl g ae0).1
end
section
variable {prog:Program}{w:World}{A:Around}{E:Value->Shared->Prop}{s:Shared}
end
end TS
namespace L2
open PySem PySem.Spec PyProof.Rows
section
variable {X:Cx}
end
end L2
namespace K7
open PySem L2 PyProof.Rows
theorem uy (i:Nat)(ns:List Nat):inV (.int i) (intsN ns)=decide (i∈ns):=by
 unfold inV intsN
 induction ns with
 | nil=>rfl
 | cons a r ih =>
  rw [afb,ahM,ih];show ((a:Int) == (i:Int) || decide (i∈r))=_;by_cases e:a=i
  ·subst e;simp
  ·have e':¬ ((a:Int)=(i:Int)):=by lia
   have e2:¬ i=a:=fun z=>e z.symm;have:((a:Int) == (i:Int))=false:=by simpa using e'
   rw [this];simp [e2]
theorem m7 (ns:List Nat):(intsN ns).all kO=true:=by
 rw [ajd,agR];intro _ _
 rfl
theorem o8 {x:Str}:∀ (l h:List Str),x∈l.foldl List.erase h->x∈h
 | [],h,e=>e
 | a::l,h,e=>ahK (o8 l _ (by rw [ah5] at e;exact e))
def aK (n:Nat)(o:List Nat):List Nat:=(List.range n).filter fun i=>!decide (i∈o)
def dH (h:Hs)(o:List Nat):List Rm:=(aK h.2.length o).map (bh h.2)
theorem left_mem {n i:Nat}{o:List Nat}:i∈aK n o↔i < n/\i ∉ o:=by
 unfold aK;simp
theorem nJ (n:Nat)(o:List Nat):(aK n o).Nodup:=aiH _ ag3
theorem pN (n:Nat):aK n []=List.range n:=by
 unfold aK;exact agX.mpr fun i _=>by simp
theorem ju (n i:Nat)(o:List Nat):aK n (o++[i])=(aK n o).filter fun m=>decide (m≠i):=by
 unfold aK;rw [ahD];congr 1;funext m;by_cases a:m∈o<;>by_cases b:m=i<;>simp [a,b]
theorem xM (n:Nat)(o:List Nat):(aK n o).length<=n:=by
 have:=af8 (fun i=>!decide (i∈o)) (List.range n);rw [afz] at this;exact this
theorem jI {h:Hs}{o:List Nat}{r:Rm}(hr:r∈dH h o):r∈h.2:=by
 obtain⟨i,hi,rfl⟩:=ae4.mp hr;exact bx (left_mem.mp hi).1
theorem oN {rs:List Rm}(pl:Plain rs){i:Nat}(hi:i < rs.length)(hd:List Str):kL hd (bh rs i)=fo rs hd i:=by
 unfold kL fo;rw [pl _ (bx hi)]
 rfl
theorem dF {h:Hs}(pl:Plain h.2){o:List Nat}{i:Nat}(hi:i < h.2.length):aE h.1 h.2 (o++[i])=fo h.2 (aE h.1 h.2 o) i:=by
 rw [nY];exact oN pl hi _
theorem Gone.snoc {ks:List Str}{rs:List Rm}{o:List Nat}{i:Nat}(g:Gone ks rs o)(a:i < rs.length)(b:i ∉ o)(c:mF (aE ks rs o) (bh rs i).1=true):Gone ks rs (o++[i]):=by
 intro j k e;by_cases hj:j < o.length
 ·rw [agt hj] at e;rw [ahw (by lia)];exact g j k e
 ·have hj':j < (o++[i]).length:=(aeU.mp e).1;rw [aeR,afT] at hj';have ej:j=o.length:=by lia
  subst ej;rw [afF (ae1 _),ahH] at e;cases e;rw [akn]
  ·exact⟨a,b,c⟩
  ·rfl
theorem Gone.pre {ks:List Str}{rs:List Rm}{o:List Nat}(g:Gone ks rs o)(n:Nat):Gone ks rs (o.take n):=by
 intro j k e;rw [List.getElem?_take] at e;split at e
 ·rename_i h;rw [ain,agi (by lia)];exact g j k e
 ·cases e
theorem Gone.init {ks:List Str}{rs:List Rm}{o:List Nat}{i:Nat}(g:Gone ks rs (o++[i])):Gone ks rs o/\i < rs.length/\i ∉ o/\mF (aE ks rs o) (bh rs i).1=true:=by
 have a:=g.pre o.length;rw [akn] at a
 ·have b:=g o.length i (by rw [afF (ae1 _),ahH];rfl);rw [akn rfl] at b;exact⟨a,b⟩
 ·rfl
theorem jl {M:List Nat->Prop}(h0:M [])(h1:∀ o i,M o->M (o++[i])):∀ o,M o:=fun o=>by
 have:∀ r:List Nat,M r.reverse:=fun r=>by
  induction r with
  | nil=>exact h0
  | cons i r ih=>rw [ajw];exact h1 _ _ ih
 have z:=this o.reverse
 rwa [List.reverse_reverse] at z
theorem aau {h:Hs}(pl:Plain h.2):∀ o,Gone h.1 h.2 o->(aE h.1 h.2 o).length+((dH h o).flatMap (·.2)).length<=(a7 h).length:=by
 refine jl ?_ ?_
 ·intro _;unfold dH a7;rw [pN,dj,aeR];exact ae1 _
 ·intro o i ih g;obtain⟨g0,hi,no,may⟩:=g.init;have:=ih g0;have f:=uA (rs:=h.2) (left:=aK h.2.length o) (left_mem.mpr ⟨hi,no⟩);unfold dH at this ⊢;rw [ju,dF pl hi];unfold fo;rw [aeR];have e:=aiF (a:=aw (bh h.2 i)) (l:=aE h.1 h.2 o);simp only at f;lia
theorem zR {h:Hs}{x:Str}:∀ o,(∀ i∈o,i < h.2.length)->x∈aE h.1 h.2 o->x∈a7 h:=by
 refine jl (M:=fun o=>(∀ i∈o,i < h.2.length)->x∈aE h.1 h.2 o->x∈a7 h) ?_ ?_
 ·intro _ hx;exact aff _ hx
 ·intro o i ih hl hx;rw [nY] at hx;unfold kL at hx;rcases aeT.mp hx with q | q
  ·exact ih (fun j hj=>hl j (aff _ hj)) (o8 _ _ q)
  ·exact aeW _ (afM.mpr ⟨bh h.2 i,bx (hl i (aeW _ ae0)),q⟩)
theorem Gone.lt {ks:List Str}{rs:List Rm}{o:List Nat}(g:Gone ks rs o):∀ i∈o,i < rs.length:=fun i hi=>by
 obtain⟨j,hj,e⟩:=agb.mp hi;exact (g j i (by rw [aeO hj,e])).1
theorem aaN {h:Hs}(x:HouseD h){o:List Nat}(g:Gone h.1 h.2 o){hd:List Str}(p:hd.Perm (aE h.1 h.2 o)):HouseD (hd,dH h o):=by
 have pl:=b5 x;have rl:=aau pl o g;have nk:=x.nk;have ll:(dH h o).length<=h.2.length:=by unfold dH;rw [aeP];exact xM _ _
 have xr:=x.rl;have hk:∀ k∈hd,k∈a7 h:=fun k hk=>zR o g.lt (p.mem_iff.mp hk);have akk:∀ k∈a7 h,bD k:=fun k hk=>by
  rcases aeT.mp hk with q | q
  ·exact x.ok.kk k q
  ·obtain⟨r,hr,hk⟩:=afM.mp q;exact (x.ok.rs r hr).kk k hk
 have lh:=p.length_eq;have lk:∀ rs:List Rm,(∀ r∈rs,∃ k,r.1=[k])->(rs.flatMap (·.1)).length=rs.length:=fun rs=>by
  induction rs with
  | nil=>intro _;rfl
  | cons a t ih =>
   intro h;obtain⟨k,e⟩:=h a ae0;rw [agd,aeR,ih fun r hr=>h r (ae6 _ hr),e];simp;lia
 have plr:∀ r∈dH h o,∃ k,r.1=[k]:=fun r hr=>x.pl r (jI hr);refine⟨⟨fun k hk'=>akk k (hk k hk'),?_,fun r hr=>x.ok.rs r (jI hr),?_⟩,?_,?_,?_,plr,?_⟩
 ·show hd.length<=1000;lia
 ·show (dH h o).length<=1000;lia
 ·obtain⟨U,a,b⟩:=x.few;refine⟨U,a,fun y hy=>b y ?_⟩;rcases hy with q | q
  ·left;rcases aeT.mp q with q | q
   ·exact hk y q
   ·obtain⟨r,hr,hy⟩:=afM.mp q;exact aeW _ (afM.mpr ⟨r,jI hr,hy⟩)
  ·right;obtain⟨r,hr,hy⟩:=afM.mp q;exact afM.mpr ⟨r,jI hr,hy⟩
 ·show (hd++(dH h o).flatMap (·.2)).length<=1000;rw [aeR];lia
 ·show ((dH h o).flatMap (·.1)).length<=1000;rw [lk _ plr];lia
 ·show (dH h o).length<=_;lia
theorem vB {h:Hs}(x:HouseD h):iI h.1 h.2↔(∀ k,¬ FewK h k)/\∀ r∈h.2,Com h.1 h.2 (aw r):=by
 have e:∀ k,¬ FewK h k↔(h.2.map aw).count k<=(h.1++h.2.flatMap (·.2)).count k:=fun k=>by
  unfold FewK;rw [pD x];exact Nat.not_lt
 exact⟨fun f=>⟨fun k=>(e k).mpr (f.cnt k),f.com⟩,fun ⟨a,b⟩=>⟨fun k=>(e k).mp (a k),b⟩⟩
theorem uP {h:Hs}{ss:List Str}(s:abh h ss):ss=[]↔∀ r∈h.2,Com h.1 h.2 (aw r):=by
 constructor
 ·intro e r hr;apply afN;intro n;have:=(s.mem (aw r)).mpr ⟨⟨r,hr,rfl⟩,n⟩;rw [e] at this;cases this
 ·intro a;cases ss with
  | nil=>rfl
  | cons x t =>
   obtain⟨⟨r,hr,e⟩,n⟩:=(s.mem x).mp ae0;exact absurd (e▸a r hr) n
theorem abI {ks ks':List Str}{rs:List Rm}(h:∀ x∈ks,x∈ks'){x:Str}(c:Com ks rs x):Com ks' rs x:=by
 induction c with
 | key h1=>exact .key (h _ h1)
 | room h1 _ h3 ih=>exact .room h1 ih h3
theorem qz {hand hand':List Str}{rs:List Rm}(p:hand.Perm hand')(f:iI hand rs):iI hand' rs :=
 ⟨fun k=>by have:=f.cnt k;rw [afR] at this ⊢;rw [← p.count_eq];exact this,fun r hr=>abI (fun x hx=>p.mem_iff.mp hx) (f.com r hr)⟩
theorem ze {rs:List Rm}(pl:Plain rs){hand:List Str}{left o:List Nat}(g:Greedy rs hand left o):LeftD rs left->iI hand (left.map (bh rs))->∀ n,n<=o.length →
 Greedy rs (aE hand rs (o.take n)) (left.filter fun m=>!decide (m∈o.take n)) (o.drop n)/\iI (aE hand rs (o.take n)) ((left.filter fun m=>!decide (m∈o.take n)).map (bh rs)):=by
 induction g with
 | nil =>
  intro _ f n hn;have:n=0:=by simpa using hn
  subst this;exact⟨.nil,f⟩
 | @cons hand A B o k h1 h2 g ih =>
  intro ld f n hn;cases n with
  | zero =>
   have e:(A++k::B).filter (fun m=>!decide (m∈(k::o).take 0))=A++k::B:=agX.mpr fun i _=>by simp
   rw [e];exact⟨.cons h1 h2 g,f⟩
  | succ n =>
   have hk:=ld.lt k (aeW _ ae0);have ld':LeftD rs (A++B):=⟨by have:=dS ld.nd;rw [← this];exact ld.nd.filter _,fun m hm=>ld.lt m (by
    rcases aeT.mp hm with q | q
    ·exact aff _ q
    ·exact aeW _ (ae6 _ q))⟩
   obtain⟨a,b⟩:=ih ld' (qJ ld.nd f h2) n (by simpa using hn);have e1:aE hand rs ((k::o).take (n+1))=aE (fo rs hand k) rs (o.take n):=by
    rw [List.take_succ_cons];show aE (kL hand (bh rs k)) rs (o.take n)=_;rw [oN pl hk]
   have e2:(A++k::B).filter (fun m=>!decide (m∈(k::o).take (n+1)))=(A++B).filter fun m=>!decide (m∈o.take n):=by
    rw [← dS ld.nd,ahD,List.take_succ_cons];congr 1;funext m;by_cases x:m=k<;>by_cases y:m∈o.take n<;>simp [x,y]
   rw [e1,e2,List.drop_succ_cons];exact⟨a,b⟩
section
variable {h:Hs}{o:List Nat}
theorem qa (x:HouseD h)(f:iI h.1 h.2)(g:Greedy h.2 h.1 (List.range h.2.length) o){n:Nat}(hn:n<=o.length):Greedy h.2 (aE h.1 h.2 (o.take n)) (aK h.2.length (o.take n)) (o.drop n)/\iI (aE h.1 h.2 (o.take n)) (dH h (o.take n)) :=
 ze (b5 x) g ⟨ag3,fun m hm=>afZ.mp hm⟩ (by rw [dj];exact f) n hn
theorem n4 (g:Greedy h.2 h.1 (List.range h.2.length) o):o.length=h.2.length:=by rw [g.perm.length_eq,afz]
theorem nj {rs:List Rm}{hand:List Str}{left o:List Nat}{n:Nat}(g:Greedy rs hand left (n::o)):∃ A B,left=A++n::B/\(∀ m∈A,¬ fE rs hand left m)/\fE rs hand left n:=by
 generalize e:n::o=l at g;cases g with
 | nil=>cases e
 | cons h1 h2 g=>cases e;exact⟨_,_,rfl,h1,h2⟩
theorem vR (x:HouseD h)(f:iI h.1 h.2)(g:Greedy h.2 h.1 (List.range h.2.length) o):Gone h.1 h.2 o:=by
 intro j i e;have hj:j < o.length:=(aeU.mp e).1;obtain⟨a,_⟩:=qa x f g (afo hj);rw [afU hj] at a;have ei:o[j]=i:=by rw [aeO hj] at e;exact afW e
 rw [ei] at a;obtain⟨A,B,el,_,s⟩:=nj a;have im:i∈aK h.2.length (o.take j):=by rw [el];exact aeW _ ae0
 obtain⟨i1,i2⟩:=left_mem.mp im;refine⟨i1,i2,?_⟩;have:(bh h.2 i).1=[aw (bh h.2 i)]:=b5 x _ (bx i1);show mF _ (bh h.2 i).1=true;rw [this];exact (gb _ _).mpr s.1
theorem next_mem {rs:List Rm}{hand:List Str}{o:List Nat}{i:Nat}:i∈rE rs hand o↔i < rs.length/\i ∉ o/\mF hand (bh rs i).1=true:=by
 unfold rE;simp only [agh,afZ,afV,ahf,ahr];exact Iff.rfl
end
theorem wZ {hand:List Str}{A B:List Rm}{r:Rm}(pr:r.1=[aw r])(lk:aw r∈hand)(f:iI (hand.erase (aw r)++r.2) (A++B)):iI hand (A++r::B):=by
 refine⟨fun k=>?_,fun q hq=>?_⟩
 ·have h1:=f.cnt k;have h2:(hand.erase (aw r)).count k=hand.count k - if aw r=k then 1 else 0:=by
   rw [aiu];simp only [afu]
  have h3:0 < hand.count (aw r):=af9.mpr lk;simp only [ae2,afb,afY,agd,afR,ahG,afu] at h1 ⊢;rw [h2] at h1;by_cases z:aw r=k
  ·rw [if_pos z] at h1 ⊢;rw [z] at h3;lia
  ·rw [if_neg z] at h1 ⊢;lia
 ·have rm:r∈A++r::B:=aeW _ ae0;have up:∀ {x},Com (hand.erase (aw r)++r.2) (A++B) x->Com hand (A++r::B) x:=fun {x} c=>by
   induction c with
   | key h =>
    rcases aeT.mp h with y | y
    ·exact .key (ahK y)
    ·exact .room rm (fun z hz=>by rw [pr] at hz;rw [aeS.mp hz];exact .key lk) y
   | room h1 _ h3 ih=>exact .room (mem_mid.mpr (.inr h1)) ih h3
  rcases mem_mid.mp hq with e | e
  ·rw [e];exact .key lk
  ·exact up (f.com q e)
theorem mW {ks:List Str}{rs:List Rm}:∀ o,Gone ks rs o->o.Nodup:=by
 refine jl (M:=fun o=>Gone ks rs o->o.Nodup) (fun _=>.nil) fun o i ih g=>?_;obtain⟨g0,_,no,_⟩:=g.init;rw [af3];exact⟨ih g0,by simp,fun a ha b hb=>by rw [aeS.mp hb];exact fun e=>no (e▸ha)⟩
theorem yt {ks:List Str}{rs:List Rm}{o:List Nat}(g:Gone ks rs o)(e:o.length=rs.length):aK rs.length o=[]:=by
 apply List.eq_nil_iff_forall_not_mem.mpr;intro i hi;obtain⟨a,b⟩:=left_mem.mp hi;have:=aB (U:=List.range rs.length) (l:=i::o) (afG.mpr ⟨b,mW o g⟩) fun x hx=>by
  rcases ae7.mp hx with z | z
  ·rw [z];exact afZ.mpr a
  ·exact afZ.mpr (g.lt x z)
 rw [afz,afr] at this;lia
theorem yo {n:Nat}{o:List Nat}(e:o.length < n):aK n o≠[]:=fun z=>by
 have:=aB (U:=o) (l:=List.range n) ag3 fun x hx=>by
  apply afN;intro nx;have:=left_mem.mpr ⟨afZ.mp hx,nx⟩;rw [z] at this;cases this
 rw [afz] at this;lia
theorem wY {ks:List Str}{rs:List Rm}{o:List Nat}(g:Gone ks rs o):o.length<=rs.length:=by
 have:=aB (U:=List.range rs.length) (mW o g) fun x hx=>afZ.mpr (g.lt x hx)
 rwa [afz] at this
section
variable {h:Hs}{o:List Nat}
abbrev Can (h:Hs)(o:List Nat):Prop:=iI (aE h.1 h.2 o) (dH h o)
theorem pK (x:HouseD h){i:Nat}(hi:i < h.2.length):(bh h.2 i).1=[aw (bh h.2 i)]:=b5 x _ (bx hi)
theorem acd (x:HouseD h):Plain (dH h o):=(b5 x).sub fun r hr=>jI hr
theorem yb {n i:Nat}(hi:i∈aK n o):∃ A B,aK n o=A++i::B/\aK n (o++[i])=A++B:=by
 obtain⟨A,B,e⟩:=aic hi;refine⟨A,B,e,?_⟩;rw [ju,e];exact dS (e▸nJ n o)
theorem zy (x:HouseD h)(f:Can h o)(ne:aK h.2.length o≠[]):∃ i∈rE h.2 (aE h.1 h.2 o) o,Can h (o++[i]):=by
 obtain⟨i,hi,s⟩:=zc (rs:=h.2) (acd x) (nJ _ _) f ne;obtain⟨a,b⟩:=left_mem.mp hi;refine⟨i,next_mem.mpr ⟨a,b,?_⟩,?_⟩
 ·rw [pK x a];exact (gb _ _).mpr s.1
 ·obtain⟨A,B,e1,e2⟩:=yb hi;have nd:=nJ h.2.length o;unfold Can dH at *;rw [e1] at f s nd;rw [dF (b5 x) a,e2];exact qJ nd f s
theorem zN (x:HouseD h){i:Nat}(hi:i∈rE h.2 (aE h.1 h.2 o) o)(f:Can h (o++[i])):Can h o:=by
 obtain⟨a,b,c⟩:=next_mem.mp hi;obtain⟨A,B,e1,e2⟩:=yb (left_mem.mpr ⟨a,b⟩);rw [pK x a] at c;have lk:=(gb _ _).mp c;unfold Can dH at *;rw [dF (b5 x) a,e2,ae2] at f;rw [e1,ae2,afb];exact wZ (pK x a) lk f
theorem abu (e:aK h.2.length o=[]):Can h o:=by
 unfold Can dH;rw [e];exact⟨fun k=>afe _,fun r hr=>nomatch hr⟩
theorem jX (x:HouseD h)(k:Str):∀ o,Gone h.1 h.2 o->(aE h.1 h.2 o).count k+(o.map fun i=>aw (bh h.2 i)).count k=h.1.count k+(o.flatMap fun i=>(bh h.2 i).2).count k:=by
 refine jl ?_ ?_
 ·intro _;rfl
 ·intro o i ih g;obtain⟨g0,hi,_,may⟩:=g.init;have:=ih g0;rw [pK x hi] at may;have lk:=af9.mpr ((gb _ _).mp may);rw [dF (b5 x) hi];unfold fo;rw [ae2,afY,afR,afR,afR,aiu];simp only [afb,aio,agd,aiw,afO,ahG,List.count_nil,afu];by_cases z:aw (bh h.2 i)=k
  ·rw [z] at lk ⊢;simp only [ahy];lia
  ·have z':¬ k=aw (bh h.2 i):=fun e=>z e.symm;simp only [z,z',agF];lia
theorem qZ (x:HouseD h){o':List Nat}(g:Gone h.1 h.2 o)(g':Gone h.1 h.2 o')(p:o'.Perm o):(aE h.1 h.2 o').Perm (aE h.1 h.2 o):=by
 rw [List.perm_iff_count];intro k;have a:=jX x k o g;have b:=jX x k o' g';have c:=(p.map fun i=>aw (bh h.2 i)).count_eq k;have d:=(p.flatMap_right fun i=>(bh h.2 i).2).count_eq k;lia
theorem yX {n:Nat}{o':List Nat}(p:o'.Perm o):aK n o'=aK n o:=by
 unfold aK;apply List.filter_congr;intro i _;rw [show decide (i∈o')=decide (i∈o) from aix.mpr p.mem_iff]
theorem zU (x:HouseD h){o':List Nat}(g:Gone h.1 h.2 o)(g':Gone h.1 h.2 o')(p:o'.Perm o):Can h o'↔Can h o:=by
 have e:dH h o'=dH h o:=by unfold dH;rw [yX p]
 unfold Can;rw [e];exact⟨qz (qZ x g g' p),qz (qZ x g g' p).symm⟩
end
abbrev Asc (S:List Nat):Prop:=S.Pairwise (· < ·)
theorem tL:∀ {S T:List Nat},Asc S->Asc T->S.Perm T->S=T
 | [],T,_,_,p=>(List.nil_perm.mp p).symm
 | x::S,[],_,_,p=>absurd p.length_eq (by simp)
 | x::S,y::T,a,b,p=>by
  replace a:=afP.mp a;replace b:=afP.mp b;have e:x=y:=by
   have h1:x∈y::T:=p.mem_iff.mp (by simp);have h2:y∈x::S:=p.mem_iff.mpr (by simp);rcases ae7.mp h1 with h1 | h1
   ·exact h1
   rcases ae7.mp h2 with h2 | h2
   ·exact h2.symm
   have:=a.1 y h2;have:=b.1 x h1;lia
  subst e;rw [tL a.2 b.2 p.cons_inv]
def mT:Nat->List (List Nat)
 | 0=>[[]]
 | n+1=>mT n++(mT n).map (·++[n])
theorem oE:∀ n,(mT n).length=2 ^ n
 | 0=>rfl
 | n+1=>by
  rw [mT,aeR,aeP,oE n,Nat.pow_succ];lia
theorem j5:∀ (n:Nat) (S:List Nat),Asc S->(∀ i∈S,i < n)->S∈mT n
 | 0,S,_,l=>by
  cases S with
  | nil=>simp [mT]
  | cons x S=>exact absurd (l x (by simp)) (by lia)
 | n+1,S,a,l=>by
  rw [mT,aeT];by_cases hn:n∈S
  ·refine .inr (ae4.mpr ?_);obtain⟨A,B,e⟩:=aic hn;subst e;have hB:B=[]:=by
    cases B with
    | nil=>rfl
    | cons b B =>
     have h1:=(afC.mp a).2.1;rw [afP] at h1;have:=h1.1 b (by simp);have:=l b (by simp);lia
   subst hB;refine⟨A,j5 n A (afC.mp a).1 fun i hi=>?_,rfl⟩;exact (afC.mp a).2.2 i hi n (by simp)
  ·exact .inl (j5 n S a fun i hi=>by
    have:=l i hi;have:i≠n:=fun z=>hn (z▸hi);lia)
theorem aci {n:Nat}{Es:List (List Nat)}(nd:Es.Nodup)(h:∀ S∈Es,Asc S/\∀ i∈S,i < n):Es.length<=2 ^ n:=by
 rw [← oE n];exact aB nd fun S hS=>j5 n S (h S hS).1 (h S hS).2
def RchS (h:Hs)(S:List Nat):Prop:=Asc S/\∃ o,Gone h.1 h.2 o/\o.Perm S
def ph (h:Hs)(S:List Nat):List Str:=h.1++S.flatMap fun i=>(bh h.2 i).2
def ck (h:Hs)(S:List Nat):List Str:=S.map fun i=>aw (bh h.2 i)
def kR (h:Hs)(S:List Nat):List Str:=(ck h S).foldl List.erase (ph h S)
def Nxt (h:Hs)(S:List Nat)(i:Nat):Prop:=i < h.2.length/\i ∉ S/\mF (kR h S) (bh h.2 i).1=true
def Ins (S:List Nat)(i:Nat)(T:List Nat):Prop:=T.Perm (S++[i])/\Asc T
section
variable {h:Hs}{S T:List Nat}{o:List Nat}{i:Nat}
theorem abQ:RchS h []:=⟨.nil,[],(fun j i e=>by simp at e),.refl _⟩
theorem RchS.lt (r:RchS h S):∀ i∈S,i < h.2.length:=fun i hi=>by
 obtain⟨_,o,g,p⟩:=r;exact g.lt i (p.mem_iff.mpr hi)
theorem RchS.len (r:RchS h S):S.length<=h.2.length:=by
 obtain⟨_,o,g,p⟩:=r;rw [← p.length_eq];exact wY g
theorem lx (x:HouseD h)(g:Gone h.1 h.2 o)(p:o.Perm S)(k:Str):(aE h.1 h.2 o).count k+(ck h S).count k=(ph h S).count k:=by
 have e:=jX x k o g;unfold ck ph;rw [afR,← (p.map fun i=>aw (bh h.2 i)).count_eq,← (p.flatMap_right fun i=>(bh h.2 i).2).count_eq];lia
theorem wH (x:HouseD h)(g:Gone h.1 h.2 o)(p:o.Perm S):(kR h S).Perm (aE h.1 h.2 o):=by
 rw [List.perm_iff_count];intro k;have:=lx x g p k;unfold kR;rw [eW];lia
theorem acr (x:HouseD h)(r:RchS h S){j:Nat}(hj:j < S.length):aw (bh h.2 S[j])∈((ck h S).take j).foldl List.erase (ph h S):=by
 obtain⟨_,o,g,p⟩:=r;have e:=lx x g p (aw (bh h.2 S[j]));have hj':j < (ck h S).length:=by unfold ck;rw [aeP];exact hj
 have ej:(ck h S)[j]=aw (bh h.2 S[j]):=by simp only [ck,List.getElem_map]
 have h1:((ck h S).take (j+1)).count (aw (bh h.2 S[j]))=((ck h S).take j).count (aw (bh h.2 S[j]))+1:=by
  rw [afk,aeO hj',ej,aie,afR];simp
 have h2:=(ajn (j+1) (ck h S)).count_le (aw (bh h.2 S[j]));rw [← af9,eW];lia
theorem aai {a b:List Str}(p:a.Perm b)(l:List Str):mF a l=mF b l:=by
 unfold mF;congr 1;funext x;rw [p.count_eq]
theorem k6 (x:HouseD h)(g:Gone h.1 h.2 o)(p:o.Perm S):Nxt h S i↔i∈rE h.2 (aE h.1 h.2 o) o:=by
 rw [next_mem];unfold Nxt;rw [aai (wH x g p),p.mem_iff]
theorem zJ (x:HouseD h)(r:RchS h S)(n:Nxt h S i)(s:Ins S i T):RchS h T:=by
 obtain⟨_,o,g,p⟩:=r;obtain⟨a,b,c⟩:=next_mem.mp ((k6 x g p).mp n);exact⟨s.2,o++[i],g.snoc a b c,(p.append_right [i]).trans s.1.symm⟩
def abg (h:Hs)(S:List Nat):Prop:=∃ o,Gone h.1 h.2 o/\o.Perm S/\Can h o
theorem kT (x:HouseD h)(g:Gone h.1 h.2 o)(p:o.Perm S):abg h S↔Can h o :=
 ⟨fun ⟨o',g',p',c⟩=>(zU x g g' (p'.trans p.symm)).mp c,fun c=>⟨o,g,p,c⟩⟩
theorem yr (s:Ins S i T):T.length=S.length+1:=by
 rw [s.1.length_eq,aeR]
 rfl
theorem y4 (x:HouseD h)(r:RchS h S):abg h S↔(S.length=h.2.length\/∃ i T,Nxt h S i/\Ins S i T/\abg h T):=by
 obtain⟨asc,o,g,p⟩:=id r;rw [kT x g p];constructor
 ·intro c;by_cases e:aK h.2.length o=[]
  ·left;have h1:=wY g;rw [← p.length_eq];apply afN;intro z;exact yo (n:=h.2.length) (o:=o) (by lia) e
  ·right;obtain⟨i,hi,ci⟩:=zy x c e;obtain⟨a,b,d⟩:=next_mem.mp hi;have g2:=g.snoc a b d;have ex:∃ T:List Nat,T.Perm (S++[i])/\Asc T:=by
    refine⟨(List.range h.2.length).filter fun j=>decide (j∈S++[i]),?_,aiH _ List.pairwise_lt_range⟩;have nd:(S++[i]).Nodup:=((p.append_right [i]).nodup_iff).mp (mW _ g2);rw [ajc (aiH _ ag3) nd];intro j;rw [agh,afZ,ago];refine⟨fun z=>z.2,fun z=>⟨g2.lt j ((p.append_right [i]).mem_iff.mpr z),z⟩⟩
   obtain⟨T,t1,t2⟩:=ex;exact⟨i,T,(k6 x g p).mpr hi,⟨t1,t2⟩,o++[i],g2,(p.append_right [i]).trans t1.symm,ci⟩
 ·rintro (e | ⟨i,T,n,s,c⟩)
  ·exact abu (yt g (by rw [p.length_eq];exact e))
  ·have hi:=(k6 x g p).mp n;obtain⟨a,b,d⟩:=next_mem.mp hi;have g2:=g.snoc a b d;exact zN x hi ((kT x g2 ((p.append_right [i]).trans s.1.symm)).mp c)
theorem abt {T':List Nat}(s:Ins S i T)(s':Ins S i T'):T=T':=tL s.2 s'.2 (s.1.trans s'.1.symm)
theorem acy {Es:List (List Nat)}(x:HouseD h)(h0:([]:List Nat)∈Es)(hs:∀ S∈Es,∀ i,Nxt h S i->∃ T∈Es,Ins S i T)(hr:∀ S∈Es,RchS h S):∀ o,Gone h.1 h.2 o->∃ S∈Es,o.Perm S:=by
 refine jl (fun _=>⟨[],h0,.refl _⟩) fun o i ih g=>?_;obtain⟨g1,a,b,c⟩:=g.init;obtain⟨S,hS,p⟩:=ih g1;obtain⟨T,hT,s⟩:=hs S hS i ((k6 x g1 p).mpr (next_mem.mpr ⟨a,b,c⟩));exact⟨T,hT,(p.append_right [i]).trans s.1.symm⟩
end
section
variable {h:Hs}{o og:List Nat}
theorem rO {rs:List Rm}(pl:Plain rs):∀ (n:Nat) (hand:List Str) (left:List Nat),left.length=n->LeftD rs left->iI hand (left.map (bh rs))->∃ o,Greedy rs hand left o
 | 0,hand,left,e,_,_=>by
  rw [af6.mp e];exact⟨[],.nil⟩
 | n+1,hand,left,e,ld,f=>by
  have ne:left≠[]:=fun z=>by rw [z] at e;cases e
  have pln:Plain (left.map (bh rs)):=pl.sub fun rm hrm=>by
   obtain⟨n,hn,rfl⟩:=ae4.mp hrm;exact bx (ld.lt n hn)
  have hs:∃ A n B,left=A++n::B/\(∀ m∈A,¬ fE rs hand left m)/\fE rs hand left n:=by
   obtain⟨n0,hn0,s0⟩:=zc pln ld.nd f ne;have go:∀ (L A:List Nat),left=A++L->(∀ m∈A,¬ fE rs hand left m)->n0∈L->∃ A n B,left=A++n::B/\(∀ m∈A,¬ fE rs hand left m)/\fE rs hand left n:=fun L=>by
    induction L with
    | nil=>intro A _ _ z;exact nomatch z
    | cons x L ih =>
     intro A e no hin;by_cases sx:fE rs hand left x
     ·exact⟨A,x,L,e,no,sx⟩
     ·refine ih (A++[x]) (by rw [e];simp) (fun m hm=>?_) ?_
      ·rcases aeT.mp hm with z | z
       ·exact no m z
       ·rw [aeS.mp z];exact sx
      ·rcases ae7.mp hin with z | z
       ·exact absurd (z▸s0) sx
       ·exact z
   exact go left [] rfl (fun m hm=>nomatch hm) hn0
  obtain⟨A,k,B,rfl,no,s⟩:=hs;have ld':LeftD rs (A++B):=⟨by have:=dS ld.nd;rw [← this];exact ld.nd.filter _,fun m hm=>ld.lt m (by
   rcases aeT.mp hm with q | q
   ·exact aff _ q
   ·exact aeW _ (ae6 _ q))⟩
  obtain⟨o,g⟩:=rO pl n (fo rs hand k) (A++B) (by rw [aeR,afr] at e;rw [aeR];lia) ld' (qJ ld.nd f s);exact⟨k::o,.cons no s g⟩
theorem vo (x:HouseD h)(f:iI h.1 h.2):∃ o,Greedy h.2 h.1 (List.range h.2.length) o :=
 rO (b5 x) _ h.1 (List.range h.2.length) rfl ⟨ag3,fun m hm=>afZ.mp hm⟩ (by rw [dj];exact f)
theorem vf (x:HouseD h)(c:Can h o){i:Nat}(hi:i∈aK h.2.length o):fE h.2 (aE h.1 h.2 o) (aK h.2.length o) i↔aw (bh h.2 i)∈aE h.1 h.2 o/\Can h (o++[i]):=by
 have hl:=(left_mem.mp hi).1;constructor
 ·intro s;refine⟨s.1,?_⟩;obtain⟨A,B,e1,e2⟩:=yb hi;unfold Can dH at c ⊢;rw [e2,dF (b5 x) hl];rw [e1] at c s;have nd:=nJ h.2.length o;rw [e1] at nd;exact qJ nd c s
 ·rintro⟨a,b⟩;refine⟨a,fun m hm=>?_⟩;unfold Can dH at b;rw [ju,dF (b5 x) hl] at b;exact b.com _ (List.mem_map_of_mem hm)
structure adJ (h:Hs)(og:List Nat)(n:Nat):Prop where
 gone:Gone h.1 h.2 (og.take n)
 can:Can h (og.take n)
theorem kZ (x:HouseD h)(f:iI h.1 h.2)(g:Greedy h.2 h.1 (List.range h.2.length) og){n:Nat}(hn:n<=og.length):adJ h og n :=
 ⟨(vR x f g).pre n,(qa x f g hn).2⟩
theorem oF (x:HouseD h)(f:iI h.1 h.2)(g:Greedy h.2 h.1 (List.range h.2.length) og){n:Nat}(hn:n < og.length) :
 ∃ A B,aK h.2.length (og.take n)=A++og[n]::B/\(∀ m∈A,¬ (aw (bh h.2 m)∈aE h.1 h.2 (og.take n)/\Can h (og.take n++[m])))/\aw (bh h.2 og[n])∈aE h.1 h.2 (og.take n)/\Can h (og.take n++[og[n]]):=by
 obtain⟨a,_⟩:=qa x f g (afo hn);rw [afU hn] at a;obtain⟨A,B,e,no,s⟩:=nj a;have c:=(kZ x f g (afo hn)).can;have im:og[n]∈aK h.2.length (og.take n):=by rw [e];exact aeW _ ae0
 refine⟨A,B,e,fun m hm z=>no m hm ((vf x c ?_).mpr z),(vf x c im).mp s⟩;rw [e];exact aff _ hm
theorem qB {n:Nat}(hn:n < og.length):og.take (n+1)=og.take n++[og[n]]:=by
 rw [afk,aeO hn]
 rfl
theorem eZ {n:Nat}(hn:n<=og.length):(og.take n).length=n:=by rw [afn,agi hn]
theorem zk {n:Nat}{o:List Nat}(nd:o.Nodup)(lt:∀ i∈o,i < n):(aK n o).length+o.length=n:=by
 have p:((aK n o)++o).Perm (List.range n):=by
  rw [ajc (af3.mpr ⟨nJ n o,nd,fun a ha b hb e=>(left_mem.mp ha).2 (e▸hb)⟩) ag3];intro i;rw [aeT,left_mem,afZ];by_cases z:i∈o
  ·exact⟨fun _=>lt i z,fun _=>.inr z⟩
  ·exact⟨fun y=>y.elim (·.1) fun y=>absurd y z,fun y=>.inl ⟨y,z⟩⟩
 have:=p.length_eq
 rwa [aeR,afz] at this
end
def xE:Sp:=fun vs H Q _=>∃ (v:V) (h:Hs),vs=[v]/\HouseAt H v h/\HouseD h/\∀ (b:Bool) (H':Hp),Same H H'->(b=true↔iI h.1 h.2)->Q (.bl b) H'
def qg:Sp:=fun vs H Q _=>∃ (v:V) (h:Hs),vs=[v]/\HouseAt H v h/\HouseD h/\(¬ iI h.1 h.2->∀ H',Same H H'->Q .non H')/\(iI h.1 h.2->∀ (l:Addr) (o:List Nat) (H':Hp),H l=none->Same H H'->H' l=some (.lst (intsN o))->Greedy h.2 h.1 (List.range h.2.length) o->Q (.ref l) H')
theorem adl {h:Hs}(hD:HouseD h):sI h=true:=by
 unfold sI;rw [agR];intro r hr;obtain⟨k,e⟩:=hD.pl r hr;rw [e]
 rfl
section
variable {P:Program}{w:World}{K:PySem.W.Frag}{mg:Str->Option Value}{base:Heap}
theorem lT:aJ ["house"] ["house"] (ar eB):=scM rfl rfl rfl rfl (by decide +kernel)
theorem n8:aJ ["house"] ["house"] (ar fe):=scM rfl rfl rfl rfl (by decide +kernel)
theorem aaz {f fF fS:Addr}{fd fdF fdS:FuncData}(F:Fun K "nothing_bars" "nothing_bars" eB f fd)(sZ:bF P w K mg base CX0 8 fF fdF ["house"] aaW)(iX:Cal K mg "few_paper" ["house"] fF fdF)(qQ:bF P w K mg base CX0 8 fS fdS ["house"] qh)(gU:Cal K mg "shut_kinds" ["house"] fS fdS):bF P w K mg base CX0 9 f fd ["house"] xE:=by
 refine F.ok lT (fun vs H Q E h=>?_) (fun cdv A outer s H vs Q E hr h=>?_)
 ·obtain⟨v,h,rfl,_⟩:=h
  rfl
 ·obtain⟨v,h,rfl,hh,hD,q⟩:=h;refine⟨_,(au (aQ (iJ (b7 xu (pcl sZ iX hr rfl (ae (pv 0) ai)) j9 (aM _)) (nQ (ab7 (pcl qQ gU hr rfl (ae (pv 0) ai))))))),?_⟩;have fi:=vB hD;refine⟨_,rfl,v,h,rfl,hh,hD,fun H1 s1 noF=>?_,fun t k H1 s1 ht ff=>?_⟩
  ·refine⟨rfl,true,rfl,fT ?_⟩;refine⟨_,rfl,v,h,rfl,hh.same s1,hD,fun l ss H2 nl s2 el sh=>?_⟩;refine⟨_,.inl ⟨_,aAA el,rfl⟩,?_⟩;refine q _ H2 (s1.trans s2) ?_;rw [fi,← uP sh];cases ss with
   | nil=>exact⟨fun _=>⟨noF,rfl⟩,fun _=>rfl⟩
   | cons x t=>exact⟨fun z=>by simp at z,fun ⟨_,z⟩=>by cases z⟩
  ·refine⟨rfl,false,rfl,?_⟩;exact q false H1 s1 ⟨fun z=>Bool.noConfusion z,fun z=>absurd ff.1 ((fi.mp z).1 k)⟩
theorem aaj {f fR fN fO:Addr}{fd fdR fdN fdO:FuncData}(F:Fun K "first_order" "first_order" fe f fd)(lD:bF P w K mg base CX0 8 fR fdR ["thing"] oC)(eD:Cal K mg "require_plain" ["thing"] fR fdR)(ox:bF P w K mg base CX0 9 fN fdN ["house"] xE)(fk:Cal K mg "nothing_bars" ["house"] fN fdN)
 (om:bF P w K mg base CX0 4 fO fdO ["house"] xp)(fq:Cal K mg "order_of_all" ["house"] fO fdO):bF P w K mg base CX0 10 f fd ["house"] qg:=by
 refine F.ok n8 (fun vs H Q E h=>?_) (fun cdv A outer s H vs Q E hr h=>?_)
 ·obtain⟨v,h,rfl,_⟩:=h
  rfl
 ·obtain⟨v,h,rfl,hh,hD,no,yes⟩:=h;refine⟨_,(aj (bq (pcl lD eD (hr.mono (by decide:8<=9)) rfl (ae (pv 0) ai)))
   (aj (cu (gL (fJ (pcl ox fk hr rfl (ae (pv 0) ai))))
    (au (aQ j9)) bf)
   (au (aQ (pcl om fq (hr.mono (by decide:4<=9)) rfl (ae (pv 0) ai)))))),?_⟩
  refine⟨_,rfl,v,h,rfl,hh,hD.ok,adl hD,fun H1 s1=>?_⟩;refine⟨_,rfl,v,h,rfl,hh.same s1,hD,fun b H2 s2 hb=>⟨b,rfl,?_⟩⟩;cases b with
  | false=>exact fT (no (fun z=>by have:=hb.mpr z;cases this) H2 (s1.trans s2))
  | true =>
   have ff:=hb.mp rfl;refine gz ?_;obtain⟨U,ul,um⟩:=hD.few;have pl:=b5 hD;have nk:=hD.nk;have rl:=hD.rl;unfold a7 at nk;rw [aeR] at nk;refine⟨_,rfl,v,h,U,rfl,(hh.same s1).same s2,⟨pl,fun r hr k hk=>um k (.inl (aeW _ (afM.mpr ⟨r,hr,hk⟩))),by lia,by lia,by lia⟩,fun k hk=>um k (.inl (aff _ hk)),ff,by lia,fun l o H3 nl s3 el g=>?_⟩;exact yes ff l o H3 ((s1.trans s2).free nl) ((s1.trans s2).trans s3) el g
end
end K7
namespace L2
open PySem PySem.Spec PyProof.Rows
section
variable {X:Cx}
theorem oP:di X (.builtin "len") (fun ws G R=>∃ (b:Addr) (ps:List (Key×V)),ws=[.ref b]/\G b=some (.dK ps)/\R (.int ps.length) G):=fun pins s σ G ws us R J r x=>by
 obtain⟨b,ps,rfl,hb,y⟩:=x;obtain⟨u,rfl,rfl⟩:=gZ r;exact adG J (.inl hb) fun t s2 J2=>⟨V.int ps.length,G,J2,⟨t,rfl⟩,y⟩
end
end L2
namespace K7
open PySem L2 PyProof.Rows
theorem val_iff {kvs:List (Key×V)}{k:Key}:(b9 kvs k).isSome=true↔k∈kvs.map (·.1):=by
 constructor
 ·intro h;obtain⟨v,e⟩:=ah1.mp h;exact ae4.mpr ⟨(k,v),iG e,rfl⟩
 ·intro h;obtain⟨⟨k',v⟩,hkv,ek⟩:=ae4.mp h;have ek':k'=k:=ek;subst ek';cases e:b9 kvs k' with
  | some v=>rfl
  | none =>
   unfold b9 at e;rw [aih,aje] at e;exact absurd (afv rfl) (e _ hkv)
theorem vU {α:Type}[DecidableEq α]{K0 L:List α}(nd:K0.Nodup)(sub:∀ q∈K0,q∈L)(l:L.length<=K0.length):∀ q∈L,q∈K0:=fun q hq=>afN fun z=>by
 have:=aB (l:=q::K0) (U:=L) (afG.mpr ⟨z,nd⟩) fun x hx=>by
  rcases ae7.mp hx with e | e
  ·rw [e];exact hq
  ·exact sub x e
 rw [afr] at this;lia
structure KeysC (ks:List Str)(rs:List Rm)(kvs:List (Key×V)):Prop where
 nd:(kvs.map (·.1)).Nodup
 mem:∀ q∈kvs.map (·.1),∃ x,q=Sum.inr x/\Com ks rs x
theorem KeysC.len {ks U:List Str}{rs:List Rm}{kvs:List (Key×V)}(x:KeysC ks rs kvs)(inU:∀ y,Com ks rs y->y∈U):kvs.length<=U.length:=by
 have:=aB (U:=U.map (Sum.inr:Str->Key)) x.nd fun q hq=>by
  obtain⟨y,e,h⟩:=x.mem q hq;exact ae4.mpr ⟨y,inU y h,e.symm⟩
 rw [aeP,aeP] at this;exact this
theorem KeysC.put {ks:List Str}{rs:List Rm}{kvs:List (Key×V)}(x:KeysC ks rs kvs){y:Str}(hy:Com ks rs y)(v:V):KeysC ks rs (fU kvs (Sum.inr y) v):=⟨mB x.nd _ _,fun q hq=>by
 rcases (cI kvs _ v q).mp hq with e | e
 ·exact⟨y,e,hy⟩
 ·exact x.mem q e⟩
def Done (rs:List Rm)(K0:List Key)(kvs:List (Key×V)):Prop:=∀ m∈rs,(∀ y∈m.1,Sum.inr y∈K0)->∀ x∈m.2,Sum.inr x∈kvs.map (·.1)
theorem Done.put {rs:List Rm}{K0:List Key}{kvs:List (Key×V)}(d:Done rs K0 kvs)(k:Key)(v:V):Done rs K0 (fU kvs k v):=fun m hm h x hx=>(cI kvs k v _).mpr (.inr (d m hm h x hx))
def xU:Sp:=fun vs H Q _=>∃ (a r:Addr) (us:List V) (ks U:List Str) (rs:List Rm),vs=[.ref a,.ref r]/\H a=some (.lst (ks.map V.str))/\H r=some (.lst us)/\RoomsAt H us rs/\rs.length<=1000/\(∀ y,Com ks rs y->y∈U)/\(∀ m∈rs,xf m)/\U.length<=62 ∧
 ∀ (d:Addr) (kvs:List (Key×V)) (H':Hp),H d=none->Same H H'->H' d=some (.dK kvs)->(∀ x,Sum.inr x∈kvs.map (·.1)↔Com ks rs x)->Q (.ref d) H'
inductive CxI (ks:List Str)(rs:List Rm)(d:Addr)(H:Hp)(M:List (Key×V)->Prop)(f:Option V->L2.St)(σ:L2.St)(H2:Hp):Prop
 | mk (x3:Option V) (kvs:List (Key×V)):σ=f x3->H2 d=some (.dK kvs)->KeysC ks rs kvs->M kvs->Same H H2->CxI ks rs d H M f σ H2
inductive CxW (ks:List Str)(rs:List Rm)(a r d:Addr)(H:Hp)(m:Nat)(σ:L2.St)(H2:Hp):Prop
 | mk (x3 x5 x6:Option V) (kvs:List (Key×V)) (n:Int):σ=[some (.ref a),some (.ref r),some (.ref d),x3,some (.int n),x5,x6]->H2 d=some (.dK kvs)->KeysC ks rs kvs->(∀ x∈ks,Sum.inr x∈kvs.map (·.1))->(n=-1\/∃ K0:List Key,K0.Nodup/\(∀ q∈K0,q∈kvs.map (·.1))/\(K0.length:Int)=n/\Done rs K0 kvs)->n<=kvs.length->-1<=n->(m:Int)=100 - n->Same H H2->CxW ks rs a r d H m σ H2
section
variable {P:Program}{w:World}{K:PySem.W.Frag}{mg:Str->Option Value}{base:Heap}
theorem bP:aJ ["keys","rooms","found","kind","many","locks","inside"] ["keys","rooms"] (ar eQ):=scM rfl rfl rfl rfl (by decide +kernel)
theorem oy:(["kind","found"]:List Str).Nodup:=by decide +kernel
theorem zZ {f:Addr}{fd:FuncData}(F:Fun K "_law_come" "_law_come" eQ f fd)(aU:mg "len" = none):bF P w K mg base CX0 1 f fd ["keys","rooms"] xU:=by
 refine F.ok bP (fun vs H Q E h=>?_) (fun cdv A outer s H vs Q E hr h=>?_)
 ·obtain⟨a,r,us,ks,U,rs,rfl,_⟩:=h
  rfl
 ·obtain⟨a,r,us,ks,U,rs,rfl,ha,hrr,hR,rl,inU,rok,ul,k⟩:=h;have hu:=i6 hr;refine⟨_,(aj (aD (i:=2) bP.nd rfl (.inr rfl) qb)
   (aj (aR (b4 afq rfl (aX (pv 0)) (az (i:=3) bP.nd rfl (.inl rfl))
    (au (iW hu (pv 2) (pv 3) jU rfl))))
   (aj (aD (i:=4) bP.nd rfl (.inl rfl) (acw aaI ak))
   (aj (aR (gj afq (aH xy (pv 4) (ax oP rfl aU afi (ae (pv 2) ai)) (aM _))
    (aj (aD (i:=4) bP.nd rfl (.inl rfl) (ax oP rfl aU afi (ae (pv 2) ai)))
    (au (aR (b4 afq rfl (aX (pv 1)) (eV rfl (aG (az (i:=5) bP.nd rfl (.inl rfl)) (aG (az (i:=6) bP.nd rfl (.inl rfl)) bS)))
     (au (aR (cu (aH rq (jP (tg:=.Name "kind" _) (outer:=ar (eQ)) (N:=["keys","rooms","found","kind","many","locks","inside"]) (N':=["kind","found"]) (nl:=1) (ix:=[2]) rfl rfl rfl (aX (pv 5))
    (fun _ _ _ _=>(az (i:=0) oy rfl (.inl rfl) (.inr rfl))) (fun _ _ _ _=>(dM (za (lg hu (pv 0) (pv 1)))))
    (fun _ _ _ _=>(pv 0))) fm (aM _))
     (au (aR (b4 afq rfl (aX (pv 6)) (az (i:=3) bP.nd rfl (.inl rfl))
      (au (iW hu (pv 2) (pv 3) jU rfl))))) bf)))))))))
   (au (aQ (pv 2))))))),?_⟩
  intro d hd;have m0:Same H (upd H d (.dK [])):=fun b u e=>by rw [ah (af e hd)];exact e
  have big:∀ {n:Nat},n<=U.length->n < sizeLine:=fun h=>afx h (afx ul (by decide));have put:∀ {H2:Hp} {o:HO},Same H H2->Same H (upd H2 d o):=fun {H2 o} sm b u e=>by
   rw [ah (af e hd)];exact sm b u e
  refine⟨fun σ H2=>CxI ks rs d H (fun kvs=>∀ x∈ks,Sum.inr x∈kvs.map (·.1)) (fun x3=>[some (.ref a),some (.ref r),some (.ref d),x3,none,none,none]) σ H2,?_,?_⟩;rotate_left
  ·refine⟨_,rfl,a,rfl,⟨_,aAA (m0 _ _ ha)⟩,?_⟩;refine bQ (xs:=ks.map V.str) (fun i σ H2=>CxI ks rs d H (fun kvs=>∀ x∈ks.take i,Sum.inr x∈kvs.map (·.1)) (fun x3=>[some (.ref a),some (.ref r),some (.ref d),x3,none,none,none]) σ H2) ⟨none,[],rfl,ag,⟨ag9,fun q h=>nomatch h⟩,(fun x h=>by simp at h),m0⟩ (fun i σ H2 _ ⟨_,_,_,_,_,_,sm⟩=>aAA (sm _ _ ha)) ?_ (fun σ H' z=>by rw [aeP,afs] at z;exact z);rintro i x σ H2 hx ⟨x3,kvs,rfl,hd2,kin,hM,sm⟩;have hi:i < ks.length:=by have:=(aeU.mp hx).1;rwa [aeP] at this
   rw [aeZ,aeO hi] at hx;cases hx;refine⟨_,rfl,_,rfl,d,_,rfl,DPut.k (k:=Sum.inr ks[i]) hd2 (big (kin.len inU)),?_⟩;refine⟨_,_,rfl,ag,kin.put (.key (afh hi)) _,fun x hx=>(cI kvs _ _ _).mpr ?_,put sm⟩;rw [afk,aeO hi] at hx;rcases aeT.mp hx with z | z
   ·exact .inr (hM x z)
   ·left;rw [show x=ks[i] by simpa using z]
  rintro σ H2 ⟨x3,kvs,rfl,hd2,kin,hM,sm⟩;refine⟨_,rfl,?_⟩;refine⟨fun σ H2=>∃ x3 x5 x6 kvs n,σ=[some (.ref a),some (.ref r),some (.ref d),x3,n,x5,x6]/\H2 d=some (.dK kvs)/\(∀ x,Sum.inr x∈kvs.map (·.1)↔Com ks rs x)/\Same H H2,?_,?_⟩
  ·rintro σ H3 ⟨x3,x5,x6,kvs,n,rfl,hd3,ex,sm⟩;exact⟨_,rfl,k d kvs H3 hd sm hd3 ex⟩
  refine⟨fun m σ H2=>CxW ks rs a r d H m σ H2,⟨101,x3,_,_,kvs,-1,rfl,hd2,kin,hM,.inl rfl,by lia,by lia,by decide,sm⟩,?_⟩;clear hd2 kin sm hM;rintro m σ H3 ⟨x3,x5,x6,kvs,n,rfl,hd3,kin,hM,alt,nle,n1,em,sm⟩;refine⟨_,rfl,_,rfl,d,kvs,rfl,hd3,rfl,_,rfl,uI (fun hb=>?_) (fun hb=>?_)⟩;rotate_left
  ·have en:n=(kvs.length:Int):=by
    apply afN;intro z;exact hb (by simpa using z)
   refine⟨x3,x5,x6,kvs,_,rfl,hd3,fun x=>⟨fun h=>?_,fun h=>?_⟩,sm⟩
   ·obtain⟨y,e,c⟩:=kin.mem _ h;injection e with e
    rw [e];exact c
   ·rcases alt with z | ⟨K0,nd0,sub0,l0,dn⟩
    ·lia
    ·have back:∀ q∈kvs.map (·.1),q∈K0:=fun q hq=>by
      exact vU nd0 sub0 (by rw [aeP];lia) q hq
     induction h with
     | key hx=>exact hM _ hx
     | room hr _ hx ih=>exact dn _ hr (fun y hy=>back _ (ih y hy)) _ hx
  have kl:=kin.len inU;have nlt:n < kvs.length:=by
   have:n≠(kvs.length:Int):=fun z=>by
    rw [z] at hb;simp at hb
   lia
  refine⟨fun σ' H'=>CxW ks rs a r d H (100 - kvs.length) σ' H',fun σ' H' h=>⟨_,by lia,h⟩,?_⟩;refine⟨_,rfl,d,kvs,rfl,hd3,?_⟩;have hK0:∃ K0:List Key,K0=kvs.map (·.1):=⟨_,rfl⟩;obtain⟨K0,eK⟩:=hK0;have nd0:K0.Nodup:=by rw [eK];exact kin.nd
  have l0:K0.length=kvs.length:=by rw [eK,aeP]
  refine⟨fun σ H2=>∃ x5 x6,CxI ks rs d H (fun kv=>(∀ x∈ks,Sum.inr x∈kv.map (·.1))/\(∀ q∈K0,q∈kv.map (·.1))/\Done rs K0 kv) (fun x3=>[some (.ref a),some (.ref r),some (.ref d),x3,some (.int kvs.length),x5,x6]) σ H2,?_,?_⟩
  ·rintro σ H4 ⟨x5,x6,x3,kvs',rfl,hd4,kin',⟨m1,m2,m3⟩,sm⟩;have:=aB (U:=kvs'.map (·.1)) nd0 m2;rw [aeP] at this;exact⟨x3,x5,x6,kvs',kvs.length,rfl,hd4,kin',m1,.inr ⟨K0,nd0,m2,by lia,m3⟩,by lia,by lia,by lia,sm⟩
  refine⟨_,rfl,r,rfl,⟨_,aAA (sm _ _ hrr)⟩,?_⟩;refine bQ (xs:=us) (fun i σ H2=>∃ x5 x6,CxI ks rs d H (fun kv=>(∀ x∈ks,Sum.inr x∈kv.map (·.1))/\(∀ q∈K0,q∈kv.map (·.1))/\Done (rs.take i) K0 kv) (fun x3=>[some (.ref a),some (.ref r),some (.ref d),x3,some (.int kvs.length),x5,x6]) σ H2) ⟨x5,x6,x3,kvs,rfl,hd3,kin,⟨hM,(fun q hq=>by rw [eK] at hq;exact hq),fun m hm=>by simp at hm⟩,sm⟩ (fun i σ H2 _ ⟨_,_,_,_,_,_,_,_,sm⟩=>aAA (sm _ _ hrr)) ?_ (fun σ H' z=>by rw [hR.1,afs] at z;exact z);generalize hL0:kvs.length=L0 at *;clear hd3 kin sm hb nlt nle alt hM eK hL0 kl em n1;rintro i x σ H4 hx ⟨x5,x6,x3,kvs,rfl,hd4,kin,⟨m1,m2,m3⟩,sm⟩;have hi:i < us.length:=(aeU.mp hx).1;have hi':i < rs.length:=by rw [← hR.1];exact hi
  have mri:=afh hi';obtain⟨tt,aa,bb,rfl,q1,q2,q3⟩:=hR.2 i x _ hx (aeO hi');have ro:=rok _ mri;have tk:rs.take (i+1)=rs.take i++[rs[i]]:=by rw [afk,aeO hi'];rfl
  refine⟨tt,_,rfl,aAB (sm _ _ q1),rfl,.ref aa,[.ref bb],rfl,.ref bb,[],rfl,rfl,?_⟩;refine⟨fun σ H2=>CxI ks rs d H (fun kv=>(∀ x∈ks,Sum.inr x∈kv.map (·.1))/\(∀ q∈K0,q∈kv.map (·.1))/\Done (rs.take (i+1)) K0 kv) (fun x3=>[some (.ref a),some (.ref r),some (.ref d),x3,some (.int L0),some (.ref aa),some (.ref bb)]) σ H2,fun σ' H' z=>⟨_,_,z⟩,?_⟩;dsimp only [adU,zq,tOp];refine aW _ _ _ _ _ _ _ _ _ ?_;refine⟨_,rfl,aa,rfl,⟨_,aAA (sm _ _ q2)⟩,?_⟩;intro D nD;have l4:=ro.l4;refine dm (pb:=fun v=>match v with | .str z=>!(b9 kvs (Sum.inr z)).isSome | _=>false) (sm _ _ q2) nD (by rw [aeP];lia) (fun x=>rfl) (fun G x R hx sG q=>?_) (fun G x R q=>⟨_,rfl,q⟩) (fun H5 s5 hD5=>?_)
  ·obtain⟨z,hz,rfl⟩:=ae4.mp hx;exact⟨_,rfl,_,rfl,d,_,rfl,DGet.k (k:=Sum.inr z) (sG _ _ hd4),_,rfl,q⟩
  have sm5:=sm.trans s5;refine⟨afe _,fun e ne=>?_⟩;have s6:Same H5 (upd H5 e (.lst [])):=aq ne;have e6:(upd H5 e (.lst [])) e=some (.lst []):=ag;generalize upd H5 e (.lst [])=H6 at *;have sm6:=sm5.trans s6;have hd6:=s6 _ _ (s5 _ _ hd4);obtain⟨fs,efs,ifs⟩:=pO (ks:=(rs[i]).1) (ys:=((rs[i]).1.map V.str).filter fun v=>match v with | .str z=>!(b9 kvs (Sum.inr z)).isSome | _=>false) fun y hy=>by
   obtain⟨z,hz,e⟩:=ae4.mp (agh.mp hy).1;exact⟨z,hz,e.symm⟩
  have efn:fs=[]↔∀ y∈(rs[i]).1,Sum.inr y∈kvs.map (·.1):=by
   have e1:fs=[]↔fs.map V.str=[]:=by rw [ai3]
   rw [e1,← efs,ag0];constructor
   ·intro z y hy;have:=z (.str y) (ae4.mpr ⟨y,hy,rfl⟩);refine val_iff.mp ?_;cases ev:(b9 kvs (Sum.inr y)).isSome with
    | true=>rfl
    | false=>exact absurd (by show (!(b9 kvs (Sum.inr y)).isSome)=true;rw [ev];rfl) this
   ·intro z v hv;obtain⟨y,hy,rfl⟩:=ae4.mp hv;have:=val_iff.mpr (z y hy);simp [this]
  rw [efs] at hD5;refine kY (s6 _ _ hD5) (SeesAll.strs _) (cP fun k hk=>ro.lk k (ifs k hk)) e6 hu ⟨_,rfl,?_⟩;cases fs with
  | cons f0 fs0 =>
   refine⟨x3,kvs,rfl,hd6,kin,⟨m1,m2,fun mm hm hK=>?_⟩,sm6⟩;rw [tk] at hm;rcases aeT.mp hm with z | z
   ·exact m3 mm z hK
   ·rw [aeS.mp z] at hK;exact nomatch efn.mpr fun y hy=>m2 _ (hK y hy)
  | nil =>
  have allin:=efn.mp rfl;have comW:∀ x∈(rs[i]).2,Com ks rs x:=fun x hx=>.room mri (fun y hy=>by
   obtain⟨z,e,c⟩:=kin.mem _ (allin y hy);injection e with e
   rw [e];exact c) hx
  refine fT ?_;refine⟨fun σ H2=>CxI ks rs d H (fun kv=>(∀ x∈ks,Sum.inr x∈kv.map (·.1))/\(∀ q∈K0,q∈kv.map (·.1))/\Done (rs.take (i+1)) K0 kv) (fun x3=>[some (.ref a),some (.ref r),some (.ref d),x3,some (.int L0),some (.ref aa),some (.ref bb)]) σ H2,fun σ' H' z=>z,?_⟩;refine⟨_,rfl,bb,rfl,⟨_,aAA (sm6 _ _ q3)⟩,?_⟩;refine bQ (xs:=(rs[i]).2.map V.str) (fun j σ H2=>CxI ks rs d H (fun kv=>(∀ x∈ks,Sum.inr x∈kv.map (·.1))/\(∀ q∈K0,q∈kv.map (·.1))/\Done (rs.take i) K0 kv/\∀ x∈(rs[i]).2.take j,Sum.inr x∈kv.map (·.1)) (fun x3=>[some (.ref a),some (.ref r),some (.ref d),x3,some (.int L0),some (.ref aa),some (.ref bb)]) σ H2) ⟨x3,kvs,rfl,hd6,kin,⟨m1,m2,m3,fun x hx=>by simp at hx⟩,sm6⟩ (fun i σ H2 _ ⟨_,_,_,_,_,_,sm⟩=>aAA (sm _ _ q3)) ?_ ?_
  ·rintro j x σ H2 hx ⟨x3,kvs,rfl,hd2,kin,⟨m1,m2,m3,m4⟩,sm⟩;have hj:j < (rs[i]).2.length:=by have:=(aeU.mp hx).1;rwa [aeP] at this
   rw [aeZ,aeO hj] at hx;cases hx;refine⟨_,rfl,_,rfl,d,_,rfl,DPut.k (k:=Sum.inr (rs[i]).2[j]) hd2 (big (kin.len inU)),?_⟩;have up:∀ {q:Key},q∈kvs.map (·.1)->q∈(fU kvs (Sum.inr (rs[i]).2[j]) (.bl true)).map (·.1):=fun h=>(cI kvs _ _ _).mpr (.inr h);refine⟨_,_,rfl,ag,kin.put (comW _ (afh hj)) _,⟨fun x hx=>up (m1 x hx),fun q hq=>up (m2 q hq),m3.put _ _,fun x hx=>?_⟩,put sm⟩;rw [afk,aeO hj] at hx;rcases aeT.mp hx with z | z
   ·exact up (m4 x z)
   ·refine (cI kvs _ _ _).mpr (.inl ?_);rw [show x=(rs[i]).2[j] by simpa using z]
  ·rintro σ H2 ⟨x3,kvs,rfl,hd2,kin,⟨m1,m2,m3,m4⟩,sm⟩;rw [aeP,afs] at m4;refine⟨x3,kvs,rfl,hd2,kin,⟨m1,m2,fun mm hm hK=>?_⟩,sm⟩;rw [tk] at hm;rcases aeT.mp hm with z | z
   ·exact m3 mm z hK
   ·rw [aeS.mp z];exact m4
theorem tZ {K:PySem.W.Frag}{nl:Nat}{ix:List Nat}{tf:TT}{te:TE}{σ:L2.St}{H1:Hp}{D r:Addr}{Q:VK}{vs:List V}{rs:List Rm}{pb:Rm->Bool}{F:Rm->V}(hr:H1 r=some (.lst vs))(hR:RoomsAt H1 vs rs)(nD:H1 D=none)(hl:rs.length<=1000)
 (hc:∀ x y,(((cn nl ix σ).set 0 (some x)).set 1 (some y)).drop nl=ix.map fun j=>(σ[j]?).join)
 (ht:∀ (H:Hp) (rm:Rm) (aa bb:Addr) (R:Bool->Hp->Prop),rm∈rs->H aa=some (.lst (rm.1.map V.str))->H bb=some (.lst (rm.2.map V.str))->Same H1 H->R (pb rm) H->tf (((cn nl ix σ).set 0 (some (.ref aa))).set 1 (some (.ref bb))) H R)
 (he:∀ (H:Hp) (rm:Rm) (aa bb:Addr) (R:VK),rm∈rs->H aa=some (.lst (rm.1.map V.str))->H bb=some (.lst (rm.2.map V.str))->Same H1 H->R (F rm) H->te (((cn nl ix σ).set 0 (some (.ref aa))).set 1 (some (.ref bb))) H R)
 (hd:∀ H,Same H1 H->H D=some (.lst ((rs.filter pb).map F))->Q (.ref D) H):i5 nl ix (zP K 2 (kQ (bg 0) (kQ (bg 1) abf))) tf te σ (Itl K r) H1 D Q:=by
 have lim:1000000 < sizeLine:=by decide
 have hl1:=hR.1;refine bV (xs:=vs) (fun i ys H=>ys=((rs.take i).filter pb).map F/\H D=some (.lst ys)/\Same H1 H) ⟨rfl,ag,fun b u e=>by rw [ah (af e nD)];exact e⟩ (fun i ys H ⟨_,h,_⟩=>h) (fun i ys H ⟨_,_,s⟩=>aAA (s r _ hr)) ?_ ?_
 ·rintro i ys H x hx ⟨rfl,hD,s⟩;have hi:i < vs.length:=(aeU.mp hx).1;have hi':i < rs.length:=by lia
  have er:rs[i]? = some rs[i]:=aeO hi';have mr:rs[i]∈rs:=afh hi';have lf:(((rs.take i).filter pb).map F).length<=i:=by
   rw [aeP];exact aft (af8 _ _) (by rw [afn];lia)
  obtain⟨tt,aa,bb,rfl,g1,g2,g3⟩:=(hR.2 i x _ hx er).same s;refine qG tt (.ref aa) (.ref bb) rfl (aAB g1) (hc _ _) (ht H rs[i] aa bb _ mr g2 g3 s ?_);cases e:pb rs[i] with
  | true =>
   rw [if_pos rfl];refine he H rs[i] aa bb _ mr g2 g3 s ⟨hD,by lia,nx hi ⟨?_,ag,fun b u e=>?_⟩⟩
   ·rw [afk,er,afQ,ae2];simp [e]
   ·rw [ah (af e nD)];exact s b u e
  | false =>
   rw [if_neg aeY];refine nx hi ⟨?_,hD,s⟩;rw [afk,er,afQ];simp [e]
 ·rintro ys H ⟨rfl,hD,s⟩;rw [hl1,afs] at hD;exact hd H s hD
def aa1:Sp:=fun vs H Q _=>∃ (v:V) (h:Hs),vs=[v]/\HouseAt H v h/\HouseD h/\∀ (l:Addr) (fs:List Str) (H':Hp),Same H H'->H' l=some (.lst (fs.map V.str))->(∀ k∈fs,bD k)->(fs=[]->∀ k,¬ FewK h k)->(∀ k fs',fs=k::fs'->pj h k)->Q (.ref l) H'
theorem zO {h:Hs}{sk:List Str}(so:sortedS sk=true)(lin:∀ k∈aN h,k∈sk){fs:List Str}(e:fs=sk.filter fun k=>decide ((a7 h).count k < (aN h).count k)):(fs=[]->∀ k,¬ FewK h k)/\∀ k fs',fs=k::fs'->pj h k:=by
 have mem:∀ k,k∈fs↔FewK h k:=fun k=>by
  rw [e,agh,agH];exact⟨fun z=>z.2,fun z=>⟨lin k z.mem,z⟩⟩
 refine⟨fun z k hk=>?_,fun k fs' z=>⟨(mem k).mp (by rw [z];exact ae0),fun k' hk'=>?_⟩⟩
 ·have:=(mem k).mpr hk;rw [z] at this;cases this
 ·have pw:fs.Pairwise leS:=by rw [e];exact (dJ so).filter _
  have hm:=(mem k').mpr hk';rw [z] at hm pw;rcases ae7.mp hm with q | q
  ·rw [q];exact leS_iff.mpr (aj8 _)
  ·exact (afP.mp pw).1 k' q
theorem lY:aJ ["house","counts"] ["house"] (ar gn):=scM rfl rfl rfl rfl (by decide +kernel)
theorem pL:(["kind","counts"]:List Str).Nodup:=by decide +kernel
theorem kC:aJ ["house","come"] ["house"] (ar eX):=scM rfl rfl rfl rfl (by decide +kernel)
theorem iL:(["locks","keys","come"]:List Str).Nodup:=by decide +kernel
theorem abV {f fC:Addr}{fd fdC:FuncData}(F:Fun K "_law_few" "_law_few" gn f fd)(pI:bF P w K mg base CX0 1 fC fdC ["house"] jG)(gf:Cal K mg "_law_counts" ["house"] fC fdC)(aV:mg "sorted" = none):bF P w K mg base CX0 2 f fd ["house"] aa1:=by
 refine F.ok lY (fun vs H Q E h=>?_) (fun cdv A outer s H vs Q E hr h=>?_)
 ·obtain⟨v,h,rfl,_⟩:=h
  rfl
 ·obtain⟨v,h,rfl,hh,hD,k⟩:=h;have hu:=i6 hr;refine⟨_,(aj (aD (i:=1) lY.nd rfl (.inr rfl) (pcl pI gf hr rfl (ae (pv 0) ai)))
   (au (aQ (jP (tg:=.Name "kind" _) (outer:=ar (gn)) (N:=["house","counts"]) (N':=["kind","counts"]) (nl:=1) (ix:=[1]) rfl rfl rfl (aX (ax (gx rfl) rfl aV aha (ae (pv 1) ai)))
    (fun _ _ _ _=>(az (i:=0) pL rfl (.inl rfl) (.inr rfl))) (fun _ _ _ _=>(dM (aH zb (aF (ma (K:=K) rfl) (gN hu (pv 1) (pv 0) (fun _ _=>rfl)) ak (fun _ _=>rfl)) (aF (ma (K:=K) rfl) (gN hu (pv 1) (pv 0) (fun _ _=>rfl)) ak (fun _ _=>rfl)) (aM _))))
    (fun _ _ _ _=>(pv 0)))))),?_⟩
  refine⟨_,rfl,v,h,rfl,hh,hD.ok,hD.few',fun d kvs H1 nd s1 hd cm=>?_⟩;obtain⟨ss,ess,ssn,ssm⟩:=xo cm;obtain⟨U,ul,inU⟩:=hD.few;have ssl:ss.length<=62:=aft (aB (U:=U) ssn fun x hx=>inU x (ssm x hx)) ul;have lin:∀ k∈aN h,k∈ss:=fun k hk=>by
   have:=(cm.mem (Sum.inr k)).mpr ⟨k,rfl,.inr hk⟩;rw [ess] at this;obtain⟨x,hx,e⟩:=ae4.mp this;injection e with e
   rw [← e];exact hx
  dsimp only [bg,tI,sd,zi];refine aW _ _ _ _ _ _ _ _ _ ?_;refine⟨_,rfl,d,kvs,ss,rfl,hd,ess,by lia,fun sl sk nsl perm so=>?_⟩;have s2:Same H1 (upd H1 sl (.lst (sk.map V.str))):=aq nsl;have e2:(upd H1 sl (.lst (sk.map V.str))) sl=some (.lst (sk.map V.str)):=ag;generalize upd H1 sl (.lst (sk.map V.str))=H2 at *;have skl:=perm.length_eq;refine⟨sl,rfl,⟨_,aAA e2⟩,?_⟩;intro D nD;refine dm (pb:=fun v=>match v with | .str z=>decide ((a7 h).count z < (aN h).count z) | _=>false) e2 nD (by rw [aeP];lia) (fun x=>rfl) (fun G x R hx sG q=>?_) (fun G x R q=>⟨_,rfl,q⟩) (fun H3 s3 hD3=>?_)
  ·obtain⟨z,hz,rfl⟩:=ae4.mp hx;have kin:z∈a7 h\/z∈aN h:=ssm _ (perm.mem_iff.mp hz);have hdG:=sG _ _ (s2 _ _ hd);rcases aaG ((cm.on s2.keepT).on sG.keepT) z with ⟨t',ev,ht'⟩ | ⟨_,c1,c2⟩;rotate_left
   ·exfalso;rcases kin with y | y
    ·exact absurd (af9.mpr y) (by lia)
    ·exact absurd (af9.mpr y) (by lia)
   have dg:DGet G d (.str z) (some (.ref t')):=by rw [← ev];exact DGet.k (k:=Sum.inr z) hdG
   refine⟨_,rfl,_,rfl,d,.ref t',rfl,dg,t',_,1,_,rfl,rfl,aAB ht',rfl,_,rfl,_,rfl,d,.ref t',rfl,dg,t',_,0,_,rfl,rfl,aAB ht',rfl,_,_,rfl,rfl,_,rfl,?_⟩;have eb:decide ((((aN h).count z:Nat):Int) > (((a7 h).count z:Nat):Int))=decide ((a7 h).count z < (aN h).count z):=aix.mpr (by lia);rw [eb];exact q
  have ef:(sk.map V.str).filter (fun v=>match v with | .str z=>decide ((a7 h).count z < (aN h).count z) | _=>false)=(sk.filter fun k=>decide ((a7 h).count k < (aN h).count k)).map V.str:=by
   rw [ai4]
   rfl
  rw [ef] at hD3;obtain⟨f1,f2⟩:=zO (h:=h) so (fun k hk=>perm.mem_iff.mpr (lin k hk)) rfl;refine k D _ H3 (s1.trans (s2.trans s3)) hD3 (fun x hx=>?_) f1 f2;have hx':=ssm x (perm.mem_iff.mp (agh.mp hx).1);rcases hx' with hx | hx
  ·rcases aeT.mp hx with hx | hx
   ·exact hD.ok.kk x hx
   ·obtain⟨m,hm,hx'⟩:=afM.mp hx;exact (hD.ok.rs m hm).kk x hx'
  ·obtain⟨m,hm,hx'⟩:=afM.mp hx;exact (hD.ok.rs m hm).lk x hx'
theorem aao {f fC:Addr}{fd fdC:FuncData}(F:Fun K "_law_shut" "_law_shut" eX f fd)(tQ:bF P w K mg base CX0 1 fC fdC ["keys","rooms"] xU)(i8:Cal K mg "_law_come" ["keys","rooms"] fC fdC)(mZ:mg "set" = none)(aV:mg "sorted" = none):bF P w K mg base CX0 2 f fd ["house"] qh:=by
 refine F.ok kC (fun vs H Q E h=>?_) (fun cdv A outer s H vs Q E hr h=>?_)
 ·obtain⟨v,h,rfl,_⟩:=h
  rfl
 ·obtain⟨v,h,rfl,⟨t,a,r,vs,rfl,ht,ha,hrr,hR⟩,hD,k⟩:=h;have hu:=i6 hr;obtain⟨U,ul,inU⟩:=hD.few;refine⟨_,(aj (aD (i:=1) kC.nd rfl (.inr rfl) (pcl tQ i8 hr rfl (ae (aF aO (pv 0) ak (fun _ _=>rfl)) (ae (aF aO (pv 0) ak (fun _ _=>rfl)) ai))))
   (au (aQ (ax (b8 rfl) rfl aV aha (ae (aZ (gi rfl) rfl mZ (by decide +kernel) (ae (jP (outer:=ar (eX)) (N:=["house","come"]) (N':=["locks","keys","come"]) (nl:=2) (ix:=[1]) rfl rfl rfl (aX (aF aO (pv 0) ak (fun _ _=>rfl)))
    (fun _ _ _ _=>(jQ (K:=K) (n:=2) rfl rfl (aG (az (i:=0) iL rfl (.inl rfl) (.inr rfl)) (aG (az (i:=1) iL rfl (.inl rfl) (.inr rfl)) bS)))) (fun _ _ _ _=>(dM (za (lg hu (aF (dv (K:=K) rfl) (pv 0) ak (fun _ _=>rfl)) (pv 2)))))
    (fun _ _ _ _=>(aF (dv (K:=K) rfl) (pv 0) ak (fun _ _=>rfl)))) ai)) ai))))),?_⟩
  have cU:∀ y,Com h.1 h.2 y->y∈U:=fun y hy=>inU y (.inl hy.mem);refine⟨_,rfl,t,_,0,.ref a,rfl,rfl,aAB ht,rfl,_,rfl,t,_,1,.ref r,rfl,rfl,aAB ht,rfl,a,r,vs,h.1,U,h.2,rfl,ha,hrr,hR,hD.ok.rl,cU,hD.ok.rs,by lia,fun d kvs H1 nd s1 hd ex=>?_⟩;have lk:=b5 hD;dsimp only [bg,tI,sd,zi,tCB,eP,kX];refine aW _ _ _ _ _ _ _ _ _ ?_;refine⟨_,rfl,t,_,1,.ref r,rfl,rfl,aAB (s1 _ _ ht),rfl,r,rfl,⟨_,aAA (s1 _ _ hrr)⟩,?_⟩;intro D nD;refine tZ (pb:=fun m=>!(b9 kvs (Sum.inr (aw m))).isSome) (F:=fun m=>V.str (aw m)) (s1 _ _ hrr) (hR.same s1) nD hD.ok.rl (fun x y=>rfl) (fun G rm aa bb R hm g2 g3 sG q=>?_) (fun G rm aa bb R hm g2 g3 sG q=>?_) (fun H2 s2 hD2=>?_)
  ·rw [lk rm hm] at g2;exact⟨_,rfl,aa,_,0,.str (aw rm),rfl,rfl,aAA g2,rfl,_,rfl,d,_,rfl,DGet.k (k:=Sum.inr (aw rm)) (sG _ _ hd),_,rfl,q⟩
  ·rw [lk rm hm] at g2;exact⟨_,rfl,aa,_,0,.str (aw rm),rfl,rfl,aAA g2,rfl,q⟩
  have inK:∀ x,x∈(h.2.filter fun m=>!(b9 kvs (Sum.inr (aw m))).isSome).map aw↔(∃ m∈h.2,aw m=x)/\¬ Com h.1 h.2 x:=fun x=>by
   have ni:∀ m:Rm,((!(b9 kvs (Sum.inr (aw m))).isSome)=true)↔¬ Com h.1 h.2 (aw m):=fun m=>by
    rw [← ex,← val_iff,ahf,← Bool.not_eq_true]
   constructor
   ·intro hx;obtain⟨m,hm,rfl⟩:=ae4.mp hx;obtain⟨h1,h2⟩:=agh.mp hm;exact⟨⟨m,h1,rfl⟩,(ni m).mp h2⟩
   ·rintro⟨⟨m,hm,rfl⟩,nc⟩;exact ae4.mpr ⟨m,agh.mpr ⟨hm,(ni m).mpr nc⟩,rfl⟩
  have ll:((h.2.filter fun m=>!(b9 kvs (Sum.inr (aw m))).isSome).map aw).length<=63:=by
   rw [aeP];exact aft (af8 _ _) hD.rl
  have hD2':H2 D=some (.lst (((h.2.filter fun m=>!(b9 kvs (Sum.inr (aw m))).isSome).map aw).map V.str)):=by rw [hD2,af7];rfl
  clear hD2;generalize (h.2.filter fun m=>!(b9 kvs (Sum.inr (aw m))).isSome).map aw=ls at *;refine⟨D,ls,rfl,aAA hD2',afx (aiG ll 1) (by decide),fun sA ts nS hts=>?_⟩;have tl:ts.length<=U.length:=aB (U:=U) hts.1 fun x hx=>by
   obtain⟨⟨m,hm,e⟩,_⟩:=(inK x).mp ((hts.2 x).mp hx);refine inU x (.inr ?_);rw [pD hD];exact ae4.mpr ⟨m,hm,e⟩
  refine⟨sA,ts,rfl,ag,by lia,fun oA ss nO hp hso=>?_⟩;dsimp only [uM,Cx.nox] at nO ⊢;have s3:Same H2 (upd H2 sA (cM P w sA ts)):=aq nS;generalize upd H2 sA (cM P w sA ts)=H3 at *;have s03:Same H H3:=s1.trans (s2.trans s3);exact k oA ss _ (s03.free nO) (s03.trans (aq nO)) ag ⟨hp.nodup_iff.mpr hts.1,hso,fun x=>by rw [hp.mem_iff,hts.2,inK]⟩
theorem SeesAll.intsN {H:Hp}:∀ ns:List Nat,SeesAll H (intsN ns) (ns.map fun i=>PyData.int ((i:Nat):Int))
 | []=>.nil
 | n::ns=>.cons (.int _) (SeesAll.intsN ns)
theorem jJ:∀ ns:List Nat,PyData.canLayAll0 (ns.map fun i=>PyData.int ((i:Nat):Int))=true
 | []=>rfl
 | n::ns=>by rw [afb];simp only [PyData.canLayAll0,PyData.canLay0,aiN];exact jJ ns
def aa5:Sp:=fun vs H Q _=>∃ (a r:Addr) (us:List V) (hd:List Str) (rs:List Rm),vs=[.ref a,.ref r]/\H a=some (.lst (hd.map V.str))/\H r=some (.lst us)/\RoomsAt H us rs/\HouseD (hd,rs)/\∀ (c:Bool) (H':Hp),Same H H'->(c=true↔iI hd rs)->Q (.bl c) H'
theorem tJ:aJ ["hand","rooms"] ["hand","rooms"] (ar i9):=scM rfl rfl rfl rfl (by decide +kernel)
theorem ac3 {f fF fS:Addr}{fd fdF fdS:FuncData}(F:Fun K "_law_can" "_law_can" i9 f fd)(wt:bF P w K mg base CX0 2 fF fdF ["house"] aa1)(jW:Cal K mg "_law_few" ["house"] fF fdF)(tY:bF P w K mg base CX0 2 fS fdS ["house"] qh)(je:Cal K mg "_law_shut" ["house"] fS fdS):bF P w K mg base CX0 3 f fd ["hand","rooms"] aa5:=by
 refine F.ok tJ (fun vs H Q E h=>?_) (fun cdv A outer s H vs Q E hr h=>?_)
 ·obtain⟨a,r,us,hd,rs,rfl,_⟩:=h
  rfl
 ·have hu:=i6 hr;obtain⟨a,r,us,hd,rs,rfl,ha,hrr,hR,hD,q⟩:=h;refine⟨_,(au (aQ (iJ (b7 rq (pcl wt jW hr rfl (ae (bZ (ae (pv 0) (ae (pv 1) ai))) ai)) fm (aM _)) (nQ (b7 rq (pcl tY je hr rfl (ae (bZ (ae (pv 0) (ae (pv 1) ai))) ai)) fm (aM _)))))),?_⟩;have fi:=vB hD;refine⟨_,rfl,_,rfl,by show 2<=sizeLine;decide,fun t nt=>?_⟩;have s1:=aq (o:=.tup [.ref a,.ref r]) nt;have hh1:HouseAt (upd H t (.tup [.ref a,.ref r])) (.ref t) (hd,rs):=⟨t,a,r,us,rfl,ag,s1 _ _ ha,s1 _ _ hrr,hR.same s1⟩;generalize upd H t (.tup [.ref a,.ref r])=H1 at *;refine⟨.ref t,(hd,rs),rfl,hh1,hD,fun l fs H2 s2 el kk e0 e1=>⟨afe _,fun l0 n0=>?_⟩⟩;have s3:=aq (o:=.lst []) n0;have S3:=s1.trans (s2.trans s3);refine kY (s3 _ _ el) (SeesAll.strs _) (cP kk) ag hu ?_;generalize upd H2 l0 (.lst [])=H3 at *;cases fs with
  | cons k fs' =>
   refine⟨false,rfl,gz ?_⟩;exact q _ _ S3 ⟨fun z=>(by cases z),fun z=>absurd (e1 k fs' rfl).1 ((fi.mp z).1 k)⟩
  | nil =>
   refine⟨true,rfl,fT ?_⟩;refine⟨_,rfl,_,rfl,by show 2<=sizeLine;decide,fun t nt=>?_⟩;have s4:=aq (o:=.tup [.ref a,.ref r]) nt;have S4:=S3.trans s4;have hh4:HouseAt (upd H3 t (.tup [.ref a,.ref r])) (.ref t) (hd,rs):=⟨t,a,r,us,rfl,ag,S4 _ _ ha,S4 _ _ hrr,hR.same S4⟩;generalize upd H3 t (.tup [.ref a,.ref r])=H4 at *;refine⟨.ref t,(hd,rs),rfl,hh4,hD,fun l ss H5 nl s5 el sh=>⟨afe _,fun l0 n0=>?_⟩⟩;have s6:=aq (o:=.lst []) n0;have kss:∀ k∈ss,bD k:=fun k hk=>by
    obtain⟨⟨r,hr,e⟩,_⟩:=(sh.mem k).mp hk;exact (hD.ok.rs r hr).lk k (by rw [b5 hD r hr,e];simp)
   refine kY (s6 _ _ el) (SeesAll.strs _) (cP kss) ag hu ?_;refine q _ _ (S4.trans (s5.trans s6)) ?_;rw [fi,← uP sh];cases ss with
   | nil=>exact⟨fun _=>⟨e0 rfl,rfl⟩,fun _=>rfl⟩
   | cons x t=>exact⟨fun z=>by simp at z,fun ⟨_,z⟩=>by cases z⟩
def pbN (p:Nat->Bool):V->Bool:=fun v=>match v with | .int z=>p z.toNat | _=>false
theorem ly (p:Nat->Bool)(l:List Nat):(intsN l).filter (pbN p)=intsN (l.filter p):=by
 unfold intsN;rw [ai4];congr 1
def ab1 (us:List V):V->V:=fun v=>match v with | .int z=>us.getD z.toNat .non | _=>.non
theorem wg {H:Hp}{us:List V}{rs:List Rm}(x:RoomsAt H us rs):∀ {is:List Nat},(∀ i∈is,i < rs.length)->RoomsAt H ((intsN is).map (ab1 us)) (is.map (bh rs)):=fun {is} hi=>by
 refine⟨by unfold intsN;rw [aeP,aeP,aeP],fun j v r e1 e2=>?_⟩;have hj:j < is.length:=by have:=(aeU.mp e2).1;rwa [aeP] at this
 have hl:=hi _ (afh hj);rw [aeZ,aeO hj] at e2;cases e2;unfold intsN at e1;rw [af7,aeZ,aeO hj] at e1;cases e1;have hu:is[j] < us.length:=by rw [x.1];exact hl
 refine x.2 is[j] _ _ ?_ (cD hl);show us[is[j]]? = some (us.getD (is[j]:Int).toNat .non);rw [afj,aeO hu,agp,aeO hu]
 rfl
inductive FiI (v:V)(h:Hs)(og:List Nat)(H:Hp)(m:Nat)(σ:L2.St)(H':Hp):Prop
 | mk (hA lA oA:Addr) (n:Nat) (x4 x5 x6 x7:Option V):σ=[some v,some (.ref hA),some (.ref lA),some (.ref oA),x4,x5,x6,x7]->Same H H'->H oA=none->hA≠oA->lA≠oA->H' hA=some (.lst ((aE h.1 h.2 (og.take n)).map V.str))->H' lA=some (.lst (intsN (aK h.2.length (og.take n))))->H' oA=some (.lst (intsN (og.take n)))->n+m=og.length->FiI v h og H m σ H'
inductive FjI (v:V)(h:Hs)(og:List Nat)(lA oA:Addr)(n a:Nat)(Hb:Hp)(j:Nat)(σ:L2.St)(H':Hp):Prop
 | mk (hA:Addr) (k:Nat) (x4 x5 x6 x7:Option V):σ=[some v,some (.ref hA),some (.ref lA),some (.ref oA),x4,x5,x6,x7]->But oA Hb H'->hA≠oA->H' hA=some (.lst ((aE h.1 h.2 (og.take k)).map V.str))->H' oA=some (.lst (intsN (og.take k)))->(j<=a->k=n)->(a < j->k=n+1)->FjI v h og lA oA n a Hb j σ H'
theorem br:aJ ["house","hand","left","order","room","lock","behind","others"] ["house"] (ar cf):=scM rfl rfl rfl rfl (by decide +kernel)
theorem mU:(["one","room"]:List Str).Nodup:=by decide +kernel
theorem m9:(["one","house"]:List Str).Nodup:=by decide +kernel
theorem lX:(["room","order"]:List Str).Nodup:=by decide +kernel
theorem xN {f fC:Addr}{fd fdC:FuncData}(F:Fun K "_law_first" "_law_first" cf f fd)(oU:bF P w K mg base CX0 3 fC fdC ["hand","rooms"] aa5)(iq:Cal K mg "_law_can" ["hand","rooms"] fC fdC)(aU:mg "len" = none)(bz:mg "list" = none)(aP:mg "range" = none):bF P w K mg base CX0 4 f fd ["house"] qg:=by
 refine F.ok br (fun vs H Q E h=>?_) (fun cdv A outer s H vs Q E hr h=>?_)
 ·obtain⟨v,h,rfl,_⟩:=h
  rfl
 ·have hu:=i6 hr;obtain⟨v,h,rfl,hh,hD,no,yes⟩:=h;obtain⟨t,a,r,us,rfl,ht,ha,hrr,hR⟩:=id hh;refine⟨_,(aj (aD (i:=1) br.nd rfl (.inl rfl) (aZ bu rfl bz (by decide +kernel) (ae (aF aO (pv 0) ak (fun _ _=>rfl)) ai)))
   (aj (aD (i:=2) br.nd rfl (.inl rfl) (j7 rfl bz rfl aP rfl (ae (ax aA rfl aU afi (ae (aF aO (pv 0) ak (fun _ _=>rfl)) ai)) ai)))
   (aj (cu (gL (fJ (pcl oU iq hr rfl (ae (pv 1) (ae (aF aO (pv 0) ak (fun _ _=>rfl)) ai)))))
    (au (aQ j9)) bf)
   (aj (aD (i:=3) br.nd rfl (.inr rfl) fm)
   (aj (aR (gj afq (aH gw (pv 2) fm (aM _))
    (aj (aR (b4 afq rfl (aX (aZ bu rfl bz (by decide +kernel) (ae (pv 2) ai))) (az (i:=4) br.nd rfl (.inr rfl))
     (aj (aD (i:=5) br.nd rfl (.inl rfl) (aF aT (aF aO (aF aT (aF aO (pv 0) ak (fun _ _=>rfl)) (pv 4) (fun _ _=>rfl)) ak (fun _ _=>rfl)) ak (fun _ _=>rfl)))
     (au (aR (cu (PW.pt (ki (aH gy (aI cV (ax aA rfl aU afi (ae (pv 3) ai)) (ax aA rfl aU afi (ae (pv 2) ai))) (ax aA rfl aU afi (ae (aF aO (pv 0) ak (fun _ _=>rfl)) ai)) (aM _)) (gX (aH mX (pv 5) (pv 1) rfl))))
      (aj (aD (i:=6) br.nd rfl (.inl rfl) (aZ bu rfl bz (by decide +kernel) (ae (pv 1) ai)))
      (aj (bq (dc ae3 ahj ahk jm (pv 6) (ae (pv 5) ai)))
      (aj (aD (i:=6) br.nd rfl (.inl rfl) (aI mG (pv 6) (aF aO (aF aT (aF aO (pv 0) ak (fun _ _=>rfl)) (pv 4) (fun _ _=>rfl)) ak (fun _ _=>rfl))))
      (aj (eO (i:=7) (tg:=.Name "one" _) (outer:=ar (cf)) (N:=["house","hand","left","order","room","lock","behind","others"]) (N':=["one","room"]) (nl:=1) (ix:=[4]) br.nd rfl (.inl rfl) rfl rfl rfl (aX (pv 2))
    (fun _ _ _ _=>(az (i:=0) mU rfl (.inl rfl) (.inr rfl))) (fun _ _ _ _=>(dM (aH xy (pv 0) (pv 1) (aM _))))
    (fun _ _ _ _=>(pv 0)))
     (au (aR (cu (fJ (pcl oU iq hr rfl (ae (pv 6) (ae (jP (tg:=.Name "one" _) (outer:=ar (cf)) (N:=["house","hand","left","order","room","lock","behind","others"]) (N':=["one","house"]) (nl:=1) (ix:=[0]) rfl rfl rfl (aX (pv 7))
    (fun _ _ _ _=>(az (i:=0) m9 rfl (.inl rfl) (.inr rfl))) (fun _ _ _ _=>bX)
    (fun _ _ _ _=>(aF (dv (K:=K) rfl) (aF (ma (K:=K) rfl) (pv 1) ak (fun _ _=>rfl)) (pv 0) (fun _ _=>rfl)))) ai))))
     (aj (bq (dc ae3 afH afI bJ (pv 3) (ae (pv 4) ai)))
     (au (aD (i:=1) br.nd rfl (.inl rfl) (pv 6)))) bf))))))) bf))))))
    (au (eO (i:=2) (tg:=.Name "room" _) (outer:=ar (cf)) (N:=["house","hand","left","order","room","lock","behind","others"]) (N':=["room","order"]) (nl:=1) (ix:=[3]) br.nd rfl (.inl rfl) rfl rfl rfl (aX (pv 2))
    (fun _ _ _ _=>(az (i:=0) lX rfl (.inl rfl) (.inr rfl))) (fun _ _ _ _=>(dM (aH (fX (K:=K) rfl) (pv 0) (pv 1) rfl)))
    (fun _ _ _ _=>(pv 0)))))))
   (au (aQ (pv 3)))))))),?_⟩
  have rl:=hD.rl;have lim:1000000<=sizeLine:=by decide
  refine⟨_,rfl,t,_,0,.ref a,rfl,rfl,aAB ht,rfl,a,_,rfl,.inl (aAA ha),fun hA nh=>?_⟩;have s1:=aq (o:=.lst (h.1.map V.str)) nh;have e1:(upd H hA (.lst (h.1.map V.str))) hA=some (.lst (h.1.map V.str)):=ag;show bg 1 (V.ref hA) _ (upd H hA (.lst (h.1.map V.str))) _;generalize upd H hA (.lst (h.1.map V.str))=H1 at *;refine⟨_,rfl,t,_,1,.ref r,rfl,rfl,aAB (s1 _ _ ht),rfl,r,_,rfl,.inl (aAA (s1 _ _ hrr)),us.length,rfl,by rw [hR.1];lia,fun lA nl=>?_⟩;rw [hR.1];have s2:=aq (o:=.lst (intsN (List.range h.2.length))) nl;have e2:(upd H1 lA (.lst (intsN (List.range h.2.length)))) lA=some (.lst (intsN (List.range h.2.length))):=ag;show bg 2 (V.ref lA) _ (upd H1 lA (.lst (intsN (List.range h.2.length)))) _;generalize upd H1 lA (.lst (intsN (List.range h.2.length)))=H2 at *;have S2:=s1.trans s2;refine⟨_,rfl,_,rfl,t,_,1,.ref r,rfl,rfl,aAB (S2 _ _ ht),rfl,hA,r,us,h.1,h.2,rfl,s2 _ _ e1,S2 _ _ hrr,hR.same S2,hD,fun c H3 s3 hc=>⟨c,rfl,?_⟩⟩;have S3:=S2.trans s3;cases c with
  | false=>exact fT (no (fun z=>by have:=hc.mpr z;cases this) H3 S3)
  | true =>
  refine gz ?_;have ff:=hc.mp rfl;obtain⟨og,gg⟩:=vo hD ff;have ogl:=n4 gg;have e13:=s3 _ _ (s2 _ _ e1);have e23:=s3 _ _ e2;refine⟨afe _,fun oA nO=>?_⟩;have s4:=aq (o:=.lst (intsN [])) nO;have e4:(upd H3 oA (.lst (intsN []))) oA=some (.lst (intsN [])):=ag;have nO0:=S3.free nO;have hO:hA≠oA:=af e13 nO;have lO:lA≠oA:=af e23 nO;have S4:=S3.trans s4;show bg 3 (V.ref oA) _ (upd H3 oA (.lst (intsN []))) _;have e14:=s4 _ _ e13;have e24:=s4 _ _ e23;generalize upd H3 oA (.lst (intsN []))=H4 at *;refine⟨fun σ' H'=>FiI (.ref t) h og H 0 σ' H',?_,?_⟩
  ·rintro σ H5 ⟨hA,lA,oA,n,x4,x5,x6,x7,rfl,sm,nO,_,_,_,_,e3,hn⟩;rw [afE (by lia)] at e3;exact⟨_,rfl,yes ff oA og H5 nO sm e3 gg⟩
  refine⟨fun m σ' H'=>FiI (.ref t) h og H m σ' H',⟨_,hA,lA,oA,0,_,_,_,_,rfl,S4,nO0,hO,lO,e14,by rw [agV,pN];exact e24,e4,ahI _⟩,?_⟩;clear e14 e24 e4 e13 e23 S4 s4 s3 S3 s2 S2 s1 e1 e2 hO lO nO nO0 nh nl hc;clear H4 H3 H2 H1 hA lA oA;rintro m σ H2 ⟨hA,lA,oA,n,x4,x5,x6,x7,rfl,sm,nO,hO,lO,eh,el,eo,hn⟩;refine⟨_,rfl,afe _,fun l0 n0=>?_⟩;have s3:=aq (o:=.lst []) n0;refine gr (s3 _ _ el) (SeesAll.intsN _) (jJ _) ag hu ⟨_,rfl,?_⟩;replace eh:=s3 _ _ eh;replace el:=s3 _ _ el;replace eo:=s3 _ _ eo;replace sm:=sm.trans s3;generalize upd H2 l0 (.lst [])=H3 at *;clear s3 n0;have st:=kZ hD ff gg (n:=n) (by lia);have nl:=mW _ st.gone;have ll:=zk nl st.gone.lt;rw [eZ (by lia)] at ll;by_cases hm:m=0
  ·subst hm;have:aK h.2.length (og.take n)=[]:=af6.mp (by lia);rw [this];refine gz ?_;exact⟨hA,lA,oA,n,_,_,_,_,rfl,sm,nO,hO,lO,eh,el,eo,hn⟩
  have hn':n < og.length:=by lia
  have ne:(!(intsN (aK h.2.length (og.take n))).isEmpty)=true:=by
   cases z:aK h.2.length (og.take n) with
   | nil=>rw [z] at ll;simp at ll;lia
   | cons x y=>rfl
  rw [ne];refine fT ?_;obtain⟨LA,LB,esp,noA,lkin,canN⟩:=oF hD ff gg hn';have tk:=qB hn';refine⟨fun σ' H'=>FiI (.ref t) h og H (m - 1) σ' H',fun σ' H' z=>⟨_,by lia,z⟩,?_⟩;refine⟨fun σ' H'=>FjI (.ref t) h og lA oA n LA.length H3 (aK h.2.length (og.take n)).length σ' H',?_,?_⟩
  ·rintro σ H5 ⟨hA,k,x4,x5,x6,x7,rfl,B,hO,eh5,eo5,_,k2⟩;have ek:k=n+1:=k2 (by rw [esp,aeR,afr];lia);subst ek;have el5:=B _ _ lO el;dsimp only [bg,tI,sd];refine aW _ _ _ _ _ _ _ _ _ ?_;refine⟨_,rfl,lA,rfl,⟨_,aAA el5⟩,?_⟩;intro D nD;refine dm (pb:=pbN fun i=>!decide (i∈og.take (n+1))) el5 nD (by unfold intsN;rw [aeP];lia) (fun x=>rfl) (fun G x R hx sG qq=>?_) (fun G x R qq=>⟨_,rfl,qq⟩) (fun H6 s6 hD6=>?_)
   ·obtain⟨z,hz,rfl⟩:=ae4.mp hx;refine⟨_,rfl,_,rfl,oA,_,rfl,.inl (aAA (sG _ _ eo5)),rfl,m7 _,_,rfl,?_⟩;rw [uy];exact qq
   rw [ly] at hD6;have efl:(aK h.2.length (og.take n)).filter (fun i=>!decide (i∈og.take (n+1)))=aK h.2.length (og.take (n+1)):=by
    unfold aK;rw [ahD];congr 1;funext i;have sub:i∈og.take n->i∈og.take (n+1):=fun z=>by rw [tk];exact aff _ z
    by_cases y:i∈og.take (n+1)
    ·simp [y]
    ·have z:i ∉ og.take n:=fun z=>y (sub z);simp [y,z]
   rw [efl] at hD6;have sm5:Same H H6:=fun b u e=>s6 _ _ (B b u (af e nO) (sm b u e));exact⟨hA,D,oA,n+1,_,_,_,_,rfl,sm5,nO,hO,(af eo5 nD).symm,s6 _ _ eh5,hD6,s6 _ _ eo5,by lia⟩
  refine⟨_,rfl,lA,_,rfl,.inl (aAA el),fun lc nc=>⟨lc,rfl,⟨_,aAA ag⟩,?_⟩⟩;have s4:=aq (o:=.lst (intsN (aK h.2.length (og.take n)))) nc;have ec:(upd H3 lc (.lst (intsN (aK h.2.length (og.take n))))) lc=some (.lst (intsN (aK h.2.length (og.take n)))):=ag;have B4:But oA H3 (upd H3 lc (.lst (intsN (aK h.2.length (og.take n))))):=cB s4;have eh4:=s4 _ _ eh;have eo4:=s4 _ _ eo;have cO:lc≠oA:=(af eo nc).symm;generalize upd H3 lc (.lst (intsN (aK h.2.length (og.take n))))=H4 at *;refine bQ (xs:=intsN (aK h.2.length (og.take n))) (fun j σ' H'=>FjI (.ref t) h og lA oA n LA.length H3 j σ' H'/\But oA H4 H') ⟨⟨hA,n,_,_,_,_,rfl,B4,hO,eh4,eo4,fun _=>rfl,fun z=>absurd z (by lia)⟩,fun _ _ _ e=>e⟩ (fun j σ H' _ z=>aAA (z.2 _ _ cO ec)) ?_ (fun σ H' z=>by unfold intsN at z;rw [aeP] at z;exact z.1);clear eh4 eo4 B4 s4 nc eh eo;rintro j x σ H5 hx ⟨⟨hA,k,x4,x5,x6,x7,rfl,B,hO,eh,eo,k1,k2⟩,BB⟩;have hj:j < (aK h.2.length (og.take n)).length:=by have:=(aeU.mp hx).1;unfold intsN at this;rwa [aeP] at this
  unfold intsN at hx;rw [aeZ,aeO hj] at hx;cases hx;generalize hi0:(aK h.2.length (og.take n))[j]=i at *;have il:i∈aK h.2.length (og.take n):=by rw [← hi0];exact afh hj
  obtain⟨hi,ni⟩:=left_mem.mp il;have iA:j < LA.length->i∈LA:=fun z=>by
   rw [← hi0,List.getElem_of_eq esp hj,List.getElem_append_left z];exact afh z
  have iM:j=LA.length->i=og[n]:=fun z=>by
   subst z;rw [← hi0,List.getElem_of_eq esp hj,List.getElem_append_right (ae1 _)];simp
  have sm5:Same H H5:=fun b u e=>B b u (af e nO) (sm b u e);have hn2:i < us.length:=by rw [hR.1];exact hi
  have er:=cD hi;have eu:us[i]? = some us[i]:=aeO hn2;obtain⟨tt,dd,bb,et,g1,g2,g3⟩:=hR.2 _ _ _ eu er;have elk:=b5 hD _ (bx hi);rw [elk] at g2;refine⟨_,rfl,t,_,1,.ref r,rfl,rfl,aAB (sm5 _ _ ht),rfl,_,rfl,r,us,((i:Nat):Int),us[i],rfl,rfl,aAA (sm5 _ _ hrr),bw eu,tt,_,0,.ref dd,et,rfl,aAB (sm5 _ _ g1),rfl,dd,_,0,.str (aw (bh h.2 i)),rfl,rfl,aAA (sm5 _ _ g2),rfl,?_⟩;refine⟨fun σ' H'=>FjI (.ref t) h og lA oA n LA.length H3 (j+1) σ' H'/\But oA H4 H',fun σ' H' z=>z,?_⟩;have el5:=B _ _ lO el;refine⟨_,rfl,oA,_,rfl,.inl (aAA eo),_,rfl,lA,_,rfl,.inl (aAA el5),_,_,rfl,rfl,_,rfl,t,_,1,.ref r,rfl,rfl,aAB (sm5 _ _ ht),rfl,r,_,rfl,.inl (aAA (sm5 _ _ hrr)),rfl,_,rfl,?_⟩;have lenI:∀ l:List Nat,(intsN l).length=l.length:=fun l=>by unfold intsN;rw [aeP]
  rw [lenI,lenI,hR.1];by_cases ja:LA.length < j
  ·have ek:=k2 ja;subst ek;rw [eZ (by lia)];rw [show decide (V.int ((((n+1:Nat):Int))+((aK h.2.length (og.take n)).length:Int))=V.int (h.2.length:Int))=false from afw fun z=>by injection z with z;lia];refine gz (gz ?_);exact⟨⟨hA,n+1,_,_,_,_,rfl,B,hO,eh,eo,fun z=>absurd z (by lia),fun _=>rfl⟩,BB⟩
  have ek:=k1 (by lia);subst ek;rw [eZ (by lia)];rw [show decide (V.int ((k:Int)+((aK h.2.length (og.take k)).length:Int))=V.int (h.2.length:Int))=true from afv (afJ V.int (by lia))];refine fT ?_;refine⟨_,rfl,_,rfl,hA,_,rfl,.inl (aAA eh),rfl,rL _,_,rfl,?_⟩;rw [tN];by_cases lk:aw (bh h.2 i)∈aE h.1 h.2 (og.take k);rotate_left
  ·rw [afw lk];refine gz ?_;have ne:j≠LA.length:=fun z=>lk (by rw [iM z];exact lkin);exact⟨⟨hA,k,_,_,_,_,rfl,B,hO,eh,eo,fun _=>rfl,fun z=>absurd z (by lia)⟩,BB⟩
  rw [afv lk];refine fT ?_;refine⟨_,rfl,hA,_,rfl,.inl (aAA eh),fun b1 nb1=>?_⟩;have s6:=aq (o:=.lst ((aE h.1 h.2 (og.take k)).map V.str)) nb1;have e6:(upd H5 b1 (.lst ((aE h.1 h.2 (og.take k)).map V.str))) b1=some (.lst ((aE h.1 h.2 (og.take k)).map V.str)):=ag;show bg 6 (V.ref b1) _ (upd H5 b1 (.lst ((aE h.1 h.2 (og.take k)).map V.str))) _;generalize upd H5 b1 (.lst ((aE h.1 h.2 (og.take k)).map V.str))=H6 at *;refine⟨_,rfl,.inl ⟨rfl,_,aAA e6⟩,_,rfl,b1,_,_,rfl,rfl,e6,lk,?_⟩;have s7:Same H5 (upd H6 b1 (.lst (((aE h.1 h.2 (og.take k)).erase (aw (bh h.2 i))).map V.str))):=fun b u e=>by rw [ah (af e nb1)];exact s6 _ _ e
  have e7:(upd H6 b1 (.lst (((aE h.1 h.2 (og.take k)).erase (aw (bh h.2 i))).map V.str))) b1=some (.lst (((aE h.1 h.2 (og.take k)).erase (aw (bh h.2 i))).map V.str)):=ag;generalize upd H6 b1 (.lst (((aE h.1 h.2 (og.take k)).erase (aw (bh h.2 i))).map V.str))=H7 at *;have S7:=sm5.trans s7;have may:mF (aE h.1 h.2 (og.take k)) (bh h.2 i).1=true:=by rw [elk];exact (gb _ _).mpr lk
  have gone2:=st.gone.snoc hi ni may;have hD2:=aaN hD gone2 (.refl _);have hsn:aE h.1 h.2 (og.take k++[i])=(aE h.1 h.2 (og.take k)).erase (aw (bh h.2 i))++(bh h.2 i).2:=dF (b5 hD) hi;have hkl:=hD2.ok.kl;rw [hsn] at hkl;rw [aeR] at hkl;refine⟨_,rfl,_,rfl,t,_,1,.ref r,rfl,rfl,aAB (S7 _ _ ht),rfl,_,rfl,r,us,((i:Nat):Int),us[i],rfl,rfl,aAA (S7 _ _ hrr),bw eu,tt,_,1,.ref bb,et,rfl,aAB (S7 _ _ g1),rfl,b1,bb,_,_,rfl,rfl,e7,S7 _ _ g3,by rw [aeP,aeP];lia,fun b2 nb2=>?_⟩;rw [← ae2,← hsn];have s8:=aq (o:=.lst ((aE h.1 h.2 (og.take k++[i])).map V.str)) nb2;have e8:(upd H7 b2 (.lst ((aE h.1 h.2 (og.take k++[i])).map V.str))) b2=some (.lst ((aE h.1 h.2 (og.take k++[i])).map V.str)):=ag;show bg 6 (V.ref b2) _ (upd H7 b2 (.lst ((aE h.1 h.2 (og.take k++[i])).map V.str))) _;have S8:=S7.trans s8;have s58:=s7.trans s8;have b2O:b2≠oA:=(af (s7 _ _ eo) nb2).symm;generalize upd H7 b2 (.lst ((aE h.1 h.2 (og.take k++[i])).map V.str))=H8 at *;have el8:=s58 _ _ el5;dsimp only [bg,tI,sd];refine aW _ _ _ _ _ _ _ _ _ ?_;refine⟨_,rfl,lA,rfl,⟨_,aAA el8⟩,?_⟩;intro D nD;refine dm (pb:=pbN fun m=>decide (m≠i)) el8 nD (by rw [lenI];lia) (fun x=>rfl) (fun G x R hx sG qq=>?_) (fun G x R qq=>⟨_,rfl,qq⟩) (fun H9 s9 hD9=>?_)
  ·obtain⟨z,hz,rfl⟩:=ae4.mp hx;refine⟨_,rfl,_,rfl,rfl,_,rfl,?_⟩;rw [show (!decide (V.int (z:Int)=V.int (i:Int)))=pbN (fun m=>decide (m≠i)) (V.int (z:Int)) by
    show _=decide ((z:Int).toNat≠i);rw [afj];by_cases y:z=i
    ·simp [y]
    ·rw [afv y,afw (fun w=>by injection w with w;exact y (ak3 w))];rfl]
   exact qq
  rw [ly,← ju] at hD9;refine⟨fun σ' H'=>FjI (.ref t) h og lA oA k LA.length H3 (j+1) σ' H'/\But oA H4 H',fun σ' H' z=>z,?_⟩;have S9:=S8.trans s9;have s59:=s58.trans s9;have e9:=s9 _ _ e8;refine⟨_,rfl,?_⟩;dsimp only [eP,kX];refine aW _ _ _ _ _ _ _ _ _ ?_;refine⟨_,rfl,D,rfl,⟨_,aAA hD9⟩,?_⟩;intro D2 nD2;have ltl:∀ m∈aK h.2.length (og.take k++[i]),m < h.2.length:=fun m hm=>(left_mem.mp hm).1;have lll:=xM h.2.length (og.take k++[i]);refine uC (F:=ab1 us) hD9 nD2 (by rw [lenI];lia) (fun x=>rfl) (fun G x R hx sG qq=>?_) (fun H10 s10 hD10=>?_)
  ·obtain⟨z,hz,rfl⟩:=ae4.mp hx;have hzl:=ltl z hz;have hzu:z < us.length:=by rw [hR.1];exact hzl
   refine⟨_,rfl,t,_,1,.ref r,rfl,rfl,aAB (sG _ _ (S9 _ _ ht)),rfl,_,rfl,r,us,((z:Nat):Int),us[z],rfl,rfl,aAA (sG _ _ (S9 _ _ hrr)),bw (aeO hzu),?_⟩;have:ab1 us (V.int (z:Int))=us[z]:=by
    show us.getD (z:Int).toNat .non=_;rw [afj,agp,aeO hzu];rfl
   rw [this] at qq;exact qq
  have S10:=S9.trans s10;have s510:=s59.trans s10;refine⟨b2,D2,_,aE h.1 h.2 (og.take k++[i]),dH h (og.take k++[i]),rfl,s10 _ _ e9,hD10,wg (hR.same S10) ltl,hD2,fun c H11 s11 hc=>⟨c,rfl,?_⟩⟩;have s511:=s510.trans s11;have B11:But oA H3 H11:=fun b u nb e=>s511 _ _ (B b u nb e);have BB11:But oA H4 H11:=fun b u nb e=>s511 _ _ (BB b u nb e);cases c with
  | false =>
   refine gz ?_;have ne:j≠LA.length:=fun z=>by
    have:Can h (og.take k++[i]):=by rw [iM z];exact canN
    have:=hc.mpr this;cases this
   exact⟨⟨hA,k,_,_,_,_,rfl,B11,hO,s511 _ _ eh,s511 _ _ eo,fun _=>rfl,fun z=>absurd z (by lia)⟩,BB11⟩
  | true =>
   have ej:j=LA.length:=by
    apply afN;intro z;exact noA i (iA (by lia)) ⟨lk,hc.mp rfl⟩
   have ei:=iM ej;refine fT ?_;have eo11:=s511 _ _ eo;refine⟨_,rfl,.inl ⟨rfl,_,aAA eo11⟩,_,rfl,oA,_,_,rfl,rfl,eo11,by rw [lenI,eZ (by lia)];lia,?_⟩;refine⟨_,rfl,?_⟩;refine⟨⟨b2,k+1,_,_,_,_,rfl,fun b u nb e=>by rw [ah nb];exact B11 b u nb e,b2O,?_,?_,fun z=>absurd z (by lia),fun _=>rfl⟩,fun b u nb e=>by rw [ah nb];exact BB11 b u nb e⟩
   ·rw [ah b2O,tk,← ei];exact s11 _ _ (s10 _ _ e9)
   ·rw [ag,tk,← ei];unfold intsN;rw [ae2]
    rfl
end
end K7
namespace L2
open PySem PySem.Spec PySem.Calls PyProof.Rows PySem.W
section
variable {prog:Program}{w:World}{A:Around}{E:Value->Shared->Prop}{s:Shared}{it d:Addr}{i ep:Nat}{es:Array DictEntry}
theorem aac:Builtin.Dict_items.ownsTuple "dict_keyiterator" = false:=by decide
theorem aaa {od:Obj}{e:DictEntry}{Q:Option Value->Shared->Prop}(hit:s.heap.IsKeyIter it d i es.size ep)(hod:s.heap.get? d=some od)(hdd:od.data=.dict es ep)(hx:es[i]? = some e)
 (hQ:∀ h',h'.IsKeyIter it d (i+1) es.size ep->Heap.SameBut it s.heap h'->Q (some e.key) { s with heap:=h' }):wpAny (model prog w) A (pyNext (.ref it)) Q E s:=by
 obtain⟨o,ho,hc,hd⟩:=id hit;have hT:=hit.typeIs;unfold pyNext;refine aeQ (aiK (wpAny_callSpecial?_slot hT agB (agx agB hT aiz ?_ (air _))));refine aeQ (aeX (aeQ (aeQ (aeQ (agS hT (aeX (aeQ (wpAny_fieldsOf ho hd ?_))))))));simp only [aac,afA,agF,age];show wpAny _ _ (if (Value.ref d == Value.none)=true then _ else _) _ _ _;rw [if_neg (by simp)];refine aeQ (aeX (aeQ (ajB hod hdd ?_)));rw [if_neg (by simp)];refine aeQ (aeX (aeQ (ako hod hdd ?_)));rw [if_neg (by simp)];refine aeX ?_;have hi:¬ ((i:Int) < 0):=by lia
 simp only [if_neg hi,afj,hx];refine aeQ (aeQ (agS hT (aeX (aeQ (wpAny_isOneOf_keyiter hT ?_)))));simp only [aac,afA,agF];refine aeQ (aim ho hd (by simp) ?_);have g2:(s.heap.update it (Obj.mapFields fun x=>x.setIfInBounds (0+1) (rawInt (i+1)))).get? it=some (Obj.mapFields (fun x=>x.setIfInBounds (0+1) (rawInt (i+1))) o):=by
  exact agz _ ho (by cases o;subst hd;first | rfl | decide)
 split
 ·exact absurd ‹_› (by decide)
 have hit':(s.heap.update it (Obj.mapFields fun x=>x.setIfInBounds (0+1) (rawInt (i+1)))).IsKeyIter it d (i+1) es.size ep:=by
  refine⟨_,g2,?_,?_⟩
  ·rw [ajt];exact hc
  ·rw [ahC hd];simp [rawInt]
 have hT':Shared.TypeIs { s with heap:=(s.heap.update it (Obj.mapFields fun x=>x.setIfInBounds (0+1) (rawInt (i+1)))) } (.ref it) "dict_keyiterator" := hit'.typeIs;refine aeQ (af5 ?_);refine aeQ (wpAny_isOneOf_keyiter hT' ?_);rw [if_pos (by decide)];refine aeX (aeX ⟨_,rfl,aeX (hQ _ hit' (afX _ _ _))⟩)
theorem ab6 {od:Obj}{Q:Option Value->Shared->Prop}(hh:A.handled=none)(hit:s.heap.IsKeyIter it d i es.size ep)(hod:s.heap.get? d=some od)(hdd:od.data=.dict es ep)(hx:es[i]? = none)
 (hQ:∀ h',Heap.ExtBut it s.heap h'->Q none { s with heap:=h' }):wpAny (model prog w) A (pyNext (.ref it)) Q E s:=by
 obtain⟨o,ho,hc,hd⟩:=id hit;have hT:=hit.typeIs;unfold pyNext;refine aeQ (aiK (wpAny_callSpecial?_slot hT agB (agx agB hT aiz ?_ (air _))));refine aeQ (aeX (aeQ (aeQ (aeQ (agS hT (aeX (aeQ (wpAny_fieldsOf ho hd ?_))))))));simp only [aac,afA,agF,age];show wpAny _ _ (if (Value.ref d == Value.none)=true then _ else _) _ _ _;rw [if_neg (by simp)];refine aeQ (aeX (aeQ (ajB hod hdd ?_)));rw [if_neg (by simp)];refine aeQ (aeX (aeQ (ako hod hdd ?_)));rw [if_neg (by simp)];refine aeX ?_;have hi:¬ ((i:Int) < 0):=by lia
 simp only [if_neg hi,afj,hx];refine aeQ (aeQ (agS hT (aeX ?_)));simp only [aac,afA,agF];refine aeQ (aim ho hd (by simp) ?_);refine aeQ ?_;unfold newExc;refine aeQ (af2 (aeQ (ajJ (Eq.refl (firstArgMember (Value.type "StopIteration") [])) (af2 ?_))));refine wpAny_raiseNew_none hh ?_;refine aeQ (ajS (T := "StopIteration") (b:=true) ⟨_,afd _ rfl,rfl⟩ rfl ?_);refine aeX (hQ _ fun b q hb e=>aeV _ (aeV _ ?_));exact ((afX _ _ _).2 b hb).trans e
end
def acB (d:Addr)(es:Array DictEntry)(ep:Nat)(h:Heap):Prop:=∃ od,h.get? d=some od/\od.cls=.type "dict" ∧ od.data=.dict es ep
section
variable {prog:Program}{w:World}
theorem zM {A:Around}{E:Value->Shared->Prop}{s:Shared}{d:Addr}{es:Array DictEntry}{ep:Nat}{Q:Value->Shared->Prop}(hd:(d == sysModules)=false)(hm:acB d es ep s.heap)
 (hQ:Q (.ref s.heap.objs.size) { s with heap:=s.heap.push { cls:=.type "dict_keyiterator",data:=.fields #[.ref d,.int 0 0,.int es.size 0,.int ep 0] } }):wpAny (model prog w) A (pyIter (.ref d)) Q E s:=by
 obtain⟨od,ho,hc,hdat⟩:=hm;have hT:s.TypeIs (.ref d) "dict" := ⟨_,ho,hc⟩;refine aju hT F.slot_dict_iter (agx F.slot_dict_iter hT F.entry_dict_iter ?_ (F.args_dict_iter_1 _));refine aeQ ?_;refine aeQ (wpAny_notOrdered_dict hT ?_);refine aeX ?_;show wpAny _ _ ((if (d == sysModules)=true then _ else _) >>= _) _ _ _;rw [if_neg (by rw [hd];exact aeY)];refine aeQ (aeX (aeQ (ajB ho hdat (aeQ (ako ho hdat ?_)))));refine aeQ (af2 (aeX ?_));exact⟨.ref s.heap.objs.size,rfl,"dict_keyiterator",_,⟨_,afd _ rfl,rfl⟩,agB.lookup,hQ⟩
theorem xS {A:Around}(hh:A.handled=none)(I d:Addr)(hne:d≠I)(es:Array DictEntry)(ep:Nat) :
 Walks prog w A I [I,d] [I] es.size (fun i v=>∃ e,es[i]? = some e/\v=e.key) fun i h=>h.IsKeyIter I d i es.size ep/\acB d es ep h where
 sub:=fun b hb=>by simp at hb;simp [hb]
 frame:=fun i h h' st hk=>⟨st.1.at fun o e=>hk I (by simp) o e,let ⟨od,a,b,c⟩:=st.2;⟨od,hk d (by simp) _ a,b,c⟩⟩
 item:=fun i s Q E hi st hQ=>by
  obtain⟨hit,od,a,b,c⟩:=st;refine aaa (e:=es[i]) hit a c (by simp [hi]) fun h' hit' hs=>hQ _ h' s.toks ⟨es[i],by simp [hi],rfl⟩ ⟨hit',od,(hs.2 d hne).trans a,b,c⟩ fun b o hb e=>(hs.2 b (by simpa using hb)).trans e
 done:=fun s Q E st hQ=>by
  obtain⟨hit,od,a,b,c⟩:=st;exact ab6 hh hit a c (by simp) fun h' he=>hQ h' s.toks fun b o hb e=>he b o (by simpa using hb) e
 self:=fun i s Q E st hQ=>wpAny_pyIter_keyiter st.1 hQ
theorem ab4 {d:Addr}{es:Array DictEntry}{ep:Nat}(lo:(d == sysModules)=false):KdlSrc prog w "dict" d d es.size (fun i v=>∃ e,es[i]? = some e/\v=e.key) (acB d es ep) where
 type:=fun s ⟨od,a,b,c⟩=>⟨od,a,b⟩
 there:=fun h ⟨od,a,b,c⟩=>⟨ae8 a,ae8 a⟩
 keep:=fun h h' ⟨od,a,b,c⟩ hk=>⟨od,hk d (.inl rfl) od a,b,c⟩
 notList:=by decide
 notTuple:=by decide
 hint:=fun A E s Q ⟨od,a,b,c⟩ hq=>kdl_hint_dict ⟨od,a,b⟩ hq
 iter:=fun A s hh hm=>by
  refine⟨{ cls:=.type "dict_keyiterator",data:=.fields #[.ref d,.int 0 0,.int es.size 0,.int ep 0] },_,fun E Q hq=>zM lo hm hq,xS hh _ d ?_ es ep,⟨_,afd _ rfl,rfl,rfl⟩,?_⟩
  ·obtain⟨od,a,b,c⟩:=hm;exact afm (ae8 a)
  ·obtain⟨od,a,b,c⟩:=hm;exact⟨od,aeV _ a,b,c⟩
theorem tO {A:Around}{E:Value->Shared->Prop}{s:Shared}{a:Addr}{R:List Value->Shared->Prop}{es:Array DictEntry}{ep:Nat}(hh:A.handled=none)(lo:(a == sysModules)=false)(x:acB a es ep s.heap)(hn:es.size<=sizeLine)
 (h:∀ (h':Heap) (tk:Nat) (acc:Array Value),(∀ b o,s.heap.get? b=some o->h'.get? b=some o)->s.heap.objs.size<=h'.objs.size->ItemsOf (fun i v=>∃ e,es[i]? = some e/\v=e.key) acc es.size->R acc.toList { s with heap:=h',toks:=tk }) :
 wpAny (model prog w) A (collect (.ref a)) R E s:=by
 have hlt:a < s.heap.objs.size:=let ⟨od,q,_⟩:=x;ae8 q;unfold collect;refine aeQ (ajk (agj aiD ?_));rw [aga ahJ _];show wpAny _ A.in1 (newList [] >>= fun l=>again (.builtin "list.__iadd__" ⟨[l,.ref a],[]⟩)) _ _ s;refine aeQ (af2 ?_);refine aeX ⟨ahq agG _,agj entry_list_iadd' ?_⟩;rw [aga agG _];have hS₁:(s.heap.push { cls:=.type "list",data:=.seq ([]:List Value).toArray }).get? s.heap.objs.size=some { cls:=.type "list",data:=.seq #[] }:=afd _ rfl;show wpAny _ A.in1 (Builtin.List.listExtendWith (.ref s.heap.objs.size) (.ref a) (.ref s.heap.objs.size)) _ _ _;have key:=kdl_extend (A:=A) (s:={ s with heap:=s.heap.push { cls:=.type "list",data:=.seq ([]:List Value).toArray } })
  (R:=fun (q:Result) (s':Shared)=>∃ (h':Heap) (tk:Nat) (acc':Array Value) (c':Nat),q=.ok (.ret (.ref s.heap.objs.size))/\s'={ s with heap:=h',toks:=tk } ∧
   (∀ b o,s.heap.get? b=some o->h'.get? b=some o)/\h'.get? s.heap.objs.size=some { cls:=.type "list",dict:=none,data:=.seq acc' c',slots:=#[] }/\ItemsOf (fun i v=>∃ e,es[i]? = some e/\v=e.key) acc' es.size)
  (ab4 (prog:=prog) (w:=w) (es:=es) (ep:=ep) lo) hh (let ⟨od,q,r⟩:=x;⟨od,aeV _ q,r⟩) s.heap.objs.size (ahm hlt) (ahm hlt) (.ref s.heap.objs.size) 0 hS₁
  (fun h' tk acc' c' hk hS' hacc=>⟨h',tk,acc',c',rfl,rfl,fun b o e=>hk b o (afm (ae8 e)) (aeV _ e),hS',hacc⟩) hn
 refine afL key (fun fin s' x=>?_) fun e s' x=>?_
 ·cases fin with
  | done f =>
   obtain⟨h',tk,acc',c',e,rfl,hk,hS',hacc⟩:=x;cases e;show wpAny _ A (load s.heap.objs.size >>= _) _ _ _;refine aeQ (aiO hS' ?_);exact aeX (h h' tk acc' hk (afo (ae8 hS')) hacc)
  | again c₁ =>
   refine⟨x.1,ag5 x.2 fun q s₂ y=>?_⟩;obtain⟨h',tk,acc',c',rfl,rfl,hk,hS',hacc⟩:=y;show wpAny _ A (load s.heap.objs.size >>= _) _ _ _;refine aeQ (aiO hS' ?_);exact aeX (h h' tk acc' hk (afo (ae8 hS')) hacc)
 ·obtain⟨_,_,_,_,e',_⟩:=x;cases e'
end
def TupLen (h:Heap)(v:Value)(n:Nat):Prop:=∃ t its,v=.ref t/\IsTup h t its/\its.size=n/\its.size<=sizeLine
theorem TupLen.keep {h h':Heap}{v:Value}{n:Nat}(q:TupLen h v n)(k:∀ b o,h.get? b=some o->o.cls=.type "tuple" → h'.get? b=some o):TupLen h' v n:=by
 obtain⟨t,its,rfl,⟨o,a,b,c⟩,e,l⟩:=q;exact⟨t,its,rfl,⟨o,k _ _ a b,b,c⟩,e,l⟩
theorem TupLen.inj {h:Heap}{v:Value}{n m:Nat}(q:TupLen h v n)(r:TupLen h v m):n=m:=by
 obtain⟨t,its,rfl,⟨o,a,b,k,c⟩,e,l⟩:=q;obtain⟨t',its',e',⟨o',a',b',k',c'⟩,e'',l'⟩:=r;cases e';rw [a] at a';cases a';rw [c] at c';cases c';lia
abbrev numKind:PyProof.Rows.KeyKind where
 α:=Int
 blt:=fun a b=>decide (a < b)
 irrefl:=fun a=>by simp
 trans:=fun a b c h1 h2=>by simp only [ago] at *;lia
 negTrans:=fun a b c h=>by simp only [ago] at *;lia
 total:=fun a b h1 h2=>by simp only [ahr] at *;lia
 keyOf:=fun v=>match v with
  | .int n _=>some n
  | _=>none
 dflt:=0
theorem pV:numKind.OneLt:=by
 intro prog w A E s x y a b Q ha hb h;cases x<;>simp only [numKind] at ha<;>cases ha
 cases y<;>simp only [numKind] at hb<;>cases hb
 exact oneLt_int h
abbrev ab8 (h:Heap):List Value->List Value->Prop:=Paired fun k v=>∃ (m:Nat) (t:Tok),k=.int (m:Int) t/\TupLen h v m
section
variable {prog:Program}{w:World}{A:Around}{E:Value->Shared->Prop}
theorem vi {K:Addr}{f:Value->PUnit->Sem (ForInStep PUnit)}
 (hf:∀ (x:Value) (s:Shared) (ks:List Value) (n m:Nat) (Q:ForInStep PUnit->Shared->Prop),s.heap.get? K=some (seqObj "list" ks.toArray n)->ks.length < sizeLine->TupLen s.heap x m →
  (∀ t,Q (.yield PUnit.unit) { s with heap:=s.heap.update K (Obj.mapSeq (·.push (.int (m:Int) t))),toks:=s.toks+1+1 })->wpAny (model prog w) A (f x PUnit.unit) Q E s) :
 ∀ (vs ks:List Value) (s:Shared) (n:Nat) (Q:PUnit->Shared->Prop),s.heap.get? K=some (seqObj "list" ks.toArray n)->(∀ v∈vs,∃ m,TupLen s.heap v m)->ks.length+vs.length<=sizeLine →
  (∀ h' tk ks' n',Heap.SameBut K s.heap h'->h'.get? K=some (seqObj "list" (ks++ks').toArray n')->ab8 s.heap ks' vs->Q PUnit.unit { s with heap:=h',toks:=tk })->wpAny (model prog w) A (forIn vs PUnit.unit f) Q E s
 | [],ks,s,n,Q,hK,_,_,h=>by
  rw [akB];exact aeX (h s.heap s.toks [] n (ajs _ _) (by simpa using hK) .nil)
 | v::vs,ks,s,n,Q,hK,hv,hl,h=>by
  rw [ah7];obtain⟨m,hm⟩:=hv v (by simp);rw [afr] at hl;refine aeQ (hf v s ks n m _ hK (by lia) hm fun t=>?_);have sb:Heap.SameBut K s.heap (s.heap.update K (Obj.mapSeq (·.push (.int (m:Int) t)))):=afX _ _ _;have kp:∀ b o,s.heap.get? b=some o->o.cls=.type "tuple" → (s.heap.update K (Obj.mapSeq (·.push (.int (m:Int) t)))).get? b=some o:=fun b o e c=>by
   refine (sb.2 b fun z=>?_).trans e;subst z;rw [hK] at e;cases e;simp at c
  have kq:∀ b o,(s.heap.update K (Obj.mapSeq (·.push (.int (m:Int) t)))).get? b=some o->o.cls=.type "tuple" → s.heap.get? b=some o:=fun b o e c=>by
   by_cases z:b=K
   ·subst z;rw [get?_update_seq hK] at e;cases e;simp at c
   ·rw [← sb.2 b z];exact e
  refine vi hf vs (ks++[.int (m:Int) t]) _ (n+1) Q ?_ (fun u hu=>?_) (by rw [aeR];simp;lia) fun h' tk ks' n' sb' g kv=>?_
  ·show (s.heap.update K (Obj.mapSeq (·.push (.int (m:Int) t)))).get? K=_;rw [get?_update_seq hK];simp
  ·obtain⟨m',hm'⟩:=hv u (by simp [hu]);exact⟨m',hm'.keep kp⟩
  ·refine h h' tk (.int (m:Int) t::ks') n' (sb.trans sb') (by simpa using g) (.cons ⟨m,t,rfl,hm⟩ (Paired.mapP kv fun k v ⟨m,t,a,b⟩=>⟨m,t,a,b.keep kq⟩))
theorem kF {α:Type}(xs:Array α):xs.reverse.Perm xs:=af1.mpr (by rw [aiI];exact List.reverse_perm _)
theorem kH {h:Heap}:∀ {ks vs:List Value},ab8 h ks vs->∃ ns,IntsAre ks ns
 | [],_,_=>⟨[],.nil⟩
 | _::_,_,.cons ⟨m,t,e,_⟩ r=>let ⟨ns,q⟩:=kH r;⟨(m:Int)::ns,by rw [e];exact .cons _ _ q⟩
theorem k9 {h:Heap}:∀ {ks vs:List Value},ab8 h ks vs->∀ p∈ks.zip vs,∃ (m:Nat) (t:Tok),p.1=.int (m:Int) t/\TupLen h p.2 m
 | _,_,.nil,p,hp=>by simp at hp
 | _::_,_::_,.cons hh r,p,hp=>by
  rw [List.zip_cons_cons] at hp;rcases ae7.mp hp with rfl | hp
  ·exact hh
  ·exact k9 r p hp
theorem zE {s:Shared}{a:Addr}{vs:List Value}{n:Nat}{R:Fin->Shared->Prop}(ho:s.heap.get? a=some (seqObj "list" vs.toArray n))(hT:∀ v∈vs,∃ m,TupLen s.heap v m)(hz:vs.length<=sizeLine)
 (h:∀ (h':Heap) (tk:Nat) (out:List Value) (e:Nat),(∀ b o,b≠a->s.heap.get? b=some o->h'.get? b=some o)->s.heap.objs.size<=h'.objs.size->h'.get? a=some (seqObj "list" out.toArray e)->out.Perm vs →
  out.Pairwise (fun u v=>∀ m n,TupLen s.heap u m->TupLen s.heap v n->n<=m)->R (.done (.ret .none)) { s with heap:=h',toks:=tk }) :
 wpAny (model prog w) A (Builtin.«list.sort» ⟨[.ref a],[(Str.ofString "key",.builtin "len"),(Str.ofString "reverse",.bool true)]⟩) R E s:=by
 have la:a < s.heap.objs.size:=ae8 ho;have sv:vs.toArray.size=vs.length:=ae9 ..;have e1:List.lookup (Str.ofString "key") [(Str.ofString "key",Value.builtin "len"),(Str.ofString "reverse",Value.bool true)]=some (.builtin "len"):=by first | rfl | decide
 have e2:List.lookup (Str.ofString "reverse") [(Str.ofString "key",Value.builtin "len"),(Str.ofString "reverse",Value.bool true)]=some (.bool true):=by first | rfl | decide
 unfold Builtin.«list.sort»;dsimp only;rw [if_neg (by decide),if_neg (by decide)];refine aeQ ?_;rw [ah7];refine aeQ ?_;rw [if_neg (by decide)];refine aeX ?_;dsimp only;rw [ah7];refine aeQ ?_;rw [if_neg (by decide)];refine aeX ?_;dsimp only;rw [akB];refine aeX ?_;simp only [e1,e2,ajQ];refine aeQ (agc ?_);have ne:(Value.builtin "len" != Value.none)=true:=by decide
 simp only [ne,ahy];obtain⟨ep1,he1⟩:∃ e,(s.heap.update a (Obj.mapSeq fun _=>#[])).get? a=some (seqObj "list" #[] e):=⟨_,get?_update_seq ho (fun _=>#[])⟩;refine aeQ (listItems_at ho rfl (aeQ (listUpdate_at ho rfl ?_ (by rw [sv];exact hz) (afe _))));refine aeQ (seqEpoch_at he1 rfl (aeQ (wpAny_newTuple (aeQ (aiL (af5 ?_))))));dsimp only;have u1:∀ b o,b≠a->s.heap.get? b=some o->((s.heap.update a (Obj.mapSeq fun _=>#[])).push { cls:=.type "tuple",data:=.seq vs.toArray.toList.toArray }).get? b=some o:=fun b o hb e=>aeV _ (((afX _ _ _).2 b hb).trans e);have u2:((s.heap.update a (Obj.mapSeq fun _=>#[])).push { cls:=.type "tuple",data:=.seq vs.toArray.toList.toArray }).get? a=some (seqObj "list" #[] ep1):=aeV _ he1;have u3:s.heap.objs.size<=((s.heap.update a (Obj.mapSeq fun _=>#[])).push { cls:=.type "tuple",data:=.seq vs.toArray.toList.toArray }).objs.size:=by rw [ajv,ajV];lia
 generalize ((s.heap.update a (Obj.mapSeq fun _=>#[])).push { cls:=.type "tuple",data:=.seq vs.toArray.toList.toArray })=h1 at u1 u2 u3 ⊢;have gK:(h1.push { cls:=.type "list",data:=.seq ([]:List Value).toArray }).get? h1.objs.size=some (seqObj "list" ([]:List Value).toArray 0):=afd _ rfl;have u4:∀ b o,h1.get? b=some o->(h1.push { cls:=.type "list",data:=.seq ([]:List Value).toArray }).get? b=some o:=fun b o e=>aeV _ e;have u5:a≠h1.objs.size:=afm (afg la u3);have u8:s.heap.objs.size<=(h1.push { cls:=.type "list",data:=.seq ([]:List Value).toArray }).objs.size:=by rw [ajv];lia
 have u6:h1.objs.size<=(h1.push { cls:=.type "list",data:=.seq ([]:List Value).toArray }).objs.size:=by rw [ajv];lia
 have u7:∀ b o,b≠a->s.heap.get? b=some o->b≠h1.objs.size:=fun b o hb e z=>by
  have:=ae8 e;rw [z] at this;exact absurd this (Nat.not_lt.mpr u3)
 generalize (h1.push { cls:=.type "list",data:=.seq ([]:List Value).toArray })=h2 at gK u4 u6 u8 ⊢;generalize h1.objs.size=K at gK u5 u6 u7 ⊢;have na:∀ v m,TupLen s.heap v m->TupLen h2 v m:=fun v m q=>q.keep fun b o e c=>u4 _ _ (u1 b o (fun z=>by subst z;rw [ho] at e;cases e;simp at c) e);rw [List.forIn_toArray];refine aeQ (agO (aeQ (vi (K:=K) ?_ vs [] _ 0 _ gK (fun v hv=>let ⟨m,q⟩:=hT v hv;⟨m,na v m q⟩) (by simpa using hz) fun h3 tk ks n' sb g3 kv=>?_)))
 ·intro x s' ks n m Q hK hl ⟨t,its,ex,pl,en,el⟩ q;subst ex;have hn:=jt;refine aeQ (aiK (len_tuple pl (by lia) ?_));refine aeQ (listUpdate_at hK rfl ?_ ?_ ?_)
  ·rw [en];exact aeX (q _)
  ·simp only [ae9];lia
  ·simp only [Array.size_push,ae9];lia
 rw [aiU] at g3;have kl:ks.length=vs.length:=kv.length;have sk:ks.toArray.size=ks.length:=ae9 ..;have g3a:h3.get? a=some (seqObj "list" #[] ep1):=(sb.2 a u5).trans (u4 _ _ u2);refine aeQ (listItems_at g3 rfl (aeQ (agO ?_)));have fin:∀ (st:SortSt) (h4:Heap) (tk':Nat),h4=h3->(arrOf st).Perm (ks.toArray.zip vs.toArray)->failedOf st=none->((arrOf st).map (·.2)).reverse.toList.Pairwise (fun u v=>∀ m n,TupLen s.heap u m->TupLen s.heap v n->n<=m) →
  wpAny (model prog w) A (do
   Builtin.List.listUpdate (Value.ref K) fun x=>#[]
   letGo (Array.map (fun x=>x.fst) (arrOf st)).toList (failedOf st).toList
   let __do_lift ← seqEpoch a
   Builtin.List.listUpdate (Value.ref a) fun x=>(Array.map (fun x=>x.snd) (arrOf st)).reverse
   match failedOf st with
   | some e=>do
    rule "list.sort.comparison-raised"
    throw e
    if (__do_lift != ep1)=true then do
     rule "list.sort.modified"
     raiseErrorWords "ValueError" "list modified during sort"
     ret Value.none
    else ret Value.none
   | x =>
    if (__do_lift != ep1)=true then do
     rule "list.sort.modified"
     raiseErrorWords "ValueError" "list modified during sort"
     ret Value.none
    else ret Value.none) R E { s with heap:=h4,toks:=tk' }:=by
  intro st h4 tk' e4 hp hf hs;subst e4;have sz:(arrOf st).size=vs.length:=by
   rw [hp.size_eq,Array.size_zip,sk,sv,kl,alx]
  refine aeQ (listUpdate_at g3 rfl ?_ (by rw [sk,kl];exact hz) (afe _));refine aeQ (wpAny_letGo ?_);have g4:(h4.update K (Obj.mapSeq fun _=>#[])).get? a=some (seqObj "list" #[] ep1):=((afX _ _ _).2 a u5).trans g3a;refine aeQ (seqEpoch_at g4 rfl (aeQ (listUpdate_at g4 rfl ?_ (afe _) (by rw [ajh,Array.size_map,sz];lia))));rw [hf];simp only [ahN,afA,agF];have pm:((arrOf st).map (·.2)).reverse.toList.Perm vs:=by
   rw [aiI,Array.toList_map];refine (List.reverse_perm _).trans ?_;have:=(af1.mp hp).map Prod.snd;rw [Array.toList_zip] at this;rw [show (List.zip ks.toArray.toList vs.toArray.toList).map Prod.snd=vs from List.map_snd_zip (by simp [kl])] at this;exact this
  obtain⟨e5,he5⟩:∃ e,((h4.update K (Obj.mapSeq fun _=>#[])).update a (Obj.mapSeq fun _=>(Array.map (fun x=>x.snd) (arrOf st)).reverse)).get? a=some (seqObj "list" ((arrOf st).map (·.2)).reverse e):=⟨_,get?_update_seq g4 _⟩;refine aeX (h _ tk' ((arrOf st).map (·.2)).reverse.toList e5 (fun b o hb e=>?_) ?_ ?_ pm hs)
  ·refine ((afX _ _ _).2 b hb).trans (((afX _ _ _).2 b (u7 b o hb e)).trans ((sb.2 b (u7 b o hb e)).trans (u4 _ _ (u1 b o hb e))))
  ·show s.heap.objs.size<=((h4.update K _).update a _).objs.size;rw [ajV,ajV,sb.1];exact u8
  ·rw [ahR];exact he5
 by_cases q:vs.toArray.size < 2
 ·rw [if_pos q];refine aeQ (aeX ?_);rw [if_pos q];refine aeQ (aeX ?_);refine fin (SortSt.mk' general' (ks.toArray.zip vs.toArray).reverse #[] 7 none) h3 tk rfl (kF _) rfl ?_;have hl:((arrOf (SortSt.mk' general' (ks.toArray.zip vs.toArray).reverse #[] 7 none)).map (·.2)).reverse.toList.length < 2:=by
   rw [ae5,ajh,Array.size_map];show (ks.toArray.zip vs.toArray).reverse.size < 2;rw [ajh,Array.size_zip];lia
  generalize ((arrOf (SortSt.mk' general' (ks.toArray.zip vs.toArray).reverse #[] 7 none)).map (·.2)).reverse.toList=l at hl ⊢;rcases l with _ | ⟨x,_ | ⟨y,l⟩⟩
  ·exact .nil
  ·exact ajM _ _
  ·simp only [afr] at hl;lia
 rw [if_neg q];obtain⟨ns,hI⟩:∃ ns,IntsAre ks ns:=kH kv;have nb:¬ vs.length < 2:=by lia
 obtain⟨k1,k2,kr,rfl⟩:∃ x y r,ks=x::y::r:=by
  rcases ks with _ | ⟨x,_ | ⟨y,r⟩⟩
  ·simp at kl;lia
  ·simp at kl;lia
  ·exact⟨x,y,r,rfl⟩
 have ek:keyKind' (k1::k2::kr).toArray=pure oneType':=keyKind_ints hI;refine aeQ (ajJ ek ?_);rw [if_neg q];have hz0:((k1::k2::kr).toArray.zip vs.toArray).toList=(k1::k2::kr).zip vs:=by rw [Array.toList_zip]
 have go:wpAny (model prog w) A (sortRuns'.run (SortSt.mk' oneType' ((k1::k2::kr).toArray.zip vs.toArray).reverse #[] 7 none))
  (fun r s'=>s'={ s with heap:=h3,toks:=tk }/\(arrOf r.2).Perm ((k1::k2::kr).toArray.zip vs.toArray)/\failedOf r.2=none/\TS.SL numKind (arrOf r.2).toList) E { s with heap:=h3,toks:=tk } :=
  TS.wpS_sortAll (κ:=numKind) pV (a₀:=(k1::k2::kr).toArray.zip vs.toArray) (Q:=fun _ st'=>(arrOf st').Perm ((k1::k2::kr).toArray.zip vs.toArray)/\failedOf st'=none/\TS.SL numKind (arrOf st').toList)
   (fun p hp=>by rw [hz0] at hp;obtain⟨m,t,e,_⟩:=k9 kv p hp;exact⟨(m:Int),by rw [e]⟩) rfl rfl (kF _) rfl fun st' b1 b2 b3=>⟨b1,b2,b3⟩
 refine aeQ (afL go ?_ fun _ _ e=>e);rintro⟨⟨⟩,st'⟩ s' ⟨rfl,b1,b2,b3⟩;refine fin st' h3 tk rfl b1 b2 ?_;rw [aiI,Array.toList_map,List.pairwise_reverse,ail];refine ajC ?_ b3;intro x y hx hy hle m n hm hn;have hm':=na _ _ hm;have hn':=na _ _ hn;have px:=(af1.mp b1).mem_iff.mp hx;have py:=(af1.mp b1).mem_iff.mp hy;rw [hz0] at px py;obtain⟨mx,tx,ex,qx⟩:=k9 kv x px;obtain⟨my,ty,ey,qy⟩:=k9 kv y py;have e3:=qx.inj hn';have e4:=qy.inj hm';subst e3 e4;have hk:¬ ((my:Int) < (mx:Int)):=by
  have:numKind.kle (TS.kk numKind x) (TS.kk numKind y):=hle;simp only [TS.kk,ex,ey,KeyOrd.kle] at this;simpa using this
 lia
end
theorem qL (a:Value):argsOk "sorted" ⟨[a],[(Str.ofString "key",.builtin "len"),(Str.ofString "reverse",.bool true)]⟩:=by
 unfold argsOk
 first | rfl | kernel_rfl
theorem vQ (a:Value):argsOk "list.sort" ⟨[a],[(Str.ofString "key",.builtin "len"),(Str.ofString "reverse",.bool true)]⟩:=by
 unfold argsOk
 first | rfl | kernel_rfl
section
variable {prog:Program}{w:World}{A:Around}{E:Value->Shared->Prop}{s:Shared}
theorem vV {a:Addr}{es:Array DictEntry}{ep:Nat}{Q:Value->Shared->Prop}(hh:A.handled=none)(lo:(a == sysModules)=false)(x:acB a es ep s.heap)(hn:es.size<=sizeLine)(hT:∀ e∈es.toList,∃ m,TupLen s.heap e.key m)
 (h:∀ (h':Heap) (tk:Nat) (l:Addr) (out:List Value) (e:Nat),(∀ b o,s.heap.get? b=some o->h'.get? b=some o)->s.heap.objs.size<=l->h'.get? l=some (seqObj "list" out.toArray e)->out.Perm (es.toList.map (·.key)) →
  out.Pairwise (fun u v=>∀ m n,TupLen s.heap u m->TupLen s.heap v n->n<=m)->Q (.ref l) { s with heap:=h',toks:=tk }) :
 wpAny (model prog w) A (call (.builtin "sorted") [.ref a] [(Str.ofString "key",.builtin "len"),(Str.ofString "reverse",.bool true)]) Q E s:=by
 refine call_function_entry_kw kind_sorted plain_sorted entry_sorted (qL _) ?_;unfold Builtin.«sorted»;refine aeQ (m:=checkCount "sorted" 1 1 _) (aeX ?_);refine aeQ (tO (A:=A.in1) hh lo x hn fun h1 tk acc k1 hsz hacc=>?_);have hl0:acc.toList=es.toList.map (·.key):=by
  apply ahh;intro i;rw [afK,aeZ,afK];by_cases hi:i < es.size
  ·obtain⟨v,hv⟩:∃ v,acc[i]? = some v:=⟨acc[i]'(by rw [hacc.1];exact hi),by simp [hacc.1,hi]⟩;obtain⟨e,he,ev⟩:=hacc.2 i v hv;rw [hv,he,ev];rfl
  ·rw [aif (by rw [hacc.1];lia),aif (by lia)];rfl
 have hl1:acc.toList.length<=sizeLine:=by rw [ae5,hacc.1];exact hn
 refine aeQ (aiL ?_ hl1);show wpAny _ _ _ _ _ { s with heap:=h1.push (seqObj "list" acc.toList.toArray 0),toks:=tk };have hoL:(h1.push (seqObj "list" acc.toList.toArray 0)).get? h1.objs.size=some (seqObj "list" acc.toList.toArray 0):=afd _ rfl;have tl:∀ v m,TupLen s.heap v m->TupLen (h1.push (seqObj "list" acc.toList.toArray 0)) v m:=fun v m q=>q.keep fun b o e _=>aeV _ (k1 b o e);refine aeQ (af5 (wpAny_call_entry_kw ajl ⟨_,hoL,rfl⟩ aiX (zE hoL (fun v hv=>?_) hl1 fun h2 tk2 out e kp sz g pm pw=>⟨_,rfl,?_⟩) (vQ _)))
 ·rw [hl0] at hv;obtain⟨e,he,rfl⟩:=ae4.mp hv;obtain⟨m,q⟩:=hT e he;exact⟨m,tl _ _ q⟩
 refine aeX ⟨_,rfl,h h2 tk2 h1.objs.size out e (fun b o q=>kp b o (afm (ae8 (k1 b o q))) (aeV _ (k1 b o q))) hsz g (by rw [← hl0];exact pm) (pw.imp fun q m n a b=>q m n (tl _ _ a) (tl _ _ b))⟩
end
def z5 (te:TE):TE:=fun σ H Q=>te σ H fun x H1=>∃ a kvs,x=.ref a/\H1 a=some (.dT kvs)/\∀ (l:Addr) (ps:List (List Key×Addr)),H1 l=none->(ps.map (·.1)).Perm (kvs.map (·.1)) →
 ps.Pairwise (fun p q=>q.1.length<=p.1.length)->(∀ p∈ps,H1 p.2=some (.tup (p.1.map kV)))->Q (.ref l) (upd H1 l (.lst (ps.map fun p=>.ref p.2)))
theorem KT.back {H:Hp}{kvs:List (List Key×V)}{xs:List (List Key×Addr×Value)}(r:KT H kvs xs):kvs.map (·.1)=xs.map (·.1)/\∀ x∈xs,H x.2.1=some (.tup (x.1.map kV)):=by
 induction r with
 | nil=>exact⟨rfl,fun x hx=>nomatch hx⟩
 | @cons p q ps qs h t ih =>
  refine⟨by rw [afb,afb,ih.1,h.1],fun x hx=>?_⟩;rcases ae7.mp hx with rfl | hx
  ·rw [← h.1];exact h.2.1
  ·exact ih.2 x hx
theorem jr {α β:Type}{f:α->β}:∀ {l:List β} {xs:List α},l.Perm (xs.map f)->∃ ys:List α,ys.Perm xs/\ys.map f=l
 | [],xs,h=>by
  have:=h.length_eq;cases xs with
  | nil=>exact⟨[],.refl _,rfl⟩
  | cons x xs=>simp at this
 | b::l,xs,h=>by
  obtain⟨x,hx,rfl⟩:=ae4.mp (h.mem_iff.mp (ae0 ..));obtain⟨l1,l2,rfl⟩:=aic hx;have h2:l.Perm ((l1++l2).map f):=by
   have:=h;rw [ae2,afb] at this;have p2:=this.trans ahY;rw [ae2];exact p2.cons_inv
  obtain⟨ys,p,e⟩:=jr h2;exact⟨x::ys,(p.cons x).trans ahY.symm,by rw [afb,e]⟩
section
variable {X:Cx}{e:Expr}{te:TE}{p pos lp cp kp1 kp2:Pos}{j:Option Str}
theorem wN (hc:X.calm=true)(hg:Gl X "sorted")(hm:X.mg "sorted" = none)(hg2:Gl X "len")(hm2:X.mg "len" = none)(he:PE X e te)(hs:starEach [e] X.env=[(false,eval e X.env)]:=by rfl) :
 PE X (.Call (.Name "sorted" p) [e] [⟨some "key",.Name "len" lp,kp1⟩,⟨some "reverse",.Constant (.bool true) 0 cp,kp2⟩] pos) (z5 te):=by
 intro pins s σ H Q I h;refine ahB (iK I hg hm rfl ?_);rw [hs];refine callWith_builtin_kwB rfl rfl (evalArgs_kwB rfl ?_);show wpAny _ _ (spliced ((false,eval e X.env)::[])) _ _ s;refine ahA (thn (he pins s σ H _ I h) fun u s1 ⟨x,H1,I1,r1,a,kvs,ex,ed,q⟩=>aii ?_);subst ex;cases r1;show wpAny _ _ (evalAll [(do let v ← eval (.Name (Str.ofString "len") lp) X.env;standAt pos;pure v),(do let v ← eval (.Constant (.bool true) 0 cp) X.env;standAt pos;pure v)]) _ _ s1;refine wpAny_evalAll_cons (aeQ (iK I1 hg2 hm2 rfl (aeQ (agD (aeX (wpAny_evalAll_cons (aeQ (Constant_bool (aeQ (agD (aeX (wpAny_evalAll_nil ?_))))))))))));show wpAny _ _ (call (.builtin "sorted") [.ref a] [(Str.ofString "key",.builtin "len"),(Str.ofString "reverse",.bool true)]) _ _ s1;obtain⟨z,hd,xs,rel,dd⟩:=aca I1.hok ed;obtain⟨o,es,ep,ho,hcl,hda,hes,hkeys,hnd⟩:=dd;obtain⟨b1,b2⟩:=rel.back;have hl:es.size=kvs.length:=by
  have e1:=afJ List.length hes;have e2:=afJ List.length b1;simp at e1 e2;lia
 have hk:es.toList.map (·.key)=xs.map fun x=>Value.ref x.2.1:=by rw [hes,af7];rfl
 have tl:∀ x∈xs,TupLen s1.heap (.ref x.2.1) x.1.length:=fun x hx=>by
  obtain⟨l1,its,v1,v2⟩:=(show ObjOk X.prog X.w H1 s1.heap x.2.1 (.tup (x.1.map kV)) from I1.hok _ _ (b2 x hx));have:=v1.length;simp at this l1;exact⟨x.2.1,its.toArray,rfl,v2,by simp;lia,by simp;lia⟩
 refine vV (I1.ok.hd hc) hd ⟨o,ho,hcl.1,hda⟩ (by lia) (fun e he=>?_) fun h' tk l out ee k hz hg pm pw=>?_
 ·rw [hes] at he;obtain⟨x,hx,rfl⟩:=ae4.mp he;exact⟨_,tl x hx⟩
 rw [hk] at pm;obtain⟨ys,yp,ye⟩:=jr pm;subst ye;have ev:Vals (ys.map fun x=>V.ref x.2.1) (ys.map fun x=>Value.ref x.2.1):=by
  clear pm pw yp hg
  induction ys with
  | nil=>exact .nil
  | cons y ys ih=>exact .cons rfl ih
 have hlen:ys.length=kvs.length:=by
  have e2:=afJ List.length b1;simp at e2;rw [yp.length_eq];lia
 have em:(ys.map fun x=>(x.1,x.2.1)).map (fun p:List Key×Addr=>V.ref p.2)=ys.map fun x=>V.ref x.2.1:=by rw [af7];rfl
 have:=q l (ys.map fun x=>(x.1,x.2.1)) (I1.hok.fresh hz) (by rw [af7,b1];exact yp.map _) ?_ (fun p hp=>?_)
 ·rw [em] at this;refine⟨.ref l,_,I1.laid (t':=tk) (o:=.lst (ys.map fun x=>V.ref x.2.1)) k hz ⟨?_,_,ee,ev,hg⟩,rfl,this⟩;rw [aeP,hlen];exact z
 ·rw [ail] at pw ⊢;refine ajC ?_ pw;intro x y hx hy hh;exact hh _ _ (tl x (yp.mem_iff.mp hx)) (tl y (yp.mem_iff.mp hy))
 ·obtain⟨y,hy,rfl⟩:=ae4.mp hp;exact b2 y (yp.mem_iff.mp hy)
end
def aaJ (tk tv:TE):TE:=fun σ H Q=>∀ p,H p=none->tk σ (upd H p (.dT [])) fun x H1=>tv σ H1 fun y H2=>∃ b k,x=.ref b/\H2 p=some (.dT [])/\H2 b=some (.tup (k.map kV))/\Q (.ref p) (upd H2 p (.dT [(k,y)]))
section
variable {X:Cx}{k v:Expr}{tk tv:TE}{pos:Pos}
theorem aav (hu:X.A.units+1 < cLine)(hk:PE X k tk)(hv:PE X v tv):PE X (.Dict [some k] [v] pos) (aaJ tk tv):=by
 intro pins s σ H Q I h;have hn:=I.hok.fresh (ae1 s.heap.objs.size);have I1:=I.laid (a:=s.heap.objs.size) (o:=.dT []) (h':=s.heap.push { cls:=.type "dict",data:=.dict #[] }) (t':=s.toks) (fun _ _ q=>aeV _ q) (ae1 _) (vj s.heap I.big);rw [arm_eval_Dict,zip_pairTrees [some k] [v] X.env pos rfl rfl,dictDisplay_pairs _ (by intro z;have:=ajW [some k] [v] X.env pos rfl rfl;rw [z] at this;cases this) (by rw [ajW [some k] [v] X.env pos rfl rfl];show 1 < 17;decide)];refine aeQ (agD (aeQ ?_));unfold subDict;refine aeQ (akG (aeQ (af5 ?_)));rw [if_pos (by rw [ajW [some k] [v] X.env pos rfl rfl];show 1<=15;decide)];refine aeQ (thn ((zj hk hv (abE (X:=X))) pins _ σ _ (fun ps H2=>match ps with | [(x,y)]=>∃ b k,x=.ref b/\H2 s.heap.objs.size=some (.dT [])/\H2 b=some (.tup (k.map kV))/\Q (.ref s.heap.objs.size) (upd H2 s.heap.objs.size (.dT [(k,y)])) | _=>False) I1 (h _ hn)) fun ws s2 ⟨ps,H2,I2,rel,hq⟩=>?_);rcases rel with _ | ⟨⟨r1,r2⟩,_ | _⟩
 ·exact hq.elim
 rotate_left
 ·exact hq.elim
 rename_i pv pr _;obtain⟨x,y⟩:=pv;obtain⟨u1,u2⟩:=pr;obtain⟨b,ke,ex,e,eb,q⟩:=hq;cases (show x=V.ref b from ex);cases (show u1=Value.ref b from r1);refine af5 (aeQ ?_);rw [ah7];obtain⟨z,hd,xs,rl,dd⟩:=aca I2.hok e;cases rl;refine aeQ (aeQ (wpAny_dictSet_heap (Nat.lt_of_succ_lt hu) (oJ I2.hok eb) dd (fun h' dd' hs=>?_) (afe _)));refine aeX ?_;dsimp only;rw [akB];refine aeX (aeX (aeX (aeX ⟨.ref s.heap.objs.size,_,?_,rfl,q⟩)));obtain⟨qq,es,ep,hq,h2,h3,h4,_,h5⟩:=dd';refine jO I2 (by rw [e];exact True.intro) hs ⟨qq,hq⟩ ⟨by show 1<=sizeLine;decide,hd,_,(KT.put (H:=H2) (kvs:=[]) .nil ke eb r2).keeps fun c ys ec=>?_,qq,es,ep,hq,h2,h3,h4,h5⟩;rw [ah (bU ec e (fun z=>nomatch z))];exact ec
end
section
variable {prog:Program}{w:World}{A:Around}{E:Value->Shared->Prop}{s:Shared}
theorem vN {t:Addr}{vs:List Value}{ns:List Int}{Q:Value->Shared->Prop}(ht:IsTup s.heap t vs.toArray)(hI:IntsAre vs ns)(h64:vs.length < 64)
 (h:∀ (h1 h':Heap) (l:Addr) (out:List Value) (ns':List Int) (e:Nat),(∀ b o,s.heap.get? b=some o->h1.get? b=some o)->(∀ b o,h1.get? b=some o->h'.get? b=some o)->h1.objs.size<=l->h'.get? l=some (seqObj "list" out.toArray e)->IntsAre out ns'->ns'.Perm ns->ns'.Pairwise (·<=·)->Q (.ref l) { s with heap:=h' }) :
 wpAny (model prog w) A (call (.builtin "sorted") [.ref t]) Q E s:=by
 refine ahT kind_sorted plain_sorted entry_sorted (args_sorted1 _) ?_;unfold Builtin.«sorted»;obtain⟨o,ho,hc,n,hd⟩:=ht;have h64':vs.length<=sizeLine:=afo (afg h64 (by decide));refine aeQ (m:=checkCount "sorted" 1 1 _) (aeX (aeQ (wpAny_collect_seq t (.inr rfl) ho hc hd (fun h1 k1=>?_) (by simpa using h64'))));refine aeQ (aiL ?_ (by simpa using h64'));show wpAny _ _ _ _ _ { s with heap:=h1.push (seqObj "list" vs.toArray 0) };have hoL:(h1.push (seqObj "list" vs.toArray 0)).get? h1.objs.size=some (seqObj "list" vs.toArray 0):=afd _ rfl;refine aeQ (af5 (agx ajl ⟨_,hoL,rfl⟩ aiX (list_sort_tree hoL hI h64 fun out ns' a1 a2 a3=>⟨_,rfl,?_⟩) (args_list_sort _)));obtain⟨e,he⟩:=sortedHeap_at (vs:=vs) (out:=out) hoL;refine aeX ⟨_,rfl,h h1 _ h1.objs.size out.toList ns' e k1 (fun b o q1=>?_) (ae1 _) (by rw [ahR];exact he) a1 a2 a3⟩;rw [sortedHeap_old (afm (ae8 q1)) (by rw [ajv];exact agn (ae8 q1))];exact aeV _ q1
end
section
variable {X:Cx}{K:PySem.W.Frag}
def aaE (K:PySem.W.Frag):List V->Hp->VK->Prop:=fun xs H Q=>∃ (p:Addr) (ns:List Int),xs=[.ref p]/\H p=some (.tup (ns.map V.int))/\ns.length < 64/\∀ (l:Addr) (ns':List Int),H l=none->ns'.Perm ns->ns'.Pairwise (·<=·)->Q (.ref l) (upd H l (.lst (ns'.map V.int)))
theorem r8:di X (.builtin "sorted") (aaE X.K):=by
 intro pins s σ H xs us Q I r h;obtain⟨p,ns,rfl,hq,hl,q⟩:=h;obtain⟨u,rfl,rx⟩:=gZ r;cases rx;obtain⟨its,rv,pl,hz⟩:=I.tuple (aAB hq);have hlen:=rv.length;rw [aeP] at hlen;refine vN pl (oS rv) (by lia) fun h1 h' l out ns' e k1 k hs hg a1 a2 a3=>?_;have I1:Inv X pins σ H { s with heap:=h1 }:=I.kept (t':=s.toks) k1;have hlen':ns'.length=ns.length:=a2.length_eq;refine⟨.ref l,_,I1.laid (t':=s.toks) (o:=.lst (ns'.map V.int)) k hs ⟨?_,out,e,jj a1,hg⟩,rfl,q _ ns' (I1.hok.fresh hs) a2 a3⟩;rw [aeP];exact afo (afg (by lia:ns'.length < 64) (by decide))
def acD:R2:=fun x y H Q=>∃ a b xs ys,x=.ref a/\y=.ref b/\H a=some (.tup xs)/\H b=some (.tup ys)/\ys≠[]/\xs.length+ys.length<=sizeLine ∧
 (xs=[]->Q (.ref b) H)/\(xs≠[]->∀ p,H p=none->Q (.ref p) (upd H p (.tup (xs++ys))))
theorem ab9:OpR X (binaryOp .Add) acD:=by
 intro pins s σ H x y v u Q I rx ry h;obtain⟨a,b,xs,ys,rfl,rfl,ha,hb,hy,hz,q1,q2⟩:=h;cases rx;cases ry;by_cases hx:xs=[]
 ·subst hx;obtain⟨its,r1,⟨o1,p1,c1,n1,d1⟩,_⟩:=I.tuple (aAB ha);obtain⟨its2,r2,⟨o2,p2,c2,n2,d2⟩,_⟩:=I.tuple (aAB hb);cases r1;obtain⟨cl1,dd1,da1,sl1⟩:=o1;obtain⟨cl2,dd2,da2,sl2⟩:=o2;simp only at c1 d1 c2 d2;subst c1 d1 c2 d2;exact concat_meets ⟨_,p1,rfl⟩ ⟨_,p2,rfl⟩ ajO seq_tuple_add F.slot_tuple_add F.entry_tuple_add (F.args_tuple_add_2 _ _) (tuple_addW0 a b #[] its2.toArray n1 n2 dd1 dd2 sl1 sl2 rfl) ⟨p1,p2,⟨.ref b,H,I,rfl,q1 rfl⟩⟩
 ·exact abH pins s σ H (.ref a) (.ref b) (.ref a) (.ref b) Q I rfl rfl ⟨a,b,xs,ys,rfl,rfl,aAB ha,aAB hb,hx,hz,fun z=>absurd z hy,fun _=>q2 hx⟩
end
end L2
namespace K7
open PySem L2 PyProof.Rows
def kN (S:List Nat):List Key:=S.map fun (i:Nat)=>(Sum.inl (i:Int):Key)
theorem r9 (S:List Nat):(kN S).map kV=intsN S:=by
 unfold kN;rw [af7]
 rfl
theorem qP:∀ {S T:List Nat},kN S=kN T->S=T
 | [],[],_=>rfl
 | [],_::_,h=>by simp [kN] at h
 | _::_,[],h=>by simp [kN] at h
 | a::S,b::T,h=>by
  have h':(Sum.inl (a:Int):Key)::kN S=Sum.inl (b:Int)::kN T:=h;injection h' with h1 h2
  injection h1 with h1
  rw [qP h2,ak3 h1]
structure Ent where
 S:List Nat
 l:Addr
 ps:List (Addr×List Nat)
def iH (E:List Ent):List (List Key×V):=E.map fun e=>(kN e.S,V.ref e.l)
theorem yU {E:List Ent}(nd:(E.map (·.S)).Nodup){e:Ent}(he:e∈E):b9 (iH E) (kN e.S)=some (.ref e.l):=by
 induction E with
 | nil=>exact nomatch he
 | cons f E ih =>
  rw [afb,afG] at nd;show b9 ((kN f.S,V.ref f.l)::iH E) _=_;rcases ae7.mp he with rfl | he
  ·exact cj rfl
  ·rw [bY (fun z=>nd.1 (ae4.mpr ⟨e,he,(qP z).symm⟩))];exact ih nd.2 he
theorem ac8 {E:List Ent}{T:List Nat}(h:T ∉ E.map (·.S)):b9 (iH E) (kN T)=none:=by
 induction E with
 | nil=>rfl
 | cons f E ih =>
  rw [afb,ae7,not_or] at h;show b9 ((kN f.S,V.ref f.l)::iH E) _=_;rw [bY (fun z=>h.1 (qP z).symm)];exact ih h.2
def Upto (h:Hs)(Es:List (List Nat))(k:Nat)(e:Ent):Prop :=
 (∀ j,j < k->Nxt h e.S j->∃ p∈e.ps,Ins e.S j p.2)/\(∀ p∈e.ps,(∃ j,Nxt h e.S j/\Ins e.S j p.2)/\p.2∈Es)/\e.ps.length<=k
structure MetM (h:Hs)(E:List Ent)(ws:List (List Nat))(cur:List Nat)(i:Nat):Prop where
 nd:(E.map (·.S)).Nodup
 rc:∀ e∈E,RchS h e.S
 nil:([]:List Nat)∈E.map (·.S)
 wn:ws.Nodup
 we:∀ S∈ws,S∈E.map (·.S)
 pr:∀ e∈E,(e.S∈ws/\e.ps=[])\/(e.S ∉ ws/\Upto h (E.map (·.S)) (if e.S=cur then i else h.2.length) e)
def qo (E:List Ent)(S:List Nat)(p:Addr×List Nat):List Ent:=E.map fun e=>if e.S=S then { e with ps:=e.ps++[p] } else e
theorem lV (E:List Ent)(S:List Nat)(p:Addr×List Nat):(qo E S p).map (·.S)=E.map (·.S):=by
 unfold qo;rw [af7];refine ah0 fun e _=>?_;show (if e.S=S then _ else e).S=e.S;split<;>rfl
theorem acJ (E:List Ent)(S:List Nat)(p:Addr×List Nat):(qo E S p).map (·.l)=E.map (·.l):=by
 unfold qo;rw [af7];refine ah0 fun e _=>?_;show (if e.S=S then _ else e).l=e.l;split<;>rfl
theorem pZ (E:List Ent)(S:List Nat)(p:Addr×List Nat):iH (qo E S p)=iH E:=by
 unfold iH qo;rw [af7];refine ah0 fun e _=>?_;show (kN (if e.S=S then _ else e).S,V.ref (if e.S=S then _ else e).l)=_;split<;>rfl
theorem eU {E:List Ent}{S:List Nat}{p:Addr×List Nat}{f:Ent}(hf:f∈qo E S p):∃ e∈E,f.S=e.S/\f.l=e.l/\((e.S=S/\f.ps=e.ps++[p])\/(e.S≠S/\f.ps=e.ps)):=by
 obtain⟨e,he,rfl⟩:=ae4.mp hf;refine⟨e,he,?_⟩;by_cases z:e.S=S
 ·rw [if_pos z];exact⟨rfl,rfl,.inl ⟨z,rfl⟩⟩
 ·rw [if_neg z];exact⟨rfl,rfl,.inr ⟨z,rfl⟩⟩
theorem Upto.mono {h:Hs}{Es Es':List (List Nat)}{k:Nat}{e:Ent}(u:Upto h Es k e)(s:∀ T∈Es,T∈Es'):Upto h Es' k e:=⟨u.1,fun p hp=>⟨(u.2.1 p hp).1,s _ (u.2.1 p hp).2⟩,u.2.2⟩
section
variable {h:Hs}{E:List Ent}{ws:List (List Nat)}{S T:List Nat}{i:Nat}
theorem MetM.few (m:MetM h E ws S i):E.length<=2 ^ h.2.length:=by
 rw [← aeP (f:=(·.S))];exact aci m.nd fun S hS=>by
  obtain⟨e,he,rfl⟩:=ae4.mp hS;exact⟨(m.rc e he).1,(m.rc e he).lt⟩
theorem MetM.pop (m:MetM h E (ws++[S]) [] h.2.length):MetM h E ws S 0:=by
 have wn:=af3.mp m.wn;refine⟨m.nd,m.rc,m.nil,wn.1,fun T hT=>m.we T (by simp [hT]),fun e he=>?_⟩;rcases m.pr e he with ⟨a,b⟩ | ⟨a,b⟩
 ·rcases aeT.mp a with a | a
  ·exact .inl ⟨a,b⟩
  ·refine .inr ⟨fun z=>?_,?_⟩
   ·exact wn.2.2 e.S z S (by simp) (aeS.mp a)
   ·rw [if_pos (aeS.mp a)];exact⟨fun j hj=>absurd hj (by lia),(fun p hp=>by rw [b] at hp;exact nomatch hp),by rw [b];exact afe _⟩
 ·rw [aeT,not_or,aeS] at a;refine .inr ⟨a.1,?_⟩;rw [if_neg a.2];rw [ite_self] at b;exact b
theorem MetM.done (m:MetM h E ws S h.2.length):MetM h E ws [] h.2.length :=
 ⟨m.nd,m.rc,m.nil,m.wn,m.we,fun e he=>by have:=m.pr e he;rw [ite_self] at this ⊢;exact this⟩
theorem MetM.skip (m:MetM h E ws S i)(n:¬ Nxt h S i):MetM h E ws S (i+1) :=
 ⟨m.nd,m.rc,m.nil,m.wn,m.we,fun e he=>(m.pr e he).imp id fun ⟨a,b⟩=>⟨a,by
  by_cases z:e.S=S
  ·rw [if_pos z] at b ⊢;refine⟨fun j hj nx=>?_,b.2.1,Nat.le_succ_of_le b.2.2⟩;by_cases e2:j=i
   ·subst e2;rw [z] at nx;exact absurd nx n
   ·exact b.1 j (by lia) nx
  ·rw [if_neg z] at b ⊢;exact b⟩⟩
theorem MetM.old (m:MetM h E ws S i)(nw:S ∉ ws)(n:Nxt h S i)(s:Ins S i T)(hT:T∈E.map (·.S))(a:Addr):MetM h (qo E S (a,T)) ws S (i+1):=by
 refine⟨by rw [lV];exact m.nd,fun f hf=>?_,by rw [lV];exact m.nil,m.wn,by rw [lV];exact m.we,fun f hf=>?_⟩
 ·obtain⟨e,he,q,_⟩:=eU hf;rw [q];exact m.rc e he
 rw [lV];obtain⟨e,he,q1,q2,q3⟩:=eU hf;rcases q3 with ⟨z,q3⟩ | ⟨z,q3⟩
 ·refine .inr ⟨by rw [q1,z];exact nw,?_⟩;rcases m.pr e he with ⟨w,_⟩ | ⟨w,u⟩
  ·exact absurd (z▸w) nw
  rw [if_pos z] at u;rw [if_pos (q1.trans z)];unfold Upto;rw [q1,q3];refine⟨fun j hj nx=>?_,fun p hp=>?_,by rw [aeR];exact ahW u.2.2⟩
  ·by_cases e2:j=i
   ·subst e2;exact⟨(a,T),by simp,by rw [z];exact s⟩
   ·obtain⟨p,hp,ip⟩:=u.1 j (by lia) nx;exact⟨p,by simp [hp],ip⟩
  ·rcases aeT.mp hp with hp | hp
   ·exact u.2.1 p hp
   ·rw [aeS.mp hp,z];exact⟨⟨i,n,s⟩,hT⟩
 ·rcases m.pr e he with ⟨w,y⟩ | ⟨w,u⟩
  ·exact .inl ⟨by rw [q1];exact w,by rw [q3];exact y⟩
  ·refine .inr ⟨by rw [q1];exact w,?_⟩;rw [if_neg z] at u;rw [if_neg (by rw [q1];exact z)];unfold Upto;rw [q1,q3];exact u
theorem MetM.new (x:HouseD h)(m:MetM h E ws S i)(nw:S ∉ ws)(n:Nxt h S i)(s:Ins S i T)(hS:RchS h S)(hT:T ∉ E.map (·.S))(a l:Addr):MetM h (qo E S (a,T)++[⟨T,l,[]⟩]) (ws++[T]) S (i+1):=by
 have ne:T≠S:=fun z=>by have:=yr s;rw [z] at this;lia
 have eS:(qo E S (a,T)++[(⟨T,l,[]⟩:Ent)]).map (·.S)=E.map (·.S)++[T]:=by rw [ae2,lV];rfl
 have m1:∀ f∈qo E S (a,T),(f.S∈ws/\f.ps=[])\/(f.S ∉ ws/\Upto h (E.map (·.S)++[T]) (if f.S=S then i+1 else h.2.length) f):=fun f hf=>by
  obtain⟨e,he,q1,q2,q3⟩:=eU hf;rcases q3 with ⟨z,q3⟩ | ⟨z,q3⟩
  ·refine .inr ⟨by rw [q1,z];exact nw,?_⟩;rcases m.pr e he with ⟨w,_⟩ | ⟨w,u⟩
   ·exact absurd (z▸w) nw
   rw [if_pos z] at u;rw [if_pos (q1.trans z)];unfold Upto;rw [q1,q3];refine⟨fun j hj nx=>?_,fun p hp=>?_,by rw [aeR];exact ahW u.2.2⟩
   ·by_cases e2:j=i
    ·subst e2;exact⟨(a,T),by simp,by rw [z];exact s⟩
    ·obtain⟨p,hp,ip⟩:=u.1 j (by lia) nx;exact⟨p,by simp [hp],ip⟩
   ·rcases aeT.mp hp with hp | hp
    ·exact⟨(u.2.1 p hp).1,aeT.mpr (.inl (u.2.1 p hp).2)⟩
    ·rw [aeS.mp hp,z];exact⟨⟨i,n,s⟩,by simp⟩
  ·rcases m.pr e he with ⟨w,y⟩ | ⟨w,u⟩
   ·exact .inl ⟨by rw [q1];exact w,by rw [q3];exact y⟩
   ·refine .inr ⟨by rw [q1];exact w,?_⟩;rw [if_neg z] at u;rw [if_neg (by rw [q1];exact z)];unfold Upto;rw [q1,q3];exact u.mono fun T' h'=>aeT.mpr (.inl h')
 refine⟨?_,fun f hf=>?_,?_,?_,fun T' h'=>?_,fun f hf=>?_⟩
 ·rw [eS,af3];exact⟨m.nd,by simp,fun u hu v hv=>by rw [aeS.mp hv];exact fun z=>hT (z▸hu)⟩
 ·rcases aeT.mp hf with hf | hf
  ·obtain⟨e,he,q,_⟩:=eU hf;rw [q];exact m.rc e he
  ·rw [aeS.mp hf];exact zJ x hS n s
 ·rw [eS];exact aeT.mpr (.inl m.nil)
 ·rw [af3];exact⟨m.wn,by simp,fun u hu v hv=>by rw [aeS.mp hv];exact fun z=>hT (z▸m.we u hu)⟩
 ·rw [eS];rcases aeT.mp h' with h' | h'
  ·exact aeT.mpr (.inl (m.we _ h'))
  ·exact aeT.mpr (.inr h')
 ·rw [eS];rcases aeT.mp hf with hf | hf
  ·rcases m1 f hf with ⟨a,b⟩ | ⟨a,b⟩
   ·exact .inl ⟨aeT.mpr (.inl a),b⟩
   ·refine .inr ⟨fun z=>?_,b⟩;rcases aeT.mp z with z | z
    ·exact a z
    ·obtain⟨e,he,q,_⟩:=eU hf;exact hT (by rw [← aeS.mp z,q];exact ae4.mpr ⟨e,he,rfl⟩)
  ·rw [aeS.mp hf];exact .inl ⟨by simp,rfl⟩
theorem MetM.full (m:MetM h E [] [] h.2.length){e:Ent}(he:e∈E):Upto h (E.map (·.S)) h.2.length e:=by
 rcases m.pr e he with ⟨w,_⟩ | ⟨_,u⟩
 ·exact nomatch w
 ·rw [ite_self] at u;exact u
theorem MetM.all (x:HouseD h)(m:MetM h E [] [] h.2.length){o:List Nat}(g:Gone h.1 h.2 o)(p:o.Perm S)(asc:Asc S):S∈E.map (·.S):=by
 obtain⟨S',h1,p'⟩:=acy x m.nil (fun T hT j nx=>by
  obtain⟨e,he,rfl⟩:=ae4.mp hT;obtain⟨p,hp,ip⟩:=(m.full he).1 j nx.1 nx;exact⟨p.2,((m.full he).2.1 p hp).2,ip⟩) (fun T hT=>by
  obtain⟨e,he,rfl⟩:=ae4.mp hT;exact m.rc e he) o g
 obtain⟨e,he,rfl⟩:=ae4.mp h1;rw [tL asc (m.rc e he).1 (p.symm.trans p')];exact h1
theorem MetM.can (x:HouseD h)(m:MetM h E [] [] h.2.length){e:Ent}(he:e∈E):abg h e.S↔(e.S.length=h.2.length\/∃ p∈e.ps,abg h p.2):=by
 rw [y4 x (m.rc e he)];refine or_congr .rfl ⟨fun ⟨j,T,nx,s,c⟩=>?_,fun ⟨p,hp,c⟩=>?_⟩
 ·obtain⟨p,hp,ip⟩:=(m.full he).1 j nx.1 nx;exact⟨p,hp,by rw [abt ip s];exact c⟩
 ·obtain⟨⟨j,nx,s⟩,_⟩:=(m.full he).2.1 p hp;exact⟨j,p.2,nx,s,c⟩
end
abbrev ji (ps:List (Addr×List Nat)):List V:=ps.map fun p=>V.ref p.1
structure MetH (H H':Hp)(wA mA lA:Addr)(E:List Ent)(ws:List (Addr×List Nat))(ls:List V):Prop where
 sm:Same H H'
 nw:H wA=none
 nm:H mA=none
 nl:H lA=none
 wl:wA≠lA
 w:H' wA=some (.lst (ji ws))
 m:H' mA=some (.dT (iH E))
 l:H' lA=some (.lst ls)
 el:∀ e∈E,H e.l=none/\e.l≠wA/\e.l≠lA/\H' e.l=some (.lst (ji e.ps))
 ln:(E.map (·.l)).Nodup
 tw:∀ p∈ws,H' p.1=some (.tup (intsN p.2))
 te:∀ e∈E,∀ p∈e.ps,H' p.1=some (.tup (intsN p.2))
section
variable {H H' H2:Hp}{wA mA lA:Addr}{E:List Ent}{ws:List (Addr×List Nat)}{ls:List V}
theorem MetH.same (m:MetH H H' wA mA lA E ws ls)(s:Same H' H2):MetH H H2 wA mA lA E ws ls :=
 ⟨m.sm.trans s,m.nw,m.nm,m.nl,m.wl,s _ _ m.w,s _ _ m.m,s _ _ m.l,fun e he=>let ⟨a,b,c,d⟩:=m.el e he;⟨a,b,c,s _ _ d⟩,m.ln,fun p hp=>s _ _ (m.tw p hp),fun e he p hp=>s _ _ (m.te e he p hp)⟩
theorem MetH.but {x:Addr}{xs:List V}(m:MetH H H' wA mA lA E ws ls)(hx:H' x=some (.lst xs))(x0:H x=none)(x1:x≠wA)(x2:x≠lA)(x3:∀ e∈E,x≠e.l)(B:But x H' H2):MetH H H2 wA mA lA E ws ls :=
 ⟨fun b u e=>B b u (af e x0) (m.sm b u e),m.nw,m.nm,m.nl,m.wl,B _ _ x1.symm m.w,B _ _ (bU m.m hx (by intro z;cases z)) m.m,B _ _ x2.symm m.l,
  fun e he=>let ⟨a,b,c,d⟩:=m.el e he;⟨a,b,c,B _ _ (x3 e he).symm d⟩,m.ln,fun p hp=>B _ _ (bU (m.tw p hp) hx (by intro z;cases z)) (m.tw p hp),fun e he p hp=>B _ _ (bU (m.te e he p hp) hx (by intro z;cases z)) (m.te e he p hp)⟩
theorem MetH.pop {a:Addr}{S:List Nat}(m:MetH H H' wA mA lA E (ws++[(a,S)]) ls):MetH H (upd H' wA (.lst (ji ws))) wA mA lA E ws ls:=by
 have nt:∀ b ys,H' b=some (.tup ys)->b≠wA:=fun b ys e=>bU e m.w (by intro z;cases z);refine⟨fun b u e=>?_,m.nw,m.nm,m.nl,m.wl,ag,?_,?_,fun e he=>?_,m.ln,fun p hp=>?_,fun e he p hp=>?_⟩
 ·rw [ah (af e m.nw)];exact m.sm b u e
 ·rw [ah (bU m.m m.w (by intro z;cases z))];exact m.m
 ·rw [ah m.wl.symm];exact m.l
 ·obtain⟨a,b,c,d⟩:=m.el e he;exact⟨a,b,c,by rw [ah b];exact d⟩
 ·have:=m.tw p (aeT.mpr (.inl hp));rw [ah (nt _ _ this)];exact this
 ·have:=m.te e he p hp;rw [ah (nt _ _ this)];exact this
theorem MetH.line (m:MetH H H' wA mA lA E ws ls)(x:V):MetH H (upd H' lA (.lst (ls++[x]))) wA mA lA E ws (ls++[x]):=by
 have nt:∀ b ys,H' b=some (.tup ys)->b≠lA:=fun b ys e=>bU e m.l (by intro z;cases z);refine⟨fun b u e=>?_,m.nw,m.nm,m.nl,m.wl,?_,?_,ag,fun e he=>?_,m.ln,fun p hp=>?_,fun e he p hp=>?_⟩
 ·rw [ah (af e m.nl)];exact m.sm b u e
 ·rw [ah m.wl];exact m.w
 ·rw [ah (bU m.m m.l (by intro z;cases z))];exact m.m
 ·obtain⟨a,b,c,d⟩:=m.el e he;exact⟨a,b,c,by rw [ah c];exact d⟩
 ·have:=m.tw p hp;rw [ah (nt _ _ this)];exact this
 ·have:=m.te e he p hp;rw [ah (nt _ _ this)];exact this
theorem abD {E:List Ent}(nd:(E.map (·.S)).Nodup){e f:Ent}(he:e∈E)(hf:f∈E)(z:e.S=f.S):e=f:=by
 induction E with
 | nil=>exact nomatch he
 | cons g E ih =>
  rw [afb,afG] at nd;rcases ae7.mp he with e1 | e1
  ·rcases ae7.mp hf with f1 | f1
   ·rw [e1,f1]
   ·exact (nd.1 (ae4.mpr ⟨f,f1,by rw [← z,e1]⟩)).elim
  ·rcases ae7.mp hf with f1 | f1
   ·exact (nd.1 (ae4.mpr ⟨e,e1,by rw [z,f1]⟩)).elim
   ·exact ih nd.2 e1 f1
theorem ab3 {E:List Ent}(ln:(E.map (·.l)).Nodup){e f:Ent}(he:e∈E)(hf:f∈E)(z:e.l=f.l):e=f:=by
 induction E with
 | nil=>exact nomatch he
 | cons g E ih =>
  rw [afb,afG] at ln;rcases ae7.mp he with e1 | e1
  ·rcases ae7.mp hf with f1 | f1
   ·rw [e1,f1]
   ·exact (ln.1 (ae4.mpr ⟨f,f1,by rw [← z,e1]⟩)).elim
  ·rcases ae7.mp hf with f1 | f1
   ·exact (ln.1 (ae4.mpr ⟨e,e1,by rw [z,f1]⟩)).elim
   ·exact ih ln.2 e1 f1
theorem MetH.app (m:MetH H H' wA mA lA E ws ls)(nd:(E.map (·.S)).Nodup){e:Ent}(he:e∈E){a:Addr}{T:List Nat}(ha:H' a=some (.tup (intsN T))) :
 MetH H (upd H' e.l (.lst (ji e.ps++[.ref a]))) wA mA lA (qo E e.S (a,T)) ws ls:=by
 obtain⟨e0,e1,e2,e3⟩:=m.el e he;have nt:∀ b ys,H' b=some (.tup ys)->b≠e.l:=fun b ys q=>bU q e3 (by intro z;cases z);refine⟨fun b u q=>?_,m.nw,m.nm,m.nl,m.wl,?_,?_,?_,fun f hf=>?_,by rw [acJ];exact m.ln,fun p hp=>?_,fun f hf p hp=>?_⟩
 ·rw [ah (af q e0)];exact m.sm b u q
 ·rw [ah e1.symm];exact m.w
 ·rw [pZ,ah (bU m.m e3 (by intro z;cases z))];exact m.m
 ·rw [ah e2.symm];exact m.l
 ·obtain⟨g,hg,q1,q2,q3⟩:=eU hf;obtain⟨g0,g1,g2,g3⟩:=m.el g hg;rw [q2];refine⟨g0,g1,g2,?_⟩;rcases q3 with ⟨z,q3⟩ | ⟨z,q3⟩
  ·have:=abD nd hg he z;subst this;rw [ag,q3];unfold ji;rw [ae2]
   rfl
  ·rw [ah (fun y=>z (by rw [ab3 m.ln hg he y])),q3];exact g3
 ·have:=m.tw p hp;rw [ah (nt _ _ this)];exact this
 ·obtain⟨g,hg,q1,q2,q3⟩:=eU hf;have:H' p.1=some (.tup (intsN p.2)):=by
   rcases q3 with ⟨z,q3⟩ | ⟨z,q3⟩
   ·rw [q3] at hp;rcases aeT.mp hp with hp | hp
    ·exact m.te g hg p hp
    ·rw [aeS.mp hp];exact ha
   ·rw [q3] at hp;exact m.te g hg p hp
  rw [ah (nt _ _ this)];exact this
theorem MetH.put (m:MetH H H' wA mA lA E ws ls){a l:Addr}{T:List Nat}(ha:H' a=some (.tup (intsN T)))(nl:H' l=none) :
 MetH H (upd (upd (upd H' l (.lst [])) mA (.dT (iH E++[(kN T,.ref l)]))) wA (.lst (ji ws++[.ref a]))) wA mA lA (E++[⟨T,l,[]⟩]) (ws++[(a,T)]) ls:=by
 have nw:wA≠l:=af m.w nl;have nm:mA≠l:=af m.m nl;have nL:lA≠l:=af m.l nl;have wm:wA≠mA:=bU m.w m.m (by intro z;cases z);have lm:lA≠mA:=bU m.l m.m (by intro z;cases z);have nt:∀ b ys,H' b=some (.tup ys)->(upd (upd (upd H' l (.lst [])) mA (.dT (iH E++[(kN T,.ref l)]))) wA (.lst (ji ws++[.ref a]))) b=some (.tup ys):=fun b ys q=>by
  rw [ah (bU q m.w (by intro z;cases z)),ah (bU q m.m (by intro z;cases z)),ah (af q nl)];exact q
 refine⟨fun b u q=>?_,m.nw,m.nm,m.nl,m.wl,?_,?_,?_,fun f hf=>?_,?_,fun p hp=>nt _ _ ?_,fun f hf p hp=>nt _ _ ?_⟩
 ·rw [ah (af q m.nw),ah (af q m.nm),ah (af (m.sm b u q) nl)];exact m.sm b u q
 ·rw [ag];unfold ji;rw [ae2];rfl
 ·rw [ah wm.symm,ag];unfold iH;rw [ae2];rfl
 ·rw [ah m.wl.symm,ah lm,ah nL];exact m.l
 ·rcases aeT.mp hf with hf | hf
  ·obtain⟨a,b,c,d⟩:=m.el f hf;exact⟨a,b,c,by rw [ah b,ah (bU d m.m (by intro z;cases z)),ah (af d nl)];exact d⟩
  ·rw [aeS.mp hf];exact⟨m.sm.free nl,nw.symm,nL.symm,by show upd _ wA _ l=_;rw [ah nw.symm,ah nm.symm,ag];rfl⟩
 ·rw [ae2,af3];refine⟨m.ln,by simp,fun u hu v hv=>?_⟩;obtain⟨e,he,rfl⟩:=ae4.mp hu;have:v=l:=by simpa using hv
  rw [this];obtain⟨a,b,c,d⟩:=m.el e he;exact af d nl
 ·rcases aeT.mp hp with hp | hp
  ·exact m.tw p hp
  ·rw [aeS.mp hp];exact ha
 ·rcases aeT.mp hf with hf | hf
  ·exact m.te f hf p hp
  ·rw [aeS.mp hf] at hp;exact nomatch hp
theorem abw {H:Hp}{a b:Addr}{xs ys:List V}{Q:VK}(ha:H a=some (.tup xs))(hb:H b=some (.tup ys))(hy:ys≠[])(hz:xs.length+ys.length<=sizeLine)(key:∀ (c:Addr) (G:Hp),Same H G->G c=some (.tup (xs++ys))->Q (.ref c) G):acD (.ref a) (.ref b) H Q :=
 ⟨a,b,xs,ys,rfl,rfl,ha,hb,hy,hz,fun e=>key b H (Same.refl H) (by rw [e];exact hb),fun _ p np=>key p _ (aq np) ag⟩
theorem adg {S:List Nat}{i:Nat}{ns:List Int}(asc:Asc S)(ni:i ∉ S)(p:ns.Perm ((S++[i]).map fun (j:Nat)=>(j:Int)))(so:ns.Pairwise (·<=·)):∃ T,ns=T.map (fun (j:Nat)=>(j:Int))/\Ins S i T:=by
 obtain⟨T,pT,eT⟩:=jr p;refine⟨T,eT.symm,pT,?_⟩;rw [← eT,ail] at so;have nd:T.Nodup:=pT.nodup_iff.mpr (by
  rw [af3];exact⟨List.Pairwise.imp (fun h=>afm h) asc,by simp,fun u hu v hv=>by rw [aeS.mp hv];exact fun z=>ni (z▸hu)⟩)
 exact (so.and nd).imp fun ⟨a,b⟩=>by lia
theorem tF (hand:List Str)(k:Str):(([k].filter fun z=>decide (hand.count z < [k].count z)).map V.str).isEmpty=mF hand [k]:=by
 have e:[k].count k=1:=by simp
 unfold mF;rw [agy,ah4,e];by_cases z:hand.count k < 1
 ·rw [if_pos (afv z),afw (by lia)]
  rfl
 ·rw [if_neg (by simpa using z),afv (by lia)]
  rfl
end
theorem zg {H:Hp}:∀ {ws:List (Addr×List Nat)},(∀ p∈ws,H p.1=some (.tup (intsN p.2)))->SeesAll H (ji ws) (ws.map fun p=>PyData.tuple (p.2.map fun (i:Nat)=>PyData.int (i:Int)))
 | [],_=>.nil
 | p::ws,h=>.cons (.tup (h p (by simp)) (by
  have:∀ l:List Nat,SeesAll H (intsN l) (l.map fun (i:Nat)=>PyData.int (i:Int)):=fun l=>by
   induction l with
   | nil=>exact .nil
   | cons a l ih=>exact .cons (.int _) ih
  exact this p.2)) (zg fun q hq=>h q (by simp [hq]))
theorem aaL:∀ ws:List (Addr×List Nat),PyData.canLayAll0 (ws.map fun p=>PyData.tuple (p.2.map fun (i:Nat)=>PyData.int (i:Int)))=true
 | []=>rfl
 | p::ws=>by
  have:∀ l:List Nat,PyData.canLayAll0 (l.map fun (i:Nat)=>PyData.int (i:Int))=true:=fun l=>by
   induction l with
   | nil=>rfl
   | cons a l ih=>exact ih
  show (PyData.canLayAll0 (p.2.map fun (i:Nat)=>PyData.int (i:Int)) && PyData.canLayAll0 (ws.map fun p=>PyData.tuple (p.2.map fun (i:Nat)=>PyData.int (i:Int))))=true;rw [this,aaL ws]
  rfl
def aaK (h:Hs)(gvs:List (List Key×V))(S:List Nat):Prop:=∃ c:Bool,b9 gvs (kN S)=some (.bl c)/\(c=true↔abg h S)
def aaT:Sp:=fun vs H Q _=>∃ (v:V) (l:Addr) (h:Hs),vs=[v,.ref l]/\HouseAt H v h/\HouseD h/\h.2.length<=8/\H l=some (.lst []) ∧
 ∀ (g:Addr) (gvs:List (List Key×V)) (H':Hp),Same H H'->H g=none->H' g=some (.dT gvs)->(∀ S o,Gone h.1 h.2 o->o.Perm S->Asc S->aaK h gvs S)->Q (.ref g) H'
inductive WI (h:Hs)(t l0:Addr)(H:Hp)(m:Nat)(σ:L2.St)(H':Hp):Prop
 | mk (wA mA lA:Addr) (E:List Ent) (ws:List (Addr×List Nat)) (ls:List V) (x5 x6 x7 x8 x9 x10 x11 x12:Option V) :
  σ=[some (.ref t),some (.ref l0),some (.ref wA),some (.ref mA),some (.ref lA),x5,x6,x7,x8,x9,x10,x11,x12] →
  MetH H H' wA mA lA E ws ls->MetM h E (ws.map (·.2)) [] h.2.length->ls.length+ws.length=E.length->m+ls.length=256->WI h t l0 H m σ H'
inductive WE (h:Hs)(t l0:Addr)(H:Hp)(σ:L2.St)(H':Hp):Prop
 | mk (wA mA lA:Addr) (E:List Ent) (ls:List V) (x5 x6 x7 x8 x9 x10 x11 x12:Option V) :
  σ=[some (.ref t),some (.ref l0),some (.ref wA),some (.ref mA),some (.ref lA),x5,x6,x7,x8,x9,x10,x11,x12] →
  MetH H H' wA mA lA E [] ls->MetM h E [] [] h.2.length->WE h t l0 H σ H'
inductive HI (t l wA mA lA tS hA:Addr)(x9 x10 x11 x12:Option V)(Hb:Hp)(hand:List Str)(σ:L2.St)(H':Hp):Prop
 | mk (x7 x8:Option V):σ=[some (.ref t),some (.ref l),some (.ref wA),some (.ref mA),some (.ref lA),some (.ref tS),some (.ref hA),x7,x8,x9,x10,x11,x12]->But hA Hb H'->H' hA=some (.lst (hand.map V.str))->HI t l wA mA lA tS hA x9 x10 x11 x12 Hb hand σ H'
inductive RI (h:Hs)(t l wA mA lA tS hA:Addr)(S:List Nat)(H:Hp)(k i:Nat)(σ:L2.St)(H':Hp):Prop
 | mk (E:List Ent) (ws:List (Addr×List Nat)) (ls:List V) (x7 x8 x9 x10 x11 x12:Option V) :
  σ=[some (.ref t),some (.ref l),some (.ref wA),some (.ref mA),some (.ref lA),some (.ref tS),some (.ref hA),x7,x8,x9,x10,x11,x12] →
  MetH H H' wA mA lA E ws ls->MetM h E (ws.map (·.2)) S i->S ∉ ws.map (·.2)->S∈E.map (·.S)->ls.length+ws.length=E.length->ls.length=k->H' tS=some (.tup (intsN S))->H' hA=some (.lst ((kR h S).map V.str))->hA≠wA->(∀ e∈E,hA≠e.l)->RI h t l wA mA lA tS hA S H k i σ H'
inductive GI (h:Hs)(t l wA mA lA gA:Addr)(E:List Ent)(ps:List (List Key×Addr))(Hb:Hp)(k:Nat)(σ:L2.St)(H':Hp):Prop
 | mk (gvs:List (List Key×V)) (x5 x6 x7 x8 x9 x10 x11:Option V) :
  σ=[some (.ref t),some (.ref l),some (.ref wA),some (.ref mA),some (.ref lA),x5,x6,x7,x8,x9,x10,x11,some (.ref gA)]->But gA Hb H'->H' gA=some (.dT gvs)->gvs.length<=k →
  (∀ j p,j < k->ps[j]? = some p->∀ e∈E,p.1=kN e.S->aaK h gvs e.S)->GI h t l wA mA lA gA E ps Hb k σ H'
theorem xg (h:Hs)(S:List Nat){j:Nat}(hj:j < S.length):(S.take (j+1)).flatMap (fun i=>(bh h.2 i).2)=(S.take j).flatMap (fun i=>(bh h.2 i).2)++(bh h.2 S[j]).2:=by
 rw [afk,aeO hj,aie,afY];simp
theorem vD (h:Hs)(S:List Nat)(b:List Str){j:Nat}(hj:j < S.length):((ck h S).take (j+1)).foldl List.erase b=(((ck h S).take j).foldl List.erase b).erase (aw (bh h.2 S[j])):=by
 have hj':j < (ck h S).length:=by unfold ck;rw [aeP];exact hj
 rw [afk,aeO hj',aie,ajy];simp [ck]
section
variable {P:Program}{w:World}{K:PySem.W.Frag}{mg:Str->Option Value}{base:Heap}
theorem aY:aJ ["house","first","waiting","met","line","here","hand","room","kind","locks","short","behind","good"] ["house","first"] (ar dy):=scM rfl rfl rfl rfl (by decide +kernel)
theorem oo:(["kind","locks","hand"]:List Str).Nodup:=by decide +kernel
theorem oi:(["behind","good"]:List Str).Nodup:=by decide +kernel
theorem aby {f:Addr}{fd:FuncData}(F:Fun K "_law_sets" "_law_sets" dy f fd)(aU:mg "len" = none)(bz:mg "list" = none)(aP:mg "range" = none)(aV:mg "sorted" = none)(fV:mg "tuple" = none):bF P w K mg base CX0 1 f fd ["house","first"] aaT:=by
 refine F.ok aY (fun vs H Q E h=>?_) (fun cdv A outer s H vs Q E hr h=>?_)
 ·obtain⟨v,l,h,rfl,_⟩:=h
  rfl
 ·have hu:=i6 hr;obtain⟨v,l,h,rfl,⟨t,a,r,us,rfl,ht,ha,hrr,hR⟩,hD,h8,hl,q⟩:=h;refine⟨_,(aj (aD (i:=2) aY.nd rfl (.inl rfl) (c9 (ae (aZ gk rfl fV (by decide +kernel) (ae (ax gD rfl aV aha (ae (pv 1) ai)) ai)) ai)))
   (aj (aD (i:=3) aY.nd rfl (.inl rfl) (aav hu (aF aT (pv 2) ak (fun _ _=>rfl)) fm))
   (aj (aD (i:=4) aY.nd rfl (.inl rfl) fm)
   (aj (aR (gj afq (aH gw (pv 2) fm (aM _))
    (aj (aD (i:=5) aY.nd rfl (.inl rfl) (u0 ae3 agl agm yc (pv 2)))
    (aj (bq (dc ae3 afH afI bJ (pv 4) (ae (pv 5) ai)))
    (aj (aD (i:=6) aY.nd rfl (.inr rfl) (aZ bu rfl bz (by decide +kernel) (ae (aF aO (pv 0) ak (fun _ _=>rfl)) ai)))
    (aj (aR (b4 afq rfl (aaM (pv 5)) (az (i:=7) aY.nd rfl (.inl rfl))
     (au (bq (dc ae3 agP agQ gE (pv 6) (ae (aF aO (aF aT (aF aO (pv 0) ak (fun _ _=>rfl)) (pv 7) (fun _ _=>rfl)) ak (fun _ _=>rfl)) ai))))))
    (aj (aR (b4 afq rfl (aaM (pv 5)) (az (i:=7) aY.nd rfl (.inl rfl))
     (au (aR (b4 afq rfl (aX (aF aO (aF aT (aF aO (pv 0) ak (fun _ _=>rfl)) (pv 7) (fun _ _=>rfl)) ak (fun _ _=>rfl))) (az (i:=8) aY.nd rfl (.inl rfl))
      (au (bq (dc ae3 ahj ahk jm (pv 6) (ae (pv 8) ai)))))))))
    (au (aR (b4 afq rfl (bK rfl aP (ae (ax aA rfl aU afi (ae (aF aO (pv 0) ak (fun _ _=>rfl)) ai)) ai)) (az (i:=7) aY.nd rfl (.inl rfl))
     (aj (aD (i:=9) aY.nd rfl (.inr rfl) (aF aO (aF aT (aF aO (pv 0) ak (fun _ _=>rfl)) (pv 7) (fun _ _=>rfl)) ak (fun _ _=>rfl)))
     (aj (eO (i:=10) (tg:=.Name "kind" _) (outer:=ar (dy)) (N:=["house","first","waiting","met","line","here","hand","room","kind","locks","short","behind","good"]) (N':=["kind","locks","hand"]) (nl:=1) (ix:=[9,6]) aY.nd rfl (.inl rfl) rfl rfl rfl (aX (pv 9))
    (fun _ _ _ _=>(az (i:=0) oo rfl (.inl rfl) (.inr rfl))) (fun _ _ _ _=>(dM (aH zb (j8 (K:=K) rfl ae3 agI agJ iF (pv 1) (ae (pv 0) ai)) (j8 (K:=K) rfl ae3 agI agJ iF (pv 2) (ae (pv 0) ai)) (aM _))))
    (fun _ _ _ _=>(pv 0)))
     (au (aR (cu (PW.pt (ki (aH kJ (pv 7) (pv 5) rfl) (gX (aH rq (pv 10) fm (aM _)))))
      (aj (aD (i:=11) aY.nd rfl (.inl rfl) (aZ gk rfl fV (by decide +kernel) (ae (ax r8 rfl aV aha (ae (aI ab9 (pv 5) (bZ (ae (pv 7) ai))) ai)) ai)))
      (aj (bq (dc ae3 afH afI bJ (gN hu (pv 3) (pv 5) (fun _ _=>rfl)) (ae (pv 11) ai)))
      (au (aR (cu (za (lg hu (pv 11) (pv 3)))
       (aj (iW hu (pv 3) (pv 11) fm rfl)
       (au (bq (dc ae3 afH afI bJ (pv 2) (ae (pv 11) ai))))) bf))))) bf)))))))))))))))
   (aj (aD (i:=12) aY.nd rfl (.inr rfl) z7)
   (aj (aR (b4 afq rfl (aX (wN rfl rfl aV rfl aU (pv 3))) (az (i:=5) aY.nd rfl (.inl rfl))
    (au (iW hu (pv 12) (pv 5) (ad0 (b7 gy (ax aA rfl aU afi (ae (pv 5) ai)) (ax aA rfl aU afi (ae (aF aO (pv 0) ak (fun _ _=>rfl)) ai)) (aM _)) (nQ (b7 mX jU (jP (tg:=.Name "behind" _) (outer:=ar (dy)) (N:=["house","first","waiting","met","line","here","hand","room","kind","locks","short","behind","good"]) (N':=["behind","good"]) (nl:=1) (ix:=[12]) rfl rfl rfl (aX (gN hu (pv 3) (pv 5) (fun _ _=>rfl)))
    (fun _ _ _ _=>(az (i:=0) oi rfl (.inl rfl) (.inr rfl))) (fun _ _ _ _=>bX)
    (fun _ _ _ _=>(gN hu (pv 1) (pv 0) (fun _ _=>rfl)))) rfl))) rfl))))
   (au (aQ (pv 12))))))))),?_⟩
  refine⟨_,rfl,l,[],rfl,aAA hl,by decide,fun l1 ns' n1 p1 _=>⟨l1,[],rfl,.inl ⟨aAA (by rw [ag,List.perm_nil.mp p1];rfl),fun l2 n2=>⟨by show 1<=sizeLine;decide,fun wA nw=>?_⟩⟩⟩⟩;have s1:Same H (upd H l1 (.lst (ns'.map V.int))):=aq n1;generalize upd H l1 (.lst (ns'.map V.int))=H1 at *;have s2:=s1.trans (aq (o:=.tup []) n2);have e2:(upd H1 l2 (.tup [])) l2=some (.tup []):=ag;generalize upd H1 l2 (.tup [])=H2 at *;have s3:=s2.trans (aq (o:=.lst [.ref l2]) nw);have e3:=aq (o:=.lst [.ref l2]) nw _ _ e2;have w3:(upd H2 wA (.lst [.ref l2])) wA=some (.lst [.ref l2]):=ag;have nw0:=s2.free nw;show bg 2 (V.ref wA) _ (upd H2 wA (.lst [.ref l2])) _;generalize upd H2 wA (.lst [.ref l2])=H3 at *;show sd (aaJ _ _) _ _ _ _;intro mA nm;have s4:=s3.trans (aq (o:=.dT []) nm);have e4:=aq (o:=.dT []) nm _ _ e3;have w4:=aq (o:=.dT []) nm _ _ w3;have m4:(upd H3 mA (.dT [])) mA=some (.dT []):=ag;have nm0:=s3.free nm;generalize upd H3 mA (.dT [])=H4 at *;refine⟨_,rfl,wA,_,0,.ref l2,rfl,rfl,aAA w4,rfl,?_⟩;refine⟨afe _,fun l5 n5=>⟨l2,kN [],rfl,aq n5 _ _ m4,aq n5 _ _ e4,?_⟩⟩;have s5:=s4.trans (aq (o:=.lst []) n5);have e5:=aq (o:=.lst []) n5 _ _ e4;have w5:=aq (o:=.lst []) n5 _ _ w4;have m5:=aq (o:=.lst []) n5 _ _ m4;have l5e:(upd H4 l5 (.lst [])) l5=some (.lst []):=ag;have n50:=s4.free n5;have w5n:wA≠l5:=af w4 n5;generalize upd H4 l5 (.lst [])=H5 at *;show bg 3 (V.ref mA) _ (upd H5 mA (.dT [(kN [],.ref l5)])) _;have B6:∀ b u,b≠mA->H5 b=some u->(upd H5 mA (.dT [(kN [],.ref l5)])) b=some u:=fun b u nb e=>by rw [ah nb];exact e
  have m6:(upd H5 mA (.dT [(kN [],.ref l5)])) mA=some (.dT [(kN [],.ref l5)]):=ag;have wm:wA≠mA:=bU w5 m5 (by intro z;cases z);have lm:l5≠mA:=bU l5e m5 (by intro z;cases z);have s6:Same H (upd H5 mA (.dT [(kN [],.ref l5)])):=fun b u e=>B6 b u (af e nm0) (s5 b u e);have w6:=B6 _ _ wm w5;have l6:=B6 _ _ lm l5e;have e6:=B6 _ _ (bU e5 m5 (by intro z;cases z)) e5;generalize upd H5 mA (.dT [(kN [],.ref l5)])=H6 at *;refine⟨afe _,fun lA nL=>?_⟩;have s7:=s6.trans (aq (o:=.lst []) nL);have M0:MetH H (upd H6 lA (.lst [])) wA mA lA [⟨[],l5,[]⟩] [(l2,[])] []:=by
   have k7:=aq (o:=.lst []) nL;refine⟨s7,nw0,nm0,s6.free nL,af w6 nL,k7 _ _ w6,k7 _ _ m6,ag,fun e he=>?_,by simp,fun p hp=>?_,fun e he p hp=>?_⟩
   ·rw [aeS.mp he];exact⟨n50,w5n.symm,af l6 nL,k7 _ _ l6⟩
   ·rw [aeS.mp hp];exact k7 _ _ e6
   ·rw [aeS.mp he] at hp;exact nomatch hp
  show bg 4 (V.ref lA) _ (upd H6 lA (.lst [])) _;generalize upd H6 lA (.lst [])=H7 at *;have Mm:MetM h [⟨[],l5,[]⟩] ([((l2,[]):Addr×List Nat)].map (·.2)) [] h.2.length:=by
   refine⟨by simp,fun e he=>?_,by simp,by simp,by simp,fun e he=>?_⟩
   ·rw [aeS.mp he];exact abQ
   ·rw [aeS.mp he];exact .inl ⟨by simp,rfl⟩
  clear s1 s2 s3 s4 s5 s6 s7 e2 e3 e4 e5 e6 w3 w4 w5 w6 m4 m5 m6 l5e l6 B6 n1 n2 nw nm n5 nL nw0 nm0 n50 w5n wm lm;refine⟨fun σ' H'=>WE h t l H σ' H',?_,?_⟩
  ·rintro σ H3 ⟨wA,mA,lA,Es,ls,x5,x6,x7,x8,x9,x10,x11,x12,rfl,mh,mm⟩;have few:=mm.few;have p8:2 ^ h.2.length<=2 ^ 8:=Nat.pow_le_pow_right (by decide) h8;intro gA nG;have mh4:=mh.same (aq (o:=.dT []) nG);have g4:(upd H3 gA (.dT [])) gA=some (.dT []):=ag;have nG0:=mh.sm.free nG;have gm:gA≠mA:=(af mh.m nG).symm;show bg 12 (V.ref gA) _ (upd H3 gA (.dT [])) _;generalize upd H3 gA (.dT [])=H4 at *;clear mh nG;refine⟨fun σ' H'=>∃ ps Hb,(∀ e∈Es,∃ j p,j < Es.length/\ps[j]? = some p/\p.1=kN e.S)/\Same H Hb/\GI h t l wA mA lA gA Es ps Hb Es.length σ' H',?_,?_⟩
   ·rintro σ H5 ⟨ps,Hb,hall,sm,gvs,y5,y6,y7,y8,y9,y10,y11,rfl,B,g5,_,hg⟩;refine⟨_,rfl,q gA gvs H5 (fun b u e=>B b u (af e nG0) (sm b u e)) nG0 g5 fun S o g pm asc=>?_⟩;obtain⟨e,he,rfl⟩:=ae4.mp (mm.all hD g pm asc);obtain⟨j,p,hj,hp,ep⟩:=hall e he;exact hg j p hj hp e he ep
   refine⟨_,rfl,mA,_,rfl,mh4.m,fun sl ps nS pm pw tp=>?_⟩;have s5:=aq (o:=.lst (ps.map fun p=>V.ref p.2)) nS;have mh5:=mh4.same s5;have sl5:(upd H4 sl (.lst (ps.map fun p=>V.ref p.2))) sl=some (.lst (ps.map fun p=>V.ref p.2)):=ag;have g5:=s5 _ _ g4;have tp5:∀ p∈ps,(upd H4 sl (.lst (ps.map fun p=>V.ref p.2))) p.2=some (.tup (p.1.map kV)):=fun p hp=>s5 _ _ (tp p hp);generalize upd H4 sl (.lst (ps.map fun p=>V.ref p.2))=H5 at *;clear mh4 g4 s5 nS tp;have pk:∀ p∈ps,∃ e∈Es,p.1=kN e.S:=fun p hp=>by
    have:=pm.mem_iff.mp (ae4.mpr ⟨p,hp,rfl⟩);obtain⟨kv,hkv,ek⟩:=ae4.mp this;obtain⟨e,he,rfl⟩:=ae4.mp hkv;exact⟨e,he,ek.symm⟩
   have pl:ps.length=Es.length:=by
    have:=pm.length_eq;unfold iH at this;simpa using this
   have kp:∀ e∈Es,∃ j p,j < Es.length/\ps[j]? = some p/\p.1=kN e.S:=fun e he=>by
    have:kN e.S∈ps.map (·.1):=pm.mem_iff.mpr (ae4.mpr ⟨(kN e.S,.ref e.l),ae4.mpr ⟨e,he,rfl⟩,rfl⟩);obtain⟨p,hp,ep⟩:=ae4.mp this;obtain⟨j,hj,ej⟩:=ai7 hp;exact⟨j,p,by lia,by rw [aeO hj,ej],ep⟩
   refine⟨sl,rfl,⟨_,aAA sl5⟩,?_⟩;have sg:sl≠gA:=bU sl5 g5 (by intro z;cases z);refine bQ (xs:=ps.map fun p=>V.ref p.2) (fun k σ' H'=>GI h t l wA mA lA gA Es ps H5 k σ' H') ⟨[],_,_,_,_,_,_,_,rfl,fun b u _ e=>e,g5,afe _,fun j p hj=>absurd hj (by lia)⟩ (fun k σ H' _ ⟨_,_,_,_,_,_,_,_,_,B,_,_,_⟩=>aAA (B _ _ sg sl5)) ?_ (fun σ H' z=>⟨ps,H5,kp,mh5.sm,by rw [aeP,pl] at z;exact z⟩);rintro k x σ H6 hx ⟨gvs,y5,y6,y7,y8,y9,y10,y11,rfl,B,g6,gl,hg⟩;have hk:k < ps.length:=by
    have:=(aeU.mp hx).1
    rwa [aeP] at this
   rw [aeZ,aeO hk] at hx;cases hx;obtain⟨e,he,ek⟩:=pk _ (afh hk);have tk5:=tp5 _ (afh hk);have nt:∀ b ys,H5 b=some (.tup ys)->b≠gA:=fun b ys z=>bU z g5 (by intro z;cases z);have tk6:=B _ _ (nt _ _ tk5) tk5;rw [ek,r9] at tk6;have sm6:Same H H6:=fun b u e=>B b u (af e nG0) (mh5.sm b u e);refine⟨_,rfl,_,_,rfl,.inr (aAB tk6),?_⟩;refine⟨_,rfl,t,_,1,.ref r,rfl,rfl,aAB (sm6 _ _ ht),rfl,r,_,rfl,.inl (aAA (sm6 _ _ hrr)),?_⟩;rw [show (intsN e.S).length=e.S.length by unfold intsN;rw [aeP],hR.1];have fin:∀ (c:Bool) (H7:Hp),Same H6 H7->(c=true↔abg h e.S)->∃ H8,DPut H7 gA (V.ref ps[k].2) (.bl c) H8/\GI h t l wA mA lA gA Es ps H5 (k+1) [some (.ref t),some (.ref l),some (.ref wA),some (.ref mA),some (.ref lA),some (.ref ps[k].2),y6,y7,y8,y9,y10,y11,some (.ref gA)] H8:=by
    intro c H7 s7 hc;refine⟨_,DPut.t (k:=kN e.S) (s7 _ _ g6) (by rw [r9];exact s7 _ _ tk6) (afx gl (aC (by lia))),_,_,_,_,_,_,_,_,rfl,fun b u nb z=>by rw [ah nb];exact s7 b u (B b u nb z),ag,?_,fun j p hj hp e' he' ep=>?_⟩
    ·have:=dt gvs (kN e.S) (.bl c);lia
    ·by_cases z:kN e'.S=kN e.S
     ·refine⟨c,by rw [gq,if_pos z],?_⟩;rw [qP z];exact hc
     ·have jk:j≠k:=fun y=>by
       subst y;rw [aeO hk] at hp;cases hp;exact z (ep.symm.trans ek)
      obtain⟨c',v',w'⟩:=hg j p (by lia) hp e' he' ep;exact⟨c',by rw [gq,if_neg z];exact v',w'⟩
   refine⟨rfl,_,rfl,uI (fun hb=>?_) (fun hb=>?_)⟩
   ·obtain⟨H8,d8,z8⟩:=fin true H6 (Same.refl _) ⟨fun _=>(mm.can hD he).mpr (.inl (by have:=agW hb;injection this with this;exact ak3 this)),fun _=>rfl⟩;exact⟨_,rfl,_,rfl,gA,H8,rfl,d8,z8⟩
   have nfull:e.S.length≠h.2.length:=fun z=>hb (by rw [z];exact afv rfl);dsimp only [tOp,tC];refine aW _ _ _ _ _ _ _ _ _ ?_;obtain⟨e0,e1,e2,e3⟩:=mh5.el e he;have m6:=B _ _ gm.symm mh5.m;have dg:DGet H6 mA (.ref ps[k].2) (some (.ref e.l)):=by
    rw [← yU mm.nd he];exact DGet.t m6 (by rw [r9];exact tk6)
   have eg:e.l≠gA:=bU e3 g5 (by intro z;cases z);have e36:=B _ _ eg e3;have up:=mm.full he;refine⟨_,rfl,_,rfl,mA,.ref e.l,rfl,dg,e.l,rfl,⟨_,aAA e36⟩,?_⟩;intro D nD;refine bV (xs:=ji e.ps) (fun i ys H'=>(∃ bs:List Bool,ys=bs.map V.bl/\bs.length=i/\∀ (j:Nat) (b:Bool) (p:Addr×List Nat),bs[j]? = some b->e.ps[j]? = some p->(b=true↔abg h p.2))/\H' D=some (.lst ys)/\Same H6 H') ⟨⟨[],rfl,rfl,fun j b p z=>by simp at z⟩,ag,aq nD⟩ (fun i ys H' ⟨_,z,_⟩=>z) (fun i ys H' ⟨_,_,z⟩=>aAA (z _ _ e36)) ?_ ?_
   ·rintro i ys H7 x hx ⟨⟨bs,rfl,bl,hbs⟩,hD7,s7⟩;have hi:=(aeU.mp hx).1;have hi':i < e.ps.length:=by unfold ji at hi;rwa [aeP] at hi
    unfold ji at hx;rw [aeZ,aeO hi'] at hx;cases hx;have hp:=afh hi';obtain⟨⟨j0,nx0,in0⟩,hE⟩:=up.2.1 _ hp;obtain⟨e',he',eS'⟩:=ae4.mp hE;obtain⟨j,p',hj,hpj,ep'⟩:=kp e' he';have len1:=yr in0;have jk:j < k:=by
     apply afN;intro z;have hj':j < ps.length:=by lia
     rw [aeO hj'] at hpj;cases hpj;have kl:∀ S:List Nat,(kN S).length=S.length:=fun S=>by unfold kN;rw [aeP]
     by_cases y:j=k
     ·subst y;have:=qP (ek.symm.trans ep');rw [this,eS'] at len1;lia
     ·have:=agu.mp pw k j hk hj' (by lia);rw [ek,ep',kl,kl,eS'] at this;lia
    obtain⟨c,v,w⟩:=hg j p' jk hpj e' he' ep';rw [eS'] at v w;have t5:=mh5.te e he _ hp;have t7:=s7 _ _ (B _ _ (nt _ _ t5) t5);have dgg:DGet H7 gA (.ref e.ps[i].1) (some (.bl c)):=by
     rw [← v];exact DGet.t (s7 _ _ g6) (by rw [r9];exact t7)
    refine cZ rfl ?_;refine⟨_,rfl,_,rfl,gA,.bl c,rfl,dgg,hD7,by rw [aeP,bl];exact aC (by have:=up.2.2;lia),nx hi ⟨⟨bs++[c],by rw [ae2];rfl,by rw [aeR,bl];rfl,fun j b p hb' hp'=>?_⟩,ag,fun b u z=>?_⟩⟩
    ·by_cases y:j < i
     ·rw [agt (by lia)] at hb';exact hbs j b p hb' hp'
     ·have hj3:j=i:=by
       have:=(aeU.mp hb').1;rw [aeR] at this;simp at this;lia
      subst hj3;rw [afF (by lia),bl] at hb';simp at hb';subst hb';rw [aeO hi'] at hp';cases hp';exact w
    ·rw [ah (af z nD)];exact s7 b u z
   rintro ys H7 ⟨⟨bs,rfl,bl,hbs⟩,hD7,s7⟩;rw [show (ji e.ps).length=e.ps.length by unfold ji;rw [aeP]] at bl;have fl:(bs.map V.bl).all kO=true:=by
    rw [agR];intro x hx;obtain⟨b,_,rfl⟩:=ae4.mp hx
    rfl
   refine⟨D,_,rfl,.inl (aAA hD7),rfl,fl,?_⟩;have iv:inV (V.bl true) (bs.map V.bl)=bs.any id:=by
    unfold inV;rw [List.any_map];congr 1;funext b;cases b<;>rfl
   rw [iv];obtain⟨H8,d8,z8⟩:=fin (bs.any id) H7 s7 (by
    rw [mm.can hD he,List.any_eq_true];constructor
    ·rintro⟨b,hb',eb⟩;obtain⟨j,hj,ej⟩:=ai7 hb';right;have hj2:j < e.ps.length:=by lia
     exact⟨e.ps[j],afh hj2,(hbs j b _ (by rw [aeO hj,ej]) (aeO hj2)).mp eb⟩
    ·rintro (z | ⟨p,hp,cp⟩)
     ·exact absurd z nfull
     ·obtain⟨j,hj,ej⟩:=ai7 hp;have hj2:j < bs.length:=by lia
      exact⟨bs[j],afh hj2,(hbs j _ p (aeO hj2) (by rw [aeO hj,ej])).mpr cp⟩)
   exact⟨_,rfl,_,rfl,gA,H8,rfl,d8,z8⟩
  refine⟨fun m σ' H'=>WI h t l H m σ' H',⟨256,wA,mA,lA,_,_,_,none,none,none,none,none,none,none,none,rfl,M0,Mm,rfl,rfl⟩,?_⟩;clear M0 Mm;rintro m σ H3 ⟨wA,mA,lA,Es,ws,ls,x5,x6,x7,x8,x9,x10,x11,x12,rfl,mh,mm,hlen,hm⟩;have few:=mm.few;have p8:2 ^ h.2.length<=2 ^ 8:=Nat.pow_le_pow_right (by decide) h8;refine⟨_,rfl,afe _,fun lq nq=>?_⟩;have mh4:=mh.same (aq (o:=.lst []) nq);have eq4:(upd H3 lq (.lst [])) lq=some (.lst []):=ag;generalize upd H3 lq (.lst [])=H4 at *;refine gr mh4.w (zg mh4.tw) (aaL ws) eq4 hu ⟨_,rfl,?_⟩;clear mh eq4 nq;rcases akh ws with rfl | ⟨wr,⟨tS,S⟩,rfl⟩
  ·exact gz ⟨wA,mA,lA,Es,ls,_,_,_,_,_,_,_,_,rfl,mh4,mm⟩
  rw [aki] at *;have ne:(!(ji (wr++[(tS,S)])).isEmpty)=true:=by simp [ji]
  have hls:ls.length < 256:=by
   rw [aeR] at hlen;simp at hlen;lia
  rw [ne];refine fT ⟨fun σ' H'=>WI h t l H (m - 1) σ' H',fun σ' H' z=>⟨m - 1,?_,z⟩,?_⟩
  ·rw [aeR] at hlen;simp at hlen;lia
  have rS:RchS h S:=by
   obtain⟨e,he,ee⟩:=ae4.mp (mm.we S (by simp));rw [← ee];exact mm.rc e he
  have hS:S∈Es.map (·.S):=mm.we S (by simp);rw [ae2] at mm;have nSw:S ∉ wr.map (·.2):=fun z=>(af3.mp mm.wn).2.2 S z S (by simp) rfl;have mm5:=MetM.pop mm;have tS4:=mh4.tw (tS,S) (by simp);refine⟨_,rfl,.inl ⟨rfl,_,aAA mh4.w⟩,wA,_,.ref tS,rfl,rfl,mh4.w,by simp [ji],?_⟩;have ed:(ji (wr++[(tS,S)])).dropLast=ji wr:=by simp [ji]
  rw [ed];have mh5:=mh4.pop;have tS5:(upd H4 wA (.lst (ji wr))) tS=some (.tup (intsN S)):=by rw [ah (bU tS4 mh4.w (by intro z;cases z))];exact tS4
  show bg 5 (V.ref tS) _ (upd H4 wA (.lst (ji wr))) _;generalize upd H4 wA (.lst (ji wr))=H5 at *;clear mh4 tS4 mm;have lsl:ls.length<=256:=by lia
  refine⟨_,rfl,.inl ⟨rfl,_,aAA mh5.l⟩,_,rfl,lA,_,_,rfl,rfl,mh5.l,aC (by lia),?_⟩;have mh6:=mh5.line (.ref tS);have tS6:(upd H5 lA (.lst (ls++[.ref tS]))) tS=some (.tup (intsN S)):=by rw [ah (bU tS5 mh5.l (by intro z;cases z))];exact tS5
  generalize upd H5 lA (.lst (ls++[.ref tS]))=H6 at *;clear mh5 tS5;refine⟨_,rfl,t,_,0,.ref a,rfl,rfl,aAB (mh6.sm _ _ ht),rfl,a,_,rfl,.inl (aAA (mh6.sm _ _ ha)),fun hA nH=>?_⟩;have mh7:=mh6.same (aq (o:=.lst (h.1.map V.str)) nH);have tS7:=aq (o:=.lst (h.1.map V.str)) nH _ _ tS6;have hA7:(upd H6 hA (.lst (h.1.map V.str))) hA=some (.lst (h.1.map V.str)):=ag;have hA0:=mh6.sm.free nH;have hAw:hA≠wA:=(af mh6.w nH).symm;have hAl:hA≠lA:=(af mh6.l nH).symm;have hAe:∀ e∈Es,hA≠e.l:=fun e he=>(af (mh6.el e he).2.2.2 nH).symm;show bg 6 (V.ref hA) _ (upd H6 hA (.lst (h.1.map V.str))) _;generalize upd H6 hA (.lst (h.1.map V.str))=H7 at *;clear mh6 tS6 nH;have tSh:tS≠hA:=bU tS7 hA7 (by intro z;cases z);have Sl:=rS.len;have kl:=hD.ok.kl;refine⟨fun σ' H'=>HI t l wA mA lA tS hA x9 x10 x11 x12 H7 (ph h S) σ' H',?_,?_⟩;rotate_left
  ·refine⟨_,rfl,tS,rfl,⟨_,aAB tS7⟩,?_⟩;refine y1 (xs:=intsN S) (fun j σ' H'=>HI t l wA mA lA tS hA x9 x10 x11 x12 H7 (h.1++(S.take j).flatMap fun i=>(bh h.2 i).2) σ' H') ⟨x7,x8,rfl,fun b u _ e=>e,by simpa using hA7⟩ (fun j σ H' _ ⟨_,_,_,B,_⟩=>aAB (B _ _ tSh tS7)) ?_ (fun σ H' z=>by rw [show (intsN S).length=S.length by unfold intsN;rw [aeP],afs] at z;exact z);rintro j x σ H8 hx ⟨x7',x8',rfl,B,hh⟩;have hj:j < S.length:=by
    have:=(aeU.mp hx).1;unfold intsN at this
    rwa [aeP] at this
   unfold intsN at hx;rw [aeZ,aeO hj] at hx;cases hx;have hlt:=rS.lt _ (afh hj);have hn':S[j] < us.length:=by rw [hR.1];exact hlt
   have er:=cD hlt;have eu:us[S[j]]? = some us[S[j]]:=aeO hn';obtain⟨tt,dd,bb,et,g1,g2,g3⟩:=hR.2 _ _ _ eu er;have sm8:Same H H8:=fun b u e=>B b u (af e hA0) (mh7.sm b u e);refine⟨_,rfl,.inl ⟨rfl,_,aAA hh⟩,_,rfl,t,_,1,.ref r,rfl,rfl,aAB (sm8 _ _ ht),rfl,_,rfl,r,us,((S[j]:Nat):Int),us[S[j]],rfl,rfl,aAA (sm8 _ _ hrr),bw eu,tt,_,1,.ref bb,et,rfl,aAB (sm8 _ _ g1),rfl,hA,bb,_,_,rfl,rfl,hh,sm8 _ _ g3,?_,?_⟩
   ·rw [aeP,aeP,aeR];have h1:((S.take j).flatMap fun i=>(bh h.2 i).2).length<=1000 * (S.take j).length:=p7 fun i hi=>(hD.ok.rs _ (bx (rS.lt i (af0 hi)))).kl;have h2:=(hD.ok.rs _ (bx hlt)).kl;rw [afn] at h1;exact afo (afx (by lia:_<=20000) (by decide))
   ·refine⟨_,_,rfl,fun b u nb e=>by rw [ah nb];exact B b u nb e,?_⟩;rw [ag,xg h S hj];simp only [ae2,afa]
  rintro σ H8 ⟨x7',x8',rfl,B8,hh8⟩;have mh8:=mh7.but hA7 hA0 hAw hAl hAe B8;have tS8:=B8 _ _ tSh tS7;clear mh7 tS7 hA7 B8;refine⟨fun σ' H'=>HI t l wA mA lA tS hA x9 x10 x11 x12 H8 (kR h S) σ' H',?_,?_⟩;rotate_left
  ·refine⟨_,rfl,tS,rfl,⟨_,aAB tS8⟩,?_⟩;refine y1 (xs:=intsN S) (fun j σ' H'=>HI t l wA mA lA tS hA x9 x10 x11 x12 H8 (((ck h S).take j).foldl List.erase (ph h S)) σ' H') ⟨x7',x8',rfl,fun b u _ e=>e,hh8⟩ (fun j σ H' _ ⟨_,_,_,B,_⟩=>aAB (B _ _ tSh tS8)) ?_ (fun σ H' z=>by rw [show (intsN S).length=(ck h S).length by unfold intsN ck;rw [aeP,aeP],afs] at z;exact z);rintro j x σ H9 hx ⟨x7',x8',rfl,B,hh⟩;have hj:j < S.length:=by
    have:=(aeU.mp hx).1;unfold intsN at this
    rwa [aeP] at this
   unfold intsN at hx;rw [aeZ,aeO hj] at hx;cases hx;have hlt:=rS.lt _ (afh hj);have hn':S[j] < us.length:=by rw [hR.1];exact hlt
   have er:=cD hlt;have eu:us[S[j]]? = some us[S[j]]:=aeO hn';obtain⟨tt,dd,bb,et,g1,g2,g3⟩:=hR.2 _ _ _ eu er;have sm9:Same H H9:=fun b u e=>B b u (af e hA0) (mh8.sm b u e);have elk:=b5 hD _ (bx hlt);rw [elk] at g2;have hin:=acr hD rS hj;refine⟨fun σ' H'=>HI t l wA mA lA tS hA x9 x10 x11 x12 H8 (((ck h S).take (j+1)).foldl List.erase (ph h S)) σ' H',fun σ' H' z=>z,?_⟩;refine⟨_,rfl,t,_,1,.ref r,rfl,rfl,aAB (sm9 _ _ ht),rfl,_,rfl,r,us,((S[j]:Nat):Int),us[S[j]],rfl,rfl,aAA (sm9 _ _ hrr),bw eu,tt,_,0,.ref dd,et,rfl,aAB (sm9 _ _ g1),rfl,dd,rfl,⟨_,aAA (sm9 _ _ g2)⟩,?_⟩;have dh:dd≠hA:=af g2 hA0;refine bQ (xs:=[aw (bh h.2 S[j])].map V.str) (fun k σ' H'=>HI t l wA mA lA tS hA x9 x10 x11 x12 H8 (if k=0 then ((ck h S).take j).foldl List.erase (ph h S) else ((ck h S).take (j+1)).foldl List.erase (ph h S)) σ' H') ⟨_,x8',rfl,B,hh⟩ (fun k σ H' _ ⟨_,_,_,B',_⟩=>aAA (B' _ _ dh (mh8.sm _ _ g2))) ?_ (fun σ H' z=>by simpa using z);rintro k x σ H10 hx ⟨x7',x8',rfl,B',hh10⟩;have hk:k=0:=by
    have:=(aeU.mp hx).1;simp at this;exact this
   subst hk;cases hx;rw [if_pos rfl] at hh10;refine⟨_,rfl,.inl ⟨rfl,_,aAA hh10⟩,_,rfl,hA,_,_,rfl,rfl,hh10,hin,?_⟩;exact⟨_,_,rfl,fun b u nb e=>by rw [ah nb];exact B' b u nb e,by rw [ag,if_neg (by lia),vD h S _ hj]⟩
  rintro σ H9 ⟨x7',x8',rfl,B9,hh9⟩;have mh9:=mh8.but hh8 hA0 hAw hAl hAe B9;have tS9:=B9 _ _ tSh tS8;clear mh8 tS8 hh8 B9;have hk1:(ls++[V.ref tS]).length=ls.length+1:=by rw [aeR];rfl
  refine⟨fun σ' H'=>RI h t l wA mA lA tS hA S H (ls.length+1) h.2.length σ' H',?_,?_⟩
  ·rintro σ H10 ⟨E2,ws2,ls2,y7,y8,y9,y10,y11,y12,rfl,mh,mm,_,_,hl2,hk2,_,_,_,_⟩;exact⟨wA,mA,lA,E2,ws2,ls2,_,_,_,_,_,_,_,_,rfl,mh,mm.done,hl2,by lia⟩
  have rl:=hD.rl;refine⟨_,rfl,t,_,1,.ref r,rfl,rfl,aAB (mh9.sm _ _ ht),rfl,r,_,rfl,.inl (aAA (mh9.sm _ _ hrr)),_,rfl,by rw [hR.1];lia,by rw [hR.1];lia,?_⟩;rw [afj,hR.1];refine fu (fun i σ' H'=>RI h t l wA mA lA tS hA S H (ls.length+1) i σ' H') ⟨Es,wr,_,_,_,_,_,_,_,rfl,mh9,mm5,nSw,hS,by rw [aeR] at hlen;simp at hlen;rw [hk1];lia,hk1,tS9,hh9,hAw,hAe⟩ ?_ (fun σ H' z=>z);clear mh9 mm5 hh9 tS9 hAe nSw hS hlen few;rintro i σ H9 hi ⟨Es,wr,ls2,y7,y8,y9,y10,y11,y12,rfl,mh,mm,nSw,hS,hlen,hk2,tS9,hh9,_,hAe⟩;rw [ajf];have few:=mm.few;have hn':i < us.length:=by rw [hR.1];exact hi
  have er:=cD hi;have eu:us[i]? = some us[i]:=aeO hn';obtain⟨tt,dd,bb,et,g1,g2,g3⟩:=hR.2 _ _ _ eu er;have elk:=b5 hD _ (bx hi);rw [elk] at g2;have kok:bD (aw (bh h.2 i)):=(hD.ok.rs _ (bx hi)).lk _ (by rw [elk];simp);refine⟨_,rfl,t,_,1,.ref r,rfl,rfl,aAB (mh.sm _ _ ht),rfl,_,rfl,r,us,((i:Nat):Int),us[i],rfl,rfl,aAA (mh.sm _ _ hrr),bw eu,tt,_,0,.ref dd,et,rfl,aAB (mh.sm _ _ g1),rfl,?_⟩;dsimp only [bg,tI,sd];refine aW _ _ _ _ _ _ _ _ _ ?_;have d9:=mh.sm _ _ g2;refine⟨_,rfl,dd,rfl,⟨_,aAA d9⟩,?_⟩;intro D nD;refine dm (pb:=fun v=>match v with | .str z=>decide ((kR h S).count z < [aw (bh h.2 i)].count z) | _=>false) d9 nD (by rw [aeP];show 1<=1000000;decide) (fun x=>rfl) (fun G x R hx sG qq=>?_) (fun G x R qq=>⟨_,rfl,qq⟩) (fun H10 s10 hD10=>?_)
  ·obtain⟨z,hz,rfl⟩:=ae4.mp hx;refine⟨_,rfl,.inl ⟨rfl,_,aAA (sG _ _ d9)⟩,_,rfl,dd,_,z,rfl,rfl,sG _ _ d9,?_⟩;refine⟨_,rfl,.inl ⟨rfl,_,aAA (sG _ _ hh9)⟩,_,rfl,hA,_,z,rfl,rfl,sG _ _ hh9,?_⟩;refine⟨_,_,rfl,rfl,_,rfl,?_⟩;rw [show decide ((((kR h S).count z:Nat):Int) < (([aw (bh h.2 i)].count z:Nat):Int))=decide ((kR h S).count z < [aw (bh h.2 i)].count z) from aix.mpr Int.ofNat_lt];exact qq
  have efs:([aw (bh h.2 i)].map V.str).filter (fun v=>match v with | .str z=>decide ((kR h S).count z < [aw (bh h.2 i)].count z) | _=>false)=([aw (bh h.2 i)].filter fun z=>decide ((kR h S).count z < [aw (bh h.2 i)].count z)).map V.str:=ai4 ..;rw [efs] at hD10;have mh10:=mh.same s10;have tS10:=s10 _ _ tS9;have hh10:=s10 _ _ hh9;clear d9 mh tS9 hh9 s10 efs nD;refine⟨fun σ' H'=>RI h t l wA mA lA tS hA S H (ls.length+1) (i+1) σ' H',fun σ' H' z=>z,?_⟩;refine⟨_,rfl,_,rfl,tS,_,rfl,.inr (aAB tS10),rfl,m7 _,_,rfl,?_⟩;rw [uy];by_cases ni:i∈S
  ·rw [afv ni];refine gz (gz ?_);exact⟨Es,wr,ls2,_,_,_,_,_,_,rfl,mh10,mm.skip (fun z=>z.2.1 ni),nSw,hS,hlen,hk2,tS10,hh10,hAw,hAe⟩
  rw [afw ni];refine fT ?_;refine⟨_,rfl,afe _,fun lq nq=>?_⟩;have mh11:=mh10.same (aq (o:=.lst []) nq);have tS11:=aq (o:=.lst []) nq _ _ tS10;have hh11:=aq (o:=.lst []) nq _ _ hh10;have hD11:=aq (o:=.lst []) nq _ _ hD10;have eq11:(upd H10 lq (.lst [])) lq=some (.lst []):=ag;generalize upd H10 lq (.lst [])=H11 at *;clear mh10 tS10 hh10 hD10 nq;refine kY hD11 (SeesAll.strs _) (cP fun k hk=>by rw [aeS.mp (agh.mp hk).1];exact kok) eq11 hu ⟨_,rfl,?_⟩;rw [tF];cases hmay:mF (kR h S) [aw (bh h.2 i)] with
  | false =>
   refine gz ?_;exact⟨Es,wr,ls2,_,_,_,_,_,_,rfl,mh11,mm.skip (fun z=>by have:=z.2.2;rw [elk,hmay] at this;cases this),nSw,hS,hlen,hk2,tS11,hh11,hAw,hAe⟩
  | true =>
  have nx:Nxt h S i:=⟨hi,ni,by rw [elk];exact hmay⟩;refine fT ?_;refine⟨_,rfl,_,rfl,by show 1<=sizeLine;decide,fun t1 nt1=>?_⟩;have mh12:=mh11.same (aq (o:=.tup [.int (i:Int)]) nt1);have tS12:=aq (o:=.tup [.int (i:Int)]) nt1 _ _ tS11;have hh12:=aq (o:=.tup [.int (i:Int)]) nt1 _ _ hh11;have t12:(upd H11 t1 (.tup [.int (i:Int)])) t1=some (.tup [.int (i:Int)]):=ag;generalize upd H11 t1 (.tup [.int (i:Int)])=H12 at *;clear mh11 tS11 hh11 hD11 nt1 eq11;have SL:=rS.len;refine abw tS12 t12 (by simp) (by unfold intsN;rw [aeP];exact afo (aC (by simp;lia))) fun c G sG ec=>?_;have mh13:=mh12.same sG;have tS13:=sG _ _ tS12;have hh13:=sG _ _ hh12;clear mh12 tS12 hh12 t12 sG;have ec':G c=some (.tup (((S++[i]).map fun (j:Nat)=>(j:Int)).map V.int)):=by
   rw [ec,af7,ae2]
   rfl
  refine⟨c,_,rfl,ec',by rw [aeP,aeR];simp;lia,fun l1 ns' n1 pm so=>?_⟩;obtain⟨T,rfl,ins⟩:=adg rS.1 ni pm so;have eT:(T.map fun (j:Nat)=>(j:Int)).map V.int=intsN T:=by rw [af7];rfl
  rw [eT];have mh14:=mh13.same (aq (o:=.lst (intsN T)) n1);have tS14:=aq (o:=.lst (intsN T)) n1 _ _ tS13;have hh14:=aq (o:=.lst (intsN T)) n1 _ _ hh13;have l14:(upd G l1 (.lst (intsN T))) l1=some (.lst (intsN T)):=ag;generalize upd G l1 (.lst (intsN T))=H14 at *;clear mh13 tS13 hh13 n1 ec ec';refine⟨l1,_,rfl,.inl ⟨aAA l14,fun tT nT=>?_⟩⟩;have mh15:=mh14.same (aq (o:=.tup (intsN T)) nT);have tS15:=aq (o:=.tup (intsN T)) nT _ _ tS14;have hh15:=aq (o:=.tup (intsN T)) nT _ _ hh14;have t15:(upd H14 tT (.tup (intsN T))) tT=some (.tup (intsN T)):=ag;show bg 11 (V.ref tT) _ (upd H14 tT (.tup (intsN T))) _;generalize upd H14 tT (.tup (intsN T))=H15 at *;clear mh14 tS14 hh14 l14 nT pm so;obtain⟨e,he,eS⟩:=ae4.mp hS;obtain⟨e0,e1,e2,e3⟩:=mh15.el e he;have up:Upto h (Es.map (·.S)) i e:=by
   rcases mm.pr e he with ⟨z,_⟩ | ⟨_,u⟩
   ·exact absurd (eS▸z) nSw
   ·rw [if_pos eS] at u;exact u
  have dg:DGet H15 mA (.ref tS) (some (.ref e.l)):=by
   rw [← yU mm.nd he,eS];exact DGet.t mh15.m (by rw [r9];exact tS15)
  refine⟨_,rfl,_,rfl,mA,.ref e.l,rfl,dg,.inl ⟨rfl,_,aAA e3⟩,_,rfl,e.l,_,_,rfl,rfl,e3,by unfold ji;rw [aeP];exact aC (by have:=up.2.2;lia),?_⟩;have mh16:=mh15.app mm.nd he t15;rw [eS] at mh16;have tS16:(upd H15 e.l (.lst (ji e.ps++[.ref tT]))) tS=some (.tup (intsN S)):=by rw [ah (bU tS15 e3 (by intro z;cases z))];exact tS15
  have t16:(upd H15 e.l (.lst (ji e.ps++[.ref tT]))) tT=some (.tup (intsN T)):=by rw [ah (bU t15 e3 (by intro z;cases z))];exact t15
  have hh16:(upd H15 e.l (.lst (ji e.ps++[.ref tT]))) hA=some (.lst ((kR h S).map V.str)):=by rw [ah (hAe e he)];exact hh15
  generalize upd H15 e.l (.lst (ji e.ps++[.ref tT]))=H16 at *;clear mh15 tS15 t15 hh15 dg e0 e1 e2 e3 up;have hAe':∀ f∈qo Es S (tT,T),hA≠f.l:=fun f hf=>by
   obtain⟨g,hg,_,q2,_⟩:=eU hf;rw [q2];exact hAe g hg
  have alen:(qo Es S (tT,T)).length=Es.length:=by unfold qo;rw [aeP]
  refine⟨fun σ' H'=>RI h t l wA mA lA tS hA S H (ls.length+1) (i+1) σ' H',fun σ' H' z=>z,?_⟩;refine⟨_,rfl,_,rfl,mA,_,rfl,DGet.t (k:=kN T) mh16.m (by rw [r9];exact t16),_,rfl,?_⟩;by_cases hT:T∈Es.map (·.S)
  ·obtain⟨g,hg,gS⟩:=ae4.mp hT;have ev:(b9 (iH (qo Es S (tT,T))) (kN T)).isSome=true:=by rw [pZ,← gS,yU mm.nd hg];rfl
   rw [ev];refine gz ?_;exact⟨_,wr,ls2,_,_,_,_,_,_,rfl,mh16,mm.old nSw nx ins hT tT,nSw,by rw [lV];exact hS,by rw [alen];exact hlen,hk2,tS16,hh16,hAw,hAe'⟩
  ·have ev:b9 (iH (qo Es S (tT,T))) (kN T)=none:=by rw [pZ];exact ac8 hT
   rw [ev];refine fT ?_;refine⟨afe _,fun lN nN=>?_⟩;have s17:=aq (o:=.lst []) nN;refine⟨_,rfl,_,rfl,mA,_,rfl,DPut.t (k:=kN T) (s17 _ _ mh16.m) (by rw [r9];exact s17 _ _ t16) (by unfold iH;rw [aeP,alen];exact aC (by lia)),?_⟩;rw [k8 _ ev];have wm:wA≠mA:=bU mh16.w mh16.m (by intro z;cases z);have w18:(upd (upd H16 lN (.lst [])) mA (.dT (iH (qo Es S (tT,T))++[(kN T,.ref lN)]))) wA=some (.lst (ji wr)):=by rw [ah wm];exact s17 _ _ mh16.w
   refine⟨_,rfl,.inl ⟨rfl,_,aAA w18⟩,_,rfl,wA,_,_,rfl,rfl,w18,by unfold ji;rw [aeP];exact aC (by lia),?_⟩;have mh19:=mh16.put t16 nN;have hN:hA≠lN:=af hh16 nN;refine⟨_,_,ls2,_,_,_,_,_,_,rfl,mh19,?_,?_,?_,?_,hk2,?_,?_,hAw,fun f hf=>?_⟩
   ·rw [ae2];exact MetM.new hD mm nSw nx ins rS hT tT lN
   ·rw [ae2,aeT,not_or];refine⟨nSw,fun z=>?_⟩;have:S=T:=by simpa using z
    exact hT (this▸hS)
   ·rw [ae2,lV];exact aeT.mpr (.inl hS)
   ·rw [aeR,aeR,alen];simp;lia
   ·rw [ah (bU tS16 mh16.w (by intro z;cases z)),ah (bU tS16 mh16.m (by intro z;cases z))];exact s17 _ _ tS16
   ·rw [ah hAw,ah (bU hh16 mh16.m (by intro z;cases z))];exact s17 _ _ hh16
   ·rcases aeT.mp hf with hf | hf
    ·exact hAe' f hf
    ·rw [aeS.mp hf];exact hN
end
end K7
namespace L2
open PySem PySem.Spec PyProof.Rows
section
variable {X:Cx}{K:PySem.W.Frag}
theorem kM (hK:X.K=K):di X (.builtin "sorted") (fun xs H Q=>∃ (p:Addr) (ns:List Int),xs=[.ref p]/\SqL K H p (ns.map V.int)/\ns.length < 64/\∀ (l:Addr) (ns':List Int),H l=none->ns'.Perm ns->ns'.Pairwise (·<=·)->Q (.ref l) (upd H l (.lst (ns'.map V.int)))):=by subst hK;exact gD
theorem ou (hK:X.K=K):di X (.type "tuple") (fun xs H Q=>∃ p ys,xs=[.ref p]/\((SqL K H p ys/\∀ l,H l=none->Q (.ref l) (upd H l (.tup ys)))\/(SqT K H p ys/\Q (.ref p) H))):=by subst hK;exact gk
end
theorem qM {K:PySem.W.Frag}{nl:Nat}{ix:List Nat}{tf:TT}{te:TE}{σ:St}{H1:Hp}{D a:Addr}{Q:VK}{xs:List V}{pb:V->Bool}(ha:H1 a=some (.lst xs))(nD:H1 D=none)(hl:xs.length<=1000000)
 (hc:∀ x,((cn nl ix σ).set 0 (some x)).drop nl=ix.map fun j=>(σ[j]?).join)
 (ht:∀ (H:Hp) (x:V) (R:Bool->Hp->Prop),x∈xs->(∀ b u,H1 b=some u->H b=some u)->(∀ H',(∀ b u,H b=some u->H' b=some u)->R (pb x) H')->tf ((cn nl ix σ).set 0 (some x)) H R)
 (he:∀ (H:Hp) (x:V) (R:VK),R x H->te ((cn nl ix σ).set 0 (some x)) H R)
 (hd:∀ H,(∀ b u,H1 b=some u->H b=some u)->H D=some (.lst (xs.filter pb))->Q (.ref D) H):i5 nl ix (bg 0) tf te σ (Itl K a) H1 D Q:=by
 have lim:1000000 < sizeLine:=by decide
 refine bV (xs:=xs) (fun i ys H=>ys=(xs.take i).filter pb/\H D=some (.lst ys)/\∀ b u,H1 b=some u->H b=some u) ⟨rfl,ag,fun b u e=>by rw [ah (af e nD)];exact e⟩ (fun i ys H ⟨_,h,_⟩=>h) (fun i ys H ⟨_,_,s⟩=>aAA (s a _ ha)) ?_ ?_
 ·rintro i ys H x hx ⟨rfl,hD,s⟩;have hi:i < xs.length:=(aeU.mp hx).1;have lf:((xs.take i).filter pb).length<=i:=aft (af8 _ _) (by rw [afn];lia);unfold bN bg;refine⟨⟨by simp,hc x⟩,ht H x _ (afB hx) s fun H' s'=>?_⟩;have hD':=s' _ _ hD;have s2:∀ b u,H1 b=some u->H' b=some u:=fun b u e=>s' _ _ (s b u e);cases e:pb x with
  | true =>
   rw [if_pos rfl];refine he H' x _ ⟨hD',by lia,nx hi ⟨?_,ag,fun b u e=>?_⟩⟩
   ·rw [afk,hx,afQ];simp [e]
   ·rw [ah (af e nD)];exact s2 b u e
  | false =>
   rw [if_neg aeY];refine nx hi ⟨?_,hD',s2⟩;rw [afk,hx,afQ];simp [e]
 ·rintro ys H ⟨rfl,hD,s⟩;rw [afs] at hD;exact hd H s hD
theorem rW {nl:Nat}{ix:List Nat}{tf:TT}{te:TE}{σ:St}{H1:Hp}{D:Addr}{Q:VK}{n:Nat}{pb:Nat->Bool}(nD:H1 D=none)(hl:n<=1000000)
 (hc:∀ x,((cn nl ix σ).set 0 (some x)).drop nl=ix.map fun j=>(σ[j]?).join)
 (ht:∀ (H:Hp) (i:Nat) (R:Bool->Hp->Prop),i < n->(∀ b u,H1 b=some u->H b=some u)->(∀ H',(∀ b u,H b=some u->H' b=some u)->R (pb i) H')->tf ((cn nl ix σ).set 0 (some (.int (i:Int)))) H R)
 (he:∀ (H:Hp) (x:V) (R:VK),R x H->te ((cn nl ix σ).set 0 (some x)) H R)
 (hd:∀ H,(∀ b u,H1 b=some u->H b=some u)->H D=some (.lst (((List.range n).filter pb).map fun (i:Nat)=>V.int (i:Int)))->Q (.ref D) H):i5 nl ix (bg 0) tf te σ (Itr 0 n) H1 D Q:=by
 have lim:1000000 < sizeLine:=by decide
 refine iB (fun i ys H=>ys=((List.range i).filter pb).map (fun (i:Nat)=>V.int (i:Int))/\H D=some (.lst ys)/\∀ b u,H1 b=some u->H b=some u) ⟨rfl,ag,fun b u e=>by rw [ah (af e nD)];exact e⟩ (fun i ys H ⟨_,h,_⟩=>h) ?_ ?_
 ·rintro i ys H hi ⟨rfl,hD,s⟩;have lf:(((List.range i).filter pb).map fun (i:Nat)=>V.int (i:Int)).length<=i:=by
   rw [aeP];exact aft (af8 _ _) (by rw [afz];lia)
  rw [ajf];unfold bN bg;refine⟨⟨by simp,hc _⟩,ht H i _ hi s fun H' s'=>?_⟩;have hD':=s' _ _ hD;have s2:∀ b u,H1 b=some u->H' b=some u:=fun b u e=>s' _ _ (s b u e);cases e:pb i with
  | true =>
   rw [if_pos rfl];refine he H' _ _ ⟨hD',by lia,nx hi ⟨?_,ag,fun b u e=>?_⟩⟩
   ·rw [aib,afQ,ae2];simp [e]
   ·rw [ah (af e nD)];exact s2 b u e
  | false =>
   rw [if_neg aeY];refine nx hi ⟨?_,hD',s2⟩;rw [aib,afQ,ae2];simp [e]
 ·rintro ys H ⟨rfl,hD,s⟩;exact hd H s hD
end L2
namespace K7
open PySem L2 PyProof.Rows
theorem yY {o:List Nat}{ns:List Int}(nd:o.Nodup)(p:ns.Perm (o.map fun (j:Nat)=>(j:Int)))(so:ns.Pairwise (·<=·)):∃ T:List Nat,ns=T.map (fun (j:Nat)=>(j:Int))/\T.Perm o/\Asc T:=by
 obtain⟨T,pT,eT⟩:=jr p;refine⟨T,eT.symm,pT,?_⟩;rw [← eT,ail] at so;have nd':T.Nodup:=pT.nodup_iff.mpr nd;exact (so.and nd').imp fun ⟨a,b⟩=>by lia
noncomputable def yE (h:Hs)(o:List Nat)(i:Nat):Bool:=@decide (Can h (o++[i])) (Classical.propDecidable _)
theorem qe {h:Hs}{o:List Nat}{i:Nat}:yE h o i=true↔Can h (o++[i]):=by
 unfold yE;exact @agH _ (Classical.propDecidable _)
def n6 (h:Hs)(o:List Nat)(i:Nat):Bool:=!decide (i∈o) && decide (aw (bh h.2 i)∈aE h.1 h.2 o)
theorem vF {h:Hs}{o A B:List Nat}{x:Nat}(e:aK h.2.length o=A++x::B)(no:∀ m∈A,¬ (aw (bh h.2 m)∈aE h.1 h.2 o/\Can h (o++[m])))(lk:aw (bh h.2 x)∈aE h.1 h.2 o)(c:Can h (o++[x])) :
 ∃ rest,((List.range h.2.length).filter (n6 h o)).filter (yE h o)=x::rest:=by
 have e1:((List.range h.2.length).filter (n6 h o)).filter (yE h o)=(aK h.2.length o).filter fun i=>decide (aw (bh h.2 i)∈aE h.1 h.2 o) && yE h o i:=by
  unfold aK;rw [ahD,ahD];congr 1;funext i;unfold n6;cases decide (i∈o)<;>cases decide (aw (bh h.2 i)∈aE h.1 h.2 o)<;>cases yE h o i<;>rfl
 rw [e1,e,afQ];have eA:A.filter (fun i=>decide (aw (bh h.2 i)∈aE h.1 h.2 o) && yE h o i)=[]:=ag0.mpr fun m hm z=>by
  rw [afV,ago,qe] at z;exact no m hm z
 rw [eA,agy,if_pos (by rw [afV,ago,qe];exact⟨lk,c⟩)];exact⟨_,rfl⟩
def uR:Sp:=fun vs H Q _=>∃ (v:V) (h:Hs),vs=[v]/\HouseAt H v h/\HouseD h/\h.2.length<=8/\(¬ iI h.1 h.2->∀ H',Same H H'->Q .non H')/\(iI h.1 h.2->∀ (l:Addr) (o:List Nat) (H':Hp),H l=none->Same H H'->H' l=some (.lst (intsN o))->Greedy h.2 h.1 (List.range h.2.length) o->Q (.ref l) H')
inductive FfI (v:V)(g:Addr)(gvs:List (List Key×V))(h:Hs)(og:List Nat)(H:Hp)(m:Nat)(σ:L2.St)(H':Hp):Prop
 | mk (oA hA:Addr) (n:Nat) (x4 x5:Option V):σ=[some v,some (.ref g),some (.ref oA),some (.ref hA),x4,x5]->Same H H'->H oA=none->H hA=none->hA≠oA->H' g=some (.dT gvs)->H' hA=some (.lst ((aE h.1 h.2 (og.take n)).map V.str))->H' oA=some (.lst (intsN (og.take n)))->n+m=og.length->FfI v g gvs h og H m σ H'
theorem aal {h:Hs}:Can h []↔iI h.1 h.2:=by
 unfold Can dH;rw [pN,dj];exact Iff.rfl
section
variable {P:Program}{w:World}{K:PySem.W.Frag}{mg:Str->Option Value}{base:Heap}
theorem bt:aJ ["house","good","order","hand","some","room"] ["house"] (ar bC):=scM rfl rfl rfl rfl (by decide +kernel)
theorem gC:(["room","order","hand","house"]:List Str).Nodup:=by decide +kernel
theorem gB:(["room","good","order"]:List Str).Nodup:=by decide +kernel
theorem xJ {f fS:Addr}{fd fdS:FuncData}(F:Fun K "_law_first_of_few" "_law_first_of_few" bC f fd)(tX:bF P w K mg base CX0 1 fS fdS ["house","first"] aaT)(iZ:Cal K mg "_law_sets" ["house","first"] fS fdS)(aU:mg "len" = none)(bz:mg "list" = none)(aP:mg "range" = none)(aV:mg "sorted" = none)(fV:mg "tuple" = none):bF P w K mg base CX0 2 f fd ["house"] uR:=by
 refine F.ok bt (fun vs H Q E h=>?_) (fun cdv A outer s H vs Q E hr h=>?_)
 ·obtain⟨v,h,rfl,_⟩:=h
  rfl
 ·have hu:=i6 hr;obtain⟨v,h,rfl,hh,hD,h8,no,yes⟩:=h;obtain⟨t,a,r,us,rfl,ht,ha,hrr,hR⟩:=id hh;refine⟨_,(aj (aD (i:=1) bt.nd rfl (.inr rfl) (pcl tX iZ hr rfl (ae (pv 0) (ae fm ai))))
   (aj (cu (gL (fJ (gN hu (pv 1) ad2 (fun _ _=>rfl))))
    (au (aQ j9)) bf)
   (aj (aD (i:=2) bt.nd rfl (.inr rfl) fm)
   (aj (aD (i:=3) bt.nd rfl (.inr rfl) (aZ bu rfl bz (by decide +kernel) (ae (aF aO (pv 0) ak (fun _ _=>rfl)) ai)))
   (aj (aR (gj afq (aH abx (ax aA rfl aU afi (ae (pv 2) ai)) (ax aA rfl aU afi (ae (aF aO (pv 0) ak (fun _ _=>rfl)) ai)) (aM _))
    (aj (eO (i:=4) (tg:=.Name "room" _) (outer:=ar (bC)) (N:=["house","good","order","hand","some","room"]) (N':=["room","order","hand","house"]) (nl:=1) (ix:=[2,3,0]) bt.nd rfl (.inl rfl) rfl rfl rfl (bK rfl aP (ae (ax aA rfl aU afi (ae (aF aO (pv 0) ak (fun _ _=>rfl)) ai)) ai))
    (fun _ _ _ _=>(az (i:=0) gC rfl (.inl rfl) (.inr rfl))) (fun _ _ _ _=>(dM (PW.pt (ki (aH (fX (K:=K) rfl) (pv 0) (pv 1) rfl) (gX (aH (wc (K:=K) rfl) (aF (dv (K:=K) rfl) (aF (ma (K:=K) rfl) (aF (dv (K:=K) rfl) (aF (ma (K:=K) rfl) (pv 3) ak (fun _ _=>rfl)) (pv 0) (fun _ _=>rfl)) ak (fun _ _=>rfl)) ak (fun _ _=>rfl)) (pv 2) rfl))))))
    (fun _ _ _ _=>(pv 0)))
    (aj (aD (i:=5) bt.nd rfl (.inl rfl) (aF aT (jP (tg:=.Name "room" _) (outer:=ar (bC)) (N:=["house","good","order","hand","some","room"]) (N':=["room","good","order"]) (nl:=1) (ix:=[1,2]) rfl rfl rfl (aX (pv 4))
    (fun _ _ _ _=>(az (i:=0) gB rfl (.inl rfl) (.inr rfl))) (fun _ _ _ _=>(dM (fJ (gN hu (pv 1) (aZ (ou (K:=K) rfl) rfl fV (by decide +kernel) (ae (ax (kM (K:=K) rfl) rfl aV aha (ae (aI mG (pv 2) (c9 (ae (pv 0) ai))) ai)) ai)) (fun _ _=>rfl)))))
    (fun _ _ _ _=>(pv 0))) ak (fun _ _=>rfl)))
    (aj (bq (dc ae3 ahj ahk jm (pv 3) (ae (aF aT (aF aO (aF aT (aF aO (pv 0) ak (fun _ _=>rfl)) (pv 5) (fun _ _=>rfl)) ak (fun _ _=>rfl)) ak (fun _ _=>rfl)) ai)))
    (aj (bq (dc ae3 agP agQ gE (pv 3) (ae (aF aO (aF aT (aF aO (pv 0) ak (fun _ _=>rfl)) (pv 5) (fun _ _=>rfl)) ak (fun _ _=>rfl)) ai)))
    (au (bq (dc ae3 afH afI bJ (pv 2) (ae (pv 5) ai))))))))))
   (au (aQ (pv 2)))))))),?_⟩
  have lim:1000000<=sizeLine:=by decide
  have lenI:∀ l:List Nat,(intsN l).length=l.length:=fun l=>by unfold intsN;rw [aeP]
  refine⟨_,rfl,afe _,fun l0 n0=>?_⟩;have s1:=aq (o:=.lst []) n0;refine⟨.ref t,l0,h,rfl,hh.same s1,hD,h8,ag,fun g gvs H2 s2 ng hg gd=>?_⟩;have S2:=s1.trans s2;clear s1 s2 ng n0;obtain⟨c,cv,ci⟩:=gd [] [] (fun j i e=>by simp at e) (.refl _) .nil;have ci':c=true↔iI h.1 h.2:=ci.trans ((kT hD (fun j i e=>by simp at e) (.refl _)).trans aal);clear ci;refine⟨_,rfl,afe _,fun t0 nt=>?_⟩;have s3:=aq (o:=.tup []) nt;have S3:=S2.trans s3;refine⟨g,.bl c,rfl,by rw [← cv];exact DGet.t (s3 _ _ hg) ag,c,rfl,?_⟩;have hg3:=s3 _ _ hg;generalize upd H2 t0 (.tup [])=H3 at *;clear s3 nt cv S2 hg;cases c with
  | false=>exact fT (no (fun z=>by have:=ci'.mpr z;cases this) H3 S3)
  | true =>
  refine gz ?_;have ff:=ci'.mp rfl;obtain⟨og,gg⟩:=vo hD ff;have ogl:=n4 gg;refine⟨afe _,fun oA nO=>?_⟩;have s4:=aq (o:=.lst (intsN [])) nO;have e4:(upd H3 oA (.lst (intsN []))) oA=some (.lst (intsN [])):=ag;have nO0:=S3.free nO;have S4:=S3.trans s4;have hg4:=s4 _ _ hg3;show bg 2 (V.ref oA) _ (upd H3 oA (.lst (intsN []))) _;generalize upd H3 oA (.lst (intsN []))=H4 at *;refine⟨_,rfl,t,_,0,.ref a,rfl,rfl,aAB (S4 _ _ ht),rfl,a,_,rfl,.inl (aAA (S4 _ _ ha)),fun hA nh=>?_⟩;have s5:=aq (o:=.lst (h.1.map V.str)) nh;have e5:(upd H4 hA (.lst (h.1.map V.str))) hA=some (.lst (h.1.map V.str)):=ag;have nH0:=S4.free nh;have S5:=S4.trans s5;have hO:hA≠oA:=(af e4 nh).symm;have e45:=s5 _ _ e4;have hg5:=s5 _ _ hg4;show bg 3 (V.ref hA) _ (upd H4 hA (.lst (h.1.map V.str))) _;generalize upd H4 hA (.lst (h.1.map V.str))=H5 at *;clear s4 s5 nO nh e4 hg3 hg4 S3 S4;refine⟨fun σ' H'=>FfI (.ref t) g gvs h og H 0 σ' H',?_,?_⟩
  ·rintro σ H6 ⟨oA,hA,n,x4,x5,rfl,sm,nO,_,_,_,_,e3,hn⟩;rw [afE (by lia)] at e3;exact⟨_,rfl,yes ff oA og H6 nO sm e3 gg⟩
  refine⟨fun m σ' H'=>FfI (.ref t) g gvs h og H m σ' H',⟨_,oA,hA,0,_,_,rfl,S5,nO0,nH0,hO,hg5,e5,e45,ahI _⟩,?_⟩;clear S5 nO0 nH0 hO hg5 e5 e45;clear H5 H4 H3 oA hA H2;rintro m σ H2 ⟨oA,hA,n,x4,x5,rfl,sm,nO,nH,hO,eg,eh,eo,hn⟩;refine⟨_,rfl,oA,_,rfl,.inl (aAA eo),_,rfl,t,_,1,.ref r,rfl,rfl,aAB (sm _ _ ht),rfl,r,_,rfl,.inl (aAA (sm _ _ hrr)),_,_,rfl,rfl,_,rfl,?_⟩;rw [lenI,eZ (by lia),hR.1];have st:=kZ hD ff gg (n:=n) (by lia);by_cases hm:m=0
  ·subst hm;rw [afw (by lia)];refine gz ?_;exact⟨oA,hA,n,_,_,rfl,sm,nO,nH,hO,eg,eh,eo,hn⟩
  have hn':n < og.length:=by lia
  rw [afv (by lia)];refine fT ?_;obtain⟨LA,LB,esp,noA,lkin,canN⟩:=oF hD ff gg hn';have tk:=qB hn';refine⟨fun σ' H'=>FfI (.ref t) g gvs h og H (m - 1) σ' H',fun σ' H' z=>⟨_,by lia,z⟩,?_⟩;dsimp only [bg,tI,sd];refine aW _ _ _ _ _ _ _ _ _ ?_;refine⟨_,rfl,t,_,1,.ref r,rfl,rfl,aAB (sm _ _ ht),rfl,r,_,rfl,.inl (aAA (sm _ _ hrr)),_,rfl,by rw [hR.1];lia,by rw [hR.1];lia,?_⟩;rw [afj,hR.1];intro D nD;refine rW (pb:=n6 h (og.take n)) nD (by lia) (fun x=>rfl) (fun G i R hi sG qq=>?_) (fun G x R qq=>⟨_,rfl,qq⟩) (fun H3 s3 hD3=>?_)
  ·refine⟨_,rfl,_,rfl,oA,_,rfl,.inl (aAA (sG _ _ eo)),rfl,m7 _,_,rfl,?_⟩;rw [uy];by_cases ni:i∈og.take n
   ·have e:n6 h (og.take n) i=false:=by unfold n6;rw [afv ni];rfl
    rw [e] at qq;rw [afv ni];exact gz (qq G fun _ _ z=>z)
   rw [afw ni];refine fT ?_;have hn2:i < us.length:=by rw [hR.1];exact hi
   have er:=cD hi;have eu:us[i]? = some us[i]:=aeO hn2;obtain⟨tt,dd,bb,et,g1,g2,g3⟩:=hR.2 _ _ _ eu er;have elk:=b5 hD _ (bx hi);rw [elk] at g2;have SG:=Same.trans sm sG;refine⟨_,rfl,t,_,1,.ref r,rfl,rfl,aAB (SG _ _ ht),rfl,_,rfl,r,us,((i:Nat):Int),us[i],rfl,rfl,aAA (SG _ _ hrr),bw eu,tt,_,0,.ref dd,et,rfl,aAB (SG _ _ g1),rfl,dd,_,0,.str (aw (bh h.2 i)),rfl,rfl,aAA (SG _ _ g2),rfl,_,rfl,hA,_,rfl,.inl (aAA (sG _ _ eh)),rfl,rL _,_,rfl,?_⟩;rw [tN];have e:n6 h (og.take n) i=decide (aw (bh h.2 i)∈aE h.1 h.2 (og.take n)):=by unfold n6;rw [afw ni];rfl
   rw [e] at qq;exact qq G fun _ _ z=>z
  replace hD3:H3 D=some (.lst (intsN ((List.range h.2.length).filter (n6 h (og.take n))))):=hD3;have S3:=Same.trans sm s3;have eg3:=s3 _ _ eg;have eh3:=s3 _ _ eh;have eo3:=s3 _ _ eo;have sl:((List.range h.2.length).filter (n6 h (og.take n))).length<=h.2.length:=aft (af8 _ _) (by rw [afz];lia);refine aW _ _ _ _ _ _ _ _ _ ?_;refine⟨_,rfl,D,rfl,⟨_,aAA hD3⟩,?_⟩;intro D2 nD2;refine qM (pb:=pbN (yE h (og.take n))) hD3 nD2 (by rw [lenI];lia) (fun x=>rfl) (fun G x R hx sG qq=>?_) (fun G x R qq=>⟨_,rfl,qq⟩) (fun H4 s4 hD4=>?_)
  ·obtain⟨i,hi,rfl⟩:=ae4.mp hx;obtain⟨i1,i2⟩:=agh.mp hi;have hi':=afZ.mp i1;unfold n6 at i2;rw [afV,ahf,ahr,ago] at i2;have may:mF (aE h.1 h.2 (og.take n)) (bh h.2 i).1=true:=by rw [b5 hD _ (bx hi')];exact (gb _ _).mpr i2.2
   have gone2:=st.gone.snoc hi' i2.1 may;have nd2:=mW _ gone2;refine⟨_,rfl,_,rfl,_,rfl,by show 1<=sizeLine;decide,fun l1 n1=>?_⟩;have k1:Same G (upd G l1 (.lst [.int (i:Int)])):=aq n1;have f1:(upd G l1 (.lst [.int (i:Int)])) l1=some (.lst (intsN [i])):=ag;generalize upd G l1 (.lst [.int (i:Int)])=G1 at *;refine⟨oA,l1,_,_,rfl,rfl,k1 _ _ (sG _ _ eo3),f1,by rw [lenI,lenI,eZ (by lia)];simp;lia,fun l2 n2=>?_⟩;have k2:=aq (o:=.lst (intsN (og.take n)++intsN [i])) n2;have f2:(upd G1 l2 (.lst (intsN (og.take n)++intsN [i]))) l2=some (.lst (((og.take n++[i]).map fun (j:Nat)=>(j:Int)).map V.int)):=by
    rw [ag,af7];unfold intsN;rw [← ae2]
    rfl
   generalize upd G1 l2 (.lst (intsN (og.take n)++intsN [i]))=G2 at *;refine⟨l2,_,rfl,aAA f2,by rw [aeP,aeR,eZ (by lia)];simp;lia,fun l3 ns n3 pm so=>?_⟩;obtain⟨T,rfl,pT,asc⟩:=yY nd2 pm so;have eT:(T.map fun (j:Nat)=>(j:Int)).map V.int=intsN T:=by rw [af7];rfl
   rw [eT];have k3:=aq (o:=.lst (intsN T)) n3;have f3:(upd G2 l3 (.lst (intsN T))) l3=some (.lst (intsN T)):=ag;generalize upd G2 l3 (.lst (intsN T))=G3 at *;refine⟨l3,_,rfl,.inl ⟨aAA f3,fun tT nT=>?_⟩⟩;have k4:=aq (o:=.tup (intsN T)) nT;have f4:(upd G3 tT (.tup (intsN T))) tT=some (.tup (intsN T)):=ag;generalize upd G3 tT (.tup (intsN T))=G4 at *;obtain⟨c,cv,ci⟩:=gd T _ gone2 pT.symm asc;rw [kT hD gone2 pT.symm,← qe] at ci;have ec:pbN (yE h (og.take n)) (V.int (i:Int))=c:=by
    show yE h (og.take n) (i:Int).toNat=c;rw [afj];cases c with
    | true=>exact ci.mp rfl
    | false =>
     cases z:yE h (og.take n) i with
     | false=>rfl
     | true=>exact (ci.mpr z).symm
   rw [ec] at qq;have kk:=((k1.trans k2).trans k3).trans k4;exact⟨g,.bl c,rfl,by rw [← cv];exact DGet.t (kk _ _ (sG _ _ eg3)) (by rw [r9];exact f4),c,rfl,qq _ kk⟩
  rw [ly] at hD4;obtain⟨rest,er⟩:=vF esp noA lkin canN;rw [er] at hD4;have S4:=Same.trans S3 s4;refine⟨D2,_,0,.int (og[n]:Nat),rfl,rfl,aAA hD4,(show atI (intsN (og[n]::rest)) ((0:Nat):Int)=_ from bw rfl),?_⟩;have hi:og[n] < h.2.length:=by
   have:og[n]∈aK h.2.length (og.take n):=by rw [esp];simp
   exact (left_mem.mp this).1
  have hsn:aE h.1 h.2 (og.take (n+1))=(aE h.1 h.2 (og.take n)).erase (aw (bh h.2 og[n]))++(bh h.2 og[n]).2:=by rw [tk];exact dF (b5 hD) hi
  have hD2:=aaN hD (kZ hD ff gg (n:=n+1) (by lia)).gone (.refl _);have hkl:=hD2.ok.kl;rw [hsn,aeR] at hkl;generalize og[n]=i at *;have hn2:i < us.length:=by rw [hR.1];exact hi
  have er:=cD hi;have eu:us[i]? = some us[i]:=aeO hn2;obtain⟨tt,dd,bb,et,g1,g2,g3⟩:=hR.2 _ _ _ eu er;have elk:=b5 hD _ (bx hi);rw [elk] at g2;have eh4:=s4 _ _ eh3;have eo4:=s4 _ _ eo3;have eg4:=s4 _ _ eg3;refine⟨_,rfl,.inl ⟨rfl,_,aAA eh4⟩,_,rfl,t,_,1,.ref r,rfl,rfl,aAB (S4 _ _ ht),rfl,_,rfl,r,us,((i:Nat):Int),us[i],rfl,rfl,aAA (S4 _ _ hrr),bw eu,tt,_,0,.ref dd,et,rfl,aAB (S4 _ _ g1),rfl,dd,_,0,.str (aw (bh h.2 i)),rfl,rfl,aAA (S4 _ _ g2),rfl,hA,_,_,rfl,rfl,eh4,lkin,?_⟩;have B5:But hA H4 (upd H4 hA (.lst (((aE h.1 h.2 (og.take n)).erase (aw (bh h.2 i))).map V.str))):=fun b u nb e=>by rw [ah nb];exact e
  have e5:(upd H4 hA (.lst (((aE h.1 h.2 (og.take n)).erase (aw (bh h.2 i))).map V.str))) hA=some (.lst (((aE h.1 h.2 (og.take n)).erase (aw (bh h.2 i))).map V.str)):=ag;generalize upd H4 hA (.lst (((aE h.1 h.2 (og.take n)).erase (aw (bh h.2 i))).map V.str))=H5 at *;have S5:Same H H5:=fun b u e=>B5 b u (af e nH) (S4 b u e);refine⟨_,rfl,.inl ⟨rfl,_,aAA e5⟩,_,rfl,t,_,1,.ref r,rfl,rfl,aAB (S5 _ _ ht),rfl,_,rfl,r,us,((i:Nat):Int),us[i],rfl,rfl,aAA (S5 _ _ hrr),bw eu,tt,_,1,.ref bb,et,rfl,aAB (S5 _ _ g1),rfl,hA,bb,_,_,rfl,rfl,e5,S5 _ _ g3,by rw [aeP,aeP];lia,?_⟩;rw [← ae2,← hsn];have B6:But hA H4 (upd H5 hA (.lst ((aE h.1 h.2 (og.take (n+1))).map V.str))):=fun b u nb e=>by rw [ah nb];exact B5 b u nb e
  have e6:(upd H5 hA (.lst ((aE h.1 h.2 (og.take (n+1))).map V.str))) hA=some (.lst ((aE h.1 h.2 (og.take (n+1))).map V.str)):=ag;generalize upd H5 hA (.lst ((aE h.1 h.2 (og.take (n+1))).map V.str))=H6 at *;have eo6:=B6 _ _ hO.symm eo4;refine⟨_,rfl,.inl ⟨rfl,_,aAA eo6⟩,_,rfl,oA,_,_,rfl,rfl,eo6,by rw [lenI,eZ (by lia)];lia,?_⟩;refine⟨oA,hA,n+1,_,_,rfl,fun b u e=>by rw [ah (af e nO)];exact B6 b u (af e nH) (S4 b u e),nO,nH,hO,?_,?_,?_,by lia⟩
  ·rw [ah (bU eg4 eo4 (by intro z;cases z))];exact B6 _ _ (bU eg4 eh4 (by intro z;cases z)) eg4
  ·rw [ah hO];exact e6
  ·rw [ag,tk];unfold intsN;rw [ae2]
   rfl
theorem bT:aJ ["deck","most","kinds","keys","rooms","left"] ["deck","most"] (ar dO):=scM rfl rfl rfl rfl (by decide +kernel)
theorem nU:(["k","left","deck"]:List Str).Nodup:=by decide +kernel
theorem y3 {f fN fC fM fG fB:Addr}{fd fdN fdC fdM fdG fdB:FuncData}(F:Fun K "_law_house" "_law_house" dO f fd)(ay:bF P w K mg base CX0 2 fN fdN ["deck"] iO)(av:Cal K mg "_law_next" ["deck"] fN fdN)
 (sP:bF P w K mg base CX0 3 fC fdC ["deck","most"] (kU 31))(hW:Cal K mg "_law_chain" ["deck","most"] fC fdC)(sL:bF P w K mg base CX0 3 fM fdM ["deck","many"] yn)(gR:Cal K mg "_law_names" ["deck","many"] fM fdM)
 (sq:bF P w K mg base CX0 3 fG fdG ["deck","kinds","many"] yD)(gY:Cal K mg "_law_grown" ["deck","kinds","many"] fG fdG)(uu:bF P w K mg base CX0 3 fB fdB ["deck","keys","rooms","kinds"] aaZ)(iY:Cal K mg "_law_bent" ["deck","keys","rooms","kinds"] fB fdB)
 (aU:mg "len" = none)(aP:mg "range" = none)(bz:mg "list" = none):bF P w K mg base CX0 4 f fd ["deck","most"] (kU 0):=by
 refine F.ok bT (fun vs H Q E h=>?_) (fun cdv A outer s H vs Q E hr h=>?_)
 ·obtain⟨p,most,rfl,_⟩:=h
  rfl
 ·obtain⟨p,most,rfl,dk,_,hm,k⟩:=h;refine⟨_,(aj (aR (cu (PW.pt (ki (aH zb (pv 1) ak (aM _)) (gX (aH gy (aI a9 (pcl ay av (hr.mono (by decide:2<=3)) rfl (ae (pv 0) ai)) ak) ak (aM _)))))
   (au (aQ (pcl sP hW hr rfl (ae (pv 0) (ae (pv 1) ai))))) bf))
   (aj (aD (i:=2) bT.nd rfl (.inl rfl) (pcl sL gR hr rfl (ae (pv 0) (ae (aI cV ak (aI a9 (pcl ay av (hr.mono (by decide:2<=3)) rfl (ae (pv 0) ai)) ak)) ai))))
   (aj (jD (pcl sq gY hr rfl (ae (pv 0) (ae (pv 2) (ae (aI a9 (pcl ay av (hr.mono (by decide:2<=3)) rfl (ae (pv 0) ai)) (aI cV (pv 1) ak)) ai)))) (eV rfl (aG (az (i:=3) bT.nd rfl (.inl rfl)) (aG (az (i:=4) bT.nd rfl (.inl rfl)) bS))))
   (aj (jD (pcl uu iY hr rfl (ae (pv 0) (ae (pv 3) (ae (pv 4) (ae (pv 2) ai))))) (eV rfl (aG (az (i:=3) bT.nd rfl (.inl rfl)) (aG (az (i:=4) bT.nd rfl (.inl rfl)) bS))))
   (aj (aD (i:=5) bT.nd rfl (.inr rfl) (aZ bu rfl bz (by decide +kernel) (ae (pv 4) ai)))
   (au (aQ (bZ (ae (pv 3) (ae (jP (tg:=.Name "k" _) (outer:=ar (dO)) (N:=["deck","most","kinds","keys","rooms","left"]) (N':=["k","left","deck"]) (nl:=1) (ix:=[5,0]) rfl rfl rfl (bK rfl aP (ae (ax aA rfl aU afi (ae (pv 5) ai)) ai))
    (fun _ _ _ _=>(az (i:=0) nU rfl (.inl rfl) (.inr rfl))) (fun _ _ _ _=>bX)
    (fun _ _ _ _=>(j8 (K:=K) rfl ae3 agl agm jC (pv 1) (ae (aI a9 (pcl ay av (hr.mono (by decide:2<=3)) rfl (ae (pv 2) ai)) (ax (h9 (K:=K) rfl) rfl aU afi (ae (pv 1) ai))) ai)))) ai)))))))))),?_⟩
  refine⟨fun σ' H'=>σ'=[some (.ref p),some (.int most),none,none,none,none]/\DeckAt H' p/\But p H H',?_,?_⟩;rotate_left
  ·refine⟨_,rfl,_,_,rfl,rfl,_,rfl,uI (fun hb=>?_) (fun _=>?_)⟩
   ·refine⟨_,rfl,p,rfl,dk,fun r H1 _ _ dk1 B1 _=>⟨_,2,rfl,rfl,(by show (0:Int) < 2;decide),rfl,_,rfl,uI (fun _=>?_) (fun _=>?_)⟩⟩
    ·have hb':=agW hb;exact⟨_,rfl,_,rfl,p,most,rfl,dk1,by lia,hm,fun v h H' a b c d=>k v h H' a b c (B1.trans d)⟩
    ·exact⟨rfl,dk1,B1⟩
   ·exact⟨rfl,dk,fun b u _ e=>e⟩
  rintro σ H1 ⟨rfl,dk1,B1⟩;refine⟨_,rfl,_,rfl,p,rfl,dk1,fun r H2 _ _ dk2 B2 _=>⟨_,12,rfl,rfl,(by show (0:Int) < 12;decide),1,_,rfl,rfl,?_⟩⟩;obtain⟨n,en,n1,n12⟩:∃ n:Nat,1+r % 12=(n:Int)/\1<=n/\n<=12:=by
   have a0:0<=r % 12:=afy _ (by decide);have a1:r % 12 < 12:=afp _ (by decide);exact⟨(1+r % 12).toNat,by lia,by lia,by lia⟩
  refine⟨p,n,by rw [← en];rfl,dk2,n1,n12,fun q ks H3 nq hq kl kk dk3 B3=>?_⟩;have qp:=dk2.ne nq;have ne:ks≠[]:=fun z=>by rw [z] at kl;simp at kl;lia
  refine⟨_,rfl,_,rfl,_,rfl,p,rfl,dk3,fun r4 H4 _ _ dk4 B4 _=>⟨_,rfl,_,1,rfl,rfl,_,_,rfl,rfl,(by show (0:Int) < (most:Int)+1;lia),?_⟩⟩;obtain⟨g,eg,hg⟩:=md (r:=r4) (n:=most+1) (by lia);have eg':r4 % ((most:Int)+1)=(g:Int):=by rw [← eg];rfl
  have hq4:=B4 _ _ qp hq;refine⟨p,q,ks,g,by rw [← eg'];rfl,dk4,hq4,qp,ne,kk,by lia,fun t kA rA keys L H5 ht sep len pl hk hkl=>?_⟩;refine⟨t,_,rfl,aAB ht,rfl,_,_,rfl,_,_,rfl,rfl,?_⟩;refine⟨_,rfl,_,rfl,_,rfl,_,rfl,H4,p,kA,rA,q,ks,keys,L,rfl,sep,hq4,qp,ne,kk,hk,hkl,pl,by lia,fun t2 kB keys' L' H6 ht6 sep6 ll pl6 hk6 hkl6=>?_⟩;refine⟨t2,_,rfl,aAB ht6,rfl,_,_,rfl,_,_,rfl,rfl,?_⟩;refine⟨_,rfl,rA,_,rfl,.inl (aAA sep6.hr),fun lf nlf=>?_⟩;have s7:Same H6 (upd H6 lf (.lst (L'.map fun x=>V.ref x.t))):=aq nlf;have e7:(upd H6 lf (.lst (L'.map fun x=>V.ref x.t))) lf=some (.lst (L'.map fun x=>V.ref x.t)):=ag;have sep7:=sep6.same s7;have lfp:=sep6.dk.ne nlf;generalize upd H6 lf (.lst (L'.map fun x=>V.ref x.t))=H7 at *;refine⟨_,rfl,?_⟩;dsimp only [eP,kX];refine aW _ _ _ _ _ _ _ _ _ ?_;refine⟨_,rfl,lf,_,rfl,.inl (aAA e7),_,rfl,by rw [aeP];lia,by rw [aeP];lia,?_⟩;intro D nD;rw [afj];refine ve nD sep7.dk e7 lfp (by rw [aeP];lia) (fun x=>rfl) (fun x=>rfl) (fun x=>rfl) fun ys H8 pm hD8 dk8 B8=>?_;obtain⟨L8,rfl,pm8⟩:=ko pm.symm (xs:=L') rfl;have B68:ad5 p lf H6 H8:=fun b u nb nl e=>B8 b u nb nl (s7 _ _ e);have nlo:∀ {b:Addr} {u:HO},H6 b=some u->b≠lf:=fun e=>af e nlf;refine⟨by show 2<=sizeLine;decide,fun tt ntt=>?_⟩;have s9:Same H8 (upd H8 tt (.tup [.ref kB,.ref D])):=aq ntt;have e9:(upd H8 tt (.tup [.ref kB,.ref D])) tt=some (.tup [.ref kB,.ref D]):=ag;generalize upd H8 tt (.tup [.ref kB,.ref D])=H9 at *;have up:∀ {b:Addr} {u:HO},b≠p->H6 b=some u->H9 b=some u:=fun nb e=>s9 _ _ (B68 _ _ nb (nlo e) e);have m8:∀ x∈L8,x∈L':=fun x hx=>pm8.mem_iff.mp hx;have U0:∀ k∈ks++ring3,bD k:=fun k h=>(aeT.mp h).elim (kk k) (uS k);refine k (.ref tt) (keys',L8.map (·.r)) H9 ⟨tt,kB,D,_,rfl,e9,up (sep6.ne (own_mem.mpr (.inl rfl))) sep6.hk,s9 _ _ hD8,by simp,fun i v r a b=>?_⟩ (qC U0 (.inr (by rw [aeR,kl];show n+3<=15;lia)) hk6 hkl6 (fun r hr=>?_) (by rw [aeP,pm8.length_eq];lia)) (dk8.same s9) ?_
  ·rw [aeZ] at a b;obtain⟨y,hy,rfl⟩:=agr.mp a;rw [hy] at b;cases b;have my:=m8 y (afB hy);obtain⟨h1,h2,h3⟩:=sep6.it y my;exact⟨y.t,y.d,y.w,rfl,up (sep6.dk.net h1) h1,up (sep6.ne (own_mem.mpr (.inr (.inr ⟨y,my,.inl rfl⟩)))) h2,up (sep6.ne (own_mem.mpr (.inr (.inr ⟨y,my,.inr rfl⟩)))) h3⟩
  ·obtain⟨y,hy,rfl⟩:=ae4.mp hr;exact pl6 y (m8 y hy)
  ·exact B1.trans (B2.trans (B3.trans (B4.trans (sep6.but.trans fun b u nb e=>up nb e))))
def adL (z:Str):Bool:=decide (z.length<=1) && z.cps.toList.all fun c=>decide (97<=c) && decide (c<=122)
def aat (z:Str):Prop:=z.length<=1/\∀ c∈z.cps.toList,97<=c/\c<=122
theorem abm {z:Str}(h:adL z=true):aat z:=by
 unfold adL at h;rw [afV,agH,agR] at h;refine⟨h.1,fun c hc=>?_⟩;have:=h.2 c hc;rw [afV,agH,agH] at this;exact this
theorem acA (i:Nat)(h:i < 26){n:Int}(h0:0<=n)(h1:n < 2):aat (Txt.mul ⟨#[97+i]⟩ n):=by
 have all:∀ (k:_root_.Fin 26) (b:_root_.Fin 2),adL (Txt.mul ⟨#[97+k.val]⟩ (b.val:Int))=true:=by decide +kernel
 obtain⟨m,rfl⟩:∃ m:Nat,n=(m:Int):=⟨n.toNat,by lia⟩;exact abm (all ⟨i,h⟩ ⟨m,by lia⟩)
def chk (pad:Str)(n:Int):Str:=pad++(⟨#[97+(n / 26 % 26).toNat]⟩:Str)++(⟨#[97+(n % 26).toNat]⟩:Str)
theorem yz (pad:Str)(n:Int):(chk pad n).cps.toList=pad.cps.toList++[97+(n / 26 % 26).toNat]++[97+(n % 26).toNat]:=by
 unfold chk;rw [dA,dA]
theorem acC {pad:Str}(h:aat pad)(n:Int):bD (chk pad n):=by
 have e:pad.cps.toList.length=pad.length:=ae5;have l:=h.1;have a0:0<=n / 26 % 26:=afy _ (by decide);have a1:n / 26 % 26 < 26:=afp _ (by decide);have b0:0<=n % 26:=afy _ (by decide);have b1:n % 26 < 26:=afp _ (by decide);refine uh ?_;rw [yz];refine⟨?_,?_,fun x hx=>?_⟩
 ·simp only [aeR,afT];lia
 ·simp only [aeR,afT];lia
 ·rcases aeT.mp hx with q | q
  ·rcases aeT.mp q with q | q
   ·exact h.2 x q
   ·rw [aeS.mp q];lia
  ·rw [aeS.mp q];lia
theorem xb (y:Str)(n:Nat):(List.replicate n [V.str y]).flatten=(List.replicate n y).map V.str:=by
 induction n with
 | zero=>rfl
 | succ n ih=>rw [agL,agA,ih,agL];rfl
def aei (pad:Str):V->V
 | .int n=>.str (chk pad n)
 | v=>v
inductive ChI (p kA rA:Addr)(ks:List Str)(H:Hp)(i:Nat)(f:Option V->Option V->L2.St)(σ':L2.St)(H':Hp):Prop
 | mk (L:List RC) (x11 x12:Option V):σ'=f x11 x12->Sep H H' p kA rA ks L->L.length=i->(∀ x∈L,PlU ks x.r)->ChI p kA rA ks H i f σ' H'
theorem a6:aJ ["deck","most","letters","start","pad","many","numbers","kinds","way","at","rooms","k","out","keys"] ["deck","most"] (ar cc):=scM rfl rfl rfl rfl (by decide +kernel)
theorem l7:(["k","start"]:List Str).Nodup:=by decide +kernel
theorem lG:(["number","pad","letters"]:List Str).Nodup:=by decide +kernel
theorem mJ:(["k","rooms","deck"]:List Str).Nodup:=by decide +kernel
theorem aay {f fN:Addr}{fd fdN:FuncData}(F:Fun K "_law_chain" "_law_chain" cc f fd)(ay:bF P w K mg base CX0 2 fN fdN ["deck"] iO)(av:Cal K mg "_law_next" ["deck"] fN fdN)(aU:mg "len" = none)(aP:mg "range" = none)(pW:mg "int" = none):bF P w K mg base CX0 3 f fd ["deck","most"] (kU 31):=by
 refine F.ok a6 (fun vs H Q E h=>?_) (fun cdv A outer s H vs Q E hr h=>?_)
 ·obtain⟨p,most,rfl,_⟩:=h
  rfl
 ·obtain⟨p,most,rfl,dk,lo,hm,k⟩:=h;refine⟨_,(aj (aD (i:=2) a6.nd rfl (.inr rfl) cN)
   (aj (aD (i:=3) a6.nd rfl (.inr rfl) (pcl ay av hr rfl (ae (pv 0) ai)))
   (aj (aD (i:=4) a6.nd rfl (.inr rfl) (aI wb (aF rH (pv 2) (aI a9 (pv 3) ak) (fun _ _=>rfl)) (aI a9 (aI mS (pv 3) ak) ak)))
   (aj (aD (i:=5) a6.nd rfl (.inl rfl) (aI cV ak (aI a9 (pcl ay av hr rfl (ae (pv 0) ai)) (aI aaH (pv 1) ak))))
   (aj (eO (i:=6) (tg:=.Name "k" _) (outer:=ar (cc)) (N:=["deck","most","letters","start","pad","many","numbers","kinds","way","at","rooms","k","out","keys"]) (N':=["k","start"]) (nl:=1) (ix:=[3]) a6.nd rfl (.inl rfl) rfl rfl rfl (bK rfl aP (ae (aI cV (pv 5) ak) ai))
    (fun _ _ _ _=>(az (i:=0) l7 rfl (.inl rfl) (.inr rfl))) (fun _ _ _ _=>bX)
    (fun _ _ _ _=>(aI cV (aI mS (pv 1) ak) (pv 0))))
   (aj (eO (i:=7) (tg:=.Name "number" _) (outer:=ar (cc)) (N:=["deck","most","letters","start","pad","many","numbers","kinds","way","at","rooms","k","out","keys"]) (N':=["number","pad","letters"]) (nl:=1) (ix:=[4,2]) a6.nd rfl (.inl rfl) rfl rfl rfl (aX (pv 6))
    (fun _ _ _ _=>(az (i:=0) lG rfl (.inl rfl) (.inr rfl))) (fun _ _ _ _=>bX)
    (fun _ _ _ _=>(aI iy (aI iy (pv 1) (aF rH (pv 2) (aI a9 (aI mS (pv 0) ak) ak) (fun _ _=>rfl))) (aF rH (pv 2) (aI a9 (pv 0) ak) (fun _ _=>rfl)))))
   (aj (aD (i:=8) a6.nd rfl (.inl rfl) (aI a9 (pcl ay av hr rfl (ae (pv 0) ai)) ak))
   (aj (aD (i:=9) a6.nd rfl (.inl rfl) (aI a9 (pcl ay av hr rfl (ae (pv 0) ai)) (pv 5)))
   (aj (aD (i:=10) a6.nd rfl (.inr rfl) fm)
   (aj (aR (b4 afq rfl (bK rfl aP (ae (pv 5) ai)) (az (i:=11) a6.nd rfl (.inl rfl))
    (aj (aD (i:=12) a6.nd rfl (.inl rfl) (aF aT (c9 (ae jU (ae (b7 gy (pv 11) (pv 9) (aM _)) (ae (b7 gy (aI a9 (pcl ay av hr rfl (ae (pv 0) ai)) ak) ak (aM _)) (ae jU ai))))) (pv 8) (fun _ _=>rfl)))
    (au (bq (dc ae3 afH afI bJ (pv 10) (ae (bZ (ae (c9 (ae (aF aT (pv 7) (pv 11) (fun _ _=>rfl)) ai)) (ae (aI abe (c9 (ae (aF aT (pv 7) (aI cV (pv 11) ak) (fun _ _=>rfl)) ai)) (aZ lQ rfl pW (by decide +kernel) (ae (acT (pv 12)) ai))) ai))) ai)))))))
   (aj (aD (i:=13) a6.nd rfl (.inl rfl) (aI abe (c9 (ae (aF aT (pv 7) ak (fun _ _=>rfl)) ai)) (@aF _ _ _ _ _ _ _ aT (@c9 _ _ _ _ (@dB _ _ _ _ _ (@ak _ _ _ _) (@dB _ _ _ _ _ (@ak _ _ _ _) (@dB _ _ _ _ _ (@ak _ _ _ _) (@dB _ _ _ _ _ (@ak _ _ _ _) (@ai _) rfl) rfl) rfl) rfl)) (aI a9 (pcl ay av hr rfl (ae (pv 0) ai)) ak) (fun _ _=>rfl))))
   (au (aQ (bZ (ae (pv 13) (ae (jP (tg:=.Name "k" _) (outer:=ar (cc)) (N:=["deck","most","letters","start","pad","many","numbers","kinds","way","at","rooms","k","out","keys"]) (N':=["k","rooms","deck"]) (nl:=1) (ix:=[10,0]) rfl rfl rfl (bK rfl aP (ae (pv 5) ai))
    (fun _ _ _ _=>(az (i:=0) mJ rfl (.inl rfl) (.inr rfl))) (fun _ _ _ _=>bX)
    (fun _ _ _ _=>(j8 (K:=K) rfl ae3 agl agm jC (pv 1) (ae (aI a9 (pcl ay av hr rfl (ae (pv 2) ai)) (ax (h9 (K:=K) rfl) rfl aU afi (ae (pv 1) ai))) ai)))) ai)))))))))))))))),?_⟩
  refine⟨_,rfl,p,rfl,dk,fun st H1 st0 st1 dk1 B1 _=>?_⟩;have a0:0<=st % 26:=afy _ (by decide);have a1:st % 26 < 26:=afp _ (by decide);refine⟨_,rfl,_,rfl,_,26,rfl,rfl,(by show (0:Int) < 26;decide),lettersS,_,97+(st % 26).toNat,rfl,rfl,eN,dZ st,?_⟩;refine⟨_,rfl,_,26,rfl,rfl,⟨by decide,by decide⟩,_,2,rfl,rfl,(by show (0:Int) < 2;decide),⟨#[97+(st % 26).toNat]⟩,_,rfl,rfl,?_,?_,?_,?_⟩
  ·have:0<=st / 26 % 2:=afy _ (by decide);show -1000000<=st / 26 % 2;lia
  ·have:st / 26 % 2 < 2:=afp _ (by decide);show st / 26 % 2<=1000;lia
  ·show 1<=1000;decide
  have pk:aat (Txt.mul ⟨#[97+(st % 26).toNat]⟩ (st / 26 % 2)):=acA (st % 26).toNat (by lia) (afy _ (by decide)) (afp _ (by decide));show bg 4 (V.str (Txt.mul ⟨#[97+(st % 26).toNat]⟩ (st / 26 % 2))) _ _ _;generalize Txt.mul ⟨#[97+(st % 26).toNat]⟩ (st / 26 % 2)=pad at pk;refine⟨_,rfl,p,rfl,dk1,fun r2 H2 _ _ dk2 B2 _=>⟨_,rfl,_,19,rfl,rfl,_,_,rfl,rfl,(by show (0:Int) < (most:Int) - 19;lia),20,_,rfl,rfl,?_⟩⟩;obtain⟨mn,emn,m20,mmost⟩:∃ mn:Nat,20+r2 % ((most:Int) - 19)=(mn:Int)/\20<=mn/\mn<=most:=by
   have a0:0<=r2 % ((most:Int) - 19):=afy _ (by lia);have a1:r2 % ((most:Int) - 19) < (most:Int) - 19:=afp _ (by lia);exact⟨(20+r2 % ((most:Int) - 19)).toNat,by lia,by lia,by lia⟩
  show bg 5 (V.int (20+r2 % ((most:Int) - 19))) _ _ _;rw [emn];dsimp only [bg,tI,sd];refine aW _ _ _ _ _ _ _ _ _ ?_;refine⟨_,rfl,_,1,rfl,rfl,((mn+1:Nat):Int),rfl,by lia,by lia,?_⟩;intro nA nnA;rw [afj];refine qV (n:=mn+1) (F:=fun i=>V.int (st / 52+(0+(i:Int)))) nnA (by lia) (fun x=>rfl) (fun G i R hi sG q=>?_) (fun H3 s3 hD3=>?_)
  ·exact⟨_,rfl,_,52,rfl,rfl,⟨by decide,by decide⟩,_,rfl,_,_,rfl,rfl,q⟩
  refine aW _ _ _ _ _ _ _ _ _ ?_;refine⟨_,rfl,nA,rfl,⟨_,aAA hD3⟩,?_⟩;intro kA nkA;have allI:∀ x∈(List.range (mn+1)).map (fun i:Nat=>V.int (st / 52+(0+(i:Int)))),∃ n:Int,x=.int n:=fun x hx=>by
   obtain⟨i,_,rfl⟩:=ae4.mp hx;exact⟨_,rfl⟩
  refine uC (F:=aei pad) hD3 nkA (by rw [aeP,afz];lia) (fun x=>rfl) (fun G x R hx sG q=>?_) (fun H4 s4 hk4=>?_)
  ·obtain⟨n,rfl⟩:=allI x hx;have l1:=pk.1;have l2:(pad++(⟨#[97+(n / 26 % 26).toNat]⟩:Str)).length<=2:=by
    have e1:=afJ List.length (dA pad (⟨#[97+(n / 26 % 26).toNat]⟩:Str));have e2:(pad++(⟨#[97+(n / 26 % 26).toNat]⟩:Str)).cps.toList.length=(pad++(⟨#[97+(n / 26 % 26).toNat]⟩:Str)).length:=ae5;have e3:pad.cps.toList.length=pad.length:=ae5;rw [aeR,e2,e3] at e1;have e4:((⟨#[97+(n / 26 % 26).toNat]⟩:Str).cps.toList).length=1:=rfl;lia
   refine⟨_,rfl,_,rfl,_,rfl,_,26,rfl,rfl,⟨by decide,by decide⟩,_,26,rfl,rfl,(by show (0:Int) < 26;decide),lettersS,_,97+(n / 26 % 26).toNat,rfl,rfl,eN,dZ _,pad,_,rfl,rfl,afo (aC (by show _+1<=1000;lia)),?_⟩;exact⟨_,rfl,_,rfl,_,26,rfl,rfl,(by show (0:Int) < 26;decide),lettersS,_,97+(n % 26).toNat,rfl,rfl,eN,dZ _,_,_,rfl,rfl,afo (aC (by show _+1<=1000;lia)),q⟩
  obtain⟨ks,eks,kl,kk⟩:∃ ks:List Str,((List.range (mn+1)).map (fun i:Nat=>V.int (st / 52+(0+(i:Int))))).map (aei pad)=ks.map V.str/\ks.length=mn+1/\∀ k∈ks,bD k:=by
   refine⟨(List.range (mn+1)).map fun i:Nat=>chk pad (st / 52+(0+(i:Int))),by rw [af7,af7];rfl,by rw [aeP,afz],fun z hz=>?_⟩;obtain⟨i,_,rfl⟩:=ae4.mp hz;exact acC pk _
  rw [eks] at hk4;have s24:Same H2 H4:=s3.trans s4;have B04:But p H H4:=B1.trans (B2.trans (cB s24));have dk4:=dk2.same s24;have nk0:H kA=none:=(B1.trans (B2.trans (cB s3))).free ((dk2.same s3).ne nkA) nkA;have kp:=dk.ne nk0;clear eks allI hD3 s3 s4 s24 nkA;refine⟨_,rfl,p,rfl,dk4,fun r5 H5 _ _ dk5 B5 _=>⟨_,4,rfl,rfl,(by show (0:Int) < 4;decide),?_⟩⟩;obtain⟨way,ew,hw⟩:=md (r:=r5) (n:=4) (by decide);refine⟨_,rfl,p,rfl,dk5,fun r6 H6 _ _ dk6 B6 _=>⟨_,rfl,_,_,rfl,rfl,(by show (0:Int) < (mn:Int);lia),afe _,fun rA nR=>?_⟩⟩;have hk6:=B6 _ _ kp (B5 _ _ kp hk4);have B06:=B04.trans (B5.trans B6);have s7:Same H6 (upd H6 rA (.lst [])):=aq nR;have e7:(upd H6 rA (.lst [])) rA=some (.lst []):=ag;have rk:kA≠rA:=af hk6 nR;have nR0:H rA=none:=B06.free (dk6.ne nR) nR;generalize upd H6 rA (.lst [])=H7 at *;have sep:Sep H H7 p kA rA ks []:=⟨dk,dk6.same s7,B06.trans (cB s7),fun a ha=>by
   unfold own at ha;simp only [aiw,ae7,af4,ahO] at ha;rcases ha with rfl | rfl
   ·exact nk0
   ·exact nR0,by unfold own;simp [rk],s7 _ _ hk6,e7,fun x hx=>nomatch hx⟩
  refine⟨fun σ' H'=>ChI p kA rA ks H mn (fun x11 x12=>[some (.ref p),some (.int most),some (.str lettersS),some (.int st),some (.str pad),some (.int mn),some (.ref nA),some (.ref kA),some (.int way),some (.int (r6 % (mn:Int))),some (.ref rA),x11,x12,none]) σ' H',?_,?_⟩;rotate_left
  ·refine⟨_,rfl,(mn:Int),rfl,by lia,by lia,?_⟩;rw [afj];refine fu (fun i σ' H'=>ChI p kA rA ks H i (fun x11 x12=>[some (.ref p),some (.int most),some (.str lettersS),some (.int st),some (.str pad),some (.int mn),some (.ref nA),some (.ref kA),some (.int way),some (.int (r6 % (mn:Int))),some (.ref rA),x11,x12,none]) σ' H') ⟨[],none,none,by rw [← ew];rfl,sep,rfl,fun _ h=>nomatch h⟩ ?_ (fun σ H' z=>z);rintro i σ H8 hi ⟨L,x11,x12,rfl,sep,len,pl⟩;have key:∀ b1 b2:Bool,∃ b,atI [V.bl false,V.bl b1,V.bl b2,V.bl true] (way:Int)=some (.bl b):=fun b1 b2=>by
    rcases (by lia:way=0\/way=1\/way=2\/way=3) with rfl | rfl | rfl | rfl
    ·exact⟨_,rfl⟩
    ·exact⟨_,rfl⟩
    ·exact⟨_,rfl⟩
    ·exact⟨_,rfl⟩
   refine⟨_,rfl,_,rfl,rfl,_,rfl,p,rfl,sep.dk,fun r H9 _ _ dk9 B9 _=>⟨_,4,rfl,rfl,(by show (0:Int) < 4;decide),rfl,by show 4<=sizeLine;decide,fun l nl=>?_⟩⟩;obtain⟨b,hb⟩:=key (decide (V.int (0+(i:Int))=V.int (r6 % (mn:Int)))) (decide (V.int (r % 4)=V.int 0));refine⟨_,rfl,l,_,_,.bl b,rfl,rfl,aAA ag,hb,?_⟩;have sepA:=(sep.on dk9 B9).same (aq (o:=.lst [V.bl false,V.bl (decide (V.int (0+(i:Int))=V.int (r6 % (mn:Int)))),V.bl (decide (V.int (r % 4)=V.int 0)),V.bl true]) nl);show bg 12 (V.bl b) _ (upd H9 l (.lst [V.bl false,V.bl (decide (V.int (0+(i:Int))=V.int (r6 % (mn:Int)))),V.bl (decide (V.int (r % 4)=V.int 0)),V.bl true])) _;generalize upd H9 l (.lst [V.bl false,V.bl (decide (V.int (0+(i:Int))=V.int (r6 % (mn:Int)))),V.bl (decide (V.int (r % 4)=V.int 0)),V.bl true])=HA at *;have i1:i < ks.length:=by lia
   have i2:i+1 < ks.length:=by lia
   refine⟨_,rfl,.inl ⟨rfl,_,aAA sepA.hr⟩,_,rfl,_,rfl,kA,_,_,.str ks[i],rfl,rfl,aAA sepA.hk,by rw [ajf];exact bw (by rw [aeZ,aeO i1];rfl),by show 1<=sizeLine;decide,fun d nd=>?_⟩;have s1:Same HA (upd HA d (.lst [.str ks[i]])):=aq nd;have e1:(upd HA d (.lst [.str ks[i]])) d=some (.lst [.str ks[i]]):=ag;generalize upd HA d (.lst [.str ks[i]])=HB at *;have sepB:=sepA.same s1;refine⟨_,rfl,_,rfl,_,1,rfl,rfl,kA,_,_,.str ks[i+1],rfl,rfl,aAA sepB.hk,by rw [ajf];exact bw (j:=i+1) (by rw [aeZ,aeO i2];rfl),by show 1<=sizeLine;decide,fun l1 n1=>?_⟩;have s2:Same HB (upd HB l1 (.lst [.str ks[i+1]])):=aq n1;have e2:(upd HB l1 (.lst [.str ks[i+1]])) l1=some (.lst [.str ks[i+1]]):=ag;generalize upd HB l1 (.lst [.str ks[i+1]])=HC at *;obtain⟨c,ec,hc⟩:∃ c:Nat,(if (!b)=true then (1:Int) else 0)=(c:Int)/\c<=1:=by
    cases b
    ·exact⟨1,rfl,ae1 _⟩
    ·exact⟨0,rfl,by decide⟩
   refine⟨_,rfl,b,rfl,.inr ⟨_,rfl,l1,(c:Int),_,rfl,afJ V.int ec,e2,by lia,by lia,by rw [afj];exact afo (aC (by show 1 * c<=1000;lia)),fun W nW=>?_⟩⟩;rw [afj,xb];have s4:Same HC (upd HC W (.lst ((List.replicate c ks[i+1]).map V.str))):=aq nW;have e4:(upd HC W (.lst ((List.replicate c ks[i+1]).map V.str))) W=some (.lst ((List.replicate c ks[i+1]).map V.str)):=ag;generalize upd HC W (.lst ((List.replicate c ks[i+1]).map V.str))=HD at *;refine⟨by show 2<=sizeLine;decide,fun t nt=>?_⟩;have s6:Same HD (upd HD t (.tup [.ref d,.ref W])):=aq nt;have e6:(upd HD t (.tup [.ref d,.ref W])) t=some (.tup [.ref d,.ref W]):=ag;generalize upd HD t (.tup [.ref d,.ref W])=HE at *;have sAC:=s1.trans s2;have sAE:Same HA HE:=sAC.trans (s4.trans s6);have nWA:HA W=none:=sAC.free nW;have hdC:=s2 _ _ e1;have sepE:=sepA.same sAE;refine⟨rA,_,_,rfl,rfl,sepE.hr,by rw [aeP];exact aC (by lia),?_⟩;have sepF:=sepA.more (y:=⟨t,d,W,([ks[i]],List.replicate c ks[i+1])⟩) sepE.dk (cB sAE) nd nWA (af hdC nW) e6 (s6 _ _ (s4 _ _ hdC)) (s6 _ _ e4);refine⟨L++[⟨t,d,W,([ks[i]],List.replicate c ks[i+1])⟩],_,_,rfl,sepF,by simp [len],fun x hx=>?_⟩;rcases aeT.mp hx with q | q
   ·exact pl x q
   ·rw [aeS.mp q];exact⟨⟨_,rfl,afh i1⟩,fun z hz=>by rw [ajD hz];exact afh i2,by show (List.replicate c ks[i+1]).length<=12;rw [agf];lia⟩
  rintro σ H8 ⟨L,x11,x12,rfl,sep,len,pl⟩;have i0:0 < ks.length:=by lia
  refine⟨_,rfl,kA,_,0,.str ks[0],rfl,rfl,aAA sep.hk,bw (j:=0) (by rw [aeZ,aeO i0];rfl),by show 1<=sizeLine;decide,fun l1 n1=>?_⟩;have s1:Same H8 (upd H8 l1 (.lst [.str ks[0]])):=aq n1;have e1:(upd H8 l1 (.lst [.str ks[0]])) l1=some (.lst [.str ks[0]]):=ag;have sep9:=sep.same s1;have l1p:=sep.dk.ne n1;generalize upd H8 l1 (.lst [.str ks[0]])=H9 at *;refine⟨by show 4<=sizeLine;decide,fun l2 n2=>?_⟩;have s2:Same H9 (upd H9 l2 (.lst (([1,1,1,0]:List Int).map V.int))):=aq n2;have e2:(upd H9 l2 (.lst (([1,1,1,0]:List Int).map V.int))) l2=some (.lst (([1,1,1,0]:List Int).map V.int)):=ag;have sepA:=sep9.same s2;have l2p:=sep9.dk.ne n2;have e1A:=s2 _ _ e1;refine⟨_,rfl,p,rfl,sepA.dk,fun r HB _ _ dkB BB _=>⟨_,4,rfl,rfl,(by show (0:Int) < 4;decide),?_⟩⟩;obtain⟨mi,hmi,ha⟩:=adV (xs:=[1,1,1,0]) (r:=r % 4) (afy _ (by decide)) (afp _ (by decide));have hmi':0<=mi/\mi<=1:=by simp only [ae7,af4,ahO] at hmi;lia
  obtain⟨c,rfl⟩:∃ c:Nat,mi=(c:Int):=⟨mi.toNat,by lia⟩;have sepB:=sepA.on dkB BB;refine⟨l2,_,_,.int c,rfl,rfl,aAA (BB _ _ l2p e2),ha,l1,(c:Int),_,rfl,rfl,BB _ _ l1p e1A,by lia,by lia,by rw [afj];exact afo (aC (by show 1 * c<=1000;lia)),fun kB nB=>?_⟩;rw [afj,xb];have s3:Same HB (upd HB kB (.lst ((List.replicate c ks[0]).map V.str))):=aq nB;have e3:(upd HB kB (.lst ((List.replicate c ks[0]).map V.str))) kB=some (.lst ((List.replicate c ks[0]).map V.str)):=ag;have sepC:=(sepB.same s3).newk (sepB.out nB) (sepB.free nB) e3;generalize upd HB kB (.lst ((List.replicate c ks[0]).map V.str))=HC at *;have rp:=sepC.ne (own_mem.mpr (.inr (.inl rfl)));have rrl:(L.map fun x=>V.ref x.t).length=mn:=by rw [aeP];exact len
  refine⟨_,rfl,?_⟩;dsimp only [eP,kX];refine aW _ _ _ _ _ _ _ _ _ ?_;refine⟨_,rfl,(mn:Int),rfl,by lia,by lia,?_⟩;intro D nD;rw [afj,← rrl];refine ve nD sepC.dk sepC.hr rp (by lia) (fun x=>rfl) (fun x=>rfl) (fun x=>rfl) fun ys HD pm hDD dkD BD=>?_;obtain⟨L8,rfl,pm8⟩:=ko pm.symm (xs:=L) rfl;refine⟨by show 2<=sizeLine;decide,fun tt ntt=>?_⟩;have s9:Same HD (upd HD tt (.tup [.ref kB,.ref D])):=aq ntt;have e9:(upd HD tt (.tup [.ref kB,.ref D])) tt=some (.tup [.ref kB,.ref D]):=ag;generalize upd HD tt (.tup [.ref kB,.ref D])=HE at *;have up:∀ {b:Addr} {u:HO},b≠p->b≠rA->HC b=some u->HE b=some u:=fun nb nr e=>s9 _ _ (BD _ _ nb nr e);have m8:∀ x∈L8,x∈L:=fun x hx=>pm8.mem_iff.mp hx;obtain⟨o1,o2⟩:=rT sepC.nd;refine k (.ref tt) (List.replicate c ks[0],L8.map (·.r)) HE ⟨tt,kB,D,_,rfl,e9,up (sepC.ne (own_mem.mpr (.inl rfl))) o1 sepC.hk,s9 _ _ hDD,by simp,fun i v r a b=>?_⟩ (qC kk (.inl (by lia)) (fun z hz=>by rw [ajD hz];exact afh i0) (by rw [agf];lia) (fun r hr=>?_) (by rw [aeP,pm8.length_eq];lia)) (dkD.same s9) ?_
  ·rw [aeZ] at a b;obtain⟨y,hy,rfl⟩:=agr.mp a;rw [hy] at b;cases b;have my:=m8 y (afB hy);obtain⟨h1,h2,h3⟩:=sepC.it y my;obtain⟨_,_,f1,f2,_⟩:=o2 y my;exact⟨y.t,y.d,y.w,rfl,up (sepC.dk.net h1) (sepC.tne (own_mem.mpr (.inr (.inl rfl))) my) h1,up (sepC.ne (own_mem.mpr (.inr (.inr ⟨y,my,.inl rfl⟩)))) f1 h2,up (sepC.ne (own_mem.mpr (.inr (.inr ⟨y,my,.inr rfl⟩)))) f2 h3⟩
  ·obtain⟨y,hy,rfl⟩:=ae4.mp hr;exact pl y (m8 y hy)
  ·exact fun b u nb e=>up nb (af e (sepC.fr _ (own_mem.mpr (.inr (.inl rfl))))) (sepC.but b u nb e)
theorem acO:aJ ["house"] ["house"] (ar uj):=scM rfl rfl rfl rfl (by decide +kernel)
abbrev zV:Expr:=zK (mE ((cq uj).getD 0 (.Pass ⟨0,0,0,0⟩)))
theorem ac0:iT (ar uj) (gF zV) ["house"] ["locks","keys"] 2 []=true:=by decide +kernel
theorem nd5:(["locks","keys"]:List Str).Nodup:=by decide +kernel
theorem abj {f:Addr}{fd:FuncData}(F:Fun K "_law_copy" "_law_copy" uj f fd)(mLi:mg "list" = none):bF P w K mg base CX0 1 f fd ["house"] aa6:=by
 refine F.ok acO (fun vs H Q E h=>?_) (fun cdv A outer s H vs Q E hr h=>?_)
 ·obtain⟨v,r,rfl,_⟩:=h
  rfl
 ·obtain⟨v,hs,rfl,⟨t,a,r,vs,rfl,ht,ha,hr',hR⟩,ok,k⟩:=h;obtain⟨S,Cp⟩:=gJ (X:=(uM CX0 P w K mg base ["house"] "_law_copy" (ar uj) f cdv A outer s H E).nox) (outer:=ar uj) (N:=["house"]) rfl rfl ac0;refine⟨_,au (aQ (bZ (ae (aZ bu rfl mLi (by decide +kernel) (ae (aF aO (pv 0) ak (fun _ _=>rfl)) ai))
   (ae (jo rfl S Cp (aX (aF aO (pv 0) ak (fun _ _=>rfl)))
    (fun _ _ _ _=>jQ (K:=K) (n:=2) rfl rfl (aG (az (i:=0) nd5 rfl (.inl rfl) (.inr rfl)) (aG (az (i:=1) nd5 rfl (.inl rfl) (.inr rfl)) bS))) (fun _ _ _ _=>bX)
    (fun _ _ _ _=>bZ (ae (aZ (oB (K:=K) rfl) rfl mLi (by decide +kernel) (ae (pv 0) ai)) (ae (aZ (oB (K:=K) rfl) rfl mLi (by decide +kernel) (ae (pv 1) ai)) ai)))) ai)))),?_⟩
  refine⟨_,rfl,t,_,0,.ref a,rfl,rfl,aAB ht,rfl,a,_,rfl,.inl (aAA ha),fun a1 ha1=>?_⟩;have sm0:Same H (upd H a1 (.lst (hs.1.map V.str))):=fun b u e=>by rw [ah (af e ha1)];exact e
  dsimp only [eP,kX];refine aW _ _ _ _ _ _ _ _ _ ?_;refine⟨_,rfl,t,_,1,.ref r,rfl,rfl,aAB (sm0 _ _ ht),rfl,r,rfl,⟨_,aAA (sm0 _ _ hr')⟩,?_⟩;intro D hD;have hl:vs.length<=1000:=by rw [hR.1];exact ok.rl
  have naD:a1≠D:=af (show (upd H a1 (.lst (hs.1.map V.str))) a1=some _ from ag) hD;refine bV (xs:=vs) (fun i ys H2=>i<=1000/\ys.length=i/\(∀ (j:Nat) (v:V) (rm:Rm),ys[j]? = some v->hs.2[j]? = some rm->RoomOff D H2 v rm)/\H2 D=some (.lst ys)/\Same (upd H a1 (.lst (hs.1.map V.str))) H2)
   ⟨by decide,rfl,(fun j v rm e=>by simp at e),ag,fun b u e=>by rw [ah (af e hD)];exact e⟩ (fun i ys H2 ⟨_,_,_,h,_⟩=>h) (fun i ys H2 ⟨_,_,_,_,sm⟩=>aAA (sm r _ (sm0 _ _ hr'))) ?_ ?_
  ·rintro i ys H2 x hx ⟨hi0,hyl,hrm,hD2,sm⟩;have hi:i < vs.length:=(aeU.mp hx).1;have hi':i < hs.2.length:=by rw [← hR.1];exact hi
   obtain⟨tt,aa,bb,rfl,g1,g2,g3⟩:=((hR.2 i x _ hx (aeO hi')).same sm0).same sm;refine pz tt (.ref aa) (.ref bb) rfl (aAB g1) rfl ?_;refine⟨_,rfl,aa,_,rfl,.inl (aAA g2),fun l1 n1=>?_⟩;have m1:Same H2 (upd H2 l1 (.lst ((hs.2[i]).1.map V.str))):=fun b u e=>by rw [ah (af e n1)];exact e
   refine⟨_,rfl,bb,_,rfl,.inl (aAA (m1 _ _ g3)),fun l2 n2=>?_⟩;have m2:Same (upd H2 l1 (.lst ((hs.2[i]).1.map V.str))) (upd (upd H2 l1 (.lst ((hs.2[i]).1.map V.str))) l2 (.lst ((hs.2[i]).2.map V.str))):=fun b u e=>by rw [ah (af e n2)];exact e
   refine⟨by show 2<=sizeLine;decide,fun tn n3=>?_⟩;generalize hH3:upd (upd H2 l1 (.lst ((hs.2[i]).1.map V.str))) l2 (.lst ((hs.2[i]).2.map V.str))=H3 at *;have e1:H3 l1=some (.lst ((hs.2[i]).1.map V.str)):=m2 _ _ ag;have e2:H3 l2=some (.lst ((hs.2[i]).2.map V.str)):=by rw [← hH3];exact ag
   have m3:Same H3 (upd H3 tn (.tup [.ref l1,.ref l2])):=fun b u e=>by rw [ah (af e n3)];exact e
   have m03:Same H2 (upd H3 tn (.tup [.ref l1,.ref l2])):=(m1.trans m2).trans m3;have d1:D≠l1:=af hD2 n1;have d2:D≠l2:=af (m1 _ _ hD2) n2;have d3:D≠tn:=af ((m1.trans m2) _ _ hD2) n3;have rmNew:RoomOff D (upd H3 tn (.tup [.ref l1,.ref l2])) (.ref tn) hs.2[i]:=⟨tn,l1,l2,rfl,ag,m3 _ _ e1,m3 _ _ e2,d3.symm,d1.symm,d2.symm⟩;have hDn:=m03 D _ hD2;have mD:∀ o,(∀ b u,b≠D->(upd H3 tn (.tup [.ref l1,.ref l2])) b=some u->(upd (upd H3 tn (.tup [.ref l1,.ref l2])) D o) b=some u):=fun o b u nb e=>by rw [ah nb];exact e
   refine⟨hDn,by rw [hyl];exact aC (by lia),nx hi ⟨by lia,by rw [aeR,hyl];rfl,fun j v rm q1 q2=>?_,ag,fun b u e=>?_⟩⟩
   ·by_cases hj:j < i
    ·rw [agt (by lia)] at q1;exact ((hrm j v rm q1 q2).on fun b u _ e=>m03 b u e).on (mD _)
    ·have hjl:j < (ys++[V.ref tn]).length:=(aeU.mp q1).1;rw [aeR,afT] at hjl;have ej:j=i:=by lia
     subst ej;rw [afF (by lia),hyl,ahH] at q1;cases q1;rw [aeO hi'] at q2;cases q2;exact rmNew.on (mD _)
   ·rw [ah (af e hD)];exact m03 b u (sm b u e)
  ·rintro ys H2 ⟨_,hyl,hrm,hD2,sm⟩;refine⟨by show 2<=sizeLine;decide,fun tn n3=>?_⟩;have m3:Same H2 (upd H2 tn (.tup [.ref a1,.ref D])):=fun b u e=>by rw [ah (af e n3)];exact e
   refine k (.ref tn) _ ((sm0.trans sm).trans m3) ⟨tn,a1,D,ys,rfl,ag,m3 _ _ (sm _ _ ag),m3 _ _ hD2,⟨by rw [hyl,hR.1],fun j v rm e1 e2=>(hrm j v rm e1 e2).at.same m3⟩⟩
theorem CountMap.len {H:Hp}{kvs:List (Key×V)}{ks ls:List Str}(c:CountMap H kvs ks ls):kvs.length<=ks.length+ls.length:=by
 have:=aB (U:=(ks++ls).map (Sum.inr:Str->Key)) c.nd fun q hq=>by
  obtain⟨x,e,h⟩:=(c.mem q).mp hq;exact ae4.mpr ⟨x,aeT.mpr h,e.symm⟩
 rw [aeP,aeP,aeR] at this;exact this
theorem CountMap.key {H H':Hp}{kvs:List (Key×V)}{ks ls:List Str}{x:Str}{t:Addr}(c:CountMap H kvs ks ls)(k:wu H H')(ht:H' t=some (.tup [.int (((ks.count x:Nat):Int)+1),.int ((ls.count x:Nat):Int)])):CountMap H' (fU kvs (Sum.inr x) (.ref t)) (ks++[x]) ls:=by
 refine c.put k (fun y=>?_) (fun y ne=>⟨?_,rfl⟩) ?_
 ·rw [aeT,aeS];exact⟨fun h=>h.elim (fun h=>h.elim (fun z=>.inr (.inl z)) .inl) fun z=>.inr (.inr z),fun h=>h.elim (fun z=>.inl (.inr z)) fun h=>h.elim (fun z=>.inl (.inl z)) .inr⟩
 ·rw [afR,List.count_singleton];simp [agM ne]
 ·rw [ht,afR,ahU]
  rfl
theorem CountMap.lock {H H':Hp}{kvs:List (Key×V)}{ks ls:List Str}{x:Str}{t:Addr}(c:CountMap H kvs ks ls)(k:wu H H')(ht:H' t=some (.tup [.int ((ks.count x:Nat):Int),.int (((ls.count x:Nat):Int)+1)])):CountMap H' (fU kvs (Sum.inr x) (.ref t)) ks (ls++[x]):=by
 refine c.put k (fun y=>?_) (fun y ne=>⟨rfl,?_⟩) ?_
 ·rw [aeT,aeS];exact⟨fun h=>h.elim (fun z=>.inr (.inl z)) fun h=>h.elim (fun z=>.inr (.inr z)) .inl,fun h=>h.elim (fun z=>.inr (.inr z)) fun h=>h.elim .inl fun z=>.inr (.inl z)⟩
 ·rw [afR,List.count_singleton];simp [agM ne]
 ·rw [ht,afR,ahU]
  rfl
inductive CoI (d:Addr)(H:Hp)(ks ls:List Str)(f:Option V->L2.St)(σ:L2.St)(H2:Hp):Prop
 | mk (x2:Option V) (kvs:List (Key×V)):σ=f x2->H2 d=some (.dK kvs)->CountMap H2 kvs ks ls->Same H H2->CoI d H ks ls f σ H2
theorem bM:aJ ["house","found","kind","locks","keys"] ["house"] (ar fh):=scM rfl rfl rfl rfl (by decide +kernel)
theorem yh {f:Addr}{fd:FuncData}(F:Fun K "_law_counts" "_law_counts" fh f fd):bF P w K mg base CX0 1 f fd ["house"] jG:=by
 refine F.ok bM (fun vs H Q E h=>?_) (fun cdv A outer s H vs Q E hr h=>?_)
 ·obtain⟨v,r,rfl,_⟩:=h
  rfl
 ·obtain⟨v,hs,rfl,⟨t,a,r,vs,rfl,ht,ha,hr',hR⟩,ok,⟨_,nk,nl⟩,k⟩:=h;have hu:=i6 hr;refine⟨_,(aj (aD (i:=1) bM.nd rfl (.inl rfl) qb)
   (aj (aR (b4 afq rfl (aX (aF aO (pv 0) ak (fun _ _=>rfl))) (az (i:=2) bM.nd rfl (.inl rfl))
    (au (iW hu (pv 1) (pv 2) (bZ (ae (aI cV (aF aO (iE hu (pv 1) (pv 2) (bZ (ae ak (ae ak ai))) ⟨rfl,rfl,rfl,rfl⟩) ak (fun _ _=>rfl)) ak) (ae ak ai))) rfl))))
   (aj (aR (b4 afq rfl (aX (aF aO (pv 0) ak (fun _ _=>rfl))) (eV rfl (aG (az (i:=3) bM.nd rfl (.inl rfl)) (aG (az (i:=4) bM.nd rfl (.inl rfl)) bS)))
    (aj (aR (b4 afq rfl (aX (pv 4)) (az (i:=2) bM.nd rfl (.inl rfl))
     (au (iW hu (pv 1) (pv 2) (bZ (ae (aI cV (aF aO (iE hu (pv 1) (pv 2) (bZ (ae ak (ae ak ai))) ⟨rfl,rfl,rfl,rfl⟩) ak (fun _ _=>rfl)) ak) (ae (aF aO (iE hu (pv 1) (pv 2) (bZ (ae ak (ae ak ai))) ⟨rfl,rfl,rfl,rfl⟩) ak (fun _ _=>rfl)) ai))) rfl))))
    (au (aR (b4 afq rfl (aX (pv 3)) (az (i:=2) bM.nd rfl (.inl rfl))
     (au (iW hu (pv 1) (pv 2) (bZ (ae (aF aO (iE hu (pv 1) (pv 2) (bZ (ae ak (ae ak ai))) ⟨rfl,rfl,rfl,rfl⟩) ak (fun _ _=>rfl)) (ae (aI cV (aF aO (iE hu (pv 1) (pv 2) (bZ (ae ak (ae ak ai))) ⟨rfl,rfl,rfl,rfl⟩) ak (fun _ _=>rfl)) ak) ai))) rfl))))))))
   (au (aQ (pv 1)))))),?_⟩
  intro d hd;have m0:Same H (upd H d (.dK [])):=fun b u e=>by rw [ah (af e hd)];exact e
  have put:∀ {H2:Hp} {kvs:List (Key×V)} {x:Str} {t':Addr} {o:HO},Same H H2->H2 d=some (.dK kvs)->H2 t'=none->Same H (upd (upd H2 t' o) d (.dK (fU kvs (Sum.inr x) (.ref t')))):=fun {H2 kvs x t' o} sm hd2 nt b u e=>by
   rw [ah (af e hd),ah (af (sm b u e) nt)];exact sm b u e
  have putT:∀ {H2:Hp} {kvs:List (Key×V)} {x:Str} {t':Addr} {o:HO},H2 d=some (.dK kvs)->H2 t'=none->wu H2 (upd (upd H2 t' o) d (.dK (fU kvs (Sum.inr x) (.ref t')))):=fun {H2 kvs x t' o} hd2 nt b xs e=>by
   rw [ah (bU e hd2 (fun z=>nomatch z)),ah (af e nt)];exact e
  have step:∀ {H2:Hp} {kvs:List (Key×V)} {ks ls:List Str} {t0:Addr},Same H H2->H2 d=some (.dK kvs)->CountMap H2 kvs ks ls->H2 t0=none->∃ H3,H3=upd H2 t0 (.tup [.int 0,.int 0])/\H3 d=some (.dK kvs)/\Same H2 H3/\Same H H3/\CountMap H3 kvs ks ls ∧
   ∀ x,∃ t:Addr,(b9 kvs (Sum.inr x)).getD (.ref t0)=.ref t/\H3 t=some (.tup [.int ((ks.count x:Nat):Int),.int ((ls.count x:Nat):Int)]):=fun {H2 kvs ks ls t0} sm hd2 cm n0=>by
   have s3:Same H2 (upd H2 t0 (.tup [.int 0,.int 0])):=fun b u e=>by rw [ah (af e n0)];exact e
   have c3:=cm.on s3.keepT;exact⟨_,rfl,s3 _ _ hd2,s3,sm.trans s3,c3,fun x=>c3.get x ag⟩
  have klen:∀ i,(hs.1.take i).length<=1000:=fun i=>by
   unfold a7 at nk;rw [aeR] at nk;have:=aiJ i hs.1;lia
  refine⟨fun σ H2=>CoI d H hs.1 [] (fun x2=>[some (.ref t),some (.ref d),x2,none,none]) σ H2,?_,?_⟩;rotate_left
  ·refine⟨_,rfl,t,_,0,.ref a,rfl,rfl,aAB (m0 _ _ ht),rfl,a,rfl,⟨_,aAA (m0 _ _ ha)⟩,?_⟩;refine bQ (xs:=hs.1.map V.str) (fun i σ H2=>CoI d H (hs.1.take i) [] (fun x2=>[some (.ref t),some (.ref d),x2,none,none]) σ H2) ⟨none,[],rfl,ag,CountMap.nil _,m0⟩ (fun i σ H2 _ ⟨_,_,_,_,_,sm⟩=>aAA (sm _ _ ha)) ?_ (fun σ H' z=>by rw [aeP,afs] at z;exact z);rintro i x σ H2 hx ⟨x2,kvs,rfl,hd2,cm,sm⟩;have hi:i < hs.1.length:=by have:=(aeU.mp hx).1;rwa [aeP] at this
   rw [aeZ,aeO hi] at hx;cases hx;refine⟨_,rfl,d,rfl,.inl ⟨kvs,.inl hd2⟩,_,rfl,by show 2<=sizeLine;decide,fun t0 n0=>?_⟩;obtain⟨H3,e3,hd3,_,sm3,cm3,hg⟩:=step sm hd2 cm n0;rw [← e3];obtain⟨t1,g1,g2⟩:=hg hs.1[i];refine⟨_,DGet.k (k:=Sum.inr hs.1[i]) hd3,t1,_,0,_,g1,rfl,aAB g2,rfl,_,1,rfl,rfl,by show 2<=sizeLine;decide,fun t2 n2=>?_⟩;have hd4:(upd H3 t2 (.tup [.int (((List.take i hs.1).count hs.1[i]:Nat)+1:Int),.int 0])) d=some (.dK kvs):=by rw [ah (af hd3 n2)];exact hd3
   refine⟨_,rfl,_,rfl,d,_,rfl,DPut.k (k:=Sum.inr hs.1[i]) hd4 (aC (aft (CountMap.len cm3) (by have:=klen i;simpa using this))),?_⟩;refine⟨_,_,rfl,ag,?_,put sm3 hd3 n2⟩;rw [afk,aeO hi];exact CountMap.key cm3 (putT hd3 n2) (by rw [ah (fun z=>af hd3 n2 z.symm),ag];rfl)
  rintro σ H2 ⟨x2,kvs,rfl,hd2,cm,sm⟩;refine⟨fun σ H2=>∃ x3 x4,CoI d H (a7 hs) (aN hs) (fun x2=>[some (.ref t),some (.ref d),x2,x3,x4]) σ H2,?_,?_⟩
  ·rintro σ H3 ⟨x3,x4,x2,kvs,rfl,hd2,cm,sm⟩;exact⟨_,rfl,k d kvs H3 hd sm hd2 cm⟩
  refine⟨_,rfl,t,_,1,.ref r,rfl,rfl,aAB (sm _ _ ht),rfl,r,rfl,⟨_,aAA (sm _ _ hr')⟩,?_⟩;refine bQ (xs:=vs) (fun i σ H2=>∃ x3 x4,CoI d H (hs.1++(hs.2.take i).flatMap (·.2)) ((hs.2.take i).flatMap (·.1)) (fun x2=>[some (.ref t),some (.ref d),x2,x3,x4]) σ H2) ⟨none,none,x2,kvs,rfl,hd2,by simpa using cm,sm⟩ (fun i σ H2 _ ⟨_,_,_,_,_,_,_,sm⟩=>aAA (sm _ _ hr')) ?_ (fun σ H' z=>by rw [hR.1,afs] at z;exact z);rintro i x σ H2 hx ⟨x3,x4,x2,kvs,rfl,hd2,cm,sm⟩;have hi:i < vs.length:=(aeU.mp hx).1;have hi':i < hs.2.length:=by rw [← hR.1];exact hi
  obtain⟨tt,aa,bb,rfl,q1,q2,q3⟩:=hR.2 i x _ hx (aeO hi');have kb:∀ j,(hs.1++(hs.2.take i).flatMap (·.2)++(hs.2[i]).2.take j).length<=1000:=fun j=>by
   have e1:=jH (fun x:Rm=>x.2) hs.2 (i+1);rw [dz _ _ _ hi',aeR] at e1;have e2:=aiJ j (hs.2[i]).2;unfold a7 at nk;rw [aeR] at nk;rw [aeR,aeR];lia
  have lb:∀ j,((hs.2.take i).flatMap (·.1)++(hs.2[i]).1.take j).length<=1000:=fun j=>by
   have e1:=jH (fun x:Rm=>x.1) hs.2 (i+1);rw [dz _ _ _ hi',aeR] at e1;have e2:=aiJ j (hs.2[i]).1;unfold aN at nl;rw [aeR];lia
  have big:∀ {n:Nat},n<=2000->n < sizeLine:=fun h=>afx h (by decide);refine⟨tt,_,rfl,aAB (sm _ _ q1),rfl,.ref aa,[.ref bb],rfl,.ref bb,[],rfl,rfl,?_⟩;refine⟨fun σ H2=>CoI d H (hs.1++(hs.2.take i).flatMap (·.2)++(hs.2[i]).2) ((hs.2.take i).flatMap (·.1)) (fun x2=>[some (.ref t),some (.ref d),x2,some (.ref aa),some (.ref bb)]) σ H2,?_,?_⟩;rotate_left
  ·refine⟨_,rfl,bb,rfl,⟨_,aAA (sm _ _ q3)⟩,?_⟩;refine bQ (xs:=(hs.2[i]).2.map V.str) (fun j σ H2=>CoI d H (hs.1++(hs.2.take i).flatMap (·.2)++(hs.2[i]).2.take j) ((hs.2.take i).flatMap (·.1)) (fun x2=>[some (.ref t),some (.ref d),x2,some (.ref aa),some (.ref bb)]) σ H2) ⟨x2,kvs,rfl,hd2,by simpa using cm,sm⟩ (fun i σ H2 _ ⟨_,_,_,_,_,sm⟩=>aAA (sm _ _ q3)) ?_ (fun σ H' z=>by rw [aeP,afs] at z;exact z);rintro j x σ H2 hx ⟨x2,kvs,rfl,hd2,cm,sm⟩;have hj:j < (hs.2[i]).2.length:=by have:=(aeU.mp hx).1;rwa [aeP] at this
   rw [aeZ,aeO hj] at hx;cases hx;refine⟨_,rfl,d,rfl,.inl ⟨kvs,.inl hd2⟩,_,rfl,by show 2<=sizeLine;decide,fun t0 n0=>?_⟩;obtain⟨H3,e3,hd3,_,sm3,cm3,hg⟩:=step sm hd2 cm n0;rw [← e3];obtain⟨t1,g1,g2⟩:=hg (hs.2[i]).2[j];refine⟨_,DGet.k (k:=Sum.inr (hs.2[i]).2[j]) hd3,t1,_,0,_,g1,rfl,aAB g2,rfl,_,1,rfl,rfl,?_⟩;clear hg g1 g2 e3;refine⟨_,rfl,d,rfl,.inl ⟨kvs,.inl hd3⟩,_,rfl,by show 2<=sizeLine;decide,fun t0' n0'=>?_⟩;obtain⟨H4,e4,hd4,_,sm4,cm4,hg⟩:=step sm3 hd3 cm3 n0';rw [← e4];obtain⟨t1,g1,g2⟩:=hg (hs.2[i]).2[j];refine⟨_,DGet.k (k:=Sum.inr (hs.2[i]).2[j]) hd4,t1,_,1,_,g1,rfl,aAB g2,rfl,by show 2<=sizeLine;decide,fun t2 n2=>?_⟩;refine⟨_,rfl,_,rfl,d,_,rfl,DPut.k (k:=Sum.inr (hs.2[i]).2[j]) (kvs:=kvs) (by rw [ah (af hd4 n2)];exact hd4) (big (aft (CountMap.len cm4) (by have:=kb j;have:=lb 0;simp only [agV,afO] at this;lia))),?_⟩;refine⟨_,_,rfl,ag,?_,put sm4 hd4 n2⟩;rw [afk,aeO hj,← afa];exact CountMap.key cm4 (putT hd4 n2) (by rw [ah (fun z=>af hd4 n2 z.symm),ag])
  clear cm hd2 sm;rintro σ H2 ⟨x2,kvs,rfl,hd2,cm,sm⟩;refine⟨fun σ H2=>CoI d H (hs.1++(hs.2.take i).flatMap (·.2)++(hs.2[i]).2) ((hs.2.take i).flatMap (·.1)++(hs.2[i]).1) (fun x2=>[some (.ref t),some (.ref d),x2,some (.ref aa),some (.ref bb)]) σ H2,?_,?_⟩
  ·rintro σ H3 ⟨x2,kvs,rfl,hd2,cm,sm⟩;exact⟨_,_,x2,kvs,rfl,hd2,by rw [dz _ _ _ hi',dz _ _ _ hi',← afa];exact cm,sm⟩
  refine⟨_,rfl,aa,rfl,⟨_,aAA (sm _ _ q2)⟩,?_⟩;refine bQ (xs:=(hs.2[i]).1.map V.str) (fun j σ H2=>CoI d H (hs.1++(hs.2.take i).flatMap (·.2)++(hs.2[i]).2) ((hs.2.take i).flatMap (·.1)++(hs.2[i]).1.take j) (fun x2=>[some (.ref t),some (.ref d),x2,some (.ref aa),some (.ref bb)]) σ H2) ⟨x2,kvs,rfl,hd2,by simpa using cm,sm⟩ (fun i σ H2 _ ⟨_,_,_,_,_,sm⟩=>aAA (sm _ _ q2)) ?_ (fun σ H' z=>by rw [aeP,afs] at z;exact z);clear cm hd2 sm;rintro j x σ H2 hx ⟨x2,kvs,rfl,hd2,cm,sm⟩;have hj:j < (hs.2[i]).1.length:=by have:=(aeU.mp hx).1;rwa [aeP] at this
  rw [aeZ,aeO hj] at hx;cases hx;refine⟨_,rfl,d,rfl,.inl ⟨kvs,.inl hd2⟩,_,rfl,by show 2<=sizeLine;decide,fun t0 n0=>?_⟩;obtain⟨H3,e3,hd3,s23,sm3,cm3,hg⟩:=step sm hd2 cm n0;rw [← e3];obtain⟨t1,g1,g2⟩:=hg (hs.2[i]).1[j];refine⟨_,DGet.k (k:=Sum.inr (hs.2[i]).1[j]) hd3,t1,_,0,_,g1,rfl,aAB g2,rfl,?_⟩;clear hg g1 g2 e3;refine⟨_,rfl,d,rfl,.inl ⟨kvs,.inl hd3⟩,_,rfl,by show 2<=sizeLine;decide,fun t0' n0'=>?_⟩;obtain⟨H4,e4,hd4,_,sm4,cm4,hg⟩:=step sm3 hd3 cm3 n0';rw [← e4];obtain⟨t1,g1,g2⟩:=hg (hs.2[i]).1[j];refine⟨_,DGet.k (k:=Sum.inr (hs.2[i]).1[j]) hd4,t1,_,1,_,g1,rfl,aAB g2,rfl,_,1,rfl,rfl,by show 2<=sizeLine;decide,fun t2 n2=>?_⟩;refine⟨_,rfl,_,rfl,d,_,rfl,DPut.k (k:=Sum.inr (hs.2[i]).1[j]) (kvs:=kvs) (by rw [ah (af hd4 n2)];exact hd4) (big (aft (CountMap.len cm4) (by have:=kb (hs.2[i]).2.length;rw [afs] at this;have:=lb j;lia))),?_⟩;refine⟨_,_,rfl,ag,?_,put sm4 hd4 n2⟩;rw [afk,aeO hj,← afa];exact CountMap.lock cm4 (putT hd4 n2) (by rw [ah (fun z=>af hd4 n2 z.symm),ag])
theorem uO {A:Around}{neg:Bool}{H:Hp}{x y:V}{d:PyData}{Q:VK}(sx:Sees H x d)(sy:Sees H y d)(l:d.canLay0=true)(e:PyData.eqv d d=true)(hu:A.units+d.depth < cLine)(q:Q (.bl (!neg)) H):abp A neg x y H Q:=by
 refine⟨d,d,sx,sy,l,l,by rw [alx];exact hu,?_⟩;rw [e];cases neg<;>exact q
def c8 (h:Hs):PyData:=.tuple [.list (h.1.map PyData.str),.list (h.2.map dP)]
theorem oH {H:Hp}{v:V}{h:Hs}(x:HouseAt H v h):Sees H v (c8 h):=by
 obtain⟨t,a,r,vs,rfl,h1,h2,h3,h4⟩:=x;exact .tup h1 (.cons (.lst h2 (SeesAll.strs _)) (.cons (.lst h3 (jZ h4)) .nil))
theorem yx {h:Hs}(ok:gu h):(c8 h).canLay0=true:=by
 have e1:=cP ok.kk;have e2:=mR (rs:=h.2) fun r hr=>⟨(ok.rs r hr).lk,(ok.rs r hr).kk⟩;simp only [c8,PyData.canLay0,PyData.canLayAll0,e1,e2,akZ]
theorem rZ:∀ rs:List Rm,PyData.eqvAll (rs.map dP) (rs.map dP)=true
 | []=>rfl
 | r::rs=>by
  rw [afb];simp only [PyData.eqvAll,dP,PyData.eqv,kS,aiN];exact rZ rs
theorem xt (h:Hs):PyData.eqv (c8 h) (c8 h)=true:=by
 simp only [c8,PyData.eqv,PyData.eqvAll,kS,rZ,akZ]
theorem lZ:∀ rs:List Rm,PyData.depthAll (rs.map dP)<=2
 | []=>afe _
 | r::rs=>by
  rw [afb];simp only [PyData.depthAll,dP,PyData.depth,iD];exact Nat.max_le.mpr ⟨by decide,lZ rs⟩
theorem tK (h:Hs):(c8 h).depth<=4:=by
 have:=lZ h.2;simp only [c8,PyData.depth,PyData.depthAll,iD];lia
theorem qS:∀ ns:List Nat,PyData.eqvAll (ns.map fun i=>PyData.int ((i:Nat):Int)) (ns.map fun i=>PyData.int ((i:Nat):Int))=true
 | []=>rfl
 | n::ns=>by
  rw [afb];simp only [PyData.eqvAll,PyData.eqv,ahX,aiN];exact qS ns
theorem me:∀ ns:List Nat,PyData.depthAll (ns.map fun i=>PyData.int ((i:Nat):Int))=0
 | []=>rfl
 | n::ns=>by
  rw [afb];simp only [PyData.depthAll,PyData.depth,me ns]
  rfl
theorem mz {A:Around}{neg:Bool}{H:Hp}{x y:Addr}{ns:List Nat}{Q:VK}(hx:H x=some (.lst (intsN ns)))(hy:H y=some (.lst (intsN ns)))(hu:A.units+1 < cLine)(q:Q (.bl (!neg)) H):abp A neg (.ref x) (.ref y) H Q:=by
 refine⟨.list (ns.map fun i=>PyData.int ((i:Nat):Int)),.list (ns.map fun i=>PyData.int ((i:Nat):Int)),.lst hx (SeesAll.intsN _),.lst hy (SeesAll.intsN _),by simp only [PyData.canLay0,jJ],by simp only [PyData.canLay0,jJ],?_,?_⟩
 ·simp only [PyData.depth,me];rw [alx];exact hu
 ·have e:PyData.eqv (.list (ns.map fun i=>PyData.int ((i:Nat):Int))) (.list (ns.map fun i=>PyData.int ((i:Nat):Int)))=true:=by simp only [PyData.eqv,qS]
  rw [e];cases neg<;>exact q
theorem abL {most:Nat}{h:Hs}(x:yN most h)(hm:most<=60):HouseD h:=by
 obtain⟨U,e,ul⟩:=x;exact HouseE.houseD e (by lia) (by lia)
theorem wL {c:TT}{t u:TS}{D:zh}{σ:L2.St}{H:Hp}(hc:∀ Qb:Bool->Hp->Prop,(∀ H',Same H H'->Qb false H')->c σ H Qb)(k:∀ H',Same H H'->u D σ H'):adU c t u D σ H:=hc _ fun H' s=>gz (k H' s)
theorem qN (K:PySem.W.Frag):kitOne K (.type "int") (.type "bool")=some false:=rfl
def zG (K:PySem.W.Frag):Sp:=fun vs H Q _=>∃ (a:Addr) (ns:List Int),vs=[.ref a]/\SqL K H a (ns.map V.int)/\ns.length<=63/\∀ H',Q (.bl true) H'
inductive LwI (a:Addr)(H:Hp)(σ':L2.St)(H':Hp):Prop
 | mk (x1 x2 x3 x4 x5 x6:Option V):σ'=[some (.ref a),x1,x2,x3,x4,x5,x6]->Same H H'->LwI a H σ' H'
theorem mQ:aJ ["script","k","deck","house","kept","due","found"] ["script"] (ar aa4):=scM rfl rfl rfl rfl (by decide +kernel)
theorem zA:(["one"]:List Str).Nodup:=by decide +kernel
theorem ada {f fC fD fN fH fY fL fF fG:Addr}{fd fdC fdD fdN fdH fdY fdL fdF fdG:FuncData}(F:Fun K "law" "law" z6 f fd)(oa:bF P w K mg base CX0 1 fC fdC ["script","k"] (aaS K))(fb:Cal K mg "_law_cell_at" ["script","k"] fC fdC)
 (sW:bF P w K mg base CX0 2 fD fdD ["cell","many"] abb)(jg:Cal K mg "_law_deck" ["cell","many"] fD fdD)(ay:bF P w K mg base CX0 2 fN fdN ["deck"] iO)(av:Cal K mg "_law_next" ["deck"] fN fdN)
 (sU:bF P w K mg base CX0 4 fH fdH ["deck","most"] (kU 0))(gI:Cal K mg "_law_house" ["deck","most"] fH fdH)(ux:bF P w K mg base CX0 1 fY fdY ["house"] aa6)(jb:Cal K mg "_law_copy" ["house"] fY fdY)
 (sR:bF P w K mg base CX0 4 fL fdL ["house"] qg)(gG:Cal K mg "_law_first" ["house"] fL fdL)(js:bF P w K mg base CX0 10 fF fdF ["house"] qg)(dR:Cal K mg "first_order" ["house"] fF fdF)
 (iV:bF P w K mg base CX0 2 fG fdG ["house"] uR)(cG:Cal K mg "_law_first_of_few" ["house"] fG fdG)
 (aP:mg "range" = none)(aU:mg "len" = none)(wB:mg "min" = none)(acg:mg "max" = none)(cb:mg "isinstance" = none)(bz:mg "list" = none)(xV:mg "bool" = none):bF P w K mg base CX0 11 f fd ["script"] (zG K):=by
 refine F.ok mQ (fun vs H Q E h=>?_) (fun cdv A outer s H vs Q E hr h=>?_)
 ·obtain⟨a,ns,rfl,_⟩:=h
  rfl
 ·obtain⟨a,ns,rfl,hS,hn,k⟩:=h;have hu:=i6 hr;have lim:100000 < sizeLine:=by decide
  have lenI:∀ l:List Nat,(intsN l).length=l.length:=fun l=>by unfold intsN;rw [aeP]
  refine⟨_,(aj (aR (b4 afq rfl (bK rfl aP (ae (ax (w9 rfl) rfl acg (by decide +kernel) (ae ak (ae (ax (rB rfl) rfl wB (by decide +kernel) (ae (ax aA rfl aU afi (ae (pv 0) ai)) (ae ak ai))) ai))) ai)) (az (i:=1) mQ.nd rfl (.inl rfl))
   (aj (aD (i:=2) mQ.nd rfl (.inl rfl) (pcl sW jg (hr.mono (by decide:2<=10)) rfl (ae (pcl oa fb (hr.mono (by decide:1<=10)) rfl (ae (pv 0) (ae (pv 1) ai))) (ae ak ai))))
   (aj (aD (i:=3) mQ.nd rfl (.inl rfl) (pcl sU gI (hr.mono (by decide:4<=10)) rfl (ae (pv 2) (ae (@aF _ _ _ _ _ _ _ aT (@c9 _ _ _ _ (@dB _ _ _ _ _ (@ak _ _ _ _) (@dB _ _ _ _ _ (@ak _ _ _ _) (@dB _ _ _ _ _ (@ak _ _ _ _) (@dB _ _ _ _ _ (@ak _ _ _ _) (@ai _) rfl) rfl) rfl) rfl)) (aI a9 (pcl ay av (hr.mono (by decide:2<=10)) rfl (ae (pv 2) ai)) ak) (fun _ _=>rfl)) ai))))
   (aj (aD (i:=4) mQ.nd rfl (.inl rfl) (pcl ux jb (hr.mono (by decide:1<=10)) rfl (ae (pv 3) ai)))
   (aj (aD (i:=5) mQ.nd rfl (.inl rfl) (pcl sR gG (hr.mono (by decide:4<=10)) rfl (ae (pv 3) ai)))
   (aj (aD (i:=6) mQ.nd rfl (.inl rfl) (pcl js dR hr rfl (ae (pv 3) ai)))
   (aj (cu (PW.pt (wx (aH xy (b7 xu (pv 5) j9 (aM _)) (b7 xu (pv 6) j9 (aM _)) (aM _)) (sS (aH gw (pv 3) (pv 4) (aM _)))))
    (au (aQ jU)) bf)
   (aj (cu (PW.pt (ki (aH abx (ax aA rfl aU afi (ae (aF aO (pv 3) ak (fun _ _=>rfl)) ai)) ak (aM _)) (gX (aH gw (pcl iV cG (hr.mono (by decide:2<=10)) rfl (ae (pv 3) ai)) (pv 5) (aM _)))))
    (au (aQ jU)) bf)
   (au (aR (cu (aH abv (pv 5) j9 (aM _))
    (aj (cu (PW.pt (wx (gL (fJ (ax cE rfl cb (by decide +kernel) (ae (pv 6) (ae (jd (v:=.ty "list") (u:=.type "list") rfl bz (by decide +kernel) rfl) ai))))) (wx (aH gw (pv 6) (pv 5) (aM _)) (sS (aH gw (jP (tg:=.Name "one" _) (outer:=ar (aa4)) (N:=["script","k","deck","house","kept","due","found"]) (N':=["one"]) (nl:=1) (ix:=[]) rfl rfl rfl (aX (pv 6))
   (fun _ _ _ _=>(az (i:=0) zA rfl (.inl rfl) (.inr rfl))) (fun _ _ _ _=>(dM (fJ (ax (qK (K:=K) rfl) rfl cb (by decide +kernel) (ae (pv 0) (ae (jd (v:=.ty "bool") (u:=.type "bool") rfl xV (by decide +kernel) rfl) ai))))))
   (fun _ _ _ _=>(pv 0))) fm (aM _))))))
    (au (aQ jU)) bf)
    (aj (bq (dc ae3 afH afI bJ (pv 6) (ae ak ai)))
    (au (cu (PW.pt (wx (aH gw (pcl js dR hr rfl (ae (pv 3) ai)) (pv 5) (aM _)) (sS (aH gw (pv 3) (pv 4) (aM _)))))
     (au (aQ jU)) bf)))) bf))))))))))))
   (au (aQ jU))),?_⟩
  try dsimp only [uM,Cx.nox]
  refine⟨fun σ' H'=>LwI a H σ' H',?_,?_⟩
  ·rintro σ H2 ⟨x1,x2,x3,x4,x5,x6,rfl,sm⟩;exact k _
  generalize hL:((ns.map V.int).length:Int)=L;have mx:∃ m:Nat,(if (if 4 < L then 4 else L) > 1 then (if 4 < L then 4 else L) else 1)=(m:Int)/\m<=4:=by
   refine⟨((if (if 4 < L then 4 else L) > 1 then (if 4 < L then 4 else L) else 1):Int).toNat,?_,?_⟩<;>split<;>split<;>lia
  obtain⟨m,em,hm⟩:=mx;subst hL;refine⟨_,rfl,a,_,rfl,.inl hS,_,4,rfl,1,_,rfl,(m:Int),afJ (fun z=>[V.int z]) em,by lia,by lia,?_⟩;rw [afj];refine fu (fun i σ' H'=>LwI a H σ' H') ⟨none,none,none,none,none,none,rfl,Same.refl H⟩ ?_ (fun σ' H' z=>z);rintro i σ H2 hi ⟨x1,x2,x3,x4,x5,x6,rfl,sm⟩;refine⟨_,rfl,_,rfl,a,i,ns,afJ (fun z=>[V.ref a,V.int z]) (show (0+(i:Int))=(i:Int) by lia),sm.seq hS,fun cell=>?_⟩;refine⟨cell,580,rfl,by decide,by decide,fun p H3 np s3 dk3=>?_⟩;refine⟨_,rfl,by show 4<=sizeLine;decide,fun l nl=>?_⟩;have s4:Same H3 (upd H3 l (.lst (([9,9,9,57]:List Int).map V.int))):=aq nl;have e4:(upd H3 l (.lst (([9,9,9,57]:List Int).map V.int))) l=some (.lst (([9,9,9,57]:List Int).map V.int)):=ag;have dk4:=dk3.same s4;have lp:=dk3.ne nl;refine⟨_,rfl,p,rfl,dk4,fun r H5 _ _ dk5 B5 _=>⟨_,4,rfl,rfl,(by show (0:Int) < 4;decide),?_⟩⟩;obtain⟨mi,hmi,ha⟩:=adV (xs:=[9,9,9,57]) (r:=r % 4) (afy _ (by decide)) (afp _ (by decide));have hmi':0<=mi/\mi<=57:=by simp only [ae7,af4,ahO] at hmi;lia
  obtain⟨mn,rfl⟩:∃ mn:Nat,mi=(mn:Int):=⟨mi.toNat,by lia⟩;refine⟨l,_,_,.int mn,rfl,rfl,aAA (B5 _ _ lp e4),ha,?_⟩;have B25:∀ {H':Hp},But p H5 H'->Same H H':=fun {H'} B b u e=>B b u (af (sm b u e) np) (B5 b u (af (sm b u e) np) (s4 _ _ (s3 _ _ (sm _ _ e))));refine⟨p,mn,rfl,dk5,afe _,by lia,fun v h H6 hh dr dk6 B6=>?_⟩;have hD:HouseD h:=abL dr (by lia);refine⟨_,rfl,v,h,rfl,hh,hD.ok,fun u H7 s7 hu7=>?_⟩;have hh7:=hh.same s7;have sm7:Same H H7:=B25 (B6.trans (cB s7));have neH:∀ {H':Hp} {R:VK},HouseAt H' v h->HouseAt H' u h->R (.bl false) H'->abp (A.deeper (envOfC "law" (ar z6) s.heap.objs.size f cdv)) true v u H' R:=fun {H' R} h1 h2 q=>uO (d:=c8 h) (oH h1) (oH h2) (yx hD.ok) (xt h) (afx (ahZ (aft (tK h) (by decide:4<=64)) _) hr.units) q;clear B25 B6 B5 dk3 dk4 dk5 dk6 s4 e4 s3 s7 lp nl np sm ha hmi hmi' dr hh;have rl:=hD.rl;by_cases ff:iI h.1 h.2;rotate_left
  ·refine⟨_,rfl,v,h,rfl,hh7,hD,fun _ H8 s8=>?_,fun z=>absurd z ff⟩;refine⟨_,rfl,v,h,rfl,hh7.same s8,hD,fun _ H9 s9=>?_,fun z=>absurd z ff⟩;have S9:=s8.trans s9;dsimp only [bg,tI];refine wL (fun Qb q=>?_) (fun HA sA=>?_)
   ·refine⟨_,rfl,rfl,_,rfl,rfl,rfl,false,afJ V.bl (by simp),gz ?_⟩;exact⟨_,rfl,_,rfl,neH (hh7.same S9) (hu7.same S9) ⟨false,rfl,q _ (Same.refl _)⟩⟩
   dsimp only [oj];have SA:=S9.trans sA;refine wL (fun Qb q=>?_) (fun HB sB=>?_)
   ·obtain⟨t,a',r',vs,rfl,ht,ha',hr',hR⟩:=id (hh7.same SA);refine⟨_,rfl,t,_,1,.ref r',rfl,rfl,aAB ht,rfl,r',_,rfl,.inl (aAA hr'),_,_,rfl,rfl,_,rfl,?_⟩;rw [hR.1];by_cases h8:h.2.length < 9
    ·rw [afv (by lia)];refine fT ?_;refine⟨_,rfl,.ref t,h,rfl,hh7.same SA,hD,by lia,fun _ HC sC=>?_,fun z=>absurd z ff⟩;exact⟨_,rfl,uO (d:=PyData.none) .non .non rfl rfl (by show _+0 < _;lia) ⟨false,rfl,q _ sC⟩⟩
    ·rw [afw (by lia)];exact gz (q _ (Same.refl _))
   dsimp only [oj];refine⟨fun σ' H'=>LwI a H σ' H',fun σ' H' z=>z,?_⟩;refine⟨_,rfl,rfl,false,afJ V.bl (by simp),gz ?_⟩;exact⟨_,_,_,_,_,_,rfl,sm7.trans (SA.trans sB)⟩
  refine⟨_,rfl,v,h,rfl,hh7,hD,fun z=>absurd ff z,fun _ l1 o1 H8 n1 s8 e1 g1=>?_⟩;refine⟨_,rfl,v,h,rfl,hh7.same s8,hD,fun z=>absurd ff z,fun _ l2 o2 H9 n2 s9 e2 g2=>?_⟩;have eo:=g2.one g1;subst eo;have ol:=n4 g1;have S9:=s8.trans s9;have e19:=s9 _ _ e1;have l12:l1≠l2:=af e1 n2;have n27:=s8.free n2;dsimp only [bg,tI];refine wL (fun Qb q=>?_) (fun HA sA=>?_)
  ·refine⟨_,rfl,rfl,_,rfl,rfl,rfl,false,afJ V.bl (by simp),gz ?_⟩;exact⟨_,rfl,_,rfl,neH (hh7.same S9) (hu7.same S9) ⟨false,rfl,q _ (Same.refl _)⟩⟩
  dsimp only [oj];have SA:=S9.trans sA;have e1A:=sA _ _ e19;have e2A:=sA _ _ e2;refine wL (fun Qb q=>?_) (fun HB sB=>?_)
  ·obtain⟨t,a',r',vs,rfl,ht,ha',hr',hR⟩:=id (hh7.same SA);refine⟨_,rfl,t,_,1,.ref r',rfl,rfl,aAB ht,rfl,r',_,rfl,.inl (aAA hr'),_,_,rfl,rfl,_,rfl,?_⟩;rw [hR.1];by_cases h8:h.2.length < 9
   ·rw [afv (by lia)];refine fT ?_;refine⟨_,rfl,.ref t,h,rfl,hh7.same SA,hD,by lia,fun z=>absurd ff z,fun _ l3 o3 HC n3 sC e3 g3=>?_⟩;have eo:=g3.one g1;subst eo;exact⟨_,rfl,mz e3 (sC _ _ e1A) hu ⟨false,rfl,q _ sC⟩⟩
   ·rw [afw (by lia)];exact gz (q _ (Same.refl _))
  dsimp only [oj];have SB:=SA.trans sB;have e1B:=sB _ _ e1A;have e2B:=sB _ _ e2A;refine⟨fun σ' H'=>LwI a H σ' H',fun σ' H' z=>z,?_⟩;refine⟨_,rfl,rfl,true,afJ V.bl (by simp),fT ?_⟩;dsimp only [tI];refine wL (fun Qb q=>?_) (fun HC sC=>?_)
  ·refine⟨_,rfl,_,_,_,true,rfl,.lst e2B,ik K _,true,rfl,gz ?_⟩;refine⟨_,rfl,_,rfl,mz e2B e1B hu ⟨false,rfl,gz ?_⟩⟩;dsimp only [zq,tOp];refine aW _ _ _ _ _ _ _ _ _ ?_;refine⟨_,rfl,l2,rfl,⟨_,aAA e2B⟩,?_⟩;intro D nD;refine dm (pb:=fun _=>false) e2B nD (by rw [lenI];lia) (fun x=>rfl) (fun G x R hx sG qq=>?_) (fun G x R qq=>⟨_,rfl,qq⟩) (fun HD sD hDD=>?_)
   ·obtain⟨o,ho,rfl⟩:=ae4.mp hx;exact⟨_,rfl,_,_,_,false,rfl,.int _,qN K,false,rfl,qq⟩
   have hDA':HD D=some (.lst []):=by rw [hDD,ag0.mpr (fun _ _=>aeY)]
   refine⟨afe _,fun l9 n9=>?_⟩;have sE:=aq (o:=.lst []) n9;refine gr (xs:=[]) (ds:=[]) (sE _ _ hDA') .nil rfl ag hu ⟨false,rfl,q _ (sD.trans sE)⟩
  dsimp only [oj];have e2C:=sC _ _ e2B;refine⟨_,rfl,.inl ⟨rfl,_,aAA e2C⟩,l2,_,_,rfl,rfl,e2C,by rw [lenI];lia,?_⟩;have s7D:Same H7 (upd HC l2 (.lst (intsN o2++[.int 0]))):=fun b u e=>by rw [ah (af e n27)];exact sC _ _ (SB _ _ e)
  have e1D:(upd HC l2 (.lst (intsN o2++[.int 0]))) l1=some (.lst (intsN o2)):=by rw [ah l12];exact sC _ _ e1B
  generalize upd HC l2 (.lst (intsN o2++[.int 0]))=HD at *;dsimp only [];refine wL (fun Qb q=>?_) (fun HE sE=>?_)
  ·refine⟨_,rfl,v,h,rfl,hh7.same s7D,hD,fun z=>absurd ff z,fun _ l3 o3 HF n3 sF e3 g3=>?_⟩;have eo:=g3.one g1;subst eo;refine⟨_,rfl,mz e3 (sF _ _ e1D) hu ⟨false,rfl,gz ?_⟩⟩;have S7F:=s7D.trans sF;exact⟨_,rfl,_,rfl,neH (hh7.same S7F) (hu7.same S7F) ⟨false,rfl,q _ sF⟩⟩
  exact⟨_,_,_,_,_,_,rfl,sm7.trans (s7D.trans sE)⟩
end
structure Has (K:PySem.W.Frag)(x:Str)(st:Stmt)(f:Addr)(fd:FuncData):Prop where
 a:nsIn K mainGlobals x=some (some (.ref f))
 F:Fun K x x st f fd
theorem Has.c1 {K:PySem.W.Frag}{h:Heap}{mg:Str->Option Value}{n:Str}{st:Stmt}{f:Addr}{fd:FuncData}{p0:Str}(H:Has K n st f fd)(X:K.In h)(G:h.Ns mainGlobals mg)(b:∀ (kV doc pm:Value) (an:Option Addr) (cdv ct x:Value),bindArgs (fnOf n n (fc st) (cq st) (ar st) .none kV doc pm an cdv ct) ⟨[x],[]⟩=pure [(p0,x)]):Cal K mg n [p0] f fd :=
 ⟨aht X G H.a,H.F.kp,H.F.binds fun kV doc pm an cdv ct us hl=>match us,hl with | [x],_=>b kV doc pm an cdv ct x⟩
theorem Has.c2 {K:PySem.W.Frag}{h:Heap}{mg:Str->Option Value}{n:Str}{st:Stmt}{f:Addr}{fd:FuncData}{p0 p1:Str}(H:Has K n st f fd)(X:K.In h)(G:h.Ns mainGlobals mg)(b:∀ (kV doc pm:Value) (an:Option Addr) (cdv ct x y:Value),bindArgs (fnOf n n (fc st) (cq st) (ar st) .none kV doc pm an cdv ct) ⟨[x,y],[]⟩=pure [(p0,x),(p1,y)]):Cal K mg n [p0,p1] f fd :=
 ⟨aht X G H.a,H.F.kp,H.F.binds fun kV doc pm an cdv ct us hl=>match us,hl with | [x,y],_=>b kV doc pm an cdv ct x y⟩
theorem Has.c3 {K:PySem.W.Frag}{h:Heap}{mg:Str->Option Value}{n:Str}{st:Stmt}{f:Addr}{fd:FuncData}{p0 p1 p2:Str}(H:Has K n st f fd)(X:K.In h)(G:h.Ns mainGlobals mg)(b:∀ (kV doc pm:Value) (an:Option Addr) (cdv ct x y z:Value),bindArgs (fnOf n n (fc st) (cq st) (ar st) .none kV doc pm an cdv ct) ⟨[x,y,z],[]⟩=pure [(p0,x),(p1,y),(p2,z)]):Cal K mg n [p0,p1,p2] f fd :=
 ⟨aht X G H.a,H.F.kp,H.F.binds fun kV doc pm an cdv ct us hl=>match us,hl with | [x,y,z],_=>b kV doc pm an cdv ct x y z⟩
theorem Has.c4 {K:PySem.W.Frag}{h:Heap}{mg:Str->Option Value}{n:Str}{st:Stmt}{f:Addr}{fd:FuncData}{p0 p1 p2 p3:Str}(H:Has K n st f fd)(X:K.In h)(G:h.Ns mainGlobals mg)(b:∀ (kV doc pm:Value) (an:Option Addr) (cdv ct x y z t:Value),bindArgs (fnOf n n (fc st) (cq st) (ar st) .none kV doc pm an cdv ct) ⟨[x,y,z,t],[]⟩=pure [(p0,x),(p1,y),(p2,z),(p3,t)]):Cal K mg n [p0,p1,p2,p3] f fd :=
 ⟨aht X G H.a,H.F.kp,H.F.binds fun kV doc pm an cdv ct us hl=>match us,hl with | [x,y,z,t],_=>b kV doc pm an cdv ct x y z t⟩
set_option autoImplicit true in
theorem all_mk {l:PySem.W.OpenLaw}{w:World}{K:PySem.W.Frag}{h:Heap}{mg:Str->Option Value}{fa:Addr}(X:K.In h)(G:h.Ns mainGlobals mg)(hfa:mg "law" = some (.ref fa))
 (sJ:Has K "is_kind" qF f1 d1)
 (lP:Has K "are_kinds" mL f2 d2)
 (lK:Has K "are_locks" yq f3 d3)
 (sr:Has K "is_room" abz f4 d4)
 (o9:Has K "is_house" mC f5 d5)
 (g9:Has K "require_house" adS f6 d6)
 (o4:Has K "is_plain" fZ f7 d7)
 (gH:Has K "require_plain" dN f8 d8)
 (uB:Has K "serves" jL f9 d9)
 (jq:Has K "hand_behind" fj f10 d10)
 (hZ:Has K "kinds_counted" gv f11 d11)
 (g8:Has K "rooms_by_lock" dI f12 d12)
 (rM:Has K "reached" fz f13 d13)
 (ft:Has K "kinds_that_come" cQ f14 d14)
 (mV:Has K "few_paper" ig f15 d15)
 (kE:Has K "shut_kinds" dQ f16 d16)
 (qU:Has K "is_safe" iC f17 d17)
 (iP:Has K "order_of_all" eE f18 d18)
 (iR:Has K "nothing_bars" eB f19 d19)
 (jE:Has K "first_order" fe f20 d20)
 (iN:Has K "_law_cell_at" eM f21 d21)
 (lU:Has K "_law_stir" hG f22 d22)
 (mf:Has K "_law_deck" gP f23 d23)
 (nP:Has K "_law_next" ie f24 d24)
 (kg:Has K "_law_names" cW f25 d25)
 (j6:Has K "_law_grown" cS f26 d26)
 (nE:Has K "_law_bent" gM f27 d27)
 (kh:Has K "_law_chain" cc f28 d28)
 (kI:Has K "_law_house" dO f29 d29)
 (ny:Has K "_law_copy" uj f30 d30)
 (jB:Has K "_law_counts" fh f31 d31)
 (mj:Has K "_law_come" eQ f32 d32)
 (oG:Has K "_law_few" gn f33 d33)
 (l8:Has K "_law_shut" eX f34 d34)
 (lj:Has K "_law_sets" dy f35 d35)
 (o7:Has K "_law_can" i9 f36 d36)
 (ky:Has K "_law_first" cf f37 d37)
 (eF:Has K "_law_first_of_few" bC f38 d38)
 (a39:nsIn K mainGlobals "law" = some (some (.ref f39)))(l39:K.lookup f39=some ⟨oc39,od39,.func (fnOf "law" "law" (fc z6) (cq z6) (ar z6) .none kV39 dc39 pm39 an39 cd39 ct39),sl39⟩)(c39:codeIn K cd39 "law" = true)(k39:keepIn K (.ref f39)=true)
 (g_LETTERS:nsIn K mainGlobals "LETTERS" = some (some (.str lettersS t_LETTERS)))
 (g_MOST_LETTERS:nsIn K mainGlobals "MOST_LETTERS" = some (some (.int 4 t_MOST_LETTERS)))
 (g_MOST_LOCKS:nsIn K mainGlobals "MOST_LOCKS" = some (some (.int 4 t_MOST_LOCKS)))
 (z_isinstance:nsIn K mainGlobals "isinstance" = some none)
 (z_str:nsIn K mainGlobals "str" = some none)
 (z_len:nsIn K mainGlobals "len" = some none)
 (z_all:nsIn K mainGlobals "all" = some none)
 (z_list:nsIn K mainGlobals "list" = some none)
 (z_tuple:nsIn K mainGlobals "tuple" = some none)
 (z_sorted:nsIn K mainGlobals "sorted" = some none)
 (z_range:nsIn K mainGlobals "range" = some none)
 (z_min:nsIn K mainGlobals "min" = some none)
 (z_max:nsIn K mainGlobals "max" = some none)
 (z_set:nsIn K mainGlobals "set" = some none)
 (z_int:nsIn K mainGlobals "int" = some none)
 (z_bool:nsIn K mainGlobals "bool" = some none)
 (z_enumerate:nsIn K mainGlobals "enumerate" = some none)
 : ∃ fd:FuncData,(∀ (s:Shared) (v:Value),BindsTo s fd ⟨[v],[]⟩ [("script",v)])/\∀ base:Heap,K.In base->base.Ns mainGlobals mg->bF l.prog w K mg base CX0 11 fa fd ["script"] (zG K):=by
 have e:=hfa.symm.trans (aht X G a39);cases e;have y2:=sJ.c1 (p0 := "thing") X G fun _ _ _ _ _ _ _=>rfl;have jc:=lP.c1 (p0 := "thing") X G fun _ _ _ _ _ _ _=>rfl;have ur:=lK.c1 (p0 := "thing") X G fun _ _ _ _ _ _ _=>rfl;have zf:=sr.c1 (p0 := "thing") X G fun _ _ _ _ _ _ _=>rfl;have vE:=o9.c1 (p0 := "thing") X G fun _ _ _ _ _ _ _=>rfl;have bG:=g9.c1 (p0 := "thing") X G fun _ _ _ _ _ _ _=>rfl;have jY:=o4.c1 (p0 := "house") X G fun _ _ _ _ _ _ _=>rfl;have eD:=gH.c1 (p0 := "thing") X G fun _ _ _ _ _ _ _=>rfl;have p9:=uB.c2 (p0 := "hand") (p1 := "locks") X G fun _ _ _ _ _ _ _ _=>rfl;have cg:=jq.c2 (p0 := "hand") (p1 := "room") X G fun _ _ _ _ _ _ _ _=>rfl;have eI:=hZ.c1 (p0 := "house") X G fun _ _ _ _ _ _ _=>rfl;have eC:=g8.c1 (p0 := "rooms") X G fun _ _ _ _ _ _ _=>rfl;have fP:=rM.c2 (p0 := "keys") (p1 := "rooms") X G fun _ _ _ _ _ _ _ _=>rfl;have dq:=ft.c1 (p0 := "house") X G fun _ _ _ _ _ _ _=>rfl;have iX:=mV.c1 (p0 := "house") X G fun _ _ _ _ _ _ _=>rfl;have gU:=kE.c1 (p0 := "house") X G fun _ _ _ _ _ _ _=>rfl;have lI:=qU.c4 (p0 := "hand") (p1 := "rooms") (p2 := "left") (p3 := "number") X G fun _ _ _ _ _ _ _ _ _ _=>rfl;have fq:=iP.c1 (p0 := "house") X G fun _ _ _ _ _ _ _=>rfl;have fk:=iR.c1 (p0 := "house") X G fun _ _ _ _ _ _ _=>rfl;have dR:=jE.c1 (p0 := "house") X G fun _ _ _ _ _ _ _=>rfl;have fb:=iN.c2 (p0 := "script") (p1 := "k") X G fun _ _ _ _ _ _ _ _=>rfl;have du:=lU.c2 (p0 := "cell") (p1 := "k") X G fun _ _ _ _ _ _ _ _=>rfl;have jg:=mf.c2 (p0 := "cell") (p1 := "many") X G fun _ _ _ _ _ _ _ _=>rfl;have av:=nP.c1 (p0 := "deck") X G fun _ _ _ _ _ _ _=>rfl;have gR:=kg.c2 (p0 := "deck") (p1 := "many") X G fun _ _ _ _ _ _ _ _=>rfl;have gY:=j6.c3 (p0 := "deck") (p1 := "kinds") (p2 := "many") X G fun _ _ _ _ _ _ _ _ _=>rfl;have iY:=nE.c4 (p0 := "deck") (p1 := "keys") (p2 := "rooms") (p3 := "kinds") X G fun _ _ _ _ _ _ _ _ _ _=>rfl;have hW:=kh.c2 (p0 := "deck") (p1 := "most") X G fun _ _ _ _ _ _ _ _=>rfl;have gI:=kI.c2 (p0 := "deck") (p1 := "most") X G fun _ _ _ _ _ _ _ _=>rfl;have jb:=ny.c1 (p0 := "house") X G fun _ _ _ _ _ _ _=>rfl;have gf:=jB.c1 (p0 := "house") X G fun _ _ _ _ _ _ _=>rfl;have i8:=mj.c2 (p0 := "keys") (p1 := "rooms") X G fun _ _ _ _ _ _ _ _=>rfl;have jW:=oG.c1 (p0 := "house") X G fun _ _ _ _ _ _ _=>rfl;have je:=l8.c1 (p0 := "house") X G fun _ _ _ _ _ _ _=>rfl;have iZ:=lj.c2 (p0 := "house") (p1 := "first") X G fun _ _ _ _ _ _ _ _=>rfl;have iq:=o7.c2 (p0 := "hand") (p1 := "rooms") X G fun _ _ _ _ _ _ _ _=>rfl;have gG:=ky.c1 (p0 := "house") X G fun _ _ _ _ _ _ _=>rfl;have cG:=eF.c1 (p0 := "house") X G fun _ _ _ _ _ _ _=>rfl;have adQ:=fun_mk (st:=z6) l39 c39 k39;have wQ:=aht X G g_LETTERS;have nv:=aht X G g_MOST_LETTERS;have pf:=aht X G g_MOST_LOCKS;have cb:=afS X G z_isinstance;have adx:=afS X G z_str;have aU:=afS X G z_len;have sV:=afS X G z_all;have bz:=afS X G z_list;have fV:=afS X G z_tuple;have aV:=afS X G z_sorted;have aP:=afS X G z_range;have wB:=afS X G z_min;have acg:=afS X G z_max;have mZ:=afS X G z_set;have pW:=afS X G z_int;have xV:=afS X G z_bool;have de:=afS X G z_enumerate;refine⟨fnOf "law" "law" (fc z6) (cq z6) (ar z6) .none kV39 dc39 pm39 an39 cd39 ct39,fun s v=>.of_eq rfl,fun base _ _=>?_⟩;have Gl:Glb mg:=⟨cb,adx,aU,sV,⟨_,wQ⟩,⟨_,nv⟩⟩;have GK:=zw (P:=l.prog) (w:=w) (mg:=mg) (base:=base) lP.F sJ.F y2 Gl bz;have GL:=aab lK.F GK jc aU aV ⟨_,pf⟩;have GR:=abi sr.F GL ur GK jc cb aU fV;have GH:=aaB o9.F GR zf GK jc cb aU fV bz sV;have GQ:=ac7 g9.F GH vE;have GP:=zx o4.F GQ bG sV aU;have GRP:=ui gH.F GP jY;have GC:=wj hZ.F GQ bG bz aV mZ;have GV:=yO (P:=l.prog) (w:=w) (mg:=mg) (base:=base) uB.F sV;have GB:=wW (P:=l.prog) (w:=w) (mg:=mg) (base:=base) jq.F bz;have G1:=xY (P:=l.prog) (w:=w) (mg:=mg) (base:=base) g8.F de mZ aV;have G2:=vL rM.F G1 eC de aU bz mZ aV;have G3:=rY ft.F GQ bG G2 fP;have G4:=ace mV.F GC eI aV;have G5:=aam kE.F G3 dq aV;have G6:=abB qU.F GV p9 GB cg G2 fP aU;have G7:=zY iP.F G6 lI GB cg aU bz aP;have G8:=aaz iR.F G4 iX G5 gU;have G9:=aaj jE.F GRP eD G8 fk G7 fq;have L1:=abP (P:=l.prog) (w:=w) (mg:=mg) (base:=base) iN.F aU;have L2:=abY (P:=l.prog) (w:=w) (mg:=mg) (base:=base) lU.F;have L3:=abZ mf.F L2 du aP;have L4:=aco nP.F L2 du pW aU;have L5:=zB kg.F L4 av aU aP;have L6:=aaA j6.F L4 av aU aP pW bz wB;have L7:=abG nE.F L4 av aU aP;have L8:=aay kh.F L4 av aU aP pW;have L9:=y3 kI.F L4 av L8 hW L5 gR L6 gY L7 iY aU aP bz;have LY:=abj (P:=l.prog) (w:=w) (mg:=mg) (base:=base) ny.F bz;have LC:=yh (P:=l.prog) (w:=w) (mg:=mg) (base:=base) jB.F;have LM:=zZ (P:=l.prog) (w:=w) (mg:=mg) (base:=base) mj.F aU;have LF:=abV oG.F LC gf aV;have LS:=aao l8.F LM i8 mZ aV;have R0:=aby (P:=l.prog) (w:=w) (mg:=mg) (base:=base) lj.F aU bz aP aV fV;have R1:=ac3 o7.F LF jW LS je;have R2:=xN ky.F R1 iq aU bz aP;have R3:=xJ eF.F R0 iZ aU bz aP aV fV;exact ada adQ L1 fb L3 jg L4 av L9 gI LY jb R2 gG G9 dR R3 cG aP aU wB acg cb bz xV
theorem walk {l:PySem.W.OpenLaw}{q:Program}{loose:List Str}{XP:(Str->Option Value)->Heap->Prop}{YP:World->Heap->Prop}{d:DefRec}{K:Params->PySem.W.Frag}(hn:l.most=some 63)(hdf:d.params.defaults=[])
 (hY:∀ (w:World) (h:Heap),YP w h->(K w.params).In h)
 (F:∀ (w:World) (mg:Str->Option Value) (fa:Addr) (h:Heap),(K w.params).In h->h.Ns mainGlobals mg->mg d.name=some (.ref fa) →
  ∃ fd:FuncData,(∀ (s:Shared) (u:Value),BindsTo s fd ⟨[u],[]⟩ [("script",u)])/\∀ base:Heap,(K w.params).In base->base.Ns mainGlobals mg->bF l.prog w (K w.params) mg base CX0 11 fa fd ["script"] (zG (K w.params))) :
 PySem.W.WalkO q loose XP YP l.row.toRowW d [] (fun f vs=>PySem.call f vs) :=
 L2.walk_of (n:=63) (k:=11) (x := "script") (CX:=fun _=>CX0) (sp:=fun w=>zG (K w.params)) hn (by decide) hdf ⟨rfl,by decide,by decide⟩ hY F (fun _ _ a ns hl _ hS=>⟨a,ns,rfl,hS,hl,fun _=>rfl⟩) fun _ _ _ _ _ z=>z
end K7
namespace PySem.W.Fast
def tw10296970145374522794:=0
def tw10395597739994874150:=0
def tw10749825852224083570:=0
def tw11061017382858912720:=0
def tw11636609770657365785:=0
def tw11726236612259928893:=0
def tw1186828386057576606:=0
def tw12516549252367717788:=0
def tw12640112612774677465:=0
def tw127263581521187987:=0
def tw12843375584651263334:=0
def tw13058009431090593978:=0
def tw13137165800173768422:=0
def tw13214881638432319165:=0
def tw13657473887415317582:=0
def tw13780410078844676873:=0
def tw13807023015389374982:=0
def tw14260067695328105799:=0
def tw14538795258879377507:=0
def tw14870535254826846405:=0
def tw14968561014595116393:=0
def tw15212430983205974393:=0
def tw15269613482230142284:=0
def tw15284203833293899959:=0
def tw15308055897964945325:=0
def tw15424940108556473247:=0
def tw15657883436578406817:=0
def tw15707576924172973675:=0
def tw15999358574488325347:=0
def tw1631874245184805192:=0
def tw17058589392725833986:=0
def tw17282814994567612594:=0
def tw17561924254852530289:=0
def tw17675153541367717673:=0
def tw17722596751347398442:=0
def tw17835688494283359436:=0
def tw18218570401110309467:=0
def tw1909721550071394041:=0
def tw2109744195856247917:=0
def tw2297267746302243491:=0
def tw2406589068169239288:=0
def tw2419430298212827732:=0
def tw2443316672156051926:=0
def tw2667915716320190188:=0
def tw2818291043782370396:=0
def tw2844748893894050565:=0
def tw3187428435814671844:=0
def tw330051475604875326:=0
def tw3973000210046690059:=0
def tw4066541144940923303:=0
def tw4389935594690445325:=0
def tw4602327577240066641:=0
def tw4664259722628629448:=0
def tw5214020827334958419:=0
def tw5563849380790361746:=0
def tw5650631644824536125:=0
def tw5790162635253638042:=0
def tw6105476849481216346:=0
def tw6407193477286578180:=0
def tw6437041594801926085:=0
def tw6902718442006744205:=0
def tw7134889049461042098:=0
def tw7423074662476930880:=0
def tw7439426004439403551:=0
def tw7440721690515020756:=0
def tw7660435912586889280:=0
def tw7951031522096107753:=0
def tw8048305096921307370:=0
def tw8299054165189016091:=0
def tw8737325506116060234:=0
def tw8947588840663124774:=0
def tw8987859154006134991:=0
def tw925675873535596440:=0
def tw9261027637489026800:=0
def tw9376230859882672092:=0
def tw9813824879642095368:=0
def tw9866099260682737297:=0
end PySem.W.Fast
open PySem PySem.W PyProof.Rows
set_option maxRecDepth 100000 in
set_option maxHeartbeats 0 in
theorem PySem.Challenge.cw_keyrooms_k18_first_orders_holds : PySem.Challenge.rw_keyrooms_k18_first_orders.Holds := by
  w_on; o_law; k_head; (case hw => w_witness2)
  k_fill
  refine K7.walk (l := PySem.Challenge.rw_keyrooms_k18_first_orders) rfl rfl (fun w h Y => PySem.W.kIn_of Y) ?F
  case F =>
    intro w mg fa h KX G hmg
    refine' K7.all_mk KX G hmg ⟨_,L2.fun_mk _ _ _⟩ ⟨_,L2.fun_mk _ _ _⟩ ⟨_,L2.fun_mk _ _ _⟩ ⟨_,L2.fun_mk _ _ _⟩ ⟨_,L2.fun_mk _ _ _⟩ ⟨_,L2.fun_mk _ _ _⟩ ⟨_,L2.fun_mk _ _ _⟩ ⟨_,L2.fun_mk _ _ _⟩ ⟨_,L2.fun_mk _ _ _⟩ ⟨_,L2.fun_mk _ _ _⟩ ⟨_,L2.fun_mk _ _ _⟩ ⟨_,L2.fun_mk _ _ _⟩ ⟨_,L2.fun_mk _ _ _⟩ ⟨_,L2.fun_mk _ _ _⟩ ⟨_,L2.fun_mk _ _ _⟩ ⟨_,L2.fun_mk _ _ _⟩ ⟨_,L2.fun_mk _ _ _⟩ ⟨_,L2.fun_mk _ _ _⟩ ⟨_,L2.fun_mk _ _ _⟩ ⟨_,L2.fun_mk _ _ _⟩ ⟨_,L2.fun_mk _ _ _⟩ ⟨_,L2.fun_mk _ _ _⟩ ⟨_,L2.fun_mk _ _ _⟩ ⟨_,L2.fun_mk _ _ _⟩ ⟨_,L2.fun_mk _ _ _⟩ ⟨_,L2.fun_mk _ _ _⟩ ⟨_,L2.fun_mk _ _ _⟩ ⟨_,L2.fun_mk _ _ _⟩ ⟨_,L2.fun_mk _ _ _⟩ ⟨_,L2.fun_mk _ _ _⟩ ⟨_,L2.fun_mk _ _ _⟩ ⟨_,L2.fun_mk _ _ _⟩ ⟨_,L2.fun_mk _ _ _⟩ ⟨_,L2.fun_mk _ _ _⟩ ⟨_,L2.fun_mk _ _ _⟩ ⟨_,L2.fun_mk _ _ _⟩ ⟨_,L2.fun_mk _ _ _⟩ ⟨_,L2.fun_mk _ _ _⟩ _ _ _ _ _ _ _ _ _ _ _ _ _ _ _ _ _ _ _ _ _
    any_goals k_is
