import PyProof.Rows.All
import Wide.All
import OpenK.AllK
import Wide.FinOn
import Lean
import PyProof.EqAt
import PyProof.EqKinds
import PyProof.TupleCall
import PyProof.Rows.SetFrom
import PyProof.SetRoads
import KE.KDictSum
import PyProof.DictCompW
import KE.KEqDict
import KE.KxText
import PyProof.WalksEnum
import PyProof.EnumMake
import KE.KDictLaws
import PyProof.ReprBulk
import KE.KRevSl
import PyProof.AttrMissHeap
import KE.KDictOf
import PyProof.ZipIter
import PyProof.ListRange
import PyProof.Rows.SortStr
import PyProof.DictItems
import PyProof.DictValues
import PyProof.DictWalks
import PyProof.P3In
import PySem.Challenge.RW_keyrooms_k16_whole_barred_or_opened
set_option Elab.async false
set_option linter.all false
set_option maxRecDepth 100000
set_option maxHeartbeats 4000000
def aeC:=@List.getElem?_eq_getElem
def aeD:=@List.length_map
def aeE:=@PySem.wpAny_bind
def aeF:=@List.mem_singleton
def aeG:=@List.length_append
def aeH:=@PySem.Heap.get?_push_of_some
def aeI:=@List.mem_append
def aeJ:=@List.getElem?_eq_some_iff
def aeK:=@PySem.wpAny_pure
def aeL:=@List.mem_append_right
def aeM:=@Bool.false_ne_true
def aeN:=@Nat.le_refl
def aeO:=@List.map_append
def aeP:=@List.getElem?_map
def aeQ:=@List.mem_cons_self
def aeR:=@PySem.Heap.lt_size
def aeS:=@PySem.F.plainAttrs_list
def aeT:=@Array.length_toList
def aeU:=@List.size_toArray
def aeV:=@List.mem_cons_of_mem
def aeW:=@List.append_assoc
def aeX:=@List.mem_cons
def aeY:=@PySem.Heap.get?_push_size
def aeZ:=@List.map_cons
def ae0:=@PyProof.Rows.wpS_bind
def ae1:=@Nat.lt_of_lt_of_le
def ae2:=@Nat.zero_le
def ae3:=@List.mem_map
def ae4:=@Nat.ne_of_lt
def ae5:=@PySem.W.mg_of
def ae6:=@List.mem_append_left
def ae7:=@PyProof.Rows.wpS_pure
def ae8:=@PySem.boot_len
def ae9:=@List.length_take
def afa:=@List.getElem_mem
def afb:=@Nat.le_of_lt
def afc:=@List.take_add_one
def afd:=@List.length_cons
def afe:=@beq_iff_eq
def aff:=@Nat.lt_of_le_of_lt
def afg:=@List.mem_of_getElem?
def afh:=@Int.toNat_natCast
def afi:=@decide_eq_true
def afj:=@Bool.false_eq_true
def afk:=@Nat.le_trans
def afl:=@PySem.PassesOwn.never
def afm:=@List.take_length
def afn:=@List.pairwise_append
def afo:=@Array.getElem?_toList
def afp:=@List.take_append_drop
def afq:=@decide_eq_false
def afr:=@Int.emod_lt_of_pos
def afs:=@List.length_range
def aft:=@congrArg
def afu:=@PySem.wpAny_mono
def afv:=@List.getElem?_append_right
def afw:=@List.append_nil
def afx:=@List.nodup_cons
def afy:=@List.take_of_length_le
def afz:=@PySem.W.mg_none_of
def afA:=@List.mem_of_mem_take
def afB:=@List.flatMap_append
def afC:=@Int.emod_nonneg
def afD:=@PySem.wpAny_holding
def afE:=@List.pairwise_cons
def afF:=@List.count_pos_iff
def afG:=@Option.some.inj
def afH:=@PySem.Heap.SameBut.update
def afI:=@PySem.F.slot_list_append
def afJ:=@PySem.F.type_list_append
def afK:=@Array.perm_iff_toList_perm
def afL:=@PySem.wpAny_truthy_bool
def afM:=@PySem.wpAny_newObj_type
def afN:=@List.mem_flatMap
def afO:=@List.flatMap_cons
def afP:=@Classical.byContradiction
def afQ:=@List.drop_eq_getElem_cons
def afR:=@PySem.Around.under_plainId
def afS:=@List.mem_iff_getElem
def afT:=@List.mem_range
def afU:=@List.drop_zero
def afV:=@List.filter_append
def afW:=@PyProof.Rows.wpS_forRange
def afX:=@List.nodup_append
def afY:=@List.count_append
def afZ:=@List.map_map
def af0:=@List.length_singleton
def af1:=@PySem.codeAny_builtin
def af2:=@PySem.F.called_set
def af3:=@Bool.and_eq_true
def af4:=@PySem.wpAny_call_entry
def af5:=@List.not_mem_nil
def af6:=@List.filter_cons
def af7:=@Nat.lt_succ_of_lt
def af8:=@List.length_eq_zero_iff
def af9:=@List.mem_of_mem_drop
def aga:=@PySem.W.kia_one
def agb:=@Nat.min_eq_left
def agc:=@List.pairwise_iff_getElem
def agd:=@List.extract_eq_take_drop
def age:=@List.length_drop
def agf:=@List.length_replicate
def agg:=@PySem.Heap.get?_update_self
def agh:=@List.getElem?_eq_none
def agi:=@of_decide_eq_true
def agj:=@PySem.F.slot_list_pop
def agk:=@PySem.F.type_list_pop
def agl:=@if_false
def agm:=@PySem.F.slot_dict_keyiterator_next
def agn:=@PySem.Heap.size_push
def ago:=@PySem.wpAny_standAt
def agp:=@PyProof.Rows.callWith_type1
def agq:=@PySem.F.plain_list_iadd
def agr:=@PySem.F.slot_list_count
def ags:=@PySem.F.type_list_count
def agt:=@List.getD_eq_getElem?_getD
def agu:=@PySem.Heap.get?_update_other
def agv:=@Option.map_eq_some_iff
def agw:=@List.filter_eq_self
def agx:=@Nat.lt_irrefl
def agy:=@List.getElem?_append_left
def agz:=@Ne.symm
def agA:=@PySem.F.slot_dict_get
def agB:=@List.length_filter_le
def agC:=@List.Perm.append_left
def agD:=@PySem.wpAny_rule
def agE:=@PySem.F.slot_list_extend
def agF:=@PySem.F.type_list_extend
def agG:=@Nat.le_succ
def agH:=@List.all_eq_true
def agI:=@PySem.wpAny_typeNameOfWhole_keyiter
def agJ:=@Array.toList_extract
def agK:=@List.eraseIdx_cons_succ
def agL:=@decide_eq_true_eq
def agM:=@List.ext_getElem?
def agN:=@Nat.add_le_add_left
def agO:=@PyProof.Rows.boot_sorted
def agP:=@List.getElem?_set_self
def agQ:=@PySem.Calls.callWith_builtin
def agR:=@List.drop_of_length_le
def agS:=@List.Perm.append_right
def agT:=@List.flatten_singleton
def agU:=@Nat.succ_le_succ
def agV:=@Nat.ne_of_gt
def agW:=@PySem.Calls.spliced_cons
def agX:=@PySem.codeAny_mono
def agY:=@List.any_cons
def agZ:=@Option.toList_some
def ag0:=@PyProof.Rows.wpS_mono
def ag1:=@PySem.Calls.call_function_entry
def ag2:=@PySem.wpAny_passesOwn
def ag3:=@List.getElem?_take_of_lt
def ag4:=@List.eraseIdxIfInBounds_toArray
def ag5:=@PySem.wpAny_comprehension_free
def ag6:=@PySem.wpAny_setState_of
def ag7:=@bne_self_eq_false
def ag8:=@List.getElem_take
def ag9:=@PyProof.Rows.KeyOrd.kle_refl
def aha:=@PySem.mem_of_lookup
def ahb:=@PySem.wpAny_getItem_str_slice
def ahc:=@PySem.plainId_quiet
def ahd:=@List.flatten_append
def ahe:=@Nat.min_le_right
def ahf:=@PySem.wpAny_askSetting
def ahg:=@PyProof.Rows.KeyOrd.kle_trans
def ahh:=@List.take_append_of_le_length
def ahi:=@PySem.Heap.size_update
def ahj:=@List.take_zero
def ahk:=@PyProof.Rows.wpS_modify
def ahl:=@if_true
def ahm:=@PySem.F.entry_dict_get
def ahn:=@PySem.wpAny_Call_Name_kw
def aho:=@PySem.tupleKind_room_in1
def ahp:=@PySem.Obj.data_mapFields
def ahq:=@List.mem_filter
def ahr:=@List.find?_cons
def ahs:=@List.length_nil
def aht:=@List.count_cons
def ahu:=@PySem.F.plain_proto_collect
def ahv:=@List.mem_of_mem_erase
def ahw:=@List.perm_append_comm
def ahx:=@PySem.Calls.spliced_nil
def ahy:=@Bool.not_eq_true'
def ahz:=@PySem.wpAny_newList
def ahA:=@PyProof.Rows.KeyOrd.kle_of_klt
def ahB:=@PySem.Calls.evalArgs_plain
def ahC:=@PySem.wpAny_newFunctionEnv
def ahD:=@Array.toArray_toList
def ahE:=@List.mem_erase_of_ne
def ahF:=@Nat.add_le_add_right
def ahG:=@Nat.pow_le_pow_right
def ahH:=@List.count_le_length
def ahI:=@List.nodup_nil
def ahJ:=@List.drop_drop
def ahK:=@List.perm_middle
def ahL:=@List.nodup_range
def ahM:=@Nat.sub_self
def ahN:=@PySem.F.slot_list_remove
def ahO:=@PySem.F.type_list_remove
def ahP:=@Int.natCast_nonneg
def ahQ:=@List.getElem?_replicate
def ahR:=@List.all_cons
def ahS:=@Option.map_some
def ahT:=@PySem.F.plainAttrs_dict
def ahU:=@List.forIn_cons
def ahV:=@List.getElem?_cons_succ
def ahW:=@PyProof.Rows.entry_list_sort
def ahX:=@PyProof.Rows.F.plain_set_update_loop
def ahY:=@PySem.codeAny_of_tree
def ahZ:=@List.range_succ
def ah0:=@List.append_of_mem
def ah1:=@List.count_eq_zero
def ah2:=@decide_eq_true_iff
def ah3:=@List.eraseIdx_append_of_length_le
def ah4:=@decide_eq_false_iff_not
def ah5:=@PyProof.Rows.listUpdate_at
def ah6:=@Array.getElem?_eq_none
def ah7:=@PySem.wpAny_pyIter_list
def ah8:=@Array.toList_push
def ah9:=@PySem.fits_of_scanBound
def aia:=@PyProof.Rows.size_push'
def aib:=@List.flatten_cons
def aic:=@List.foldl_append
def aid:=@PySem.wpAny_setField
def aie:=@or_false
def aif:=@PyProof.Rows.slot_list_sort
def aih:=@List.take_take
def aii:=@List.map_nil
def aij:=@Nat.zero_add
def aik:=@List.mem_iff_getElem?
def ail:=@List.eq_nil_iff_forall_not_mem
def aim:=@PySem.F.args_dict_keyiterator_next_1
def ain:=@List.lookup_cons
def aio:=@beq_self_eq_true
def aip:=@List.count_erase
def aiq:=@PySem.StrLaws.seqIndex_nonneg
def air:=@List.drop_append_of_le_length
def ais:=@PySem.F.entry_dict_keyiterator_next
def ait:=@List.any_eq_true
def aiu:=@List.getElem?_set_ne
def aiv:=@List.length_dropLast
def aiw:=@PyProof.Rows.entry_proto_collect'
def aix:=@List.replicate_succ'
def aiy:=@List.Pairwise.filter
def aiz:=@Array.toList_reverse
def aiA:=@PySem.wpAny_attempt
def aiB:=@PySem.F.slot_dict_setdefault
def aiC:=@List.map_take
def aiD:=@PySem.wpAny_load
def aiE:=@PySem.call_meets
def aiF:=@PySem.Value.isStrOf_shape
def aiG:=@beq_eq_false_iff_ne
def aiH:=@List.filterMap_cons
def aiI:=@PySem.wpAny_execs_nil
def aiJ:=@Bool.eq_iff_iff
def aiK:=@PySem.post_val_or_str
def aiL:=@PySem.F.plain_set_new
def aiM:=@Nat.not_lt_zero
def aiN:=@List.length_reverse
def aiO:=@List.length_pos_iff
def aiP:=@Int.toNat_of_nonneg
def aiQ:=@List.foldl_cons
def aiR:=@PyProof.Rows.wpS_get
def aiS:=@List.drop_length_add_append
def aiT:=@List.map_congr_left
def aiU:=@List.getElem_of_mem
def aiW:=@Int.fdiv_eq_ediv_of_nonneg
def aiX:=@List.length_eraseIdx_of_lt
def aiY:=@Array.getElem?_eq_some_iff
def aiZ:=@List.getElem?_take_eq_none
def ai0:=@List.perm_ext_iff_of_nodup
def ai1:=@PySem.call_meetsIn
def ai2:=@PyProof.Rows.plain_sorted
def ai3:=@PyProof.Rows.entry_sorted
def ai4:=@Nat.add_zero
def ai5:=@Array.size_reverse
def ai6:=@List.any_map
def ai7:=@Int.toNat_zero
def ai8:=@PySem.F.plain_extend_loop
def ai9:=@PySem.wpAny_runValue
def aja:=@PyProof.Rows.args_list_sort
def ajb:=@List.exists_mem_of_ne_nil
def ajc:=@Option.isSome_iff_exists
def ajd:=@List.take_sublist
def aje:=@PySem.F.args_tuple_add_2
def ajf:=@PySem.slot_list_getitem
def ajh:=@Option.some.injEq
def aji:=@PySem.Heap.SameBut.refl
def ajj:=@PySem.Obj.cls_mapFields
def ajk:=@PySem.wpAny_pyIter_slot
def ajl:=@List.reverse_cons
def ajm:=@List.length_erase_of_mem
def ajn:=@List.mem_of_mem_eraseIdx
def ajo:=@Classical.not_not
def ajp:=@List.getElem_drop
def ajq:=@PySem.wpAny_dictEntries
def ajr:=@List.pairwise_map
def ajs:=@List.Pairwise.imp_of_mem
def ajt:=@PySem.Paired.length
def aju:=@PySem.F.entry_tuple_add
def ajv:=@PySem.F.args_dict_get_2
def ajw:=@PySem.F.args_dict_get_3
def ajx:=@Option.bind_eq_some_iff
def ajy:=@PySem.wpAny_of_eq
def ajz:=@PyProof.Rows.kind_sorted
def ajB:=@List.length_eraseIdx_le
def ajC:=@List.pairwise_singleton
def ajD:=@PySem.noFill_tuple_add
def ajE:=@List.cons_append
def ajF:=@Option.getD_some
def ajG:=@Nat.min_eq_right
def ajH:=@PySem.wpAny_isInstance
def ajI:=@Nat.lt_succ_self
def ajK:=@List.flatMap_nil
def ajL:=@decide_eq_decide
def ajM:=@PySem.pairTrees_length
def ajN:=@PySem.W.cellsFrom_some
def ajO:=@PySem.F.slot_tuple_add
def ajS:=@List.range_succ_eq_map
def ajT:=@Array.size_eq_zero_iff
def ajU:=@List.length_pos_of_mem
def ajV:=@List.filter_eq_nil_iff
def ajW:=@List.pairwise_lt_range
def ajY:=@List.of_mem_zip
def ajZ:=@PySem.F.type_dict_get
def aj0:=@List.all_map
def aj1:=@PySem.Txt.slice_le
def aj3:=@Array.size_eq_one_iff
def aj5:=@PySem.wpAny_ite_split
def aj8:=@List.pairwise_flatMap
def aj9:=@List.eq_nil_or_concat
def aka:=@List.concat_eq_append
def akb:=@List.Pairwise.sublist
def akc:=@List.singleton_append
def akd:=@List.nil_append
def akf:=@List.take_left'
def akg:=@PySem.wpAny_dictEpoch
def aks:=@List.drop_left
def akt:=@Array.size_map
def aku:=@List.forIn_nil
def aky:=@PySem.wpAny_alloc
def alm:=@List.le_refl
def aln:=@Nat.sub_zero
def alq:=@Int.zero_add
namespace L2
open PySem PySem.Spec PyProof.Rows
abbrev Key:=Sum Int Str
def vf:Key->Value->Bool
 | .inl k,v=>Value.isInt k v
 | .inr x,v=>Value.isStrOf x v
def aex (w:World):Key->Int
 | .inl k=>hashInt k
 | .inr x=>hashStr w x
theorem cc:∀ {k:Key} {v:Value},vf k v=true->(∃ i t,k=Sum.inl i/\v=Value.int i t)\/(∃ x t,k=Sum.inr x/\v=Value.str x t)
 | .inl i,v,h=>by
  obtain⟨t,e⟩:=Value.isInt_shape (k:=i) (v:=v) h
  exact .inl ⟨i,t,rfl,e⟩
 | .inr x,v,h=>by
  obtain⟨t,e⟩:=aiF (x:=x) (v:=v) h
  exact .inr ⟨x,t,rfl,e⟩
theorem wG (i:Int)(t:Tok):vf (.inl i) (.int i t)=true:=by simp [vf,Value.isInt]
theorem xR (x:Str)(t:Tok):vf (.inr x) (.str x t)=true:=by simp [vf,Value.isStrOf]
theorem acq (a b:Int):decide ((Sum.inl a:Key)=Sum.inl b)=(a == b):=by
 by_cases e:a=b
 ·subst e;simp
 ·have h:¬ (Sum.inl a:Key)=Sum.inl b:=fun q=>e (Sum.inl.inj q)
  rw [afq h]
  exact (aiG.mpr e).symm
theorem acD (a b:Str):decide ((Sum.inr a:Key)=Sum.inr b)=decide (a=b):=by
 by_cases e:a=b
 ·subst e;simp
 ·have h:¬ (Sum.inr a:Key)=Sum.inr b:=fun q=>e (Sum.inr.inj q)
  rw [afq h,afq e]
theorem ab8 (a:Int)(b:Str):decide ((Sum.inl a:Key)=Sum.inr b)=false:=afq (fun q=>nomatch q)
theorem acw (a:Str)(b:Int):decide ((Sum.inr a:Key)=Sum.inl b)=false:=afq (fun q=>nomatch q)
def bz (prog:Program)(w:World):PySem.KeyKind prog w Key where
 is:=vf
 hash:=aex w
 inj:=fun v a b ha hb=>by
  rcases cc ha with ⟨i,t,rfl,rfl⟩ | ⟨x,t,rfl,rfl⟩
  ·rcases cc hb with ⟨j,u,rfl,e⟩ | ⟨y,u,rfl,e⟩
   ·injection e with e1 _;rw [e1]
   ·exact nomatch e
  ·rcases cc hb with ⟨j,u,rfl,e⟩ | ⟨y,u,rfl,e⟩
   ·exact nomatch e
   ·injection e with e1 _;rw [e1]
 byValue:=fun k v h=>by
  rcases cc h with ⟨i,t,rfl,rfl⟩ | ⟨x,t,rfl,rfl⟩<;>rfl
 pyHash:=fun hv h=>by
  rcases cc hv with ⟨i,t,rfl,rfl⟩ | ⟨x,t,rfl,rfl⟩
  ·exact wpAny_pyHash_int h
  ·exact wpAny_pyHash_str h
 eqBool:=fun hu hv h=>by
  rcases cc hu with ⟨i,t,rfl,rfl⟩ | ⟨x,t,rfl,rfl⟩
  ·rcases cc hv with ⟨j,u,rfl,rfl⟩ | ⟨y,u,rfl,rfl⟩
   ·rw [acq] at h;exact wpAny_eqBool_int h
   ·rw [ab8] at h;exact SeqAt.EqAt.int_str i t y u _ _ _ _ h
  ·rcases cc hv with ⟨j,u,rfl,rfl⟩ | ⟨y,u,rfl,rfl⟩
   ·rw [acw] at h;exact SeqAt.EqAt.str_int x t j u _ _ _ _ h
   ·rw [acD] at h;exact wpAny_eqBool_str h
 «strs»:=fun k x t v h=>by
  rcases cc h with ⟨i,u,rfl,e⟩ | ⟨y,u,rfl,e⟩
  ·exact nomatch e
  ·injection e with e1 _
   subst e1
   cases v<;>rfl
theorem tF (prog:Program)(w:World)(i:Int)(t:Tok):(bz prog w).is (.inl i) (.int i t)=true:=wG i t
theorem rW (prog:Program)(w:World)(x:Str)(t:Tok):(bz prog w).is (.inr x) (.str x t)=true:=xR x t
inductive V where
 | non | bl (b:Bool) | int (i:Int) | str (x:Str) | byt (b:Array UInt8) | flt (b:UInt64) | ref (a:Addr) | ty (n:String)
 deriving DecidableEq
def RelV:V->Value->Prop
 | .non,u=>u=Value.none
 | .bl b,u=>u=Value.bool b
 | .int i,u=>∃ t,u=Value.int i t
 | .str x,u=>∃ t,u=Value.str x t
 | .byt b,u=>∃ t,u=Value.bytes b t
 | .flt b,u=>∃ t,u=Value.float b t
 | .ref a,u=>u=Value.ref a
 | .ty n,u=>u=Value.type n
abbrev Vals:List V->List Value->Prop:=Paired RelV
theorem Vals.length {xs:List V}{us:List Value}(r:Vals xs us):xs.length=us.length:=ajt r
theorem Vals.get:∀ {xs:List V} {us:List Value} {i:Nat} {x:V},Vals xs us->xs[i]? = some x->∃ u,us[i]? = some u/\RelV x u
 | _,_,_,_,.nil,e=>by simp at e
 | _,_,0,_,.cons r _,e=>by simp at e;subst e;exact⟨_,rfl,r⟩
 | _,_,i+1,x,.cons _ t,e=>by
  obtain⟨u,h1,h2⟩:=Vals.get (i:=i) (x:=x) t (by simpa using e)
  exact⟨u,by simpa using h1,h2⟩
theorem Vals.set {x:V}{u:Value}(r:RelV x u):∀ {xs:List V} {us:List Value} (i:Nat),Vals xs us->Vals (xs.set i x) (us.set i u)
 | _,_,_,.nil=>.nil
 | _,_,0,.cons _ t=>.cons r t
 | _,_,i+1,.cons q t=>.cons q (Vals.set r i t)
theorem Vals.append:∀ {xs ys:List V} {us ws:List Value},Vals xs us->Vals ys ws->Vals (xs++ys) (us++ws)
 | _,_,_,_,.nil,s=>s
 | _,_,_,_,.cons r t,s=>.cons r (Vals.append t s)
theorem Vals.take:∀ {xs:List V} {us:List Value} (n:Nat),Vals xs us->Vals (xs.take n) (us.take n)
 | _,_,0,_=>.nil
 | _,_,_+1,.nil=>.nil
 | _,_,n+1,.cons r t=>.cons r (Vals.take n t)
theorem Vals.drop:∀ {xs:List V} {us:List Value} (n:Nat),Vals xs us->Vals (xs.drop n) (us.drop n)
 | _,_,0,r=>r
 | _,_,_+1,.nil=>.nil
 | _,_,n+1,.cons _ t=>Vals.drop n t
def RelO:Option V->Option Value->Prop
 | some v,some u=>RelV v u
 | none,none=>True
 | _,_=>False
def KV {κ:Type}:List (κ×V)->List (κ×Value)->Prop:=Paired fun (p:κ×V) (q:κ×Value)=>p.1=q.1/\RelV p.2 q.2
def kV:Key->V
 | .inl i=>.int i
 | .inr x=>.str x
inductive HO where
 | lst (xs:List V)
 | tup (xs:List V)
 | dK (kvs:List (Key×V)) | dT (kvs:List (List Key×V))
 | set (S:Int->Bool) (n:Nat)
 | ins (C dx:Addr) (fs:List (Str×V))
 | own (x:Addr)
 | xd (fs:List (Str×V))
 | met (f x:Addr)
 | rng (lo hi:Int)
 | frz (o:Obj) (u:HO)
 | tbl (ps:Array Value)
 | ext (φ:Heap->Prop)
abbrev Hp:=Addr->Option HO
def upd (H:Hp)(a:Addr)(o:HO):Hp:=fun b=>if b=a then some o else H b
theorem ag {H:Hp}{a:Addr}{o:HO}:upd H a o a=some o:=by unfold upd;rw [if_pos rfl]
theorem ah {H:Hp}{a b:Addr}{o:HO}(h:b≠a):upd H a o b=H b:=by unfold upd;rw [if_neg h]
theorem bX {H:Hp}{a b:Addr}{o u:HO}(h:H a=some o)(h':H b=some u)(d:o≠u):a≠b:=by
 intro e;subst e;rw [h] at h';exact d (afG h')
theorem af {H:Hp}{a b:Addr}{o:HO}(h:H a=some o)(h':H b=none):a≠b:=by
 intro e;subst e;rw [h] at h';cases h'
section
variable (P:Program)(w:World)
def ObjOk (H:Hp)(h:Heap)(a:Addr):HO->Prop
 | .lst xs=>xs.length<=sizeLine/\∃ (its:List Value) (n:Nat),Vals xs its/\h.get? a=some { cls:=.type "list",data:=.seq its.toArray n }
 | .tup xs=>xs.length<=sizeLine/\∃ its:List Value,Vals xs its/\IsTup h a its.toArray
 | .dK kvs=>kvs.length<=sizeLine/\(a == sysModules)=false/\∃ vs,KV kvs vs/\h.DictOf (bz P w) a vs
 | .dT kvs=>kvs.length<=sizeLine/\(a == sysModules)=false/\∃ xs:List (List Key×Addr×Value),
  Paired (fun (p:List Key×V) (q:List Key×Addr×Value)=>p.1=q.1/\H q.2.1=some (.tup (p.1.map kV))/\RelV p.2 q.2.2) kvs xs ∧
  ∃ o es ep,h.get? a=some o/\o.ExactDict/\o.data=.dict es ep/\es.toList=xs.map (entryOfKey (tupleKind (bz P w)))/\(xs.map (·.1)).Nodup
 | .set S n=>h.SetOf (intKind P w) a S n
 | .ins C dx fs=>H dx=some (.own a)/\fs.length<=1000/\dx≠a/\h.get? a=some (PySem.W.instObj C dx) ∧
  ∃ mA,h.Ns1 dx mA/\(∀ f,RelO (fs.lookup f) (mA f))/\PySem.Within mA (fs.map (·.1))
 | .own _=>∃ o,h.get? a=some o
 | .xd fs=>∃ mA,h.Ns1 a mA/\∀ f,RelO (fs.lookup f) (mA f)
 | .rng lo hi=>∃ t u v,h.get? a=some { cls:=.type "range",data:=.fields #[.int lo t,.int hi u,.int 1 v] }
 | .frz o u=>h.get? a=some o/\ObjOk H h a u
 | .tbl ps=>h.get? a=some { cls:=.none,data:=.fields ps }
 | .met f x=>h.get? a=some (PySem.W.methodObj (.ref f) (.ref x))
 | .ext φ=>φ h/\(∃ o,h.get? a=some o)/\∀ h1 h2:Heap,φ h1->(∀ o,h1.get? a=some o->h2.get? a=some o)->φ h2
def HOk (H:Hp)(h:Heap):Prop:=∀ a o,H a=some o->ObjOk P w H h a o
end
section
variable {P:Program}{w:World}{H H':Hp}{h h':Heap}{a:Addr}{o:HO}
theorem ObjOk.lt (x:ObjOk P w H h a o):a < h.objs.size:=by
 cases o with
 | lst xs=>obtain⟨_,_,_,_,e⟩:=x;exact aeR e
 | tup xs=>obtain⟨_,_,_,p⟩:=x;exact p.lt
 | dK kvs=>obtain⟨_,_,_,_,o,_,_,e,_⟩:=x;exact aeR e
 | dT kvs=>obtain⟨_,_,_,_,o,_,_,e,_⟩:=x;exact aeR e
 | set S n=>obtain⟨o,_,_,_,e,_⟩:=x;exact aeR e
 | ins C dx fs=>obtain⟨_,_,_,e,_⟩:=x;exact aeR e
 | own y=>obtain⟨_,e⟩:=x;exact aeR e
 | xd fs=>obtain⟨_,⟨_,_,_,e,_⟩,_⟩:=x;exact aeR e
 | rng lo hi=>obtain⟨_,_,_,e⟩:=x;exact aeR e
 | frz ob u=>obtain⟨e,_⟩:=x;exact aeR e
 | tbl ps=>exact aeR (show h.get? a=some _ from x)
 | met f y=>exact aeR (show h.get? a=some _ from x)
 | ext φ=>obtain⟨_,⟨_,e⟩,_⟩:=x;exact aeR e
theorem Paired.mapP {α β:Type}{F G:α->β->Prop}:∀ {l₁:List α} {l₂:List β},Paired F l₁ l₂->(∀ a b,F a b->G a b)->Paired G l₁ l₂
 | _,_,.nil,_=>.nil
 | _,_,.cons r t,f=>.cons (f _ _ r) (Paired.mapP t f)
theorem ObjOk.stay (x:ObjOk P w H h a o)(k:∀ b u,(b=a\/H b=some (.own a))->h.get? b=some u->h'.get? b=some u)
 (ho:∀ b,H b=some (.own a)->H' b=some (.own a))(ht:∀ b xs,H b=some (.tup xs)->H' b=some (.tup xs)):ObjOk P w H' h' a o:=by
 induction o with
 | lst xs=>obtain⟨z,its,n,r,e⟩:=x;exact⟨z,its,n,r,k _ _ (.inl rfl) e⟩
 | tup xs=>obtain⟨z,its,r,ob,e,c⟩:=x;exact⟨z,its,r,ob,k _ _ (.inl rfl) e,c⟩
 | dK kvs=>obtain⟨z,y,vs,r,ob,es,ep,e,c⟩:=x;exact⟨z,y,vs,r,ob,es,ep,k _ _ (.inl rfl) e,c⟩
 | dT kvs =>
  obtain⟨z,y,xs,r,ob,es,ep,e,c⟩:=x
  exact⟨z,y,xs,Paired.mapP r fun p q z=>⟨z.1,ht _ _ z.2.1,z.2.2⟩,ob,es,ep,k _ _ (.inl rfl) e,c⟩
 | set S n=>obtain⟨ob,es,ep,t,e,c⟩:=x;exact⟨ob,es,ep,t,k _ _ (.inl rfl) e,c⟩
 | ins C dx fs =>
  obtain⟨d,z,ne,e,mA,⟨od,es,ep,e2,c⟩,r⟩:=x
  exact⟨ho _ d,z,ne,k _ _ (.inl rfl) e,mA,⟨od,es,ep,k _ _ (.inr d) e2,c⟩,r⟩
 | own y=>obtain⟨ob,e⟩:=x;exact⟨ob,k _ _ (.inl rfl) e⟩
 | xd fs=>obtain⟨mA,⟨od,es,ep,e,c⟩,r⟩:=x;exact⟨mA,⟨od,es,ep,k _ _ (.inl rfl) e,c⟩,r⟩
 | rng lo hi=>obtain⟨t,u,v,e⟩:=x;exact⟨t,u,v,k _ _ (.inl rfl) e⟩
 | frz ob u ih=>obtain⟨e,q⟩:=x;exact⟨k _ _ (.inl rfl) e,ih q⟩
 | tbl ps =>
  have e:h.get? a=some { cls:=.none,data:=.fields ps }:=x
  show h'.get? a=some { cls:=.none,data:=.fields ps }
  exact k a _ (.inl rfl) e
 | met f y =>
  have e:h.get? a=some (PySem.W.methodObj (.ref f) (.ref y)):=x
  show h'.get? a=some (PySem.W.methodObj (.ref f) (.ref y))
  exact k a _ (.inl rfl) e
 | ext φ=>obtain⟨p,⟨o,e⟩,st⟩:=x;exact⟨st _ _ p fun o q=>k _ _ (.inl rfl) q,⟨o,k _ _ (.inl rfl) e⟩,st⟩
theorem HOk.lt (x:HOk P w H h)(e:H a=some o):a < h.objs.size:=(x a o e).lt
theorem HOk.fresh (x:HOk P w H h)(e:h.objs.size<=a):H a=none:=by
 cases q:H a with
 | none=>rfl
 | some u=>exact absurd (ae1 (x.lt q) e) (agx _)
theorem HOk.kept (x:HOk P w H h)(k:∀ b u,h.get? b=some u->h'.get? b=some u):HOk P w H h':=fun a o e =>
 (x a o e).stay (fun b u _ q=>k b u q) (fun _ q=>q) fun _ _ q=>q
theorem HOk.laid (x:HOk P w H h)(k:∀ b u,h.get? b=some u->h'.get? b=some u)(hp:h.objs.size<=a)(new:ObjOk P w (upd H a o) h' a o):HOk P w (upd H a o) h':=fun b u e=>by
 have hn:=x.fresh hp
 by_cases hb:b=a
 ·subst hb;rw [ag] at e;cases e;exact new
 ·rw [ah hb] at e
  exact (x b u e).stay (fun c v _ q=>k c v q) (fun c q=>by rw [ah (af q hn)];exact q) fun c xs q=>by rw [ah (af q hn)];exact q
end
def Rd (H:Hp)(a:Addr)(u:HO):Prop:=H a=some u\/∃ o,H a=some (.frz o u)
theorem Rd.ok {P:Program}{w:World}{H:Hp}{h:Heap}{a:Addr}{u:HO}(r:Rd H a u)(x:HOk P w H h):ObjOk P w H h a u:=by
 rcases r with r | ⟨o,r⟩
 ·exact x a u r
 ·obtain⟨_,q⟩:=x a _ r
  exact q
def Mut:Option HO->Prop
 | some (.lst _)=>True
 | some (.dK _)=>True
 | some (.dT _)=>True
 | some (.set _ _)=>True
 | some (.ins _ _ _)=>True
 | some (.ext _)=>True
 | _=>False
section
variable {P:Program}{w:World}{H:Hp}{h h':Heap}{x e:Addr}{o':HO}
theorem HOk.write (ok:HOk P w H h)(mu:Mut (H x))(he:e=x\/H e=some (.own x))(k:∀ b u,b≠e->h.get? b=some u->h'.get? b=some u)(heo:∃ u,h'.get? e=some u)
 (new:ObjOk P w (upd H x o') h' x o'):HOk P w (upd H x o') h':=fun b u q=>by
 have nown:∀ c y,H c=some (.own y)->c≠x:=fun c y r z=>by subst z;rw [r] at mu;exact mu
 have ntup:∀ c xs,H c=some (.tup xs)->c≠x:=fun c xs r z=>by subst z;rw [r] at mu;exact mu
 by_cases hb:b=x
 ·subst hb;rw [ag] at q;cases q;exact new
 ·rw [ah hb] at q
  by_cases hbe:b=e
  ·have q':H b=some (.own x):=by
    rcases he with z | z
    ·exact absurd (hbe.trans z) hb
    ·rw [hbe];exact z
   rw [q] at q';cases q'
   obtain⟨v,hv⟩:=heo
   exact⟨v,by rw [hbe];exact hv⟩
  ·refine (ok b u q).stay (fun c v hc r=>k c v ?_ r) (fun c r=>by rw [ah (nown c b r)];exact r) fun c xs r=>by rw [ah (ntup c xs r)];exact r
   rcases hc with rfl | hc
   ·exact hbe
   ·rintro rfl
    rcases he with z | z
    ·exact nown c b hc z
    ·rw [hc] at z;cases z;exact hb rfl
end
structure Un (fs ex:List Addr)(H H':Hp)(h h':Heap):Prop where
 keep:∀ b o,h.get? b=some o->H b=none->b ∉ fs->b ∉ ex->h'.get? b=some o
 slot:∀ b o,h.get? b=some o->H b=none->b∈fs->b ∉ ex->∃ sl,h'.get? b=some { o with slots:=sl }
 free:∀ b o,h.get? b=some o->H b=none->b ∉ ex->H' b=none
 there:∀ b o,h.get? b=some o->b ∉ ex->∃ o',h'.get? b=some o'
 tups:∀ b xs,H b=some (.tup xs)->H' b=some (.tup xs)
 frzs:∀ b o u,H b=some (.frz o u)->H' b=some (.frz o u)
 tbls:∀ b ps,H b=some (.tbl ps)->∃ more,H' b=some (.tbl (ps++more))
section
variable {fs fs' ex ex':List Addr}{H H1 H2:Hp}{h h1 h2 h':Heap}{a x e:Addr}{o:HO}
theorem Un.any (u:Un fs ex H H1 h h1){b:Addr}{ob:Obj}(q:h.get? b=some ob)(n:H b=none)(hx:b ∉ ex):∃ sl,h1.get? b=some { ob with slots:=sl }:=by
 by_cases hb:b∈fs
 ·exact u.slot b ob q n hb hx
 ·exact⟨ob.slots,u.keep b ob q n hb hx⟩
theorem Un.kept (k:∀ b u,h.get? b=some u->h'.get? b=some u):Un fs ex H H h h' :=
 ⟨fun b ob q _ _ _=>k b ob q,fun b ob q _ _ _=>⟨ob.slots,k b ob q⟩,fun _ _ _ n _=>n,fun b ob q _=>⟨ob,k b ob q⟩,fun _ _ q=>q,fun _ _ _ q=>q,fun _ ps q=>⟨#[],by rw [q];simp⟩⟩
theorem Un.refl:Un fs ex H H h h:=Un.kept fun _ _ q=>q
theorem Un.laid (k:∀ b u,h.get? b=some u->h'.get? b=some u)(hp:h.objs.size<=a)(hn:H a=none):Un fs ex H (upd H a o) h h' where
 keep:=fun b u q _ _ _=>k b u q
 slot:=fun b u q _ _ _=>⟨u.slots,k b u q⟩
 free:=fun b u q n _=>by rw [ah (ae4 (ae1 (aeR q) hp))];exact n
 there:=fun b u q _=>⟨u,k b u q⟩
 tups:=fun b xs q=>by rw [ah (af q hn)];exact q
 frzs:=fun b u xs q=>by rw [ah (af q hn)];exact q
 tbls:=fun b ps q=>⟨#[],by rw [ah (af q hn),q];simp⟩
theorem Un.write (mu:Mut (H x))(he:e=x\/H e=some (.own x))(k:∀ b u,b≠e->h.get? b=some u->h'.get? b=some u)(heo:∃ u,h'.get? e=some u):Un fs ex H (upd H x o) h h':=by
 have hx:∀ b,H b=none->b≠x:=fun b n z=>by subst z;rw [n] at mu;exact mu
 have hb:∀ b,H b=none->b≠e:=fun b n z=>by
  subst z
  rcases he with r | r
  ·exact hx b n r
  ·rw [n] at r;cases r
 have hm:∀ b u,H b=some u->¬ Mut (some u)->b≠x:=fun b u q nm z=>by subst z;rw [q] at mu;exact nm mu
 refine⟨fun b u q n _ _=>k b u (hb b n) q,fun b u q n _ _=>⟨u.slots,k b u (hb b n) q⟩,fun b u q n _=>by rw [ah (hx b n)];exact n,fun b u q _=>?_,
  fun b xs q=>by rw [ah (hm b _ q fun z=>z)];exact q,fun b u xs q=>by rw [ah (hm b _ q fun z=>z)];exact q,fun b ps q=>⟨#[],by rw [ah (hm b _ q fun z=>z),q];simp⟩⟩
 by_cases hbe:b=e
 ·subst hbe;exact heo
 ·exact⟨u,k b u hbe q⟩
end
def trk (h:Heap)(H:Hp):List Addr:=(List.range h.objs.size).filter fun a=>(H a).isSome
def zU (h:Heap)(H:Hp):Heap:=PySem.W.hideAll h (trk h H)
theorem yC (h:Heap)(H:Hp):(zU h H).objs.size=h.objs.size:=PySem.W.hideAll_size _ _
theorem aaq {h:Heap}{H:Hp}{b:Addr}{o:Obj}(e:h.get? b=some o)(n:H b=none):(zU h H).get? b=some o :=
 PySem.W.hideAll_get _ e fun hm=>by
  have q:(H b).isSome=true:=(ahq.mp hm).2
  rw [n] at q;simp at q
theorem aa5 {h:Heap}{H:Hp}{b:Addr}{o:Obj}(e:(zU h H).get? b=some o):h.get? b=some o/\H b=none:=by
 have e':h.get? b=some o:=PySem.W.of_hideAll (trk h H) e
 refine⟨e',?_⟩
 cases q:H b with
 | none=>rfl
 | some x =>
  have hm:b∈trk h H:=ahq.mpr ⟨afT.mpr (aeR e'),by simp [q]⟩
  have z:(zU h H).get? b=none:=PySem.W.hideAll_none (trk h H) hm
  rw [z] at e;cases e
def aa9 (g h:Heap)(L:Addr):List (Addr×Obj):=(List.range h.objs.size).filterMap fun a=>if a=L\/(g.get? a).isSome=true then none else (h.get? a).map fun o=>(a,o)
def rest (g h:Heap)(L d:Addr):List (Addr×Obj):=(aa9 g h L).filter fun p=>decide (p.1≠d)
structure Mod (K:PySem.W.Frag)(mg:Str->Option Value)(base:Heap):Prop where
 kin:K.In base
 glob:base.Ns mainGlobals mg
 blt:∃ mb,base.Ns builtinsNs mb/\∀ x:Str,x ≠ "__name__" → mb x=bootBuiltins x
 nolimit:base.NoLimit
structure Cx where
 prog:Program
 w:World
 K:PySem.W.Frag
 mg:Str->Option Value
 base:Heap
 A:Around
 N:List Str
 s₀:Shared
 H₀:Hp
 env:Env
 outer:List Env
 stack:List Env
 ex:List Addr
 fn:Str->Bool
 calm:Bool
 pn:List (Addr×Obj)
 xe:Value->Shared->Prop
def frs (l:List Env):List Addr:=l.filterMap (·.frame)
abbrev Cx.fs (X:Cx):List Addr:=frs X.outer
def Vis (sc:Scope)(x:Str):Prop:=sc.names.lookup x=some .local\/sc.names.lookup x=some .cell\/sc.names.lookup x=some .free
def Loc (sc:Scope)(x:Str):Prop:=sc.names.lookup x=some .local\/sc.names.lookup x=some .cell
def aew (env:Env)(h:Heap)(m:Str->Option Value)(x:Str)(u:Value):Prop :=
 (env.kindOf x=some .local/\m x=some u)\/((env.kindOf x=some .cell\/env.kindOf x=some .free)/\∃ c,env.cells.lookup x=some c/\h.IsCell c (some u))
structure Cx.Ok (X:Cx):Prop where
 mod:Mod X.K X.mg X.base
 kind:X.env.scope.kind=.function
 glob:X.env.globals=mainGlobals
 blt:X.env.builtins=builtinsNs
 above:X.s₀.heap.objs.size<=X.env.locals
 inj:∀ x y c,X.env.cells.lookup x=some c->X.env.cells.lookup y=some c->x=y
 has:∀ x,(X.env.kindOf x=some .cell\/X.env.kindOf x=some .free)->∃ c,X.env.cells.lookup x=some c
 cab:∀ x c,X.fn x=true->X.env.cells.lookup x=some c->X.s₀.heap.objs.size<=c
 hd:X.calm=true->X.A.handled=none
 frames:X.A.frames=some X.stack
 stk:X.stack=X.outer\/(X.stack=X.env::X.outer/\X.env.frame=some X.env.locals)
 exf:∀ b∈X.ex,b≠X.env.locals/\∀ x c,X.env.cells.lookup x=some c->c≠b
 bs:∀ b o,X.base.get? b=some o->X.s₀.heap.get? b=some o/\X.H₀ b=none
 bsz:X.base.objs.size<=X.s₀.heap.objs.size
 noex:∀ b o,X.base.get? b=some o->b ∉ X.ex
 exfs:∀ b∈X.ex,b ∉ X.fs
 funs:X.s₀.heap.FunFrames X.base X.outer
 frf:∀ b∈X.fs,X.H₀ b=none
structure Inv (X:Cx)(pins:List (Addr×Obj))(σ:List (Option V))(H:Hp)(s:Shared):Prop where
 ok:X.Ok
 os:s.os=X.s₀.os
 bare:AllBare s.gens
 base:Un X.fs X.ex X.H₀ H X.s₀.heap s.heap
 loc:∃ m,s.heap.Ns X.env.locals m/\∀ (i:Nat) (x:Str) (v:V),X.N[i]? = some x->σ[i]? = some (some v)->Vis X.env.scope x->∃ u,RelV v u/\aew X.env s.heap m x u
 cell:∀ x c,X.env.cells.lookup x=some c->∃ v,s.heap.IsCell c v
 free:H X.env.locals=none
 freeC:∀ x c,X.env.cells.lookup x=some c->H c=none
 pin:∀ p∈X.pn++pins,s.heap.get? p.1=some p.2/\H p.1=none/\p.1≠X.env.locals/\p.1 ∉ X.fs/\∀ v,p.2.data≠.cell v
 hok:HOk X.prog X.w H s.heap
 len:σ.length=X.N.length
section
variable {X:Cx}{pins:List (Addr×Obj)}{σ:List (Option V)}{H H':Hp}{s:Shared}{h':Heap}
theorem Cx.Ok.nofr (ok:X.Ok){b:Addr}{o:Obj}(e:X.base.get? b=some o):b ∉ X.fs:=fun hb=>by
 have:=(ok.funs.mem hb).1
 rw [e] at this;cases this
theorem Inv.bs (I:Inv X pins σ H s):∀ b o,X.base.get? b=some o->s.heap.get? b=some o/\H b=none:=fun b o e =>
 ⟨I.base.keep b o (I.ok.bs b o e).1 (I.ok.bs b o e).2 (I.ok.nofr e) (I.ok.noex b o e),I.base.free b o (I.ok.bs b o e).1 (I.ok.bs b o e).2 (I.ok.noex b o e)⟩
theorem Inv.bk (I:Inv X pins σ H s):∀ b o,X.base.get? b=some o->s.heap.get? b=some o:=fun b o e=>(I.bs b o e).1
theorem Inv.mod (I:Inv X pins σ H s):Mod X.K X.mg X.base:=I.ok.mod
theorem Inv.kIn (I:Inv X pins σ H s):X.K.In s.heap:=I.ok.mod.kin.keeps I.bk
theorem Inv.fr (I:Inv X pins σ H s):∃ m,Fr X.base X.env.locals s.heap m :=
 let ⟨m,hn,_⟩:=I.loc
 ⟨m,hn,I.bk,afk I.ok.bsz I.ok.above⟩
theorem Inv.lt (I:Inv X pins σ H s):X.env.locals < s.heap.objs.size:=let ⟨_,hn,_⟩:=I.loc;hn.lt
theorem Inv.sz (I:Inv X pins σ H s):X.s₀.heap.objs.size<=s.heap.objs.size:=afk I.ok.above (afb I.lt)
theorem Inv.nofs (I:Inv X pins σ H s){a:Addr}(h:s.heap.objs.size<=a):a ∉ X.fs:=fun hb=>by
 obtain⟨_,o,ho,_⟩:=I.ok.funs.mem hb
 exact absurd (ae1 (aeR ho) (afk I.sz h)) (agx _)
theorem Inv.cne (I:Inv X pins σ H s):∀ x c,X.env.cells.lookup x=some c->c≠X.env.locals:=fun x c e z=>by
 obtain⟨v,o,ho,hd⟩:=I.cell x c e
 obtain⟨m,⟨o',es,ep,ho',hd',_⟩,_⟩:=I.loc
 rw [z,ho'] at ho;cases ho;rw [hd'] at hd;cases hd
theorem Inv.funs (I:Inv X pins σ H s):s.heap.FunFrames X.base X.outer:=by
 have all:∀ (l:List Env),(∀ b∈frs l,b∈X.fs)->X.s₀.heap.FunFrames X.base l->s.heap.FunFrames X.base l:=by
  intro l
  induction l with
  | nil=>intro _ _;trivial
  | cons env r ih =>
   intro hs hl
   obtain⟨hk,⟨L,o,hf,hn,ho,hd⟩,hr⟩:=hl
   have hL:L∈X.fs:=hs L (by unfold frs;rw [aiH,hf];exact aeQ)
   obtain⟨sl,e⟩:=I.base.slot L o ho (I.ok.frf L hL) hL fun z=>I.ok.exfs L z hL
   exact⟨hk,⟨L,_,hf,hn,e,hd⟩,ih (fun b hb=>hs b (by unfold frs;rw [aiH,hf];exact aeV _ hb)) hr⟩
 exact all X.outer (fun _ hb=>hb) I.ok.funs
theorem Inv.stack (I:Inv X pins σ H s):s.heap.FunFrames X.base X.stack:=by
 rcases I.ok.stk with e | ⟨e,hf⟩
 ·rw [e];exact I.funs
 ·rw [e]
  obtain⟨m,hn,_⟩:=I.loc
  refine .cons (by rw [I.ok.kind];decide) hf hn ?_ I.funs
  exact Heap.get?_none_of_le (afk I.ok.bsz I.ok.above)
theorem Inv.stkSub (I:Inv X pins σ H s):∀ b∈frs X.stack,b∈X.env.locals::X.fs:=fun b hb=>by
 rcases I.ok.stk with e | ⟨e,hf⟩
 ·rw [e] at hb;exact aeV _ hb
 ·rw [e] at hb
  unfold frs at hb
  rw [aiH,hf] at hb
  exact hb
theorem Inv.stkFree (I:Inv X pins σ H s):∀ b∈frs X.stack,H b=none:=fun b hb=>by
 rcases aeX.mp (I.stkSub b hb) with e | hb
 ·rw [e];exact I.free
 ·obtain⟨_,o,ho,_⟩:=I.ok.funs.mem hb
  exact I.base.free b o ho (I.ok.frf b hb) fun z=>I.ok.exfs b z hb
theorem Inv.step {g':Array GenState}{t':Nat}{d':Drawn}{ch:List Addr}(I:Inv X pins σ H s)
 (hch:∀ b∈ch,(b∈X.ex\/X.s₀.heap.objs.size<=b)/\b≠X.env.locals/\(∀ x c,X.env.cells.lookup x=some c->c≠b)/\∀ p∈X.pn++pins,p.1≠b)
 (keep:∀ b o,b≠X.env.locals->b ∉ X.fs->b ∉ ch->s.heap.get? b=some o->H b=none->h'.get? b=some o)
 (slot:∀ b o,b≠X.env.locals->b∈X.fs->b ∉ ch->s.heap.get? b=some o->H b=none->∃ sl,h'.get? b=some { o with slots:=sl })(free:∀ b o,b ∉ ch->s.heap.get? b=some o->H b=none->H' b=none)
 (there:∀ b o,b ∉ ch->s.heap.get? b=some o->∃ o',h'.get? b=some o')
 (tups:∀ b xs,H b=some (.tup xs)->H' b=some (.tup xs))(frzs:∀ b o u,H b=some (.frz o u)->H' b=some (.frz o u))(tbls:∀ b ps,H b=some (.tbl ps)->∃ more,H' b=some (.tbl (ps++more)))
 (ns:∀ m,s.heap.Ns X.env.locals m->h'.Ns X.env.locals m)(hok:HOk X.prog X.w H' h')(hg:AllBare g') :
 Inv X pins σ H' { s with heap:=h',gens:=g',drawn:=d',toks:=t' }:=by
 have neL:∀ b o,X.s₀.heap.get? b=some o->b≠X.env.locals:=fun b o e=>ae4 (ae1 (aeR e) I.ok.above)
 have neC:∀ b o,X.s₀.heap.get? b=some o->b ∉ X.ex->b ∉ ch:=fun b o e hx hb=>by
  rcases (hch b hb).1 with z | z
  ·exact hx z
  ·exact absurd (ae1 (aeR e) z) (agx _)
 have cellK:∀ x c,X.env.cells.lookup x=some c->∀ v,s.heap.IsCell c v->h'.IsCell c v:=fun x c e v ⟨o,ho,hd⟩=>by
  have nch:c ∉ ch:=fun z=>(hch c z).2.2.1 x c e rfl
  by_cases hc:c∈X.fs
  ·obtain⟨sl,q⟩:=slot c o (I.cne x c e) hc nch ho (I.freeC x c e)
   exact⟨_,q,hd⟩
  ·exact⟨o,keep c o (I.cne x c e) hc nch ho (I.freeC x c e),hd⟩
 refine⟨I.ok,I.os,hg,⟨fun b o e n hb hx=>?_,fun b o e n hb hx=>?_,fun b o e n hx=>?_,fun b o e hx=>?_,fun b xs e=>tups b xs (I.base.tups b xs e),fun b o xs e=>frzs b o xs (I.base.frzs b o xs e),fun b ps e=>?_⟩,?_,fun x c e=>?_,?_,fun x c e=>?_,fun p hp=>?_,hok,I.len⟩
 ·exact keep b o (neL b o e) hb (neC b o e hx) (I.base.keep b o e n hb hx) (I.base.free b o e n hx)
 ·obtain⟨sl,e1⟩:=I.base.slot b o e n hb hx
  obtain⟨sl',e2⟩:=slot b _ (neL b o e) hb (neC b o e hx) e1 (I.base.free b o e n hx)
  exact⟨sl',e2⟩
 ·obtain⟨o',e1⟩:=I.base.there b o e hx
  exact free b o' (neC b o e hx) e1 (I.base.free b o e n hx)
 ·obtain⟨o',e1⟩:=I.base.there b o e hx
  exact there b o' (neC b o e hx) e1
 ·obtain⟨m1,e1⟩:=I.base.tbls b ps e
  obtain⟨m2,e2⟩:=tbls b _ e1
  exact⟨m1++m2,by rw [e2,Array.append_assoc]⟩
 ·obtain⟨m,hn,hl⟩:=I.loc
  refine⟨m,ns m hn,fun i x v e1 e2 e3=>?_⟩
  obtain⟨u,r,l⟩:=hl i x v e1 e2 e3
  refine⟨u,r,?_⟩
  rcases l with l | ⟨k,c,e,z⟩
  ·exact .inl l
  ·exact .inr ⟨k,c,e,cellK x c e _ z⟩
 ·obtain⟨v,z⟩:=I.cell x c e
  exact⟨v,cellK x c e v z⟩
 ·obtain⟨m,⟨o,_,_,ho,_⟩,_⟩:=I.loc
  exact free _ o (fun z=>(hch _ z).2.1 rfl) ho I.free
 ·obtain⟨v,o,ho,hd⟩:=I.cell x c e
  exact free c o (fun z=>(hch c z).2.2.1 x c e rfl) ho (I.freeC x c e)
 ·obtain⟨e,n,ne,nf,d⟩:=I.pin p hp
  have nch:p.1 ∉ ch:=fun z=>(hch p.1 z).2.2.2 p hp rfl
  exact⟨keep p.1 p.2 ne nf nch e n,free p.1 p.2 nch e n,ne,nf,d⟩
theorem Inv.un {t':Nat}(I:Inv X pins σ H s)(u:Un X.fs [] H H' s.heap h')(hok:HOk X.prog X.w H' h'):Inv X pins σ H' { s with heap:=h',toks:=t' }:=by
 obtain⟨m,⟨o,es,ep,ho,r⟩,_⟩:=id I.loc
 obtain⟨sl,hL⟩:=u.any ho I.free (by simp)
 exact I.step (g':=s.gens) (d':=s.drawn) (ch:=[]) (fun _ z=>nomatch z) (fun b o _ hb _ e n=>u.keep b o e n hb (by simp)) (fun b o _ hb _ e n=>u.slot b o e n hb (by simp)) (fun b o _ e n=>u.free b o e n (by simp)) (fun b o _ e=>u.there b o e (by simp)) u.tups u.frzs u.tbls (fun m' hm=>by
  obtain⟨o',es',ep',ho',r'⟩:=hm
  rw [ho] at ho';cases ho'
  exact⟨_,es',ep',hL,r'⟩) hok I.bare
theorem Inv.call {g':Array GenState}{t':Nat}{d':Drawn}{ch:List Addr}(I:Inv X pins σ H s)(u:Un (frs X.stack) ch H H' s.heap h')(hok:HOk X.prog X.w H' h')(hg:AllBare g')
 (hch:∀ b∈ch,(b∈X.ex\/X.s₀.heap.objs.size<=b)/\b≠X.env.locals/\(∀ x c,X.env.cells.lookup x=some c->c≠b)/\∀ p∈X.pn++pins,p.1≠b) :
 Inv X pins σ H' { s with heap:=h',gens:=g',drawn:=d',toks:=t' }:=by
 obtain⟨m,⟨o,es,ep,ho,r⟩,_⟩:=id I.loc
 obtain⟨sl,hL⟩:=u.any ho I.free fun z=>(hch _ z).2.1 rfl
 exact I.step (ch:=ch) hch (fun b o hL hb hc e n=>u.keep b o e n (fun z=>(aeX.mp (I.stkSub b z)).elim hL hb) hc) (fun b o _ _ hc e n=>u.any e n hc) (fun b o hc e n=>u.free b o e n hc) (fun b o hc e=>u.there b o e hc) u.tups u.frzs u.tbls (fun m' hm=>by
  obtain⟨o',es',ep',ho',r'⟩:=hm
  rw [ho] at ho';cases ho'
  exact⟨_,es',ep',hL,r'⟩) hok hg
theorem Inv.turned {t':Nat}{it:Addr}(I:Inv X pins σ H s)(k:∀ b o,b≠it->s.heap.get? b=some o->h'.get? b=some o)(hn:H it=none)(hL:it≠X.env.locals)
 (h1:it∈X.ex\/X.s₀.heap.objs.size<=it)(h2:∀ x c,X.env.cells.lookup x=some c->c≠it)(h3:∀ p∈X.pn++pins,p.1≠it):Inv X pins σ H { s with heap:=h',toks:=t' }:=by
 have nit:∀ b u,H b=some u->b≠it:=fun b u e z=>by rw [z,hn] at e;cases e
 refine I.step (g':=s.gens) (d':=s.drawn) (ch:=[it]) (fun b hb=>?_) (fun b o _ _ hc e _=>k b o (fun z=>hc (by simp [z])) e) (fun b o _ _ hc e _=>⟨o.slots,k b o (fun z=>hc (by simp [z])) e⟩) (fun _ _ _ _ n=>n)
  (fun b o hc e=>⟨o,k b o (fun z=>hc (by simp [z])) e⟩) (fun _ _ e=>e) (fun _ _ _ e=>e) (fun b ps e=>⟨#[],by rw [e];simp⟩) (fun m hm=>?_) (fun b u e=>?_) I.bare
 ·have e:b=it:=by simpa using hb
  subst e
  exact⟨h1,hL,h2,h3⟩
 ·obtain⟨o,es,ep,ho,r⟩:=hm
  exact⟨o,es,ep,k _ o (agz hL) ho,r⟩
 ·refine (I.hok b u e).stay (fun c v hc q=>k c v ?_ q) (fun _ q=>q) fun _ _ q=>q
  rcases hc with z | z
  ·rw [z];exact nit b u e
  ·exact nit c _ z
theorem Inv.tok (I:Inv X pins σ H s)(t:Nat):Inv X pins σ H { s with toks:=t }:=I.un (h':=s.heap) (t':=t) Un.refl I.hok
theorem Inv.kept {t':Nat}(I:Inv X pins σ H s)(k:∀ b u,s.heap.get? b=some u->h'.get? b=some u):Inv X pins σ H { s with heap:=h',toks:=t' }:=I.un (Un.kept k) (I.hok.kept k)
theorem Inv.laid {a:Addr}{o:HO}{t':Nat}(I:Inv X pins σ H s)(k:∀ b u,s.heap.get? b=some u->h'.get? b=some u)(hp:s.heap.objs.size<=a)(new:ObjOk X.prog X.w (upd H a o) h' a o) :
 Inv X pins σ (upd H a o) { s with heap:=h',toks:=t' }:=I.un (Un.laid k hp (I.hok.fresh hp)) (I.hok.laid k hp new)
theorem Inv.write {x e:Addr}{o:HO}{t':Nat}(I:Inv X pins σ H s)(mu:Mut (H x))(he:e=x\/H e=some (.own x))(k:∀ b u,b≠e->s.heap.get? b=some u->h'.get? b=some u)(heo:∃ u,h'.get? e=some u)
 (new:ObjOk X.prog X.w (upd H x o) h' x o):Inv X pins σ (upd H x o) { s with heap:=h',toks:=t' }:=I.un (Un.write mu he k heo) (I.hok.write mu he k heo new)
theorem Inv.weak {σ':List (Option V)}(I:Inv X pins σ H s)(hl:σ'.length=σ.length)(w:∀ (i:Nat) v,σ'[i]? = some (some v)->σ[i]? = some (some v)):Inv X pins σ' H s :=
 ⟨I.ok,I.os,I.bare,I.base,let ⟨m,hn,hl'⟩:=I.loc;⟨m,hn,fun i x v e1 e2 e3=>hl' i x v e1 (w i v e2) e3⟩,I.cell,I.free,I.freeC,I.pin,I.hok,hl.trans I.len⟩
theorem Inv.pins_of {pins':List (Addr×Obj)}(I:Inv X pins σ H s)(h:∀ p∈pins',s.heap.get? p.1=some p.2/\H p.1=none/\p.1≠X.env.locals/\p.1 ∉ X.fs/\∀ v,p.2.data≠.cell v):Inv X pins' σ H s :=
 ⟨I.ok,I.os,I.bare,I.base,I.loc,I.cell,I.free,I.freeC,fun p hp=>(aeI.mp hp).elim (fun z=>I.pin p (ae6 _ z)) (h p),I.hok,I.len⟩
theorem uG {N:List Str}(hN:N.Nodup){i j:Nat}{x:Str}(a:N[i]? = some x)(b:N[j]? = some x):i=j:=by
 obtain⟨h1,e1⟩:=aeJ.mp a
 obtain⟨h2,e2⟩:=aeJ.mp b
 exact (List.getElem_inj hN).mp (e1.trans e2.symm)
theorem qo {M:Model}{A:Around}{E:Value->Shared->Prop}{i:Nat}{x:Str}{v:V}{u:Value}{Q:Unit->Shared->Prop}(I:Inv X pins σ H s)(hN:X.N.Nodup)(hi:X.N[i]? = some x)(hx:Loc X.env.scope x)(r:RelV v u)
 (h:∀ s',Inv X pins (σ.set i (some v)) H s'->(∃ a,Heap.SameBut a s.heap s'.heap/\(a=X.env.locals\/X.env.cells.lookup x=some a))->Q () s')(hf:X.fn x=true\/X.env.scope.names.lookup x=some .local:=by first | exact .inl rfl | exact .inr rfl | assumption):wpAny M A (storeName X.env x u) Q E s:=by
 obtain⟨m,hn,hl⟩:=id I.loc
 have hcls:(X.env.scope.kind == .class || (X.env.scope.kind == .module && X.env.locals != X.env.globals))=false:=by rw [I.ok.kind];rfl
 have hiσ:i < σ.length:=by rw [I.len];exact (aeJ.mp hi).1
 have cne:=I.cne
 have tracked:∀ {a:Addr} {h':Heap},(∃ o,s.heap.get? a=some o/\H a=none)->Heap.SameBut a s.heap h'->HOk X.prog X.w H h':=fun {a h'} ha hs b ob e=>by
  obtain⟨_,_,hfree⟩:=ha
  refine (I.hok b ob e).stay (fun c w' hc q=>(hs.2 c ?_).trans q) (fun _ q=>q) fun _ _ q=>q
  rintro rfl
  rcases hc with rfl | hc
  ·rw [hfree] at e;cases e
  ·rw [hfree] at hc;cases hc
 rcases hx with hk | hk
 ·refine wpAny_storeName_local hk hn (fun h' hn' hs=>?_) hcls
  obtain⟨oL,_,_,hoL,_⟩:=id hn
  refine h _ ⟨I.ok,I.os,I.bare,⟨fun b o e n hb hx=>?_,fun b o e n hb hx=>?_,I.base.free,fun b o e hx=>?_,I.base.tups,I.base.frzs,I.base.tbls⟩,⟨_,hn',fun j y v' e1 e2 e3=>?_⟩,fun y c e=>?_,I.free,I.freeC,fun p hp=>?_,tracked ⟨oL,hoL,I.free⟩ hs,by simpa using I.len⟩ ⟨_,hs,.inl rfl⟩
  ·exact (hs.2 b (ae4 (ae1 (aeR e) I.ok.above))).trans (I.base.keep b o e n hb hx)
  ·obtain⟨sl,e1⟩:=I.base.slot b o e n hb hx
   exact⟨sl,(hs.2 b (ae4 (ae1 (aeR e) I.ok.above))).trans e1⟩
  ·obtain⟨o',e1⟩:=I.base.there b o e hx
   exact⟨o',(hs.2 b (ae4 (ae1 (aeR e) I.ok.above))).trans e1⟩
  ·by_cases hj:j=i
   ·subst hj
    rw [hi] at e1;cases e1
    rw [agP hiσ] at e2
    cases e2
    exact⟨u,r,.inl ⟨hk,by simp⟩⟩
   ·rw [aiu (agz hj)] at e2
    obtain⟨u',r',q⟩:=hl j y v' e1 e2 e3
    refine⟨u',r',?_⟩
    rcases q with ⟨k,e⟩ | ⟨k,c,e,z⟩
    ·refine .inl ⟨k,?_⟩
     have:y≠x:=fun e=>hj (uG hN e1 (e▸hi))
     simp [this,e]
    ·exact .inr ⟨k,c,e,z.sameBut hs (cne y c e)⟩
  ·obtain⟨w',z⟩:=I.cell y c e
   exact⟨w',z.sameBut hs (cne y c e)⟩
  ·obtain⟨e,n,ne,nf,d⟩:=I.pin p hp
   exact⟨(hs.2 p.1 ne).trans e,n,ne,nf,d⟩
 ·have hfn:X.fn x=true:=by
   rcases hf with z | z
   ·exact z
   ·rw [z] at hk;cases hk
  obtain⟨c,hc⟩:=I.ok.has x (.inl hk)
  obtain⟨w',z⟩:=I.cell x c hc
  refine wpAny_storeName_cell I.ok.kind hk hc z (fun h' hc' hs=>?_)
  obtain⟨oc,hoc,hocd⟩:=id z
  refine h { s with heap:=h' } ⟨I.ok,I.os,I.bare,⟨fun b o e n hb hx=>?_,fun b o e n hb hx=>?_,I.base.free,fun b o e hx=>?_,I.base.tups,I.base.frzs,I.base.tbls⟩,⟨m,hn.sameBut hs (agz (cne x c hc)),fun j y v' e1 e2 e3=>?_⟩,fun y c' e=>?_,I.free,I.freeC,fun p hp=>?_,tracked ⟨oc,hoc,I.freeC x c hc⟩ hs,by simpa using I.len⟩ ⟨c,hs,.inr hc⟩
  ·exact (hs.2 b (ae4 (ae1 (aeR e) (I.ok.cab x c hfn hc)))).trans (I.base.keep b o e n hb hx)
  ·obtain⟨sl,e1⟩:=I.base.slot b o e n hb hx
   exact⟨sl,(hs.2 b (ae4 (ae1 (aeR e) (I.ok.cab x c hfn hc)))).trans e1⟩
  ·obtain⟨o',e1⟩:=I.base.there b o e hx
   exact⟨o',(hs.2 b (ae4 (ae1 (aeR e) (I.ok.cab x c hfn hc)))).trans e1⟩
  ·by_cases hj:j=i
   ·subst hj
    rw [hi] at e1;cases e1
    rw [agP hiσ] at e2
    cases e2
    exact⟨u,r,.inr ⟨.inl hk,c,hc,hc'⟩⟩
   ·rw [aiu (agz hj)] at e2
    obtain⟨u',r',q⟩:=hl j y v' e1 e2 e3
    refine⟨u',r',?_⟩
    rcases q with q | ⟨k,c',e,z'⟩
    ·exact .inl q
    ·refine .inr ⟨k,c',e,z'.sameBut hs ?_⟩
     rintro rfl
     exact hj (uG hN e1 (I.ok.inj _ _ _ e hc▸hi))
  ·by_cases hcc:c'=c
   ·subst hcc;exact⟨_,hc'⟩
   ·obtain⟨w2,z2⟩:=I.cell y c' e
    exact⟨w2,z2.sameBut hs hcc⟩
  ·obtain⟨e,n,ne,nf,d⟩:=I.pin p hp
   refine⟨(hs.2 p.1 ?_).trans e,n,ne,nf,d⟩
   intro q
   rw [q,hoc] at e
   have q':oc=p.2:=afG e
   exact d w' (by rw [← q'];exact hocd)
theorem o4 {M:Model}{A:Around}{E:Value->Shared->Prop}{i:Nat}{x:Str}{v:V}{u:Value}{Q:Unit->Shared->Prop}(I:Inv X pins σ H s)(hN:X.N.Nodup)(hi:X.N[i]? = some x)(hx:Loc X.env.scope x)(r:RelV v u)
 (h:∀ s',Inv X pins (σ.set i (some v)) H s'->Q () s')(hf:X.fn x=true\/X.env.scope.names.lookup x=some .local:=by first | exact .inl rfl | exact .inr rfl | assumption):wpAny M A (storeName X.env x u) Q E s :=
 qo I hN hi hx r (fun s' I' _=>h s' I') hf
theorem Inv.call' {s':Shared}{ch:List Addr}(I:Inv X pins σ H s)(ho:s'.os=s.os)(u:Un (frs X.stack) ch H H' s.heap s'.heap)(hok:HOk X.prog X.w H' s'.heap)(hg:AllBare s'.gens)
 (hch:∀ b∈ch,(b∈X.ex\/X.s₀.heap.objs.size<=b)/\b≠X.env.locals/\(∀ x c,X.env.cells.lookup x=some c->c≠b)/\∀ p∈X.pn++pins,p.1≠b):Inv X pins σ H' s':=by
 obtain⟨h',g',d',t',o'⟩:=s'
 have e:o'=s.os:=ho
 subst e
 exact I.call (g':=g') (t':=t') (d':=d') u hok hg hch
end
abbrev XK:=Value->Option Addr->Hp->Prop
abbrev St:=List (Option V)
abbrev VK:=V->Hp->Prop
abbrev TE:=St->Hp->VK->Prop
abbrev TT:=St->Hp->(Bool->Hp->Prop)->Prop
abbrev TA:=St->Hp->(List V->Hp->Prop)->Prop
structure aam where
 nx:St->Hp->Prop
 rt:VK
 bk:St->Hp->Prop:=fun _ _=>False
 ct:St->Hp->Prop:=fun _ _=>False
abbrev TS:=aam->St->Hp->Prop
def EP (X:Cx)(pins:List (Addr×Obj))(σ:St)(Q:VK)(u:Value)(s':Shared):Prop:=∃ v H',Inv X pins σ H' s'/\RelV v u/\Q v H'
def TP (X:Cx)(pins:List (Addr×Obj))(σ:St)(Q:Bool->Hp->Prop)(b:Bool)(s':Shared):Prop:=∃ H',Inv X pins σ H' s'/\Q b H'
def AP (X:Cx)(pins:List (Addr×Obj))(σ:St)(Q:List V->Hp->Prop)(us:List Value)(s':Shared):Prop:=∃ vs H',Inv X pins σ H' s'/\Vals vs us/\Q vs H'
def SP (X:Cx)(pins:List (Addr×Obj))(D:aam)(f:Flow)(s':Shared):Prop :=
 match f with
 | .next=>∃ σ' H',Inv X pins σ' H' s'/\D.nx σ' H'
 | .brk=>∃ σ' H',Inv X pins σ' H' s'/\D.bk σ' H'
 | .cont=>∃ σ' H',Inv X pins σ' H' s'/\D.ct σ' H'
 | .ret u=>∃ v σ' H',Inv X pins σ' H' s'/\RelV v u/\D.rt v H'
def PE (X:Cx)(e:Expr)(t:TE):Prop :=
 ∀ (pins:List (Addr×Obj)) (s:Shared) (σ:St) (H:Hp) (Q:VK),Inv X pins σ H s->t σ H Q->wpAny (model X.prog X.w) X.A (eval e X.env) (EP X pins σ Q) X.xe s
def PT (X:Cx)(e:Expr)(t:TT):Prop :=
 ∀ (pins:List (Addr×Obj)) (s:Shared) (σ:St) (H:Hp) (Q:Bool->Hp->Prop),Inv X pins σ H s->t σ H Q->wpAny (model X.prog X.w) X.A (isTrue e X.env (eval e X.env)) (TP X pins σ Q) X.xe s
def PW (X:Cx)(e:Expr)(t:TT):Prop :=
 ∀ (whole:Sem Value) (pins:List (Addr×Obj)) (s:Shared) (σ:St) (H:Hp) (Q:Bool->Hp->Prop),Inv X pins σ H s->t σ H Q->wpAny (model X.prog X.w) X.A (isTrue e X.env whole) (TP X pins σ Q) X.xe s
theorem PW.pt {X:Cx}{e:Expr}{t:TT}(h:PW X e t):PT X e t:=h _
def PA (X:Cx)(es:List Expr)(t:TA):Prop :=
 ∀ (pos:Pos) (pins:List (Addr×Obj)) (s:Shared) (σ:St) (H:Hp) (Q:List V->Hp->Prop),Inv X pins σ H s->t σ H Q->wpAny (model X.prog X.w) X.A (spliced (backTo pos (starEach es X.env))) (AP X pins σ Q) X.xe s
def PS (X:Cx)(st:Stmt)(t:TS):Prop :=
 ∀ (pins:List (Addr×Obj)) (s:Shared) (σ:St) (H:Hp) (D:aam),Inv X pins σ H s->t D σ H->wpAny (model X.prog X.w) X.A (exec st X.env) (SP X pins D) X.xe s
def PSs (X:Cx)(st:List Stmt)(t:TS):Prop :=
 ∀ (pins:List (Addr×Obj)) (s:Shared) (σ:St) (H:Hp) (D:aam),Inv X pins σ H s->t D σ H->wpAny (model X.prog X.w) X.A (execs st X.env) (SP X pins D) X.xe s
theorem thn {α:Type}{t:Sem α}{Q Q':α->Shared->Prop}{M:Model}{A:Around}{E:Value->Shared->Prop}{s:Shared}(h:wpAny M A t Q E s)(hQ:∀ a s,Q a s->Q' a s):wpAny M A t Q' E s:=afu h hQ fun _ _ x=>x
section
variable {X:Cx}
theorem bin {a b:Expr}{ta tb:TE}(ha:PE X a ta)(hb:PE X b tb){pins:List (Addr×Obj)}{s:Shared}{σ:St}{H:Hp}{R:V->V->Hp->Prop}(I:Inv X pins σ H s)(h:ta σ H fun x H1=>tb σ H1 fun y H2=>R x y H2)
 {α:Type}{Q:α->Shared->Prop}{f:Value->Value->Sem α}
 (hf:∀ v u s2 x y H2,Inv X pins σ H2 s2->RelV x v->RelV y u->R x y H2->wpAny (model X.prog X.w) X.A (f v u) Q X.xe s2) :
 wpAny (model X.prog X.w) X.A (eval a X.env) (fun v s₁=>wpAny (model X.prog X.w) X.A (eval b X.env) (fun u s₂=>wpAny (model X.prog X.w) X.A (f v u) Q X.xe s₂) X.xe s₁) X.xe s:=by
 refine thn (ha pins s σ H _ I h) fun v s1 ⟨x,H1,I1,r1,q1⟩=>?_
 refine thn (hb pins s1 σ H1 _ I1 q1) fun u s2 ⟨y,H2,I2,r2,q2⟩=>?_
 exact hf v u s2 x y H2 I2 r1 r2 q2
def wx (i:Nat):TE:=fun σ H Q=>∃ v,σ[i]? = some (some v)/\Q v H
def tC (v:V):TE:=fun _ H Q=>Q v H
theorem aci {i:Nat}{x:Str}{pos:Pos}(hN:X.N[i]? = some x)(hv:Vis X.env.scope x)(hd:(x == ("__debug__" : Str))=false:=by decide)(hcd:(x == ("__classdict__" : Str))=false:=by decide):PE X (.Name x pos) (wx i):=by
 intro pins s σ H Q I h
 obtain⟨v,e,h⟩:=h
 obtain⟨m,hn,hl⟩:=I.loc
 obtain⟨u,r,l⟩:=hl i x v hN e hv
 have fin:EP X pins σ Q u s:=⟨v,H,I,r,h⟩
 rcases l with ⟨hk,hm⟩ | ⟨hk,c,hc,hcell⟩
 ·exact wpAny_Name (wpAny_loadName_local I.ok.kind hk hn hm fin) hd
 ·rcases hk with hk | hk
  ·exact wpAny_Name (wpAny_loadName_cell I.ok.kind hk hc hcell fin) hd
  ·exact wpAny_Name (wpAny_loadName_free I.ok.kind hk hc hcell fin hcd) hd
theorem av {i j pos}:PE X (.Constant (.int i) j pos) (tC (.int i)):=fun _ _ _ H _ I h=>wpAny_Constant_int ⟨.int i,H,I.tok _,⟨_,rfl⟩,h⟩
theorem iJ {b j pos}:PE X (.Constant (.bool b) j pos) (tC (.bl b)):=fun _ _ _ H _ I h=>Constant_bool ⟨.bl b,H,I,rfl,h⟩
theorem aaB {j pos}:PE X (.Constant .none j pos) (tC .non):=fun _ _ _ H _ I h=>Constant_none ⟨.non,H,I,rfl,h⟩
theorem cP {x j pos}:PE X (.Constant (.str x) j pos) (tC (.str x)):=fun _ _ _ H _ I h=>Calls.Constant_str ⟨.str x,H,I.tok _,⟨_,rfl⟩,h⟩
def Gl (X:Cx)(x:Str):Prop:=X.env.kindOf x=some .globalImplicit
theorem xA {E:Value->Shared->Prop}{pins:List (Addr×Obj)}{s:Shared}{σ:St}{H:Hp}{x:Str}{u:Value}{pos:Pos}{Q:Value->Shared->Prop}(I:Inv X pins σ H s)(hg:Gl X x)(hm:X.mg x=some u)(h:Q u s)
 (hd:(x == ("__debug__" : Str))=false:=by decide):wpAny (model X.prog X.w) X.A (eval (.Name x pos) X.env) Q E s :=
 Calls.Name_function_global I.ok.kind hg (Calls.loadGlobal_global (by rw [I.ok.glob];exact I.mod.glob.keeps I.bk) hm h) hd
theorem iR {E:Value->Shared->Prop}{pins:List (Addr×Obj)}{s:Shared}{σ:St}{H:Hp}{x:Str}{u:Value}{pos:Pos}{Q:Value->Shared->Prop}(I:Inv X pins σ H s)(hg:Gl X x)(hm:X.mg x=none)(hv:bootBuiltins x=some u)(h:Q u s)
 (hn:x ≠ "__name__" := by decide)(hd:(x == ("__debug__" : Str))=false:=by decide):wpAny (model X.prog X.w) X.A (eval (.Name x pos) X.env) Q E s:=by
 obtain⟨mb,h1,h2⟩:=I.mod.blt
 exact Calls.Name_function_global I.ok.kind hg (Calls.loadGlobal_builtin (by rw [I.ok.glob];exact I.mod.glob.keeps I.bk) hm (by rw [I.ok.blt];exact h1.keeps I.bk) ((h2 x hn).trans hv) h) hd
theorem tZ {x:Str}{v:V}{u:Value}{pos:Pos}(hg:Gl X x)(hm:X.mg x=some u)(r:RelV v u)(hd:(x == ("__debug__" : Str))=false:=by decide):PE X (.Name x pos) (tC v) :=
 fun _ _ _ H _ I h=>xA I hg hm ⟨v,H,I,r,h⟩ hd
theorem fV {x:Str}{v:V}{u:Value}{pos:Pos}(hg:Gl X x)(hm:X.mg x=none)(hv:bootBuiltins x=some u)(r:RelV v u)(hn:x ≠ "__name__" := by decide)(hd:(x == ("__debug__" : Str))=false:=by decide):PE X (.Name x pos) (tC v) :=
 fun _ _ _ H _ I h=>iR I hg hm hv ⟨v,H,I,r,h⟩ hn hd
variable {a b:Expr}{ta tb:TE}{pos:Pos}
def PC (X:Cx)(op:CmpOp)(a b:Expr)(t:TE):Prop :=
 ∀ (pins:List (Addr×Obj)) (s:Shared) (σ:St) (H:Hp) (Q:VK),Inv X pins σ H s->t σ H Q →
  wpAny (model X.prog X.w) X.A (eval a X.env) (fun v s₁=>wpAny (model X.prog X.w) X.A (eval b X.env) (fun u s₂=>wpAny (model X.prog X.w) X.A (compareOp op v u) (EP X pins σ Q) X.xe s₂) X.xe s₁) X.xe s
def tB (t:TE):TT:=fun σ H Q=>t σ H fun x H1=>∃ c,x=.bl c/\Q c H1
theorem acE {op:CmpOp}{t:TE}(h:PC X op a b t)(h1:behindInMarks op b=false:=by first | exact nobehind _ (by decide) (by decide) | rfl):PT X (.Compare a [op] [b] pos) (tB t):=by
 intro pins s σ H Q I hw
 refine wpAny_isTrue_Compare1 (thn (h pins s σ H _ I hw) fun v s1 h1=>thn h1 fun u s2 h2=>thn h2 fun c s3 ⟨x,H1,I1,r1,q1⟩=>?_) h1
 obtain⟨d,rfl,q⟩:=q1
 cases r1
 exact afL ⟨H1,I1,q⟩
theorem d6 {e:Expr}{t:TE}(h:PE X e t)(he:∀ whole,isTrue e X.env whole=(do let v ← whole;standAt e.pos;holding [v] (truthy v)):=by intro _;rfl):PT X e (tB t):=by
 intro pins s σ H Q I hw
 refine isTrue_plain (thn (h pins s σ H _ I hw) fun v s1 ⟨x,H1,I1,r1,q1⟩=>?_) (he _)
 obtain⟨d,rfl,q⟩:=q1
 cases r1
 exact afL ⟨H1,I1,q⟩
variable {tA tB':TT}{rest:List Expr}
def aej (t u:TT):TT:=fun σ H Q=>t σ H fun c H1=>if c=true then u σ H1 Q else Q false H1
def tOr (t u:TT):TT:=fun σ H Q=>t σ H fun c H1=>if c=true then Q true H1 else u σ H1 Q
def aet (t:TT):TT:=fun σ H Q=>t σ H fun c H1=>Q (!c) H1
theorem jR (ha:PT X a tA):PW X (.BoolOp .And [a] pos) tA:=by
 intro wh pins s σ H Q I h
 refine isTrue_and (thn (ha pins s σ H Q I h) fun c s1 e=>?_)
 cases c with
 | true=>exact isTrue_and_nil e
 | false=>exact e
theorem oh (ha:PT X a tA):PW X (.BoolOp .Or [a] pos) tA:=by
 intro wh pins s σ H Q I h
 refine isTrue_or (thn (ha pins s σ H Q I h) fun c s1 e=>?_)
 cases c with
 | false=>exact isTrue_or_nil e
 | true=>exact e
theorem oJ (ha:PT X a tA)(hb:PW X (.BoolOp .And (b::rest) pos) tB'):PW X (.BoolOp .And (a::b::rest) pos) (aej tA tB'):=by
 intro wh pins s σ H Q I h
 refine isTrue_and (thn (ha pins s σ H _ I h) fun c s1 ⟨H1,I1,q1⟩=>?_)
 cases c with
 | true=>exact hb wh pins s1 σ H1 Q I1 q1
 | false=>exact⟨H1,I1,q1⟩
theorem qF (ha:PT X a tA)(hb:PW X (.BoolOp .Or (b::rest) pos) tB'):PW X (.BoolOp .Or (a::b::rest) pos) (tOr tA tB'):=by
 intro wh pins s σ H Q I h
 refine isTrue_or (thn (ha pins s σ H _ I h) fun c s1 ⟨H1,I1,q1⟩=>?_)
 cases c with
 | true=>exact⟨H1,I1,q1⟩
 | false=>exact hb wh pins s1 σ H1 Q I1 q1
theorem eF (ha:PT X a tA):PT X (.UnaryOp .Not a pos) (aet tA):=by
 intro pins s σ H Q I h
 exact isTrue_not (ha pins s σ H (fun c H1=>Q (!c) H1) I h)
def adX (ta tb:TE):TE:=fun σ H Q=>ta σ H fun x H1=>∃ c,x=.bl c/\if c=true then tb σ H1 Q else Q (.bl false) H1
def aeq (ta tb:TE):TE:=fun σ H Q=>ta σ H fun x H1=>∃ c,x=.bl c/\if c=true then Q (.bl true) H1 else tb σ H1 Q
def adG (ta:TE):TE:=fun σ H Q=>ta σ H fun x H1=>∃ c,x=.bl c/\Q (.bl (!c)) H1
theorem jE {op}{t:TE}(h:PE X a t):PE X (.BoolOp op [a] pos) t:=fun pins s σ H Q I hw=>BoolOp_one (h pins s σ H Q I hw)
theorem gR (ha:PE X a ta)(hb:PE X (.BoolOp .And (b::rest) pos) tb):PE X (.BoolOp .And (a::b::rest) pos) (adX ta tb):=by
 intro pins s σ H Q I h
 refine BoolOp_and (thn (ha pins s σ H _ I h) fun v s1 ⟨x,H1,I1,r1,q1⟩=>?_)
 obtain⟨c,rfl,q1⟩:=q1
 cases r1
 refine afL ?_
 cases c with
 | true=>exact hb pins s1 σ H1 Q I1 q1
 | false=>exact⟨.bl false,H1,I1,rfl,q1⟩
theorem ado (ha:PE X a ta)(hb:PE X (.BoolOp .Or (b::rest) pos) tb):PE X (.BoolOp .Or (a::b::rest) pos) (aeq ta tb):=by
 intro pins s σ H Q I h
 refine BoolOp_or (thn (ha pins s σ H _ I h) fun v s1 ⟨x,H1,I1,r1,q1⟩=>?_)
 obtain⟨c,rfl,q1⟩:=q1
 cases r1
 refine afL ?_
 cases c with
 | false=>exact hb pins s1 σ H1 Q I1 q1
 | true=>exact⟨.bl true,H1,I1,rfl,q1⟩
theorem aay (ha:PE X a ta):PE X (.UnaryOp .Not a pos) (adG ta):=by
 intro pins s σ H Q I h
 refine UnaryOp_ (thn (ha pins s σ H _ I h) fun v s1 ⟨x,H1,I1,r1,q1⟩=>?_)
 obtain⟨c,rfl,q1⟩:=q1
 cases r1
 exact not_of (afL ⟨.bl (!c),H1,I1,rfl,q1⟩)
end
def SqL (K:PySem.W.Frag)(H:Hp)(a:Addr)(xs:List V):Prop :=
 Rd H a (.lst xs) ∨
  ∃ (o:Obj) (its:Array Value) (n:Nat),K.lookup a=some o/\o.cls=.type "list" ∧ o.dict=none/\o.data=.seq its n/\its.size<=sizeLine/\Vals xs its.toList
def SqT (K:PySem.W.Frag)(H:Hp)(a:Addr)(xs:List V):Prop :=
 Rd H a (.tup xs) ∨
  ∃ (o:Obj) (its:Array Value) (n:Nat),K.lookup a=some o/\o.cls=.type "tuple" ∧ o.data=.seq its n/\its.size<=sizeLine/\Vals xs its.toList
def aei:Value->Option V
 | .none=>some .non
 | .bool b=>some (.bl b)
 | .int i _=>some (.int i)
 | .str x _=>some (.str x)
 | .bytes b _=>some (.byt b)
 | .float b _=>some (.flt b)
 | .ref a=>some (.ref a)
 | .type n=>some (.ty n)
 | _=>none
theorem RelV.abs {x:V}{u:Value}(r:RelV x u):aei u=some x:=by
 cases x with
 | non=>cases r;rfl
 | bl _=>cases r;rfl
 | int _=>obtain⟨t,rfl⟩:=r;rfl
 | str _=>obtain⟨t,rfl⟩:=r;rfl
 | byt _=>obtain⟨t,rfl⟩:=r;rfl
 | flt _=>obtain⟨t,rfl⟩:=r;rfl
 | ref _=>cases r;rfl
 | ty _=>cases r;rfl
theorem RelV.inj {x y:V}{u:Value}(r:RelV x u)(q:RelV y u):x=y:=afG (r.abs.symm.trans q.abs)
theorem Vals.inj:∀ {xs ys:List V} {us:List Value},Vals xs us->Vals ys us->xs=ys
 | _,_,_,.nil,.nil=>rfl
 | _,_,_,.cons r t,.cons r' t'=>by rw [r.inj r',Vals.inj t t']
section
variable {X:Cx}{pins:List (Addr×Obj)}{σ:St}{H:Hp}{s:Shared}{a:Addr}{xs ys:List V}
theorem SqL.of {K:PySem.W.Frag}(h:H a=some (.lst xs)):SqL K H a xs:=.inl (.inl h)
theorem SqT.of {K:PySem.W.Frag}(h:H a=some (.tup xs)):SqT K H a xs:=.inl (.inl h)
theorem Inv.list (I:Inv X pins σ H s)(h:SqL X.K H a xs):∃ its:List Value,Vals xs its/\PlainL s.heap a its.toArray/\xs.length<=sizeLine:=by
 rcases h with h | ⟨o,its,n,hk,hc,hd,hs,hz,r⟩
 ·obtain⟨z,its,n,r,e⟩:=h.ok I.hok
  exact⟨its,r,⟨_,n,e,rfl,rfl,rfl⟩,z⟩
 ·refine⟨its.toList,r,⟨o,n,I.kIn a o hk,hc,hd,by simpa using hs⟩,?_⟩
  have e:=r.length
  simp only [aeT] at e
  omega
theorem Inv.tuple (I:Inv X pins σ H s)(h:SqT X.K H a xs):∃ its:List Value,Vals xs its/\IsTup s.heap a its.toArray/\xs.length<=sizeLine:=by
 rcases h with h | ⟨o,its,n,hk,hc,hs,hz,r⟩
 ·obtain⟨z,its,r,p⟩:=h.ok I.hok
  exact⟨its,r,p,z⟩
 ·refine⟨its.toList,r,⟨o,I.kIn a o hk,hc,n,by simpa using hs⟩,?_⟩
  have e:=r.length
  simp only [aeT] at e
  omega
theorem Inv.list_inj (I:Inv X pins σ H s)(h:SqL X.K H a xs)(h':SqL X.K H a ys):xs=ys:=by
 obtain⟨its,r,⟨o,n,e,_,_,d⟩,_⟩:=I.list h
 obtain⟨its',r',⟨o',n',e',_,_,d'⟩,_⟩:=I.list h'
 rw [e] at e';cases e'
 rw [d] at d'
 injection d' with d1 _
 have:its=its':=by simpa using aft Array.toList d1
 subst this
 exact r.inj r'
theorem Inv.tuple_inj (I:Inv X pins σ H s)(h:SqT X.K H a xs)(h':SqT X.K H a ys):xs=ys:=by
 obtain⟨its,r,⟨o,e,_,n,d⟩,_⟩:=I.tuple h
 obtain⟨its',r',⟨o',e',_,n',d'⟩,_⟩:=I.tuple h'
 rw [e] at e';cases e'
 rw [d] at d'
 injection d' with d1 _
 have:its=its':=by simpa using aft Array.toList d1
 subst this
 exact r.inj r'
end
abbrev Cx.wish (X:Cx)(E:Value->Shared->Prop):Cx:={ X with xe:=E }
abbrev Cx.nox (X:Cx):Cx:=X.wish fun _ _=>False
theorem Cx.Ok.wish {X:Cx}(ok:X.Ok)(E:Value->Shared->Prop):(X.wish E).Ok :=
 ⟨ok.mod,ok.kind,ok.glob,ok.blt,ok.above,ok.inj,ok.has,ok.cab,ok.hd,ok.frames,ok.stk,ok.exf,ok.bs,ok.bsz,ok.noex,ok.exfs,ok.funs,ok.frf⟩
theorem Cx.Ok.unwish {X:Cx}{E:Value->Shared->Prop}(ok:(X.wish E).Ok):X.Ok :=
 ⟨ok.mod,ok.kind,ok.glob,ok.blt,ok.above,ok.inj,ok.has,ok.cab,ok.hd,ok.frames,ok.stk,ok.exf,ok.bs,ok.bsz,ok.noex,ok.exfs,ok.funs,ok.frf⟩
section
variable {X:Cx}{pins:List (Addr×Obj)}{σ:St}{H:Hp}{s:Shared}{E:Value->Shared->Prop}
theorem Inv.wish (I:Inv X pins σ H s)(E:Value->Shared->Prop):Inv (X.wish E) pins σ H s:=⟨I.ok.wish E,I.os,I.bare,I.base,I.loc,I.cell,I.free,I.freeC,I.pin,I.hok,I.len⟩
theorem Inv.unwish (I:Inv (X.wish E) pins σ H s):Inv X pins σ H s:=⟨I.ok.unwish,I.os,I.bare,I.base,I.loc,I.cell,I.free,I.freeC,I.pin,I.hok,I.len⟩
theorem SP.unwish {D:aam}{f:Flow}{s':Shared}(h:SP (X.wish E) pins D f s'):SP X pins D f s':=by
 cases f with
 | next=>obtain⟨σ',H',I,q⟩:=h;exact⟨σ',H',I.unwish,q⟩
 | brk=>obtain⟨σ',H',I,q⟩:=h;exact⟨σ',H',I.unwish,q⟩
 | cont=>obtain⟨σ',H',I,q⟩:=h;exact⟨σ',H',I.unwish,q⟩
 | ret u=>obtain⟨v,σ',H',I,r,q⟩:=h;exact⟨v,σ',H',I.unwish,r,q⟩
theorem PSs.nox {st:List Stmt}{t:TS}(h:PSs X.nox st t):PSs X st t:=fun pins s σ H D I hw =>
 afu (h pins s σ H D (I.wish _) hw) (fun _ _ q=>q.unwish) fun _ _ z=>False.elim z
end
section
variable {X:Cx}{st:Stmt}{rest:List Stmt}{t u:TS}{e:Expr}{te:TE}{pos:Pos}
def uc:TS:=fun D σ H=>D.nx σ H
def aaJ (t u:TS):TS:=fun D σ H=>t { D with nx:=u D } σ H
theorem aU:PSs X [] uc:=fun _ _ σ H _ I h=>aiI ⟨σ,H,I,h⟩
theorem ak (h1:PS X st t)(h2:PSs X rest u):PSs X (st::rest) (aaJ t u):=by
 intro pins s σ H D I h
 refine wpAny_execs_cons (thn (h1 pins s σ H { D with nx:=u D } I h) fun f s1 q=>?_)
 cases f with
 | next =>
  obtain⟨σ',H',I',q⟩:=q
  exact h2 pins s1 σ' H' D I' q
 | ret v=>exact q
 | brk=>exact q
 | cont=>exact q
theorem au (h1:PS X st t):PSs X [st] t:=by
 intro pins s σ H D I h
 refine wpAny_execs_cons (thn (h1 pins s σ H D I h) fun f s1 q=>?_)
 cases f with
 | next=>exact aiI q
 | ret v=>exact q
 | brk=>exact q
 | cont=>exact q
def adU:TS:=fun D σ H=>D.ct σ H
theorem sP:PS X (.Continue pos) adU:=fun _ _ σ H _ I h=>wpAny_Continue ⟨σ,H,I,h⟩
theorem Inv.quiet {pins:List (Addr×Obj)}{σ:St}{H:Hp}{s:Shared}(I:Inv X pins σ H s):interactive X.env=false:=by simp [interactive,I.ok.kind]
def adM (te:TE):TS:=fun D σ H=>te σ H fun _ H1=>D.nx σ H1
theorem bC (he:PE X e te)(hs:swapsWith e none pos.line X.env=pure false:=by rfl):PS X (.Expr e pos) (adM te):=by
 intro pins s σ H D I h
 exact wpAny_Expr_any (thn (he pins s σ H _ I h) fun v s1 ⟨x,H1,I1,r1,q1⟩=>⟨σ,H1,I1,q1⟩) I.quiet hs
def wy (te:TE):TS:=fun D σ H=>te σ H D.rt
theorem aN (he:PE X e te):PS X (.Return (some e) pos) (wy te):=by
 intro pins s σ H D I h
 exact wpAny_Return_some (thn (he pins s σ H _ I h) fun v s1 ⟨x,H1,I1,r1,q1⟩=>⟨x,σ,H1,I1,r1,q1⟩)
def ad0 (c:TT)(t u:TS):TS:=fun D σ H=>c σ H fun b H1=>if b=true then t D σ H1 else u D σ H1
theorem cU {c:Expr}{a b:List Stmt}{tc:TT}(hc:PT X c tc)(ha:PSs X a t)(hb:PSs X b u):PS X (.If c a b pos) (ad0 tc t u):=by
 intro pins s σ H D I h
 refine wpAny_If (thn (hc pins s σ H _ I h) fun d s1 ⟨H1,I1,q1⟩=>?_)
 cases d with
 | true=>exact ha pins s1 σ H1 D I1 q1
 | false=>exact hb pins s1 σ H1 D I1 q1
def adb:TS:=fun _ _ _=>False
theorem jw {sts:List Stmt}:PSs X sts adb:=fun _ _ _ _ _ _ h=>h.elim
end
abbrev TG:=V->St->Hp->(St->Hp->Prop)->Prop
abbrev TGs:=List V->St->Hp->(St->Hp->Prop)->Prop
def PG (X:Cx)(target:Expr)(t:TG):Prop :=
 ∀ (pins:List (Addr×Obj)) (s:Shared) (σ:St) (H:Hp) (v:V) (u:Value) (Q:St->Hp->Prop),Inv X pins σ H s->RelV v u->t v σ H Q →
  wpAny (model X.prog X.w) X.A (assign target X.env u) (fun _ s'=>∃ σ' H',Inv X pins σ' H' s'/\Q σ' H') X.xe s
def PGs (X:Cx)(ts:List Expr)(t:TGs):Prop :=
 ∀ (pins:List (Addr×Obj)) (s:Shared) (σ:St) (H:Hp) (vs:List V) (us:List Value) (Q:St->Hp->Prop),Inv X pins σ H s->Vals vs us->t vs σ H Q →
  wpAny (model X.prog X.w) X.A (assignInOrder ((assignEach ts X.env).map (·.2)) us) (fun _ s'=>∃ σ' H',Inv X pins σ' H' s'/\Q σ' H') X.xe s
abbrev acx:=V->V->V->Hp->(Hp->Prop)->Prop
def adN (X:Cx)(t:acx):Prop :=
 ∀ (pins:List (Addr×Obj)) (s:Shared) (σ:St) (H:Hp) (o i v:V) (ov iv u:Value) (Q:Hp->Prop),Inv X pins σ H s->RelV o ov->RelV i iv->RelV v u->t o i v H Q →
  wpAny (model X.prog X.w) X.A (setItem ov iv u) (fun _ s'=>∃ H',Inv X pins σ H' s'/\Q H') X.xe s
abbrev TIp:=V->V->Hp->VK->Prop
def PIp (X:Cx)(op:Operator)(t:TIp):Prop :=
 ∀ (pins:List (Addr×Obj)) (s:Shared) (σ:St) (H:Hp) (x y:V) (v u:Value) (Q:VK),Inv X pins σ H s->RelV x v->RelV y u->t x y H Q →
  wpAny (model X.prog X.w) X.A (inplaceOp op v u) (EP X pins σ Q) X.xe s
section
variable {X:Cx}{pos:Pos}
def bJ (i:Nat):TG:=fun v σ H Q=>Q (σ.set i (some v)) H
theorem ay {i:Nat}{x:Str}(hN:X.N.Nodup)(hi:X.N[i]? = some x)(hx:Loc X.env.scope x)(hf:X.fn x=true\/X.env.scope.names.lookup x=some .local:=by first | exact .inl rfl | exact .inr rfl | assumption):PG X (.Name x pos) (bJ i):=by
 intro pins s σ H v u Q I r h
 exact wpAny_assign_Name (o4 I hN hi hx r (fun s' I'=>⟨_,H,I',h⟩) hf)
def aaW:TGs:=fun vs σ H Q=>vs=[]/\Q σ H
def kQ (t:TG)(u:TGs):TGs:=fun vs σ H Q=>∃ v r,vs=v::r/\t v σ H fun σ' H'=>u r σ' H' Q
theorem bY:PGs X [] aaW:=by
 intro pins s σ H vs us Q I r h
 obtain⟨e,h⟩:=h
 subst e
 cases r
 exact assignInOrder_nil ⟨σ,H,I,h⟩
theorem aG {e:Expr}{es:List Expr}{t:TG}{u:TGs}(h1:PG X e t)(h2:PGs X es u)
 (hs:(assignEach (e::es) X.env).map (·.2)=assign e X.env::(assignEach es X.env).map (·.2):=by rfl):PGs X (e::es) (kQ t u):=by
 intro pins s σ H vs us Q I r h
 obtain⟨v,vr,e1,h⟩:=h
 subst e1
 cases r with
 | cons r rr =>
  rw [hs]
  refine assignInOrder_cons (thn (h1 pins s σ H _ _ _ I r h) fun _ s1 ⟨σ1,H1,I1,q1⟩=>?_)
  exact h2 pins s1 σ1 H1 _ _ Q I1 rr q1
def y4 (K:PySem.W.Frag)(n:Nat)(t:TGs):TG:=fun v σ H Q=>∃ a xs,v=.ref a/\SqT K H a xs/\xs.length=n/\t xs σ H Q
theorem eG {es:List Expr}{k:Nat}{t:TGs}{n:Nat}(hc:X.calm=true)(h:PGs X es t)
 (hn:(assignEach es X.env).length=n:=by rfl)(hst:(assignEach es X.env).findIdx? (·.1)=none:=by rfl):PG X (.Tuple es k pos) (y4 X.K n t):=by
 intro pins s σ H v u Q I r hw
 obtain⟨a,xs,e1,hq,hl,hw⟩:=hw
 subst e1
 cases r
 obtain⟨its,rv,ht,hz⟩:=I.tuple hq
 refine assign_Tuple_tuple (I.ok.hd hc) ht (by simp [hn,← hl,rv.length]) hst fun h' hx=>?_
 have I1:Inv X pins σ H { s with heap:=h' }:=I.kept (t':=s.toks) fun b o e=>hx b o (ae4 (aeR e)) e
 exact h pins _ σ H xs _ Q I1 (by simpa using rv) hw
def aev (to ti:TE)(t:acx):TG:=fun v σ H Q=>to σ H fun o H1=>ti σ H1 fun i H2=>t o i v H2 fun H3=>Q σ H3
theorem acf {o i:Expr}{to ti:TE}{t:acx}(ho:PE X o to)(hi:PE X i ti)(hs:adN X t)
 (ha:∀ v,assign (.Subscript o i pos) X.env v=(do
  let ov ← holding [v] (eval o X.env)
  let iv ← holding [v,ov] (eval i X.env)
  standAt pos
  holding [v,ov,iv] (setItem ov iv v)
  release [v,ov,iv] []):=by intro _;rfl):PG X (.Subscript o i pos) (aev to ti t):=by
 intro pins s σ H v u Q I r h
 rw [ha]
 refine aeE (afD (thn (ho pins s σ H _ I h) fun ov s1 ⟨x,H1,I1,r1,q1⟩=>?_))
 refine aeE (afD (thn (hi pins s1 σ H1 _ I1 q1) fun iv s2 ⟨y,H2,I2,r2,q2⟩=>?_))
 refine aeE (ago (aeE (afD (thn (hs pins s2 σ H2 x y v ov iv u _ I2 r1 r2 r q2) fun _ s3 ⟨H3,I3,q3⟩=>?_))))
 exact wpAny_release ⟨σ,H3,I3,q3⟩
def wB (te:TE)(g:TG):TS:=fun D σ H=>te σ H fun x H1=>g x σ H1 D.nx
theorem hJ {tg e:Expr}{te:TE}{g:TG}(he:PE X e te)(hg:PG X tg g)(hs:swapsWithSole [tg] e pos.line X.env=pure false:=by rfl)(hw:swappedStores [tg] e X.env=pure none:=by rfl)
 (h1:(assignEach [tg] X.env).map (·.2)=[assign tg X.env]:=by rfl):PS X (.Assign [tg] e pos) (wB te g):=by
 intro pins s σ H D I h
 refine wpAny_Assign_stores (thn (he pins s σ H _ I h) fun v s1 ⟨x,H1,I1,r1,q1⟩=>?_) hs hw
 rw [h1]
 exact thn (hg pins s1 σ H1 x v _ I1 r1 q1) fun _ s2 q=>q
theorem aI {i:Nat}{x:Str}{e:Expr}{te:TE}{pos':Pos}(hN:X.N.Nodup)(hi:X.N[i]? = some x)(hx:Loc X.env.scope x)(he:PE X e te)(hs:swapsWith e (some (.Name x pos')) pos.line X.env=pure false:=by rfl)(hf:X.fn x=true\/X.env.scope.names.lookup x=some .local:=by first | exact .inl rfl | exact .inr rfl | assumption) :
 PS X (.Assign [.Name x pos'] e pos) (wB te (bJ i)):=by
 intro pins s σ H D I h
 refine wpAny_Assign_Name (thn (he pins s σ H _ I h) fun v s1 ⟨y,H1,I1,r1,q1⟩=>?_) hs
 exact o4 I1 hN hi hx r1 (fun s2 I2=>⟨_,H1,I2,q1⟩) hf
def aeo (i:Nat)(te:TE)(ti:TIp):TS:=fun D σ H=>∃ x,σ[i]? = some (some x)/\te σ H fun y H1=>ti x y H1 fun z H2=>D.nx (σ.set i (some z)) H2
theorem acU {i:Nat}{x:Str}{e:Expr}{te:TE}{op:Operator}{ti:TIp}{pos':Pos}(hN:X.N.Nodup)(hi:X.N[i]? = some x)(hx:Loc X.env.scope x)(he:PE X e te)(ho:PIp X op ti)(hf:X.fn x=true\/X.env.scope.names.lookup x=some .local:=by first | exact .inl rfl | exact .inr rfl | assumption) :
 PS X (.AugAssign (.Name x pos') op e pos) (aeo i te ti):=by
 intro pins s σ H D I h
 obtain⟨v,e1,h⟩:=h
 obtain⟨m,hn,hl⟩:=I.loc
 have vis:Vis X.env.scope x:=by rcases hx with k | k;exact .inl k;exact .inr (.inl k)
 obtain⟨u,r,l⟩:=hl i x v hi e1 vis
 refine wpAny_AugAssign_Name ?_
 have go:wpAny (model X.prog X.w) X.A (eval e X.env) (fun w s₂=>wpAny (model X.prog X.w) X.A (inplaceOp op u w) (fun r s₃=>wpAny (model X.prog X.w) X.A (storeName X.env x r) (fun _=>SP X pins D .next) X.xe s₃) X.xe s₂) X.xe s:=by
  refine thn (he pins s σ H _ I h) fun w s1 ⟨y,H1,I1,r1,q1⟩=>?_
  refine thn (ho pins s1 σ H1 v y u w _ I1 r r1 q1) fun z s2 ⟨zv,H2,I2,r2,q2⟩=>?_
  exact o4 I2 hN hi hx r2 (fun s3 I3=>⟨_,H2,I3,q2⟩) hf
 rcases l with ⟨hk,hm⟩ | ⟨hk,c,hc,hcell⟩
 ·exact wpAny_loadName_local I.ok.kind hk hn hm go
 ·rcases hk with hk | hk
  ·exact wpAny_loadName_cell I.ok.kind hk hc hcell go
  ·rcases hx with k | k
   ·have:X.env.scope.names.lookup x=some .free:=hk
    rw [k] at this;cases this
   ·have:X.env.scope.names.lookup x=some .free:=hk
    rw [k] at this;cases this
def adF (to ti te:TE)(tget:V->V->Hp->VK->Prop)(tip:TIp)(tset:acx):TS:=fun D σ H=>to σ H fun o H1=>ti σ H1 fun i H2=>tget o i H2 fun x H3=>te σ H3 fun y H4=>tip x y H4 fun z H5=>tset o i z H5 fun H6=>D.nx σ H6
def adY (X:Cx)(t:V->V->Hp->VK->Prop):Prop :=
 ∀ (pins:List (Addr×Obj)) (s:Shared) (σ:St) (H:Hp) (o i:V) (ov iv:Value) (Q:VK),Inv X pins σ H s->RelV o ov->RelV i iv->t o i H Q →
  wpAny (model X.prog X.w) X.A (getItem ov iv) (EP X pins σ Q) X.xe s
theorem abY {o i e:Expr}{to ti te:TE}{tget:V->V->Hp->VK->Prop}{tip:TIp}{tset:acx}{op:Operator}{tpos:Pos}(ho:PE X o to)(hi:PE X i ti)(hg:adY X tget)(he:PE X e te)(hp:PIp X op tip)(hs:adN X tset)
 (ha:∀ ov iv new,augStore i ov iv new=(do holding [new,ov,iv] (setItem ov iv new);release [new,ov,iv] [];pure .next):=by intros;rfl):PS X (.AugAssign (.Subscript o i tpos) op e pos) (adF to ti te tget tip tset):=by
 intro pins s σ H D I h
 refine wpAny_AugAssign_SubscriptAny (thn (ho pins s σ H _ I h) fun ov s1 ⟨x1,H1,I1,r1,q1⟩=>?_) ha
 refine thn (hi pins s1 σ H1 _ I1 q1) fun iv s2 ⟨x2,H2,I2,r2,q2⟩=>?_
 refine thn (hg pins s2 σ H2 x1 x2 ov iv _ I2 r1 r2 q2) fun old s3 ⟨x3,H3,I3,r3,q3⟩=>?_
 refine thn (he pins s3 σ H3 _ I3 q3) fun v s4 ⟨x4,H4,I4,r4,q4⟩=>?_
 refine thn (hp pins s4 σ H4 x3 x4 old v _ I4 r3 r4 q4) fun new s5 ⟨x5,H5,I5,r5,q5⟩=>?_
 exact thn (hs pins s5 σ H5 x1 x2 x5 ov iv new _ I5 r1 r2 r5 q5) fun _ s6 ⟨H6,I6,q6⟩=>⟨σ,H6,I6,q6⟩
def ipI (f:Int->Int->Int):TIp:=fun x y H Q=>∃ i j,x=.int i/\y=.int j/\Q (.int (f i j)) H
theorem acn:PIp X .Add (ipI fun i j=>i+j):=by
 intro pins s σ H x y v u Q I r1 r2 h
 obtain⟨i,j,e1,e2,q⟩:=h
 subst e1;subst e2
 obtain⟨t,rfl⟩:=r1
 obtain⟨t',rfl⟩:=r2
 exact iadd_int ⟨.int _,H,I.tok _,⟨_,rfl⟩,q⟩
theorem acr:PIp X .Sub (ipI fun i j=>i - j):=by
 intro pins s σ H x y v u Q I r1 r2 h
 obtain⟨i,j,e1,e2,q⟩:=h
 subst e1;subst e2
 obtain⟨t,rfl⟩:=r1
 obtain⟨t',rfl⟩:=r2
 exact isub_int ⟨.int _,H,I.tok _,⟨_,rfl⟩,q⟩
end
section
variable {X:Cx}{pos:Pos}
def acQ (c:TT)(tb:TS):TS:=fun D σ H=>∃ W:Nat->St->Hp->Prop,(∃ m,W m σ H)/\∀ m σ H,W m σ H →
 c σ H fun b H1=>if b=true then ∃ N:St->Hp->Prop,(∀ σ' H',N σ' H'->∃ m',m' < m/\W m' σ' H')/\tb { D with nx:=N,ct:=N,bk:=D.nx } σ H1 else D.nx σ H1
theorem kW {c:Expr}{body:List Stmt}{tc:TT}{tb:TS}(hp:PassesOwn (model X.prog X.w) X.A X.env X.xe)(hc:PT X c tc)(hb:PSs X body tb):PS X (.While c body [] pos) (acQ tc tb):=by
 intro pins s σ H D I h
 obtain⟨W,⟨m0,w0⟩,turn⟩:=h
 refine wpAny_While (codeAny_whileLoop (fun n s'=>∃ σ' H',Inv X pins σ' H' s'/\W n σ' H') ?_ m0 ⟨σ,H,I,w0⟩)
 rintro n s1 ⟨σ1,H1,I1,w1⟩
 refine ag2 hp (thn (hc pins s1 σ1 H1 _ I1 (turn n σ1 H1 w1)) fun b s2 ⟨H2,I2,q2⟩=>?_)
 cases b with
 | true =>
  obtain⟨N,hN,q2⟩:=q2
  rw [if_pos rfl]
  refine ag2 hp (thn (hb pins s2 σ1 H2 _ I2 q2) fun f s3 q3=>?_)
  cases f with
  | next =>
   obtain⟨σ3,H3,I3,n3⟩:=q3
   obtain⟨m',hm,w3⟩:=hN σ3 H3 n3
   exact⟨m',hm,σ3,H3,I3,w3⟩
  | cont =>
   obtain⟨σ3,H3,I3,n3⟩:=q3
   obtain⟨m',hm,w3⟩:=hN σ3 H3 n3
   exact⟨m',hm,σ3,H3,I3,w3⟩
  | brk=>exact q3
  | ret v=>exact q3
 | false =>
  rw [if_neg aeM]
  exact aiI ⟨σ1,H2,I2,q2⟩
end
structure It where
 go:Nat->Hp->Prop
 yld:Nat->Hp->V->Hp->Prop
 stop:Nat->Hp->Prop
def nX (X:Cx)(pins:List (Addr×Obj))(H:Hp)(b:Addr):Prop :=
 H b=none/\b≠X.env.locals/\b ∉ X.fs/\(b∈X.ex\/X.s₀.heap.objs.size<=b)/\(∀ x c,X.env.cells.lookup x=some c->c≠b)/\∀ p∈X.pn++pins,p.1≠b
theorem Inv.fpOk {X:Cx}{pins:List (Addr×Obj)}{σ:St}{H H':Hp}{s:Shared}{b:Addr}(I:Inv X pins σ H s)(hb:s.heap.objs.size<=b)(hn:H' b=none):nX X pins H' b:=by
 refine⟨hn,agV (ae1 I.lt hb),I.nofs hb,.inr (afk I.sz hb),fun x c e z=>?_,fun p hp z=>?_⟩
 ·obtain⟨v,q⟩:=I.cell x c e
  exact absurd (ae1 q.lt (by rw [z];exact hb)) (agx _)
 ·exact absurd (ae1 (aeR (I.pin p hp).1) (by rw [z];exact hb)) (agx _)
structure abP (P:Program)(w:World)(K:PySem.W.Frag)(tg:Expr)(J:It)(fp:List Addr)(it:Addr)(tn:Nat->Heap->Prop):Prop where
 mem:it∈fp
 obj:∀ i h,tn i h->∀ b∈fp,∃ o,h.get? b=some o/\∀ v,o.data≠.cell v
 keep:∀ i h h',tn i h->(∀ b∈fp,∀ o,h.get? b=some o->h'.get? b=some o)->tn i h'
 item:∀ (X:Cx),X.prog=P->X.w=w->X.K=K->X.calm=true->∀ (i:Nat) (pins:List (Addr×Obj)) (s:Shared) (σ:St) (H:Hp) (E:Value->Shared->Prop),Inv X pins σ H s->(∀ b∈fp,nX X pins H b)->tn i s.heap->J.go i H →
  wpAny (model P w) X.A (pyNext (.ref it)) (fun r s1=>∃ u,r=some u ∧
   wpAny (model P w) X.A (letOwnedTupleGo tg (.ref it) u) (fun _ s2=>∃ x H',Inv X pins σ H' s2/\RelV x u/\J.yld i H x H'/\tn (i+1) s2.heap/\∀ b∈fp,H' b=none) E s1) E s
 done:∀ (X:Cx),X.prog=P->X.w=w->X.K=K->X.calm=true->∀ (i:Nat) (pins:List (Addr×Obj)) (s:Shared) (σ:St) (H:Hp) (E:Value->Shared->Prop),Inv X pins σ H s->(∀ b∈fp,nX X pins H b)->tn i s.heap->J.stop i H →
  wpAny (model P w) X.A (pyNext (.ref it)) (fun r s1=>r=none/\Inv X pins σ H s1) E s
 self:∀ (A:Around) (i:Nat) (s:Shared) (Q:Value->Shared->Prop) (E:Value->Shared->Prop),tn i s.heap->Q (.ref it) s->wpAny (model P w) A (pyIter (.ref it)) Q E s
abbrev TI:=St->Hp->(It->Hp->Prop)->Prop
def PIE (X:Cx)(pins:List (Addr×Obj))(σ:St)(tg:Expr)(R:It->Hp->Prop)(itv:Value)(s2:Shared):Prop :=
 ∃ (it:Addr) (fp:List Addr) (tn:Nat->Heap->Prop) (J:It) (H':Hp),itv=.ref it/\Inv X pins σ H' s2/\abP X.prog X.w X.K tg J fp it tn/\tn 0 s2.heap/\(∀ b∈fp,nX X pins H' b)/\R J H'
def PI (X:Cx)(tg iter:Expr)(wi:TI):Prop :=
 ∀ (pins:List (Addr×Obj)) (s:Shared) (σ:St) (H:Hp) (R:It->Hp->Prop),Inv X pins σ H s->wi σ H R →
  wpAny (model X.prog X.w) X.A (eval iter X.env) (fun v s1=>wpAny (model X.prog X.w) X.A (pyIter v) (PIE X pins σ tg R) X.xe s1) X.xe s
theorem aat {M:Model}{A:Around}{E:Value->Shared->Prop}{s:Shared}{tg:Expr}{it:Addr}{u:Value}{o:Obj}{n:String}{vs:Array Value}{Q:Unit->Shared->Prop}(ho:s.heap.get? it=some o)(hc:o.cls=.type n)(hd:o.data=.fields vs)
 (hn:["enumerate","zip","dict_itemiterator","dict_reverseitemiterator","odict_iterator","itertools.zip_longest","itertools.pairwise"].contains n=false)(hQ:Q () s):wpAny M A (letOwnedTupleGo tg (.ref it) u) Q E s:=by
 unfold letOwnedTupleGo
 cases tg<;>first
  | exact aeK hQ
  | (cases u<;>first
   | exact aeK hQ
   | (refine aeE (aiD ho ?_);rw [hc,hd];show wpAny M A (if (["enumerate","zip","dict_itemiterator","dict_reverseitemiterator","odict_iterator","itertools.zip_longest","itertools.pairwise"].contains n && vs[0]? == some (rawInt _))=true then _ else _) Q E s;rw [if_neg (by intro h;rw [hn,Bool.false_and] at h;cases h)];exact aeK hQ))
def Itl (K:PySem.W.Frag)(a:Addr):It :=
 ⟨fun i H=>∃ xs x,SqL K H a xs/\xs[i]? = some x,fun i H x H'=>H'=H/\∀ xs,SqL K H a xs->xs[i]? = some x,fun i H=>∃ xs,SqL K H a xs/\xs.length<=i⟩
def Itt (K:PySem.W.Frag)(a:Addr):It :=
 ⟨fun i H=>∃ xs x,SqT K H a xs/\xs[i]? = some x,fun i H x H'=>H'=H/\∀ xs,SqT K H a xs->xs[i]? = some x,fun i H=>∃ xs,SqT K H a xs/\xs.length<=i⟩
def Itr (lo:Int)(n:Nat):It:=⟨fun i _=>i < n,fun i H x H'=>H'=H/\x=.int (lo+i),fun i _=>n<=i⟩
theorem yH {P:Program}{w:World}{K:PySem.W.Frag}{tg:Expr}(a it:Addr):abP P w K tg (Itl K a) [it] it (fun i h=>h.IsListIter it a i) where
 mem:=by simp
 obj:=fun i h st b hb=>by
  have e:b=it:=by simpa using hb
  subst e
  obtain⟨o,e,c,d⟩:=st
  exact⟨o,e,fun v z=>by rw [d] at z;cases z⟩
 keep:=fun i h h' st k=>st.at fun o e=>k it (by simp) o e
 item:=by
  intro X hP hw hK hc i pins s σ H E I hf st hg
  subst hP hw hK
  obtain⟨xs,x,hq,hx⟩:=hg
  obtain⟨its,rv,p,hz⟩:=I.list hq
  obtain⟨u,hu,ru⟩:=rv.get hx
  obtain⟨f0,f1,f2,f3,f4,f5⟩:=hf it (by simp)
  refine wpAny_pyNext_list_item st p.isList (x:=u) (by simpa using hu) fun h' st' sb=>?_
  have I1:Inv X pins σ H { s with heap:=h' }:=I.turned (t':=s.toks) (fun b o hb e=>(sb.2 b hb).trans e) f0 f1 f3 f4 f5
  obtain⟨o,e,c,d⟩:=id st'
  exact⟨u,rfl,aat (s:={ s with heap:=h' }) e c d (by decide) ⟨x,H,I1,ru,⟨rfl,fun ys hy=>by rw [I.list_inj hy hq];exact hx⟩,st',fun b hb=>(hf b hb).1⟩⟩
 done:=by
  intro X hP hw hK hc i pins s σ H E I hf st hg
  subst hP hw hK
  obtain⟨xs,hq,hx⟩:=hg
  obtain⟨its,rv,p,hz⟩:=I.list hq
  obtain⟨f0,f1,f2,f3,f4,f5⟩:=hf it (by simp)
  have hl:=rv.length
  exact wpAny_pyNext_list_end (I.ok.hd hc) st p.isList (by simp;omega) fun h' eb=>⟨rfl,I.turned (t':=s.toks) (fun b o hb e=>eb b o hb e) f0 f1 f3 f4 f5⟩
 self:=fun _ _ _ _ _ st h=>wpAny_pyIter_listiter st h
theorem vP {P:Program}{w:World}{K:PySem.W.Frag}{tg:Expr}(a it:Addr):abP P w K tg (Itt K a) [it] it (fun i h=>h.IsTupleIter it a i) where
 mem:=by simp
 obj:=fun i h st b hb=>by
  have e:b=it:=by simpa using hb
  subst e
  obtain⟨o,e,c,d⟩:=st
  exact⟨o,e,fun v z=>by rw [d] at z;cases z⟩
 keep:=fun i h h' st k=>st.at fun o e=>k it (by simp) o e
 item:=by
  intro X hP hw hK hc i pins s σ H E I hf st hg
  subst hP hw hK
  obtain⟨xs,x,hq,hx⟩:=hg
  obtain⟨its,rv,p,hz⟩:=I.tuple hq
  obtain⟨u,hu,ru⟩:=rv.get hx
  obtain⟨f0,f1,f2,f3,f4,f5⟩:=hf it (by simp)
  refine wpAny_pyNext_tuple_item st (show s.heap.IsTuple a its.toArray from p) (x:=u) (by simpa using hu) fun h' st' sb=>?_
  have I1:Inv X pins σ H { s with heap:=h' }:=I.turned (t':=s.toks) (fun b o hb e=>(sb.2 b hb).trans e) f0 f1 f3 f4 f5
  obtain⟨o,e,c,d⟩:=id st'
  exact⟨u,rfl,aat (s:={ s with heap:=h' }) e c d (by decide) ⟨x,H,I1,ru,⟨rfl,fun ys hy=>by rw [I.tuple_inj hy hq];exact hx⟩,st',fun b hb=>(hf b hb).1⟩⟩
 done:=by
  intro X hP hw hK hc i pins s σ H E I hf st hg
  subst hP hw hK
  obtain⟨xs,hq,hx⟩:=hg
  obtain⟨its,rv,p,hz⟩:=I.tuple hq
  obtain⟨f0,f1,f2,f3,f4,f5⟩:=hf it (by simp)
  have hl:=rv.length
  exact wpAny_pyNext_tuple_end (I.ok.hd hc) st (show s.heap.IsTuple a its.toArray from p) (by simp;omega) fun h' eb=>⟨rfl,I.turned (t':=s.toks) (fun b o hb e=>eb b o hb e) f0 f1 f3 f4 f5⟩
 self:=fun _ _ _ _ _ st h=>wpAny_pyIter_tupleiter st h
theorem vZ {P:Program}{w:World}{K:PySem.W.Frag}{tg:Expr}(it:Addr)(lo:Int)(n:Nat):abP P w K tg (Itr lo n) [it] it (fun i h=>IsRangeIter h it (lo+(i:Nat) * 1) ((n:Int) - (i:Nat)) 1) where
 mem:=by simp
 obj:=fun i h st b hb=>by
  have e:b=it:=by simpa using hb
  subst e
  exact⟨_,st,fun v z=>by
   have z':Data.fields _=Data.cell v:=z
   cases z'⟩
 keep:=fun i h h' st k=>k it (by simp) _ st
 item:=by
  intro X hP hw hK hc i pins s σ H E I hf st hg
  subst hP hw hK
  obtain⟨f0,f1,f2,f3,f4,f5⟩:=hf it (by simp)
  have W:=Walks.range (prog:=X.prog) (w:=X.w) (I.ok.hd hc) it lo 1 n
  refine W.item i s _ _ hg st fun v h' tk hv st' kk=>?_
  obtain⟨t,rfl⟩:=hv
  have I1:Inv X pins σ H { s with heap:=h',toks:=tk }:=I.turned (fun b o hb e=>kk b o (by simpa using hb) e) f0 f1 f3 f4 f5
  refine⟨_,rfl,aat (s:={ s with heap:=h',toks:=tk }) (n := "range_iterator") st' rfl rfl (by decide) ⟨.int (lo+i),H,I1,⟨t,?_⟩,⟨rfl,rfl⟩,st',fun b hb=>(hf b hb).1⟩⟩
  rw [Int.mul_one]
 done:=by
  intro X hP hw hK hc i pins s σ H E I hf st hg
  subst hP hw hK
  obtain⟨f0,f1,f2,f3,f4,f5⟩:=hf it (by simp)
  exact wpAny_pyNext_range_end (I.ok.hd hc) st (by have:n<=i:=hg;omega) fun h' eb=>⟨rfl,I.turned (t':=s.toks) (fun b o hb e=>eb b o hb e) f0 f1 f3 f4 f5⟩
 self:=fun _ _ _ _ _ st h=>wpAny_pyIter_rangeiter st h
section
variable {X:Cx}{tg:Expr}
def ads (K:PySem.W.Frag)(tl:TE):TI:=fun σ H R=>tl σ H fun x H1=>∃ a,x=.ref a/\(∃ xs,SqL K H1 a xs)/\R (Itl K a) H1
def aez (K:PySem.W.Frag)(tl:TE):TI:=fun σ H R=>tl σ H fun x H1=>∃ a,x=.ref a/\(∃ xs,SqT K H1 a xs)/\R (Itt K a) H1
theorem bT {l:Expr}{tl:TE}(hl:PE X l tl):PI X tg l (ads X.K tl):=by
 intro pins s σ H R I h
 refine thn (hl pins s σ H _ I h) fun v s1 ⟨x,H1,I1,r1,q1⟩=>?_
 obtain⟨a,e,⟨xs,hq⟩,q⟩:=q1
 subst e
 cases r1
 obtain⟨its,rv,p,hz⟩:=I1.list hq
 refine ah7 p.isList ?_
 refine⟨s1.heap.objs.size,[s1.heap.objs.size],_,_,H1,rfl,I1.kept (t':=s1.toks) fun b o e=>aeH _ e,yH a _,⟨_,aeY _ rfl,rfl,rfl⟩,fun b hb=>?_,q⟩
 have e:b=s1.heap.objs.size:=by simpa using hb
 subst e
 exact I1.fpOk (aeN _) (I1.hok.fresh (aeN _))
theorem aaD {l:Expr}{tl:TE}(hl:PE X l tl):PI X tg l (aez X.K tl):=by
 intro pins s σ H R I h
 refine thn (hl pins s σ H _ I h) fun v s1 ⟨x,H1,I1,r1,q1⟩=>?_
 obtain⟨a,e,⟨xs,hq⟩,q⟩:=q1
 subst e
 cases r1
 obtain⟨its,rv,p,hz⟩:=I1.tuple hq
 refine wpAny_pyIter_tuple (show s1.heap.IsTuple a its.toArray from p) ?_
 refine⟨s1.heap.objs.size,[s1.heap.objs.size],_,_,H1,rfl,I1.kept (t':=s1.toks) fun b o e=>aeH _ e,vP a _,⟨_,aeY _ rfl,rfl,rfl⟩,fun b hb=>?_,q⟩
 have e:b=s1.heap.objs.size:=by simpa using hb
 subst e
 exact I1.fpOk (aeN _) (I1.hok.fresh (aeN _))
theorem aav {pins:List (Addr×Obj)}{σ:St}{H:Hp}{s:Shared}{R:It->Hp->Prop}{E:Value->Shared->Prop}{lo hi:Int}{t u v:Tok}{tk:Nat}(I:Inv X pins σ H s)(h1:-(2 ^ 62)<=lo)(h2:lo < 2 ^ 62)(h3:-(2 ^ 62)<=hi)(h4:hi < 2 ^ 62)
 (q:R (Itr lo (hi - lo).toNat) H):wpAny (model X.prog X.w) X.A (pyIter (.ref s.heap.objs.size)) (PIE X pins σ tg R) E { s with heap:=s.heap.push { cls:=.type "range",data:=.fields #[.int lo t,.int hi u,.int 1 v] },toks:=tk }:=by
 refine wpAny_pyIter_range (IsRange.new ..) (small_one h1 h2 h3 h4) ?_
 have I1:Inv X pins σ H { s with heap:=s.heap.push { cls:=.type "range",data:=.fields #[.int lo t,.int hi u,.int 1 v] },toks:=tk }:=I.kept fun b o e=>aeH _ e
 refine⟨(s.heap.push { cls:=.type "range",data:=.fields #[.int lo t,.int hi u,.int 1 v] }).objs.size,[(s.heap.push { cls:=.type "range",data:=.fields #[.int lo t,.int hi u,.int 1 v] }).objs.size],_,_,H,rfl,
  I1.kept (t':=tk) fun b o e=>aeH _ e,vZ _ lo (hi - lo).toNat,?_,fun b hb=>?_,q⟩
 ·have e1:lo+((0:Nat):Int) * 1=lo:=by simp
  have e2:(((hi - lo).toNat:Nat):Int) - ((0:Nat):Int)=Builtin.Range.rangeSize lo hi 1:=by rw [rangeSize_one];split<;>omega
  show IsRangeIter _ _ (lo+((0:Nat):Int) * 1) ((((hi - lo).toNat:Nat):Int) - ((0:Nat):Int)) 1
  rw [e1,e2]
  exact aeY _ rfl
 ·have e:b=(s.heap.push { cls:=.type "range",data:=.fields #[.int lo t,.int hi u,.int 1 v] }).objs.size:=by simpa using hb
  subst e
  exact I1.fpOk (aeN _) (I1.hok.fresh (aeN _))
def adz (ta:TA):TI:=fun σ H R=>ta σ H fun vs H1=>∃ j:Int,vs=[.int j]/\-(2 ^ 62)<=j/\j < 2 ^ 62/\R (Itr 0 j.toNat) H1
theorem cg {a:Expr}{ta:TA}{p pos:Pos}(hg:Gl X "range")(hm:X.mg "range" = none)(ha:PA X [a] ta)(hs:starEach [a] X.env=[(false,eval a X.env)]:=by rfl):PI X tg (.Call (.Name "range" p) [a] [] pos) (adz ta):=by
 intro pins s σ H R I h
 refine Call_ (iR I hg hm boot_range (agp (thn (ha pos pins s σ H _ I h) fun us s1 ⟨vs,H1,I1,r1,q1⟩=>?_) hs rfl))
 obtain⟨j,e,q1,q2,q⟩:=q1
 subst e
 cases r1 with
 | cons r rr =>
  cases rr
  obtain⟨t,rfl⟩:=r
  exact call_range_1 (aav I1 (by omega) (by omega) q1 q2 (by simpa using q))
def aef (wi:TI)(g:TG)(tb:TS):TS:=fun D σ H=>wi σ H fun J H1=>∃ W:Nat->Nat->St->Hp->Prop,(∃ m,W 0 m σ H1)/\∀ i m σ H,W i m σ H →
 (J.stop i H/\D.nx σ H)\/(J.go i H/\∃ N:St->Hp->Prop,(∀ σ' H',N σ' H'->∃ m',m' < m/\W (i+1) m' σ' H')/\∀ x H',J.yld i H x H'->g x σ H' fun σ2 H2=>tb { D with nx:=N,ct:=N,bk:=D.nx } σ2 H2)
def jY (fp:List Addr)(h:Heap):List (Addr×Obj):=fp.filterMap fun b=>(h.get? b).map fun o=>(b,o)
theorem cS {fp:List Addr}{h:Heap}{b:Addr}{o:Obj}(hb:b∈fp)(e:h.get? b=some o):(b,o)∈jY fp h:=List.mem_filterMap.mpr ⟨b,hb,by rw [e];rfl⟩
theorem wZ {fp:List Addr}{h:Heap}{p:Addr×Obj}(hp:p∈jY fp h):p.1∈fp/\h.get? p.1=some p.2:=by
 obtain⟨b,hb,e⟩:=List.mem_filterMap.mp hp
 cases q:h.get? b with
 | none=>rw [q] at e;cases e
 | some o =>
  rw [q] at e
  have e':(b,o)=p:=afG e
  subst e'
  exact⟨hb,q⟩
theorem Inv.pinned {pins:List (Addr×Obj)}{σ:St}{H:Hp}{s:Shared}{fp:List Addr}(I:Inv X pins σ H s)(hf:∀ b∈fp,nX X pins H b)(ho:∀ b∈fp,∃ o,s.heap.get? b=some o/\∀ v,o.data≠.cell v):Inv X (pins++jY fp s.heap) σ H s :=
 I.pins_of fun p hp=>(aeI.mp hp).elim (fun z=>I.pin p (aeL _ z)) fun z=>by
  obtain⟨hb,e⟩:=wZ z
  obtain⟨f0,f1,f2,_⟩:=hf p.1 hb
  obtain⟨o,e',d⟩:=ho p.1 hb
  rw [e] at e';cases e'
  exact⟨e,f0,f1,f2,d⟩
theorem Inv.unpinned {pins pl:List (Addr×Obj)}{σ:St}{H:Hp}{s:Shared}(I:Inv X (pins++pl) σ H s):Inv X pins σ H s:=I.pins_of fun p hp=>I.pin p (aeL _ (ae6 _ hp))
theorem dU {iter:Expr}{body:List Stmt}{wi:TI}{g:TG}{tb:TS}{pos:Pos}(hp:PassesOwn (model X.prog X.w) X.A X.env X.xe)(hc:X.calm=true)(hi:PI X tg iter wi)(hg:PG X tg g)(hb:PSs X body tb)
 (hs:∀ x,foldedSetIterable iter X.env x=pure x:=by intro _;rfl):PS X (.For tg iter body [] pos) (aef wi g tb):=by
 intro pins s σ H D I h
 refine wpAny_For (thn (hi pins s σ H _ I h) fun v s1 h1=>thn h1 fun itv s2 h2=>?_) hs
 obtain⟨it,fp,tn,J,H2,e,I2,T,st2,f2,W,⟨m0,w0⟩,turn⟩:=h2
 subst e
 have stat:∀ {H':Hp},(∀ b∈fp,H' b=none)->∀ b∈fp,nX X pins H' b:=fun hn b hb=>⟨hn b hb,(f2 b hb).2⟩
 refine codeAny_forLoop_any (fun n s'=>∃ i σ' H',Inv X pins σ' H' s'/\tn i s'.heap/\(∀ b∈fp,H' b=none)/\W i n σ' H') ?_ m0 ⟨0,σ,H2,I2,st2,fun b hb=>(f2 b hb).1,w0⟩
 rintro n s3 ⟨i,σ3,H3,I3,st3,fr3,w3⟩
 rcases turn i n σ3 H3 w3 with ⟨stop,qn⟩ | ⟨go,N,hN,step⟩
 ·refine ag2 hp (thn (T.done X rfl rfl rfl hc i pins s3 σ3 H3 X.xe I3 (stat fr3) st3 stop) fun r s4 ⟨hr,I4⟩=>?_)
  subst hr
  exact aiI ⟨σ3,H3,I4,qn⟩
 ·refine ag2 hp (thn (T.item X rfl rfl rfl hc i pins s3 σ3 H3 X.xe I3 (stat fr3) st3 go) fun r s4 ⟨u,hr,h4⟩=>?_)
  subst hr
  refine ag2 hp (thn h4 fun _ s5 ⟨x,H5,I5,r5,y5,st5,fr5⟩=>?_)
  have I5':=I5.pinned (stat fr5) (T.obj _ _ st5)
  refine ag2 hp (thn (hg _ s5 σ3 H5 x u _ I5' r5 (step x H5 y5)) fun _ s6 ⟨σ6,H6,I6,q6⟩=>?_)
  refine ag2 hp (thn (hb _ s6 σ6 H6 _ I6 q6) fun f s7 q7=>?_)
  have again:∀ {σ7:St} {H7:Hp},Inv X (pins++jY fp s5.heap) σ7 H7 s7->N σ7 H7->∃ m,m < n/\∃ i σ' H',Inv X pins σ' H' s7/\tn i s7.heap/\(∀ b∈fp,H' b=none)/\W i m σ' H':=fun {σ7 H7} I7 n7=>by
   obtain⟨m',hm,w7⟩:=hN σ7 H7 n7
   refine⟨m',hm,i+1,σ7,H7,I7.unpinned,T.keep _ _ _ st5 fun b hb o e=>(I7.pin (b,o) (aeL _ (aeL _ (cS hb e)))).1,fun b hb=>?_,w7⟩
   obtain⟨o,e,d⟩:=T.obj _ _ st5 b hb
   exact (I7.pin (b,o) (aeL _ (aeL _ (cS hb e)))).2.1
  cases f with
  | next=>obtain⟨σ7,H7,I7,n7⟩:=q7;exact again I7 n7
  | cont=>obtain⟨σ7,H7,I7,n7⟩:=q7;exact again I7 n7
  | brk=>obtain⟨σ7,H7,I7,q7⟩:=q7;exact⟨σ7,H7,I7.unpinned,q7⟩
  | ret v=>obtain⟨x7,σ7,H7,I7,r7,q7⟩:=q7;exact⟨x7,σ7,H7,I7.unpinned,r7,q7⟩
end
theorem eR {K:PySem.W.Frag}{a:Addr}{xs:List V}{g:TG}{tb:TS}{D:aam}{σ:St}{H:Hp}(Pv:Nat->St->Hp->Prop)(h0:Pv 0 σ H)(hl:∀ i σ H,i<=xs.length->Pv i σ H->SqL K H a xs)
 (hs:∀ i x σ H,xs[i]? = some x->Pv i σ H->g x σ H fun σ2 H2=>tb { D with nx:=Pv (i+1),ct:=Pv (i+1),bk:=D.nx } σ2 H2)(hd:∀ σ H,Pv xs.length σ H->D.nx σ H) :
 ∃ W:Nat->Nat->St->Hp->Prop,(∃ m,W 0 m σ H)/\∀ i m σ H,W i m σ H →
  ((Itl K a).stop i H/\D.nx σ H)\/((Itl K a).go i H/\∃ N:St->Hp->Prop,(∀ σ' H',N σ' H'->∃ m',m' < m/\W (i+1) m' σ' H')/\∀ x H',(Itl K a).yld i H x H'->g x σ H' fun σ2 H2=>tb { D with nx:=N,ct:=N,bk:=D.nx } σ2 H2):=by
 refine⟨fun i m σ H=>m=xs.length - i/\i<=xs.length/\Pv i σ H,⟨xs.length,by simp,ae2 _,h0⟩,?_⟩
 rintro i m σ H ⟨rfl,hi,p⟩
 have q:=hl i σ H hi p
 by_cases hlt:i < xs.length
 ·refine .inr ⟨⟨xs,xs[i],q,by simp [hlt]⟩,Pv (i+1),fun σ' H' p'=>⟨xs.length - (i+1),by omega,rfl,hlt,p'⟩,fun x H' y=>?_⟩
  obtain⟨e,y⟩:=y
  subst e
  exact hs i x σ _ (y xs q) p
 ·have e:i=xs.length:=by omega
  subst e
  exact .inl ⟨⟨xs,q,aeN _⟩,hd σ H p⟩
theorem yL {K:PySem.W.Frag}{a:Addr}{xs:List V}{g:TG}{tb:TS}{D:aam}{σ:St}{H:Hp}(Pv:Nat->St->Hp->Prop)(h0:Pv 0 σ H)(hl:∀ i σ H,i<=xs.length->Pv i σ H->SqT K H a xs)
 (hs:∀ i x σ H,xs[i]? = some x->Pv i σ H->g x σ H fun σ2 H2=>tb { D with nx:=Pv (i+1),ct:=Pv (i+1),bk:=D.nx } σ2 H2)(hd:∀ σ H,Pv xs.length σ H->D.nx σ H) :
 ∃ W:Nat->Nat->St->Hp->Prop,(∃ m,W 0 m σ H)/\∀ i m σ H,W i m σ H →
  ((Itt K a).stop i H/\D.nx σ H)\/((Itt K a).go i H/\∃ N:St->Hp->Prop,(∀ σ' H',N σ' H'->∃ m',m' < m/\W (i+1) m' σ' H')/\∀ x H',(Itt K a).yld i H x H'->g x σ H' fun σ2 H2=>tb { D with nx:=N,ct:=N,bk:=D.nx } σ2 H2):=by
 refine⟨fun i m σ H=>m=xs.length - i/\i<=xs.length/\Pv i σ H,⟨xs.length,by simp,ae2 _,h0⟩,?_⟩
 rintro i m σ H ⟨rfl,hi,p⟩
 have q:=hl i σ H hi p
 by_cases hlt:i < xs.length
 ·refine .inr ⟨⟨xs,xs[i],q,by simp [hlt]⟩,Pv (i+1),fun σ' H' p'=>⟨xs.length - (i+1),by omega,rfl,hlt,p'⟩,fun x H' y=>?_⟩
  obtain⟨e,y⟩:=y
  subst e
  exact hs i x σ _ (y xs q) p
 ·have e:i=xs.length:=by omega
  subst e
  exact .inl ⟨⟨xs,q,aeN _⟩,hd σ H p⟩
theorem gC {lo:Int}{n:Nat}{g:TG}{tb:TS}{D:aam}{σ:St}{H:Hp}(Pv:Nat->St->Hp->Prop)(h0:Pv 0 σ H)
 (hs:∀ i σ H,i < n->Pv i σ H->g (.int (lo+i)) σ H fun σ2 H2=>tb { D with nx:=Pv (i+1),ct:=Pv (i+1),bk:=D.nx } σ2 H2)(hd:∀ σ H,Pv n σ H->D.nx σ H) :
 ∃ W:Nat->Nat->St->Hp->Prop,(∃ m,W 0 m σ H)/\∀ i m σ H,W i m σ H →
  ((Itr lo n).stop i H/\D.nx σ H)\/((Itr lo n).go i H/\∃ N:St->Hp->Prop,(∀ σ' H',N σ' H'->∃ m',m' < m/\W (i+1) m' σ' H')/\∀ x H',(Itr lo n).yld i H x H'->g x σ H' fun σ2 H2=>tb { D with nx:=N,ct:=N,bk:=D.nx } σ2 H2):=by
 refine⟨fun i m σ H=>m=n - i/\i<=n/\Pv i σ H,⟨n,by simp,ae2 _,h0⟩,?_⟩
 rintro i m σ H ⟨rfl,hi,p⟩
 by_cases hlt:i < n
 ·refine .inr ⟨hlt,Pv (i+1),fun σ' H' p'=>⟨n - (i+1),by omega,rfl,hlt,p'⟩,fun x H' y=>?_⟩
  obtain⟨e,y⟩:=y
  subst e y
  exact hs i σ _ hlt p
 ·have e:i=n:=by omega
  subst e
  exact .inl ⟨aeN _,hd σ H p⟩
abbrev R2:=V->V->Hp->VK->Prop
def OpR (X:Cx)(f:Value->Value->Sem Value)(r:R2):Prop :=
 ∀ (pins:List (Addr×Obj)) (s:Shared) (σ:St) (H:Hp) (x y:V) (v u:Value) (Q:VK),Inv X pins σ H s->RelV x v->RelV y u->r x y H Q →
  wpAny (model X.prog X.w) X.A (f v u) (EP X pins σ Q) X.xe s
def UnR (X:Cx)(f:Value->Sem Value)(r:V->Hp->VK->Prop):Prop :=
 ∀ (pins:List (Addr×Obj)) (s:Shared) (σ:St) (H:Hp) (x:V) (v:Value) (Q:VK),Inv X pins σ H s->RelV x v->r x H Q →
  wpAny (model X.prog X.w) X.A (f v) (EP X pins σ Q) X.xe s
def fu (X:Cx)(f:Value)(r:List V->Hp->VK->Prop):Prop :=
 ∀ (pins:List (Addr×Obj)) (s:Shared) (σ:St) (H:Hp) (xs:List V) (us:List Value) (Q:VK),Inv X pins σ H s->Vals xs us->r xs H Q →
  wpAny (model X.prog X.w) X.A (call f us) (EP X pins σ Q) X.xe s
def aep (X:Cx)(r:V->Hp->(Bool->Hp->Prop)->Prop):Prop :=
 ∀ (pins:List (Addr×Obj)) (s:Shared) (σ:St) (H:Hp) (x:V) (v:Value) (Q:Bool->Hp->Prop),Inv X pins σ H s->RelV x v->r x H Q →
  wpAny (model X.prog X.w) X.A (truthy v) (TP X pins σ Q) X.xe s
def tOp (r:R2)(ta tb:TE):TE:=fun σ H Q=>ta σ H fun x H1=>tb σ H1 fun y H2=>r x y H2 Q
def tUn (r:V->Hp->VK->Prop)(ta:TE):TE:=fun σ H Q=>ta σ H fun x H1=>r x H1 Q
def rI (C:Int->Int->Prop)(g:Int->Int->V):R2:=fun x y H Q=>∃ i j,x=.int i/\y=.int j/\C i j/\Q (g i j) H
def rI0 (g:Int->Int->V):R2:=fun x y H Q=>∃ i j,x=.int i/\y=.int j/\Q (g i j) H
def rU (g:Int->V):V->Hp->VK->Prop:=fun x H Q=>∃ i,x=.int i/\Q (g i) H
section
variable {X:Cx}{a b c:Expr}{ta tb tc:TE}{pos:Pos}
theorem adA (ha:PE X a ta)(hb:PE X b tb){pins:List (Addr×Obj)}{s:Shared}{σ:St}{H:Hp}{R:V->V->Hp->Prop}(I:Inv X pins σ H s)
 (h:ta σ H fun x H1=>tb σ H1 fun y H2=>R x y H2){Q:Value->Shared->Prop}{f:Value->Value->Sem Value}
 (hf:∀ v u s2 x y H2,Inv X pins σ H2 s2->RelV x v->RelV y u->R x y H2->wpAny (model X.prog X.w) X.A (f v u) Q X.xe s2) :
 wpAny (model X.prog X.w) X.A (eval a X.env) (fun v s₁=>wpAny (model X.prog X.w) X.A (eval b X.env) (fun u s₂=>wpAny (model X.prog X.w) X.A (f v u) Q X.xe s₂) X.xe s₁) X.xe s:=by
 refine thn (ha pins s σ H _ I h) fun v s1 ⟨x,H1,I1,r1,q1⟩=>?_
 refine thn (hb pins s1 σ H1 _ I1 q1) fun u s2 ⟨y,H2,I2,r2,q2⟩=>?_
 exact hf v u s2 x y H2 I2 r1 r2 q2
theorem bq {op:Operator}{r:R2}(ho:OpR X (binaryOp op) r)(ha:PE X a ta)(hb:PE X b tb):PE X (.BinOp a op b pos) (tOp r ta tb):=by
 intro pins s σ H Q I h
 exact wpAny_BinOp (adA ha hb I h fun v u s2 x y H2 I2 rx ry q=>ho pins s2 σ H2 x y v u Q I2 rx ry q)
theorem adB {op:UnaryOp}{r:V->Hp->VK->Prop}(ho:UnR X (unaryOp op) r)(ha:PE X a ta):PE X (.UnaryOp op a pos) (tUn r ta):=by
 intro pins s σ H Q I h
 exact UnaryOp_ (thn (ha pins s σ H _ I h) fun v s1 ⟨x,H1,I1,r1,q1⟩=>ho pins s1 σ H1 x v Q I1 r1 q1)
theorem opI {f:Value->Value->Sem Value}{C:Int->Int->Prop}{g:Int->Int->Int}
 (rule:∀ (i j:Int) (t u:Tok) (s:Shared) (Q:Value->Shared->Prop) (E:Value->Shared->Prop),C i j->Q (.int (g i j) s.toks) { s with toks:=s.toks+1 }->wpAny (model X.prog X.w) X.A (f (.int i t) (.int j u)) Q E s) :
 OpR X f (rI C fun i j=>.int (g i j)):=by
 intro pins s σ H x y v u Q I rx ry h
 obtain⟨i,j,rfl,rfl,hc,q⟩:=h
 obtain⟨t,rfl⟩:=rx
 obtain⟨t',rfl⟩:=ry
 exact rule i j t t' s _ _ hc ⟨.int (g i j),H,I.tok _,⟨_,rfl⟩,q⟩
theorem adP {f:Value->Value->Sem Value}{g:Int->Int->Int}
 (rule:∀ (i j:Int) (t u:Tok) (s:Shared) (Q:Value->Shared->Prop) (E:Value->Shared->Prop),Q (.int (g i j) s.toks) { s with toks:=s.toks+1 }->wpAny (model X.prog X.w) X.A (f (.int i t) (.int j u)) Q E s) :
 OpR X f (rI0 fun i j=>.int (g i j)):=by
 intro pins s σ H x y v u Q I rx ry h
 obtain⟨i,j,rfl,rfl,q⟩:=h
 obtain⟨t,rfl⟩:=rx
 obtain⟨t',rfl⟩:=ry
 exact rule i j t t' s _ _ ⟨.int (g i j),H,I.tok _,⟨_,rfl⟩,q⟩
theorem ade {f:Value->Value->Sem Value}{g:Int->Int->Bool}
 (rule:∀ (i j:Int) (t u:Tok) (s:Shared) (Q:Value->Shared->Prop) (E:Value->Shared->Prop),Q (.bool (g i j)) s->wpAny (model X.prog X.w) X.A (f (.int i t) (.int j u)) Q E s) :
 OpR X f (rI0 fun i j=>.bl (g i j)):=by
 intro pins s σ H x y v u Q I rx ry h
 obtain⟨i,j,rfl,rfl,q⟩:=h
 obtain⟨t,rfl⟩:=rx
 obtain⟨t',rfl⟩:=ry
 exact rule i j t t' s _ _ ⟨.bl (g i j),H,I,rfl,q⟩
def aeg (i j:Int):Prop:=0 < j/\j < 1073741824
def aed (i j:Int):Prop:=0<=j/\j<=1000000/\i.natAbs < 2 ^ 64
def CMul (i j:Int):Prop:=(-(2 ^ 64) < i/\i < 2 ^ 64)\/(-(2 ^ 64) < j/\j < 2 ^ 64)
theorem CMul.ok {i j:Int}(h:CMul i j):IntMulOk i j:=by
 rcases h with ⟨h1,h2⟩ | ⟨h1,h2⟩
 ·exact .of_left (intBits_le_64 h1 h2)
 ·exact .of_right (intBits_le_64 h1 h2)
theorem wu (k:Nat):(0:Int)<=2 ^ k:=by
 rw [two_pow_cast]
 exact ahP _
theorem hZ:OpR X (binaryOp .Add) (rI0 fun i j=>.int (i+j)):=adP fun _ _ _ _ _ _ _ q=>add_int q
theorem ada:OpR X (binaryOp .Sub) (rI0 fun i j=>.int (i - j)):=adP fun _ _ _ _ _ _ _ q=>sub_int q
theorem nZ:OpR X (binaryOp .Mult) (rI CMul fun i j=>.int (i * j)):=opI fun _ _ _ _ _ _ _ hc q=>mul_int q hc.ok
theorem xC:OpR X (binaryOp .FloorDiv) (rI aeg fun i j=>.int (i / j)):=opI fun i j _ _ _ _ _ hc q=>by
 have h1:(0:Int) < j:=hc.1
 have h2:j < 1073741824:=hc.2
 exact floordiv_int (by omega) (by rw [aiW i (by omega)];exact q) (.inl (PyProof.noPylong_small (by omega)))
theorem bM:OpR X (binaryOp .Mod) (rI (fun _ j=>0 < j) fun i j=>.int (i % j)):=opI fun i j _ _ _ _ _ hc q=>by
 have h1:(0:Int) < j:=hc
 exact mod_int' (by omega) (by rw [Int.fmod_eq_emod_of_nonneg i (by omega)];exact q)
theorem acN:OpR X (binaryOp .Pow) (rI aed fun i j=>.int (i ^ j.toNat)):=opI fun _ _ _ _ _ _ _ hc q=>pow_int_small hc.1 hc.2.1 hc.2.2 q
theorem aca:OpR X (binaryOp .LShift) (rI aed fun i j=>.int (i * 2 ^ j.toNat)):=opI fun _ _ _ _ _ _ _ hc q=>lshift_int_small hc.1 hc.2.1 hc.2.2 q
theorem acA:OpR X (binaryOp .RShift) (rI (fun _ j=>0<=j) fun i j=>.int (i / 2 ^ j.toNat)):=opI fun i j _ _ _ _ _ hc q =>
 rshift_int hc (by rw [aiW i (wu _)];exact q)
theorem acZ:OpR X (binaryOp .BitAnd) (rI0 fun i j=>.int (Builtin.bitAnd i j)):=adP fun _ _ _ _ _ _ _ q=>and_int q
theorem unI {f:Value->Sem Value}{g:Int->Int}
 (rule:∀ (i:Int) (t:Tok) (s:Shared) (Q:Value->Shared->Prop) (E:Value->Shared->Prop),Q (.int (g i) s.toks) { s with toks:=s.toks+1 }->wpAny (model X.prog X.w) X.A (f (.int i t)) Q E s) :
 UnR X f (rU fun i=>.int (g i)):=by
 intro pins s σ H x v Q I rx h
 obtain⟨i,rfl,q⟩:=h
 obtain⟨t,rfl⟩:=rx
 exact rule i t s _ _ ⟨.int (g i),H,I.tok _,⟨_,rfl⟩,q⟩
theorem acS:UnR X (unaryOp .USub) (rU fun i=>.int (-i)):=unI fun _ _ _ _ _ q=>neg_int q
end
def ad9:V->V->Bool
 | .non,.non=>true | .non,.int _=>true | .int _,.non=>true | .non,.bl _=>true | .bl _,.non=>true | .non,.str _=>true | .str _,.non=>true
 | .int _,.int _=>true | .bl _,.bl _=>true | .str _,.str _=>true | .byt _,.byt _=>true
 | .int _,.str _=>true | .str _,.int _=>true | .bl _,.str _=>true | .str _,.bl _=>true
 | _,_=>false
def rEq:R2:=fun x y H Q=>ad9 x y=true/\Q (.bl (decide (x=y))) H
def rNe:R2:=fun x y H Q=>ad9 x y=true/\Q (.bl (!decide (x=y))) H
theorem pW {i j:Int}:decide (V.int i=V.int j)=(i == j):=by
 rw [aiJ]
 simp
theorem aaS {i j:Bool}:decide (V.bl i=V.bl j)=(i == j):=by
 rw [aiJ]
 simp
theorem xH {i j:Str}:decide (V.str i=V.str j)=(i == j):=by
 rw [aiJ]
 simp
theorem xJ {i j:Array UInt8}:decide (V.byt i=V.byt j)=(i.toList == j.toList):=by
 rw [aiJ]
 cases i
 cases j
 simp
section
variable {X:Cx}{a b c:Expr}{ta tb tc:TE}{pos:Pos}
theorem bI {pins:List (Addr×Obj)}{σ:St}{H:Hp}{s:Shared}{Q:VK}{k k':Bool}(I:Inv X pins σ H s)(q:Q (.bl k) H)(e:k=k'):EP X pins σ Q (.bool k') s:=by
 subst e
 exact⟨.bl k,H,I,rfl,q⟩
theorem gB:OpR X (compareOp .Eq) rEq:=by
 intro pins s σ H x y v u Q I rx ry h
 obtain⟨hs,q⟩:=h
 cases x with
 | non =>
  cases rx
  cases y with
  | non=>cases ry;exact PySem.EqNone.eq_none_none (bI I q (by simp))
  | bl j=>cases ry;exact PySem.EqNone.eq_none_bool (bI I q (by simp))
  | int j=>obtain⟨t',rfl⟩:=ry;exact PySem.EqNone.eq_none_int (bI I q (by simp))
  | str j=>obtain⟨t',rfl⟩:=ry;exact PySem.EqNone.eq_none_str (bI I q (by simp))
  | _=>exact absurd (show false=true from hs) aeM
 | bl i =>
  cases rx
  cases y with
  | non=>cases ry;exact PySem.EqNone.eq_bool_none (bI I q (by simp))
  | bl j=>cases ry;exact eq_bool (bI I q aaS)
  | str j=>obtain⟨t',rfl⟩:=ry;exact PySem.EqMixed.eq_bool_str (bI I q (by simp))
  | _=>exact absurd (show false=true from hs) aeM
 | int i =>
  obtain⟨t,rfl⟩:=rx
  cases y with
  | non=>cases ry;exact PySem.EqNone.eq_int_none (bI I q (by simp))
  | int j=>obtain⟨t',rfl⟩:=ry;exact eq_int (bI I q pW)
  | str j=>obtain⟨t',rfl⟩:=ry;exact PySem.EqMixed.eq_int_str (bI I q (by simp))
  | _=>exact absurd (show false=true from hs) aeM
 | str i =>
  obtain⟨t,rfl⟩:=rx
  cases y with
  | non=>cases ry;exact PySem.EqNone.eq_str_none (bI I q (by simp))
  | bl j=>cases ry;exact PySem.EqMixed.eq_str_bool (bI I q (by simp))
  | int j=>obtain⟨t',rfl⟩:=ry;exact PySem.EqMixed.eq_str_int (bI I q (by simp))
  | str j=>obtain⟨t',rfl⟩:=ry;exact eq_str (bI I q xH)
  | _=>exact absurd (show false=true from hs) aeM
 | byt i =>
  obtain⟨t,rfl⟩:=rx
  cases y with
  | byt j=>obtain⟨t',rfl⟩:=ry;exact PySem.W.eq_bytes (bI I q xJ)
  | _=>exact absurd (show false=true from hs) aeM
 | _=>cases y<;>exact absurd (show false=true from hs) aeM
theorem zf:OpR X (compareOp .NotEq) rNe:=by
 intro pins s σ H x y v u Q I rx ry h
 obtain⟨hs,q⟩:=h
 cases x with
 | non =>
  cases rx
  cases y with
  | non=>cases ry;exact PySem.EqNone.ne_none_none (bI I q (by simp))
  | bl j=>cases ry;exact PySem.EqNone.ne_none_bool (bI I q (by simp))
  | int j=>obtain⟨t',rfl⟩:=ry;exact PySem.EqNone.ne_none_int (bI I q (by simp))
  | str j=>obtain⟨t',rfl⟩:=ry;exact PySem.EqNone.ne_none_str (bI I q (by simp))
  | _=>exact absurd (show false=true from hs) aeM
 | bl i =>
  cases rx
  cases y with
  | non=>cases ry;exact PySem.EqNone.ne_bool_none (bI I q (by simp))
  | bl j=>cases ry;exact ne_bool (bI I q (aft not aaS))
  | str j=>obtain⟨t',rfl⟩:=ry;exact PySem.EqMixed.ne_bool_str (bI I q (by simp))
  | _=>exact absurd (show false=true from hs) aeM
 | int i =>
  obtain⟨t,rfl⟩:=rx
  cases y with
  | non=>cases ry;exact PySem.EqNone.ne_int_none (bI I q (by simp))
  | int j=>obtain⟨t',rfl⟩:=ry;exact ne_int (bI I q (aft not pW))
  | str j=>obtain⟨t',rfl⟩:=ry;exact PySem.EqMixed.ne_int_str (bI I q (by simp))
  | _=>exact absurd (show false=true from hs) aeM
 | str i =>
  obtain⟨t,rfl⟩:=rx
  cases y with
  | non=>cases ry;exact PySem.EqNone.ne_str_none (bI I q (by simp))
  | bl j=>cases ry;exact PySem.EqMixed.ne_str_bool (bI I q (by simp))
  | int j=>obtain⟨t',rfl⟩:=ry;exact PySem.EqMixed.ne_str_int (bI I q (by simp))
  | str j=>obtain⟨t',rfl⟩:=ry;exact ne_str (bI I q (aft not xH))
  | _=>exact absurd (show false=true from hs) aeM
 | byt i =>
  obtain⟨t,rfl⟩:=rx
  cases y with
  | byt j=>obtain⟨t',rfl⟩:=ry;exact PySem.W.ne_bytes (bI I q (aft not xJ))
  | _=>exact absurd (show false=true from hs) aeM
 | _=>cases y<;>exact absurd (show false=true from hs) aeM
theorem acJ:OpR X (compareOp .Lt) (rI0 fun i j=>.bl (decide (i < j))):=ade fun _ _ _ _ _ _ _ q=>lt_int q
theorem wO:OpR X (compareOp .LtE) (rI0 fun i j=>.bl (decide (i<=j))):=ade fun _ _ _ _ _ _ _ q=>le_int q
theorem za:OpR X (compareOp .Gt) (rI0 fun i j=>.bl (decide (j < i))):=ade fun _ _ _ _ _ _ _ q=>gt_int q
theorem ack:OpR X (compareOp .GtE) (rI0 fun i j=>.bl (decide (j<=i))):=ade fun _ _ _ _ _ _ _ q=>ge_int q
theorem yG:OpR X (compareOp .In) (fun x y H Q=>∃ i j,x=.str i/\y=.str j/\Q (.bl (!(Builtin.Str.occurrences j i 0 j.length 1).isEmpty)) H):=by
 intro pins s σ H x y v u Q I rx ry h
 obtain⟨i,j,rfl,rfl,q⟩:=h
 obtain⟨t,rfl⟩:=rx
 obtain⟨t',rfl⟩:=ry
 exact in_str (bI I q rfl)
theorem abU:OpR X (compareOp .IsNot) (fun x y H Q=>y=.non/\Q (.bl (!decide (x=.non))) H):=by
 intro pins s σ H x y v u Q I rx ry h
 obtain⟨rfl,q⟩:=h
 cases ry
 refine isnot_none_gen (bI I q ?_)
 cases x<;>first
  | (cases rx;rfl)
  | (obtain⟨t,rfl⟩:=rx;rfl)
theorem bj (b:Expr){op:CmpOp}(h:op≠.In:=by decide)(h2:op≠.NotIn:=by decide):behindInMarks op b=false:=by
 have e1:(op == CmpOp.In)=false:=by cases op<;>first | rfl | exact absurd rfl h
 have e2:(op == CmpOp.NotIn)=false:=by cases op<;>first | rfl | exact absurd rfl h2
 cases b<;>simp [behindInMarks,e1,e2]
theorem cV {op:CmpOp}{r:R2}(ho:OpR X (compareOp op) r)(ha:PE X a ta)(hb:PE X b tb)(hm:behindInMarks op b=false):PE X (.Compare a [op] [b] pos) (tOp r ta tb):=by
 intro pins s σ H Q I h
 exact wpAny_Compare1 (adA ha hb I h fun v u s2 x y H2 I2 rx ry q=>ho pins s2 σ H2 x y v u Q I2 rx ry q) hm
def acm (t:TE):TT:=fun σ H Q=>t σ H fun x H'=>∃ k,x=.bl k/\Q k H'
theorem aX {op:CmpOp}{r:R2}(ho:OpR X (compareOp op) r)(ha:PE X a ta)(hb:PE X b tb)(hm:behindInMarks op b=false):PT X (.Compare a [op] [b] pos) (acm (tOp r ta tb)):=by
 intro pins s σ H Q I h
 refine wpAny_isTrue_Compare1 (thn (ha pins s σ H _ I h) fun v s1 ⟨x,H1,I1,r1,q1⟩=>thn (hb pins s1 σ H1 _ I1 q1) fun u s2 ⟨y,H2,I2,r2,q2⟩ =>
  thn (ho pins s2 σ H2 x y v u _ I2 r1 r2 q2) fun c s3 ⟨z,H3,I3,r3,k,e,q3⟩=>?_) hm
 subst e
 cases r3
 exact afL ⟨H3,I3,q3⟩
def aaH (r r':R2)(ta tb tc:TE):TE:=fun σ H Q=>ta σ H fun x H1=>tb σ H1 fun y H2=>r x y H2 fun z H3=>∃ k,z=.bl k ∧
 (if k=true then tc σ H3 fun w' H4=>r' y w' H4 Q else Q (.bl false) H3)
theorem zH {op op':CmpOp}{r r':R2}(ho:OpR X (compareOp op) r)(ho':OpR X (compareOp op') r')(ha:PE X a ta)(hb:PE X b tb)(hc:PE X c tc)
 (hm:lastMarks [op,op'] [b,c]=false:=by with_unfolding_all rfl):PE X (.Compare a [op,op'] [b,c] pos) (aaH r r' ta tb tc):=by
 intro pins s σ H Q I h
 refine Compare_chain (thn (ha pins s σ H _ I h) fun v s1 ⟨x,H1,I1,r1,q1⟩=>chain_link (thn (hb pins s1 σ H1 _ I1 q1) fun u s2 ⟨y,H2,I2,r2,q2⟩ =>
  thn (ho pins s2 σ H2 x y v u _ I2 r1 r2 q2) fun d s3 ⟨z,H3,I3,r3,k,e,q3⟩=>?_)) hm
 subst e
 cases r3
 refine afL ?_
 cases k with
 | false=>exact ite_ff ⟨.bl false,H3,I3,rfl,q3⟩
 | true=>exact ite_tt (chain_last (thn (hc pins s3 σ H3 _ I3 q3) fun w' s4 ⟨z',H4,I4,r4,q4⟩=>ho' pins s4 σ H4 y z' u w' Q I4 r2 r4 q4))
theorem uE {op op':CmpOp}{r r':R2}(ho:OpR X (compareOp op) r)(ho':OpR X (compareOp op') r')(ha:PE X a ta)(hb:PE X b tb)(hc:PE X c tc)
 (hm:lastMarks [op,op'] [b,c]=false:=by with_unfolding_all rfl):PT X (.Compare a [op,op'] [b,c] pos) (acm (aaH r r' ta tb tc)):=by
 intro pins s σ H Q I h
 refine isTrue_chain (thn (ha pins s σ H _ I h) fun v s1 ⟨x,H1,I1,r1,q1⟩=>test_link (thn (hb pins s1 σ H1 _ I1 q1) fun u s2 ⟨y,H2,I2,r2,q2⟩ =>
  thn (ho pins s2 σ H2 x y v u _ I2 r1 r2 q2) fun d s3 ⟨z,H3,I3,r3,k,e,q3⟩=>?_)) hm
 subst e
 cases r3
 refine afL ?_
 cases k with
 | false =>
  obtain⟨k',e',q'⟩:=q3
  cases e'
  exact ite_ff ⟨H3,I3,q'⟩
 | true =>
  refine ite_tt (test_last (thn (hc pins s3 σ H3 _ I3 q3) fun w' s4 ⟨z',H4,I4,r4,q4⟩=>thn (ho' pins s4 σ H4 y z' u w' _ I4 r2 r4 q4) fun d' s5 ⟨z2,H5,I5,r5,k2,e2,q5⟩=>?_))
  subst e2
  cases r5
  exact afL ⟨H5,I5,q5⟩
def ady (K:PySem.W.Frag)(x:V)(H:Hp)(k:Bool):Prop :=
 match x with
 | .non=>k=false
 | .bl b=>k=b
 | .int i=>k=(i != 0)
 | .str y=>y.length<=sizeLine/\k=((y.length:Int) != 0)
 | .byt y=>y.size<=sizeLine/\k=((y.size:Int) != 0)
 | .ref p=>(∃ xs,SqL K H p xs/\k=!xs.isEmpty)\/(∃ xs,SqT K H p xs/\k=!xs.isEmpty)\/∃ kvs,H p=some (.dK kvs)/\k=!kvs.isEmpty
 | _=>False
theorem vS {κ:Type}{kvs:List (κ×V)}{vs:List (κ×Value)}(r:KV kvs vs):(!vs.isEmpty)=!kvs.isEmpty:=by
 cases r<;>rfl
theorem ox {xs:List V}{its:List Value}(r:Vals xs its):(!its.toArray.isEmpty)=!xs.isEmpty:=by
 cases r<;>simp
theorem jA:(sizeLine:Nat) < 2 ^ 63:=by rw [sizeLine_eq];decide
theorem aaz:aep X (fun x H Q=>∃ k,ady X.K x H k/\Q k H):=by
 intro pins s σ H x v Q I rx h
 obtain⟨k,e,q⟩:=h
 have hl:=jA
 have hs:sizeLine=16777216:=sizeLine_eq
 cases x with
 | non =>
  cases rx
  have e':k=false:=e
  subst e'
  exact truthy_none ⟨H,I,q⟩
 | bl b =>
  cases rx
  have e':k=b:=e
  subst e'
  exact afL ⟨H,I,q⟩
 | int i =>
  obtain⟨t,rfl⟩:=rx
  have e':k=(i != 0):=e
  subst e'
  exact PySem.P.truthy_int ⟨H,I,q⟩
 | str y =>
  obtain⟨t,rfl⟩:=rx
  obtain⟨hy,e'⟩:y.length<=sizeLine/\k=((y.length:Int) != 0):=e
  subst e'
  exact PySem.P.truthy_str (by omega) ⟨H,I.tok _,q⟩
 | byt y =>
  obtain⟨t,rfl⟩:=rx
  obtain⟨hy,e'⟩:y.size<=sizeLine/\k=((y.size:Int) != 0):=e
  subst e'
  exact PySem.W.truthy_bytes (by omega) ⟨H,I.tok _,q⟩
 | ref p =>
  cases rx
  have e':(∃ xs,SqL X.K H p xs/\k=!xs.isEmpty)\/(∃ xs,SqT X.K H p xs/\k=!xs.isEmpty)\/∃ kvs,H p=some (.dK kvs)/\k=!kvs.isEmpty:=e
  rcases e' with ⟨xs,hx,e'⟩ | ⟨xs,hx,e'⟩ | ⟨kvs,hx,e'⟩
  ·subst e'
   obtain⟨its,r,pl,hz⟩:=I.list hx
   have hlen:=r.length
   exact wpAny_truthy_list pl.isList (by simp only [aeU];omega) ⟨H,I.tok _,by rw [ox r];exact q⟩
  ·subst e'
   obtain⟨its,r,pl,hz⟩:=I.tuple hx
   have hlen:=r.length
   exact truthy_tuple pl (by simp only [aeU];omega) ⟨H,I.tok _,by rw [ox r];exact q⟩
  ·subst e'
   obtain⟨hz,hS,vs,r,m⟩:kvs.length<=sizeLine/\(p == sysModules)=false/\∃ vs,KV kvs vs/\s.heap.DictOf (bz X.prog X.w) p vs:=I.hok p _ hx
   have hlen:kvs.length=vs.length:=ajt r
   exact wpAny_truthy_dict hS m (by omega) ⟨H,I.tok _,by rw [vS r];exact q⟩
 | _=>exact (show False from e).elim
theorem o8 (ha:PE X a ta)(he:∀ whole,isTrue a X.env whole=(do let v ← whole;standAt a.pos;holding [v] (truthy v))) :
 PT X a (fun σ H Q=>ta σ H fun x H'=>∃ k,ady X.K x H' k/\Q k H'):=by
 intro pins s σ H Q I h
 exact isTrue_plain (thn (ha pins s σ H _ I h) fun v s1 ⟨x,H1,I1,r1,q1⟩=>aaz pins s1 σ H1 x v Q I1 r1 q1) (he _)
theorem oB:OpR X (binaryOp .Add) (fun x y H Q=>∃ i j,x=.str i/\y=.str j/\i.length+j.length<=sizeLine/\Q (.str (i++j)) H):=by
 intro pins s σ H x y v u Q I rx ry h
 obtain⟨i,j,rfl,rfl,hz,q⟩:=h
 obtain⟨t,rfl⟩:=rx
 obtain⟨t',rfl⟩:=ry
 exact add_str (fun t' tk=>⟨.str (i++j),H,I.tok _,⟨_,rfl⟩,q⟩) hz
theorem gY {x:V}{us:List Value}(r:Vals [x] us):∃ u,us=[u]/\RelV x u:=by
 cases r with
 | cons r1 r2=>cases r2;exact⟨_,rfl,r1⟩
theorem abw {x y:V}{us:List Value}(r:Vals [x,y] us):∃ u w',us=[u,w']/\RelV x u/\RelV y w':=by
 cases r with
 | cons r1 r2 =>
  cases r2 with
  | cons r3 r4=>cases r4;exact⟨_,_,rfl,r1,r3⟩
theorem yV (hc:X.calm=true):fu X (.builtin "max") (fun xs H Q=>∃ i j,xs=[.int i,.int j]/\Q (.int (if j > i then j else i)) H):=by
 intro pins s σ H xs us Q I r h
 obtain⟨i,j,rfl,q⟩:=h
 obtain⟨u,w',rfl,⟨t,rfl⟩,⟨t',rfl⟩⟩:=abw r
 refine max_two_ints (I.ok.hd hc) fun h' tk k=>⟨_,H,I.kept k,?_,q⟩
 by_cases hj:j > i
 ·rw [if_pos hj,if_pos hj];exact⟨_,rfl⟩
 ·rw [if_neg hj,if_neg hj];exact⟨_,rfl⟩
theorem qP (hc:X.calm=true):fu X (.builtin "min") (fun xs H Q=>∃ i j,xs=[.int i,.int j]/\Q (.int (if j < i then j else i)) H):=by
 intro pins s σ H xs us Q I r h
 obtain⟨i,j,rfl,q⟩:=h
 obtain⟨u,w',rfl,⟨t,rfl⟩,⟨t',rfl⟩⟩:=abw r
 refine min_two_ints (I.ok.hd hc) fun h' tk k=>⟨_,H,I.kept k,?_,q⟩
 by_cases hj:j < i
 ·rw [if_pos hj,if_pos hj];exact⟨_,rfl⟩
 ·rw [if_neg hj,if_neg hj];exact⟨_,rfl⟩
theorem rk:fu X (.type "int") (fun xs H Q=>(∃ i,xs=[.int i]/\Q (.int i) H)\/∃ k,xs=[.bl k]/\Q (.int (if k then 1 else 0)) H):=by
 intro pins s σ H xs us Q I r h
 rcases h with ⟨i,rfl,q⟩ | ⟨k,rfl,q⟩
 ·obtain⟨u,rfl,t,rfl⟩:=gY r
  exact call_int_int ⟨.int i,H,I,⟨_,rfl⟩,q⟩
 ·obtain⟨u,rfl,r1⟩:=gY r
  cases r1
  exact call_int_bool ⟨.int (if k then 1 else 0),H,I.tok _,⟨_,rfl⟩,q⟩
end
structure ObjM (h:Heap)(x dx C:Addr)(mA:Str->Option Value):Prop where
 obj:h.get? x=some (PySem.W.instObj C dx)
 ns:h.Ns1 dx mA
 ne:dx≠x
theorem yP {h:Heap}{dx:Addr}{mA:Str->Option Value}(n:h.Ns1 dx mA):∃ od,h.get? dx=some od/\∀ name,PySem.W.lookIn name od=some (mA name):=by
 obtain⟨o,es,ep,ho,hd,hk,_,hm⟩:=n
 refine⟨o,ho,fun name=>?_⟩
 have e:=hm name
 unfold nsFind findBy at e
 rw [← Array.find?_toList] at e
 unfold PySem.W.lookIn
 rw [hd]
 dsimp only
 split
 ·rename_i y q
  rw [q] at e
  exact aft some e
 ·rename_i q
  rw [q] at e
  have a:es.toList.any (·.refKey)=false:=by
   rw [List.any_eq_false]
   intro y hy
   obtain⟨z,t,hkey⟩:=hk y (Array.mem_toList_iff.mp hy)
   simp [DictEntry.refKey,hkey]
  have a':¬ es.toList.any (·.refKey)=true:=by rw [a];exact aeM
  rw [if_neg a']
  exact aft some e
theorem ObjM.look {h:Heap}{x dx C:Addr}{mA:Str->Option Value}(I:ObjM h x dx C mA):∃ od,PySem.W.InstAt h x (PySem.W.instObj C dx) C (some od)/\∀ name,PySem.W.lookIn name od=some (mA name) :=
 let ⟨od,ho,hl⟩:=yP I.ns
 ⟨od,⟨I.obj,rfl,rfl,ho⟩,hl⟩
section
variable {prog:Program}{w:World}{A:Around}{E:Value->Shared->Prop}{s:Shared}{K:PySem.W.Frag}{x dx C f:Addr}{mA:Str->Option Value}{name:Str}{v:Value}
end
theorem RelO.some_of {v:V}{o:Option Value}(r:RelO (some v) o):∃ u,o=some u/\RelV v u:=by
 cases o with
 | none=>exact (show False from r).elim
 | some u=>exact⟨u,rfl,r⟩
section
variable {P:Program}{w:World}{H H':Hp}{h h':Heap}{a C dx:Addr}{fs fs':List (Str×V)}
theorem aa2 (hok:HOk P w H h)(e:H a=some (.ins C dx fs)):∃ mA,ObjM h a dx C mA/\(∀ f,RelO (fs.lookup f) (mA f))/\PySem.Within mA (fs.map (·.1))/\fs.length<=1000/\H dx=some (.own a):=by
 obtain⟨d,z,ne,ob,mA,n,r,q⟩:=(show ObjOk P w H h a (.ins C dx fs) from hok a _ e)
 exact⟨mA,⟨ob,n,ne⟩,r,q,z,d⟩
end
structure Cls (K:PySem.W.Frag)(C:Addr):Prop where
 pg:PySem.W.plainGet K C Str.empty=true
 hd:PySem.W.hasDictIn K C=true
 po:PySem.W.plainOver K C=true
 sa:PySem.W.findIn K (.ref C) "__setattr__" = some (some (.builtin "object.__setattr__"))
theorem Cls.get {K:PySem.W.Frag}{C:Addr}(c:Cls K C)(f:Str):PySem.W.plainGet K C f=true:=c.pg
section
variable {X:Cx}{pins:List (Addr×Obj)}{σ:St}{H:Hp}{s:Shared}{a C dx:Addr}{fs:List (Str×V)}{f:Str}{v:V}{A:Around}{E:Value->Shared->Prop}
end
section
variable {X:Cx}{o e value:Expr}{f:Str}{pos pos' tpos:Pos}{ta tv:TE}
end
section
variable {X:Cx}{pins:List (Addr×Obj)}{σ:St}{H:Hp}{s:Shared}{A:Around}{E:Value->Shared->Prop}{Q:Value->Shared->Prop}{c:Value}{b:Bool}
inductive wg (K:PySem.W.Frag)(H:Hp):V->Value->Prop where
 | non:wg K H .non (.type "NoneType")
 | bl (x:Bool):wg K H (.bl x) (.type "bool")
 | int (i:Int):wg K H (.int i) (.type "int")
 | str (x:Str):wg K H (.str x) (.type "str")
 | flt (x:UInt64):wg K H (.flt x) (.type "float")
 | lst {a:Addr} {xs:List V} (e:H a=some (.lst xs)):wg K H (.ref a) (.type "list")
 | frz {a:Addr} {o:Obj} {xs:List V} (e:H a=some (.frz o (.lst xs))):wg K H (.ref a) (.type "list")
 | tup {a:Addr} {xs:List V} (e:H a=some (.tup xs)):wg K H (.ref a) (.type "tuple")
 | dK {a:Addr} {kvs:List (Key×V)} (e:H a=some (.dK kvs)):wg K H (.ref a) (.type "dict")
 | dT {a:Addr} {kvs:List (List Key×V)} (e:H a=some (.dT kvs)):wg K H (.ref a) (.type "dict")
 | ins {a C dx:Addr} {fs:List (Str×V)} (e:H a=some (.ins C dx fs)) (cl:Cls K C) (ha:PySem.W.findIn K (.ref C) "__class__" = some (some (.builtin "object.__class__")))
  (hn:PySem.W.specialIn K (.builtin "object.__class__") "__get__" = some (some (.builtin "getset_descriptor.__get__"))) (htk:PySem.W.takesIn K (.builtin "object.__class__")=some true)
  (hm:PySem.W.mroIn K C (.type "object")=some true):wg K H (.ref a) (.ref C)
theorem xM {x:V}{u t:Value}(I:Inv X pins σ H s)(rx:RelV x u)(ty:wg X.K H x t)(e:PySem.W.kitOne X.K t c=some b)(h:∀ tk,Q (.bool b) { s with toks:=tk }) :
 wpAny (model X.prog X.w) A (call (.builtin "isinstance") [u,c]) Q E s:=by
 cases ty with
 | non=>cases (show u=Value.none from rx);exact aga PySem.W.kitx_none I.kIn True.intro e (fun z=>nomatch z) h
 | bl y=>cases (show u=Value.bool y from rx);exact aga PySem.W.kitx_bool I.kIn True.intro e (fun z=>nomatch z) h
 | int i=>obtain⟨t,q⟩:=(show ∃ t,u=Value.int i t from rx);cases q;exact aga PySem.W.kitx_int I.kIn True.intro e (fun z=>nomatch z) h
 | str y=>obtain⟨t,q⟩:=(show ∃ t,u=Value.str y t from rx);cases q;exact aga PySem.W.kitx_str I.kIn True.intro e (fun z=>nomatch z) h
 | flt y=>obtain⟨t,q⟩:=(show ∃ t,u=Value.float y t from rx);cases q;exact aga PySem.W.kitx_float I.kIn True.intro e (fun z=>nomatch z) h
 | @lst a xs ea =>
  cases (show u=Value.ref a from rx)
  obtain⟨_,_,n,_,h1⟩:=(show ObjOk X.prog X.w H s.heap a (.lst xs) from I.hok a _ ea)
  exact aga PySem.W.kitx_list I.kIn ⟨_,h1,rfl⟩ e (fun z=>nomatch z) h
 | @frz a ob xs ea =>
  cases (show u=Value.ref a from rx)
  obtain⟨_,_,_,n,_,h1⟩:=(show ObjOk X.prog X.w H s.heap a (.frz ob (.lst xs)) from I.hok a _ ea)
  exact aga PySem.W.kitx_list I.kIn ⟨_,h1,rfl⟩ e (fun z=>nomatch z) h
 | @tup a xs ea =>
  cases (show u=Value.ref a from rx)
  obtain⟨_,_,_,p⟩:=(show ObjOk X.prog X.w H s.heap a (.tup xs) from I.hok a _ ea)
  obtain⟨o,h1,h2,_⟩:=p
  exact aga PySem.W.kitx_tuple I.kIn ⟨o,h1,h2⟩ e (fun z=>nomatch z) h
 | @dK a kvs ea =>
  cases (show u=Value.ref a from rx)
  obtain⟨_,_,vs,_,p⟩:=(show ObjOk X.prog X.w H s.heap a (.dK kvs) from I.hok a _ ea)
  obtain⟨o,es,ep,h1,h2,_⟩:=p
  exact aga PySem.W.kitx_dict I.kIn ⟨o,h1,h2.1⟩ e (fun z=>nomatch z) h
 | @dT a kvs ea =>
  cases (show u=Value.ref a from rx)
  obtain⟨_,_,xs,_,o,es,ep,h1,h2,_⟩:=(show ObjOk X.prog X.w H s.heap a (.dT kvs) from I.hok a _ ea)
  exact aga PySem.W.kitx_dict I.kIn ⟨o,h1,h2.1⟩ e (fun z=>nomatch z) h
 | @ins a C dx fs ea cl ha hn htk hm =>
  cases (show u=Value.ref a from rx)
  obtain⟨mA,O,_⟩:=aa2 I.hok ea
  obtain⟨od,J,_⟩:=O.look
  exact aga (PySem.W.kitx_own (cl.get _) cl.hd ha hn htk hm) I.kIn J e (fun z=>nomatch z) h
end
structure Room (k:Nat)(A:Around):Prop where
 hd:A.handled=none
 dp:A.depth+3 * k+5 < recursionLimit
 un:A.units+16 * k+200 < cLine
theorem Room.mono {j k:Nat}{A:Around}(r:Room k A)(h:j<=k):Room j A:=⟨r.hd,by have:=r.dp;omega,by have:=r.un;omega⟩
theorem Room.deeper {k:Nat}{A:Around}(r:Room (k+1) A)(env:Env):Room k (A.deeper env) :=
 ⟨r.hd,by have:=r.dp;show A.depth+1+3 * k+5 < _;omega,by have:=r.un;show A.units+3+16 * k+200 < _;omega⟩
theorem Room.depth {k:Nat}{A:Around}(r:Room k A):A.depth < recursionLimit:=by have:=r.dp;omega
theorem Room.units {k:Nat}{A:Around}(r:Room k A):A.units+64 < cLine:=by have:=r.un;omega
def mP:TA:=fun _ H Q=>Q [] H
def gq (ta:TE)(tr:TA):TA:=fun σ H Q=>ta σ H fun x H1=>tr σ H1 fun xs H2=>Q (x::xs) H2
section
variable {X:Cx}{e:Expr}{es:List Expr}{te:TE}{t:TA}{pos:Pos}
theorem ai:PA X [] mP:=fun _ _ _ _ H Q I h=>ahx ⟨[],H,I,.nil,h⟩
theorem ae (ha:PE X e te)(hr:PA X es t)(hs:starEach (e::es) X.env=(false,eval e X.env)::starEach es X.env:=by rfl):PA X (e::es) (gq te t):=by
 intro pos pins s σ H Q I h
 rw [hs]
 show wpAny _ _ (spliced ((false,eval e X.env)::backTo pos (starEach es X.env))) _ _ s
 refine agW (thn (ha pins s σ H _ I h) fun u s1 ⟨x,H1,I1,r1,q1⟩=>?_)
 exact thn (hr pos pins s1 σ H1 _ I1 q1) fun us s2 ⟨xs,H2,I2,r2,q2⟩=>⟨x::xs,H2,I2,.cons r1 r2,q2⟩
def adt (t:TA):TE:=fun σ H Q=>t σ H fun xs H1=>xs.length<=sizeLine/\∀ p,H1 p=none->Q (.ref p) (upd H1 p (.tup xs))
def adZ (t:TA):TE:=fun σ H Q=>t σ H fun xs H1=>xs.length<=sizeLine/\∀ p,H1 p=none->Q (.ref p) (upd H1 p (.lst xs))
theorem fX {x1}(h:PA X es t):PE X (.Tuple es x1 pos) (adt t):=by
 intro pins s σ H Q I hq
 refine wpAny_Tuple_spliced (thn (h pos pins s σ H _ I hq) fun us s1 ⟨xs,H1,I1,r,z,q⟩=>⟨by rw [← r.length];exact z,?_⟩)
 have hf:H1 s1.heap.objs.size=none:=I1.hok.fresh (aeN _)
 refine⟨.ref s1.heap.objs.size,upd H1 s1.heap.objs.size (.tup xs),I1.laid (t':=s1.toks) (fun b u e=>aeH _ e) (aeN _) ?_,rfl,q _ hf⟩
 exact⟨z,us,r,⟨_,aeY _ rfl,rfl,_,rfl⟩⟩
theorem gT (h:PA X es t):PE X (.List es pos) (adZ t):=by
 intro pins s σ H Q I hq
 refine wpAny_List_spliced (thn (h pos pins s σ H _ I hq) fun us s1 ⟨xs,H1,I1,r,z,q⟩=>⟨by rw [← r.length];exact z,?_⟩)
 have hf:H1 s1.heap.objs.size=none:=I1.hok.fresh (aeN _)
 refine⟨.ref s1.heap.objs.size,upd H1 s1.heap.objs.size (.lst xs),I1.laid (t':=s1.toks) (fun b u e=>aeH _ e) (aeN _) ?_,rfl,q _ hf⟩
 exact⟨z,us,0,r,aeY _ rfl⟩
end
abbrev Sp:=List V->Hp->VK->XK->Prop
abbrev CXT:=List Env->Hp->Shared->XK->Value->Shared->Prop
structure adg (P:Program)(w:World)(K:PySem.W.Frag)(mg:Str->Option Value)(base:Heap)(A:Around)(outer:List Env)(s:Shared)(H:Hp):Prop where
 frames:A.frames=some outer
 mod:Mod K mg base
 bs:∀ b o,base.get? b=some o->s.heap.get? b=some o/\H b=none
 bsz:base.objs.size<=s.heap.objs.size
 funs:s.heap.FunFrames base outer
 frf:∀ b∈frs outer,H b=none
 hok:HOk P w H s.heap
 bare:AllBare s.gens
def CE (outer:List Env)(P:Program)(w:World)(H:Hp)(s:Shared)(Q:VK)(u:Value)(s':Shared):Prop :=
 ∃ v H',s'.os=s.os/\AllBare s'.gens/\Un (frs outer) [] H H' s.heap s'.heap/\HOk P w H' s'.heap/\RelV v u/\Q v H'
def CR (CX:CXT)(outer:List Env)(P:Program)(w:World)(H:Hp)(s:Shared)(Q:VK)(E:XK)(r:Result)(s':Shared):Prop :=
 match r with
 | .ok (.ret u)=>CE outer P w H s Q u s'
 | .ok _=>False
 | .error e=>CX outer H s E e s'
structure aV (P:Program)(w:World)(K:PySem.W.Frag)(mg:Str->Option Value)(base:Heap)(CX:CXT)(k:Nat)(f:Addr)(fd:FuncData)(ps:List Str)(sp:Sp):Prop where
 len:∀ vs H Q E,sp vs H Q E->vs.length=ps.length
 run:∀ (A:Around) (outer:List Env) (s:Shared) (H:Hp) (args:Args) (us:List Value) (vs:List V) (Q:VK) (E:XK),Room k A->adg P w K mg base A outer s H->BindsTo s fd args (ps.zip us)->Vals vs us->sp vs H Q E →
  codeAny (model P w) A (.call (.ref f) args) (CR CX outer P w H s Q E) s
section
variable {X:Cx}{pins:List (Addr×Obj)}{σ:St}{H:Hp}{s s':Shared}
theorem Inv.env0 (I:Inv X pins σ H s):adg X.prog X.w X.K X.mg X.base X.A X.stack s H :=
 ⟨I.ok.frames,I.ok.mod,I.bs,afk I.ok.bsz I.sz,I.stack,I.stkFree,I.hok,I.bare⟩
theorem Inv.after {Q:VK}{u:Value}(I:Inv X pins σ H s)(h:CE X.stack X.prog X.w H s Q u s'):EP X pins σ Q u s':=by
 obtain⟨v,H',os,bare,un,hok,r,q⟩:=h
 obtain⟨hh,g,d,t,os'⟩:=s'
 obtain rfl:os'=s.os:=os
 exact⟨v,H',I.call (h':=hh) (g':=g) (d':=d) (t':=t) (ch:=[]) un hok bare (fun b z=>absurd z (by simp)),r,q⟩
end
def aal (sp:Sp)(dvs:List V)(E:XK)(t:TA):TE:=fun σ H Q=>t σ H fun vs H1=>sp (vs++dvs) H1 Q E
def Binds (K:PySem.W.Frag)(fd:FuncData)(ps:List Str)(ds:List Value):Prop :=
 ∀ (s:Shared) (us:List Value),K.In s.heap->(us++ds).length=ps.length->BindsTo s fd ⟨us,[]⟩ (ps.zip (us++ds))
theorem Binds.all {K:PySem.W.Frag}{fd:FuncData}{ps:List Str}(h:∀ us:List Value,us.length=ps.length->bindArgs fd ⟨us,[]⟩=pure (ps.zip us)):Binds K fd ps []:=fun s us _ hl=>by
 rw [afw] at hl ⊢
 exact .of_eq (h us hl)
def wF (CX:CXT)(X:Cx)(E:XK):Prop:=∀ (pins:List (Addr×Obj)) (σ:St) (H:Hp) (s:Shared) (e:Value) (s':Shared),Inv X pins σ H s->CX X.stack H s E e s'->X.xe e s'
section
variable {X:Cx}{CX:CXT}{k:Nat}{f C:Addr}{fd:FuncData}{ps:List Str}{sp:Sp}{dvs:List V}{ds:List Value}{E:XK}{x m:Str}{p pos apos:Pos}{e o:Expr}{es:List Expr}{ta:TE}{t:TA}
theorem ac6 {pins:List (Addr×Obj)}{σ:St}{H:Hp}{s:Shared}{Q:VK}{us:List Value}{vs:List V}(F:aV X.prog X.w X.K X.mg X.base CX k f fd ps sp)(hr:Room k X.A)(hb:Binds X.K fd ps ds)(hd:Vals dvs ds)(hx:wF CX X E)
 (I:Inv X pins σ H s)(r:Vals vs us)(h:sp (vs++dvs) H Q E):wpAny (model X.prog X.w) X.A (call (.ref f) us) (EP X pins σ Q) X.xe s:=by
 have r2:Vals (vs++dvs) (us++ds):=r.append hd
 have hl:(us++ds).length=ps.length:=by rw [← r2.length];exact F.len _ _ _ _ h
 refine wpAny_call (agX (F.run X.A X.stack s H ⟨us,[]⟩ (us++ds) (vs++dvs) Q E hr I.env0 (hb s us I.kIn hl) r2 h) fun r s' hq=>?_)
 cases r with
 | error e=>exact hx pins σ H s e s' I hq
 | ok fl =>
  cases fl with
  | ret u=>exact I.after hq
  | next=>exact False.elim hq
  | brk=>exact False.elim hq
  | cont=>exact False.elim hq
theorem ax (F:aV X.prog X.w X.K X.mg X.base CX k f fd ps sp)(hr:Room k X.A)(hg:Gl X x)(hm:X.mg x=some (.ref f))(hk:PySem.W.keepIn X.K (.ref f)=true)(hb:Binds X.K fd ps ds)(hd:Vals dvs ds)(hx:wF CX X E)
 (ha:PA X (e::es) t)(hdb:(x == ("__debug__" : Str))=false:=by decide)(he:starEach (e::es) X.env=(false,eval e X.env)::starEach es X.env:=by rfl)(hpl:(backTo pos (starEach es X.env)).any (·.1)=false:=by rfl) :
 PE X (.Call (.Name x p) (e::es) [] pos) (aal sp dvs E t):=by
 intro pins s σ H Q I h
 refine ahn (xA I hg hm ?_ hdb)
 refine PySem.W.callWith_K (h₀:=X.base) I.ok.mod.kin hk (thn (ha pos pins s σ H _ I h) fun us s1 ⟨vs,H1,I1,r,q⟩=>⟨I1.kIn,?_⟩) he hpl
 exact ac6 F hr hb hd hx I1 r q
end
section
variable {X:Cx}{CX:CXT}{k:Nat}{f C:Addr}{fd:FuncData}{ps ks:List Str}{sp:Sp}{E:XK}{x m:Str}{p pos apos kpos:Pos}{e o:Expr}{es:List Expr}{kws:List Keyword}{te ta:TE}{t tk:TA}{nm:Option Str}
variable {g:List Value->List Value->List Value}{gV:List V->List V->List V}
end
structure aO (N P:List Str)(sc:Scope):Prop where
 kind:sc.kind=.function
 co:sc.isCoroutine=false
 gen:sc.isGenerator=false
 nd:N.Nodup
 pre:N.take P.length=P
 par:∀ x∈P,sc.names.lookup x=some .local\/sc.names.lookup x=some .cell
 nofree:∀ y∈sc.names,y.2≠.free
theorem qR {kindOf:Str->Option NameKind}{x:Str}:∀ {binds:List (Str×Value)} {m:Str->Option Value},(∀ v,(x,v) ∉ binds)->bindL kindOf binds m x=m x
 | [],_,_=>rfl
 | (n,v)::r,m,h=>by
  unfold bindL
  rw [qR fun w hw=>h w (aeV _ hw)]
  split
  ·have:x≠n:=by rintro rfl;exact h v aeQ
   simp [this]
  ·rfl
theorem qN {kindOf:Str->Option NameKind}{x:Str}:∀ {binds:List (Str×Value)} {m:Str->Option Value},(∀ v,(x,v) ∉ binds)->bindC kindOf binds m x=m x
 | [],_,_=>rfl
 | (n,v)::r,m,h=>by
  unfold bindC
  rw [qN fun w hw=>h w (aeV _ hw)]
  split
  ·rfl
  ·have:x≠n:=by rintro rfl;exact h v aeQ
   simp [this]
theorem qX {kindOf:Str->Option NameKind}{x:Str}{v:Value}:∀ {P:List Str} {vs:List Value} {i:Nat} {m:Str->Option Value},P.Nodup->P[i]? = some x->vs[i]? = some v->kindOf x=some .local →
 bindL kindOf (P.zip vs) m x=some v
 | [],_,_,_,_,h,_,_=>by simp at h
 | _::_,[],_,_,_,_,h,_=>by simp at h
 | p::P,w::vs,0,m,nd,h1,h2,hk=>by
  simp at h1 h2;subst h1;subst h2
  show bindL kindOf ((p,w)::P.zip vs) m p=_
  unfold bindL
  rw [qR fun v hv=>(afx.mp nd).1 (ajY hv).1,if_pos hk]
  simp
 | p::P,w::vs,i+1,m,nd,h1,h2,hk=>by
  show bindL kindOf ((p,w)::P.zip vs) m x=_
  unfold bindL
  exact qX (i:=i) (afx.mp nd).2 (by simpa using h1) (by simpa using h2) hk
theorem qb {kindOf:Str->Option NameKind}{x:Str}{v:Value}:∀ {P:List Str} {vs:List Value} {i:Nat} {m:Str->Option Value},P.Nodup->P[i]? = some x->vs[i]? = some v->kindOf x≠some .local →
 bindC kindOf (P.zip vs) m x=some v
 | [],_,_,_,_,h,_,_=>by simp at h
 | _::_,[],_,_,_,_,h,_=>by simp at h
 | p::P,w::vs,0,m,nd,h1,h2,hk=>by
  simp at h1 h2;subst h1;subst h2
  show bindC kindOf ((p,w)::P.zip vs) m p=_
  unfold bindC
  rw [qN fun v hv=>(afx.mp nd).1 (ajY hv).1,if_neg hk]
  simp
 | p::P,w::vs,i+1,m,nd,h1,h2,hk=>by
  show bindC kindOf ((p,w)::P.zip vs) m x=_
  unfold bindC
  exact qb (i:=i) (afx.mp nd).2 (by simpa using h1) (by simpa using h2) hk
def qt (N:List Str)(vs:List V):St:=vs.map some++List.replicate (N.length - vs.length) none
def wj (CX:CXT)(P:Program)(w:World)(K:PySem.W.Frag)(mg:Str->Option Value)(base:Heap)(N:List Str)(qual:Str)(scope:Scope)(f:Addr)(cd:Value)(A:Around)(outer:List Env)(s:Shared)(H:Hp)(E:XK):Cx where
 prog:=P
 w:=w
 K:=K
 mg:=mg
 base:=base
 A:=A.deeper (envOfC qual scope s.heap.objs.size f cd)
 N:=N
 s₀:=s
 H₀:=H
 env:=envOfC qual scope s.heap.objs.size f cd
 outer:=outer
 stack:=envOfC qual scope s.heap.objs.size f cd::outer
 ex:=[]
 calm:=true
 fn:=fun _=>true
 pn:=[]
 xe:=fun e s'=>wpAny (model P w) (A.deeper (envOfC qual scope s.heap.objs.size f cd)) (leaving (envOfC qual scope s.heap.objs.size f cd) e) (fun _ s''=>CX outer H s E e s'') (fun e' s''=>CX outer H s E e' s'') s'
theorem uf {sc:Scope}{n:Nat}{x:Str}(h:sc.names.lookup x=some .cell):∃ c,(cellsFrom n sc.names []).lookup x=some c:=by
 have q:=ajN sc.names n [] (.inl h)
 exact ajc.mp q
theorem yB {CX:CXT}{P:Program}{w:World}{K:PySem.W.Frag}{mg:Str->Option Value}{base:Heap}{N ps:List Str}{qual:Str}{scope:Scope}{f:Addr}{cd:Value}{A:Around}{outer:List Env}{s s1:Shared}{H:Hp}{E:XK}{us:List Value}{vs:List V}
 (S:aO N ps scope)(hd:A.handled=none)(e0:adg P w K mg base A outer s H)(hl:vs.length=ps.length)(r:Vals vs us)
 (x:InCallC s s.heap.objs.size (bindL (envOfC qual scope s.heap.objs.size f cd).kindOf (ps.zip us) fun _=>none) (cellsFrom (s.heap.objs.size+1) scope.names []) (bindC (envOfC qual scope s.heap.objs.size f cd).kindOf (ps.zip us) fun _=>none) s1) :
 Inv (wj CX P w K mg base N qual scope f cd A outer s H E) [] (qt N vs) H s1:=by
 have hpl:ps.length<=N.length:=by have:=aft List.length S.pre;rw [ae9] at this;omega
 obtain⟨h1,tk,rfl,hk⟩:=x.done
 have noA:∀ b:Addr,b ∉ (wj CX P w K mg base N qual scope f cd A outer s H E).ex:=fun b z=>absurd (show b∈([]:List Addr) from z) (by simp)
 refine⟨⟨e0.mod,S.kind,rfl,rfl,aeN _,fun y z c h1 h2=>?_,fun y hy=>?_,fun y c _ h=>?_,fun _=>hd,Around.frames_deeper e0.frames,.inr ⟨rfl,rfl⟩,fun b z=>absurd z (noA b),e0.bs,e0.bsz,fun b _ _=>noA b,fun b z=>absurd z (noA b),e0.funs,e0.frf⟩,
  rfl,e0.bare,Un.kept hk,⟨_,x.toInCall.ns,fun i y v h1 h2 h3=>?_⟩,fun y c h=>⟨_,x.cell y c h⟩,e0.hok.fresh (aeN _),fun y c h=>?_,fun p hp=>absurd (show p∈([]:List (Addr×Obj)) from hp) (by simp),e0.hok.kept hk,?_⟩
 ·exact name_of_addr x.apart (aha h1) (aha h2)
 ·have hy:scope.names.lookup y=some .cell\/scope.names.lookup y=some .free:=hy
  rcases hy with hy | hy
  ·exact uf hy
  ·exact absurd rfl (S.nofree _ (aha hy))
 ·exact afb (x.above y c (aha h))
 ·have hi:i < vs.length:=by
   unfold qt at h2
   by_cases hi:i < vs.length
   ·exact hi
   ·rw [afv (by simpa using hi)] at h2
    rw [ahQ] at h2
    split at h2<;>cases h2
  have ha:vs[i]? = some v:=by
   unfold qt at h2
   rw [agy (by simpa using hi),aeP] at h2
   cases e:vs[i]? with
   | none=>rw [e] at h2;cases h2
   | some a=>rw [e] at h2;cases h2;rfl
  obtain⟨u,hu,rv⟩:=r.get ha
  have hp:ps[i]? = some y:=by
   rw [← S.pre,ag3 (by omega)];exact h1
  have ndP:ps.Nodup:=by rw [← S.pre];exact S.nd.sublist (ajd _ _)
  refine⟨u,rv,?_⟩
  rcases S.par y (afg hp) with k | k
  ·exact .inl ⟨k,qX ndP hp hu k⟩
  ·obtain⟨c,e⟩:=uf (n:=s.heap.objs.size+1) k
   refine .inr ⟨.inl k,c,e,?_⟩
   have q:=x.cell y c e
   rw [qb ndP hp hu (by show scope.names.lookup y≠_;rw [k];decide)] at q
   exact q
 ·exact e0.hok.fresh (afb (x.above y c (aha h)))
 ·unfold qt
  show _=N.length
  rw [aeG,aeD,agf]
  omega
theorem adS {CX:CXT}{P:Program}{w:World}{K:PySem.W.Frag}{mg:Str->Option Value}{base:Heap}{k:Nat}{f:Addr}{name qual:Str}{params:Arguments}{body:List Stmt}{scope:Scope}{dV kV doc pm cdv ct oc:Value}{an od:Option Addr}
 {osl:Array (Option Value)}{N ps:List Str}{sp:Sp}(lk:K.lookup f=some ⟨oc,od,.func (PySem.W.fnOf name qual params body scope dV kV doc pm an cdv ct),osl⟩)(hcd:PySem.W.codeIn K cdv qual=true)(S:aO N ps scope)
 (len:∀ vs H Q E,sp vs H Q E->vs.length=ps.length)
 (hbody:∀ (A:Around) (outer:List Env) (s:Shared) (H:Hp) (vs:List V) (Q:VK) (E:XK),Room k (A.deeper (envOfC qual scope s.heap.objs.size f cdv))->sp vs H Q E →
  ∃ t,PSs (wj CX P w K mg base N qual scope f cdv A outer s H E) body t/\t { nx:=fun _ H'=>Q .non H',rt:=Q } (qt N vs) H) :
 aV P w K mg base CX (k+1) f (PySem.W.fnOf name qual params body scope dV kV doc pm an cdv ct) ps sp:=by
 refine⟨len,fun A outer s H args us vs Q E hr e0 hb r hsp=>?_⟩
 have hl:=len _ _ _ _ hsp
 have KX:K.In s.heap:=e0.mod.kin.keeps fun b o e=>(e0.bs b o e).1
 have lim:s.heap.NoLimit:=e0.mod.nolimit.keeps fun b o e=>(e0.bs b o e).1
 have hkind:∀ y∈ps.zip us,scope.names.lookup y.1=some .local\/(scope.names.lookup y.1=some .cell/\((cellsFrom (s.heap.objs.size+1) scope.names []).lookup y.1).isSome=true):=fun ⟨n,v⟩ hy=>by
  rcases S.par n (ajY hy).1 with q | q
  ·exact .inl q
  ·exact .inr ⟨q,ajN _ _ _ (.inl q)⟩
 refine codeAny_call_function hr.depth (KX _ _ lk) rfl S.co S.gen rfl (PySem.W.codeRec_of KX hcd) (hb _ _ _ _ ?_)
 refine wpAny_newFunctionEnv_cells S.kind hkind fun env he s1 x=>?_
 subst he
 refine⟨lim.keeps x.toInCall.keep,codeAny_func ?_⟩
 obtain⟨t,ht,hq⟩:=hbody A outer s H vs Q E (hr.deeper _) hsp
 have I:Inv (wj CX P w K mg base N qual scope f cdv A outer s H E) [] (qt N vs) H s1:=yB S hr.hd e0 hl r x
 refine afu (ht [] s1 (qt N vs) H _ I hq) (fun fl s' hs=>?_) fun e s' hs=>hs
 have fin:∀ {σ':St} {H':Hp} {v:V} {u:Value},Inv (wj CX P w K mg base N qual scope f cdv A outer s H E) [] σ' H' s'->RelV v u->Q v H'->CE outer P w H s Q u s' :=
  fun {σ' H' v u} J rv q=>⟨v,H',J.os,J.bare,J.base,J.hok,rv,q⟩
 cases fl with
 | ret u =>
  obtain⟨v,σ',H',J,rv,q⟩:=hs
  exact fin J rv q
 | next =>
  obtain⟨σ',H',J,q⟩:=hs
  exact fin (v:=V.non) (u:=Value.none) J rfl q
 | brk =>
  obtain⟨_,_,_,q⟩:=hs
  exact False.elim q
 | cont =>
  obtain⟨_,_,_,q⟩:=hs
  exact False.elim q
section
variable {X:Cx}{x:Str}{p pos:Pos}{e:Expr}{es:List Expr}{t:TA}{id T:String}{r:List V->Hp->VK->Prop}
def tCB (r:List V->Hp->VK->Prop)(t:TA):TE:=fun σ H Q=>t σ H fun vs H1=>r vs H1 Q
theorem aw (hc:fu X (.builtin id) r)(hg:Gl X x)(hm:X.mg x=none)(hv:bootBuiltins x=some (.builtin id))(ha:PA X (e::es) t)(hn:x ≠ "__name__" := by decide)(hdb:(x == ("__debug__" : Str))=false:=by decide)
 (he:starEach (e::es) X.env=(false,eval e X.env)::starEach es X.env:=by rfl)(hpl:(backTo pos (starEach es X.env)).any (·.1)=false:=by rfl):PE X (.Call (.Name x p) (e::es) [] pos) (tCB r t):=by
 intro pins s σ H Q I h
 refine ahn (iR I hg hm hv ?_ hn hdb)
 exact PyProof.Rows.callWith_builtin1 (thn (ha pos pins s σ H _ I h) fun us s1 ⟨vs,H1,I1,r1,q1⟩=>hc pins s1 σ H1 vs us Q I1 r1 q1) he hpl
theorem bF (hc:fu X (.type T) r)(hg:Gl X x)(hm:X.mg x=none)(hv:bootBuiltins x=some (.type T))(ha:PA X (e::es) t)(hn:x ≠ "__name__" := by decide)(hdb:(x == ("__debug__" : Str))=false:=by decide)
 (he:starEach (e::es) X.env=(false,eval e X.env)::starEach es X.env:=by rfl)(hpl:(backTo pos (starEach es X.env)).any (·.1)=false:=by rfl):PE X (.Call (.Name x p) (e::es) [] pos) (tCB r t):=by
 intro pins s σ H Q I h
 refine ahn (iR I hg hm hv ?_ hn hdb)
 exact agp (thn (ha pos pins s σ H _ I h) fun us s1 ⟨vs,H1,I1,r1,q1⟩=>hc pins s1 σ H1 vs us Q I1 r1 q1) he hpl
theorem vT (hc:fu X (.type T) r)(hg:Gl X x)(hm:X.mg x=none)(hv:bootBuiltins x=some (.type T))(hn:x ≠ "__name__" := by decide)(hdb:(x == ("__debug__" : Str))=false:=by decide) :
 PE X (.Call (.Name x p) [] [] pos) (tCB r mP):=by
 intro pins s σ H Q I h
 refine ahn (iR I hg hm hv ?_ hn hdb)
 exact PyProof.Rows.callWith_type0 (hc pins s σ H [] [] Q I .nil h)
end
end L2
namespace HT
open PySem PyProof.Rows
section
open PySem.SeqAt
open PySem.AutoSeq1 (wpAny_loadPart')
open PySem.MeetsSeq PySem.MeetsSeq2 PySem.MeetsSeq3
end
section
variable {prog:Program}{w:World}{A:Around}{E:Value->Shared->Prop}{s:Shared}
theorem cat_tup {t b:Addr}{vs ws:List Value}{Q:Value->Shared->Prop}(ht:IsTup s.heap t vs.toArray)(hb:IsTup s.heap b ws.toArray)(hv:vs≠[])
 (h1:ws=[]->Q (.ref t) s)(h2:ws≠[]->Q (.ref s.heap.objs.size) { s with heap:=s.heap.push { cls:=.type "tuple",data:=.seq (vs++ws).toArray } })
 (hsz:vs.length+ws.length<=sizeLine):wpAny (model prog w) A (binaryOp .Add (.ref t) (.ref b)) Q E s:=by
 obtain⟨⟨cls,dd,data,sl⟩,ho,hc,n,hd⟩:=id ht
 obtain⟨⟨cls2,dd2,data2,sl2⟩,ho2,hc2,n2,hd2⟩:=id hb
 simp only at hc hd hc2 hd2
 subst hc hd hc2 hd2
 have e:vs.toArray++ws.toArray=(vs++ws).toArray:=by simp
 by_cases hw:ws=[]
 ·exact concat_meets ⟨_,ho,rfl⟩ ⟨_,ho2,rfl⟩ ajD seq_tuple_add ajO aju (aje _ _)
   (tuple_addW1 t b vs.toArray ws.toArray n n2 dd dd2 sl sl2 (by simpa using hv) (by simp [hw])) ⟨ho,ho2,h1 hw⟩
 ·refine concat_meets ⟨_,ho,rfl⟩ ⟨_,ho2,rfl⟩ ajD seq_tuple_add ajO aju (aje _ _)
   (tuple_addW2 t b vs.toArray ws.toArray n n2 dd dd2 sl sl2 (by simpa using hv) (by simpa using hw) (by rw [aeU,aeU];exact hsz)) ⟨ho,ho2,?_⟩
  rw [e]
  exact h2 hw
def sIx (n d:Nat):Option Int->Nat
 | none=>d
 | some v=>if v < 0 then (v+(n:Int)).toNat else min v.toNat n
theorem sIx_none (n d:Nat):sIx n d none=d:=rfl
theorem sIx_nat (n d k:Nat):sIx n d (some (k:Int))=min k n:=by
 show (if (k:Int) < 0 then ((k:Int)+(n:Int)).toNat else min (k:Int).toNat n)=min k n
 rw [if_neg (by omega),afh]
end
end HT
namespace L2
open PySem PySem.Spec PyProof.Rows
abbrev TO:=St->Hp->(Option Int->Hp->Prop)->Prop
def PO (X:Cx)(e:Option Expr)(t:TO):Prop :=
 ∀ (pins:List (Addr×Obj)) (s:Shared) (σ:St) (H:Hp) (Q:Option Int->Hp->Prop),Inv X pins σ H s->t σ H Q →
  wpAny (model X.prog X.w) X.A (evalPart e X.env) (fun u s'=>∃ o H',Inv X pins σ H' s'/\IsPart u o/\Q o H') X.xe s
def abB:TO:=fun _ H Q=>Q none H
def adD (t:TE):TO:=fun σ H Q=>t σ H fun x H1=>∃ i,x=.int i/\Q (some i) H1
theorem oz {ns:List Int}:∀ {us:List Value},Vals (ns.map V.int) us->IntsAre us ns:=by
 induction ns with
 | nil=>intro us r;rw [aii] at r;cases r;exact .nil
 | cons n ns ih =>
  intro us r
  rw [aeZ] at r
  cases r with
  | cons r1 r2 =>
   obtain⟨t,e⟩:=r1
   subst e
   exact .cons n t (ih r2)
section
variable {X:Cx}{e:Expr}{te:TE}{lo hi:Option Expr}{tl th:TO}{pos p2:Pos}
theorem i9:PO X none abB:=by
 intro pins s σ H Q I h
 rw [evalPart_none]
 exact aeK ⟨none,H,I,.none,h⟩
theorem i8 (h:PE X e te):PO X (some e) (adD te):=by
 intro pins s σ H Q I hw
 rw [evalPart_some]
 refine thn (h pins s σ H _ I hw) fun u s1 ⟨x,H1,I1,r1,q1⟩=>?_
 obtain⟨i,rfl,q⟩:=q1
 obtain⟨t,rfl⟩:=r1
 exact⟨some i,H1,I1,.int i t,q⟩
def SlR (X:Cx)(r:V->Option Int->Option Int->Hp->VK->Prop):Prop :=
 ∀ (pins:List (Addr×Obj)) (s:Shared) (σ:St) (H:Hp) (x:V) (v vl vu:Value) (lo hi:Option Int) (sl:Addr) (Q:VK),Inv X pins σ H s->RelV x v->s.heap.IsSliceOf sl vl vu .none->IsPart vl lo->IsPart vu hi->r x lo hi H Q →
  ∃ T id,typeLookup (.type T) "__getitem__" = pure (some (.builtin id))/\s.TypeIs v T/\wpAny (model X.prog X.w) X.A (getItem v (.ref sl)) (EP X pins σ Q) X.xe s
def tSl (r:V->Option Int->Option Int->Hp->VK->Prop)(te:TE)(tl th:TO):TE:=fun σ H Q=>te σ H fun x H1=>tl σ H1 fun l H2=>th σ H2 fun u H3=>r x l u H3 Q
theorem gL {r:V->Option Int->Option Int->Hp->VK->Prop}(hr:SlR X r)(he:PE X e te)(hl:PO X lo tl)(hu:PO X hi th):PE X (.Subscript e (.Slice lo hi none p2) pos) (tSl r te tl th):=by
 intro pins s σ H Q I h
 refine Subscript_ (thn (he pins s σ H _ I h) fun v s1 ⟨x,H1,I1,r1,q1⟩=>?_)
 refine wpAny_Slice (thn (hl pins s1 σ H1 _ I1 q1) fun vl s2 ⟨l,H2,I2,pl,q2⟩=>thn (hu pins s2 σ H2 _ I2 q2) fun vu s3 ⟨u,H3,I3,pu,q3⟩=>?_)
 rw [evalPart_none]
 refine aeK ?_
 have I4:Inv X pins σ H3 { s3 with heap:=s3.heap.push { cls:=.type "slice",data:=.fields #[vl,vu,.none] } }:=I3.kept (t':=s3.toks) fun b ob q=>aeH _ q
 obtain⟨T,id,hT,ht,hg⟩:=hr pins { s3 with heap:=s3.heap.push { cls:=.type "slice",data:=.fields #[vl,vu,.none] } } σ H3 x v vl vu l u s3.heap.objs.size Q I4 r1 (Heap.IsSliceOf.new ..) pl pu q3
 show wpAny (model X.prog X.w) X.A (subscriptTail e (.Slice lo hi none p2) v (.ref s3.heap.objs.size)) (EP X pins σ Q) X.xe { s3 with heap:=s3.heap.push { cls:=.type "slice",data:=.fields #[vl,vu,.none] } }
 exact tail_any (ops:=[.ref s3.heap.objs.size,v]) ht hT hg (by with_unfolding_all rfl)
def wz (xs:List V)(lo hi:Option Int):List V:=(xs.drop (HT.sIx xs.length 0 lo)).take (HT.sIx xs.length xs.length hi - HT.sIx xs.length 0 lo)
theorem t9 (xs:List V)(lo hi:Option Int):(wz xs lo hi).length<=xs.length:=by
 unfold wz
 rw [ae9,age]
 omega
def adW (K:PySem.W.Frag):R2:=fun x y H Q=>∃ a b xs ys,x=.ref a/\y=.ref b/\SqT K H a xs/\SqT K H b ys/\xs≠[]/\xs.length+ys.length<=sizeLine ∧
 (ys=[]->Q (.ref a) H)/\(ys≠[]->∀ p,H p=none->Q (.ref p) (upd H p (.tup (xs++ys))))
theorem Vals.nil_iff {xs:List V}{us:List Value}(r:Vals xs us):us=[]↔xs=[]:=by
 cases r with
 | nil=>simp
 | cons _ _=>simp
theorem abW:OpR X (binaryOp .Add) (adW X.K):=by
 intro pins s σ H x y v u Q I rx ry h
 obtain⟨a,b,xs,ys,rfl,rfl,ha,hb,hx,hz,q1,q2⟩:=h
 cases rx
 cases ry
 obtain⟨its,r1,p1,_⟩:=I.tuple ha
 obtain⟨its2,r2,p2,_⟩:=I.tuple hb
 refine HT.cat_tup p1 p2 (fun z=>hx (r1.nil_iff.mp z)) (fun z=>⟨.ref a,H,I,rfl,q1 (r2.nil_iff.mp z)⟩) (fun z=>?_) (by rw [← r1.length,← r2.length];exact hz)
 refine⟨.ref s.heap.objs.size,_,I.laid (t':=s.toks) (o:=.tup (xs++ys)) (fun b ob q=>aeH _ q) (aeN _) ?_,rfl,q2 (fun w=>z (r2.nil_iff.mpr w)) _ (I.hok.fresh (aeN _))⟩
 exact⟨by rw [aeG];exact hz,_,r1.append r2,IsTup.new _ _⟩
end
def ixN (n:Nat)(i:Int):Option Nat:=if 0<=i then (if i < n then some i.toNat else none) else if -(n:Int)<=i then some (i+n).toNat else none
def atI {α:Type}(xs:List α)(i:Int):Option α:=(ixN xs.length i).bind fun j=>xs[j]?
theorem xG {n:Nat}{i:Int}{j:Nat}(h:ixN n i=some j):seqIndex? i n=some j/\j < n/\-(n:Int)<=i/\i < n:=by
 unfold ixN at h
 by_cases h0:0<=i
 ·rw [if_pos h0] at h
  by_cases h1:i < n
  ·rw [if_pos h1] at h
   have e:i.toNat=j:=afG h
   exact⟨by rw [seqIndex_of h0 h1,e],by omega,by omega,h1⟩
  ·rw [if_neg h1] at h;cases h
 ·rw [if_neg h0] at h
  by_cases h1:-(n:Int)<=i
  ·rw [if_pos h1] at h
   have e:(i+n).toNat=j:=afG h
   exact⟨by rw [seqIndex_neg (by omega) h1,e],by omega,h1,by omega⟩
  ·rw [if_neg h1] at h;cases h
theorem ub {α:Type}{xs:List α}{i:Int}{v:α}(h:atI xs i=some v):∃ j,seqIndex? i xs.length=some j/\xs[j]? = some v/\j < xs.length/\-(xs.length:Int)<=i/\i < xs.length:=by
 unfold atI at h
 cases e:ixN xs.length i with
 | none=>rw [e] at h;cases h
 | some j =>
  rw [e] at h
  obtain⟨h1,h2,h3,h4⟩:=xG e
  exact⟨j,h1,h,h2,h3,h4⟩
theorem cf {α:Type}{xs:List α}{j:Nat}{v:α}(h:xs[j]? = some v):atI xs (j:Int)=some v:=by
 have hj:j < xs.length:=(aeJ.mp h).1
 have e:ixN xs.length (j:Int)=some j:=by
  unfold ixN
  rw [if_pos (by omega),if_pos (by omega)];simp
 unfold atI;rw [e];exact h
def aa0 (b:Expr):Prop:=∀ o i,subscripted b false o i=operate [o,i] (getItem o i)
def IxR (X:Cx)(r:R2):Prop :=
 ∀ (value slice:Expr) (pins:List (Addr×Obj)) (s:Shared) (σ:St) (H:Hp) (x y:V) (v u:Value) (Q:VK),Inv X pins σ H s->RelV x v->RelV y u->r x y H Q →
  subscripted slice false v u=operate [v,u] (getItem v u)->wpAny (model X.prog X.w) X.A (subscriptTail value slice v u) (EP X pins σ Q) X.xe s
def MtR (X:Cx)(id:String)(r:V->List V->Hp->VK->Prop):Prop :=
 ∀ (pins:List (Addr×Obj)) (s:Shared) (σ:St) (H:Hp) (x:V) (xs:List V) (v:Value) (us:List Value) (Q:VK),Inv X pins σ H s->RelV x v->Vals xs us->r x xs H Q →
  wpAny (model X.prog X.w) X.A (call (.builtin id) (v::us)) (EP X pins σ Q) X.xe s
section
variable {X:Cx}{a b:Expr}{ta tb:TE}{pos:Pos}
theorem aT {r:R2}(hr:IxR X r)(ha:PE X a ta)(hb:PE X b tb)(hs:aa0 b):PE X (.Subscript a b pos) (tOp r ta tb):=by
 intro pins s σ H Q I h
 exact Subscript_ (adA ha hb I h fun v u s2 x y H2 I2 rx ry q=>hr a b pins s2 σ H2 x y v u Q I2 rx ry q (hs _ _))
def adi (K:PySem.W.Frag):R2:=fun x y H Q=>∃ p xs i v,x=.ref p/\y=.int i/\SqL K H p xs/\atI xs i=some v/\Q v H
def aeb (K:PySem.W.Frag):R2:=fun x y H Q=>∃ p xs i v,x=.ref p/\y=.int i/\SqT K H p xs/\atI xs i=some v/\Q v H
def aey:R2:=fun x y H Q=>∃ z i c,x=.str z/\y=.int i/\z.length<=sizeLine/\atI z.cps.toList i=some c/\Q (.str ⟨#[c]⟩) H
theorem bD:IxR X (adi X.K):=by
 intro value slice pins s σ H x y v u Q I rx ry h hs
 obtain⟨p,xs,i,z,rfl,rfl,hq,he,q⟩:=h
 cases rx
 obtain⟨t,rfl⟩:=ry
 obtain⟨its,r,pl,hz⟩:=I.list hq
 obtain⟨j,h1,h2,h3,h4,h5⟩:=ub he
 obtain⟨w,ew,rw'⟩:=r.get h2
 have hl:=r.length
 have hn:=jA
 have fin:EP X pins σ Q w s:=⟨z,H,I,rw',q⟩
 by_cases h0:0<=i
 ·have hj:i.toNat=j:=by
   rw [seqIndex_of h0 h5] at h1
   exact afG h1
  exact item_listR pl.isList h0 (by omega) (by rw [hj];simpa using ew) fin hs
 ·have hj:(i+(its.toArray.size:Int)).toNat=j:=by
   rw [seqIndex_neg (by omega) h4] at h1
   rw [aeU,← hl]
   exact afG h1
  exact subscriptTail_builtinR (x:=w) pl.isList.typeIs ajf.lookup
   (wpAny_getItem_list_neg (Q:=fun r s'=>r=w/\EP X pins σ Q r s') pl.isList (by omega) (by rw [aeU]<;>omega) (by omega) (by rw [hj];simpa using ew) ⟨rfl,fin⟩) hs
theorem bu:IxR X (aeb X.K):=by
 intro value slice pins s σ H x y v u Q I rx ry h hs
 obtain⟨p,xs,i,z,rfl,rfl,hq,he,q⟩:=h
 cases rx
 obtain⟨t,rfl⟩:=ry
 obtain⟨its,r,pl,hz⟩:=I.tuple hq
 obtain⟨j,h1,h2,h3,h4,h5⟩:=ub he
 obtain⟨w,ew,rw'⟩:=r.get h2
 have hl:=r.length
 have hn:=jA
 have fin:EP X pins σ Q w s:=⟨z,H,I,rw',q⟩
 exact subscriptTail_builtinR (x:=w) pl.typeIs slot_tuple_getitem.lookup
  (getItem_tuple (j:=j) (Q:=fun r s'=>r=w/\EP X pins σ Q r s') pl (by omega) (by omega) (by rw [aeU,← hl];exact h1) (by simpa using ew) ⟨rfl,fin⟩) hs
theorem aaE:IxR X aey:=by
 intro value slice pins s σ H x y v u Q I rx ry h hs
 obtain⟨z,i,c,rfl,rfl,hz,he,q⟩:=h
 obtain⟨t,rfl⟩:=rx
 obtain⟨t',rfl⟩:=ry
 obtain⟨j,h1,h2,h3,h4,h5⟩:=ub he
 have hl:z.cps.toList.length=z.length:=by simp [Str.length]
 rw [hl] at h1 h4 h5
 have hn:=jA
 exact tail_any (typeIs_str s z t) slot_str_getitem.lookup (getItem_str (c:=c) (by
  have e1:decide (i < -(2 ^ 63:Int))=false:=afq (by omega)
  have e2:decide (i ≥ 2 ^ 63)=false:=afq (by omega)
  rw [e1,e2,Bool.or_false]) (by rw [h1];simpa using h2) ⟨.str ⟨#[c]⟩,H,I.tok _,⟨_,rfl⟩,q⟩) hs
theorem vE (its:List Value)(n j:Nat)(u:Value):Obj.mapSeq (·.setIfInBounds j u) { cls:=.type "list",data:=.seq its.toArray n }={ cls:=.type "list",data:=.seq (its.set j u).toArray n }:=by
 simp [Obj.mapSeq]
theorem Inv.lst {pins:List (Addr×Obj)}{σ:St}{H:Hp}{s:Shared}{p:Addr}{xs:List V}(I:Inv X pins σ H s)(h:H p=some (.lst xs)) :
 ∃ (its:List Value) (n:Nat),Vals xs its/\s.heap.get? p=some { cls:=.type "list",data:=.seq its.toArray n }/\xs.length<=sizeLine:=by
 obtain⟨z,its,n,r,e⟩:=I.hok p _ h
 exact⟨its,n,r,e,z⟩
theorem Inv.lstUpd {pins:List (Addr×Obj)}{σ:St}{H:Hp}{s:Shared}{p:Addr}{xs ys:List V}{its its':List Value}{n n':Nat}{f:Obj->Obj}(I:Inv X pins σ H s)(h:H p=some (.lst xs))
 (ho:s.heap.get? p=some { cls:=.type "list",data:=.seq its.toArray n })(hf:f { cls:=.type "list",data:=.seq its.toArray n }={ cls:=.type "list",data:=.seq its'.toArray n' })(r:Vals ys its')(hz:ys.length<=sizeLine)(t:Nat) :
 Inv X pins σ (upd H p (.lst ys)) { s with heap:=s.heap.update p f,toks:=t }:=by
 have e:(s.heap.update p f).get? p=some { cls:=.type "list",data:=.seq its'.toArray n' }:=by
  rw [agg f ho (by rw [hf]<;>rfl),hf]
 refine I.write (x:=p) (e:=p) (by rw [h];trivial) (.inl rfl) (fun b u hb q=>(agu _ _ (agz hb)).trans q) ⟨_,e⟩ ?_
 exact⟨hz,its',n',r,e⟩
def adL:V->V->V->Hp->(Hp->Prop)->Prop:=fun o i v H Q=>∃ p xs k j,o=.ref p/\i=.int k/\H p=some (.lst xs)/\ixN xs.length k=some j/\Q (upd H p (.lst (xs.set j v)))
theorem uz:adN X adL:=by
 intro pins s σ H o i v ov iv u Q I ro ri rv h
 obtain⟨p,xs,k,j,rfl,rfl,hp,hj,q⟩:=h
 cases ro
 obtain⟨t,rfl⟩:=ri
 obtain⟨its,n,r,ho,hz⟩:=I.lst hp
 obtain⟨h1,h2,h3,h4⟩:=xG hj
 have hl:=r.length
 have hn:=jA
 have I':Inv X pins σ (upd H p (.lst (xs.set j v))) { s with heap:=s.heap.update p (Obj.mapSeq (·.setIfInBounds j u)) } :=
  I.lstUpd hp ho (vE its n j u) (r.set rv j) (by rw [List.length_set];exact hz) s.toks
 by_cases h0:0<=k
 ·have hk:k.toNat=j:=by
   rw [seqIndex_of h0 h4] at h1
   exact afG h1
  exact PySem.W.ki_setAt ho h0 (by omega) (by rw [aeU,← hl];exact h4) (by rw [hk];exact⟨_,I',q⟩)
 ·have hk:(k+(its.toArray.size:Int)).toNat=j:=by
   rw [seqIndex_neg (by omega) h3] at h1
   rw [aeU,← hl]
   exact afG h1
  exact PySem.W.ki_setBack ho (by omega) (by rw [aeU,← hl];exact h3) (by omega) (by rw [hk];exact⟨_,I',q⟩)
theorem rC (lo hi:Option Int)(n:Nat):(sliceBounds lo hi none n).1=((HT.sIx n 0 lo:Nat):Int)/\(sliceBounds lo hi none n).2.1=((HT.sIx n n hi:Nat):Int)/\(sliceBounds lo hi none n).2.2=1:=by
 refine⟨?_,?_,rfl⟩
 ·cases lo with
  | none=>simp [sliceBounds,HT.sIx]
  | some i =>
   simp only [sliceBounds,HT.sIx,Option.getD_none,show (1:Int) > 0 by decide,ahl]
   by_cases h:i < 0
   ·simp only [h,ahl]<;>omega
   ·simp only [h,agl]<;>omega
 ·cases hi with
  | none=>simp [sliceBounds,HT.sIx]
  | some i =>
   simp only [sliceBounds,HT.sIx,Option.getD_none,show (1:Int) > 0 by decide,ahl]
   by_cases h:i < 0
   ·simp only [h,ahl]<;>omega
   ·simp only [h,agl]<;>omega
theorem o9 (its:List Value)(lo hi:Option Int):slicePick its.toArray lo hi none=((its.drop (HT.sIx its.length 0 lo)).take (HT.sIx its.length its.length hi - HT.sIx its.length 0 lo)).toArray:=by
 obtain⟨h1,h2,h3⟩:=rC lo hi its.toArray.size
 unfold slicePick
 rw [h1,h2,h3]
 simp only [sliceRange_one,pick_run,aeU]<;>rfl
def aen (K:PySem.W.Frag):V->Option Int->Option Int->Hp->VK->Prop:=fun x lo hi H Q=>∃ a xs,x=.ref a/\SqL K H a xs/\∀ p,H p=none->Q (.ref p) (upd H p (.lst (wz xs lo hi)))
theorem lX:SlR X (aen X.K):=by
 intro pins s σ H x v vl vu lo hi sl Q I rx hs pl pu h
 obtain⟨a,xs,rfl,hx,q⟩:=h
 cases rx
 obtain⟨its,r,ht,hz⟩:=I.list hx
 have hlen:=r.length
 refine⟨"list",_,ajf.lookup,ht.isList.typeIs,?_⟩
 refine wpAny_getItem_list_slice ht.isList hs pl pu .none (by simp) ?_ (by rw [aeU]<;>omega)
 rw [o9,← hlen]
 refine⟨.ref s.heap.objs.size,_,I.laid (t':=s.toks) (o:=.lst (wz xs lo hi)) (fun b ob q=>aeH _ q) (aeN _) ?_,rfl,q _ (I.hok.fresh (aeN _))⟩
 exact⟨afk (t9 xs lo hi) hz,_,0,(r.drop (HT.sIx xs.length 0 lo)).take (HT.sIx xs.length xs.length hi - HT.sIx xs.length 0 lo),aeY _ rfl⟩
def jh:V->Bool
 | .non=>true
 | .bl _=>true
 | .int _=>true
 | .str _=>true
 | _=>false
def eqV:V->V->Bool
 | .non,.non=>true
 | .bl a,.bl b=>a == b
 | .bl a,.int b=>(if a then 1 else 0) == b
 | .int a,.bl b=>a == (if b then 1 else 0)
 | .int a,.int b=>a == b
 | .str a,.str b=>a == b
 | _,_=>false
theorem acR {A:Around}{s:Shared}{y x:V}{u v:Value}(ry:RelV y u)(rx:RelV x v)(fy:jh y=true)(fx:jh x=true):SeqAt.EqAt A s u v (eqV y x):=by
 cases y with
 | non =>
  cases ry
  cases x with
  | non=>cases rx;exact SeqAt.EqAt.same _
  | bl b=>cases rx;exact SeqAt.EqAt.none_bool b
  | int b=>obtain⟨t,rfl⟩:=rx;exact SeqAt.EqAt.none_int b t
  | str b=>obtain⟨t,rfl⟩:=rx;exact SeqAt.EqAt.none_str b t
  | _=>exact absurd (show false=true from fx) aeM
 | bl a =>
  cases ry
  cases x with
  | non=>cases rx;exact SeqAt.EqAt.bool_none a
  | bl b=>cases rx;exact SeqAt.EqAt.bool_bool a b
  | int b=>obtain⟨t,rfl⟩:=rx;exact SeqAt.EqAt.bool_int a b t
  | str b=>obtain⟨t,rfl⟩:=rx;exact SeqAt.EqAt.bool_str a b t
  | _=>exact absurd (show false=true from fx) aeM
 | int a =>
  obtain⟨t',rfl⟩:=ry
  cases x with
  | non=>cases rx;exact SeqAt.EqAt.int_none a t'
  | bl b=>cases rx;exact SeqAt.EqAt.int_bool a t' b
  | int b=>obtain⟨t,rfl⟩:=rx;exact SeqAt.EqAt.int_int a t' b t
  | str b=>obtain⟨t,rfl⟩:=rx;exact SeqAt.EqAt.int_str a t' b t
  | _=>exact absurd (show false=true from fx) aeM
 | str a =>
  obtain⟨t',rfl⟩:=ry
  cases x with
  | non=>cases rx;exact SeqAt.EqAt.str_none a t'
  | bl b=>cases rx;exact SeqAt.EqAt.str_bool a t' b
  | int b=>obtain⟨t,rfl⟩:=rx;exact SeqAt.EqAt.str_int a t' b t
  | str b=>obtain⟨t,rfl⟩:=rx;exact SeqAt.EqAt.str_str a t' b t
  | _=>exact absurd (show false=true from fx) aeM
 | _=>exact absurd (show false=true from fy) aeM
def eqU (x:V)(u:Value):Bool:=match u with
 | .none=>eqV .non x
 | .bool b=>eqV (.bl b) x
 | .int i _=>eqV (.int i) x
 | .str z _=>eqV (.str z) x
 | _=>false
theorem aaX {x y:V}{u:Value}(r:RelV y u)(f:jh y=true):eqU x u=eqV y x:=by
 cases y with
 | non=>cases r;rfl
 | bl b=>cases r;rfl
 | int i=>obtain⟨t,rfl⟩:=r;rfl
 | str z=>obtain⟨t,rfl⟩:=r;rfl
 | _=>exact absurd (show false=true from f) aeM
theorem mn {x:V}:∀ {xs:List V} {us:List Value},Vals xs us->xs.all jh=true->us.any (eqU x)=xs.any fun y=>eqV y x
 | _,_,.nil,_=>rfl
 | y::xs,u::us,.cons r t,f=>by
  rw [ahR,af3] at f
  rw [agY,agY,aaX r f.1,mn t f.2]
theorem jx {A:Around}{s:Shared}{x:V}{v:Value}(rx:RelV x v)(fx:jh x=true):∀ {xs:List V} {us:List Value},Vals xs us->xs.all jh=true->∀ u∈us,SeqAt.EqAt A s u v (eqU x u)
 | _,_,.nil,_=>fun u hu=>by cases hu
 | y::xs,u::us,.cons r t,f=>fun u' hu=>by
  rw [ahR,af3] at f
  rcases aeX.mp hu with rfl | hu
  ·rw [aaX r f.1];exact acR r rx f.1 fx
  ·exact jx rx fx t f.2 u' hu
def inV (x:V)(xs:List V):Bool:=xs.any fun y=>eqV y x
def rIn (K:PySem.W.Frag)(neg:Bool):R2:=fun x y H Q=>∃ p xs,y=.ref p/\(SqL K H p xs\/SqT K H p xs)/\jh x=true/\xs.all jh=true/\Q (.bl (if neg then !inV x xs else inV x xs)) H
theorem qQ:OpR X (compareOp .In) (rIn X.K false):=by
 intro pins s σ H x y v u Q I rx ry h
 obtain⟨p,xs,rfl,hq,fx,fs,q⟩:=h
 cases ry
 rcases hq with hq | hq
 ·obtain⟨its,r,pl,hz⟩:=I.list hq
  refine SeqAt.in_listAt (eqU x) pl.isList (fun w hw=>jx rx fx r fs w (by simpa using hw)) ⟨.bl _,H,I,rfl,?_⟩
  rw [show its.toArray.any (eqU x)=its.any (eqU x) by simp,mn r fs]
  exact q
 ·obtain⟨its,r,pl,hz⟩:=I.tuple hq
  refine SeqAt.in_tupleAt (eqU x) pl (fun w hw=>jx rx fx r fs w (by simpa using hw)) ⟨.bl _,H,I,rfl,?_⟩
  rw [show its.toArray.any (eqU x)=its.any (eqU x) by simp,mn r fs]
  exact q
theorem gp:OpR X (compareOp .NotIn) (rIn X.K true):=by
 intro pins s σ H x y v u Q I rx ry h
 obtain⟨p,xs,rfl,hq,fx,fs,q⟩:=h
 cases ry
 rcases hq with hq | hq
 ·obtain⟨its,r,pl,hz⟩:=I.list hq
  refine SeqAt.notIn_listAt (eqU x) pl.isList (fun w hw=>jx rx fx r fs w (by simpa using hw)) ⟨.bl _,H,I,rfl,?_⟩
  rw [show its.toArray.any (eqU x)=its.any (eqU x) by simp,mn r fs]
  exact q
 ·obtain⟨its,r,pl,hz⟩:=I.tuple hq
  refine SeqAt.notIn_tupleAt (eqU x) pl (fun w hw=>jx rx fx r fs w (by simpa using hw)) ⟨.bl _,H,I,rfl,?_⟩
  rw [show its.toArray.any (eqU x)=its.any (eqU x) by simp,mn r fs]
  exact q
theorem az:fu X (.builtin "len") (fun xs H Q=>∃ p ys,xs=[.ref p]/\(SqL X.K H p ys\/SqT X.K H p ys)/\Q (.int ys.length) H):=by
 intro pins s σ H xs us Q I r h
 obtain⟨p,ys,rfl,hq,q⟩:=h
 obtain⟨u,rfl,rx⟩:=gY r
 cases rx
 have hn:=jA
 rcases hq with hq | hq
 ·obtain⟨its,r',pl,hz⟩:=I.list hq
  have hlen:=r'.length
  exact Calls.call_len_list pl.isList (by simp only [aeU]<;>omega) ⟨.int ys.length,H,I.tok _,⟨s.toks+1,by rw [aeU,hlen]⟩,q⟩
 ·obtain⟨its,r',pl,hz⟩:=I.tuple hq
  have hlen:=r'.length
  exact len_tuple pl (by simp only [aeU]<;>omega) ⟨.int ys.length,H,I.tok _,⟨s.toks+1,by rw [aeU,hlen]⟩,q⟩
theorem kE:fu X (.builtin "len") (fun xs H Q=>∃ z,xs=[.str z]/\z.length<=sizeLine/\Q (.int z.length) H):=by
 intro pins s σ H xs us Q I r h
 obtain⟨z,rfl,hz,q⟩:=h
 obtain⟨u,rfl,t,rfl⟩:=gY r
 have hn:=jA
 exact len_str (by omega) ⟨.int z.length,H,I.tok _,⟨_,rfl⟩,q⟩
theorem b9:fu X (.type "list") (fun xs H Q=>∃ p ys,xs=[.ref p]/\(SqL X.K H p ys\/SqT X.K H p ys)/\∀ l,H l=none->Q (.ref l) (upd H l (.lst ys))):=by
 intro pins s σ H xs us Q I r h
 obtain⟨p,ys,rfl,hq,q⟩:=h
 obtain⟨u,rfl,rx⟩:=gY r
 cases rx
 have fin:∀ (its:List Value),Vals ys its->ys.length<=sizeLine->∀ (h':Heap) (c':Nat),(∀ b o',s.heap.get? b=some o'->h'.get? b=some o') →
  h'.get? s.heap.objs.size=some { cls:=.type "list",dict:=none,data:=.seq its.toArray c',slots:=#[] }->EP X pins σ Q (.ref s.heap.objs.size) { s with heap:=h' }:=fun its r' hz h' c' kp e =>
  ⟨.ref s.heap.objs.size,_,I.laid (t':=s.toks) kp (aeN _) (show ObjOk X.prog X.w _ h' _ (.lst ys) from ⟨hz,its,c',r',e⟩),rfl,q _ (I.hok.fresh (aeN _))⟩
 rcases hq with hq | hq
 ·obtain⟨its,r',pl,hz⟩:=I.list hq
  have hlen:=r'.length
  obtain⟨o,ho,hc,n,hd⟩:=pl.isList
  exact call_list_seq p (.inl rfl) ho hc hd (fun h' c' kp e=>fin its r' hz h' c' kp e) (by simp only [aeU]<;>omega)
 ·obtain⟨its,r',pl,hz⟩:=I.tuple hq
  have hlen:=r'.length
  obtain⟨o,ho,hc,n,hd⟩:=pl
  exact call_list_seq p (.inr rfl) ho hc hd (fun h' c' kp e=>fin its r' hz h' c' kp e) (by simp only [aeU]<;>omega)
theorem ju:fu X (.type "tuple") (fun xs H Q=>∃ p ys,xs=[.ref p]/\((SqL X.K H p ys/\∀ l,H l=none->Q (.ref l) (upd H l (.tup ys)))\/(SqT X.K H p ys/\Q (.ref p) H))):=by
 intro pins s σ H xs us Q I r h
 obtain⟨p,ys,rfl,h⟩:=h
 obtain⟨u,rfl,rx⟩:=gY r
 cases rx
 rcases h with ⟨hq,q⟩ | ⟨hq,q⟩
 ·obtain⟨its,r',pl,hz⟩:=I.list hq
  have hlen:=r'.length
  refine call_tuple_list pl.isList (fun h' kp=>?_) (by simp only [aeU]<;>omega)
  have I1:Inv X pins σ H { s with heap:=h' }:=I.kept (t':=s.toks) kp
  have I2:Inv X pins σ (upd H h'.objs.size (.tup ys)) { s with heap:=h'.push { cls:=.type "tuple",data:=.seq its.toArray } } :=
   I1.laid (t':=s.toks) (fun b o e=>aeH _ e) (aeN _) (show ObjOk X.prog X.w _ _ _ (.tup ys) from ⟨hz,its,r',IsTup.new _ _⟩)
  exact⟨.ref h'.objs.size,_,I2,rfl,q _ (I1.hok.fresh (aeN _))⟩
 ·obtain⟨its,r',pl,hz⟩:=I.tuple hq
  exact call_tuple_same pl ⟨.ref p,H,I,rfl,q⟩
def tyV (K:PySem.W.Frag)(T:String)(x:V)(H:Hp):Prop:=match x with
 | .str _=>T = "str"
 | .int _=>T = "int"
 | .ref p=>(T = "list" ∧ ∃ xs,SqL K H p xs)\/(T = "tuple" ∧ ∃ o,K.lookup p=some o/\o.cls=.type "tuple" ∧ o.dict=none) ∨
  (T = "dict" ∧ ((∃ kvs,H p=some (.dK kvs))\/∃ kvs,H p=some (.dT kvs)))\/(T = "set" ∧ ∃ S n,H p=some (.set S n))
 | _=>False
theorem aaP {pins:List (Addr×Obj)}{σ:St}{H:Hp}{s:Shared}{T:String}{x:V}{v:Value}(I:Inv X pins σ H s)(r:RelV x v)(ty:tyV X.K T x H) :
 s.TypeIs v T/\∀ a,v=.ref a->∃ ob,s.heap.get? a=some ob/\ob.dict=none:=by
 cases x with
 | str z =>
  obtain⟨t,rfl⟩:=r
  cases (show T = "str" from ty)
  exact⟨typeIs_str s z t,fun _ e=>nomatch e⟩
 | int i =>
  obtain⟨t,rfl⟩:=r
  cases (show T = "int" from ty)
  exact⟨typeIs_int s i t,fun _ e=>nomatch e⟩
 | ref p =>
  cases r
  rcases ty with ⟨rfl,xs,hq⟩ | ⟨rfl,o,hk,hc,hd⟩ | ⟨rfl,hk⟩ | ⟨rfl,S,n,hk⟩
  ·obtain⟨its,_,pl,_⟩:=I.list hq
   refine⟨pl.isList.typeIs,fun a e=>?_⟩
   cases e
   obtain⟨o,n,e,c,hd,_⟩:=pl
   exact⟨o,e,hd⟩
  ·refine⟨⟨o,I.kIn p o hk,hc⟩,fun a e=>?_⟩
   cases e
   exact⟨o,I.kIn _ o hk,hd⟩
  ·have z:∃ o,s.heap.get? p=some o/\o.ExactDict:=by
    rcases hk with ⟨kvs,hk⟩ | ⟨kvs,hk⟩
    ·obtain⟨_,_,_,_,o,_,_,e,ex,_⟩:=I.hok p _ hk
     exact⟨o,e,ex⟩
    ·obtain⟨_,_,_,_,o,_,_,e,ex,_⟩:=I.hok p _ hk
     exact⟨o,e,ex⟩
   obtain⟨o,e,ex⟩:=z
   refine⟨⟨o,e,ex.1⟩,fun a e2=>?_⟩
   cases e2
   exact⟨o,e,ex.2.1⟩
  ·obtain⟨o,_,_,_,e,ex,_⟩:=I.hok p _ hk
   refine⟨⟨o,e,ex.1⟩,fun a e2=>?_⟩
   cases e2
   exact⟨o,e,ex.2.1⟩
 | _=>exact False.elim ty
def ael (K:PySem.W.Frag)(T:String)(r:V->List V->Hp->VK->Prop)(to:TE):TE:=fun σ H Q=>to σ H fun x H1=>tyV K T x H1/\r x [] H1 Q
def tBM (K:PySem.W.Frag)(T:String)(r:V->List V->Hp->VK->Prop)(to:TE)(t:TA):TE:=fun σ H Q=>to σ H fun x H1=>tyV K T x H1/\t σ H1 fun xs H2=>r x xs H2 Q
variable {o e:Expr}{es:List Expr}{to:TE}{t:TA}{name:Str}{apos cpos:Pos}{T id:String}{r:V->List V->Hp->VK->Prop}
theorem uP (pa:PlainAttrs T)(slot:Slot T name id)(hty:typeOf (.builtin id)=pure (.type "method_descriptor"))(hm:MtR X id r)(ho:PE X o to)
 (hbase:attributeBase o name X.env (eval o X.env)=eval o X.env:=by rfl)(hline:(apos.endLine == cpos.line)=true:=by rfl):PE X (.Call (.Attribute o name apos) [] [] cpos) (ael X.K T r to):=by
 intro pins s σ H Q I h
 refine wpAny_Call_method0_late hbase hline (thn (ho pins s σ H _ I h) fun v s1 ⟨x,H1,I1,r1,ty,q1⟩=>?_)
 obtain⟨h1,h2⟩:=aaP I1 r1 ty
 exact⟨T,id,pa,slot,hty,h1,h2,agQ rfl (PySem.evalArgs_none (hm pins s1 σ H1 x [] v [] Q I1 r1 .nil q1))⟩
theorem fw (pa:PlainAttrs T)(slot:Slot T name id)(hty:typeOf (.builtin id)=pure (.type "method_descriptor"))(hm:MtR X id r)(ho:PE X o to)(ha:PA X (e::es) t)
 (hbase:attributeBase o name X.env (eval o X.env)=eval o X.env:=by rfl)
 (hfew:((backTo cpos (starEach (e::es) X.env)).all (fun x=>!x.1) && (backToKw cpos (keywordEach [] X.env)).all (fun x=>x.1.isSome)
  && decide ((e::es).length+([]:List Keyword).length+(if ([]:List Keyword).isEmpty then 0 else 1) < 30))=true:=by rfl)
 (hline:(apos.endLine == cpos.line)=true:=by rfl)(hs:starEach (e::es) X.env=(false,eval e X.env)::starEach es X.env:=by rfl)(hplain:(backTo cpos (starEach es X.env)).any (·.1)=false:=by rfl) :
 PE X (.Call (.Attribute o name apos) (e::es) [] cpos) (tBM X.K T r to t):=by
 intro pins s σ H Q I h
 refine wpAny_Call_method_late hbase hfew hline rfl (thn (ho pins s σ H _ I h) fun v s1 ⟨x,H1,I1,r1,ty,q1⟩=>?_)
 obtain⟨h1,h2⟩:=aaP I1 r1 ty
 refine⟨T,id,pa,slot,hty,h1,h2,?_⟩
 have hA:=ha cpos pins s1 σ H1 _ I1 q1
 rw [hs] at hA ⊢
 refine agQ (by show (false || (backTo cpos (starEach es X.env)).any (·.1))=false;rw [hplain]<;>rfl) (ahB ?_)
 exact thn hA fun us s2 ⟨vs,H2,I2,r2,q2⟩=>hm pins s2 σ H2 x vs v us Q I2 r1 r2 q2
end
def MtM (X:Cx)(id:String)(r:V->List V->Hp->VK->Prop):Prop :=
 ∀ (pins:List (Addr×Obj)) (s:Shared) (σ:St) (H:Hp) (x:V) (xs:List V) (v:Value) (us:List Value) (Q:VK),Inv X pins σ H s->RelV x v->Vals xs us->r x xs H Q →
  wpAny (model X.prog X.w) X.A (call (.builtin id) (v::us)) (EP X pins σ Q) X.xe s
theorem Vals.one:∀ {x:V} {us:List Value},Vals [x] us->∃ u,us=[u]/\RelV x u
 | _,_,.cons r .nil=>⟨_,rfl,r⟩
theorem Vals.two:∀ {x y:V} {us:List Value},Vals [x,y] us->∃ u v,us=[u,v]/\RelV x u/\RelV y v
 | _,_,_,.cons r (.cons q .nil)=>⟨_,_,rfl,r,q⟩
theorem Vals.zero:∀ {us:List Value},Vals [] us->us=[]
 | _,.nil=>rfl
theorem Vals.dropLast {xs:List V}{us:List Value}(h:Vals xs us):Vals xs.dropLast us.dropLast:=by
 induction h with
 | nil=>exact .nil
 | cons r t ih =>
  cases t with
  | nil=>exact .nil
  | cons q t'=>exact .cons r ih
theorem Vals.eraseIdx:∀ {xs:List V} {us:List Value} (i:Nat),Vals xs us->Vals (xs.eraseIdx i) (us.eraseIdx i)
 | _,_,_,.nil=>.nil
 | _,_,0,.cons _ t=>t
 | _,_,i+1,.cons r t=>.cons r (Vals.eraseIdx i t)
theorem wk {α:Type}(l:List α):l.eraseIdx (l.length - 1)=l.dropLast:=by
 induction l with
 | nil=>rfl
 | cons a r ih =>
  cases r with
  | nil=>rfl
  | cons b r =>
   have e:(a::b::r).length - 1=((b::r).length - 1)+1:=by
    have h1:(a::b::r).length=r.length+2:=rfl
    have h2:(b::r).length=r.length+1:=rfl
    omega
   rw [e,agK,ih]
   all_goals rfl
theorem mS {α:Type}:∀ (l:List α) (i:Nat),(l.eraseIdx i).length<=l.length
 | [],_=>aeN _
 | _::_,0=>agG _
 | _::r,i+1=>agU (mS r i)
section
variable {X:Cx}{pins:List (Addr×Obj)}{σ:St}{H:Hp}{s:Shared}{l b:Addr}{xs ys zs:List V}
theorem Inv.lset {its its':List Value}{n:Nat}{f:Array Value->Array Value}{t':Nat}(I:Inv X pins σ H s)(hH:H l=some (.lst xs))
 (e:s.heap.get? l=some { cls:=.type "list",data:=.seq its.toArray n })(hf:f its.toArray=its'.toArray)(hv:Vals ys its')(hz:ys.length<=sizeLine) :
 Inv X pins σ (upd H l (.lst ys)) { s with heap:=s.heap.update l (Obj.mapSeq f),toks:=t' }:=by
 have q:=PySem.IsL.update e f
 rw [hf] at q
 refine I.write (x:=l) (e:=l) (by rw [hH];exact trivial) (.inl rfl) (fun b' u hb hu=>(agu s.heap (Obj.mapSeq f) (agz hb)).trans hu) ⟨_,q⟩ ?_
 exact⟨hz,its',_,hv,q⟩
theorem Inv.lnew {its:List Value}{t':Nat}(I:Inv X pins σ H s)(hv:Vals ys its)(hz:ys.length<=sizeLine) :
 Inv X pins σ (upd H s.heap.objs.size (.lst ys)) { s with heap:=s.heap.push { cls:=.type "list",data:=.seq its.toArray },toks:=t' } :=
 I.laid (fun _ _ q=>aeH _ q) (aeN _) ⟨hz,its,0,hv,aeY _ rfl⟩
theorem Inv.fresh (I:Inv X pins σ H s):H s.heap.objs.size=none:=I.hok.fresh (aeN _)
theorem Inv.lstM (I:Inv X pins σ H s)(hH:H l=some (.lst xs)):xs.length<=sizeLine/\∃ (its:List Value) (n:Nat),Vals xs its/\xs.length=its.length/\s.heap.get? l=some { cls:=.type "list",data:=.seq its.toArray n }:=by
 obtain⟨z,its,n,r,e⟩:=I.hok l _ hH
 exact⟨z,its,n,r,r.length,e⟩
theorem aau {n:Nat}(h:n<=sizeLine):Builtin.List.listTooLong n=false:=by
 unfold Builtin.List.listTooLong
 exact afq (by omega)
end
section
variable {X:Cx}
def abV:V->List V->Hp->VK->Prop:=fun x vs H Q=>∃ l xs y,x=.ref l/\vs=[y]/\H l=some (.lst xs)/\xs.length < sizeLine/\Q .non (upd H l (.lst (xs++[y])))
theorem df:MtM X "list.append" abV:=by
 intro pins s σ H x vs v us Q I rx rv h
 obtain⟨l,xs,y,rfl,rfl,hH,hz,q⟩:=h
 cases rx
 obtain⟨u,rfl,ru⟩:=rv.one
 obtain⟨z,its,n,r,hl,e⟩:=I.lstM hH
 refine aiE F.slot_list_append ⟨_,e,rfl⟩ F.entry_list_append (F.args_list_append_2 _ _) (PySem.list_append l its.toArray n u (by rw [aeU];omega)) ⟨e,?_⟩
 refine⟨.non,_,I.lset (its':=its++[u]) hH e (by simp) (r.append (.cons ru .nil)) ?_,rfl,q⟩
 rw [aeG,af0]
 omega
def abz:V->List V->Hp->VK->Prop:=fun x vs H Q=>∃ l b xs zs,x=.ref l/\vs=[.ref b]/\H l=some (.lst xs)/\H b=some (.lst zs)/\xs.length+zs.length<=sizeLine/\Q .non (upd H l (.lst (xs++zs)))
theorem h7:MtM X "list.extend" abz:=by
 intro pins s σ H x vs v us Q I rx rv h
 obtain⟨l,b,xs,zs,rfl,rfl,hH,hB,hz,q⟩:=h
 cases rx
 obtain⟨u,rfl,ru⟩:=rv.one
 cases ru
 obtain⟨z,its,n,r,hl,e⟩:=I.lstM hH
 obtain⟨z2,its2,n2,r2,hl2,e2⟩:=I.lstM hB
 have hsz:its.toArray.size+its2.toArray.size<=sizeLine:=by rw [aeU,aeU];omega
 have hlong:¬ (!its.toArray.isEmpty && Builtin.List.listTooLong (its.toArray.size+its2.toArray.size))=true:=by
  rw [aau hsz,Bool.and_false]
  exact aeM
 refine aiE F.slot_list_extend ⟨_,e,rfl⟩ F.entry_list_extend (F.args_list_extend_2 _ _)
  (AutoSeq1.list_extend_list_list_0 l its.toArray n b its2.toArray n2 hlong (by rw [aeU];omega) (by omega)) ⟨e,e2,?_⟩
 refine⟨.non,_,I.lset (its':=its++its2) hH e (by simp) (r.append r2) ?_,rfl,q⟩
 rw [aeG]
 omega
def aeA:V->List V->Hp->VK->Prop:=fun x vs H Q=>∃ l xs y,x=.ref l/\vs=[]/\H l=some (.lst xs)/\xs[xs.length - 1]? = some y/\Q y (upd H l (.lst xs.dropLast))
theorem xI:MtM X "list.pop" aeA:=by
 intro pins s σ H x vs v us Q I rx rv h
 obtain⟨l,xs,y,rfl,rfl,hH,hy,q⟩:=h
 cases rx
 have hus:=rv.zero
 subst hus
 obtain⟨z,its,n,r,hl,e⟩:=I.lstM hH
 obtain⟨u,hu,ru⟩:=r.get hy
 have hy':its.toArray[its.toArray.size - 1]? = some u:=by
  show its.toArray[its.length - 1]? = some u
  rw [← afo,← hl]
  exact hu
 refine aiE F.slot_list_pop ⟨_,e,rfl⟩ F.entry_list_pop (F.args_list_pop_1 _) (MeetsSeq.list_pop_last l its.toArray n u hy' (by rw [aeU];omega)) ⟨e,?_⟩
 refine⟨y,_,I.lset (its':=its.dropLast) hH e ?_ r.dropLast ?_,ru,q⟩
 ·show its.toArray.eraseIdxIfInBounds (its.toArray.size - 1)=its.dropLast.toArray
  rw [aeU,ag4,wk]
 ·rw [aiv]
  omega
def aaM:V->List V->Hp->VK->Prop:=fun x vs H Q=>∃ l xs i k y,x=.ref l/\vs=[.int i]/\H l=some (.lst xs)/\-(2 ^ 63)<=i/\i < 2 ^ 63/\seqIndex? i xs.length=some k/\xs[k]? = some y/\Q y (upd H l (.lst (xs.eraseIdx k)))
theorem kZ:MtM X "list.pop" aaM:=by
 intro pins s σ H x vs v us Q I rx rv h
 obtain⟨l,xs,i,k,y,rfl,rfl,hH,h1,h2,hk,hy,q⟩:=h
 cases rx
 obtain⟨u,rfl,ru⟩:=rv.one
 obtain⟨t,rfl⟩:=ru
 obtain⟨z,its,n,r,hl,e⟩:=I.lstM hH
 obtain⟨w,hw,rw'⟩:=r.get hy
 refine aiE F.slot_list_pop ⟨_,e,rfl⟩ F.entry_list_pop (F.args_list_pop_2 _ _)
  (MeetsSeq.list_pop_at l its.toArray n i t k w (fitsIndex_both h1 h2) (by rw [aeU,← hl];exact hk) (by rw [← afo];exact hw) (by rw [aeU];omega)) ⟨e,?_⟩
 refine⟨y,_,I.lset (its':=its.eraseIdx k) hH e ?_ (r.eraseIdx k) ?_,rw',q⟩
 ·show its.toArray.eraseIdxIfInBounds k=(its.eraseIdx k).toArray
  rw [ag4]
 ·have:=mS xs k
  omega
def ac4:V->List V->Hp->VK->Prop:=fun x vs H Q=>∃ l xs,x=.ref l/\vs=[]/\H l=some (.lst xs)/\Q .non (upd H l (.lst []))
theorem y1:MtM X "list.clear" ac4:=by
 intro pins s σ H x vs v us Q I rx rv h
 obtain⟨l,xs,rfl,rfl,hH,q⟩:=h
 cases rx
 have hus:=rv.zero
 subst hus
 obtain⟨z,its,n,r,hl,e⟩:=I.lstM hH
 refine aiE F.slot_list_clear ⟨_,e,rfl⟩ F.entry_list_clear (F.args_list_clear_1 _) (AutoSeq1.list_clear_list_0 l its.toArray n (by rw [aeU];omega)) ⟨e,?_⟩
 exact⟨.non,_,I.lset (its':=[]) (ys:=[]) hH e rfl .nil (ae2 _),rfl,q⟩
def ad7:R2:=fun x y H Q=>∃ l b xs zs,x=.ref l/\y=.ref b/\H l=some (.lst xs)/\H b=some (.lst zs)/\xs.length+zs.length<=sizeLine/\∀ p,H p=none->Q (.ref p) (upd H p (.lst (xs++zs)))
theorem n4:OpR X (binaryOp .Add) ad7:=by
 intro pins s σ H x y v u Q I rx ry h
 obtain⟨l,b,xs,zs,rfl,rfl,hH,hB,hz,q⟩:=h
 cases rx
 cases ry
 obtain⟨z,its,n,r,hl,e⟩:=I.lstM hH
 obtain⟨z2,its2,n2,r2,hl2,e2⟩:=I.lstM hB
 refine PySem.P.add_list e e2 ?_ (by rw [aeU,aeU];omega)
 have ea:its.toArray++its2.toArray=(its++its2).toArray:=by simp
 rw [ea]
 exact⟨.ref _,_,I.lnew (t':=s.toks) (r.append r2) (by rw [aeG];omega),rfl,q _ I.fresh⟩
end
section
variable {prog:Program}{w:World}{A:Around}{E:Value->Shared->Prop}{s:Shared}
end
section
variable {X:Cx}
end
end L2
namespace Att
open PySem PySem.W PySem.Calls PyProof.Rows
theorem mC {P:Params}{h:Heap}:∀ (ns:List Int) (vs:List Value),WellAll P h vs (ns.map WData.int)->IntsAre vs ns:=by
 intro ns
 induction ns with
 | nil =>
  intro vs w
  rw [aii] at w
  cases w
  exact .nil
 | cons n ns ih =>
  intro vs w
  rw [aeZ] at w
  cases w with
  | cons a b =>
   cases a
   exact .cons _ _ (ih _ b)
theorem yO {l:OpenLaw}{n:Nat}(hn:l.most=some n){P:Params}{h:Heap}{args:List WData}{vals:List Value}
 (hpre:l.row.toRowW.claim.pre args=true)(hwl:WellAll P h vals args) :
 ∃ a vs ns,vals=[Value.ref a]/\args=[WData.list (ns.map WData.int)]/\h.get? a=some { cls:=.type "list",data:=.seq vs.toArray }/\IntsAre vs ns/\ns.length<=n:=by
 have hsh:WShape.hasAll [] args [.list .int]=true:=(pre_splitW hpre).1
 have hc:l.pre.holds [] { args:=args }=true:=(pre_splitW hpre).2
 obtain⟨d,r,rfl,h1,h2⟩:=hasAllW_cons hsh
 obtain rfl:=hasAllW_nil h2
 obtain⟨xs,rfl,h3⟩:=hasW_list h1
 obtain⟨ns,rfl⟩:=items_int h3
 have hlen:ns.length<=n:=by
  unfold OpenLaw.pre at hc
  have h4:(WTm.not (.lt (.lit (.int (n:Int))) (.len (.arg 0)))).holds [] { args:=[.list (ns.map .int)] }=true:=by
   have h4:=(holds_andW hc).1
   rw [hn] at h4
   exact h4
  have h5:=condW_of h4 (w_not (w_lt w_lit (w_len_list (w_arg rfl))))
  rw [aeD] at h5
  refine Nat.le_of_not_lt fun q=>?_
  have q':(n:Int) < ((ns.length:Nat):Int):=by omega
  first
   | (rw [afi q'] at h5;exact absurd h5 (by decide))
   | (simp at h5;omega)
 cases hwl with
 | cons w1 w2 =>
  cases w2
  cases w1 with
  | list ho hall=>exact⟨_,_,ns,rfl,rfl,ho,mC ns _ hall,hlen⟩
theorem xT (l:OpenLaw)(args:List WData):l.row.toRowW.claim.post args (.bool true) args=true :=
 postW_of (r:=l.row.toRowW) (X:=(true == true))
  (show WShape.has [] (.bool true) .bool=true by first | rfl | decide | simp [WShape.has,WShape.arms,WShape.armsAll])
  (show (WTm.eq .res (.lit (.bool true))).value [] { args:=args,res:=some (.bool true),after:=args }=some (.bool (true == true)) from w_eq_bool (w_res rfl) w_lit) rfl
theorem attach_call {l:OpenLaw}{n:Nat}{q:Program}{loose:List Str}{XP:(Str->Option Value)->Heap->Prop}{YP:World->Heap->Prop}{d:DefRec}
 (hn:l.most=some n)(hdf:d.params.defaults=[])
 (call:∀ (w:World) (s₀ s₁:Shared) (mg mb:Str->Option Value) (fa:Addr) (o:Obj) (pm cd doc:Value) (a:Addr) (vs:List Value) (ns:List Int),
  Ground q loose [] XP w s₀ mg mb s₁.heap->YP w s₁.heap →
  s₁.heap.get? fa=some o->o.data=.func (docDef d.name d.params d.body d.scope pm cd doc)->s₁.heap.CodeRec cd d.name->mg d.name=some (.ref fa) →
  s₁.heap.get? a=some { cls:=.type "list",data:=.seq vs.toArray }->IntsAre vs ns->ns.length<=n->s₁.gens=#[] →
  codeAny (model l.prog w) callerA (.call (.ref fa) ⟨[.ref a],[]⟩) (fun r s'=>r=.ok (.ret (.bool true))/\OldK s₁.heap s'.heap/\s'.os=s₁.os/\AllBare s'.gens) s₁) :
 WalkO q loose XP YP l.row.toRowW d [] (fun f vs=>PySem.call f vs):=by
 intro w s₀ s₁ mg mb G Y fa o pm cd doc dV kV ho hd hcd hD hmg hg args vals as hpre hlay hrd hwl hlo
 obtain rfl:dV=.none:=Dflts.none hD hdf
 obtain rfl:kV=.none:=Dflts.noKw hD
 obtain⟨a,vs,ns,rfl,rfl,hobj,hints,hlen⟩:=yO hn hpre hwl
 refine enter_call (agX (call w s₀ s₁ mg mb fa o pm cd doc a vs ns G Y ho (fd_plain hd) hcd hmg hobj hints hlen hg) fun r s' hq=>?_)
 obtain⟨rfl,h2,h3,h4⟩:=hq
 exact⟨.inl ⟨.bool true,.bool true,[],rfl,fun _=>rfl,.bool true,xT l _,fun _=>⟨List.Pairwise.nil,fun _ hm=>(nomatch hm)⟩⟩,h2,h3,h4⟩
section
variable {prog:Program}{w:World}{A:Around}{E:Value->Shared->Prop}{s:Shared}{K:Frag}
end
end Att
namespace L2
open PySem PySem.Spec PyProof.Rows
theorem ji:∀ {vs:List Value} {ns:List Int},IntsAre vs ns->Vals (ns.map V.int) vs
 | _,_,.nil=>.nil
 | _,_,.cons n t h=>.cons ⟨t,rfl⟩ (ji h)
def adn (H:Hp):Prop:=∀ b,H b=none\/∃ o xs,H b=some (.frz o (.lst xs))
theorem aan {P:Program}{w:World}{K:PySem.W.Frag}{mg mb:Str->Option Value}{CX:CXT}{k:Nat}{fa a:Addr}{fd:FuncData}{x:Str}{sp:Sp}{s₁:Shared}{vs:List Value}{ns:List Int}
 (KX:K.In s₁.heap)(hns:s₁.heap.Ns mainGlobals mg)(hb:s₁.heap.Ns builtinsNs mb)(hbb:∀ x:Str,x ≠ "__name__" → mb x=bootBuiltins x)(hlim:s₁.heap.NoLimit)(hg:s₁.gens=#[])
 (ha:s₁.heap.get? a=some { cls:=.type "list",data:=.seq vs.toArray })(hi:IntsAre vs ns)(hl:ns.length<=sizeLine)(hr:Room k callerA)
 (F:∀ base:Heap,K.In base->base.Ns mainGlobals mg->aV P w K mg base CX k fa fd [x] sp)(hbind:∀ (s:Shared) (u:Value),BindsTo s fd ⟨[u],[]⟩ [(x,u)])
 (hsp:∀ H:Hp,adn H->SqL K H a (ns.map V.int)->sp [.ref a] H (fun v _=>v=.bl true) fun _ _ _=>False)
 (hCX:∀ H e s',CX [] H s₁ (fun _ _ _=>False) e s'->False) :
 codeAny (model P w) callerA (.call (.ref fa) ⟨[.ref a],[]⟩) (fun r s'=>r=.ok (.ret (.bool true))/\OldK s₁.heap s'.heap/\s'.os=s₁.os/\AllBare s'.gens) s₁:=by
 have rv:=ji hi
 have lenV:=hi.length
 have core:∀ H:Hp,adn H->SqL K H a (ns.map V.int)->HOk P w H s₁.heap->(∀ b,H b≠none->b=a)->(H a≠none->K.lookup a=none) →
  codeAny (model P w) callerA (.call (.ref fa) ⟨[.ref a],[]⟩) (fun r s'=>r=.ok (.ret (.bool true))/\OldK s₁.heap s'.heap/\s'.os=s₁.os/\AllBare s'.gens) s₁:=by
  intro H hO hS hok hA hK
  have base_of:∀ {b:Addr} {o:Obj},s₁.heap.get? b=some o->H b=none->(zU s₁.heap H).get? b=some o:=fun e n=>aaq e n
  have noA:∀ {b:Addr} {o:Obj} {es:Array DictEntry} {ep:Nat},s₁.heap.get? b=some o->o.data=.dict es ep->H b=none:=fun {b o es ep} e d=>by
   cases q:H b with
   | none=>rfl
   | some u =>
    have e':b=a:=hA b (by rw [q];simp)
    subst e'
    rw [ha] at e;cases e
    have d':Data.seq vs.toArray _=Data.dict es ep:=d
    cases d'
  have nsK:∀ {b:Addr} {m:Str->Option Value},s₁.heap.Ns b m->(zU s₁.heap H).Ns b m:=fun {b m} ⟨o,es,ep,e,d,r⟩=>⟨o,es,ep,base_of e (noA e d),d,r⟩
  have hKb:K.In (zU s₁.heap H):=fun b o e=>base_of (KX b o e) (by
   cases q:H b with
   | none=>rfl
   | some u =>
    have e':b=a:=hA b (by rw [q];simp)
    subst e'
    rw [hK (by rw [q];simp)] at e;cases e)
  have hM:Mod K mg (zU s₁.heap H):=⟨hKb,nsK hns,⟨mb,nsK hb,hbb⟩,let ⟨mc,h1,h2⟩:=hlim;⟨mc,nsK h1,h2⟩⟩
  have e0:adg P w K mg (zU s₁.heap H) callerA [] s₁ H:=⟨rfl,hM,fun b o e=>aa5 e,Nat.le_of_eq (yC _ _),trivial,fun b hb=>absurd (show b∈([]:List Addr) from hb) (by simp),hok,.of_eq hg⟩
  refine agX ((F _ hKb (nsK hns)).run callerA [] s₁ H ⟨[.ref a],[]⟩ [.ref a] [.ref a] _ _ hr e0 (hbind s₁ (.ref a)) (.cons rfl .nil) (hsp H hO hS)) fun r s' h=>?_
  cases r with
  | error e=>exact (hCX H e s' h).elim
  | ok fl =>
   cases fl with
   | next=>exact False.elim h
   | brk=>exact False.elim h
   | cont=>exact False.elim h
   | ret u =>
    obtain⟨v,H',os,bare,un,hok',r',q⟩:=h
    have q':v=.bl true:=q
    subst q'
    obtain rfl:u=Value.bool true:=r'
    refine⟨rfl,OldK.of_keep fun b o e=>?_,os,bare⟩
    cases q:H b with
    | none=>exact un.keep b o e q (by intro z;exact absurd (show b∈([]:List Addr) from z) (by simp)) (by simp)
    | some u =>
     rcases hO b with z | ⟨ob,xs,z⟩
     ·rw [q] at z;cases z
     ·have z2:=un.frzs b ob _ z
      obtain⟨e1,_⟩:=hok b _ z
      obtain⟨e2,_⟩:=hok' b _ z2
      rw [e] at e1;cases e1
      exact e2
 cases hk:K.lookup a with
 | some o =>
  have e:=KX a o hk
  rw [ha] at e
  cases e
  refine core (fun _=>none) (fun _=>.inl rfl) (.inr ⟨_,vs.toArray,_,hk,rfl,rfl,rfl,by rw [aeU,lenV];exact hl,by simpa using rv⟩) (fun b u z=>by have z':(none:Option HO)=some u:=z;cases z') (fun b z=>absurd rfl z) fun z=>absurd rfl z
 | none =>
  refine core (fun b=>if b=a then some (.frz { cls:=.type "list",data:=.seq vs.toArray } (.lst (ns.map V.int))) else none) (fun b=>?_) (.inl (.inr ⟨{ cls:=.type "list",data:=.seq vs.toArray },if_pos rfl⟩)) (fun b u z=>?_) (fun b z=>?_) fun _=>hk
  ·by_cases hb:b=a
   ·exact .inr ⟨_,_,if_pos hb⟩
   ·exact .inl (if_neg hb)
  ·by_cases hb:b=a
   ·have z':=(if_pos hb).symm.trans z
    cases z'
    subst hb
    exact⟨ha,by rw [aeD];exact hl,vs,_,rv,ha⟩
   ·have z':=(if_neg hb).symm.trans z
    cases z'
  ·by_cases hb:b=a
   ·exact hb
   ·exact absurd (if_neg hb) z
theorem walk_of {l:PySem.W.OpenLaw}{n k:Nat}{q:Program}{loose:List Str}{XP:(Str->Option Value)->Heap->Prop}{YP:World->Heap->Prop}{d:DefRec}{K:Params->PySem.W.Frag}{CX:World->CXT}{sp:World->Sp}{x:Str}
 (hn:l.most=some n)(hn2:n<=sizeLine)(hdf:d.params.defaults=[])(hr:Room k callerA)
 (hY:∀ (w:World) (h:Heap),YP w h->(K w.params).In h)
 (F:∀ (w:World) (mg:Str->Option Value) (fa:Addr) (h:Heap),(K w.params).In h->h.Ns mainGlobals mg->mg d.name=some (.ref fa) →
  ∃ fd:FuncData,(∀ (s:Shared) (u:Value),BindsTo s fd ⟨[u],[]⟩ [(x,u)]) ∧
   ∀ base:Heap,(K w.params).In base->base.Ns mainGlobals mg->aV l.prog w (K w.params) mg base (CX w) k fa fd [x] (sp w))
 (hsp:∀ (w:World) (H:Hp) (a:Addr) (ns:List Int),ns.length<=n->adn H->SqL (K w.params) H a (ns.map V.int)->sp w [.ref a] H (fun v _=>v=.bl true) fun _ _ _=>False)
 (hCX:∀ (w:World) (H:Hp) (s:Shared) (e:Value) (s':Shared),CX w [] H s (fun _ _ _=>False) e s'->False) :
 PySem.W.WalkO q loose XP YP l.row.toRowW d [] (fun f vs=>PySem.call f vs):=by
 refine Att.attach_call hn hdf fun w s₀ s₁ mg mb fa o pm cd doc a vs ns G Y ho hd hcd hmg hobj hints hlen hg=>?_
 have KX:=hY w _ Y
 obtain⟨fd,hb,hF⟩:=F w mg fa _ KX G.T.g hmg
 exact aan KX G.T.g G.T.b G.T.builtins G.T.nolimit hg hobj hints (afk hlen hn2) hr hF hb (fun H hO hS=>hsp w H a ns hlen hO hS) fun H e s'=>hCX w H s₁ e s'
def aM (s:Stmt):Arguments:=match s with
 | .FunctionDef _ a _ _ _ _ _ _ _ _=>a
 | _=>{ posonlyargs:=[],args:=[],vararg:=none,kwonlyargs:=[],kw_defaults:=[],kwarg:=none,defaults:=[] }
def aH (s:Stmt):List Stmt:=match s with
 | .FunctionDef _ _ b _ _ _ _ _ _ _=>b
 | _=>[]
def aq (s:Stmt):Scope:=match s with
 | .FunctionDef _ _ _ _ _ _ sc _ _ _=>sc
 | _=>{ kind:=.function,names:=[],isGenerator:=false,isCoroutine:=false }
abbrev CX0:CXT:=fun _ _ _ _ _ _=>False
abbrev E0:XK:=fun _ _ _=>False
theorem aP {X:Cx}:wF CX0 X E0:=fun _ _ _ _ _ _ _ h=>h.elim
structure Fun (K:PySem.W.Frag)(x qual:Str)(st:Stmt)(f:Addr)(fd:FuncData):Prop where
 ex:∃ (oc:Value) (od:Option Addr) (kV doc pm:Value) (an:Option Addr) (cdv ct:Value) (osl:Array (Option Value)),
  fd=PySem.W.fnOf x qual (aM st) (aH st) (aq st) .none kV doc pm an cdv ct/\K.lookup f=some ⟨oc,od,.func fd,osl⟩/\PySem.W.codeIn K cdv qual=true
 kp:PySem.W.keepIn K (.ref f)=true
section
variable {P:Program}{w:World}{K:PySem.W.Frag}{mg:Str->Option Value}{base:Heap}
theorem Fun.ok {x qual:Str}{st:Stmt}{f:Addr}{fd:FuncData}{N ps:List Str}{k:Nat}{sp:Sp}(F:Fun K x qual st f fd)(S:aO N ps (aq st))(len:∀ vs H Q E,sp vs H Q E->vs.length=ps.length)
 (hbody:∀ (cdv:Value) (A:Around) (outer:List Env) (s:Shared) (H:Hp) (vs:List V) (Q:VK) (E:XK),Room k (A.deeper (envOfC qual (aq st) s.heap.objs.size f cdv))->sp vs H Q E →
  ∃ t,PSs (wj CX0 P w K mg base N qual (aq st) f cdv A outer s H E).nox (aH st) t/\t { nx:=fun _ H'=>Q .non H',rt:=Q } (qt N vs) H):aV P w K mg base CX0 (k+1) f fd ps sp:=by
 obtain⟨oc,od,kV,doc,pm,an,cdv,ct,osl,rfl,lk,hcd⟩:=F.ex
 refine adS lk hcd S len fun A outer s H vs Q E hr hsp=>?_
 obtain⟨t,h,q⟩:=hbody cdv A outer s H vs Q E hr hsp
 exact⟨t,h.nox,q⟩
theorem Fun.binds {x qual:Str}{st:Stmt}{f:Addr}{fd:FuncData}{ps:List Str}(F:Fun K x qual st f fd)
 (h:∀ (kV doc pm:Value) (an:Option Addr) (cdv ct:Value) (us:List Value),us.length=ps.length->bindArgs (PySem.W.fnOf x qual (aM st) (aH st) (aq st) .none kV doc pm an cdv ct) ⟨us,[]⟩=pure (ps.zip us)):Binds K fd ps []:=by
 obtain⟨oc,od,kV,doc,pm,an,cdv,ct,osl,rfl,lk,hcd⟩:=F.ex
 exact .all (h kV doc pm an cdv ct)
theorem bw {x qual:Str}{st:Stmt}{f:Addr}{oc:Value}{od an:Option Addr}{osl:Array (Option Value)}{kV doc pm cdv ct:Value}(l:K.lookup f=some ⟨oc,od,.func (PySem.W.fnOf x qual (aM st) (aH st) (aq st) .none kV doc pm an cdv ct),osl⟩)
 (c:PySem.W.codeIn K cdv qual=true)(k:PySem.W.keepIn K (.ref f)=true):Fun K x qual st f (PySem.W.fnOf x qual (aM st) (aH st) (aq st) .none kV doc pm an cdv ct):=⟨⟨oc,od,kV,doc,pm,an,cdv,ct,osl,rfl,l,c⟩,k⟩
end
theorem m7 {A:Around}{k:Nat}(hr:Room k A):A.units+1 < cLine:=aff (agN (by decide:1<=64) _) hr.units
theorem aD {n:Nat}(h:n<=1000):n < sizeLine:=aff h (by decide)
section
variable {X:Cx}
theorem pv (i:Nat){x:Str}{pos:Pos}(hN:X.N[i]? = some x:=by rfl)(hv:Vis X.env.scope x:=by first | exact Or.inl rfl | exact Or.inr (Or.inl rfl) | exact Or.inr (Or.inr rfl))(hd:(x == ("__debug__" : Str))=false:=by decide)
 (hcd:(x == ("__classdict__" : Str))=false:=by decide):PE X (.Name x pos) (wx i):=aci hN hv hd hcd
end
theorem gu {A B:Prop}(h:B):if false=true then A else B:=by
 rw [if_neg aeM]
 exact h
theorem gU {A B:Prop}(h:A):if true=true then A else B:=by
 rw [if_pos rfl]
 exact h
theorem rP {c A B:Prop}[Decidable c](h1:c->A)(h2:¬ c->B):if c then A else B:=by
 by_cases h:c
 ·rw [if_pos h]
  exact h1 h
 ·rw [if_neg h]
  exact h2 h
def Same (H H':Hp):Prop:=∀ b o,H b=some o->H' b=some o
theorem Same.refl (H:Hp):Same H H:=fun _ _ h=>h
theorem Same.trans {H H1 H2:Hp}(a:Same H H1)(b:Same H1 H2):Same H H2:=fun c o h=>b c o (a c o h)
theorem Same.free {H H':Hp}(e:Same H H'){l:Addr}(h:H' l=Option.none):H l=Option.none:=by
 cases q:H l with
 | none=>rfl
 | some o =>
  rw [e l o q] at h
  cases h
theorem Same.seq {K:PySem.W.Frag}{H H':Hp}{a:Addr}{xs:List V}(e:Same H H')(h:SqL K H a xs):SqL K H' a xs:=by
 rcases h with (h | ⟨o,h⟩) | h
 ·exact .inl (.inl (e _ _ h))
 ·exact .inl (.inr ⟨o,e _ _ h⟩)
 ·exact .inr h
section
variable {κ:Type}[DecidableEq κ]
def fq (kvs:List (κ×V))(k:κ):Option V:=(kvs.find? fun kv=>decide (kv.1=k)).map (·.2)
def kO (kvs:List (κ×V))(k:κ)(v:V):List (κ×V) :=
 if (kvs.any fun kv=>decide (kv.1=k))=true then kvs.map (fun kv=>if kv.1=k then (kv.1,v) else kv) else kvs++[(k,v)]
theorem dN {p:κ×V}{r:List (κ×V)}{k:κ}(e:p.1=k):fq (p::r) k=some p.2:=by simp [fq,ahr,e]
theorem dt {p:κ×V}{r:List (κ×V)}{k:κ}(e:¬ p.1=k):fq (p::r) k=fq r k:=by simp [fq,ahr,e]
theorem jm (k:κ):∀ kvs:List (κ×V),(kvs.any fun kv=>decide (kv.1=k))=(fq kvs k).isSome
 | []=>rfl
 | p::r=>by
  rw [agY]
  by_cases e:p.1=k
  ·simp only [dN e,afi e,Bool.true_or,Option.isSome_some]
  ·rw [dt e,afq e,Bool.false_or];exact jm k r
theorem uq (k j:κ)(y:V):∀ kvs:List (κ×V),fq (kvs.map fun kv=>if kv.1=k then (kv.1,y) else kv) j=(fq kvs j).map fun x=>if j=k then y else x
 | []=>rfl
 | p::r=>by
  have ih:=uq k j y r
  rw [aeZ]
  by_cases h:p.1=k
  ·rw [if_pos h]
   by_cases e:p.1=j
   ·rw [dN (p:=(p.1,y)) e,dN e,ahS,if_pos (e.symm.trans h)]
   ·rw [dt (p:=(p.1,y)) e,dt e,ih]
  ·rw [if_neg h]
   by_cases e:p.1=j
   ·rw [dN (p:=p) e,dN e,ahS,if_neg (fun z=>h (e.trans z))]
   ·rw [dt (p:=p) e,dt e,ih]
theorem qu (k j:κ)(y:V):∀ kvs:List (κ×V),fq kvs k=none->fq (kvs++[(k,y)]) j=if j=k then some y else fq kvs j
 | [],_=>by
  by_cases e:k=j
  ·rw [if_pos e.symm];exact dN (p:=(k,y)) e
  ·rw [if_neg (fun z=>e z.symm)];exact dt (p:=(k,y)) e
 | p::r,hn=>by
  rw [ajE]
  have hk:¬ p.1=k:=fun z=>by rw [dN z] at hn;cases hn
  rw [dt hk] at hn
  have ih:=qu k j y r hn
  by_cases e:p.1=j
  ·rw [dN e,dN e,if_neg (fun z=>hk (e.trans z))]
  ·rw [dt e,dt e,ih]
theorem iG (kvs:List (κ×V))(k j:κ)(y:V):fq (kO kvs k y) j=if j=k then some y else fq kvs j:=by
 unfold kO
 by_cases a:(kvs.any fun kv=>decide (kv.1=k))=true
 ·rw [if_pos a,uq]
  rw [jm] at a
  by_cases e:j=k
  ·obtain⟨x,hx⟩:=ajc.mp a
   rw [if_pos e,e,hx,ahS,if_pos rfl]
  ·rw [if_neg e]
   cases fq kvs j with
   | none=>rfl
   | some x=>rw [ahS,if_neg e]
 ·rw [if_neg a]
  refine qu k j y kvs ?_
  rw [jm] at a
  cases q:fq kvs k with
  | none=>rfl
  | some x=>rw [q] at a;exact (a rfl).elim
theorem eP (kvs:List (κ×V))(k:κ)(v:V):(kO kvs k v).length<=kvs.length+1:=by
 unfold kO
 split
 ·rw [aeD];omega
 ·rw [aeG,afd,ahs];omega
theorem pj {kvs:List (κ×V)}{k:κ}(v:V)(h:fq kvs k=none):kO kvs k v=kvs++[(k,v)]:=by
 unfold kO
 rw [jm,h]
 exact if_neg (by decide)
theorem RelO.isSome_eq {o:Option V}{u:Option Value}(r:RelO o u):o.isSome=u.isSome:=by
 cases o with
 | none=>cases u with
  | none=>rfl
  | some _=>exact (show False from r).elim
 | some _=>cases u with
  | none=>exact (show False from r).elim
  | some _=>rfl
theorem RelO.getD {o:Option V}{u:Option Value}{d:V}{d':Value}(r:RelO o u)(rd:RelV d d'):RelV (o.getD d) (u.getD d'):=by
 cases o with
 | none=>cases u with
  | none=>exact rd
  | some _=>exact (show False from r).elim
 | some _=>cases u with
  | none=>exact (show False from r).elim
  | some _=>exact r
theorem KV.val {kvs:List (κ×V)}{vs:List (κ×Value)}(r:KV kvs vs)(k:κ):RelO (fq kvs k) (valueAt vs k):=by
 unfold KV at r
 induction r with
 | nil=>exact True.intro
 | @cons p q ps qs h t ih =>
  obtain⟨h1,h2⟩:=h
  by_cases e:p.1=k
  ·have e':q.1=k:=h1.symm.trans e
   have b:valueAt (q::qs) k=some q.2:=by simp [valueAt,ahr,e']
   rw [dN e,b];exact h2
  ·have e':¬ q.1=k:=fun z=>e (h1.trans z)
   have b:valueAt (q::qs) k=valueAt qs k:=by simp [valueAt,ahr,e']
   rw [dt e,b];exact ih
theorem KV.any {kvs:List (κ×V)}{vs:List (κ×Value)}(r:KV kvs vs)(k:κ):(kvs.any fun kv=>decide (kv.1=k))=vs.any fun kv=>decide (kv.1=k):=by
 unfold KV at r
 induction r with
 | nil=>rfl
 | cons h t ih=>rw [agY,agY,ih,h.1]
theorem KV.repl {kvs:List (κ×V)}{vs:List (κ×Value)}(r:KV kvs vs)(k:κ){y:V}{u:Value}(ry:RelV y u) :
 KV (kvs.map fun kv=>if kv.1=k then (kv.1,y) else kv) (vs.map fun kv=>if kv.1=k then (kv.1,u) else kv):=by
 unfold KV at r ⊢
 induction r with
 | nil=>exact .nil
 | @cons p q ps qs h t ih =>
  rw [aeZ,aeZ]
  refine .cons ?_ ih
  obtain⟨h1,h2⟩:=h
  by_cases e:p.1=k
  ·rw [if_pos e,if_pos (h1.symm.trans e)];exact⟨h1,ry⟩
  ·rw [if_neg e,if_neg (fun z=>e (h1.trans z))];exact⟨h1,h2⟩
theorem KV.put {kvs:List (κ×V)}{vs:List (κ×Value)}(r:KV kvs vs)(k:κ){y:V}{u:Value}(ry:RelV y u):KV (kO kvs k y) (stored vs k u):=by
 unfold kO stored
 rw [r.any k]
 by_cases e:(vs.any fun kv=>decide (kv.1=k))=true
 ·rw [if_pos e,if_pos e];exact r.repl k ry
 ·rw [if_neg e,if_neg e];exact Paired.snoc r ⟨rfl,ry⟩
theorem KV.keys {kvs:List (κ×V)}{vs:List (κ×Value)}(r:KV kvs vs):kvs.map (·.1)=vs.map (·.1):=by
 unfold KV at r
 induction r with
 | nil=>rfl
 | cons h t ih=>rw [aeZ,aeZ,ih,h.1]
theorem KV.length {kvs:List (κ×V)}{vs:List (κ×Value)}(r:KV kvs vs):kvs.length=vs.length:=ajt r
end
theorem qw {P:Program}{w:World}{k:Key}{u:Value}(r:RelV (kV k) u):(bz P w).is k u=true:=by
 cases k with
 | inl i=>obtain⟨t,e⟩:=(show ∃ t,u=Value.int i t from r);subst e;exact tF P w i t
 | inr x=>obtain⟨t,e⟩:=(show ∃ t,u=Value.str x t from r);subst e;exact rW P w x t
theorem rj {P:Program}{w:World}:∀ {ks:List Key} {us:List Value},Vals (ks.map kV) us->ItemsAre (bz P w) ks us
 | [],_,r=>by rw [aii] at r;cases r;exact .nil
 | k::ks,_,r=>by
  rw [aeZ] at r
  cases r with
  | cons h t=>exact .cons (qw h) (rj t)
abbrev KT (H:Hp):List (List Key×V)->List (List Key×Addr×Value)->Prop:=Paired fun p q=>p.1=q.1/\H q.2.1=some (.tup (p.1.map kV))/\RelV p.2 q.2.2
theorem KT.val {H:Hp}{kvs:List (List Key×V)}{xs:List (List Key×Addr×Value)}(r:KT H kvs xs)(k:List Key):RelO (fq kvs k) ((atKey xs k).map (·.2)):=by
 induction r with
 | nil=>exact True.intro
 | @cons p q ps qs h t ih =>
  obtain⟨h1,_,h2⟩:=h
  by_cases e:p.1=k
  ·have e':q.1=k:=h1.symm.trans e
   have b:atKey (q::qs) k=some q.2:=by simp [atKey,ahr,e']
   rw [dN e,b];exact h2
  ·have e':¬ q.1=k:=fun z=>e (h1.trans z)
   have b:atKey (q::qs) k=atKey qs k:=by simp [atKey,ahr,e']
   rw [dt e,b];exact ih
theorem KT.repl {H:Hp}{kvs:List (List Key×V)}{xs:List (List Key×Addr×Value)}(r:KT H kvs xs)(k:List Key){y:V}{u:Value}(ry:RelV y u) :
 KT H (kvs.map fun kv=>if kv.1=k then (kv.1,y) else kv) (xs.map (putAt k u)):=by
 induction r with
 | nil=>exact .nil
 | @cons p q ps qs h t ih =>
  rw [aeZ,aeZ]
  refine .cons ?_ ih
  obtain⟨h1,h2,h3⟩:=h
  unfold putAt
  by_cases e:p.1=k
  ·rw [if_pos e,if_pos (h1.symm.trans e)];exact⟨h1,h2,ry⟩
  ·rw [if_neg e,if_neg (fun z=>e (h1.trans z))];exact⟨h1,h2,h3⟩
theorem KT.put {H:Hp}{kvs:List (List Key×V)}{xs:List (List Key×Addr×Value)}(r:KT H kvs xs)(k:List Key){b:Addr}{y:V}{u:Value}(hb:H b=some (.tup (k.map kV)))(ry:RelV y u) :
 KT H (kO kvs k y) (storedH xs k b u):=by
 have e:(kvs.any fun kv=>decide (kv.1=k))=(atKey xs k).isSome:=by
  rw [jm,(r.val k).isSome_eq,Option.isSome_map]
 unfold kO storedH
 rw [e]
 by_cases q:(atKey xs k).isSome=true
 ·rw [if_pos q,if_pos q];exact r.repl k ry
 ·rw [if_neg q,if_neg q];exact Paired.snoc r ⟨rfl,hb,ry⟩
theorem KT.keeps {H H':Hp}{kvs:List (List Key×V)}{xs:List (List Key×Addr×Value)}(r:KT H kvs xs)(ht:∀ b ys,H b=some (.tup ys)->H' b=some (.tup ys)):KT H' kvs xs :=
 Paired.mapP r fun _ _ z=>⟨z.1,ht _ _ z.2.1,z.2.2⟩
section
variable {P:Program}{w:World}{H:Hp}{h:Heap}{a:Addr}
theorem ac8 {u:HO}(ok:HOk P w H h)(e:Rd H a u):ObjOk P w H h a u:=e.ok ok
theorem rZ {kvs:List (Key×V)}(ok:HOk P w H h)(e:Rd H a (.dK kvs)):kvs.length<=sizeLine/\(a == sysModules)=false/\∃ vs,KV kvs vs/\h.DictOf (bz P w) a vs :=
 show ObjOk P w H h a (.dK kvs) from ac8 ok e
theorem wI {kvs:List (Key×V)}(ok:HOk P w H h)(e:H a=some (.dK kvs)):kvs.length<=sizeLine/\(a == sysModules)=false/\∃ vs,KV kvs vs/\h.DictOf (bz P w) a vs:=rZ ok (.inl e)
theorem lB {ks:List Key}(ok:HOk P w H h)(e:H a=some (.tup (ks.map kV))):(tupleKind (bz P w)).is h ks a:=by
 obtain⟨_,its,r,o,h1,h2,n,h3⟩:=(show ObjOk P w H h a (.tup (ks.map kV)) from ok a _ e)
 exact⟨o,its.toArray,n,h1,h2,h3,by simpa using rj r⟩
theorem sJ {kvs:List (List Key×V)}(ok:HOk P w H h)(e:Rd H a (.dT kvs)):kvs.length<=sizeLine/\(a == sysModules)=false ∧
 ∃ xs,KT H kvs xs/\h.DictOfH (tupleKind (bz P w)) a xs:=by
 obtain⟨z,y,xs,r,o,es,ep,h1,h2,h3,h4,h5⟩:=(show ObjOk P w H h a (.dT kvs) from ac8 ok e)
 refine⟨z,y,xs,r,o,es,ep,h1,h2,h3,h4,fun x hx=>?_,h5⟩
 have all:∀ {l:List (List Key×V)} {m:List (List Key×Addr×Value)},KT H l m->∀ x∈m,(tupleKind (bz P w)).is h x.1 x.2.1:=by
  intro l m q
  induction q with
  | nil=>intro x hx;exact nomatch hx
  | @cons p q ps qs hq t ih =>
   intro x hx
   rcases aeX.mp hx with e | hx
   ·subst e
    exact lB ok (by rw [← hq.1];exact hq.2.1)
   ·exact ih x hx
 exact all r x hx
theorem abQ {kvs:List (List Key×V)}(ok:HOk P w H h)(e:H a=some (.dT kvs)):kvs.length<=sizeLine/\(a == sysModules)=false ∧
 ∃ xs,KT H kvs xs/\h.DictOfH (tupleKind (bz P w)) a xs:=sJ ok (.inl e)
end
def DGet (H:Hp)(a:Addr)(y:V)(r:Option V):Prop :=
 (∃ kvs k,Rd H a (.dK kvs)/\y=kV k/\r=fq kvs k)\/∃ kvs k b,Rd H a (.dT kvs)/\y=.ref b/\H b=some (.tup (k.map kV))/\r=fq kvs k
def DPut (H:Hp)(a:Addr)(y v:V)(H':Hp):Prop :=
 (∃ kvs k,H a=some (.dK kvs)/\y=kV k/\kvs.length < sizeLine/\H'=upd H a (.dK (kO kvs k v))) ∨
 ∃ kvs k b,H a=some (.dT kvs)/\y=.ref b/\H b=some (.tup (k.map kV))/\kvs.length < sizeLine/\H'=upd H a (.dT (kO kvs k v))
theorem DGet.k {H:Hp}{a:Addr}{kvs:List (Key×V)}{k:Key}(e:H a=some (.dK kvs)):DGet H a (kV k) (fq kvs k):=.inl ⟨kvs,k,.inl e,rfl,rfl⟩
theorem DGet.t {H:Hp}{a b:Addr}{kvs:List (List Key×V)}{k:List Key}(e:H a=some (.dT kvs))(eb:H b=some (.tup (k.map kV))):DGet H a (.ref b) (fq kvs k):=.inr ⟨kvs,k,b,.inl e,rfl,eb,rfl⟩
theorem DPut.t {H:Hp}{a b:Addr}{kvs:List (List Key×V)}{k:List Key}{v:V}(e:H a=some (.dT kvs))(eb:H b=some (.tup (k.map kV)))(hl:kvs.length < sizeLine) :
 DPut H a (.ref b) v (upd H a (.dT (kO kvs k v))):=.inr ⟨kvs,k,b,e,rfl,eb,hl,rfl⟩
section
variable {X:Cx}{pins:List (Addr×Obj)}{σ:St}{H:Hp}{s:Shared}{a:Addr}{y v:V}{u r:Value}{o:Option V}{A:Around}{E:Value->Shared->Prop}
theorem Inv.big (I:Inv X pins σ H s):sysModules < s.heap.objs.size:=by
 have h:mainGlobals < s.heap.objs.size:=(I.mod.glob.keeps I.bk).lt
 exact Nat.lt_trans (by decide) h
theorem yT {Q:Value->Shared->Prop}(hu:A.units+1 < cLine)(I:Inv X pins σ H s)(g:DGet H a y (some v))(ry:RelV y u)(h:∀ w' s',Inv X pins σ H s'->RelV v w'->Q w' s') :
 wpAny (model X.prog X.w) A (getItem (.ref a) u) Q E s:=by
 rcases g with ⟨kvs,k,e,ey,l⟩ | ⟨kvs,k,b,e,ey,eb,l⟩
 ·subst ey
  obtain⟨z,hd,vs,rel,dd⟩:=rZ I.hok e
  obtain⟨w',hw,rw'⟩:=RelO.some_of (v:=v) (o:=valueAt vs k) (by rw [l];exact rel.val k)
  exact wpAny_getItem_of (qw ry) dd.mapOf hw (h w' _ (I.tok _) rw')
 ·subst ey
  cases (show u=Value.ref b from ry)
  obtain⟨z,hd,xs,rel,dd⟩:=sJ I.hok e
  obtain⟨w',hw,rw'⟩:=RelO.some_of (v:=v) (o:=(atKey xs k).map (·.2)) (by rw [l];exact rel.val k)
  obtain⟨p,hp,hp2⟩:=agv.mp hw
  refine wpAny_getItem_heap (aho hu) (lB I.hok eb) dd hp ?_
  rw [hp2]
  exact h w' _ (I.tok _) rw'
theorem abu {Q:Value->Shared->Prop}(hu:A.units+1 < cLine)(I:Inv X pins σ H s)(g:DGet H a y o)(ry:RelV y u)(h:∀ s',Inv X pins σ H s'->Q (.bool (!o.isSome)) s') :
 wpAny (model X.prog X.w) A (compareOp .NotIn u (.ref a)) Q E s:=by
 rcases g with ⟨kvs,k,e,ey,l⟩ | ⟨kvs,k,b,e,ey,eb,l⟩
 ·subst ey
  obtain⟨z,hd,vs,rel,dd⟩:=rZ I.hok e
  refine wpAny_notIn_of (qw ry) hd dd.mapOf ?_
  rw [← (rel.val k).isSome_eq,← l]
  exact h _ (I.tok _)
 ·subst ey
  cases (show u=Value.ref b from ry)
  obtain⟨z,hd,xs,rel,dd⟩:=sJ I.hok e
  refine wpAny_notIn_heap (aho hu) (lB I.hok eb) hd dd ?_
  have q:=(rel.val k).isSome_eq
  rw [Option.isSome_map] at q
  rw [← q,← l]
  exact h _ (I.tok _)
theorem jJ {h':Heap}{t':Nat}{ob:HO}(I:Inv X pins σ H s)(mu:Mut (H a))(hs:Heap.SameBut a s.heap h')(he:∃ q,h'.get? a=some q)(new:ObjOk X.prog X.w (upd H a ob) h' a ob) :
 Inv X pins σ (upd H a ob) { s with heap:=h',toks:=t' } :=
 I.write (x:=a) (e:=a) mu (.inl rfl) (fun b q hb z=>(hs.2 b hb).trans z) he new
theorem yx {P:Program}{w:World}{H':Hp}{h':Heap}{kvs:List (Key×V)}{vs:List (Key×Value)}(z:kvs.length<=sizeLine)(hd:(a == sysModules)=false)(rel:KV kvs vs)(dd:h'.DictOf (bz P w) a vs) :
 ObjOk P w H' h' a (.dK kvs):=⟨z,hd,vs,rel,dd⟩
theorem xp {H':Hp}{Q:Unit->Shared->Prop}(hu:A.units+1 < cLine)(I:Inv X pins σ H s)(g:DPut H a y v H')(ry:RelV y u)(rv:RelV v r)(h:∀ s',Inv X pins σ H' s'->Q () s') :
 wpAny (model X.prog X.w) A (setItem (.ref a) u r) Q E s:=by
 rcases g with ⟨kvs,k,e,ey,l,eH⟩ | ⟨kvs,k,b,e,ey,eb,l,eH⟩
 ·subst ey eH
  obtain⟨z,hd,vs,rel,dd⟩:=wI I.hok e
  have hz:vs.length<=sizeLine:=by rw [← rel.length];exact z
  have hl:(kO kvs k v).length<=sizeLine:=by have:=eP kvs k v;omega
  refine wpAny_setItem_pairs (hsz:=hz) (qw ry) dd fun h' dd' hs=>h _ ?_
  have he:∃ q,h'.get? a=some q:=let ⟨q,_,_,hq,_⟩:=dd';⟨q,hq⟩
  exact jJ I (by rw [e];exact True.intro) hs he (yx hl hd (rel.put k rv) dd')
 ·subst ey eH
  cases (show u=Value.ref b from ry)
  obtain⟨z,hd,xs,rel,dd⟩:=abQ I.hok e
  have hz:xs.length<=sizeLine:=by rw [← ajt rel];exact z
  have hl:(kO kvs k v).length<=sizeLine:=by have:=eP kvs k v;omega
  refine wpAny_setItem_heap (hsz:=hz) (aho hu) (lB I.hok eb) dd fun h' dd' hs=>h _ ?_
  obtain⟨q,es,ep,hq,h2,h3,h4,_,h5⟩:=dd'
  refine jJ I (by rw [e];exact True.intro) hs ⟨q,hq⟩ ⟨hl,hd,_,(rel.put k eb rv).keeps fun c ys ec=>?_,q,es,ep,hq,h2,h3,h4,h5⟩
  rw [ah (bX ec e (fun z=>nomatch z))]
  exact ec
end
section
variable {X:Cx}{pins:List (Addr×Obj)}{σ:St}{H:Hp}{s:Shared}{a:Addr}{kvs:List (Key×V)}{k:Key}{u:Value}{A:Around}{E:Value->Shared->Prop}
end
def ad4 (i:Expr):Prop:=∀ ov iv,subscripted i false ov iv=operate [ov,iv] (getItem ov iv)
theorem abl {prog:Program}{w:World}{A:Around}{E:Value->Shared->Prop}{s:Shared}{env:Env}{value slice:Expr}{pos:Pos}{T id:String}{Q:Value->Shared->Prop}
 (hl:typeLookup (.type T) "__getitem__" = pure (some (.builtin id)))(hs:ad4 slice)
 (h:wpAny (model prog w) A (eval value env) (fun o s₁=>wpAny (model prog w) A (eval slice env) (fun i s₂=>s₂.TypeIs o T/\wpAny (model prog w) A (getItem o i) Q E s₂) E s₁) E s) :
 wpAny (model prog w) A (eval (.Subscript value slice pos) env) Q E s:=by
 refine Subscript_ (afu h (fun o s₁ h₁=>afu h₁ (fun i s₂ h₂=>?_) fun _ _ x=>x) fun _ _ x=>x)
 obtain⟨hT,h₂⟩:=h₂
 unfold subscriptTail
 refine aeE ?_
 rw [getitemInPython_of_ne hT.not_modules]
 refine aeE (wpAny_specialOf hT hl ?_)
 have fin:wpAny (model prog w) A (subscripted slice false o i) (fun r s₃=>wpAny (model prog w) A (letTemporaryGo value o r >>= fun _=>pure r) Q E s₃) E s₂:=by
  rw [hs o i]
  exact wpAny_operating (afu h₂ (fun r s₃ h₃=>aeE (wpAny_letTemporaryGo (aeK h₃))) fun _ _ x=>x)
 first
  | exact aeK (aeE fin)
  | exact aeE (aeK (aeE fin))
  | exact aeE fin
theorem tH {X:Cx}{pins:List (Addr×Obj)}{σ:St}{H:Hp}{s:Shared}{a:Addr}{y:V}{o:Option V}(I:Inv X pins σ H s)(g:DGet H a y o):s.TypeIs (.ref a) "dict" := by
 rcases g with ⟨kvs,k,e,_,_⟩ | ⟨kvs,k,b,e,_,_,_⟩
 ·obtain⟨_,_,vs,_,dd⟩:=rZ I.hok e
  exact dd.typeIs
 ·obtain⟨_,_,xs,_,dd⟩:=sJ I.hok e
  exact dd.typeIs
def adv (td ty:TE):TE:=fun σ H Q=>td σ H fun x H1=>ty σ H1 fun y H2=>∃ a v,x=.ref a/\DGet H2 a y (some v)/\Q v H2
def abv (ty td:TE):TE:=fun σ H Q=>ty σ H fun y H1=>td σ H1 fun x H2=>∃ a o,x=.ref a/\DGet H2 a y o/\Q (.bl (!o.isSome)) H2
def adu (td ty tv:TE):TS:=fun D σ H=>tv σ H fun v H1=>td σ H1 fun x H2=>ty σ H2 fun y H3=>∃ a H4,x=.ref a/\DPut H3 a y v H4/\D.nx σ H4
section
variable {X:Cx}{o i e value:Expr}{pos pos' tpos:Pos}{td ty tv:TE}
theorem i6 (hu:X.A.units+1 < cLine)(ho:PE X o td)(hi:PE X i ty)(hs:ad4 i):PE X (.Subscript o i pos) (adv td ty):=by
 intro pins s σ H Q I h
 refine abl PySem.F.slot_dict_getitem.lookup hs (thn (ho pins s σ H _ I h) fun u s1 ⟨x,H1,I1,rx,q1⟩=>thn (hi pins s1 σ H1 _ I1 q1) fun iv s2 ⟨y,H2,I2,ry,a,v,ex,g,q2⟩=>?_)
 subst ex
 obtain rfl:u=Value.ref a:=rx
 exact⟨tH I2 g,yT hu I2 g ry fun w' s3 I3 rw'=>⟨v,H2,I3,rw',q2⟩⟩
theorem yq (hu:X.A.units+1 < cLine)(hi:PE X i ty)(ho:PE X o td):PC X .NotIn i o (abv ty td):=by
 intro pins s σ H Q I h
 refine thn (hi pins s σ H _ I h) fun iv s1 ⟨y,H1,I1,ry,q1⟩=>thn (ho pins s1 σ H1 _ I1 q1) fun u s2 ⟨x,H2,I2,rx,a,ov,ex,g,q2⟩=>?_
 subst ex
 obtain rfl:u=Value.ref a:=rx
 exact abu hu I2 g ry fun s3 I3=>⟨.bl (!ov.isSome),H2,I3,rfl,q2⟩
theorem ym (hu:X.A.units+1 < cLine)(ho:PE X o td)(hi:PE X i ty)(hv:PE X value tv)(hs:swapsWith value (some (.Subscript o i pos')) pos.line X.env=pure false) :
 PS X (.Assign [.Subscript o i pos'] value pos) (adu td ty tv):=by
 intro pins s σ H D I h
 refine wpAny_Assign_Subscript (thn (hv pins s σ H _ I h) fun r s1 ⟨v,H1,I1,rv,q1⟩=>thn (ho pins s1 σ H1 _ I1 q1) fun u s2 ⟨x,H2,I2,rx,q2⟩=>thn (hi pins s2 σ H2 _ I2 q2) fun iv s3 ⟨y,H3,I3,ry,a,H4,ex,g,q3⟩=>?_) hs
 subst ex
 obtain rfl:u=Value.ref a:=rx
 exact xp hu I3 g ry rv fun s4 I4=>⟨σ,H4,I4,q3⟩
end
theorem uN {P:Program}{w:World}{H:Hp}(h:Heap)(hb:sysModules < h.objs.size):ObjOk P w H (h.push { cls:=.type "dict",data:=.dict #[] }) h.objs.size (.dK []) :=
 ⟨ae2 _,aiG.mpr (agz (ae4 hb)),[],.nil,Heap.DictOf.new h⟩
theorem uu {P:Program}{w:World}{H:Hp}(h:Heap)(hb:sysModules < h.objs.size):ObjOk P w H (h.push { cls:=.type "dict",data:=.dict #[] }) h.objs.size (.dT []) :=
 ⟨ae2 _,aiG.mpr (agz (ae4 hb)),[],.nil,_,#[],0,aeY _ rfl,⟨rfl,rfl,rfl⟩,rfl,rfl,ahI⟩
def acs:TE:=fun _ H Q=>∀ p,H p=none->Q (.ref p) (upd H p (.dK []))
def acY:TE:=fun _ H Q=>∀ p,H p=none->Q (.ref p) (upd H p (.dT []))
section
variable {X:Cx}{pos:Pos}
theorem y3:PE X (.Dict [] [] pos) acs:=fun pins s σ H Q I h =>
 wpAny_Dict_empty ⟨.ref s.heap.objs.size,_,I.laid (a:=s.heap.objs.size) (o:=.dK []) (t':=s.toks) (fun _ _ q=>aeH _ q) (aeN _) (uN s.heap I.big),rfl,h _ (I.hok.fresh (aeN _))⟩
theorem aae:PE X (.Dict [] [] pos) acY:=fun pins s σ H Q I h =>
 wpAny_Dict_empty ⟨.ref s.heap.objs.size,_,I.laid (a:=s.heap.objs.size) (o:=.dT []) (t':=s.toks) (fun _ _ q=>aeH _ q) (aeN _) (uu s.heap I.big),rfl,h _ (I.hok.fresh (aeN _))⟩
end
def aaZ:List (TE×TE)->St->Hp->(List (V×V)->Hp->Prop)->Prop
 | [],_,H,Q=>Q [] H
 | (tk,tv)::r,σ,H,Q=>tk σ H fun x H1=>tv σ H1 fun y H2=>aaZ r σ H2 fun ps H3=>Q ((x,y)::ps) H3
abbrev VV:List (V×V)->List (Value×Value)->Prop:=Paired fun p q=>RelV p.1 q.1/\RelV p.2 q.2
def PPs (X:Cx)(pos:Pos)(keys:List (Option Expr))(values:List Expr)(trs:List (TE×TE)):Prop :=
 ∀ (pins:List (Addr×Obj)) (s:Shared) (σ:St) (H:Hp) (Q:List (V×V)->Hp->Prop),Inv X pins σ H s->aaZ trs σ H Q →
  wpAny (model X.prog X.w) X.A (evalPairs (pairTrees keys values X.env pos)) (fun vs s'=>∃ ps H',Inv X pins σ H' s'/\VV ps vs/\Q ps H') X.xe s
theorem abL {X:Cx}{pos:Pos}:PPs X pos [] [] []:=fun pins s σ H Q I h=>pairTrees_nil_walk ⟨[],H,I,.nil,h⟩
theorem aas {X:Cx}{pos:Pos}{k v:Expr}{ks:List (Option Expr)}{vs:List Expr}{tk tv:TE}{trs:List (TE×TE)}(hk:PE X k tk)(hv:PE X v tv)(hr:PPs X pos ks vs trs) :
 PPs X pos (some k::ks) (v::vs) ((tk,tv)::trs):=fun pins s σ H Q I h =>
 pairTrees_cons_walk (thn (hk pins s σ H _ I h) fun u s1 ⟨x,H1,I1,rx,q1⟩=>thn (hv pins s1 σ H1 _ I1 q1) fun w2 s2 ⟨y,H2,I2,ry,q2⟩ =>
  thn (hr pins s2 σ H2 _ I2 q2) fun ws s3 ⟨ps,H3,I3,rel,q3⟩=>⟨(x,y)::ps,H3,I3,.cons ⟨rx,ry⟩ rel,q3⟩)
structure M1 (X:Cx)(o:Expr)(m:Str)(apos:Pos)(e:Expr)(cpos:Pos):Prop where
 base:attributeBase o m X.env (eval o X.env)=eval o X.env
 few:((backTo cpos (starEach [e] X.env)).all (fun x=>!x.1) && (backToKw cpos (keywordEach [] X.env)).all (fun x=>x.1.isSome)
  && decide (([e]:List Expr).length+([]:List Keyword).length+(if ([]:List Keyword).isEmpty then 0 else 1) < 30))=true
 line:(apos.endLine == cpos.line)=true
 trees:backTo cpos (starEach [e] X.env)=[(false,eval e X.env)]
structure M2 (X:Cx)(o:Expr)(m:Str)(apos:Pos)(e f:Expr)(cpos:Pos):Prop where
 base:attributeBase o m X.env (eval o X.env)=eval o X.env
 few:((backTo cpos (starEach [e,f] X.env)).all (fun x=>!x.1) && (backToKw cpos (keywordEach [] X.env)).all (fun x=>x.1.isSome)
  && decide (([e,f]:List Expr).length+([]:List Keyword).length+(if ([]:List Keyword).isEmpty then 0 else 1) < 30))=true
 line:(apos.endLine == cpos.line)=true
 trees:backTo cpos (starEach [e,f] X.env)=[(false,eval e X.env),(false,eval f X.env)]
def IsD (H:Hp)(a:Addr):Prop:=(∃ kvs,Rd H a (.dK kvs))\/∃ kvs,Rd H a (.dT kvs)
theorem aaK {X:Cx}{pins:List (Addr×Obj)}{σ:St}{H:Hp}{s:Shared}{a:Addr}(I:Inv X pins σ H s)(d:IsD H a) :
 s.TypeIs (.ref a) "dict" ∧ (∀ b,Value.ref a=.ref b->∃ ob,s.heap.get? b=some ob/\ob.dict=none)/\(a == sysModules)=false:=by
 rcases d with ⟨kvs,e⟩ | ⟨kvs,e⟩
 ·obtain⟨_,hd,vs,_,dd⟩:=rZ I.hok e
  refine⟨dd.typeIs,fun b q=>?_,hd⟩
  cases q
  obtain⟨ob,_,_,h1,h2,_⟩:=dd
  exact⟨ob,h1,h2.2.1⟩
 ·obtain⟨_,hd,xs,_,dd⟩:=sJ I.hok e
  refine⟨dd.typeIs,fun b q=>?_,hd⟩
  cases q
  obtain⟨ob,_,_,h1,h2,_⟩:=dd
  exact⟨ob,h1,h2.2.1⟩
section
variable {X:Cx}{pins:List (Addr×Obj)}{σ:St}{H:Hp}{s:Shared}{a:Addr}{y d:V}{u r:Value}{o:Option V}{A:Around}{E:Value->Shared->Prop}
theorem acp {Q:Value->Shared->Prop}(hu:A.units+1 < cLine)(I:Inv X pins σ H s)(g:DGet H a y o)(ry:RelV y u)(h:∀ w' s',Inv X pins σ H s'->RelV (o.getD .non) w'->Q w' s') :
 wpAny (model X.prog X.w) A (call (.builtin "dict.get") [.ref a,u]) Q E s:=by
 rcases g with ⟨kvs,k,e,ey,l⟩ | ⟨kvs,k,b,e,ey,eb,l⟩
 ·subst ey
  obtain⟨z,hd,vs,rel,dd⟩:=rZ I.hok e
  refine ai1 agA dd.typeIs ahm (ajv _ _) (meets_dict_get (bz X.prog X.w) a (qw ry) hd) ⟨_,dd.mapOf,h _ _ (I.tok _) ?_⟩
  rw [l]
  exact (rel.val k).getD rfl
 ·subst ey
  cases (show u=Value.ref b from ry)
  obtain⟨z,hd,xs,rel,dd⟩:=sJ I.hok e
  refine ai1 agA dd.typeIs ahm (ajv _ _) (meetsH_dict_get (tupleKind (bz X.prog X.w)) a b hd) ⟨aho hu,k,xs,lB I.hok eb,dd,h _ _ (I.tok _) ?_⟩
  rw [l]
  exact (rel.val k).getD rfl
theorem acB {Q:Value->Shared->Prop}(hu:A.units+1 < cLine)(I:Inv X pins σ H s)(g:DGet H a y o)(ry:RelV y u)(rd:RelV d r)(h:∀ w' s',Inv X pins σ H s'->RelV (o.getD d) w'->Q w' s') :
 wpAny (model X.prog X.w) A (call (.builtin "dict.get") [.ref a,u,r]) Q E s:=by
 rcases g with ⟨kvs,k,e,ey,l⟩ | ⟨kvs,k,b,e,ey,eb,l⟩
 ·subst ey
  obtain⟨z,hd,vs,rel,dd⟩:=rZ I.hok e
  refine ai1 agA dd.typeIs ahm (ajw _ _ _) (meets_dict_get_default (bz X.prog X.w) a (qw ry) hd r) ⟨_,dd.mapOf,h _ _ (I.tok _) ?_⟩
  rw [l]
  exact (rel.val k).getD rd
 ·subst ey
  cases (show u=Value.ref b from ry)
  obtain⟨z,hd,xs,rel,dd⟩:=sJ I.hok e
  refine ai1 agA dd.typeIs ahm (ajw _ _ _) (meetsH_dict_get_default (tupleKind (bz X.prog X.w)) a b hd r) ⟨aho hu,k,xs,lB I.hok eb,dd,h _ _ (I.tok _) ?_⟩
  rw [l]
  exact (rel.val k).getD rd
end
def ac9 (td ty:TE):TE:=fun σ H Q=>td σ H fun x H1=>∃ a,x=.ref a/\IsD H1 a/\ty σ H1 fun y H2=>∃ o,DGet H2 a y o/\Q (o.getD .non) H2
def acX (td ty tx:TE):TE:=fun σ H Q=>td σ H fun x H1=>∃ a,x=.ref a/\IsD H1 a/\ty σ H1 fun y H2=>tx σ H2 fun z H3=>∃ o,DGet H3 a y o/\Q (o.getD z) H3
section
variable {X:Cx}{o e f:Expr}{apos cpos:Pos}{td ty tx:TE}
theorem zF (hu:X.A.units+1 < cLine)(ho:PE X o td)(he:PE X e ty)(m:M1 X o "get" apos e cpos):PE X (.Call (.Attribute o "get" apos) [e] [] cpos) (ac9 td ty):=by
 intro pins s σ H Q I h
 refine wpAny_Call_method m.base m.few m.line ahT agA ajZ (thn (ho pins s σ H _ I h) fun u s1 ⟨x,H1,I1,rx,a,ex,d,q1⟩=>?_)
 subst ex
 obtain rfl:u=Value.ref a:=rx
 obtain⟨t1,t2,_⟩:=aaK I1 d
 refine⟨t1,t2,?_⟩
 rw [m.trees]
 refine agQ rfl (ahB (agW (thn (he pins s1 σ H1 _ I1 q1) fun iv s2 ⟨y,H2,I2,ry,ov,g,q2⟩=>ahx ?_)))
 exact acp hu I2 g ry fun w' s3 I3 rw'=>⟨_,H2,I3,rw',q2⟩
theorem zM (hu:X.A.units+1 < cLine)(ho:PE X o td)(he:PE X e ty)(hf:PE X f tx)(m:M2 X o "get" apos e f cpos):PE X (.Call (.Attribute o "get" apos) [e,f] [] cpos) (acX td ty tx):=by
 intro pins s σ H Q I h
 refine wpAny_Call_method m.base m.few m.line ahT agA ajZ (thn (ho pins s σ H _ I h) fun u s1 ⟨x,H1,I1,rx,a,ex,d,q1⟩=>?_)
 subst ex
 obtain rfl:u=Value.ref a:=rx
 obtain⟨t1,t2,_⟩:=aaK I1 d
 refine⟨t1,t2,?_⟩
 rw [m.trees]
 refine agQ rfl (ahB (agW (thn (he pins s1 σ H1 _ I1 q1) fun iv s2 ⟨y,H2,I2,ry,q2⟩ =>
  agW (thn (hf pins s2 σ H2 _ I2 q2) fun fv s3 ⟨z,H3,I3,rz,ov,g,q3⟩=>ahx ?_))))
 exact acB hu I3 g ry rz fun w' s4 I4 rw'=>⟨_,H3,I4,rw',q3⟩
end
section
variable {X:Cx}{pins:List (Addr×Obj)}{σ:St}{H:Hp}{s:Shared}{a:Addr}{kvs:List (Key×V)}{A:Around}{E:Value->Shared->Prop}
end
section
variable {X:Cx}{pins:List (Addr×Obj)}{σ:St}{H:Hp}{s:Shared}{a:Addr}{y:V}{u:Value}{A:Around}{E:Value->Shared->Prop}
end
def oU (env:Env):List (Str×NameKind)->List (Str×Addr)->List (Str×Addr)
 | [],cs=>cs
 | (n,k)::r,cs=>oU env r (if k=.free then (n,(env.cells.lookup n).getD 0)::cs else cs)
theorem xy {env:Env}:∀ (ns:List (Str×NameKind)) (cs:List (Str×Addr)),(∀ x∈ns,x.2=.free->∃ c,env.cells.lookup x.1=some c) →
 (forIn (m:=Sem) ns cs fun (x:Str×NameKind) (r:List (Str×Addr))=>(if (x.2 == .free)=true then (do let a ← cellOf env x.1;pure (ForInStep.yield ((x.1,a)::r))) else pure (ForInStep.yield r)))=pure (oU env ns cs)
 | [],cs,_=>by simp [oU]
 | (n,k)::r,cs,h=>by
  have ih:=fun cs=>xy r cs fun x hx=>h x (aeV _ hx)
  rw [ahU]
  by_cases hk:k=.free
  ·subst hk
   obtain⟨c,hc⟩:=h (n,.free) aeQ rfl
   have e1:cellOf env n=pure c:=by unfold cellOf;rw [hc]
   have hb:(NameKind.free == NameKind.free)=true:=rfl
   simp only [hb,ahl,e1,pure_bind,oU,hc,ajF]
   exact ih _
  ·have hb:(k == NameKind.free)=false:=by simpa using hk
   simp only [hb,afj,agl,pure_bind,oU,if_neg hk]
   exact ih _
theorem vd {env:Env}:∀ (ns:List (Str×NameKind)) (cs:List (Str×Addr)) (x:Str) (c:Addr),(∀ x∈ns,x.2=.free->∃ c,env.cells.lookup x.1=some c)->(oU env ns cs).lookup x=some c->cs.lookup x=some c\/env.cells.lookup x=some c
 | [],cs,x,c,_,e=>.inl e
 | (n,k)::r,cs,x,c,h,e=>by
  have ih:=vd r (if k=.free then (n,(env.cells.lookup n).getD 0)::cs else cs) x c (fun x hx=>h x (aeV _ hx)) e
  rcases ih with ih | ih
  ·by_cases hk:k=.free
   ·subst hk
    rw [if_pos rfl] at ih
    obtain⟨d,hd⟩:=h (n,.free) aeQ rfl
    have hd':env.cells.lookup n=some d:=hd
    rw [hd'] at ih
    rw [ain] at ih
    cases hx:x == n with
    | true =>
     rw [hx] at ih
     have:x=n:=by simpa using hx
     subst this
     right
     rw [hd']
     exact ih
    | false =>
     rw [hx] at ih
     exact .inl ih
   ·rw [if_neg hk] at ih
    exact .inl ih
  ·exact .inr ih
theorem qd {env:Env}:∀ (ns:List (Str×NameKind)) (cs:List (Str×Addr)) (x:Str),(∃ c,cs.lookup x=some c)->∃ c,(oU env ns cs).lookup x=some c
 | [],_,_,h=>h
 | (n,k)::r,cs,x,h=>by
  refine qd r _ x ?_
  split
  ·rw [ain]
   split
   ·exact⟨_,rfl⟩
   ·exact h
  ·exact h
theorem pf {env:Env}:∀ (ns:List (Str×NameKind)) (cs:List (Str×Addr)) (x:Str),(x,NameKind.free)∈ns->∃ c,(oU env ns cs).lookup x=some c
 | [],_,_,h=>nomatch h
 | (n,k)::r,cs,x,h=>by
  rcases aeX.mp h with e | h
  ·cases e
   refine qd r _ _ ⟨(env.cells.lookup n).getD 0,?_⟩
   rw [if_pos rfl,ain,aio]
  ·exact pf r _ x h
theorem iB {scope:Scope}{env:Env}(h:∀ x∈scope.names,x.2=.free->∃ c,env.cells.lookup x.1=some c):closureFor scope env=pure (oU env scope.names []):=by
 have e:=xy scope.names [] h
 unfold closureFor
 simp only [] at e ⊢
 rw [e]
 rfl
theorem mE {scope:Scope}{env:Env}{x:Str}{k:NameKind}:(relabel scope env).names.lookup x=some k->∃ k',(x,k')∈scope.names/\(k=k'\/(k'=.free/\k=.cell)):=by
 intro h
 have all:∀ (ns:List (Str×NameKind)),(ns.map fun (n,k)=>if (k == NameKind.free && env.scope.kind == .function && env.kindOf n == some .cell) then (n,NameKind.cell) else (n,k)).lookup x=some k->∃ k',(x,k')∈ns/\(k=k'\/(k'=.free/\k=.cell)):=by
  intro ns
  induction ns with
  | nil=>intro h;simp at h
  | cons y r ih =>
   obtain⟨n,k'⟩:=y
   intro h
   rw [aeZ,ain] at h
   by_cases hc:(k' == NameKind.free && env.scope.kind == .function && env.kindOf n == some .cell)=true
   ·simp only [hc,ahl] at h
    cases hx:x == n with
    | true =>
     rw [hx] at h
     have e:x=n:=by simpa using hx
     subst e
     have hk:k'=.free:=by
      simp only [af3] at hc
      simpa using hc.1.1
     exact⟨k',aeQ,.inr ⟨hk,(afG h).symm⟩⟩
    | false =>
     rw [hx] at h
     obtain⟨k2,h1,h2⟩:=ih h
     exact⟨k2,aeV _ h1,h2⟩
   ·simp only [hc,afj,agl] at h
    cases hx:x == n with
    | true =>
     rw [hx] at h
     have e:x=n:=by simpa using hx
     subst e
     exact⟨k',aeQ,.inl (afG h).symm⟩
    | false =>
     rw [hx] at h
     obtain⟨k2,h1,h2⟩:=ih h
     exact⟨k2,aeV _ h1,h2⟩
 exact all scope.names h
def Cx.comp (X:Cx)(scope:Scope)(N':List Str)(C:Addr)(fp:List Addr)(s₀:Shared)(H₀:Hp):Cx :=
 { X with N:=N',s₀:=s₀,H₀:=H₀,env:=compEnvC scope (oU X.env scope.names []) C X.env,outer:=X.stack,stack:=X.stack,ex:=fp,fn:=fun _=>false,pn:=[],xe:=fun _ _=>False }
structure CompScope (X:Cx)(scope:Scope):Prop where
 kind:scope.kind=.function
 nocell:∀ x∈scope.names,x.2≠.cell
 loc:∀ x∈scope.names,x.2=.local->scope.names.lookup x.1=some .local
 free:∀ x∈scope.names,x.2=.free->X.env.kindOf x.1=some .cell
section
variable {X:Cx}{pins:List (Addr×Obj)}{σ:St}{H:Hp}{s:Shared}{scope:Scope}{N':List Str}{fp:List Addr}
theorem CompScope.cells (S:CompScope X scope)(ok:X.Ok):∀ x∈scope.names,x.2=.free->∃ c,X.env.cells.lookup x.1=some c:=fun x hx hk=>ok.has x.1 (.inl (S.free x hx hk))
theorem CompScope.sub (S:CompScope X scope)(ok:X.Ok){x:Str}{c:Addr}(e:(oU X.env scope.names []).lookup x=some c):X.env.cells.lookup x=some c:=by
 rcases vd scope.names [] x c (S.cells ok) e with h | h
 ·cases h
 ·exact h
theorem CompScope.ok (S:CompScope X scope)(I:Inv X pins σ H s)(hf:∀ b∈fp,nX X pins H b)(ho:∀ b∈fp,b < s.heap.objs.size):(X.comp scope N' s.heap.objs.size fp s H).Ok where
 mod:=I.ok.mod
 kind:=S.kind
 glob:=I.ok.glob
 blt:=I.ok.blt
 above:=aeN _
 inj:=fun x y c e1 e2=>I.ok.inj x y c (S.sub I.ok e1) (S.sub I.ok e2)
 has:=fun x hx=>by
  have hx':(relabel scope X.env).names.lookup x=some .cell\/(relabel scope X.env).names.lookup x=some .free:=hx
  have fr:(x,NameKind.free)∈scope.names:=by
   rcases hx' with h | h
   ·obtain⟨k',h1,h2⟩:=mE h
    rcases h2 with h2 | ⟨h2,_⟩
    ·subst h2;exact absurd rfl (S.nocell _ h1)
    ·subst h2;exact h1
   ·obtain⟨k',h1,h2⟩:=mE h
    rcases h2 with h2 | ⟨h2,h3⟩
    ·subst h2;exact h1
    ·cases h3
  exact pf scope.names [] x fr
 cab:=fun x c h _=>by cases h
 hd:=I.ok.hd
 frames:=I.ok.frames
 stk:=.inl rfl
 exf:=fun b hb=>⟨ae4 (ho b hb),fun x c e=>(hf b hb).2.2.2.2.1 x c (S.sub I.ok e)⟩
 bs:=I.bs
 bsz:=afk I.ok.bsz I.sz
 noex:=fun b o e hb=>by
  rcases (hf b hb).2.2.2.1 with h | h
  ·exact I.ok.noex b o e h
  ·exact absurd (ae1 (aeR e) (afk I.ok.bsz h)) (agx _)
 exfs:=fun b hb hs=>by
  rcases aeX.mp (I.stkSub b hs) with h | h
  ·exact (hf b hb).2.1 h
  ·exact (hf b hb).2.2.1 h
 funs:=I.stack
 frf:=I.stkFree
def dz (nl:Nat)(ix:List Nat)(σ:St):St:=List.replicate nl none++ix.map fun j=>(σ[j]?).join
structure ab6 (X:Cx)(scope:Scope)(N':List Str)(nl:Nat)(ix:List Nat):Prop where
 len:N'.length=nl+ix.length
 at':∀ (k j:Nat),ix[k]? = some j->∃ x,X.N[j]? = some x/\N'[nl+k]? = some x/\X.env.kindOf x=some .cell/\(relabel scope X.env).names.lookup x=some .cell/\(x,NameKind.free)∈scope.names
theorem kT {nl:Nat}{ix:List Nat}{h1:Heap}{tk:Nat}(S:CompScope X scope)(Cp:ab6 X scope N' nl ix)(I:Inv X pins σ H s)(hf:∀ b∈fp,nX X pins H b)(ho:∀ b∈fp,b < s.heap.objs.size)
 (hn:h1.Ns s.heap.objs.size (fun _=>none))(hk:∀ b o,s.heap.get? b=some o->h1.get? b=some o):Inv (X.comp scope N' s.heap.objs.size fp s H) [] (dz nl ix σ) H { s with heap:=h1,toks:=tk }:=by
 have ok:=S.ok (N':=N') I hf ho
 refine⟨ok,rfl,I.bare,Un.kept hk,⟨_,hn,fun i x v e1 e2 e3=>?_⟩,fun x c e=>?_,I.hok.fresh (aeN _),fun x c e=>I.freeC x c (S.sub I.ok e),fun p hp=>by simp [Cx.comp] at hp,I.hok.kept hk,?_⟩
 ·unfold dz at e2
  rw [List.getElem?_append] at e2
  split at e2
  ·rw [ahQ] at e2
   split at e2<;>simp at e2
  ·rename_i hi
   rw [agf] at hi e2
   rw [aeP] at e2
   cases ej:ix[i - nl]? with
   | none=>rw [ej] at e2;simp at e2
   | some j =>
    rw [ej] at e2
    have e2':(σ[j]?).join=some v:=by simpa using e2
    have e2'':σ[j]? = some (some v):=by
     cases q:σ[j]? with
     | none=>rw [q] at e2';simp at e2'
     | some z=>rw [q] at e2';simp at e2';rw [e2']
    obtain⟨x',a1,a2,a3,a4,a5⟩:=Cp.at' _ _ ej
    have hi2:nl+(i - nl)=i:=by omega
    rw [hi2] at a2
    have e1':N'[i]? = some x:=e1
    rw [a2] at e1'
    cases e1'
    obtain⟨m,hm,hl⟩:=I.loc
    obtain⟨u,r,l⟩:=hl j x v a1 e2'' (.inr (.inl a3))
    refine⟨u,r,?_⟩
    rcases l with ⟨k,_⟩ | ⟨_,c,ec,z⟩
    ·rw [k] at a3;cases a3
    ·obtain⟨c',hc'⟩:=pf (env:=X.env) scope.names [] x a5
     have ec':=S.sub I.ok hc'
     rw [ec] at ec'
     cases ec'
     obtain⟨o,ho',hd⟩:=z
     exact .inr ⟨.inl a4,c,hc',o,hk _ _ ho',hd⟩
 ·obtain⟨v,o,ho',hd⟩:=I.cell x c (S.sub I.ok e)
  exact⟨v,o,hk _ _ ho',hd⟩
 ·show (dz nl ix σ).length=N'.length
  unfold dz
  rw [aeG,agf,aeD,Cp.len]
theorem jt {H':Hp}{σ':St}{pins':List (Addr×Obj)}{s':Shared}{h':Heap}(I:Inv X pins σ H s)(hf:∀ b∈fp,nX X pins H b)
 (I':Inv (X.comp scope N' s.heap.objs.size fp s H) pins' σ' H' s')(hs:Heap.SameBut s.heap.objs.size s'.heap h'):Inv X pins σ H' { s' with heap:=h' }:=by
 have lo:∀ b o,s.heap.get? b=some o->b≠s.heap.objs.size:=fun b o e=>ae4 (aeR e)
 have B:=I'.base
 refine I.call' (ch:=fp) (show s'.os=s.os from I'.os) ⟨fun b o e n hb hx=>?_,fun b o e n hb hx=>?_,fun b o e n hx=>B.free b o e n hx,fun b o e hx=>?_,B.tups,B.frzs,B.tbls⟩ (fun b u e=>?_) I'.bare fun b hb=>⟨(hf b hb).2.2.2.1,(hf b hb).2.1,(hf b hb).2.2.2.2.1,(hf b hb).2.2.2.2.2⟩
 ·exact (hs.2 b (lo b o e)).trans (B.keep b o e n hb hx)
 ·obtain⟨sl,q⟩:=B.slot b o e n hb hx
  exact⟨sl,(hs.2 b (lo b o e)).trans q⟩
 ·obtain⟨o',q⟩:=B.there b o e hx
  exact⟨o',(hs.2 b (lo b o e)).trans q⟩
 ·have nl:H' s.heap.objs.size=none:=I'.free
  refine (I'.hok b u e).stay (fun c v hc q=>(hs.2 c ?_).trans q) (fun _ q=>q) fun _ _ q=>q
  rintro rfl
  rcases hc with z | z
  ·rw [← z,nl] at e;cases e
  ·rw [nl] at z;cases z
end
def PIf (X:Cx)(ifs:List Expr)(t:TT):Prop :=
 ∀ (pins:List (Addr×Obj)) (s:Shared) (σ:St) (H:Hp) (Q:Bool->Hp->Prop),Inv X pins σ H s->t σ H Q →
  wpAny (model X.prog X.w) X.A (forIn ifs true fun c r=>if r=true then do let ok ← isTrue c X.env (eval c X.env);pure (ForInStep.yield ok) else pure (ForInStep.yield r)) (TP X pins σ Q) X.xe s
def yz:TT:=fun _ H Q=>Q true H
theorem dv {X:Cx}:PIf X [] yz:=fun _ _ _ H _ I h=>wpAny_tests_nil ⟨H,I,h⟩
theorem jd {X:Cx}{c:Expr}{t:TT}(h:PT X c t):PIf X [c] t:=fun pins s σ H Q I hw=>wpAny_tests_one (h pins s σ H Q I hw)
section
variable {prog:Program}{w:World}{A:Around}{R:Result->Shared->Prop}{s:Shared}
theorem oK {elt target iter:Expr}{ifs:List Expr}{scope:Scope}{pos:Pos}{it acc:Value}{env:Env}(I:Nat->Shared->Prop)
 (turn:∀ n s,I n s->wpAny (model prog w) A (pyNext it) (fun r s₁=>match r with
  | none=>R (.ok .next) s₁
  | some v=>wpAny (model prog w) A (letOwnedTupleGo target it v) (fun _ s₁'=>wpAny (model prog w) A (assign target env v) (fun _ s₂ =>
   wpAny (model prog w) A (forIn ifs true fun c r=>if r=true then do let ok ← isTrue c env (eval c env);pure (ForInStep.yield ok) else pure (ForInStep.yield r)) (fun ok s₃ =>
    if ok=true then wpAny (model prog w) A (eval elt env) (fun x s₄ =>
     wpAny (model prog w) A (call (.builtin "list.append") [acc,x]) (fun _ s₅=>∃ m,m < n/\I m s₅) (fun _ _=>False) s₄) (fun _ _=>False) s₃
    else ∃ m,m < n/\I m s₃) (fun _ _=>False) s₂) (fun _ _=>False) s₁') (fun _ _=>False) s₁) (fun _ _=>False) s)
 (n:Nat)(h:I n s) :
 codeAny (model prog w) A (.compLoop (.ListComp elt [⟨target,iter,ifs,0⟩] scope pos) 0 it acc env) R s:=by
 have no:∀ {E:Value->Shared->Prop} (x:Value) (s:Shared),False->E x s:=fun _ _ z=>z.elim
 refine codeAny_loop rfl I (fun n s hI=>?_) n h
 show wpAny _ A ((compTurn (.ListComp elt [⟨target,iter,ifs,0⟩] scope pos) 0 it acc env).onRaise (fun x=>do noteFrame x env;theTreesLotGoes x)) _ _ s
 refine wpAny_noted ?_
 rw [compTurn_list]
 refine aeE (ago (aeE (afu (turn n s hI) (fun r s₁ h₁=>?_) no)))
 cases r with
 | none=>exact aeK h₁
 | some v =>
  refine aeE (afu h₁ (fun _ s₁' h₁'=>aeE (afu h₁' (fun _ s₂ h₂=>aeE (afu h₂ (fun ok s₃ h₃=>?_) no)) no)) no)
  cases ok with
  | false=>exact aeK ⟨rfl,h₃⟩
  | true =>
   exact aeE (aeE (afu h₃ (fun x s₄ h₄=>aeE (afu h₄ (fun _ s₅ h₅=>aeK (aeK ⟨rfl,h₅⟩)) no)) no))
end
def qr (nl:Nat)(ix:List Nat)(wi:TI)(g:TG)(tf:TT)(te:TE):TE:=fun σ H Q=>wi σ H fun J H1=>∀ D,H1 D=none->∃ W:Nat->Nat->List V->Hp->Prop,(∃ m,W 0 m [] (upd H1 D (.lst []))) ∧
 ∀ i m ys H2,W i m ys H2->H2 D=some (.lst ys)/\((J.stop i H2/\Q (.ref D) H2)\/(J.go i H2/\∀ x H3,J.yld i H2 x H3->g x (dz nl ix σ) H3 fun σ4 H4=>(σ4.length=(dz nl ix σ).length/\σ4.drop nl=ix.map fun j=>(σ[j]?).join)/\tf σ4 H4 fun b H5 =>
  if b=true then te σ4 H5 fun y H6=>H6 D=some (.lst ys)/\ys.length < sizeLine/\∃ m',m' < m/\W (i+1) m' (ys++[y]) (upd H6 D (.lst (ys++[y]))) else ∃ m',m' < m/\W (i+1) m' ys H5))
theorem jl {X:Cx}{pins:List (Addr×Obj)}{σ σ4:St}{H:Hp}{s:Shared}{nl:Nat}{ix:List Nat}(I:Inv X pins σ4 H s)(hl:σ4.length=(dz nl ix σ).length)(hd:σ4.drop nl=ix.map fun j=>(σ[j]?).join):Inv X pins (dz nl ix σ) H s:=by
 refine I.weak hl.symm fun i v e=>?_
 unfold dz at e
 rw [List.getElem?_append] at e
 split at e
 ·rw [ahQ] at e
  split at e<;>simp at e
 ·rename_i hi
  rw [agf] at hi e
  rw [← hd,List.getElem?_drop] at e
  have hi2:nl+(i - nl)=i:=by omega
  rw [hi2] at e
  exact e
section
variable {X:Cx}
theorem kU {elt tg iter:Expr}{ifs:List Expr}{scope:Scope}{pos:Pos}{N':List Str}{nl:Nat}{ix:List Nat}{wi:TI}{g:TG}{tf:TT}{te:TE}(hc:X.calm=true)(S:CompScope X scope)(Cp:ab6 X scope N' nl ix)(hi:PI X tg iter wi)
 (hg:∀ C fp s₀ H₀,PG (X.comp scope N' C fp s₀ H₀) tg g)(hf:∀ C fp s₀ H₀,PIf (X.comp scope N' C fp s₀ H₀) ifs tf)(he:∀ C fp s₀ H₀,PE (X.comp scope N' C fp s₀ H₀) elt te)
 (hs:∀ x,foldedSetIterable iter X.env x=pure x:=by intro _;rfl):PE X (.ListComp elt [⟨tg,iter,ifs,0⟩] scope pos) (qr nl ix wi g tf te):=by
 intro pins s σ H Q I h
 rw [eval_ListComp]
 refine ag5 (use:=none) (cl:=oU X.env scope.names []) rfl hs (iB (S.cells I.ok)) S.kind S.loc ?_
 refine thn (hi pins s σ H _ I h) fun v s1 h1=>thn h1 fun itv s2 h2=>?_
 obtain⟨it,fp,tn,J,H2,rfl,I2,T,st2,f2,h2⟩:=h2
 obtain⟨W,⟨m0,w0⟩,turn⟩:=h2 s2.heap.objs.size I2.fresh
 refine afM (ahC S.nocell (by intro y hy;simp at hy) (fun h₁ hns₁ hsb₁=>?_) S.kind)
 dsimp only at hns₁ hsb₁ ⊢
 have fpo:∀ b∈fp,b < s2.heap.objs.size:=fun b hb=>by
  obtain⟨o,e,_⟩:=T.obj 0 _ st2 b hb
  exact aeR e
 have I3:Inv X pins σ (upd H2 s2.heap.objs.size (.lst [])) { s2 with heap:=s2.heap.push { cls:=.type "list",data:=.seq ([]:List Value).toArray },toks:=s2.toks }:=I2.lnew .nil (ae2 _)
 have hD:(upd H2 s2.heap.objs.size (.lst [])) s2.heap.objs.size=some (.lst []):=ag
 have f3:∀ b∈fp,nX X pins (upd H2 s2.heap.objs.size (.lst [])) b:=fun b hb=>by
  refine⟨?_,(f2 b hb).2⟩
  rw [ah (ae4 (fpo b hb))]
  exact (f2 b hb).1
 generalize hS3:s2.heap.push { cls:=.type "list",dict:=none,data:=.seq ([]:List Value).toArray }=g3 at hns₁ hsb₁ I3 ⊢
 have sz3:g3.objs.size=s2.heap.objs.size+1:=by rw [← hS3,agn]
 have fpo3:∀ b∈fp,b < ({ s2 with heap:=g3,toks:=s2.toks }:Shared).heap.objs.size:=fun b hb=>by
  show b < g3.objs.size
  rw [sz3]
  exact af7 (fpo b hb)
 have old:∀ b o,g3.get? b=some o->h₁.get? b=some o:=fun b o e=>hsb₁.extBut b o (ae4 (aeR e)) (aeH _ e)
 have I4:=kT (tk:=s2.toks+([]:List (Str×Value)).length) S Cp I3 f3 fpo3 hns₁ old
 generalize hX:X.comp scope N' g3.objs.size fp { s2 with heap:=g3,toks:=s2.toks } (upd H2 s2.heap.objs.size (.lst []))=X' at *
 have hPr:X'.prog=X.prog:=by rw [← hX];rfl
 have hWr:X'.w=X.w:=by rw [← hX];rfl
 have hKr:X'.K=X.K:=by rw [← hX];rfl
 have hAr:X'.A=X.A:=by rw [← hX];rfl
 have hCa:X'.calm=true:=by rw [← hX];exact hc
 have hXe:X'.xe=fun _ _=>False:=by rw [← hX];rfl
 have hEx:X'.ex=fp:=by rw [← hX];rfl
 have hPn:X'.pn=[]:=by rw [← hX];rfl
 have hLo:X'.env.locals=g3.objs.size:=by rw [← hX];rfl
 have hEn:X'.env=compEnvC scope (oU X.env scope.names []) g3.objs.size X.env:=by rw [← hX];rfl
 have hg':=hg g3.objs.size fp { s2 with heap:=g3,toks:=s2.toks } (upd H2 s2.heap.objs.size (.lst []))
 have hf':=hf g3.objs.size fp { s2 with heap:=g3,toks:=s2.toks } (upd H2 s2.heap.objs.size (.lst []))
 have he':=he g3.objs.size fp { s2 with heap:=g3,toks:=s2.toks } (upd H2 s2.heap.objs.size (.lst []))
 rw [hX] at hg' hf' he'
 have I4':Inv X' [] (dz nl ix σ) (upd H2 s2.heap.objs.size (.lst [])) { s2 with heap:=h₁,toks:=s2.toks+([]:List (Str×Value)).length }:=I4
 have back:∀ {H':Hp} {σ':St} {pins':List (Addr×Obj)} {s':Shared} {h':Heap},Inv X' pins' σ' H' s'->Heap.SameBut g3.objs.size s'.heap h'->Inv X pins σ H' { s' with heap:=h' }:=fun I' sb=>by
  subst hX
  exact jt I3 f3 I' sb
 have stat:∀ {H':Hp},(∀ b∈fp,H' b=none)->∀ b∈fp,nX X' [] H' b:=fun hn b hb=>by
  refine⟨hn b hb,?_,?_,.inl (by rw [hEx];exact hb),?_,fun p hp=>by rw [hPn] at hp;cases hp⟩
  ·rw [hLo];exact ae4 (fpo3 b hb)
  ·exact I4'.ok.exfs b (by rw [hEx];exact hb)
  ·exact (I4'.ok.exf b (by rw [hEx];exact hb)).2
 have loop:codeAny (model X.prog X.w) X.A (.compLoop (.ListComp elt [⟨tg,iter,ifs,0⟩] scope pos) 0 (.ref it) (.ref s2.heap.objs.size) X'.env)
  (compPost (model X.prog X.w) X.A X.xe none (EP X pins σ Q) (.ref s2.heap.objs.size) g3.objs.size) { s2 with heap:=h₁,toks:=s2.toks+([]:List (Str×Value)).length }:=by
  rw [← hPr,← hWr,← hAr]
  refine oK (fun n s'=>∃ i ys H',Inv X' [] (dz nl ix σ) H' s'/\tn i s'.heap/\(∀ b∈fp,H' b=none)/\W i n ys H') ?_ m0
   ⟨0,[],_,I4',T.keep _ _ _ st2 (fun b hb o e=>old b o (by rw [← hS3];exact aeH _ e)),fun b hb=>(f3 b hb).1,w0⟩
  rintro n s5 ⟨i,ys,H5,I5,st5,fr5,w5⟩
  obtain⟨hD5,alt⟩:=turn i n ys H5 w5
  rcases alt with ⟨stop,qn⟩ | ⟨go,step⟩
  ·rw [hPr,hWr]
   refine thn (T.done X' hPr hWr hKr hCa i [] s5 _ H5 _ I5 (stat fr5) st5 stop) fun r s6 ⟨hr,I6⟩=>?_
   subst hr
   obtain⟨m,hn,_⟩:=I6.loc
   rw [hLo] at hn
   exact⟨m,hn,fun h' sb=>⟨.ref s2.heap.objs.size,H5,back I6 sb,rfl,qn⟩⟩
  ·have it5:=T.item X' hPr hWr hKr hCa i [] s5 _ H5 (fun _ _=>False) I5 (stat fr5) st5 go
   rw [← hPr,← hWr] at it5
   refine thn it5 fun r s6 ⟨u,hr,h6⟩=>?_
   subst hr
   refine thn h6 fun _ s7 ⟨x,H7,I7,r7,y7,st7,fr7⟩=>?_
   have I7':=I7.pinned (stat fr7) (T.obj _ _ st7)
   have g7:=hg' _ s7 _ H7 x u _ I7' r7 (step x H7 y7)
   rw [hXe] at g7
   refine thn g7 fun _ s8 ⟨σ8,H8,I8,⟨hl8,hd8⟩,q8⟩=>?_
   have f8:=hf' _ s8 σ8 H8 _ I8 q8
   rw [hXe] at f8
   refine thn f8 fun ok s9 ⟨H9,I9,q9⟩=>?_
   have again:∀ {H10:Hp} {s10:Shared} {ys':List V},Inv X' ([]++jY fp s7.heap) σ8 H10 s10->(∃ m',m' < n/\W (i+1) m' ys' H10)->∃ m,m < n/\∃ i ys H',Inv X' [] (dz nl ix σ) H' s10/\tn i s10.heap/\(∀ b∈fp,H' b=none)/\W i m ys H':=fun {H10 s10 ys'} I10 ⟨m',hm,w'⟩=>by
    refine⟨m',hm,i+1,ys',H10,jl I10.unpinned hl8 hd8,T.keep _ _ _ st7 fun b hb o e=>(I10.pin (b,o) (aeL _ (aeL _ (cS hb e)))).1,fun b hb=>?_,w'⟩
    obtain⟨o,e,d⟩:=T.obj _ _ st7 b hb
    exact (I10.pin (b,o) (aeL _ (aeL _ (cS hb e)))).2.1
   cases ok with
   | false =>
    rw [if_neg aeM] at q9 ⊢
    exact again I9 q9
   | true =>
    rw [if_pos rfl] at q9 ⊢
    have e9:=he' _ s9 σ8 H9 _ I9 q9
    rw [hXe] at e9
    refine thn e9 fun xv s10 ⟨y,H10,I10,r10,hD10,hz,mw⟩=>?_
    have a10:=df (X:=X') _ s10 σ8 H10 (.ref s2.heap.objs.size) [y] _ [xv] (fun _ H'=>H'=upd H10 s2.heap.objs.size (.lst (ys++[y]))) I10 rfl (.cons r10 .nil) ⟨_,ys,y,rfl,rfl,hD10,hz,rfl⟩
    rw [hXe] at a10
    refine thn a10 fun _ s11 ⟨_,H11,I11,_,e11⟩=>?_
    subst e11
    exact again I11 mw
 rw [hEn] at loop
 exact codeAny_compStart_list loop (T.self _ 0 _ _ _ (T.keep _ _ _ st2 (fun b hb o e=>old b o (by rw [← hS3];exact aeH _ e))) loop)
theorem eJ:∀ {ss:List Str} {us:List Value},Vals (ss.map V.str) us->StrsAre us ss
 | [],_,.nil=>.nil
 | _::_,_,.cons r t=>by
  obtain⟨k,rfl⟩:=r
  exact .cons _ k (eJ t)
theorem gF:∀ {ss:List Str} {us:List Value},StrsAre us ss->Vals (ss.map V.str) us
 | _,_,.nil=>.nil
 | _,_,.cons y t h=>.cons ⟨t,rfl⟩ (gF h)
theorem uK:∀ bs:List Bool,(List.range bs.length).all (fun i=>bs.getD i false)=bs.all id
 | []=>rfl
 | b::r=>by
  rw [afd,ajS,ahR,aj0,ahR,← uK r]
  rfl
theorem jo (hc:X.calm=true):fu X (.builtin "all") (fun xs H Q=>∃ (p:Addr) (bs:List Bool),xs=[.ref p]/\SqL X.K H p (bs.map V.bl)/\Q (.bl (bs.all id)) H):=by
 intro pins s σ H xs us Q I r h
 obtain⟨p,bs,rfl,hq,q⟩:=h
 obtain⟨u,rfl,rx⟩:=gY r
 cases rx
 obtain⟨its,rv,pl,hz⟩:=I.list hq
 have hh:X.A.in1.handled=none:=I.ok.hd hc
 have hlt:p < s.heap.objs.size:=by obtain⟨o,e,_⟩:=pl.isList;exact aeR e
 have hlen:=rv.length
 rw [aeD] at hlen
 refine call_all_walk (ah7 pl.isList ?_)
 refine⟨s.heap.objs.size,_,_,_,_,_,fun i=>bs.getD i false,rfl,Walks.list hh s.heap.objs.size p (ae4 hlt) its.toArray,⟨⟨_,aeY _ rfl,rfl,rfl⟩,pl.isList.push _⟩,fun i v s' Q' E' hv hq'=>?_,fun h' tk hk=>?_⟩
 ·have hv':its[i]? = some v:=by simpa using hv
  have hi:i < its.length:=(aeJ.mp hv').1
  have hb:bs[i]? = some (bs.getD i false):=by
   rw [agt]
   rw [aeC (by omega)]
   rfl
  obtain⟨u,hu,ru⟩:=rv.get (i:=i) (x:=.bl (bs.getD i false)) (by rw [aeP,hb];rfl)
  rw [hv'] at hu
  cases hu
  cases ru
  exact afL hq'
 ·have e:(List.range its.toArray.size).all (fun i=>bs.getD i false)=bs.all id:=by
   rw [aeU,← hlen,uK]
  rw [e]
  refine⟨.bl _,H,?_,rfl,q⟩
  refine (I.kept (t':=s.toks) (h':=s.heap.push { cls:=.type "list_iterator",data:=.fields #[.ref p,.int 0 0] }) fun b o e=>aeH _ e).turned (it:=s.heap.objs.size) (t':=tk) (h':=h') (fun b o hb e=>hk b o (by simpa using hb) e) I.fresh (agV I.lt) (.inr I.sz) (fun x c e z=>?_) fun p' hp z=>?_
  ·obtain⟨v,q⟩:=I.cell x c e
   exact absurd (z▸q.lt) (agx _)
  ·exact absurd (z▸aeR (I.pin p' hp).1) (agx _)
theorem sZ:fu X (.builtin "sorted") (fun xs H Q=>∃ (p:Addr) (ss:List Str),xs=[.ref p]/\SqL X.K H p (ss.map V.str)/\ss.length < 64/\∀ (l:Addr) (ss':List Str),H l=none->ss'.Perm ss->sortedS ss'=true->Q (.ref l) (upd H l (.lst (ss'.map V.str)))):=by
 intro pins s σ H xs us Q I r h
 obtain⟨p,ss,rfl,hq,hl,q⟩:=h
 obtain⟨u,rfl,rx⟩:=gY r
 cases rx
 obtain⟨its,rv,pl,hz⟩:=I.list hq
 have hlen:=rv.length
 rw [aeD] at hlen
 refine sorted_strs pl.isList (eJ rv) (by omega) fun out ss' a1 a2 a3=>?_
 obtain⟨e,he⟩:=sortedAll_at s.heap its out
 have hlen':ss'.length=ss.length:=a2.length_eq
 refine⟨.ref (s.heap.objs.size+1),_,I.laid (t':=s.toks) (o:=.lst (ss'.map V.str)) (fun b o e=>sortedAll_old e) (agG _) ⟨?_,out.toList,e,gF a1,?_⟩,rfl,q _ ss' (I.hok.fresh (agG _)) a2 a3⟩
 ·rw [aeD]
  exact afb (ae1 (by omega:ss'.length < 64) (by decide))
 ·simpa using he
def acI:V->List V->Hp->VK->Prop:=fun x vs H Q=>∃ (l:Addr) (ss:List Str) (k:Str),x=.ref l/\vs=[.str k]/\H l=some (.lst (ss.map V.str))/\Q (.int (ss.count k)) H
theorem sU (k:Str):∀ ss:List Str,countIn (.str k) (ss.map PyData.str)=((ss.count k:Nat):Int):=by
 intro ss
 induction ss with
 | nil=>rfl
 | cons y r ih =>
  rw [aeZ,countIn,ih,aht]
  by_cases e:y=k
  ·subst e
   have e1:same (.str y) (.str y)=true:=same_refl _
   rw [if_pos e1,aio,if_pos rfl]
   omega
  ·have e1:¬ same (.str y) (.str k)=true:=by simpa [same] using e
   have e2:(y == k)=false:=by simpa using e
   rw [if_neg e1,e2]
   simp
theorem iA:MtM X "list.count" acI:=by
 intro pins s σ H x vs v us Q I rx rv h
 obtain⟨l,ss,k,rfl,rfl,hH,q⟩:=h
 cases rx
 obtain⟨u,rfl,t,rfl⟩:=rv.one
 obtain⟨its,r,pl,hz⟩:=I.list (SqL.of hH)
 refine count_list_strs pl.isList (eJ r) ⟨.int (ss.count k),H,I.tok _,⟨s.toks,?_⟩,q⟩
 rw [sU]
def adp:V->List V->Hp->VK->Prop:=fun x vs H Q=>∃ (z:Str) (l:Addr) (ss:List Str),x=.str z/\vs=[.ref l]/\SqL X.K H l (ss.map V.str)/\(ss.map (·.length)).sum+ss.length * z.length<=16777216/\Q (.str (Txt.join z ss)) H
theorem ab3:MtM X "str.join" (adp (X:=X)):=by
 intro pins s σ H x vs v us Q I rx rv h
 obtain⟨z,l,ss,rfl,rfl,hq,hz,q⟩:=h
 obtain⟨t,rfl⟩:=rx
 obtain⟨u,rfl,ru⟩:=rv.one
 cases ru
 obtain⟨its,r,pl,_⟩:=I.list hq
 exact join_list pl.isList (by simpa using eJ r) hz fun t' k=>⟨.str _,H,I.tok _,⟨t',rfl⟩,q⟩
end
mutual
inductive Sees (H:Hp):V->PyData->Prop
 | non:Sees H .non .none
 | bl (b:Bool):Sees H (.bl b) (.bool b)
 | int (i:Int):Sees H (.int i) (.int i)
 | str (x:Str):Sees H (.str x) (.str x)
 | lst {a:Addr} {vs:List V} {ds:List PyData}:H a=some (.lst vs)->SeesAll H vs ds->Sees H (.ref a) (.list ds)
 | tup {a:Addr} {vs:List V} {ds:List PyData}:H a=some (.tup vs)->SeesAll H vs ds->Sees H (.ref a) (.tuple ds)
inductive SeesAll (H:Hp):List V->List PyData->Prop
 | nil:SeesAll H [] []
 | cons {v:V} {vs:List V} {d:PyData} {ds:List PyData}:Sees H v d->SeesAll H vs ds->SeesAll H (v::vs) (d::ds)
end
mutual
theorem Sees.reads {P:Program}{w:World}{H:Hp}{h:Heap}(ok:HOk P w H h):∀ {d:PyData} {v:V} {u:Value},Sees H v d->RelV v u->∃ as,Reads h u d as
 | _,_,_,.non,r=>by cases r;exact⟨_,.none⟩
 | _,_,_,.bl b,r=>by cases r;exact⟨_,.bool b⟩
 | _,_,_,.int i,r=>by obtain⟨t,rfl⟩:=r;exact⟨_,.int i t⟩
 | _,_,_,.str x,r=>by obtain⟨t,rfl⟩:=r;exact⟨_,.str x t⟩
 | _,_,_,.lst e q,r=>by
  cases r
  obtain⟨_,its,n,rv,g⟩:=ok _ _ e
  obtain⟨as,ra⟩:=SeesAll.reads ok q rv
  exact⟨_,.list g rfl rfl (by simpa using ra)⟩
 | _,_,_,.tup e q,r=>by
  cases r
  obtain⟨_,its,rv,o,g,hc,n,hd⟩:=ok _ _ e
  obtain⟨as,ra⟩:=SeesAll.reads ok q rv
  exact⟨_,.tuple g hc hd (by simpa using ra)⟩
theorem SeesAll.reads {P:Program}{w:World}{H:Hp}{h:Heap}(ok:HOk P w H h):∀ {ds:List PyData} {vs:List V} {us:List Value},SeesAll H vs ds->Vals vs us->∃ as,ReadsAll h us ds as
 | _,_,_,.nil,r=>by cases r;exact⟨_,.nil⟩
 | _,_,_,.cons a b,r=>by
  cases r with
  | cons r1 r2 =>
   obtain⟨_,x⟩:=Sees.reads ok a r1
   obtain⟨_,y⟩:=SeesAll.reads ok b r2
   exact⟨_,.cons x y⟩
end
theorem SeesAll.strs {H:Hp}:∀ ss:List Str,SeesAll H (ss.map V.str) (ss.map PyData.str)
 | []=>.nil
 | s::r=>.cons (.str s) (SeesAll.strs r)
section
variable {X:Cx}
def acK (A:Around)(neg:Bool):R2:=fun x y H Q=>∃ da db,Sees H x da/\Sees H y db/\da.canLay0=true/\db.canLay0=true/\A.units+min da.depth db.depth < cLine/\Q (.bl (if neg then !PyData.eqv da db else PyData.eqv da db)) H
theorem uL:OpR X (compareOp .Eq) (acK X.A false):=by
 intro pins s σ H x y v u Q I rx ry h
 obtain⟨da,db,sa,sb,la,lb,hu,q⟩:=h
 obtain⟨_,ra⟩:=sa.reads I.hok rx
 obtain⟨_,rb⟩:=sb.reads I.hok ry
 exact SeqAt.rcAt_reads ra rb la lb hu _ _ _ _ ⟨.bl _,H,I,rfl,q⟩
theorem kj:OpR X (compareOp .NotEq) (acK X.A true):=by
 intro pins s σ H x y v u Q I rx ry h
 obtain⟨da,db,sa,sb,la,lb,hu,q⟩:=h
 obtain⟨_,ra⟩:=sa.reads I.hok rx
 obtain⟨_,rb⟩:=sb.reads I.hok ry
 exact SeqAt.compareNe_reads ra rb la lb hu ⟨.bl _,H,I,rfl,q⟩
def Itn (n:Nat)(val:Nat->V->Prop):It:=⟨fun i _=>i < n,fun i H x H'=>H'=H/\val i x,fun i _=>i=n⟩
theorem ou {P:Program}{w:World}{K:PySem.W.Frag}{x:Str}{p:Pos}{I:Addr}{n:Nat}{Pv:Nat->Value->Prop}{St:Nat->Heap->Prop}{val:Nat->V->Prop}
 (W:∀ A':Around,A'.handled=none->Walks P w A' I [I] [I] n Pv St)(ho:∀ i h,St i h->∃ o,h.get? I=some o/\∀ v,o.data≠.cell v)(hv:∀ i u,Pv i u->∃ v,RelV v u/\val i v)
 (hself:∀ (A:Around) (i:Nat) (s:Shared) (Q:Value->Shared->Prop) (E:Value->Shared->Prop),St i s.heap->Q (.ref I) s->wpAny (model P w) A (pyIter (.ref I)) Q E s) :
 abP P w K (.Name x p) (Itn n val) [I] I St where
 mem:=by simp
 obj:=fun i h st b hb=>by
  have e:b=I:=by simpa using hb
  subst e
  exact ho i h st
 keep:=fun i h h' st k=>(W { handled:=none,depth:=0,frames:=none,guards:=none,units:=0 } rfl).frame i h h' st k
 item:=by
  intro X hP hw hK hc i pins s σ H E J hf st hg
  subst hP hw hK
  obtain⟨f0,f1,f2,f3,f4,f5⟩:=hf I (by simp)
  refine (W X.A (J.ok.hd hc)).item i s _ _ hg st fun v h' tk hPv st' kk=>?_
  obtain⟨y,ry,vy⟩:=hv i v hPv
  have J1:Inv X pins σ H { s with heap:=h',toks:=tk }:=J.turned (fun b o hb e=>kk b o (by simpa using hb) e) f0 f1 f3 f4 f5
  exact⟨v,rfl,aeK ⟨y,H,J1,ry,⟨rfl,vy⟩,st',fun b hb=>(hf b hb).1⟩⟩
 done:=by
  intro X hP hw hK hc i pins s σ H E J hf st hg
  subst hP hw hK
  obtain⟨f0,f1,f2,f3,f4,f5⟩:=hf I (by simp)
  have e:i=n:=hg
  subst e
  exact (W X.A (J.ok.hd hc)).done s _ _ st fun h' tk kk=>⟨rfl,J.turned (fun b o hb e=>kk b o (by simpa using hb) e) f0 f1 f3 f4 f5⟩
 self:=hself
theorem lE {h:Heap}{I:Addr}{n:String}{x:Str}{t:Tok}{i:Nat}(st:h.IsStrIter I n x t i):∃ o,h.get? I=some o/\∀ v,o.data≠.cell v:=by
 obtain⟨o,e,_,d⟩:=st
 exact⟨o,e,fun v z=>by rw [d] at z;cases z⟩
def ItS (z:Str):It:=Itn z.cps.size fun i v=>∃ c,z.cps[i]? = some c/\v=.str ⟨#[c]⟩
def aes (tl:TE):TI:=fun σ H R=>tl σ H fun x H1=>∃ z,x=.str z/\R (ItS z) H1
theorem uM {z:Str}(i:Nat)(u:Value)(h:SignAt z i u):∃ v,RelV v u/\∃ c,z.cps[i]? = some c/\v=.str ⟨#[c]⟩:=by
 obtain⟨c,t,e,rfl⟩:=h
 exact⟨.str ⟨#[c]⟩,⟨t,rfl⟩,c,e,rfl⟩
theorem acu {l:Expr}{tl:TE}{x:Str}{p:Pos}(hl:PE X l tl):PI X (.Name x p) l (aes tl):=by
 intro pins s σ H R I h
 refine thn (hl pins s σ H _ I h) fun v s1 ⟨y,H1,I1,r1,q1⟩=>?_
 obtain⟨z,rfl,q⟩:=q1
 obtain⟨t,rfl⟩:=r1
 have fin:∀ (o:Obj),Inv X pins σ H1 { s1 with heap:=s1.heap.push o }:=fun o=>I1.kept (t':=s1.toks) fun b o e=>aeH _ e
 have ff:∀ b∈[s1.heap.objs.size],nX X pins H1 b:=fun b hb=>by
  have e:b=s1.heap.objs.size:=by simpa using hb
  subst e
  exact I1.fpOk (aeN _) I1.fresh
 cases ha:z.cps.all (· < 128)
 ·refine wpAny_pyIter_wide ha ⟨s1.heap.objs.size,[s1.heap.objs.size],_,ItS z,H1,rfl,fin _,ou (fun A' hA=>Walks.strWide hA _ z t) (fun i h st=>lE st) uM (fun A i s Q E st h=>wpAny_pyIter_striter_wide st h),⟨_,aeY _ rfl,rfl,rfl⟩,ff,q⟩
 ·refine wpAny_pyIter_ascii ha ⟨s1.heap.objs.size,[s1.heap.objs.size],_,ItS z,H1,rfl,fin _,ou (fun A' hA=>Walks.strAscii hA _ z t) (fun i h st=>lE st) uM (fun A i s Q E st h=>wpAny_pyIter_striter_ascii st h),⟨_,aeY _ rfl,rfl,rfl⟩,ff,q⟩
def aeh:V->Option Int->Option Int->Hp->VK->Prop:=fun x lo hi H Q=>∃ z:Str,x=.str z/\z.length<=sizeLine/\Q (.str (Txt.slice z lo hi)) H
theorem aaF:SlR X aeh:=by
 intro pins s σ H x v vl vu lo hi sl Q I rx hs pl pu h
 obtain⟨z,rfl,hz,q⟩:=h
 obtain⟨t,rfl⟩:=rx
 refine⟨"str",_,PySem.F.slot_str_getitem.lookup,typeIs_str _ _ _,?_⟩
 obtain⟨o,ho,hc,hd⟩:=hs
 have fin:∀ t' k,EP X pins σ Q (.str (Txt.slice z lo hi) t') { s with toks:=k }:=fun t' k=>⟨.str _,H,I.tok _,⟨t',rfl⟩,q⟩
 cases pl with
 | none =>
  cases pu with
  | none=>exact ahb (l:=none) (u:=none) (st:=none) ⟨o,ho,hc,hd⟩ rfl (aiK ⟨afk (aj1 z _ _) hz,fun t' k=>fin t' k⟩)
  | int j tj=>exact ahb (l:=none) (u:=some (j,tj)) (st:=none) ⟨o,ho,hc,hd⟩ rfl (aiK ⟨afk (aj1 z _ _) hz,fun t' k=>fin t' k⟩)
 | int i ti =>
  cases pu with
  | none=>exact ahb (l:=some (i,ti)) (u:=none) (st:=none) ⟨o,ho,hc,hd⟩ rfl (aiK ⟨afk (aj1 z _ _) hz,fun t' k=>fin t' k⟩)
  | int j tj=>exact ahb (l:=some (i,ti)) (u:=some (j,tj)) (st:=none) ⟨o,ho,hc,hd⟩ rfl (aiK ⟨afk (aj1 z _ _) hz,fun t' k=>fin t' k⟩)
end
open PySem.Builtin PySem.Builtin.Str in
theorem lO (z:Str)(a b:Nat)(hab:a<=b)(hb:b<=z.length):(Txt.slice z (some (a:Int)) (some (b:Int))).cps.toList=(z.cps.toList.drop a).take (b - a):=by
 unfold Txt.slice
 have e:=StrLaws.sliced_plain z hab hb
 split
 ·rename_i h
  rw [StrLaws.strSliceIndices_plain hab hb] at h
  simp only [aeD,afs,af3,afe] at h
  have h2:b - a=z.length:=h.2
  have ha:a=0:=by omega
  subst ha
  have hz:z.cps.toList.length=z.length:=by simp [Str.length]
  rw [afU,afy (by omega)]
 ·rw [e]
def uX (scope outer:Scope):List (Str×NameKind) :=
 scope.names.map fun (n,k)=>if (k == .free && outer.kind == .function && outer.names.lookup n == some .cell) then (n,.cell) else (n,k)
def jj (outer scope:Scope)(N N':List Str)(nl:Nat)(ix:List Nat):Bool :=
 (scope.kind == .function && scope.names.all fun x=>x.2 != .cell && (x.2 != .local || scope.names.lookup x.1 == some .local) && (x.2 != .free || outer.names.lookup x.1 == some .cell)) &&
 (N'.length == nl+ix.length && (List.range ix.length).all fun k=>match ix[k]? with
  | none=>false
  | some j=>match N[j]? with
   | none=>false
   | some x=>N'[nl+k]? == some x && outer.names.lookup x == some .cell && (uX scope outer).lookup x == some .cell && decide ((x,NameKind.free)∈scope.names))
theorem iZ {X:Cx}{outer scope:Scope}{N N':List Str}{nl:Nat}{ix:List Nat}(h1:X.env.scope=outer)(h2:X.N=N)(h:jj outer scope N N' nl ix=true):CompScope X scope/\ab6 X scope N' nl ix:=by
 unfold jj at h
 simp only [af3,agH,afe,bne_iff_ne,Bool.or_eq_true,ne_eq,afT] at h
 obtain⟨⟨hk,ha⟩,hl,hb⟩:=h
 have kd:∀ x,X.env.kindOf x=outer.names.lookup x:=fun x=>by rw [← h1];rfl
 refine⟨⟨hk,fun x hx=>(ha x hx).1.1,fun x hx e=>?_,fun x hx e=>?_⟩,⟨hl,fun k j e=>?_⟩⟩
 ·rcases (ha x hx).1.2 with z | z
  ·exact absurd e z
  ·exact z
 ·rcases (ha x hx).2 with z | z
  ·exact absurd e z
  ·rw [kd];exact z
 ·have hk':k < ix.length:=(aeJ.mp e).1
  have q:=hb k hk'
  rw [e] at q
  simp only at q
  cases ex:N[j]? with
  | none=>rw [ex] at q;simp at q
  | some x =>
   rw [ex] at q
   simp only [af3,afe,agL] at q
   obtain⟨⟨⟨q1,q2⟩,q3⟩,q4⟩:=q
   refine⟨x,by rw [h2];exact ex,q1,by rw [kd];exact q2,?_,q4⟩
   have er:(relabel scope X.env).names=uX scope outer:=by rw [← h1];rfl
   rw [er];exact q3
def Nx (n i:Nat)(p:Prop):Prop:=∃ m',m' < n - i/\m'=n - (i+1)/\i+1<=n/\p
theorem nx {n i:Nat}{p:Prop}(h:i < n)(q:p):Nx n i p:=⟨n - (i+1),by omega,rfl,h,q⟩
def bL (nl:Nat)(ix:List Nat)(g:TG)(tf:TT)(te:TE)(σ:St)(D:Addr)(ys:List V)(H:Hp)(x:V)(nxt:List V->Hp->Prop):Prop :=
 g x (dz nl ix σ) H fun σ4 H4=>(σ4.length=(dz nl ix σ).length/\σ4.drop nl=ix.map fun j=>(σ[j]?).join)/\tf σ4 H4 fun b H5 =>
  if b=true then te σ4 H5 fun y H6=>H6 D=some (.lst ys)/\ys.length < sizeLine/\nxt (ys++[y]) (upd H6 D (.lst (ys++[y]))) else nxt ys H5
def jg (nl:Nat)(ix:List Nat)(g:TG)(tf:TT)(te:TE)(σ:St)(J:It)(H1:Hp)(D:Addr)(Q:VK):Prop :=
 ∃ W:Nat->Nat->List V->Hp->Prop,(∃ m,W 0 m [] (upd H1 D (.lst []))) ∧
 ∀ i m ys H2,W i m ys H2->H2 D=some (.lst ys)/\((J.stop i H2/\Q (.ref D) H2)\/(J.go i H2/\∀ x H3,J.yld i H2 x H3->bL nl ix g tf te σ D ys H3 x fun ys' H'=>∃ m',m' < m/\W (i+1) m' ys' H'))
theorem bE (nl:Nat)(ix:List Nat)(wi:TI)(g:TG)(tf:TT)(te:TE)(σ:St)(H:Hp)(Q:VK)(h:wi σ H fun J H1=>∀ D,H1 D=none->jg nl ix g tf te σ J H1 D Q):qr nl ix wi g tf te σ H Q:=h
section
variable {nl:Nat}{ix:List Nat}{g:TG}{tf:TT}{te:TE}{σ:St}{H1:Hp}{D:Addr}{Q:VK}(Pv:Nat->List V->Hp->Prop)
theorem qD {J:It}{n:Nat}(h0:Pv 0 [] (upd H1 D (.lst [])))(hD:∀ i ys H,Pv i ys H->H D=some (.lst ys))(go:∀ i ys H,i < n->Pv i ys H->J.go i H)(stop:∀ ys H,Pv n ys H->J.stop n H)
 (hs:∀ i ys H x H',i < n->Pv i ys H->J.yld i H x H'->bL nl ix g tf te σ D ys H' x fun ys' H'=>Nx n i (Pv (i+1) ys' H'))
 (hd:∀ ys H,Pv n ys H->Q (.ref D) H):jg nl ix g tf te σ J H1 D Q:=by
 refine⟨fun i m ys H=>m=n - i/\i<=n/\Pv i ys H,⟨n,by simp,ae2 _,h0⟩,?_⟩
 rintro i m ys H ⟨rfl,hi,p⟩
 refine⟨hD i ys H p,?_⟩
 by_cases hlt:i < n
 ·exact .inr ⟨go i ys H hlt p,fun x H' y=>hs i ys H x H' hlt p y⟩
 ·have e:i=n:=by omega
  subst e
  exact .inl ⟨stop ys H p,hd ys H p⟩
theorem gE {lo:Int}{n:Nat}(h0:Pv 0 [] (upd H1 D (.lst [])))(hD:∀ i ys H,Pv i ys H->H D=some (.lst ys))
 (hs:∀ i ys H,i < n->Pv i ys H->bL nl ix g tf te σ D ys H (.int (lo+i)) fun ys' H'=>Nx n i (Pv (i+1) ys' H'))(hd:∀ ys H,Pv n ys H->Q (.ref D) H):jg nl ix g tf te σ (Itr lo n) H1 D Q:=by
 refine qD (n:=n) Pv h0 hD (fun _ _ _ hi _=>hi) (fun _ _ _=>aeN _) (fun i ys H x H' hi p y=>?_) hd
 obtain⟨e,y⟩:=y
 subst e y
 exact hs i ys H' hi p
theorem cZ {K:PySem.W.Frag}{a:Addr}{xs:List V}(h0:Pv 0 [] (upd H1 D (.lst [])))(hD:∀ i ys H,Pv i ys H->H D=some (.lst ys))(hl:∀ i ys H,Pv i ys H->SqL K H a xs)
 (hs:∀ i ys H x,xs[i]? = some x->Pv i ys H->bL nl ix g tf te σ D ys H x fun ys' H'=>Nx xs.length i (Pv (i+1) ys' H'))(hd:∀ ys H,Pv xs.length ys H->Q (.ref D) H):jg nl ix g tf te σ (Itl K a) H1 D Q:=by
 refine qD (n:=xs.length) Pv h0 hD (fun i ys H hi p=>⟨xs,xs[i],hl i ys H p,by simp [hi]⟩) (fun ys H p=>⟨xs,hl _ ys H p,aeN _⟩) (fun i ys H x H' hi p y=>?_) hd
 obtain⟨e,y⟩:=y
 subst e
 exact hs i ys H' x (y xs (hl i ys H' p)) p
theorem zB {z:Str}(h0:Pv 0 [] (upd H1 D (.lst [])))(hD:∀ i ys H,Pv i ys H->H D=some (.lst ys))
 (hs:∀ i ys H c,z.cps[i]? = some c->Pv i ys H->bL nl ix g tf te σ D ys H (.str ⟨#[c]⟩) fun ys' H'=>Nx z.cps.size i (Pv (i+1) ys' H'))(hd:∀ ys H,Pv z.cps.size ys H->Q (.ref D) H):jg nl ix g tf te σ (ItS z) H1 D Q:=by
 refine qD (n:=z.cps.size) Pv h0 hD (fun _ _ _ hi _=>hi) (fun _ _ _=>rfl) (fun i ys H x H' hi p y=>?_) hd
 obtain⟨e,c,ec,ex⟩:=y
 subst e ex
 exact hs i ys H' c ec p
end
section
variable {X:Cx}{K:PySem.W.Frag}
theorem gI (hK:X.K=K):IxR X (adi K):=by subst hK;exact bD
theorem yh (hK:X.K=K):IxR X (aeb K):=by subst hK;exact bu
theorem jn (hK:X.K=K):fu X (.builtin "len") (fun xs H Q=>∃ p ys,xs=[.ref p]/\(SqL K H p ys\/SqT K H p ys)/\Q (.int ys.length) H):=by subst hK;exact az
theorem mT {pos:Pos}{es:List Expr}{k:Nat}{t:TGs}{n:Nat}(hK:X.K=K)(hc:X.calm=true)(h:PGs X es t)(hn:(assignEach es X.env).length=n:=by rfl)(hst:(assignEach es X.env).findIdx? (·.1)=none:=by rfl):PG X (.Tuple es k pos) (y4 K n t):=by
 subst hK
 exact eG hc h hn hst
end
theorem dI {nl:Nat}{ix:List Nat}{te:TE}{σ:St}{D:Addr}{ys:List V}{H:Hp}{x:V}{nxt:List V->Hp->Prop}{i:Nat}(h1:((dz nl ix σ).set i (some x)).drop nl=ix.map fun j=>(σ[j]?).join)
 (h:te ((dz nl ix σ).set i (some x)) H fun y H6=>H6 D=some (.lst ys)/\ys.length < sizeLine/\nxt (ys++[y]) (upd H6 D (.lst (ys++[y])))):bL nl ix (bJ i) yz te σ D ys H x nxt:=by
 unfold bL bJ yz
 dsimp only
 rw [if_pos rfl]
 exact⟨⟨by simp,h1⟩,h⟩
section
variable {X:Cx}
theorem bU:fu X (.builtin "isinstance") (fun xs H Q=>∃ (x:V) (T:String) (t:Value) (b:Bool),xs=[x,.ty T]/\wg X.K H x t/\PySem.W.kitOne X.K t (.type T)=some b/\Q (.bl b) H):=by
 intro pins s σ H xs us Q I r h
 obtain⟨x,T,t,b,rfl,ty,e,q⟩:=h
 obtain⟨u,v,rfl,rx,ry⟩:=abw r
 cases ry
 exact xM I rx ty e fun tk=>⟨.bl b,H,I.tok _,rfl,q⟩
theorem eU (K:PySem.W.Frag)(n:String):PySem.W.kitOne K (.type n) (.type n)=some true:=by
 unfold PySem.W.kitOne
 rw [if_pos (by simp)]
end
def leS (a b:Str):Prop:=ltCps b.cps.toList a.cps.toList=false
theorem leS_iff {a b:Str}:leS a b↔a.cps.toList<=b.cps.toList:=by
 unfold leS
 rw [ltCps_eq]
 constructor
 ·intro h
  exact List.not_lt.mp (of_decide_eq_false h)
 ·intro h
  exact afq (List.not_lt.mpr h)
theorem qU {a b:Str}(h1:leS a b)(h2:leS b a):a=b:=by
 have e:=List.le_antisymm (leS_iff.mp h1) (leS_iff.mp h2)
 cases a;cases b
 simp only at e
 rw [Str.mk.injEq]
 exact Array.toList_inj.mp e
theorem yi {a b c:Str}(h1:leS a b)(h2:leS b c):leS a c:=leS_iff.mpr (List.le_trans (leS_iff.mp h1) (leS_iff.mp h2))
theorem lh:∀ {l:List Str} {p:Str},risingS p l=true->(∀ x∈l,leS p x)/\l.Pairwise leS
 | [],p,_=>⟨(fun x hx=>nomatch hx),List.Pairwise.nil⟩
 | y::r,p,h=>by
  have h':(!ltCps y.cps.toList p.cps.toList && risingS y r)=true:=h
  rw [af3,ahy] at h'
  obtain⟨i1,i2⟩:=lh h'.2
  have py:leS p y:=h'.1
  refine⟨fun x hx=>?_,List.Pairwise.cons i1 i2⟩
  rcases aeX.mp hx with rfl | hx
  ·exact py
  ·exact yi py (i1 x hx)
theorem bH:∀ {l:List Str},sortedS l=true->l.Pairwise leS
 | [],_=>List.Pairwise.nil
 | _::_,h=>let ⟨a,b⟩:=lh h;List.Pairwise.cons a b
theorem iC:∀ {l1 l2:List Str},l1.Pairwise leS->l2.Pairwise leS->l1.Perm l2->l1=l2
 | [],l2,_,_,p=>(List.nil_perm.mp p).symm▸rfl
 | a::r,[],_,_,p=>absurd p.length_eq (by simp)
 | a::r,b::t,h1,h2,p=>by
  have ab:leS a b:=by
   rcases aeX.mp (p.mem_iff.mpr aeQ:b∈a::r) with e | hb
   ·subst e;exact leS_iff.mpr (alm _)
   ·exact (afE.mp h1).1 b hb
  have ba:leS b a:=by
   rcases aeX.mp (p.mem_iff.mp aeQ:a∈b::t) with e | ha
   ·subst e;exact leS_iff.mpr (alm _)
   ·exact (afE.mp h2).1 a ha
  have e:=qU ab ba
  subst e
  rw [iC (afE.mp h1).2 (afE.mp h2).2 p.cons_inv]
theorem uj {K:PySem.W.Frag}{nl:Nat}{ix:List Nat}{te:TE}{σ:St}{D:Addr}{ys:List V}{H:Hp}{x:V}{nxt:List V->Hp->Prop}{i j:Nat}(a:Addr)(v1 v2:V)(hx:x=.ref a)(hs:SqT K H a [v1,v2])
 (h1:(((dz nl ix σ).set i (some v1)).set j (some v2)).drop nl=ix.map fun j=>(σ[j]?).join)
 (h:te (((dz nl ix σ).set i (some v1)).set j (some v2)) H fun y H6=>H6 D=some (.lst ys)/\ys.length < sizeLine/\nxt (ys++[y]) (upd H6 D (.lst (ys++[y])))) :
 bL nl ix (y4 K 2 (kQ (bJ i) (kQ (bJ j) aaW))) yz te σ D ys H x nxt:=by
 subst hx
 unfold bL y4 kQ bJ aaW yz
 dsimp only
 refine⟨a,[v1,v2],rfl,hs,rfl,v1,[v2],rfl,v2,[],rfl,rfl,⟨by simp,h1⟩,?_⟩
 rw [if_pos rfl]
 exact h
open PySem.Builtin PySem.Builtin.Str in
theorem acd (j n:Nat):strSliceIndices none (some (j:Int)) 1 n=strSliceIndices (some ((0:Nat):Int)) (some ((min j n:Nat):Int)) 1 n:=by
 unfold strSliceIndices
 have h1:¬ ((j:Int) < 0):=by omega
 have h2:¬ (((min j n:Nat):Int) < 0):=by omega
 have h3:¬ (((0:Nat):Int) < 0):=by omega
 simp only [h1,h2,h3,agl,show ((1:Int) > 0)=True from by simp,ahl]
 congr 1<;>omega
open PySem.Builtin PySem.Builtin.Str in
theorem z9 (i n:Nat):strSliceIndices (some (i:Int)) none 1 n=strSliceIndices (some ((min i n:Nat):Int)) (some ((n:Nat):Int)) 1 n:=by
 unfold strSliceIndices
 have h1:¬ ((i:Int) < 0):=by omega
 have h2:¬ (((min i n:Nat):Int) < 0):=by omega
 have h3:¬ (((n:Nat):Int) < 0):=by omega
 simp only [h1,h2,h3,agl,show ((1:Int) > 0)=True from by simp,ahl]
 congr 1<;>omega
theorem ug (z:Str)(j:Nat):(Txt.slice z none (some (j:Int))).cps.toList=z.cps.toList.take j:=by
 have e:Txt.slice z none (some (j:Int))=Txt.slice z (some ((0:Nat):Int)) (some ((min j z.length:Nat):Int)):=by
  unfold Txt.slice
  rw [acd]
 rw [e,lO z 0 (min j z.length) (ae2 _) (ahe _ _),afU,aln]
 have hz:z.cps.toList.length=z.length:=by simp [Str.length]
 by_cases h:j<=z.length
 ·rw [agb h]
 ·rw [ajG (by omega),afy (by omega),afy (by omega)]
theorem og (z:Str)(i:Nat):(Txt.slice z (some (i:Int)) none).cps.toList=z.cps.toList.drop i:=by
 have e:Txt.slice z (some (i:Int)) none=Txt.slice z (some ((min i z.length:Nat):Int)) (some ((z.length:Nat):Int)):=by
  unfold Txt.slice
  rw [z9]
 have hz:z.cps.toList.length=z.length:=by simp [Str.length]
 rw [e,lO z (min i z.length) z.length (ahe _ _) (aeN _)]
 by_cases h:i<=z.length
 ·rw [agb h,afy (by rw [age];omega)]
 ·rw [ajG (by omega),ahM,ahj,agR (by omega)]
section
variable {M:Model}{A:Around}{E:Value->Shared->Prop}{s:Shared}
theorem pq {src:Source}{n:Nat}{Q:Nat->Shared->Prop}(hn:n≠0)(h:∀ i,i < n->Q i { s with drawn:=s.drawn.bump src }):wpAny M A (choose src n) Q E s:=fun _ _ _ =>
 ⟨hn,h _ (Nat.mod_lt _ (Nat.pos_of_ne_zero hn))⟩
theorem gO {α:Type}:∀ (xs:List α) (i:Nat) (x:α),xs[i]? = some x->(x::xs.eraseIdx i).Perm xs
 | [],_,_,h=>by simp at h
 | y::r,0,x,h=>by simp at h;subst h;exact .rfl
 | y::r,i+1,x,h=>by
  have h':r[i]? = some x:=by simpa using h
  rw [agK]
  exact (List.Perm.swap y x _).trans ((gO r i x h').cons y)
theorem ir {α:Type}:∀ (n:Nat) (xs:List α) (s:Shared) (Q:List α->Shared->Prop),xs.length=n->(∀ ys d,ys.Perm xs->Q ys { s with drawn:=d })->wpAny M A (drawOrder n xs) Q E s
 | 0,xs,s,Q,hl,h=>by
  have e:xs=[]:=af8.mp hl
  subst e
  unfold drawOrder
  exact aeK (h [] s.drawn .rfl)
 | n+1,[],s,Q,hl,h=>by simp at hl
 | n+1,y::r,s,Q,hl,h=>by
  unfold drawOrder
  refine aeE (pq (by simp) fun i hi=>?_)
  have hx:(y::r)[i]? = some (y::r)[i]:=aeC hi
  rw [hx]
  dsimp only
  refine aeE (ir n _ _ _ (by rw [aiX hi];simpa using hl) fun ys d p=>?_)
  exact aeK (h _ d ((p.cons _).trans (gO _ i _ hx)))
theorem lZ {α:Type}(next:Nat->Nat):∀ (fuel k:Nat) (left:List α) (out:Array α),left.length=fuel->(pickOrder.go next fuel k left out).toList.Perm (out.toList++left)
 | 0,k,left,out,h=>by
  have e:left=[]:=af8.mp h
  subst e
  unfold pickOrder.go
  simp
 | fuel+1,k,left,out,h=>by
  unfold pickOrder.go
  have hp:0 < left.length:=by omega
  have hi:next k % left.length < left.length:=Nat.mod_lt _ hp
  rw [aeC hi]
  dsimp only
  refine (lZ next fuel (k+1) _ _ (by rw [aiX hi];omega)).trans ?_
  rw [ah8,aeW]
  exact (gO left _ _ (aeC hi)).append_left _
theorem iM {α:Type}(next:Nat->Nat)(xs:Array α):(pickOrder next xs).toList.Perm xs.toList:=by
 unfold pickOrder
 simpa using lZ next xs.size 0 xs.toList #[] (by simp)
end
theorem vQ (t:SetTable)(es:Array (Int×Value))(h:Int)(x:Value):(layNew t es h x).2.1.led=t.led:=by
 unfold layNew
 split
 ·dsimp only
  unfold SetTable.orStandIn
  split<;>rfl
 ·rfl
theorem rB (t:SetTable)(es:Array (Int×Value))(n:Nat):(relayAll t es n).2.1.led=t.led:=by
 unfold relayAll
 split
 ·rename_i t' order e
  have e2:t'.led=t.led:=by
   unfold SetTable.relaid SetTable.laid at e
   simp only [Option.bind_eq_bind,ajx] at e
   obtain⟨ow,_,e⟩:=e
   simp only [Option.pure_def,ajh,Prod.mk.injEq] at e
   rw [← e.1]
  dsimp only
  split
  ·exact e2
  ·rfl
 ·rfl
theorem nW (t:SetTable)(es:Array (Int×Value))(n:Nat)(h:t.plain=false):(relayAll t es n).2.1.plain=false:=by
 unfold relayAll
 split
 ·rename_i t' order e
  have e2:t'.plain=t.plain:=by
   unfold SetTable.relaid SetTable.laid at e
   simp only [Option.bind_eq_bind,ajx] at e
   obtain⟨ow,_,e⟩:=e
   simp only [Option.pure_def,ajh,Prod.mk.injEq] at e
   rw [← e.1]
  dsimp only
  split
  ·rw [e2];exact h
  ·rfl
 ·rfl
structure TxAt (prog:Program)(w:World)(h:Heap)(a:Addr)(es:Array (Int×Value))(ep:Nat)(t:SetTable):Prop where
 get:h.get? a=some { cls:=.type "set",dict:=none,data:=.set es ep t,slots:=#[] }
 el:ElemsOf (PySem.strKind prog w) es.toList
 bd:es.size < scanBound
 fit:t.fits es.size=true
 led:t.led=!w.params.followText "set-order"
 pl:t.plain=false\/es=#[]
def u9 (es:Array (Int×Value)):List Str:=es.toList.map fun e=>strOf e.2
def TxSet (prog:Program)(w:World)(h:Heap)(a:Addr)(ss:List Str):Prop:=∃ es ep t,TxAt prog w h a es ep t/\u9 es=ss/\ss.Nodup
section
variable {prog:Program}{w:World}{h h':Heap}{a:Addr}{es:Array (Int×Value)}{ep:Nat}{t:SetTable}{ss:List Str}
theorem TxAt.at' (x:TxAt prog w h a es ep t)(k:∀ o,h.get? a=some o->h'.get? a=some o):TxAt prog w h' a es ep t:=⟨k _ x.get,x.el,x.bd,x.fit,x.led,x.pl⟩
theorem TxSet.at' (x:TxSet prog w h a ss)(k:∀ o,h.get? a=some o->h'.get? a=some o):TxSet prog w h' a ss:=let ⟨es,ep,t,y,r⟩:=x;⟨es,ep,t,y.at' k,r⟩
theorem wD {l:List (Int×Value)}(h:ElemsOf (PySem.strKind prog w) l){e:Int×Value}(he:e∈l):∃ tk,e=(hashStr w (strOf e.2),.str (strOf e.2) tk):=by
 obtain⟨⟨k,hk,hh⟩,_⟩:=h e he
 obtain⟨tk,e2⟩:=aiF hk
 obtain⟨e1,v⟩:=e
 simp only at e2 hh
 subst e2
 exact⟨tk,by rw [hh];rfl⟩
theorem oq {k:Str}{v:Value}{x:Str}{tk:Tok}(e:v=.str x tk):(PySem.strKind prog w).is k v=true↔k=x:=by
 subst e
 constructor
 ·intro h
  have h':Value.isStrOf k (.str x tk)=true:=h
  obtain⟨u,e⟩:=aiF h'
  injection e with e
  exact e.symm
 ·intro h
  subst h
  show Value.isStrOf k (.str k tk)=true
  simp [Value.isStrOf]
theorem aaY {l:List (Int×Value)}(h:ElemsOf (PySem.strKind prog w) l)(k:Str):k∈l.map (fun e=>strOf e.2)↔∃ e∈l,(PySem.strKind prog w).is k e.2=true:=by
 rw [ae3]
 constructor
 ·rintro⟨e,he,rfl⟩
  obtain⟨tk,e2⟩:=wD h he
  exact⟨e,he,(oq (by rw [e2];rfl)).mpr rfl⟩
 ·rintro⟨e,he,hk⟩
  obtain⟨tk,e2⟩:=wD h he
  exact⟨e,he,((oq (x:=strOf e.2) (tk:=tk) (by rw [e2];rfl)).mp hk).symm⟩
theorem TxSet.setOf (x:TxSet prog w h a ss):h.SetOf (PySem.strKind prog w) a (fun k=>decide (k∈ss)) ss.length:=by
 obtain⟨es,ep,t,y,e,n⟩:=x
 subst e
 refine⟨_,es,ep,t,y.get,⟨rfl,rfl,rfl⟩,rfl,y.el,fun k=>?_,y.bd,y.fit,by simp [u9]⟩
 rw [agL]
 exact aaY y.el k
theorem TxSet.len (x:TxSet prog w h a ss):ss.length < scanBound:=by
 obtain⟨es,ep,t,y,e,n⟩:=x
 subst e
 simpa [u9] using y.bd
section
variable {A:Around}{E:Value->Shared->Prop}{s:Shared}
theorem iK {g:Bool->Sem Unit}(hg:∀ (b:Bool) (s₁:Shared) (Q':Unit->Shared->Prop),Q' () s₁->wpAny (model prog w) A (g b) Q' E s₁)
 (ho:s.heap.get? a=some { cls:=.type "set",dict:=none,data:=.set es ep t,slots:=#[] })
 {es1:Array (Int×Value)}{t2:SetTable}(hel1:ElemsOf (PySem.strKind prog w) es1.toList)
 (hb1:es1.size < scanBound)(hf2:t2.fits es1.size=true)(hl2:t2.led=!w.params.followText "set-order")(hp2:t2.plain=false){wasDummy:Bool}{R:Option Bool->Shared->Prop}
 (h:∀ h' es' ep' t',Heap.SameBut a s.heap h'->TxAt prog w h' a es' ep' t'->es'.toList.Perm es1.toList->R (some true) { s with heap:=h' }) :
 wpAny (model prog w) A (do
  storeSet a es1 t2
  if (!wasDummy && t2.tooFull)=true then do
   g (relayAll t2 es1 (SetTable.grown es1.size)).2.2
   storeSet a (relayAll t2 es1 (SetTable.grown es1.size)).1 (relayAll t2 es1 (SetTable.grown es1.size)).2.1
   pure (some true)
   else pure (some true)) R E s:=by
 refine aeE (wpAny_storeSet_of ho rfl ?_ (ah9 hb1))
 have up:∀ {h0:Heap} {es0:Array (Int×Value)} {ep0:Nat} {t0:SetTable} (es':Array (Int×Value)) (t':SetTable),h0.get? a=some { cls:=.type "set",dict:=none,data:=.set es0 ep0 t0,slots:=#[] }->(h0.update a (Obj.putSet es' t')).get? a=some { cls:=.type "set",dict:=none,data:=.set es' (ep0+1) t',slots:=#[] }:=fun es' t' q=>by
  have:=agg (Obj.putSet es' t') q (by rw [putSet_of es' t' rfl];rfl)
  rw [putSet_of es' t' rfl] at this;exact this
 have ho1:=up es1 t2 ho
 have hsb1:=afH s.heap a (Obj.putSet es1 t2)
 split
 ·have hp:=relayAll_perm t2 es1 (SetTable.grown es1.size)
  have hfr:=relayAll_fits t2 es1 (SetTable.grown es1.size)
  have hlr:=rB t2 es1 (SetTable.grown es1.size)
  have hpr:=nW t2 es1 (SetTable.grown es1.size) hp2
  generalize hRl:relayAll t2 es1 (SetTable.grown es1.size)=Rl at hp hfr hlr hpr ⊢
  obtain⟨es2,t3,gave2⟩:=Rl
  dsimp only at hp hfr hlr hpr ⊢
  have hsz:es2.size=es1.size:=by rw [← aeT,hp.length_eq,aeT]
  have hb2:es2.size < scanBound:=by rw [hsz];exact hb1
  refine aeE (hg _ _ _ ?_)
  refine aeE (wpAny_storeSet_of ho1 rfl ?_ (ah9 hb2))
  exact aeK (h _ es2 _ t3 (hsb1.trans (afH _ a _)) ⟨up es2 t3 ho1,hel1.perm hp,hb2,hfr,hlr.trans hl2,.inl hpr⟩ hp)
 ·exact aeK (h _ es1 _ t2 hsb1 ⟨ho1,hel1,hb1,hf2,hl2,.inl hp2⟩ .rfl)
theorem lU {α:Type}{l:List α}{x:α}{l':List α}(hn:l.Nodup)(hx:x ∉ l)(p:l'.Perm (l++[x])):l'.Nodup:=by
 refine p.nodup_iff.mpr ?_
 rw [afX]
 refine⟨hn,by simp,fun a ha b hb e=>?_⟩
 rw [aeF.mp hb] at e
 exact hx (e▸ha)
theorem iP {x:Str}{tk:Tok}{Q:Bool->Shared->Prop}(hS:TxSet prog w s.heap a ss)(hroom:ss.length+1 < scanBound)
 (h:∀ h' ss',Heap.SameBut a s.heap h'->TxSet prog w h' a ss'->((x∈ss/\ss'=ss)\/(x ∉ ss/\ss'.Perm (ss++[x])))->Q (!decide (x∈ss)) { s with heap:=h' }) :
 wpAny (model prog w) A (setAddHashed a (.str x tk) (hashStr w x)) Q E s:=by
 obtain⟨es,ep,t,T,e,nd⟩:=hS
 subst e
 have hkey:(PySem.strKind prog w).is x (.str x tk)=true:=(oq rfl).mpr rfl
 have hsc:(Value.str x tk).scannable=true:=rfl
 have hb1:es.size+1 < scanBound:=by simpa [u9] using hroom
 have hmem:=aaY T.el x
 unfold setAddHashed setAddHashedIn
 refine afD (aeE (ag6 T.get rfl T.fit ?_))
 dsimp only
 rw [byScan_of hsc T.bd T.el]
 simp only [↓reduceIte]
 unfold setAddByScan
 refine aeE ?_
 refine aeE (agD ?_)
 refine aeE (wpAny_setScan_of (knd:=PySem.strKind prog w) hkey T.get rfl T.fit T.el ?_)
 cases hr:List.findIdx? (fun e=>(PySem.strKind prog w).is x e.2) es.toList with
 | some j =>
  dsimp only
  obtain⟨hj,hpj,_⟩:=List.findIdx?_eq_some_iff_getElem.mp hr
  have hx:x∈u9 es:=hmem.mpr ⟨es.toList[j],afa hj,hpj⟩
  refine aeK (aeK ?_)
  have q:=h s.heap (u9 es) (aji a s.heap) ⟨es,ep,t,T,rfl,nd⟩ (.inl ⟨hx,rfl⟩)
  rw [afi hx] at q
  exact q
 | none =>
  dsimp only
  have hx:x ∉ u9 es:=fun hk=>by
   obtain⟨e,he,hp⟩:=hmem.mp hk
   have:=List.findIdx?_eq_none_iff.mp hr e he
   rw [hp] at this;exact Bool.noConfusion this
  have hgw:∀ (b:Bool) {s₁:Shared} {Q':Unit->Shared->Prop},Q' () s₁->wpAny (model prog w) A (match b with | true=>rule "set.scan.the-table-gave-way" | false=>pure ()) Q' E s₁ :=
   fun b s₁ Q' hq=>by cases b<;>first | exact aeK hq | exact agD hq
  have hperm:=layNew_perm t es (hashStr w x) (.str x tk)
  have hfits:=layNew_fits t es (hashStr w x) (.str x tk)
  have hled:=vQ t es (hashStr w x) (.str x tk)
  generalize hL:layNew t es ((PySem.strKind prog w).hash x) (.str x tk)=L
  have hL':layNew t es (hashStr w x) (.str x tk)=L:=hL
  rw [hL'] at hperm hfits hled ⊢
  obtain⟨es1,t1,wasDummy,gave⟩:=L
  dsimp only at hperm hfits hled ⊢
  rw [ah8] at hperm
  have hel1:ElemsOf (PySem.strKind prog w) es1.toList:=(T.el.push hkey hsc).perm hperm
  have hb1':es1.size < scanBound:=by rw [← aeT,hperm.length_eq,aeG,aeT];simpa using hb1
  refine aeE (hgw _ ?_)
  have hend:∀ h' es' ep' t',Heap.SameBut a s.heap h'->TxAt prog w h' a es' ep' t'->es'.toList.Perm es1.toList->Q true { s with heap:=h' }:=by
   intro h' es' ep' t' hsb T' p'
   have p2:(u9 es').Perm (u9 es++[x]):=by
    have:=(p'.trans hperm).map (fun e=>strOf e.2)
    simpa [u9,strOf] using this
   have q:=h h' (u9 es') hsb ⟨es',ep',t',T',rfl,lU nd hx p2⟩ (.inr ⟨hx,p2⟩)
   rw [afq hx] at q
   exact q
  split
  ·refine aeE ?_
   rw [hashByValue_scannable 8 hsc]
   refine aeK ?_
   refine iK ?_ T.get hel1 hb1' ?_ ?_ ?_ ?_
   ·intro b s₁ Q' hq;cases b<;>first | exact aeK hq | exact agD hq
   ·exact SetTable.fits_plain_off hfits
   ·exact hled.trans T.led
   ·rfl
   ·intro h' es' ep' t' hsb T' p';dsimp only;exact aeK (hend h' es' ep' t' hsb T' p')
  ·rename_i hpl
   refine aeE (aeK ?_)
   simp only [↓reduceIte]
   refine iK ?_ T.get hel1 hb1' hfits (hled.trans T.led) (by simpa using hpl) ?_
   ·intro b s₁ Q' hq;cases b<;>first | exact aeK hq | exact agD hq
   ·intro h' es' ep' t' hsb T' p';dsimp only;exact aeK (hend h' es' ep' t' hsb T' p')
end
end
theorem nQ:entryFor table "set.__iter__" = some Builtin.«frozenset.__iter__» :=
 entryFor_alias (id' := "frozenset.__iter__") (by kernel_rfl) rfl (by decide +kernel) (by kernel_rfl)
theorem slot_si_next:Slot "set_iterator" "__next__" "set_iterator.__next__" :=
 .of (owner := "set_iterator") (n := "__next__") (by rw [typeLookup_type,builtinLookup_eq_fast];kernel_rfl) (by decide +kernel) (by decide +kernel) (by decide +kernel)
  (by first | exact .inl (by decide +kernel) | exact .inr (by decide +kernel)) (by rw [isSubtype_type];kernel_rfl)
theorem oY:entryFor table "set_iterator.__next__" = some Builtin.«set_iterator.__next__»:=entryFor_of_tree (by kernel_rfl)
theorem uT:Manifest.owners.lookup (String.ofList ['r','o','t','a','r','e','t','i','_','t','e','s'].reverse)=some Manifest.sig_set_iterator:=by kernel_rfl
theorem qc (a:Value):argsOk "set_iterator.__next__" ⟨[a],[]⟩:=by
 unfold argsOk;rw [signature?_of (id := "set_iterator.__next__") (n:=['_','_','t','x','e','n','_','_']) (o:=['r','o','t','a','r','e','t','i','_','t','e','s']) (by kernel_rfl) uT];kernel_rfl
theorem j8:Slot "set_iterator" "__iter__" "set_iterator.__iter__" :=
 .of (owner := "set_iterator") (n := "__iter__") (by rw [typeLookup_type,builtinLookup_eq_fast];kernel_rfl) (by decide +kernel) (by decide +kernel) (by decide +kernel)
  (by first | exact .inl (by decide +kernel) | exact .inr (by decide +kernel)) (by rw [isSubtype_type];kernel_rfl)
theorem pX:entryFor table "set_iterator.__iter__" = some Builtin.«dict_keyiterator.__iter__» :=
 entryFor_alias (id' := "dict_keyiterator.__iter__") (by kernel_rfl) rfl (by decide +kernel) (by kernel_rfl)
theorem qM (a:Value):argsOk "set_iterator.__iter__" ⟨[a],[]⟩:=by
 unfold argsOk;rw [signature?_of (id := "set_iterator.__iter__") (n:=['_','_','r','e','t','i','_','_']) (o:=['r','o','t','a','r','e','t','i','_','t','e','s']) (by kernel_rfl) uT];kernel_rfl
def SIter (h:Heap)(it a:Addr)(first:Value)(i n ep:Nat):Prop :=
 ∃ o,h.get? it=some o/\o.cls=.type "set_iterator" ∧ o.data=.fields #[first,.int i 0,.ref a,.int n 0,.int ep 0]
theorem SIter.typeIs {s:Shared}{it a:Addr}{first:Value}{i n ep:Nat}(x:SIter s.heap it a first i n ep):s.TypeIs (.ref it) "set_iterator" := let ⟨o,ho,hc,_⟩:=x;⟨o,ho,hc⟩
theorem SIter.at' {h h':Heap}{it a:Addr}{first:Value}{i n ep:Nat}(x:SIter h it a first i n ep)(k:∀ o,h.get? it=some o->h'.get? it=some o):SIter h' it a first i n ep:=let ⟨o,ho,r⟩:=x;⟨o,k _ ho,r⟩
section
variable {prog:Program}{w:World}{A:Around}{E:Value->Shared->Prop}{s:Shared}{a I:Addr}{es:Array (Int×Value)}{ep:Nat}{t:SetTable}
def cq (w:World)(es:Array (Int×Value))(t:SetTable)(T:Addr)(i:Nat):Value :=
 if w.params.followText "set-order" = true then .int 0 0 else if es.size > 1 then .ref T else if i=0 then .int 0 0 else .int ((t.place.getD 0 0+1:Nat):Int) 0
def gk (w:World)(a:Addr)(es:Array (Int×Value))(ep:Nat)(ps:List Nat):List (Int×Value) :=
 if w.params.followText "set-order" = true then (pickOrder (w.params.setOrder a ep) es).toList else if es.size > 1 then ps.filterMap fun p=>es[p]? else es.toList
structure SSt (prog:Program)(w:World)(a I T:Addr)(es:Array (Int×Value))(ep:Nat)(t:SetTable)(ps:List Nat)(i:Nat)(h:Heap):Prop where
 set:TxAt prog w h a es ep t
 it:SIter h I a (cq w es t T i) i es.size ep
 tup:w.params.followText "set-order" = false->es.size > 1->IsTup h T (ps.map fun (p:Nat)=>Value.int p 0).toArray
theorem jV (es:Array (Int×Value)){ps:List Nat}(h:ps.Perm (List.range es.size)):(ps.filterMap fun p=>es[p]?).Perm es.toList:=by
 have:=h.filterMap fun p=>es[p]?
 rwa [filterMap_getElem?_range] at this
theorem jZ (es:Array (Int×Value)):∀ (ps:List Nat),(∀ p∈ps,p < es.size)->∀ i:Nat,(ps.filterMap fun p=>es[p]?)[i]? = (ps[i]?).bind fun p=>es[p]?
 | [],_,i=>by simp
 | p::r,h,i=>by
  have hp:p < es.size:=h p aeQ
  rw [List.filterMap_cons_some (b:=es[p]) (by simp [hp])]
  cases i with
  | zero=>simp [hp]
  | succ i =>
   rw [ahV,ahV]
   exact jZ es r (fun q hq=>h q (aeV _ hq)) i
theorem xa (j k:Nat)(hk:k<=j):SetTable.below #[j] k=0:=by
 unfold SetTable.below
 simp only [aeU,afd,ahs,aij]
 unfold SetTable.below.go
 rw [if_pos (by decide:0 < 1)]
 simp only
 have:(0+1) / 2=0:=by decide
 rw [this]
 have e:(#[j]:Array Nat).getD 0 k=j:=rfl
 rw [e,if_neg (by omega)]
 rfl
theorem wq (j:Nat):SetTable.below #[j] (j+1)=1:=by
 unfold SetTable.below
 simp only [aeU,afd,ahs,aij]
 unfold SetTable.below.go
 rw [if_pos (by decide:0 < 1)]
 simp only
 have:(0+1) / 2=0:=by decide
 rw [this]
 have e:(#[j]:Array Nat).getD 0 (j+1)=j:=rfl
 rw [e,if_pos (by omega)]
 rfl
theorem wQ (k:Nat):SetTable.below #[] k=0:=rfl
theorem z4 {Q:Option Value->Shared->Prop}{s₁:Shared}(hh:A.handled=none)(hQ:∀ h',(∀ b o,s₁.heap.get? b=some o->h'.get? b=some o)->Q none { s₁ with heap:=h' }) :
 wpAny (model prog w) A.in1 (do raiseNew (← newExc (.type "StopIteration") [])) (fun fin s'=>∃ r,fin=Fin.done (.ret r)/\wpAny (model prog w) A (match Except.ok (ε:=Value) (some r) with | .ok (some v)=>pure (some v) | .ok none=>unsupported "x" | .error e=>throw e) Q E s')
  (fun e s'=>wpAny (model prog w) A (do if ← isInstance e (.type "StopIteration") then pure none else throw e) Q E s') s₁:=by
 refine aeE ?_
 simp only [newExc,newTuple]
 refine aeE (afM ?_ (by size_fits))
 refine aeE (m:=firstArgMember _ _) (ajy (a:=Value.none) (by first | rfl | (simp only [firstArgMember];rfl)) ?_)
 refine afM ?_ (by size_fits)
 simp only [raiseNew]
 refine aeE (wpAny_handled ?_)
 rw [show A.in1.handled=none from hh]
 refine aeE (aeK (wpAny_throw ?_))
 refine aeE (ajH (T := "StopIteration") (b:=true) ⟨_,aeY _ rfl,rfl⟩ isSubtype_stop ?_)
 exact aeK (hQ _ fun b o e=>aeH _ (aeH _ e))
end
def g9 (es:Array (Int×Value))(t:SetTable)(slot:Nat):Option (Value×Nat) :=
 match es[SetTable.below t.place slot]?,t.place[SetTable.below t.place slot]? with
  | some (_,x),some j=>some (x,j+1)
  | _,_=>none
def abi (b:Bool):Sem Unit:=do
 if b then unsupported "set:maker-not-led"
theorem tL (a:Addr):setDrawn a=(do
 let (es,_,t) ← setState a
 let byText ← setsByText
 return !byText && (!t.plain && decide (es.size > 1))):=rfl
theorem vw (a:Addr):setWalk a=(do
 let (es,epoch,t) ← setState a
 if ← setsByText then return pickOrder ((← ask).params.setOrder a epoch) es
 if (!t.plain && decide (es.size > 1)) then return (← drawOrder es.size es.toList).toArray
 abi (!t.led && decide (es.size > 1)) >>= fun _=>pure es):=rfl
theorem oM (a:Addr)(slot given epochThen:Nat):setNext a slot given epochThen=(do
 let (es,epoch,t) ← setState a
 if ← setsByText then
  if epoch != epochThen then unsupported "set_iterator.__next__:elements-changed"
  return ((← setWalk a)[given]?).map fun e=>(e.2,slot)
 if (!t.plain && decide (es.size > 1)) then unsupported "set_iterator.__next__:the-table-is-plain-no-more"
 abi (!t.led && !es.isEmpty) >>= fun _=>pure (g9 es t slot)):=rfl
section
variable {prog:Program}{w:World}{A:Around}{E:Value->Shared->Prop}{s:Shared}{a I T:Addr}{es:Array (Int×Value)}{ep:Nat}{t:SetTable}{ps:List Nat}
theorem dM {Q:Bool->Shared->Prop}(h:Q (w.params.followText "set-order") s):wpAny (model prog w) A setsByText Q E s:=by
 unfold setsByText
 exact aeE (ahf (aeK h))
theorem sS {Q:Bool->Shared->Prop}(x:TxAt prog w s.heap a es ep t)(h:Q (!w.params.followText "set-order" && decide (es.size > 1)) s):wpAny (model prog w) A (setDrawn a) Q E s:=by
 rw [tL]
 refine aeE (ag6 x.get rfl x.fit ?_)
 dsimp only
 refine aeE (dM (aeK ?_))
 have e:(!t.plain && decide (es.size > 1))=decide (es.size > 1):=by
  rcases x.pl with q | q
  ·rw [q];rfl
  ·subst q;simp
 rw [e]
 exact h
theorem qO {Q:Array (Int×Value)->Shared->Prop}(x:TxAt prog w s.heap a es ep t)(ht:w.params.followText "set-order" = true)(h:Q (pickOrder (w.params.setOrder a ep) es) s):wpAny (model prog w) A (setWalk a) Q E s:=by
 rw [vw]
 refine aeE (ag6 x.get rfl x.fit ?_)
 dsimp only
 refine aeE (dM ?_)
 rw [ht]
 simp only [ahl]
 exact aeE (ahf (aeK h))
theorem ku {Q:Option (Value×Nat)->Shared->Prop}{given:Nat}(x:TxAt prog w s.heap a es ep t)(ht:w.params.followText "set-order" = true)(h:Q (((pickOrder (w.params.setOrder a ep) es)[given]?).map fun e=>(e.2,0)) s) :
 wpAny (model prog w) A (setNext a 0 given ep) Q E s:=by
 rw [oM]
 refine aeE (ag6 x.get rfl x.fit ?_)
 dsimp only
 refine aeE (dM ?_)
 rw [ht]
 simp only [ahl,ag7,afj,agl]
 refine aeE (qO x ht (aeK h))
theorem i7 {Q:Option (Value×Nat)->Shared->Prop}{slot given:Nat}(x:TxAt prog w s.heap a es ep t)(ht:w.params.followText "set-order" = false)(hs:¬ es.size > 1)
 (h:Q (g9 es t slot) s) :
 wpAny (model prog w) A (setNext a slot given ep) Q E s:=by
 rw [oM]
 refine aeE (ag6 x.get rfl x.fit ?_)
 dsimp only
 refine aeE (dM ?_)
 have hl:t.led=true:=by rw [x.led,ht];rfl
 rw [ht]
 simp only [afj,agl,afq hs,Bool.and_false,hl,Bool.not_true,Bool.false_and,abi]
 exact aeE (aeK (aeK h))
theorem rK (x:TxAt prog w s.heap a es ep t)(hs:¬ es.size > 1):(es=#[]/\t.place=#[])\/∃ e j,es=#[e]/\t.place=#[j]:=by
 have hp:t.place.size=es.size:=by
  have:=x.fit
  simp only [SetTable.fits,af3,afe] at this
  exact this.1
 by_cases h0:es.size=0
 ·exact .inl ⟨ajT.mp h0,ajT.mp (by omega)⟩
 ·have h1:es.size=1:=by omega
  obtain⟨e,he⟩:=aj3.mp h1
  obtain⟨j,hj⟩:=aj3.mp (hp.trans h1)
  exact .inr ⟨e,j,he,hj⟩
theorem jP (hps:ps.Perm (List.range es.size)):(gk w a es ep ps).Perm es.toList:=by
 unfold gk
 split
 ·exact iM _ _
 ·split
  ·exact jV es hps
  ·exact .rfl
end
section
variable {prog:Program}{w:World}{A:Around}{E:Value->Shared->Prop}{s:Shared}{a I T:Addr}{es:Array (Int×Value)}{ep:Nat}{t:SetTable}{ps:List Nat}{i:Nat}
theorem rV {f x:Value}{n:Nat}{Q:Unit->Shared->Prop}(hit:SIter s.heap I a f i n ep)(h:∀ h',SIter h' I a x i n ep->Heap.SameBut I s.heap h'->Q () { s with heap:=h' }):wpAny (model prog w) A (setField (.ref I) 0 x) Q E s:=by
 obtain⟨o,ho,hc,hd⟩:=hit
 refine aid ho hd (by simp) (h _ ⟨_,agg _ ho (Obj.isFreed_of_fields (ahp hd _)),(ajj ..).trans hc,by rw [ahp hd];simp⟩ (afH ..))
theorem xk {f:Value}{n:Nat}{Q:Unit->Shared->Prop}(hit:SIter s.heap I a f i n ep)(h:∀ h',SIter h' I a f (i+1) n ep->Heap.SameBut I s.heap h'->Q () { s with heap:=h' }):wpAny (model prog w) A (setField (.ref I) 1 (rawInt ((i:Int)+1))) Q E s:=by
 obtain⟨o,ho,hc,hd⟩:=hit
 refine aid ho hd (by simp) (h _ ⟨_,agg _ ho (Obj.isFreed_of_fields (ahp hd _)),(ajj ..).trans hc,by rw [ahp hd];simp [rawInt]⟩ (afH ..))
theorem p5 {f:Value}{n:Nat}{Q:Unit->Shared->Prop}(hit:SIter s.heap I a f i n ep)(h:∀ h',Heap.SameBut I s.heap h'->Q () { s with heap:=h' }):wpAny (model prog w) A (setField (.ref I) 2 .none) Q E s:=by
 obtain⟨o,ho,hc,hd⟩:=hit
 exact aid ho hd (by simp) (h _ (afH ..))
theorem SSt.next {s':Heap}(hit:SSt prog w a I T es ep t ps i s')(hI:a≠I)(hT:T≠I)(i':Nat){h':Heap}(he:SIter h' I a (cq w es t T i') i' es.size ep)(k:∀ b o,b≠I->s'.get? b=some o->h'.get? b=some o):SSt prog w a I T es ep t ps i' h' :=
 ⟨hit.set.at' fun o e=>k a o hI e,he,fun h1 h2=>by
  obtain⟨o,e,c⟩:=hit.tup h1 h2
  exact⟨o,k T o hT e,c⟩⟩
theorem qC {Q:Option Value->Shared->Prop}(hst:SSt prog w a I T es ep t ps i s.heap)
 (h:wpAny (model prog w) A.in1 (match cq w es t T i with
 | Value.int slot tok=>do
  match ← setNext a slot.toNat (i:Int).toNat (ep:Int).toNat with
   | some (x,next)=>do
    setField (Value.ref I) 0 (rawInt (next:Nat))
    setField (Value.ref I) 1 (rawInt ((i:Int)+1))
    ret x
   | none=>do
    setField (Value.ref I) 2 Value.none
    raiseNew (← newExc (Value.type "StopIteration") [])
 | _=>do
  let some places ← seqItems? (cq w es t T i) | unsupported "internal:set_iterator"
  match places[(i:Int).toNat]? with
   | some (Value.int place tok)=>do
    let x ← setNextDrawn a place.toNat (ep:Int).toNat
    setField (Value.ref I) 1 (rawInt ((i:Int)+1))
    ret x
   | some _=>unsupported "internal:set_iterator"
   | none=>do
    setField (Value.ref I) 0 (rawInt 0)
    setField (Value.ref I) 2 Value.none
    raiseNew (← newExc (Value.type "StopIteration") []))
 (fun fin s'=>∃ v,fin=Fin.done (Flow.ret v)/\wpAny (model prog w) A (pure (some v)) Q E s')
 (fun e s' =>
  wpAny (model prog w) A
   (do
    if ← isInstance e (Value.type "StopIteration") then pure none else throw e)
   Q E s')
 s):wpAny (model prog w) A (pyNext (.ref I)) Q E s:=by
 obtain⟨o,ho,hc,hd⟩:=id hst.it
 obtain⟨oc,odict,odata,oslots⟩:=o
 simp only at hc hd
 subst hc hd
 unfold pyNext
 refine aeE (aiA (wpAny_callSpecial?_slot (name:=Str.ofString "__next__") hst.it.typeIs slot_si_next
  (af4 slot_si_next hst.it.typeIs oY ?_ (qc _))))
 unfold Builtin.«set_iterator.__next__»
 refine aeE (aeK ?_)
 refine aeE (wpAny_fieldsOf ho rfl ?_)
 dsimp only
 refine aeE (wpAny_setEntries_of hst.set.get rfl hst.set.fit ?_)
 simp only [ag7,afj,agl]
 exact h
theorem nr {Q:Value->Shared->Prop}{p:Nat}{e:Int×Value}(x:TxAt prog w s.heap a es ep t)(hp:es[p]? = some e)(h:Q e.2 s):wpAny (model prog w) A (setNextDrawn a p ep) Q E s:=by
 unfold setNextDrawn
 refine aeE (ag6 x.get rfl x.fit ?_)
 simp only [ag7,afj,agl,hp]
 exact aeK h
theorem mj {h h':Heap}(x:Heap.SameBut I h h'):∀ b o,b≠I->h.get? b=some o->h'.get? b=some o:=fun b o hb e=>(x.2 b hb).trans e
theorem pd {Q:Option Value->Shared->Prop}(hst:SSt prog w a I T es ep t ps i s.heap)(hps:ps.Perm (List.range es.size))(hI:a≠I)(hT:T≠I)(hi:i < es.size)
 (hQ:∀ v h' tk,(gk w a es ep ps)[i]?.map (·.2)=some v->SSt prog w a I T es ep t ps (i+1) h'->(∀ b o,b≠I->s.heap.get? b=some o->h'.get? b=some o)->Q (some v) { s with heap:=h',toks:=tk }) :
 wpAny (model prog w) A (pyNext (.ref I)) Q E s:=by
 refine qC hst ?_
 have ol:(gk w a es ep ps).length=es.size:=by rw [(jP (w:=w) (a:=a) (ep:=ep) hps).length_eq,aeT]
 obtain⟨e,he⟩:∃ e,(gk w a es ep ps)[i]? = some e:=⟨_,aeC (by omega)⟩
 have hit:=hst.it
 rw [afh,afh]
 cases hb:w.params.followText "set-order" with
 | true =>
  have ef:∀ j,cq w es t T j=.int 0 0:=fun j=>by unfold cq;rw [if_pos hb]
  rw [ef i] at hit ⊢
  dsimp only
  rw [ai7]
  refine aeE (ku hst.set hb ?_)
  have e2:(pickOrder (w.params.setOrder a ep) es)[i]? = some e:=by
   unfold gk at he
   rw [if_pos hb,afo] at he
   exact he
  rw [e2]
  dsimp only [Option.map]
  refine aeE (rV (x:=.int 0 0) hit fun h1 it1 k1=>?_)
  refine aeE (xk it1 fun h2 it2 k2=>?_)
  have k12:=(k1.trans k2)
  exact aeK ⟨_,rfl,aeK (hQ e.2 h2 s.toks (by rw [he];rfl) (hst.next hI hT (i+1) (by rw [ef];exact it2) (mj k12)) (mj k12))⟩
 | false =>
  by_cases hs:es.size > 1
  ·have ef:∀ j,cq w es t T j=.ref T:=fun j=>by unfold cq;rw [if_neg (by rw [hb];exact aeM),if_pos hs]
   rw [ef i] at hit ⊢
   dsimp only
   obtain⟨oT,hoT,hcT,nT,hdT⟩:=hst.tup hb hs
   have hlt:i < ps.length:=by rw [hps.length_eq,afs];exact hi
   refine aeE (wpAny_seqItems hoT hdT ?_)
   dsimp only
   have e1:(ps.map fun (p:Nat)=>Value.int p 0).toArray[i]? = some (.int ps[i] 0):=by simp [hlt]
   rw [e1]
   dsimp only
   rw [afh]
   have pl:∀ p∈ps,p < es.size:=fun p hp=>afT.mp (hps.mem_iff.mp hp)
   have e2:es[ps[i]]? = some e:=by
    unfold gk at he
    rw [if_neg (by rw [hb];exact aeM),if_pos hs,jZ es ps pl i,aeC hlt] at he
    exact he
   refine aeE (nr hst.set e2 ?_)
   refine aeE (xk hit fun h2 it2 k2=>?_)
   exact aeK ⟨_,rfl,aeK (hQ e.2 h2 s.toks (by rw [he];rfl) (hst.next hI hT (i+1) (by rw [ef];exact it2) (mj k2)) (mj k2))⟩
  ·rcases rK hst.set hs with ⟨e0,_⟩ | ⟨e0,j,ee,ej⟩
   ·subst e0;simp at hi
   have i0:i=0:=by rw [ee] at hi;simp at hi;exact hi
   subst i0
   have ef0:cq w es t T 0=.int 0 0:=by unfold cq;rw [if_neg (by rw [hb];exact aeM),if_neg hs,if_pos rfl]
   have ef1:cq w es t T 1=.int ((j+1:Nat):Int) 0:=by unfold cq;rw [if_neg (by rw [hb];exact aeM),if_neg hs,if_neg (by decide),ej];rfl
   rw [ef0] at hit ⊢
   dsimp only
   rw [ai7]
   refine aeE (i7 hst.set hb hs ?_)
   have e2:e=e0:=by
    unfold gk at he
    rw [if_neg (by rw [hb];exact aeM),if_neg hs,ee] at he
    simpa using he.symm
   have em:g9 es t 0=some (e0.2,j+1):=by
    unfold g9
    rw [ej,xa j 0 (ae2 _),ee];rfl
   rw [em]
   dsimp only
   refine aeE (rV (x:=.int ((j+1:Nat):Int) 0) hit fun h1 it1 k1=>?_)
   refine aeE (xk it1 fun h2 it2 k2=>?_)
   have k12:=(k1.trans k2)
   exact aeK ⟨_,rfl,aeK (hQ e0.2 h2 s.toks (by rw [he,e2];rfl) (hst.next hI hT 1 (by rw [ef1];exact it2) (mj k12)) (mj k12))⟩
theorem pR {Q:Option Value->Shared->Prop}(hh:A.handled=none)(hst:SSt prog w a I T es ep t ps es.size s.heap)(hps:ps.Perm (List.range es.size))
 (hQ:∀ h' tk,(∀ b o,b≠I->s.heap.get? b=some o->h'.get? b=some o)->Q none { s with heap:=h',toks:=tk }) :
 wpAny (model prog w) A (pyNext (.ref I)) Q E s:=by
 refine qC hst ?_
 have hit:=hst.it
 have fin:∀ {h1:Heap},Heap.SameBut I s.heap h1->wpAny (model prog w) A.in1 (do raiseNew (← newExc (.type "StopIteration") [])) (fun fin s'=>∃ v,fin=Fin.done (Flow.ret v)/\wpAny (model prog w) A (pure (some v)) Q E s')
  (fun e s'=>wpAny (model prog w) A (do if ← isInstance e (Value.type "StopIteration") then pure none else throw e) Q E s') { s with heap:=h1 }:=fun {h1} k1 =>
  z4 (s₁:={ s with heap:=h1 }) hh fun h' k=>hQ h' s.toks fun b o hb e=>k b o (mj k1 b o hb e)
 rw [afh,afh]
 cases hb:w.params.followText "set-order" with
 | true =>
  have ef:∀ j,cq w es t T j=.int 0 0:=fun j=>by unfold cq;rw [if_pos hb]
  rw [ef] at hit ⊢
  dsimp only
  rw [ai7]
  refine aeE (ku hst.set hb ?_)
  have e2:(pickOrder (w.params.setOrder a ep) es)[es.size]? = none:=by
   have:=(iM (w.params.setOrder a ep) es).length_eq
   rw [aeT,aeT] at this
   exact ah6 (by omega)
  rw [e2]
  dsimp only [Option.map]
  exact aeE (p5 hit fun h1 k1=>fin k1)
 | false =>
  by_cases hs:es.size > 1
  ·have ef:∀ j,cq w es t T j=.ref T:=fun j=>by unfold cq;rw [if_neg (by rw [hb];exact aeM),if_pos hs]
   rw [ef] at hit ⊢
   dsimp only
   obtain⟨oT,hoT,hcT,nT,hdT⟩:=hst.tup hb hs
   refine aeE (wpAny_seqItems hoT hdT ?_)
   dsimp only
   have e1:(ps.map fun (p:Nat)=>Value.int p 0).toArray[es.size]? = none:=by
    have:=hps.length_eq
    rw [afs] at this
    simp [this]
   rw [e1]
   dsimp only
   refine aeE (rV (x:=.int 0 0) hit fun h1 it1 k1=>?_)
   exact aeE (p5 it1 fun h2 k2=>fin (k1.trans k2))
  ·rcases rK hst.set hs with ⟨ee,ej⟩ | ⟨e0,j,ee,ej⟩
   ·have ef0:cq w es t T es.size=.int 0 0:=by unfold cq;rw [if_neg (by rw [hb];exact aeM),if_neg hs,ee,if_pos (by simp)]
    rw [ef0] at hit ⊢
    dsimp only
    rw [ai7]
    refine aeE (i7 hst.set hb hs ?_)
    have em:g9 es t 0=none:=by
     unfold g9
     rw [ej,wQ,ee];rfl
    rw [em]
    dsimp only
    exact aeE (p5 hit fun h1 k1=>fin k1)
   ·have ef1:cq w es t T es.size=.int ((j+1:Nat):Int) 0:=by unfold cq;rw [if_neg (by rw [hb];exact aeM),if_neg hs,ee,if_neg (by simp),ej];rfl
    rw [ef1] at hit ⊢
    dsimp only
    rw [afh]
    refine aeE (i7 hst.set hb hs ?_)
    have em:g9 es t (j+1)=none:=by
     unfold g9
     rw [ej,wq,ee];rfl
    rw [em]
    dsimp only
    exact aeE (p5 hit fun h1 k1=>fin k1)
theorem abN {Q:Value->Shared->Prop}{f:Value}{n:Nat}(hit:SIter s.heap I a f i n ep)(h:Q (.ref I) s):wpAny (model prog w) A (pyIter (.ref I)) Q E s:=by
 refine ajk hit.typeIs j8 (af4 j8 hit.typeIs pX ?_ (qM _))
 show wpAny _ _ (ret (.ref I)) _ _ s
 exact aeK ⟨_,rfl,"set_iterator",_,hit.typeIs,slot_si_next.lookup,h⟩
theorem Walks.set (hh:A.handled=none)(hI:a≠I)(hT:T≠I)(hps:ps.Perm (List.range es.size)) :
 Walks prog w A I [I,a,T] [I] es.size (fun i v=>(gk w a es ep ps)[i]?.map (·.2)=some v) (fun i h=>SSt prog w a I T es ep t ps i h) where
 sub:=fun b hb=>by simp at hb;simp [hb]
 frame:=fun i h h' st hk=>⟨st.set.at' fun o e=>hk a (by simp) o e,st.it.at' fun o e=>hk I (by simp) o e,fun h1 h2=>let ⟨o,e,c⟩:=st.tup h1 h2;⟨o,hk T (by simp) o e,c⟩⟩
 item:=fun i s Q E hi st hQ=>pd st hps hI hT hi fun v h' tk e st' k=>hQ v h' tk e st' fun b o hb q=>k b o (fun z=>hb (by simp [z])) q
 done:=fun s Q E st hQ=>pR hh st hps fun h' tk k=>hQ h' tk fun b o hb q=>k b o (fun z=>hb (by simp [z])) q
 self:=fun i s Q E st hQ=>abN st.it hQ
theorem vK {Q:Value->Shared->Prop}(x:TxAt prog w s.heap a es ep t)
 (h:∀ (I T:Addr) (ps:List Nat) (h':Heap) (d:Drawn),ps.Perm (List.range es.size)->a≠I->T≠I->s.heap.objs.size<=I->(T=a\/s.heap.objs.size<=T)->I < h'.objs.size->T < h'.objs.size->SSt prog w a I T es ep t ps 0 h'->(∀ b o,s.heap.get? b=some o->h'.get? b=some o)->Q (.ref I) { s with heap:=h',drawn:=d }) :
 wpAny (model prog w) A (pyIter (.ref a)) Q E s:=by
 have hT:s.TypeIs (.ref a) "set" := ⟨_,x.get,rfl⟩
 have hlt:a < s.heap.objs.size:=aeR x.get
 refine ajk hT F.slot_set_iter (af4 F.slot_set_iter hT nQ ?_ (F.args_set_iter_1 _))
 unfold Builtin.«frozenset.__iter__» Builtin.Frozenset.slot0 slotArgs
 simp only [List.isEmpty_nil,Bool.not_true,afj,↓reduceIte,bind_assoc,ahs,ag7]
 unfold Builtin.Frozenset.addrOf Builtin.Frozenset.sizeOf
 refine aeE (aeK ?_)
 try dsimp only
 refine aeE (aeK ?_)
 refine aeE (aeE (wpAny_setEntries_of x.get rfl x.fit (aeK ?_)))
 refine aeE (sS x ?_)
 have fin:∀ (T:Addr) (ps:List Nat) (h1:Heap) (d:Drawn),ps.Perm (List.range es.size)->(T=a\/s.heap.objs.size<=T)->T < h1.objs.size->(∀ b o,s.heap.get? b=some o->h1.get? b=some o)->s.heap.objs.size<=h1.objs.size →
  (w.params.followText "set-order" = false->es.size > 1->IsTup h1 T (ps.map fun (p:Nat)=>Value.int p 0).toArray) →
  wpAny (model prog w) A.in1 (do
   let r ← newFields "set_iterator" [cq w es t T 0,rawInt 0,Value.ref a,rawInt (es.size:Nat),rawInt (ep:Nat)]
   ret r) (fun fin s'=>∃ v,fin=Fin.done (Flow.ret v)/\∃ T' r,s'.TypeIs v T'/\typeLookup (Value.type T') (Str.ofString "__next__")=pure (some r)/\Q v s') E { s with heap:=h1,drawn:=d }:=fun T ps h1 d hps hTa hTl k hz hp=>by
  refine aeE (afM (aeK ⟨_,rfl,"set_iterator",_,⟨_,aeY _ rfl,rfl⟩,slot_si_next.lookup,?_⟩))
  have k2:∀ b o,h1.get? b=some o->(h1.push { cls:=.type "set_iterator",data:=.fields #[cq w es t T 0,rawInt 0,Value.ref a,rawInt (es.size:Nat),rawInt (ep:Nat)] }).get? b=some o:=fun b o e=>aeH _ e
  refine h h1.objs.size T ps (h1.push { cls:=.type "set_iterator",data:=.fields #[cq w es t T 0,rawInt 0,Value.ref a,rawInt (es.size:Nat),rawInt (ep:Nat)] }) d hps (ae4 (ae1 hlt hz)) (ae4 hTl) hz hTa (by rw [agn];exact ajI _) (by rw [agn];exact af7 hTl) ⟨x.at' fun o e=>k2 _ _ (k _ _ e),⟨_,aeY _ rfl,rfl,rfl⟩,fun h1 h2=>?_⟩ fun b o e=>k2 _ _ (k _ _ e)
  obtain⟨o,e,c⟩:=hp h1 h2
  exact⟨o,k2 _ _ e,c⟩
 by_cases hd:w.params.followText "set-order" = false/\es.size > 1
 ·have e1:(!w.params.followText "set-order" && decide (es.size > 1))=true:=by rw [hd.1,afi hd.2];rfl
  rw [e1]
  simp only [ahl]
  refine aeE (ir _ _ _ _ (by simp) fun ys d p=>?_)
  simp only [newTuple]
  have hys:ys.length<=sizeLine:=by rw [p.length_eq,afs];exact ah9 x.bd
  refine aeE (afM ?_ (by show (List.map (fun (i:Nat)=>rawInt i) ys).toArray.size<=sizeLine;simpa using hys))
  refine aeE (wpAny_setEpoch_of (aeH _ x.get) rfl x.fit ?_)
  have ef:cq w es t s.heap.objs.size 0=.ref s.heap.objs.size:=by unfold cq;rw [if_neg (by rw [hd.1];exact aeM),if_pos hd.2]
  have q:=fin s.heap.objs.size ys (s.heap.push { cls:=.type "tuple",data:=.seq (ys.map fun (p:Nat)=>Value.int p 0).toArray }) d p (.inr (aeN _)) (by rw [agn];exact ajI _) (fun b o e=>aeH _ e) (by rw [agn];exact agG _) (fun _ _=>⟨_,aeY _ rfl,rfl,_,rfl⟩)
  rw [ef] at q
  exact q
 ·have e1:(!w.params.followText "set-order" && decide (es.size > 1))=false:=by
   rw [Bool.eq_false_iff]
   intro z
   rw [af3,ahy,agL] at z
   exact hd z
  rw [e1]
  simp only [afj,agl]
  refine aeE (aeK ?_)
  refine aeE (wpAny_setEpoch_of x.get rfl x.fit ?_)
  have ef:cq w es t a 0=rawInt 0:=by
   unfold cq
   split
   ·rfl
   ·split
    ·rename_i q1 q2
     exact absurd ⟨by simpa using q1,q2⟩ hd
    ·rfl
  have q:=fin a (List.range es.size) s.heap s.drawn .rfl (.inl rfl) hlt (fun _ _ e=>e) (aeN _) (fun h1 h2=>absurd ⟨h1,h2⟩ hd)
  rw [ef] at q
  exact q
end
end L2
namespace L2
open PySem PySem.Spec PyProof.Rows PySem.W
section
variable {prog:Program}{w:World}{A:Around}{E:Value->Shared->Prop}{s:Shared}{a I T:Addr}{es:Array (Int×Value)}{ep:Nat}{t:SetTable}{ps:List Nat}{i:Nat}
theorem zG {Q:Bool->Shared->Prop}(hT:s.TypeIs (.ref a) "set")(h:Q false s):wpAny (model prog w) A (Builtin.List.listLengthHint (.ref a)) Q E s:=by
 unfold Builtin.List.listLengthHint
 refine aeE (wpAny_specialOf hT PySem.F.slot_set_len.lookup ?_)
 generalize hid:("set.__len__" : String)=id0
 wp_delta
 rw [show splitId id0=some ("set","__len__") from by subst hid;decide +kernel]
 subst hid
 refine aeE (ajH (T := "set") (b:=true) hT (by rw [isSubtype_type];kernel_rfl) ?_)
 refine aj5 (fun hab=>absurd hab (by decide)) (fun _=>?_)
 refine aj5 (fun _=>?_) (fun hab=>absurd (by decide +kernel) hab)
 refine aeE (wpAny_typeOf hT ?_)
 exact aeK h
theorem vg {R:Result->Shared->Prop}(hh:A.handled=none)(x:TxAt prog w s.heap a es ep t)(S:Addr)(hSa:S≠a)(res:Value)(c₀:Nat)(hS:s.heap.get? S=some { cls:=.type "list",data:=.seq #[] c₀ })
 (hR:∀ h' d tk acc' c' ps,ps.Perm (List.range es.size)->(∀ b o,b≠S->s.heap.get? b=some o->h'.get? b=some o)->h'.get? S=some { cls:=.type "list",dict:=none,data:=.seq acc' c',slots:=#[] }->ItemsOf (fun i v=>(gk w a es ep ps)[i]?.map (·.2)=some v) acc' es.size->R (.ok (.ret res)) { s with heap:=h',drawn:=d,toks:=tk }) :
 wpAny (model prog w) A.in1 (Builtin.List.listExtendWith (.ref S) (.ref a) res)
  (fun fin s'=>match fin with | .done f=>R (.ok f) s' | .again c'=>c'.quiet=true/\codeAny (model prog w) A c' R s') (fun e s'=>R (.error e) s') s:=by
 have hn:es.size<=sizeLine:=ah9 x.bd
 have hSlt:S < s.heap.objs.size:=aeR hS
 unfold Builtin.List.listExtendWith
 refine aeE (wpAny_typeOf (T := "set") ⟨_,x.get,rfl⟩ ?_)
 have h1:Builtin.List.listSameRef (.ref S) (.ref a)=false:=by simp [Builtin.List.listSameRef,hSa]
 have h2:(Value.type "set" == Value.type "list")=false:=by decide
 have h3:(Value.type "set" == Value.type "tuple")=false:=by decide
 simp only [h1,h2,h3,Bool.or_false,afj,agl]
 refine aeE (vK x fun I T ps h1 d hps haI hTI hIs hTs hIl hTl st k1=>?_)
 have hSI:S≠I:=ae4 (ae1 hSlt hIs)
 have hST:S≠T:=by
  rcases hTs with z | z
  ·rw [z];exact hSa
  ·exact ae4 (ae1 hSlt z)
 have hSf:S ∉ [I,a,T]:=by simp only [aeX,af5,aie,not_or];exact⟨hSI,hSa,hST⟩
 have W:Walks prog w A.in1 I [I,a,T] [I] es.size (fun i v=>(gk w a es ep ps)[i]?.map (·.2)=some v) (fun i h=>SSt prog w a I T es ep t ps i h):=Walks.set hh haI hTI hps
 have key:∀ (h:Heap) (c₁ tk:Nat),SSt prog w a I T es ep t ps 0 h->(∀ b o,b≠S->s.heap.get? b=some o->h.get? b=some o) →
  h.get? S=some { cls:=.type "list",data:=.seq #[] c₁ }->codeAny (model prog w) A (.builtin "list.extend.loop" ⟨[.ref S,.ref I,res],[]⟩) R { s with heap:=h,drawn:=d,toks:=tk }:=by
  intro h c₁ tk hst hk hS₁
  refine codeAny_extend_loopS W.toS hn S hSf res es.size 0 _ #[] c₁ rfl (ae2 _) hst hS₁ (ItemsOf.nil _) fun s' acc' c' hm hS' hacc=>?_
  rw [Moved.eq_with hm]
  refine hR s'.heap _ s'.toks acc' c' ps hps (fun b o hb e=>hm.heap b o (fun hmem=>?_) (hk b o hb e)) hS' hacc
  rcases aeX.mp hmem with e' | hmem
  ·exact hb e'
  ·rw [aeF.mp hmem] at e
   exact absurd (ae1 (aeR e) hIs) (agx _)
 have hS₁:=k1 _ _ hS
 refine aeE (afD (zG ⟨_,k1 _ _ x.get,rfl⟩ ?_))
 refine aj5 (fun _=>?_) (fun _=>aeK ⟨ahc ai8 _,key _ c₀ _ st (fun b o _ e=>k1 _ _ e) hS₁⟩)
 refine aeE (agD ?_)
 refine aeE ?_
 show wpAny _ _ (updateSeq S (·.push .none) >>= fun _=>updateSeq S (·.pop)) _ _ _
 refine aeE (wpAny_updateSeq hS₁ rfl ?_)
 have hS₂:=agg (Obj.mapSeq (·.push Value.none)) hS₁ rfl
 refine wpAny_updateSeq (hz:=by seq_fits) hS₂ rfl ?_
 have hS₃:=agg (Obj.mapSeq (·.pop)) hS₂ rfl
 refine aeK ⟨ahc ai8 _,key _ _ _ ?_ (fun b o hb e=>?_) hS₃⟩
 ·refine W.frame 0 _ _ st fun b hb o e=>?_
  have hbS:b≠S:=fun h=>hSf (h▸hb)
  exact (agu _ _ (agz hbS)).trans ((agu _ _ (agz hbS)).trans e)
 ·exact (agu _ _ (agz hb)).trans ((agu _ _ (agz hb)).trans (k1 _ _ e))
theorem r8 {R:List Value->Shared->Prop}(hh:A.handled=none)(x:TxAt prog w s.heap a es ep t)
 (h:∀ (h':Heap) (d:Drawn) (tk:Nat) (acc:List Value),(∀ b o,s.heap.get? b=some o->h'.get? b=some o)->s.heap.objs.size<=h'.objs.size->acc.Perm (es.toList.map (·.2))->R acc { s with heap:=h',drawn:=d,toks:=tk }) :
 wpAny (model prog w) A (collect (.ref a)) R E s:=by
 have hlt:a < s.heap.objs.size:=aeR x.get
 have fin:∀ (acc:Array Value) (ps:List Nat),ps.Perm (List.range es.size)->ItemsOf (fun i v=>(gk w a es ep ps)[i]?.map (·.2)=some v) acc es.size->acc.toList.Perm (es.toList.map (·.2)):=fun acc ps hps ha=>by
  have e:acc.toList=(gk w a es ep ps).map (·.2):=by
   apply agM
   intro i
   rw [aeP]
   cases q:acc.toList[i]? with
   | some v=>exact (ha.2 i v (by rw [← afo];exact q)).symm
   | none =>
    have:=List.getElem?_eq_none_iff.mp q
    rw [aeT,ha.1] at this
    have ol:(gk w a es ep ps).length=es.size:=by rw [(jP (w:=w) (a:=a) (ep:=ep) hps).length_eq,aeT]
    rw [agh (by omega)]
    rfl
  rw [e]
  exact (jP hps).map _
 unfold collect
 refine aeE (ai9 (af1 aiw ?_))
 rw [afR ahu _]
 show wpAny _ A.in1 (newList [] >>= fun l=>again (.builtin "list.__iadd__" ⟨[l,.ref a],[]⟩)) _ _ s
 refine aeE (afM ?_)
 refine aeK ⟨ahc agq _,af1 entry_list_iadd' ?_⟩
 rw [afR agq _]
 have hS₁:(s.heap.push { cls:=.type "list",data:=.seq ([]:List Value).toArray }).get? s.heap.objs.size=some { cls:=.type "list",data:=.seq #[] }:=aeY _ rfl
 show wpAny _ A.in1 (Builtin.List.listExtendWith (.ref s.heap.objs.size) (.ref a) (.ref s.heap.objs.size)) _ _ _
 have key:=vg (A:=A) (s:={ s with heap:=s.heap.push { cls:=.type "list",data:=.seq ([]:List Value).toArray } })
  (R:=fun (q:Result) (s':Shared)=>∃ (h':Heap) (d:Drawn) (tk:Nat) (acc':Array Value) (c':Nat),q=.ok (.ret (.ref s.heap.objs.size))/\s'={ s with heap:=h',drawn:=d,toks:=tk } ∧
   (∀ b o,s.heap.get? b=some o->h'.get? b=some o)/\h'.get? s.heap.objs.size=some { cls:=.type "list",dict:=none,data:=.seq acc' c',slots:=#[] }/\acc'.toList.Perm (es.toList.map (·.2)))
  hh (x.at' fun o e=>aeH _ e) s.heap.objs.size (agV hlt) (.ref s.heap.objs.size) 0 hS₁
  (fun h' d tk acc' c' ps hps hk hS' hacc=>⟨h',d,tk,acc',c',rfl,rfl,fun b o e=>hk b o (ae4 (aeR e)) (aeH _ e),hS',fin _ _ hps hacc⟩)
 refine afu key (fun fin s' x=>?_) fun e s' x=>?_
 ·cases fin with
  | done f =>
   obtain⟨h',d,tk,acc',c',e,rfl,hk,hS',hacc⟩:=x
   cases e
   show wpAny _ A (load s.heap.objs.size >>= _) _ _ _
   refine aeE (aiD hS' ?_)
   exact aeK (h h' d tk acc'.toList hk (afb (aeR hS')) hacc)
  | again c₁ =>
   refine⟨x.1,agX x.2 fun q s₂ y=>?_⟩
   obtain⟨h',d,tk,acc',c',rfl,rfl,hk,hS',hacc⟩:=y
   show wpAny _ A (load s.heap.objs.size >>= _) _ _ _
   refine aeE (aiD hS' ?_)
   exact aeK (h h' d tk acc'.toList hk (afb (aeR hS')) hacc)
 ·obtain⟨_,_,_,_,_,e',_⟩:=x
  cases e'
theorem abt {l:List (Int×Value)}(h:ElemsOf (PySem.strKind prog w) l):StrsAre (l.map (·.2)) (l.map fun e=>strOf e.2):=by
 have:=strsAre_map (l.map (·.2)) fun v hv=>by
  obtain⟨e,he,rfl⟩:=ae3.mp hv
  obtain⟨tk,e2⟩:=wD h he
  exact⟨strOf e.2,tk,by rw [e2];rfl⟩
 rw [afZ] at this
 exact this
theorem vO {Q:Value->Shared->Prop}{ss:List Str}(hh:A.handled=none)(x:TxSet prog w s.heap a ss)(h64:ss.length < 64)
 (h:∀ (h':Heap) (d:Drawn) (tk:Nat) (l:Addr) (vs:List Value) (ss':List Str) (e:Nat),(∀ b o,s.heap.get? b=some o->h'.get? b=some o)->s.heap.objs.size<=l->h'.get? l=some (seqObj "list" vs.toArray e)->StrsAre vs ss'->ss'.Perm ss->sortedS ss'=true->Q (.ref l) { s with heap:=h',drawn:=d,toks:=tk }) :
 wpAny (model prog w) A (call (.builtin "sorted") [.ref a]) Q E s:=by
 obtain⟨es,ep,t,T,e,nd⟩:=x
 subst e
 refine ag1 ajz ai2 ai3 (args_sorted1 _) ?_
 unfold Builtin.«sorted»
 refine aeE (m:=checkCount "sorted" 1 1 _) (aeK ?_)
 refine aeE (r8 (A:=A.in1) hh T fun h1 d tk acc k1 hsz hp=>?_)
 have hst:=abt T.el
 have hS:StrsAre acc (acc.map strOf):=strsAre_map acc fun v hv=>hst.all v (hp.mem_iff.mp hv)
 have hpm:(acc.map strOf).Perm (u9 es):=by
  have:=hp.map strOf
  rw [afZ] at this
  exact this
 have hl:acc.length < 64:=by
  have:=hpm.length_eq
  rw [aeD] at this
  omega
 refine aeE (ahz ?_ (afb (ae1 hl (by decide))))
 show wpAny _ _ _ _ _ { s with heap:=h1.push (seqObj "list" acc.toArray 0),drawn:=d,toks:=tk }
 have hoL:(h1.push (seqObj "list" acc.toArray 0)).get? h1.objs.size=some (seqObj "list" acc.toArray 0):=aeY _ rfl
 refine aeE (afD (af4 aif ⟨_,hoL,rfl⟩ ahW (list_sort_treeK strKind_oneLt hoL hS.keysOf (fun v₁ v₂ rest e=>keyKind_strs (by rw [← e];exact hS)) hl fun st' a1 a2=>⟨_,rfl,?_⟩) (aja _)))
 obtain⟨ss',b1,b2,b3⟩:=sorted_out_str hS a1 a2
 obtain⟨e,he⟩:=sortedHeap_at (vs:=acc) (out:=(arrOf st').map (·.2)) hoL
 refine aeK ⟨_,rfl,h _ d tk h1.objs.size ((arrOf st').map (·.2)).toList ss' e (fun b o q=>?_) hsz (by rw [ahD];exact he) b1 (b2.trans hpm) b3⟩
 have q1:=k1 _ _ q
 rw [sortedHeap_old (ae4 (aeR q1)) (by rw [aia];exact af7 (aeR q1))]
 exact aeH _ q1
end
end L2
namespace L2
open PySem PySem.Spec PyProof.Rows
def xE (ts ss:List Str):Prop:=ts.Nodup/\∀ x,x∈ts↔x∈ss
section
variable {prog:Program}{w:World}{A:Around}{R:Result->Shared->Prop}{I:Addr}{fp wr:List Addr}{G:Array GenState->Array GenState->Prop}{n:Nat}{P:Nat->Value->Prop}{St:Nat->Shared->Prop}
theorem TxSet.nd {h:Heap}{a:Addr}{ss:List Str}(x:TxSet prog w h a ss):ss.Nodup:=let ⟨_,_,_,_,_,n⟩:=x;n
theorem ly (W:WalksS prog w A.in1 I fp wr G n P St)(S:Addr)(hSf:S ∉ fp)(val:Nat->Str)(hval:∀ i v,P i v->∃ t,v=.str (val i) t)(hb:n+1 < scanBound) :
 ∀ (k i:Nat) (s:Shared) (ts:List Str),n - i=k->i<=n->St i s->TxSet prog w s.heap S ts->ts.length<=i->(∀ x,x∈ts↔∃ j,j < i/\val j=x) →
  (∀ s' ts',Moved (S::wr) G s s'->TxSet prog w s'.heap S ts'->(∀ x,x∈ts'↔∃ j,j < n/\val j=x)->R (.ok (.ret .none)) s') →
  codeAny (model prog w) A (.builtin "set.update.loop" ⟨[.ref S,.ref I],[]⟩) R s:=by
 have hSw:S ∉ wr:=fun h=>hSf (W.sub _ h)
 have hsub:∀ b∈wr,b∈S::wr:=fun b hb=>aeV _ hb
 intro k
 induction k with
 | zero =>
  intro i s ts hk hi hst hS hl hm hR
  have hin:i=n:=by omega
  subst hin
  refine af1 F.entry_set_update_loop ?_
  rw [afR ahX _]
  show wpAny _ A.in1 (pyNext (.ref I) >>= _) _ _ s
  refine aeE (W.done s _ _ hst fun s' hmv=>?_)
  show wpAny _ A.in1 (ret Value.none) _ _ s'
  exact aeK (hR s' ts (hmv.mono hsub) (hS.at' fun o e=>hmv.heap S _ hSw e) hm)
 | succ k ih =>
  intro i s ts hk hi hst hS hl hm hR
  have hlt:i < n:=by omega
  refine af1 F.entry_set_update_loop ?_
  rw [afR ahX _]
  show wpAny _ A.in1 (pyNext (.ref I) >>= _) _ _ s
  refine aeE (W.item i s _ _ hlt hst fun v s' hP hst' hmv=>?_)
  obtain⟨t,rfl⟩:=hval i v hP
  have hS':TxSet prog w s'.heap S ts:=hS.at' fun o e=>hmv.heap S _ hSw e
  show wpAny _ A.in1 (holding [Value.str (val i) t] (setAdd S (.str (val i) t)) >>= _) _ _ s'
  refine aeE (afD ?_)
  unfold setAdd
  refine afD ?_
  refine aeE ((PySem.strKind prog w).pyHash (k:=val i) ((oq rfl).mpr rfl) ?_)
  refine iP (s:={ s' with toks:=s'.toks+1 }) hS' (by omega) fun h' ts' hsb hS2 alt=>?_
  have hl':ts'.length<=i+1:=by
   rcases alt with ⟨_,e⟩ | ⟨_,p⟩
   ·rw [e];omega
   ·rw [p.length_eq,aeG];simp;omega
  have hm':∀ x,x∈ts'↔∃ j,j < i+1/\val j=x:=fun x=>by
   constructor
   ·intro hx
    have:x∈ts\/x=val i:=by
     rcases alt with ⟨_,e⟩ | ⟨_,p⟩
     ·rw [e] at hx;exact .inl hx
     ·rcases aeI.mp (p.mem_iff.mp hx) with z | z
      ·exact .inl z
      ·exact .inr (aeF.mp z)
    rcases this with z | z
    ·obtain⟨j,hj,e⟩:=(hm x).mp z
     exact⟨j,by omega,e⟩
    ·exact⟨i,by omega,z.symm⟩
   ·rintro⟨j,hj,rfl⟩
    rcases alt with ⟨q,e⟩ | ⟨_,p⟩
    ·rw [e]
     by_cases hji:j=i
     ·subst hji;exact q
     ·exact (hm _).mpr ⟨j,by omega,rfl⟩
    ·refine p.mem_iff.mpr (aeI.mpr ?_)
     by_cases hji:j=i
     ·subst hji;exact .inr (aeF.mpr rfl)
     ·exact .inl ((hm _).mpr ⟨j,by omega,rfl⟩)
  refine aeK ⟨ahc ahX _,ih (i+1) _ ts' (by omega) hlt (W.frame _ s' _ _ hst' (agG _) fun b hb o e=>?_) hS2 hl' hm' fun s'' ts'' hm'' hS'' q=>?_⟩
  ·rw [hsb.2 b (fun h:b=S=>hSf (by rw [← h];exact hb))];exact e
  ·refine hR s'' ts'' (Moved.trans W.gtrans ((hmv.mono hsub).then_heap (agG _) fun b o hb e=>?_) hm'') hS'' q
   rw [hsb.2 b (fun h:b=S=>hb (by rw [h];exact aeQ))];exact e
end
section
variable {prog:Program}{w:World}{A:Around}{E:Value->Shared->Prop}{s:Shared}
theorem mF (a:Value){Q₁:Value->Shared->Prop}
 (h:Q₁ (.ref s.heap.objs.size) { s with heap:=s.heap.push { cls:=.type "set",dict:=none,data:=.set #[] 0 (.fresh 0 0 (!w.params.followText "set-order")) } }) :
 codeAny (model prog w) A (.call (.builtin "set.__new__") ⟨[.type "set",a],[]⟩) (wants Q₁ E) s:=by
 refine ahY ?_
 show wpAny _ A.in1 (do checkBuiltinCall "set.__new__" ⟨[.type "set",a],[]⟩;again (.builtin "set.__new__" ⟨[.type "set",a],[]⟩)) _ _ s
 refine aeE (ajy (F.newCall_set_1 a) (aeK ⟨ahc aiL _,af1 F.entry_set_new ?_⟩))
 rw [afR aiL _]
 unfold Builtin.«set.__new__» Builtin.Frozenset.newClass
 have hsub:=sub_set_self
 obtain⟨hp,g,d,tk,os⟩:=s
 dsimp only
 wp_walk
 refine ahf (aeK ?_)
 dsimp only
 simp only [newObj]
 refine aeE (aky (aeK ?_))
 exact aeK h
theorem pK (prog:Program)(w:World)(h:Heap):TxSet prog w (h.push { cls:=.type "set",dict:=none,data:=.set #[] 0 (.fresh 0 0 (!w.params.followText "set-order")) }) h.objs.size [] :=
 ⟨#[],0,_,⟨aeY _ rfl,fun e he=>by simp at he,by decide,rfl,rfl,.inr rfl⟩,rfl,ahI⟩
theorem p4 {l:Addr}{items:Array Value}{ss:List Str}{Q:Value->Shared->Prop}
 (hh:A.handled=none)(hl:s.heap.IsList l items)(hi:StrsAre items.toList ss)(hb:items.size+1 < scanBound)
 (h:∀ (h':Heap) (tk:Nat) (ts:List Str),TxSet prog w h' s.heap.objs.size ts->xE ts ss →
  (∀ b o,b < s.heap.objs.size->s.heap.get? b=some o->h'.get? b=some o)->Q (.ref s.heap.objs.size) { s with heap:=h',toks:=tk }) :
 wpAny (model prog w) A (call (.type "set") [.ref l]) Q E s:=by
 obtain⟨c,tl,hmro⟩:=af2.mro
 have hmade:=af2.made
 have hsub:=af2.sub
 refine wpAny_call (ahY ?_)
 show wpAny _ _ (callAny (.type "set") _) _ _ _
 refine aeK ⟨Code.quiet_builtin _ (by decide +kernel),af1 F.entry_type_call ?_⟩
 rw [Around.under_plain (weight_type_call_type "set" [.ref l] []) rfl]
 have h1:=af2.notType
 have h2:=af2.canCreate
 have hct:=F.typeCall_set_1 (.ref l)
 repeat (any_goals (first | assumption | wp_step))
 refine agX (mF (.ref l) (E:=E) (Q₁:=fun obj s₁=>obj=.ref s.heap.objs.size/\s₁={ s with heap:=s.heap.push { cls:=.type "set",dict:=none,data:=.set #[] 0 (.fresh 0 0 (!w.params.followText "set-order")) } }) ⟨rfl,rfl⟩) fun r s₁ hr=>?_
 cases r with
 | error e=>exact hr
 | ok fl =>
  cases fl with
  | ret obj =>
   obtain⟨rfl,rfl⟩:=hr
   generalize hled:(!w.params.followText "set-order")=led at *
   have hS0:TxSet prog w (s.heap.push { cls:=.type "set",dict:=none,data:=.set #[] 0 (.fresh 0 0 led) }) s.heap.objs.size []:=by rw [← hled];exact pK prog w s.heap
   have hS:(s.heap.push { cls:=.type "set",dict:=none,data:=.set #[] 0 (.fresh 0 0 led) }).get? s.heap.objs.size=some { cls:=.type "set",dict:=none,data:=.set #[] 0 (.fresh 0 0 led) }:=aeY _ rfl
   have hT:Shared.TypeIs { s with heap:=s.heap.push { cls:=.type "set",dict:=none,data:=.set #[] 0 (.fresh 0 0 led) } } (.ref s.heap.objs.size) "set" := ⟨_,hS,rfl⟩
   have hli:=af2.init.lookup
   have hbi:=af2.init.bind (.ref s.heap.objs.size)
   repeat (any_goals (first | assumption | wp_step))
   refine agX (codeAny_call_builtin (R:=wants (fun r s₂=>r=.none/\∃ h' tk ts,s₂={ s with heap:=h',toks:=tk }/\TxSet prog w h' s.heap.objs.size ts/\xE ts ss ∧
    (∀ b o,b < s.heap.objs.size->s.heap.get? b=some o->h'.get? b=some o)) E) af2.init.plain F.entry_set_init (check_set_init_1 hT ?_)) fun r₂ s₂ hr₂=>?_
   ·obtain⟨ol,hol,hcl,nl,hdl⟩:=hl
    obtain⟨ocls,odict,odata,oslots⟩:=ol
    simp only at hcl hdl
    subst hcl;subst hdl
    have hol':(s.heap.push { cls:=.type "set",dict:=none,data:=.set #[] 0 (.fresh 0 0 led) }).get? l=some { cls:=.type "list",dict:=odict,data:=.seq items nl,slots:=oslots }:=aeH _ hol
    have hsls:=F.sub_list_set
    have hslf:=F.sub_list_frozenset
    have hne:(Value.type "list" == Value.type "dict")=false:=by decide
    have hl1:(s.heap.push { cls:=.type "set",dict:=none,data:=.set #[] 0 (.fresh 0 0 led) }).IsList l items:=⟨_,hol',rfl,nl,rfl⟩
    unfold Builtin.«set.__init__» noKeywords Builtin.Frozenset.updateFrom
    generalize hPI:pyIter=PI
    wp_walk
    subst hPI
    refine ah7 hl1 ?_
    refine aeE (ai9 ?_)
    have hlS:l < s.heap.objs.size:=aeR hol
    have hh3:A.in1.in1.in1.handled=none:=by simp [hh]
    have hneI:l≠(s.heap.push { cls:=.type "set",dict:=none,data:=.set #[] 0 (.fresh 0 0 led) }).objs.size:=by
     rw [agn];exact ae4 (af7 hlS)
    have hSf:s.heap.objs.size ∉ [(s.heap.push { cls:=.type "set",dict:=none,data:=.set #[] 0 (.fresh 0 0 led) }).objs.size,l]:=by
     rw [agn];simp only [aeX,aeF,af5,aie,not_or]
     exact⟨ae4 (ajI _),agV hlS⟩
    have hln:items.toList.length=ss.length:=by
     have:=aft List.length hi.strs
     rwa [aeD] at this
    have hval:∀ (i:Nat) (v:Value),items[i]? = some v->∃ t,v=.str ((fun i=>ss.getD i ⟨#[]⟩) i) t:=fun i v hv=>by
     have hv':items.toList[i]? = some v:=by rw [afo];exact hv
     obtain⟨x,t,e⟩:=hi.all v (afg hv')
     refine⟨t,?_⟩
     have e2:ss[i]? = some (strOf v):=by rw [← hi.strs,aeP,hv'];rfl
     rw [e]
     simp only [agt,e2,e]
     rfl
    refine ly ((Walks.list hh3 _ l hneI items).toS) s.heap.objs.size
     hSf (fun i=>ss.getD i ⟨#[]⟩) hval hb (items.size - 0) 0 _ [] (by omega) (ae2 _)
     ⟨⟨_,aeY _ rfl,rfl,rfl⟩,(hl1.push _)⟩ ?hS0 (aeN _) (fun x=>?hM) ?hR
    case hS0=>exact hS0.at' fun o e=>aeH _ e
    case hM=>exact⟨(fun h=>nomatch h),fun ⟨j,hj,_⟩=>absurd hj (aiM j)⟩
    case hR =>
     intro s' ts hm hS' hq
     obtain⟨h',g',d',tk',os'⟩:=s'
     have eg:g'=s.gens:=hm.gens
     have ed:d'=s.drawn:=hm.drawn
     have eo:os'=s.os:=hm.os
     subst eg;subst ed;subst eo
     show wpAny _ _ _ _ _ _
     refine aeK ?_
     show wpAny _ _ (ret Value.none) _ _ _
     refine aeK ⟨rfl,h',tk',ts,rfl,hS',⟨hS'.nd,fun x=>(hq x).trans ?_⟩,fun b o hb e=>?_⟩
     ·have hz:items.size=ss.length:=by rw [← hln,aeT]
      constructor
      ·rintro⟨j,hj,e⟩
       rw [hz] at hj
       rw [← e,agt,aeC hj]
       exact afa hj
      ·intro hx
       obtain⟨j,hj,e⟩:=afS.mp hx
       refine⟨j,by rw [hz];exact hj,?_⟩
       rw [agt,aeC hj]
       exact e
     ·have hb1:b≠s.heap.objs.size:=ae4 hb
      have hb2:b≠(s.heap.push { cls:=.type "set",dict:=none,data:=.set #[] 0 (.fresh 0 0 led) }).objs.size:=by
       rw [agn];exact ae4 (af7 hb)
      exact hm.heap b o (by simp only [aeX,aeF,af5,aie,not_or];exact⟨hb1,hb2⟩) (aeH _ (aeH _ e))
   ·cases r₂ with
    | error e=>exact hr₂
    | ok fl₂ =>
     cases fl₂ with
     | ret r =>
      obtain⟨rfl,h',tk,ts,rfl,hS',hi',hk'⟩:=hr₂
      repeat (any_goals (first | assumption | wp_step))
      exact h _ _ ts hS' hi' hk'
     | _=>exact hr₂.elim
  | _=>exact hr.elim
end
theorem Inv.drawn' {X:Cx}{pins:List (Addr×Obj)}{σ:St}{H:Hp}{s:Shared}(I:Inv X pins σ H s)(d:Drawn):Inv X pins σ H { s with drawn:=d }:=⟨I.ok,I.os,I.bare,I.base,I.loc,I.cell,I.free,I.freeC,I.pin,I.hok,I.len⟩
def eA (P:Program)(w:World)(a:Addr)(ss:List Str):HO:=.ext fun h=>TxSet P w h a ss
theorem uR {P:Program}{w:World}{H:Hp}{h:Heap}{a:Addr}{ss:List Str}(x:TxSet P w h a ss):ObjOk P w H h a (eA P w a ss) :=
 ⟨x,(let ⟨_,_,_,T,_⟩:=x;⟨_,T.get⟩),fun _ _ y k=>y.at' k⟩
theorem qL {P:Program}{w:World}{H:Hp}{h:Heap}{a:Addr}{ss:List Str}(ok:HOk P w H h)(e:H a=some (eA P w a ss)):TxSet P w h a ss:=(ok a _ e).1
section
variable {X:Cx}
theorem dj (hc:X.calm=true):fu X (.builtin "sorted") (fun xs H Q=>∃ (a:Addr) (ss:List Str),xs=[.ref a]/\H a=some (eA X.prog X.w a ss)/\ss.length < 64/\∀ (l:Addr) (ss':List Str),H l=none->ss'.Perm ss->sortedS ss'=true->Q (.ref l) (upd H l (.lst (ss'.map V.str)))):=by
 intro pins s σ H xs us Q I r h
 obtain⟨a,ss,rfl,e,hl,q⟩:=h
 obtain⟨u,rfl,rx⟩:=gY r
 cases rx
 refine vO (I.ok.hd hc) (qL I.hok e) hl fun h' d tk l vs ss' ep k hz hg hS hp hs=>?_
 refine⟨.ref l,_,((I.laid (t':=tk) (o:=.lst (ss'.map V.str)) k hz ⟨?_,vs,ep,gF hS,hg⟩).drawn' d),rfl,q l ss' (I.hok.fresh hz) hp hs⟩
 rw [aeD,hp.length_eq]
 exact afb (ae1 hl (by decide))
theorem gQ (hc:X.calm=true):fu X (.type "set") (fun xs H Q=>∃ (p:Addr) (ss:List Str),xs=[.ref p]/\SqL X.K H p (ss.map V.str)/\ss.length+1 < scanBound/\∀ (a:Addr) (ts:List Str),H a=none->xE ts ss->Q (.ref a) (upd H a (eA X.prog X.w a ts))):=by
 intro pins s σ H xs us Q I r h
 obtain⟨p,ss,rfl,hq,hb,q⟩:=h
 obtain⟨u,rfl,rx⟩:=gY r
 cases rx
 obtain⟨its,rv,pl,hz⟩:=I.list hq
 have hlen:=rv.length
 rw [aeD] at hlen
 refine p4 (I.ok.hd hc) pl.isList (by simpa using eJ rv) (by simpa [← hlen] using hb) fun h' tk ts hS hi k=>?_
 exact⟨.ref s.heap.objs.size,_,I.laid (t':=tk) (o:=eA X.prog X.w s.heap.objs.size ts) (fun b o e=>k b o (aeR e) e) (aeN _) (uR hS),rfl,q _ ts I.fresh hi⟩
end
section
variable {prog:Program}{w:World}{A:Around}{R:Result->Shared->Prop}{s:Shared}
theorem vV {kx vx target iter:Expr}{ifs:List Expr}{scope:Scope}{pos:Pos}{it:Value}{D:Addr}{env:Env}(I:Nat->Shared->Prop)
 (turn:∀ n s,I n s->wpAny (model prog w) A (pyNext it) (fun r s₁=>match r with
  | none=>R (.ok .next) s₁
  | some v=>wpAny (model prog w) A (letOwnedTupleGo target it v) (fun _ s₁'=>wpAny (model prog w) A (assign target env v) (fun _ s₂ =>
   wpAny (model prog w) A (forIn ifs true fun c r=>if r=true then do let ok ← isTrue c env (eval c env);pure (ForInStep.yield ok) else pure (ForInStep.yield r)) (fun ok s₃ =>
    if ok=true then wpAny (model prog w) A (eval kx env) (fun kv s₄=>wpAny (model prog w) A (eval vx env) (fun vv s₅ =>
     wpAny (model prog w) A (dictSet D kv vv) (fun _ s₆=>∃ m,m < n/\I m s₆) (fun _ _=>False) s₅) (fun _ _=>False) s₄) (fun _ _=>False) s₃
    else ∃ m,m < n/\I m s₃) (fun _ _=>False) s₂) (fun _ _=>False) s₁') (fun _ _=>False) s₁) (fun _ _=>False) s)
 (n:Nat)(h:I n s) :
 codeAny (model prog w) A (.compLoop (.DictComp kx vx [⟨target,iter,ifs,0⟩] scope pos) 0 it (.ref D) env) R s:=by
 have no:∀ {E:Value->Shared->Prop} (x:Value) (s:Shared),False->E x s:=fun _ _ z=>z.elim
 refine codeAny_loop rfl I (fun n s hI=>?_) n h
 show wpAny _ A ((compTurn (.DictComp kx vx [⟨target,iter,ifs,0⟩] scope pos) 0 it (.ref D) env).onRaise (fun x=>do noteFrame x env;theTreesLotGoes x)) _ _ s
 refine wpAny_noted ?_
 rw [compTurn_dict]
 refine aeE (ago (aeE (afu (turn n s hI) (fun r s₁ h₁=>?_) no)))
 cases r with
 | none=>exact aeK h₁
 | some v =>
  refine aeE (afu h₁ (fun _ s₁' h₁'=>aeE (afu h₁' (fun _ s₂ h₂=>aeE (afu h₂ (fun ok s₃ h₃=>?_) no)) no)) no)
  cases ok with
  | false=>exact aeK ⟨rfl,h₃⟩
  | true =>
   exact aeE (aeE (afu h₃ (fun kv s₄ h₄=>aeE (afD (afu h₄ (fun vv s₅ h₅=>aeE (ago (afD (afu h₅ (fun _ s₆ h₆=>aeK ⟨rfl,h₆⟩) no)))) no))) no))
end
def aaI (nl:Nat)(ix:List Nat)(wi:TI)(g:TG)(tf:TT)(tk tv:TE):TE:=fun σ H Q=>wi σ H fun J H1=>∀ D,H1 D=none->∃ W:Nat->Nat->List (Key×V)->Hp->Prop,(∃ m,W 0 m [] (upd H1 D (.dK []))) ∧
 ∀ i m ys H2,W i m ys H2->H2 D=some (.dK ys)/\((J.stop i H2/\Q (.ref D) H2)\/(J.go i H2/\∀ x H3,J.yld i H2 x H3->g x (dz nl ix σ) H3 fun σ4 H4=>(σ4.length=(dz nl ix σ).length/\σ4.drop nl=ix.map fun j=>(σ[j]?).join)/\tf σ4 H4 fun b H5 =>
  if b=true then tk σ4 H5 fun z H6=>tv σ4 H6 fun y H7=>∃ k:Key,z=kV k/\H7 D=some (.dK ys)/\ys.length < sizeLine/\∃ m',m' < m/\W (i+1) m' (kO ys k y) (upd H7 D (.dK (kO ys k y))) else ∃ m',m' < m/\W (i+1) m' ys H5))
section
variable {X:Cx}
theorem zR {kx vx tg iter:Expr}{ifs:List Expr}{scope:Scope}{pos:Pos}{N':List Str}{nl:Nat}{ix:List Nat}{wi:TI}{g:TG}{tf:TT}{tk tv:TE}(hc:X.calm=true)(S:CompScope X scope)(Cp:ab6 X scope N' nl ix)(hi:PI X tg iter wi)
 (hg:∀ C fp s₀ H₀,PG (X.comp scope N' C fp s₀ H₀) tg g)(hf:∀ C fp s₀ H₀,PIf (X.comp scope N' C fp s₀ H₀) ifs tf)(hk:∀ C fp s₀ H₀,PE (X.comp scope N' C fp s₀ H₀) kx tk)(hv:∀ C fp s₀ H₀,PE (X.comp scope N' C fp s₀ H₀) vx tv)
 (hs:∀ x,foldedSetIterable iter X.env x=pure x:=by intro _;rfl):PE X (.DictComp kx vx [⟨tg,iter,ifs,0⟩] scope pos) (aaI nl ix wi g tf tk tv):=by
 intro pins s σ H Q I h
 rw [arm_eval_DictComp]
 refine ag5 (use:=none) (cl:=oU X.env scope.names []) rfl hs (iB (S.cells I.ok)) S.kind S.loc ?_
 refine thn (hi pins s σ H _ I h) fun v s1 h1=>thn h1 fun itv s2 h2=>?_
 obtain⟨it,fp,tn,J,H2,rfl,I2,T,st2,f2,h2⟩:=h2
 obtain⟨W,⟨m0,w0⟩,turn⟩:=h2 s2.heap.objs.size I2.fresh
 refine afM (ahC S.nocell (by intro y hy;simp at hy) (fun h₁ hns₁ hsb₁=>?_) S.kind)
 dsimp only at hns₁ hsb₁ ⊢
 have fpo:∀ b∈fp,b < s2.heap.objs.size:=fun b hb=>by
  obtain⟨o,e,_⟩:=T.obj 0 _ st2 b hb
  exact aeR e
 have I3:Inv X pins σ (upd H2 s2.heap.objs.size (.dK [])) { s2 with heap:=s2.heap.push { cls:=.type "dict",data:=.dict #[] },toks:=s2.toks }:=I2.laid (a:=s2.heap.objs.size) (o:=.dK []) (t':=s2.toks) (fun _ _ q=>aeH _ q) (aeN _) (uN s2.heap I2.big)
 have hD:(upd H2 s2.heap.objs.size (.dK [])) s2.heap.objs.size=some (.dK []):=ag
 have f3:∀ b∈fp,nX X pins (upd H2 s2.heap.objs.size (.dK [])) b:=fun b hb=>by
  refine⟨?_,(f2 b hb).2⟩
  rw [ah (ae4 (fpo b hb))]
  exact (f2 b hb).1
 generalize hS3:s2.heap.push { cls:=.type "dict",dict:=none,data:=.dict #[] }=g3 at hns₁ hsb₁ I3 ⊢
 have sz3:g3.objs.size=s2.heap.objs.size+1:=by rw [← hS3,agn]
 have fpo3:∀ b∈fp,b < ({ s2 with heap:=g3,toks:=s2.toks }:Shared).heap.objs.size:=fun b hb=>by
  show b < g3.objs.size
  rw [sz3]
  exact af7 (fpo b hb)
 have old:∀ b o,g3.get? b=some o->h₁.get? b=some o:=fun b o e=>hsb₁.extBut b o (ae4 (aeR e)) (aeH _ e)
 have I4:=kT (tk:=s2.toks+([]:List (Str×Value)).length) S Cp I3 f3 fpo3 hns₁ old
 generalize hX:X.comp scope N' g3.objs.size fp { s2 with heap:=g3,toks:=s2.toks } (upd H2 s2.heap.objs.size (.dK []))=X' at *
 have hPr:X'.prog=X.prog:=by rw [← hX];rfl
 have hWr:X'.w=X.w:=by rw [← hX];rfl
 have hKr:X'.K=X.K:=by rw [← hX];rfl
 have hAr:X'.A=X.A:=by rw [← hX];rfl
 have hCa:X'.calm=true:=by rw [← hX];exact hc
 have hXe:X'.xe=fun _ _=>False:=by rw [← hX];rfl
 have hEx:X'.ex=fp:=by rw [← hX];rfl
 have hPn:X'.pn=[]:=by rw [← hX];rfl
 have hLo:X'.env.locals=g3.objs.size:=by rw [← hX];rfl
 have hEn:X'.env=compEnvC scope (oU X.env scope.names []) g3.objs.size X.env:=by rw [← hX];rfl
 have hg':=hg g3.objs.size fp { s2 with heap:=g3,toks:=s2.toks } (upd H2 s2.heap.objs.size (.dK []))
 have hf':=hf g3.objs.size fp { s2 with heap:=g3,toks:=s2.toks } (upd H2 s2.heap.objs.size (.dK []))
 have hk':=hk g3.objs.size fp { s2 with heap:=g3,toks:=s2.toks } (upd H2 s2.heap.objs.size (.dK []))
 have hv':=hv g3.objs.size fp { s2 with heap:=g3,toks:=s2.toks } (upd H2 s2.heap.objs.size (.dK []))
 rw [hX] at hg' hf' hk' hv'
 have I4':Inv X' [] (dz nl ix σ) (upd H2 s2.heap.objs.size (.dK [])) { s2 with heap:=h₁,toks:=s2.toks+([]:List (Str×Value)).length }:=I4
 have back:∀ {H':Hp} {σ':St} {pins':List (Addr×Obj)} {s':Shared} {h':Heap},Inv X' pins' σ' H' s'->Heap.SameBut g3.objs.size s'.heap h'->Inv X pins σ H' { s' with heap:=h' }:=fun I' sb=>by
  subst hX
  exact jt I3 f3 I' sb
 have stat:∀ {H':Hp},(∀ b∈fp,H' b=none)->∀ b∈fp,nX X' [] H' b:=fun hn b hb=>by
  refine⟨hn b hb,?_,?_,.inl (by rw [hEx];exact hb),?_,fun p hp=>by rw [hPn] at hp;cases hp⟩
  ·rw [hLo];exact ae4 (fpo3 b hb)
  ·exact I4'.ok.exfs b (by rw [hEx];exact hb)
  ·exact (I4'.ok.exf b (by rw [hEx];exact hb)).2
 have loop:codeAny (model X.prog X.w) X.A (.compLoop (.DictComp kx vx [⟨tg,iter,ifs,0⟩] scope pos) 0 (.ref it) (.ref s2.heap.objs.size) X'.env)
  (compPost (model X.prog X.w) X.A X.xe none (EP X pins σ Q) (.ref s2.heap.objs.size) g3.objs.size) { s2 with heap:=h₁,toks:=s2.toks+([]:List (Str×Value)).length }:=by
  rw [← hPr,← hWr,← hAr]
  refine vV (fun n s'=>∃ i ys H',Inv X' [] (dz nl ix σ) H' s'/\tn i s'.heap/\(∀ b∈fp,H' b=none)/\W i n ys H') ?_ m0
   ⟨0,[],_,I4',T.keep _ _ _ st2 (fun b hb o e=>old b o (by rw [← hS3];exact aeH _ e)),fun b hb=>(f3 b hb).1,w0⟩
  rintro n s5 ⟨i,ys,H5,I5,st5,fr5,w5⟩
  obtain⟨hD5,alt⟩:=turn i n ys H5 w5
  rcases alt with ⟨stop,qn⟩ | ⟨go,step⟩
  ·rw [hPr,hWr]
   refine thn (T.done X' hPr hWr hKr hCa i [] s5 _ H5 _ I5 (stat fr5) st5 stop) fun r s6 ⟨hr,I6⟩=>?_
   subst hr
   obtain⟨m,hn,_⟩:=I6.loc
   rw [hLo] at hn
   exact⟨m,hn,fun h' sb=>⟨.ref s2.heap.objs.size,H5,back I6 sb,rfl,qn⟩⟩
  ·have it5:=T.item X' hPr hWr hKr hCa i [] s5 _ H5 (fun _ _=>False) I5 (stat fr5) st5 go
   rw [← hPr,← hWr] at it5
   refine thn it5 fun r s6 ⟨u,hr,h6⟩=>?_
   subst hr
   refine thn h6 fun _ s7 ⟨x,H7,I7,r7,y7,st7,fr7⟩=>?_
   have I7':=I7.pinned (stat fr7) (T.obj _ _ st7)
   have g7:=hg' _ s7 _ H7 x u _ I7' r7 (step x H7 y7)
   rw [hXe] at g7
   refine thn g7 fun _ s8 ⟨σ8,H8,I8,⟨hl8,hd8⟩,q8⟩=>?_
   have f8:=hf' _ s8 σ8 H8 _ I8 q8
   rw [hXe] at f8
   refine thn f8 fun ok s9 ⟨H9,I9,q9⟩=>?_
   have again:∀ {H10:Hp} {s10:Shared} {ys':List (Key×V)},Inv X' ([]++jY fp s7.heap) σ8 H10 s10->(∃ m',m' < n/\W (i+1) m' ys' H10)->∃ m,m < n/\∃ i ys H',Inv X' [] (dz nl ix σ) H' s10/\tn i s10.heap/\(∀ b∈fp,H' b=none)/\W i m ys H':=fun {H10 s10 ys'} I10 ⟨m',hm,w'⟩=>by
    refine⟨m',hm,i+1,ys',H10,jl I10.unpinned hl8 hd8,T.keep _ _ _ st7 fun b hb o e=>(I10.pin (b,o) (aeL _ (aeL _ (cS hb e)))).1,fun b hb=>?_,w'⟩
    obtain⟨o,e,d⟩:=T.obj _ _ st7 b hb
    exact (I10.pin (b,o) (aeL _ (aeL _ (cS hb e)))).2.1
   cases ok with
   | false =>
    rw [if_neg aeM] at q9 ⊢
    exact again I9 q9
   | true =>
    rw [if_pos rfl] at q9 ⊢
    have e9:=hk' _ s9 σ8 H9 _ I9 q9
    rw [hXe] at e9
    refine thn e9 fun zv s10 ⟨z,H10,I10,r10,q10⟩=>?_
    have e10:=hv' _ s10 σ8 H10 _ I10 q10
    rw [hXe] at e10
    refine thn e10 fun xv s11 ⟨y,H11,I11,r11,k,ez,hD11,hz,mw⟩=>?_
    subst ez
    obtain⟨z1,hd,vs,rel,dd⟩:=wI I11.hok hD11
    refine wpAny_dictSet_pairs (qw r10) dd (hsz:=by rw [← rel.length];exact z1) fun h' dd' hs=>?_
    have heo:∃ q,h'.get? s2.heap.objs.size=some q:=let ⟨q,_,_,hq,_⟩:=dd';⟨q,hq⟩
    have hl:(kO ys k y).length<=sizeLine:=by have:=eP ys k y;omega
    exact again (jJ I11 (by rw [hD11];exact True.intro) hs heo (yx hl hd (rel.put k r11) dd')) mw
 rw [hEn] at loop
 exact codeAny_compStart_dict loop (T.self _ 0 _ _ _ (T.keep _ _ _ st2 (fun b hb o e=>old b o (by rw [← hS3];exact aeH _ e))) loop)
end
end L2
namespace L2
open PySem PySem.Spec PyProof.Rows PySem.W
section
variable {X:Cx}{pins:List (Addr×Obj)}{σ:St}{H:Hp}{s:Shared}{a:Addr}{o:Obj}{kvs:List (Key×V)}
theorem Inv.freeze (I:Inv X pins σ H s)(e:H a=some (.dK kvs))(ho:s.heap.get? a=some o):Inv X pins σ (upd H a (.frz o (.dK kvs))) s:=by
 have q:=I.hok a _ e
 refine I.write (x:=a) (e:=a) (o:=.frz o (.dK kvs)) (h':=s.heap) (t':=s.toks) (by rw [e];exact True.intro) (.inl rfl) (fun b u _ z=>z) ⟨o,ho⟩ ⟨ho,?_⟩
 exact q.stay (fun _ _ _ z=>z) (fun b z=>by rw [ah (bX z e (fun z=>nomatch z))];exact z) fun b xs z=>by rw [ah (bX z e (fun z=>nomatch z))];exact z
theorem Inv.notFrz (I:Inv X pins σ H s)(e:H a=some (.dK kvs)):∀ o u,X.H₀ a≠some (.frz o u):=fun o u z=>by
 have:=I.base.frzs a o u z
 rw [e] at this
 cases this
theorem Inv.thaw (I:Inv X pins σ H s)(e:H a=some (.frz o (.dK kvs)))(nf:∀ o u,X.H₀ a≠some (.frz o u)):Inv X pins σ (upd H a (.dK kvs)) s:=by
 have nt:∀ xs,X.H₀ a≠some (.tup xs):=fun xs z=>by have:=I.base.tups a xs z;rw [e] at this;cases this
 have nb:∀ ps,X.H₀ a≠some (.tbl ps):=fun ps z=>by obtain⟨_,q⟩:=I.base.tbls a ps z;rw [e] at q;cases q
 have ne:∀ {b},H b=none->b≠a:=fun h z=>by subst z;rw [e] at h;cases h
 refine⟨I.ok,I.os,I.bare,⟨I.base.keep,I.base.slot,fun b ob q n hx=>?_,I.base.there,fun b xs z=>?_,fun b ob u z=>?_,fun b ps z=>?_⟩,I.loc,I.cell,?_,fun x c z=>?_,fun p hp=>?_,fun b u z=>?_,I.len⟩
 ·have:=I.base.free b ob q n hx
  rw [ah (ne this)];exact this
 ·rw [ah (show b≠a from fun w=>by subst w;exact nt xs z)];exact I.base.tups b xs z
 ·rw [ah (show b≠a from fun w=>by subst w;exact nf ob u z)];exact I.base.frzs b ob u z
 ·rw [ah (show b≠a from fun w=>by subst w;exact nb ps z)];exact I.base.tbls b ps z
 ·rw [ah (ne I.free)];exact I.free
 ·rw [ah (ne (I.freeC x c z))];exact I.freeC x c z
 ·obtain⟨p1,p2,p3⟩:=I.pin p hp
  exact⟨p1,by rw [ah (ne p2)];exact p2,p3⟩
 ·have st:∀ {c w},ObjOk X.prog X.w H s.heap c w->ObjOk X.prog X.w (upd H a (.dK kvs)) s.heap c w:=fun {c w} q =>
   q.stay (fun _ _ _ z=>z) (fun b z=>by rw [ah (bX z e (fun z=>nomatch z))];exact z) fun b xs z=>by rw [ah (bX z e (fun z=>nomatch z))];exact z
  by_cases hb:b=a
  ·subst hb
   rw [ag] at z
   cases z
   exact st (I.hok _ _ e).2
  ·rw [ah hb] at z
   exact st (I.hok b u z)
end
def ItK (a:Addr)(o:Obj)(kvs:List (Key×V)):It :=
 ⟨fun i H=>i < kvs.length/\H a=some (.frz o (.dK kvs)),fun i H x H'=>H'=H/\∃ k v,kvs[i]? = some (k,v)/\x=kV k,fun i H=>i=kvs.length/\H a=some (.frz o (.dK kvs))⟩
theorem ui {P:Program}{w:World}{k:Key}{u:Value}(h:(bz P w).is k u=true):RelV (kV k) u:=by
 rcases cc h with ⟨i,t,rfl,rfl⟩ | ⟨x,t,rfl,rfl⟩
 ·exact⟨t,rfl⟩
 ·exact⟨t,rfl⟩
theorem yt {P:Program}{w:World}{K:PySem.W.Frag}{tg:Expr}(a it:Addr)(o:Obj)(kvs:List (Key×V))(ep:Nat)(hep:∃ es,o.data=.dict es ep):abP P w K tg (ItK a o kvs) [it] it (fun i h=>h.IsKeyIter it a i kvs.length ep) where
 mem:=by simp
 obj:=fun i h st b hb=>by
  have e:b=it:=by simpa using hb
  subst e
  obtain⟨o,e,c,d⟩:=st
  exact⟨o,e,fun v z=>by rw [d] at z;cases z⟩
 keep:=fun i h h' st k=>st.at fun o e=>k it (by simp) o e
 item:=by
  intro X hP hw hK hc i pins s σ H E I hf st hg
  subst hP hw hK
  obtain⟨hi,hH⟩:=hg
  obtain⟨ho,_,_,vs,rel,dd⟩:=I.hok a _ hH
  obtain⟨ep',da⟩:=dd.dictAt
  have ee:ep'=ep:=by
   obtain⟨es,h1⟩:=hep
   obtain⟨o',es',h2,_,h3,_⟩:=id da
   rw [ho] at h2
   cases h2
   rw [h1] at h3
   injection h3 with _ z
   exact z.symm
  subst ee
  have hl:=rel.length
  obtain⟨⟨k,v⟩,hx⟩:∃ p,vs[i]? = some p:=⟨vs[i],by simp [← hl,hi]⟩
  obtain⟨f0,f1,f2,f3,f4,f5⟩:=hf it (by simp)
  refine wpAny_pyNext_dict_item (knd:=bz X.prog X.w) (by rw [← hl];exact st) da hx fun key h' hkey hit' hs'=>?_
  rw [← hl] at hit'
  have I1:Inv X pins σ H { s with heap:=h' }:=I.turned (t':=s.toks) (fun b o hb e=>(hs'.2 b hb).trans e) f0 f1 f3 f4 f5
  have hk:∃ v',kvs[i]? = some (k,v'):=by
   have e1:(kvs.map (·.1))[i]? = some k:=by rw [rel.keys,aeP,hx];rfl
   rw [aeP] at e1
   cases q:kvs[i]? with
   | none=>rw [q] at e1;cases e1
   | some p=>rw [q] at e1;cases e1;exact⟨p.2,rfl⟩
  obtain⟨v',hv'⟩:=hk
  obtain⟨oi,e,c,d⟩:=id hit'
  exact⟨key,rfl,aat (s:={ s with heap:=h' }) e c d (by decide) ⟨kV k,H,I1,ui hkey,⟨rfl,k,v',hv',rfl⟩,hit',fun b hb=>(hf b hb).1⟩⟩
 done:=by
  intro X hP hw hK hc i pins s σ H E I hf st hg
  subst hP hw hK
  obtain⟨hi,hH⟩:=hg
  obtain⟨ho,_,_,vs,rel,dd⟩:=I.hok a _ hH
  obtain⟨ep',da⟩:=dd.dictAt
  have ee:ep'=ep:=by
   obtain⟨es,h1⟩:=hep
   obtain⟨o',es',h2,_,h3,_⟩:=id da
   rw [ho] at h2
   cases h2
   rw [h1] at h3
   injection h3 with _ z
   exact z.symm
  subst ee
  have hl:=rel.length
  obtain⟨f0,f1,f2,f3,f4,f5⟩:=hf it (by simp)
  exact wpAny_pyNext_dict_end (knd:=bz X.prog X.w) (I.ok.hd hc) (by rw [← hl];exact st) da (by rw [hi,hl];simp) fun h' eb=>⟨rfl,I.turned (t':=s.toks) (fun b o hb e=>eb b o hb e) f0 f1 f3 f4 f5⟩
 self:=fun _ _ _ _ _ st h=>wpAny_pyIter_keyiter st h
def adI (H₀:Hp)(td:TE):TI:=fun σ H R=>td σ H fun x H1=>∃ a kvs,x=.ref a/\H1 a=some (.dK kvs)/\∀ o,(∀ o' u,H₀ a≠some (.frz o' u))->R (ItK a o kvs) (upd H1 a (.frz o (.dK kvs)))
section
variable {X:Cx}{tg:Expr}
theorem aa6 {l:Expr}{tl:TE}{H₀:Hp}(hH:X.H₀=H₀)(hl:PE X l tl):PI X tg l (adI H₀ tl):=by
 subst hH
 intro pins s σ H R I h
 refine thn (hl pins s σ H _ I h) fun v s1 ⟨y,H1,I1,r1,q1⟩=>?_
 obtain⟨a,kvs,rfl,e,q⟩:=q1
 cases r1
 obtain⟨z,hd,vs,rel,dd⟩:=wI I1.hok e
 obtain⟨ep,da⟩:=dd.dictAt
 refine wpAny_pyIter_dict (knd:=bz X.prog X.w) hd da ?_
 obtain⟨o,es,ho,_,hes,_⟩:=id da
 have I2:=(I1.freeze e ho).kept (t':=s1.toks) (h':=s1.heap.push { cls:=.type "dict_keyiterator",data:=.fields #[.ref a,.int 0 0,.int vs.length 0,.int ep 0] }) fun b o e=>aeH _ e
 have hn:(upd H1 a (.frz o (.dK kvs))) s1.heap.objs.size=none:=by
  have:=I1.fresh
  rw [ah (fun z=>by rw [z,e] at this;cases this)];exact this
 refine⟨s1.heap.objs.size,[s1.heap.objs.size],_,ItK a o kvs,upd H1 a (.frz o (.dK kvs)),rfl,I2,yt a _ o kvs ep ⟨es,hes⟩,⟨_,aeY _ rfl,rfl,by rw [rel.length];rfl⟩,fun b hb=>?_,q o (I1.notFrz e)⟩
 have e:b=s1.heap.objs.size:=by simpa using hb
 subst e
 exact I1.fpOk (aeN _) hn
def acz (H₀:Hp)(t:TS):TS:=fun D σ H=>∃ a o kvs,H a=some (.frz o (.dK kvs))/\(∀ o' u,H₀ a≠some (.frz o' u))/\t D σ (upd H a (.dK kvs))
theorem zr {sts:List Stmt}{t:TS}{H₀:Hp}(hH:X.H₀=H₀)(h:PSs X sts t):PSs X sts (acz H₀ t):=by
 subst hH
 intro pins s σ H D I hw
 obtain⟨a,o,kvs,e,nf,q⟩:=hw
 exact h pins s σ _ D (I.thaw e nf) q
end
section
variable {X:Cx}
end
end L2
namespace L2
open PySem PySem.Spec PyProof.Rows
def iu (nl:Nat)(ix:List Nat)(g:TG)(tf:TT)(tk tv:TE)(σ:St)(D:Addr)(ys:List (Key×V))(H:Hp)(x:V)(nxt:List (Key×V)->Hp->Prop):Prop :=
 g x (dz nl ix σ) H fun σ4 H4=>(σ4.length=(dz nl ix σ).length/\σ4.drop nl=ix.map fun j=>(σ[j]?).join)/\tf σ4 H4 fun b H5 =>
  if b=true then tk σ4 H5 fun z H6=>tv σ4 H6 fun y H7=>∃ k:Key,z=kV k/\H7 D=some (.dK ys)/\ys.length < sizeLine/\nxt (kO ys k y) (upd H7 D (.dK (kO ys k y))) else nxt ys H5
def xo (nl:Nat)(ix:List Nat)(g:TG)(tf:TT)(tk tv:TE)(σ:St)(J:It)(H1:Hp)(D:Addr)(Q:VK):Prop :=
 ∃ W:Nat->Nat->List (Key×V)->Hp->Prop,(∃ m,W 0 m [] (upd H1 D (.dK []))) ∧
 ∀ i m ys H2,W i m ys H2->H2 D=some (.dK ys)/\((J.stop i H2/\Q (.ref D) H2)\/(J.go i H2/\∀ x H3,J.yld i H2 x H3->iu nl ix g tf tk tv σ D ys H3 x fun ys' H'=>∃ m',m' < m/\W (i+1) m' ys' H'))
theorem aap (nl:Nat)(ix:List Nat)(wi:TI)(g:TG)(tf:TT)(tk tv:TE)(σ:St)(H:Hp)(Q:VK)(h:wi σ H fun J H1=>∀ D,H1 D=none->xo nl ix g tf tk tv σ J H1 D Q):aaI nl ix wi g tf tk tv σ H Q:=h
section
variable {nl:Nat}{ix:List Nat}{g:TG}{tf:TT}{tk tv:TE}{σ:St}{H1:Hp}{D:Addr}{Q:VK}(Pv:Nat->List (Key×V)->Hp->Prop)
theorem abE {J:It}{n:Nat}(h0:Pv 0 [] (upd H1 D (.dK [])))(hD:∀ i ys H,Pv i ys H->H D=some (.dK ys))(go:∀ i ys H,i < n->Pv i ys H->J.go i H)(stop:∀ ys H,Pv n ys H->J.stop n H)
 (hs:∀ i ys H x H',i < n->Pv i ys H->J.yld i H x H'->iu nl ix g tf tk tv σ D ys H' x fun ys' H'=>Nx n i (Pv (i+1) ys' H'))
 (hd:∀ ys H,Pv n ys H->Q (.ref D) H):xo nl ix g tf tk tv σ J H1 D Q:=by
 refine⟨fun i m ys H=>m=n - i/\i<=n/\Pv i ys H,⟨n,by simp,ae2 _,h0⟩,?_⟩
 rintro i m ys H ⟨rfl,hi,p⟩
 refine⟨hD i ys H p,?_⟩
 by_cases hlt:i < n
 ·exact .inr ⟨go i ys H hlt p,fun x H' y=>hs i ys H x H' hlt p y⟩
 ·have e:i=n:=by omega
  subst e
  exact .inl ⟨stop ys H p,hd ys H p⟩
theorem wo {K:PySem.W.Frag}{a:Addr}{xs:List V}(h0:Pv 0 [] (upd H1 D (.dK [])))(hD:∀ i ys H,Pv i ys H->H D=some (.dK ys))(hl:∀ i ys H,Pv i ys H->SqL K H a xs)
 (hs:∀ i ys H x,xs[i]? = some x->Pv i ys H->iu nl ix g tf tk tv σ D ys H x fun ys' H'=>Nx xs.length i (Pv (i+1) ys' H'))(hd:∀ ys H,Pv xs.length ys H->Q (.ref D) H):xo nl ix g tf tk tv σ (Itl K a) H1 D Q:=by
 refine abE (n:=xs.length) Pv h0 hD (fun i ys H hi p=>⟨xs,xs[i],hl i ys H p,by simp [hi]⟩) (fun ys H p=>⟨xs,hl _ ys H p,aeN _⟩) (fun i ys H x H' hi p y=>?_) hd
 obtain⟨e,y⟩:=y
 subst e
 exact hs i ys H' x (y xs (hl i ys H' p)) p
end
theorem vU {nl:Nat}{ix:List Nat}{tk tv:TE}{σ:St}{D:Addr}{ys:List (Key×V)}{H:Hp}{x:V}{nxt:List (Key×V)->Hp->Prop}{i:Nat}(h1:((dz nl ix σ).set i (some x)).drop nl=ix.map fun j=>(σ[j]?).join)
 (h:tk ((dz nl ix σ).set i (some x)) H fun z H6=>tv ((dz nl ix σ).set i (some x)) H6 fun y H7=>∃ k:Key,z=kV k/\H7 D=some (.dK ys)/\ys.length < sizeLine/\nxt (kO ys k y) (upd H7 D (.dK (kO ys k y)))):iu nl ix (bJ i) yz tk tv σ D ys H x nxt:=by
 unfold iu bJ yz
 dsimp only
 rw [if_pos rfl]
 exact⟨⟨by simp,h1⟩,h⟩
theorem yj {nl:Nat}{ix:List Nat}{te:TE}{tf:TT}{σ:St}{D:Addr}{ys:List V}{H:Hp}{x:V}{nxt:List V->Hp->Prop}{i:Nat}(h1:((dz nl ix σ).set i (some x)).drop nl=ix.map fun j=>(σ[j]?).join)
 (h:tf ((dz nl ix σ).set i (some x)) H fun b H5=>if b=true then te ((dz nl ix σ).set i (some x)) H5 fun y H6=>H6 D=some (.lst ys)/\ys.length < sizeLine/\nxt (ys++[y]) (upd H6 D (.lst (ys++[y]))) else nxt ys H5):bL nl ix (bJ i) tf te σ D ys H x nxt:=by
 unfold bL bJ
 dsimp only
 exact⟨⟨by simp,h1⟩,h⟩
structure CountMap (H:Hp)(kvs:List (Key×V))(ks ls:List Str):Prop where
 nd:(kvs.map (·.1)).Nodup
 mem:∀ q,q∈kvs.map (·.1)↔∃ x,q=Sum.inr x/\(x∈ks\/x∈ls)
 val:∀ x v,(Sum.inr x,v)∈kvs->∃ t:Addr,v=.ref t/\H t=some (.tup [.int ((ks.count x:Nat):Int),.int ((ls.count x:Nat):Int)])
theorem uH {kvs:List (Key×V)}{k:Key}{v:V}(h:fq kvs k=some v):(k,v)∈kvs:=by
 unfold fq at h
 cases e:kvs.find? fun kv=>decide (kv.1=k) with
 | none=>rw [e] at h;cases h
 | some p =>
  rw [e] at h
  have h':p.2=v:=by simpa using h
  have hp:=List.find?_some e
  have hk:p.1=k:=by simpa using hp
  have:=List.mem_of_find?_eq_some e
  obtain⟨p1,p2⟩:=p
  simp only at h' hk
  subst h' hk
  exact this
def ac7 (H H':Hp):Prop:=∀ b xs,H b=some (.tup xs)->H' b=some (.tup xs)
theorem Same.keepT {H H':Hp}(s:Same H H'):ac7 H H':=fun b xs e=>s b _ e
theorem CountMap.on {H H':Hp}{kvs:List (Key×V)}{ks ls:List Str}(c:CountMap H kvs ks ls)(k:ac7 H H'):CountMap H' kvs ks ls :=
 ⟨c.nd,c.mem,fun x v h=>let ⟨t,e,q⟩:=c.val x v h;⟨t,e,k _ _ q⟩⟩
def aer (t:TS):TS:=fun D σ H=>∃ N:St->Hp->Prop,(∀ σ' H',N σ' H'->D.nx σ' H')/\t { D with nx:=N } σ H
theorem bB {X:Cx}{st:Stmt}{t:TS}(h:PS X st t):PS X st (aer t):=by
 intro pins s σ H D I hw
 obtain⟨N,hN,q⟩:=hw
 refine thn (h pins s σ H _ I q) fun f s1 q1=>?_
 cases f with
 | next=>obtain⟨σ',H',I',n⟩:=q1;exact⟨σ',H',I',hN _ _ n⟩
 | brk=>exact q1
 | cont=>exact q1
 | ret u=>exact q1
theorem ig (a b:Str):(a++b).cps.toList=a.cps.toList++b.cps.toList:=by
 show (a.cps++b.cps).toList=_
 simp
theorem jN:∀ ss:List Str,(Txt.join (Str.ofString "") ss).cps.toList=(ss.map (·.cps.toList)).flatten:=by
 intro ss
 show (Builtin.Str.glued (PySem.Str.ofString "") ss).cps.toList=_
 rw [StrLaws.glued_eq_join]
 have e0:(Str.ofString "").cps.toList=[]:=by decide
 induction ss with
 | nil=>rfl
 | cons a r ih =>
  cases r with
  | nil=>simp [Str.join]
  | cons b r' =>
   have:Str.join (Str.ofString "") (a::b::r')=a++Str.ofString "" ++ Str.join (Str.ofString "") (b::r'):=rfl
   rw [this,ig,ig,e0,afw,ih]
   simp
section
variable {X:Cx}{outer scope:Scope}{N N':List Str}{nl:Nat}{ix:List Nat}{tg iter:Expr}{ifs:List Expr}{pos:Pos}{wi:TI}{g:TG}{tf:TT}
theorem lx {elt:Expr}{te:TE}(h1:X.env.scope=outer)(h2:X.N=N)(hc:X.calm=true)(hi:PI X tg iter wi)
 (hg:∀ C fp s₀ H₀,PG (X.comp scope N' C fp s₀ H₀) tg g)(hf:∀ C fp s₀ H₀,PIf (X.comp scope N' C fp s₀ H₀) ifs tf)(he:∀ C fp s₀ H₀,PE (X.comp scope N' C fp s₀ H₀) elt te)
 (hck:jj outer scope N N' nl ix=true:=by decide +kernel)(hs:∀ x,foldedSetIterable iter X.env x=pure x:=by intro _;rfl):PE X (.ListComp elt [⟨tg,iter,ifs,0⟩] scope pos) (qr nl ix wi g tf te) :=
 let ⟨S,Cp⟩:=iZ h1 h2 hck
 kU hc S Cp hi hg hf he hs
end
section
variable {X:Cx}{pins:List (Addr×Obj)}{σ:St}{H:Hp}{s:Shared}{h':Heap}
theorem Inv.turnedL {t':Nat}{fp:List Addr}(I:Inv X pins σ H s)(k:∀ b o,b ∉ fp->s.heap.get? b=some o->h'.get? b=some o)(hf:∀ b∈fp,nX X pins H b):Inv X pins σ H { s with heap:=h',toks:=t' }:=by
 have nit:∀ b u,H b=some u->b ∉ fp:=fun b u e z=>by have:=(hf b z).1;rw [e] at this;cases this
 refine I.step (g':=s.gens) (d':=s.drawn) (ch:=fp) (fun b hb=>?_) (fun b o _ _ hc e _=>k b o hc e) (fun b o _ _ hc e _=>⟨o.slots,k b o hc e⟩) (fun _ _ _ _ n=>n)
  (fun b o hc e=>⟨o,k b o hc e⟩) (fun _ _ e=>e) (fun _ _ _ e=>e) (fun b ps e=>⟨#[],by rw [e];simp⟩) (fun m hm=>?_) (fun b u e=>?_) I.bare
 ·obtain⟨f0,f1,f2,f3,f4,f5⟩:=hf b hb
  exact⟨f3,f1,f4,f5⟩
 ·obtain⟨o,es,ep,ho,r⟩:=hm
  exact⟨o,es,ep,k _ o (fun z=>(hf _ z).2.1 rfl) ho,r⟩
 ·refine (I.hok b u e).stay (fun c v hc q=>k c v ?_ q) (fun _ q=>q) fun _ _ q=>q
  rcases hc with z | z
  ·rw [z];exact nit b u e
  ·exact nit c _ z
theorem Inv.turnedNew {t':Nat}{fp:List Addr}{a:Addr}{o:HO}(I:Inv X pins σ H s)(k:∀ b o,b ∉ fp->s.heap.get? b=some o->h'.get? b=some o)(hf:∀ b∈fp,nX X pins H b)(hp:s.heap.objs.size<=a)(new:ObjOk X.prog X.w (upd H a o) h' a o) :
 Inv X pins σ (upd H a o) { s with heap:=h',toks:=t' }:=by
 have ha:H a=none:=I.hok.fresh hp
 have nit:∀ b u,H b=some u->b ∉ fp:=fun b u e z=>by have:=(hf b z).1;rw [e] at this;cases this
 have up:∀ {b u},H b=some u->upd H a o b=some u:=fun {b u} e=>by rw [ah (af e ha)];exact e
 refine I.step (g':=s.gens) (d':=s.drawn) (ch:=fp) (fun b hb=>?_) (fun b o _ _ hc e _=>k b o hc e) (fun b o _ _ hc e _=>⟨o.slots,k b o hc e⟩) (fun b ob _ e n=>?_)
  (fun b o hc e=>⟨o,k b o hc e⟩) (fun _ _ e=>up e) (fun _ _ _ e=>up e) (fun b ps e=>⟨#[],by rw [up e];simp⟩) (fun m hm=>?_) (fun b u e=>?_) I.bare
 ·obtain⟨f0,f1,f2,f3,f4,f5⟩:=hf b hb
  exact⟨f3,f1,f4,f5⟩
 ·rw [ah (ae4 (ae1 (aeR e) hp))];exact n
 ·obtain⟨o,es,ep,ho,r⟩:=hm
  exact⟨o,es,ep,k _ o (fun z=>(hf _ z).2.1 rfl) ho,r⟩
 ·by_cases hb:b=a
  ·subst hb;rw [ag] at e;cases e;exact new
  ·rw [ah hb] at e
   refine (I.hok b u e).stay (fun c v hc q=>k c v ?_ q) (fun _ q=>up q) fun _ _ q=>up q
   rcases hc with z | z
   ·rw [z];exact nit b u e
   ·exact nit c _ z
end
def ItE (K:PySem.W.Frag)(a:Addr):It :=
 ⟨fun i H=>∃ xs x,SqL K H a xs/\xs[i]? = some x,fun i H x H'=>∃ T v,x=.ref T/\H T=none/\H'=upd H T (.tup [.int (i:Int),v])/\∀ xs,SqL K H a xs->xs[i]? = some v,fun i H=>∃ xs,SqL K H a xs/\xs.length<=i⟩
theorem xF {P:Program}{w:World}{K:PySem.W.Frag}{es:List Expr}{kk:Nat}{tp:Pos}(a e it:Addr)(hei:e≠it):abP P w K (.Tuple es kk tp) (ItE K a) [e,it] e (fun i h=>(∃ old,IsEnum h e it (i:Int) old)/\h.IsListIter it a i) where
 mem:=by simp
 obj:=fun i h st b hb=>by
  obtain⟨⟨old,he⟩,hi⟩:=st
  rcases aeX.mp hb with z | hb
  ·rw [z];exact⟨_,he,fun v z=>by cases z⟩
  ·rw [aeF.mp hb]
   obtain⟨o,e,c,d⟩:=hi
   exact⟨o,e,fun v z=>by rw [d] at z;cases z⟩
 keep:=fun i h h' st k=>⟨let ⟨old,he⟩:=st.1;⟨old,k e (by simp) _ he⟩,st.2.at fun o e=>k it (by simp) o e⟩
 item:=by
  intro X hP hw hK hc i pins s σ H E I hf st hg
  subst hP hw hK
  obtain⟨xs,x,hq,hx⟩:=hg
  obtain⟨its,rv,p,hz⟩:=I.list hq
  obtain⟨u,hu,ru⟩:=rv.get hx
  obtain⟨⟨old,he⟩,hit⟩:=st
  refine wpAny_pyNext_enum_item he hit p.isList (x:=u) (by simpa using hu) hei fun h' ho hit' hT hsz k=>?_
  have hh:∀ b o,b ∉ [e,it]->s.heap.get? b=some o->h'.get? b=some o:=fun b o hb q=>k b o (fun z=>hb (by simp [z])) (fun z=>hb (by simp [z])) q
  refine⟨_,rfl,wpAny_letOwnedTupleGo_enum ho fun h2 he2 hs2=>?_⟩
  have eT:s.heap.objs.size≠e:=agV (aeR he)
  have hT2:h2.get? s.heap.objs.size=some { cls:=.type "tuple",data:=.seq #[.int i s.toks,u] }:=(hs2.2 _ eT).trans hT
  have hh2:∀ b o,b ∉ [e,it]->s.heap.get? b=some o->h2.get? b=some o:=fun b o hb q=>(hs2.2 b (fun z=>hb (by simp [z]))).trans (hh b o hb q)
  have I2:=I.turnedNew (t':=s.toks+1) (h':=h2) (o:=.tup [.int (i:Int),x]) hh2 hf (aeN _) ⟨by show 2<=sizeLine;decide,[.int i s.toks,u],.cons ⟨_,rfl⟩ (.cons ru .nil),_,hT2,rfl,_,rfl⟩
  have fr:H s.heap.objs.size=none:=I.fresh
  refine⟨.ref s.heap.objs.size,_,I2,rfl,⟨_,x,rfl,fr,rfl,fun ys hy=>by rw [I.list_inj hy hq];exact hx⟩,⟨⟨_,by simpa using he2⟩,hit'.at fun o q=>(hs2.2 it (agz hei)).trans q⟩,fun b hb=>?_⟩
  have hlt:b < s.heap.objs.size:=by
   rcases aeX.mp hb with z | hb
   ·rw [z];exact aeR he
   ·rw [aeF.mp hb];obtain⟨o,q,_⟩:=hit;exact aeR q
  rw [ah (ae4 hlt)]
  exact (hf b hb).1
 done:=by
  intro X hP hw hK hc i pins s σ H E I hf st hg
  subst hP hw hK
  obtain⟨xs,hq,hx⟩:=hg
  obtain⟨its,rv,p,hz⟩:=I.list hq
  obtain⟨⟨old,he⟩,hit⟩:=st
  have hl:=rv.length
  exact wpAny_pyNext_enum_end (I.ok.hd hc) he hit p.isList (by simp;omega) fun h' eb=>⟨rfl,I.turnedL (t':=s.toks) (fun b o hb q=>eb b o (fun z=>hb (by simp [z])) q) hf⟩
 self:=fun _ _ _ _ _ st h=>let ⟨⟨_,he⟩,_⟩:=st;wpAny_pyIter_enum he h
def adC (K:PySem.W.Frag)(ta:TA):TI:=fun σ H R=>ta σ H fun vs H1=>∃ a,vs=[.ref a]/\(∃ xs,SqL K H1 a xs)/\R (ItE K a) H1
section
variable {X:Cx}
theorem nI:bootBuiltins "enumerate" = some (.type "enumerate"):=by decide +kernel
theorem tQ {a:Expr}{ta:TA}{p pos:Pos}{es:List Expr}{kk:Nat}{tp:Pos}(hg:Gl X "enumerate")(hm:X.mg "enumerate" = none)(ha:PA X [a] ta)(hs:starEach [a] X.env=[(false,eval a X.env)]:=by rfl):PI X (.Tuple es kk tp) (.Call (.Name "enumerate" p) [a] [] pos) (adC X.K ta):=by
 intro pins s σ H R I h
 refine Call_ (iR I hg hm nI (agp (thn (ha pos pins s σ H _ I h) fun us s1 ⟨vs,H1,I1,r1,q1⟩=>?_) hs rfl))
 obtain⟨a,e,⟨xs,hq⟩,q⟩:=q1
 subst e
 obtain⟨u,rfl,ru⟩:=gY r1
 cases ru
 obtain⟨its,rv,p,hz⟩:=I1.list hq
 refine call_enumerate_list p.isList fun h' he hi hsz k=>?_
 have I2:Inv X pins σ H1 { s1 with heap:=h' }:=I1.kept (t':=s1.toks) k
 refine wpAny_pyIter_enum he ⟨s1.heap.objs.size+1,[s1.heap.objs.size+1,s1.heap.objs.size],_,ItE X.K a,H1,rfl,I2,xF a _ _ (Nat.succ_ne_self _),⟨⟨_,he⟩,hi⟩,fun b hb=>?_,q⟩
 rcases aeX.mp hb with z | hb
 ·rw [z];exact I1.fpOk (agG _) (I1.hok.fresh (agG _))
 ·rw [aeF.mp hb];exact I1.fpOk (aeN _) I1.fresh
end
theorem u0 {K:PySem.W.Frag}{a:Addr}{xs:List V}{g:TG}{tb:TS}{D:aam}{σ:St}{H:Hp}(Pv:Nat->St->Hp->Prop)(h0:Pv 0 σ H)(hl:∀ i σ H,i<=xs.length->Pv i σ H->SqL K H a xs)
 (hs:∀ i x σ H T,xs[i]? = some x->Pv i σ H->H T=none->g (.ref T) σ (upd H T (.tup [.int (i:Int),x])) fun σ2 H2=>tb { D with nx:=Pv (i+1),ct:=Pv (i+1),bk:=D.nx } σ2 H2)(hd:∀ σ H,Pv xs.length σ H->D.nx σ H) :
 ∃ W:Nat->Nat->St->Hp->Prop,(∃ m,W 0 m σ H)/\∀ i m σ H,W i m σ H →
  ((ItE K a).stop i H/\D.nx σ H)\/((ItE K a).go i H/\∃ N:St->Hp->Prop,(∀ σ' H',N σ' H'->∃ m',m' < m/\W (i+1) m' σ' H')/\∀ x H',(ItE K a).yld i H x H'->g x σ H' fun σ2 H2=>tb { D with nx:=N,ct:=N,bk:=D.nx } σ2 H2):=by
 refine⟨fun i m σ H=>m=xs.length - i/\i<=xs.length/\Pv i σ H,⟨xs.length,by simp,ae2 _,h0⟩,?_⟩
 rintro i m σ H ⟨rfl,hi,p⟩
 have q:=hl i σ H hi p
 by_cases hlt:i < xs.length
 ·refine .inr ⟨⟨xs,xs[i],q,by simp [hlt]⟩,Pv (i+1),fun σ' H' p'=>⟨xs.length - (i+1),by omega,rfl,hlt,p'⟩,fun x H' y=>?_⟩
  obtain⟨T,v,ex,hT,eH,hv⟩:=y
  subst ex eH
  exact hs i v σ H T (hv xs q) p hT
 ·have e:i=xs.length:=by omega
  subst e
  exact .inl ⟨⟨xs,q,aeN _⟩,hd σ H p⟩
theorem wL {nl:Nat}{ix:List Nat}{g:TG}{tf:TT}{te:TE}{σ:St}{H1:Hp}{D:Addr}{Q:VK}(Pv:Nat->List V->Hp->Prop){K:PySem.W.Frag}{a:Addr}{xs:List V}(h0:Pv 0 [] (upd H1 D (.lst [])))(hD:∀ i ys H,Pv i ys H->H D=some (.lst ys))(hl:∀ i ys H,Pv i ys H->SqL K H a xs)
 (hs:∀ i ys H x T,xs[i]? = some x->Pv i ys H->H T=none->bL nl ix g tf te σ D ys (upd H T (.tup [.int (i:Int),x])) (.ref T) fun ys' H'=>Nx xs.length i (Pv (i+1) ys' H'))(hd:∀ ys H,Pv xs.length ys H->Q (.ref D) H):jg nl ix g tf te σ (ItE K a) H1 D Q:=by
 refine qD (n:=xs.length) Pv h0 hD (fun i ys H hi p=>⟨xs,xs[i],hl i ys H p,by simp [hi]⟩) (fun ys H p=>⟨xs,hl _ ys H p,aeN _⟩) (fun i ys H x H' hi p y=>?_) hd
 obtain⟨T,v,ex,hT,eH,hv⟩:=y
 subst ex eH
 exact hs i ys H v T (hv xs (hl i ys H p)) p hT
section
variable {prog:Program}{w:World}{A:Around}{E:Value->Shared->Prop}{s:Shared}
theorem pJ {Q₁:Value->Shared->Prop}
 (h:Q₁ (.ref s.heap.objs.size) { s with heap:=s.heap.push { cls:=.type "set",dict:=none,data:=.set #[] 0 (.fresh 0 0 (!w.params.followText "set-order")) } }) :
 codeAny (model prog w) A (.call (.builtin "set.__new__") ⟨[.type "set"],[]⟩) (wants Q₁ E) s:=by
 refine ahY ?_
 show wpAny _ A.in1 (do checkBuiltinCall "set.__new__" ⟨[.type "set"],[]⟩;again (.builtin "set.__new__" ⟨[.type "set"],[]⟩)) _ _ s
 refine aeE (ajy F.newCall_set_0 (aeK ⟨ahc aiL _,af1 F.entry_set_new ?_⟩))
 rw [afR aiL _]
 unfold Builtin.«set.__new__» Builtin.Frozenset.newClass
 have hsub:=sub_set_self
 obtain⟨hp,g,d,tk,os⟩:=s
 dsimp only
 wp_walk
 refine ahf (aeK ?_)
 dsimp only
 simp only [newObj]
 refine aeE (aky (aeK ?_))
 exact aeK h
theorem pY {Q:Value->Shared->Prop}
 (h:Q (.ref s.heap.objs.size) { s with heap:=s.heap.push { cls:=.type "set",dict:=none,data:=.set #[] 0 (.fresh 0 0 (!w.params.followText "set-order")) } }) :
 wpAny (model prog w) A (call (.type "set") []) Q E s:=by
 obtain⟨c,tl,hmro⟩:=af2.mro
 have hmade:=af2.made
 have hsub:=af2.sub
 refine wpAny_call (ahY ?_)
 show wpAny _ _ (callAny (.type "set") _) _ _ _
 refine aeK ⟨Code.quiet_builtin _ (by decide +kernel),af1 F.entry_type_call ?_⟩
 rw [Around.under_plain (weight_type_call_type "set" [] []) rfl]
 have h1:=af2.notType
 have h2:=af2.canCreate
 have hct:=F.typeCall_set_0
 repeat (any_goals (first | assumption | wp_step))
 generalize hled:(!w.params.followText "set-order")=led at h
 refine agX (pJ (E:=E) (Q₁:=fun obj s₁=>obj=.ref s.heap.objs.size/\s₁={ s with heap:=s.heap.push { cls:=.type "set",dict:=none,data:=.set #[] 0 (.fresh 0 0 led) } }) ⟨rfl,by rw [hled]⟩) fun r s₁ hr=>?_
 cases r with
 | error e=>exact hr
 | ok fl =>
  cases fl with
  | ret obj =>
   obtain⟨rfl,rfl⟩:=hr
   have hS:(s.heap.push { cls:=.type "set",dict:=none,data:=.set #[] 0 (.fresh 0 0 led) }).get? s.heap.objs.size=some { cls:=.type "set",dict:=none,data:=.set #[] 0 (.fresh 0 0 led) }:=aeY _ rfl
   have hT:Shared.TypeIs { s with heap:=s.heap.push { cls:=.type "set",dict:=none,data:=.set #[] 0 (.fresh 0 0 led) } } (.ref s.heap.objs.size) "set" := ⟨_,hS,rfl⟩
   have hli:=af2.init.lookup
   have hbi:=af2.init.bind (.ref s.heap.objs.size)
   repeat (any_goals (first | assumption | wp_step))
   refine agX (codeAny_call_builtin (R:=wants (fun r s₂=>r=.none/\Q (.ref s.heap.objs.size) s₂) E) af2.init.plain F.entry_set_init (check_set_init hT ?_)) fun r₂ s₂ hr₂=>?_
   ·unfold Builtin.«set.__init__» noKeywords
    wp_walk
    exact⟨rfl,h⟩
   ·cases r₂ with
    | error e=>exact hr₂
    | ok fl₂ =>
     cases fl₂ with
     | ret r =>
      obtain⟨rfl,hq⟩:=hr₂
      repeat (any_goals (first | assumption | wp_step))
     | _=>exact hr₂.elim
  | _=>exact hr.elim
end
section
variable {X:Cx}
theorem qe:fu X (.type "set") (fun xs H Q=>xs=[]/\∀ a,H a=none->Q (.ref a) (upd H a (eA X.prog X.w a []))):=by
 intro pins s σ H xs us Q I r h
 obtain⟨rfl,q⟩:=h
 cases r.zero
 exact pY ⟨.ref s.heap.objs.size,_,I.laid (t':=s.toks) (o:=eA X.prog X.w s.heap.objs.size []) (fun b o e=>aeH _ e) (aeN _) (uR (pK X.prog X.w s.heap)),rfl,q _ I.fresh⟩
def acF (P:Program)(w:World)(neg:Bool):R2:=fun x y H Q=>∃ a ss z,x=.str z/\y=.ref a/\H a=some (eA P w a ss)/\Q (.bl (if neg then !decide (z∈ss) else decide (z∈ss))) H
theorem yy:OpR X (compareOp .In) (acF X.prog X.w false):=by
 intro pins s σ H x y v u Q I rx ry h
 obtain⟨a,ss,z,rfl,rfl,e,q⟩:=h
 obtain⟨t,rfl⟩:=rx
 cases ry
 exact wpAny_inSet_of (knd:=PySem.strKind X.prog X.w) ((oq rfl).mpr rfl) rfl (qL I.hok e).setOf ⟨.bl _,H,I.tok _,rfl,q⟩
def aek (ty:V->Hp->Prop)(r:V->List V->Hp->VK->Prop)(to:TE)(t:TA):TE:=fun σ H Q=>to σ H fun x H1=>ty x H1/\t σ H1 fun xs H2=>r x xs H2 Q
variable {o e:Expr}{es:List Expr}{to:TE}{t:TA}{name:Str}{apos cpos:Pos}{T id:String}{r:V->List V->Hp->VK->Prop}{ty:V->Hp->Prop}
theorem aco (hT:∀ (pins:List (Addr×Obj)) (s:Shared) (σ:St) (H:Hp) (x:V) (v:Value),Inv X pins σ H s->RelV x v->ty x H->s.TypeIs v T/\∀ a,v=.ref a->∃ ob,s.heap.get? a=some ob/\ob.dict=none)
 (pa:PlainAttrs T)(slot:Slot T name id)(hty:typeOf (.builtin id)=pure (.type "method_descriptor"))(hm:MtR X id r)(ho:PE X o to)(ha:PA X (e::es) t)
 (hbase:attributeBase o name X.env (eval o X.env)=eval o X.env:=by rfl)
 (hfew:((backTo cpos (starEach (e::es) X.env)).all (fun x=>!x.1) && (backToKw cpos (keywordEach [] X.env)).all (fun x=>x.1.isSome)
  && decide ((e::es).length+([]:List Keyword).length+(if ([]:List Keyword).isEmpty then 0 else 1) < 30))=true:=by rfl)
 (hline:(apos.endLine == cpos.line)=true:=by rfl)(hs:starEach (e::es) X.env=(false,eval e X.env)::starEach es X.env:=by rfl)(hplain:(backTo cpos (starEach es X.env)).any (·.1)=false:=by rfl) :
 PE X (.Call (.Attribute o name apos) (e::es) [] cpos) (aek ty r to t):=by
 intro pins s σ H Q I h
 refine wpAny_Call_method_late hbase hfew hline rfl (thn (ho pins s σ H _ I h) fun v s1 ⟨x,H1,I1,r1,ty,q1⟩=>?_)
 obtain⟨h1,h2⟩:=hT pins s1 σ H1 x v I1 r1 ty
 refine⟨T,id,pa,slot,hty,h1,h2,?_⟩
 have hA:=ha cpos pins s1 σ H1 _ I1 q1
 rw [hs] at hA ⊢
 refine agQ (by show (false || (backTo cpos (starEach es X.env)).any (·.1))=false;rw [hplain]<;>rfl) (ahB ?_)
 exact thn hA fun us s2 ⟨vs,H2,I2,r2,q2⟩=>hm pins s2 σ H2 x vs v us Q I2 r1 r2 q2
def adx (P:Program)(w:World):V->Hp->Prop:=fun x H=>∃ a ss,x=.ref a/\H a=some (eA P w a ss)
theorem zJ:∀ (pins:List (Addr×Obj)) (s:Shared) (σ:St) (H:Hp) (x:V) (v:Value),Inv X pins σ H s->RelV x v->adx X.prog X.w x H->s.TypeIs v "set" ∧ ∀ a,v=.ref a->∃ ob,s.heap.get? a=some ob/\ob.dict=none:=by
 intro pins s σ H x v I r h
 obtain⟨a,ss,rfl,e⟩:=h
 cases r
 obtain⟨es,ep,t,T,_⟩:=qL I.hok e
 exact⟨⟨_,T.get,rfl⟩,fun b z=>by cases z;exact⟨_,T.get,rfl⟩⟩
def aa4 (P:Program)(w:World):V->List V->Hp->VK->Prop:=fun x vs H Q=>∃ a ss z,x=.ref a/\vs=[.str z]/\H a=some (eA P w a ss)/\ss.length+1 < scanBound/\∀ ss',((z∈ss/\ss'=ss)\/(z ∉ ss/\ss'.Perm (ss++[z])))->ss'.Nodup->Q .non (upd H a (eA P w a ss'))
theorem oP:MtM X "set.add" (aa4 X.prog X.w):=by
 intro pins s σ H x vs v us Q I rx rv h
 obtain⟨a,ss,z,rfl,rfl,e,hr,q⟩:=h
 cases rx
 obtain⟨u,rfl,t,rfl⟩:=rv.one
 have tx:=qL I.hok e
 refine af4 F.slot_set_add tx.setOf.typeIs F.entry_set_add ?_ (F.args_set_add_2 _ _)
 unfold Builtin.«set.add» Builtin.Frozenset.oneOther
 simp only [List.isEmpty_nil,bind_assoc]
 unfold Builtin.Frozenset.addrOf setAdd
 refine aeE (aeK ?_)
 try dsimp only
 refine aeE (aeK ?_)
 try dsimp only
 refine aeE ?_
 refine afD ?_
 refine aeE ((PySem.strKind X.prog X.w).pyHash (k:=z) ((oq rfl).mpr rfl) ?_)
 refine iP (s:={ s with toks:=s.toks+1 }) tx hr fun h' ss' hsb tx' alt=>?_
 show wpAny _ _ (ret Value.none) _ _ _
 refine aeK ⟨_,rfl,.non,_,jJ (t':=s.toks+1) (I.tok (s.toks+1)) (by rw [e];exact True.intro) hsb ?_ (uR tx'),rfl,q ss' alt tx'.nd⟩
 obtain⟨_,_,_,T,_⟩:=tx'
 exact⟨_,T.get⟩
def abJ:V->List V->Hp->VK->Prop:=fun x vs H Q=>∃ a kvs k y,x=.ref a/\vs=[kV k,y]/\H a=some (.dK kvs)/\kvs.length < sizeLine/\(∀ v,fq kvs k=some v->Q v H)/\(fq kvs k=none->Q y (upd H a (.dK (kO kvs k y))))
theorem pz:MtM X "dict.setdefault" abJ:=by
 intro pins s σ H x vs v us Q I rx rv h
 obtain⟨a,kvs,k,y,rfl,rfl,e,hl,q1,q2⟩:=h
 cases rx
 obtain⟨u,r,rfl,ru,rr⟩:=rv.two
 obtain⟨z,hd,ws,rel,dd⟩:=wI I.hok e
 refine ai1 aiB dd.typeIs PySem.F.entry_dict_setdefault (PySem.F.args_dict_setdefault_3 _ _ _) (kt_meets_setdefault (bz X.prog X.w) a (qw ru) hd r) ⟨ws,dd,by rw [← rel.length];exact z,fun v' hv'=>?_,fun hn h' dd' hs=>?_⟩
 ·have ro:=rel.val k
  rw [hv'] at ro
  cases q:fq kvs k with
  | none=>rw [q] at ro;exact ro.elim
  | some v0 =>
   rw [q] at ro
   exact⟨v0,H,I.tok _,ro,q1 v0 q⟩
 ·have ro:=rel.val k
  rw [hn] at ro
  cases q:fq kvs k with
  | some v0=>rw [q] at ro;exact ro.elim
  | none =>
   have he:∃ q,h'.get? a=some q:=let ⟨q,_,_,hq,_⟩:=dd';⟨q,hq⟩
   have hl':(kO kvs k y).length<=sizeLine:=by have:=eP kvs k y;omega
   exact⟨y,_,jJ I (by rw [e];exact True.intro) hs he (yx hl' hd (rel.put k rr) dd'),rr,q2 q⟩
theorem zu:adY X (fun x y H Q=>∃ p xs i v,x=.ref p/\y=.int (i:Nat)/\SqL X.K H p xs/\xs[i]? = some v/\Q v H):=by
 intro pins s σ H x y v u Q I rx ry h
 obtain⟨p,xs,i,z,rfl,rfl,hq,he,q⟩:=h
 cases rx
 obtain⟨t,rfl⟩:=ry
 obtain⟨its,r,pl,hz⟩:=I.list hq
 obtain⟨w,ew,rw'⟩:=r.get he
 have hi:i < xs.length:=(aeJ.mp he).1
 have hn:=jA
 exact wpAny_getItem_list pl.isList (by omega) (by omega) (by simpa using ew) ⟨z,H,I,rw',q⟩
end
section
variable {X:Cx}{K:PySem.W.Frag}{P:Program}{w:World}
theorem call_len_set (hP:X.prog=P)(hw:X.w=w):fu X (.builtin "len") (fun xs H Q=>∃ a ss,xs=[.ref a]/\H a=some (eA P w a ss)/\Q (.int ss.length) H):=by
 subst hP hw
 intro pins s σ H xs us Q I r h
 obtain⟨a,ss,rfl,e,q⟩:=h
 obtain⟨u,rfl,rx⟩:=gY r
 cases rx
 have tx:=qL I.hok e
 have hl:=tx.len
 obtain⟨es,ep,t,T,e2,nd⟩:=tx
 subst e2
 have hz:(u9 es).length=es.size:=by simp [u9]
 have h4:scanBound=4096:=rfl
 refine PySem.call_len_set T.get ⟨rfl,rfl,rfl⟩ rfl T.fit (by omega) ⟨.int _,H,I.tok _,⟨_,rfl⟩,?_⟩
 rw [hz] at q
 exact q
theorem qj (hP:X.prog=P)(hw:X.w=w)(hK:X.K=K)(hc:X.calm=true):fu X (.type "set") (fun xs H Q=>∃ (p:Addr) (ss:List Str),xs=[.ref p]/\SqL K H p (ss.map V.str)/\ss.length+1 < scanBound/\∀ (a:Addr) (ts:List Str),H a=none->xE ts ss->Q (.ref a) (upd H a (eA P w a ts))):=by
 subst hP hw hK
 exact gQ hc
theorem oj (hK:X.K=K):OpR X (compareOp .In) (rIn K false):=by subst hK;exact qQ
theorem oS (hK:X.K=K):OpR X (compareOp .NotIn) (rIn K true):=by subst hK;exact gp
theorem lG:fu X (.builtin "sorted") (fun xs H Q=>∃ (p:Addr) (ns:List Int),xs=[.ref p]/\SqL X.K H p (ns.map V.int)/\ns.length < 64/\∀ (l:Addr) (ns':List Int),H l=none->ns'.Perm ns->ns'.Pairwise (·<=·)->Q (.ref l) (upd H l (.lst (ns'.map V.int)))):=by
 intro pins s σ H xs us Q I r h
 obtain⟨p,ns,rfl,hq,hl,q⟩:=h
 obtain⟨u,rfl,rx⟩:=gY r
 cases rx
 obtain⟨its,rv,pl,hz⟩:=I.list hq
 have hlen:=rv.length
 rw [aeD] at hlen
 refine sorted_ints pl.isList (oz rv) (by omega) fun out ns' a1 a2 a3=>?_
 obtain⟨e,he⟩:=sortedAll_at s.heap its out
 have hlen':ns'.length=ns.length:=a2.length_eq
 refine⟨.ref (s.heap.objs.size+1),_,I.laid (t':=s.toks) (o:=.lst (ns'.map V.int)) (fun b o e=>sortedAll_old e) (agG _) ⟨?_,out.toList,e,ji a1,?_⟩,rfl,q _ ns' (I.hok.fresh (agG _)) a2 a3⟩
 ·rw [aeD]
  exact afb (ae1 (by omega:ns'.length < 64) (by decide))
 ·simpa using he
end
section
variable {X:Cx}
theorem zk {i:Nat}{x:Str}{pos' spos:Pos}{elt tg iter:Expr}{ifs:List Expr}{scope:Scope}{pos:Pos}{N':List Str}{nl:Nat}{ix:List Nat}{wi:TI}{g:TG}{tf:TT}{te:TE}(hN:X.N.Nodup)(hi':X.N[i]? = some x)(hx:Loc X.env.scope x)
 (hc:X.calm=true)(S:CompScope X scope)(Cp:ab6 X scope N' nl ix)(hi:PI X tg iter wi)
 (hg:∀ C fp s₀ H₀,PG (X.comp scope N' C fp s₀ H₀) tg g)(hf:∀ C fp s₀ H₀,PIf (X.comp scope N' C fp s₀ H₀) ifs tf)(he:∀ C fp s₀ H₀,PE (X.comp scope N' C fp s₀ H₀) elt te)
 (hsw:swapsWith (.ListComp elt [⟨tg,iter,ifs,0⟩] scope pos) (some (.Name x pos')) spos.line X.env=pure true)
 (hs:∀ x,foldedSetIterable iter X.env x=pure x)(hfn:X.fn x=true\/X.env.scope.names.lookup x=some .local):PS X (.Assign [.Name x pos'] (.ListComp elt [⟨tg,iter,ifs,0⟩] scope pos) spos) (wB (qr nl ix wi g tf te) (bJ i)):=by
 intro pins s σ H D I h
 rw [exec_Assign_Name_used _ _ _ _ hsw]
 refine aeE (ago (aeE ?_))
 show wpAny _ X.A (do let _ ← comprehension (.ListComp elt [⟨tg,iter,ifs,0⟩] scope pos) scope X.env _ (newList []) false (eval iter X.env) (some (assign (.Name x pos') X.env))) _ _ s
 refine aeE (afu (ag5 (use:=some (assign (.Name x pos') X.env)) (cl:=oU X.env scope.names []) (Q:=fun _ s'=>∃ σ' H',Inv X pins σ' H' s'/\D.nx σ' H') rfl hs (iB (S.cells I.ok)) S.kind S.loc ?_) (fun _ s' hq=>aeK (aeK hq)) fun _ _ e=>e)
 refine thn (hi pins s σ H _ I h) fun v s1 h1=>thn h1 fun itv s2 h2=>?_
 obtain⟨it,fp,tn,J,H2,rfl,I2,T,st2,f2,h2⟩:=h2
 obtain⟨W,⟨m0,w0⟩,turn⟩:=h2 s2.heap.objs.size I2.fresh
 refine afM (ahC S.nocell (by intro y hy;simp at hy) (fun h₁ hns₁ hsb₁=>?_) S.kind)
 dsimp only at hns₁ hsb₁ ⊢
 have fpo:∀ b∈fp,b < s2.heap.objs.size:=fun b hb=>by
  obtain⟨o,e,_⟩:=T.obj 0 _ st2 b hb
  exact aeR e
 have I3:Inv X pins σ (upd H2 s2.heap.objs.size (.lst [])) { s2 with heap:=s2.heap.push { cls:=.type "list",data:=.seq ([]:List Value).toArray },toks:=s2.toks }:=I2.lnew .nil (ae2 _)
 have hD:(upd H2 s2.heap.objs.size (.lst [])) s2.heap.objs.size=some (.lst []):=ag
 have f3:∀ b∈fp,nX X pins (upd H2 s2.heap.objs.size (.lst [])) b:=fun b hb=>by
  refine⟨?_,(f2 b hb).2⟩
  rw [ah (ae4 (fpo b hb))]
  exact (f2 b hb).1
 generalize hS3:s2.heap.push { cls:=.type "list",dict:=none,data:=.seq ([]:List Value).toArray }=g3 at hns₁ hsb₁ I3 ⊢
 have sz3:g3.objs.size=s2.heap.objs.size+1:=by rw [← hS3,agn]
 have fpo3:∀ b∈fp,b < ({ s2 with heap:=g3,toks:=s2.toks }:Shared).heap.objs.size:=fun b hb=>by
  show b < g3.objs.size
  rw [sz3]
  exact af7 (fpo b hb)
 have old:∀ b o,g3.get? b=some o->h₁.get? b=some o:=fun b o e=>hsb₁.extBut b o (ae4 (aeR e)) (aeH _ e)
 have I4:=kT (tk:=s2.toks+([]:List (Str×Value)).length) S Cp I3 f3 fpo3 hns₁ old
 generalize hX:X.comp scope N' g3.objs.size fp { s2 with heap:=g3,toks:=s2.toks } (upd H2 s2.heap.objs.size (.lst []))=X' at *
 have hPr:X'.prog=X.prog:=by rw [← hX];rfl
 have hWr:X'.w=X.w:=by rw [← hX];rfl
 have hKr:X'.K=X.K:=by rw [← hX];rfl
 have hAr:X'.A=X.A:=by rw [← hX];rfl
 have hCa:X'.calm=true:=by rw [← hX];exact hc
 have hXe:X'.xe=fun _ _=>False:=by rw [← hX];rfl
 have hEx:X'.ex=fp:=by rw [← hX];rfl
 have hPn:X'.pn=[]:=by rw [← hX];rfl
 have hLo:X'.env.locals=g3.objs.size:=by rw [← hX];rfl
 have hEn:X'.env=compEnvC scope (oU X.env scope.names []) g3.objs.size X.env:=by rw [← hX];rfl
 have hg':=hg g3.objs.size fp { s2 with heap:=g3,toks:=s2.toks } (upd H2 s2.heap.objs.size (.lst []))
 have hf':=hf g3.objs.size fp { s2 with heap:=g3,toks:=s2.toks } (upd H2 s2.heap.objs.size (.lst []))
 have he':=he g3.objs.size fp { s2 with heap:=g3,toks:=s2.toks } (upd H2 s2.heap.objs.size (.lst []))
 rw [hX] at hg' hf' he'
 have I4':Inv X' [] (dz nl ix σ) (upd H2 s2.heap.objs.size (.lst [])) { s2 with heap:=h₁,toks:=s2.toks+([]:List (Str×Value)).length }:=I4
 have back:∀ {H':Hp} {σ':St} {pins':List (Addr×Obj)} {s':Shared} {h':Heap},Inv X' pins' σ' H' s'->Heap.SameBut g3.objs.size s'.heap h'->Inv X pins σ H' { s' with heap:=h' }:=fun I' sb=>by
  subst hX
  exact jt I3 f3 I' sb
 have stat:∀ {H':Hp},(∀ b∈fp,H' b=none)->∀ b∈fp,nX X' [] H' b:=fun hn b hb=>by
  refine⟨hn b hb,?_,?_,.inl (by rw [hEx];exact hb),?_,fun p hp=>by rw [hPn] at hp;cases hp⟩
  ·rw [hLo];exact ae4 (fpo3 b hb)
  ·exact I4'.ok.exfs b (by rw [hEx];exact hb)
  ·exact (I4'.ok.exf b (by rw [hEx];exact hb)).2
 have loop:codeAny (model X.prog X.w) X.A (.compLoop (.ListComp elt [⟨tg,iter,ifs,0⟩] scope pos) 0 (.ref it) (.ref s2.heap.objs.size) X'.env)
  (compPost (model X.prog X.w) X.A X.xe (some (assign (.Name x pos') X.env)) (fun _ s'=>∃ σ' H',Inv X pins σ' H' s'/\D.nx σ' H') (.ref s2.heap.objs.size) g3.objs.size) { s2 with heap:=h₁,toks:=s2.toks+([]:List (Str×Value)).length }:=by
  rw [← hPr,← hWr,← hAr]
  refine oK (fun n s'=>∃ i ys H',Inv X' [] (dz nl ix σ) H' s'/\tn i s'.heap/\(∀ b∈fp,H' b=none)/\W i n ys H') ?_ m0
   ⟨0,[],_,I4',T.keep _ _ _ st2 (fun b hb o e=>old b o (by rw [← hS3];exact aeH _ e)),fun b hb=>(f3 b hb).1,w0⟩
  rintro n s5 ⟨i,ys,H5,I5,st5,fr5,w5⟩
  obtain⟨hD5,alt⟩:=turn i n ys H5 w5
  rcases alt with ⟨stop,qn⟩ | ⟨go,step⟩
  ·rw [hPr,hWr]
   refine thn (T.done X' hPr hWr hKr hCa i [] s5 _ H5 _ I5 (stat fr5) st5 stop) fun r s6 ⟨hr,I6⟩=>?_
   subst hr
   obtain⟨m,hn,_⟩:=I6.loc
   rw [hLo] at hn
   have I7:Inv X pins σ H5 s6:=back I6 (aji _ _)
   have nC:H5 g3.objs.size=none:=by
    have:=I6.free
    rw [hLo] at this
    exact this
   have fC:nX X pins H5 g3.objs.size:=I3.fpOk (aeN _) nC
   show wpAny _ _ (assign (.Name x pos') X.env (.ref s2.heap.objs.size)) _ _ _
   refine wpAny_assign_Name (qo I7 hN hi' hx (v:=.ref s2.heap.objs.size) rfl (fun s8 I8 ⟨a8,sb8,ha8⟩=>?_) hfn)
   have nCa:g3.objs.size≠a8:=by
    rcases ha8 with z | z
    ·rw [z];exact fC.2.1
    ·exact fun q=>fC.2.2.2.2.1 x a8 z q.symm
   refine⟨m,hn.sameBut sb8 nCa,fun h' sb=>⟨_,H5,?_,qn⟩⟩
   exact I8.turnedL (t':=s8.toks) (fp:=[g3.objs.size]) (fun b o hb e=>(sb.2 b (fun z=>hb (by rw [z];exact aeF.mpr rfl))).trans e) (fun b hb=>by rw [aeF.mp hb];exact fC)
  ·have it5:=T.item X' hPr hWr hKr hCa i [] s5 _ H5 (fun _ _=>False) I5 (stat fr5) st5 go
   rw [← hPr,← hWr] at it5
   refine thn it5 fun r s6 ⟨u,hr,h6⟩=>?_
   subst hr
   refine thn h6 fun _ s7 ⟨x,H7,I7,r7,y7,st7,fr7⟩=>?_
   have I7':=I7.pinned (stat fr7) (T.obj _ _ st7)
   have g7:=hg' _ s7 _ H7 x u _ I7' r7 (step x H7 y7)
   rw [hXe] at g7
   refine thn g7 fun _ s8 ⟨σ8,H8,I8,⟨hl8,hd8⟩,q8⟩=>?_
   have f8:=hf' _ s8 σ8 H8 _ I8 q8
   rw [hXe] at f8
   refine thn f8 fun ok s9 ⟨H9,I9,q9⟩=>?_
   have again:∀ {H10:Hp} {s10:Shared} {ys':List V},Inv X' ([]++jY fp s7.heap) σ8 H10 s10->(∃ m',m' < n/\W (i+1) m' ys' H10)->∃ m,m < n/\∃ i ys H',Inv X' [] (dz nl ix σ) H' s10/\tn i s10.heap/\(∀ b∈fp,H' b=none)/\W i m ys H':=fun {H10 s10 ys'} I10 ⟨m',hm,w'⟩=>by
    refine⟨m',hm,i+1,ys',H10,jl I10.unpinned hl8 hd8,T.keep _ _ _ st7 fun b hb o e=>(I10.pin (b,o) (aeL _ (aeL _ (cS hb e)))).1,fun b hb=>?_,w'⟩
    obtain⟨o,e,d⟩:=T.obj _ _ st7 b hb
    exact (I10.pin (b,o) (aeL _ (aeL _ (cS hb e)))).2.1
   cases ok with
   | false =>
    rw [if_neg aeM] at q9 ⊢
    exact again I9 q9
   | true =>
    rw [if_pos rfl] at q9 ⊢
    have e9:=he' _ s9 σ8 H9 _ I9 q9
    rw [hXe] at e9
    refine thn e9 fun xv s10 ⟨y,H10,I10,r10,hD10,hz,mw⟩=>?_
    have a10:=df (X:=X') _ s10 σ8 H10 (.ref s2.heap.objs.size) [y] _ [xv] (fun _ H'=>H'=upd H10 s2.heap.objs.size (.lst (ys++[y]))) I10 rfl (.cons r10 .nil) ⟨_,ys,y,rfl,rfl,hD10,hz,rfl⟩
    rw [hXe] at a10
    refine thn a10 fun _ s11 ⟨_,H11,I11,_,e11⟩=>?_
    subst e11
    exact again I11 mw
 rw [hEn] at loop
 exact codeAny_compStart_list loop (T.self _ 0 _ _ _ (T.keep _ _ _ st2 (fun b hb o e=>old b o (by rw [← hS3];exact aeH _ e))) loop)
theorem iX {i:Nat}{x:Str}{pos' spos:Pos}{elt tg iter:Expr}{ifs:List Expr}{outer scope:Scope}{pos:Pos}{N N':List Str}{nl:Nat}{ix:List Nat}{wi:TI}{g:TG}{tf:TT}{te:TE}(hN:X.N.Nodup)(hi':X.N[i]? = some x)(hx:Loc X.env.scope x)
 (h1:X.env.scope=outer)(h2:X.N=N)(hc:X.calm=true)(hi:PI X tg iter wi)
 (hg:∀ C fp s₀ H₀,PG (X.comp scope N' C fp s₀ H₀) tg g)(hf:∀ C fp s₀ H₀,PIf (X.comp scope N' C fp s₀ H₀) ifs tf)(he:∀ C fp s₀ H₀,PE (X.comp scope N' C fp s₀ H₀) elt te)
 (hsw:swapsWith (.ListComp elt [⟨tg,iter,ifs,0⟩] scope pos) (some (.Name x pos')) spos.line X.env=pure true:=by rfl)
 (hck:jj outer scope N N' nl ix=true:=by decide +kernel)(hs:∀ x,foldedSetIterable iter X.env x=pure x:=by intro _;rfl)(hfn:X.fn x=true\/X.env.scope.names.lookup x=some .local:=by first | exact .inl rfl | exact .inr rfl | assumption) :
 PS X (.Assign [.Name x pos'] (.ListComp elt [⟨tg,iter,ifs,0⟩] scope pos) spos) (wB (qr nl ix wi g tf te) (bJ i)) :=
 let ⟨S,Cp⟩:=iZ h1 h2 hck
 zk hN hi' hx hc S Cp hi hg hf he hsw hs hfn
end
section
variable {X:Cx}{K:PySem.W.Frag}{P:Program}{w:World}
end
theorem uh (k:Str):∀ {ss:List Str},k∈ss->∃ j,ss[j]? = some k/\(∀ m,m < j->ss[m]?≠some k)/\ss.erase k=ss.eraseIdx j
 | a::r,h=>by
  by_cases e:a=k
  ·subst e
   exact⟨0,rfl,fun m hm=>absurd hm (aiM _),by simp⟩
  ·have hk:k∈r:=(aeX.mp h).resolve_left fun z=>e z.symm
   obtain⟨j,h1,h2,h3⟩:=uh k hk
   refine⟨j+1,by simpa using h1,fun m hm=>?_,?_⟩
   ·cases m with
    | zero=>simpa using e
    | succ m=>simpa using h2 m (by omega)
   ·rw [List.erase_cons_tail (by simpa using e),h3]
    rfl
theorem i5 {k:Str}:∀ {vs:List Value} {ss:List Str},StrsAre vs ss->∀ j (hj:j < vs.length),isStrOf k vs[j]=true↔ss[j]? = some k
 | _,_,.nil,j,hj=>absurd hj (aiM _)
 | _,_,.cons x t r,0,hj=>by simp [isStrOf]
 | _,_,.cons x t r,j+1,hj=>by
  have:=i5 (k:=k) r j (by simpa using hj)
  simpa using this
theorem ik {α β:Type}(f:α->β):∀ (l:List α) (j:Nat),(l.eraseIdx j).map f=(l.map f).eraseIdx j
 | [],_=>rfl
 | _::_,0=>rfl
 | a::l,j+1=>by
  show f a::(l.eraseIdx j).map f=f a::(l.map f).eraseIdx j
  rw [ik f l j]
section
variable {X:Cx}
def abd:V->List V->Hp->VK->Prop:=fun x vs H Q=>∃ (l:Addr) (ss:List Str) (k:Str),x=.ref l/\vs=[.str k]/\H l=some (.lst (ss.map V.str))/\k∈ss/\Q .non (upd H l (.lst ((ss.erase k).map V.str)))
theorem lI:MtM X "list.remove" abd:=by
 intro pins s σ H x vs v us Q I rx rv h
 obtain⟨l,ss,k,rfl,rfl,hH,hk,q⟩:=h
 cases rx
 obtain⟨u,rfl,t,rfl⟩:=rv.one
 obtain⟨z,its,n,r,hl,e⟩:=I.lstM hH
 have hi:StrsAre its ss:=eJ r
 obtain⟨j,h1,h2,h3⟩:=uh k hk
 have hjs:j < ss.length:=(aeJ.mp h1).1
 have hlen:its.length=ss.length:=by rw [← hl,aeD]
 have hj:j < its.length:=by omega
 refine aiE F.slot_list_remove ⟨_,e,rfl⟩ F.entry_list_remove (F.args_list_remove_2 _ _)
  (MeetsSeq.list_remove l its.toArray n (.str k t) (isStrOf k) (fun y hy=>eq_isStrOf k t hi y (by simpa using hy)) j (by simpa using hj) (by simpa using (i5 hi j hj).mpr h1) (fun m hm hlt=>?_) (by rw [aeU];omega)) ⟨e,?_⟩
 ·have hm':m < its.length:=by simpa using hm
  have:=h2 m hlt
  rw [← Bool.not_eq_true]
  intro c
  exact this ((i5 hi m hm').mp (by simpa using c))
 rw [h3,ik] at q
 refine⟨.non,_,I.lset (its':=its.eraseIdx j) hH e ?_ (r.eraseIdx j) ?_,rfl,q⟩
 ·show its.toArray.eraseIdxIfInBounds j=(its.eraseIdx j).toArray
  rw [ag4]
 ·have:=mS (ss.map V.str) j
  omega
def adH (K:PySem.W.Frag)(ta:TE):TE:=fun σ H Q=>ta σ H fun x H1=>∃ k,ady K x H1 k/\Q (.bl (!k)) H1
theorem abS {a:Expr}{ta:TE}{pos:Pos}(ha:PE X a ta):PE X (.UnaryOp .Not a pos) (adH X.K ta):=by
 intro pins s σ H Q I h
 refine UnaryOp_ (thn (ha pins s σ H _ I h) fun v s1 ⟨x,H1,I1,r1,k,tr,q1⟩=>?_)
 exact not_of (thn (aaz pins s1 σ H1 x v (fun b H'=>Q (.bl (!b)) H') I1 r1 ⟨k,tr,q1⟩) fun b s2 ⟨H2,I2,q2⟩=>⟨.bl (!b),H2,I2,rfl,q2⟩)
end
section
variable {prog:Program}{w:World}{A:Around}{E:Value->Shared->Prop}
end
section
variable {X:Cx}
def kD:Key->PyData
 | .inl i=>.int i
 | .inr x=>.str x
theorem acj:OpR X (compareOp .Is) (fun x y H Q=>∃ a b:Bool,x=.bl a/\y=.bl b/\Q (.bl (a == b)) H):=by
 intro pins s σ H x y v u Q I rx ry h
 obtain⟨a,b,rfl,rfl,q⟩:=h
 cases rx
 cases ry
 refine aeK (bI I q ?_)
 cases a<;>cases b<;>rfl
end
section
variable {P:Program}{w:World}{K:PySem.W.Frag}{mg:Str->Option Value}{base:Heap}
end
section
variable {X:Cx}
def aeu (K:PySem.W.Frag)(te tk:TE):TE:=fun σ H Q=>te σ H fun x H1=>tk σ H1 fun y H2=>y=.int (-1)/\∃ a xs,x=.ref a/\SqL K H2 a xs/\∀ p,H2 p=none->Q (.ref p) (upd H2 p (.lst xs.reverse))
theorem Vals.rev:∀ {xs:List V} {us:List Value},Vals xs us->Vals xs.reverse us.reverse
 | _,_,.nil=>.nil
 | _,_,.cons a b=>by
  rw [ajl,ajl]
  exact (Vals.rev b).append (.cons a .nil)
end
section
variable {prog:Program}{w:World}{A:Around}{E:Value->Shared->Prop}{s:Shared}
def pr:Nat->List Value->List (Key×Value)
 | _,[]=>[]
 | k,v::r=>(.inl (k:Int),v)::pr (k+1) r
end
section
variable {prog:Program}{w:World}{A:Around}{R:Result->Shared->Prop}
end
section
variable {prog:Program}{w:World}{A:Around}{E:Value->Shared->Prop}{s:Shared}
end
section
variable {X:Cx}
end
section
variable {prog:Program}{w:World}{A:Around}{E:Value->Shared->Prop}{s:Shared}
end
section
variable {prog:Program}{w:World}{A:Around}{R:Result->Shared->Prop}
end
section
variable {prog:Program}{w:World}{A:Around}{E:Value->Shared->Prop}{s:Shared}
end
def vt (ta:TA):TE:=fun σ H Q=>ta σ H fun xs H1=>∃ n:Nat,xs=[.int (n:Int)]/\n<=1000000/\∀ l,H1 l=none->Q (.ref l) (upd H1 l (.lst ((List.range n).map fun i=>V.int (i:Nat))))
section
variable {X:Cx}
theorem vN:bootBuiltins "list" = some (.type "list"):=by decide +kernel
theorem oQ:∀ {its:List Value} {m:Nat},(∀ (j:Nat) v,its[j]? = some v->∃ t,v=.int (((m+j:Nat):Int)) t)->Vals ((List.range' m its.length).map fun i=>V.int (i:Nat)) its
 | [],_,_=>.nil
 | u::us,m,h=>by
  rw [afd,List.range'_succ,aeZ]
  refine .cons ?_ (oQ (m:=m+1) fun j v e=>?_)
  ·obtain⟨t,rfl⟩:=h 0 u rfl
   exact⟨t,rfl⟩
  ·obtain⟨t,rfl⟩:=h (j+1) v (by simpa using e)
   exact⟨t,by rw [show m+1+j=m+(j+1) by omega]⟩
theorem rN {a:Expr}{ta:TA}{p p2 pos pos2:Pos}(hg:Gl X "list")(hm:X.mg "list" = none)(hg2:Gl X "range")(hm2:X.mg "range" = none)(hc:X.calm=true)(ha:PA X [a] ta)(hs2:starEach [a] X.env=[(false,eval a X.env)]:=by rfl)
 (hs:starEach [.Call (.Name "range" p2) [a] [] pos2] X.env=[(false,eval (.Call (.Name "range" p2) [a] [] pos2) X.env)]:=by rfl):PE X (.Call (.Name "list" p) [.Call (.Name "range" p2) [a] [] pos2] [] pos) (vt ta):=by
 intro pins s σ H Q I h
 refine Call_ (iR I hg hm vN (agp ?_ hs rfl))
 rw [hs]
 show wpAny _ _ (spliced [(false,eval _ X.env)]) _ _ s
 refine agW ?_
 refine Call_ (iR I hg2 hm2 boot_range (agp (thn (ha pos2 pins s σ H _ I h) fun us s1 ⟨vs,H1,I1,r1,q1⟩=>?_) hs2 rfl))
 obtain⟨n,e,hn,q⟩:=q1
 subst e
 obtain⟨u,rfl,t,rfl⟩:=gY r1
 refine call_range_1 ?_
 refine ahx ?_
 have I2:Inv X pins σ H1 { s1 with heap:=s1.heap.push { cls:=.type "range",data:=.fields #[.int 0 s1.toks,.int n t,.int 1 (s1.toks+1)] },toks:=s1.toks+1+1 }:=I1.kept fun b o e=>aeH _ e
 refine call_list_range (n:=n) (I1.ok.hd hc) (IsRange.new ..) (small_one (by omega) (by omega) (by omega) (by omega)) (by rw [rangeSize_one];split<;>omega) (by omega) fun h' tk acc c k hg it=>?_
 refine⟨.ref _,_,I2.laid (t':=tk) (o:=.lst ((List.range n).map fun i=>V.int (i:Nat))) k (aeN _) ?_,rfl,q _ (I2.hok.fresh (aeN _))⟩
 obtain⟨i1,i2⟩:=it
 refine⟨by rw [aeD,afs];exact afk hn (by decide),acc.toList,c,?_,by simpa using hg⟩
 have z:=oQ (its:=acc.toList) (m:=0) fun j v e=>by
  obtain⟨t',rfl⟩:=i2 j v (by simpa using e)
  exact⟨t',by simp⟩
 rw [aeT,i1,← List.range_eq_range'] at z
 exact z
theorem zS {K:PySem.W.Frag}{nl:Nat}{ix:List Nat}{te:TE}{σ:St}{H1:Hp}{D a:Addr}{Q:VK}{xs:List V}{F:V->V}(ha:H1 a=some (.lst xs))(nD:H1 D=none)(hl:xs.length<=1000000)
 (hc:∀ x,((dz nl ix σ).set 0 (some x)).drop nl=ix.map fun j=>(σ[j]?).join)
 (ht:∀ (H:Hp) (x:V) (R:VK),x∈xs->Same H1 H->R (F x) H->te ((dz nl ix σ).set 0 (some x)) H R)
 (hd:∀ H,Same H1 H->H D=some (.lst (xs.map F))->Q (.ref D) H):jg nl ix (bJ 0) yz te σ (Itl K a) H1 D Q:=by
 have lim:1000000 < sizeLine:=by decide
 refine cZ (xs:=xs) (fun i ys H=>ys=(xs.take i).map F/\H D=some (.lst ys)/\Same H1 H) ⟨rfl,ag,fun b u e=>by rw [ah (af e nD)];exact e⟩ (fun i ys H ⟨_,h,_⟩=>h) (fun i ys H ⟨_,_,s⟩=>SqL.of (s a _ ha)) ?_ ?_
 ·rintro i ys H x hx ⟨rfl,hD,s⟩
  have hi:i < xs.length:=(aeJ.mp hx).1
  refine dI (hc x) (ht H x _ (afg hx) s ⟨hD,by rw [aeD,ae9];omega,nx hi ⟨?_,ag,fun b u e=>?_⟩⟩)
  ·rw [afc,hx,aeO]
   rfl
  ·rw [ah (af e nD)]
   exact s b u e
 ·rintro ys H ⟨rfl,hD,s⟩
  rw [afm] at hD
  exact hd H s hD
theorem yn {nl:Nat}{ix:List Nat}{te:TE}{σ:St}{H1:Hp}{D:Addr}{Q:VK}{lo:Int}{n:Nat}{F:Nat->V}(nD:H1 D=none)(hl:n<=1000000)
 (hc:∀ x,((dz nl ix σ).set 0 (some x)).drop nl=ix.map fun j=>(σ[j]?).join)
 (ht:∀ (H:Hp) (i:Nat) (R:VK),i < n->Same H1 H->R (F i) H->te ((dz nl ix σ).set 0 (some (.int (lo+i)))) H R)
 (hd:∀ H,Same H1 H->H D=some (.lst ((List.range n).map F))->Q (.ref D) H):jg nl ix (bJ 0) yz te σ (Itr lo n) H1 D Q:=by
 have lim:1000000 < sizeLine:=by decide
 refine gE (fun i ys H=>ys=(List.range i).map F/\H D=some (.lst ys)/\Same H1 H) ⟨rfl,ag,fun b u e=>by rw [ah (af e nD)];exact e⟩ (fun i ys H ⟨_,h,_⟩=>h) ?_ ?_
 ·rintro i ys H hi ⟨rfl,hD,s⟩
  refine dI (hc _) (ht H i _ hi s ⟨hD,by rw [aeD,afs];omega,nx hi ⟨?_,ag,fun b u e=>?_⟩⟩)
  ·rw [ahZ,aeO]
   rfl
  ·rw [ah (af e nD)]
   exact s b u e
 ·rintro ys H ⟨rfl,hD,s⟩
  exact hd H s hD
theorem r9 {K:PySem.W.Frag}{nl:Nat}{ix:List Nat}{tf:TT}{te:TE}{σ:St}{H1:Hp}{D a:Addr}{Q:VK}{xs:List V}{pb:V->Bool}(ha:H1 a=some (.lst xs))(nD:H1 D=none)(hl:xs.length<=1000000)
 (hc:∀ x,((dz nl ix σ).set 0 (some x)).drop nl=ix.map fun j=>(σ[j]?).join)
 (ht:∀ (H:Hp) (x:V) (R:Bool->Hp->Prop),x∈xs->Same H1 H->R (pb x) H->tf ((dz nl ix σ).set 0 (some x)) H R)
 (he:∀ (H:Hp) (x:V) (R:VK),R x H->te ((dz nl ix σ).set 0 (some x)) H R)
 (hd:∀ H,Same H1 H->H D=some (.lst (xs.filter pb))->Q (.ref D) H):jg nl ix (bJ 0) tf te σ (Itl K a) H1 D Q:=by
 have lim:1000000 < sizeLine:=by decide
 refine cZ (xs:=xs) (fun i ys H=>ys=(xs.take i).filter pb/\H D=some (.lst ys)/\Same H1 H) ⟨rfl,ag,fun b u e=>by rw [ah (af e nD)];exact e⟩ (fun i ys H ⟨_,h,_⟩=>h) (fun i ys H ⟨_,_,s⟩=>SqL.of (s a _ ha)) ?_ ?_
 ·rintro i ys H x hx ⟨rfl,hD,s⟩
  have hi:i < xs.length:=(aeJ.mp hx).1
  have lf:((xs.take i).filter pb).length<=i:=afk (agB _ _) (by rw [ae9];omega)
  unfold bL bJ
  refine⟨⟨by simp,hc x⟩,ht H x _ (afg hx) s ?_⟩
  cases e:pb x with
  | true =>
   rw [if_pos rfl]
   refine he H x _ ⟨hD,by omega,nx hi ⟨?_,ag,fun b u e=>?_⟩⟩
   ·rw [afc,hx,afV]
    simp [e]
   ·rw [ah (af e nD)]
    exact s b u e
  | false =>
   rw [if_neg aeM]
   refine nx hi ⟨?_,hD,s⟩
   rw [afc,hx,afV]
   simp [e]
 ·rintro ys H ⟨rfl,hD,s⟩
  rw [afm] at hD
  exact hd H s hD
theorem iV {pos:Pos}:PE X (.List [] pos) (adZ mP):=gT ai
theorem adE {k:Nat}{pos:Pos}:PE X (.Tuple [] k pos) (adt mP):=fX ai
def aaU:Expr->Bool
 | .Starred .. => false
 | _=>true
theorem sI (e:Expr)(es:List Expr)(env:Env)(h:aaU e=true):starEach (e::es) env=(false,eval e env)::starEach es env:=by
 cases e<;>first | rfl | exact absurd h aeM
theorem gX {e:Expr}{es:List Expr}{te:TE}{t:TA}(ha:PE X e te)(hr:PA X es t)(h:aaU e=true):PA X (e::es) (gq te t):=ae ha hr (sI e es _ h)
theorem abq {e k:Expr}{te tk:TE}{p2 pos:Pos}(he:PE X e te)(hk:PE X k tk)(hsb:∀ v i:Value,subscripted (.Slice none none (some k) p2) false v i=operate [v,i] (getItem v i):=by intro _ _;with_unfolding_all rfl):PE X (.Subscript e (.Slice none none (some k) p2) pos) (aeu X.K te tk):=by
 intro pins s σ H Q I h
 refine Subscript_ (thn (he pins s σ H _ I h) fun v s1 ⟨x,H1,I1,r1,q1⟩=>?_)
 refine wpAny_Slice ?_
 rw [evalPart_none]
 refine aeK ?_
 refine aeK ?_
 refine thn (hk pins s1 σ H1 _ I1 q1) fun vk s3 ⟨y,H3,I3,r3,q3⟩=>?_
 obtain⟨rfl,a,xs,rfl,hx,q⟩:=q3
 obtain⟨tk,rfl⟩:=r3
 cases r1
 have I4:Inv X pins σ H3 { s3 with heap:=s3.heap.push { cls:=.type "slice",data:=.fields #[.none,.none,.int (-1) tk] } }:=I3.kept (t':=s3.toks) fun b ob q=>aeH _ q
 obtain⟨its,r,ht,hz⟩:=I4.list hx
 have hlen:=r.length
 refine tail_any (ops:=[.ref a,.ref s3.heap.objs.size]) ht.isList.typeIs ajf.lookup ?_ (hsb _ _)
 refine wpAny_getItem_list_slice ht.isList (Heap.IsSliceOf.new ..) .none .none (.int (-1) tk) (by simp) ?_ (by rw [aeU]<;>omega)
 rw [PySem.W.krv_pick]
 refine⟨.ref _,_,I4.laid (t':=s3.toks) (o:=.lst xs.reverse) (fun b ob q=>aeH _ q) (aeN _) ?_,rfl,q _ (I4.hok.fresh (aeN _))⟩
 exact⟨by rw [aiN];exact hz,_,0,by simpa using r.rev,aeY _ rfl⟩
def zP:V->List V->Hp->VK->Prop:=fun x vs H Q=>∃ l xs y,x=.ref l/\vs=[.int 0,y]/\H l=some (.lst xs)/\xs.length < sizeLine/\Q .non (upd H l (.lst (y::xs)))
theorem vj:MtM X "list.insert" zP:=by
 intro pins s σ H x vs v us Q I rx rv h
 obtain⟨l,xs,y,rfl,rfl,hH,hz,q⟩:=h
 cases rx
 obtain⟨u,w,rfl,ru,rw'⟩:=rv.two
 obtain⟨t,rfl⟩:=ru
 obtain⟨z,its,n,r,hl,e⟩:=I.lstM hH
 refine aiE F.slot_list_insert ⟨_,e,rfl⟩ F.entry_list_insert (F.args_list_insert_3 _ _ _)
  (AutoSeq1.list_insert_list_int_val_1 l its.toArray n 0 t w (by decide) (by rw [aeU];omega)) ⟨e,?_⟩
 refine⟨.non,_,I.lset (its':=w::its) hH e ?_ (.cons rw' r) (by rw [afd];omega),rfl,q⟩
 simp
end
end L2
namespace K7
open PySem L2 PyProof.Rows
def top (i:Nat):Stmt:=PySem.Challenge.pw_keyrooms_k16_whole_barred_or_opened.main.body.getD i (.Pass ⟨0,0,0,0⟩)
abbrev lS:Stmt:=top 10
abbrev iL:Stmt:=top 11
abbrev n9:Stmt:=top 12
abbrev vG:Stmt:=top 13
abbrev iO:Stmt:=top 14
abbrev ab5:Stmt:=top 15
abbrev eQ:Stmt:=top 26
abbrev aaR:Stmt:=top 51
abbrev dO:Stmt:=top 9
abbrev dP:Stmt:=top 16
abbrev b6:Stmt:=top 17
abbrev fU:Stmt:=top 18
abbrev cQ:Stmt:=top 19
abbrev fz:Stmt:=top 20
abbrev dn:Stmt:=top 21
abbrev cT:Stmt:=top 22
abbrev cJ:Stmt:=top 23
abbrev eK:Stmt:=top 24
abbrev bZ:Stmt:=top 27
abbrev dQ:Stmt:=top 28
abbrev bG:Stmt:=top 29
abbrev d4:Stmt:=top 31
abbrev cO:Stmt:=top 32
abbrev eI:Stmt:=top 33
abbrev ck:Stmt:=top 34
abbrev cj:Stmt:=top 35
abbrev eN:Stmt:=top 36
abbrev cw:Stmt:=top 37
abbrev dq:Stmt:=top 38
abbrev cn:Stmt:=top 40
abbrev d7:Stmt:=top 41
abbrev dS:Stmt:=top 42
abbrev dZ:Stmt:=top 43
abbrev b8:Stmt:=top 44
abbrev b7:Stmt:=top 45
abbrev d5:Stmt:=top 46
abbrev cG:Stmt:=top 47
abbrev cy:Stmt:=top 48
abbrev bO:Stmt:=top 49
abbrev cD:Stmt:=top 50
abbrev acG:Stmt:=top 51
structure Cal (K:PySem.W.Frag)(mg:Str->Option Value)(x:Str)(ps:List Str)(f:Addr)(fd:FuncData):Prop where
 mg:mg x=some (.ref f)
 kp:PySem.W.keepIn K (.ref f)=true
 b:Binds K fd ps []
def But (p:Addr)(H H':Hp):Prop:=∀ b u,b≠p->H b=some u->H' b=some u
theorem But.refl (p:Addr)(H:Hp):But p H H:=fun _ _ _ e=>e
theorem But.trans {p:Addr}{H H1 H2:Hp}(a:But p H H1)(b:But p H1 H2):But p H H2:=fun c u n e=>b c u n (a c u n e)
theorem But.upd {p:Addr}{H:Hp}{o:HO}:But p H (upd H p o):=fun b u n e=>by rw [ah n];exact e
theorem But.free {p q:Addr}{H H':Hp}(a:But p H H')(n:q≠p)(e:H' q=none):H q=none:=by
 cases h:H q with
 | none=>rfl
 | some u=>rw [a q u n h] at e;cases e
def jv (e:Expr):Scope:=match e with
 | .ListComp _ _ s _=>s
 | .DictComp _ _ _ s _=>s
 | _=>{ kind:=.function,names:=[],isGenerator:=false,isCoroutine:=false }
def pD (s:Stmt):Expr:=match s with
 | .Return (some e) _=>e
 | _=>.Name "" ⟨0,0,0,0⟩
def bp (z:Str):Prop:=1<=z.length/\z.length<=4/\∀ c∈z.cps.toList,97<=c/\c<=122
def yZ:Sp:=fun vs H Q _=>∃ z:Str,vs=[.str z]/\bp z/\∀ H',Same H H'->Q (.bl true) H'
abbrev lettersS:Str := "abcdefghijklmnopqrstuvwxyz"
theorem v8 (c:Nat)(h1:97<=c)(h2:c<=122):(!(Builtin.Str.occurrences lettersS ⟨#[c]⟩ 0 lettersS.length 1).isEmpty)=true:=by
 have all:∀ k:_root_.Fin 26,(!(Builtin.Str.occurrences lettersS ⟨#[97+k.val]⟩ 0 lettersS.length 1).isEmpty)=true:=by decide +kernel
 have e:=all ⟨c - 97,by omega⟩
 have e2:97+(c - 97)=c:=by omega
 simp only [e2] at e
 exact e
section
variable {P:Program}{w:World}{K:PySem.W.Frag}{mg:Str->Option Value}{base:Heap}
structure Glb (mg:Str->Option Value):Prop where
 isi:mg "isinstance" = none
 str:mg "str" = none
 len:mg "len" = none
 all:mg "all" = none
 letters:∃ t,mg "LETTERS" = some (.str lettersS t)
 most:∃ t,mg "MOST_LETTERS" = some (.int 4 t)
theorem ac0:aO ["thing"] ["thing"] (aq lS):=⟨rfl,rfl,rfl,by decide +kernel,rfl,by decide +kernel,by decide +kernel⟩
def oX (e:Expr):Expr:=match e with
 | .Call _ (a::_) _ _=>a
 | e=>e
abbrev ze:Expr:=oX (pD ((aH lS).getD 1 (.Pass ⟨0,0,0,0⟩)))
theorem acH:jj (aq lS) (jv ze) ["thing"] ["sign"] 1 []=true:=by decide +kernel
theorem nd2:(["sign"]:List Str).Nodup:=by decide +kernel
theorem yM {f:Addr}{fd:FuncData}(F:Fun K "is_kind" "is_kind" lS f fd)(G:Glb mg):aV P w K mg base CX0 1 f fd ["thing"] yZ:=by
 obtain⟨tl,hL⟩:=G.letters
 obtain⟨tm,hM⟩:=G.most
 refine F.ok ac0 (fun vs H Q E h=>?_) (fun cdv A outer s H vs Q E hr h=>?_)
 ·obtain⟨z,rfl,_⟩:=h
  rfl
 ·obtain⟨z,rfl,⟨z1,z2,z3⟩,k⟩:=h
  obtain⟨S,Cp⟩:=iZ (X:=(wj CX0 P w K mg base ["thing"] "is_kind" (aq lS) f cdv A outer s H E).nox) (outer:=aq lS) (N:=["thing"]) rfl rfl acH
  refine⟨_,ak (cU (PW.pt (qF (eF (d6 (aw bU rfl G.isi (by decide +kernel) (ae (pv 0) (ae (fV (v:=.ty "str") (u:=.type "str") rfl G.str (by decide +kernel) rfl) ai)))))
   (oh (eF (uE wO wO av (aw kE rfl G.len ae8 (ae (pv 0) ai)) (tZ (v:=.int 4) rfl hM ⟨tm,rfl⟩))))))
   (au (aN iJ)) aU)
   (au (aN (aw (jo rfl) rfl G.all (by decide +kernel) (ae (kU (tg:=.Name "sign" _) rfl S Cp (acu (pv 0))
    (fun _ _ _ _=>ay (i:=0) nd2 rfl (Or.inl rfl) (.inr rfl)) (fun _ _ _ _=>dv)
    (fun _ _ _ _=>cV yG (pv 0) (tZ (v:=.str lettersS) rfl hL ⟨tl,rfl⟩) (by with_unfolding_all rfl))) ai)))),?_⟩
  have zs:z.length<=sizeLine:=afb (aD (by omega))
  refine⟨_,rfl,_,_,_,true,rfl,.str z,eU K _,true,rfl,?_⟩
  refine gu ?_
  refine⟨_,rfl,z,rfl,zs,1,_,rfl,rfl,true,aft V.bl (afi (by omega)),?_⟩
  refine gU ?_
  refine⟨_,4,rfl,rfl,true,aft V.bl (afi (by omega)),?_⟩
  refine gu ?_
  dsimp only [uc,wy,tCB,gq,mP]
  refine bE _ _ _ _ _ _ _ _ _ ?_
  refine⟨_,rfl,z,rfl,?_⟩
  intro D hD
  refine zB (fun i ys H2=>ys=(List.replicate i true).map V.bl/\H2 D=some (.lst ys)/\Same H H2) ⟨rfl,ag,fun b u e=>by rw [ah (af e hD)];exact e⟩ (fun i ys H2 ⟨_,h,_⟩=>h) ?_ ?_
  ·rintro i ys H2 c hc ⟨rfl,hD2,sm⟩
   have hi:i < z.cps.size:=(aiY.mp hc).1
   have hz:z.length=z.cps.size:=rfl
   have hm:c∈z.cps.toList:=by
    have:=Array.mem_of_getElem? hc
    simpa using this
   refine dI rfl ?_
   refine⟨_,rfl,_,_,rfl,rfl,hD2,by rw [aeD,agf];exact aD (by omega),nx hi ⟨?_,ag,fun b u e=>?_⟩⟩
   ·rw [v8 c (z3 c hm).1 (z3 c hm).2,aix,aeO]
    rfl
   ·rw [ah (af e hD)]
    exact sm b u e
  ·rintro ys H2 ⟨rfl,hD2,sm⟩
   refine⟨D,List.replicate z.cps.size true,rfl,SqL.of hD2,?_⟩
   have e:(List.replicate z.cps.size true).all id=true:=by simp
   rw [e]
   exact k H2 sm
def jT:Sp:=fun vs H Q _=>∃ (a:Addr) (ks:List Str),vs=[.ref a]/\H a=some (.lst (ks.map V.str))/\(∀ k∈ks,bp k)/\ks.length<=1000/\∀ H',Same H H'->Q (.bl true) H'
def ux (e:Expr):Expr:=match e with
 | .BoolOp _ es _=>es.getLastD e
 | e=>e
theorem aba:aO ["thing"] ["thing"] (aq iL):=⟨rfl,rfl,rfl,by decide +kernel,rfl,by decide +kernel,by decide +kernel⟩
abbrev yR:Expr:=oX (ux (pD ((aH iL).getD 0 (.Pass ⟨0,0,0,0⟩))))
theorem abx:jj (aq iL) (jv yR) ["thing"] ["kind"] 1 []=true:=by decide +kernel
theorem nd3:(["kind"]:List Str).Nodup:=by decide +kernel
theorem zt {f fK:Addr}{fd fdK:FuncData}(F:Fun K "are_kinds" "are_kinds" iL f fd)(FK:Fun K "is_kind" "is_kind" lS fK fdK)(cK:Cal K mg "is_kind" ["thing"] fK fdK)(G:Glb mg)(mLi:mg "list" = none):aV P w K mg base CX0 2 f fd ["thing"] jT:=by
 have GK:aV P w K mg base CX0 1 fK fdK ["thing"] yZ:=yM FK G
 refine F.ok aba (fun vs H Q E h=>?_) (fun cdv A outer s H vs Q E hr h=>?_)
 ·obtain⟨a,ks,rfl,_⟩:=h
  rfl
 ·obtain⟨a,ks,rfl,ha,hk,hl,k⟩:=h
  obtain⟨S,Cp⟩:=iZ (X:=(wj CX0 P w K mg base ["thing"] "are_kinds" (aq iL) f cdv A outer s H E).nox) (outer:=aq iL) (N:=["thing"]) rfl rfl abx
  refine⟨_,au (aN (gR (aw bU rfl G.isi (by decide +kernel) (ae (pv 0) (ae (fV (v:=.ty "list") (u:=.type "list") rfl mLi (by decide +kernel) rfl) ai)))
   (jE (aw (jo rfl) rfl G.all (by decide +kernel) (ae (kU (tg:=.Name "kind" _) rfl S Cp (bT (pv 0))
    (fun _ _ _ _=>ay (i:=0) nd3 rfl (Or.inl rfl) (.inr rfl)) (fun _ _ _ _=>dv)
    (fun _ _ _ _=>ax GK hr rfl cK.mg cK.kp cK.b .nil aP (ae (pv 0) ai))) ai))))),?_⟩
  refine⟨_,rfl,_,_,_,true,rfl,.lst ha,eU K _,true,rfl,?_⟩
  refine gU ?_
  dsimp only [uc,wy,tCB,gq,mP]
  refine bE _ _ _ _ _ _ _ _ _ ?_
  refine⟨_,rfl,a,rfl,⟨_,SqL.of ha⟩,?_⟩
  intro D hD
  refine cZ (xs:=ks.map V.str) (fun i ys H2=>ys=(List.replicate i true).map V.bl/\i<=1000/\H2 D=some (.lst ys)/\Same H H2) ⟨rfl,by decide,ag,fun b u e=>by rw [ah (af e hD)];exact e⟩ (fun i ys H2 ⟨_,_,h,_⟩=>h) (fun i ys H2 ⟨_,_,_,sm⟩=>SqL.of (sm a _ ha)) ?_ ?_
  ·rintro i ys H2 x hx ⟨rfl,hi0,hD2,sm⟩
   have hi:i < (ks.map V.str).length:=(aeJ.mp hx).1
   have hi':=hi
   rw [aeD] at hi'
   rw [aeP,aeC hi'] at hx
   cases hx
   refine dI rfl ?_
   refine⟨_,rfl,ks[i],rfl,hk _ (afa hi'),fun H3 sm3=>?_⟩
   refine⟨sm3 D _ hD2,by rw [aeD,agf];exact aD (by omega),nx hi ⟨?_,by omega,ag,fun b u e=>?_⟩⟩
   ·rw [aix,aeO]
    rfl
   ·rw [ah (af e hD)]
    exact sm3 b u (sm b u e)
  ·rintro ys H2 ⟨rfl,_,hD2,sm⟩
   refine⟨D,List.replicate (ks.map V.str).length true,rfl,SqL.of hD2,?_⟩
   have e:(List.replicate (ks.map V.str).length true).all id=true:=by simp
   rw [e]
   exact k H2 sm
def ua:Sp:=fun vs H Q _=>∃ (a:Addr) (ks:List Str),vs=[.ref a]/\H a=some (.lst (ks.map V.str))/\(∀ k∈ks,bp k)/\1<=ks.length/\ks.length<=4/\ks.Pairwise leS/\∀ H',Same H H'->Q (.bl true) H'
theorem ft {ks:List Str}(h:∀ k∈ks,bp k):PyData.canLayAll0 (ks.map PyData.str)=true:=by
 induction ks with
 | nil=>rfl
 | cons z r ih =>
  have hz:=h z aeQ
  have hs:PyData.strOk z=true:=by
   unfold PyData.strOk
   rw [← Array.all_toList,agH]
   intro c hc
   exact afi (by have:=hz.2.2 c hc;omega)
  rw [aeZ]
  simp only [PyData.canLayAll0,PyData.canLay0,hs,Bool.true_and]
  exact ih fun k hk=>h k (aeV _ hk)
theorem uZ:∀ ks:List Str,PyData.eqvAll (ks.map PyData.str) (ks.map PyData.str)=true
 | []=>rfl
 | z::r=>by
  rw [aeZ]
  simp only [PyData.eqvAll,PyData.eqv,aio,Bool.true_and]
  exact uZ r
theorem jU:∀ ks:List Str,PyData.depthAll (ks.map PyData.str)=0
 | []=>rfl
 | z::r=>by
  rw [aeZ]
  simp only [PyData.depthAll,PyData.depth,jU r]
  rfl
theorem abI:aO ["thing"] ["thing"] (aq n9):=⟨rfl,rfl,rfl,by decide +kernel,rfl,by decide +kernel,by decide +kernel⟩
theorem zZ {f fK:Addr}{fd fdK:FuncData}(F:Fun K "are_locks" "are_locks" n9 f fd)(GK:aV P w K mg base CX0 2 fK fdK ["thing"] jT)(cK:Cal K mg "are_kinds" ["thing"] fK fdK)(mLe:mg "len" = none)(mSo:mg "sorted" = none)(hM:∃ t,mg "MOST_LOCKS" = some (.int 4 t)) :
 aV P w K mg base CX0 3 f fd ["thing"] ua:=by
 obtain⟨tm,hM⟩:=hM
 refine F.ok abI (fun vs H Q E h=>?_) (fun cdv A outer s H vs Q E hr h=>?_)
 ·obtain⟨a,ks,rfl,_⟩:=h
  rfl
 ·obtain⟨a,ks,rfl,ha,hk,h1,h4,hs,k⟩:=h
  have hu:=m7 hr
  refine⟨_,au (aN (gR (ax GK hr rfl cK.mg cK.kp cK.b .nil aP (ae (pv 0) ai))
   (gR (zH wO wO av (aw az rfl mLe ae8 (ae (pv 0) ai)) (tZ (v:=.int 4) rfl hM ⟨tm,rfl⟩))
   (jE (cV uL (pv 0) (aw sZ rfl mSo agO (ae (pv 0) ai)) (bj _)))))),?_⟩
  refine⟨_,rfl,a,ks,rfl,ha,hk,by omega,fun H1 s1=>⟨true,rfl,?_⟩⟩
  refine gU ?_
  have ha1:=s1 a _ ha
  refine⟨_,rfl,a,_,rfl,.inl (SqL.of ha1),1,_,rfl,rfl,true,aft V.bl (afi (by rw [aeD];omega)),?_⟩
  refine gU ?_
  refine⟨_,4,rfl,rfl,true,aft V.bl (afi (by rw [aeD];omega)),?_⟩
  refine gU ?_
  refine⟨_,rfl,_,rfl,a,ks,rfl,SqL.of ha1,by omega,fun l ss hl hp hs'=>?_⟩
  have e:ss=ks:=iC (bH hs') hs hp
  subst e
  have ne:a≠l:=af ha1 hl
  refine⟨.list (ss.map PyData.str),.list (ss.map PyData.str),.lst (by rw [ah ne];exact ha1) (SeesAll.strs ss),.lst ag (SeesAll.strs ss),ft hk,ft hk,?_,?_⟩
  ·show _+min (PyData.depthAll (ss.map PyData.str)+1) (PyData.depthAll (ss.map PyData.str)+1) < cLine
   rw [jU]
   exact hu
  ·have ee:PyData.eqv (.list (ss.map PyData.str)) (.list (ss.map PyData.str))=true:=uZ ss
   rw [ee]
   exact k _ fun b u e=>by rw [ah (af (s1 b u e) hl)];exact s1 b u e
abbrev Rm:=List Str×List Str
structure aaO (r:Rm):Prop where
 lk:∀ k∈r.1,bp k
 l1:1<=r.1.length
 l4:r.1.length<=4
 so:r.1.Pairwise leS
 kk:∀ k∈r.2,bp k
 kl:r.2.length<=1000
def RoomAt (H:Hp)(v:V)(r:Rm):Prop:=∃ t a b:Addr,v=.ref t/\H t=some (.tup [.ref a,.ref b])/\H a=some (.lst (r.1.map V.str))/\H b=some (.lst (r.2.map V.str))
theorem RoomAt.same {H H':Hp}{v:V}{r:Rm}(s:Same H H')(h:RoomAt H v r):RoomAt H' v r:=by
 obtain⟨t,a,b,e,h1,h2,h3⟩:=h
 exact⟨t,a,b,e,s _ _ h1,s _ _ h2,s _ _ h3⟩
def yS:Sp:=fun vs H Q _=>∃ (v:V) (r:Rm),vs=[v]/\RoomAt H v r/\aaO r/\∀ H',Same H H'->Q (.bl true) H'
theorem ab9:aO ["thing"] ["thing"] (aq vG):=⟨rfl,rfl,rfl,by decide +kernel,rfl,by decide +kernel,by decide +kernel⟩
theorem ab1 {f fL fK:Addr}{fd fdL fdK:FuncData}(F:Fun K "is_room" "is_room" vG f fd)(GL:aV P w K mg base CX0 3 fL fdL ["thing"] ua)(cL:Cal K mg "are_locks" ["thing"] fL fdL)
 (GK:aV P w K mg base CX0 2 fK fdK ["thing"] jT)(cK:Cal K mg "are_kinds" ["thing"] fK fdK)(mI:mg "isinstance" = none)(mLe:mg "len" = none)(mTu:mg "tuple" = none):aV P w K mg base CX0 4 f fd ["thing"] yS:=by
 refine F.ok ab9 (fun vs H Q E h=>?_) (fun cdv A outer s H vs Q E hr h=>?_)
 ·obtain⟨v,r,rfl,_⟩:=h
  rfl
 ·obtain⟨v,r,rfl,⟨t,a,b,rfl,ht,ha,hb⟩,ok,k⟩:=h
  refine⟨_,au (aN (gR (aw bU rfl mI (by decide +kernel) (ae (pv 0) (ae (fV (v:=.ty "tuple") (u:=.type "tuple") rfl mTu (by decide +kernel) rfl) ai)))
   (gR (cV gB (aw az rfl mLe ae8 (ae (pv 0) ai)) av (bj _))
   (gR (ax GL hr rfl cL.mg cL.kp cL.b .nil aP (ae (aT bu (pv 0) av (fun _ _=>rfl)) ai))
   (jE (ax GK (hr.mono (by decide)) rfl cK.mg cK.kp cK.b .nil aP (ae (aT bu (pv 0) av (fun _ _=>rfl)) ai))))))),?_⟩
  refine⟨_,rfl,_,_,_,true,rfl,.tup ht,eU K _,true,rfl,?_⟩
  refine gU ?_
  refine⟨_,rfl,t,_,rfl,.inr (SqT.of ht),rfl,true,rfl,?_⟩
  refine gU ?_
  refine⟨_,rfl,t,_,0,.ref a,rfl,rfl,SqT.of ht,rfl,a,r.1,rfl,ha,ok.lk,ok.l1,ok.l4,ok.so,fun H1 s1=>⟨true,rfl,?_⟩⟩
  refine gU ?_
  refine⟨_,rfl,t,_,1,.ref b,rfl,rfl,SqT.of (s1 _ _ ht),rfl,b,r.2,rfl,s1 _ _ hb,ok.kk,ok.kl,fun H2 s2=>?_⟩
  exact k H2 (s1.trans s2)
abbrev Hs:=List Str×List Rm
def RoomsAt (H:Hp)(vs:List V)(rs:List Rm):Prop:=vs.length=rs.length/\∀ (i:Nat) (v:V) (r:Rm),vs[i]? = some v->rs[i]? = some r->RoomAt H v r
theorem RoomsAt.same {H H':Hp}{vs:List V}{rs:List Rm}(s:Same H H')(h:RoomsAt H vs rs):RoomsAt H' vs rs:=⟨h.1,fun i v r a b=>(h.2 i v r a b).same s⟩
def HouseAt (H:Hp)(v:V)(h:Hs):Prop:=∃ (t a r:Addr) (vs:List V),v=.ref t/\H t=some (.tup [.ref a,.ref r])/\H a=some (.lst (h.1.map V.str))/\H r=some (.lst vs)/\RoomsAt H vs h.2
theorem HouseAt.same {H H':Hp}{v:V}{h:Hs}(s:Same H H')(x:HouseAt H v h):HouseAt H' v h:=by
 obtain⟨t,a,r,vs,e,h1,h2,h3,h4⟩:=x
 exact⟨t,a,r,vs,e,s _ _ h1,s _ _ h2,s _ _ h3,h4.same s⟩
structure fo (h:Hs):Prop where
 kk:∀ k∈h.1,bp k
 kl:h.1.length<=1000
 rs:∀ r∈h.2,aaO r
 rl:h.2.length<=1000
def se:Sp:=fun vs H Q _=>∃ (v:V) (h:Hs),vs=[v]/\HouseAt H v h/\fo h/\∀ H',Same H H'->Q (.bl true) H'
def tO:Sp:=fun vs H Q _=>∃ (v:V) (h:Hs),vs=[v]/\HouseAt H v h/\fo h/\∀ H',Same H H'->Q .non H'
theorem scHouse:aO ["thing","keys","rooms"] ["thing"] (aq iO):=⟨rfl,rfl,rfl,by decide +kernel,rfl,by decide +kernel,by decide +kernel⟩
abbrev yN:Expr:=oX (ux (pD ((aH iO).getD 2 (.Pass ⟨0,0,0,0⟩))))
theorem abp:jj (aq iO) (jv yN) ["thing","keys","rooms"] ["room"] 1 []=true:=by decide +kernel
theorem nd4:(["room"]:List Str).Nodup:=by decide +kernel
theorem zT {f fR fK:Addr}{fd fdR fdK:FuncData}(F:Fun K "is_house" "is_house" iO f fd)(GR:aV P w K mg base CX0 4 fR fdR ["thing"] yS)(cR:Cal K mg "is_room" ["thing"] fR fdR)
 (GK:aV P w K mg base CX0 2 fK fdK ["thing"] jT)(cK:Cal K mg "are_kinds" ["thing"] fK fdK)(mI:mg "isinstance" = none)(mLe:mg "len" = none)(mTu:mg "tuple" = none)(mLi:mg "list" = none)(mAl:mg "all" = none):aV P w K mg base CX0 5 f fd ["thing"] se:=by
 refine F.ok scHouse (fun vs H Q E h=>?_) (fun cdv A outer s H vs Q E hr h=>?_)
 ·obtain⟨v,r,rfl,_⟩:=h
  rfl
 ·obtain⟨v,hs,rfl,⟨t,a,r,vs,rfl,ht,ha,hr',hR⟩,ok,k⟩:=h
  obtain⟨S,Cp⟩:=iZ (X:=(wj CX0 P w K mg base ["thing","keys","rooms"] "is_house" (aq iO) f cdv A outer s H E).nox) (outer:=aq iO) (N:=["thing","keys","rooms"]) rfl rfl abp
  refine⟨_,ak (cU (PW.pt (qF (eF (d6 (aw bU rfl mI (by decide +kernel) (ae (pv 0) (ae (fV (v:=.ty "tuple") (u:=.type "tuple") rfl mTu (by decide +kernel) rfl) ai)))))
   (oh (aX zf (aw az rfl mLe ae8 (ae (pv 0) ai)) av (bj _)))))
   (au (aN iJ)) aU)
   (ak (hJ (pv 0) (eG rfl (aG (ay (i:=1) scHouse.nd rfl (Or.inl rfl)) (aG (ay (i:=2) scHouse.nd rfl (Or.inl rfl)) bY))))
   (au (aN (gR (ax GK (hr.mono (by decide)) rfl cK.mg cK.kp cK.b .nil aP (ae (pv 1) ai))
    (gR (aw bU rfl mI (by decide +kernel) (ae (pv 2) (ae (fV (v:=.ty "list") (u:=.type "list") rfl mLi (by decide +kernel) rfl) ai)))
    (jE (aw (jo rfl) rfl mAl (by decide +kernel) (ae (kU (tg:=.Name "room" _) rfl S Cp (bT (pv 2))
     (fun _ _ _ _=>ay (i:=0) nd4 rfl (Or.inl rfl) (.inr rfl)) (fun _ _ _ _=>dv)
     (fun _ _ _ _=>ax GR hr rfl cR.mg cR.kp cR.b .nil aP (ae (pv 0) ai))) ai)))))))),?_⟩
  refine⟨_,rfl,_,_,_,true,rfl,.tup ht,eU K _,true,rfl,?_⟩
  refine gu ?_
  refine⟨_,rfl,t,_,rfl,.inr (SqT.of ht),rfl,false,rfl,?_⟩
  refine gu ?_
  refine⟨_,rfl,t,_,rfl,SqT.of ht,rfl,_,_,rfl,_,_,rfl,rfl,?_⟩
  refine⟨_,rfl,a,hs.1,rfl,ha,ok.kk,ok.kl,fun H1 s1=>⟨true,rfl,?_⟩⟩
  refine gU ?_
  refine⟨_,rfl,_,_,_,true,rfl,.lst (s1 _ _ hr'),eU K _,true,rfl,?_⟩
  refine gU ?_
  dsimp only [uc,wy,tCB,gq,mP]
  refine bE _ _ _ _ _ _ _ _ _ ?_
  refine⟨_,rfl,r,rfl,⟨_,SqL.of (s1 _ _ hr')⟩,?_⟩
  intro D hD
  have hl:vs.length<=1000:=by rw [hR.1];exact ok.rl
  refine cZ (xs:=vs) (fun i ys H2=>ys=(List.replicate i true).map V.bl/\i<=1000/\H2 D=some (.lst ys)/\Same H1 H2) ⟨rfl,by decide,ag,fun b u e=>by rw [ah (af e hD)];exact e⟩ (fun i ys H2 ⟨_,_,h,_⟩=>h) (fun i ys H2 ⟨_,_,_,sm⟩=>SqL.of (sm r _ (s1 _ _ hr'))) ?_ ?_
  ·rintro i ys H2 x hx ⟨rfl,hi0,hD2,sm⟩
   have hi:i < vs.length:=(aeJ.mp hx).1
   have hi':i < hs.2.length:=by rw [← hR.1];exact hi
   refine dI rfl ?_
   refine⟨_,rfl,x,hs.2[i],rfl,((hR.2 i x _ hx (aeC hi')).same s1).same sm,ok.rs _ (afa hi'),fun H3 sm3=>?_⟩
   refine⟨sm3 D _ hD2,by rw [aeD,agf];exact aD (by omega),nx hi ⟨?_,by omega,ag,fun b u e=>?_⟩⟩
   ·rw [aix,aeO]
    rfl
   ·rw [ah (af e hD)]
    exact sm3 b u (sm b u e)
  ·rintro ys H2 ⟨rfl,_,hD2,sm⟩
   refine⟨D,List.replicate vs.length true,rfl,SqL.of hD2,?_⟩
   have e:(List.replicate vs.length true).all id=true:=by simp
   rw [e]
   exact k H2 (s1.trans sm)
theorem adm:aO ["thing"] ["thing"] (aq ab5):=⟨rfl,rfl,rfl,by decide +kernel,rfl,by decide +kernel,by decide +kernel⟩
theorem acW {f fH:Addr}{fd fdH:FuncData}(F:Fun K "require_house" "require_house" ab5 f fd)(GH:aV P w K mg base CX0 5 fH fdH ["thing"] se)(cH:Cal K mg "is_house" ["thing"] fH fdH):aV P w K mg base CX0 6 f fd ["thing"] tO:=by
 refine F.ok adm (fun vs H Q E h=>?_) (fun cdv A outer s H vs Q E hr h=>?_)
 ·obtain⟨v,r,rfl,_⟩:=h
  rfl
 ·obtain⟨v,hs,rfl,hh,ok,k⟩:=h
  refine⟨_,au (cU (eF (d6 (ax GH hr rfl cH.mg cH.kp cH.b .nil aP (ae (pv 0) ai)))) jw aU),?_⟩
  refine⟨_,rfl,v,hs,rfl,hh,ok,fun H1 s1=>⟨true,rfl,?_⟩⟩
  refine gu ?_
  exact k H1 s1
structure acb (ns:List Int):Prop where
 ne:ns≠[]
 few:ns.length<=1000
 all:∀ n∈ns,0<=n/\n < 2147483648
def DeckAt (H:Hp)(p:Addr):Prop:=∃ ns:List Int,H p=some (.lst (ns.map V.int))/\acb ns
def yc (K:PySem.W.Frag):Sp:=fun vs H Q _=>∃ (a:Addr) (k:Nat) (ns:List Int),vs=[.ref a,.int k]/\SqL K H a (ns.map V.int)/\∀ c:Int,Q (.int c) H
def uo:Sp:=fun vs H Q _=>∃ (cell k:Int),vs=[.int cell,.int k]/\0<=k/\k<=10000/\∀ r:Int,0<=r->r < 268435456->Q (.int r) H
def yA:Sp:=fun vs H Q _=>∃ (cell:Int) (n:Nat),vs=[.int cell,.int n]/\0 < n/\n<=1000/\∀ (l:Addr) (H':Hp),H l=none->Same H H'->DeckAt H' l->Q (.ref l) H'
def jz:Sp:=fun vs H Q _=>∃ p:Addr,vs=[.ref p]/\DeckAt H p/\∀ (r:Int) (H':Hp),0<=r->r < 2147483648->DeckAt H' p->But p H H'->(∀ b,b≠p->H b=none->H' b=none)->Q (.int r) H'
inductive DkI (cell:Int)(n:Nat)(H:Hp)(i:Nat)(σ':L2.St)(H':Hp):Prop
 | mk (l:Addr) (ns:List Int) (dg:Int) (x4 x5:Option V):σ'=[some (.int cell),some (.int n),some (.ref l),some (.int dg),x4,x5]->H l=none->H' l=some (.lst (ns.map V.int))->ns.length=i->(∀ n∈ns,0<=n/\n < 2147483648)->Same H H'->DkI cell n H i σ' H'
theorem lu:aO ["script","k"] ["script","k"] (aq cn):=⟨rfl,rfl,rfl,by decide +kernel,rfl,by decide +kernel,by decide +kernel⟩
theorem gZ:aO ["cell","k","one"] ["cell","k"] (aq d7):=⟨rfl,rfl,rfl,by decide +kernel,rfl,by decide +kernel,by decide +kernel⟩
theorem dm:aO ["cell","many","found","digits","k","number"] ["cell","many"] (aq dS):=⟨rfl,rfl,rfl,by decide +kernel,rfl,by decide +kernel,by decide +kernel⟩
theorem qE:aO ["deck"] ["deck"] (aq dZ):=⟨rfl,rfl,rfl,by decide +kernel,rfl,by decide +kernel,by decide +kernel⟩
theorem abH {f:Addr}{fd:FuncData}(F:Fun K "_law_cell_at" "_law_cell_at" cn f fd)(aY:mg "len" = none):aV P w K mg base CX0 1 f fd ["script","k"] (yc K):=by
 refine F.ok lu (fun vs H Q E h=>?_) (fun cdv A outer s H vs Q E hr h=>?_)
 ·obtain⟨a,k,ns,rfl,_⟩:=h
  rfl
 ·obtain⟨a,k,ns,rfl,hS,q⟩:=h
  refine⟨_,(ak (cU (aX acJ (pv 1) (aw az rfl aY ae8 (ae (pv 0) ai)) (bj _))
   (au (aN (aT bD (pv 0) (pv 1) (fun _ _=>rfl)))) aU)
   (au (aN av))),?_⟩
  refine⟨_,rfl,_,rfl,a,_,rfl,.inl hS,_,_,rfl,rfl,_,rfl,?_⟩
  refine rP (fun hlt=>?_) (fun _=>q 0)
  have hlt':k < ns.length:=by
   have z:=agi hlt
   rw [aeD] at z
   omega
  exact⟨_,rfl,_,rfl,a,_,_,.int ns[k],rfl,rfl,hS,cf (by rw [aeP,aeC hlt'];rfl),q _⟩
theorem abG {f:Addr}{fd:FuncData}(F:Fun K "_law_stir" "_law_stir" d7 f fd):aV P w K mg base CX0 1 f fd ["cell","k"] uo:=by
 refine F.ok gZ (fun vs H Q E h=>?_) (fun cdv A outer s H vs Q E hr h=>?_)
 ·obtain⟨cell,k,rfl,_⟩:=h
  rfl
 ·obtain⟨cell,k,rfl,k0,k1,q⟩:=h
  refine⟨_,(ak (aI (i:=2) gZ.nd rfl (Or.inl rfl) (bq bM (bq nZ (bq hZ (bq hZ (bq bM (pv 0) av) (bq nZ av (pv 1))) av) av) av))
   (ak (aI (i:=2) gZ.nd rfl (Or.inl rfl) (bq bM (bq nZ (pv 2) (pv 2)) av))
   (au (aN (bq xC (bq bM (bq nZ (bq hZ (pv 2) (bq nZ av (pv 1))) av) av) av))))),?_⟩
  have a0:0<=cell % 2147483629:=afC _ (by decide)
  have a1:cell % 2147483629 < 2147483629:=afr _ (by decide)
  refine⟨_,rfl,_,2147483629,rfl,rfl,(by show (0:Int) < 2147483629;decide),_,rfl,9973,_,rfl,rfl,.inl ⟨by decide,by decide⟩,_,_,rfl,rfl,_,_,rfl,rfl,_,_,rfl,rfl,.inl ⟨by omega,by omega⟩,_,2147483647,rfl,rfl,(by show (0:Int) < 2147483647;decide),?_⟩
  generalize hb:(cell % 2147483629+9973 * k+5) * 48271 % 2147483647=b
  have b0:0<=b:=by rw [← hb];exact afC _ (by decide)
  have b1:b < 2147483647:=by rw [← hb];exact afr _ (by decide)
  refine⟨_,rfl,_,rfl,_,_,rfl,rfl,.inl ⟨by omega,by omega⟩,_,2147483587,rfl,rfl,(by show (0:Int) < 2147483587;decide),?_⟩
  generalize hc:b * b % 2147483587=c
  have c0:0<=c:=by rw [← hc];exact afC _ (by decide)
  have c1:c < 2147483587:=by rw [← hc];exact afr _ (by decide)
  refine⟨_,rfl,_,rfl,7919,_,rfl,rfl,.inl ⟨by decide,by decide⟩,_,_,rfl,rfl,_,_,rfl,rfl,.inl ⟨by omega,by omega⟩,_,2147483563,rfl,rfl,(by show (0:Int) < 2147483563;decide),_,8,rfl,rfl,⟨by decide,by decide⟩,?_⟩
  generalize hd:(c+7919 * k) * 16807 % 2147483563=d
  have d0:0<=d:=by rw [← hd];exact afC _ (by decide)
  have d1:d < 2147483563:=by rw [← hd];exact afr _ (by decide)
  exact q _ (by omega) (by omega)
theorem abj {f fS:Addr}{fd fdS:FuncData}(F:Fun K "_law_deck" "_law_deck" dS f fd)(jb:aV P w K mg base CX0 1 fS fdS ["cell","k"] uo)(cb:Cal K mg "_law_stir" ["cell","k"] fS fdS)(bh:mg "range" = none):aV P w K mg base CX0 2 f fd ["cell","many"] yA:=by
 refine F.ok dm (fun vs H Q E h=>?_) (fun cdv A outer s H vs Q E hr h=>?_)
 ·obtain⟨cell,n,rfl,_⟩:=h
  rfl
 ·obtain⟨cell,n,rfl,n0,n1,q⟩:=h
  refine⟨_,(ak (aI (i:=2) dm.nd rfl (Or.inl rfl) iV)
   (ak (aI (i:=3) dm.nd rfl (Or.inl rfl) (pv 0))
   (ak (bB (dU afl rfl (cg rfl bh (ae (pv 1) ai)) (ay (i:=4) dm.nd rfl (Or.inl rfl))
    (ak (aI (i:=5) dm.nd rfl (Or.inl rfl) (ax jb hr rfl cb.mg cb.kp cb.b .nil aP (ae (pv 0) (ae (pv 4) ai))))
    (ak (bB (cU (aX ack (pv 0) (bq acN av av) (bj _))
     (au (aI (i:=5) dm.nd rfl (Or.inl rfl) (bq bM (pv 3) av))) aU))
    (ak (aI (i:=3) dm.nd rfl (Or.inl rfl) (bq xC (pv 3) av))
    (au (bC (fw aeS afI afJ df (pv 2) (ae (pv 5) ai)))))))))
   (au (aN (abq (pv 2) (adB acS av))))))),?_⟩
  refine⟨ae2 _,fun l nl=>?_⟩
  have s1:Same H (upd H l (.lst [])):=fun b u e=>by rw [ah (af e nl)];exact e
  have e1:(upd H l (.lst [])) l=some (.lst (([]:List Int).map V.int)):=ag
  generalize upd H l (.lst [])=H1 at *
  refine⟨_,rfl,?_⟩
  refine⟨fun σ' H'=>DkI cell n H n σ' H',?_,?_⟩
  ·rintro σ H2 ⟨l,ns,dg,x4,x5,rfl,nl,hl,len,all,sm⟩
   refine⟨_,rfl,1,rfl,rfl,l,_,rfl,SqL.of hl,fun l2 nl2=>?_⟩
   refine q l2 _ (sm.free nl2) (fun b u e=>by rw [ah (af (sm b u e) nl2)];exact sm b u e) ⟨ns.reverse,by rw [ag,List.map_reverse],fun z=>?_,by rw [aiN];omega,fun z hz=>all z (List.mem_reverse.mp hz)⟩
   have:=aft List.length z
   rw [aiN,len] at this
   simp at this
   omega
  refine⟨_,rfl,(n:Int),rfl,by omega,by omega,?_⟩
  rw [afh]
  refine gC (fun i σ' H'=>DkI cell n H i σ' H') ⟨l,[],cell,_,_,rfl,nl,e1,rfl,(fun _ h=>nomatch h),s1⟩ ?_ (fun σ H' z=>z)
  rintro i σ H2 hi ⟨l,ns,dg,x4,x5,rfl,nl,hl,len,all,sm⟩
  refine⟨_,rfl,_,rfl,cell,_,rfl,by omega,by omega,fun r r0 r1=>?_⟩
  refine⟨fun σ' H'=>∃ m:Int,σ'=[some (.int cell),some (.int n),some (.ref l),some (.int dg),some (.int (0+i)),some (.int m)]/\0<=m/\m < 2147483648/\H'=H2,?_,?_⟩
  ·rintro σ' H' ⟨m,rfl,m0,m1,rfl⟩
   refine⟨_,rfl,_,720720,rfl,rfl,⟨by decide,by decide⟩,_,rfl,.inl ⟨rfl,_,SqL.of hl⟩,_,rfl,l,_,_,rfl,rfl,hl,by rw [aeD];exact aD (by omega),?_⟩
   refine⟨l,ns++[m],_,_,_,rfl,nl,by rw [ag,aeO];rfl,by simp [len],fun z hz=>?_,fun b u e=>?_⟩
   ·rcases aeI.mp hz with y | y
    ·exact all z y
    ·rw [aeF.mp y];exact⟨m0,m1⟩
   ·rw [ah (af e nl)];exact sm b u e
  refine⟨_,rfl,10,18,rfl,rfl,⟨by decide,by decide,by decide⟩,_,_,rfl,rfl,_,rfl,rP (fun _=>?_) (fun _=>?_)⟩
  ·refine⟨_,rfl,_,720720,rfl,rfl,(by show (0:Int) < 720720;decide),?_⟩
   exact⟨_,rfl,afC _ (by decide),Int.lt_trans (afr _ (by decide)) (by decide),rfl⟩
  ·exact⟨r,rfl,r0,by omega,rfl⟩
theorem ab2 {f fS:Addr}{fd fdS:FuncData}(F:Fun K "_law_next" "_law_next" dZ f fd)(jb:aV P w K mg base CX0 1 fS fdS ["cell","k"] uo)(cb:Cal K mg "_law_stir" ["cell","k"] fS fdS)(kK:mg "int" = none)(aY:mg "len" = none):aV P w K mg base CX0 2 f fd ["deck"] jz:=by
 refine F.ok qE (fun vs H Q E h=>?_) (fun cdv A outer s H vs Q E hr h=>?_)
 ·obtain⟨p,rfl,_⟩:=h
  rfl
 ·obtain⟨p,rfl,⟨ns,hp,ok⟩,q⟩:=h
  refine⟨_,(ak (bB (cU (aX gB (aw az rfl aY ae8 (ae (pv 0) ai)) av (bj _))
   (au (bC (fw aeS PySem.F.slot_list_insert PySem.F.type_list_insert vj (pv 0) (ae av (ae (bq nZ (ax jb hr rfl cb.mg cb.kp cb.b .nil aP (ae (aT bD (pv 0) av (fun _ _=>rfl)) (ae av ai))) (bF rk rfl kK (by decide +kernel) (ae (cV za (aT bD (pv 0) av (fun _ _=>rfl)) av (bj _)) ai))) ai))))) aU))
   (au (aN (uP aeS agj agk xI (pv 0))))),?_⟩
  refine⟨fun σ' H'=>σ'=[some (.ref p)]/\∃ ns:List Int,H' p=some (.lst (ns.map V.int))/\2<=ns.length/\ns.length<=1000/\(∀ n∈ns,0<=n/\n < 2147483648)/\But p H H'/\∀ b,b≠p->H b=none->H' b=none,?_,?_⟩
  ·rintro σ' H' ⟨rfl,ns,hp,l2,l3,all,B,fr⟩
   have hi:ns.length - 1 < ns.length:=by omega
   refine⟨_,rfl,.inl ⟨rfl,_,SqL.of hp⟩,p,_,.int (ns[ns.length - 1]'hi),rfl,rfl,hp,by rw [aeD,aeP,aeC hi];rfl,?_⟩
   have al:=all _ (afa hi)
   refine q _ _ al.1 al.2 ⟨ns.dropLast,by rw [ag,List.map_dropLast],fun z=>?_,by rw [aiv];omega,fun z hz=>all z (List.dropLast_subset _ hz)⟩ (B.trans But.upd) (fun b nb e=>by rw [ah nb];exact fr b nb e)
   have:=aft List.length z
   rw [aiv] at this
   simp at this
   omega
  refine⟨_,rfl,p,_,rfl,.inl (SqL.of hp),rfl,_,rfl,rP (fun h1=>?_) (fun h1=>?_)⟩
  ·have e1:ns.length=1:=by
    have:=agi h1
    injection this with this
    rw [aeD] at this
    omega
   obtain⟨n0,rfl⟩:∃ n0,ns=[n0]:=List.length_eq_one_iff.mp e1
   have a0:=ok.all n0 aeQ
   refine⟨_,rfl,.inl ⟨rfl,_,SqL.of hp⟩,_,rfl,p,_,0,.int n0,rfl,rfl,SqL.of hp,rfl,n0,7,rfl,by decide,by decide,fun r r0 r1=>?_⟩
   refine⟨_,rfl,p,_,0,.int n0,rfl,rfl,SqL.of hp,rfl,n0,0,rfl,rfl,.inr ⟨_,rfl,?_⟩⟩
   have hf:∀ b:Bool,0<=r * (if b=true then 1 else 0)/\r * (if b=true then 1 else 0) < 2147483648:=fun b=>by cases b<;>simp<;>omega
   refine⟨r,_,rfl,rfl,.inl ⟨by omega,by omega⟩,p,_,_,rfl,rfl,hp,by show 1 < sizeLine;decide,?_⟩
   refine⟨rfl,[r * (if decide (n0 > 0)=true then 1 else 0),n0],ag,aeN _,by show 2<=1000;decide,fun z hz=>?_,But.upd,fun b nb e=>by rw [ah nb];exact e⟩
   rcases aeX.mp hz with y | y
   ·rw [y];exact hf _
   ·rw [aeF.mp y];exact a0
  ·have e2:ns.length≠1:=fun z=>h1 (afi (by rw [aeD,z];rfl))
   have e3:=aiO.mpr ok.ne
   exact⟨rfl,ns,hp,by omega,ok.few,ok.all,But.refl _ _,fun b _ e=>e⟩
end
theorem DeckAt.same {H H':Hp}{p:Addr}(x:DeckAt H p)(s:Same H H'):DeckAt H' p:=let ⟨ns,e,o⟩:=x;⟨ns,s _ _ e,o⟩
theorem DeckAt.ne {H:Hp}{p b:Addr}(x:DeckAt H p)(n:H b=none):b≠p:=fun z=>by
 obtain⟨_,e,_⟩:=x
 rw [z,e] at n;cases n
theorem jW {nl:Nat}{ix:List Nat}{te:TE}{σ:L2.St}{H1:Hp}{D p:Addr}{Q:VK}{lo:Int}{n:Nat}{Pr:Nat->V->Prop}(nD:H1 D=none)(dk:DeckAt H1 p)(hl:n<=1000000)
 (hc:∀ x,((dz nl ix σ).set 0 (some x)).drop nl=ix.map fun j=>(σ[j]?).join)
 (ht:∀ (H:Hp) (i:Nat) (R:VK),i < n->But p H1 H->DeckAt H p->(∀ y H',Pr i y->DeckAt H' p->But p H H'->R y H')->te ((dz nl ix σ).set 0 (some (.int (lo+i)))) H R)
 (hd:∀ ys H,ys.length=n->(∀ i y,ys[i]? = some y->Pr i y)->H D=some (.lst ys)->But p H1 H->DeckAt H p->Q (.ref D) H):jg nl ix (bJ 0) yz te σ (Itr lo n) H1 D Q:=by
 have lim:1000000 < sizeLine:=by decide
 have Dp:D≠p:=dk.ne nD
 have s0:Same H1 (upd H1 D (.lst [])):=fun b u e=>by rw [ah (af e nD)];exact e
 refine gE (fun i ys H=>ys.length=i/\(∀ j y,ys[j]? = some y->Pr j y)/\H D=some (.lst ys)/\But p H1 H/\DeckAt H p) ⟨rfl,fun j y e=>by simp at e,ag,fun b u _ e=>s0 b u e,dk.same s0⟩ (fun i ys H ⟨_,_,h,_⟩=>h) ?_ ?_
 ·rintro i ys H hi ⟨len,pr,hD,B,dk'⟩
  refine dI (hc _) (ht H i _ hi B dk' fun y H' py dk2 B2=>⟨B2 _ _ Dp hD,by omega,nx hi ⟨by simp [len],fun j z e=>?_,ag,fun b u nb e=>?_,?_⟩⟩)
  ·by_cases hj:j < ys.length
   ·rw [agy hj] at e
    exact pr j z e
   ·rw [afv (by omega)] at e
    have h0:j - ys.length=0:=by
     have:=(aeJ.mp e).1
     simp at this
     omega
    rw [h0] at e
    cases e
    rw [show j=i by omega]
    exact py
  ·rw [ah (af e nD)]
   exact B2 b u nb (B b u nb e)
  ·obtain⟨ns,e,o⟩:=dk2
   exact⟨ns,by rw [ah (agz Dp)];exact e,o⟩
 ·rintro ys H ⟨len,pr,hD,B,dk'⟩
  exact hd ys H len pr hD B dk'
end K7
namespace L2
open PySem PySem.Spec PyProof.Rows
section
variable {X:Cx}{o e:Expr}{es:List Expr}{to:TE}{t:TA}{name:Str}{apos cpos:Pos}{T id:String}{r:V->List V->Hp->VK->Prop}{K:PySem.W.Frag}
theorem lV (hK:X.K=K)(pa:PlainAttrs T)(slot:Slot T name id)(hty:typeOf (.builtin id)=pure (.type "method_descriptor"))(hm:MtR X id r)(ho:PE X o to)(ha:PA X (e::es) t)
 (hbase:attributeBase o name X.env (eval o X.env)=eval o X.env:=by rfl)
 (hfew:((backTo cpos (starEach (e::es) X.env)).all (fun x=>!x.1) && (backToKw cpos (keywordEach [] X.env)).all (fun x=>x.1.isSome)
  && decide ((e::es).length+([]:List Keyword).length+(if ([]:List Keyword).isEmpty then 0 else 1) < 30))=true:=by rfl)
 (hline:(apos.endLine == cpos.line)=true:=by rfl)(hs:starEach (e::es) X.env=(false,eval e X.env)::starEach es X.env:=by rfl)(hplain:(backTo cpos (starEach es X.env)).any (·.1)=false:=by rfl) :
 PE X (.Call (.Attribute o name apos) (e::es) [] cpos) (tBM K T r to t):=by
 subst hK
 exact fw pa slot hty hm ho ha hbase hfew hline hs hplain
end
end L2
namespace K7
open PySem L2 PyProof.Rows
def bg (h:Hs):List Str:=h.1++h.2.flatMap (·.2)
def aK (h:Hs):List Str:=h.2.flatMap (·.1)
structure pL (h:Hs):Prop where
 few:∃ U:List Str,U.length < 64/\∀ x,(x∈bg h\/x∈aK h)->x∈U
 nk:(bg h).length<=1000
 nl:(aK h).length<=1000
def iq:Sp:=fun vs H Q _=>∃ (v:V) (h:Hs),vs=[v]/\HouseAt H v h/\fo h/\pL h/\∀ (d:Addr) (kvs:List (Key×V)) (H':Hp),H d=none->Same H H'->H' d=some (.dK kvs)->CountMap H' kvs (bg h) (aK h)->Q (.ref d) H'
theorem aF {α:Type}[DecidableEq α]:∀ {l U:List α},l.Nodup->(∀ x∈l,x∈U)->l.length<=U.length
 | [],U,_,_=>ae2 _
 | a::r,U,hn,h=>by
  rw [afx] at hn
  have ha:=h a aeQ
  have ih:=aF (U:=U.erase a) hn.2 fun x hx=>by
   have ne:x≠a:=fun z=>hn.1 (z▸hx)
   exact (ahE ne).mpr (h x (aeV _ hx))
  have hl:=ajm ha
  have hp:0 < U.length:=ajU ha
  rw [afd]
  omega
theorem lR {α β:Type}(f:α->List β)(l:List α)(i:Nat):((l.take i).flatMap f).length<=(l.flatMap f).length:=by
 have e:l.flatMap f=(l.take i).flatMap f++(l.drop i).flatMap f:=by rw [← afB,afp]
 rw [e,aeG]
 omega
theorem gb {α β:Type}(f:α->List β)(l:List α)(i:Nat)(hi:i < l.length):(l.take (i+1)).flatMap f=(l.take i).flatMap f++f l[i]:=by
 rw [afc,aeC hi,afB]
 simp
end K7
namespace L2
open PySem PySem.Spec PyProof.Rows
theorem km (K:PySem.W.Frag):PySem.W.kitOne K (.type "int") (.type "bool")=some false:=by
 first
  | rfl
  | (with_unfolding_all rfl)
end L2
namespace K7
open PySem L2 PyProof.Rows
theorem o3:lettersS.cps.toList=List.range' 97 26:=by decide +kernel
theorem vC (r:Nat)(h:r < 26):atI lettersS.cps.toList (r:Int)=some (97+r):=cf (by rw [o3,List.getElem?_range' h];simp)
theorem lC:lettersS.length<=sizeLine:=by decide
def xh (l:List Nat):Prop:=1<=l.length/\l.length<=4/\∀ c∈l,97<=c/\c<=122
theorem yI {z:Str}(h:xh z.cps.toList):bp z:=by
 obtain⟨h1,h2,h3⟩:=h
 have e:z.cps.toList.length=z.length:=aeT
 exact⟨by omega,by omega,h3⟩
theorem xP {z:Str}(h:bp z):xh z.cps.toList:=by
 obtain⟨h1,h2,h3⟩:=h
 have e:z.cps.toList.length=z.length:=aeT
 exact⟨by omega,by omega,h3⟩
theorem oF:∀ {ss:List Str},(∀ x∈ss,∃ c,x=⟨#[c]⟩/\97<=c/\c<=122)->((ss.map (·.cps.toList)).flatten).length=ss.length/\∀ c∈(ss.map (·.cps.toList)).flatten,97<=c/\c<=122
 | [],_=>⟨rfl,(fun c h=>by simp at h)⟩
 | a::r,h=>by
  obtain⟨c,rfl,h1,h2⟩:=h a aeQ
  obtain⟨i1,i2⟩:=oF (ss:=r) fun x hx=>h x (aeV _ hx)
  rw [aeZ,aib]
  refine⟨?_,fun d hd=>?_⟩
  ·rw [aeG,i1,afd]
   show 1+r.length=r.length+1
   omega
  ·rcases aeI.mp hd with hd | hd
   ·have:d=c:=by simpa using hd
    omega
   ·exact i2 d hd
theorem uQ:∀ {ss:List Str},(∀ x∈ss,∃ c,x=⟨#[c]⟩/\97<=c/\c<=122)->(ss.map (·.length)).sum=ss.length
 | [],_=>rfl
 | a::r,h=>by
  obtain⟨c,rfl,h1,h2⟩:=h a aeQ
  rw [aeZ,List.sum_cons,uQ fun x hx=>h x (aeV _ hx),afd]
  show 1+r.length=r.length+1
  omega
theorem iY (z:Str)(ks:List Str):inV (.str z) (ks.map V.str)=decide (z∈ks):=by
 unfold inV
 induction ks with
 | nil=>rfl
 | cons a r ih =>
  rw [aeZ,agY,ih]
  show (a == z || decide (z∈r))=_
  by_cases e:a=z
  ·subst e;simp
  ·have e':(a == z)=false:=by simpa using e
   rw [e',Bool.false_or]
   by_cases hz:z∈r
   ·simp [hz]
   ·simp [hz,agz e]
theorem mU {z:Str}(h:bp z):z.length<=sizeLine:=afb (aD (by have:=h.2.1;omega))
def twelve:List Str:=["a","b","ab","c","zzzz","d","ba","abc","abcd","z","zz","cab"]
theorem xn:∀ x∈twelve,bp x:=fun x hx=>by
 unfold twelve at hx
 simp only [aeX,af5,aie] at hx
 rcases hx with rfl | rfl | rfl | rfl | rfl | rfl | rfl | rfl | rfl | rfl | rfl | rfl<;>exact⟨by decide +kernel,by decide +kernel,by decide +kernel⟩
theorem xf:∀ {ys:List V},(∀ y∈ys,∃ c,y=V.str ⟨#[c]⟩/\97<=c/\c<=122)->∃ ss:List Str,ys=ss.map V.str/\∀ x∈ss,∃ c,x=⟨#[c]⟩/\97<=c/\c<=122
 | [],_=>⟨[],rfl,fun _ h=>nomatch h⟩
 | y::ys,h=>by
  obtain⟨ss,rfl,k⟩:=xf fun z hz=>h z (aeV _ hz)
  obtain⟨c,rfl,c1,c2⟩:=h y aeQ
  refine⟨⟨#[c]⟩::ss,rfl,fun x hx=>?_⟩
  rcases aeX.mp hx with z | z
  ·exact⟨c,z,c1,c2⟩
  ·exact k x z
theorem mB (q:Int):atI lettersS.cps.toList (q % 26)=some (97+(q % 26).toNat):=by
 have h0:0<=q % 26:=afC _ (by decide)
 have h1:q % 26 < 26:=afr _ (by decide)
 have e:=vC (q % 26).toNat (by omega)
 rw [aiP h0] at e
 exact e
theorem wV {xs:List V}{k:Nat}(h:k<=xs.length):wz xs none (some (k:Int))=xs.take k:=by
 unfold wz
 rw [HT.sIx_none,HT.sIx_nat,aln,afU,agb h]
def qB (z:Str)(a:Nat)(c:Nat):Str:=Txt.slice z none (some (a:Int))++(⟨#[c]⟩:Str)++Txt.slice z (some ((a:Int)+1)) none
theorem vA (z:Str)(a c:Nat):(qB z a c).cps.toList=z.cps.toList.take a++[c]++z.cps.toList.drop (a+1):=by
 unfold qB
 rw [ig,ig,ug,show ((a:Int)+1)=((a+1:Nat):Int) by omega,og]
theorem abD {z:Str}(h:bp z){a c:Nat}(ha:a < z.length)(c1:97<=c)(c2:c<=122):bp (qB z a c):=by
 obtain⟨h1,h2,h3⟩:=xP h
 have e:z.cps.toList.length=z.length:=aeT
 refine yI ?_
 rw [vA]
 refine⟨?_,?_,fun x hx=>?_⟩
 ·simp only [aeG,ae9,age,af0];omega
 ·simp only [aeG,ae9,age,af0];omega
 ·rcases aeI.mp hx with q | q
  ·rcases aeI.mp q with q | q
   ·exact h3 x (afA q)
   ·rw [aeF.mp q];exact⟨c1,c2⟩
  ·exact h3 x (af9 q)
def tK:Sp:=fun vs H Q _=>∃ (p:Addr) (n:Nat),vs=[.ref p,.int n]/\DeckAt H p/\1<=n/\n<=12/\∀ (l:Addr) (ks:List Str) (H':Hp),H l=none->H' l=some (.lst (ks.map V.str))->ks.length=n->(∀ k∈ks,bp k)->DeckAt H' p->But p H H'->Q (.ref l) H'
section
variable {P:Program}{w:World}{K:PySem.W.Frag}{mg:Str->Option Value}{base:Heap}
theorem cI:aO ["deck","many","some","letters","base","at","start"] ["deck","many"] (aq b8):=⟨rfl,rfl,rfl,by decide +kernel,rfl,by decide +kernel,by decide +kernel⟩
theorem md:(["k","letters","deck"]:List Str).Nodup:=by decide +kernel
theorem mM:(["k","base","letters","at","start"]:List Str).Nodup:=by decide +kernel
theorem zg {f fN:Addr}{fd fdN:FuncData}(F:Fun K "_law_names" "_law_names" b8 f fd)(aE:aV P w K mg base CX0 2 fN fdN ["deck"] jz)(aj:Cal K mg "_law_next" ["deck"] fN fdN)(aY:mg "len" = none)(bh:mg "range" = none):aV P w K mg base CX0 3 f fd ["deck","many"] tK:=by
 refine F.ok cI (fun vs H Q E h=>?_) (fun cdv A outer s H vs Q E hr h=>?_)
 ·obtain⟨p,n,rfl,_⟩:=h
  rfl
 ·obtain⟨p,n,rfl,dk,n1,n2,k⟩:=h
  refine⟨_,(@ak _ _ _ _ _ (@aI _ _ 2 _ _ _ _ cI.nd rfl (Or.inl rfl) (@gT _ _ _ _ (@gX _ _ _ _ _ (@cP _ _ _ _) (@gX _ _ _ _ _ (@cP _ _ _ _) (@gX _ _ _ _ _ (@cP _ _ _ _) (@gX _ _ _ _ _ (@cP _ _ _ _) (@gX _ _ _ _ _ (@cP _ _ _ _) (@gX _ _ _ _ _ (@cP _ _ _ _) (@gX _ _ _ _ _ (@cP _ _ _ _) (@gX _ _ _ _ _ (@cP _ _ _ _) (@gX _ _ _ _ _ (@cP _ _ _ _) (@gX _ _ _ _ _ (@cP _ _ _ _) (@gX _ _ _ _ _ (@cP _ _ _ _) (@gX _ _ _ _ _ (@cP _ _ _ _) (@ai _) rfl) rfl) rfl) rfl) rfl) rfl) rfl) rfl) rfl) rfl) rfl) rfl)) rfl (by first | exact .inl rfl | exact .inr rfl))
   (ak (aI (i:=3) cI.nd rfl (Or.inr rfl) cP)
   (ak (aI (i:=4) cI.nd rfl (Or.inr rfl) (fw PySem.F.plainAttrs_str PySem.F.slot_str_join PySem.F.type_str_join ab3 cP (ae (lx (tg:=.Name "k" _) (outer:=aq (b8)) (N:=["deck","many","some","letters","base","at","start"]) (N':=["k","letters","deck"]) (nl:=1) (ix:=[3,0]) rfl rfl rfl (cg rfl bh (ae (bq hZ av (bq bM (ax aE hr rfl aj.mg aj.kp aj.b .nil aP (ae (pv 0) ai)) av)) ai))
    (fun _ _ _ _=>(ay (i:=0) md rfl (Or.inl rfl) (.inr rfl))) (fun _ _ _ _=>dv)
    (fun _ _ _ _=>(aT aaE (pv 1) (bq bM (ax aE hr rfl aj.mg aj.kp aj.b .nil aP (ae (pv 2) ai)) av) (fun _ _=>rfl)))) ai)))
   (ak (aI (i:=5) cI.nd rfl (Or.inr rfl) (bq bM (ax aE hr rfl aj.mg aj.kp aj.b .nil aP (ae (pv 0) ai)) (aw kE rfl aY ae8 (ae (pv 4) ai))))
   (ak (aI (i:=6) cI.nd rfl (Or.inr rfl) (ax aE hr rfl aj.mg aj.kp aj.b .nil aP (ae (pv 0) ai)))
   (ak (bB (cU (aX gB (bq bM (ax aE hr rfl aj.mg aj.kp aj.b .nil aP (ae (pv 0) ai)) av) av (bj _))
    (au (iX (i:=2) (tg:=.Name "k" _) (outer:=aq (b8)) (N:=["deck","many","some","letters","base","at","start"]) (N':=["k","base","letters","at","start"]) (nl:=1) (ix:=[4,3,5,6]) cI.nd rfl (Or.inl rfl) rfl rfl rfl (cg rfl bh (ae av ai))
    (fun _ _ _ _=>(ay (i:=0) mM rfl (Or.inl rfl) (.inr rfl))) (fun _ _ _ _=>dv)
    (fun _ _ _ _=>(bq oB (bq oB (gL aaF (pv 1) i9 (i8 (pv 3))) (aT aaE (pv 2) (bq bM (bq hZ (pv 4) (pv 0)) av) (fun _ _=>rfl))) (gL aaF (pv 1) (i8 (bq hZ (pv 3) av)) i9))))) aU))
   (au (aN (gL lX (pv 2) i9 (i8 (pv 1))))))))))),?_⟩
  refine⟨by show 12<=sizeLine;decide,fun sA nsA=>?_⟩
  have s1:Same H (upd H sA (.lst (twelve.map V.str))):=fun b u e=>by rw [ah (af e nsA)];exact e
  have e1:(upd H sA (.lst (twelve.map V.str))) sA=some (.lst (twelve.map V.str)):=ag
  have dk1:=dk.same s1
  have sAp:=dk.ne nsA
  refine⟨rfl,?_⟩
  dsimp only [gq,mP]
  refine bE _ _ _ _ _ _ _ _ _ ?_
  refine⟨_,rfl,p,rfl,dk1,fun r H2 r0 r1 dk2 B2 fr2=>⟨r,4,rfl,rfl,(by show (0:Int) < 4;decide),1,r % 4,rfl,rfl,1+r % 4,rfl,by omega,by omega,?_⟩⟩
  intro D nD
  obtain⟨m,hm,hm1,hm2⟩:∃ m:Nat,(1+r % 4).toNat=m/\1<=m/\m<=4:=⟨_,rfl,by omega,by omega⟩
  rw [hm]
  refine jW (Pr:=fun _ y=>∃ c,y=V.str ⟨#[c]⟩/\97<=c/\c<=122) nD dk2 (by omega) (fun x=>rfl) (fun G i R hi BG dG kG=>?_) (fun ys H3 len pr hD3 B3 dk3=>?_)
  ·refine⟨_,rfl,_,rfl,p,rfl,dG,fun q G' q0 q1 dG' BG' _=>⟨q,26,rfl,rfl,(by show (0:Int) < 26;decide),lettersS,_,97+(q % 26).toNat,rfl,rfl,lC,mB q,kG _ _ ⟨_,rfl,by omega,by omega⟩ dG' BG'⟩⟩
  obtain⟨ss,rfl,hss⟩:=xf fun y hy=>by
   obtain⟨i,e⟩:=aik.mp hy
   exact pr i y e
  rw [aeD] at len
  obtain⟨q1,q2⟩:=oF hss
  refine⟨Str.ofString "",D,ss,rfl,rfl,SqL.of hD3,?_,?_⟩
  ·rw [uQ hss]
   have:(Str.ofString "").length=0:=by decide
   rw [this]
   exact afb (aD (by omega))
  have kz:bp (Txt.join (Str.ofString "") ss):=yI ⟨by rw [jN,q1];omega,by rw [jN,q1];omega,by rw [jN];exact q2⟩
  generalize Txt.join (Str.ofString "") ss=z at kz ⊢
  have Bs:But p H _:=fun b u _ e=>s1 b u e
  have B03:But p H H3:=Bs.trans (B2.trans B3)
  have hs3:=B3 _ _ sAp (B2 _ _ sAp e1)
  have zl:=kz.1
  refine⟨_,rfl,p,rfl,dk3,fun r4 H4 _ _ dk4 B4 _=>⟨_,rfl,z,rfl,mU kz,_,_,rfl,rfl,(by show (0:Int) < (z.length:Int);omega),?_⟩⟩
  obtain⟨a,ea,ha⟩:∃ a:Nat,r4 % (z.length:Int)=(a:Int)/\a < z.length:=by
   have h0:0<=r4 % (z.length:Int):=afC _ (by omega)
   have h1:r4 % (z.length:Int) < (z.length:Int):=afr _ (by omega)
   exact⟨(r4 % (z.length:Int)).toNat,by omega,by omega⟩
  show bJ 5 (V.int (r4 % (z.length:Int))) _ _ _
  rw [ea]
  refine⟨_,rfl,p,rfl,dk4,fun st H5 _ _ dk5 B5 _=>?_⟩
  have B05:=B03.trans (B4.trans B5)
  have hs5:=B5 _ _ sAp (B4 _ _ sAp hs3)
  refine⟨fun σ' H'=>∃ (l:Addr) (ks:List Str),σ'=[some (.ref p),some (.int n),some (.ref l),some (.str lettersS),some (.str z),some (.int a),some (.int st)]/\H' l=some (.lst (ks.map V.str))/\ks.length=12/\(∀ k∈ks,bp k)/\DeckAt H' p/\But p H H',?_,?_⟩
  ·rintro σ' H' ⟨l,ks,rfl,hl,len,kk,dk',B⟩
   refine⟨_,rfl,_,rfl,(n:Int),rfl,l,_,rfl,SqL.of hl,fun l2 nl2=>?_⟩
   rw [wV (by rw [aeD];omega)]
   have s8:Same H' (upd H' l2 (.lst ((ks.map V.str).take n))):=fun b u e=>by rw [ah (af e nl2)];exact e
   exact k l2 (ks.take n) _ (B.free (dk'.ne nl2) nl2) (by rw [ag,aiC]) (by rw [ae9];omega) (fun x hx=>kk x (afA hx)) (dk'.same s8) (B.trans fun b u _ e=>s8 b u e)
  refine⟨_,rfl,p,rfl,dk5,fun r6 H6 _ _ dk6 B6 _=>⟨_,2,rfl,rfl,(by show (0:Int) < 2;decide),rfl,_,rfl,rP (fun _=>?_) (fun _=>?_)⟩⟩
  ·dsimp only [wB]
   refine bE _ _ _ _ _ _ _ _ _ ?_
   refine⟨12,rfl,by decide,by decide,?_⟩
   intro D2 nD2
   refine yn (n:=12) (F:=fun i=>V.str (qB z a (97+((st+(0+(i:Int))) % 26).toNat))) nD2 (by decide) (fun x=>rfl) (fun G i R hi sG q=>?_) (fun H7 s7 hD7=>?_)
   ·have sz:∀ y:Str,y.cps.toList.length<=8->y.length<=sizeLine:=fun y h=>afb (aD (by have:y.cps.toList.length=y.length:=aeT;omega))
    have cz:z.cps.toList.length<=4:=(xP kz).2.1
    have l1:(Txt.slice z none (some (a:Int))).length<=4:=by
     have e1:=aft List.length (ug z a)
     have e2:(Txt.slice z none (some (a:Int))).cps.toList.length=(Txt.slice z none (some (a:Int))).length:=aeT
     rw [ae9] at e1
     omega
    have l2:(Txt.slice z (some ((a:Int)+1)) none).length<=4:=by
     have e1:=aft List.length (og z (a+1))
     rw [show ((a+1:Nat):Int)=(a:Int)+1 by omega] at e1
     have e2:(Txt.slice z (some ((a:Int)+1)) none).cps.toList.length=(Txt.slice z (some ((a:Int)+1)) none).length:=aeT
     rw [age] at e1
     omega
    have l3:∀ c:Nat,(Txt.slice z none (some (a:Int))++(⟨#[c]⟩:Str)).length<=5:=fun c=>by
     have e1:=aft List.length (ig (Txt.slice z none (some (a:Int))) ⟨#[c]⟩)
     have e2:(Txt.slice z none (some (a:Int))++(⟨#[c]⟩:Str)).cps.toList.length=(Txt.slice z none (some (a:Int))++(⟨#[c]⟩:Str)).length:=aeT
     have e3:(Txt.slice z none (some (a:Int))).cps.toList.length=(Txt.slice z none (some (a:Int))).length:=aeT
     rw [aeG,e2,e3] at e1
     have e4:((⟨#[c]⟩:Str).cps.toList).length=1:=rfl
     omega
    refine⟨_,rfl,_,rfl,(a:Int),rfl,z,rfl,mU kz,_,rfl,_,rfl,_,rfl,_,_,rfl,rfl,_,26,rfl,rfl,(by show (0:Int) < 26;decide),lettersS,_,97+((st+(0+(i:Int))) % 26).toNat,rfl,rfl,lC,mB _,_,_,rfl,rfl,afb (aD (by show _+1<=1000;omega)),?_⟩
    exact⟨_,rfl,_,rfl,_,1,rfl,rfl,(a:Int)+1,rfl,z,rfl,mU kz,_,_,rfl,rfl,afb (aD (by have:=l3 (97+((st+(0+(i:Int))) % 26).toNat);omega)),q⟩
   ·refine⟨D2,(List.range 12).map fun (i:Nat)=>qB z a (97+((st+(0+(i:Int))) % 26).toNat),rfl,by rw [hD7,afZ];rfl,by rw [aeD,afs],fun x hx=>?_,dk6.same s7,B05.trans (B6.trans fun b u _ e=>s7 b u e)⟩
    obtain⟨i,_,rfl⟩:=ae3.mp hx
    have h0:0<=(st+(0+(i:Int))) % 26:=afC _ (by decide)
    have h1:(st+(0+(i:Int))) % 26 < 26:=afr _ (by decide)
    exact abD kz ha (by omega) (by omega)
  ·exact⟨sA,twelve,rfl,B6 _ _ sAp hs5,rfl,xn,dk6,B05.trans B6⟩
end
theorem pV {K K':PySem.W.Frag}{i j:Nat}{σ:L2.St}{q p:Addr}{ks:List Str}{G:Hp}{R:VK}(h1:σ[i]? = some (some (.ref q)))(h2:σ[j]? = some (some (.ref p)))(hq:G q=some (.lst (ks.map V.str)))(qp:q≠p)(ne:ks≠[])(dG:DeckAt G p)
 (k:∀ z G',z∈ks->DeckAt G' p->But p G G'->R (.str z) G') :
 tOp (adi K) (wx i) (tOp (rI (fun _ j=>0 < j) fun i j=>.int (i % j)) (aal jz [] E0 (gq (wx j) mP)) (tCB (fun xs H Q=>∃ p ys,xs=[V.ref p]/\(SqL K' H p ys\/SqT K' H p ys)/\Q (.int ys.length) H) (gq (wx i) mP))) σ G R:=by
 have pos:=aiO.mpr ne
 refine⟨_,h1,_,h2,p,rfl,dG,fun r G' r0 r1 dG' B' _=>⟨_,h1,q,_,rfl,.inl (SqL.of (B' _ _ qp hq)),r,_,rfl,rfl,(by rw [aeD];show (0:Int) < (ks.length:Int);omega),?_⟩⟩
 rw [aeD]
 obtain⟨m,em,hm⟩:∃ m:Nat,r % (ks.length:Int)=(m:Int)/\m < ks.length:=by
  have a:0<=r % (ks.length:Int):=afC _ (by omega)
  have b:r % (ks.length:Int) < (ks.length:Int):=afr _ (by omega)
  exact⟨(r % (ks.length:Int)).toNat,by omega,by omega⟩
 refine⟨q,_,(m:Int),.str ks[m],rfl,aft V.int em,SqL.of (B' _ _ qp hq),cf (by rw [aeP,aeC hm];rfl),k _ _ (afa hm) dG' B'⟩
structure RC where
 t:Addr
 d:Addr
 w:Addr
 r:Rm
def RC.two (x:RC):List Addr:=[x.d,x.w]
def own (kA rA:Addr)(L:List RC):List Addr:=kA::rA::L.flatMap RC.two
structure Sep (H0 H:Hp)(p kA rA:Addr)(ks:List Str)(L:List RC):Prop where
 dk0:DeckAt H0 p
 dk:DeckAt H p
 but:But p H0 H
 fr:∀ a∈own kA rA L,H0 a=none
 nd:(own kA rA L).Nodup
 hk:H kA=some (.lst (ks.map V.str))
 hr:H rA=some (.lst (L.map fun x=>V.ref x.t))
 it:∀ x∈L,H x.t=some (.tup [.ref x.d,.ref x.w])/\H x.d=some (.lst (x.r.1.map V.str))/\H x.w=some (.lst (x.r.2.map V.str))
theorem DeckAt.net {H:Hp}{p b:Addr}{vs:List V}(x:DeckAt H p)(n:H b=some (.tup vs)):b≠p:=fun z=>by
 obtain⟨_,e,_⟩:=x
 rw [z,e] at n;cases n
theorem DeckAt.up {H:Hp}{p b:Addr}{o:HO}(x:DeckAt H p)(n:b≠p):DeckAt (upd H b o) p:=let ⟨ns,e,k⟩:=x;⟨ns,by rw [ah n.symm];exact e,k⟩
theorem own_mem {kA rA a:Addr}{L:List RC}:a∈own kA rA L↔a=kA\/a=rA\/∃ x∈L,a=x.d\/a=x.w:=by
 unfold own RC.two
 simp only [aeX,afN,af5,aie]
section
variable {H0 H H':Hp}{p kA rA:Addr}{ks:List Str}{L:List RC}
theorem Sep.ne (x:Sep H0 H p kA rA ks L){a:Addr}(h:a∈own kA rA L):a≠p:=x.dk0.ne (x.fr a h)
theorem Sep.on (x:Sep H0 H p kA rA ks L)(d:DeckAt H' p)(b:But p H H'):Sep H0 H' p kA rA ks L :=
 ⟨x.dk0,d,x.but.trans b,x.fr,x.nd,b _ _ (x.ne (own_mem.mpr (.inl rfl))) x.hk,b _ _ (x.ne (own_mem.mpr (.inr (.inl rfl)))) x.hr,fun y hy =>
  let ⟨a,c,e⟩:=x.it y hy
  ⟨b _ _ (x.dk.net a) a,b _ _ (x.ne (own_mem.mpr (.inr (.inr ⟨y,hy,.inl rfl⟩)))) c,b _ _ (x.ne (own_mem.mpr (.inr (.inr ⟨y,hy,.inr rfl⟩)))) e⟩⟩
theorem Sep.same (x:Sep H0 H p kA rA ks L)(s:Same H H'):Sep H0 H' p kA rA ks L:=x.on (x.dk.same s) fun b u _ e=>s b u e
theorem Sep.some (x:Sep H0 H p kA rA ks L){a:Addr}(h:a∈own kA rA L):∃ vs,H a=some (.lst vs):=by
 rcases own_mem.mp h with rfl | rfl | ⟨y,hy,rfl | rfl⟩
 ·exact⟨_,x.hk⟩
 ·exact⟨_,x.hr⟩
 ·exact⟨_,(x.it y hy).2.1⟩
 ·exact⟨_,(x.it y hy).2.2⟩
theorem Sep.out (x:Sep H0 H p kA rA ks L){a:Addr}(n:H a=none):a ∉ own kA rA L:=fun h=>by
 obtain⟨vs,e⟩:=x.some h
 rw [n] at e;cases e
theorem Sep.free (x:Sep H0 H p kA rA ks L){a:Addr}(n:H a=none):H0 a=none:=x.but.free (x.dk.ne n) n
theorem Sep.tne (x:Sep H0 H p kA rA ks L){a:Addr}(h:a∈own kA rA L){y:RC}(hy:y∈L):y.t≠a:=fun z=>by
 obtain⟨vs,e⟩:=x.some h
 have:=(x.it y hy).1
 rw [z,e] at this;cases this
theorem Sep.butu (x:Sep H0 H p kA rA ks L){a:Addr}{o:HO}(h:a∈own kA rA L):But p H0 (upd H a o):=fun b u nb e=>by
 rw [ah (af e (x.fr a h))]
 exact x.but b u nb e
theorem uS (nd:(own kA rA L).Nodup):kA≠rA/\∀ y∈L,y.d≠kA/\y.w≠kA/\y.d≠rA/\y.w≠rA/\y.d≠y.w:=by
 unfold own at nd
 rw [afx,afx] at nd
 obtain⟨n1,n2,n3⟩:=nd
 have m1:∀ y∈L,y.d∈L.flatMap RC.two:=fun y hy=>afN.mpr ⟨y,hy,aeQ⟩
 have m2:∀ y∈L,y.w∈L.flatMap RC.two:=fun y hy=>afN.mpr ⟨y,hy,aeV _ aeQ⟩
 refine⟨fun z=>n1 (z▸aeQ),fun y hy=>⟨fun z=>n1 (aeV _ (z▸m1 y hy)),fun z=>n1 (aeV _ (z▸m2 y hy)),fun z=>n2 (z▸m1 y hy),fun z=>n2 (z▸m2 y hy),?_⟩⟩
 have:=(aj8.mp n3).1 y hy
 unfold RC.two at this
 rw [afE] at this
 exact this.1 _ aeQ
theorem qI {L1 L2:List RC}{x:RC}(nd:(own kA rA (L1++x::L2)).Nodup):∀ y∈L1++L2,y.d≠x.d/\y.d≠x.w/\y.w≠x.d/\y.w≠x.w:=by
 unfold own at nd
 rw [afx,afx] at nd
 have h:=(aj8.mp nd.2.2).2
 rw [afn,afE] at h
 obtain⟨_,⟨h2,_⟩,h3⟩:=h
 have a:∀ z:RC,z.d∈z.two:=fun z=>aeQ
 have b:∀ z:RC,z.w∈z.two:=fun z=>aeV _ aeQ
 intro y hy
 rcases aeI.mp hy with q | q
 ·have g:=h3 y q x aeQ
  exact⟨g _ (a y) _ (a x),g _ (a y) _ (b x),g _ (b y) _ (a x),g _ (b y) _ (b x)⟩
 ·have g:=h2 y q
  exact⟨(g _ (a x) _ (a y)).symm,(g _ (b x) _ (a y)).symm,(g _ (a x) _ (b y)).symm,(g _ (b x) _ (b y)).symm⟩
theorem Sep.key (x:Sep H0 H p kA rA ks L)(ks':List Str):Sep H0 (upd H kA (.lst (ks'.map V.str))) p kA rA ks' L:=by
 have m:kA∈own kA rA L:=own_mem.mpr (.inl rfl)
 obtain⟨n1,n2⟩:=uS x.nd
 refine⟨x.dk0,x.dk.up (x.ne m),x.butu m,x.fr,x.nd,ag,by rw [ah n1.symm];exact x.hr,fun y hy=>?_⟩
 obtain⟨a,b,c⟩:=x.it y hy
 obtain⟨e1,e2,_⟩:=n2 y hy
 exact⟨by rw [ah (x.tne m hy)];exact a,by rw [ah e1];exact b,by rw [ah e2];exact c⟩
theorem Sep.newk (x:Sep H0 H p kA rA ks L){kB:Addr}{ks':List Str}(n:kB ∉ own kA rA L)(f:H0 kB=none)(h:H kB=Option.some (.lst (ks'.map V.str))):Sep H0 H p kB rA ks' L:=by
 refine⟨x.dk0,x.dk,x.but,fun a ha=>?_,?_,h,x.hr,x.it⟩
 ·rcases aeX.mp ha with q | q
  ·rw [q];exact f
  ·exact x.fr a (aeV _ q)
 ·have:=x.nd
  unfold own at this ⊢
  rw [afx] at this ⊢
  exact⟨fun z=>n (aeV _ z),this.2⟩
theorem Sep.more (x1:Sep H0 H p kA rA ks L){y:RC}(dk:DeckAt H' p)(b:But p H H')(nd:H y.d=none)(nw:H y.w=none)(dw:y.d≠y.w)(ht:H' y.t=Option.some (.tup [.ref y.d,.ref y.w]))(hd:H' y.d=Option.some (.lst (y.r.1.map V.str)))(hw:H' y.w=Option.some (.lst (y.r.2.map V.str))) :
 Sep H0 (upd H' rA (.lst (L.map (fun x=>V.ref x.t)++[.ref y.t]))) p kA rA ks (L++[y]):=by
 have x:=x1.on dk b
 have m:rA∈own kA rA L:=own_mem.mpr (.inr (.inl rfl))
 obtain⟨n1,n2⟩:=uS x.nd
 have o1:=x1.out nd
 have o2:=x1.out nw
 have eo:own kA rA (L++[y])=own kA rA L++[y.d,y.w]:=by
  unfold own
  rw [afB]
  simp [RC.two]
 have tr:y.t≠rA:=fun z=>by have:=x.hr;rw [← z,ht] at this;cases this
 refine⟨x.dk0,dk.up (x.ne m),x.butu m,fun a ha=>?_,?_,by rw [ah n1];exact x.hk,by rw [ag,aeO];rfl,fun z hz=>?_⟩
 ·rw [eo] at ha
  rcases aeI.mp ha with q | q
  ·exact x.fr a q
  ·simp only [aeX,af5,aie] at q
   rcases q with rfl | rfl
   ·exact x1.free nd
   ·exact x1.free nw
 ·rw [eo,afX]
  refine⟨x.nd,?_,fun a ha c hc=>?_⟩
  ·rw [afx]
   exact⟨fun z=>dw (aeF.mp z),by simp⟩
  ·simp only [aeX,af5,aie] at hc
   rcases hc with rfl | rfl
   ·exact fun z=>o1 (z▸ha)
   ·exact fun z=>o2 (z▸ha)
 ·rcases aeI.mp hz with q | q
  ·obtain⟨a,c,e⟩:=x.it z q
   obtain⟨_,_,e3,e4,_⟩:=n2 z q
   exact⟨by rw [ah (x.tne m q)];exact a,by rw [ah e3];exact c,by rw [ah e4];exact e⟩
  ·rw [aeF.mp q]
   refine⟨by rw [ah tr];exact ht,?_,?_⟩
   ·rw [ah fun z=>o1 (by rw [z];exact m)];exact hd
   ·rw [ah fun z=>o2 (by rw [z];exact m)];exact hw
theorem Sep.lock {L1 L2:List RC}{y:RC}(x:Sep H0 H p kA rA ks (L1++y::L2))(l:List Str):Sep H0 (upd H y.d (.lst (l.map V.str))) p kA rA ks (L1++⟨y.t,y.d,y.w,(l,y.r.2)⟩::L2):=by
 have hy:y∈L1++y::L2:=aeL _ aeQ
 have m:y.d∈own kA rA (L1++y::L2):=own_mem.mpr (.inr (.inr ⟨y,hy,.inl rfl⟩))
 obtain⟨n1,n2⟩:=uS x.nd
 have sp:=qI x.nd
 have eo:own kA rA (L1++(⟨y.t,y.d,y.w,(l,y.r.2)⟩:RC)::L2)=own kA rA (L1++y::L2):=by
  unfold own
  rw [afB,afB]
  rfl
 obtain⟨f1,f2,f3,f4,f5⟩:=n2 y hy
 refine⟨x.dk0,x.dk.up (x.ne m),x.butu m,by rw [eo];exact x.fr,by rw [eo];exact x.nd,by rw [ah f1.symm];exact x.hk,by rw [ah f3.symm,x.hr];simp,fun z hz=>?_⟩
 obtain⟨a,b,c⟩:=x.it y hy
 rcases aeI.mp hz with q | q
 ·have q':z∈L1++y::L2:=ae6 _ q
  obtain⟨a,b,c⟩:=x.it z q'
  obtain⟨s1,_,s3,_⟩:=sp z (ae6 _ q)
  exact⟨by rw [ah (x.tne m q')];exact a,by rw [ah s1];exact b,by rw [ah s3];exact c⟩
 ·rcases aeX.mp q with q | q
  ·rw [q]
   exact⟨by rw [ah (x.tne m hy)];exact a,ag,by rw [ah f5.symm];exact c⟩
  ·have q':z∈L1++y::L2:=aeL _ (aeV _ q)
   obtain⟨a,b,c⟩:=x.it z q'
   obtain⟨s1,_,s3,_⟩:=sp z (aeL _ q)
   exact⟨by rw [ah (x.tne m q')];exact a,by rw [ah s1];exact b,by rw [ah s3];exact c⟩
theorem Sep.inner {L1 L2:List RC}{y:RC}(x:Sep H0 H p kA rA ks (L1++y::L2))(l:List Str):Sep H0 (upd H y.w (.lst (l.map V.str))) p kA rA ks (L1++⟨y.t,y.d,y.w,(y.r.1,l)⟩::L2):=by
 have hy:y∈L1++y::L2:=aeL _ aeQ
 have m:y.w∈own kA rA (L1++y::L2):=own_mem.mpr (.inr (.inr ⟨y,hy,.inr rfl⟩))
 obtain⟨n1,n2⟩:=uS x.nd
 have sp:=qI x.nd
 have eo:own kA rA (L1++(⟨y.t,y.d,y.w,(y.r.1,l)⟩:RC)::L2)=own kA rA (L1++y::L2):=by
  unfold own
  rw [afB,afB]
  rfl
 obtain⟨f1,f2,f3,f4,f5⟩:=n2 y hy
 refine⟨x.dk0,x.dk.up (x.ne m),x.butu m,by rw [eo];exact x.fr,by rw [eo];exact x.nd,by rw [ah f2.symm];exact x.hk,by rw [ah f4.symm,x.hr];simp,fun z hz=>?_⟩
 obtain⟨a,b,c⟩:=x.it y hy
 rcases aeI.mp hz with q | q
 ·have q':z∈L1++y::L2:=ae6 _ q
  obtain⟨a,b,c⟩:=x.it z q'
  obtain⟨_,s2,_,s4⟩:=sp z (ae6 _ q)
  exact⟨by rw [ah (x.tne m q')];exact a,by rw [ah s2];exact b,by rw [ah s4];exact c⟩
 ·rcases aeX.mp q with q | q
  ·rw [q]
   exact⟨by rw [ah (x.tne m hy)];exact a,by rw [ah f5];exact b,ag⟩
  ·have q':z∈L1++y::L2:=aeL _ (aeV _ q)
   obtain⟨a,b,c⟩:=x.it z q'
   obtain⟨_,s2,_,s4⟩:=sp z (aeL _ q)
   exact⟨by rw [ah (x.tne m q')];exact a,by rw [ah s2];exact b,by rw [ah s4];exact c⟩
theorem Sep.rooms (x:Sep H0 H p kA rA ks L):RoomsAt H (L.map fun x=>V.ref x.t) (L.map (·.r)):=⟨by simp,fun i v r e1 e2=>by
 rw [aeP] at e1 e2
 obtain⟨y,hy,rfl⟩:=agv.mp e1
 rw [hy] at e2
 cases e2
 obtain⟨a,b,c⟩:=x.it y (afg hy)
 exact⟨y.t,y.d,y.w,rfl,a,b,c⟩⟩
end
def PlU (U:List Str)(r:Rm):Prop:=(∃ k,r.1=[k]/\k∈U)/\(∀ k∈r.2,k∈U)/\r.2.length<=12
theorem PlU.mono {U V:List Str}{r:Rm}(h:PlU U r)(s:∀ k∈U,k∈V):PlU V r:=let ⟨⟨k,e,m⟩,a,b⟩:=h;⟨⟨k,e,s k m⟩,fun k hk=>s k (a k hk),b⟩
theorem iF {A:Around}{H:Hp}{x y:Addr}{xs:List V}{ds:List PyData}{Q:VK}(hx:H x=some (.lst xs))(s:SeesAll H xs ds)(l:PyData.canLayAll0 ds=true)(hy:H y=some (.lst []))(hu:A.units+1 < cLine)(q:Q (.bl (!xs.isEmpty)) H):acK A true (.ref x) (.ref y) H Q:=by
 refine⟨.list ds,.list [],.lst hx s,.lst hy .nil,by simp only [PyData.canLay0,l],rfl,aff (agN (ahe _ _) _) hu,?_⟩
 have e:ds.isEmpty=xs.isEmpty:=by cases s<;>rfl
 rw [if_pos rfl,show PyData.eqv (.list ds) (.list [])=ds.isEmpty by cases ds<;>rfl,e]
 exact q
theorem uU {A:Around}{H:Hp}{x y:Addr}{xs:List V}{ds:List PyData}{Q:VK}(hx:H x=some (.lst xs))(s:SeesAll H xs ds)(l:PyData.canLayAll0 ds=true)(hy:H y=some (.lst []))(hu:A.units+1 < cLine)(q:Q (.bl xs.isEmpty) H):acK A false (.ref x) (.ref y) H Q:=by
 refine⟨.list ds,.list [],.lst hx s,.lst hy .nil,by simp only [PyData.canLay0,l],rfl,aff (agN (ahe _ _) _) hu,?_⟩
 have e:ds.isEmpty=xs.isEmpty:=by cases s<;>rfl
 rw [if_neg (by decide),show PyData.eqv (.list ds) (.list [])=ds.isEmpty by cases ds<;>rfl,e]
 exact q
theorem ar {H:Hp}{l:Addr}{o:HO}(n:H l=none):Same H (upd H l o):=fun b u e=>by rw [ah (af e n)];exact e
theorem gj {H H':Hp}{p:Addr}(s:Same H H'):But p H H':=fun b u _ e=>s b u e
theorem oa {r:Int}{n:Nat}(h:0 < n):∃ m:Nat,r % (n:Int)=(m:Int)/\m < n:=by
 have a:0<=r % (n:Int):=afC _ (by omega)
 have b:r % (n:Int) < (n:Int):=afr _ (by omega)
 exact⟨(r % (n:Int)).toNat,by omega,by omega⟩
theorem aem {xs:List Int}{r:Int}(h0:0<=r)(h1:r < xs.length):∃ m∈xs,atI (xs.map V.int) r=some (.int m):=by
 obtain⟨j,rfl⟩:∃ j:Nat,r=(j:Int):=⟨r.toNat,by omega⟩
 have hj:j < xs.length:=by omega
 exact⟨xs[j],afa hj,cf (by rw [aeP,aeC hj];rfl)⟩
def p9 (r:Rm):PyData:=.tuple [.list (r.1.map PyData.str),.list (r.2.map PyData.str)]
theorem oI {H:Hp}:∀ {vs:List V} {rs:List Rm},RoomsAt H vs rs->SeesAll H vs (rs.map p9)
 | [],[],_=>.nil
 | [],_::_,h=>absurd h.1 (by simp)
 | _::_,[],h=>absurd h.1 (by simp)
 | v::vs,r::rs,h=>by
  obtain⟨t,a,b,rfl,h1,h2,h3⟩:=h.2 0 v r rfl rfl
  refine .cons (.tup h1 (.cons (.lst h2 (SeesAll.strs _)) (.cons (.lst h3 (SeesAll.strs _)) .nil))) (oI ⟨by simpa using h.1,fun i v' r' e1 e2=>h.2 (i+1) v' r' (by simpa using e1) (by simpa using e2)⟩)
theorem qg:∀ {rs:List Rm},(∀ r∈rs,(∀ k∈r.1,bp k)/\∀ k∈r.2,bp k)->PyData.canLayAll0 (rs.map p9)=true
 | [],_=>rfl
 | r::rs,h=>by
  obtain⟨h1,h2⟩:=h r aeQ
  have e1:=ft h1
  have e2:=ft h2
  have e3:=qg fun q hq=>h q (aeV _ hq)
  rw [aeZ]
  simp only [PyData.canLayAll0,PyData.canLay0,p9,e1,e2,e3,Bool.and_self]
def hV (rs:List Rm)(x:Str):Nat->List Nat
 | 0=>[]
 | n+1=>hV rs x n++(if x∈((rs[n]?).getD ([],[])).1 then [n] else [])
theorem uJ (rs:List Rm)(x:Str):∀ n,(hV rs x n).length<=n
 | 0=>aeN 0
 | n+1=>by
  have:=uJ rs x n
  unfold hV
  rw [aeG]
  split<;>simp<;>omega
theorem mem_nums {rs:List Rm}{x:Str}{i:Nat}:∀ {n},i∈hV rs x n↔i < n/\x∈((rs[i]?).getD ([],[])).1
 | 0=>⟨(fun h=>nomatch h),fun h=>absurd h.1 (aiM _)⟩
 | n+1=>by
  unfold hV
  rw [aeI,mem_nums (n:=n)]
  constructor
  ·rintro (⟨h1,h2⟩ | h)
   ·exact⟨by omega,h2⟩
   ·split at h
    ·rename_i hx;cases aeF.mp h;exact⟨by omega,hx⟩
    ·exact nomatch h
  ·rintro⟨h1,h2⟩
   by_cases e:i=n
   ·subst e;exact .inr (by rw [if_pos h2];exact aeF.mpr rfl)
   ·exact .inl ⟨by omega,h2⟩
theorem xi {rs:List Rm}{x:Str}:∀ n,(hV rs x n).Nodup
 | 0=>ahI
 | n+1=>by
  unfold hV
  rw [afX]
  refine⟨xi n,by split<;>simp,fun a ha b hb z=>?_⟩
  subst z
  have:=(mem_nums.mp ha).1
  split at hb
  ·cases aeF.mp hb;omega
  ·exact nomatch hb
structure LockMap (B H:Hp)(kvs:List (Key×V))(D:Str->List Nat):Prop where
 non:∀ x,fq kvs (.inr x)=none->D x=[]
 som:∀ x v,fq kvs (.inr x)=some v->∃ a:Addr,v=.ref a/\B a=none/\H a=some (.lst ((D x).map fun i=>V.int (i:Nat)))
 inj:∀ x y a,fq kvs (.inr x)=some (.ref a)->fq kvs (.inr y)=some (.ref a)->x=y
theorem LockMap.congr {B H:Hp}{kvs:List (Key×V)}{D D':Str->List Nat}(h:LockMap B H kvs D)(e:∀ x,D x=D' x):LockMap B H kvs D':=by
 have:D=D':=funext e
 rw [← this];exact h
theorem LockMap.keep {B H H':Hp}{kvs:List (Key×V)}{D:Str->List Nat}(h:LockMap B H kvs D)(s:∀ a xs,B a=none->H a=some (.lst xs)->H' a=some (.lst xs)):LockMap B H' kvs D :=
 ⟨h.non,fun x v e=>let ⟨a,e1,e2,e3⟩:=h.som x v e;⟨a,e1,e2,s _ _ e2 e3⟩,h.inj⟩
theorem LockMap.more {B H:Hp}{kvs:List (Key×V)}{D:Str->List Nat}(h:LockMap B H kvs D){z:Str}{a:Addr}{i:Nat}(e:fq kvs (.inr z)=some (.ref a)) :
 LockMap B (upd H a (.lst ((D z++[i]).map fun i=>V.int (i:Nat)))) kvs (fun x=>if x=z then D x++[i] else D x):=by
 refine⟨fun x hx=>?_,fun x v hx=>?_,h.inj⟩
 ·have:x≠z:=fun w=>by rw [w,e] at hx;cases hx
  rw [if_neg this];exact h.non x hx
 ·obtain⟨b,rfl,h1,h2⟩:=h.som x v hx
  refine⟨b,rfl,h1,?_⟩
  by_cases w:x=z
  ·subst w
   rw [e] at hx;cases hx
   rw [ag,if_pos rfl]
  ·have:b≠a:=fun q=>by subst q;exact w (h.inj x z b hx e)
   rw [ah this,if_neg w];exact h2
theorem LockMap.fresh {B H:Hp}{kvs:List (Key×V)}{D:Str->List Nat}(h:LockMap B H kvs D){z:Str}{l:Addr}{i:Nat}(e:fq kvs (.inr z)=none)(hl:H l=none)(bl:B l=none) :
 LockMap B (upd H l (.lst ([i].map fun i=>V.int (i:Nat)))) (kO kvs (.inr z) (.ref l)) (fun x=>if x=z then D x++[i] else D x):=by
 refine⟨fun x hx=>?_,fun x v hx=>?_,fun x y a hx hy=>?_⟩
 ·rw [iG] at hx
  by_cases w:x=z
  ·subst w;rw [if_pos rfl] at hx;cases hx
  ·rw [if_neg (fun q=>w (by cases q;rfl))] at hx
   rw [if_neg w];exact h.non x hx
 ·rw [iG] at hx
  by_cases w:x=z
  ·subst w;rw [if_pos rfl] at hx;cases hx
   refine⟨l,rfl,bl,?_⟩
   rw [ag,if_pos rfl,h.non x e];rfl
  ·rw [if_neg (fun q=>w (by cases q;rfl))] at hx
   obtain⟨b,rfl,h1,h2⟩:=h.som x v hx
   refine⟨b,rfl,h1,?_⟩
   rw [ah (af h2 hl),if_neg w];exact h2
 ·rw [iG] at hx hy
  by_cases w:x=z<;>by_cases w':y=z
  ·rw [w,w']
  ·subst w
   rw [if_pos rfl] at hx;cases hx
   rw [if_neg (fun q=>w' (by cases q;rfl))] at hy
   obtain⟨b,q,_,h2⟩:=h.som y _ hy
   cases q
   rw [hl] at h2;cases h2
  ·subst w'
   rw [if_pos rfl] at hy;cases hy
   rw [if_neg (fun q=>w (by cases q;rfl))] at hx
   obtain⟨b,q,_,h2⟩:=h.som x _ hx
   cases q
   rw [hl] at h2;cases h2
  ·rw [if_neg (fun q=>w (by cases q;rfl))] at hx
   rw [if_neg (fun q=>w' (by cases q;rfl))] at hy
   exact h.inj x y a hx hy
end K7
namespace L2
open PySem PyProof.Rows
theorem rF {K:PySem.W.Frag}{nl:Nat}{ix:List Nat}{tf:TT}{te:TE}{σ:St}{D:Addr}{ys:List V}{H:Hp}{x:V}{nxt:List V->Hp->Prop}{i j:Nat}(a:Addr)(v1 v2:V)(hx:x=.ref a)(hs:SqT K H a [v1,v2])
 (hl:(((dz nl ix σ).set i (some v1)).set j (some v2)).drop nl=ix.map fun j=>(σ[j]?).join)
 (h:tf (((dz nl ix σ).set i (some v1)).set j (some v2)) H fun b H5=>if b=true then te (((dz nl ix σ).set i (some v1)).set j (some v2)) H5 fun y H6=>H6 D=some (.lst ys)/\ys.length < sizeLine/\nxt (ys++[y]) (upd H6 D (.lst (ys++[y]))) else nxt ys H5) :
 bL nl ix (y4 K 2 (kQ (bJ i) (kQ (bJ j) aaW))) tf te σ D ys H x nxt:=by
 subst hx
 unfold bL y4 kQ bJ aaW
 exact⟨a,_,rfl,hs,rfl,v1,[v2],rfl,v2,[],rfl,rfl,⟨by simp,hl⟩,h⟩
end L2
namespace K7
open PySem L2 PyProof.Rows
inductive Com (ks:List Str)(rs:List Rm):Str->Prop
 | key {x:Str}:x∈ks->Com ks rs x
 | room {x:Str} {r:Rm}:r∈rs->(∀ y∈r.1,Com ks rs y)->x∈r.2->Com ks rs x
def dd:List Str->List Str
 | []=>[]
 | a::r=>if a∈dd r then dd r else a::dd r
theorem mem_dd {x:Str}:∀ {l:List Str},x∈dd l↔x∈l
 | []=>Iff.rfl
 | a::r=>by
  unfold dd
  split
  ·rename_i h
   rw [mem_dd,aeX]
   refine⟨.inr,fun z=>z.elim (fun e=>?_) id⟩
   subst e;exact mem_dd.mp h
  ·rw [aeX,aeX,mem_dd]
theorem aab:∀ l:List Str,(dd l).Nodup
 | []=>ahI
 | a::r=>by
  unfold dd
  split
  ·exact aab r
  ·rename_i h
   exact afx.mpr ⟨h,aab r⟩
def sr (l:List Str)(C:List Str):Nat:=(l.filter fun x=>decide (x ∉ C)).length
def bt (r:Rm)(C:List Str):Nat:=sr (dd r.1) C
theorem qT {z:Str}{C C':List Str}(hz:z ∉ C)(hC:∀ x,x∈C'↔x∈C\/x=z):∀ l:List Str,l.Nodup->sr l C'+(if z∈l then 1 else 0)=sr l C
 | [],_=>rfl
 | a::l,nd=>by
  rw [afx] at nd
  have ih:=qT hz hC l nd.2
  unfold sr at ih ⊢
  rw [af6,af6]
  by_cases e:a=z
  ·subst e
   rw [if_neg nd.1] at ih
   have h1:a∈C':=(hC a).mpr (.inr rfl)
   simp [h1,hz]
   simpa using ih
  ·have h1:a∈C'↔a∈C:=⟨fun h=>((hC a).mp h).resolve_right e,fun h=>(hC a).mpr (.inl h)⟩
   have h2:(z∈a::l)↔z∈l:=⟨fun h=>(aeX.mp h).resolve_left (fun q=>e q.symm),fun h=>aeV _ h⟩
   by_cases h3:a∈C
   ·simp only [h1.mpr h3,h3,not_true_eq_false,decide_false,afj,agl,h2]
    exact ih
   ·have h3':a ∉ C':=fun q=>h3 (h1.mp q)
    simp only [h3',h3,not_false_eq_true,decide_true,ahl,h2,afd]
    omega
theorem qh {z:Str}{C C':List Str}(hz:z ∉ C)(hC:∀ x,x∈C'↔x∈C\/x=z)(r:Rm):bt r C'+(if z∈r.1 then 1 else 0)=bt r C:=by
 have:=qT hz hC (dd r.1) (aab _)
 unfold bt
 simp only [mem_dd] at this
 exact this
theorem wantN_zero {r:Rm}{C:List Str}:bt r C=0↔∀ x∈r.1,x∈C:=by
 unfold bt sr
 rw [af8,ajV]
 constructor
 ·intro h x hx
  have:=h x (mem_dd.mpr hx)
  exact afP fun q=>this (by simpa using q)
 ·intro h x hx
  simpa using h x (mem_dd.mp hx)
theorem wK (r:Rm):bt r []=(dd r.1).length:=by
 unfold bt sr
 rw [agw.mpr]
 intro x _
 simp
def pend:List Nat->List Rm->Nat
 | m::ws,r::rs=>(if m=0 then 0 else r.2.length)+pend ws rs
 | _,_=>0
theorem uB:∀ (ws:List Nat) (rs:List Rm) (i m:Nat) (r:Rm),ws[i]? = some (m+1)->rs[i]? = some r->pend (ws.set i m) rs+(if m=0 then r.2.length else 0)=pend ws rs
 | [],_,_,_,_,h,_=>by simp at h
 | _::_,[],_,_,_,_,h=>by simp at h
 | a::ws,b::rs,0,m,r,h1,h2=>by
  simp only [List.getElem?_cons_zero,ajh] at h1 h2
  subst h1 h2
  simp only [List.set_cons_zero,pend,Nat.add_one_ne_zero,agl]
  split<;>omega
 | a::ws,b::rs,i+1,m,r,h1,h2=>by
  simp only [ahV] at h1 h2
  have:=uB ws rs i m r h1 h2
  simp only [List.set_cons_succ,pend]
  omega
theorem yd:∀ (ws:List Nat) (rs:List Rm),pend ws rs<=(rs.flatMap (·.2)).length
 | [],_=>ae2 _
 | _::_,[]=>ae2 _
 | a::ws,b::rs=>by
  have:=yd ws rs
  simp only [pend,afO,aeG]
  split<;>omega
def uk (rs:List Rm)(C:List Str):List Nat:=(List.range rs.length).filter fun i=>decide (bt ((rs[i]?).getD ([],[])) C=0)
def kR (hand locks:List Str):Bool:=locks.all fun x=>decide (locks.count x<=hand.count x)
def hW (hand:List Str)(r:Rm):List Str:=r.1.foldl List.erase hand++r.2
theorem gi (x:Str):∀ (l h:List Str),(l.foldl List.erase h).count x=h.count x - l.count x
 | [],h=>by simp
 | a::l,h=>by
  rw [aiQ,gi x l,aip,aht]
  by_cases e:a=x
  ·subst e
   simp
   omega
  ·have:¬ x=a:=fun z=>e z.symm
   simp [e,this]
theorem jQ:∀ (l h:List Str),(l.foldl List.erase h).length<=h.length
 | [],h=>aeN _
 | a::l,h=>by
  rw [aiQ]
  exact afk (jQ l _) (List.length_erase_le ..)
theorem acM {hand locks:List Str}(h:kR hand locks=true){i:Nat}(hi:i < locks.length):locks[i]∈(locks.take i).foldl List.erase hand:=by
 unfold kR at h
 rw [agH] at h
 have h1:=agi (h locks[i] (afa hi))
 have h2:=gi locks[i] (locks.take i) hand
 have e:locks=locks.take i++locks[i]::locks.drop (i+1):=by rw [← afQ hi,afp]
 have h3:locks.count locks[i]=(locks.take i).count locks[i]+(1+(locks.drop (i+1)).count locks[i]):=by
  have:=aft (List.count locks[i]) e
  rw [afY,List.count_cons_self] at this
  omega
 exact afF.mp (by omega)
theorem xN (hand:List Str)(r:Rm):(hW hand r).length<=hand.length+r.2.length:=by
 unfold hW
 rw [aeG]
 exact ahF (jQ _ _) _
def bf (ks:List Str)(rs:List Rm)(order:List Nat):List Str:=order.foldl (fun hd i=>hW hd ((rs[i]?).getD ([],[]))) ks
theorem lL (ks:List Str)(rs:List Rm)(order:List Nat)(i:Nat):bf ks rs (order++[i])=hW (bf ks rs order) ((rs[i]?).getD ([],[])):=by
 unfold bf
 rw [aic]
 rfl
theorem oo {ks:List Str}{rs:List Rm}(m:Nat)(hm:∀ r∈rs,r.2.length<=m):∀ (order:List Nat) (ks:List Str),(bf ks rs order).length<=ks.length+m * order.length
 | [],ks=>by simp [bf]
 | i::order,ks=>by
  have h1:=oo m hm (ks:=ks) order (hW ks ((rs[i]?).getD ([],[])))
  have h2:=xN ks ((rs[i]?).getD ([],[]))
  have h3:((rs[i]?).getD ([],[])).2.length<=m:=by
   cases e:rs[i]? with
   | none=>exact ae2 _
   | some r=>exact hm r (afg e)
  rw [afd,Nat.mul_succ]
  show (bf (hW ks ((rs[i]?).getD ([],[]))) rs order).length<=_
  omega
def iT (rs:List Rm)(hand:List Str)(order:List Nat):List Nat:=(List.range rs.length).filter fun i=>!decide (i∈order) && kR hand ((rs[i]?).getD ([],[])).1
def Gone (ks:List Str)(rs:List Rm)(order:List Nat):Prop:=∀ j i,order[j]? = some i->i < rs.length/\i ∉ order.take j/\kR (bf ks rs (order.take j)) ((rs[i]?).getD ([],[])).1=true
theorem Sep.side {H0 H:Hp}{p kA rA a:Addr}{ks:List Str}{L:List RC}{vs:List V}{o:HO}(x:Sep H0 H p kA rA ks L)(n:a ∉ own kA rA L)(f:H0 a=none)(h:H a=Option.some (.lst vs)):Sep H0 (upd H a o) p kA rA ks L:=by
 have ap:a≠p:=x.dk0.ne f
 have ne:∀ b∈own kA rA L,b≠a:=fun b hb z=>n (z▸hb)
 refine⟨x.dk0,x.dk.up ap,fun b u nb e=>by rw [ah (af e f)];exact x.but b u nb e,x.fr,x.nd,by rw [ah (ne _ (own_mem.mpr (.inl rfl)))];exact x.hk,by rw [ah (ne _ (own_mem.mpr (.inr (.inl rfl))))];exact x.hr,fun y hy=>?_⟩
 obtain⟨a1,a2,a3⟩:=x.it y hy
 refine⟨?_,by rw [ah (ne _ (own_mem.mpr (.inr (.inr ⟨y,hy,.inl rfl⟩))))];exact a2,by rw [ah (ne _ (own_mem.mpr (.inr (.inr ⟨y,hy,.inr rfl⟩))))];exact a3⟩
 rw [ah fun z=>?_]
 ·exact a1
 ·rw [z,h] at a1;cases a1
theorem jG {α β:Type}(f:α->β):∀ (l:List α) (k:Nat),(l.map f).eraseIdx k=(l.eraseIdx k).map f
 | [],_=>rfl
 | _::_,0=>rfl
 | a::l,k+1=>by simp [jG f l k]
theorem xb {m n:Nat}(h:m < n)(l:n<=2000):seqIndex? (m:Int) n=some m:=(aiq (ahP m) (by omega)).trans (by simp)
def t4:Sp:=fun vs H Q _=>∃ (p q:Addr) (ks:List Str) (n:Nat),vs=[.ref p,.ref q,.int n]/\DeckAt H p/\H q=some (.lst (ks.map V.str))/\q≠p/\ks≠[]/\(∀ k∈ks,bp k)/\n<=60/\∀ (t kA rA:Addr) (keys:List Str) (L:List RC) (H':Hp),H' t=some (.tup [.ref kA,.ref rA])->Sep H H' p kA rA keys L->L.length=n->(∀ x∈L,PlU ks x.r)->(∀ k∈keys,k∈ks)->keys.length<=12->Q (.ref t) H'
inductive GrI (p q:Addr)(ks:List Str)(n:Nat)(H:Hp)(i:Nat)(σ':L2.St)(H':Hp):Prop
 | mk (kA hA rA:Addr) (keys hand:List Str) (L:List RC) (sp:Int) (x3 x8 x9 x10:Option V):σ'=[some (.ref p),some (.ref q),some (.int n),x3,some (.ref kA),some (.ref hA),some (.ref rA),some (.int sp),x8,x9,x10]->Sep H H' p kA rA keys L->L.length=i->(∀ x∈L,PlU ks x.r)->(∀ k∈keys,k∈ks)->keys.length<=12->0<=sp->H' hA=some (.lst (hand.map V.str))->hA ∉ own kA rA L->H hA=none->(∀ k∈hand,k∈ks)->hand.length<=12+12 * i->GrI p q ks n H i σ' H'
theorem tW {ks:List Str}:∀ {ys:List V},(∀ y∈ys,∃ z∈ks,y=V.str z)->∃ ss:List Str,ys=ss.map V.str/\∀ x∈ss,x∈ks
 | [],_=>⟨[],rfl,fun _ h=>nomatch h⟩
 | y::ys,h=>by
  obtain⟨ss,rfl,k⟩:=tW fun z hz=>h z (aeV _ hz)
  obtain⟨z,hz,rfl⟩:=h y aeQ
  refine⟨z::ss,rfl,fun x hx=>?_⟩
  rcases aeX.mp hx with e | e
  ·rw [e];exact hz
  ·exact k x e
section
variable {P:Program}{w:World}{K:PySem.W.Frag}{mg:Str->Option Value}{base:Heap}
theorem aW:aO ["deck","kinds","many","few","keys","hand","rooms","spare","k","lock","gives"] ["deck","kinds","many"] (aq b7):=⟨rfl,rfl,rfl,by decide +kernel,rfl,by decide +kernel,by decide +kernel⟩
theorem mG:(["k","kinds","deck"]:List Str).Nodup:=by decide +kernel
theorem nh:(["j","kinds","deck"]:List Str).Nodup:=by decide +kernel
theorem aai {f fN:Addr}{fd fdN:FuncData}(F:Fun K "_law_grown" "_law_grown" b7 f fd)(aE:aV P w K mg base CX0 2 fN fdN ["deck"] jz)(aj:Cal K mg "_law_next" ["deck"] fN fdN)(aY:mg "len" = none)(bh:mg "range" = none)(kK:mg "int" = none)(bV:mg "list" = none)(wb:mg "min" = none):aV P w K mg base CX0 3 f fd ["deck","kinds","many"] t4:=by
 refine F.ok aW (fun vs H Q E h=>?_) (fun cdv A outer s H vs Q E hr h=>?_)
 ·obtain⟨p,q,ks,n,rfl,_⟩:=h
  rfl
 ·obtain⟨p,q,ks,n,rfl,dk,hq,qp,ne,kk,hn,k⟩:=h
  have hu:=m7 hr
  refine⟨_,(ak (aI (i:=3) aW.nd rfl (Or.inl rfl) (aT bD (gT (ae (bq bM (ax aE hr rfl aj.mg aj.kp aj.b .nil aP (ae (pv 0) ai)) av) (ae (bq bM (ax aE hr rfl aj.mg aj.kp aj.b .nil aP (ae (pv 0) ai)) av) ai))) (bF rk rfl kK (by decide +kernel) (ae (cV gB (bq bM (ax aE hr rfl aj.mg aj.kp aj.b .nil aP (ae (pv 0) ai)) av) av (bj _)) ai)) (fun _ _=>rfl)))
   (ak (iX (i:=4) (tg:=.Name "k" _) (outer:=aq (b7)) (N:=["deck","kinds","many","few","keys","hand","rooms","spare","k","lock","gives"]) (N':=["k","kinds","deck"]) (nl:=1) (ix:=[1,0]) aW.nd rfl (Or.inl rfl) rfl rfl rfl (cg rfl bh (ae (pv 3) ai))
    (fun _ _ _ _=>(ay (i:=0) mG rfl (Or.inl rfl) (.inr rfl))) (fun _ _ _ _=>dv)
    (fun _ _ _ _=>(aT (gI (K:=K) rfl) (pv 1) (bq bM (ax aE hr rfl aj.mg aj.kp aj.b .nil aP (ae (pv 2) ai)) (aw (jn (K:=K) rfl) rfl aY ae8 (ae (pv 1) ai))) (fun _ _=>rfl))))
   (ak (aI (i:=5) aW.nd rfl (Or.inl rfl) (bF b9 rfl bV (by decide +kernel) (ae (pv 4) ai)))
   (ak (aI (i:=6) aW.nd rfl (Or.inl rfl) iV)
   (ak (aI (i:=7) aW.nd rfl (Or.inl rfl) av)
   (ak (bB (dU afl rfl (cg rfl bh (ae (pv 2) ai)) (ay (i:=8) aW.nd rfl (Or.inl rfl))
    (ak (aI (i:=9) aW.nd rfl (Or.inl rfl) (aT bD (pv 1) (bq bM (ax aE hr rfl aj.mg aj.kp aj.b .nil aP (ae (pv 0) ai)) (aw az rfl aY ae8 (ae (pv 1) ai))) (fun _ _=>rfl)))
    (ak (bB (cU (aX kj (pv 5) iV (bj _))
     (au (aI (i:=9) aW.nd rfl (Or.inl rfl) (fw aeS agj agk kZ (pv 5) (ae (bq bM (ax aE hr rfl aj.mg aj.kp aj.b .nil aP (ae (pv 0) ai)) (aw az rfl aY ae8 (ae (pv 5) ai))) ai)))) aU))
    (@ak _ _ _ _ _ (@aI _ _ 3 _ _ _ _ aW.nd rfl (Or.inl rfl) (@aT _ _ _ _ _ _ _ bD (@gT _ _ _ _ (@gX _ _ _ _ _ (@av _ _ _ _) (@gX _ _ _ _ _ (@av _ _ _ _) (@gX _ _ _ _ _ (@av _ _ _ _) (@gX _ _ _ _ _ (@av _ _ _ _) (@gX _ _ _ _ _ (@av _ _ _ _) (@gX _ _ _ _ _ (@av _ _ _ _) (@ai _) rfl) rfl) rfl) rfl) rfl) rfl)) (bq bM (ax aE hr rfl aj.mg aj.kp aj.b .nil aP (ae (pv 0) ai)) av) (fun _ _=>rfl)) rfl (by first | exact .inl rfl | exact .inr rfl))
    (ak (bB (cU (aX gB (bq bM (ax aE hr rfl aj.mg aj.kp aj.b .nil aP (ae (pv 0) ai)) av) av (bj _))
     (ak (aI (i:=3) aW.nd rfl (Or.inl rfl) (aw (qP rfl) rfl wb (by decide +kernel) (ae (pv 7) (ae (bq hZ av (bq bM (ax aE hr rfl aj.mg aj.kp aj.b .nil aP (ae (pv 0) ai)) av)) ai))))
     (au (aI (i:=7) aW.nd rfl (Or.inl rfl) (bq ada (pv 7) (pv 3))))) aU))
    (ak (iX (i:=10) (tg:=.Name "j" _) (outer:=aq (b7)) (N:=["deck","kinds","many","few","keys","hand","rooms","spare","k","lock","gives"]) (N':=["j","kinds","deck"]) (nl:=1) (ix:=[1,0]) aW.nd rfl (Or.inl rfl) rfl rfl rfl (cg rfl bh (ae (pv 3) ai))
    (fun _ _ _ _=>(ay (i:=0) nh rfl (Or.inl rfl) (.inr rfl))) (fun _ _ _ _=>dv)
    (fun _ _ _ _=>(aT (gI (K:=K) rfl) (pv 1) (bq bM (ax aE hr rfl aj.mg aj.kp aj.b .nil aP (ae (pv 2) ai)) (aw (jn (K:=K) rfl) rfl aY ae8 (ae (pv 1) ai))) (fun _ _=>rfl))))
    (ak (bC (fw aeS afI afJ df (pv 6) (ae (fX (ae (gT (ae (pv 9) ai)) (ae (pv 10) ai))) ai)))
    (au (aI (i:=5) aW.nd rfl (Or.inl rfl) (bq n4 (pv 5) (pv 10))))))))))))
   (au (aN (fX (ae (pv 4) (ae (pv 6) ai))))))))))),?_⟩
  refine⟨_,rfl,p,rfl,dk,fun r1 H1 _ _ dk1 B1 _=>⟨_,4,rfl,rfl,(by show (0:Int) < 4;decide),?_⟩⟩
  refine⟨_,rfl,p,rfl,dk1,fun r2 H2 _ _ dk2 B2 _=>⟨_,13,rfl,rfl,(by show (0:Int) < 13;decide),by show 2<=sizeLine;decide,fun l nl=>?_⟩⟩
  have s3:Same H2 (upd H2 l (.lst ([r1 % 4,r2 % 13].map V.int))):=ar nl
  have e3:(upd H2 l (.lst ([r1 % 4,r2 % 13].map V.int))) l=some (.lst ([r1 % 4,r2 % 13].map V.int)):=ag
  have dk3:=dk2.same s3
  have B3:But p H (upd H2 l (.lst ([r1 % 4,r2 % 13].map V.int))):=B1.trans (B2.trans (gj s3))
  have lp:=dk2.ne nl
  refine⟨_,rfl,p,rfl,dk3,fun r3 H4 _ _ dk4 B4 _=>⟨_,8,rfl,rfl,(by show (0:Int) < 8;decide),?_⟩⟩
  have e4:=B4 _ _ lp e3
  have B04:=B3.trans B4
  clear e3 s3 dk3 B3
  refine⟨rfl,.inr ⟨_,rfl,?_⟩⟩
  have key:∀ b:Bool,∃ m:Nat,m<=12/\atI (([r1 % 4,r2 % 13]:List Int).map V.int) (if b=true then 1 else 0)=some (.int m):=fun b=>by
   have a0:0<=r1 % 4:=afC _ (by decide)
   have a1:r1 % 4 < 4:=afr _ (by decide)
   have b0:0<=r2 % 13:=afC _ (by decide)
   have b1:r2 % 13 < 13:=afr _ (by decide)
   split
   ·exact⟨(r2 % 13).toNat,by omega,by rw [aiP b0];rfl⟩
   ·exact⟨(r1 % 4).toNat,by omega,by rw [aiP a0];rfl⟩
  obtain⟨m,hm,em⟩:=key (decide (V.int (r3 % 8)=V.int 3))
  refine⟨l,_,_,.int m,rfl,rfl,SqL.of e4,em,?_⟩
  dsimp only [bJ,aaJ,wB]
  refine bE _ _ _ _ _ _ _ _ _ ?_
  refine⟨_,rfl,(m:Int),rfl,by omega,by omega,?_⟩
  intro D nD
  rw [afh]
  refine jW (Pr:=fun _ y=>∃ z∈ks,y=V.str z) nD dk4 (by omega) (fun x=>rfl) (fun G i R hi BG dG kG=>?_) (fun ys H5 len pr hD5 B5 dk5=>?_)
  ·exact pV rfl rfl (BG _ _ qp (B04 _ _ qp hq)) qp ne dG fun z G' hz dG' BG'=>kG _ _ ⟨z,hz,rfl⟩ dG' BG'
  obtain⟨keys,rfl,hkeys⟩:=tW fun y hy=>by
   obtain⟨i,e⟩:=aik.mp hy
   exact pr i y e
  rw [aeD] at len
  have B05:=B04.trans B5
  refine⟨_,rfl,D,_,rfl,.inl (SqL.of hD5),fun hA nH=>⟨ae2 _,fun rA nR=>?_⟩⟩
  have nD0:H D=none:=B04.free (dk4.ne nD) nD
  have s6:Same H5 (upd H5 hA (.lst (keys.map V.str))):=ar nH
  have e6:(upd H5 hA (.lst (keys.map V.str))) hA=some (.lst (keys.map V.str)):=ag
  have nH0:H hA=none:=B05.free (dk5.ne nH) nH
  have DhA:hA≠D:=(af hD5 nH).symm
  generalize upd H5 hA (.lst (keys.map V.str))=H6 at *
  have s7:Same H6 (upd H6 rA (.lst [])):=ar nR
  have e7:(upd H6 rA (.lst [])) rA=some (.lst []):=ag
  have rAh:hA≠rA:=af e6 nR
  have rAD:D≠rA:=af (s6 _ _ hD5) nR
  have nR0:H rA=none:=B05.free (dk5.ne (s6.free nR)) (s6.free nR)
  have s57:=s6.trans s7
  have e67:=s7 _ _ e6
  generalize upd H6 rA (.lst [])=H7 at *
  have sep:Sep H H7 p D rA keys []:=⟨dk,dk5.same s57,B05.trans (gj s57),fun a ha=>by
   unfold own at ha
   simp only [ajK,aeX,af5,aie] at ha
   rcases ha with rfl | rfl
   ·exact nD0
   ·exact nR0,by unfold own;simp [rAD],s57 _ _ hD5,e7,fun x hx=>nomatch hx⟩
  have hAo:hA ∉ own D rA []:=fun h=>by
   unfold own at h
   simp only [ajK,aeX,af5,aie] at h
   rcases h with h | h
   ·exact DhA h
   ·exact rAh h
  refine⟨fun σ' H'=>GrI p q ks n H n σ' H',?_,?_⟩
  ·rintro σ H8 ⟨kA,hA,rA,keys,hand,L,sp,x3,x8,x9,x10,rfl,sep,len,pl,hk,hkl,sp0,hh,ho,hh0,hin,hlen⟩
   refine⟨_,rfl,_,rfl,by show 2<=sizeLine;decide,fun t nt=>?_⟩
   exact k t kA rA keys L _ ag (sep.same (ar nt)) len pl hk hkl
  refine⟨_,rfl,(n:Int),rfl,by omega,by omega,?_⟩
  rw [afh]
  refine gC (fun i σ' H'=>GrI p q ks n H i σ' H') ⟨D,hA,rA,keys,keys,[],40,_,_,_,_,rfl,sep,rfl,(fun _ h=>nomatch h),hkeys,by omega,by decide,e67,hAo,nH0,hkeys,by omega⟩ ?_ (fun σ H' z=>z)
  clear sep hAo e67 e7 s57 s7 s6 e6 hD5 nR nH nD pr
  rintro i σ H8 hi ⟨kA,hA,rA,keys,hand,L,sp,x3,x8,x9,x10,rfl,sep,len,pl,hk,hkl,sp0,hh,ho,hh0,hin,hlen⟩
  have q8:=sep.but _ _ qp hq
  have hAp:hA≠p:=dk.ne hh0
  refine pV rfl rfl q8 qp ne sep.dk fun lk H9 hlk dk9 B9=>?_
  have sep9:=sep.on dk9 B9
  have hh9:=B9 _ _ hAp hh
  refine⟨fun σ' H'=>∃ (lk:Str) (hand:List Str),σ'=[some (.ref p),some (.ref q),some (.int n),x3,some (.ref kA),some (.ref hA),some (.ref rA),some (.int sp),some (.int (0+i)),some (.str lk),x10]/\lk∈ks/\Sep H H' p kA rA keys L/\H' hA=some (.lst (hand.map V.str))/\(∀ k∈hand,k∈ks)/\hand.length<=12+12 * i,?_,?_⟩
  rotate_left
  ·refine⟨_,rfl,ae2 _,fun e ne=>?_⟩
   have s1:Same H9 (upd H9 e (.lst [])):=ar ne
   have e1:(upd H9 e (.lst [])) e=some (.lst []):=ag
   have sepA:=sep9.same s1
   have hhA:=s1 _ _ hh9
   generalize upd H9 e (.lst [])=HA at *
   refine iF hhA (SeesAll.strs _) (ft fun k hk=>kk k (hin k hk)) e1 hu ⟨_,rfl,?_⟩
   cases hand with
   | nil=>exact⟨lk,[],rfl,hlk,sepA,hhA,hin,hlen⟩
   | cons z0 zs =>
   refine gU ?_
   refine⟨_,rfl,.inl ⟨rfl,_,SqL.of hhA⟩,_,rfl,p,rfl,sepA.dk,fun r HB _ _ dkB BB _=>⟨_,rfl,hA,_,rfl,.inl (SqL.of (BB _ _ hAp hhA)),r,_,rfl,rfl,(by rw [aeD];show (0:Int) < ((z0::zs).length:Int);simp),?_⟩⟩
   obtain⟨m,em,hm⟩:=oa (r:=r) (n:=(z0::zs).length) (by simp)
   have em':r % (((z0::zs).map V.str).length:Int)=(m:Int):=by rw [aeD];exact em
   refine⟨hA,_,(m:Int),m,.str (z0::zs)[m],rfl,aft (fun x=>[V.int x]) em',BB _ _ hAp hhA,by omega,by omega,xb (by rw [aeD];exact hm) (by rw [aeD];omega),by rw [aeP,aeC hm];rfl,?_⟩
   have sepB:=(sepA.on dkB BB).side (o:=.lst (((z0::zs).map V.str).eraseIdx m)) ho hh0 (BB _ _ hAp hhA)
   refine⟨(z0::zs)[m],(z0::zs).eraseIdx m,rfl,hin _ (afa hm),sepB,by rw [ag,jG],fun k hk=>hin k (ajn hk),?_⟩
   have:=ajB (z0::zs) m
   omega
  clear hlen hin hh hh9 sep9 dk9 B9 sep q8 hlk
  clear hand lk H9 H8
  rintro σ H8 ⟨lk,hand,rfl,hlk,sep,hh,hin,hlen⟩
  have lens:L.length<=60:=by omega
  refine⟨by show 6<=sizeLine;decide,fun l nl=>?_⟩
  have s1:Same H8 (upd H8 l (.lst (([0,1,1,1,2,3]:List Int).map V.int))):=ar nl
  have e1:(upd H8 l (.lst (([0,1,1,1,2,3]:List Int).map V.int))) l=some (.lst (([0,1,1,1,2,3]:List Int).map V.int)):=ag
  have dk1:=sep.dk.same s1
  have lp:=sep.dk.ne nl
  refine⟨_,rfl,p,rfl,dk1,fun r H9 _ _ dk9 B9 _=>⟨_,6,rfl,rfl,(by show (0:Int) < 6;decide),?_⟩⟩
  have e9:=B9 _ _ lp e1
  have B89:But p H8 H9:=(gj s1).trans B9
  obtain⟨mi,hmi,ha⟩:=aem (xs:=[0,1,1,1,2,3]) (r:=r % 6) (afC _ (by decide)) (afr _ (by decide))
  have hmi':0<=mi/\mi<=3:=by simp only [aeX,af5,aie] at hmi;omega
  obtain⟨m,rfl⟩:∃ m:Nat,mi=(m:Int):=⟨mi.toNat,by omega⟩
  refine⟨l,_,_,.int m,rfl,rfl,SqL.of e9,ha,?_⟩
  clear e9 B9 dk1 lp e1 s1 ha hmi
  refine⟨fun σ' H'=>∃ (m:Nat) (sp:Int),σ'=[some (.ref p),some (.ref q),some (.int n),some (.int m),some (.ref kA),some (.ref hA),some (.ref rA),some (.int sp),some (.int (0+i)),some (.str lk),x10]/\m<=12/\0<=sp/\DeckAt H' p/\But p H8 H',?_,?_⟩
  rotate_left
  ·refine⟨_,rfl,p,rfl,dk9,fun r2 HA _ _ dkA BA _=>⟨_,12,rfl,rfl,(by show (0:Int) < 12;decide),rfl,_,rfl,rP (fun _=>?_) (fun _=>?_)⟩⟩
   ·refine⟨_,rfl,_,rfl,p,rfl,dkA,fun r3 HB _ _ dkB BB _=>⟨_,9,rfl,rfl,(by show (0:Int) < 9;decide),4,_,rfl,rfl,_,_,rfl,?_⟩⟩
    have a0:0<=r3 % 9:=afC _ (by decide)
    have a1:r3 % 9 < 9:=afr _ (by decide)
    have mi:(if 4+r3 % 9 < sp then 4+r3 % 9 else sp)<=sp/\0<=(if 4+r3 % 9 < sp then 4+r3 % 9 else sp)/\(if 4+r3 % 9 < sp then 4+r3 % 9 else sp)<=12:=by split<;>omega
    generalize (if 4+r3 % 9 < sp then 4+r3 % 9 else sp)=mv at mi ⊢
    obtain⟨mv,rfl⟩:∃ n:Nat,mv=(n:Int):=⟨mv.toNat,by omega⟩
    refine⟨_,rfl,_,rfl,_,_,rfl,rfl,?_⟩
    exact⟨mv,_,rfl,by omega,by omega,dkB,B89.trans (BA.trans BB)⟩
   ·exact⟨m,sp,rfl,by omega,sp0,dkA,B89.trans BA⟩
  clear B89 dk9 sp0 hmi'
  rintro σ H9 ⟨m,sp,rfl,hm,sp0,dk9,B9⟩
  have sep9:=sep.on dk9 B9
  have hh9:=B9 _ _ hAp hh
  dsimp only [bJ,aaJ,wB]
  refine bE _ _ _ _ _ _ _ _ _ ?_
  refine⟨_,rfl,(m:Int),rfl,by omega,by omega,?_⟩
  intro D nD
  rw [afh]
  refine jW (Pr:=fun _ y=>∃ z∈ks,y=V.str z) nD dk9 (by omega) (fun x=>rfl) (fun G i R hi BG dG kG=>?_) (fun ys HA len' pr hDA BA dkA=>?_)
  ·exact pV rfl rfl (BG _ _ qp (sep9.but _ _ qp hq)) qp ne dG fun z G' hz dG' BG'=>kG _ _ ⟨z,hz,rfl⟩ dG' BG'
  obtain⟨gives,rfl,hgives⟩:=tW fun y hy=>by
   obtain⟨i,e⟩:=aik.mp hy
   exact pr i y e
  rw [aeD] at len'
  have sepA:=sep9.on dkA BA
  have hhA:=BA _ _ hAp hh9
  refine⟨_,rfl,.inl ⟨rfl,_,SqL.of sepA.hr⟩,_,rfl,by show 1<=sizeLine;decide,fun d nd=>?_⟩
  have s1:Same HA (upd HA d (.lst [.str lk])):=ar nd
  have e1:(upd HA d (.lst [.str lk])) d=some (.lst [.str lk]):=ag
  have nd9:H9 d=none:=BA.free (dkA.ne nd) nd
  have dD:d≠D:=(af hDA nd).symm
  generalize upd HA d (.lst [.str lk])=HB at *
  refine⟨_,rfl,by show 2<=sizeLine;decide,fun t nt=>?_⟩
  have s2:Same HB (upd HB t (.tup [.ref d,.ref D])):=ar nt
  have e2:(upd HB t (.tup [.ref d,.ref D])) t=some (.tup [.ref d,.ref D]):=ag
  generalize upd HB t (.tup [.ref d,.ref D])=HC at *
  have sAC:=s1.trans s2
  have B9C:But p H9 HC:=BA.trans (gj sAC)
  have dkC:=dkA.same sAC
  have sepC:=sepA.same sAC
  have hhC:=sAC _ _ hhA
  have hDC:=sAC _ _ hDA
  refine⟨rA,_,_,rfl,rfl,sepC.hr,by rw [aeD];exact aD (by omega),?_⟩
  have sepD:=sep9.more (y:=⟨t,d,D,([lk],gives)⟩) dkC B9C nd9 nD dD e2 (s2 _ _ e1) hDC
  have rh:hA≠rA:=fun z=>ho (by rw [z];exact own_mem.mpr (.inr (.inl rfl)))
  have rD:D≠rA:=fun z=>sep9.out nD (by rw [z];exact own_mem.mpr (.inr (.inl rfl)))
  have hhD:(upd HC rA (.lst (L.map (fun x=>V.ref x.t)++[.ref t]))) hA=some (.lst (hand.map V.str)):=by rw [ah rh];exact hhC
  have hDD:(upd HC rA (.lst (L.map (fun x=>V.ref x.t)++[.ref t]))) D=some (.lst (gives.map V.str)):=by rw [ah rD];exact hDC
  generalize upd HC rA (.lst (L.map (fun x=>V.ref x.t)++[.ref t]))=HD at *
  refine⟨_,rfl,_,rfl,hA,D,_,_,rfl,rfl,hhD,hDD,by rw [aeD,aeD];exact afb (aD (by omega)),fun hB nB=>?_⟩
  refine⟨kA,hB,rA,keys,hand++gives,L++[⟨t,d,D,([lk],gives)⟩],sp,_,_,_,_,rfl,sepD.same (ar nB),by simp [len],fun x hx=>?_,hk,hkl,sp0,by rw [ag,aeO],sepD.out nB,sepD.free nB,fun k hk=>?_,?_⟩
  ·rcases aeI.mp hx with q | q
   ·exact pl x q
   ·rw [aeF.mp q]
    exact⟨⟨lk,rfl,hlk⟩,hgives,by show gives.length<=12;omega⟩
  ·rcases aeI.mp hk with q | q
   ·exact hin k q
   ·exact hgives k q
  ·rw [aeG]
   omega
theorem p7 {K K':PySem.W.Frag}{i j:Nat}{σ:L2.St}{q p:Addr}{xs:List V}{G:Hp}{R:VK}(h1:σ[i]? = some (some (.ref q)))(h2:σ[j]? = some (some (.ref p)))(hq:G q=some (.lst xs))(qp:q≠p)(pos:0 < xs.length)(dG:DeckAt G p)
 (k:∀ (m:Nat) v G',xs[m]? = some v->DeckAt G' p->But p G G'->R v G') :
 tOp (adi K) (wx i) (tOp (rI (fun _ j=>0 < j) fun i j=>.int (i % j)) (aal jz [] E0 (gq (wx j) mP)) (tCB (fun xs H Q=>∃ p ys,xs=[V.ref p]/\(SqL K' H p ys\/SqT K' H p ys)/\Q (.int ys.length) H) (gq (wx i) mP))) σ G R:=by
 refine⟨_,h1,_,h2,p,rfl,dG,fun r G' r0 r1 dG' B' _=>⟨_,h1,q,_,rfl,.inl (SqL.of (B' _ _ qp hq)),r,_,rfl,rfl,(by show (0:Int) < (xs.length:Int);omega),?_⟩⟩
 obtain⟨m,em,hm⟩:=oa (r:=r) pos
 refine⟨q,_,(m:Int),xs[m],rfl,aft V.int em,SqL.of (B' _ _ qp hq),cf (aeC hm),k m _ _ (aeC hm) dG' B'⟩
theorem wR {xs:List V}{k:Nat}:wz xs none (some (k:Int))=xs.take k:=by
 unfold wz
 rw [HT.sIx_none,HT.sIx_nat,aln,afU]
 rcases Nat.le_total k xs.length with h | h
 ·rw [agb h]
 ·rw [ajG h,afy (aeN _),afy h]
theorem um {α:Type}{l:List α}{m:Nat}{y:α}(h:l[m]? = some y):∃ L1 L2,l=L1++y::L2:=by
 obtain⟨hm,rfl⟩:=aeJ.mp h
 exact⟨l.take m,l.drop (m+1),by rw [← afQ hm,afp]⟩
def ring3:List Str:=["far","qq","w"]
theorem uD:∀ x∈ring3,bp x:=fun x hx=>by
 unfold ring3 at hx
 simp only [aeX,af5,aie] at hx
 rcases hx with rfl | rfl | rfl<;>exact⟨by decide +kernel,by decide +kernel,by decide +kernel⟩
def xV:Sp:=fun vs H Q _=>∃ (H0:Hp) (p kA rA q:Addr) (ks keys:List Str) (L:List RC),vs=[.ref p,.ref kA,.ref rA,.ref q]/\Sep H0 H p kA rA keys L/\H0 q=some (.lst (ks.map V.str))/\q≠p/\ks≠[]/\(∀ k∈ks,bp k)/\(∀ k∈keys,k∈ks)/\keys.length<=12/\(∀ x∈L,PlU ks x.r)/\L.length<=60 ∧
 ∀ (t kB:Addr) (keys':List Str) (L':List RC) (H':Hp),H' t=some (.tup [.ref kB,.ref rA])->Sep H0 H' p kB rA keys' L'->L'.length<=L.length+3->(∀ x∈L',PlU (ks++ring3) x.r)->(∀ k∈keys',k∈ks++ring3)->keys'.length<=24->Q (.ref t) H'
inductive BnI (H0:Hp)(p rA q:Addr)(way:Int)(U:List Str)(kn ln:Nat)(σ':L2.St)(H':Hp):Prop
 | mk (kA:Addr) (keys:List Str) (L:List RC) (x5 x6 x7:Option V):σ'=[some (.ref p),some (.ref kA),some (.ref rA),some (.ref q),some (.int way),x5,x6,x7]->Sep H0 H' p kA rA keys L->(∀ x∈L,PlU U x.r)->(∀ k∈keys,k∈U)->keys.length<=kn->L.length<=ln->BnI H0 p rA q way U kn ln σ' H'
inductive RgI (H0:Hp)(p kA rA q rg:Addr)(way:Int)(U keys ring:List Str)(ln i:Nat)(σ':L2.St)(H':Hp):Prop
 | mk (L:List RC) (x5 x7:Option V):σ'=[some (.ref p),some (.ref kA),some (.ref rA),some (.ref q),some (.int way),x5,some (.ref rg),x7]->Sep H0 H' p kA rA keys L->(∀ x∈L,PlU U x.r)->L.length<=ln+i->rg ∉ own kA rA L->H' rg=some (.lst (ring.map V.str))->RgI H0 p kA rA q rg way U keys ring ln i σ' H'
theorem rH {H0 H:Hp}{p kA rA:Addr}{ks U:List Str}{L:List RC}(x:Sep H0 H p kA rA ks L)(u:∀ k∈U,bp k)(pl:∀ x∈L,PlU U x.r):∃ ds,SeesAll H (L.map fun x=>V.ref x.t) ds/\PyData.canLayAll0 ds=true :=
 ⟨_,oI x.rooms,qg fun r hr=>by
  obtain⟨y,hy,rfl⟩:=ae3.mp hr
  obtain⟨⟨k,e,m⟩,a,_⟩:=pl y hy
  exact⟨fun z hz=>by rw [e] at hz;rw [aeF.mp hz];exact u k m,fun z hz=>u z (a z hz)⟩⟩
theorem dR:aO ["deck","keys","rooms","kinds","way","kind","ring","k"] ["deck","keys","rooms","kinds"] (aq d5):=⟨rfl,rfl,rfl,by decide +kernel,rfl,by decide +kernel,by decide +kernel⟩
theorem abf {f fN:Addr}{fd fdN:FuncData}(F:Fun K "_law_bent" "_law_bent" d5 f fd)(aE:aV P w K mg base CX0 2 fN fdN ["deck"] jz)(aj:Cal K mg "_law_next" ["deck"] fN fdN)(aY:mg "len" = none)(bh:mg "range" = none):aV P w K mg base CX0 3 f fd ["deck","keys","rooms","kinds"] xV:=by
 refine F.ok dR (fun vs H Q E h=>?_) (fun cdv A outer s H vs Q E hr h=>?_)
 ·obtain⟨H0,p,kA,rA,q,ks,keys,L,rfl,_⟩:=h
  rfl
 ·obtain⟨H0,p,kA,rA,q,ks,keys,L,rfl,sep,hq,qp,ne,kk,hk,hkl,pl,ll,k⟩:=h
  have hu:=m7 hr
  have kk':∀ k∈ks++ring3,bp k:=fun k h=>(aeI.mp h).elim (kk k) (uD k)
  refine⟨_,(ak (aI (i:=4) dR.nd rfl (Or.inl rfl) (bq bM (ax aE hr rfl aj.mg aj.kp aj.b .nil aP (ae (pv 0) ai)) av))
   (ak (bB (cU (PW.pt (oJ (aX gB (pv 4) av (bj _)) (jR (aX kj (pv 1) iV (bj _)))))
    (au (bC (fw aeS agj agk kZ (pv 1) (ae (bq bM (ax aE hr rfl aj.mg aj.kp aj.b .nil aP (ae (pv 0) ai)) (aw az rfl aY ae8 (ae (pv 1) ai))) ai)))) aU))
   (ak (bB (cU (PW.pt (oJ (aX gB (pv 4) av (bj _)) (jR (aX kj (pv 2) iV (bj _)))))
    (ak (aI (i:=5) dR.nd rfl (Or.inl rfl) (aT bD (pv 3) (bq bM (ax aE hr rfl aj.mg aj.kp aj.b .nil aP (ae (pv 0) ai)) (aw az rfl aY ae8 (ae (pv 3) ai))) (fun _ _=>rfl)))
    (au (hJ (pv 5) (acf (aT bu (aT bD (pv 2) (bq bM (ax aE hr rfl aj.mg aj.kp aj.b .nil aP (ae (pv 0) ai)) (aw az rfl aY ae8 (ae (pv 2) ai))) (fun _ _=>rfl)) av (fun _ _=>rfl)) av uz)))) aU))
   (ak (bB (cU (PW.pt (oJ (aX gB (pv 4) av (bj _)) (jR (aX kj (pv 2) iV (bj _)))))
    (ak (aI (i:=1) dR.nd rfl (Or.inl rfl) (bq n4 (pv 1) (aT bu (aT bD (pv 2) (bq bM (ax aE hr rfl aj.mg aj.kp aj.b .nil aP (ae (pv 0) ai)) (aw az rfl aY ae8 (ae (pv 2) ai))) (fun _ _=>rfl)) av (fun _ _=>rfl))))
    (au (bC (uP aeS PySem.F.slot_list_clear PySem.F.type_list_clear y1 (aT bu (aT bD (pv 2) (bq bM (ax aE hr rfl aj.mg aj.kp aj.b .nil aP (ae (pv 0) ai)) (aw az rfl aY ae8 (ae (pv 2) ai))) (fun _ _=>rfl)) av (fun _ _=>rfl)))))) aU))
   (ak (bB (cU (aX gB (pv 4) av (bj _))
    (ak (aI (i:=6) dR.nd rfl (Or.inl rfl) (gL lX (gT (ae cP (ae cP (ae cP ai)))) i9 (i8 (bq hZ av (bq bM (ax aE hr rfl aj.mg aj.kp aj.b .nil aP (ae (pv 0) ai)) av)))))
    (au (bB (dU afl rfl (cg rfl bh (ae (aw az rfl aY ae8 (ae (pv 6) ai)) ai)) (ay (i:=7) dR.nd rfl (Or.inl rfl))
     (au (bC (fw aeS afI afJ df (pv 2) (ae (fX (ae (gT (ae (aT bD (pv 6) (pv 7) (fun _ _=>rfl)) ai)) (ae (bq n4 (gT (ae (aT bD (pv 6) (bq bM (bq hZ (pv 7) av) (aw az rfl aY ae8 (ae (pv 6) ai))) (fun _ _=>rfl)) ai)) (gL lX (pv 1) i9 (i8 (bq bM (ax aE hr rfl aj.mg aj.kp aj.b .nil aP (ae (pv 0) ai)) av)))) ai))) ai)))))))) aU))
   (au (aN (fX (ae (pv 1) (ae (pv 2) ai)))))))))),?_⟩
  refine⟨_,rfl,p,rfl,sep.dk,fun r1 H1 _ _ dk1 B1 _=>⟨_,5,rfl,rfl,(by show (0:Int) < 5;decide),?_⟩⟩
  have sep1:=sep.on dk1 B1
  show bJ 4 (V.int (r1 % 5)) _ _ _
  generalize r1 % 5=way
  refine⟨fun σ' H'=>BnI H0 p rA q way ks 12 L.length σ' H',?_,?_⟩
  rotate_left
  ·refine⟨_,rfl,rfl,_,rfl,rP (fun _=>?_) (fun _=>?_)⟩
   rotate_left
   ·exact⟨kA,keys,L,_,_,_,rfl,sep1,pl,hk,hkl,aeN _⟩
   refine⟨_,rfl,ae2 _,fun e ne=>?_⟩
   have s1:Same H1 (upd H1 e (.lst [])):=ar ne
   have e1:(upd H1 e (.lst [])) e=some (.lst []):=ag
   have sepA:=sep1.same s1
   generalize upd H1 e (.lst [])=HA at *
   refine iF sepA.hk (SeesAll.strs _) (ft fun x hx=>kk x (hk x hx)) e1 hu ⟨_,rfl,?_⟩
   cases keys with
   | nil=>exact⟨kA,[],L,_,_,_,rfl,sepA,pl,hk,hkl,aeN _⟩
   | cons z0 zs =>
   refine gU ?_
   have kp:=sepA.ne (own_mem.mpr (.inl rfl))
   refine⟨_,rfl,.inl ⟨rfl,_,SqL.of sepA.hk⟩,_,rfl,p,rfl,sepA.dk,fun r HB _ _ dkB BB _=>⟨_,rfl,kA,_,rfl,.inl (SqL.of (BB _ _ kp sepA.hk)),r,_,rfl,rfl,(by rw [aeD];show (0:Int) < ((z0::zs).length:Int);simp),?_⟩⟩
   obtain⟨m,em,hm⟩:=oa (r:=r) (n:=(z0::zs).length) (by simp)
   have em':r % (((z0::zs).map V.str).length:Int)=(m:Int):=by rw [aeD];exact em
   have sepB:=sepA.on dkB BB
   refine⟨kA,_,(m:Int),m,.str (z0::zs)[m],rfl,aft (fun x=>[V.int x]) em',sepB.hk,by omega,by omega,xb (by rw [aeD];exact hm) (by rw [aeD];omega),by rw [aeP,aeC hm];rfl,?_⟩
   rw [jG]
   have:=ajB (z0::zs) m
   exact⟨kA,(z0::zs).eraseIdx m,L,_,_,_,rfl,sepB.key _,pl,fun k hk'=>hk k (ajn hk'),by omega,aeN _⟩
  generalize hln:L.length=ln at *
  clear sep1 dk1 B1 sep pl hk hkl hln
  clear keys L
  rintro σ H2 ⟨kA,keys,L,x5,x6,x7,rfl,sep,pl,hk,hkl,hln⟩
  refine⟨fun σ' H'=>BnI H0 p rA q way ks 12 ln σ' H',?_,?_⟩
  rotate_left
  ·refine⟨_,rfl,rfl,_,rfl,rP (fun _=>?_) (fun _=>?_)⟩
   rotate_left
   ·exact⟨kA,keys,L,_,_,_,rfl,sep,pl,hk,hkl,hln⟩
   refine⟨_,rfl,ae2 _,fun e ne'=>?_⟩
   have s1:Same H2 (upd H2 e (.lst [])):=ar ne'
   have e1:(upd H2 e (.lst [])) e=some (.lst []):=ag
   have sepA:=sep.same s1
   generalize upd H2 e (.lst [])=HA at *
   obtain⟨ds,sds,lds⟩:=rH sepA kk pl
   refine iF sepA.hr sds lds e1 hu ⟨_,rfl,?_⟩
   cases L with
   | nil=>exact⟨kA,keys,[],_,_,_,rfl,sepA,pl,hk,hkl,hln⟩
   | cons z0 zs =>
   refine gU ?_
   refine pV rfl rfl (sepA.but _ _ qp hq) qp ne sepA.dk fun lk HB hlk dkB BB=>?_
   have sepB:=sepA.on dkB BB
   have rp:=sepA.ne (own_mem.mpr (.inr (.inl rfl)))
   refine⟨_,rfl,p7 rfl rfl sepB.hr rp (by simp) dkB fun m v HC hv dkC BC=>?_⟩
   rw [aeP] at hv
   obtain⟨y,hy,rfl⟩:=agv.mp hv
   obtain⟨L1,L2,eL⟩:=um hy
   have sepC:=sepB.on dkC BC
   generalize z0::zs=L at *
   subst eL
   have my:y∈L1++y::L2:=aeL _ aeQ
   obtain⟨h1,h2,h3⟩:=sepC.it y my
   obtain⟨⟨lk0,elk,_⟩,py2,py3⟩:=pl y my
   refine⟨y.t,_,0,.ref y.d,rfl,rfl,SqT.of h1,rfl,y.d,_,0,0,rfl,rfl,h2,by rw [elk];rfl,?_⟩
   have sepD:=sepC.lock [lk]
   refine⟨kA,keys,L1++⟨y.t,y.d,y.w,([lk],y.r.2)⟩::L2,_,_,_,rfl,?_,fun x hx=>?_,hk,hkl,by simpa using hln⟩
   ·exact (by rw [elk];exact sepD:Sep H0 (upd HC y.d (.lst ((y.r.1.map V.str).set 0 (.str lk)))) p kA rA keys (L1++⟨y.t,y.d,y.w,([lk],y.r.2)⟩::L2))
   ·rcases aeI.mp hx with q | q
    ·exact pl x (ae6 _ q)
    ·rcases aeX.mp q with q | q
     ·rw [q];exact⟨⟨lk,rfl,hlk⟩,py2,py3⟩
     ·exact pl x (aeL _ (aeV _ q))
  clear sep pl hk hkl hln
  rintro σ H3 ⟨kA,keys,L,x5,x6,x7,rfl,sep,pl,hk,hkl,hln⟩
  refine⟨fun σ' H'=>BnI H0 p rA q way ks 24 ln σ' H',?_,?_⟩
  rotate_left
  ·refine⟨_,rfl,rfl,_,rfl,rP (fun _=>?_) (fun _=>?_)⟩
   rotate_left
   ·exact⟨kA,keys,L,_,_,_,rfl,sep,pl,hk,by omega,hln⟩
   refine⟨_,rfl,ae2 _,fun e ne'=>?_⟩
   have s1:Same H3 (upd H3 e (.lst [])):=ar ne'
   have e1:(upd H3 e (.lst [])) e=some (.lst []):=ag
   have sepA:=sep.same s1
   generalize upd H3 e (.lst [])=HA at *
   obtain⟨ds,sds,lds⟩:=rH sepA kk pl
   refine iF sepA.hr sds lds e1 hu ⟨_,rfl,?_⟩
   cases L with
   | nil=>exact⟨kA,keys,[],_,_,_,rfl,sepA,pl,hk,by omega,hln⟩
   | cons z0 zs =>
   refine gU ?_
   have rp:=sepA.ne (own_mem.mpr (.inr (.inl rfl)))
   refine⟨_,rfl,p7 rfl rfl sepA.hr rp (by simp) sepA.dk fun m v HC hv dkC BC=>?_⟩
   rw [aeP] at hv
   obtain⟨y,hy,rfl⟩:=agv.mp hv
   have my:=afg hy
   have sepC:=sepA.on dkC BC
   obtain⟨h1,h2,h3⟩:=sepC.it y my
   obtain⟨_,py2,py3⟩:=pl y my
   refine⟨y.t,_,1,.ref y.w,rfl,rfl,SqT.of h1,rfl,kA,y.w,_,_,rfl,rfl,sepC.hk,h3,by rw [aeD,aeD];exact afb (aD (by omega)),fun kB nB=>?_⟩
   have sepD:=(sepC.same (ar (o:=.lst (keys.map V.str++y.r.2.map V.str)) nB)).newk (ks':=keys++y.r.2) (sepC.out nB) (sepC.free nB) (by rw [ag,aeO])
   generalize upd HC kB (.lst (keys.map V.str++y.r.2.map V.str))=HD at *
   clear hy my h1 h2 h3
   refine p7 rfl rfl sepD.hr rp (by simp) sepD.dk fun m2 v HE hv dkE BE=>?_
   rw [aeP] at hv
   obtain⟨x,hx,rfl⟩:=agv.mp hv
   obtain⟨L1,L2,eL⟩:=um hx
   have sepE:=sepD.on dkE BE
   generalize z0::zs=L at *
   subst eL
   have mx:x∈L1++x::L2:=aeL _ aeQ
   obtain⟨h1,h2,h3⟩:=sepE.it x mx
   obtain⟨px1,px2,px3⟩:=pl x mx
   refine⟨x.t,_,1,.ref x.w,rfl,rfl,SqT.of h1,rfl,.inl ⟨rfl,_,SqL.of h3⟩,x.w,_,rfl,rfl,h3,?_⟩
   refine⟨kB,keys++y.r.2,L1++⟨x.t,x.d,x.w,(x.r.1,[])⟩::L2,_,_,_,rfl,sepE.inner [],fun z hz=>?_,fun z hz=>?_,by rw [aeG];omega,by simpa using hln⟩
   ·rcases aeI.mp hz with q | q
    ·exact pl z (ae6 _ q)
    ·rcases aeX.mp q with q | q
     ·rw [q];exact⟨px1,(fun k hk=>nomatch hk),by simp⟩
     ·exact pl z (aeL _ (aeV _ q))
   ·exact (aeI.mp hz).elim (hk z) (py2 z)
  clear sep pl hk hkl hln
  rintro σ H4 ⟨kA,keys,L,x5,x6,x7,rfl,sep,pl,hk,hkl,hln⟩
  have inl:∀ k∈ks,k∈ks++ring3:=fun k h=>ae6 _ h
  refine⟨fun σ' H'=>BnI H0 p rA q way (ks++ring3) 24 (ln+3) σ' H',?_,?_⟩
  ·rintro σ H5 ⟨kA,keys,L,x5,x6,x7,rfl,sep,pl,hk,hkl,hln⟩
   refine⟨_,rfl,_,rfl,by show 2<=sizeLine;decide,fun t nt=>?_⟩
   exact k t kA keys L _ ag (sep.same (ar nt)) hln pl hk hkl
  refine⟨_,rfl,rfl,_,rfl,rP (fun _=>?_) (fun _=>?_)⟩
  rotate_left
  ·exact⟨kA,keys,L,_,_,_,rfl,sep,fun x hx=>(pl x hx).mono inl,fun k h=>inl k (hk k h),hkl,by omega⟩
  refine⟨by show 3<=sizeLine;decide,fun l3 n3=>?_⟩
  have s5:Same H4 (upd H4 l3 (.lst (ring3.map V.str))):=ar n3
  have e5:(upd H4 l3 (.lst (ring3.map V.str))) l3=some (.lst (ring3.map V.str)):=ag
  have sep5:=sep.same s5
  have l3p:=sep.dk.ne n3
  refine⟨_,rfl,p,rfl,sep5.dk,fun r H6 _ _ dk6 B6 _=>⟨_,3,rfl,rfl,(by show (0:Int) < 3;decide),1,_,rfl,rfl,_,rfl,l3,_,rfl,SqL.of (B6 _ _ l3p e5),fun rg ng=>?_⟩⟩
  obtain⟨m,em,m1,m3⟩:∃ m:Nat,1+r % 3=(m:Int)/\1<=m/\m<=3:=by
   have a0:0<=r % 3:=afC _ (by decide)
   have a1:r % 3 < 3:=afr _ (by decide)
   exact⟨(1+r % 3).toNat,by omega,by omega,by omega⟩
  have ec:wz (ring3.map V.str) none (some (1+r % 3))=(ring3.take m).map V.str:=by
   rw [em,wV (by rw [aeD];exact m3),aiC]
  have sep6:=sep5.on dk6 B6
  have s7:Same H6 (upd H6 rg (.lst ((ring3.take m).map V.str))):=ar ng
  have e7:(upd H6 rg (.lst ((ring3.take m).map V.str))) rg=some (.lst ((ring3.take m).map V.str)):=ag
  have sep7:=sep6.same s7
  have rgo:=sep6.out ng
  have rgp:=sep6.dk.ne ng
  show bJ 6 (V.ref rg) _ (upd H6 rg (.lst (wz (ring3.map V.str) none (some (1+r % 3))))) _
  rw [ec]
  generalize upd H6 rg (.lst ((ring3.take m).map V.str))=H7 at *
  have rl:(ring3.take m).length=m:=by rw [ae9];exact agb m3
  have rin:∀ k∈ring3.take m,k∈ks++ring3:=fun k h=>aeL _ (afA h)
  generalize ring3.take m=ring at *
  refine⟨fun σ' H'=>RgI H0 p kA rA q rg way (ks++ring3) keys ring ln 3 σ' H',?_,?_⟩
  ·rintro σ H8 ⟨L,x5,x7,rfl,sep,pl,hln,_,_⟩
   exact⟨kA,keys,L,_,_,_,rfl,sep,pl,fun k h=>inl k (hk k h),hkl,hln⟩
  refine⟨_,rfl,rg,_,rfl,.inl (SqL.of e7),_,rfl,by rw [aeD];omega,by rw [aeD];omega,?_⟩
  rw [afh,aeD]
  refine gC (fun i σ' H'=>RgI H0 p kA rA q rg way (ks++ring3) keys ring ln i σ' H') ⟨L,_,_,rfl,sep7,fun x hx=>(pl x hx).mono inl,hln,rgo,e7⟩ ?_ (fun σ H' ⟨L,x5,x7,e,s,pl,hl,o,g⟩=>⟨L,x5,x7,e,s,pl,by omega,o,g⟩)
  clear sep7 rgo e7 ec s7 sep6 sep5 s5 e5 pl hln sep
  rintro i σ H8 hi ⟨L,x5,x7,rfl,sep,pl,hln,ro,hg⟩
  have hi':i < ring.length:=hi
  refine⟨_,rfl,.inl ⟨rfl,_,SqL.of sep.hr⟩,_,rfl,_,rfl,rg,_,_,.str ring[i],rfl,rfl,SqL.of hg,by rw [alq];exact cf (by rw [aeP,aeC hi'];rfl),by show 1<=sizeLine;decide,fun d nd=>?_⟩
  have s1:Same H8 (upd H8 d (.lst [.str ring[i]])):=ar nd
  have e1:(upd H8 d (.lst [.str ring[i]])) d=some (.lst [.str ring[i]]):=ag
  generalize upd H8 d (.lst [.str ring[i]])=H9 at *
  refine⟨_,rfl,_,rfl,_,1,rfl,rfl,_,rfl,rg,_,rfl,.inl (SqL.of (s1 _ _ hg)),_,_,rfl,rfl,(by rw [aeD];show (0:Int) < (ring.length:Int);omega),?_⟩
  obtain⟨j,ej,hj⟩:=oa (r:=0+(i:Int)+1) (n:=ring.length) (by omega)
  have ej':(0+(i:Int)+1) % ((ring.map V.str).length:Int)=(j:Int):=by rw [aeD];exact ej
  refine⟨rg,_,(j:Int),.str ring[j],rfl,aft V.int ej',SqL.of (s1 _ _ hg),cf (by rw [aeP,aeC hj];rfl),by show 1<=sizeLine;decide,fun l1 n1=>?_⟩
  have s2:Same H9 (upd H9 l1 (.lst [.str ring[j]])):=ar n1
  have e2:(upd H9 l1 (.lst [.str ring[j]])) l1=some (.lst [.str ring[j]]):=ag
  generalize upd H9 l1 (.lst [.str ring[j]])=H10 at *
  have s12:=s1.trans s2
  have sep10:=sep.same s12
  have kp:=sep.ne (own_mem.mpr (.inl rfl))
  have l1p:=(sep.same s1).dk.ne n1
  refine⟨_,rfl,_,rfl,p,rfl,sep10.dk,fun r HB _ _ dkB BB _=>⟨_,2,rfl,rfl,(by show (0:Int) < 2;decide),_,rfl,kA,_,rfl,SqL.of (sep10.on dkB BB).hk,fun l2 n2=>?_⟩⟩
  obtain⟨c,ec,hc⟩:∃ c:Nat,r % 2=(c:Int)/\c<=1:=by
   have a0:0<=r % 2:=afC _ (by decide)
   have a1:r % 2 < 2:=afr _ (by decide)
   exact⟨(r % 2).toNat,by omega,by omega⟩
  have ecut:wz (keys.map V.str) none (some (r % 2))=(keys.take c).map V.str:=by rw [ec,wR,aiC]
  show ad7 _ _ (upd HB l2 (.lst (wz (keys.map V.str) none (some (r % 2))))) _
  rw [ecut]
  have sepB:=sep10.on dkB BB
  have s3:Same HB (upd HB l2 (.lst ((keys.take c).map V.str))):=ar n2
  have e3:(upd HB l2 (.lst ((keys.take c).map V.str))) l2=some (.lst ((keys.take c).map V.str)):=ag
  generalize upd HB l2 (.lst ((keys.take c).map V.str))=HC at *
  have tl:(keys.take c).length<=1:=by rw [ae9];omega
  refine⟨l1,l2,_,_,rfl,rfl,s3 _ _ (BB _ _ l1p e2),e3,by rw [aeD];exact afb (aD (by show 1+_<=1000;omega)),fun D nD=>?_⟩
  have s4:Same HC (upd HC D (.lst (([ring[j]]++keys.take c).map V.str))):=ar nD
  have e4:(upd HC D (.lst (([ring[j]]++keys.take c).map V.str))) D=some (.lst (([ring[j]]++keys.take c).map V.str)):=ag
  have ecat:([V.str ring[j]]++(keys.take c).map V.str)=([ring[j]]++keys.take c).map V.str:=by rw [aeO];rfl
  rw [ecat]
  generalize upd HC D (.lst (([ring[j]]++keys.take c).map V.str))=HD at *
  refine⟨by show 2<=sizeLine;decide,fun t nt=>?_⟩
  have s6:Same HD (upd HD t (.tup [.ref d,.ref D])):=ar nt
  have e6:(upd HD t (.tup [.ref d,.ref D])) t=some (.tup [.ref d,.ref D]):=ag
  generalize upd HD t (.tup [.ref d,.ref D])=HE at *
  have sBE:Same HB HE:=s3.trans (s4.trans s6)
  have B8B:But p H8 HB:=(gj s12).trans BB
  have B8E:But p H8 HE:=B8B.trans (gj sBE)
  have nDB:HB D=none:=s3.free nD
  have nD8:H8 D=none:=B8B.free (dkB.ne nDB) nDB
  have dp:d≠p:=sep.dk.ne nd
  have hdB:=BB _ _ dp (s2 _ _ e1)
  have dD:d≠D:=af hdB nDB
  have sepE:=sepB.same sBE
  have L60:L.length<=70:=by omega
  refine⟨rA,_,_,rfl,rfl,sepE.hr,by rw [aeD];exact aD (by omega),?_⟩
  have sepF:=sep.more (y:=⟨t,d,D,([ring[i]],[ring[j]]++keys.take c)⟩) sepE.dk B8E nd nD8 dD e6 (sBE _ _ hdB) (s6 _ _ e4)
  have rr:rg≠rA:=fun z=>ro (by rw [z];exact own_mem.mpr (.inr (.inl rfl)))
  refine⟨L++[⟨t,d,D,([ring[i]],[ring[j]]++keys.take c)⟩],_,_,rfl,sepF,fun x hx=>?_,by simp;omega,fun z=>?_,by rw [ah rr];exact B8E _ _ rgp hg⟩
  ·rcases aeI.mp hx with q | q
   ·exact pl x q
   ·rw [aeF.mp q]
    refine⟨⟨_,rfl,rin _ (afa hi')⟩,fun k h=>?_,by show ([ring[j]]++keys.take c).length<=12;rw [aeG,af0];omega⟩
    rcases aeI.mp h with h | h
    ·rw [aeF.mp h];exact rin _ (afa hj)
    ·exact inl k (hk k (afA h))
  ·rcases own_mem.mp z with h | h | ⟨x,hx,h⟩
   ·exact ro (own_mem.mpr (.inl h))
   ·exact ro (own_mem.mpr (.inr (.inl h)))
   ·rcases aeI.mp hx with q | q
    ·exact ro (own_mem.mpr (.inr (.inr ⟨x,q,h⟩)))
    ·rw [aeF.mp q] at h
     rcases h with h | h
     ·exact af hg nd h
     ·exact af hg nD8 h
end
theorem zO {xs ys zs:List V}{k:Nat}{y:V}(h:(ys++zs).Perm xs)(e:zs[k]? = some y):((ys++[y])++zs.eraseIdx k).Perm xs:=by
 refine .trans ?_ h
 rw [aeW]
 refine agC _ ?_
 obtain⟨hk,rfl⟩:=aeJ.mp e
 have ez:zs=zs.take k++zs[k]::zs.drop (k+1):=by rw [← afQ hk,afp]
 rw [List.eraseIdx_eq_take_drop_succ]
 exact .trans (ahK (l₁:=zs.take k)).symm (.of_eq ez.symm)
theorem qf {α β:Type}{f:α->β}:∀ {zs ys:List β},zs.Perm ys->∀ {xs:List α},xs.map f=zs->∃ ws:List α,ys=ws.map f/\ws.Perm xs:=by
 intro zs ys h
 induction h with
 | nil =>
  intro xs e
  rw [List.map_eq_nil_iff.mp e]
  exact⟨[],rfl,.refl _⟩
 | cons x p ih =>
  intro xs e
  cases xs with
  | nil=>cases e
  | cons a t =>
   rw [aeZ] at e
   injection e with e1 e2
   obtain⟨ws,rfl,pw⟩:=ih e2
   exact⟨a::ws,by rw [aeZ,e1],pw.cons _⟩
 | swap x y l =>
  intro xs e
  cases xs with
  | nil=>cases e
  | cons a t =>
   cases t with
   | nil=>cases e
   | cons b t =>
    rw [aeZ,aeZ] at e
    injection e with e1 e2
    injection e2 with e2 e3
    exact⟨b::a::t,by rw [aeZ,aeZ,e1,e2,e3],.swap _ _ _⟩
 | trans _ _ ih1 ih2 =>
  intro xs e
  obtain⟨ws,rfl,pw⟩:=ih1 e
  obtain⟨vs,rfl,pv⟩:=ih2 rfl
  exact⟨vs,rfl,pv.trans pw⟩
def adQ (p q:Addr)(H H':Hp):Prop:=∀ b u,b≠p->b≠q->H b=some u->H' b=some u
theorem zA {K:PySem.W.Frag}{nl:Nat}{ix:List Nat}{a b:Nat}{σ:L2.St}{H1:Hp}{D p q:Addr}{Q:VK}{lo:Int}{xs:List V}(nD:H1 D=none)(dk:DeckAt H1 p)(hq:H1 q=some (.lst xs))(qp:q≠p)(hl:xs.length<=1000)
 (hc:∀ x,((dz nl ix σ).set 0 (some x)).drop nl=ix.map fun j=>(σ[j]?).join)
 (h1:∀ x,((dz nl ix σ).set 0 (some x))[a]? = some (some (.ref q)))(h2:∀ x,((dz nl ix σ).set 0 (some x))[b]? = some (some (.ref p)))
 (hd:∀ ys H,ys.Perm xs->H D=some (.lst ys)->DeckAt H p->adQ p q H1 H->Q (.ref D) H) :
 jg nl ix (bJ 0) yz (tBM K "list" aaM (wx a) (gq (tOp (rI (fun _ j=>0 < j) fun i j=>.int (i % j)) (aal jz [] E0 (gq (wx b) mP)) (tCB (fun xs H Q=>∃ p ys,xs=[V.ref p]/\(SqL K H p ys\/SqT K H p ys)/\Q (.int ys.length) H) (gq (wx a) mP))) mP)) σ (Itr lo xs.length) H1 D Q:=by
 have lim:1000000 < sizeLine:=by decide
 have Dp:D≠p:=dk.ne nD
 have Dq:D≠q:=fun z=>by rw [z,hq] at nD;cases nD
 have s0:Same H1 (upd H1 D (.lst [])):=fun b u e=>by rw [ah (af e nD)];exact e
 refine gE (fun i ys H=>∃ zs:List V,ys.length=i/\(ys++zs).Perm xs/\H q=some (.lst zs)/\H D=some (.lst ys)/\adQ p q H1 H/\DeckAt H p) ⟨xs,rfl,.refl _,s0 _ _ hq,ag,fun b u _ _ e=>s0 b u e,dk.same s0⟩ (fun i ys H ⟨_,_,_,_,h,_⟩=>h) ?_ ?_
 ·rintro i ys H hi ⟨zs,len,pm,hz,hD,B,dk'⟩
  have pml:=pm.length_eq
  rw [aeG] at pml
  have zpos:0 < zs.length:=by omega
  refine dI (hc _) ⟨_,h1 _,.inl ⟨rfl,_,SqL.of hz⟩,_,h2 _,p,rfl,dk',fun r H' _ _ dk2 B2 _=>⟨_,h1 _,q,_,rfl,.inl (SqL.of (B2 _ _ qp hz)),r,_,rfl,rfl,(by show (0:Int) < (zs.length:Int);omega),?_⟩⟩
  obtain⟨m,em,hm⟩:=oa (r:=r) zpos
  have ey:zs[m]? = some zs[m]:=aeC hm
  refine⟨q,_,(m:Int),m,zs[m],rfl,aft (fun x=>[V.int x]) em,B2 _ _ qp hz,by omega,by omega,(aiq (ahP m) (by omega)).trans (by simp),ey,?_⟩
  have hD':(upd H' q (.lst (zs.eraseIdx m))) D=some (.lst ys):=by rw [ah Dq];exact B2 _ _ Dp hD
  refine⟨hD',by omega,nx hi ⟨zs.eraseIdx m,by simp [len],zO pm ey,by rw [ah Dq.symm,ag],ag,fun b u nb nq e=>?_,?_⟩⟩
  ·rw [ah (af e nD),ah nq]
   exact B2 b u nb (B b u nb nq e)
  ·exact (dk2.up qp).up Dp
 ·rintro ys H ⟨zs,len,pm,hz,hD,B,dk'⟩
  have pml:=pm.length_eq
  rw [aeG] at pml
  have ez:zs=[]:=af8.mp (by omega)
  subst ez
  rw [afw] at pm
  exact hd ys H pm hD dk' B
structure HouseD (h:Hs):Prop where
 ok:fo h
 few:∃ U:List Str,U.length<=62/\∀ x,(x∈bg h\/x∈aK h)->x∈U
 nk:(bg h).length<=1000
 nl:(aK h).length<=1000
 pl:∀ r∈h.2,∃ k,r.1=[k]
 rl:h.2.length<=63
theorem HouseD.few' {h:Hs}(x:HouseD h):pL h:=⟨let ⟨U,a,b⟩:=x.few;⟨U,by omega,b⟩,x.nk,x.nl⟩
theorem lJ {α β:Type}{f:α->List β}{n:Nat}:∀ {l:List α},(∀ r∈l,(f r).length<=n)->(l.flatMap f).length<=n * l.length
 | [],_=>ae2 _
 | a::t,h=>by
  have h1:=h a aeQ
  have h2:=lJ (l:=t) fun r hr=>h r (aeV _ hr)
  rw [afO,aeG,afd,Nat.mul_succ]
  omega
theorem yQ {U keys:List Str}{rs:List Rm}(kk:∀ k∈U,bp k)(ul:U.length<=62)(hk:∀ k∈keys,k∈U)(hkl:keys.length<=24)(pl:∀ r∈rs,PlU U r)(rl:rs.length<=63):HouseD (keys,rs):=by
 have e1:∀ r∈rs,r.1.length<=1:=fun r hr=>by obtain⟨⟨k,e,_⟩,_⟩:=pl r hr;rw [e];exact aeN _
 have e2:∀ r∈rs,r.2.length<=12:=fun r hr=>(pl r hr).2.2
 have f1:=lJ (f:=fun x:Rm=>x.1) e1
 have f2:=lJ (f:=fun x:Rm=>x.2) e2
 refine⟨⟨fun k h=>kk k (hk k h),by show keys.length<=1000;omega,fun r hr=>?_,by show rs.length<=1000;omega⟩,⟨U,ul,fun x h=>?_⟩,?_,?_,fun r hr=>let ⟨⟨k,e,_⟩,_⟩:=pl r hr;⟨k,e⟩,rl⟩
 ·obtain⟨⟨k,e,m⟩,a,b⟩:=pl r hr
  refine⟨fun z hz=>?_,by rw [e];exact aeN _,by rw [e];show 1<=4;decide,by rw [e];exact ajC ..,fun z hz=>kk z (a z hz),by omega⟩
  rw [e] at hz
  rw [aeF.mp hz]
  exact kk k m
 ·rcases h with h | h
  ·rcases aeI.mp h with h | h
   ·exact hk x h
   ·obtain⟨r,hr,hx⟩:=afN.mp h
    exact (pl r hr).2.1 x hx
  ·obtain⟨r,hr,hx⟩:=afN.mp h
   obtain⟨⟨k,e,m⟩,_⟩:=pl r hr
   rw [e] at hx
   rw [aeF.mp hx]
   exact m
 ·show (keys++rs.flatMap (·.2)).length<=1000
  rw [aeG]
  omega
 ·show (rs.flatMap (·.1)).length<=1000
  omega
structure HouseE (U:List Str)(n:Nat)(h:Hs):Prop where
 kk:∀ k∈U,bp k
 hk:∀ k∈h.1,k∈U
 hl:h.1.length<=24
 pl:∀ r∈h.2,PlU U r
 rl:h.2.length<=n
theorem HouseE.houseD {U:List Str}{n:Nat}{h:Hs}(x:HouseE U n h)(ul:U.length<=62)(hn:n<=63):HouseD h:=yQ (keys:=h.1) (rs:=h.2) x.kk ul x.hk x.hl x.pl (afk x.rl hn)
def aaN (most:Nat)(h:Hs):Prop:=∃ U,HouseE U (most+3) h/\(U.length<=most+1\/U.length<=15)
theorem yW {U keys:List Str}{rs:List Rm}{most:Nat}(kk:∀ k∈U,bp k)(ul:U.length<=most+1\/U.length<=15)(hk:∀ k∈keys,k∈U)(hkl:keys.length<=24)(pl:∀ r∈rs,PlU U r)(rl:rs.length<=most+3):aaN most (keys,rs):=⟨U,⟨kk,hk,hkl,pl,rl⟩,ul⟩
def oW (lo:Nat):Sp:=fun vs H Q _=>∃ (p:Addr) (most:Nat),vs=[.ref p,.int most]/\DeckAt H p/\lo<=most/\most<=60/\∀ (v:V) (h:Hs) (H':Hp),HouseAt H' v h->aaN most h->DeckAt H' p->But p H H'->Q v H'
def aA (r:Rm):Str:=r.1.headD ""
def Plain (rs:List Rm):Prop:=∀ r∈rs,r.1=[aA r]
theorem Plain.sub {rs rs':List Rm}(h:Plain rs)(s:∀ r∈rs',r∈rs):Plain rs':=fun r hr=>h r (s r hr)
structure kM (hand:List Str)(rs:List Rm):Prop where
 cnt:∀ k,(rs.map aA).count k<=(hand++rs.flatMap (·.2)).count k
 com:∀ r∈rs,Com hand rs (aA r)
def ab7 (hand:List Str)(A:List Rm)(r:Rm)(B:List Rm):Prop:=aA r∈hand/\∀ q∈A++B,Com (hand.erase (aA r)++r.2) (A++B) (aA q)
theorem Com.lock {ks:List Str}{rs:List Rm}(pl:Plain rs){r:Rm}(hr:r∈rs)(h:Com ks rs (aA r)){x:Str}(hx:x∈r.2):Com ks rs x:=.room hr (fun y hy=>by rw [pl r hr] at hy;rw [aeF.mp hy];exact h) hx
theorem mY {ks:List Str}{rs:List Rm}(pl:Plain rs){M:Str->Prop}(hk:∀ x∈ks,M x)(hr:∀ r∈rs,M (aA r)->∀ x∈r.2,M x):∀ {x},Com ks rs x->M x:=by
 intro x h
 induction h with
 | key h=>exact hk _ h
 | room h1 _ h3 ih=>exact hr _ h1 (ih _ (by rw [pl _ h1];exact aeF.mpr rfl)) _ h3
theorem aa8 {hand:List Str}{rs:List Rm}(pl:Plain rs)(f:kM hand rs)(ne:rs≠[]):∃ r∈rs,aA r∈hand:=by
 apply afP
 intro no
 cases rs with
 | nil=>exact ne rfl
 | cons r0 t =>
  have:∀ {x},Com hand (r0::t) x->x∈hand:=mY pl (fun _ h=>h) fun r hr h=>absurd ⟨r,hr,h⟩ no
  exact no ⟨r0,aeQ,this (f.com r0 aeQ)⟩
theorem mem_mid {A B:List Rm}{r q:Rm}:q∈A++r::B↔q=r\/q∈A++B:=by
 simp only [aeI,aeX]
 exact⟨fun h=>h.elim (fun z=>.inr (.inl z)) fun h=>h.elim .inl fun z=>.inr (.inr z),fun h=>h.elim (fun z=>.inr (.inl z)) fun h=>h.elim .inl fun z=>.inr (.inr z)⟩
theorem mJ {rs:List Rm}{r:Rm}(h:r∈rs):∃ A B,rs=A++r::B:=ah0 h
theorem tJ {hand:List Str}{rs:List Rm}(pl:Plain rs)(f:kM hand rs)(ne:rs≠[]):∃ A r B,rs=A++r::B/\ab7 hand A r B:=by
 obtain⟨r0,h0,hk⟩:=aa8 pl f ne
 generalize ek:aA r0=k at hk
 have plAB:∀ {A B:List Rm} {r:Rm},rs=A++r::B->Plain (A++B):=fun e=>pl.sub fun q hq=>by rw [e];exact mem_mid.mpr (.inr hq)
 by_cases any:∃ A r B,rs=A++r::B/\aA r=k/\Com (hand.erase k++r.2) (A++B) k
 ·obtain⟨A,r,B,e,lk,d⟩:=any
  refine⟨A,r,B,e,by rw [lk];exact hk,fun q hq=>?_⟩
  rw [lk]
  have all:∀ {x},Com hand rs x->Com (hand.erase k++r.2) (A++B) x:=mY pl (fun x hx=>?_) fun q hq hc x hx=>?_
  ·exact all (f.com q (by rw [e];exact mem_mid.mpr (.inr hq)))
  ·by_cases z:x=k
   ·rw [z];exact d
   ·exact .key (ae6 _ ((ahE z).mpr hx))
  ·rw [e] at hq
   rcases mem_mid.mp hq with z | z
   ·rw [z] at hx;exact .key (aeL _ hx)
   ·exact Com.lock (plAB e) z hc hx
 ·have none:∀ A r B,rs=A++r::B->aA r=k->¬ Com (hand.erase k++r.2) (A++B) k:=fun A r B e lk d=>any ⟨A,r,B,e,lk,d⟩
  obtain⟨A,B,e⟩:=mJ h0
  have step:∀ {x},Com hand rs x->x=k\/∃ A r B,rs=A++r::B/\aA r=k/\Com (hand.erase k++r.2) (A++B) x:=mY (M:=fun x=>x=k\/∃ A r B,rs=A++r::B/\aA r=k/\Com (hand.erase k++r.2) (A++B) x) pl (fun x hx=>?_) fun q hq hc x hx=>?_
  rotate_left
  ·by_cases z:x=k
   ·exact .inl z
   ·exact .inr ⟨A,r0,B,e,ek,.key (ae6 _ ((ahE z).mpr hx))⟩
  ·right
   rcases hc with z | ⟨A',r',B',e',lk',c'⟩
   ·obtain⟨A',B',e'⟩:=mJ hq
    exact⟨A',q,B',e',z,.key (aeL _ hx)⟩
   ·refine⟨A',r',B',e',lk',?_⟩
    have nk:aA q≠k:=fun z=>none A' r' B' e' lk' (z▸c')
    rw [e'] at hq
    rcases mem_mid.mp hq with z | z
    ·exact absurd (z▸lk') nk
    ·exact Com.lock (plAB e') z c' hx
  have nin:∀ q∈rs,k ∉ q.2:=fun q hq hx=>by
   rcases step (f.com q hq) with z | ⟨A',r',B',e',lk',c'⟩
   ·obtain⟨A',B',e'⟩:=mJ hq
    exact none A' q B' e' z (.key (aeL _ hx))
   ·have nk:aA q≠k:=fun z=>none A' r' B' e' lk' (z▸c')
    have hq':=hq
    rw [e'] at hq'
    rcases mem_mid.mp hq' with z | z
    ·exact absurd (z▸lk') nk
    ·exact none A' r' B' e' lk' (Com.lock (plAB e') z c' hx)
  have c0:(rs.flatMap (·.2)).count k=0:=ah1.mpr fun z=>by
   obtain⟨q,hq,hx⟩:=afN.mp z
   exact nin q hq hx
  have c1:hand.count k<=1:=by
   have:k ∉ hand.erase k:=fun z=>none A r0 B e ek (.key (ae6 _ z))
   have h1:=ah1.mpr this
   rw [List.count_erase_self] at h1
   omega
  have cl:=f.cnt k
  rw [afY,c0] at cl
  have only:∀ q∈A++B,aA q≠k:=fun q hq z=>by
   have h1:(rs.map aA).count k=((A++B).map aA).count k+1:=by
    rw [e]
    simp only [aeO,aeZ,afY,aht,ek,aio,ahl]
    omega
   have h2:0 < ((A++B).map aA).count k:=afF.mpr (ae3.mpr ⟨q,hq,z⟩)
   omega
  refine⟨A,r0,B,e,by rw [ek];exact hk,fun q hq=>?_⟩
  rw [ek]
  have all:∀ {x},Com hand rs x->x=k\/Com (hand.erase k++r0.2) (A++B) x:=mY (M:=fun x=>x=k\/Com (hand.erase k++r0.2) (A++B) x) pl (fun x hx=>?_) fun q hq hc x hx=>?_
  ·exact (all (f.com q (by rw [e];exact mem_mid.mpr (.inr hq)))).resolve_left (only q hq)
  ·by_cases z:x=k
   ·exact .inl z
   ·exact .inr (.key (ae6 _ ((ahE z).mpr hx)))
  ·right
   rw [e] at hq
   rcases mem_mid.mp hq with z | z
   ·rw [z] at hx;exact .key (aeL _ hx)
   ·exact Com.lock (plAB e) z (hc.resolve_left (only q z)) hx
theorem xD {hand:List Str}{A B:List Rm}{r:Rm}(f:kM hand (A++r::B))(s:ab7 hand A r B):kM (hand.erase (aA r)++r.2) (A++B):=by
 refine⟨fun k=>?_,s.2⟩
 have h1:=f.cnt k
 have h2:(hand.erase (aA r)).count k=hand.count k - if aA r=k then 1 else 0:=by
  rw [aip]
  simp only [afe]
 have h3:0 < hand.count (aA r):=afF.mpr s.1
 simp only [aeO,aeZ,afB,afO,afY,aht,afe] at h1 ⊢
 rw [h2]
 by_cases z:aA r=k
 ·rw [if_pos z] at h1 ⊢
  rw [z] at h3
  omega
 ·rw [if_neg z] at h1 ⊢
  omega
end K7
namespace L2
theorem tvE {i:Nat}{σ:St}{H:Hp}{Q:VK}{v:V}(h:σ[i]? = some (some v))(k:Q v H):wx i σ H Q:=⟨v,h,k⟩
end L2
namespace K7
open PySem L2 PyProof.Rows
def pO:Sp:=fun vs H Q _=>∃ (r:Addr) (us:List V) (rs:List Rm),vs=[.ref r]/\H r=some (.lst us)/\RoomsAt H us rs/\(∀ q∈rs,q.1.length<=4)/\rs.length<=200 ∧
 ∀ (d:Addr) (kvs:List (Key×V)) (H':Hp),H d=none->H' d=some (.dK kvs)->Same H H'->LockMap H H' kvs (fun x=>hV rs x rs.length)->Q (.ref d) H'
section
variable {P:Program}{w:World}{K:PySem.W.Frag}{mg:Str->Option Value}{base:Heap}
theorem b5:aO ["rooms","numbers","number","locks","within","kind"] ["rooms"] (aq bZ):=⟨rfl,rfl,rfl,by decide +kernel,rfl,by decide +kernel,by decide +kernel⟩
inductive aec (r:Addr)(d:Addr)(H:Hp)(rs:List Rm)(σ':L2.St)(H':Hp):Prop
 | mk (x2 x3 x4 x5:Option V) (kvs:List (Key×V)):(σ'=[some (.ref r),some (.ref d),x2,x3,x4,x5])->(H' d=some (.dK kvs))->(Same H H')->(LockMap H H' kvs (fun x=>hV rs x rs.length))->aec r d H rs σ' H'
inductive ad6 (r:Addr)(d:Addr)(H:Hp)(rs:List Rm)(i:Nat)(σ':L2.St)(H':Hp):Prop
 | mk (x2 x3 x4 x5:Option V) (kvs:List (Key×V)):(σ'=[some (.ref r),some (.ref d),x2,x3,x4,x5])->(H' d=some (.dK kvs))->(kvs.length<=4 * i)->(Same H H')->(LockMap H H' kvs (fun x=>hV rs x i))->ad6 r d H rs i σ' H'
inductive ad8 (r:Addr)(d:Addr)(i:Nat)(aa:Addr)(bb:Addr)(H:Hp)(rs:List Rm)(σ':L2.St)(H':Hp):Prop
 | mk (x5:Option V) (kvs:List (Key×V)):(σ'=[some (.ref r),some (.ref d),some (.int i),some (.ref aa),some (.ref bb),x5])->(H' d=some (.dK kvs))->(kvs.length<=4 * (i+1))->(Same H H')->(LockMap H H' kvs (fun x=>hV rs x (i+1)))->ad8 r d i aa bb H rs σ' H'
inductive ad1 (r:Addr)(d:Addr)(i:Nat)(aa:Addr)(bb:Addr)(ss:List Str)(H:Hp)(oA:Addr)(rs:List Rm)(j:Nat)(σ':L2.St)(H':Hp):Prop
 | mk (x5:Option V) (kvs':List (Key×V)):(σ'=[some (.ref r),some (.ref d),some (.int i),some (.ref aa),some (.ref bb),x5])->(H' d=some (.dK kvs'))->(kvs'.length<=4 * i+j)->(j<=ss.length)->(Same H H')->(H' oA=some (.lst (ss.map V.str)))->((∀ x,fq kvs' (.inr x)≠some (.ref oA)))->(LockMap H H' kvs' (fun x=>hV rs x i++if x∈ss.take j then [i] else []))->ad1 r d i aa bb ss H oA rs j σ' H'
theorem yr {f:Addr}{fd:FuncData}(F:Fun K "rooms_by_lock" "rooms_by_lock" bZ f fd)(cN:mg "enumerate" = none)(mR:mg "set" = none)(aS:mg "sorted" = none) :
 aV P w K mg base CX0 1 f fd ["rooms"] pO:=by
 refine F.ok b5 (fun vs H Q E h=>?_) (fun cdv A outer s H vs Q E hr h=>?_)
 ·obtain⟨r,us,rs,rfl,_⟩:=h
  rfl
 ·obtain⟨r,us,rs,rfl,hr0,hR,h4,hn,k⟩:=h
  refine⟨_,(ak (aI (i:=1) b5.nd rfl (Or.inl rfl) y3)
   (ak (bB (dU afl rfl (tQ rfl cN (ae (pv 0) ai)) (eG rfl (aG (ay (i:=2) b5.nd rfl (Or.inl rfl)) (aG (eG rfl (aG (ay (i:=3) b5.nd rfl (Or.inl rfl)) (aG (ay (i:=4) b5.nd rfl (Or.inl rfl)) bY))) bY)))
    (au (bB (dU afl rfl (bT (aw (dj rfl) rfl aS agO (ae (bF (gQ rfl) rfl mR (by decide +kernel) (ae (pv 3) ai)) ai))) (ay (i:=5) b5.nd rfl (Or.inl rfl))
     (au (bC (fw aeS afI afJ df (fw ahT aiB PySem.F.type_dict_setdefault pz (pv 1) (ae (pv 5) (ae (gT ai) ai))) (ae (pv 2) ai)))))))))
   (au (aN (pv 1))))),?_⟩
  intro d nd
  have s1:Same H (upd H d (.dK [])):=fun b u e=>by rw [ah (af e nd)];exact e
  refine⟨aec r d H rs,?_,?_⟩
  ·rintro σ H2 ⟨x2,x3,x4,x5,kvs,rfl,hd,sm,lm⟩
   first | refine tvE rfl ?_ | refine⟨_,rfl,?_⟩
   exact k d kvs H2 nd hd sm lm
  first | refine tvE rfl ?_ | refine⟨_,rfl,?_⟩
  refine⟨r,rfl,⟨_,SqL.of (s1 _ _ hr0)⟩,?_⟩
  refine u0 (xs:=us) (ad6 r d H rs) ?_ (fun i σ H2 _ ⟨_,_,_,_,_,_,_,_,sm,_⟩=>SqL.of (sm _ _ hr0)) ?_ ?_
  ·exact⟨none,none,none,none,[],rfl,ag,ae2 _,s1,⟨fun x _=>rfl,(fun x v h=>nomatch h),(fun x y a h=>nomatch h)⟩⟩
  ·rintro i x σ H2 T hx ⟨x2,x3,x4,x5,kvs,rfl,hd,hk,sm,lm⟩ nT
   have hi:i < us.length:=(aeJ.mp hx).1
   have hi':i < rs.length:=by rw [← hR.1];exact hi
   obtain⟨tt,aa,bb,rfl,q1,q2,q3⟩:=hR.2 i x _ hx (aeC hi')
   have sT:Same H2 (upd H2 T (.tup [.int (i:Int),.ref tt])):=fun b u e=>by rw [ah (af e nT)];exact e
   have g1:=sT _ _ (sm _ _ q1)
   have g2:=sT _ _ (sm _ _ q2)
   refine⟨T,_,rfl,SqT.of ag,rfl,_,_,rfl,_,_,rfl,tt,_,rfl,SqT.of g1,rfl,_,_,rfl,_,_,rfl,rfl,rfl,?_⟩
   have hl4:(rs[i]).1.length<=4:=h4 _ (afa hi')
   have hT:=sm.trans sT
   have lmT:LockMap H (upd H2 T (.tup [.int (i:Int),.ref tt])) kvs (fun x=>hV rs x i):=lm.keep fun a xs _ e=>sT a _ e
   have hdT:=sT _ _ hd
   generalize upd H2 T (.tup [.int (i:Int),.ref tt])=H3 at *
   refine⟨ad8 r d i aa bb H rs,?_,?_⟩
   ·rintro σ H4 ⟨x5,kvs4,rfl,hd4,hk4,sm4,lm4⟩
    exact⟨_,_,_,_,kvs4,rfl,hd4,hk4,sm4,lm4⟩
   first | refine tvE rfl ?_ | refine⟨_,rfl,?_⟩
   refine⟨aa,(rs[i]).1,rfl,SqL.of g2,aff (agU hl4) (by decide),fun sA ts nS hts=>?_⟩
   have tl:ts.length<=4:=afk (aF (U:=(rs[i]).1) hts.1 fun x hx=>(hts.2 x).mp hx) hl4
   refine⟨sA,ts,rfl,ag,aff tl (by decide),fun oA ss nO hp hso=>?_⟩
   have s35:Same H3 (upd (upd H3 sA (eA P w sA ts)) oA (.lst (ss.map V.str))):=fun b u e=>by
    have e1:(upd H3 sA (eA P w sA ts)) b=some u:=by rw [ah (af e nS)];exact e
    have nO':(upd H3 sA (eA P w sA ts)) oA=none:=nO
    rw [ah (af e1 nO')];exact e1
   have ho5:(upd (upd H3 sA (eA P w sA ts)) oA (.lst (ss.map V.str))) oA=some (.lst (ss.map V.str)):=ag
   have nO3:H3 oA=none:=by
    by_cases z:oA=sA
    ·rw [z];exact nS
    ·rw [ah z] at nO;exact nO
   have smem:∀ x,x∈ss↔x∈(rs[i]).1:=fun x=>by rw [hp.mem_iff,hts.2 x]
   have snd:ss.Nodup:=hp.nodup_iff.mpr hts.1
   have sl:ss.length<=4:=by rw [hp.length_eq];exact tl
   refine⟨oA,rfl,⟨_,SqL.of ho5⟩,?_⟩
   refine eR (xs:=ss.map V.str) (ad1 r d i aa bb ss H oA rs) ?_ (fun j σ H6 _ ⟨_,_,_,_,_,_,_,h,_,_⟩=>SqL.of h) ?_ ?_
   ·exact⟨_,kvs,rfl,s35 _ _ hdT,by (first | lia | omega),ae2 _,hT.trans s35,ho5,(fun x z=>let ⟨a,e1,_,e3⟩:=lmT.som x _ z;by cases e1;rw [nO3] at e3;cases e3),(lmT.keep fun a xs _ e=>s35 a _ e).congr fun x=>by rw [ahj,if_neg (fun z=>nomatch z),afw]⟩
   ·rintro j y σ H6 hy ⟨x5',kv6,rfl,hd6,hk6,hj6,sm6,ho6,hno,lm6⟩
    have hj:j < ss.length:=by
     have:=(aeJ.mp hy).1
     rw [aeD] at this;exact this
    rw [aeP,aeC hj] at hy
    cases hy
    have hDz:(hV rs ss[j] i++if ss[j]∈ss.take j then [i] else [])=hV rs ss[j] i:=by
     rw [if_neg,afw]
     intro z
     obtain⟨m,hm,e⟩:=afS.mp z
     rw [ag8] at e
     rw [ae9] at hm
     exact agc.mp snd m j (by (first | lia | omega)) hj (by (first | lia | omega)) e
    have hDD:∀ x,(if x=ss[j] then (hV rs x i++if x∈ss.take j then [i] else [])++[i] else (hV rs x i++if x∈ss.take j then [i] else []))=hV rs x i++if x∈ss.take (j+1) then [i] else []:=fun x=>by
     rw [afc,aeC hj]
     by_cases e:x=ss[j]
     ·rw [if_pos e,e,hDz,if_pos (show ss[j]∈ss.take j++(some ss[j]).toList from aeL _ (aeF.mpr rfl))]
     ·rw [if_neg e]
      by_cases e2:x∈ss.take j
      ·rw [if_pos e2,if_pos (ae6 _ e2)]
      ·rw [if_neg e2,if_neg]
       intro z
       rcases aeI.mp z with z | z
       ·exact e2 z
       ·exact e (aeF.mp z)
    have nl:=uJ rs ss[j] i
    have nod:oA≠d:=bX ho6 hd6 (fun z=>nomatch z)
    have nOH:H oA=none:=hT.free nO3
    first | refine tvE rfl ?_ | refine⟨_,rfl,?_⟩
    refine⟨.inr (.inr (.inl ⟨rfl,.inl ⟨_,hd6⟩⟩)),_,rfl,ae2 _,fun l nl6=>?_⟩
    have nlH:H l=none:=sm6.free nl6
    have ndl:d≠l:=af hd6 nl6
    have nol:oA≠l:=af ho6 nl6
    have s6l:Same H6 (upd H6 l (.lst [])):=fun b u e=>by rw [ah (af e nl6)];exact e
    refine⟨d,kv6,Sum.inr ss[j],.ref l,rfl,rfl,by rw [ah ndl];exact hd6,aD (by (first | lia | omega)),fun v hv=>?_,fun hv=>?_⟩
    ·obtain⟨a,rfl,ha1,ha2⟩:=lm6.som _ v hv
     rw [hDz] at ha2
     have ha2':=s6l _ _ ha2
     have nao:oA≠a:=fun z=>by subst z;exact hno _ hv
     refine⟨.inl ⟨rfl,_,SqL.of ha2'⟩,_,rfl,a,_,.int i,rfl,rfl,ha2',by rw [aeD];exact aD (by (first | lia | omega)),?_⟩
     have e1:(List.map (fun i=>V.int ((i:Nat):Int)) (hV rs ss[j] i)++[V.int i])=(List.map (fun i=>V.int ((i:Nat):Int)) ((hV rs ss[j] i++if ss[j]∈ss.take j then [i] else [])++[i])):=by rw [hDz,aeO];rfl
     rw [e1]
     have lm7:=(lm6.keep fun a xs _ e=>s6l a _ e).more (i:=i) hv
     refine⟨_,kv6,rfl,?_,by (first | lia | omega),hj,fun b u e=>?_,?_,?_,lm7.congr hDD⟩
     ·rw [ah (bX hd6 ha2 (fun z=>nomatch z)),ah ndl];exact hd6
     ·rw [ah (af e ha1)];exact s6l _ _ (sm6 _ _ e)
     ·rw [ah nao];exact s6l _ _ ho6
     ·exact hno
    ·refine⟨.inl ⟨rfl,[],SqL.of ?_⟩,_,rfl,l,[],.int i,rfl,rfl,?_,ae1 (by decide:0 < 1) (by decide),?_⟩
     ·rw [ah (agz ndl),ag]
     ·rw [ah (agz ndl),ag]
     have lm7:=lm6.fresh (i:=i) hv nl6 nlH
     refine⟨_,_,rfl,?_,?_,hj,fun b u e=>?_,?_,fun x z=>?_,(lm7.congr hDD).keep fun b xs _ e=>?_⟩
     ·rw [ah ndl,ag]
     ·have:=eP kv6 (Sum.inr ss[j]) (.ref l)
      (first | lia | omega)
     ·rw [ah (af e nlH),ah (af e nd)];exact s6l _ _ (sm6 _ _ e)
     ·rw [ah nol,ah nod];exact s6l _ _ ho6
     ·rw [iG] at z
      split at z
      ·exact nol (by cases z;rfl)
      ·exact hno x z
     ·by_cases z:b=l
      ·subst z;rw [ag] at e ⊢;exact e
      ·rw [ah z] at e ⊢
       rw [ah (bX e hd6 (fun z=>nomatch z)),ah z];exact e
   ·rintro σ H6 ⟨x5',kv6,rfl,hd6,hk6,hj6,sm6,ho6,hno,lm6⟩
    rw [aeD] at hk6 lm6
    refine⟨_,kv6,rfl,hd6,by (first | lia | omega),sm6,lm6.congr fun x=>?_⟩
    rw [afm]
    show _=hV rs x i++_
    rw [aeC hi',ajF]
    by_cases e:x∈ss
    ·rw [if_pos e,if_pos ((smem x).mp e)]
    ·rw [if_neg e,if_neg (fun z=>e ((smem x).mpr z))]
  ·rintro σ H2 ⟨x2,x3,x4,x5,kvs,rfl,hd,hk,sm,lm⟩
   rw [hR.1] at lm
   exact⟨_,_,_,_,kvs,rfl,hd,sm,lm⟩
def jC:Sp:=fun vs H Q _=>∃ (a r:Addr) (us:List V) (ks:List Str) (rs:List Rm),vs=[.ref a,.ref r]/\H a=some (.lst (ks.map V.str))/\H r=some (.lst us)/\RoomsAt H us rs/\(∀ q∈rs,q.1≠[]/\q.1.length<=4)/\rs.length<=200 ∧
 (ks++rs.flatMap (·.2)).length<=1000/\(∃ U:List Str,U.length < 64/\∀ x∈ks++rs.flatMap (·.2),x∈U) ∧
 ∀ (t A B:Addr) (ss:List Str) (ns:List Nat) (H':Hp),Same H H'->H A=none->H B=none->H' t=some (.tup [.ref A,.ref B])->H' A=some (.lst (ss.map V.str))->H' B=some (.lst (ns.map fun i=>V.int (i:Nat))) →
  ss.Nodup->sortedS ss=true->(∀ x,x∈ss↔Com ks rs x)->ns=uk rs ss->Q (.ref t) H'
theorem Com.mem {ks:List Str}{rs:List Rm}{x:Str}(h:Com ks rs x):x∈ks++rs.flatMap (·.2):=by
 cases h with
 | key h=>exact ae6 _ h
 | room h1 _ h3=>exact aeL _ (afN.mpr ⟨_,h1,h3⟩)
abbrev aC (ns:List Nat):List V:=ns.map fun i=>V.int (i:Nat)
structure Rch (P:Program)(w:World)(ks:List Str)(rs:List Rm)(H1 H':Hp)(wA cA fA:Addr)(C F:List Str):Prop where
 hw:H' wA=some (.lst (aC (rs.map fun q=>bt q C)))
 hc:H' cA=some (eA P w cA C)
 hf:H' fA=some (.lst (F.map V.str))
 sm:Same H1 H'
 nd:C.Nodup
 cC:∀ x∈C,Com ks rs x
 cF:∀ x∈F,Com ks rs x
 ke:∀ x∈ks,x∈C\/x∈F
 cl:∀ q∈rs,(∀ y∈q.1,y∈C)->∀ x∈q.2,x∈C\/x∈F
theorem Rch.all {P:Program}{w:World}{ks:List Str}{rs:List Rm}{H1 H':Hp}{wA cA fA:Addr}{C:List Str}(h:Rch P w ks rs H1 H' wA cA fA C []){x:Str}(c:Com ks rs x):x∈C:=by
 induction c with
 | key hx=>exact (h.ke _ hx).resolve_right (fun z=>nomatch z)
 | room hr _ hx ih=>exact (h.cl _ hr ih _ hx).resolve_right (fun z=>nomatch z)
theorem eM:aO ["keys","rooms","numbers","wanted","come","found","kind","number"] ["keys","rooms"] (aq dQ):=⟨rfl,rfl,rfl,by decide +kernel,rfl,by decide +kernel,by decide +kernel⟩
theorem kC:(["locks","within"]:List Str).Nodup:=by decide +kernel
theorem kH:(["number","many"]:List Str).Nodup:=by decide +kernel
inductive aea (a:Addr)(r:Addr)(d:Addr)(H1:Hp)(rs:List Rm)(σ':L2.St)(H':Hp):Prop
 | mk (wA:Addr):(σ'=[some (.ref a),some (.ref r),some (.ref d),some (.ref wA),none,none,none,none])->(H1 wA=none)->(H' wA=some (.lst (aC (rs.map fun q=>bt q []))))->(Same H1 H')->aea a r d H1 rs σ' H'
inductive ad3 (a:Addr)(r:Addr)(d:Addr)(wA:Addr)(cA:Addr)(fA:Addr)(P:Program)(w:World)(ks:List Str)(rs:List Rm)(H1:Hp)(σ':L2.St)(H':Hp):Prop
 | mk (x6 x7:Option V) (C:List Str):(σ'=[some (.ref a),some (.ref r),some (.ref d),some (.ref wA),some (.ref cA),some (.ref fA),x6,x7])->(Rch P w ks rs H1 H' wA cA fA C [])->ad3 a r d wA cA fA P w ks rs H1 σ' H'
inductive ad2 (a:Addr)(r:Addr)(d:Addr)(wA:Addr)(cA:Addr)(fA:Addr)(P:Program)(w:World)(ks:List Str)(rs:List Rm)(H1:Hp)(m:Nat)(σ':L2.St)(H':Hp):Prop
 | mk (x6 x7:Option V) (C F:List Str):(σ'=[some (.ref a),some (.ref r),some (.ref d),some (.ref wA),some (.ref cA),some (.ref fA),x6,x7])->(Rch P w ks rs H1 H' wA cA fA C F)->(F.length+pend (rs.map fun q=>bt q C) rs=m)->(m<=1000)->ad2 a r d wA cA fA P w ks rs H1 m σ' H'
inductive adJ (a:Addr)(r:Addr)(d:Addr)(wA:Addr)(cA:Addr)(fA:Addr)(P:Program)(w:World)(ks:List Str)(rs:List Rm)(H1:Hp)(m:Nat)(σ':L2.St)(H':Hp):Prop
 | mk (x6 x7:Option V) (C F:List Str):(σ'=[some (.ref a),some (.ref r),some (.ref d),some (.ref wA),some (.ref cA),some (.ref fA),x6,x7])->(Rch P w ks rs H1 H' wA cA fA C F)->(F.length+pend (rs.map fun q=>bt q C) rs=m - 1)->adJ a r d wA cA fA P w ks rs H1 m σ' H'
inductive aee (a:Addr)(r:Addr)(d:Addr)(wA:Addr)(cA:Addr)(fA:Addr)(z:Str)(P:Program)(w:World)(C':List Str)(H1:Hp)(b:Addr)(rs:List Rm)(C:List Str)(m:Nat)(ks:List Str)(F0:List Str)(j:Nat)(σ':L2.St)(H':Hp):Prop
 | mk (x7:Option V) (ws:List Nat) (F:List Str):(σ'=[some (.ref a),some (.ref r),some (.ref d),some (.ref wA),some (.ref cA),some (.ref fA),some (.str z),x7])->(H' wA=some (.lst (aC ws)))->(H' cA=some (eA P w cA C'))->(H' fA=some (.lst (F.map V.str)))->(Same H1 H')->(H' b=some (.lst (aC (hV rs z rs.length))))->(ws.length=rs.length)->((∀ i q,rs[i]? = some q->ws[i]? = some (bt q C - if i∈(hV rs z rs.length).take j then 1 else 0)))->(F.length+pend ws rs=m - 1)->((∀ x∈F,Com ks rs x))->((∀ x∈F0,x∈F))->((∀ i∈(hV rs z rs.length).take j,∀ q,rs[i]? = some q->bt q C'=0->∀ x∈q.2,x∈F))->aee a r d wA cA fA z P w C' H1 b rs C m ks F0 j σ' H'
theorem wd {f fB:Addr}{fd fdB:FuncData}(F:Fun K "reached" "reached" dQ f fd)(mX:aV P w K mg base CX0 1 fB fdB ["rooms"] pO)(di:Cal K mg "rooms_by_lock" ["rooms"] fB fdB)
 (cN:mg "enumerate" = none)(aY:mg "len" = none)(bV:mg "list" = none)(mR:mg "set" = none)(aS:mg "sorted" = none) :
 aV P w K mg base CX0 2 f fd ["keys","rooms"] jC:=by
 refine F.ok eM (fun vs H Q E h=>?_) (fun cdv A outer s H vs Q E hr h=>?_)
 ·obtain⟨a,r,us,ks,rs,rfl,_⟩:=h
  rfl
 ·obtain⟨a,r,us,ks,rs,rfl,ha,hr0,hR,h4,hn,hM,⟨U,hU,hUm⟩,k⟩:=h
  have hu:=m7 hr
  refine⟨_,(ak (aI (i:=2) eM.nd rfl (Or.inl rfl) (ax mX hr rfl di.mg di.kp di.b .nil aP (ae (pv 1) ai)))
   (ak (bB (iX (i:=3) (outer:=aq (dQ)) (N:=["keys","rooms","numbers","wanted","come","found","kind","number"]) (N':=["locks","within"]) (nl:=2) (ix:=[]) eM.nd rfl (Or.inl rfl) rfl rfl rfl (bT (pv 1))
    (fun _ _ _ _=>(mT (K:=K) (n:=2) rfl rfl (aG (ay (i:=0) kC rfl (Or.inl rfl) (.inr rfl)) (aG (ay (i:=1) kC rfl (Or.inl rfl) (.inr rfl)) bY)))) (fun _ _ _ _=>dv)
    (fun _ _ _ _=>(aw (call_len_set (P:=P) (w:=w) rfl rfl) rfl aY ae8 (ae (bF (qj (P:=P) (w:=w) (K:=K) rfl rfl rfl rfl) rfl mR (by decide +kernel) (ae (pv 0) ai)) ai)))))
   (ak (aI (i:=4) eM.nd rfl (Or.inl rfl) (vT qe rfl mR (by decide +kernel)))
   (ak (aI (i:=5) eM.nd rfl (Or.inl rfl) (bF b9 rfl bV (by decide +kernel) (ae (pv 0) ai)))
   (ak (bB (kW afl (o8 (pv 5) (by intro _;rfl))
    (ak (aI (i:=6) eM.nd rfl (Or.inl rfl) (uP aeS agj agk xI (pv 5)))
    (ak (bB (cU (aX (yy) (pv 6) (pv 4) rfl)
     (au sP) aU))
    (ak (bC (aco zJ PySem.F.plainAttrs_set PySem.F.slot_set_add PySem.F.type_set_add oP (pv 4) (ae (pv 6) ai)))
    (au (bB (dU afl rfl (bT (zM hu (pv 2) (pv 6) (gT ai) ⟨rfl,rfl,rfl,rfl⟩)) (ay (i:=7) eM.nd rfl (Or.inl rfl))
     (ak (abY (pv 3) (pv 7) zu av acr uz)
     (au (bB (cU (aX gB (aT bD (pv 3) (pv 7) (fun _ _=>rfl)) av (bj _))
      (au (bC (fw aeS agE agF h7 (pv 5) (ae (aT bu (aT bD (pv 1) (pv 7) (fun _ _=>rfl)) av (fun _ _=>rfl)) ai)))) aU))))))))))))
   (au (aN (fX (ae (aw (dj rfl) rfl aS agO (ae (pv 4) ai)) (ae (lx (outer:=aq (dQ)) (N:=["keys","rooms","numbers","wanted","come","found","kind","number"]) (N':=["number","many"]) (nl:=2) (ix:=[]) rfl rfl rfl (tQ rfl cN (ae (pv 3) ai))
    (fun _ _ _ _=>(mT (K:=K) (n:=2) rfl rfl (aG (ay (i:=0) kH rfl (Or.inl rfl) (.inr rfl)) (aG (ay (i:=1) kH rfl (Or.inl rfl) (.inr rfl)) bY)))) (fun _ _ _ _=>(jd (aX gB (pv 1) av (bj _))))
    (fun _ _ _ _=>(pv 0))) ai)))))))))),?_⟩
  first | refine tvE rfl ?_ | refine⟨_,rfl,?_⟩
  refine⟨r,us,rs,rfl,hr0,hR,(fun q hq=>(h4 q hq).2),hn,fun d kvs H1 nd hd s1 lm=>?_⟩
  have hRm:=hR.same s1
  refine⟨aea a r d H1 rs,?_,?_⟩
  ·rintro σ H2 ⟨wA,rfl,nw,hw2,s2⟩
   refine⟨rfl,fun cA nC=>?_⟩
   have n1c:H1 cA=none:=s2.free nC
   have nwc:wA≠cA:=af hw2 nC
   have sC:Same H2 (upd H2 cA (eA P w cA [])):=fun b u e=>by rw [ah (af e nC)];exact e
   first | refine tvE rfl ?_ | refine⟨_,rfl,?_⟩
   refine⟨a,_,rfl,.inl (SqL.of (sC _ _ (s2 _ _ (s1 _ _ ha)))),fun fA nF=>?_⟩
   have sF:Same (upd H2 cA (eA P w cA [])) (upd (upd H2 cA (eA P w cA [])) fA (.lst (ks.map V.str))):=fun b u e=>by rw [ah (af e nF)];exact e
   have n1f:H1 fA=none:=(s2.trans sC).free nF
   have nwf:wA≠fA:=af (sC _ _ hw2) nF
   have ncf:cA≠fA:=af (show (upd H2 cA (eA P w cA [])) cA=some _ from ag) nF
   refine⟨ad3 a r d wA cA fA P w ks rs H1,?_,?_⟩
   ·rintro σ H3 ⟨x6,x7,C,rfl,R⟩
    have cl64:C.length < 64:=aff (aF (U:=U) R.nd fun x hx=>hUm x (R.cC x hx).mem) hU
    first | refine tvE rfl ?_ | refine⟨_,rfl,?_⟩
    refine⟨cA,C,rfl,R.hc,cl64,fun oA ss nO hp hso=>?_⟩
    have sO:Same H3 (upd H3 oA (.lst (ss.map V.str))):=fun b u e=>by rw [ah (af e nO)];exact e
    have nOH:H oA=none:=s1.free (R.sm.free nO)
    have hw3:=sO _ _ R.hw
    have hmem:∀ x,x∈ss↔x∈C:=fun x=>hp.mem_iff
    have snd:ss.Nodup:=hp.nodup_iff.mpr R.nd
    have hwe:∀ q:Rm,bt q C=0↔bt q ss=0:=fun q=>by
     rw [wantN_zero,wantN_zero]
     exact⟨fun h x hx=>(hmem x).mpr (h x hx),fun h x hx=>(hmem x).mp (h x hx)⟩
    dsimp only [gq,mP]
    refine bE _ _ _ _ _ _ _ _ _ ?_
    first | refine tvE rfl ?_ | refine⟨_,rfl,?_⟩
    refine⟨wA,rfl,⟨_,SqL.of hw3⟩,?_⟩
    intro D hD
    have ho3:(upd H3 oA (.lst (ss.map V.str))) oA=some (.lst (ss.map V.str)):=ag
    generalize upd H3 oA (.lst (ss.map V.str))=H4 at *
    refine wL (xs:=aC (rs.map fun q=>bt q C)) (fun i ys H'=>ys=aC ((List.range i).filter fun i=>decide (bt ((rs[i]?).getD ([],[])) ss=0))/\i<=1000/\H' D=some (.lst ys)/\Same H4 H') ⟨rfl,by decide,ag,fun b u e=>by rw [ah (af e hD)];exact e⟩ (fun i ys H' ⟨_,_,h,_⟩=>h) (fun i ys H' ⟨_,_,_,sm⟩=>SqL.of (sm _ _ hw3)) ?_ ?_
    ·rintro i ys H5 x T hx ⟨rfl,hi0,hD5,sm⟩ nT
     have hi:i < rs.length:=by
      have:=(aeJ.mp hx).1
      rw [aeD,aeD] at this;exact this
     have hil:i < (aC (rs.map fun q=>bt q C)).length:=(aeJ.mp hx).1
     have ex:x=.int ((bt rs[i] C:Nat):Int):=by
      rw [aeP,aeP,aeC hi] at hx
      exact (afG hx).symm
     subst ex
     have sT:Same H5 (upd H5 T (.tup [.int (i:Int),.int ((bt rs[i] C:Nat):Int)])):=fun b u e=>by rw [ah (af e nT)];exact e
     refine rF T (.int (i:Int)) (.int ((bt rs[i] C:Nat):Int)) rfl (SqT.of ag) rfl ?_
     have hlen:(aC ((List.range i).filter fun i=>decide (bt ((rs[i]?).getD ([],[])) ss=0))).length<=1000:=by
      rw [aeD]
      exact afk (agB _ _) (by rw [afs];(first | lia | omega))
     first | refine tvE rfl ?_ | refine⟨_,rfl,?_⟩
     refine⟨rfl,?_⟩
     by_cases h0:bt rs[i] C=0
     ·refine⟨true,aft V.bl (by rw [h0];rfl),gU ?_⟩
      first | refine tvE rfl ?_ | refine⟨_,rfl,?_⟩
      refine⟨sT _ _ hD5,aD hlen,nx hil ⟨?_,by (first | lia | omega),ag,fun b u e=>?_⟩⟩
      ·rw [ahZ,afV]
       unfold aC
       rw [aeO]
       congr 1
       rw [af6,if_pos (by rw [aeC hi,ah2];exact (hwe _).mp h0)]
       rfl
      ·rw [ah (af e hD)];exact sT _ _ (sm b u e)
     ·refine⟨false,aft V.bl ?_,gu ?_⟩
      ·rw [pW]
       have:((bt rs[i] C:Nat):Int)≠0:=by (first | lia | omega)
       simpa using this
      refine nx hil ⟨?_,by (first | lia | omega),sT _ _ hD5,fun b u e=>sT _ _ (sm b u e)⟩
      rw [ahZ,afV]
      unfold aC
      rw [aeO]
      have:(List.filter (fun i=>decide (bt ((rs[i]?).getD ([],[])) ss=0)) [i])=[]:=by
       rw [af6,if_neg (by rw [aeC hi,ah2];exact fun z=>h0 ((hwe _).mpr z))]
       rfl
      rw [this,aii,afw]
    ·rintro ys H5 ⟨rfl,_,hD5,sm⟩
     rw [aeD,aeD] at hD5
     refine⟨by show 2<=sizeLine;decide,fun t nt=>?_⟩
     have st:Same H5 (upd H5 t (.tup [.ref oA,.ref D])):=fun b u e=>by rw [ah (af e nt)];exact e
     exact k t oA D ss _ _ (s1.trans (R.sm.trans (sO.trans (sm.trans st)))) nOH (s1.free (R.sm.free (sO.free hD))) ag (st _ _ (sm _ _ ho3)) (st _ _ hD5) snd hso (fun x=>⟨fun h=>R.cC x ((hmem x).mp h),fun h=>(hmem x).mpr (R.all h)⟩) rfl
   ·refine⟨ad2 a r d wA cA fA P w ks rs H1,⟨_,_,_,[],ks,rfl,⟨?_,?_,?_,s2.trans (sC.trans sF),ahI,(fun x h=>nomatch h),fun x h=>.key h,fun x h=>.inr h,fun q hq h=>?_⟩,rfl,?_⟩,?_⟩
    ·exact sF _ _ (sC _ _ hw2)
    ·exact sF _ _ ag
    ·exact ag
    ·obtain⟨y,hy⟩:=ajb _ (h4 q hq).1
     exact absurd (h y hy) (fun z=>nomatch z)
    ·rw [aeG] at hM
     have:=yd (rs.map fun q=>bt q []) rs
     (first | lia | omega)
    rintro m σ H3 ⟨x6,x7,C,F,rfl,R,hm,hm1⟩
    rcases aj9 F with rfl | ⟨F0,z,rfl⟩
    ·first | refine tvE rfl ?_ | refine⟨_,rfl,?_⟩
     exact⟨false,.inl ⟨[],SqL.of R.hf,rfl⟩,gu ⟨_,_,C,rfl,R⟩⟩
    rw [aka] at R hm
    have hf:=R.hf
    first | refine tvE rfl ?_ | refine⟨_,rfl,?_⟩
    refine⟨true,.inl ⟨_,SqL.of hf,by simp⟩,gU ?_⟩
    have cz:Com ks rs z:=R.cF z (aeL _ (aeF.mpr rfl))
    rw [aeG,af0] at hm
    have s3:∀ o,Same H1 (upd H3 fA o):=fun o b u e=>by rw [ah (af e n1f)];exact R.sm b u e
    refine⟨adJ a r d wA cA fA P w ks rs H1 m,?_,?_⟩
    ·rintro σ' H' ⟨y6,y7,C',F',rfl,R',hm'⟩
     exact⟨m - 1,by (first | lia | omega),y6,y7,C',F',rfl,R',hm',by (first | lia | omega)⟩
    first | refine tvE rfl ?_ | refine⟨_,rfl,?_⟩
    refine⟨.inl ⟨rfl,_,SqL.of hf⟩,fA,_,.str z,rfl,rfl,hf,by simp,?_⟩
    have edl:(List.map V.str (F0++[z])).dropLast=F0.map V.str:=by rw [aeO];exact List.dropLast_concat
    rw [edl]
    have hw3:(upd H3 fA (.lst (F0.map V.str))) wA=some (.lst (aC (rs.map fun q=>bt q C))):=by rw [ah nwf];exact R.hw
    have hc3:(upd H3 fA (.lst (F0.map V.str))) cA=some (eA P w cA C):=by rw [ah ncf];exact R.hc
    have sm3:=s3 (.lst (F0.map V.str))
    have hf3:(upd H3 fA (.lst (F0.map V.str))) fA=some (.lst (F0.map V.str)):=ag
    refine⟨fun σ' H'=>σ'=[some (.ref a),some (.ref r),some (.ref d),some (.ref wA),some (.ref cA),some (.ref fA),some (.str z),x7]/\z ∉ C/\H'=upd H3 fA (.lst (F0.map V.str)),?_,?_⟩
    rotate_left
    ·by_cases hz:z∈C
     ·first | refine tvE rfl ?_ | refine⟨_,rfl,?_⟩
      first | refine tvE rfl ?_ | refine⟨_,rfl,?_⟩
      refine⟨cA,C,z,rfl,rfl,hc3,true,aft V.bl (by rw [if_neg aeM,afi hz]),gU ?_⟩
      refine⟨_,_,C,F0,rfl,⟨hw3,hc3,hf3,sm3,R.nd,R.cC,fun x h=>R.cF x (ae6 _ h),fun x h=>?_,fun q hq h x hx=>?_⟩,by (first | lia | omega)⟩
      ·rcases R.ke x h with h | h
       ·exact .inl h
       ·rcases aeI.mp h with h | h
        ·exact .inr h
        ·rw [aeF.mp h];exact .inl hz
      ·rcases R.cl q hq h x hx with h | h
       ·exact .inl h
       ·rcases aeI.mp h with h | h
        ·exact .inr h
        ·rw [aeF.mp h];exact .inl hz
     ·first | refine tvE rfl ?_ | refine⟨_,rfl,?_⟩
      first | refine tvE rfl ?_ | refine⟨_,rfl,?_⟩
      refine⟨cA,C,z,rfl,rfl,hc3,false,aft V.bl (by rw [if_neg aeM,afq hz]),gu ?_⟩
      exact⟨rfl,hz,rfl⟩
    rintro σ H4 ⟨rfl,hz,rfl⟩
    have cl64:C.length < 64:=aff (aF (U:=U) R.nd fun x hx=>hUm x (R.cC x hx).mem) hU
    first | refine tvE rfl ?_ | refine⟨_,rfl,?_⟩
    refine⟨⟨cA,C,rfl,hc3⟩,_,rfl,cA,C,z,rfl,rfl,hc3,aff (by (first | lia | omega):C.length+1<=64) (by decide),fun C' alt nd'=>?_⟩
    have hC':∀ x,x∈C'↔x∈C\/x=z:=fun x=>by
     rcases alt with ⟨h,_⟩ | ⟨_,h⟩
     ·exact absurd h hz
     ·rw [h.mem_iff,aeI,aeF]
    have s4:Same H1 (upd (upd H3 fA (.lst (F0.map V.str))) cA (eA P w cA C')):=fun b u e=>by rw [ah (af e n1c)];exact sm3 b u e
    have hw4:(upd (upd H3 fA (.lst (F0.map V.str))) cA (eA P w cA C')) wA=some (.lst (aC (rs.map fun q=>bt q C))):=by rw [ah nwc];exact hw3
    have hc4:(upd (upd H3 fA (.lst (F0.map V.str))) cA (eA P w cA C')) cA=some (eA P w cA C'):=ag
    have hf4:(upd (upd H3 fA (.lst (F0.map V.str))) cA (eA P w cA C')) fA=some (.lst (F0.map V.str)):=by rw [ah (agz ncf)];exact hf3
    refine⟨adJ a r d wA cA fA P w ks rs H1 m,fun σ' H' h=>h,?_⟩
    first | refine tvE rfl ?_ | refine⟨_,rfl,?_⟩
    refine⟨d,rfl,.inl ⟨_,.inl (s4 _ _ hd)⟩,_,rfl,ae2 _,fun l nl=>?_⟩
    have s5:Same (upd (upd H3 fA (.lst (F0.map V.str))) cA (eA P w cA C')) (upd (upd (upd H3 fA (.lst (F0.map V.str))) cA (eA P w cA C')) l (.lst [])):=fun b u e=>by rw [ah (af e (show (upd (upd H3 fA (.lst (F0.map V.str))) cA (eA P w cA C')) l=none from nl))];exact e
    have nl':(upd (upd H3 fA (.lst (F0.map V.str))) cA (eA P w cA C')) l=none:=nl
    have hgo:∃ b:Addr,(fq kvs (.inr z)).getD (.ref l)=.ref b/\(upd (upd (upd H3 fA (.lst (F0.map V.str))) cA (eA P w cA C')) l (.lst [])) b=some (.lst (aC (hV rs z rs.length)))/\b≠wA/\b≠fA:=by
     cases hv:fq kvs (Sum.inr z) with
     | none =>
      refine⟨l,rfl,?_,agz (af hw4 nl'),agz (af hf4 nl')⟩
      rw [ag,lm.non z hv];rfl
     | some v =>
      obtain⟨b,rfl,h1,h2⟩:=lm.som z v hv
      exact⟨b,rfl,s5 _ _ (s4 _ _ h2),af h2 nw,af h2 n1f⟩
    obtain⟨b,hb1,hb2,nbw,nbf⟩:=hgo
    refine⟨fq kvs (Sum.inr z),DGet.k (k:=Sum.inr z) (s5 _ _ (s4 _ _ hd)),b,hb1,⟨_,SqL.of hb2⟩,?_⟩
    have nn:=xi (rs:=rs) (x:=z) rs.length
    refine eR (xs:=aC (hV rs z rs.length)) (aee a r d wA cA fA z P w C' H1 b rs C m ks F0) ?_ (fun j σ H6 _ ⟨_,_,_,_,_,_,_,_,h,_,_,_,_,_,_⟩=>SqL.of h) ?_ ?_
    ·refine⟨_,_,F0,rfl,s5 _ _ hw4,s5 _ _ hc4,s5 _ _ hf4,s4.trans s5,hb2,by rw [aeD],fun i q e=>?_,by (first | lia | omega),fun x h=>R.cF x (ae6 _ h),fun x h=>h,(fun i h=>nomatch h)⟩
     rw [aeP,e,if_neg (fun z=>nomatch z)];rfl
    ·rintro j y σ H6 hy ⟨y7,ws,F,rfl,hw6,hc6,hf6,sm6,hb6,wl,wv,hsum,hFc,hF0,hFz⟩
     have hj:j < (hV rs z rs.length).length:=by
      have:=(aeJ.mp hy).1
      rw [aeD] at this;exact this
     rw [aeP,aeC hj] at hy
     obtain⟨i,hi⟩:∃ i,(hV rs z rs.length)[j]=i:=⟨_,rfl⟩
     rw [hi] at hy
     cases hy
     have him:=mem_nums.mp (show i∈hV rs z rs.length from hi▸afa hj)
     have hin:i < rs.length:=him.1
     obtain⟨q,hq⟩:∃ q,rs[i]? = some q:=⟨_,aeC hin⟩
     have hzq:z∈q.1:=by have:=him.2;rw [hq] at this;exact this
     have hqm:q∈rs:=afg hq
     have hnt:i ∉ (hV rs z rs.length).take j:=fun h=>by
      obtain⟨m',hm',e⟩:=afS.mp h
      rw [ag8] at e
      rw [ae9] at hm'
      exact agc.mp nn m' j (by (first | lia | omega)) hj (by (first | lia | omega)) (e.trans hi.symm)
     have hwa:=qh hz hC' q
     rw [if_pos hzq] at hwa
     have hwi:ws[i]? = some (bt q C'+1):=by rw [wv i q hq,if_neg hnt,← hwa];rfl
     have hil:i < ws.length:=by rw [wl];exact hin
     first | refine tvE rfl ?_ | refine⟨_,rfl,?_⟩
     first | refine tvE rfl ?_ | refine⟨_,rfl,?_⟩
     refine⟨wA,_,i,.int ((bt q C'+1:Nat):Int),rfl,rfl,SqL.of hw6,by rw [aeP,hwi];rfl,_,_,rfl,rfl,wA,_,(i:Int),i,rfl,rfl,hw6,?_,?_⟩
     ·unfold ixN
      rw [if_pos (by (first | lia | omega)),if_pos (by rw [aeD];(first | lia | omega))];rfl
     have ews:(aC ws).set i (.int (((bt q C'+1:Nat):Int) - 1))=aC (ws.set i (bt q C')):=by
      rw [show (((bt q C'+1:Nat):Int) - 1)=((bt q C':Nat):Int) by (first | lia | omega)]
      exact List.map_set.symm
     rw [ews]
     have hp:=uB ws rs i (bt q C') q hwi hq
     have hw7:(upd H6 wA (.lst (aC (ws.set i (bt q C'))))) wA=some (.lst (aC (ws.set i (bt q C')))):=ag
     have hf7:(upd H6 wA (.lst (aC (ws.set i (bt q C'))))) fA=some (.lst (F.map V.str)):=by rw [ah (agz nwf)];exact hf6
     have hc7:(upd H6 wA (.lst (aC (ws.set i (bt q C'))))) cA=some (eA P w cA C'):=by rw [ah (agz nwc)];exact hc6
     have hb7:(upd H6 wA (.lst (aC (ws.set i (bt q C'))))) b=some (.lst (aC (hV rs z rs.length))):=by rw [ah nbw];exact hb6
     have sm7:Same H1 (upd H6 wA (.lst (aC (ws.set i (bt q C'))))):=fun c u e=>by rw [ah (af e nw)];exact sm6 c u e
     generalize upd H6 wA (.lst (aC (ws.set i (bt q C'))))=H7 at hw7 hf7 hc7 hb7 sm7 ⊢
     have etk:∀ i',i'∈(hV rs z rs.length).take (j+1)↔i'∈(hV rs z rs.length).take j\/i'=i:=fun i'=>by
      rw [afc,aeC hj,hi,aeI]
      exact or_congr Iff.rfl aeF
     have wv7:∀ i' q',rs[i']? = some q'->(ws.set i (bt q C'))[i']? = some (bt q' C - if i'∈(hV rs z rs.length).take (j+1) then 1 else 0):=fun i' q' e=>by
      by_cases h:i'=i
      ·subst h
       rw [hq] at e;cases e
       rw [agP hil,if_pos ((etk _).mpr (.inr rfl)),← hwa];rfl
      ·rw [aiu (agz h),wv i' q' e]
       by_cases h2:i'∈(hV rs z rs.length).take j
       ·rw [if_pos h2,if_pos ((etk _).mpr (.inl h2))]
       ·rw [if_neg h2,if_neg (fun z=>((etk _).mp z).elim h2 h)]
     have wl7:(ws.set i (bt q C')).length=rs.length:=by rw [List.length_set];exact wl
     refine⟨_,fun σ' H' h=>h,?_⟩
     have hat:atI (aC (ws.set i (bt q C'))) (i:Int)=some (.int ((bt q C':Nat):Int)):=cf (by rw [aeP,agP hil];rfl)
     first | refine tvE rfl ?_ | refine⟨_,rfl,?_⟩
     first | refine tvE rfl ?_ | refine⟨_,rfl,?_⟩
     refine⟨wA,_,(i:Int),_,rfl,rfl,SqL.of hw7,hat,rfl,?_⟩
     by_cases h0:bt q C'=0
     ·refine⟨true,aft V.bl (by rw [h0];rfl),gU ?_⟩
      rw [if_pos h0] at hp
      obtain⟨v,hv⟩:∃ v,us[i]? = some v:=⟨_,aeC (by rw [hR.1];exact hin)⟩
      obtain⟨tt,aa,bb,rfl,q1,q2,q3⟩:=hRm.2 i v q hv hq
      have q3':=sm7 _ _ q3
      have nbb:bb≠fA:=af q3 n1f
      first | refine tvE rfl ?_ | refine⟨_,rfl,?_⟩
      refine⟨.inl ⟨rfl,_,SqL.of hf7⟩,_,rfl,_,rfl,r,_,(i:Int),_,rfl,rfl,SqL.of (sm7 _ _ (s1 _ _ hr0)),cf hv,tt,_,1,.ref bb,rfl,rfl,SqT.of (sm7 _ _ q1),rfl,fA,bb,_,_,rfl,rfl,hf7,q3',?_,?_⟩
      ·rw [aeD,aeD]
       exact afb (aD (by (first | lia | omega)))
      refine⟨_,_,F++q.2,rfl,?_,?_,?_,fun c u e=>?_,?_,wl7,wv7,?_,fun x hx=>?_,fun x hx=>ae6 _ (hF0 x hx),fun i' hi' q' e hw' x hx=>?_⟩
      ·rw [ah nwf];exact hw7
      ·rw [ah ncf];exact hc7
      ·rw [ag,aeO]
      ·rw [ah (af e n1f)];exact sm7 c u e
      ·rw [ah nbf];exact hb7
      ·rw [aeG];(first | lia | omega)
      ·rcases aeI.mp hx with hx | hx
       ·exact hFc x hx
       ·refine .room hqm (fun y hy=>?_) hx
        have:=wantN_zero.mp h0 y hy
        rcases (hC' y).mp this with h | h
        ·exact R.cC y h
        ·rw [h];exact cz
      ·rcases (etk i').mp hi' with h | h
       ·exact ae6 _ (hFz i' h q' e hw' x hx)
       ·subst h
        rw [hq] at e;cases e
        exact aeL _ hx
     ·refine⟨false,aft V.bl ?_,gu ?_⟩
      ·rw [pW]
       have:((bt q C':Nat):Int)≠0:=by (first | lia | omega)
       simpa using this
      rw [if_neg h0] at hp
      refine⟨_,_,F,rfl,hw7,hc7,hf7,sm7,hb7,wl7,wv7,by (first | lia | omega),hFc,hF0,fun i' hi' q' e hw' x hx=>?_⟩
      rcases (etk i').mp hi' with h | h
      ·exact hFz i' h q' e hw' x hx
      ·subst h
       rw [hq] at e;cases e
       exact absurd hw' h0
    ·rintro σ H6 ⟨y7,ws,F,rfl,hw6,hc6,hf6,sm6,hb6,wl,wv,hsum,hFc,hF0,hFz⟩
     rw [aeD,afm] at wv hFz
     have ews:ws=rs.map fun q=>bt q C':=by
      refine agM fun i=>?_
      by_cases hi:i < rs.length
      ·rw [wv i _ (aeC hi),aeP,aeC hi]
       have hwa:=qh hz hC' rs[i]
       show some _=some _
       congr 1
       by_cases h:z∈(rs[i]).1
       ·rw [if_pos h] at hwa
        rw [if_pos (mem_nums.mpr ⟨hi,by rw [aeC hi];exact h⟩)]
        show bt rs[i] C - 1=bt rs[i] C'
        (first | lia | omega)
       ·rw [if_neg h] at hwa
        rw [if_neg (fun q=>h (by have:=(mem_nums.mp q).2;rw [aeC hi] at this;exact this))]
        show bt rs[i] C - 0=bt rs[i] C'
        (first | lia | omega)
      ·rw [agh (by (first | lia | omega)),agh (by rw [aeD];(first | lia | omega))]
     subst ews
     refine⟨_,_,C',F,rfl,⟨hw6,hc6,hf6,sm6,nd',fun x hx=>?_,hFc,fun x hx=>?_,fun q hq h x hx=>?_⟩,hsum⟩
     ·rcases (hC' x).mp hx with h | h
      ·exact R.cC x h
      ·rw [h];exact cz
     ·rcases R.ke x hx with h | h
      ·exact .inl ((hC' x).mpr (.inl h))
      ·rcases aeI.mp h with h | h
       ·exact .inr (hF0 x h)
       ·exact .inl ((hC' x).mpr (.inr (aeF.mp h)))
     ·by_cases hzq:z∈q.1
      ·obtain⟨i,hi,e⟩:=afS.mp hq
       have e':rs[i]? = some q:=by rw [aeC hi,e]
       exact .inr (hFz i (mem_nums.mpr ⟨hi,by rw [e'];exact hzq⟩) q e' (wantN_zero.mpr h) x hx)
      ·have h':∀ y∈q.1,y∈C:=fun y hy=>((hC' y).mp (h y hy)).resolve_right fun e=>hzq (e▸hy)
       rcases R.cl q hq h' x hx with h | h
       ·exact .inl ((hC' x).mpr (.inl h))
       ·rcases aeI.mp h with h | h
        ·exact .inr (hF0 x h)
        ·exact .inl ((hC' x).mpr (.inr (aeF.mp h)))
  ·refine bE _ _ _ _ _ _ _ _ _ ?_
   first | refine tvE rfl ?_ | refine⟨_,rfl,?_⟩
   refine⟨r,rfl,⟨_,SqL.of (s1 _ _ hr0)⟩,?_⟩
   intro D hD
   refine cZ (xs:=us) (fun i ys H'=>ys=aC ((rs.take i).map fun q=>bt q [])/\i<=1000/\H' D=some (.lst ys)/\Same H1 H') ⟨rfl,by decide,ag,fun b u e=>by rw [ah (af e hD)];exact e⟩ (fun i ys H' ⟨_,_,h,_⟩=>h) (fun i ys H' ⟨_,_,_,sm⟩=>SqL.of (sm _ _ (s1 _ _ hr0))) ?_ ?_
   ·rintro i ys H2 x hx ⟨rfl,hi0,hD2,sm⟩
    have hi:i < us.length:=(aeJ.mp hx).1
    have hi':i < rs.length:=by rw [← hR.1];exact hi
    obtain⟨tt,aa,bb,rfl,g1,g2,g3⟩:=(hRm.2 i x _ hx (aeC hi')).same sm
    have hl4:=(h4 _ (afa hi')).2
    refine uj tt (.ref aa) (.ref bb) rfl (SqT.of g1) rfl ?_
    first | refine tvE rfl ?_ | refine⟨_,rfl,?_⟩
    refine⟨aa,(rs[i]).1,rfl,SqL.of g2,aff (agU hl4) (by decide),fun sA ts nS hts=>?_⟩
    have e1:ts.length=bt rs[i] []:=by
     rw [wK]
     refine Nat.le_antisymm (aF hts.1 fun x hx=>mem_dd.mpr ((hts.2 x).mp hx)) (aF (aab _) fun x hx=>(hts.2 x).mpr (mem_dd.mp hx))
    refine⟨sA,ts,rfl,ag,?_,?_,nx hi ⟨?_,by (first | lia | omega),ag,fun b u e=>?_⟩⟩
    ·rw [ah (af hD2 nS)];exact hD2
    ·rw [aeD,aeD,ae9];exact aD (by (first | lia | omega))
    ·rw [e1,afc,aeC hi'];unfold aC;rw [aeO,aeO];rfl
    ·rw [ah (af e hD),ah (af (sm b u e) nS)];exact sm b u e
   ·rintro ys H2 ⟨rfl,_,hD2,sm⟩
    rw [hR.1,afm] at hD2
    exact⟨D,rfl,hD,hD2,sm⟩
def tV:Sp:=fun vs H Q _=>∃ n:Int,vs=[.int n]/\∀ H',Same H H'->Q (.bl true) H'
def kS:Sp:=fun vs H Q _=>∃ (a b:Addr) (hand locks:List Str),vs=[.ref a,.ref b]/\H a=some (.lst (hand.map V.str))/\H b=some (.lst (locks.map V.str))/\locks.length<=1000/\∀ H',Same H H'->Q (.bl (kR hand locks)) H'
def jq:Sp:=fun vs H Q _=>∃ (a:Addr) (v:V) (hand:List Str) (r:Rm),vs=[.ref a,v]/\H a=some (.lst (hand.map V.str))/\RoomAt H v r/\kR hand r.1=true/\hand.length+r.2.length<=sizeLine ∧
 ∀ (l:Addr) (H':Hp),Same H H'->H l=none->H' l=some (.lst ((hW hand r).map V.str))->Q (.ref l) H'
theorem mD:aO ["thing"] ["thing"] (aq dO):=⟨rfl,rfl,rfl,by decide +kernel,rfl,by decide +kernel,by decide +kernel⟩
theorem zI {f:Addr}{fd:FuncData}(F:Fun K "is_whole" "is_whole" dO f fd)(oG:mg "bool" = none)(kK:mg "int" = none)(aQ:mg "isinstance" = none):aV P w K mg base CX0 1 f fd ["thing"] tV:=by
 refine F.ok mD (fun vs H Q E h=>?_) (fun cdv A outer s H vs Q E hr h=>?_)
 ·obtain⟨n,rfl,_⟩:=h
  rfl
 ·obtain⟨n,rfl,k⟩:=h
  refine⟨_,(au (aN (gR (aw bU rfl aQ (by decide +kernel) (ae (pv 0) (ae (fV (v:=.ty "int") (u:=.type "int") rfl kK (by decide +kernel) rfl) ai))) (jE (aay (aw bU rfl aQ (by decide +kernel) (ae (pv 0) (ae (fV (v:=.ty "bool") (u:=.type "bool") rfl oG (by decide +kernel) rfl) ai)))))))),?_⟩
  refine⟨_,rfl,_,_,_,true,rfl,.int n,eU K _,true,rfl,gU ?_⟩
  exact⟨_,rfl,_,_,_,false,rfl,.int n,km K,false,rfl,k _ (Same.refl H)⟩
theorem yK:aO ["hand","locks"] ["hand","locks"] (aq fU):=⟨rfl,rfl,rfl,by decide +kernel,rfl,by decide +kernel,by decide +kernel⟩
theorem tu:(["kind","hand","locks"]:List Str).Nodup:=by decide +kernel
theorem yE {f:Addr}{fd:FuncData}(F:Fun K "serves" "serves" fU f fd)(qY:mg "all" = none):aV P w K mg base CX0 1 f fd ["hand","locks"] kS:=by
 refine F.ok yK (fun vs H Q E h=>?_) (fun cdv A outer s H vs Q E hr h=>?_)
 ·obtain⟨a,b,hand,locks,rfl,_⟩:=h
  rfl
 ·obtain⟨a,b,hand,locks,rfl,ha,hb,hl,k⟩:=h
  refine⟨_,(au (aN (aw (jo rfl) rfl qY (by decide +kernel) (ae (lx (tg:=.Name "kind" _) (outer:=aq (fU)) (N:=["hand","locks"]) (N':=["kind","hand","locks"]) (nl:=1) (ix:=[0,1]) rfl rfl rfl (bT (pv 1))
   (fun _ _ _ _=>(ay (i:=0) tu rfl (Or.inl rfl) (.inr rfl))) (fun _ _ _ _=>dv)
   (fun _ _ _ _=>(cV ack (lV (K:=K) rfl aeS agr ags iA (pv 1) (ae (pv 0) ai)) (lV (K:=K) rfl aeS agr ags iA (pv 2) (ae (pv 0) ai)) (bj _)))) ai)))),?_⟩
  dsimp only [wy,tCB,gq,mP]
  refine bE _ _ _ _ _ _ _ _ _ ?_
  refine⟨_,rfl,b,rfl,⟨_,SqL.of hb⟩,?_⟩
  intro D hD
  refine cZ (xs:=locks.map V.str) (fun i ys H'=>ys=((locks.take i).map fun x=>V.bl (decide (locks.count x<=hand.count x)))/\i<=1000/\H' D=some (.lst ys)/\Same H H') ⟨rfl,by decide,ag,fun b u e=>by rw [ah (af e hD)];exact e⟩ (fun i ys H' ⟨_,_,h,_⟩=>h) (fun i ys H' ⟨_,_,_,s⟩=>SqL.of (s _ _ hb)) ?_ ?_
  ·rintro i ys H2 x hx ⟨rfl,hi0,hD2,s2⟩
   have hi:=(aeJ.mp hx).1
   have hi':=hi
   rw [aeD] at hi'
   rw [aeP,aeC hi'] at hx
   cases hx
   refine dI rfl ?_
   refine⟨_,rfl,.inl ⟨rfl,_,SqL.of (s2 _ _ ha)⟩,_,rfl,a,hand,locks[i],rfl,rfl,s2 _ _ ha,?_⟩
   refine⟨_,rfl,.inl ⟨rfl,_,SqL.of (s2 _ _ hb)⟩,_,rfl,b,locks,locks[i],rfl,rfl,s2 _ _ hb,?_⟩
   refine⟨_,_,rfl,rfl,hD2,by rw [aeD,ae9];exact aD (by omega),nx hi ⟨?_,(by omega:i+1<=1000),ag,fun b u e=>?_⟩⟩
   ·rw [afc,aeC hi',aeO]
    have e1:decide (((locks.count locks[i]:Nat):Int)<=((hand.count locks[i]:Nat):Int))=decide (locks.count locks[i]<=hand.count locks[i]):=ajL.mpr Int.ofNat_le
    exact aft (fun z=>_++[V.bl z]) e1
   ·rw [ah (af e hD)];exact s2 b u e
  ·rintro ys H2 ⟨rfl,_,hD2,s2⟩
   rw [aeD,afm] at hD2
   refine⟨D,locks.map (fun x=>decide (locks.count x<=hand.count x)),rfl,SqL.of (by rw [hD2,afZ];rfl),?_⟩
   have e:(locks.map (fun x=>decide (locks.count x<=hand.count x))).all id=kR hand locks:=by rw [aj0];rfl
   rw [e]
   exact k H2 s2
theorem dA:aO ["hand","room","locks","within","rest","kind"] ["hand","room"] (aq cQ):=⟨rfl,rfl,rfl,by decide +kernel,rfl,by decide +kernel,by decide +kernel⟩
theorem xc {f:Addr}{fd:FuncData}(F:Fun K "hand_behind" "hand_behind" cQ f fd)(bV:mg "list" = none):aV P w K mg base CX0 1 f fd ["hand","room"] jq:=by
 refine F.ok dA (fun vs H Q E h=>?_) (fun cdv A outer s H vs Q E hr h=>?_)
 ·obtain⟨a,v,hand,r,rfl,_⟩:=h
  rfl
 ·obtain⟨a,v,hand,r,rfl,ha,⟨t,b,c,rfl,ht,hb,hc⟩,hm,hl,k⟩:=h
  refine⟨_,(ak (hJ (pv 1) (eG rfl (aG (ay (i:=2) dA.nd rfl (Or.inl rfl)) (aG (ay (i:=3) dA.nd rfl (Or.inl rfl)) bY))))
   (ak (aI (i:=4) dA.nd rfl (Or.inl rfl) (bF b9 rfl bV (by decide +kernel) (ae (pv 0) ai)))
   (ak (bB (dU afl rfl (bT (pv 2)) (ay (i:=5) dA.nd rfl (Or.inl rfl))
    (au (bC (fw aeS ahN ahO lI (pv 4) (ae (pv 5) ai))))))
   (au (aN (bq n4 (pv 4) (pv 3))))))),?_⟩
  refine⟨_,rfl,t,_,rfl,SqT.of ht,rfl,_,_,rfl,_,_,rfl,rfl,?_⟩
  refine⟨_,rfl,a,_,rfl,.inl (SqL.of ha),fun l nl=>?_⟩
  have s1:∀ o,Same H (upd H l o):=fun o b u e=>by rw [ah (af e nl)];exact e
  refine⟨fun σ' H'=>∃ x5,σ'=[some (.ref a),some (.ref t),some (.ref b),some (.ref c),some (.ref l),x5]/\H' l=some (.lst ((r.1.foldl List.erase hand).map V.str))/\Same H H',?_,?_⟩
  ·rintro σ H2 ⟨x5,rfl,hl2,s2⟩
   refine⟨_,rfl,_,rfl,l,c,_,_,rfl,rfl,hl2,s2 _ _ hc,?_,fun p np=>?_⟩
   ·rw [aeD,aeD]
    exact afk (ahF (jQ _ _) _) hl
   ·refine k p _ (fun b u e=>?_) (s2.free np) (by rw [ag];unfold hW;rw [aeO])
    have:=s2 b u e
    rw [ah (af this np)];exact this
  ·refine⟨_,rfl,b,rfl,⟨_,SqL.of (s1 _ _ _ hb)⟩,?_⟩
   refine eR (xs:=r.1.map V.str) (fun i σ' H'=>∃ x5,σ'=[some (.ref a),some (.ref t),some (.ref b),some (.ref c),some (.ref l),x5]/\H' l=some (.lst (((r.1.take i).foldl List.erase hand).map V.str))/\Same H H') ⟨_,rfl,ag,s1 _⟩ (fun i σ H' _ ⟨_,_,_,s⟩=>SqL.of (s _ _ hb)) ?_ ?_
   ·rintro i x σ H2 hx ⟨x5,rfl,hl2,s2⟩
    have hi:=(aeJ.mp hx).1
    rw [aeD] at hi
    rw [aeP,aeC hi] at hx
    cases hx
    refine⟨_,rfl,.inl ⟨rfl,_,SqL.of hl2⟩,_,rfl,l,_,r.1[i],rfl,rfl,hl2,acM hm hi,?_⟩
    refine⟨_,rfl,?_,fun b u e=>?_⟩
    ·rw [ag,afc,aeC hi,aic]
     rfl
    ·rw [ah (af e nl)];exact s2 b u e
   ·rintro σ H2 ⟨x5,rfl,hl2,s2⟩
    rw [aeD,afm] at hl2
    exact⟨x5,rfl,hl2,s2⟩
def bW (rs:List Rm)(n:Nat):Rm:=(rs[n]?).getD ([],[])
theorem eW {rs:List Rm}{n:Nat}(h:n < rs.length):rs[n]? = some (bW rs n):=by
 unfold bW
 rw [aeC h]
 rfl
theorem cB {rs:List Rm}{n:Nat}(h:n < rs.length):bW rs n∈rs:=afg (eW h)
def gP (rs:List Rm)(hand:List Str)(n:Nat):List Str:=hand.erase (aA (bW rs n))++(bW rs n).2
def kP (rs:List Rm)(hand:List Str)(left:List Nat)(n:Nat):Prop:=aA (bW rs n)∈hand/\∀ m∈left.filter (fun m=>decide (m≠n)),Com (gP rs hand n) ((left.filter fun m=>decide (m≠n)).map (bW rs)) (aA (bW rs m))
inductive Greedy (rs:List Rm):List Str->List Nat->List Nat->Prop
 | nil {hand:List Str}:Greedy rs hand [] []
 | cons {hand:List Str} {A B o:List Nat} {n:Nat}:(∀ m∈A,¬ kP rs hand (A++n::B) m)->kP rs hand (A++n::B) n->Greedy rs (gP rs hand n) (A++B) o->Greedy rs hand (A++n::B) (n::o)
theorem gw {A B:List Nat}{n:Nat}(nd:(A++n::B).Nodup):(A++n::B).filter (fun m=>decide (m≠n))=A++B:=by
 rw [afX] at nd
 obtain⟨_,h2,h3⟩:=nd
 rw [afx] at h2
 have f1:A.filter (fun m=>decide (m≠n))=A:=agw.mpr fun m hm=>afi (h3 m hm n aeQ)
 have f2:B.filter (fun m=>decide (m≠n))=B:=agw.mpr fun m hm=>afi fun z=>h2.1 (z▸hm)
 rw [afV,af6,f1,f2]
 simp
theorem Greedy.perm {rs:List Rm}{hand:List Str}{left o:List Nat}(g:Greedy rs hand left o):o.Perm left:=by
 induction g with
 | nil=>exact .refl _
 | cons _ _ _ ih=>exact .trans (.cons _ ih) ahK.symm
theorem aaL {rs:List Rm}{hand:List Str}{left:List Nat}(pl:Plain (left.map (bW rs)))(nd:left.Nodup)(f:kM hand (left.map (bW rs)))(ne:left≠[]):∃ n∈left,kP rs hand left n:=by
 obtain⟨A,r,B,e,s1,s2⟩:=tJ pl f (fun z=>ne (List.map_eq_nil_iff.mp z))
 obtain⟨A',C,rfl,rfl,e2⟩:=List.map_eq_append_iff.mp e
 obtain⟨n,B',rfl,rfl,rfl⟩:=List.map_eq_cons_iff.mp e2
 refine⟨n,aeL _ aeQ,s1,fun m hm=>?_⟩
 rw [gw nd] at hm ⊢
 have:=s2 (bW rs m) (by rw [← aeO];exact ae3.mpr ⟨m,hm,rfl⟩)
 rw [← aeO] at this
 exact this
theorem xK {rs:List Rm}{hand:List Str}{A B:List Nat}{n:Nat}(nd:(A++n::B).Nodup)(f:kM hand ((A++n::B).map (bW rs)))(s:kP rs hand (A++n::B) n):kM (gP rs hand n) ((A++B).map (bW rs)):=by
 obtain⟨s1,s2⟩:=s
 rw [gw nd] at s2
 rw [aeO,aeZ] at f
 have:=xD f (r:=bW rs n) ⟨s1,fun q hq=>by
  rw [← aeO] at hq ⊢
  obtain⟨m,hm,rfl⟩:=ae3.mp hq
  exact s2 m hm⟩
 rw [aeO]
 exact this
theorem vq (rs:List Rm)(C:List Str):(uk rs C).length=rs.length↔∀ r∈rs,∀ y∈r.1,y∈C:=by
 have w0:∀ r:Rm,bt r C=0↔∀ y∈r.1,y∈C:=fun r=>by
  unfold bt sr
  rw [af8,ajV]
  constructor
  ·intro h y hy
   have:=h y (mem_dd.mpr hy)
   simpa using this
  ·intro h y hy
   have:=h y (mem_dd.mp hy)
   simpa using this
 have e:(uk rs C).length=rs.length↔∀ i∈List.range rs.length,decide (bt ((rs[i]?).getD ([],[])) C=0)=true:=by
  unfold uk
  have l:=afs (n:=rs.length)
  constructor
  ·intro h
   have:((List.range rs.length).filter fun i=>decide (bt ((rs[i]?).getD ([],[])) C=0)).length=(List.range rs.length).length:=by rw [h,l]
   exact List.length_filter_eq_length_iff.mp this
  ·intro h
   rw [agw.mpr h,l]
 rw [e]
 constructor
 ·intro h r hr
  obtain⟨i,hi,rfl⟩:=afS.mp hr
  have:=agi (h i (afT.mpr hi))
  rw [aeC hi] at this
  exact (w0 _).mp this
 ·intro h i hi
  have hi':=afT.mp hi
  rw [aeC hi']
  exact afi ((w0 _).mpr (h _ (afa hi')))
theorem ja (hand:List Str)(k:Str):kR hand [k]=true↔k∈hand:=by
 unfold kR
 simp only [ahR,List.all_nil,Bool.and_true,agL,List.count_singleton_self]
 exact afF
structure yU (rs:List Rm)(U:List Str):Prop where
 pl:Plain rs
 kk:∀ r∈rs,∀ k∈r.2,k∈U
 ul:U.length < 64
 rl:rs.length<=63
 fl:(rs.flatMap (·.2)).length<=1000
structure LeftD (rs:List Rm)(left:List Nat):Prop where
 nd:left.Nodup
 lt:∀ m∈left,m < rs.length
theorem LeftD.len {rs:List Rm}{left:List Nat}(h:LeftD rs left):left.length<=rs.length:=by
 have:=aF (U:=List.range rs.length) h.nd fun x hx=>afT.mpr (h.lt x hx)
 rwa [afs] at this
def wN:Sp:=fun vs H Q _=>∃ (a r l:Addr) (n:Nat) (us:List V) (rs:List Rm) (hand U:List Str) (left:List Nat),vs=[.ref a,.ref r,.ref l,.int n]/\H a=some (.lst (hand.map V.str))/\H r=some (.lst us)/\RoomsAt H us rs/\H l=some (.lst (aC left))/\yU rs U/\LeftD rs left/\n∈left/\(∀ k∈hand,k∈U)/\hand.length+((left.map (bW rs)).flatMap (·.2)).length<=1000 ∧
 ∀ (c:Bool) (H':Hp),Same H H'->(c=true↔kP rs hand left n)->Q (.bl c) H'
theorem z7 {rs:List Rm}{left:List Nat}{n:Nat}(hn:n∈left):((left.filter fun m=>decide (m≠n)).map (bW rs)).flatMap (·.2) |>.length |> (· + (bW rs n).2.length<=((left.map (bW rs)).flatMap (·.2)).length):=by
 induction left with
 | nil=>cases hn
 | cons a t ih =>
  show (((a::t).filter fun m=>decide (m≠n)).map (bW rs)).flatMap (·.2) |>.length |> (· + (bW rs n).2.length<=(((a::t).map (bW rs)).flatMap (·.2)).length)
  have sub:∀ l:List Nat,(((l.filter fun m=>decide (m≠n)).map (bW rs)).flatMap (·.2)).length<=((l.map (bW rs)).flatMap (·.2)).length:=fun l=>by
   induction l with
   | nil=>exact aeN _
   | cons b l ih =>
    rw [af6]
    split
    ·simp only [aeZ,afO,aeG];omega
    ·simp only [aeZ,afO,aeG];omega
  by_cases e:a=n
  ·subst e
   have:=sub t
   simp only [af6,aeZ,afO,aeG,ne_eq,not_true_eq_false,decide_false,afj,agl] at this ⊢
   omega
  ·have:=ih ((aeX.mp hn).resolve_left fun z=>e z.symm)
   simp only [af6,aeZ,afO,aeG,ne_eq,e,not_false_eq_true,decide_true,ahl] at this ⊢
   omega
theorem vi {K:PySem.W.Frag}{nl:Nat}{ix:List Nat}{tf:TT}{te:TE}{σ:L2.St}{H1:Hp}{D a:Addr}{Q:VK}{xs:List V}{pb:V->Bool}{F:V->V}(ha:H1 a=some (.lst xs))(nD:H1 D=none)(hl:xs.length<=1000000)
 (hc:∀ x,((dz nl ix σ).set 0 (some x)).drop nl=ix.map fun j=>(σ[j]?).join)
 (ht:∀ (H:Hp) (x:V) (R:Bool->Hp->Prop),x∈xs->Same H1 H->R (pb x) H->tf ((dz nl ix σ).set 0 (some x)) H R)
 (he:∀ (H:Hp) (x:V) (R:VK),x∈xs->Same H1 H->R (F x) H->te ((dz nl ix σ).set 0 (some x)) H R)
 (hd:∀ H,Same H1 H->H D=some (.lst ((xs.filter pb).map F))->Q (.ref D) H):jg nl ix (bJ 0) tf te σ (Itl K a) H1 D Q:=by
 have lim:1000000 < sizeLine:=by decide
 refine cZ (xs:=xs) (fun i ys H=>ys=((xs.take i).filter pb).map F/\H D=some (.lst ys)/\Same H1 H) ⟨rfl,ag,ar nD⟩ (fun i ys H ⟨_,h,_⟩=>h) (fun i ys H ⟨_,_,s⟩=>SqL.of (s a _ ha)) ?_ ?_
 ·rintro i ys H x hx ⟨rfl,hD,s⟩
  have hi:i < xs.length:=(aeJ.mp hx).1
  have lf:(((xs.take i).filter pb).map F).length<=i:=by
   rw [aeD]
   exact afk (agB _ _) (by rw [ae9];omega)
  unfold bL bJ
  refine⟨⟨by simp,hc x⟩,ht H x _ (afg hx) s ?_⟩
  cases e:pb x with
  | true =>
   rw [if_pos rfl]
   refine he H x _ (afg hx) s ⟨hD,by omega,nx hi ⟨?_,ag,fun b u e=>?_⟩⟩
   ·rw [afc,hx,afV,aeO]
    simp [e]
   ·rw [ah (af e nD)]
    exact s b u e
  | false =>
   rw [if_neg aeM]
   refine nx hi ⟨?_,hD,s⟩
   rw [afc,hx,afV]
   simp [e]
 ·rintro ys H ⟨rfl,hD,s⟩
  rw [afm] at hD
  exact hd H s hD
def adl (us:List V):V->V
 | .int i=>(us[i.toNat]?).getD .non
 | v=>v
theorem gD:aO ["hand","rooms","left","number","behind","rest","kinds","numbers"] ["hand","rooms","left","number"] (aq eI):=⟨rfl,rfl,rfl,by decide +kernel,rfl,by decide +kernel,by decide +kernel⟩
theorem qk:(["other","rooms","number"]:List Str).Nodup:=by decide +kernel
theorem abh {f fS fB fR:Addr}{fd fdS fdB fdR:FuncData}(F:Fun K "is_safe" "is_safe" eI f fd)(pB:aV P w K mg base CX0 1 fS fdS ["hand","locks"] kS)(eV:Cal K mg "serves" ["hand","locks"] fS fdS)(eD:aV P w K mg base CX0 1 fB fdB ["hand","room"] jq)(aR:Cal K mg "hand_behind" ["hand","room"] fB fdB)
 (lW:aV P w K mg base CX0 2 fR fdR ["keys","rooms"] jC)(dF:Cal K mg "reached" ["keys","rooms"] fR fdR)(aY:mg "len" = none):aV P w K mg base CX0 3 f fd ["hand","rooms","left","number"] wN:=by
 refine F.ok gD (fun vs H Q E h=>?_) (fun cdv A outer s H vs Q E hr h=>?_)
 ·obtain⟨a,r,l,n,us,rs,hand,U,left,rfl,_⟩:=h
  rfl
 ·obtain⟨a,r,l,n,us,rs,hand,U,left,rfl,ha,hrr,hR,hl,hD,hL,hn,hU,hlen,q⟩:=h
  have hu:=m7 hr
  refine⟨_,(ak (cU (eF (d6 (ax pB (hr.mono (show 1<=2 by decide)) rfl eV.mg eV.kp eV.b .nil aP (ae (pv 0) (ae (aT bu (aT bD (pv 1) (pv 3) (fun _ _=>rfl)) av (fun _ _=>rfl)) ai)))))
   (au (aN iJ)) aU)
   (ak (aI (i:=4) gD.nd rfl (Or.inl rfl) (ax eD (hr.mono (show 1<=2 by decide)) rfl aR.mg aR.kp aR.b .nil aP (ae (pv 0) (ae (aT bD (pv 1) (pv 3) (fun _ _=>rfl)) ai))))
   (ak (iX (i:=5) (tg:=.Name "other" _) (outer:=aq (eI)) (N:=["hand","rooms","left","number","behind","rest","kinds","numbers"]) (N':=["other","rooms","number"]) (nl:=1) (ix:=[1,3]) gD.nd rfl (Or.inl rfl) rfl rfl rfl (bT (pv 2))
    (fun _ _ _ _=>(ay (i:=0) qk rfl (Or.inl rfl) (.inr rfl))) (fun _ _ _ _=>(jd (aX zf (pv 0) (pv 2) (bj _))))
    (fun _ _ _ _=>(aT (gI (K:=K) rfl) (pv 1) (pv 0) (fun _ _=>rfl))))
   (ak (hJ (ax lW hr rfl dF.mg dF.kp dF.b .nil aP (ae (pv 4) (ae (pv 5) ai))) (eG rfl (aG (ay (i:=6) gD.nd rfl (Or.inl rfl)) (aG (ay (i:=7) gD.nd rfl (Or.inl rfl)) bY))))
   (au (aN (cV gB (aw az rfl aY ae8 (ae (pv 7) ai)) (aw az rfl aY ae8 (ae (pv 5) ai)) (bj _)))))))),?_⟩
  have hnl:=hL.lt n hn
  have er:=eW hnl
  have nl':n < us.length:=by rw [hR.1];exact hnl
  have eu:us[n]? = some us[n]:=aeC nl'
  obtain⟨t,d,b,et,h1,h2,h3⟩:=hR.2 n _ _ eu er
  have elk:=hD.pl _ (cB hnl)
  rw [elk] at h2
  refine⟨_,rfl,_,rfl,_,rfl,r,us,(n:Int),us[n],rfl,rfl,SqL.of hrr,cf eu,t,_,0,.ref d,et,rfl,SqT.of h1,rfl,a,d,hand,[aA (bW rs n)],rfl,ha,h2,by show 1<=1000;decide,fun H1 s1=>⟨_,rfl,?_⟩⟩
  cases em:kR hand [aA (bW rs n)] with
  | false =>
   refine gU ?_
   refine q _ _ s1 ⟨(fun z=>nomatch z),fun z=>?_⟩
   have:=(ja hand _).mpr z.1
   rw [em] at this
   cases this
  | true =>
  refine gu ?_
  have hin:=(ja hand _).mp em
  have fl:=z7 (rs:=rs) hn
  refine⟨_,rfl,_,rfl,_,rfl,r,us,(n:Int),us[n],rfl,rfl,SqL.of (s1 _ _ hrr),cf eu,?_⟩
  refine⟨a,us[n],hand,bW rs n,rfl,s1 _ _ ha,(hR.2 n _ _ eu er).same s1,by rw [elk];exact em,afb (aD (by omega)),fun bA H2 s2 nb hb=>?_⟩
  have ehb:hW hand (bW rs n)=gP rs hand n:=by
   unfold hW gP
   rw [elk]
   rfl
  rw [ehb] at hb
  have s02:=s1.trans s2
  dsimp only [bJ,aaJ,wB]
  refine bE _ _ _ _ _ _ _ _ _ ?_
  refine⟨_,rfl,l,rfl,⟨_,SqL.of (s02 _ _ hl)⟩,?_⟩
  intro D nD
  have ll:=hL.len
  have rl:=hD.rl
  have inl:∀ x∈aC left,∃ m∈left,x=.int (m:Nat):=fun x hx=>by
   obtain⟨m,hm,e⟩:=ae3.mp hx
   exact⟨m,hm,e.symm⟩
  refine vi (pb:=fun x=>!decide (x=V.int n)) (F:=adl us) (s02 _ _ hl) nD (by rw [aeD];omega) (fun x=>rfl) (fun G x R hx sG q=>by obtain⟨m,hm,rfl⟩:=inl x hx;exact⟨_,rfl,_,rfl,rfl,_,rfl,q⟩) (fun G x R hx sG q=>?_) (fun H3 s3 hD3=>?_)
  ·obtain⟨m,hm,rfl⟩:=inl x hx
   have hm':m < us.length:=by rw [hR.1];exact hL.lt m hm
   have e1:adl us (.int (m:Nat))=us[m]:=by
    show (us[((m:Nat):Int).toNat]?).getD .non=us[m]
    rw [afh,aeC hm']
    rfl
   rw [e1] at q
   exact⟨_,rfl,_,rfl,r,us,(m:Int),us[m],rfl,rfl,SqL.of (sG _ _ (s02 _ _ hrr)),cf (aeC hm'),q⟩
  have ef:((aC left).filter fun x=>!decide (x=V.int n))=aC (left.filter fun m=>decide (m≠n)):=by
   unfold aC
   rw [List.filter_map]
   congr 1
   refine List.filter_congr fun m hm=>?_
   show (!decide (V.int (m:Nat)=V.int n))=decide (m≠n)
   by_cases z:m=n
   ·subst z;simp
   ·have:¬ (V.int (m:Nat)=V.int (n:Nat)):=fun y=>by injection y with y;omega
    simp [z,this]
  rw [ef] at hD3
  generalize hlf:left.filter (fun m=>decide (m≠n))=lf at *
  have lfm:∀ m∈lf,m∈left:=fun m hm=>by rw [← hlf] at hm;exact (ahq.mp hm).1
  have lfl:lf.length<=left.length:=by rw [← hlf];exact agB _ _
  have s03:=s02.trans s3
  have hR3:RoomsAt H3 ((aC lf).map (adl us)) (lf.map (bW rs)):=by
   refine⟨by simp,fun i v rm e1 e2=>?_⟩
   rw [aeP] at e1 e2
   unfold aC at e1
   rw [aeP] at e1
   cases em:lf[i]? with
   | none=>rw [em] at e2;cases e2
   | some m =>
    rw [em] at e1 e2
    cases e1
    cases e2
    have hm:=hL.lt m (lfm m (afg em))
    have hm':m < us.length:=by rw [hR.1];exact hm
    show RoomAt H3 ((us[((m:Nat):Int).toNat]?).getD .non) (bW rs m)
    rw [afh,aeC hm']
    exact (hR.2 m _ _ (aeC hm') (eW hm)).same s03
  have inrs:∀ rm∈lf.map (bW rs),rm∈rs:=fun rm hrm=>by
   obtain⟨m,hm,rfl⟩:=ae3.mp hrm
   exact cB (hL.lt m (lfm m hm))
  have shl:(gP rs hand n).length<=hand.length+(bW rs n).2.length:=by
   unfold gP
   rw [aeG]
   have:=List.length_erase_le (a:=aA (bW rs n)) (l:=hand)
   omega
  have shU:∀ x∈gP rs hand n,x∈U:=fun x hx=>by
   rcases aeI.mp hx with z | z
   ·exact hU x (ahv z)
   ·exact hD.kk _ (cB hnl) x z
  refine⟨_,rfl,_,rfl,bA,D,_,gP rs hand n,lf.map (bW rs),rfl,s3 _ _ hb,hD3,hR3,fun rm hrm=>by rw [hD.pl rm (inrs rm hrm)];exact⟨(fun z=>nomatch z),by show 1<=4;decide⟩,by rw [aeD];omega,by rw [aeG];omega,⟨U,hD.ul,fun x hx=>?_⟩,fun tt A' B' ss ns H4 s4 nA nB ht hA hB nd so com ens=>?_⟩
  ·rcases aeI.mp hx with z | z
   ·exact shU x z
   ·obtain⟨rm,hrm,hx'⟩:=afN.mp z
    exact hD.kk rm (inrs rm hrm) x hx'
  refine⟨tt,_,rfl,SqT.of ht,rfl,_,_,rfl,_,_,rfl,rfl,?_⟩
  refine⟨_,rfl,B',_,rfl,.inl (SqL.of hB),_,rfl,D,_,rfl,.inl (SqL.of (s4 _ _ hD3)),rfl,q _ _ (s03.trans s4) ?_⟩
  rw [ah2]
  have key:=vq (lf.map (bW rs)) ss
  rw [← ens,aeD] at key
  have e2:(V.int ((ns.map fun i=>V.int (i:Nat)).length:Nat)=V.int (((aC lf).map (adl us)).length:Nat))↔ns.length=lf.length:=by
   simp only [aeD,V.int.injEq]
   omega
  refine e2.trans (key.trans ?_)
  unfold kP
  rw [hlf]
  constructor
  ·intro z
   refine⟨hin,fun m hm=>?_⟩
   have hrm:bW rs m∈lf.map (bW rs):=ae3.mpr ⟨m,hm,rfl⟩
   exact (com _).mp (z _ hrm _ (by rw [hD.pl _ (inrs _ hrm)];exact aeF.mpr rfl))
  ·rintro⟨_,z⟩ rm hrm y hy
   obtain⟨m,hm,rfl⟩:=ae3.mp hrm
   rw [hD.pl _ (inrs _ hrm)] at hy
   rw [aeF.mp hy]
   exact (com _).mpr (z m hm)
theorem iW (rs:List Rm):(List.range rs.length).map (bW rs)=rs:=by
 apply agM
 intro i
 rw [aeP]
 by_cases h:i < rs.length
 ·rw [List.getElem?_range h]
  exact (eW h).symm
 ·rw [agh (by rw [afs];omega),agh (by omega)]
  rfl
def sx:Sp:=fun vs H Q _=>∃ (v:V) (h:Hs) (U:List Str),vs=[v]/\HouseAt H v h/\yU h.2 U/\(∀ k∈h.1,k∈U)/\kM h.1 h.2/\h.1.length+(h.2.flatMap (·.2)).length<=1000 ∧
 ∀ (l:Addr) (o:List Nat) (H':Hp),H l=none->Same H H'->H' l=some (.lst (aC o))->Greedy h.2 h.1 (List.range h.2.length) o->Q (.ref l) H'
inductive OdI (v:V)(h:Hs)(U:List Str)(r:Addr)(H:Hp)(m:Nat)(σ:L2.St)(H':Hp):Prop
 | mk (a l oA:Addr) (hand:List Str) (left o:List Nat) (x5 x6:Option V):σ=[some v,some (.ref a),some (.ref r),some (.ref l),some (.ref oA),x5,x6]->Same H H'->H l=none->H oA=none->l≠oA->H' a=some (.lst (hand.map V.str))->a≠l->a≠oA->H' l=some (.lst (aC left))->H' oA=some (.lst (aC o))->LeftD h.2 left->kM hand (left.map (bW h.2))->(∀ k∈hand,k∈U)->hand.length+((left.map (bW h.2)).flatMap (·.2)).length<=1000->o.length+left.length=h.2.length->left.length=m->(∀ o',Greedy h.2 hand left o'->Greedy h.2 h.1 (List.range h.2.length) (o++o'))->OdI v h U r H m σ H'
inductive OeI (v:V)(h:Hs)(a r l oA:Addr)(hand:List Str)(left:List Nat)(H1:Hp)(x6:Option V)(m:Nat)(σ:L2.St)(H':Hp):Prop
 | mk (i:Nat):σ=[some v,some (.ref a),some (.ref r),some (.ref l),some (.ref oA),some (.int i),x6]->Same H1 H'->i < left.length->(∀ n∈left.take i,¬ kP h.2 hand left n)->i+m=left.length->OeI v h a r l oA hand left H1 x6 m σ H'
inductive OfI (v:V)(h:Hs)(a r l oA:Addr)(hand:List Str)(left:List Nat)(H1:Hp)(x6:Option V)(σ:L2.St)(H':Hp):Prop
 | mk (A B:List Nat) (n:Nat):σ=[some v,some (.ref a),some (.ref r),some (.ref l),some (.ref oA),some (.int A.length),x6]->Same H1 H'->left=A++n::B->(∀ n∈A,¬ kP h.2 hand left n)->kP h.2 hand left n->OfI v h a r l oA hand left H1 x6 σ H'
theorem xm {α:Type}(A:List α)(n:α)(B:List α):(A++n::B).eraseIdx A.length=A++B:=by
 rw [ah3 (aeN _),ahM]
 rfl
theorem yJ {rs:List Rm}{A B:List Nat}{n:Nat}:(((A++n::B).map (bW rs)).flatMap (·.2)).length=(((A++B).map (bW rs)).flatMap (·.2)).length+(bW rs n).2.length:=by
 simp only [aeO,aeZ,afB,afO,aeG]
 omega
theorem bx:aO ["house","hand","rooms","left","order","at","number"] ["house"] (aq ck):=⟨rfl,rfl,rfl,by decide +kernel,rfl,by decide +kernel,by decide +kernel⟩
theorem zd {f fS fB:Addr}{fd fdS fdB:FuncData}(F:Fun K "order_of_all" "order_of_all" ck f fd)(xu:aV P w K mg base CX0 3 fS fdS ["hand","rooms","left","number"] wN)(iw:Cal K mg "is_safe" ["hand","rooms","left","number"] fS fdS)(eD:aV P w K mg base CX0 1 fB fdB ["hand","room"] jq)(aR:Cal K mg "hand_behind" ["hand","room"] fB fdB)
 (aY:mg "len" = none)(bV:mg "list" = none)(bh:mg "range" = none):aV P w K mg base CX0 4 f fd ["house"] sx:=by
 refine F.ok bx (fun vs H Q E h=>?_) (fun cdv A outer s H vs Q E hr h=>?_)
 ·obtain⟨v,h,U,rfl,_⟩:=h
  rfl
 ·obtain⟨v,h,U,rfl,⟨t,a,r,us,rfl,ht,ha,hrr,hR⟩,hD,hU,fine,hlen,q⟩:=h
  refine⟨_,(ak (hJ (pv 0) (eG rfl (aG (ay (i:=1) bx.nd rfl (Or.inl rfl)) (aG (ay (i:=2) bx.nd rfl (Or.inl rfl)) bY))))
   (ak (aI (i:=3) bx.nd rfl (Or.inl rfl) (rN rfl bV rfl bh rfl (ae (aw az rfl aY ae8 (ae (pv 2) ai)) ai)))
   (ak (aI (i:=4) bx.nd rfl (Or.inl rfl) iV)
   (ak (bB (kW afl (o8 (pv 3) (by intro _;rfl))
    (ak (aI (i:=5) bx.nd rfl (Or.inl rfl) av)
    (ak (bB (kW afl (eF (d6 (ax xu hr rfl iw.mg iw.kp iw.b .nil aP (ae (pv 1) (ae (pv 2) (ae (pv 3) (ae (aT bD (pv 3) (pv 5) (fun _ _=>rfl)) ai)))))))
     (au (acU (i:=5) bx.nd rfl (Or.inl rfl) av acn))))
    (ak (aI (i:=6) bx.nd rfl (Or.inl rfl) (fw aeS agj agk kZ (pv 3) (ae (pv 5) ai)))
    (ak (aI (i:=1) bx.nd rfl (Or.inl rfl) (ax eD (hr.mono (show 1<=3 by decide)) rfl aR.mg aR.kp aR.b .nil aP (ae (pv 1) (ae (aT bD (pv 2) (pv 6) (fun _ _=>rfl)) ai))))
    (au (bC (fw aeS afI afJ df (pv 4) (ae (pv 6) ai))))))))))
   (au (aN (pv 4))))))),?_⟩
  have rl:=hD.rl
  refine⟨_,rfl,t,_,rfl,SqT.of ht,rfl,_,_,rfl,_,_,rfl,rfl,?_⟩
  refine⟨_,rfl,r,_,rfl,.inl (SqL.of hrr),?_⟩
  refine⟨us.length,rfl,by rw [hR.1];omega,fun l nl=>⟨ae2 _,fun oA nO=>?_⟩⟩
  rw [hR.1]
  have s1:Same H (upd H l (.lst (aC (List.range h.2.length)))):=ar nl
  have e1:(upd H l (.lst (aC (List.range h.2.length)))) l=some (.lst (aC (List.range h.2.length))):=ag
  rw [hR.1] at nO
  generalize upd H l (.lst (aC (List.range h.2.length)))=H1 at *
  have s2:Same H1 (upd H1 oA (.lst (aC []))):=ar nO
  have e2:(upd H1 oA (.lst (aC []))) oA=some (.lst (aC [])):=ag
  have nO0:H oA=none:=s1.free nO
  have lo:l≠oA:=af e1 nO
  show bJ 4 (V.ref oA) _ (upd H1 oA (.lst (aC []))) _
  have e12:=s2 _ _ e1
  generalize upd H1 oA (.lst (aC []))=H2 at *
  have s02:=s1.trans s2
  refine⟨fun σ' H'=>OdI (.ref t) h U r H 0 σ' H',?_,?_⟩
  ·rintro σ H3 ⟨a,l,oA,hand,left,o,x5,x6,rfl,sm,nl,nO,lo,ha3,al,ao,hl3,ho3,hL,fi,hU3,hle,hol,hm,fin⟩
   have el:left=[]:=af8.mp hm
   subst el
   have:=fin [] .nil
   rw [afw] at this
   exact⟨_,rfl,q oA o H3 nO sm ho3 this⟩
  have hL0:LeftD h.2 (List.range h.2.length):=⟨ahL,fun m hm=>afT.mp hm⟩
  refine⟨fun m σ' H'=>OdI (.ref t) h U r H m σ' H',⟨_,a,l,oA,h.1,List.range h.2.length,[],none,none,rfl,s02,nl,nO0,lo,s02 _ _ ha,af ha nl,af ha nO0,e12,e2,hL0,by rw [iW];exact fine,hU,by rw [iW];exact hlen,by simp,rfl,fun o' g=>g⟩,?_⟩
  clear e12 e2 e1 s1 s2 s02 nO nO0 lo nl hL0 ha
  clear H2 H1 l oA
  rintro m σ H2 ⟨a,l,oA,hand,left,o,x5,x6,rfl,sm,nl,nO,lo,ha,al,ao,hl,ho,hL,fi,hUh,hle,hol,hm,fin⟩
  refine⟨_,rfl,_,.inl ⟨_,SqL.of hl,rfl⟩,?_⟩
  cases hlf:left with
  | nil =>
   subst hlf
   have:m=0:=hm.symm
   subst this
   exact⟨a,l,oA,hand,[],o,x5,x6,rfl,sm,nl,nO,lo,ha,al,ao,hl,ho,hL,fi,hUh,hle,hol,rfl,fin⟩
  | cons n0 lf0 =>
  refine gU ?_
  have lne:left≠[]:=by rw [hlf];exact fun z=>nomatch z
  clear hlf
  have lpos:=aiO.mpr lne
  have pln:Plain (left.map (bW h.2)):=hD.pl.sub fun rm hrm=>by
   obtain⟨n,hn,rfl⟩:=ae3.mp hrm
   exact cB (hL.lt n hn)
  obtain⟨ns,hns,safe⟩:=aaL pln hL.nd fi lne
  refine⟨fun σ' H'=>OdI (.ref t) h U r H (m - 1) σ' H',fun σ' H' h=>⟨_,by omega,h⟩,?_⟩
  refine⟨fun σ' H'=>OfI (.ref t) h a r l oA hand left H2 x6 σ' H',?_,?_⟩
  rotate_left
  ·refine⟨fun m σ' H'=>OeI (.ref t) h a r l oA hand left H2 x6 m σ' H',⟨left.length,0,rfl,Same.refl _,lpos,(fun n hn=>by simp at hn),by omega⟩,?_⟩
   rintro m2 σ H3 ⟨i,rfl,s3,hi,no,him⟩
   refine⟨_,rfl,_,rfl,_,rfl,_,rfl,_,rfl,l,_,(i:Int),.int (left[i]:Nat),rfl,rfl,SqL.of (s3 _ _ hl),cf (by show (aC left)[i]? = _;unfold aC;rw [aeP,aeC hi];rfl),a,r,l,left[i],us,h.2,hand,U,left,rfl,s3 _ _ ha,s3 _ _ (sm _ _ hrr),(hR.same sm).same s3,s3 _ _ hl,hD,hL,afa hi,hUh,hle,fun c H4 s4 hc=>⟨c,rfl,?_⟩⟩
   have tk:left.take (i+1)=left.take i++[left[i]]:=by rw [afc,aeC hi];rfl
   cases c with
   | true =>
    refine gu ?_
    exact⟨left.take i,left.drop (i+1),left[i],by rw [ae9,agb (afb hi)],s3.trans s4,by rw [← afQ hi,afp],no,hc.mp rfl⟩
   | false =>
    refine gU ?_
    have no':∀ n∈left.take (i+1),¬ kP h.2 hand left n:=fun n hn=>by
     rw [tk] at hn
     rcases aeI.mp hn with z | z
     ·exact no n z
     ·rw [aeF.mp z]
      exact fun y=>nomatch hc.mpr y
    have hi1:i+1 < left.length:=by
     apply afP
     intro z
     have:left.take (i+1)=left:=afy (by omega)
     rw [this] at no'
     exact no' ns hns safe
    refine⟨fun σ' H'=>OeI (.ref t) h a r l oA hand left H2 x6 (m2 - 1) σ' H',fun σ' H' h=>⟨_,by omega,h⟩,?_⟩
    refine⟨_,rfl,_,1,rfl,rfl,?_⟩
    exact⟨i+1,rfl,s3.trans s4,hi1,no',by omega⟩
  rintro σ H3 ⟨A,B,n,rfl,s3,rfl,no,sf⟩
  have nin:n∈A++n::B:=aeL _ aeQ
  have hn:=hL.lt n nin
  have hn':n < us.length:=by rw [hR.1];exact hn
  have er:=eW hn
  have eu:us[n]? = some us[n]:=aeC hn'
  have ll:=hL.len
  have hl3:=s3 _ _ hl
  have fl:=yJ (rs:=h.2) (A:=A) (B:=B) (n:=n)
  have aL:(A++n::B).length=A.length+(B.length+1):=by rw [aeG,afd]
  refine⟨_,rfl,.inl ⟨rfl,_,SqL.of hl3⟩,_,rfl,l,_,(A.length:Int),A.length,.int (n:Nat),rfl,rfl,hl3,by omega,by omega,xb (by unfold aC;rw [aeD,aeG,afd];omega) (by unfold aC;rw [aeD];omega),by unfold aC;rw [aeP,afv (aeN _),ahM];rfl,?_⟩
  have ee:(aC (A++n::B)).eraseIdx A.length=aC (A++B):=by
   unfold aC
   rw [jG,xm]
  rw [ee]
  have sm4:Same H (upd H3 l (.lst (aC (A++B)))):=fun b u e=>by rw [ah (af e nl)];exact s3 _ _ (sm _ _ e)
  have hl4:(upd H3 l (.lst (aC (A++B)))) l=some (.lst (aC (A++B))):=ag
  have ha4:(upd H3 l (.lst (aC (A++B)))) a=some (.lst (hand.map V.str)):=by rw [ah al];exact s3 _ _ ha
  have ho4:(upd H3 l (.lst (aC (A++B)))) oA=some (.lst (aC o)):=by rw [ah lo.symm];exact s3 _ _ ho
  generalize upd H3 l (.lst (aC (A++B)))=H4 at *
  have elk:=hD.pl _ (cB hn)
  refine⟨_,rfl,_,rfl,_,rfl,r,us,(n:Int),us[n],rfl,rfl,SqL.of (sm4 _ _ hrr),cf eu,a,us[n],hand,bW h.2 n,rfl,ha4,(hR.2 n _ _ eu er).same sm4,by rw [elk];exact (ja hand _).mpr sf.1,afb (aD (by omega)),fun bA H5 s5 nb hb=>?_⟩
  have ehb:hW hand (bW h.2 n)=gP h.2 hand n:=by
   unfold hW gP
   rw [elk]
   rfl
  rw [ehb] at hb
  refine⟨_,rfl,.inl ⟨rfl,_,SqL.of (s5 _ _ ho4)⟩,_,rfl,oA,_,_,rfl,rfl,s5 _ _ ho4,by unfold aC;rw [aeD];exact aD (by rw [aeG,afd] at hol;omega),?_⟩
  have bl:bA≠l:=fun z=>by rw [z,hl4] at nb;cases nb
  have bo:bA≠oA:=fun z=>by rw [z,ho4] at nb;cases nb
  have shl:(gP h.2 hand n).length+1=hand.length+(bW h.2 n).2.length:=by
   unfold gP
   rw [aeG,ajm sf.1]
   have:=ajU sf.1
   omega
  have nd:=hL.nd
  refine⟨bA,l,oA,gP h.2 hand n,A++B,o++[n],_,_,rfl,fun b u e=>by rw [ah (af e nO)];exact s5 _ _ (sm4 _ _ e),nl,nO,lo,by rw [ah bo];exact hb,bl,bo,by rw [ah lo];exact s5 _ _ hl4,by rw [ag];unfold aC;rw [aeO];rfl,⟨?_,fun x hx=>hL.lt x ?_⟩,xK nd fi sf,fun x hx=>?_,by omega,?_,?_,fun o' g=>?_⟩
  ·exact (ahK.nodup_iff.mp nd |> afx.mp).2
  ·rcases aeI.mp hx with z | z
   ·exact ae6 _ z
   ·exact aeL _ (aeV _ z)
  ·rcases aeI.mp hx with z | z
   ·exact hUh x (ahv z)
   ·exact hD.kk _ (cB hn) x z
  ·rw [aeG,aeG,afd] at *;simp only [af0,ahs];omega
  ·rw [← hm,aeG,aeG,afd];omega
  ·rw [aeW]
   exact fin _ (.cons no sf g)
def jc:Sp:=fun vs H Q _=>∃ (v:V) (h:Hs),vs=[v]/\HouseAt H v h/\fo h/\pL h/\h.2.length<=200 ∧
 ∀ (B:Addr) (ss:List Str) (H':Hp),Same H H'->H B=none->H' B=some (.lst (ss.map V.str))->ss.Nodup->sortedS ss=true->(∀ x,x∈ss↔Com h.1 h.2 x)->Q (.ref B) H'
theorem eC:aO ["house","kinds","numbers"] ["house"] (aq bG):=⟨rfl,rfl,rfl,by decide +kernel,rfl,by decide +kernel,by decide +kernel⟩
theorem qv {f fR fQ:Addr}{fd fdR fdQ:FuncData}(F:Fun K "kinds_that_come" "kinds_that_come" bG f fd)(bS:aV P w K mg base CX0 6 fR fdR ["thing"] tO)(aB:Cal K mg "require_house" ["thing"] fR fdR)
 (lW:aV P w K mg base CX0 2 fQ fdQ ["keys","rooms"] jC)(dF:Cal K mg "reached" ["keys","rooms"] fQ fdQ) :
 aV P w K mg base CX0 7 f fd ["house"] jc:=by
 refine F.ok eC (fun vs H Q E h=>?_) (fun cdv A outer s H vs Q E hr h=>?_)
 ·obtain⟨v,h,rfl,_⟩:=h
  rfl
 ·obtain⟨v,h,rfl,hh,ok,⟨⟨U,hU,hUm⟩,nk,nl⟩,hn,k⟩:=h
  refine⟨_,(ak (bC (ax bS hr rfl aB.mg aB.kp aB.b .nil aP (ae (pv 0) ai)))
   (ak (hJ (ax lW (hr.mono (show 2<=6 by decide)) rfl dF.mg dF.kp dF.b .nil aP (ae (aT bu (pv 0) av (fun _ _=>rfl)) (ae (aT bu (pv 0) av (fun _ _=>rfl)) ai))) (eG rfl (aG (ay (i:=1) eC.nd rfl (Or.inl rfl)) (aG (ay (i:=2) eC.nd rfl (Or.inl rfl)) bY))))
   (au (aN (pv 1))))),?_⟩
  refine⟨_,rfl,v,h,rfl,hh,ok,fun H1 s1=>?_⟩
  obtain⟨t,a,r,us,rfl,ht,ha,hr',hR⟩:=hh.same s1
  refine⟨_,rfl,t,_,0,.ref a,rfl,rfl,SqT.of ht,rfl,_,rfl,t,_,1,.ref r,rfl,rfl,SqT.of ht,rfl,a,r,us,h.1,h.2,rfl,ha,hr',hR,fun q hq=>⟨?_,(ok.rs q hq).l4⟩,hn,nk,⟨U,hU,fun x hx=>hUm x (.inl hx)⟩,fun T A' B ss ns H2 s2 nA nB hT hA hB snd sso smem ens=>?_⟩
  ·have:=(ok.rs q hq).l1
   intro z
   rw [z] at this
   exact absurd this (by decide)
  ·subst ens
   refine⟨T,_,rfl,SqT.of hT,rfl,_,_,rfl,_,_,rfl,rfl,?_⟩
   exact⟨_,rfl,k A' ss H2 (s1.trans s2) (s1.free nA) hA snd sso smem⟩
end
end K7
namespace L2
open PySem PySem.Spec PySem.Calls PyProof.Rows PySem.W
theorem oE {P:Program}{w:World}:∀ {acc:List Value} {kvs:List (Key×Value)} {ss:List Str},kvs.map (·.1)=ss.map Sum.inr->acc.length=kvs.length->(∀ (j:Nat) v,acc[j]? = some v->∃ k x,kvs[j]? = some (k,x)/\(bz P w).is k v=true)->StrsAre acc ss
 | [],[],[],_,_,_=>.nil
 | [],[],_::_,h,_,_=>by simp at h
 | _::_,[],_,_,h,_=>by simp at h
 | [],_::_,_,_,h,_=>by simp at h
 | _::_,_::_,[],h,_,_=>by simp at h
 | v::acc,(k,x)::kvs,s::ss,h,hl,hp=>by
  rw [aeZ,aeZ] at h
  injection h with h1 h2
  obtain⟨k',x',e,hk⟩:=hp 0 v rfl
  cases e
  have hk1:k=Sum.inr s:=h1
  subst hk1
  have:=oE (P:=P) (w:=w) h2 (by simpa using hl) fun j u e=>hp (j+1) u e
  obtain⟨t,rfl⟩:∃ t,v=.str s t:=ui hk
  exact .cons _ t this
section
variable {prog:Program}{w:World}{A:Around}{E:Value->Shared->Prop}{s:Shared}{a:Addr}
theorem qA {R:List Value->Shared->Prop}{kvs:List (Key×Value)}{ep:Nat}(hh:A.handled=none)(lo:(a == sysModules)=false)(x:s.heap.DictAt (bz prog w) a kvs ep)(hn:kvs.length<=sizeLine)
 (h:∀ (h':Heap) (tk:Nat) (acc:Array Value),(∀ b o,s.heap.get? b=some o->h'.get? b=some o)->s.heap.objs.size<=h'.objs.size->ItemsOf (fun i v=>∃ k x,kvs[i]? = some (k,x)/\(bz prog w).is k v=true) acc kvs.length->R acc.toList { s with heap:=h',toks:=tk }) :
 wpAny (model prog w) A (collect (.ref a)) R E s:=by
 have hlt:=x.lt_size
 unfold collect
 refine aeE (ai9 (af1 aiw ?_))
 rw [afR ahu _]
 show wpAny _ A.in1 (newList [] >>= fun l=>again (.builtin "list.__iadd__" ⟨[l,.ref a],[]⟩)) _ _ s
 refine aeE (afM ?_)
 refine aeK ⟨ahc agq _,af1 entry_list_iadd' ?_⟩
 rw [afR agq _]
 have hS₁:(s.heap.push { cls:=.type "list",data:=.seq ([]:List Value).toArray }).get? s.heap.objs.size=some { cls:=.type "list",data:=.seq #[] }:=aeY _ rfl
 show wpAny _ A.in1 (Builtin.List.listExtendWith (.ref s.heap.objs.size) (.ref a) (.ref s.heap.objs.size)) _ _ _
 have key:=kdl_extend (A:=A) (s:={ s with heap:=s.heap.push { cls:=.type "list",data:=.seq ([]:List Value).toArray } })
  (R:=fun (q:Result) (s':Shared)=>∃ (h':Heap) (tk:Nat) (acc':Array Value) (c':Nat),q=.ok (.ret (.ref s.heap.objs.size))/\s'={ s with heap:=h',toks:=tk } ∧
   (∀ b o,s.heap.get? b=some o->h'.get? b=some o)/\h'.get? s.heap.objs.size=some { cls:=.type "list",dict:=none,data:=.seq acc' c',slots:=#[] }/\ItemsOf (fun i v=>∃ k x,kvs[i]? = some (k,x)/\(bz prog w).is k v=true) acc' kvs.length)
  (kdl_dict (knd:=bz prog w) (kvs:=kvs) (ep:=ep) lo) hh (x.at' fun o e=>aeH _ e) s.heap.objs.size (agV hlt) (agV hlt) (.ref s.heap.objs.size) 0 hS₁
  (fun h' tk acc' c' hk hS' hacc=>⟨h',tk,acc',c',rfl,rfl,fun b o e=>hk b o (ae4 (aeR e)) (aeH _ e),hS',hacc⟩) hn
 refine afu key (fun fin s' x=>?_) fun e s' x=>?_
 ·cases fin with
  | done f =>
   obtain⟨h',tk,acc',c',e,rfl,hk,hS',hacc⟩:=x
   cases e
   show wpAny _ A (load s.heap.objs.size >>= _) _ _ _
   refine aeE (aiD hS' ?_)
   exact aeK (h h' tk acc' hk (afb (aeR hS')) hacc)
  | again c₁ =>
   refine⟨x.1,agX x.2 fun q s₂ y=>?_⟩
   obtain⟨h',tk,acc',c',rfl,rfl,hk,hS',hacc⟩:=y
   show wpAny _ A (load s.heap.objs.size >>= _) _ _ _
   refine aeE (aiD hS' ?_)
   exact aeK (h h' tk acc' hk (afb (aeR hS')) hacc)
 ·obtain⟨_,_,_,_,e',_⟩:=x
  cases e'
theorem rX {Q:Value->Shared->Prop}{kvs:List (Key×Value)}{ep:Nat}{ss:List Str}(hh:A.handled=none)(lo:(a == sysModules)=false)(x:s.heap.DictAt (bz prog w) a kvs ep)(hs:kvs.map (·.1)=ss.map Sum.inr)(h64:ss.length < 64)
 (h:∀ (h':Heap) (tk:Nat) (l:Addr) (vs:List Value) (ss':List Str) (e:Nat),(∀ b o,s.heap.get? b=some o->h'.get? b=some o)->s.heap.objs.size<=l->h'.get? l=some (seqObj "list" vs.toArray e)->StrsAre vs ss'->ss'.Perm ss->sortedS ss'=true->Q (.ref l) { s with heap:=h',toks:=tk }) :
 wpAny (model prog w) A (call (.builtin "sorted") [.ref a]) Q E s:=by
 refine ag1 ajz ai2 ai3 (args_sorted1 _) ?_
 unfold Builtin.«sorted»
 refine aeE (m:=checkCount "sorted" 1 1 _) (aeK ?_)
 have kl:kvs.length=ss.length:=by simpa using aft List.length hs
 refine aeE (qA (A:=A.in1) hh lo x (afb (ae1 (by omega:kvs.length < 64) (by decide))) fun h1 tk acc k1 hsz hacc=>?_)
 have hl0:acc.toList.length=kvs.length:=by rw [aeT];exact hacc.1
 have hS:StrsAre acc.toList ss:=oE hs hl0 fun j v e=>hacc.2 j v (by rw [← afo];exact e)
 have hl:acc.toList.length < 64:=by omega
 refine aeE (ahz ?_ (afb (ae1 hl (by decide))))
 show wpAny _ _ _ _ _ { s with heap:=h1.push (seqObj "list" acc.toList.toArray 0),toks:=tk }
 have hoL:(h1.push (seqObj "list" acc.toList.toArray 0)).get? h1.objs.size=some (seqObj "list" acc.toList.toArray 0):=aeY _ rfl
 refine aeE (afD (af4 aif ⟨_,hoL,rfl⟩ ahW (list_sort_treeK strKind_oneLt hoL hS.keysOf (fun v₁ v₂ rest e=>keyKind_strs (by rw [← e];exact hS)) hl fun st' a1 a2=>⟨_,rfl,?_⟩) (aja _)))
 obtain⟨ss',b1,b2,b3⟩:=sorted_out_str hS a1 a2
 obtain⟨e,he⟩:=sortedHeap_at (vs:=acc.toList) (out:=(arrOf st').map (·.2)) hoL
 refine aeK ⟨_,rfl,h _ tk h1.objs.size ((arrOf st').map (·.2)).toList ss' e (fun b o q=>?_) hsz (by rw [ahD];exact he) b1 b2 b3⟩
 have q1:=k1 _ _ q
 rw [sortedHeap_old (ae4 (aeR q1)) (by rw [aia];exact af7 (aeR q1))]
 exact aeH _ q1
end
section
variable {X:Cx}
theorem gW (hc:X.calm=true):fu X (.builtin "sorted") (fun xs H Q=>∃ (a:Addr) (kvs:List (Key×V)) (ss:List Str),xs=[.ref a]/\H a=some (.dK kvs)/\kvs.map (·.1)=ss.map Sum.inr/\ss.length < 64/\∀ (l:Addr) (ss':List Str),H l=none->ss'.Perm ss->sortedS ss'=true->Q (.ref l) (upd H l (.lst (ss'.map V.str)))):=by
 intro pins s σ H xs us Q I r h
 obtain⟨a,kvs,ss,rfl,e,hs,hl,q⟩:=h
 obtain⟨u,rfl,rx⟩:=gY r
 cases rx
 obtain⟨z,hd,vs,rel,dd⟩:=wI I.hok e
 obtain⟨ep,da⟩:=dd.dictAt
 have hs':vs.map (·.1)=ss.map Sum.inr:=by rw [← rel.keys];exact hs
 refine rX (I.ok.hd hc) hd da hs' hl fun h' tk l vs ss' ep k hz hg hS hp hso=>?_
 refine⟨.ref l,_,I.laid (t':=tk) (o:=.lst (ss'.map V.str)) k hz ⟨?_,vs,ep,gF hS,hg⟩,rfl,q l ss' (I.hok.fresh hz) hp hso⟩
 rw [aeD,hp.length_eq]
 exact afb (ae1 hl (by decide))
end
end L2
namespace L2
open PySem PySem.Spec PyProof.Rows
theorem qm (ex target iter:Expr)(ifs:List Expr)(scope:Scope)(pos:Pos)(it:Value)(D:Addr)(env:Env) :
 compTurn (.SetComp ex [⟨target,iter,ifs,0⟩] scope pos) 0 it (.ref D) env=(do
  standAt iter.pos
  match ← pyNext it with
  | none=>pure (.done .next)
  | some v =>
   letOwnedTupleGo target it v
   assign target env v
   let mut ok:=true
   for c in ifs do
    if ok then ok ← isTrue c env (eval c env)
   if ok then
    (do
     let v ← eval ex env
     standAt ex.pos
     let _ ← call (.builtin "set.add") [.ref D,v])
   again (.compLoop (.SetComp ex [⟨target,iter,ifs,0⟩] scope pos) 0 it (.ref D) env)):=by rfl
section
variable {prog:Program}{w:World}{A:Around}{E:Value->Shared->Prop}{R:Result->Shared->Prop}{s:Shared}
theorem rT {ex target iter ifs rest scope pos it acc env}
 (h0:codeAny (model prog w) A (.compLoop (.SetComp ex (⟨target,iter,ifs,0⟩::rest) scope pos) 0 it acc env) R s)
 (h:wpAny (model prog w) A (pyIter it) (fun it' s'=>codeAny (model prog w) A (.compLoop (.SetComp ex (⟨target,iter,ifs,0⟩::rest) scope pos) 0 it' acc env) R s')
  (notedBy (model prog w) A env fun x s'=>R (.error x) s') s) :
 codeAny (model prog w) A (.compStart (.SetComp ex (⟨target,iter,ifs,0⟩::rest) scope pos) 0 it acc env) R s:=by
 refine ahY ?_
 show wpAny _ A ((compStart (.SetComp ex (⟨target,iter,ifs,0⟩::rest) scope pos) 0 it acc env).onRaise (fun x=>do noteFrame x env;standAt theWindowsPlace)) _ _ s
 refine wpAny_notedAt ?_
 unfold compStart
 show wpAny _ A (ask >>= _) _ _ s
 refine aeE (ahf (wpAny_ite ?_))
 split
 ·first
   | exact aeE (aeK (aeK (And.intro rfl h0)))
   | exact aeK (And.intro rfl h0)
 ·first
   | exact aeE (agD (aeE (ago (aeE (afu h (fun it' s' h'=>aeK (And.intro rfl h')) fun _ _ x=>x)))))
   | (refine aeE (agD ?_);show wpAny _ _ (standAt iter.pos >>= _) _ _ s;exact aeE (ago (aeE (afu h (fun it' s' h'=>aeK (And.intro rfl h')) fun _ _ x=>x))))
theorem vR {ex target iter:Expr}{ifs:List Expr}{scope:Scope}{pos:Pos}{it:Value}{D:Addr}{env:Env}(I:Nat->Shared->Prop)
 (turn:∀ n s,I n s->wpAny (model prog w) A (pyNext it) (fun r s₁=>match r with
  | none=>R (.ok .next) s₁
  | some v=>wpAny (model prog w) A (letOwnedTupleGo target it v) (fun _ s₁'=>wpAny (model prog w) A (assign target env v) (fun _ s₂ =>
   wpAny (model prog w) A (forIn ifs true fun c r=>if r=true then do let ok ← isTrue c env (eval c env);pure (ForInStep.yield ok) else pure (ForInStep.yield r)) (fun ok s₃ =>
    if ok=true then wpAny (model prog w) A (eval ex env) (fun kv s₄ =>
     wpAny (model prog w) A (call (.builtin "set.add") [.ref D,kv]) (fun _ s₆=>∃ m,m < n/\I m s₆) (fun _ _=>False) s₄) (fun _ _=>False) s₃
    else ∃ m,m < n/\I m s₃) (fun _ _=>False) s₂) (fun _ _=>False) s₁') (fun _ _=>False) s₁) (fun _ _=>False) s)
 (n:Nat)(h:I n s) :
 codeAny (model prog w) A (.compLoop (.SetComp ex [⟨target,iter,ifs,0⟩] scope pos) 0 it (.ref D) env) R s:=by
 have no:∀ {E:Value->Shared->Prop} (x:Value) (s:Shared),False->E x s:=fun _ _ z=>z.elim
 refine codeAny_loop rfl I (fun n s hI=>?_) n h
 show wpAny _ A ((compTurn (.SetComp ex [⟨target,iter,ifs,0⟩] scope pos) 0 it (.ref D) env).onRaise (fun x=>do noteFrame x env;theTreesLotGoes x)) _ _ s
 refine wpAny_noted ?_
 rw [qm]
 refine aeE (ago (aeE (afu (turn n s hI) (fun r s₁ h₁=>?_) no)))
 cases r with
 | none=>exact aeK h₁
 | some v =>
  refine aeE (afu h₁ (fun _ s₁' h₁'=>aeE (afu h₁' (fun _ s₂ h₂=>aeE (afu h₂ (fun ok s₃ h₃=>?_) no)) no)) no)
  cases ok with
  | false=>exact aeK ⟨rfl,h₃⟩
  | true =>
   exact aeE (aeE (afu h₃ (fun kv s₄ h₄=>aeE (ago (aeE (afu h₄ (fun _ s₆ h₆=>aeK (aeK ⟨rfl,h₆⟩)) no)))) no))
theorem abT {Q:Value->Shared->Prop}(h:Q (.ref s.heap.objs.size) { s with heap:=s.heap.push { cls:=.type "set",dict:=none,data:=.set #[] 0 (.fresh 0 0 (!w.params.followText "set-order")) } }) :
 wpAny (model prog w) A (newSet (.type "set")) Q E s:=by
 unfold newSet setsByText
 refine aeE (aeE (ahf (aeK ?_)))
 dsimp only
 simp only [newObj]
 exact aeE (aky (aeK h))
end
def xX (P:Program)(w:World)(nl:Nat)(ix:List Nat)(wi:TI)(g:TG)(tf:TT)(tk:TE):TE:=fun σ H Q=>wi σ H fun J H1=>∀ D,H1 D=none->∃ W:Nat->Nat->List Str->Hp->Prop,(∃ m,W 0 m [] (upd H1 D (eA P w D []))) ∧
 ∀ i m ys H2,W i m ys H2->H2 D=some (eA P w D ys)/\((J.stop i H2/\Q (.ref D) H2)\/(J.go i H2/\∀ x H3,J.yld i H2 x H3->g x (dz nl ix σ) H3 fun σ4 H4=>(σ4.length=(dz nl ix σ).length/\σ4.drop nl=ix.map fun j=>(σ[j]?).join)/\tf σ4 H4 fun b H5 =>
  if b=true then tk σ4 H5 fun z H6=>∃ k:Str,z=.str k/\H6 D=some (eA P w D ys)/\ys.length+1 < scanBound/\∀ ys',((k∈ys/\ys'=ys)\/(k ∉ ys/\ys'.Perm (ys++[k])))->ys'.Nodup->∃ m',m' < m/\W (i+1) m' ys' (upd H6 D (eA P w D ys')) else ∃ m',m' < m/\W (i+1) m' ys H5))
section
variable {X:Cx}
theorem aax {P:Program}{w:World}{ex tg iter:Expr}{ifs:List Expr}{scope:Scope}{pos:Pos}{N':List Str}{nl:Nat}{ix:List Nat}{wi:TI}{g:TG}{tf:TT}{tk:TE}(hP:X.prog=P)(hw:X.w=w)(hc:X.calm=true)(S:CompScope X scope)(Cp:ab6 X scope N' nl ix)(hi:PI X tg iter wi)
 (hg:∀ C fp s₀ H₀,PG (X.comp scope N' C fp s₀ H₀) tg g)(hf:∀ C fp s₀ H₀,PIf (X.comp scope N' C fp s₀ H₀) ifs tf)(hk:∀ C fp s₀ H₀,PE (X.comp scope N' C fp s₀ H₀) ex tk)
 (hs:∀ x,foldedSetIterable iter X.env x=pure x:=by intro _;rfl):PE X (.SetComp ex [⟨tg,iter,ifs,0⟩] scope pos) (xX P w nl ix wi g tf tk):=by
 subst hP hw
 intro pins s σ H Q I h
 rw [arm_eval_SetComp]
 refine ag5 (use:=none) (cl:=oU X.env scope.names []) rfl hs (iB (S.cells I.ok)) S.kind S.loc ?_
 refine thn (hi pins s σ H _ I h) fun v s1 h1=>thn h1 fun itv s2 h2=>?_
 obtain⟨it,fp,tn,J,H2,rfl,I2,T,st2,f2,h2⟩:=h2
 obtain⟨W,⟨m0,w0⟩,turn⟩:=h2 s2.heap.objs.size I2.fresh
 refine abT (ahC S.nocell (by intro y hy;simp at hy) (fun h₁ hns₁ hsb₁=>?_) S.kind)
 dsimp only at hns₁ hsb₁ ⊢
 have fpo:∀ b∈fp,b < s2.heap.objs.size:=fun b hb=>by
  obtain⟨o,e,_⟩:=T.obj 0 _ st2 b hb
  exact aeR e
 have I3:Inv X pins σ (upd H2 s2.heap.objs.size (eA X.prog X.w s2.heap.objs.size [])) { s2 with heap:=s2.heap.push { cls:=.type "set",dict:=none,data:=.set #[] 0 (.fresh 0 0 (!X.w.params.followText "set-order")) },toks:=s2.toks }:=I2.laid (a:=s2.heap.objs.size) (o:=eA X.prog X.w s2.heap.objs.size []) (t':=s2.toks) (fun _ _ q=>aeH _ q) (aeN _) (uR (pK X.prog X.w s2.heap))
 have hD:(upd H2 s2.heap.objs.size (eA X.prog X.w s2.heap.objs.size [])) s2.heap.objs.size=some (eA X.prog X.w s2.heap.objs.size []):=ag
 have f3:∀ b∈fp,nX X pins (upd H2 s2.heap.objs.size (eA X.prog X.w s2.heap.objs.size [])) b:=fun b hb=>by
  refine⟨?_,(f2 b hb).2⟩
  rw [ah (ae4 (fpo b hb))]
  exact (f2 b hb).1
 generalize hS3:s2.heap.push { cls:=.type "set",dict:=none,data:=.set #[] 0 (.fresh 0 0 (!X.w.params.followText "set-order")) }=g3 at hns₁ hsb₁ I3 ⊢
 have sz3:g3.objs.size=s2.heap.objs.size+1:=by rw [← hS3,agn]
 have fpo3:∀ b∈fp,b < ({ s2 with heap:=g3,toks:=s2.toks }:Shared).heap.objs.size:=fun b hb=>by
  show b < g3.objs.size
  rw [sz3]
  exact af7 (fpo b hb)
 have old:∀ b o,g3.get? b=some o->h₁.get? b=some o:=fun b o e=>hsb₁.extBut b o (ae4 (aeR e)) (aeH _ e)
 have I4:=kT (tk:=s2.toks+([]:List (Str×Value)).length) S Cp I3 f3 fpo3 hns₁ old
 generalize hX:X.comp scope N' g3.objs.size fp { s2 with heap:=g3,toks:=s2.toks } (upd H2 s2.heap.objs.size (eA X.prog X.w s2.heap.objs.size []))=X' at *
 have hPr:X'.prog=X.prog:=by rw [← hX];rfl
 have hWr:X'.w=X.w:=by rw [← hX];rfl
 have hKr:X'.K=X.K:=by rw [← hX];rfl
 have hAr:X'.A=X.A:=by rw [← hX];rfl
 have hCa:X'.calm=true:=by rw [← hX];exact hc
 have hXe:X'.xe=fun _ _=>False:=by rw [← hX];rfl
 have hEx:X'.ex=fp:=by rw [← hX];rfl
 have hPn:X'.pn=[]:=by rw [← hX];rfl
 have hLo:X'.env.locals=g3.objs.size:=by rw [← hX];rfl
 have hEn:X'.env=compEnvC scope (oU X.env scope.names []) g3.objs.size X.env:=by rw [← hX];rfl
 have hg':=hg g3.objs.size fp { s2 with heap:=g3,toks:=s2.toks } (upd H2 s2.heap.objs.size (eA X.prog X.w s2.heap.objs.size []))
 have hf':=hf g3.objs.size fp { s2 with heap:=g3,toks:=s2.toks } (upd H2 s2.heap.objs.size (eA X.prog X.w s2.heap.objs.size []))
 have hk':=hk g3.objs.size fp { s2 with heap:=g3,toks:=s2.toks } (upd H2 s2.heap.objs.size (eA X.prog X.w s2.heap.objs.size []))
 rw [hX] at hg' hf' hk'
 have I4':Inv X' [] (dz nl ix σ) (upd H2 s2.heap.objs.size (eA X.prog X.w s2.heap.objs.size [])) { s2 with heap:=h₁,toks:=s2.toks+([]:List (Str×Value)).length }:=I4
 have back:∀ {H':Hp} {σ':St} {pins':List (Addr×Obj)} {s':Shared} {h':Heap},Inv X' pins' σ' H' s'->Heap.SameBut g3.objs.size s'.heap h'->Inv X pins σ H' { s' with heap:=h' }:=fun I' sb=>by
  subst hX
  exact jt I3 f3 I' sb
 have stat:∀ {H':Hp},(∀ b∈fp,H' b=none)->∀ b∈fp,nX X' [] H' b:=fun hn b hb=>by
  refine⟨hn b hb,?_,?_,.inl (by rw [hEx];exact hb),?_,fun p hp=>by rw [hPn] at hp;cases hp⟩
  ·rw [hLo];exact ae4 (fpo3 b hb)
  ·exact I4'.ok.exfs b (by rw [hEx];exact hb)
  ·exact (I4'.ok.exf b (by rw [hEx];exact hb)).2
 have loop:codeAny (model X.prog X.w) X.A (.compLoop (.SetComp ex [⟨tg,iter,ifs,0⟩] scope pos) 0 (.ref it) (.ref s2.heap.objs.size) X'.env)
  (compPost (model X.prog X.w) X.A X.xe none (EP X pins σ Q) (.ref s2.heap.objs.size) g3.objs.size) { s2 with heap:=h₁,toks:=s2.toks+([]:List (Str×Value)).length }:=by
  rw [← hPr,← hWr,← hAr]
  refine vR (fun n s'=>∃ i ys H',Inv X' [] (dz nl ix σ) H' s'/\tn i s'.heap/\(∀ b∈fp,H' b=none)/\W i n ys H') ?_ m0
   ⟨0,[],_,I4',T.keep _ _ _ st2 (fun b hb o e=>old b o (by rw [← hS3];exact aeH _ e)),fun b hb=>(f3 b hb).1,w0⟩
  rintro n s5 ⟨i,ys,H5,I5,st5,fr5,w5⟩
  obtain⟨hD5,alt⟩:=turn i n ys H5 w5
  rcases alt with ⟨stop,qn⟩ | ⟨go,step⟩
  ·rw [hPr,hWr]
   refine thn (T.done X' hPr hWr hKr hCa i [] s5 _ H5 _ I5 (stat fr5) st5 stop) fun r s6 ⟨hr,I6⟩=>?_
   subst hr
   obtain⟨m,hn,_⟩:=I6.loc
   rw [hLo] at hn
   exact⟨m,hn,fun h' sb=>⟨.ref s2.heap.objs.size,H5,back I6 sb,rfl,qn⟩⟩
  ·have it5:=T.item X' hPr hWr hKr hCa i [] s5 _ H5 (fun _ _=>False) I5 (stat fr5) st5 go
   rw [← hPr,← hWr] at it5
   refine thn it5 fun r s6 ⟨u,hr,h6⟩=>?_
   subst hr
   refine thn h6 fun _ s7 ⟨x,H7,I7,r7,y7,st7,fr7⟩=>?_
   have I7':=I7.pinned (stat fr7) (T.obj _ _ st7)
   have g7:=hg' _ s7 _ H7 x u _ I7' r7 (step x H7 y7)
   rw [hXe] at g7
   refine thn g7 fun _ s8 ⟨σ8,H8,I8,⟨hl8,hd8⟩,q8⟩=>?_
   have f8:=hf' _ s8 σ8 H8 _ I8 q8
   rw [hXe] at f8
   refine thn f8 fun ok s9 ⟨H9,I9,q9⟩=>?_
   have again:∀ {H10:Hp} {s10:Shared} {ys':List Str},Inv X' ([]++jY fp s7.heap) σ8 H10 s10->(∃ m',m' < n/\W (i+1) m' ys' H10)->∃ m,m < n/\∃ i ys H',Inv X' [] (dz nl ix σ) H' s10/\tn i s10.heap/\(∀ b∈fp,H' b=none)/\W i m ys H':=fun {H10 s10 ys'} I10 ⟨m',hm,w'⟩=>by
    refine⟨m',hm,i+1,ys',H10,jl I10.unpinned hl8 hd8,T.keep _ _ _ st7 fun b hb o e=>(I10.pin (b,o) (aeL _ (aeL _ (cS hb e)))).1,fun b hb=>?_,w'⟩
    obtain⟨o,e,d⟩:=T.obj _ _ st7 b hb
    exact (I10.pin (b,o) (aeL _ (aeL _ (cS hb e)))).2.1
   cases ok with
   | false =>
    rw [if_neg aeM] at q9 ⊢
    exact again I9 q9
   | true =>
    rw [if_pos rfl] at q9 ⊢
    have e9:=hk' _ s9 σ8 H9 _ I9 q9
    rw [hXe] at e9
    refine thn e9 fun zv s10 ⟨z,H10,I10,r10,k,ez,hD10,hz,mw⟩=>?_
    subst ez
    have hadd:=oP (X:=X') _ s10 σ8 H10 (.ref s2.heap.objs.size) [.str k] (.ref s2.heap.objs.size) [zv] (fun _ H11=>∃ m',m' < n/\∃ ys',W (i+1) m' ys' H11) I10 rfl (.cons r10 .nil) ⟨_,ys,k,rfl,rfl,by rw [hPr,hWr];exact hD10,hz,fun ss' alt nd=>by
     obtain⟨m',hm,w'⟩:=mw ss' alt nd
     exact⟨m',hm,ss',by rw [hPr,hWr];exact w'⟩⟩
    rw [hXe] at hadd
    refine thn hadd fun _ s11 ⟨_,H11,I11,_,m',hm,ys',w'⟩=>?_
    exact again I11 ⟨m',hm,w'⟩
 rw [hEn] at loop
 exact rT loop (T.self _ 0 _ _ _ (T.keep _ _ _ st2 (fun b hb o e=>old b o (by rw [← hS3];exact aeH _ e))) loop)
end
def mz (P:Program)(w:World)(nl:Nat)(ix:List Nat)(g:TG)(tf:TT)(tk:TE)(σ:St)(D:Addr)(ys:List Str)(H:Hp)(x:V)(nxt:List Str->Hp->Prop):Prop :=
 g x (dz nl ix σ) H fun σ4 H4=>(σ4.length=(dz nl ix σ).length/\σ4.drop nl=ix.map fun j=>(σ[j]?).join)/\tf σ4 H4 fun b H5 =>
  if b=true then tk σ4 H5 fun z H6=>∃ k:Str,z=.str k/\H6 D=some (eA P w D ys)/\ys.length+1 < scanBound/\∀ ys',((k∈ys/\ys'=ys)\/(k ∉ ys/\ys'.Perm (ys++[k])))->ys'.Nodup->nxt ys' (upd H6 D (eA P w D ys')) else nxt ys H5
def wX (P:Program)(w:World)(nl:Nat)(ix:List Nat)(g:TG)(tf:TT)(tk:TE)(σ:St)(J:It)(H1:Hp)(D:Addr)(Q:VK):Prop :=
 ∃ W:Nat->Nat->List Str->Hp->Prop,(∃ m,W 0 m [] (upd H1 D (eA P w D []))) ∧
 ∀ i m ys H2,W i m ys H2->H2 D=some (eA P w D ys)/\((J.stop i H2/\Q (.ref D) H2)\/(J.go i H2/\∀ x H3,J.yld i H2 x H3->mz P w nl ix g tf tk σ D ys H3 x fun ys' H'=>∃ m',m' < m/\W (i+1) m' ys' H'))
theorem z6 (P:Program)(w:World)(nl:Nat)(ix:List Nat)(wi:TI)(g:TG)(tf:TT)(tk:TE)(σ:St)(H:Hp)(Q:VK)(h:wi σ H fun J H1=>∀ D,H1 D=none->wX P w nl ix g tf tk σ J H1 D Q):xX P w nl ix wi g tf tk σ H Q:=h
section
variable {P:Program}{w:World}{nl:Nat}{ix:List Nat}{g:TG}{tf:TT}{tk:TE}{σ:St}{H1:Hp}{D:Addr}{Q:VK}(Pv:Nat->List Str->Hp->Prop)
theorem vo {K:PySem.W.Frag}{a:Addr}{xs:List V}(h0:Pv 0 [] (upd H1 D (eA P w D [])))(hD:∀ i ys H,Pv i ys H->H D=some (eA P w D ys))(hl:∀ i ys H,Pv i ys H->SqL K H a xs)
 (hs:∀ i ys H x,xs[i]? = some x->Pv i ys H->mz P w nl ix g tf tk σ D ys H x fun ys' H'=>Nx xs.length i (Pv (i+1) ys' H'))(hd:∀ ys H,Pv xs.length ys H->Q (.ref D) H):wX P w nl ix g tf tk σ (Itl K a) H1 D Q:=by
 refine⟨fun i m ys H=>m=xs.length - i/\i<=xs.length/\Pv i ys H,⟨xs.length,by simp,ae2 _,h0⟩,?_⟩
 rintro i m ys H ⟨rfl,hi,p⟩
 refine⟨hD i ys H p,?_⟩
 by_cases hlt:i < xs.length
 ·refine .inr ⟨⟨xs,xs[i],hl i ys H p,by simp [hlt]⟩,fun x H' y=>?_⟩
  obtain⟨e,y⟩:=y
  subst e
  exact hs i ys H' x (y xs (hl i ys H' p)) p
 ·have e:i=xs.length:=by omega
  subst e
  exact .inl ⟨⟨xs,hl _ ys H p,aeN _⟩,hd ys H p⟩
end
section
variable {X:Cx}{P:Program}{w:World}{outer scope:Scope}{N N':List Str}{nl:Nat}{ix:List Nat}{tg iter:Expr}{ifs:List Expr}{pos:Pos}{wi:TI}{g:TG}{tf:TT}
theorem adR {ex:Expr}{tk:TE}(h1:X.env.scope=outer)(h2:X.N=N)(hc:X.calm=true)(hi:PI X tg iter wi)
 (hg:∀ C fp s₀ H₀,PG (X.comp scope N' C fp s₀ H₀) tg g)(hf:∀ C fp s₀ H₀,PIf (X.comp scope N' C fp s₀ H₀) ifs tf)(hk:∀ C fp s₀ H₀,PE (X.comp scope N' C fp s₀ H₀) ex tk)
 (hP:X.prog=P:=by rfl)(hw:X.w=w:=by rfl)(hck:jj outer scope N N' nl ix=true:=by decide +kernel)(hs:∀ x,foldedSetIterable iter X.env x=pure x:=by intro _;rfl):PE X (.SetComp ex [⟨tg,iter,ifs,0⟩] scope pos) (xX P w nl ix wi g tf tk) :=
 let ⟨S,Cp⟩:=iZ h1 h2 hck
 aax hP hw hc S Cp hi hg hf hk hs
end
end L2
namespace K7
open PySem L2 PyProof.Rows
section
variable {P:Program}{w:World}{K:PySem.W.Frag}{mg:Str->Option Value}{base:Heap}
theorem scCounted:aO ["house","keys","locks","room_locks","within"] ["house"] (aq eQ):=⟨rfl,rfl,rfl,by decide +kernel,rfl,by decide +kernel,by decide +kernel⟩
abbrev xr:Expr:=pD ((aH eQ).getD 4 (.Pass ⟨0,0,0,0⟩))
theorem yY:jj (aq eQ) (jv xr) ["house","keys","locks","room_locks","within"] ["kind","keys","locks"] 1 [1,2]=true:=by decide +kernel
theorem nd6:(["kind","keys","locks"]:List Str).Nodup:=by decide +kernel
theorem vm {f fR:Addr}{fd fdR:FuncData}(F:Fun K "kinds_counted" "kinds_counted" eQ f fd)(GR:aV P w K mg base CX0 6 fR fdR ["thing"] tO)(cR:Cal K mg "require_house" ["thing"] fR fdR)
 (mLi:mg "list" = none)(mSo:mg "sorted" = none)(mSe:mg "set" = none):aV P w K mg base CX0 7 f fd ["house"] iq:=by
 refine F.ok scCounted (fun vs H Q E h=>?_) (fun cdv A outer s H vs Q E hr h=>?_)
 ·obtain⟨v,r,rfl,_⟩:=h
  rfl
 ·obtain⟨v,hs,rfl,hh,ok,⟨⟨U,hU,hUm⟩,nk,nl⟩,k⟩:=h
  obtain⟨S,Cp⟩:=iZ (X:=(wj CX0 P w K mg base ["house","keys","locks","room_locks","within"] "kinds_counted" (aq eQ) f cdv A outer s H E).nox) (outer:=aq eQ) (N:=["house","keys","locks","room_locks","within"]) rfl rfl yY
  refine⟨_,ak (bC (ax GR hr rfl cR.mg cR.kp cR.b .nil aP (ae (pv 0) ai)))
   (ak (aI (i:=1) scCounted.nd rfl (Or.inr rfl) (bF b9 rfl mLi (by decide +kernel) (ae (aT bu (pv 0) av (fun _ _=>rfl)) ai)))
   (ak (aI (i:=2) scCounted.nd rfl (Or.inr rfl) (gT ai))
   (ak (dU afl rfl (bT (aT bu (pv 0) av (fun _ _=>rfl)))
    (eG rfl (aG (ay (i:=3) scCounted.nd rfl (Or.inl rfl)) (aG (ay (i:=4) scCounted.nd rfl (Or.inl rfl)) bY)))
    (ak (bC (fw aeS agE agF h7 (pv 2) (ae (pv 3) ai)))
    (au (bC (fw aeS agE agF h7 (pv 1) (ae (pv 4) ai))))))
   (au (aN (zR (tg:=.Name "kind" _) rfl S Cp (bT (aw (dj rfl) rfl mSo agO (ae (bF (gQ rfl) rfl mSe (by decide +kernel) (ae (bq n4 (pv 1) (pv 2)) ai)) ai)))
    (fun _ _ _ _=>ay (i:=0) nd6 rfl (Or.inl rfl) (.inr rfl)) (fun _ _ _ _=>dv) (fun _ _ _ _=>pv 0)
    (fun _ _ _ _=>fX (ae (lV (K:=K) rfl aeS agr ags iA (pv 1) (ae (pv 0) ai))
     (ae (lV (K:=K) rfl aeS agr ags iA (pv 2) (ae (pv 0) ai)) ai))))))))),?_⟩
  refine⟨_,rfl,v,hs,rfl,hh,ok,fun H1 s1=>?_⟩
  obtain⟨t,a,r,vs,rfl,ht,ha,hr',hR⟩:=hh.same s1
  refine⟨_,rfl,t,_,0,.ref a,rfl,rfl,SqT.of ht,rfl,a,_,rfl,.inl (SqL.of ha),fun kA nA=>?_⟩
  have m1:Same H1 (upd H1 kA (.lst (hs.1.map V.str))):=fun b u e=>by rw [ah (af e nA)];exact e
  refine⟨ae2 _,fun lA nL=>?_⟩
  have nkl:kA≠lA:=af (show (upd H1 kA (.lst (hs.1.map V.str))) kA=some _ from ag) nL
  have nL1:H1 lA=none:=m1.free nL
  have m2:Same H1 (upd (upd H1 kA (.lst (hs.1.map V.str))) lA (.lst [])):=fun b u e=>by rw [ah (af e nL1)];exact m1 b u e
  refine⟨_,rfl,t,_,1,.ref r,rfl,rfl,SqT.of (m2 _ _ ht),rfl,r,rfl,⟨_,SqL.of (m2 _ _ hr')⟩,?_⟩
  have kl:∀ i,(hs.1++(hs.2.take i).flatMap (·.2)).length<=1000:=fun i=>by
   have:=lR (fun x:Rm=>x.2) hs.2 i
   unfold bg at nk
   rw [aeG] at nk ⊢
   omega
  have ll:∀ i,((hs.2.take i).flatMap (·.1)).length<=1000:=fun i=>afk (lR (fun x:Rm=>x.1) hs.2 i) nl
  refine eR (xs:=vs) (fun i σ H2=>∃ x3 x4,σ=[some (.ref t),some (.ref kA),some (.ref lA),x3,x4]/\H2 kA=some (.lst ((hs.1++(hs.2.take i).flatMap (·.2)).map V.str))/\H2 lA=some (.lst (((hs.2.take i).flatMap (·.1)).map V.str))/\Same H1 H2) ?_ (fun i σ H2 _ ⟨_,_,_,_,_,sm⟩=>SqL.of (sm _ _ hr')) ?_ ?_
  ·exact⟨none,none,rfl,by rw [ah nkl,ag];simp,by rw [ag];rfl,m2⟩
  ·rintro i x σ H2 hx ⟨x3,x4,rfl,hk,hlk,sm⟩
   have hi:i < vs.length:=(aeJ.mp hx).1
   have hi':i < hs.2.length:=by rw [← hR.1];exact hi
   obtain⟨tt,aa,bb,rfl,q1,q2,q3⟩:=hR.2 i x _ hx (aeC hi')
   have g1:=sm _ _ q1
   have g2:=sm _ _ q2
   have g3:=sm _ _ q3
   have naL:aa≠lA:=af q2 nL1
   have nbL:bb≠lA:=af q3 nL1
   have nbK:bb≠kA:=af q3 nA
   have l1:=ll (i+1)
   have k1:=kl (i+1)
   rw [gb _ _ _ hi',aeG] at l1
   rw [gb _ _ _ hi',← aeW,aeG] at k1
   refine⟨tt,_,rfl,SqT.of g1,rfl,.ref aa,[.ref bb],rfl,.ref bb,[],rfl,rfl,?_⟩
   refine⟨_,rfl,.inl ⟨rfl,_,SqL.of hlk⟩,_,rfl,lA,aa,_,_,rfl,rfl,hlk,g2,?_,?_⟩
   ·rw [aeD,aeD];exact afb (aD l1)
   ·have hk3:(upd H2 lA (.lst (((hs.2.take i).flatMap (·.1)).map V.str++(hs.2[i]).1.map V.str))) kA=some (.lst ((hs.1++(hs.2.take i).flatMap (·.2)).map V.str)):=by rw [ah nkl];exact hk
    have g3':(upd H2 lA (.lst (((hs.2.take i).flatMap (·.1)).map V.str++(hs.2[i]).1.map V.str))) bb=some (.lst ((hs.2[i]).2.map V.str)):=by rw [ah nbL];exact g3
    refine⟨_,rfl,.inl ⟨rfl,_,SqL.of hk3⟩,_,rfl,kA,bb,_,_,rfl,rfl,hk3,g3',?_,?_⟩
    ·rw [aeD,aeD];exact afb (aD k1)
    ·refine⟨_,_,rfl,?_,?_,fun b u e=>?_⟩
     ·rw [ag,gb _ _ _ hi',← aeW,aeO (l₂:=(hs.2[i]).2)]
     ·rw [ah (agz nkl),ag,gb _ _ _ hi',aeO]
     ·rw [ah (af e nA),ah (af e nL1)]
      exact sm b u e
  ·rintro σ H2 ⟨x3,x4,rfl,hk,hlk,sm⟩
   have ek:hs.1++(hs.2.take vs.length).flatMap (·.2)=bg hs:=by rw [hR.1,afm];rfl
   have el:(hs.2.take vs.length).flatMap (·.1)=aK hs:=by rw [hR.1,afm];rfl
   rw [ek] at hk
   rw [el] at hlk
   dsimp only [wy]
   refine aap _ _ _ _ _ _ _ _ _ _ ?_
   refine⟨_,rfl,_,rfl,kA,lA,_,_,rfl,rfl,hk,hlk,by rw [aeD,aeD];exact afk (Nat.add_le_add nk nl) (by decide),fun cA nC=>?_⟩
   refine⟨cA,bg hs++aK hs,rfl,SqL.of (by rw [ag,aeO]),by rw [aeG];exact aff (ahF (Nat.add_le_add nk nl) 1) (by decide),fun sA ts nS hts=>?_⟩
   have tl:ts.length < 64:=aff (aF (U:=U) hts.1 fun x hx=>hUm x (aeI.mp ((hts.2 x).mp hx))) hU
   refine⟨sA,ts,rfl,ag,tl,fun oA ss nO hp hso=>?_⟩
   dsimp only [wj]
   generalize hH3:upd (upd (upd H2 cA (.lst ((bg hs).map V.str++(aK hs).map V.str))) sA (eA P w sA ts)) oA (.lst (ss.map V.str))=H3
   have sm3:Same H2 H3:=fun b u e=>by
    have n1:b≠cA:=af e nC
    have e1:(upd H2 cA (.lst ((bg hs).map V.str++(aK hs).map V.str))) b=some u:=by rw [ah n1];exact e
    have n2:b≠sA:=af e1 nS
    have e2:(upd (upd H2 cA (.lst ((bg hs).map V.str++(aK hs).map V.str))) sA (eA P w sA ts)) b=some u:=by rw [ah n2];exact e1
    rw [← hH3,ah (af e2 nO)]
    exact e2
   have ho3:H3 oA=some (.lst (ss.map V.str)):=by rw [← hH3];exact ag
   have hk3:=sm3 _ _ hk
   have hl3:=sm3 _ _ hlk
   have smem:∀ x,x∈ss↔(x∈bg hs\/x∈aK hs):=fun x=>by rw [hp.mem_iff,hts.2 x,aeI]
   have snd:ss.Nodup:=hp.nodup_iff.mpr hts.1
   have sl:ss.length < 64:=by rw [hp.length_eq];exact tl
   refine⟨oA,rfl,⟨_,SqL.of ho3⟩,?_⟩
   intro D hD
   refine wo (xs:=ss.map V.str) (fun i ys H4=>ys.map (·.1)=(ss.take i).map Sum.inr/\i<=64/\(∀ x v,(Sum.inr x,v)∈ys->∃ t:Addr,v=.ref t/\H4 t=some (.tup [.int (((bg hs).count x:Nat):Int),.int (((aK hs).count x:Nat):Int)]))/\H4 D=some (.dK ys)/\Same H3 H4)
    ⟨rfl,by decide,(fun x v h=>nomatch h),ag,fun b u e=>by rw [ah (af e hD)];exact e⟩ (fun i ys H4 ⟨_,_,_,h,_⟩=>h) (fun i ys H4 ⟨_,_,_,_,sm4⟩=>SqL.of (sm4 _ _ ho3)) ?_ ?_
   ·rintro i ys H4 x hx ⟨hy,hi0,hv,hD4,sm4⟩
    have hi:i < (ss.map V.str).length:=(aeJ.mp hx).1
    have hi':=hi
    rw [aeD] at hi'
    rw [aeP,aeC hi'] at hx
    cases hx
    have hk4:=sm4 _ _ hk3
    have hl4:=sm4 _ _ hl3
    refine vU rfl ?_
    refine⟨_,rfl,?_⟩
    refine⟨_,rfl,.inl ⟨rfl,_,SqL.of hk4⟩,_,rfl,kA,bg hs,ss[i],rfl,rfl,hk4,?_⟩
    refine⟨_,rfl,.inl ⟨rfl,_,SqL.of hl4⟩,_,rfl,lA,aK hs,ss[i],rfl,rfl,hl4,?_⟩
    refine⟨by show 2<=sizeLine;decide,fun tA nT=>?_⟩
    have nD:D≠tA:=af hD4 nT
    have yl:ys.length=i:=by
     have:=aft List.length hy
     rw [aeD,aeD,ae9] at this
     omega
    have hnew:(Sum.inr ss[i]:Key) ∉ ys.map (·.1):=by
     rw [hy]
     intro z
     obtain⟨x,hx,e⟩:=ae3.mp z
     cases e
     obtain⟨j,hj,e⟩:=afS.mp hx
     rw [ag8] at e
     rw [ae9] at hj
     have hd:=agc.mp snd j i (by omega) hi' (by omega)
     exact hd e
    have hvn:fq ys (Sum.inr ss[i])=none:=by
     cases q:fq ys (Sum.inr ss[i]) with
     | none=>rfl
     | some v=>exact absurd (ae3.mpr ⟨_,uH q,rfl⟩) hnew
    refine⟨Sum.inr ss[i],rfl,by rw [ah nD];exact hD4,by rw [yl];exact aD (by omega),nx hi ⟨?_,by omega,?_,ag,fun b u e=>?_⟩⟩
    ·rw [pj _ hvn,aeO,hy,afc,aeC hi',aeO]
     rfl
    ·intro x v h
     rw [pj _ hvn] at h
     rcases aeI.mp h with h | h
     ·obtain⟨t',e,q⟩:=hv x v h
      exact⟨t',e,by rw [ah (bX q hD4 (fun z=>nomatch z)),ah (af q nT)];exact q⟩
     ·have h':=aeF.mp h
      cases h'
      exact⟨tA,rfl,by rw [ah (agz nD),ag]⟩
    ·rw [ah (af e hD)]
     have:=sm4 b u e
     rw [ah (af this nT)]
     exact this
   ·rintro ys H4 ⟨hy,_,hv,hD4,sm4⟩
    rw [aeD,afm] at hy
    refine k D ys H4 ((s1.trans (sm.trans sm3)).free hD) (s1.trans (sm.trans (sm3.trans sm4))) hD4 ⟨?_,fun q=>?_,hv⟩
    ·rw [hy]
     exact List.Pairwise.map _ (fun a b h z=>h (by cases z;rfl)) snd
    ·rw [hy,ae3]
     exact⟨fun ⟨x,hx,e⟩=>⟨x,e.symm,(smem x).mp hx⟩,fun ⟨x,e,hx⟩=>⟨x,(smem x).mpr hx,e.symm⟩⟩
def lP (h:Hs):Bool:=h.2.all fun r=>decide (r.1.length=1)
def tG:Sp:=fun vs H Q _=>∃ (v:V) (h:Hs),vs=[v]/\HouseAt H v h/\fo h/\∀ H',Same H H'->Q (.bl (lP h)) H'
def iD:Sp:=fun vs H Q _=>∃ (v:V) (h:Hs),vs=[v]/\HouseAt H v h/\fo h/\lP h=true/\∀ H',Same H H'->Q .non H'
theorem rQ:aO ["house"] ["house"] (aq dP):=⟨rfl,rfl,rfl,by decide +kernel,rfl,by decide +kernel,by decide +kernel⟩
theorem jr:(["locks","within"]:List Str).Nodup:=by decide +kernel
theorem kL:aO ["thing"] ["thing"] (aq b6):=⟨rfl,rfl,rfl,by decide +kernel,rfl,by decide +kernel,by decide +kernel⟩
theorem zo {f fQ:Addr}{fd fdQ:FuncData}(F:Fun K "is_plain" "is_plain" dP f fd)(bS:aV P w K mg base CX0 6 fQ fdQ ["thing"] tO)(aB:Cal K mg "require_house" ["thing"] fQ fdQ)(qY:mg "all" = none)(aY:mg "len" = none):aV P w K mg base CX0 7 f fd ["house"] tG:=by
 refine F.ok rQ (fun vs H Q E h=>?_) (fun cdv A outer s H vs Q E hr h=>?_)
 ·obtain⟨v,h,rfl,_⟩:=h
  rfl
 ·obtain⟨v,h,rfl,hh,ok,k⟩:=h
  refine⟨_,(ak (bC (ax bS hr rfl aB.mg aB.kp aB.b .nil aP (ae (pv 0) ai)))
   (au (aN (aw (jo rfl) rfl qY (by decide +kernel) (ae (lx (outer:=aq (dP)) (N:=["house"]) (N':=["locks","within"]) (nl:=2) (ix:=[]) rfl rfl rfl (bT (aT bu (pv 0) av (fun _ _=>rfl)))
    (fun _ _ _ _=>(mT (K:=K) (n:=2) rfl rfl (aG (ay (i:=0) jr rfl (Or.inl rfl) (.inr rfl)) (aG (ay (i:=1) jr rfl (Or.inl rfl) (.inr rfl)) bY)))) (fun _ _ _ _=>dv)
    (fun _ _ _ _=>(cV gB (aw (jn (K:=K) rfl) rfl aY ae8 (ae (pv 0) ai)) av (bj _)))) ai))))),?_⟩
  refine⟨_,rfl,v,h,rfl,hh,ok,fun H1 s1=>?_⟩
  obtain⟨t,a,r,vs,rfl,ht,ha,hrr,hR⟩:=hh.same s1
  dsimp only [uc,wy,tCB,gq,mP]
  refine bE _ _ _ _ _ _ _ _ _ ?_
  refine⟨_,rfl,t,_,1,.ref r,rfl,rfl,SqT.of ht,rfl,r,rfl,⟨_,SqL.of hrr⟩,?_⟩
  intro D hD
  have hl:=hR.1
  have rl:=ok.rl
  refine cZ (xs:=vs) (fun i ys H2=>ys=((h.2.take i).map fun r=>decide (r.1.length=1)).map V.bl/\i<=h.2.length/\H2 D=some (.lst ys)/\Same H1 H2) ⟨rfl,ae2 _,ag,fun b u e=>by rw [ah (af e hD)];exact e⟩ (fun i ys H2 ⟨_,_,h,_⟩=>h) (fun i ys H2 ⟨_,_,_,sm⟩=>SqL.of (sm r _ hrr)) ?_ ?_
  ·rintro i ys H2 x hx ⟨rfl,hi0,hD2,sm⟩
   have hi:i < vs.length:=(aeJ.mp hx).1
   have hi':i < h.2.length:=by omega
   have er:h.2[i]? = some h.2[i]:=aeC hi'
   obtain⟨tt,aa,bb,rfl,g1,g2,g3⟩:=(hR.2 i x _ hx er).same sm
   refine uj tt (.ref aa) (.ref bb) rfl (SqT.of g1) rfl ?_
   refine⟨_,rfl,aa,_,rfl,.inl (SqL.of g2),rfl,hD2,by rw [aeD,aeD,ae9];exact aD (by omega),nx hi ⟨?_,by omega,ag,fun b u e=>?_⟩⟩
   ·rw [List.take_succ,er,aeO,aeO]
    simp only [agZ,aeZ,aii,aeD]
    congr 3
    by_cases q:(h.2[i]).1.length=1
    ·rw [q];rfl
    ·rw [afq q,afq]
     intro z
     injection z with z
     omega
   ·rw [ah (af e hD)]
    exact sm b u e
  ·rintro ys H2 ⟨rfl,_,hD2,sm⟩
   refine⟨D,_,rfl,SqL.of hD2,?_⟩
   have z3:=k H2 (s1.trans sm)
   have e3:lP h=(((h.2.take vs.length).map fun r=>decide (r.1.length=1)).all id):=by
    rw [hl,afm,aj0]
    rfl
   rw [e3] at z3
   exact z3
theorem tR {f fL:Addr}{fd fdL:FuncData}(F:Fun K "require_plain" "require_plain" b6 f fd)(vh:aV P w K mg base CX0 7 fL fdL ["house"] tG)(gv:Cal K mg "is_plain" ["house"] fL fdL):aV P w K mg base CX0 8 f fd ["thing"] iD:=by
 refine F.ok kL (fun vs H Q E h=>?_) (fun cdv A outer s H vs Q E hr h=>?_)
 ·obtain⟨v,h,rfl,_⟩:=h
  rfl
 ·obtain⟨v,h,rfl,hh,ok,pl,k⟩:=h
  refine⟨_,(au (cU (eF (d6 (ax vh hr rfl gv.mg gv.kp gv.b .nil aP (ae (pv 0) ai))))
   jw aU)),?_⟩
  refine⟨_,rfl,v,h,rfl,hh,ok,fun H1 s1=>⟨true,by rw [pl],gu (k H1 s1)⟩⟩
theorem xW {H:Hp}{kvs:List (Key×V)}{ks ls:List Str}(c:CountMap H kvs ks ls)(k:Str) :
 (∃ t:Addr,fq kvs (Sum.inr k)=some (.ref t)/\H t=some (.tup [.int ((ks.count k:Nat):Int),.int ((ls.count k:Nat):Int)]))\/(fq kvs (Sum.inr k)=none/\ks.count k=0/\ls.count k=0):=by
 cases e:fq kvs (Sum.inr k) with
 | some v =>
  obtain⟨t,rfl,ht⟩:=c.val k v (uH e)
  exact .inl ⟨t,rfl,ht⟩
 | none =>
  have no:Sum.inr k ∉ kvs.map (·.1):=fun hm=>by
   obtain⟨⟨k',v⟩,hkv,ek⟩:=ae3.mp hm
   have ek':k'=Sum.inr k:=ek
   subst ek'
   unfold fq at e
   rw [Option.map_eq_none_iff,List.find?_eq_none] at e
   exact e _ hkv (by simp)
  have no':¬(k∈ks\/k∈ls):=fun z=>no ((c.mem _).mpr ⟨k,rfl,z⟩)
  exact .inr ⟨rfl,ah1.mpr fun z=>no' (.inl z),ah1.mpr fun z=>no' (.inr z)⟩
theorem abe (a b c d:Int):PyData.eqv (.tuple [.int a,.int b]) (.tuple [.int c,.int d])=decide (a=c/\b=d):=by
 have:PyData.eqv (.tuple [.int a,.int b]) (.tuple [.int c,.int d])=true↔(a=c/\b=d):=by
  simp [PyData.eqv,PyData.eqvAll]
 by_cases h:a=c/\b=d
 ·rw [afi h];exact this.mpr h
 ·rw [afq h]
  cases e:PyData.eqv (.tuple [.int a,.int b]) (.tuple [.int c,.int d])
  ·rfl
  ·exact absurd (this.mp e) h
theorem wY {H:Hp}{kvs:List (Key×V)}{ks ls:List Str}(c:CountMap H kvs ks ls):∃ ss:List Str,kvs.map (·.1)=ss.map Sum.inr/\ss.Nodup/\∀ x∈ss,x∈ks\/x∈ls:=by
 have gen:∀ l:List Key,(∀ q∈l,∃ x,q=Sum.inr x/\(x∈ks\/x∈ls))->∃ ss:List Str,l=ss.map Sum.inr/\∀ x∈ss,x∈ks\/x∈ls:=fun l=>by
  induction l with
  | nil=>intro _;exact⟨[],rfl,fun _ h=>nomatch h⟩
  | cons q l ih =>
   intro h
   obtain⟨ss,rfl,k⟩:=ih fun q hq=>h q (aeV _ hq)
   obtain⟨x,rfl,hx⟩:=h q aeQ
   refine⟨x::ss,rfl,fun y hy=>?_⟩
   rcases aeX.mp hy with e | e
   ·rw [e];exact hx
   ·exact k y e
 obtain⟨ss,e,k⟩:=gen _ fun q hq=>(c.mem q).mp hq
 refine⟨ss,e,?_,k⟩
 have:=c.nd
 rw [e] at this
 exact List.Pairwise.of_map _ (fun a b h z=>h (by rw [z])) this
def FewK (h:Hs)(k:Str):Prop:=(bg h).count k < (aK h).count k
def uw (h:Hs)(k:Str):Prop:=FewK h k/\∀ k',FewK h k'->leS k k'
abbrev ad5 (h:Hs)(k:Str):List V:=[.str "few",.str k,.int (((bg h).count k:Nat):Int),.int (((aK h).count k:Nat):Int)]
def xU:Sp:=fun vs H Q _=>∃ (v:V) (h:Hs),vs=[v]/\HouseAt H v h/\HouseD h/\(∀ H',Same H H'->(∀ k,¬ FewK h k)->Q .non H')/\∀ (t:Addr) (k:Str) (H':Hp),Same H H'->H' t=some (.tup (ad5 h k))->uw h k->Q (.ref t) H'
inductive FpI (h:Hs)(ss:List Str)(H2:Hp)(i:Nat)(f:Option V->Option V->Option V->L2.St)(σ:L2.St)(H':Hp):Prop
 | mk (x2 x3 x4:Option V):σ=f x2 x3 x4->Same H2 H'->(∀ k∈ss.take i,¬ FewK h k)->FpI h ss H2 i f σ H'
theorem FewK.mem {h:Hs}{k:Str}(x:FewK h k):k∈aK h:=afF.mp (aff (ae2 _) x)
theorem xw {ss:List Str}(so:sortedS ss=true){i:Nat}(hi:i < ss.length){k:Str}(hk:k∈ss)(no:k ∉ ss.take i):leS ss[i] k:=by
 have pw:=bH so
 have e:ss=ss.take i++ss[i]::ss.drop (i+1):=by rw [← afQ hi,afp]
 generalize ss[i]=z at *
 rw [e,afn,afE] at pw
 rw [e] at hk
 rcases aeI.mp hk with m | m
 ·exact absurd m no
 ·rcases aeX.mp m with m | m
  ·rw [m];exact leS_iff.mpr (alm _)
  ·exact pw.2.1.1 k m
theorem fh:aO ["house","counts","kind","keys","locks"] ["house"] (aq d4):=⟨rfl,rfl,rfl,by decide +kernel,rfl,by decide +kernel,by decide +kernel⟩
theorem aa7 {f fC:Addr}{fd fdC:FuncData}(F:Fun K "few_paper" "few_paper" d4 f fd)(de:aV P w K mg base CX0 7 fC fdC ["house"] iq)(aJ:Cal K mg "kinds_counted" ["house"] fC fdC)(aS:mg "sorted" = none):aV P w K mg base CX0 8 f fd ["house"] xU:=by
 refine F.ok fh (fun vs H Q E h=>?_) (fun cdv A outer s H vs Q E hr h=>?_)
 ·obtain⟨v,h,rfl,_⟩:=h
  rfl
 ·obtain⟨v,h,rfl,hh,hD,q1,q2⟩:=h
  have hu:=m7 hr
  refine⟨_,(ak (aI (i:=1) fh.nd rfl (Or.inl rfl) (ax de hr rfl aJ.mg aJ.kp aJ.b .nil aP (ae (pv 0) ai)))
   (ak (bB (dU afl rfl (bT (aw (gW rfl) rfl aS agO (ae (pv 1) ai))) (ay (i:=2) fh.nd rfl (Or.inl rfl))
    (ak (hJ (i6 hu (pv 1) (pv 2) (fun _ _=>rfl)) (eG rfl (aG (ay (i:=3) fh.nd rfl (Or.inl rfl)) (aG (ay (i:=4) fh.nd rfl (Or.inl rfl)) bY))))
    (au (cU (aX za (pv 4) (pv 3) (bj _))
     (au (aN (fX (ae cP (ae (pv 2) (ae (pv 3) (ae (pv 4) ai))))))) aU)))))
   (au (aN aaB)))),?_⟩
  refine⟨_,rfl,v,h,rfl,hh,hD.ok,hD.few',fun d kvs H1 nd s1 hd cm=>?_⟩
  obtain⟨ss,ess,ssn,ssm⟩:=wY cm
  obtain⟨U,ul,inU⟩:=hD.few
  have ssl:ss.length<=62:=afk (aF (U:=U) ssn fun x hx=>inU x (ssm x hx)) ul
  have lin:∀ k∈aK h,k∈ss:=fun k hk=>by
   have:=(cm.mem (Sum.inr k)).mpr ⟨k,rfl,.inr hk⟩
   rw [ess] at this
   obtain⟨x,hx,e⟩:=ae3.mp this
   injection e with e
   rw [← e];exact hx
  refine⟨fun σ' H'=>Same H1 H'/\∀ k,¬ FewK h k,fun σ' H' z=>q1 H' (s1.trans z.1) z.2,?_⟩
  refine⟨_,rfl,d,kvs,ss,rfl,hd,ess,by omega,fun sl sk nsl perm so=>?_⟩
  have s2:Same H1 (upd H1 sl (.lst (sk.map V.str))):=ar nsl
  have e2:(upd H1 sl (.lst (sk.map V.str))) sl=some (.lst (sk.map V.str)):=ag
  generalize upd H1 sl (.lst (sk.map V.str))=H2 at *
  have lin':∀ k∈aK h,k∈sk:=fun k hk=>perm.mem_iff.mpr (lin k hk)
  have cm2:=cm.on s2.keepT
  refine⟨sl,rfl,⟨_,SqL.of e2⟩,?_⟩
  refine eR (xs:=sk.map V.str) (fun i σ' H'=>FpI h sk H2 i (fun x2 x3 x4=>[some v,some (.ref d),x2,x3,x4]) σ' H') ⟨none,none,none,rfl,Same.refl _,fun k hk=>by simp at hk⟩ (fun i σ H' _ ⟨_,_,_,_,sm,_⟩=>SqL.of (sm _ _ e2)) ?_ (fun σ H' ⟨_,_,_,_,sm,no⟩=>⟨s2.trans sm,fun k hk=>by rw [aeD,afm] at no;exact no k (lin' k hk.mem) hk⟩)
  rintro i x σ H3 hx ⟨x2,x3,x4,rfl,sm,no⟩
  have hi:i < sk.length:=by have:=(aeJ.mp hx).1;rwa [aeD] at this
  rw [aeP,aeC hi] at hx
  cases hx
  have hd3:=sm _ _ (s2 _ _ hd)
  have kin:sk[i]∈bg h\/sk[i]∈aK h:=ssm _ (perm.mem_iff.mp (afa hi))
  rcases xW (cm2.on sm.keepT) sk[i] with ⟨t',ev,ht'⟩ | ⟨_,c1,c2⟩
  rotate_left
  ·exfalso
   rcases kin with z | z
   ·exact absurd (afF.mpr z) (by omega)
   ·exact absurd (afF.mpr z) (by omega)
  have tk:sk.take (i+1)=sk.take i++[sk[i]]:=by rw [afc,aeC hi];rfl
  refine⟨_,rfl,_,rfl,d,.ref t',rfl,by rw [← ev];exact DGet.k (k:=Sum.inr sk[i]) hd3,t',_,rfl,SqT.of ht',rfl,_,_,rfl,_,_,rfl,rfl,?_⟩
  refine⟨_,rfl,_,rfl,_,_,rfl,rfl,_,rfl,rP (fun hb=>?_) (fun hb=>?_)⟩
  ·have hb':FewK h sk[i]:=by
    have:=agi hb
    unfold FewK
    omega
   refine⟨_,rfl,_,rfl,_,rfl,by show 4<=sizeLine;decide,fun t nt=>?_⟩
   refine q2 t sk[i] _ (s1.trans (s2.trans (sm.trans (ar nt)))) ag ⟨hb',fun k' hk'=>?_⟩
   exact xw so hi (lin' k' hk'.mem) fun z=>no k' z hk'
  ·refine⟨_,_,_,rfl,sm,fun k hk=>?_⟩
   rw [tk] at hk
   rcases aeI.mp hk with z | z
   ·exact no k z
   ·rw [aeF.mp z]
    intro y
    unfold FewK at y
    exact hb (afi (by omega))
theorem sq {P:Program}{w:World}{K:PySem.W.Frag}{nl:Nat}{ix:List Nat}{tf:TT}{te:TE}{σ:L2.St}{H1:Hp}{D r:Addr}{Q:VK}{vs:List V}{rs:List Rm}{pb:Rm->Bool}(hr:H1 r=some (.lst vs))(hR:RoomsAt H1 vs rs)(nD:H1 D=none)(hl:rs.length<=1000)
 (hc:∀ x y,(((dz nl ix σ).set 0 (some x)).set 1 (some y)).drop nl=ix.map fun j=>(σ[j]?).join)
 (ht:∀ (H:Hp) (rm:Rm) (aa bb:Addr) (R:Bool->Hp->Prop),rm∈rs->H aa=some (.lst (rm.1.map V.str))->Same H1 H->R (pb rm) H->tf (((dz nl ix σ).set 0 (some (.ref aa))).set 1 (some (.ref bb))) H R)
 (he:∀ (H:Hp) (rm:Rm) (aa bb:Addr) (R:VK),rm∈rs->H aa=some (.lst (rm.1.map V.str))->Same H1 H->R (.str (aA rm)) H->te (((dz nl ix σ).set 0 (some (.ref aa))).set 1 (some (.ref bb))) H R)
 (hd:∀ ys H,Same H1 H->H D=some (eA P w D ys)->ys.Nodup->(∀ x,x∈ys↔∃ m∈rs,pb m=true/\aA m=x)->Q (.ref D) H):wX P w nl ix (y4 K 2 (kQ (bJ 0) (kQ (bJ 1) aaW))) tf te σ (Itl K r) H1 D Q:=by
 have hl1:=hR.1
 have lim:1001 < scanBound:=by decide
 refine vo (xs:=vs) (fun i ys H=>i<=rs.length/\ys.Nodup/\ys.length<=i/\(∀ x,x∈ys↔∃ m∈rs.take i,pb m=true/\aA m=x)/\H D=some (eA P w D ys)/\Same H1 H) ⟨ae2 _,ahI,aeN _,fun x=>by simp,ag,ar nD⟩ (fun i ys H ⟨_,_,_,_,h,_⟩=>h) (fun i ys H ⟨_,_,_,_,_,s⟩=>SqL.of (s r _ hr)) ?_ ?_
 ·rintro i ys H x hx ⟨hi0,nd,yl,mem,hD,s⟩
  have hi:i < vs.length:=(aeJ.mp hx).1
  have hi':i < rs.length:=by omega
  have er:rs[i]? = some rs[i]:=aeC hi'
  have mr:rs[i]∈rs:=afa hi'
  have tk:rs.take (i+1)=rs.take i++[rs[i]]:=by rw [afc,er];rfl
  obtain⟨tt,aa,bb,rfl,g1,g2,g3⟩:=(hR.2 i x _ hx er).same s
  unfold mz y4 kQ bJ aaW
  refine⟨tt,_,rfl,SqT.of g1,rfl,.ref aa,[.ref bb],rfl,.ref bb,[],rfl,rfl,⟨by simp,hc _ _⟩,ht H rs[i] aa bb _ mr g2 s ?_⟩
  cases e:pb rs[i] with
  | true =>
   rw [if_pos rfl]
   refine he H rs[i] aa bb _ mr g2 s ⟨aA rs[i],rfl,hD,by omega,fun ys' alt nd'=>nx hi ⟨by omega,nd',?_,fun x=>?_,ag,fun b u e=>?_⟩⟩
   ·rcases alt with ⟨_,rfl⟩ | ⟨_,p⟩
    ·omega
    ·rw [p.length_eq,aeG,af0];omega
   ·have m1:x∈ys'↔x∈ys\/x=aA rs[i]:=by
     rcases alt with ⟨h1,rfl⟩ | ⟨_,p⟩
     ·exact⟨.inl,fun h=>h.elim id fun z=>z▸h1⟩
     ·rw [p.mem_iff,aeI,aeF]
    rw [m1,mem,tk]
    constructor
    ·rintro (⟨m,hm,q⟩ | z)
     ·exact⟨m,ae6 _ hm,q⟩
     ·exact⟨rs[i],aeL _ (aeF.mpr rfl),e,z.symm⟩
    ·rintro⟨m,hm,q1,q2⟩
     rcases aeI.mp hm with z | z
     ·exact .inl ⟨m,z,q1,q2⟩
     ·rw [aeF.mp z] at q2;exact .inr q2.symm
   ·rw [ah (af e nD)]
    exact s b u e
  | false =>
   rw [if_neg aeM]
   refine nx hi ⟨by omega,nd,by omega,fun x=>?_,hD,s⟩
   rw [mem,tk]
   constructor
   ·rintro⟨m,hm,q⟩
    exact⟨m,ae6 _ hm,q⟩
   ·rintro⟨m,hm,q1,q2⟩
    rcases aeI.mp hm with z | z
    ·exact⟨m,z,q1,q2⟩
    ·rw [aeF.mp z,e] at q1;cases q1
 ·rintro ys H ⟨_,nd,_,mem,hD,s⟩
  rw [hl1,afm] at mem
  exact hd ys H s hD nd mem
structure rJ (h:Hs)(ss:List Str):Prop where
 nd:ss.Nodup
 so:sortedS ss=true
 mem:∀ x,x∈ss↔(∃ m∈h.2,aA m=x)/\¬ Com h.1 h.2 x
theorem dW {h:Hs}(x:HouseD h):Plain h.2:=fun r hr=>by
 obtain⟨k,e⟩:=x.pl r hr
 unfold aA
 rw [e]
 rfl
theorem pE {h:Hs}(x:HouseD h):aK h=h.2.map aA:=by
 have:∀ rs:List Rm,Plain rs->rs.flatMap (·.1)=rs.map aA:=fun rs=>by
  induction rs with
  | nil=>intro _;rfl
  | cons a t ih =>
   intro p
   rw [afO,aeZ,ih fun r hr=>p r (aeV _ hr),p a aeQ]
   rfl
 exact this h.2 (dW x)
def tI:Sp:=fun vs H Q _=>∃ (v:V) (h:Hs),vs=[v]/\HouseAt H v h/\HouseD h/\∀ (l:Addr) (ss:List Str) (H':Hp),H l=none->Same H H'->H' l=some (.lst (ss.map V.str))->rJ h ss->Q (.ref l) H'
theorem jB:aO ["house","come"] ["house"] (aq cO):=⟨rfl,rfl,rfl,by decide +kernel,rfl,by decide +kernel,by decide +kernel⟩
theorem hG:(["locks","within","come"]:List Str).Nodup:=by decide +kernel
theorem zN {f fC:Addr}{fd fdC:FuncData}(F:Fun K "shut_kinds" "shut_kinds" cO f fd)(jM:aV P w K mg base CX0 7 fC fdC ["house"] jc)(cu:Cal K mg "kinds_that_come" ["house"] fC fdC)(aS:mg "sorted" = none):aV P w K mg base CX0 8 f fd ["house"] tI:=by
 refine F.ok jB (fun vs H Q E h=>?_) (fun cdv A outer s H vs Q E hr h=>?_)
 ·obtain⟨v,h,rfl,_⟩:=h
  rfl
 ·obtain⟨v,h,rfl,hh,hD,k⟩:=h
  refine⟨_,(ak (aI (i:=1) jB.nd rfl (Or.inr rfl) (ax jM hr rfl cu.mg cu.kp cu.b .nil aP (ae (pv 0) ai)))
   (au (aN (aw (dj rfl) rfl aS agO (ae (adR (P:=P) (w:=w) (outer:=aq (cO)) (N:=["house","come"]) (N':=["locks","within","come"]) (nl:=2) (ix:=[1]) rfl rfl rfl (bT (aT bu (pv 0) av (fun _ _=>rfl)))
    (fun _ _ _ _=>(mT (K:=K) (n:=2) rfl rfl (aG (ay (i:=0) hG rfl (Or.inl rfl) (.inr rfl)) (aG (ay (i:=1) hG rfl (Or.inl rfl) (.inr rfl)) bY)))) (fun _ _ _ _=>(jd (aX (oS (K:=K) rfl) (aT (gI (K:=K) rfl) (pv 0) av (fun _ _=>rfl)) (pv 2) rfl)))
    (fun _ _ _ _=>(aT (gI (K:=K) rfl) (pv 0) av (fun _ _=>rfl)))) ai))))),?_⟩
  have rl:=hD.rl
  refine⟨_,rfl,v,h,rfl,hh,hD.ok,hD.few',by omega,fun cA cs H1 s1 nC hC cnd cso com=>?_⟩
  obtain⟨t,a,r,vs,rfl,ht,ha,hrr,hR⟩:=hh.same s1
  have pl:=dW hD
  dsimp only [bJ,aaJ,wB,wy,tCB,gq,mP]
  refine z6 _ _ _ _ _ _ _ _ _ _ _ ?_
  refine⟨_,rfl,t,_,1,.ref r,rfl,rfl,SqT.of ht,rfl,r,rfl,⟨_,SqL.of hrr⟩,?_⟩
  intro D nD
  refine sq (pb:=fun m=>!inV (.str (aA m)) (cs.map V.str)) hrr hR nD (by omega) (fun x y=>rfl) (fun G rm aa bb R hm g2 sG q=>?_) (fun G rm aa bb R hm g2 sG q=>?_) (fun ys H2 s2 hD2 nd2 mem2=>?_)
  ·rw [pl rm hm] at g2
   exact⟨_,rfl,aa,_,0,.str (aA rm),rfl,rfl,SqL.of g2,rfl,_,rfl,cA,_,rfl,.inl (SqL.of (sG _ _ hC)),rfl,by simp [jh],_,rfl,q⟩
  ·rw [pl rm hm] at g2
   exact⟨_,rfl,aa,_,0,.str (aA rm),rfl,rfl,SqL.of g2,rfl,q⟩
  obtain⟨U,ul,inU⟩:=hD.few
  have yl:ys.length<=62:=afk (aF (U:=U) nd2 fun x hx=>by
   obtain⟨m,hm,_,e⟩:=(mem2 x).mp hx
   refine inU x (.inr ?_)
   rw [pE hD]
   exact ae3.mpr ⟨m,hm,e⟩) ul
  refine⟨D,ys,rfl,hD2,by omega,fun oA ss nO hp hso=>?_⟩
  have s02:=s1.trans s2
  refine k oA ss _ (s02.free nO) (s02.trans (ar nO)) ag ⟨hp.nodup_iff.mpr nd2,hso,fun x=>?_⟩
  rw [hp.mem_iff,mem2]
  have ni:∀ m:Rm,((!inV (.str (aA m)) (cs.map V.str))=true)↔¬ Com h.1 h.2 (aA m):=fun m=>by
   rw [iY,ahy,ah4]
   exact not_congr (com _)
  constructor
  ·rintro⟨m,hm,q1,q2⟩
   exact⟨⟨m,hm,q2⟩,by rw [← q2];exact (ni m).mp q1⟩
  ·rintro⟨⟨m,hm,q2⟩,nc⟩
   exact⟨m,hm,(ni m).mpr (by rw [q2];exact nc),q2⟩
inductive adT where
 | few (k:Str)
 | shut (ss:List Str)
 | all (o:List Nat)
def acL (h:Hs)(H0 H:Hp)(t:Addr):adT->Prop
 | .few k=>H t=some (.tup (ad5 h k))
 | .shut ss=>∃ l:Addr,H0 l=none/\H t=some (.tup [.str "shut",.ref l])/\H l=some (.lst (ss.map V.str))
 | .all o=>∃ l:Addr,H0 l=none/\H t=some (.tup [.str "all",.ref l])/\H l=some (.lst (aC o))
def acT (h:Hs):adT->Prop
 | .few k=>uw h k
 | .shut ss=>(∀ k,¬ FewK h k)/\rJ h ss/\ss≠[]
 | .all o=>(∀ k,¬ FewK h k)/\rJ h []/\Greedy h.2 h.1 (List.range h.2.length) o
def w9:Sp:=fun vs H Q _=>∃ (v:V) (h:Hs),vs=[v]/\HouseAt H v h/\HouseD h/\∀ (t:Addr) (x:adT) (H':Hp),Same H H'->acL h H H' t x->acT h x->Q (.ref t) H'
theorem fZ:aO ["house","few","kinds"] ["house"] (aq cj):=⟨rfl,rfl,rfl,by decide +kernel,rfl,by decide +kernel,by decide +kernel⟩
theorem abr {f fR fF fS fO:Addr}{fd fdR fdF fdS fdO:FuncData}(F:Fun K "told_opening" "told_opening" cj f fd)(gc:aV P w K mg base CX0 8 fR fdR ["thing"] iD)(br:Cal K mg "require_plain" ["thing"] fR fdR)(rR:aV P w K mg base CX0 8 fF fdF ["house"] xU)(gf:Cal K mg "few_paper" ["house"] fF fdF)
 (qW:aV P w K mg base CX0 8 fS fdS ["house"] tI)(fe:Cal K mg "shut_kinds" ["house"] fS fdS)(nv:aV P w K mg base CX0 4 fO fdO ["house"] sx)(dC:Cal K mg "order_of_all" ["house"] fO fdO):aV P w K mg base CX0 9 f fd ["house"] w9:=by
 refine F.ok fZ (fun vs H Q E h=>?_) (fun cdv A outer s H vs Q E hr h=>?_)
 ·obtain⟨v,h,rfl,_⟩:=h
  rfl
 ·obtain⟨v,h,rfl,hh,hD,q⟩:=h
  refine⟨_,(ak (bC (ax gc hr rfl br.mg br.kp br.b .nil aP (ae (pv 0) ai)))
   (ak (aI (i:=1) fZ.nd rfl (Or.inl rfl) (ax rR hr rfl gf.mg gf.kp gf.b .nil aP (ae (pv 0) ai)))
   (ak (cU (aX abU (pv 1) aaB (bj _))
    (au (aN (pv 1))) aU)
   (ak (aI (i:=2) fZ.nd rfl (Or.inl rfl) (ax qW hr rfl fe.mg fe.kp fe.b .nil aP (ae (pv 0) ai)))
   (ak (cU (o8 (pv 2) (by intro _;rfl))
    (au (aN (fX (ae cP (ae (pv 2) ai))))) aU)
   (au (aN (fX (ae cP (ae (ax nv (hr.mono (show 4<=8 by decide)) rfl dC.mg dC.kp dC.b .nil aP (ae (pv 0) ai)) ai)))))))))),?_⟩
  have plb:lP h=true:=by
   unfold lP
   rw [agH]
   intro r hr
   obtain⟨k,e⟩:=hD.pl r hr
   rw [e]
   rfl
  refine⟨_,rfl,v,h,rfl,hh,hD.ok,plb,fun H1 s1=>?_⟩
  refine⟨_,rfl,v,h,rfl,hh.same s1,hD,fun H2 s2 noF=>?_,fun t k H2 s2 ht ff=>?_⟩
  rotate_left
  ·refine⟨_,rfl,rfl,true,rfl,gU ?_⟩
   exact⟨_,rfl,q t (.few k) H2 (s1.trans s2) ht ff⟩
  refine⟨_,rfl,rfl,false,rfl,gu ?_⟩
  have s02:=s1.trans s2
  refine⟨_,rfl,v,h,rfl,hh.same s02,hD,fun l ss H3 nl s3 hl sh=>?_⟩
  have s03:=s02.trans s3
  refine⟨_,rfl,_,.inl ⟨_,SqL.of hl,rfl⟩,?_⟩
  cases ss with
  | cons k0 ks0 =>
   refine gU ?_
   refine⟨_,rfl,by show 2<=sizeLine;decide,fun t nt=>?_⟩
   exact q t (.shut (k0::ks0)) _ (s03.trans (ar nt)) ⟨l,s02.free nl,ag,ar nt _ _ hl⟩ ⟨noF,sh,fun z=>nomatch z⟩
  | nil =>
  refine gu ?_
  obtain⟨U,ul,inU⟩:=hD.few
  have nk:=hD.nk
  have pl:=dW hD
  have rd:yU h.2 U:=⟨pl,fun r hr k hk=>inU k (.inl (aeL _ (afN.mpr ⟨r,hr,hk⟩))),by omega,hD.rl,by unfold bg at nk;rw [aeG] at nk;omega⟩
  have fine:kM h.1 h.2:=⟨fun k=>by
   have:=noF k
   unfold FewK at this
   rw [pE hD] at this
   exact Nat.le_of_not_lt this,fun r hr=>ajo.mp fun z=>nomatch (sh.mem (aA r)).mpr ⟨⟨r,hr,rfl⟩,z⟩⟩
  refine⟨_,rfl,v,h,U,rfl,hh.same s03,rd,fun k hk=>inU k (.inl (ae6 _ hk)),fine,by unfold bg at nk;rw [aeG] at nk;exact nk,fun oA o H4 nO s4 hO g=>?_⟩
  refine⟨by show 2<=sizeLine;decide,fun t nt=>?_⟩
  exact q t (.all o) _ (s03.trans (s4.trans (ar nt))) ⟨oA,s03.free nO,ag,ar nt _ _ hO⟩ ⟨noF,sh,g⟩
end
end K7
namespace TS
open PySem PyProof.Rows
def wW:Bool->Keyed->Array Keyed->Nat->Nat->Nat->StateT SortSt Sem (Option Nat):=sortPriv% PySem.Builtin.gallop
def kk (κ:KeyKind)(p:Keyed):κ.α:=(κ.keyOf p.1).getD κ.dflt
def Va (κ:KeyKind)(p:Keyed):Prop:=∃ a,κ.keyOf p.1=some a
theorem lD {κ:KeyKind}{xs:Array Keyed}{i:Nat}{p:Keyed}(h:xs[i]? = some p):KK κ xs i=kk κ p:=by
 unfold KK kk
 rw [h]
section
variable {prog:Program}{w:World}{A:Around}{E:Value->Shared->Prop}{s:Shared}{κ:KeyKind}
theorem adk (hO:κ.OneLt){st:SortSt}{x y:Keyed}{Q:Option Bool->SortSt->Prop}(hk:kindOf st=oneType')(hx:Va κ x)(hy:Va κ y)(h:Q (some (κ.blt (kk κ x) (kk κ y))) st):wpS (model prog w) A E s (lt' x y) Q st:=by
 obtain⟨a,ha⟩:=hx
 obtain⟨b,hb⟩:=hy
 have ea:kk κ x=a:=by unfold kk;rw [ha];rfl
 have eb:kk κ y=b:=by unfold kk;rw [hb];rfl
 rw [ea,eb] at h
 rw [lt'_eq]
 refine ae0 (aiR ?_)
 rw [hk,keyLt'_oneType]
 exact ae0 (wpS_lift (aiA (hO prog w A _ s x.1 y.1 a b ha hb ⟨rfl,ae7 h⟩)))
theorem dE {arr:Array Keyed}{i:Nat}{p:Keyed}{st:SortSt}{Q:Keyed->SortSt->Prop}(h:arr[i]? = some p)(q:Q p st):wpS (model prog w) A E s (elem' arr i) Q st:=by
 rw [elem'_eq,h]
 exact ae7 q
def bey (κ:KeyKind)(left:Bool)(key:Keyed)(arr:Array Keyed)(base i:Nat):Bool:=if left=true then κ.blt (KK κ arr (base+i)) (kk κ key) else !κ.blt (kk κ key) (KK κ arr (base+i))
theorem zY (hO:κ.OneLt){left:Bool}{key:Keyed}{arr:Array Keyed}{base i:Nat}{st:SortSt}{Q:Option Bool->SortSt->Prop}(hk:kindOf st=oneType')(hkey:Va κ key)(hv:∃ p,arr[base+i]? = some p/\Va κ p)(h:Q (some (bey κ left key arr base i)) st) :
 wpS (model prog w) A E s (elem' arr (base+i) >>= fun x=>if left=true then lt' x key else lt' key x >>= fun l=>pure (l.map fun b=>!b)) Q st:=by
 obtain⟨p,hp,vp⟩:=hv
 unfold bey at h
 rw [lD hp] at h
 refine ae0 (dE hp ?_)
 cases left with
 | true =>
  rw [if_pos rfl] at h ⊢
  exact adk hO hk vp hkey h
 | false =>
  rw [if_neg aeM] at h ⊢
  exact ae0 (adk hO hk hkey vp (ae7 h))
theorem vn (hO:κ.OneLt){left:Bool}{key:Keyed}{arr:Array Keyed}{base n hint:Nat}{st:SortSt}{Q:Option Nat->SortSt->Prop}(hk:kindOf st=oneType')(hkey:Va κ key)(hv:∀ i,i < n->∃ p,arr[base+i]? = some p/\Va κ p)(hn:hint < n)
 (mono:∀ i j,i<=j->j < n->bey κ left key arr base j=true->bey κ left key arr base i=true)
 (h:∀ k,k<=n->(∀ i,i < k->bey κ left key arr base i=true)->(∀ i,k<=i->i < n->bey κ left key arr base i=false)->Q (some k) st) :
 wpS (model prog w) A E s (wW left key arr base n hint) Q st:=by
 have down:∀ i j,i<=j->j < n->bey κ left key arr base i=false->bey κ left key arr base j=false:=fun i j hij hj e=>by
  cases q:bey κ left key arr base j with
  | false=>rfl
  | true=>rw [mono i j hij hj q] at e;cases e
 refine ae0 (zY hO hk hkey (hv hint hn) ?_)
 dsimp -zeta -zetaHave only
 lift_lets
 extract_lets jp
 have hjp:∀ lastofs ofs lo hi,lo<=hi->hi<=n->(∀ i,i < lo->bey κ left key arr base i=true)->(∀ i,hi<=i->i < n->bey κ left key arr base i=false)->wpS (model prog w) A E s (jp () lastofs ofs lo hi) Q st:=by
  intro lastofs ofs lo hi h1 h2 h3 h4
  refine ae0 (ag0 (afW (I:=fun x c st'=>st'=st/\∃ l r,c=(none,l,r)/\l<=r/\r<=n/\r - l<=n - x/\(∀ i,i < l->bey κ left key arr base i=true)/\(∀ i,r<=i->i < n->bey κ left key arr base i=false))
   (Q:=fun c st'=>st'=st/\∃ l r,c=(none,l,r)/\r<=n/\(∀ i,i < r->bey κ left key arr base i=true)/\(∀ i,r<=i->i < n->bey κ left key arr base i=false)) ?_ ?_ ⟨rfl,lo,hi,rfl,h1,h2,by omega,h3,h4⟩) ?_)
  ·rintro x c st' _ hx ⟨rfl,l,r,rfl,g1,g2,g3,g4,g5⟩
   dsimp only
   by_cases hge:l ≥ r
   ·rw [if_pos hge]
    have e:l=r:=by omega
    subst e
    exact ae7 ⟨rfl,l,l,rfl,g2,g4,g5⟩
   ·rw [if_neg hge]
    refine ae0 (zY hO hk hkey (hv _ (by omega)) ?_)
    dsimp only
    cases q:bey κ left key arr base (l+(r - l) / 2) with
    | true =>
     rw [if_pos rfl]
     exact ae7 ⟨rfl,_,r,rfl,by omega,g2,by omega,fun i hi=>mono i _ (by omega) (by omega) q,g5⟩
    | false =>
     rw [if_neg aeM]
     exact ae7 ⟨rfl,l,_,rfl,by omega,by omega,by omega,g4,fun i hi hin=>down _ i hi hin q⟩
  ·rintro c st' ⟨rfl,l,r,rfl,g1,g2,g3,g4,g5⟩
   have e:l=r:=by omega
   subst e
   exact⟨rfl,l,l,rfl,g2,g4,g5⟩
  ·rintro c st' ⟨rfl,l,r,rfl,g2,g4,g5⟩
   exact ae7 (h r g2 g4 g5)
 clear_value jp
 cases q0:bey κ left key arr base hint with
 | true =>
  rw [if_pos rfl]
  refine ae0 (ag0 (afW (I:=fun x c st'=>st'=st/\∃ lf of,c=(none,lf,of)/\x+1<=of/\lf < of/\hint+lf < n/\bey κ left key arr base (hint+lf)=true)
   (Q:=fun c st'=>st'=st/\∃ lf of,c=(none,lf,of)/\lf < of/\hint+lf < n/\bey κ left key arr base (hint+lf)=true/\(n - hint<=of\/bey κ left key arr base (hint+of)=false)) ?_ ?_ ⟨rfl,0,1,rfl,by omega,by omega,by omega,q0⟩) ?_)
  ·rintro x c st' _ hx ⟨rfl,lf,of,rfl,g1,g2,g3,g4⟩
   dsimp only
   by_cases hge:of ≥ n - hint
   ·rw [if_pos hge]
    exact ae7 ⟨rfl,lf,of,rfl,g2,g3,g4,.inl hge⟩
   ·rw [if_neg hge]
    refine ae0 (zY hO hk hkey (hv _ (by omega)) ?_)
    dsimp only
    cases q:bey κ left key arr base (hint+of) with
    | true =>
     rw [if_neg (by simp)]
     exact ae7 ⟨rfl,of,_,rfl,by omega,by omega,by omega,q⟩
    | false =>
     rw [if_pos (show (!false)=true from rfl)]
     exact ae7 ⟨rfl,lf,of,rfl,g2,g3,g4,.inr q⟩
  ·rintro c st' ⟨rfl,lf,of,rfl,g1,g2,g3,g4⟩
   exact⟨rfl,lf,of,rfl,g2,g3,g4,.inl (by omega)⟩
  ·rintro c st' ⟨rfl,lf,of,rfl,g2,g3,g4,g5⟩
   dsimp only
   refine hjp _ _ _ _ (by omega) (by omega) (fun i hi=>mono i (hint+lf) (by omega) g3 g4) (fun i hi hin=>?_)
   rcases g5 with g5 | g5
   ·omega
   ·exact down (hint+of) i (by omega) hin g5
 | false =>
  rw [if_neg aeM]
  refine ae0 (ag0 (afW (I:=fun x c st'=>st'=st/\∃ lf of,c=(none,lf,of)/\x+1<=of/\lf < of/\lf<=hint/\bey κ left key arr base (hint - lf)=false)
   (Q:=fun c st'=>st'=st/\∃ lf of,c=(none,lf,of)/\lf < of/\lf<=hint/\bey κ left key arr base (hint - lf)=false/\(hint+1<=of\/bey κ left key arr base (hint - of)=true)) ?_ ?_ ⟨rfl,0,1,rfl,by omega,by omega,by omega,q0⟩) ?_)
  ·rintro x c st' _ hx ⟨rfl,lf,of,rfl,g1,g2,g3,g4⟩
   dsimp only
   by_cases hge:of ≥ hint+1
   ·rw [if_pos hge]
    exact ae7 ⟨rfl,lf,of,rfl,g2,g3,g4,.inl hge⟩
   ·rw [if_neg hge]
    refine ae0 (zY hO hk hkey (hv _ (by omega)) ?_)
    dsimp only
    cases q:bey κ left key arr base (hint - of) with
    | true =>
     rw [if_pos rfl]
     exact ae7 ⟨rfl,lf,of,rfl,g2,g3,g4,.inr q⟩
    | false =>
     rw [if_neg aeM]
     exact ae7 ⟨rfl,of,_,rfl,by omega,by omega,by omega,q⟩
  ·rintro c st' ⟨rfl,lf,of,rfl,g1,g2,g3,g4⟩
   exact⟨rfl,lf,of,rfl,g2,g3,g4,.inl (by omega)⟩
  ·rintro c st' ⟨rfl,lf,of,rfl,g2,g3,g4,g5⟩
   dsimp only
   refine hjp _ _ _ _ (by omega) (by omega) (fun i hi=>?_) (fun i hi hin=>down (hint - lf) i (by omega) hin g4)
   rcases g5 with g5 | g5
   ·omega
   ·exact mono i (hint - of) (by omega) (by omega) g5
end
def aaj:Array Keyed->Array Keyed->StateT SortSt Sem (Array Keyed):=sortPriv% PySem.Builtin.mergeLo
def zV:Array Keyed->Array Keyed->StateT SortSt Sem (Array Keyed):=sortPriv% PySem.Builtin.mergeHi
def le (κ:KeyKind)(x y:Keyed):Prop:=κ.kle (kk κ x) (kk κ y)
def lt (κ:KeyKind)(x y:Keyed):Prop:=κ.klt (kk κ x) (kk κ y)
def SL (κ:KeyKind)(l:List Keyed):Prop:=l.Pairwise (le κ)
section
variable {κ:KeyKind}
theorem le_trans {x y z:Keyed}(a:le κ x y)(b:le κ y z):le κ x z:=ahg a b
theorem le_of_lt {x y:Keyed}(a:lt κ x y):le κ x y:=ahA a
theorem le_refl (x:Keyed):le κ x x:=ag9 _
structure Mg (κ:KeyKind)(LL o A B:List Keyed):Prop where
 perm:(o++(A++B)).Perm LL
 sa:SL κ (o++A)
 sb:SL κ (o++B)
def nJ (κ:KeyKind)(LL m:List Keyed):Prop:=m.Perm LL/\SL κ m
theorem Mg.a {LL o c A B:List Keyed}(h:Mg κ LL o (c++A) B)(hc:∀ x∈c,∀ y∈B,le κ x y):Mg κ LL (o++c) A B:=by
 refine⟨?_,?_,?_⟩
 ·have:=h.perm
  rw [aeW] at this
  rw [aeW]
  exact this
 ·rw [aeW];exact h.sa
 ·have s1:=h.sa
  have s2:=h.sb
  unfold SL at *
  rw [← aeW] at s1
  rw [afn] at s1 s2 ⊢
  refine⟨s1.1,s2.2.1,fun x hx y hy=>?_⟩
  rcases aeI.mp hx with hx | hx
  ·exact s2.2.2 x hx y hy
  ·exact hc x hx y hy
theorem Mg.b {LL o c A B:List Keyed}(h:Mg κ LL o A (c++B))(hc:∀ y∈c,∀ x∈A,le κ y x):Mg κ LL (o++c) A B:=by
 refine⟨?_,?_,?_⟩
 ·refine List.Perm.trans ?_ h.perm
  rw [aeW]
  refine agC o ?_
  rw [← aeW,← aeW]
  exact agS B ahw
 ·have s1:=h.sa
  have s2:=h.sb
  unfold SL at *
  rw [← aeW] at s2
  rw [afn] at s1 s2 ⊢
  refine⟨s2.1,s1.2.1,fun x hx y hy=>?_⟩
  rcases aeI.mp hx with hx | hx
  ·exact s1.2.2 x hx y hy
  ·exact hc x hx y hy
 ·rw [aeW];exact h.sb
theorem Mg.endA {LL o A:List Keyed}(h:Mg κ LL o A []):nJ κ LL (o++A):=⟨by have:=h.perm;rwa [afw] at this,h.sa⟩
theorem Mg.endB {LL o B:List Keyed}(h:Mg κ LL o [] B):nJ κ LL (o++B):=⟨h.perm,h.sb⟩
theorem Mg.last {LL o B:List Keyed}{z:Keyed}(h:Mg κ LL o [z] B)(hz:∀ y∈B,le κ y z):nJ κ LL (o++B++[z]):=by
 refine⟨?_,?_⟩
 ·refine List.Perm.trans ?_ h.perm
  rw [aeW]
  exact agC o ahw
 ·have s1:=h.sa
  have s2:=h.sb
  unfold SL at *
  rw [afn] at s1 ⊢
  refine⟨s2,s1.2.1,fun x hx y hy=>?_⟩
  rcases aeI.mp hx with hx | hx
  ·exact s1.2.2 x hx y hy
  ·rw [aeF.mp hy];exact hz x hx
theorem SL.at {l:List Keyed}(h:SL κ l){i j:Nat}{x y:Keyed}(hij:i<=j)(hx:l[i]? = some x)(hy:l[j]? = some y):le κ x y:=by
 obtain⟨hi,ex⟩:=aeJ.mp hx
 obtain⟨hj,ey⟩:=aeJ.mp hy
 rcases Nat.lt_or_eq_of_le hij with q | q
 ·rw [← ex,← ey]
  exact agc.mp h i j hi hj q
 ·subst q
  rw [← ex,← ey]
  exact le_refl _
theorem SL.head {l:List Keyed}{x:Keyed}(h:SL κ (x::l)):∀ y∈x::l,le κ x y:=fun y hy=>by
 rcases aeX.mp hy with e | e
 ·rw [e];exact le_refl _
 ·exact (afE.mp h).1 y e
theorem SL.drop {l:List Keyed}(h:SL κ l)(n:Nat):SL κ (l.drop n):=akb (List.drop_sublist _ _) h
theorem SL.take {l:List Keyed}(h:SL κ l)(n:Nat):SL κ (l.take n):=akb (ajd _ _) h
end
section
variable {prog:Program}{w:World}{A:Around}{E:Value->Shared->Prop}{s:Shared}{κ:KeyKind}
theorem fE (hO:κ.OneLt){left:Bool}{key:Keyed}{arr:Array Keyed}{base n hint:Nat}{st:SortSt}{Q:Option Nat->SortSt->Prop}(hk:kindOf st=oneType')(hkey:Va κ key)(hb:base+n<=arr.size)(va:∀ p∈(arr.toList.drop base).take n,Va κ p)(so:SL κ ((arr.toList.drop base).take n))(hn:hint < n)
 (h:∀ k,k<=n->(∀ x∈((arr.toList.drop base).take n).take k,if left=true then lt κ x key else le κ x key)->(∀ x∈((arr.toList.drop base).take n).drop k,if left=true then le κ key x else lt κ key x)->Q (some k) st) :
 wpS (model prog w) A E s (wW left key arr base n hint) Q st:=by
 have at_:∀ i,i < n->∃ p,arr[base+i]? = some p/\((arr.toList.drop base).take n)[i]? = some p:=fun i hi=>by
  refine⟨arr[base+i],getElem?_pos _ _ (by omega),?_⟩
  rw [ag3 hi,List.getElem?_drop]
  simp
 have len:((arr.toList.drop base).take n).length=n:=by
  rw [ae9,age,aeT]
  omega
 generalize (arr.toList.drop base).take n=S at va so h at_ len
 refine vn hO hk hkey (fun i hi=>?_) hn (fun i j hij hj e=>?_) fun k hkn h1 h2=>h k hkn (fun x hx=>?_) (fun x hx=>?_)
 ·obtain⟨p,e1,e2⟩:=at_ i hi
  exact⟨p,e1,va p (afg e2)⟩
 ·obtain⟨p,e1,e2⟩:=at_ i (by omega)
  obtain⟨q,e3,e4⟩:=at_ j hj
  have hle:=so.at hij e2 e4
  unfold bey at e ⊢
  rw [lD e1]
  rw [lD e3] at e
  cases left with
  | true =>
   rw [if_pos rfl] at e ⊢
   exact KeyOrd.klt_of_kle_of_klt hle e
  | false =>
   rw [if_neg aeM] at e ⊢
   have e':κ.blt (kk κ key) (kk κ q)=false:=by simpa using e
   have this:κ.blt (kk κ key) (kk κ p)=false:=ahg hle e'
   rw [this]
   rfl
 ·obtain⟨i,hi,ex⟩:=afS.mp hx
  rw [ae9] at hi
  rw [ag8] at ex
  obtain⟨p,e1,e2⟩:=at_ i (by omega)
  have q:=h1 i (by omega)
  rw [aeC (by omega)] at e2
  rw [ex] at e2
  cases e2
  unfold bey at q
  rw [lD e1] at q
  cases left with
  | true=>exact q
  | false =>
   rw [if_neg aeM] at q ⊢
   show κ.blt (kk κ key) (kk κ x)=false
   simpa using q
 ·obtain⟨i,hi,ex⟩:=afS.mp hx
  rw [age] at hi
  rw [ajp] at ex
  obtain⟨p,e1,e2⟩:=at_ (k+i) (by omega)
  have q:=h2 (k+i) (by omega) (by omega)
  rw [aeC (by omega)] at e2
  rw [ex] at e2
  cases e2
  unfold bey at q
  rw [lD e1] at q
  cases left with
  | true=>exact q
  | false =>
   rw [if_neg aeM] at q ⊢
   show κ.blt (kk κ key) (kk κ x)=true
   simpa using q
end
def Eqv (st st':SortSt):Prop:=kindOf st'=kindOf st/\arrOf st'=arrOf st/\pendingOf st'=pendingOf st/\failedOf st'=failedOf st
theorem Eqv.refl (st:SortSt):Eqv st st:=⟨rfl,rfl,rfl,rfl⟩
def adw:Nat->StateT SortSt Sem Unit:=sortPriv% PySem.Builtin.setMinGallop
theorem uA {prog:Program}{w:World}{A:Around}{E:Value->Shared->Prop}{s:Shared}{g:Nat}{st0 st:SortSt}{Q:Unit->SortSt->Prop}(e:Eqv st0 st)(h:∀ st',Eqv st0 st'->Q () st'):wpS (model prog w) A E s (adw g) Q st :=
 ahk (h _ e)
theorem bR {a:Array Keyed}{i:Nat}{x:Keyed}(h:a[i]? = some x):a.toList.drop i=[x]++a.toList.drop (i+1):=by
 obtain⟨hi,e⟩:=aiY.mp h
 rw [afQ (by simpa using hi)]
 simp [e]
theorem jF (o:Array Keyed)(x:Keyed):(o.push x).toList=o.toList++[x]:=by simp
theorem uW (o a:Array Keyed)(i k:Nat):(o++a.extract i (i+k)).toList=o.toList++(a.toList.drop i).take k:=by
 simp [agJ,agd]
theorem iH (o a:Array Keyed)(i:Nat):(o++a.extract i a.size).toList=o.toList++a.toList.drop i:=by
 simp only [Array.toList_append,agJ,agd]
 rw [afy (by simp)]
section
variable {κ:KeyKind}{LL:List Keyed}{a b out:Array Keyed}{ia ib:Nat}
theorem y2 (M:Mg κ LL out.toList (a.toList.drop ia) (b.toList.drop ib))(c:ib=b.size):nJ κ LL (out++a.extract ia a.size++b.extract ib b.size).toList:=by
 rw [iH,iH]
 have e:b.toList.drop ib=[]:=agR (by rw [aeT];omega)
 rw [e] at M ⊢
 rw [afw]
 exact M.endA
theorem adK (M:Mg κ LL out.toList (a.toList.drop ia) (b.toList.drop ib))(c:ia=a.size):nJ κ LL (out++a.extract ia a.size++b.extract ib b.size).toList:=by
 rw [iH,iH]
 have e:a.toList.drop ia=[]:=agR (by rw [aeT];omega)
 rw [e] at M ⊢
 rw [afw]
 exact M.endB
theorem zh (M:Mg κ LL out.toList (a.toList.drop ia) (b.toList.drop ib))(c:ia+1=a.size)(P2:∀ y∈b.toList,∀ z∈a.toList.drop (a.size - 1),le κ y z):nJ κ LL (out++b.extract ib b.size++a.extract ia a.size).toList:=by
 rw [iH,iH]
 have hp:a[ia]? = some a[ia]:=getElem?_pos _ _ (by omega)
 have e:a.toList.drop ia=[a[ia]]:=by
  rw [bR hp,agR (by rw [aeT];omega),afw]
 rw [e] at M ⊢
 refine M.last fun y hy=>P2 y (af9 hy) _ ?_
 rw [show a.size - 1=ia by omega,e]
 exact aeF.mpr rfl
theorem iE (x:Array Keyed)(i:Nat):(x.toList.drop i).take (x.size - i)=x.toList.drop i:=afy (by rw [age,aeT];omega)
theorem qS (x:Array Keyed)(i k:Nat):x.toList.drop i=(x.toList.drop i).take k++x.toList.drop (i+k):=by
 have:=(afp k (x.toList.drop i)).symm
 rwa [ahJ] at this
theorem eO {x:Array Keyed}{i:Nat}(h:i < x.size):∃ p,x[i]? = some p/\p∈x.toList:=⟨x[i],getElem?_pos x i h,by simp⟩
end
section
variable {prog:Program}{w:World}{A:Around}{E:Value->Shared->Prop}{s:Shared}{κ:KeyKind}
theorem ifp {M:Model}{σ α:Type}{c:Prop}[Decidable c]{m1 m2:StateT σ Sem α}{Q:α->σ->Prop}{st:σ}(hc:c)(h:wpS M A E s m1 Q st):wpS M A E s (if c then m1 else m2) Q st:=by
 rw [if_pos hc]
 exact h
theorem ifn {M:Model}{σ α:Type}{c:Prop}[Decidable c]{m1 m2:StateT σ Sem α}{Q:α->σ->Prop}{st:σ}(hc:¬ c)(h:wpS M A E s m2 Q st):wpS M A E s (if c then m1 else m2) Q st:=by
 rw [if_neg hc]
 exact h
theorem ifs {M:Model}{σ α:Type}{c:Prop}[Decidable c]{m1 m2:StateT σ Sem α}{Q:α->σ->Prop}{st:σ}(h1:c->wpS M A E s m1 Q st)(h2:¬ c->wpS M A E s m2 Q st):wpS M A E s (if c then m1 else m2) Q st:=by
 by_cases hc:c
 ·exact ifp hc (h1 hc)
 ·exact ifn hc (h2 hc)
theorem zL {M:Model}{σ α β γ:Type}{jp:Unit->β->γ->StateT σ Sem α}{m:StateT σ Sem α}{Q:α->σ->Prop}{st:σ}(R:β->γ->Prop)(h1:∀ x y,R x y->wpS M A E s (jp () x y) Q st)(h2:(∀ x y,R x y->wpS M A E s (jp () x y) Q st)->wpS M A E s m Q st):wpS M A E s m Q st:=h2 h1
theorem ifj {M:Model}{σ α β:Type}{c:Prop}[Decidable c]{jp:Unit->β->StateT σ Sem α}{x y:β}{Q:α->σ->Prop}{st:σ}(h:∀ g,wpS M A E s (jp () g) Q st):wpS M A E s (if c then jp () x else jp () y) Q st:=ifs (fun _=>h x) (fun _=>h y)
theorem tM (hO:κ.OneLt){a b:Array Keyed}{st:SortSt}{Q:Array Keyed->SortSt->Prop}(hk:kindOf st=oneType')(va:∀ p∈a.toList,Va κ p)(vb:∀ p∈b.toList,Va κ p)(ha:1<=a.size)(hb:1<=b.size)(sa:SL κ a.toList)(sb:SL κ b.toList)
 (P1:∀ y∈b.toList.take 1,∀ x∈a.toList,le κ y x)(P2:∀ y∈b.toList,∀ z∈a.toList.drop (a.size - 1),le κ y z)
 (h:∀ m st',Eqv st st'->nJ κ (a.toList++b.toList) m.toList->Q m st'):wpS (model prog w) A E s (aaj a b) Q st:=by
 have hL:∃ LL,LL=a.toList++b.toList:=⟨_,rfl⟩
 obtain⟨LL,eL⟩:=hL
 rw [← eL] at h
 obtain⟨b0,hb0,mb0⟩:=eO (x:=b) (i:=0) (by omega)
 have M0:Mg κ LL [] a.toList b.toList:=⟨by rw [eL];exact List.Perm.refl _,sa,sb⟩
 have M1:Mg κ LL (#[b0]:Array Keyed).toList (a.toList.drop 0) (b.toList.drop 1):=by
  have e:b.toList=[b0]++b.toList.drop 1:=by
   have:=bR hb0
   rwa [afU] at this
  have M0':=M0
  rw [e] at M0'
  rw [afU]
  refine Mg.b M0' fun y hy x hx=>P1 y ?_ x hx
  rw [e]
  rw [aeF.mp hy]
  simp
 refine ae0 (wpS_lift (agD ⟨rfl,?_⟩))
 refine ae0 (dE hb0 ?_)
 by_cases c1:1=b.size
 ·rw [if_pos (by simpa using c1)]
  exact ae7 (h _ _ (Eqv.refl _) (y2 M1 c1))
 rw [if_neg (by simpa using c1)]
 by_cases c2:0+1=a.size
 ·rw [if_pos (by simpa using c2)]
  exact ae7 (h _ _ (Eqv.refl _) (zh M1 c2 P2))
 rw [if_neg (by simpa using c2)]
 refine ae0 (aiR ?_)
 refine ae0 (ag0 (afW (I:=fun x c st'=>Eqv st st'/\∃ out ia ib mg,c=(none,out,ia,ib,mg)/\Mg κ LL out.toList (a.toList.drop ia) (b.toList.drop ib)/\ia+1 < a.size/\ib < b.size/\x+1<=ia+ib)
  (Q:=fun c st'=>Eqv st st'/\∃ m r,c=(some m,r)/\nJ κ LL m.toList) ?_ ?_ ⟨Eqv.refl _,_,_,_,_,rfl,M1,by omega,by omega,by omega⟩) ?_)
 rotate_left
 ·rintro c st' ⟨ev,out,ia,ib,mg,rfl,M,hia,hib,hpr⟩
  omega
 ·rintro c st' ⟨ev,m,r,rfl,g⟩
  exact ae7 (h _ _ ev g)
 rintro x c st1 _ hx ⟨ev1,out,ia,ib,mg,rfl,M,hia,hib,hpr⟩
 refine ae0 (ag0 (afW (I:=fun y c st2=>Eqv st st2/\∃ out' ia' ib' ac bc,c=(none,out',ia',ib',ac,bc)/\Mg κ LL out'.toList (a.toList.drop ia') (b.toList.drop ib')/\ia'+1 < a.size/\ib' < b.size/\ia+ib+y<=ia'+ib')
  (Q:=fun c st2=>Eqv st st2/\((∃ m r,c=(some m,r)/\nJ κ LL m.toList)\/∃ out' ia' ib' ac bc,c=(none,out',ia',ib',ac,bc)/\Mg κ LL out'.toList (a.toList.drop ia') (b.toList.drop ib')/\ia'+1 < a.size/\ib' < b.size/\ia+ib+1<=ia'+ib')) ?_ ?_ ⟨ev1,out,ia,ib,_,_,rfl,M,hia,hib,aeN _⟩) ?_)
 ·rintro y c st2 _ hy ⟨ev2,out',ia',ib',ac,bc,rfl,M',hia',hib',hpr'⟩
  obtain⟨q,hq,mq⟩:=eO hib'
  obtain⟨p,hp,mp⟩:=eO (x:=a) (i:=ia') (by omega)
  have sB:=sb.drop ib'
  have sA:=sa.drop ia'
  rw [bR hq] at sB
  rw [bR hp] at sA
  refine ae0 (dE hq (ae0 (dE hp (ae0 (adk hO (ev2.1.trans hk) (vb q mq) (va p mp) ?_)))))
  cases hw:κ.blt (kk κ q) (kk κ p) with
  | true =>
   refine ifp rfl ?_
   refine ae0 (dE hq ?_)
   have M2:Mg κ LL (out'.push q).toList (a.toList.drop ia') (b.toList.drop (ib'+1)):=by
    rw [jF]
    refine Mg.b (by rw [← bR hq];exact M') fun y hy x hx=>?_
    rw [aeF.mp hy]
    rw [bR hp] at hx
    exact le_trans (le_of_lt hw) (sA.head x hx)
   by_cases c:ib'+1=b.size
   ·refine ifp (afe.mpr c) ?_
    exact ae7 ⟨ev2,.inl ⟨_,_,rfl,y2 M2 c⟩⟩
   refine ifn (fun z=>c (afe.mp z)) ?_
   refine ifs (fun _=>?_) (fun _=>?_)
   ·exact ae7 ⟨ev2,.inr ⟨_,ia',ib'+1,_,_,rfl,M2,hia',by omega,by omega⟩⟩
   ·exact ae7 ⟨ev2,_,ia',ib'+1,_,_,rfl,M2,hia',by omega,by omega⟩
  | false =>
   refine ifn aeM ?_
   refine ae0 (dE hp ?_)
   have M2:Mg κ LL (out'.push p).toList (a.toList.drop (ia'+1)) (b.toList.drop ib'):=by
    rw [jF]
    refine Mg.a (by rw [← bR hp];exact M') fun y hy x hx=>?_
    rw [aeF.mp hy]
    rw [bR hq] at hx
    exact le_trans (show le κ p q from hw) (sB.head x hx)
   by_cases c:ia'+1+1=a.size
   ·refine ifp (afe.mpr c) ?_
    exact ae7 ⟨ev2,.inl ⟨_,_,rfl,zh M2 c P2⟩⟩
   refine ifn (fun z=>c (afe.mp z)) ?_
   refine ifs (fun _=>?_) (fun _=>?_)
   ·exact ae7 ⟨ev2,.inr ⟨_,ia'+1,ib',_,_,rfl,M2,by omega,by omega,by omega⟩⟩
   ·exact ae7 ⟨ev2,_,ia'+1,ib',_,_,rfl,M2,by omega,by omega,by omega⟩
 ·rintro c st2 ⟨ev2,out',ia',ib',ac,bc,rfl,M',hia',hib',hpr'⟩
  exact⟨ev2,.inr ⟨_,_,_,_,_,rfl,M',hia',hib',by omega⟩⟩
 rintro c st2 ⟨ev2,hc⟩
 rcases hc with ⟨m,r,rfl,g⟩ | ⟨out1,ia1,ib1,ac1,bc1,rfl,N1,hia1,hib1,hpr1⟩
 ·exact ae7 ⟨ev2,m,_,rfl,g⟩
 refine ae0 (wpS_lift (agD ⟨rfl,?_⟩))
 refine ae0 (ag0 (afW (I:=fun y c st3=>Eqv st st3/\∃ out' ia' ib' mg' ac bc,c=(none,out',ia',ib',mg',ac,bc)/\Mg κ LL out'.toList (a.toList.drop ia') (b.toList.drop ib')/\ia'+1 < a.size/\ib' < b.size/\ia1+ib1<=ia'+ib')
  (Q:=fun c st3=>Eqv st st3/\((∃ m r,c=(some m,r)/\nJ κ LL m.toList)\/∃ out' ia' ib' mg' ac bc,c=(none,out',ia',ib',mg',ac,bc)/\Mg κ LL out'.toList (a.toList.drop ia') (b.toList.drop ib')/\ia'+1 < a.size/\ib' < b.size/\ia1+ib1<=ia'+ib')) ?_ ?_ ⟨ev2,out1,ia1,ib1,_,ac1,bc1,rfl,N1,hia1,hib1,aeN _⟩) ?_)
 rotate_left
 ·rintro c st3 ⟨ev3,out',ia',ib',mg',ac,bc,rfl,M',hia',hib',hpr'⟩
  exact⟨ev3,.inr ⟨_,_,_,_,_,_,rfl,M',hia',hib',by omega⟩⟩
 ·rintro c st3 ⟨ev3,hc⟩
  rcases hc with ⟨m,r,rfl,g⟩ | ⟨out2,ia2,ib2,mg2,ac2,bc2,rfl,N2,hia2,hib2,hpr2⟩
  ·exact ae7 ⟨ev3,m,_,rfl,g⟩
  refine ae0 (uA ev3 fun st4 ev4=>?_)
  exact ae7 ⟨ev4,_,ia2,ib2,_,rfl,N2,hia2,hib2,by omega⟩
 rintro y c st3 _ hy ⟨ev3,out2,ia2,ib2,mg2,ac2,bc2,rfl,M',hia',hib',hpr'⟩
 obtain⟨q,hq,mq⟩:=eO hib'
 have sB:=sb.drop ib2
 rw [bR hq] at sB
 dsimp -zeta -zetaHave only
 lift_lets
 extract_lets s1 v1 s2 v2 s3 v3 s4 v4 s5 v5 v6 v7 jp
 refine ifj (jp:=jp) (fun g=>?_)
 ·refine ae0 (uA ev3 fun st4 ev4=>?_)
  refine ae0 (dE hq (ae0 (fE (left:=false) (key:=q) (arr:=a) (base:=ia2) (n:=a.size - ia2) (hint:=0) hO (ev4.1.trans hk) (vb q mq) (by omega) (by rw [iE];exact fun p hp=>va p (af9 hp)) (by rw [iE];exact sa.drop _) (by omega) fun k hkn g1 g2=>?_)))
  rw [iE] at g1 g2
  rw [ahJ] at g2
  simp only [afj,agl] at g1 g2
  dsimp -zeta -zetaHave only
  lift_lets
  extract_lets w1 jp2
  refine zL (jp:=jp2) (fun (out3:Array Keyed) (ia3:Nat)=>Mg κ LL out3.toList (a.toList.drop ia3) (b.toList.drop ib2)/\ia3+1 < a.size/\ia2<=ia3/\∀ x∈a.toList.drop ia3,le κ q x) (fun out3 ia3 hR=>?_) (fun hj=>?_)
  ·obtain⟨M3,hA1,hA2,hA⟩:=hR
   refine ae0 (dE hq ?_)
   have M4:Mg κ LL (out3.push q).toList (a.toList.drop ia3) (b.toList.drop (ib2+1)):=by
    rw [jF]
    refine Mg.b (by rw [← bR hq];exact M3) fun y hy x hx=>?_
    rw [aeF.mp hy]
    exact hA x hx
   by_cases c4:ib2+1=b.size
   ·refine ifp (afe.mpr c4) ?_
    exact ae7 ⟨ev4,.inl ⟨_,_,rfl,y2 M4 c4⟩⟩
   refine ifn (fun z=>c4 (afe.mp z)) ?_
   obtain⟨p,hp,mp⟩:=eO (x:=a) (i:=ia3) (by omega)
   refine ae0 (dE hp (ae0 (fE (left:=true) (key:=p) (arr:=b) (base:=ib2+1) (n:=b.size - (ib2+1)) (hint:=0) hO (ev4.1.trans hk) (va p mp) (by omega) (by rw [iE];exact fun p hp=>vb p (af9 hp)) (by rw [iE];exact sb.drop _) (by omega) fun k2 hkn2 g3 g4=>?_)))
   rw [iE] at g3 g4
   rw [ahJ] at g4
   simp only [ahl] at g3 g4
   dsimp -zeta -zetaHave only
   lift_lets
   extract_lets w3 jp3
   refine zL (jp:=jp3) (fun (out5:Array Keyed) (ib3:Nat)=>Mg κ LL out5.toList (a.toList.drop ia3) (b.toList.drop ib3)/\ib3 < b.size/\ib2+1<=ib3/\∀ y∈b.toList.drop ib3,le κ p y) (fun out5 ib3 hR=>?_) (fun hj3=>?_)
   ·obtain⟨M5,hB1,hB2,hB⟩:=hR
    refine ae0 (dE hp ?_)
    have M6:Mg κ LL (out5.push p).toList (a.toList.drop (ia3+1)) (b.toList.drop ib3):=by
     rw [jF]
     refine Mg.a (by rw [← bR hp];exact M5) fun y hy x hx=>?_
     rw [aeF.mp hy]
     exact hB x hx
    by_cases c7:ia3+1+1=a.size
    ·refine ifp (afe.mpr c7) ?_
     exact ae7 ⟨ev4,.inl ⟨_,_,rfl,zh M6 c7 P2⟩⟩
    refine ifn (fun z=>c7 (afe.mp z)) ?_
    refine ifs (fun _=>?_) (fun _=>?_)
    ·exact ae7 ⟨ev4,.inr ⟨_,ia3+1,ib3,_,_,_,rfl,M6,by omega,by omega,by omega⟩⟩
    ·exact ae7 ⟨ev4,_,ia3+1,ib3,_,_,_,rfl,M6,by omega,by omega,by omega⟩
   by_cases hk2:k2=0
   ·subst hk2
    rw [ai4] at g4
    exact ifn (show ¬ (0 > 0) by omega) (hj3 _ (ib2+1) ⟨M4,by omega,aeN _,g4⟩)
   ·refine ifp (show k2 > 0 by omega) ?_
    have M5:Mg κ LL ((out3.push q)++b.extract (ib2+1) (ib2+1+k2)).toList (a.toList.drop ia3) (b.toList.drop (ib2+1+k2)):=by
     rw [uW]
     refine Mg.b (by rw [← qS];exact M4) fun y hy x hx=>?_
     have sA:=sa.drop ia3
     rw [bR hp] at sA
     rw [bR hp] at hx
     exact le_trans (le_of_lt (g3 y hy)) (sA.head x hx)
    by_cases c5:ib2+1+k2=b.size
    ·refine ifp (afe.mpr c5) ?_
     exact ae7 ⟨ev4,.inl ⟨_,_,rfl,y2 M5 c5⟩⟩
    exact ifn (fun z=>c5 (afe.mp z)) (hj3 _ (ib2+1+k2) ⟨M5,by omega,by omega,g4⟩)
  by_cases hk0:k=0
  ·subst hk0
   rw [ai4] at g2
   exact ifn (show ¬ (0 > 0) by omega) (hj _ ia2 ⟨M',hia',aeN _,fun x hx=>le_of_lt (g2 x hx)⟩)
  ·refine ifp (show k > 0 by omega) ?_
   have M3:Mg κ LL (out2++a.extract ia2 (ia2+k)).toList (a.toList.drop (ia2+k)) (b.toList.drop ib2):=by
    rw [uW]
    refine Mg.a (by rw [← qS];exact M') fun y hy x hx=>?_
    rw [bR hq] at hx
    exact le_trans (g1 y hy) (sB.head x hx)
   by_cases c2':ia2+k+1=a.size
   ·refine ifp (afe.mpr c2') ?_
    exact ae7 ⟨ev4,.inl ⟨_,_,rfl,zh M3 c2' P2⟩⟩
   refine ifn (fun z=>c2' (afe.mp z)) ?_
   by_cases c3:ia2+k=a.size
   ·refine ifp (afe.mpr c3) ?_
    exact ae7 ⟨ev4,.inl ⟨_,_,rfl,adK M3 c3⟩⟩
   exact ifn (fun z=>c3 (afe.mp z)) (hj _ (ia2+k) ⟨M3,by omega,by omega,fun x hx=>le_of_lt (g2 x hx)⟩)
end
section
variable {κ:KeyKind}
structure MgH (κ:KeyKind)(LL o A B:List Keyed):Prop where
 perm:(A++(B++o)).Perm LL
 sa:SL κ (A++o)
 sb:SL κ (B++o)
theorem MgH.a {LL o c A B:List Keyed}(h:MgH κ LL o (A++c) B)(hc:∀ x∈c,∀ y∈B,le κ y x):MgH κ LL (c++o) A B:=by
 refine⟨?_,?_,?_⟩
 ·refine List.Perm.trans ?_ h.perm
  rw [aeW]
  refine agC A ?_
  rw [← aeW,← aeW]
  exact agS o ahw
 ·rw [← aeW];exact h.sa
 ·have s1:=h.sa
  have s2:=h.sb
  unfold SL at *
  rw [aeW,afn] at s1
  rw [afn] at s2 ⊢
  refine⟨s2.1,s1.2.1,fun x hx y hy=>?_⟩
  rcases aeI.mp hy with hy | hy
  ·exact hc y hy x hx
  ·exact s2.2.2 x hx y hy
theorem MgH.b {LL o c A B:List Keyed}(h:MgH κ LL o A (B++c))(hc:∀ y∈c,∀ x∈A,le κ x y):MgH κ LL (c++o) A B:=by
 refine⟨?_,?_,?_⟩
 ·have:=h.perm
  rw [aeW] at this
  exact this
 ·have s1:=h.sa
  have s2:=h.sb
  unfold SL at *
  rw [aeW,afn] at s2
  rw [afn] at s1 ⊢
  refine⟨s1.1,s2.2.1,fun x hx y hy=>?_⟩
  rcases aeI.mp hy with hy | hy
  ·exact hc y hy x hx
  ·exact s1.2.2 x hx y hy
 ·rw [← aeW];exact h.sb
theorem MgH.endA {LL o A:List Keyed}(h:MgH κ LL o A []):nJ κ LL (A++o):=⟨h.perm,h.sa⟩
theorem MgH.endB {LL o B:List Keyed}(h:MgH κ LL o [] B):nJ κ LL (B++o):=⟨h.perm,h.sb⟩
theorem MgH.first {LL o A:List Keyed}{z:Keyed}(h:MgH κ LL o A [z])(hz:∀ x∈A,le κ z x):nJ κ LL ([z]++A++o):=by
 refine⟨?_,?_⟩
 ·refine List.Perm.trans ?_ h.perm
  rw [← aeW]
  exact agS o ahw
 ·have s1:=h.sa
  have s2:=h.sb
  unfold SL at *
  rw [aeW,akc,afE]
  rw [akc,afE] at s2
  refine⟨fun y hy=>?_,s1⟩
  rcases aeI.mp hy with hy | hy
  ·exact hz y hy
  ·exact s2.1 y hy
theorem gH {a:Array Keyed}{n:Nat}{x:Keyed}(h:a[n]? = some x):a.toList.take (n+1)=a.toList.take n++[x]:=by
 rw [afc]
 have:a.toList[n]? = some x:=by simpa using h
 rw [this]
 rfl
theorem kY (o:Array Keyed)(x:Keyed):(o.push x).toList.reverse=[x]++o.toList.reverse:=by simp
theorem yX (o a:Array Keyed)(i n:Nat):(o++(a.extract i n).reverse).toList.reverse=(a.toList.take n).drop i++o.toList.reverse:=by
 simp [agJ,agd,List.drop_take]
theorem uY (a:Array Keyed){i n:Nat}(h:i<=n):a.toList.take n=a.toList.take i++(a.toList.take n).drop i:=by
 have:=(afp i (a.toList.take n)).symm
 rwa [aih,agb h] at this
theorem ph (o a b:Array Keyed)(na nb:Nat):(a.extract 0 na++b.extract 0 nb++o.reverse).toList=a.toList.take na++b.toList.take nb++o.toList.reverse:=by
 simp [agJ,agd]
theorem SL.lastOf {l:List Keyed}{x:Keyed}(h:SL κ (l++[x])):∀ y∈l++[x],le κ y x:=fun y hy=>by
 rcases aeI.mp hy with e | e
 ·exact (afn.mp h).2.2 y e x (aeF.mpr rfl)
 ·rw [aeF.mp e];exact le_refl _
end
section
variable {κ:KeyKind}{LL:List Keyed}{a b out:Array Keyed}{na nb:Nat}
theorem adh (M:MgH κ LL out.toList.reverse (a.toList.take na) (b.toList.take nb))(c:na=0):nJ κ LL (a.extract 0 na++b.extract 0 nb++out.reverse).toList:=by
 subst c
 rw [ph,ahj,akd]
 rw [ahj] at M
 exact M.endB
theorem aeB (M:MgH κ LL out.toList.reverse (a.toList.take na) (b.toList.take nb))(c:nb=0):nJ κ LL (a.extract 0 na++b.extract 0 nb++out.reverse).toList:=by
 subst c
 rw [ph,ahj,afw]
 rw [ahj] at M
 exact M.endA
theorem adf (M:MgH κ LL out.toList.reverse (a.toList.take na) (b.toList.take nb))(c:nb=1)(hb:1<=b.size)(P1:∀ y∈b.toList.take 1,∀ x∈a.toList,le κ y x):nJ κ LL (b.extract 0 nb++a.extract 0 na++out.reverse).toList:=by
 subst c
 rw [ph]
 have hp:b[0]? = some b[0]:=getElem?_pos _ _ (by omega)
 have e:b.toList.take 1=[b[0]]:=by rw [gH hp,ahj,akd]
 rw [e] at M P1 ⊢
 exact M.first fun x hx=>P1 _ (aeF.mpr rfl) x (afA hx)
end
section
variable {prog:Program}{w:World}{A:Around}{E:Value->Shared->Prop}{s:Shared}{κ:KeyKind}
theorem tP (hO:κ.OneLt){a b:Array Keyed}{st:SortSt}{Q:Array Keyed->SortSt->Prop}(hk:kindOf st=oneType')(va:∀ p∈a.toList,Va κ p)(vb:∀ p∈b.toList,Va κ p)(ha:1<=a.size)(hb:1<=b.size)(sa:SL κ a.toList)(sb:SL κ b.toList)
 (P1:∀ y∈b.toList.take 1,∀ x∈a.toList,le κ y x)(P2:∀ y∈b.toList,∀ z∈a.toList.drop (a.size - 1),le κ y z)
 (h:∀ m st',Eqv st st'->nJ κ (a.toList++b.toList) m.toList->Q m st'):wpS (model prog w) A E s (zV a b) Q st:=by
 have hL:∃ LL,LL=a.toList++b.toList:=⟨_,rfl⟩
 obtain⟨LL,eL⟩:=hL
 rw [← eL] at h
 obtain⟨a0,ha0,ma0⟩:=eO (x:=a) (i:=a.size - 1) (by omega)
 have M1:MgH κ LL (#[a0]:Array Keyed).toList.reverse (a.toList.take (a.size - 1)) (b.toList.take b.size):=by
  have e:a.toList=a.toList.take (a.size - 1)++[a0]:=by
   have:=gH ha0
   rwa [show a.size - 1+1=a.size by omega,afy (by rw [aeT];exact aeN _)] at this
  have M0:MgH κ LL [] (a.toList.take (a.size - 1)++[a0]) b.toList:=by
   refine⟨?_,?_,?_⟩
   ·rw [← e,afw,eL]
   ·rw [← e,afw];exact sa
   ·rw [afw];exact sb
  rw [afy (l:=b.toList) (by rw [aeT];exact aeN _)]
  refine MgH.a M0 fun x hx y hy=>P2 y hy x ?_
  rw [bR ha0,aeF.mp hx]
  simp
 refine ae0 (wpS_lift (agD ⟨rfl,?_⟩))
 refine ae0 (dE ha0 ?_)
 by_cases c1:a.size - 1=0
 ·refine ifp (afe.mpr c1) ?_
  exact ae7 (h _ _ (Eqv.refl _) (adh M1 c1))
 refine ifn (fun z=>c1 (afe.mp z)) ?_
 by_cases c2:b.size=1
 ·refine ifp (afe.mpr c2) ?_
  exact ae7 (h _ _ (Eqv.refl _) (adf M1 c2 hb P1))
 refine ifn (fun z=>c2 (afe.mp z)) ?_
 refine ae0 (aiR ?_)
 refine ae0 (ag0 (afW (I:=fun x c st'=>Eqv st st'/\∃ na nb out mg,c=(none,na,nb,out,mg)/\MgH κ LL out.toList.reverse (a.toList.take na) (b.toList.take nb)/\1<=na/\na<=a.size/\2<=nb/\nb<=b.size/\na+nb+x+1<=a.size+b.size)
  (Q:=fun c st'=>Eqv st st'/\∃ m r,c=(some m,r)/\nJ κ LL m.toList) ?_ ?_ ⟨Eqv.refl _,a.size - 1,b.size,_,_,rfl,M1,by omega,by omega,by omega,by omega,by omega⟩) ?_)
 rotate_left
 ·rintro c st' ⟨ev,na,nb,out,mg,rfl,M,_,_,_,_,hpr⟩
  omega
 ·rintro c st' ⟨ev,m,r,rfl,g⟩
  exact ae7 (h _ _ ev g)
 rintro x c st1 _ hx ⟨ev1,na,nb,out,mg,rfl,M,hna,hna2,hnb,hnb2,hpr⟩
 refine ae0 (ag0 (afW (I:=fun y c st2=>Eqv st st2/\∃ na' nb' out' ac bc,c=(none,na',nb',out',ac,bc)/\MgH κ LL out'.toList.reverse (a.toList.take na') (b.toList.take nb')/\1<=na'/\na'<=a.size/\2<=nb'/\nb'<=b.size/\na'+nb'+y<=na+nb)
  (Q:=fun c st2=>Eqv st st2/\((∃ m r,c=(some m,r)/\nJ κ LL m.toList)\/∃ na' nb' out' ac bc,c=(none,na',nb',out',ac,bc)/\MgH κ LL out'.toList.reverse (a.toList.take na') (b.toList.take nb')/\1<=na'/\na'<=a.size/\2<=nb'/\nb'<=b.size/\na'+nb'+1<=na+nb)) ?_ ?_ ⟨ev1,na,nb,out,_,_,rfl,M,hna,hna2,hnb,hnb2,aeN _⟩) ?_)
 ·rintro y c st2 _ hy ⟨ev2,na',nb',out',ac,bc,rfl,M',hna',hna2',hnb',hnb2',hpr'⟩
  obtain⟨q,hq,mq⟩:=eO (x:=b) (i:=nb' - 1) (by omega)
  obtain⟨p,hp,mp⟩:=eO (x:=a) (i:=na' - 1) (by omega)
  have tq:=gH hq
  have tp:=gH hp
  rw [show nb' - 1+1=nb' by omega] at tq
  rw [show na' - 1+1=na' by omega] at tp
  have sB:=sb.take nb'
  have sA:=sa.take na'
  rw [tq] at sB
  rw [tp] at sA
  refine ae0 (dE hq (ae0 (dE hp (ae0 (adk hO (ev2.1.trans hk) (vb q mq) (va p mp) ?_)))))
  cases hw:κ.blt (kk κ q) (kk κ p) with
  | true =>
   refine ifp rfl ?_
   refine ae0 (dE hp ?_)
   have M2:MgH κ LL (out'.push p).toList.reverse (a.toList.take (na' - 1)) (b.toList.take nb'):=by
    rw [kY]
    refine MgH.a (by rw [← tp];exact M') fun x hx y hy=>?_
    rw [aeF.mp hx]
    rw [tq] at hy
    exact le_trans (sB.lastOf y hy) (le_of_lt hw)
   by_cases c:na' - 1=0
   ·refine ifp (afe.mpr c) ?_
    exact ae7 ⟨ev2,.inl ⟨_,_,rfl,adh M2 c⟩⟩
   refine ifn (fun z=>c (afe.mp z)) ?_
   refine ifs (fun _=>?_) (fun _=>?_)
   ·exact ae7 ⟨ev2,.inr ⟨na' - 1,nb',_,_,_,rfl,M2,by omega,by omega,by omega,by omega,by omega⟩⟩
   ·exact ae7 ⟨ev2,na' - 1,nb',_,_,_,rfl,M2,by omega,by omega,by omega,by omega,by omega⟩
  | false =>
   refine ifn aeM ?_
   refine ae0 (dE hq ?_)
   have M2:MgH κ LL (out'.push q).toList.reverse (a.toList.take na') (b.toList.take (nb' - 1)):=by
    rw [kY]
    refine MgH.b (by rw [← tq];exact M') fun y hy x hx=>?_
    rw [aeF.mp hy]
    rw [tp] at hx
    exact le_trans (sA.lastOf x hx) (show le κ p q from hw)
   by_cases c:nb' - 1=1
   ·refine ifp (afe.mpr c) ?_
    exact ae7 ⟨ev2,.inl ⟨_,_,rfl,adf M2 c hb P1⟩⟩
   refine ifn (fun z=>c (afe.mp z)) ?_
   refine ifs (fun _=>?_) (fun _=>?_)
   ·exact ae7 ⟨ev2,.inr ⟨na',nb' - 1,_,_,_,rfl,M2,by omega,by omega,by omega,by omega,by omega⟩⟩
   ·exact ae7 ⟨ev2,na',nb' - 1,_,_,_,rfl,M2,by omega,by omega,by omega,by omega,by omega⟩
 ·rintro c st2 ⟨ev2,na',nb',out',ac,bc,rfl,M',g1,g2,g3,g4,hpr'⟩
  exact⟨ev2,.inr ⟨_,_,_,_,_,rfl,M',g1,g2,g3,g4,by omega⟩⟩
 rintro c st2 ⟨ev2,hc⟩
 rcases hc with ⟨m,r,rfl,g⟩ | ⟨na1,nb1,out1,ac1,bc1,rfl,N1,i1,i2,i3,i4,hpr1⟩
 ·exact ae7 ⟨ev2,m,_,rfl,g⟩
 refine ae0 (wpS_lift (agD ⟨rfl,?_⟩))
 refine ae0 (ag0 (afW (I:=fun y c st3=>Eqv st st3/\∃ na' nb' out' mg' ac bc,c=(none,na',nb',out',mg',ac,bc)/\MgH κ LL out'.toList.reverse (a.toList.take na') (b.toList.take nb')/\1<=na'/\na'<=a.size/\2<=nb'/\nb'<=b.size/\na'+nb'<=na1+nb1)
  (Q:=fun c st3=>Eqv st st3/\((∃ m r,c=(some m,r)/\nJ κ LL m.toList)\/∃ na' nb' out' mg' ac bc,c=(none,na',nb',out',mg',ac,bc)/\MgH κ LL out'.toList.reverse (a.toList.take na') (b.toList.take nb')/\1<=na'/\na'<=a.size/\2<=nb'/\nb'<=b.size/\na'+nb'<=na1+nb1)) ?_ ?_ ⟨ev2,na1,nb1,out1,_,ac1,bc1,rfl,N1,i1,i2,i3,i4,aeN _⟩) ?_)
 rotate_left
 ·rintro c st3 ⟨ev3,na',nb',out',mg',ac,bc,rfl,M',g⟩
  exact⟨ev3,.inr ⟨_,_,_,_,_,_,rfl,M',g⟩⟩
 ·rintro c st3 ⟨ev3,hc⟩
  rcases hc with ⟨m,r,rfl,g⟩ | ⟨na2,nb2,out2,mg2,ac2,bc2,rfl,N2,j1,j2,j3,j4,hpr2⟩
  ·exact ae7 ⟨ev3,m,_,rfl,g⟩
  refine ae0 (uA ev3 fun st4 ev4=>?_)
  exact ae7 ⟨ev4,na2,nb2,_,_,rfl,N2,j1,j2,j3,j4,by omega⟩
 rintro y c st3 _ hy ⟨ev3,na2,nb2,out2,mg2,ac2,bc2,rfl,M',j1,j2,j3,j4,hpr'⟩
 obtain⟨q,hq,mq⟩:=eO (x:=b) (i:=nb2 - 1) (by omega)
 have tq:=gH hq
 rw [show nb2 - 1+1=nb2 by omega] at tq
 have sB:=sb.take nb2
 rw [tq] at sB
 dsimp -zeta -zetaHave only
 lift_lets
 extract_lets s1 v1 s2 v2 s3 v3 s4 v4 s5 v5 v6 v7 jp
 refine ifj (jp:=jp) (fun g=>?_)
 ·refine ae0 (uA ev3 fun st4 ev4=>?_)
  refine ae0 (dE hq (ae0 (fE (left:=false) (key:=q) (arr:=a) (base:=0) (n:=na2) (hint:=na2 - 1) hO (ev4.1.trans hk) (vb q mq) (by omega) (by rw [afU];exact fun p hp=>va p (afA hp)) (by rw [afU];exact sa.take _) (by omega) fun k hkn g1 g2=>?_)))
  rw [afU] at g1 g2
  rw [aih,agb hkn] at g1
  simp only [afj,agl] at g1 g2
  dsimp -zeta -zetaHave only
  lift_lets
  extract_lets w1 w2 jp2
  refine zL (jp:=jp2) (fun (na3:Nat) (out3:Array Keyed)=>MgH κ LL out3.toList.reverse (a.toList.take na3) (b.toList.take nb2)/\1<=na3/\na3<=na2/\∀ x∈a.toList.take na3,le κ x q) (fun na3 out3 hR=>?_) (fun hj=>?_)
  ·obtain⟨M3,hA1,hA2,hA⟩:=hR
   refine ae0 (dE hq ?_)
   have M4:MgH κ LL (out3.push q).toList.reverse (a.toList.take na3) (b.toList.take (nb2 - 1)):=by
    rw [kY]
    refine MgH.b (by rw [← tq];exact M3) fun y hy x hx=>?_
    rw [aeF.mp hy]
    exact hA x hx
   by_cases c4:nb2 - 1=1
   ·refine ifp (afe.mpr c4) ?_
    exact ae7 ⟨ev4,.inl ⟨_,_,rfl,adf M4 c4 hb P1⟩⟩
   refine ifn (fun z=>c4 (afe.mp z)) ?_
   obtain⟨p,hp,mp⟩:=eO (x:=a) (i:=na3 - 1) (by omega)
   have tp:=gH hp
   rw [show na3 - 1+1=na3 by omega] at tp
   refine ae0 (dE hp (ae0 (fE (left:=true) (key:=p) (arr:=b) (base:=0) (n:=nb2 - 1) (hint:=nb2 - 1 - 1) hO (ev4.1.trans hk) (va p mp) (by omega) (by rw [afU];exact fun p hp=>vb p (afA hp)) (by rw [afU];exact sb.take _) (by omega) fun k2 hkn2 g3 g4=>?_)))
   rw [afU] at g3 g4
   rw [aih,agb hkn2] at g3
   simp only [ahl] at g3 g4
   dsimp -zeta -zetaHave only
   lift_lets
   extract_lets w3 w4 jp3
   refine zL (jp:=jp3) (fun (nb3:Nat) (out5:Array Keyed)=>MgH κ LL out5.toList.reverse (a.toList.take na3) (b.toList.take nb3)/\2<=nb3/\nb3<=nb2 - 1/\∀ y∈b.toList.take nb3,le κ y p) (fun nb3 out5 hR=>?_) (fun hj3=>?_)
   ·obtain⟨M5,hB1,hB2,hB⟩:=hR
    refine ae0 (dE hp ?_)
    have M6:MgH κ LL (out5.push p).toList.reverse (a.toList.take (na3 - 1)) (b.toList.take nb3):=by
     rw [kY]
     refine MgH.a (by rw [← tp];exact M5) fun x hx y hy=>?_
     rw [aeF.mp hx]
     exact hB y hy
    by_cases c7:na3 - 1=0
    ·refine ifp (afe.mpr c7) ?_
     exact ae7 ⟨ev4,.inl ⟨_,_,rfl,adh M6 c7⟩⟩
    refine ifn (fun z=>c7 (afe.mp z)) ?_
    refine ifs (fun _=>?_) (fun _=>?_)
    ·exact ae7 ⟨ev4,.inr ⟨na3 - 1,nb3,_,_,_,_,rfl,M6,by omega,by omega,by omega,by omega,by omega⟩⟩
    ·exact ae7 ⟨ev4,na3 - 1,nb3,_,_,_,_,rfl,M6,by omega,by omega,by omega,by omega,by omega⟩
   by_cases hk2:k2=nb2 - 1
   ·subst hk2
    refine ifn (show ¬ (nb2 - 1 - (nb2 - 1) > 0) by omega) (hj3 (nb2 - 1) _ ⟨M4,by omega,aeN _,fun y hy=>le_of_lt (g3 y hy)⟩)
   ·refine ifp (show nb2 - 1 - k2 > 0 by omega) ?_
    have M5:MgH κ LL ((out3.push q)++(b.extract k2 (nb2 - 1)).reverse).toList.reverse (a.toList.take na3) (b.toList.take k2):=by
     rw [yX]
     refine MgH.b (by rw [← uY b hkn2];exact M4) fun y hy x hx=>?_
     have sA:=sa.take na3
     rw [tp] at sA
     rw [tp] at hx
     exact le_trans (sA.lastOf x hx) (g4 y hy)
    by_cases c5:k2=1
    ·refine ifp (afe.mpr c5) ?_
     exact ae7 ⟨ev4,.inl ⟨_,_,rfl,adf M5 c5 hb P1⟩⟩
    refine ifn (fun z=>c5 (afe.mp z)) ?_
    by_cases c6:k2=0
    ·refine ifp (afe.mpr c6) ?_
     exact ae7 ⟨ev4,.inl ⟨_,_,rfl,aeB M5 c6⟩⟩
    exact ifn (fun z=>c6 (afe.mp z)) (hj3 k2 _ ⟨M5,by omega,by omega,fun y hy=>le_of_lt (g3 y hy)⟩)
  by_cases hk0:k=na2
  ·subst hk0
   exact ifn (show ¬ (k - k > 0) by omega) (hj k _ ⟨M',j1,aeN _,fun x hx=>g1 x hx⟩)
  ·refine ifp (show na2 - k > 0 by omega) ?_
   have M3:MgH κ LL (out2++(a.extract k na2).reverse).toList.reverse (a.toList.take k) (b.toList.take nb2):=by
    rw [yX]
    refine MgH.a (by rw [← uY a hkn];exact M') fun x hx y hy=>?_
    rw [tq] at hy
    exact le_trans (sB.lastOf y hy) (le_of_lt (g2 x hx))
   by_cases c3:k=0
   ·refine ifp (afe.mpr c3) ?_
    exact ae7 ⟨ev4,.inl ⟨_,_,rfl,adh M3 c3⟩⟩
   exact ifn (fun z=>c3 (afe.mp z)) (hj k _ ⟨M3,by omega,hkn,fun x hx=>g1 x hx⟩)
end
theorem ur (s:Nat):∀ (m:List Keyed) (off:Nat) (arr:Array Keyed),s+off+m.length<=arr.size →
 ((m.zipIdx off).foldl (fun a x=>a.setIfInBounds (s+x.2) x.1) arr).toList=arr.toList.take (s+off)++(m++arr.toList.drop (s+off+m.length))
 | [],off,arr,h=>by simp
 | x::m,off,arr,h=>by
  rw [List.zipIdx_cons,aiQ]
  rw [afd] at h
  rw [ur s m (off+1) _ (by rw [Array.size_setIfInBounds];omega)]
  have e:(arr.setIfInBounds (s+off) x).toList=arr.toList.set (s+off) x:=by simp
  show (arr.setIfInBounds (s+off) x).toList.take _++(m++(arr.setIfInBounds (s+off) x).toList.drop _)=_
  rw [e]
  have hl:s+off < arr.toList.length:=by rw [aeT];omega
  have t1:(arr.toList.set (s+off) x).take (s+(off+1))=arr.toList.take (s+off)++[x]:=by
   rw [show s+(off+1)=s+off+1 by omega,afc,List.take_set_of_le (aeN _),agP hl]
   rfl
  have t2:(arr.toList.set (s+off) x).drop (s+(off+1)+m.length)=arr.toList.drop (s+off+(m.length+1)):=by
   rw [List.drop_set_of_lt (by omega)]
   congr 1
   omega
  rw [t1,t2,afd,aeW]
  rfl
section
variable {prog:Program}{w:World}{A:Around}{E:Value->Shared->Prop}{s:Shared}{κ:KeyKind}
theorem pH {X Y:List Keyed}(hX:SL κ X)(hY:SL κ Y)(h:∀ x∈X,∀ y∈Y,le κ x y):SL κ (X++Y):=afn.mpr ⟨hX,hY,h⟩
theorem sH (hO:κ.OneLt){i:Nat}{st:SortSt}{P X Y R:List Keyed}{pw pw2:Nat}{Q:Bool->SortSt->Prop}(hk:kindOf st=oneType')(hf:failedOf st=none)
 (hp1:(pendingOf st)[i]? = some (P.length,X.length,pw))(hp2:(pendingOf st)[i+1]? = some (P.length+X.length,Y.length,pw2))(ea:(arrOf st).toList=P++(X++(Y++R)))
 (vX:∀ p∈X,Va κ p)(vY:∀ p∈Y,Va κ p)(sX:SL κ X)(sY:SL κ Y)(hX:1<=X.length)(hY:1<=Y.length)
 (h:∀ M st',M.Perm (X++Y)->SL κ M->kindOf st'=oneType'->failedOf st'=none->(arrOf st').toList=P++(M++R)->pendingOf st'=((pendingOf st).setIfInBounds i (P.length,X.length+Y.length,pw)).eraseIdxIfInBounds (i+1)->Q true st') :
 wpS (model prog w) A E s (mergeAt' i) Q st:=by
 have asz:(arrOf st).size=P.length+(X.length+(Y.length+R.length)):=by
  have:=aft List.length ea
  simpa using this
 have dX:((arrOf st).toList.drop P.length).take X.length=X:=by rw [ea];simp
 have dY:((arrOf st).toList.drop (P.length+X.length)).take Y.length=Y:=by
  rw [ea,← aeW]
  rw [← aeG]
  simp
 obtain⟨y0,Y',eY⟩:∃ y0 Y',Y=y0::Y':=by
  cases Y with
  | nil=>simp at hY
  | cons y r=>exact⟨y,r,rfl⟩
 have my0:y0∈Y:=by rw [eY];exact aeQ
 have hy0:(arrOf st)[P.length+X.length]? = some y0:=by
  have:(arrOf st).toList[P.length+X.length]? = some y0:=by
   rw [ea,eY,← aeW,afv (by simp)]
   simp
  simpa using this
 have y0le:∀ y∈Y,le κ y0 y:=by
  rw [eY] at sY ⊢
  exact sY.head
 refine ae0 (aiR ?_)
 have hmatch:((pendingOf st)[i]?,(pendingOf st)[i+1]?)=(some (P.length,X.length,pw),some (P.length+X.length,Y.length,pw2)):=by rw [hp1,hp2]
 rw [hmatch]
 refine ae0 (ahk ?_)
 have k1:kindOf (SortSt.mk' (kindOf st) (arrOf st) (((pendingOf st).setIfInBounds i (P.length,X.length+Y.length,pw)).eraseIdxIfInBounds (i+1)) (gallopOf st) (failedOf st))=oneType':=hk
 have f1:failedOf (SortSt.mk' (kindOf st) (arrOf st) (((pendingOf st).setIfInBounds i (P.length,X.length+Y.length,pw)).eraseIdxIfInBounds (i+1)) (gallopOf st) (failedOf st))=none:=hf
 have a1:arrOf (SortSt.mk' (kindOf st) (arrOf st) (((pendingOf st).setIfInBounds i (P.length,X.length+Y.length,pw)).eraseIdxIfInBounds (i+1)) (gallopOf st) (failedOf st))=arrOf st:=rfl
 have p1:pendingOf (SortSt.mk' (kindOf st) (arrOf st) (((pendingOf st).setIfInBounds i (P.length,X.length+Y.length,pw)).eraseIdxIfInBounds (i+1)) (gallopOf st) (failedOf st))=((pendingOf st).setIfInBounds i (P.length,X.length+Y.length,pw)).eraseIdxIfInBounds (i+1):=rfl
 show wpS _ _ _ _ _ _ (SortSt.mk' (kindOf st) (arrOf st) (((pendingOf st).setIfInBounds i (P.length,X.length+Y.length,pw)).eraseIdxIfInBounds (i+1)) (gallopOf st) (failedOf st))
 generalize SortSt.mk' (kindOf st) (arrOf st) (((pendingOf st).setIfInBounds i (P.length,X.length+Y.length,pw)).eraseIdxIfInBounds (i+1)) (gallopOf st) (failedOf st)=st1 at k1 f1 a1 p1 ⊢
 have same:SL κ (X++Y)->Q true st1:=fun so=>h (X++Y) st1 (List.Perm.refl _) so k1 f1 (by rw [a1,ea,aeW]) p1
 refine ae0 (dE hy0 (ae0 (fE (left:=false) (key:=y0) (arr:=arrOf st) (base:=P.length) (n:=X.length) (hint:=0) hO k1 (vY y0 my0) (by omega) (by rw [dX];exact vX) (by rw [dX];exact sX) (by omega) fun k hkn g1 g2=>?_)))
 rw [dX] at g1 g2
 simp only [afj,agl] at g1 g2
 have sp:=afp k X
 have l2:(X.drop k).length=X.length - k:=age
 have l1:(X.take k).length=k:=by rw [ae9];omega
 have g1Y:∀ x∈X.take k,∀ y∈Y,le κ x y:=fun x hx y hy=>le_trans (g1 x hx) (y0le y hy)
 by_cases c1:X.length - k=0
 ·refine ifp (afe.mpr c1) ?_
  refine ae7 (same (pH sX sY fun x hx y hy=>g1Y x ?_ y hy))
  rw [afy (by omega)]
  exact hx
 refine ifn (fun z=>c1 (afe.mp z)) ?_
 obtain⟨xl,hxl⟩:∃ xl,X[X.length - 1]? = some xl:=⟨_,aeC (by omega)⟩
 have mxl:xl∈X:=afg hxl
 have hxa:(arrOf st)[P.length+k+(X.length - k) - 1]? = some xl:=by
  have:(arrOf st).toList[P.length+k+(X.length - k) - 1]? = some xl:=by
   rw [ea,show P.length+k+(X.length - k) - 1=P.length+(X.length - 1) by omega,afv (by omega),Nat.add_sub_cancel_left,agy (by omega)]
   exact hxl
  simpa using this
 have lex:∀ x∈X,le κ x xl:=fun x hx=>by
  obtain⟨j,hj,ej⟩:=afS.mp hx
  exact sX.at (i:=j) (j:=X.length - 1) (by omega) (by rw [aeC hj,ej]) hxl
 refine ae0 (dE hxa (ae0 (fE (left:=true) (key:=xl) (arr:=arrOf st) (base:=P.length+X.length) (n:=Y.length) (hint:=Y.length - 1) hO k1 (vX xl mxl) (by omega) (by rw [dY];exact vY) (by rw [dY];exact sY) (by omega) fun k2 hkn2 g3 g4=>?_)))
 rw [dY] at g3 g4
 simp only [ahl] at g3 g4
 by_cases c2:k2=0
 ·refine ifp (afe.mpr c2) ?_
  refine ae7 (same (pH sX sY fun x hx y hy=>le_trans (lex x hx) (g4 y ?_)))
  rw [c2,afU]
  exact hy
 refine ifn (fun z=>c2 (afe.mp z)) ?_
 have l3:(Y.take k2).length=k2:=by rw [ae9];omega
 have ex:((arrOf st).extract (P.length+k) (P.length+X.length)).toList=X.drop k:=by
  rw [agJ,agd,ea,← ahJ,aks,air hkn,show P.length+X.length - (P.length+k)=(X.drop k).length by rw [l2];omega,List.take_left]
 have ey:((arrOf st).extract (P.length+X.length) (P.length+X.length+k2)).toList=Y.take k2:=by
  rw [agJ,agd,ea,← ahJ,aks,aks,show P.length+X.length+k2 - (P.length+X.length)=k2 by omega,ahh hkn2]
 have fin:∀ (m:Array Keyed) (st2:SortSt),Eqv st1 st2->nJ κ (X.drop k++Y.take k2) m.toList->Q true (SortSt.mk' (kindOf st2) ((m.toList.zipIdx).foldl (fun a x=>a.setIfInBounds (P.length+k+x.2) x.1) (arrOf st2)) (pendingOf st2) (gallopOf st2) (failedOf st2)):=by
  intro m st2 ev g
  have ml:m.toList.length=X.length - k+k2:=by rw [g.1.length_eq,aeG,l2,l3]
  have msz:m.size=X.length - k+k2:=by rw [← aeT];exact ml
  refine h (X.take k++(m.toList++Y.drop k2)) _ ?_ ?_ (ev.1.trans k1) (ev.2.2.2.trans f1) ?_ (ev.2.2.1.trans p1)
  ·refine List.Perm.trans (agC _ (agS _ g.1)) ?_
   rw [aeW,afp,← aeW,afp]
  ·have inM:∀ z∈m.toList,z∈X.drop k\/z∈Y.take k2:=fun z hz=>aeI.mp (g.1.mem_iff.mp hz)
   have sX':=sX
   rw [← sp] at sX'
   have cX:=(afn.mp sX').2.2
   have sY':=sY
   rw [← afp k2 Y] at sY'
   have cY:=(afn.mp sY').2.2
   refine pH (sX.take k) (pH g.2 (sY.drop k2) fun z hz y hy=>?_) fun x hx z hz=>?_
   ·rcases inM z hz with q | q
    ·exact le_trans (lex z (af9 q)) (g4 y hy)
    ·exact cY z q y hy
   ·rcases aeI.mp hz with hz | hz
    ·rcases inM z hz with q | q
     ·exact cX x hx z q
     ·exact g1Y x hx z (afA q)
    ·exact g1Y x hx z (af9 hz)
  ·show ((m.toList.zipIdx).foldl (fun a x=>a.setIfInBounds (P.length+k+x.2) x.1) (arrOf st2)).toList=_
   have asz2:(arrOf st2).size=(arrOf st).size:=by rw [ev.2.1,a1]
   rw [ur (P.length+k) m.toList 0 (arrOf st2) (by omega),ev.2.1,a1,ea]
   have t1:(P++(X++(Y++R))).take (P.length+k+0)=P++X.take k:=by
    rw [ai4,List.take_length_add_append,ahh hkn]
   have t2:(P++(X++(Y++R))).drop (P.length+k+0+m.toList.length)=Y.drop k2++R:=by
    rw [show P.length+k+0+m.toList.length=P.length+(X.length+k2) by omega,aiS,aiS,air hkn2]
   rw [t1,t2]
   simp only [aeW]
 have P1':∀ y∈(Y.take k2).take 1,∀ x∈X.drop k,le κ y x:=fun y hy x hx=>by
  rw [aih,agb (by omega),eY] at hy
  have:y=y0:=by simpa using hy
  rw [this]
  exact le_of_lt (g2 x hx)
 have P2':∀ y∈Y.take k2,∀ z∈(X.drop k).drop (X.length - k - 1),le κ y z:=fun y hy z hz=>by
  rw [ahJ,show k+(X.length - k - 1)=X.length - 1 by omega] at hz
  have ez:X.drop (X.length - 1)=[xl]:=by
   obtain⟨hl,e⟩:=aeJ.mp hxl
   rw [afQ hl,e,agR (by omega)]
  rw [ez] at hz
  rw [aeF.mp hz]
  exact le_of_lt (g3 y hy)
 have xsz:((arrOf st).extract (P.length+k) (P.length+X.length)).size=X.length - k:=by rw [← aeT,ex,l2]
 have ysz:((arrOf st).extract (P.length+X.length) (P.length+X.length+k2)).size=k2:=by rw [← aeT,ey,l3]
 refine ifs (fun _=>?_) (fun _=>?_)
 ·refine ae0 (tM hO k1 (by rw [ex];exact fun p hp=>vX p (af9 hp)) (by rw [ey];exact fun p hp=>vY p (afA hp)) (by rw [xsz];omega) (by rw [ysz];omega) (by rw [ex];exact sX.drop k) (by rw [ey];exact sY.take k2) (by rw [ex,ey];exact P1') (by rw [ex,ey,xsz];exact P2') fun m st2 ev g=>?_)
  rw [ex,ey] at g
  refine ae0 (ahk (ae0 (aiR ?_)))
  have:=fin m st2 ev g
  have e:(failedOf st2).isNone=true:=by rw [ev.2.2.2,f1];rfl
  refine ae7 ?_
  show Q (failedOf st2).isNone _
  rw [e]
  exact this
 ·refine ae0 (tP hO k1 (by rw [ex];exact fun p hp=>vX p (af9 hp)) (by rw [ey];exact fun p hp=>vY p (afA hp)) (by rw [xsz];omega) (by rw [ysz];omega) (by rw [ex];exact sX.drop k) (by rw [ey];exact sY.take k2) (by rw [ex,ey];exact P1') (by rw [ex,ey,xsz];exact P2') fun m st2 ev g=>?_)
  rw [ex,ey] at g
  refine ae0 (ahk (ae0 (aiR ?_)))
  have:=fin m st2 ev g
  have e:(failedOf st2).isNone=true:=by rw [ev.2.2.2,f1];rfl
  refine ae7 ?_
  show Q (failedOf st2).isNone _
  rw [e]
  exact this
end
structure Rl (lo:Nat)(st0 st:SortSt):Prop where
 kind:kindOf st=oneType'
 failed:failedOf st=none
 pend:pendingOf st=pendingOf st0
 perm:(arrOf st).Perm (arrOf st0)
 pre:∀ i,i < lo->(arrOf st)[i]? = (arrOf st0)[i]?
theorem Rl.size {lo:Nat}{st0 st:SortSt}(R:Rl lo st0 st):(arrOf st).size=(arrOf st0).size:=R.perm.size_eq
theorem Rl.mir {lo i j:Nat}{st0 st:SortSt}(R:Rl lo st0 st)(hi:lo<=i)(hj:j<=(arrOf st0).size):Rl lo st0 (setArr st (mirror (arrOf st) i j ((j - i) / 2))) :=
 ⟨R.kind,R.failed,R.pend,(mirror_perm _ _ _ _).trans R.perm,fun k hk=>by
  show (mirror (arrOf st) i j ((j - i) / 2))[k]? = _
  rw [getElem?_mirror_all (by rw [R.size];exact hj),if_neg (by omega)]
  exact R.pre k hk⟩
theorem Rl.bub {lo src d:Nat}{st0 st:SortSt}(R:Rl lo st0 st)(hi:lo<=src - d)(hd:d<=src)(hs:src < (arrOf st0).size):Rl lo st0 (setArr st (bubble (arrOf st) src d)) :=
 ⟨R.kind,R.failed,R.pend,(bubble_perm _ _ _).trans R.perm,fun k hk=>by
  show (bubble (arrOf st) src d)[k]? = _
  rw [getElem?_bubble (by rw [R.size];exact hs) d hd,if_neg (by omega),if_neg (by omega)]
  exact R.pre k hk⟩
def UpK (κ:KeyKind)(xs:Array Keyed)(lo n:Nat):Prop:=∀ i j,i<=j->j < n->κ.kle (KK κ xs (lo+i)) (KK κ xs (lo+j))
def DnK (κ:KeyKind)(xs:Array Keyed)(lo n:Nat):Prop:=∀ i j,i<=j->j < n->κ.kle (KK κ xs (lo+j)) (KK κ xs (lo+i))
section
variable {κ:KeyKind}
theorem UpK.one (xs:Array Keyed)(lo n:Nat)(hn:n<=1):UpK κ xs lo n:=fun i j hij hj=>by
 have e:i=j:=by omega
 subst e
 exact ag9 _
theorem UpK.more {xs:Array Keyed}{lo x:Nat}(h:UpK κ xs lo x)(hx:1<=x)(q:κ.kle (KK κ xs (lo+(x - 1))) (KK κ xs (lo+x))):UpK κ xs lo (x+1):=fun i j hij hj=>by
 by_cases hjx:j < x
 ·exact h i j hij hjx
 ·have e:j=x:=by omega
  subst e
  by_cases e2:i=j
  ·subst e2;exact ag9 _
  ·exact ahg (h i (j - 1) (by omega) (by omega)) q
theorem DnK.more {xs:Array Keyed}{lo x:Nat}(h:DnK κ xs lo x)(hx:1<=x)(q:κ.kle (KK κ xs (lo+x)) (KK κ xs (lo+(x - 1)))):DnK κ xs lo (x+1):=fun i j hij hj=>by
 by_cases hjx:j < x
 ·exact h i j hij hjx
 ·have e:j=x:=by omega
  subst e
  by_cases e2:i=j
  ·subst e2;exact ag9 _
  ·exact ahg q (h i (j - 1) (by omega) (by omega))
theorem DnK.congr {xs ys:Array Keyed}{lo n:Nat}(h:DnK κ xs lo n)(e:∀ k,KK κ ys k=KK κ xs k):DnK κ ys lo n:=fun i j hij hj=>by
 rw [e,e]
 exact h i j hij hj
end
section
variable {prog:Program}{w:World}{A:Around}{E:Value->Shared->Prop}{s:Shared}{κ:KeyKind}
theorem oC (hO:κ.OneLt){lo i j:Nat}{st0 st:SortSt}{Q:Option Bool->SortSt->Prop}(R:Rl lo st0 st)(va:∀ p∈(arrOf st0).toList,Va κ p)(hi:i < (arrOf st0).size)(hj:j < (arrOf st0).size)
 (h:Q (some (κ.blt (KK κ (arrOf st) i) (KK κ (arrOf st) j))) st):wpS (model prog w) A E s (ltAt' i j) Q st:=by
 have get:∀ k,k < (arrOf st0).size->∃ p,(arrOf st)[k]? = some p/\Va κ p:=fun k hk=>by
  obtain⟨p,e,m⟩:=eO (x:=arrOf st) (i:=k) (by rw [R.size];exact hk)
  exact⟨p,e,va p ((afK.mp R.perm).mem_iff.mp m)⟩
 obtain⟨p,e1,a,ha⟩:=get i hi
 obtain⟨q,e2,b,hb⟩:=get j hj
 have ka:KK κ (arrOf st) i=a:=by rw [lD e1];unfold kk;rw [ha];rfl
 have kb:KK κ (arrOf st) j=b:=by rw [lD e2];unfold kk;rw [hb];rfl
 rw [ka,kb] at h
 exact wpS_ltAtK hO R.kind (x:=p.1) (y:=q.1) (p:=p.2) (q:=q.2) e1 e2 ha hb h
theorem vJ (hO:κ.OneLt){lo n ok:Nat}{st0 st:SortSt}{Q:Bool->SortSt->Prop}(R:Rl lo st0 st)(va:∀ p∈(arrOf st0).toList,Va κ p)(hn:lo+n<=(arrOf st0).size)(h1:1<=ok)(hok:ok<=n)(hs:UpK κ (arrOf st) lo ok)
 (h:∀ st',Rl lo st0 st'->UpK κ (arrOf st') lo n->Q true st'):wpS (model prog w) A E s (binarySort' lo n ok) Q st:=by
 rw [binarySort'_eq]
 refine ae0 (ag0 (afW (I:=fun k c st'=>c=(none,())/\Rl lo st0 st'/\UpK κ (arrOf st') lo k) (Q:=fun c st'=>c=(none,())/\Rl lo st0 st'/\UpK κ (arrOf st') lo n) ?_ ?_ ⟨rfl,R,by rw [Nat.max_eq_left h1];exact hs⟩) ?_)
 rotate_left
 ·rintro c st' ⟨rfl,R',hs'⟩
  rw [show max (max ok 1) n=n by omega] at hs'
  exact⟨rfl,R',hs'⟩
 ·rintro c st' ⟨rfl,R',hs'⟩
  exact ae7 (h st' R' hs')
 rintro k c st1 hak hkn ⟨rfl,R1,s1⟩
 have hk1:1<=k:=by omega
 refine ae0 (ag0 (afW (I:=fun x c st2=>st2=st1/\∃ l r,c=(none,l,r)/\l<=r/\r<=k/\r - l<=k - x/\(∀ i,i < l->κ.kle (KK κ (arrOf st1) (lo+i)) (KK κ (arrOf st1) (lo+k)))/\∀ i,r<=i->i < k->κ.klt (KK κ (arrOf st1) (lo+k)) (KK κ (arrOf st1) (lo+i)))
  (Q:=fun c st2=>st2=st1/\∃ l r,c=(none,l,r)/\l<=k/\(∀ i,i < l->κ.kle (KK κ (arrOf st1) (lo+i)) (KK κ (arrOf st1) (lo+k)))/\∀ i,l<=i->i < k->κ.klt (KK κ (arrOf st1) (lo+k)) (KK κ (arrOf st1) (lo+i))) ?_ ?_ ⟨rfl,0,k,rfl,ae2 _,aeN _,by omega,fun i hi=>absurd hi (by omega),fun i a b=>absurd b (by omega)⟩) ?_)
 ·rintro x c st2 _ hx ⟨rfl,l,r,rfl,g1,g2,g3,g4,g5⟩
  by_cases hge:l ≥ r
  ·refine ifp hge ?_
   have e:l=r:=by omega
   subst e
   exact ae7 ⟨rfl,l,l,rfl,g2,g4,g5⟩
  ·refine ifn hge ?_
   refine ae0 (oC hO R1 va (by show lo+k < _;omega) (by show lo+(l+r) / 2 < _;omega) ?_)
   show wpS _ _ _ _ (if κ.blt (KK κ (arrOf st2) (lo+k)) (KK κ (arrOf st2) (lo+(l+r) / 2))=true then _ else _) _ _
   cases q:κ.blt (KK κ (arrOf st2) (lo+k)) (KK κ (arrOf st2) (lo+(l+r) / 2)) with
   | true =>
    refine ifp rfl ?_
    exact ae7 ⟨rfl,l,(l+r) / 2,rfl,by omega,by omega,by omega,g4,fun i a b=>KeyOrd.klt_of_klt_of_kle q (s1 _ _ a b)⟩
   | false =>
    refine ifn aeM ?_
    exact ae7 ⟨rfl,(l+r) / 2+1,r,rfl,by omega,by omega,by omega,fun i a=>ahg (s1 i ((l+r) / 2) (by omega) (by omega)) (show κ.kle _ _ from q),g5⟩
 ·rintro c st2 ⟨rfl,l,r,rfl,g1,g2,g3,g4,g5⟩
  have e:l=r:=by omega
  subst e
  exact⟨rfl,l,l,rfl,g2,g4,g5⟩
 ·rintro c st2 ⟨rfl,l,r,rfl,g2,g4,g5⟩
  show wpS _ _ _ _ (moveDown' (lo+k) (lo+l) >>= fun _=>pure (ForInStep.yield (none,()))) _ _
  rw [moveDown'_eq]
  have hks:lo+k < (arrOf st2).size:=by rw [R1.size];omega
  refine ae0 (ahk (ae7 ⟨rfl,R1.bub (by omega) (by omega) (by omega),?_⟩))
  intro i j hij hj
  show κ.kle (KK κ (bubble (arrOf st2) (lo+k) (lo+k - (lo+l))) (lo+i)) (KK κ (bubble (arrOf st2) (lo+k) (lo+k - (lo+l))) (lo+j))
  rw [KK_bubble hks (by omega),KK_bubble hks (by omega)]
  have e1:∀ {z:Nat},l < z->z<=k->lo+z - 1=lo+(z - 1):=fun {z} a b=>by omega
  by_cases hj1:j=l
  ·subst hj1
   rw [if_pos (show lo+j=lo+k - (lo+k - (lo+j)) by omega)]
   by_cases hi1:i=j
   ·rw [hi1,if_pos (show lo+j=lo+k - (lo+k - (lo+j)) by omega)]
    exact ag9 _
   ·rw [if_neg (by omega),if_neg (by omega)]
    exact g4 i (by omega)
  ·by_cases hj2:l < j
   ·rw [if_neg (show ¬ (lo+j=lo+k - (lo+k - (lo+l))) by omega),if_pos (show lo+k - (lo+k - (lo+l)) < lo+j/\lo+j<=lo+k by omega),e1 hj2 (by omega)]
    by_cases hi1:i=l
    ·rw [hi1,if_pos (show lo+l=lo+k - (lo+k - (lo+l)) by omega)]
     exact ahA (g5 (j - 1) (by omega) (by omega))
    ·by_cases hi2:l < i
     ·rw [if_neg (show ¬ (lo+i=lo+k - (lo+k - (lo+l))) by omega),if_pos (show lo+k - (lo+k - (lo+l)) < lo+i/\lo+i<=lo+k by omega),e1 hi2 (by omega)]
      exact s1 _ _ (by omega) (by omega)
     ·rw [if_neg (by omega),if_neg (by omega)]
      exact s1 _ _ (by omega) (by omega)
   ·rw [if_neg (show ¬ (lo+j=lo+k - (lo+k - (lo+l))) by omega),if_neg (show ¬ (lo+k - (lo+k - (lo+l)) < lo+j/\lo+j<=lo+k) by omega),if_neg (by omega),if_neg (by omega)]
    exact s1 _ _ hij (by omega)
end
section
variable {prog:Program}{w:World}{A:Around}{E:Value->Shared->Prop}{s:Shared}{κ:KeyKind}
theorem ya (hO:κ.OneLt){lo nrem:Nat}{st0:SortSt}{Q:Option Nat->SortSt->Prop}(hk:kindOf st0=oneType')(hf:failedOf st0=none)(va:∀ p∈(arrOf st0).toList,Va κ p)(hn:lo+nrem<=(arrOf st0).size)(h1:1<=nrem)
 (h:∀ m st',Rl lo st0 st'->1<=m->m<=nrem->UpK κ (arrOf st') lo m->Q (some m) st'):wpS (model prog w) A E s (countRun' lo nrem) Q st0:=by
 rw [countRun'_eq]
 have R0:Rl lo st0 st0:=⟨hk,hf,rfl,Array.Perm.refl _,fun _ _=>rfl⟩
 refine ae0 (ag0 (afW (I:=fun x c st'=>st'=st0/\c=(none,x)/\UpK κ (arrOf st0) lo x) (Q:=fun c st'=>st'=st0/\∃ n,c=(none,n)/\1<=n/\n<=nrem/\UpK κ (arrOf st0) lo n/\(n=nrem\/κ.klt (KK κ (arrOf st0) (lo+n)) (KK κ (arrOf st0) (lo+(n - 1))))) ?_ ?_ ⟨rfl,rfl,UpK.one _ _ _ (aeN _)⟩) ?_)
 ·rintro x c st' hx1 hx ⟨rfl,rfl,s1⟩
  refine ae0 (oC hO R0 va (by show lo+x < _;omega) (by show lo+x - 1 < _;omega) ?_)
  show wpS _ _ _ _ (if κ.blt (KK κ (arrOf st') (lo+x)) (KK κ (arrOf st') (lo+x - 1))=true then _ else _) _ _
  rw [show lo+x - 1=lo+(x - 1) by omega]
  cases q:κ.blt (KK κ (arrOf st') (lo+x)) (KK κ (arrOf st') (lo+(x - 1))) with
  | true =>
   refine ifp rfl ?_
   exact ae7 ⟨rfl,x,rfl,hx1,by omega,s1,.inr q⟩
  | false =>
   refine ifn aeM ?_
   exact ae7 ⟨rfl,rfl,s1.more hx1 q⟩
 ·rintro c st' ⟨rfl,rfl,s1⟩
  rw [show max 1 nrem=nrem by omega] at s1 ⊢
  exact⟨rfl,nrem,rfl,h1,aeN _,s1,.inl rfl⟩
 rintro c st' ⟨rfl,n,rfl,g1,g2,s1,alt⟩
 by_cases hnn:n=nrem
 ·refine ifp (afe.mpr hnn) ?_
  exact ae7 (h n st' R0 g1 g2 s1)
 refine ifn (fun z=>hnn (afe.mp z)) ?_
 have hlt:=alt.resolve_left hnn
 lift_lets
 extract_lets n0 q0 jp
 have hjp:∀ st1,Rl lo st' st1->DnK κ (arrOf st1) lo (n+1)->wpS (model prog w) A E s (jp ()) Q st1:=by
  intro st1 R1 d1
  refine ae0 (wpS_lift (agD ⟨rfl,?_⟩))
  refine ae0 (ag0 (afW (a:=n+1) (b:=nrem) (I:=fun x c st2=>Rl lo st' st2/\∃ neq,c=(none,x,neq)/\DnK κ (arrOf st2) lo x/\neq+1<=x/\∀ i,x - (neq+1)<=i->i < x->KK κ (arrOf st2) (lo+i)=KK κ (arrOf st2) (lo+(x - 1)))
   (Q:=fun c st2=>Rl lo st' st2/\∃ x neq,c=(none,x,neq)/\1<=x/\x<=nrem/\DnK κ (arrOf st2) lo x/\neq+1<=x/\∀ i,x - (neq+1)<=i->i < x->KK κ (arrOf st2) (lo+i)=KK κ (arrOf st2) (lo+(x - 1))) ?_ ?_ ⟨R1,0,rfl,d1,by omega,fun i a b=>by congr 1;omega⟩) ?_)
  ·rintro x c st2 hx1 hx ⟨R2,neq,rfl,d2,q1,q2⟩
   have hsz:lo+x<=(arrOf st2).size:=by rw [R2.size];omega
   refine ae0 (oC hO R2 va (by show lo+x < _;omega) (by show lo+x - 1 < _;omega) ?_)
   show wpS _ _ _ _ (if κ.blt (KK κ (arrOf st2) (lo+x)) (KK κ (arrOf st2) (lo+x - 1))=true then _ else _) _ _
   rw [show lo+x - 1=lo+(x - 1) by omega]
   cases q:κ.blt (KK κ (arrOf st2) (lo+x)) (KK κ (arrOf st2) (lo+(x - 1))) with
   | true =>
    refine ifp rfl ?_
    have d3:=d2.more (by omega) (ahA q)
    refine ifs (fun hq=>?_) (fun hq=>?_)
    ·refine ae0 (wpS_reverse (i:=lo+x - (neq+1)) (j:=lo+x) (ae7 ⟨R2.mir (by omega) (by omega),0,rfl,?_,by omega,fun i a b=>by congr 1;omega⟩))
     refine d3.congr fun k=>KK_mirror_equal hsz (fun k a b=>?_) k
     have e:=q2 (k - lo) (by omega) (by omega)
     rw [show lo+(k - lo)=k by omega] at e
     rw [e]
     congr 1
     omega
    ·exact ae7 ⟨R2,0,rfl,d3,by omega,fun i a b=>by congr 1;omega⟩
   | false =>
    refine ifn aeM ?_
    refine ae0 (oC hO R2 va (by show lo+(x - 1) < _;omega) (by show lo+x < _;omega) ?_)
    show wpS _ _ _ _ (if κ.blt (KK κ (arrOf st2) (lo+(x - 1))) (KK κ (arrOf st2) (lo+x))=true then _ else _) _ _
    cases p:κ.blt (KK κ (arrOf st2) (lo+(x - 1))) (KK κ (arrOf st2) (lo+x)) with
    | true =>
     refine ifp rfl ?_
     exact ae7 ⟨R2,x,neq,rfl,by omega,by omega,d2,q1,q2⟩
    | false =>
     refine ifn aeM ?_
     have e:KK κ (arrOf st2) (lo+x)=KK κ (arrOf st2) (lo+(x - 1)):=KeyOrd.kle_antisymm p q
     refine ae7 ⟨R2,neq+1,rfl,d2.more (by omega) (show κ.kle _ _ from p),by omega,fun i a b=>?_⟩
     rw [show x+1 - 1=x by omega]
     by_cases hix:i=x
     ·rw [hix]
     ·rw [e]
      exact q2 i (by omega) (by omega)
  ·rintro c st2 ⟨R2,neq,rfl,d2,q1,q2⟩
   rw [show max (n+1) nrem=nrem by omega] at d2 q1 q2 ⊢
   exact⟨R2,nrem,neq,rfl,h1,aeN _,d2,q1,q2⟩
  rintro c st2 ⟨R2,x,neq,rfl,x1,x2,d2,q1,q2⟩
  lift_lets
  extract_lets r5 s5 n5 q5 jp2
  have hjp2:∀ st3,Rl lo st' st3->DnK κ (arrOf st3) lo x->wpS (model prog w) A E s (jp2 ()) Q st3:=by
   intro st3 R3 d3
   have hsz:lo+x<=(arrOf st3).size:=by rw [R3.size];omega
   refine ae0 (wpS_reverse (i:=lo) (j:=lo+x) ?_)
   have R4:=R3.mir (i:=lo) (j:=lo+x) (aeN _) (by omega)
   have u4:UpK κ (arrOf (setArr st3 (mirror (arrOf st3) lo (lo+x) ((lo+x - lo) / 2)))) lo x:=fun i j hij hj=>by
    show κ.kle (KK κ (mirror (arrOf st3) lo (lo+x) ((lo+x - lo) / 2)) (lo+i)) (KK κ (mirror (arrOf st3) lo (lo+x) ((lo+x - lo) / 2)) (lo+j))
    rw [KK_mirror hsz,KK_mirror hsz,if_pos (by omega),if_pos (by omega),show lo+(lo+x) - 1 - (lo+i)=lo+(x - 1 - i) by omega,show lo+(lo+x) - 1 - (lo+j)=lo+(x - 1 - j) by omega]
    exact d3 _ _ (by omega) (by omega)
   generalize setArr st3 (mirror (arrOf st3) lo (lo+x) ((lo+x - lo) / 2))=st4 at R4 u4 ⊢
   refine ae0 (ag0 (afW (a:=x) (b:=nrem) (I:=fun y c st5=>st5=st4/\c=(none,y)/\UpK κ (arrOf st4) lo y) (Q:=fun c st5=>st5=st4/\∃ m,c=(none,m)/\1<=m/\m<=nrem/\UpK κ (arrOf st4) lo m) ?_ ?_ ⟨rfl,rfl,u4⟩) ?_)
   ·rintro y c st5 hy1 hy ⟨rfl,rfl,s5⟩
    refine ae0 (oC hO R4 va (by show lo+y < _;omega) (by show lo+y - 1 < _;omega) ?_)
    show wpS _ _ _ _ (if κ.blt (KK κ (arrOf st5) (lo+y)) (KK κ (arrOf st5) (lo+y - 1))=true then _ else _) _ _
    rw [show lo+y - 1=lo+(y - 1) by omega]
    cases q:κ.blt (KK κ (arrOf st5) (lo+y)) (KK κ (arrOf st5) (lo+(y - 1))) with
    | true =>
     refine ifp rfl ?_
     exact ae7 ⟨rfl,y,rfl,by omega,by omega,s5⟩
    | false =>
     refine ifn aeM ?_
     exact ae7 ⟨rfl,rfl,s5.more (by omega) q⟩
   ·rintro c st5 ⟨rfl,rfl,s5⟩
    rw [show max x nrem=nrem by omega] at s5 ⊢
    exact⟨rfl,nrem,rfl,h1,aeN _,s5⟩
   ·rintro c st5 ⟨rfl,m,rfl,m1,m2,s5⟩
    exact ae7 (h m st5 R4 m1 m2 s5)
  clear_value jp2
  refine ifs (fun hq=>?_) (fun hq=>hjp2 st2 R2 d2)
  have hsz:lo+x<=(arrOf st2).size:=by rw [R2.size];omega
  refine ae0 (wpS_reverse (i:=lo+x - (neq+1)) (j:=lo+x) (hjp2 _ (R2.mir (by omega) (by omega)) ?_))
  refine d2.congr fun k=>KK_mirror_equal hsz (fun k a b=>?_) k
  have e:=q2 (k - lo) (by omega) (by omega)
  rw [show lo+(k - lo)=k by omega] at e
  rw [e]
  congr 1
  omega
 clear_value jp
 have hsz:lo+n<=(arrOf st').size:=by omega
 refine ifs (fun hgt=>?_) (fun hgt=>?_)
 ·refine ae0 (oC hO R0 va (by show lo < _;omega) (by show lo+n - 1 < _;omega) ?_)
  show wpS _ _ _ _ (if κ.blt (KK κ (arrOf st') lo) (KK κ (arrOf st') (lo+n - 1))=true then _ else _) _ _
  cases q:κ.blt (KK κ (arrOf st') lo) (KK κ (arrOf st') (lo+n - 1)) with
  | true =>
   refine ifp rfl ?_
   exact ae7 (h n st' R0 g1 g2 s1)
  | false =>
   refine ifn aeM ?_
   have all:∀ k,k < n->KK κ (arrOf st') (lo+k)=KK κ (arrOf st') (lo+(n - 1)):=fun k hk=>by
    have a1:=s1 0 k (by omega) hk
    have a2:=s1 k (n - 1) (by omega) (by omega)
    rw [ai4] at a1
    rw [show lo+n - 1=lo+(n - 1) by omega] at q
    exact KeyOrd.kle_antisymm a2 (ahg q a1)
   refine ae0 (wpS_reverse (i:=lo) (j:=lo+n) (hjp _ (R0.mir (aeN _) (by omega)) ?_))
   have d0:DnK κ (arrOf st') lo n:=fun i j hij hj=>by rw [all i (by omega),all j hj];exact ag9 _
   refine (d0.more g1 (ahA hlt)).congr fun k=>KK_mirror_equal hsz (fun k a b=>?_) k
   have e:=all (k - lo) (by omega)
   rw [show lo+(k - lo)=k by omega] at e
   rw [e,show lo+n - 1=lo+(n - 1) by omega]
 ·have e1:n=1:=by omega
  subst e1
  have d0:DnK κ (arrOf st') lo 1:=fun i j hij hj=>by
   have e:i=j:=by omega
   subst e
   exact ag9 _
  exact hjp st' R0 (d0.more (aeN _) (ahA hlt))
end
def js:Nat->List (List Keyed)->List (Nat×Nat)
 | _,[]=>[]
 | s,g::gs=>(s,g.length)::js (s+g.length) gs
theorem fj:∀ (A B:List (List Keyed)) (s:Nat),js s (A++B)=js s A++js (s+A.flatten.length) B
 | [],B,s=>by simp [js]
 | g::A,B,s=>by
  rw [ajE]
  simp only [js,aib,aeG,ajE]
  rw [fj A B,Nat.add_assoc]
theorem iy:∀ (A:List (List Keyed)) (s:Nat),(js s A).length=A.length
 | [],s=>rfl
 | g::A,s=>by simp only [js,afd,iy A]
def two (p:Nat×Nat×Nat):Nat×Nat:=(p.1,p.2.1)
structure Runs (κ:KeyKind)(a₀:Array Keyed)(segs:List (List Keyed))(rest:List Keyed)(st:SortSt):Prop where
 kind:kindOf st=oneType'
 failed:failedOf st=none
 perm:(arrOf st).Perm a₀
 arr:(arrOf st).toList=segs.flatten++rest
 pend:(pendingOf st).toList.map two=js 0 segs
 sl:∀ g∈segs,SL κ g/\1<=g.length
theorem Runs.psize {κ:KeyKind}{a₀:Array Keyed}{segs:List (List Keyed)}{rest:List Keyed}{st:SortSt}(r:Runs κ a₀ segs rest st):(pendingOf st).size=segs.length:=by
 have:=aft List.length r.pend
 rw [aeD,iy,aeT] at this
 exact this
theorem Runs.total {κ:KeyKind}{a₀:Array Keyed}{segs:List (List Keyed)}{rest:List Keyed}{st:SortSt}(r:Runs κ a₀ segs rest st):segs.flatten.length+rest.length=a₀.size:=by
 have:=aft List.length r.arr
 rw [aeG,aeT,r.perm.size_eq] at this
 exact this.symm
theorem xB:∀ {segs:List (List Keyed)},(∀ g∈segs,1<=g.length)->segs.length<=segs.flatten.length
 | [],_=>aeN _
 | g::gs,h=>by
  have a:=h g aeQ
  have b:=xB (segs:=gs) fun q hq=>h q (aeV _ hq)
  rw [aib,aeG,afd]
  omega
theorem rM:∀ {segs:List (List Keyed)} {i:Nat},i+1 < segs.length->∃ S1 X Y S2,segs=S1++(X::Y::S2)/\S1.length=i
 | [],i,h=>absurd h (by simp)
 | [g],i,h=>absurd h (by simp)
 | g::g'::gs,0,h=>⟨[],g,g',gs,rfl,rfl⟩
 | g::g'::gs,i+1,h=>by
  obtain⟨S1,X,Y,S2,e,l⟩:=rM (segs:=g'::gs) (i:=i) (by simpa using h)
  exact⟨g::S1,X,Y,S2,by rw [e];rfl,by simp [l]⟩
theorem ik {α β:Type}(f:α->β):∀ (l:List α) (n:Nat),(l.eraseIdx n).map f=(l.map f).eraseIdx n
 | [],n=>by simp
 | x::l,0=>by simp
 | x::l,n+1=>by
  rw [agK,aeZ,aeZ,agK,ik f l n]
theorem Runs.after {κ:KeyKind}{a₀:Array Keyed}{segs:List (List Keyed)}{rest:List Keyed}{st st':SortSt}(r:Runs κ a₀ segs rest st)(R:Rl segs.flatten.length st st'):Runs κ a₀ segs ((arrOf st').toList.drop segs.flatten.length) st':=by
 refine⟨R.kind,R.failed,R.perm.trans r.perm,?_,by rw [R.pend];exact r.pend,r.sl⟩
 have e:(arrOf st').toList.take segs.flatten.length=segs.flatten:=by
  have e1:(arrOf st).toList.take segs.flatten.length=segs.flatten:=by rw [r.arr,List.take_left]
  rw [← e1]
  refine agM fun i=>?_
  have hlen:(List.take segs.flatten.length (arrOf st).toList).length=segs.flatten.length:=by
   rw [e1]
  rw [hlen]
  by_cases hi:i < segs.flatten.length
  ·rw [ag3 hi,ag3 hi,afo,afo]
   exact R.pre i hi
  ·rw [aiZ (by omega),aiZ (by omega)]
 have:=(afp segs.flatten.length (arrOf st').toList).symm
 rwa [e] at this
theorem UpK.sl {κ:KeyKind}{xs:Array Keyed}{lo n:Nat}(h:UpK κ xs lo n):SL κ ((xs.toList.drop lo).take n):=by
 refine agc.mpr fun i j hi hj hij=>?_
 have hj':j < n/\j < xs.size - lo:=by
  rw [ae9,age,aeT] at hj
  omega
 have q:=h i j (afb hij) hj'.1
 rw [lD (p:=xs[lo+i]) (getElem?_pos xs (lo+i) (by omega)),lD (p:=xs[lo+j]) (getElem?_pos xs (lo+j) (by omega))] at q
 rw [ag8,ajp,ag8,ajp]
 exact q
theorem ach {c:Prop}[Decidable c]{a b n:Nat}(h1:a+1 < n)(h2:b+1 < n):(if c then a else b)+1 < n:=by
 split<;>assumption
theorem wJ (f:Nat×Nat×Nat->Nat×Nat×Nat)(hf:∀ x,two (f x)=two x)(p:Array (Nat×Nat×Nat))(i:Nat):(p.modify i f).toList.map two=p.toList.map two:=by
 refine agM fun j=>?_
 rw [aeP,aeP,afo,afo,Array.getElem?_modify]
 cases p[j]? with
 | none=>split<;>rfl
 | some v =>
  split
  ·show some (two (f v))=some (two v)
   rw [hf]
  ·rfl
section
variable {prog:Program}{w:World}{A:Around}{E:Value->Shared->Prop}{s:Shared}{κ:KeyKind}
theorem gN (hO:κ.OneLt){a₀:Array Keyed}{segs:List (List Keyed)}{rest:List Keyed}{i:Nat}{st:SortSt}{Q:Bool->SortSt->Prop}(va:∀ p∈a₀.toList,Va κ p)(r:Runs κ a₀ segs rest st)(hi:i+1 < segs.length)
 (h:∀ segs' st',Runs κ a₀ segs' rest st'->segs'.length+1=segs.length->segs'.flatten.length=segs.flatten.length->Q true st'):wpS (model prog w) A E s (mergeAt' i) Q st:=by
 obtain⟨S1,X,Y,S2,rfl,l1⟩:=rM hi
 have pe:=r.pend
 rw [fj] at pe
 simp only [js,aij] at pe
 have l1':(js 0 S1).length=i:=by rw [iy];exact l1
 have at1:((pendingOf st).toList.map two)[i]? = some (S1.flatten.length,X.length):=by
  rw [pe,afv (by omega),l1',ahM]
  rfl
 have at2:((pendingOf st).toList.map two)[i+1]? = some (S1.flatten.length+X.length,Y.length):=by
  rw [pe,afv (by omega),l1',show i+1 - i=1 by omega]
  rfl
 have get:∀ {k a b:Nat},((pendingOf st).toList.map two)[k]? = some (a,b)->∃ c,(pendingOf st)[k]? = some (a,b,c):=fun {k a b} e=>by
  rw [aeP,afo] at e
  cases q:(pendingOf st)[k]? with
  | none=>rw [q] at e;cases e
  | some v =>
   rw [q] at e
   obtain⟨x,y,z⟩:=v
   have e':(x,y)=(a,b):=afG e
   cases e'
   exact⟨z,rfl⟩
 obtain⟨pw,hp1⟩:=get at1
 obtain⟨pw2,hp2⟩:=get at2
 have ea:(arrOf st).toList=S1.flatten++(X++(Y++(S2.flatten++rest))):=by
  rw [r.arr]
  simp [aeW]
 have vall:∀ p∈(arrOf st).toList,Va κ p:=fun p hp=>va p ((afK.mp r.perm).mem_iff.mp hp)
 have sX:=r.sl X (by simp)
 have sY:=r.sl Y (by simp)
 refine sH hO r.kind r.failed hp1 hp2 ea (fun p hp=>vall p (by rw [ea];simp [hp])) (fun p hp=>vall p (by rw [ea];simp [hp])) sX.1 sY.1 sX.2 sY.2 fun M st' pM sM k' f' a' p'=>?_
 have lM:M.length=X.length+Y.length:=by rw [pM.length_eq,aeG]
 refine h (S1++M::S2) st' ⟨k',f',?_,?_,?_,fun g hg=>?_⟩ (by simp only [aeG,afd];omega) (by simp only [ahd,aib,aeG];omega)
 ·refine Array.Perm.trans (afK.mpr ?_) r.perm
  rw [a',ea]
  refine agC _ ?_
  rw [← aeW X]
  exact agS _ pM
 ·rw [a']
  simp [aeW]
 ·rw [p',Array.toList_eraseIdxIfInBounds,Array.toList_setIfInBounds,fj]
  simp only [js,aij]
  rw [ik,List.map_set,pe]
  rw [show two (S1.flatten.length,X.length+Y.length,pw)=(S1.flatten.length,X.length+Y.length) from rfl]
  rw [List.set_append_right _ _ (by omega),l1',ahM,List.set_cons_zero,ah3 (by omega),l1',show i+1 - i=1 by omega]
  simp only [agK,List.eraseIdx_cons_zero]
  rw [lM,Nat.add_assoc]
 ·rcases aeI.mp hg with hg | hg
  ·exact r.sl g (by simp [hg])
  ·rcases aeX.mp hg with hg | hg
   ·rw [hg];exact⟨sM,by omega⟩
   ·exact r.sl g (by simp [hg])
theorem wpS_sortAll (hO:κ.OneLt){a₀:Array Keyed}{st:SortSt}{Q:Unit->SortSt->Prop}(va:∀ p∈a₀.toList,Va κ p)(hk:kindOf st=oneType')(hf:failedOf st=none)(hp:(arrOf st).Perm a₀)(hpe:pendingOf st=#[])
 (h:∀ st',(arrOf st').Perm a₀->failedOf st'=none->SL κ (arrOf st').toList->Q () st'):wpS (model prog w) A E s sortRuns' Q st:=by
 have hN:(arrOf st).size=a₀.size:=hp.size_eq
 have none_left:∀ {segs:List (List Keyed)} {rest:List Keyed} {st':SortSt},Runs κ a₀ segs rest st'->(arrOf st).size<=segs.flatten.length->Runs κ a₀ segs [] st':=fun {segs rest st'} r hl=>by
  have t:=r.total
  have e:rest=[]:=af8.mp (by omega)
  rw [← e]
  exact r
 refine ae0 (aiR ?_)
 refine ae0 (ag0 (afW (a:=0) (b:=(arrOf st).size) (I:=fun x c st'=>∃ segs rest,c=(none,segs.flatten.length)/\Runs κ a₀ segs rest st'/\x<=segs.flatten.length)
  (Q:=fun c st'=>∃ segs lo,c=(none,lo)/\Runs κ a₀ segs [] st') ?_ ?_ ⟨[],(arrOf st).toList,rfl,⟨hk,hf,hp,rfl,by rw [hpe];rfl,fun g hg=>nomatch hg⟩,aeN _⟩) ?_)
 ·rintro x c st1 _ hx ⟨segs,rest,rfl,r,hxl⟩
  by_cases hge:segs.flatten.length ≥ (arrOf st).size
  ·refine ifp hge ?_
   exact ae7 ⟨segs,_,rfl,none_left r hge⟩
  refine ifn hge ?_
  have hN1:(arrOf st1).size=a₀.size:=r.perm.size_eq
  have vall:∀ p∈(arrOf st1).toList,Va κ p:=fun p hp=>va p ((afK.mp r.perm).mem_iff.mp hp)
  refine ae0 (ya (lo:=segs.flatten.length) (nrem:=(arrOf st).size - segs.flatten.length) hO r.kind r.failed vall (by omega) (by omega) fun m st2 R2 m1 m2 u2=>?_)
  have r2:=r.after R2
  have t2:=r2.total
  refine ifs (fun hlt=>?_) (fun hlt=>?_)
  ·refine ae0 (wpS_lift (agD ⟨rfl,?_⟩))
   have fo1:m<=min ((arrOf st).size - segs.flatten.length) (minRun' (arrOf st).size (arrOf st).size 0):=by
    have hlt':m < minRun' (arrOf st).size (arrOf st).size 0:=hlt
    omega
   have fo2:min ((arrOf st).size - segs.flatten.length) (minRun' (arrOf st).size (arrOf st).size 0)<=(arrOf st).size - segs.flatten.length:=Nat.min_le_left _ _
   refine ae0 (vJ (lo:=segs.flatten.length) (n:=min ((arrOf st).size - segs.flatten.length) (minRun' (arrOf st).size (arrOf st).size 0)) (ok:=m) hO R2 vall (by omega) m1 fo1 u2 fun st3 R3 u3=>?_)
   refine ifn (by simp) ?_
   have r3:=r.after R3
   have t3:=r3.total
   have sN:=u3.sl
   generalize (arrOf st3).toList.drop segs.flatten.length=rest3 at r3 sN t3
   have push:∀ (segs':List (List Keyed)) (st4:SortSt),Runs κ a₀ segs' rest3 st4->segs'.flatten.length=segs.flatten.length->∃ segs5 rest5,((none,segs.flatten.length+min ((arrOf st).size - segs.flatten.length) (minRun' (arrOf st).size (arrOf st).size 0)):Option Unit×Nat)=(none,segs5.flatten.length)/\Runs κ a₀ segs5 rest5 (setPending st4 ((pendingOf st4).push (segs.flatten.length,min ((arrOf st).size - segs.flatten.length) (minRun' (arrOf st).size (arrOf st).size 0),0)))/\x+1<=segs5.flatten.length:=fun segs' st4 r4 e4=>by
    have lN:(rest3.take (min ((arrOf st).size - segs.flatten.length) (minRun' (arrOf st).size (arrOf st).size 0))).length=min ((arrOf st).size - segs.flatten.length) (minRun' (arrOf st).size (arrOf st).size 0):=by rw [ae9];omega
    have lf:(segs'++[rest3.take (min ((arrOf st).size - segs.flatten.length) (minRun' (arrOf st).size (arrOf st).size 0))]).flatten.length=segs.flatten.length+min ((arrOf st).size - segs.flatten.length) (minRun' (arrOf st).size (arrOf st).size 0):=by
     rw [ahd,aeG,agT,lN,e4]
    refine⟨segs'++[rest3.take (min ((arrOf st).size - segs.flatten.length) (minRun' (arrOf st).size (arrOf st).size 0))],rest3.drop (min ((arrOf st).size - segs.flatten.length) (minRun' (arrOf st).size (arrOf st).size 0)),by rw [lf],⟨r4.kind,r4.failed,r4.perm,?_,?_,fun g hg=>?_⟩,by rw [lf];omega⟩
    ·show (arrOf st4).toList=_
     rw [r4.arr,ahd,agT,aeW,afp]
    ·show ((pendingOf st4).push (segs.flatten.length,min ((arrOf st).size - segs.flatten.length) (minRun' (arrOf st).size (arrOf st).size 0),0)).toList.map two=_
     rw [ah8,aeO,r4.pend,fj,e4]
     simp only [js,aij,lN]
     rfl
    ·rcases aeI.mp hg with hg | hg
     ·exact r4.sl g hg
     ·rw [aeF.mp hg]
      exact⟨sN,by omega⟩
   refine ae0 (aiR ?_)
   cases hb:(pendingOf st3).back? with
   | none=>exact ae0 (ahk (ae7 (push segs st3 r3 rfl)))
   | some v =>
    obtain⟨s1,n1,p0⟩:=v
    refine ae0 (ag0 (afW (a:=0) (b:=(arrOf st).size) (I:=fun y c st4=>c=(none,())/\∃ segs',Runs κ a₀ segs' rest3 st4/\segs'.flatten.length=segs.flatten.length) (Q:=fun c st4=>c=(none,())/\∃ segs',Runs κ a₀ segs' rest3 st4/\segs'.flatten.length=segs.flatten.length) ?_ (fun _ _ h=>h) ⟨rfl,segs,r3,rfl⟩) ?_)
    ·rintro y c st4 _ hy ⟨rfl,segs',r4,e4⟩
     refine ae0 (aiR ?_)
     have ps:=r4.psize
     by_cases hsz:(pendingOf st4).size > 1
     ·obtain⟨v,hv⟩:∃ v,(pendingOf st4)[(pendingOf st4).size - 2]? = some v:=⟨_,getElem?_pos _ _ (by omega)⟩
      obtain⟨q1,q2,q3⟩:=v
      have em:(if (pendingOf st4).size > 1 then (pendingOf st4)[(pendingOf st4).size - 2]? else none)=some (q1,q2,q3):=by rw [if_pos hsz,hv]
      dsimp only
      rw [em]
      refine ifs (fun ho=>ae7 ⟨rfl,segs',r4,e4⟩) (fun ho=>?_)
      refine ae0 (gN (i:=(pendingOf st4).size - 2) hO va r4 (by omega) fun segs5 st5 r5 l5 e5=>?_)
      exact ifn (by simp) (ae7 ⟨rfl,segs5,r5,by omega⟩)
     ·have em:(if (pendingOf st4).size > 1 then (pendingOf st4)[(pendingOf st4).size - 2]? else none)=none:=if_neg hsz
      dsimp only
      rw [em]
      exact ae7 ⟨rfl,segs',r4,e4⟩
    ·rintro c st4 ⟨rfl,segs',r4,e4⟩
     refine ae0 (ahk (ae0 (ahk (ae7 (push segs' _ ⟨r4.kind,r4.failed,r4.perm,r4.arr,?_,r4.sl⟩ e4)))))
     refine (wJ _ ?_ _ _).trans r4.pend
     intro z
     rfl
  ·have sN:=u2.sl
   have r3:=r2
   have t3:=t2
   generalize (arrOf st2).toList.drop segs.flatten.length=rest3 at r3 sN t3
   have push:∀ (segs':List (List Keyed)) (st4:SortSt),Runs κ a₀ segs' rest3 st4->segs'.flatten.length=segs.flatten.length->∃ segs5 rest5,((none,segs.flatten.length+m):Option Unit×Nat)=(none,segs5.flatten.length)/\Runs κ a₀ segs5 rest5 (setPending st4 ((pendingOf st4).push (segs.flatten.length,m,0)))/\x+1<=segs5.flatten.length:=fun segs' st4 r4 e4=>by
    have lN:(rest3.take (m)).length=m:=by rw [ae9];omega
    have lf:(segs'++[rest3.take (m)]).flatten.length=segs.flatten.length+m:=by
     rw [ahd,aeG,agT,lN,e4]
    refine⟨segs'++[rest3.take (m)],rest3.drop (m),by rw [lf],⟨r4.kind,r4.failed,r4.perm,?_,?_,fun g hg=>?_⟩,by rw [lf];omega⟩
    ·show (arrOf st4).toList=_
     rw [r4.arr,ahd,agT,aeW,afp]
    ·show ((pendingOf st4).push (segs.flatten.length,m,0)).toList.map two=_
     rw [ah8,aeO,r4.pend,fj,e4]
     simp only [js,aij,lN]
     rfl
    ·rcases aeI.mp hg with hg | hg
     ·exact r4.sl g hg
     ·rw [aeF.mp hg]
      exact⟨sN,by omega⟩
   refine ae0 (aiR ?_)
   cases hb:(pendingOf st2).back? with
   | none=>exact ae0 (ahk (ae7 (push segs st2 r3 rfl)))
   | some v =>
    obtain⟨s1,n1,p0⟩:=v
    refine ae0 (ag0 (afW (a:=0) (b:=(arrOf st).size) (I:=fun y c st4=>c=(none,())/\∃ segs',Runs κ a₀ segs' rest3 st4/\segs'.flatten.length=segs.flatten.length) (Q:=fun c st4=>c=(none,())/\∃ segs',Runs κ a₀ segs' rest3 st4/\segs'.flatten.length=segs.flatten.length) ?_ (fun _ _ h=>h) ⟨rfl,segs,r3,rfl⟩) ?_)
    ·rintro y c st4 _ hy ⟨rfl,segs',r4,e4⟩
     refine ae0 (aiR ?_)
     have ps:=r4.psize
     by_cases hsz:(pendingOf st4).size > 1
     ·obtain⟨v,hv⟩:∃ v,(pendingOf st4)[(pendingOf st4).size - 2]? = some v:=⟨_,getElem?_pos _ _ (by omega)⟩
      obtain⟨q1,q2,q3⟩:=v
      have em:(if (pendingOf st4).size > 1 then (pendingOf st4)[(pendingOf st4).size - 2]? else none)=some (q1,q2,q3):=by rw [if_pos hsz,hv]
      dsimp only
      rw [em]
      refine ifs (fun ho=>ae7 ⟨rfl,segs',r4,e4⟩) (fun ho=>?_)
      refine ae0 (gN (i:=(pendingOf st4).size - 2) hO va r4 (by omega) fun segs5 st5 r5 l5 e5=>?_)
      exact ifn (by simp) (ae7 ⟨rfl,segs5,r5,by omega⟩)
     ·have em:(if (pendingOf st4).size > 1 then (pendingOf st4)[(pendingOf st4).size - 2]? else none)=none:=if_neg hsz
      dsimp only
      rw [em]
      exact ae7 ⟨rfl,segs',r4,e4⟩
    ·rintro c st4 ⟨rfl,segs',r4,e4⟩
     refine ae0 (ahk (ae0 (ahk (ae7 (push segs' _ ⟨r4.kind,r4.failed,r4.perm,r4.arr,?_,r4.sl⟩ e4)))))
     refine (wJ _ ?_ _ _).trans r4.pend
     intro z
     rfl
 ·rintro c st1 ⟨segs,rest,rfl,r,hxl⟩
  rw [Nat.max_eq_right (ae2 _)] at hxl
  exact⟨segs,_,rfl,none_left r hxl⟩
 ·rintro c st1 ⟨segs,lo,rfl,r⟩
  have tt:=r.total
  rw [ahs,ai4] at tt
  have fg:=xB fun g hg=>(r.sl g hg).2
  refine ae0 (ag0 (afW (a:=0) (b:=(arrOf st).size) (I:=fun y c st2=>c=(none,())/\∃ segs',Runs κ a₀ segs' [] st2/\(segs'.length+y<=a₀.size\/segs'.length<=1)) (Q:=fun c st2=>c=(none,())/\∃ segs',Runs κ a₀ segs' [] st2/\segs'.length<=1) ?_ ?_ ⟨rfl,segs,r,.inl (by omega)⟩) ?_)
  ·rintro y c st2 _ hy ⟨rfl,segs',r2,alt⟩
   refine ae0 (aiR ?_)
   have ps:=r2.psize
   by_cases hsz:(pendingOf st2).size<=1
   ·refine ifp hsz ?_
    exact ae7 ⟨rfl,segs',r2,by omega⟩
   refine ifn hsz ?_
   refine ae0 (gN hO va r2 ?_ fun segs5 st5 r5 l5 e5=>?_)
   ·exact ach (show (pendingOf st2).size - 2 - 1+1 < _ by omega) (show (pendingOf st2).size - 2+1 < _ by omega)
   ·exact ifn (by simp) (ae7 ⟨rfl,segs5,r5,.inl (by omega)⟩)
  ·rintro c st2 ⟨rfl,segs',r2,alt⟩
   refine⟨rfl,segs',r2,?_⟩
   rw [Nat.max_eq_right (ae2 _)] at alt
   omega
  ·rintro c st2 ⟨rfl,segs',r2,l2⟩
   refine ae7 (h st2 r2.perm r2.failed ?_)
   rw [r2.arr,afw]
   match segs',l2,r2 with
   | [],_,_=>exact List.Pairwise.nil
   | [g],_,r2=>rw [agT];exact (r2.sl g aeQ).1
end
theorem SL.toK {κ:KeyKind}{xs:Array Keyed}(h:SL κ xs.toList)(n:Nat)(hn:n<=xs.size):SortedToK κ xs n:=fun i j hij hj=>by
 obtain⟨p,hp,_⟩:=eO (x:=xs) (i:=i) (by omega)
 obtain⟨q,hq,_⟩:=eO (x:=xs) (i:=j) (by omega)
 rw [lD hp,lD hq]
 exact h.at hij (by rw [afo];exact hp) (by rw [afo];exact hq)
section
variable {prog:Program}{w:World}{A:Around}{E:Value->Shared->Prop}{s:Shared}
theorem zm {a:Addr}{vs:List Value}{ss:List Str}{n:Nat}{R:Fin->Shared->Prop}(ho:s.heap.get? a=some (seqObj "list" vs.toArray n))(hS:StrsAre vs ss)(h2:2<=vs.length)(hz:vs.length<=sizeLine)
 (h:∀ (out:Array Value) (ss':List Str),StrsAre out.toList ss'->ss'.Perm ss->sortedS ss'=true->R (.done (.ret .none)) { s with heap:=sortedHeap s.heap a vs out }) :
 wpAny (model prog w) A (Builtin.«list.sort» ⟨[.ref a],[]⟩) R E s:=by
 have la:a < s.heap.objs.size:=aeR ho
 have sv:vs.toArray.size=vs.length:=aeU ..
 obtain⟨e1,he1⟩:∃ e,(s.heap.update a (Obj.mapSeq fun _=>#[])).get? a=some (seqObj "list" #[] e):=⟨_,get?_update_seq ho (fun _=>#[])⟩
 have he2:(((s.heap.update a (Obj.mapSeq fun _=>#[])).push (seqObj "tuple" vs.toArray 0)).push (seqObj "list" #[] 0)).get? a=some (seqObj "list" #[] e1):=by
  rw [Heap.get?_push_ne _ _ _ (by rw [aia,ahi];exact ae4 (ae1 la (agG _))),Heap.get?_push_ne _ _ _ (by rw [ahi];exact ae4 la)]
  exact he1
 obtain⟨v1,v2,vr,rfl⟩:∃ x y r,vs=x::y::r:=by
  rcases vs with _ | ⟨x,_ | ⟨y,r⟩⟩
  ·simp at h2
  ·simp at h2
  ·exact⟨x,y,r,rfl⟩
 rw [list_sort_plain]
 refine aeE (listItems_at ho rfl (aeE (ah5 ho rfl ?_ (by rw [sv];exact hz) (ae2 _))))
 refine aeE (seqEpoch_at he1 rfl (aeE (wpAny_newTuple (aeE (ahz (afD ?_))))))
 have nb:¬ (v1::v2::vr).toArray.size < 2:=by rw [sv];omega
 have go:wpAny (model prog w) A (sortRuns'.run (SortSt.mk' oneType' ((v1::v2::vr).toArray.zip (v1::v2::vr).toArray) #[] 7 none))
  (fun r s'=>s'={ s with heap:=((s.heap.update a (Obj.mapSeq fun _=>#[])).push (seqObj "tuple" (v1::v2::vr).toArray 0)).push (seqObj "list" #[] 0) }/\(arrOf r.2).Perm (pairsOf (v1::v2::vr))/\failedOf r.2=none/\SL strKind (arrOf r.2).toList) E
  { s with heap:=((s.heap.update a (Obj.mapSeq fun _=>#[])).push (seqObj "tuple" (v1::v2::vr).toArray 0)).push (seqObj "list" #[] 0) } :=
  wpS_sortAll (κ:=strKind) strKind_oneLt (a₀:=pairsOf (v1::v2::vr)) (Q:=fun _ st'=>(arrOf st').Perm (pairsOf (v1::v2::vr))/\failedOf st'=none/\SL strKind (arrOf st').toList) (fun p hp=>hS.keysOf p hp) rfl rfl (Array.Perm.refl _) rfl fun st' b1 b2 b3=>⟨b1,b2,b3⟩
 rw [if_neg nb,keyKind_strs hS]
 refine aeE (aeK ?_)
 rw [if_neg nb]
 refine aeE (afu go ?_ fun _ _ e=>e)
 rintro⟨⟨⟩,st'⟩ s' ⟨rfl,b1,b2,b3⟩
 have sz:(arrOf st').size=(v1::v2::vr).length:=b1.size_eq.trans (pairsOf_size _)
 obtain⟨ss',d1,d2,d3⟩:=sorted_out_str hS b1 (b3.toK _ (Nat.le_of_eq b1.size_eq.symm))
 refine aeE (seqEpoch_at he2 rfl (aeE (ah5 he2 rfl ?_ (ae2 _) (by rw [akt,sz];omega))))
 dsimp only
 rw [b2]
 simp only [ag7,afj,agl]
 exact aeK (h _ ss' d1 d2 d3)
theorem sorted_any {l:Addr}{vs:List Value}{ss:List Str}{Q:Value->Shared->Prop}(hl:s.heap.IsList l vs.toArray)(hS:StrsAre vs ss)(hz:vs.length<=sizeLine)
 (h:∀ (out:Array Value) (ss':List Str),StrsAre out.toList ss'->ss'.Perm ss->sortedS ss'=true->Q (.ref (s.heap.objs.size+1)) { s with heap:=sortedAll s.heap vs out }) :
 wpAny (model prog w) A (call (.builtin "sorted") [.ref l]) Q E s:=by
 by_cases h64:vs.length < 64
 ·exact sorted_strs hl hS h64 h
 refine ag1 ajz ai2 ai3 (args_sorted1 _) ?_
 have s1:((s.heap.push (seqObj "list" #[] 0)).update s.heap.objs.size (Obj.mapSeq (·++vs.toArray))).objs.size=s.heap.objs.size+1:=by
  rw [ahi,aia]
 have g1:(((s.heap.push (seqObj "list" #[] 0)).update s.heap.objs.size (Obj.mapSeq (·++vs.toArray))).push (seqObj "list" vs.toArray 0)).get? (s.heap.objs.size+1)=some (seqObj "list" vs.toArray 0):=by
  rw [← s1]
  exact aeY _ rfl
 unfold Builtin.«sorted»
 refine aeE (m:=checkCount "sorted" 1 1 _) (aeK (aeE (collect_list hl (aeE (ahz ?_)) hz)))
 show wpAny _ _ _ _ _ { s with heap:=((s.heap.push (seqObj "list" #[] 0)).update s.heap.objs.size (Obj.mapSeq (·++vs.toArray))).push (seqObj "list" vs.toArray 0) }
 rw [s1]
 exact aeE (afD (af4 aif ⟨_,g1,rfl⟩ ahW (zm g1 hS (by omega) hz fun out ss' b1 b2 b3=>⟨_,rfl,aeK ⟨_,rfl,h out ss' b1 b2 b3⟩⟩) (aja _)))
end
end TS
namespace L2
open PySem PySem.Spec PyProof.Rows
section
variable {X:Cx}
theorem j7:fu X (.builtin "sorted") (fun xs H Q=>∃ (p:Addr) (ss:List Str),xs=[.ref p]/\SqL X.K H p (ss.map V.str)/\ss.length<=sizeLine/\∀ (l:Addr) (ss':List Str),H l=none->ss'.Perm ss->sortedS ss'=true->Q (.ref l) (upd H l (.lst (ss'.map V.str)))):=by
 intro pins s σ H xs us Q I r h
 obtain⟨p,ss,rfl,hq,hl,q⟩:=h
 obtain⟨u,rfl,rx⟩:=gY r
 cases rx
 obtain⟨its,rv,pl,hz⟩:=I.list hq
 have hlen:=rv.length
 rw [aeD] at hlen
 refine TS.sorted_any pl.isList (eJ rv) (by omega) fun out ss' a1 a2 a3=>?_
 obtain⟨e,he⟩:=sortedAll_at s.heap its out
 have hlen':ss'.length=ss.length:=a2.length_eq
 refine⟨.ref (s.heap.objs.size+1),_,I.laid (t':=s.toks) (o:=.lst (ss'.map V.str)) (fun b o e=>sortedAll_old e) (agG _) ⟨?_,out.toList,e,gF a1,?_⟩,rfl,q _ ss' (I.hok.fresh (agG _)) a2 a3⟩
 ·rw [aeD,hlen']
  exact hl
 ·simpa using he
end
end L2
namespace K7
open PySem L2 PyProof.Rows
theorem rY (i:Nat)(ns:List Nat):inV (.int i) (aC ns)=decide (i∈ns):=by
 unfold inV aC
 induction ns with
 | nil=>rfl
 | cons a r ih =>
  rw [aeZ,agY,ih]
  show ((a:Int) == (i:Int) || decide (i∈r))=_
  by_cases e:a=i
  ·subst e
   simp
  ·have e':¬ ((a:Int)=(i:Int)):=by omega
   have e2:¬ i=a:=fun z=>e z.symm
   have:((a:Int) == (i:Int))=false:=by simpa using e'
   rw [this]
   simp [e2]
theorem qG (ns:List Nat):(aC ns).all jh=true:=by
 rw [aj0,agH]
 intro _ _
 rfl
def uV:Sp:=fun vs H Q _=>∃ (r a g:Addr) (n:Nat) (us:List V) (rs:List Rm) (hand:List Str) (gone:List Nat),vs=[.ref r,.ref a,.ref g,.int n]/\H r=some (.lst us)/\RoomsAt H us rs/\(∀ q∈rs,q.1.length<=1000)/\H a=some (.lst (hand.map V.str))/\H g=some (.lst (aC gone))/\n < rs.length ∧
 ∀ H',Same H H'->Q (.bl (!decide (n∈gone) && kR hand ((rs[n]?).getD ([],[])).1)) H'
section
variable {P:Program}{w:World}{K:PySem.W.Frag}{mg:Str->Option Value}{base:Heap}
theorem wc:aO ["rooms","hand","gone","number"] ["rooms","hand","gone","number"] (aq fz):=⟨rfl,rfl,rfl,by decide +kernel,rfl,by decide +kernel,by decide +kernel⟩
theorem abK {f fW fS:Addr}{fd fdW fdS:FuncData}(F:Fun K "is_step" "is_step" fz f fd)(iz:aV P w K mg base CX0 1 fW fdW ["thing"] tV)(bQ:Cal K mg "is_whole" ["thing"] fW fdW)
 (pB:aV P w K mg base CX0 1 fS fdS ["hand","locks"] kS)(eV:Cal K mg "serves" ["hand","locks"] fS fdS)(aY:mg "len" = none):aV P w K mg base CX0 2 f fd ["rooms","hand","gone","number"] uV:=by
 refine F.ok wc (fun vs H Q E h=>?_) (fun cdv A outer s H vs Q E hr h=>?_)
 ·obtain⟨r,a,g,n,us,rs,hand,gone,rfl,_⟩:=h
  rfl
 ·obtain⟨r,a,g,n,us,rs,hand,gone,rfl,hr',hR,hl,ha,hg,hn,k⟩:=h
  refine⟨_,(ak (cU (PW.pt (qF (eF (d6 (ax iz hr rfl bQ.mg bQ.kp bQ.b .nil aP (ae (pv 3) ai)))) (oh (eF (uE wO acJ av (pv 3) (aw az rfl aY ae8 (ae (pv 0) ai)))))))
   (au (aN iJ)) aU)
   (au (aN (gR (cV gp (pv 3) (pv 2) rfl) (jE (ax pB hr rfl eV.mg eV.kp eV.b .nil aP (ae (pv 1) (ae (aT bu (aT bD (pv 0) (pv 3) (fun _ _=>rfl)) av (fun _ _=>rfl)) ai)))))))),?_⟩
  refine⟨_,rfl,(n:Int),rfl,fun H1 s1=>⟨true,rfl,gu ?_⟩⟩
  refine⟨_,rfl,0,_,rfl,rfl,true,aft V.bl (afi (by omega)),gU ?_⟩
  refine⟨_,rfl,r,us,rfl,.inl (SqL.of (s1 _ _ hr')),_,_,rfl,rfl,true,aft V.bl (afi (by have:=hR.1;omega)),gu ?_⟩
  refine⟨_,rfl,_,rfl,g,_,rfl,.inl (SqL.of (s1 _ _ hg)),rfl,qG gone,?_⟩
  by_cases hin:n∈gone
  ·refine⟨false,aft V.bl (by rw [if_pos rfl,rY,afi hin];rfl),gu ?_⟩
   have:=k H1 s1
   rw [afi hin] at this
   exact this
  ·refine⟨true,aft V.bl (by rw [if_pos rfl,rY,afq hin];rfl),gU ?_⟩
   obtain⟨q,hq⟩:∃ q,rs[n]? = some q:=⟨_,aeC hn⟩
   obtain⟨v,hv⟩:∃ v,us[n]? = some v:=⟨_,aeC (by rw [hR.1];exact hn)⟩
   obtain⟨tt,aa,bb,rfl,q1,q2,q3⟩:=(hR.2 n v q hv hq).same s1
   refine⟨_,rfl,_,rfl,_,rfl,r,us,(n:Int),_,rfl,rfl,SqL.of (s1 _ _ hr'),cf hv,tt,_,0,.ref aa,rfl,rfl,SqT.of q1,rfl,a,aa,hand,q.1,rfl,s1 _ _ ha,q2,hl q (afg hq),fun H2 s2=>?_⟩
   have:=k H2 (s1.trans s2)
   rw [afq hin,hq] at this
   exact this
def oV:Sp:=fun vs H Q _=>∃ (v:V) (o:Addr) (h:Hs) (order:List Nat),vs=[v,.ref o]/\HouseAt H v h/\fo h/\H o=some (.lst (aC order))/\Gone h.1 h.2 order/\order.length<=200 ∧
 ∀ (l:Addr) (H':Hp),Same H H'->H l=none->H' l=some (.lst ((bf h.1 h.2 order).map V.str))->Q (.ref l) H'
def o6:Sp:=fun vs H Q _=>∃ (v:V) (o:Addr) (h:Hs) (order:List Nat),vs=[v,.ref o]/\HouseAt H v h/\fo h/\H o=some (.lst (aC order))/\Gone h.1 h.2 order/\order.length<=200 ∧
 ∀ (l:Addr) (H':Hp),Same H H'->H l=none->H' l=some (.lst (aC (iT h.2 (bf h.1 h.2 order) order)))->Q (.ref l) H'
def sd:Sp:=fun vs H Q _=>∃ (v:V) (o:Addr) (h:Hs) (order:List Nat),vs=[v,.ref o]/\HouseAt H v h/\fo h/\H o=some (.lst (aC order))/\Gone h.1 h.2 order/\order.length<=200 ∧
 ∀ (l:Addr) (ss:List Str) (H':Hp),Same H H'->H l=none->ss.Perm (bf h.1 h.2 order)->ss.Pairwise leS->H' l=some (.lst (ss.map V.str))->Q (.ref l) H'
theorem om {x:Str}:∀ (l h:List Str),x∈l.foldl List.erase h->x∈h
 | [],h,e=>e
 | a::l,h,e=>ahv (om l _ (by rw [aiQ] at e;exact e))
theorem ot {rs:List Rm}(hr:∀ r∈rs,∀ k∈r.2,bp k):∀ (order:List Nat) (ks:List Str),(∀ k∈ks,bp k)->∀ k∈bf ks rs order,bp k
 | [],ks,hk,k,e=>hk k e
 | i::order,ks,hk,k,e=>by
  refine ot hr order (hW ks ((rs[i]?).getD ([],[]))) (fun x hx=>?_) k e
  unfold hW at hx
  rcases aeI.mp hx with q | q
  ·exact hk x (om _ _ q)
  ·cases e2:rs[i]? with
   | none=>rw [e2] at q;cases q
   | some r=>rw [e2] at q;exact hr r (afg e2) x q
theorem pQ {h:Hs}(ok:fo h){order:List Nat}(ho:order.length<=200):(bf h.1 h.2 order).length<=201000:=by
 have:=oo (ks:=h.1) 1000 (fun r hr=>(ok.rs r hr).kl) order h.1
 have:=ok.kl
 omega
def tU:Sp:=fun vs H Q _=>∃ (v:V) (o:Addr) (h:Hs) (order:List Nat),vs=[v,.ref o]/\HouseAt H v h/\fo h/\H o=some (.lst (aC order))/\Gone h.1 h.2 order/\order.length<=200 ∧
 ∀ (H':Hp),Same H H'->Q (.bl (iT h.2 (bf h.1 h.2 order) order).isEmpty) H'
theorem cM:aO ["house","order","keys","rooms","hand","at","number"] ["house","order"] (aq dn):=⟨rfl,rfl,rfl,by decide +kernel,rfl,by decide +kernel,by decide +kernel⟩
theorem zK {f fS fB:Addr}{fd fdS fdB:FuncData}(F:Fun K "hand_after" "hand_after" dn f fd)(lF:aV P w K mg base CX0 2 fS fdS ["rooms","hand","gone","number"] uV)(dJ:Cal K mg "is_step" ["rooms","hand","gone","number"] fS fdS)
 (eD:aV P w K mg base CX0 1 fB fdB ["hand","room"] jq)(aR:Cal K mg "hand_behind" ["hand","room"] fB fdB)(cN:mg "enumerate" = none)(aQ:mg "isinstance" = none)(bV:mg "list" = none):aV P w K mg base CX0 3 f fd ["house","order"] oV:=by
 refine F.ok cM (fun vs H Q E h=>?_) (fun cdv A outer s H vs Q E hr h=>?_)
 ·obtain⟨v,o,h,order,rfl,_⟩:=h
  rfl
 ·obtain⟨v,o,h,order,rfl,⟨t,a,r,us,rfl,ht,ha,hr',hR⟩,ok,ho,hg,hol,k⟩:=h
  refine⟨_,(ak (cU (eF (d6 (aw bU rfl aQ (by decide +kernel) (ae (pv 1) (ae (fV (v:=.ty "list") (u:=.type "list") rfl bV (by decide +kernel) rfl) ai)))))
   jw aU)
   (ak (hJ (pv 0) (eG rfl (aG (ay (i:=2) cM.nd rfl (Or.inl rfl)) (aG (ay (i:=3) cM.nd rfl (Or.inl rfl)) bY))))
   (ak (aI (i:=4) cM.nd rfl (Or.inl rfl) (bF b9 rfl bV (by decide +kernel) (ae (pv 2) ai)))
   (ak (bB (dU afl rfl (tQ rfl cN (ae (pv 1) ai)) (eG rfl (aG (ay (i:=5) cM.nd rfl (Or.inl rfl)) (aG (ay (i:=6) cM.nd rfl (Or.inl rfl)) bY)))
    (ak (cU (eF (d6 (ax lF hr rfl dJ.mg dJ.kp dJ.b .nil aP (ae (pv 3) (ae (pv 4) (ae (gL lX (pv 1) i9 (i8 (pv 5))) (ae (pv 6) ai)))))))
     jw aU)
    (au (aI (i:=4) cM.nd rfl (Or.inl rfl) (ax eD (hr.mono (show 1<=2 by decide)) rfl aR.mg aR.kp aR.b .nil aP (ae (pv 4) (ae (aT bD (pv 3) (pv 6) (fun _ _=>rfl)) ai))))))))
   (au (aN (pv 4))))))),?_⟩
  refine⟨_,rfl,_,_,_,true,rfl,.lst ho,eU K _,true,rfl,gu ?_⟩
  refine⟨_,rfl,t,_,rfl,SqT.of ht,rfl,_,_,rfl,_,_,rfl,rfl,?_⟩
  refine⟨_,rfl,a,_,rfl,.inl (SqL.of ha),fun l nl=>?_⟩
  have s1:Same H (upd H l (.lst (h.1.map V.str))):=fun b u e=>by rw [ah (af e nl)];exact e
  refine⟨fun σ' H'=>∃ (l:Addr) (x5 x6:Option V),σ'=[some (.ref t),some (.ref o),some (.ref a),some (.ref r),some (.ref l),x5,x6]/\H' l=some (.lst ((bf h.1 h.2 order).map V.str))/\H l=none/\Same H H',?_,?_⟩
  ·rintro σ H2 ⟨l,x5,x6,rfl,hl,nl,s2⟩
   exact⟨_,rfl,k l H2 s2 nl hl⟩
  refine⟨_,rfl,o,rfl,⟨_,SqL.of (s1 _ _ ho)⟩,?_⟩
  refine u0 (xs:=aC order) (fun i σ' H'=>∃ (l:Addr) (x5 x6:Option V),σ'=[some (.ref t),some (.ref o),some (.ref a),some (.ref r),some (.ref l),x5,x6]/\H' l=some (.lst ((bf h.1 h.2 (order.take i)).map V.str))/\H l=none/\Same H H') ⟨l,_,_,rfl,ag,nl,s1⟩ (fun i σ H' _ ⟨_,_,_,_,_,_,s⟩=>SqL.of (s _ _ ho)) ?_ ?_
  ·rintro i x σ H2 T hx ⟨l2,x5,x6,rfl,hl2,nl2,s2⟩ nT
   have hi:i < order.length:=by
    have:=(aeJ.mp hx).1
    rw [aeD] at this;exact this
   obtain⟨n,hn⟩:∃ n,order[i]? = some n:=⟨_,aeC hi⟩
   rw [aeP,hn] at hx
   cases hx
   obtain⟨g1,g2,g3⟩:=hg i n hn
   have sT:Same H2 (upd H2 T (.tup [.int (i:Int),.int ((n:Nat):Int)])):=fun b u e=>by rw [ah (af e nT)];exact e
   refine⟨T,_,rfl,SqT.of ag,rfl,_,_,rfl,_,_,rfl,rfl,?_⟩
   have hl3:=sT _ _ hl2
   have s3:=s2.trans sT
   generalize upd H2 T (.tup [.int (i:Int),.int ((n:Nat):Int)])=H3 at hl3 s3 ⊢
   refine⟨_,rfl,_,rfl,_,rfl,_,rfl,_,rfl,o,_,rfl,SqL.of (s3 _ _ ho),fun c nc=>?_⟩
   rw [wV (by rw [aeD];omega)]
   have ec:(aC order).take i=aC (order.take i):=aiC.symm
   rw [ec]
   have s4:Same H3 (upd H3 c (.lst (aC (order.take i)))):=fun b u e=>by rw [ah (af e nc)];exact e
   have hc4:(upd H3 c (.lst (aC (order.take i)))) c=some (.lst (aC (order.take i))):=ag
   generalize upd H3 c (.lst (aC (order.take i)))=H4 at s4 hc4 ⊢
   have s04:=s3.trans s4
   refine⟨_,rfl,r,l2,c,n,us,h.2,bf h.1 h.2 (order.take i),order.take i,rfl,s04 _ _ hr',hR.same s04,fun q hq=>by have:=(ok.rs q hq).l4;omega,s4 _ _ hl3,hc4,g1,fun H5 s5=>?_⟩
   refine⟨true,aft V.bl (by rw [afq g2,g3];rfl),gu ?_⟩
   have s05:=s04.trans s5
   obtain⟨q,hq⟩:∃ q,h.2[n]? = some q:=⟨_,aeC g1⟩
   obtain⟨v,hv⟩:∃ v,us[n]? = some v:=⟨_,aeC (by rw [hR.1];exact g1)⟩
   have hrm:=(hR.2 n v q hv hq).same s05
   have hf:=pQ ok (order:=order.take i) (by rw [ae9];omega)
   have hkl:=(ok.rs q (afg hq)).kl
   rw [hq] at g3
   refine⟨_,rfl,_,rfl,_,rfl,r,us,(n:Int),_,rfl,rfl,SqL.of (s05 _ _ hr'),cf hv,l2,v,bf h.1 h.2 (order.take i),q,rfl,s5 _ _ (s4 _ _ hl3),hrm,g3,afk (by omega:_<=202000) (by decide),fun l6 H6 s6 nl6 hl6=>?_⟩
   refine⟨l6,_,_,rfl,?_,s05.free nl6,s05.trans s6⟩
   rw [hl6,afc,hn]
   show _=some (HO.lst ((bf h.1 h.2 (order.take i++[n])).map V.str))
   rw [lL,hq]
   rfl
  ·rintro σ H2 ⟨l2,x5,x6,rfl,hl2,nl2,s2⟩
   rw [aeD,afm] at hl2
   exact⟨l2,x5,x6,rfl,hl2,nl2,s2⟩
theorem gM:aO ["house","order","hand","rooms"] ["house","order"] (aq cJ):=⟨rfl,rfl,rfl,by decide +kernel,rfl,by decide +kernel,by decide +kernel⟩
theorem mf:(["number","rooms","hand","order"]:List Str).Nodup:=by decide +kernel
theorem z5 {f fR fA fS:Addr}{fd fdR fdA fdS:FuncData}(F:Fun K "next_rooms" "next_rooms" cJ f fd)(bS:aV P w K mg base CX0 6 fR fdR ["thing"] tO)(aB:Cal K mg "require_house" ["thing"] fR fdR)
 (il:aV P w K mg base CX0 3 fA fdA ["house","order"] oV)(bN:Cal K mg "hand_after" ["house","order"] fA fdA)
 (lF:aV P w K mg base CX0 2 fS fdS ["rooms","hand","gone","number"] uV)(dJ:Cal K mg "is_step" ["rooms","hand","gone","number"] fS fdS)(aY:mg "len" = none)(bh:mg "range" = none):aV P w K mg base CX0 7 f fd ["house","order"] o6:=by
 refine F.ok gM (fun vs H Q E h=>?_) (fun cdv A outer s H vs Q E hr h=>?_)
 ·obtain⟨v,o,h,order,rfl,_⟩:=h
  rfl
 ·obtain⟨v,o,h,order,rfl,hh,ok,ho,hg,hol,k⟩:=h
  refine⟨_,(ak (bC (ax bS hr rfl aB.mg aB.kp aB.b .nil aP (ae (pv 0) ai)))
   (ak (aI (i:=2) gM.nd rfl (Or.inr rfl) (ax il (hr.mono (show 3<=6 by decide)) rfl bN.mg bN.kp bN.b .nil aP (ae (pv 0) (ae (pv 1) ai))))
   (ak (aI (i:=3) gM.nd rfl (Or.inr rfl) (aT bu (pv 0) av (fun _ _=>rfl)))
   (au (aN (lx (tg:=.Name "number" _) (outer:=aq (cJ)) (N:=["house","order","hand","rooms"]) (N':=["number","rooms","hand","order"]) (nl:=1) (ix:=[3,2,1]) rfl rfl rfl (cg rfl bh (ae (aw az rfl aY ae8 (ae (pv 3) ai)) ai))
    (fun _ _ _ _=>(ay (i:=0) mf rfl (Or.inl rfl) (.inr rfl))) (fun _ _ _ _=>(jd (d6 (ax lF (hr.mono (show 2<=6 by decide)) rfl dJ.mg dJ.kp dJ.b .nil aP (ae (pv 1) (ae (pv 2) (ae (pv 3) (ae (pv 0) ai))))))))
    (fun _ _ _ _=>(pv 0)))))))),?_⟩
  refine⟨_,rfl,v,h,rfl,hh,ok,fun H1 s1=>?_⟩
  refine⟨_,rfl,_,rfl,v,o,h,order,rfl,hh.same s1,ok,s1 _ _ ho,hg,hol,fun l H2 s2 nl hl=>?_⟩
  have s02:=s1.trans s2
  obtain⟨t,a,r,us,rfl,ht,ha,hr',hR⟩:=hh.same s02
  have ho2:=s02 _ _ ho
  refine⟨_,rfl,t,_,1,.ref r,rfl,rfl,SqT.of ht,rfl,?_⟩
  have hul:us.length<=1000:=by rw [hR.1];exact ok.rl
  dsimp only [wy]
  refine bE _ _ _ _ _ _ _ _ _ ?_
  refine⟨_,rfl,r,us,rfl,.inl (SqL.of hr'),((us.length:Nat):Int),rfl,by omega,by omega,?_⟩
  rw [afh]
  intro D hD
  refine gE (n:=us.length) (fun i ys H'=>ys=aC ((List.range i).filter fun i=>!decide (i∈order) && kR (bf h.1 h.2 order) ((h.2[i]?).getD ([],[])).1)/\i<=1000/\H' D=some (.lst ys)/\Same H2 H') ⟨rfl,by decide,ag,fun b u e=>by rw [ah (af e hD)];exact e⟩ (fun i ys H' ⟨_,_,h,_⟩=>h) ?_ ?_
  ·rintro i ys H3 hi ⟨rfl,hi0,hD3,s3⟩
   rw [show (0+(i:Int))=((i:Nat):Int) by omega]
   have hi':i < h.2.length:=by rw [← hR.1];exact hi
   have hlen:(aC ((List.range i).filter fun i=>!decide (i∈order) && kR (bf h.1 h.2 order) ((h.2[i]?).getD ([],[])).1)).length<=1000:=by
    rw [aeD]
    exact afk (agB _ _) (by rw [afs];omega)
   refine yj rfl ?_
   refine⟨_,rfl,_,rfl,_,rfl,_,rfl,r,l,o,i,us,h.2,bf h.1 h.2 order,order,rfl,s3 _ _ hr',hR.same s3,fun q hq=>by have:=(ok.rs q hq).l4;omega,s3 _ _ hl,s3 _ _ ho2,hi',fun H4 s4=>?_⟩
   cases hm:(!decide (i∈order) && kR (bf h.1 h.2 order) ((h.2[i]?).getD ([],[])).1) with
   | true =>
    refine⟨true,rfl,gU ?_⟩
    refine⟨_,rfl,s4 _ _ hD3,aD hlen,nx hi ⟨?_,by omega,ag,fun b u e=>?_⟩⟩
    ·rw [ahZ,afV,af6,if_pos hm,List.filter_nil]
     unfold aC
     rw [aeO]
     rfl
    ·rw [ah (af e hD)];exact s4 _ _ (s3 b u e)
   | false =>
    refine⟨false,rfl,gu ?_⟩
    refine nx hi ⟨?_,by omega,s4 _ _ hD3,s3.trans s4⟩
    rw [ahZ,afV,af6,if_neg (by rw [hm];exact aeM),List.filter_nil,afw]
  ·rintro ys H3 ⟨rfl,_,hD3,s3⟩
   rw [hR.1] at hD3
   exact k D H3 (s02.trans s3) (s02.free hD) hD3
theorem nU:aO ["house","order"] ["house","order"] (aq cT):=⟨rfl,rfl,rfl,by decide +kernel,rfl,by decide +kernel,by decide +kernel⟩
theorem zp {f fR fA:Addr}{fd fdR fdA:FuncData}(F:Fun K "keys_behind" "keys_behind" cT f fd)(bS:aV P w K mg base CX0 6 fR fdR ["thing"] tO)(aB:Cal K mg "require_house" ["thing"] fR fdR)
 (il:aV P w K mg base CX0 3 fA fdA ["house","order"] oV)(bN:Cal K mg "hand_after" ["house","order"] fA fdA)(aS:mg "sorted" = none):aV P w K mg base CX0 7 f fd ["house","order"] sd:=by
 refine F.ok nU (fun vs H Q E h=>?_) (fun cdv A outer s H vs Q E hr h=>?_)
 ·obtain⟨v,o,h,order,rfl,_⟩:=h
  rfl
 ·obtain⟨v,o,h,order,rfl,hh,ok,ho,hg,hol,k⟩:=h
  refine⟨_,(ak (bC (ax bS hr rfl aB.mg aB.kp aB.b .nil aP (ae (pv 0) ai)))
   (au (aN (aw j7 rfl aS agO (ae (ax il (hr.mono (show 3<=6 by decide)) rfl bN.mg bN.kp bN.b .nil aP (ae (pv 0) (ae (pv 1) ai))) ai))))),?_⟩
  refine⟨_,rfl,v,h,rfl,hh,ok,fun H1 s1=>?_⟩
  refine⟨_,rfl,_,rfl,v,o,h,order,rfl,hh.same s1,ok,s1 _ _ ho,hg,hol,fun l H2 s2 nl hl=>?_⟩
  have hf:=pQ ok hol
  refine⟨l,_,rfl,SqL.of hl,afk hf (by decide),fun l2 ss nl2 hp hs=>?_⟩
  have s02:=s1.trans s2
  exact k l2 ss _ (fun b u e=>by rw [ah (af (s02 b u e) nl2)];exact s02 b u e) (s02.free nl2) hp (bH hs) ag
theorem sL:aO ["house","order"] ["house","order"] (aq eK):=⟨rfl,rfl,rfl,by decide +kernel,rfl,by decide +kernel,by decide +kernel⟩
theorem aaf {f fN:Addr}{fd fdN:FuncData}(F:Fun K "is_stuck" "is_stuck" eK f fd)(ij:aV P w K mg base CX0 7 fN fdN ["house","order"] o6)(bP:Cal K mg "next_rooms" ["house","order"] fN fdN):aV P w K mg base CX0 8 f fd ["house","order"] tU:=by
 refine F.ok sL (fun vs H Q E h=>?_) (fun cdv A outer s H vs Q E hr h=>?_)
 ·obtain⟨v,o,h,order,rfl,_⟩:=h
  rfl
 ·obtain⟨v,o,h,order,rfl,hh,ok,ho,hg,hol,k⟩:=h
  refine⟨_,(au (aN (abS (ax ij hr rfl bP.mg bP.kp bP.b .nil aP (ae (pv 0) (ae (pv 1) ai)))))),?_⟩
  refine⟨_,rfl,_,rfl,v,o,h,order,rfl,hh,ok,ho,hg,hol,fun l H2 s2 nl hl=>?_⟩
  refine⟨_,.inl ⟨_,SqL.of hl,rfl⟩,?_⟩
  have:=k H2 s2
  rw [Bool.not_not]
  rw [show (aC (iT h.2 (bf h.1 h.2 order) order)).isEmpty=(iT h.2 (bf h.1 h.2 order) order).isEmpty from List.isEmpty_map ..]
  exact this
end
def du (n:Nat)(o:List Nat):List Nat:=(List.range n).filter fun i=>!decide (i∈o)
def lH (h:Hs)(o:List Nat):List Rm:=(du h.2.length o).map (bW h.2)
theorem left_mem {n i:Nat}{o:List Nat}:i∈du n o↔i < n/\i ∉ o:=by
 unfold du
 simp
theorem su (n:Nat)(o:List Nat):(du n o).Nodup:=aiy _ ahL
theorem zx (n:Nat):du n []=List.range n:=by
 unfold du
 exact agw.mpr fun i _=>by simp
theorem yk (n i:Nat)(o:List Nat):du n (o++[i])=(du n o).filter fun m=>decide (m≠i):=by
 unfold du
 rw [List.filter_filter]
 congr 1
 funext m
 by_cases a:m∈o<;>by_cases b:m=i<;>simp [a,b]
theorem aad {h:Hs}{o:List Nat}{r:Rm}(hr:r∈lH h o):r∈h.2:=by
 obtain⟨i,hi,rfl⟩:=ae3.mp hr
 exact cB (left_mem.mp hi).1
theorem oD {rs:List Rm}(pl:Plain rs){i:Nat}(hi:i < rs.length)(hd:List Str):hW hd (bW rs i)=gP rs hd i:=by
 unfold hW gP
 rw [pl _ (cB hi)]
 rfl
theorem mK {h:Hs}(pl:Plain h.2){o:List Nat}{i:Nat}(hi:i < h.2.length):bf h.1 h.2 (o++[i])=gP h.2 (bf h.1 h.2 o) i:=by
 rw [lL]
 exact oD pl hi _
theorem Gone.snoc {ks:List Str}{rs:List Rm}{o:List Nat}{i:Nat}(g:Gone ks rs o)(a:i < rs.length)(b:i ∉ o)(c:kR (bf ks rs o) (bW rs i).1=true):Gone ks rs (o++[i]):=by
 intro j k e
 by_cases hj:j < o.length
 ·rw [agy hj] at e
  rw [ahh (by omega)]
  exact g j k e
 ·have hj':j < (o++[i]).length:=(aeJ.mp e).1
  rw [aeG,af0] at hj'
  have ej:j=o.length:=by omega
  subst ej
  rw [afv (aeN _),ahM] at e
  cases e
  rw [akf]
  ·exact⟨a,b,c⟩
  ·rfl
theorem Gone.pre {ks:List Str}{rs:List Rm}{o:List Nat}(g:Gone ks rs o)(n:Nat):Gone ks rs (o.take n):=by
 intro j k e
 rw [List.getElem?_take] at e
 split at e
 ·rename_i h
  rw [aih,agb (by omega)]
  exact g j k e
 ·cases e
theorem Gone.init {ks:List Str}{rs:List Rm}{o:List Nat}{i:Nat}(g:Gone ks rs (o++[i])):Gone ks rs o/\i < rs.length/\i ∉ o/\kR (bf ks rs o) (bW rs i).1=true:=by
 have a:=g.pre o.length
 rw [akf] at a
 ·have b:=g o.length i (by rw [afv (aeN _),ahM];rfl)
  rw [akf rfl] at b
  exact⟨a,b⟩
 ·rfl
theorem pA {M:List Nat->Prop}(h0:M [])(h1:∀ o i,M o->M (o++[i])):∀ o,M o:=fun o=>by
 have:∀ r:List Nat,M r.reverse:=fun r=>by
  induction r with
  | nil=>exact h0
  | cons i r ih=>rw [ajl];exact h1 _ _ ih
 have z:=this o.reverse
 rwa [List.reverse_reverse] at z
theorem Gone.lt {ks:List Str}{rs:List Rm}{o:List Nat}(g:Gone ks rs o):∀ i∈o,i < rs.length:=fun i hi=>by
 obtain⟨j,hj,e⟩:=afS.mp hi
 exact (g j i (by rw [aeC hj,e])).1
theorem pN {h:Hs}(x:HouseD h):kM h.1 h.2↔(∀ k,¬ FewK h k)/\∀ r∈h.2,Com h.1 h.2 (aA r):=by
 have e:∀ k,¬ FewK h k↔(h.2.map aA).count k<=(h.1++h.2.flatMap (·.2)).count k:=fun k=>by
  unfold FewK
  rw [pE x]
  exact Nat.not_lt
 exact⟨fun f=>⟨fun k=>(e k).mpr (f.cnt k),f.com⟩,fun ⟨a,b⟩=>⟨fun k=>(e k).mp (a k),b⟩⟩
theorem uv {h:Hs}{ss:List Str}(s:rJ h ss):ss=[]↔∀ r∈h.2,Com h.1 h.2 (aA r):=by
 constructor
 ·intro e r hr
  apply afP
  intro n
  have:=(s.mem (aA r)).mpr ⟨⟨r,hr,rfl⟩,n⟩
  rw [e] at this
  cases this
 ·intro a
  cases ss with
  | nil=>rfl
  | cons x t =>
   obtain⟨⟨r,hr,e⟩,n⟩:=(s.mem x).mp aeQ
   exact absurd (e▸a r hr) n
theorem abR {ks ks':List Str}{rs:List Rm}(h:∀ x∈ks,x∈ks'){x:Str}(c:Com ks rs x):Com ks' rs x:=by
 induction c with
 | key h1=>exact .key (h _ h1)
 | room h1 _ h3 ih=>exact .room h1 ih h3
theorem qV {hand hand':List Str}{rs:List Rm}(p:hand.Perm hand')(f:kM hand rs):kM hand' rs :=
 ⟨fun k=>by have:=f.cnt k;rw [afY] at this ⊢;rw [← p.count_eq];exact this,fun r hr=>abR (fun x hx=>p.mem_iff.mp hx) (f.com r hr)⟩
theorem yv {rs:List Rm}(pl:Plain rs){hand:List Str}{left o:List Nat}(g:Greedy rs hand left o):LeftD rs left->kM hand (left.map (bW rs))->∀ n,n<=o.length →
 Greedy rs (bf hand rs (o.take n)) (left.filter fun m=>!decide (m∈o.take n)) (o.drop n)/\kM (bf hand rs (o.take n)) ((left.filter fun m=>!decide (m∈o.take n)).map (bW rs)):=by
 induction g with
 | nil =>
  intro _ f n hn
  have:n=0:=by simpa using hn
  subst this
  exact⟨.nil,f⟩
 | @cons hand A B o k h1 h2 g ih =>
  intro ld f n hn
  cases n with
  | zero =>
   have e:(A++k::B).filter (fun m=>!decide (m∈(k::o).take 0))=A++k::B:=agw.mpr fun i _=>by simp
   rw [e]
   exact⟨.cons h1 h2 g,f⟩
  | succ n =>
   have hk:=ld.lt k (aeL _ aeQ)
   have ld':LeftD rs (A++B):=⟨by have:=gw ld.nd;rw [← this];exact ld.nd.filter _,fun m hm=>ld.lt m (by
    rcases aeI.mp hm with q | q
    ·exact ae6 _ q
    ·exact aeL _ (aeV _ q))⟩
   obtain⟨a,b⟩:=ih ld' (xK ld.nd f h2) n (by simpa using hn)
   have e1:bf hand rs ((k::o).take (n+1))=bf (gP rs hand k) rs (o.take n):=by
    rw [List.take_succ_cons]
    show bf (hW hand (bW rs k)) rs (o.take n)=_
    rw [oD pl hk]
   have e2:(A++k::B).filter (fun m=>!decide (m∈(k::o).take (n+1)))=(A++B).filter fun m=>!decide (m∈o.take n):=by
    rw [← gw ld.nd,List.filter_filter,List.take_succ_cons]
    congr 1
    funext m
    by_cases x:m=k<;>by_cases y:m∈o.take n<;>simp [x,y]
   rw [e1,e2,List.drop_succ_cons]
   exact⟨a,b⟩
section
variable {h:Hs}{o:List Nat}
theorem aaw (x:HouseD h)(f:kM h.1 h.2)(g:Greedy h.2 h.1 (List.range h.2.length) o){n:Nat}(hn:n<=o.length):Greedy h.2 (bf h.1 h.2 (o.take n)) (du h.2.length (o.take n)) (o.drop n)/\kM (bf h.1 h.2 (o.take n)) (lH h (o.take n)) :=
 yv (dW x) g ⟨ahL,fun m hm=>afT.mp hm⟩ (by rw [iW];exact f) n hn
theorem tX {rs:List Rm}{hand:List Str}{left o:List Nat}{n:Nat}(g:Greedy rs hand left (n::o)):∃ A B,left=A++n::B/\(∀ m∈A,¬ kP rs hand left m)/\kP rs hand left n:=by
 generalize e:n::o=l at g
 cases g with
 | nil=>cases e
 | cons h1 h2 g=>cases e;exact⟨_,_,rfl,h1,h2⟩
theorem wa (x:HouseD h)(f:kM h.1 h.2)(g:Greedy h.2 h.1 (List.range h.2.length) o):Gone h.1 h.2 o:=by
 intro j i e
 have hj:j < o.length:=(aeJ.mp e).1
 obtain⟨a,_⟩:=aaw x f g (afb hj)
 rw [afQ hj] at a
 have ei:o[j]=i:=by rw [aeC hj] at e;exact afG e
 rw [ei] at a
 obtain⟨A,B,el,_,s⟩:=tX a
 have im:i∈du h.2.length (o.take j):=by rw [el];exact aeL _ aeQ
 obtain⟨i1,i2⟩:=left_mem.mp im
 refine⟨i1,i2,?_⟩
 have:(bW h.2 i).1=[aA (bW h.2 i)]:=dW x _ (cB i1)
 show kR _ (bW h.2 i).1=true
 rw [this]
 exact (ja _ _).mpr s.1
theorem next_mem {rs:List Rm}{hand:List Str}{o:List Nat}{i:Nat}:i∈iT rs hand o↔i < rs.length/\i ∉ o/\kR hand (bW rs i).1=true:=by
 unfold iT
 simp only [ahq,afT,af3,ahy,ah4]
 exact Iff.rfl
theorem qH (g:Greedy h.2 h.1 (List.range h.2.length) o)(hand:List Str):iT h.2 hand o=[]:=by
 apply ail.mpr
 intro i hi
 obtain⟨a,b,_⟩:=next_mem.mp hi
 exact b (g.perm.mem_iff.mpr (afT.mpr a))
end
theorem wC {hand:List Str}{A B:List Rm}{r:Rm}(pr:r.1=[aA r])(lk:aA r∈hand)(f:kM (hand.erase (aA r)++r.2) (A++B)):kM hand (A++r::B):=by
 refine⟨fun k=>?_,fun q hq=>?_⟩
 ·have h1:=f.cnt k
  have h2:(hand.erase (aA r)).count k=hand.count k - if aA r=k then 1 else 0:=by
   rw [aip]
   simp only [afe]
  have h3:0 < hand.count (aA r):=afF.mpr lk
  simp only [aeO,aeZ,afB,afO,afY,aht,afe] at h1 ⊢
  rw [h2] at h1
  by_cases z:aA r=k
  ·rw [if_pos z] at h1 ⊢
   rw [z] at h3
   omega
  ·rw [if_neg z] at h1 ⊢
   omega
 ·have rm:r∈A++r::B:=aeL _ aeQ
  have up:∀ {x},Com (hand.erase (aA r)++r.2) (A++B) x->Com hand (A++r::B) x:=fun {x} c=>by
   induction c with
   | key h =>
    rcases aeI.mp h with y | y
    ·exact .key (ahv y)
    ·exact .room rm (fun z hz=>by rw [pr] at hz;rw [aeF.mp hz];exact .key lk) y
   | room h1 _ h3 ih=>exact .room (mem_mid.mpr (.inr h1)) ih h3
  rcases mem_mid.mp hq with e | e
  ·rw [e];exact .key lk
  ·exact up (f.com q e)
theorem sy {ks:List Str}{rs:List Rm}:∀ o,Gone ks rs o->o.Nodup:=by
 refine pA (M:=fun o=>Gone ks rs o->o.Nodup) (fun _=>.nil) fun o i ih g=>?_
 obtain⟨g0,_,no,_⟩:=g.init
 rw [afX]
 exact⟨ih g0,by simp,fun a ha b hb=>by rw [aeF.mp hb];exact fun e=>no (e▸ha)⟩
theorem w8 {ks:List Str}{rs:List Rm}{o:List Nat}(g:Gone ks rs o)(e:o.length=rs.length):du rs.length o=[]:=by
 apply ail.mpr
 intro i hi
 obtain⟨a,b⟩:=left_mem.mp hi
 have:=aF (U:=List.range rs.length) (l:=i::o) (afx.mpr ⟨b,sy o g⟩) fun x hx=>by
  rcases aeX.mp hx with z | z
  ·rw [z];exact afT.mpr a
  ·exact afT.mpr (g.lt x z)
 rw [afs,afd] at this
 omega
theorem xQ {n:Nat}{o:List Nat}(e:o.length < n):du n o≠[]:=fun z=>by
 have:=aF (U:=o) (l:=List.range n) ahL fun x hx=>by
  apply afP
  intro nx
  have:=left_mem.mpr ⟨afT.mp hx,nx⟩
  rw [z] at this
  cases this
 rw [afs] at this
 omega
theorem xq {ks:List Str}{rs:List Rm}{o:List Nat}(g:Gone ks rs o):o.length<=rs.length:=by
 have:=aF (U:=List.range rs.length) (sy o g) fun x hx=>afT.mpr (g.lt x hx)
 rwa [afs] at this
section
variable {h:Hs}{o:List Nat}
abbrev Can (h:Hs)(o:List Nat):Prop:=kM (bf h.1 h.2 o) (lH h o)
theorem o5 (x:HouseD h){i:Nat}(hi:i < h.2.length):(bW h.2 i).1=[aA (bW h.2 i)]:=dW x _ (cB hi)
theorem abO (x:HouseD h):Plain (lH h o):=(dW x).sub fun r hr=>aad hr
theorem aaT {n i:Nat}(hi:i∈du n o):∃ A B,du n o=A++i::B/\du n (o++[i])=A++B:=by
 obtain⟨A,B,e⟩:=ah0 hi
 refine⟨A,B,e,?_⟩
 rw [yk,e]
 exact gw (e▸su n o)
theorem zW (x:HouseD h)(f:Can h o)(ne:du h.2.length o≠[]):∃ i∈iT h.2 (bf h.1 h.2 o) o,Can h (o++[i]):=by
 obtain⟨i,hi,s⟩:=aaL (rs:=h.2) (abO x) (su _ _) f ne
 obtain⟨a,b⟩:=left_mem.mp hi
 refine⟨i,next_mem.mpr ⟨a,b,?_⟩,?_⟩
 ·rw [o5 x a];exact (ja _ _).mpr s.1
 ·obtain⟨A,B,e1,e2⟩:=aaT hi
  have nd:=su h.2.length o
  unfold Can lH at *
  rw [e1] at f s nd
  rw [mK (dW x) a,e2]
  exact xK nd f s
theorem aar (x:HouseD h){i:Nat}(hi:i∈iT h.2 (bf h.1 h.2 o) o)(f:Can h (o++[i])):Can h o:=by
 obtain⟨a,b,c⟩:=next_mem.mp hi
 obtain⟨A,B,e1,e2⟩:=aaT (left_mem.mpr ⟨a,b⟩)
 rw [o5 x a] at c
 have lk:=(ja _ _).mp c
 unfold Can lH at *
 rw [mK (dW x) a,e2,aeO] at f
 rw [e1,aeO,aeZ]
 exact wC (o5 x a) lk f
theorem abA (e:du h.2.length o=[]):Can h o:=by
 unfold Can lH
 rw [e]
 exact⟨fun k=>ae2 _,fun r hr=>nomatch hr⟩
theorem jK (x:HouseD h)(k:Str):∀ o,Gone h.1 h.2 o->(bf h.1 h.2 o).count k+(o.map fun i=>aA (bW h.2 i)).count k=h.1.count k+(o.flatMap fun i=>(bW h.2 i).2).count k:=by
 refine pA ?_ ?_
 ·intro _;rfl
 ·intro o i ih g
  obtain⟨g0,hi,_,may⟩:=g.init
  have:=ih g0
  rw [o5 x hi] at may
  have lk:=afF.mpr ((ja _ _).mp may)
  rw [mK (dW x) hi]
  unfold gP
  rw [aeO,afB,afY,afY,afY,aip]
  simp only [aeZ,aii,afO,ajK,afw,aht,List.count_nil,afe]
  by_cases z:aA (bW h.2 i)=k
  ·rw [z] at lk ⊢
   simp only [ahl]
   omega
  ·have z':¬ k=aA (bW h.2 i):=fun e=>z e.symm
   simp only [z,z',agl]
   omega
theorem qJ (x:HouseD h){o':List Nat}(g:Gone h.1 h.2 o)(g':Gone h.1 h.2 o')(p:o'.Perm o):(bf h.1 h.2 o').Perm (bf h.1 h.2 o):=by
 rw [List.perm_iff_count]
 intro k
 have a:=jK x k o g
 have b:=jK x k o' g'
 have c:=(p.map fun i=>aA (bW h.2 i)).count_eq k
 have d:=(p.flatMap_right fun i=>(bW h.2 i).2).count_eq k
 omega
theorem xZ {n:Nat}{o':List Nat}(p:o'.Perm o):du n o'=du n o:=by
 unfold du
 apply List.filter_congr
 intro i _
 rw [show decide (i∈o')=decide (i∈o) from ajL.mpr p.mem_iff]
theorem zw (x:HouseD h){o':List Nat}(g:Gone h.1 h.2 o)(g':Gone h.1 h.2 o')(p:o'.Perm o):Can h o'↔Can h o:=by
 have e:lH h o'=lH h o:=by unfold lH;rw [xZ p]
 unfold Can
 rw [e]
 exact⟨qV (qJ x g g' p),qV (qJ x g g' p).symm⟩
end
abbrev Asc (S:List Nat):Prop:=S.Pairwise (· < ·)
theorem tE:∀ {S T:List Nat},Asc S->Asc T->S.Perm T->S=T
 | [],T,_,_,p=>(List.nil_perm.mp p).symm
 | x::S,[],_,_,p=>absurd p.length_eq (by simp)
 | x::S,y::T,a,b,p=>by
  replace a:=afE.mp a
  replace b:=afE.mp b
  have e:x=y:=by
   have h1:x∈y::T:=p.mem_iff.mp (by simp)
   have h2:y∈x::S:=p.mem_iff.mpr (by simp)
   rcases aeX.mp h1 with h1 | h1
   ·exact h1
   rcases aeX.mp h2 with h2 | h2
   ·exact h2.symm
   have:=a.1 y h2
   have:=b.1 x h1
   omega
  subst e
  rw [tE a.2 b.2 p.cons_inv]
def lQ:Nat->List (List Nat)
 | 0=>[[]]
 | n+1=>lQ n++(lQ n).map (·++[n])
theorem oy:∀ n,(lQ n).length=2 ^ n
 | 0=>rfl
 | n+1=>by
  rw [lQ,aeG,aeD,oy n,Nat.pow_succ]
  omega
theorem jL:∀ (n:Nat) (S:List Nat),Asc S->(∀ i∈S,i < n)->S∈lQ n
 | 0,S,_,l=>by
  cases S with
  | nil=>simp [lQ]
  | cons x S=>exact absurd (l x (by simp)) (by omega)
 | n+1,S,a,l=>by
  rw [lQ,aeI]
  by_cases hn:n∈S
  ·refine .inr (ae3.mpr ?_)
   obtain⟨A,B,e⟩:=ah0 hn
   subst e
   have hB:B=[]:=by
    cases B with
    | nil=>rfl
    | cons b B =>
     have h1:=(afn.mp a).2.1
     rw [afE] at h1
     have:=h1.1 b (by simp)
     have:=l b (by simp)
     omega
   subst hB
   refine⟨A,jL n A (afn.mp a).1 fun i hi=>?_,rfl⟩
   exact (afn.mp a).2.2 i hi n (by simp)
  ·exact .inl (jL n S a fun i hi=>by
    have:=l i hi
    have:i≠n:=fun z=>hn (z▸hi)
    omega)
theorem abk {n:Nat}{Es:List (List Nat)}(nd:Es.Nodup)(h:∀ S∈Es,Asc S/\∀ i∈S,i < n):Es.length<=2 ^ n:=by
 rw [← oy n]
 exact aF nd fun S hS=>jL n S (h S hS).1 (h S hS).2
def RchS (h:Hs)(S:List Nat):Prop:=Asc S/\∃ o,Gone h.1 h.2 o/\o.Perm S
def m9 (h:Hs)(S:List Nat):List Str:=h.1++S.flatMap fun i=>(bW h.2 i).2
def cW (h:Hs)(S:List Nat):List Str:=S.map fun i=>aA (bW h.2 i)
def jH (h:Hs)(S:List Nat):List Str:=(cW h S).foldl List.erase (m9 h S)
def Nxt (h:Hs)(S:List Nat)(i:Nat):Prop:=i < h.2.length/\i ∉ S/\kR (jH h S) (bW h.2 i).1=true
def Ins (S:List Nat)(i:Nat)(T:List Nat):Prop:=T.Perm (S++[i])/\Asc T
section
variable {h:Hs}{S T:List Nat}{o:List Nat}{i:Nat}
theorem abF:RchS h []:=⟨.nil,[],(fun j i e=>by simp at e),.refl _⟩
theorem RchS.lt (r:RchS h S):∀ i∈S,i < h.2.length:=fun i hi=>by
 obtain⟨_,o,g,p⟩:=r
 exact g.lt i (p.mem_iff.mpr hi)
theorem RchS.len (r:RchS h S):S.length<=h.2.length:=by
 obtain⟨_,o,g,p⟩:=r
 rw [← p.length_eq]
 exact xq g
theorem ma (x:HouseD h)(g:Gone h.1 h.2 o)(p:o.Perm S)(k:Str):(bf h.1 h.2 o).count k+(cW h S).count k=(m9 h S).count k:=by
 have e:=jK x k o g
 unfold cW m9
 rw [afY,← (p.map fun i=>aA (bW h.2 i)).count_eq,← (p.flatMap_right fun i=>(bW h.2 i).2).count_eq]
 omega
theorem oe (x:HouseD h)(g:Gone h.1 h.2 o)(p:o.Perm S):(jH h S).Perm (bf h.1 h.2 o):=by
 rw [List.perm_iff_count]
 intro k
 have:=ma x g p k
 unfold jH
 rw [gi]
 omega
theorem xS (x:HouseD h)(r:RchS h S){j:Nat}(hj:j < S.length):aA (bW h.2 S[j])∈((cW h S).take j).foldl List.erase (m9 h S):=by
 obtain⟨_,o,g,p⟩:=r
 have e:=ma x g p (aA (bW h.2 S[j]))
 have hj':j < (cW h S).length:=by unfold cW;rw [aeD];exact hj
 have ej:(cW h S)[j]=aA (bW h.2 S[j]):=by simp only [cW,List.getElem_map]
 have h1:((cW h S).take (j+1)).count (aA (bW h.2 S[j]))=((cW h S).take j).count (aA (bW h.2 S[j]))+1:=by
  rw [afc,aeC hj',ej,agZ,afY]
  simp
 have h2:=(ajd (j+1) (cW h S)).count_le (aA (bW h.2 S[j]))
 rw [← afF,gi]
 omega
theorem zX {a b:List Str}(p:a.Perm b)(l:List Str):kR a l=kR b l:=by
 unfold kR
 congr 1
 funext x
 rw [p.count_eq]
theorem kX (x:HouseD h)(g:Gone h.1 h.2 o)(p:o.Perm S):Nxt h S i↔i∈iT h.2 (bf h.1 h.2 o) o:=by
 rw [next_mem]
 unfold Nxt
 rw [zX (oe x g p),p.mem_iff]
theorem zb (x:HouseD h)(r:RchS h S)(n:Nxt h S i)(s:Ins S i T):RchS h T:=by
 obtain⟨_,o,g,p⟩:=r
 obtain⟨a,b,c⟩:=next_mem.mp ((kX x g p).mp n)
 exact⟨s.2,o++[i],g.snoc a b c,(p.append_right [i]).trans s.1.symm⟩
def aaC (h:Hs)(S:List Nat):Prop:=∃ o,Gone h.1 h.2 o/\o.Perm S/\Can h o
theorem pP (x:HouseD h)(g:Gone h.1 h.2 o)(p:o.Perm S):aaC h S↔Can h o :=
 ⟨fun ⟨o',g',p',c⟩=>(zw x g g' (p'.trans p.symm)).mp c,fun c=>⟨o,g,p,c⟩⟩
theorem yb (s:Ins S i T):T.length=S.length+1:=by
 rw [s.1.length_eq,aeG]
 rfl
theorem wM (x:HouseD h)(r:RchS h S):aaC h S↔(S.length=h.2.length\/∃ i T,Nxt h S i/\Ins S i T/\aaC h T):=by
 obtain⟨asc,o,g,p⟩:=id r
 rw [pP x g p]
 constructor
 ·intro c
  by_cases e:du h.2.length o=[]
  ·left
   have h1:=xq g
   rw [← p.length_eq]
   apply afP
   intro z
   exact xQ (n:=h.2.length) (o:=o) (by omega) e
  ·right
   obtain⟨i,hi,ci⟩:=zW x c e
   obtain⟨a,b,d⟩:=next_mem.mp hi
   have g2:=g.snoc a b d
   have ex:∃ T:List Nat,T.Perm (S++[i])/\Asc T:=by
    refine⟨(List.range h.2.length).filter fun j=>decide (j∈S++[i]),?_,aiy _ ajW⟩
    have nd:(S++[i]).Nodup:=((p.append_right [i]).nodup_iff).mp (sy _ g2)
    rw [ai0 (aiy _ ahL) nd]
    intro j
    rw [ahq,afT,agL]
    refine⟨fun z=>z.2,fun z=>⟨g2.lt j ((p.append_right [i]).mem_iff.mpr z),z⟩⟩
   obtain⟨T,t1,t2⟩:=ex
   exact⟨i,T,(kX x g p).mpr hi,⟨t1,t2⟩,o++[i],g2,(p.append_right [i]).trans t1.symm,ci⟩
 ·rintro (e | ⟨i,T,n,s,c⟩)
  ·exact abA (w8 g (by rw [p.length_eq];exact e))
  ·have hi:=(kX x g p).mp n
   obtain⟨a,b,d⟩:=next_mem.mp hi
   have g2:=g.snoc a b d
   exact aar x hi ((pP x g2 ((p.append_right [i]).trans s.1.symm)).mp c)
theorem ab4 {T':List Nat}(s:Ins S i T)(s':Ins S i T'):T=T':=tE s.2 s'.2 (s.1.trans s'.1.symm)
theorem acC {Es:List (List Nat)}(x:HouseD h)(h0:([]:List Nat)∈Es)(hs:∀ S∈Es,∀ i,Nxt h S i->∃ T∈Es,Ins S i T)(hr:∀ S∈Es,RchS h S):∀ o,Gone h.1 h.2 o->∃ S∈Es,o.Perm S:=by
 refine pA (fun _=>⟨[],h0,.refl _⟩) fun o i ih g=>?_
 obtain⟨g1,a,b,c⟩:=g.init
 obtain⟨S,hS,p⟩:=ih g1
 obtain⟨T,hT,s⟩:=hs S hS i ((kX x g1 p).mpr (next_mem.mpr ⟨a,b,c⟩))
 exact⟨T,hT,(p.append_right [i]).trans s.1.symm⟩
end
end K7
namespace L2
open PySem PySem.Spec PySem.Calls PyProof.Rows PySem.W
section
variable {prog:Program}{w:World}{A:Around}{E:Value->Shared->Prop}{s:Shared}{it d:Addr}{i ep:Nat}{es:Array DictEntry}
theorem zC:Builtin.Dict_items.ownsTuple "dict_keyiterator" = false:=by decide
theorem zc {od:Obj}{e:DictEntry}{Q:Option Value->Shared->Prop}(hit:s.heap.IsKeyIter it d i es.size ep)(hod:s.heap.get? d=some od)(hdd:od.data=.dict es ep)(hx:es[i]? = some e)
 (hQ:∀ h',h'.IsKeyIter it d (i+1) es.size ep->Heap.SameBut it s.heap h'->Q (some e.key) { s with heap:=h' }):wpAny (model prog w) A (pyNext (.ref it)) Q E s:=by
 obtain⟨o,ho,hc,hd⟩:=id hit
 have hT:=hit.typeIs
 unfold pyNext
 refine aeE (aiA (wpAny_callSpecial?_slot hT agm (af4 agm hT ais ?_ (aim _))))
 refine aeE (aeK (aeE (aeE (aeE (agI hT (aeK (aeE (wpAny_fieldsOf ho hd ?_))))))))
 simp only [zC,afj,agl,afU]
 show wpAny _ _ (if (Value.ref d == Value.none)=true then _ else _) _ _ _
 rw [if_neg (by simp)]
 refine aeE (aeK (aeE (ajq hod hdd ?_)))
 rw [if_neg (by simp)]
 refine aeE (aeK (aeE (akg hod hdd ?_)))
 rw [if_neg (by simp)]
 refine aeK ?_
 have hi:¬ ((i:Int) < 0):=by omega
 simp only [if_neg hi,afh,hx]
 refine aeE (aeE (agI hT (aeK (aeE (wpAny_isOneOf_keyiter hT ?_)))))
 simp only [zC,afj,agl]
 refine aeE (aid ho hd (by simp) ?_)
 have g2:(s.heap.update it (Obj.mapFields fun x=>x.setIfInBounds (0+1) (rawInt (i+1)))).get? it=some (Obj.mapFields (fun x=>x.setIfInBounds (0+1) (rawInt (i+1))) o):=by
  exact agg _ ho (by cases o;subst hd;first | rfl | decide)
 split
 ·exact absurd ‹_› (by decide)
 have hit':(s.heap.update it (Obj.mapFields fun x=>x.setIfInBounds (0+1) (rawInt (i+1)))).IsKeyIter it d (i+1) es.size ep:=by
  refine⟨_,g2,?_,?_⟩
  ·rw [ajj];exact hc
  ·rw [ahp hd]
   simp [rawInt]
 have hT':Shared.TypeIs { s with heap:=(s.heap.update it (Obj.mapFields fun x=>x.setIfInBounds (0+1) (rawInt (i+1)))) } (.ref it) "dict_keyiterator" := hit'.typeIs
 refine aeE (afD ?_)
 refine aeE (wpAny_isOneOf_keyiter hT' ?_)
 rw [if_pos (by decide)]
 refine aeK (aeK ⟨_,rfl,aeK (hQ _ hit' (afH _ _ _))⟩)
theorem aa3 {od:Obj}{Q:Option Value->Shared->Prop}(hh:A.handled=none)(hit:s.heap.IsKeyIter it d i es.size ep)(hod:s.heap.get? d=some od)(hdd:od.data=.dict es ep)(hx:es[i]? = none)
 (hQ:∀ h',Heap.ExtBut it s.heap h'->Q none { s with heap:=h' }):wpAny (model prog w) A (pyNext (.ref it)) Q E s:=by
 obtain⟨o,ho,hc,hd⟩:=id hit
 have hT:=hit.typeIs
 unfold pyNext
 refine aeE (aiA (wpAny_callSpecial?_slot hT agm (af4 agm hT ais ?_ (aim _))))
 refine aeE (aeK (aeE (aeE (aeE (agI hT (aeK (aeE (wpAny_fieldsOf ho hd ?_))))))))
 simp only [zC,afj,agl,afU]
 show wpAny _ _ (if (Value.ref d == Value.none)=true then _ else _) _ _ _
 rw [if_neg (by simp)]
 refine aeE (aeK (aeE (ajq hod hdd ?_)))
 rw [if_neg (by simp)]
 refine aeE (aeK (aeE (akg hod hdd ?_)))
 rw [if_neg (by simp)]
 refine aeK ?_
 have hi:¬ ((i:Int) < 0):=by omega
 simp only [if_neg hi,afh,hx]
 refine aeE (aeE (agI hT (aeK ?_)))
 simp only [zC,afj,agl]
 refine aeE (aid ho hd (by simp) ?_)
 refine aeE ?_
 unfold newExc
 refine aeE (afM (aeE (ajy (Eq.refl (firstArgMember (Value.type "StopIteration") [])) (afM ?_))))
 refine wpAny_raiseNew_none hh ?_
 refine aeE (ajH (T := "StopIteration") (b:=true) ⟨_,aeY _ rfl,rfl⟩ rfl ?_)
 refine aeK (hQ _ fun b q hb e=>aeH _ (aeH _ ?_))
 exact ((afH _ _ _).2 b hb).trans e
end
def acy (d:Addr)(es:Array DictEntry)(ep:Nat)(h:Heap):Prop:=∃ od,h.get? d=some od/\od.cls=.type "dict" ∧ od.data=.dict es ep
section
variable {prog:Program}{w:World}
theorem aak {A:Around}{E:Value->Shared->Prop}{s:Shared}{d:Addr}{es:Array DictEntry}{ep:Nat}{Q:Value->Shared->Prop}(hd:(d == sysModules)=false)(hm:acy d es ep s.heap)
 (hQ:Q (.ref s.heap.objs.size) { s with heap:=s.heap.push { cls:=.type "dict_keyiterator",data:=.fields #[.ref d,.int 0 0,.int es.size 0,.int ep 0] } }):wpAny (model prog w) A (pyIter (.ref d)) Q E s:=by
 obtain⟨od,ho,hc,hdat⟩:=hm
 have hT:s.TypeIs (.ref d) "dict" := ⟨_,ho,hc⟩
 refine ajk hT F.slot_dict_iter (af4 F.slot_dict_iter hT F.entry_dict_iter ?_ (F.args_dict_iter_1 _))
 refine aeE ?_
 refine aeE (wpAny_notOrdered_dict hT ?_)
 refine aeK ?_
 show wpAny _ _ ((if (d == sysModules)=true then _ else _) >>= _) _ _ _
 rw [if_neg (by rw [hd];exact aeM)]
 refine aeE (aeK (aeE (ajq ho hdat (aeE (akg ho hdat ?_)))))
 refine aeE (afM (aeK ?_))
 exact⟨.ref s.heap.objs.size,rfl,"dict_keyiterator",_,⟨_,aeY _ rfl,rfl⟩,agm.lookup,hQ⟩
theorem xO {A:Around}(hh:A.handled=none)(I d:Addr)(hne:d≠I)(es:Array DictEntry)(ep:Nat) :
 Walks prog w A I [I,d] [I] es.size (fun i v=>∃ e,es[i]? = some e/\v=e.key) fun i h=>h.IsKeyIter I d i es.size ep/\acy d es ep h where
 sub:=fun b hb=>by simp at hb;simp [hb]
 frame:=fun i h h' st hk=>⟨st.1.at fun o e=>hk I (by simp) o e,let ⟨od,a,b,c⟩:=st.2;⟨od,hk d (by simp) _ a,b,c⟩⟩
 item:=fun i s Q E hi st hQ=>by
  obtain⟨hit,od,a,b,c⟩:=st
  refine zc (e:=es[i]) hit a c (by simp [hi]) fun h' hit' hs=>hQ _ h' s.toks ⟨es[i],by simp [hi],rfl⟩ ⟨hit',od,(hs.2 d hne).trans a,b,c⟩ fun b o hb e=>(hs.2 b (by simpa using hb)).trans e
 done:=fun s Q E st hQ=>by
  obtain⟨hit,od,a,b,c⟩:=st
  exact aa3 hh hit a c (by simp) fun h' he=>hQ h' s.toks fun b o hb e=>he b o (by simpa using hb) e
 self:=fun i s Q E st hQ=>wpAny_pyIter_keyiter st.1 hQ
theorem aa1 {d:Addr}{es:Array DictEntry}{ep:Nat}(lo:(d == sysModules)=false):KdlSrc prog w "dict" d d es.size (fun i v=>∃ e,es[i]? = some e/\v=e.key) (acy d es ep) where
 type:=fun s ⟨od,a,b,c⟩=>⟨od,a,b⟩
 there:=fun h ⟨od,a,b,c⟩=>⟨aeR a,aeR a⟩
 keep:=fun h h' ⟨od,a,b,c⟩ hk=>⟨od,hk d (.inl rfl) od a,b,c⟩
 notList:=by decide
 notTuple:=by decide
 hint:=fun A E s Q ⟨od,a,b,c⟩ hq=>kdl_hint_dict ⟨od,a,b⟩ hq
 iter:=fun A s hh hm=>by
  refine⟨{ cls:=.type "dict_keyiterator",data:=.fields #[.ref d,.int 0 0,.int es.size 0,.int ep 0] },_,fun E Q hq=>aak lo hm hq,xO hh _ d ?_ es ep,⟨_,aeY _ rfl,rfl,rfl⟩,?_⟩
  ·obtain⟨od,a,b,c⟩:=hm
   exact ae4 (aeR a)
  ·obtain⟨od,a,b,c⟩:=hm
   exact⟨od,aeH _ a,b,c⟩
theorem ud {A:Around}{E:Value->Shared->Prop}{s:Shared}{a:Addr}{R:List Value->Shared->Prop}{es:Array DictEntry}{ep:Nat}(hh:A.handled=none)(lo:(a == sysModules)=false)(x:acy a es ep s.heap)(hn:es.size<=sizeLine)
 (h:∀ (h':Heap) (tk:Nat) (acc:Array Value),(∀ b o,s.heap.get? b=some o->h'.get? b=some o)->s.heap.objs.size<=h'.objs.size->ItemsOf (fun i v=>∃ e,es[i]? = some e/\v=e.key) acc es.size->R acc.toList { s with heap:=h',toks:=tk }) :
 wpAny (model prog w) A (collect (.ref a)) R E s:=by
 have hlt:a < s.heap.objs.size:=let ⟨od,q,_⟩:=x;aeR q
 unfold collect
 refine aeE (ai9 (af1 aiw ?_))
 rw [afR ahu _]
 show wpAny _ A.in1 (newList [] >>= fun l=>again (.builtin "list.__iadd__" ⟨[l,.ref a],[]⟩)) _ _ s
 refine aeE (afM ?_)
 refine aeK ⟨ahc agq _,af1 entry_list_iadd' ?_⟩
 rw [afR agq _]
 have hS₁:(s.heap.push { cls:=.type "list",data:=.seq ([]:List Value).toArray }).get? s.heap.objs.size=some { cls:=.type "list",data:=.seq #[] }:=aeY _ rfl
 show wpAny _ A.in1 (Builtin.List.listExtendWith (.ref s.heap.objs.size) (.ref a) (.ref s.heap.objs.size)) _ _ _
 have key:=kdl_extend (A:=A) (s:={ s with heap:=s.heap.push { cls:=.type "list",data:=.seq ([]:List Value).toArray } })
  (R:=fun (q:Result) (s':Shared)=>∃ (h':Heap) (tk:Nat) (acc':Array Value) (c':Nat),q=.ok (.ret (.ref s.heap.objs.size))/\s'={ s with heap:=h',toks:=tk } ∧
   (∀ b o,s.heap.get? b=some o->h'.get? b=some o)/\h'.get? s.heap.objs.size=some { cls:=.type "list",dict:=none,data:=.seq acc' c',slots:=#[] }/\ItemsOf (fun i v=>∃ e,es[i]? = some e/\v=e.key) acc' es.size)
  (aa1 (prog:=prog) (w:=w) (es:=es) (ep:=ep) lo) hh (let ⟨od,q,r⟩:=x;⟨od,aeH _ q,r⟩) s.heap.objs.size (agV hlt) (agV hlt) (.ref s.heap.objs.size) 0 hS₁
  (fun h' tk acc' c' hk hS' hacc=>⟨h',tk,acc',c',rfl,rfl,fun b o e=>hk b o (ae4 (aeR e)) (aeH _ e),hS',hacc⟩) hn
 refine afu key (fun fin s' x=>?_) fun e s' x=>?_
 ·cases fin with
  | done f =>
   obtain⟨h',tk,acc',c',e,rfl,hk,hS',hacc⟩:=x
   cases e
   show wpAny _ A (load s.heap.objs.size >>= _) _ _ _
   refine aeE (aiD hS' ?_)
   exact aeK (h h' tk acc' hk (afb (aeR hS')) hacc)
  | again c₁ =>
   refine⟨x.1,agX x.2 fun q s₂ y=>?_⟩
   obtain⟨h',tk,acc',c',rfl,rfl,hk,hS',hacc⟩:=y
   show wpAny _ A (load s.heap.objs.size >>= _) _ _ _
   refine aeE (aiD hS' ?_)
   exact aeK (h h' tk acc' hk (afb (aeR hS')) hacc)
 ·obtain⟨_,_,_,_,e',_⟩:=x
  cases e'
end
def TupLen (h:Heap)(v:Value)(n:Nat):Prop:=∃ t its,v=.ref t/\IsTup h t its/\its.size=n/\its.size<=sizeLine
theorem TupLen.keep {h h':Heap}{v:Value}{n:Nat}(q:TupLen h v n)(k:∀ b o,h.get? b=some o->o.cls=.type "tuple" → h'.get? b=some o):TupLen h' v n:=by
 obtain⟨t,its,rfl,⟨o,a,b,c⟩,e,l⟩:=q
 exact⟨t,its,rfl,⟨o,k _ _ a b,b,c⟩,e,l⟩
theorem TupLen.inj {h:Heap}{v:Value}{n m:Nat}(q:TupLen h v n)(r:TupLen h v m):n=m:=by
 obtain⟨t,its,rfl,⟨o,a,b,k,c⟩,e,l⟩:=q
 obtain⟨t',its',e',⟨o',a',b',k',c'⟩,e'',l'⟩:=r
 cases e'
 rw [a] at a'
 cases a'
 rw [c] at c'
 cases c'
 omega
abbrev numKind:PyProof.Rows.KeyKind where
 α:=Int
 blt:=fun a b=>decide (a < b)
 irrefl:=fun a=>by simp
 trans:=fun a b c h1 h2=>by simp only [agL] at *;omega
 negTrans:=fun a b c h=>by simp only [agL] at *;omega
 total:=fun a b h1 h2=>by simp only [ah4] at *;omega
 keyOf:=fun v=>match v with
  | .int n _=>some n
  | _=>none
 dflt:=0
theorem pZ:numKind.OneLt:=by
 intro prog w A E s x y a b Q ha hb h
 cases x<;>simp only [numKind] at ha<;>cases ha
 cases y<;>simp only [numKind] at hb<;>cases hb
 exact oneLt_int h
abbrev ab0 (h:Heap):List Value->List Value->Prop:=Paired fun k v=>∃ (m:Nat) (t:Tok),k=.int (m:Int) t/\TupLen h v m
section
variable {prog:Program}{w:World}{A:Around}{E:Value->Shared->Prop}
theorem uy {K:Addr}{f:Value->PUnit->Sem (ForInStep PUnit)}
 (hf:∀ (x:Value) (s:Shared) (ks:List Value) (n m:Nat) (Q:ForInStep PUnit->Shared->Prop),s.heap.get? K=some (seqObj "list" ks.toArray n)->ks.length < sizeLine->TupLen s.heap x m →
  (∀ t,Q (.yield PUnit.unit) { s with heap:=s.heap.update K (Obj.mapSeq (·.push (.int (m:Int) t))),toks:=s.toks+1+1 })->wpAny (model prog w) A (f x PUnit.unit) Q E s) :
 ∀ (vs ks:List Value) (s:Shared) (n:Nat) (Q:PUnit->Shared->Prop),s.heap.get? K=some (seqObj "list" ks.toArray n)->(∀ v∈vs,∃ m,TupLen s.heap v m)->ks.length+vs.length<=sizeLine →
  (∀ h' tk ks' n',Heap.SameBut K s.heap h'->h'.get? K=some (seqObj "list" (ks++ks').toArray n')->ab0 s.heap ks' vs->Q PUnit.unit { s with heap:=h',toks:=tk })->wpAny (model prog w) A (forIn vs PUnit.unit f) Q E s
 | [],ks,s,n,Q,hK,_,_,h=>by
  rw [aku]
  exact aeK (h s.heap s.toks [] n (aji _ _) (by simpa using hK) .nil)
 | v::vs,ks,s,n,Q,hK,hv,hl,h=>by
  rw [ahU]
  obtain⟨m,hm⟩:=hv v (by simp)
  rw [afd] at hl
  refine aeE (hf v s ks n m _ hK (by omega) hm fun t=>?_)
  have sb:Heap.SameBut K s.heap (s.heap.update K (Obj.mapSeq (·.push (.int (m:Int) t)))):=afH _ _ _
  have kp:∀ b o,s.heap.get? b=some o->o.cls=.type "tuple" → (s.heap.update K (Obj.mapSeq (·.push (.int (m:Int) t)))).get? b=some o:=fun b o e c=>by
   refine (sb.2 b fun z=>?_).trans e
   subst z
   rw [hK] at e
   cases e
   simp at c
  have kq:∀ b o,(s.heap.update K (Obj.mapSeq (·.push (.int (m:Int) t)))).get? b=some o->o.cls=.type "tuple" → s.heap.get? b=some o:=fun b o e c=>by
   by_cases z:b=K
   ·subst z
    rw [get?_update_seq hK] at e
    cases e
    simp at c
   ·rw [← sb.2 b z];exact e
  refine uy hf vs (ks++[.int (m:Int) t]) _ (n+1) Q ?_ (fun u hu=>?_) (by rw [aeG];simp;omega) fun h' tk ks' n' sb' g kv=>?_
  ·show (s.heap.update K (Obj.mapSeq (·.push (.int (m:Int) t)))).get? K=_
   rw [get?_update_seq hK]
   simp
  ·obtain⟨m',hm'⟩:=hv u (by simp [hu])
   exact⟨m',hm'.keep kp⟩
  ·refine h h' tk (.int (m:Int) t::ks') n' (sb.trans sb') (by simpa using g) (.cons ⟨m,t,rfl,hm⟩ (Paired.mapP kv fun k v ⟨m,t,a,b⟩=>⟨m,t,a,b.keep kq⟩))
theorem j6 {α:Type}(xs:Array α):xs.reverse.Perm xs:=afK.mpr (by rw [aiz];exact List.reverse_perm _)
theorem jX {h:Heap}:∀ {ks vs:List Value},ab0 h ks vs->∃ ns,IntsAre ks ns
 | [],_,_=>⟨[],.nil⟩
 | _::_,_,.cons ⟨m,t,e,_⟩ r=>let ⟨ns,q⟩:=jX r;⟨(m:Int)::ns,by rw [e];exact .cons _ _ q⟩
theorem lg {h:Heap}:∀ {ks vs:List Value},ab0 h ks vs->∀ p∈ks.zip vs,∃ (m:Nat) (t:Tok),p.1=.int (m:Int) t/\TupLen h p.2 m
 | _,_,.nil,p,hp=>by simp at hp
 | _::_,_::_,.cons hh r,p,hp=>by
  rw [List.zip_cons_cons] at hp
  rcases aeX.mp hp with rfl | hp
  ·exact hh
  ·exact lg r p hp
theorem aao {s:Shared}{a:Addr}{vs:List Value}{n:Nat}{R:Fin->Shared->Prop}(ho:s.heap.get? a=some (seqObj "list" vs.toArray n))(hT:∀ v∈vs,∃ m,TupLen s.heap v m)(hz:vs.length<=sizeLine)
 (h:∀ (h':Heap) (tk:Nat) (out:List Value) (e:Nat),(∀ b o,b≠a->s.heap.get? b=some o->h'.get? b=some o)->s.heap.objs.size<=h'.objs.size->h'.get? a=some (seqObj "list" out.toArray e)->out.Perm vs →
  out.Pairwise (fun u v=>∀ m n,TupLen s.heap u m->TupLen s.heap v n->n<=m)->R (.done (.ret .none)) { s with heap:=h',toks:=tk }) :
 wpAny (model prog w) A (Builtin.«list.sort» ⟨[.ref a],[(Str.ofString "key",.builtin "len"),(Str.ofString "reverse",.bool true)]⟩) R E s:=by
 have la:a < s.heap.objs.size:=aeR ho
 have sv:vs.toArray.size=vs.length:=aeU ..
 have e1:List.lookup (Str.ofString "key") [(Str.ofString "key",Value.builtin "len"),(Str.ofString "reverse",Value.bool true)]=some (.builtin "len"):=by first | rfl | decide
 have e2:List.lookup (Str.ofString "reverse") [(Str.ofString "key",Value.builtin "len"),(Str.ofString "reverse",Value.bool true)]=some (.bool true):=by first | rfl | decide
 unfold Builtin.«list.sort»
 dsimp only
 rw [if_neg (by decide),if_neg (by decide)]
 refine aeE ?_
 rw [ahU]
 refine aeE ?_
 rw [if_neg (by decide)]
 refine aeK ?_
 dsimp only
 rw [ahU]
 refine aeE ?_
 rw [if_neg (by decide)]
 refine aeK ?_
 dsimp only
 rw [aku]
 refine aeK ?_
 simp only [e1,e2,ajF]
 refine aeE (afL ?_)
 have ne:(Value.builtin "len" != Value.none)=true:=by decide
 simp only [ne,ahl]
 obtain⟨ep1,he1⟩:∃ e,(s.heap.update a (Obj.mapSeq fun _=>#[])).get? a=some (seqObj "list" #[] e):=⟨_,get?_update_seq ho (fun _=>#[])⟩
 refine aeE (listItems_at ho rfl (aeE (ah5 ho rfl ?_ (by rw [sv];exact hz) (ae2 _))))
 refine aeE (seqEpoch_at he1 rfl (aeE (wpAny_newTuple (aeE (ahz (afD ?_))))))
 dsimp only
 have u1:∀ b o,b≠a->s.heap.get? b=some o->((s.heap.update a (Obj.mapSeq fun _=>#[])).push { cls:=.type "tuple",data:=.seq vs.toArray.toList.toArray }).get? b=some o:=fun b o hb e=>aeH _ (((afH _ _ _).2 b hb).trans e)
 have u2:((s.heap.update a (Obj.mapSeq fun _=>#[])).push { cls:=.type "tuple",data:=.seq vs.toArray.toList.toArray }).get? a=some (seqObj "list" #[] ep1):=aeH _ he1
 have u3:s.heap.objs.size<=((s.heap.update a (Obj.mapSeq fun _=>#[])).push { cls:=.type "tuple",data:=.seq vs.toArray.toList.toArray }).objs.size:=by rw [aia,ahi];omega
 generalize ((s.heap.update a (Obj.mapSeq fun _=>#[])).push { cls:=.type "tuple",data:=.seq vs.toArray.toList.toArray })=h1 at u1 u2 u3 ⊢
 have gK:(h1.push { cls:=.type "list",data:=.seq ([]:List Value).toArray }).get? h1.objs.size=some (seqObj "list" ([]:List Value).toArray 0):=aeY _ rfl
 have u4:∀ b o,h1.get? b=some o->(h1.push { cls:=.type "list",data:=.seq ([]:List Value).toArray }).get? b=some o:=fun b o e=>aeH _ e
 have u5:a≠h1.objs.size:=ae4 (ae1 la u3)
 have u8:s.heap.objs.size<=(h1.push { cls:=.type "list",data:=.seq ([]:List Value).toArray }).objs.size:=by rw [aia];omega
 have u6:h1.objs.size<=(h1.push { cls:=.type "list",data:=.seq ([]:List Value).toArray }).objs.size:=by rw [aia];omega
 have u7:∀ b o,b≠a->s.heap.get? b=some o->b≠h1.objs.size:=fun b o hb e z=>by
  have:=aeR e
  rw [z] at this
  exact absurd this (Nat.not_lt.mpr u3)
 generalize (h1.push { cls:=.type "list",data:=.seq ([]:List Value).toArray })=h2 at gK u4 u6 u8 ⊢
 generalize h1.objs.size=K at gK u5 u6 u7 ⊢
 have na:∀ v m,TupLen s.heap v m->TupLen h2 v m:=fun v m q=>q.keep fun b o e c=>u4 _ _ (u1 b o (fun z=>by subst z;rw [ho] at e;cases e;simp at c) e)
 rw [List.forIn_toArray]
 refine aeE (agD (aeE (uy (K:=K) ?_ vs [] _ 0 _ gK (fun v hv=>let ⟨m,q⟩:=hT v hv;⟨m,na v m q⟩) (by simpa using hz) fun h3 tk ks n' sb g3 kv=>?_)))
 ·intro x s' ks n m Q hK hl ⟨t,its,ex,pl,en,el⟩ q
  subst ex
  have hn:=jA
  refine aeE (aiA (len_tuple pl (by omega) ?_))
  refine aeE (ah5 hK rfl ?_ ?_ ?_)
  ·rw [en]
   exact aeK (q _)
  ·simp only [aeU];omega
  ·simp only [Array.size_push,aeU];omega
 rw [akd] at g3
 have kl:ks.length=vs.length:=kv.length
 have sk:ks.toArray.size=ks.length:=aeU ..
 have g3a:h3.get? a=some (seqObj "list" #[] ep1):=(sb.2 a u5).trans (u4 _ _ u2)
 refine aeE (listItems_at g3 rfl (aeE (agD ?_)))
 have fin:∀ (st:SortSt) (h4:Heap) (tk':Nat),h4=h3->(arrOf st).Perm (ks.toArray.zip vs.toArray)->failedOf st=none->((arrOf st).map (·.2)).reverse.toList.Pairwise (fun u v=>∀ m n,TupLen s.heap u m->TupLen s.heap v n->n<=m) →
  wpAny (model prog w) A (do
   Builtin.List.listUpdate (Value.ref K) fun x=>#[]
   letGo (Array.map (fun x=>x.fst) (arrOf st)).toList (failedOf st).toList
   let __do_lift ← seqEpoch a
   Builtin.List.listUpdate (Value.ref a) fun x=>(Array.map (fun x=>x.snd) (arrOf st)).reverse
   match failedOf st with
   | some e=>do
    rule "list.sort.comparison-raised"
    throw e
    if (__do_lift != ep1)=true then do
     rule "list.sort.modified"
     raiseErrorWords "ValueError" "list modified during sort"
     ret Value.none
    else ret Value.none
   | x =>
    if (__do_lift != ep1)=true then do
     rule "list.sort.modified"
     raiseErrorWords "ValueError" "list modified during sort"
     ret Value.none
    else ret Value.none) R E { s with heap:=h4,toks:=tk' }:=by
  intro st h4 tk' e4 hp hf hs
  subst e4
  have sz:(arrOf st).size=vs.length:=by
   rw [hp.size_eq,Array.size_zip,sk,sv,kl,Nat.min_self]
  refine aeE (ah5 g3 rfl ?_ (by rw [sk,kl];exact hz) (ae2 _))
  refine aeE (wpAny_letGo ?_)
  have g4:(h4.update K (Obj.mapSeq fun _=>#[])).get? a=some (seqObj "list" #[] ep1):=((afH _ _ _).2 a u5).trans g3a
  refine aeE (seqEpoch_at g4 rfl (aeE (ah5 g4 rfl ?_ (ae2 _) (by rw [ai5,akt,sz];omega))))
  rw [hf]
  simp only [ag7,afj,agl]
  have pm:((arrOf st).map (·.2)).reverse.toList.Perm vs:=by
   rw [aiz,Array.toList_map]
   refine (List.reverse_perm _).trans ?_
   have:=(afK.mp hp).map Prod.snd
   rw [Array.toList_zip] at this
   rw [show (List.zip ks.toArray.toList vs.toArray.toList).map Prod.snd=vs from List.map_snd_zip (by simp [kl])] at this
   exact this
  obtain⟨e5,he5⟩:∃ e,((h4.update K (Obj.mapSeq fun _=>#[])).update a (Obj.mapSeq fun _=>(Array.map (fun x=>x.snd) (arrOf st)).reverse)).get? a=some (seqObj "list" ((arrOf st).map (·.2)).reverse e):=⟨_,get?_update_seq g4 _⟩
  refine aeK (h _ tk' ((arrOf st).map (·.2)).reverse.toList e5 (fun b o hb e=>?_) ?_ ?_ pm hs)
  ·refine ((afH _ _ _).2 b hb).trans (((afH _ _ _).2 b (u7 b o hb e)).trans ((sb.2 b (u7 b o hb e)).trans (u4 _ _ (u1 b o hb e))))
  ·show s.heap.objs.size<=((h4.update K _).update a _).objs.size
   rw [ahi,ahi,sb.1]
   exact u8
  ·rw [ahD]
   exact he5
 by_cases q:vs.toArray.size < 2
 ·rw [if_pos q]
  refine aeE (aeK ?_)
  rw [if_pos q]
  refine aeE (aeK ?_)
  refine fin (SortSt.mk' general' (ks.toArray.zip vs.toArray).reverse #[] 7 none) h3 tk rfl (j6 _) rfl ?_
  have hl:((arrOf (SortSt.mk' general' (ks.toArray.zip vs.toArray).reverse #[] 7 none)).map (·.2)).reverse.toList.length < 2:=by
   rw [aeT,ai5,akt]
   show (ks.toArray.zip vs.toArray).reverse.size < 2
   rw [ai5,Array.size_zip]
   omega
  generalize ((arrOf (SortSt.mk' general' (ks.toArray.zip vs.toArray).reverse #[] 7 none)).map (·.2)).reverse.toList=l at hl ⊢
  rcases l with _ | ⟨x,_ | ⟨y,l⟩⟩
  ·exact .nil
  ·exact ajC _ _
  ·simp only [afd] at hl
   omega
 rw [if_neg q]
 obtain⟨ns,hI⟩:∃ ns,IntsAre ks ns:=jX kv
 have nb:¬ vs.length < 2:=by omega
 obtain⟨k1,k2,kr,rfl⟩:∃ x y r,ks=x::y::r:=by
  rcases ks with _ | ⟨x,_ | ⟨y,r⟩⟩
  ·simp at kl;omega
  ·simp at kl;omega
  ·exact⟨x,y,r,rfl⟩
 have ek:keyKind' (k1::k2::kr).toArray=pure oneType':=keyKind_ints hI
 refine aeE (ajy ek ?_)
 rw [if_neg q]
 have hz0:((k1::k2::kr).toArray.zip vs.toArray).toList=(k1::k2::kr).zip vs:=by rw [Array.toList_zip]
 have go:wpAny (model prog w) A (sortRuns'.run (SortSt.mk' oneType' ((k1::k2::kr).toArray.zip vs.toArray).reverse #[] 7 none))
  (fun r s'=>s'={ s with heap:=h3,toks:=tk }/\(arrOf r.2).Perm ((k1::k2::kr).toArray.zip vs.toArray)/\failedOf r.2=none/\TS.SL numKind (arrOf r.2).toList) E { s with heap:=h3,toks:=tk } :=
  TS.wpS_sortAll (κ:=numKind) pZ (a₀:=(k1::k2::kr).toArray.zip vs.toArray) (Q:=fun _ st'=>(arrOf st').Perm ((k1::k2::kr).toArray.zip vs.toArray)/\failedOf st'=none/\TS.SL numKind (arrOf st').toList)
   (fun p hp=>by rw [hz0] at hp;obtain⟨m,t,e,_⟩:=lg kv p hp;exact⟨(m:Int),by rw [e]⟩) rfl rfl (j6 _) rfl fun st' b1 b2 b3=>⟨b1,b2,b3⟩
 refine aeE (afu go ?_ fun _ _ e=>e)
 rintro⟨⟨⟩,st'⟩ s' ⟨rfl,b1,b2,b3⟩
 refine fin st' h3 tk rfl b1 b2 ?_
 rw [aiz,Array.toList_map,List.pairwise_reverse,ajr]
 refine ajs ?_ b3
 intro x y hx hy hle m n hm hn
 have hm':=na _ _ hm
 have hn':=na _ _ hn
 have px:=(afK.mp b1).mem_iff.mp hx
 have py:=(afK.mp b1).mem_iff.mp hy
 rw [hz0] at px py
 obtain⟨mx,tx,ex,qx⟩:=lg kv x px
 obtain⟨my,ty,ey,qy⟩:=lg kv y py
 have e3:=qx.inj hn'
 have e4:=qy.inj hm'
 subst e3 e4
 have hk:¬ ((my:Int) < (mx:Int)):=by
  have:numKind.kle (TS.kk numKind x) (TS.kk numKind y):=hle
  simp only [TS.kk,ex,ey,KeyOrd.kle] at this
  simpa using this
 omega
end
theorem rG (a:Value):argsOk "sorted" ⟨[a],[(Str.ofString "key",.builtin "len"),(Str.ofString "reverse",.bool true)]⟩:=by
 unfold argsOk
 first | rfl | kernel_rfl
theorem vW (a:Value):argsOk "list.sort" ⟨[a],[(Str.ofString "key",.builtin "len"),(Str.ofString "reverse",.bool true)]⟩:=by
 unfold argsOk
 first | rfl | kernel_rfl
section
variable {prog:Program}{w:World}{A:Around}{E:Value->Shared->Prop}{s:Shared}
theorem vF {a:Addr}{es:Array DictEntry}{ep:Nat}{Q:Value->Shared->Prop}(hh:A.handled=none)(lo:(a == sysModules)=false)(x:acy a es ep s.heap)(hn:es.size<=sizeLine)(hT:∀ e∈es.toList,∃ m,TupLen s.heap e.key m)
 (h:∀ (h':Heap) (tk:Nat) (l:Addr) (out:List Value) (e:Nat),(∀ b o,s.heap.get? b=some o->h'.get? b=some o)->s.heap.objs.size<=l->h'.get? l=some (seqObj "list" out.toArray e)->out.Perm (es.toList.map (·.key)) →
  out.Pairwise (fun u v=>∀ m n,TupLen s.heap u m->TupLen s.heap v n->n<=m)->Q (.ref l) { s with heap:=h',toks:=tk }) :
 wpAny (model prog w) A (call (.builtin "sorted") [.ref a] [(Str.ofString "key",.builtin "len"),(Str.ofString "reverse",.bool true)]) Q E s:=by
 refine call_function_entry_kw ajz ai2 ai3 (rG _) ?_
 unfold Builtin.«sorted»
 refine aeE (m:=checkCount "sorted" 1 1 _) (aeK ?_)
 refine aeE (ud (A:=A.in1) hh lo x hn fun h1 tk acc k1 hsz hacc=>?_)
 have hl0:acc.toList=es.toList.map (·.key):=by
  apply agM
  intro i
  rw [afo,aeP,afo]
  by_cases hi:i < es.size
  ·obtain⟨v,hv⟩:∃ v,acc[i]? = some v:=⟨acc[i]'(by rw [hacc.1];exact hi),by simp [hacc.1,hi]⟩
   obtain⟨e,he,ev⟩:=hacc.2 i v hv
   rw [hv,he,ev];rfl
  ·rw [ah6 (by rw [hacc.1];omega),ah6 (by omega)];rfl
 have hl1:acc.toList.length<=sizeLine:=by rw [aeT,hacc.1];exact hn
 refine aeE (ahz ?_ hl1)
 show wpAny _ _ _ _ _ { s with heap:=h1.push (seqObj "list" acc.toList.toArray 0),toks:=tk }
 have hoL:(h1.push (seqObj "list" acc.toList.toArray 0)).get? h1.objs.size=some (seqObj "list" acc.toList.toArray 0):=aeY _ rfl
 have tl:∀ v m,TupLen s.heap v m->TupLen (h1.push (seqObj "list" acc.toList.toArray 0)) v m:=fun v m q=>q.keep fun b o e _=>aeH _ (k1 b o e)
 refine aeE (afD (wpAny_call_entry_kw aif ⟨_,hoL,rfl⟩ ahW (aao hoL (fun v hv=>?_) hl1 fun h2 tk2 out e kp sz g pm pw=>⟨_,rfl,?_⟩) (vW _)))
 ·rw [hl0] at hv
  obtain⟨e,he,rfl⟩:=ae3.mp hv
  obtain⟨m,q⟩:=hT e he
  exact⟨m,tl _ _ q⟩
 refine aeK ⟨_,rfl,h h2 tk2 h1.objs.size out e (fun b o q=>kp b o (ae4 (aeR (k1 b o q))) (aeH _ (k1 b o q))) hsz g (by rw [← hl0];exact pm) (pw.imp fun q m n a b=>q m n (tl _ _ a) (tl _ _ b))⟩
end
def aah (te:TE):TE:=fun σ H Q=>te σ H fun x H1=>∃ a kvs,x=.ref a/\H1 a=some (.dT kvs)/\∀ (l:Addr) (ps:List (List Key×Addr)),H1 l=none->(ps.map (·.1)).Perm (kvs.map (·.1)) →
 ps.Pairwise (fun p q=>q.1.length<=p.1.length)->(∀ p∈ps,H1 p.2=some (.tup (p.1.map kV)))->Q (.ref l) (upd H1 l (.lst (ps.map fun p=>.ref p.2)))
theorem KT.back {H:Hp}{kvs:List (List Key×V)}{xs:List (List Key×Addr×Value)}(r:KT H kvs xs):kvs.map (·.1)=xs.map (·.1)/\∀ x∈xs,H x.2.1=some (.tup (x.1.map kV)):=by
 induction r with
 | nil=>exact⟨rfl,fun x hx=>nomatch hx⟩
 | @cons p q ps qs h t ih =>
  refine⟨by rw [aeZ,aeZ,ih.1,h.1],fun x hx=>?_⟩
  rcases aeX.mp hx with rfl | hx
  ·rw [← h.1];exact h.2.1
  ·exact ih.2 x hx
theorem mQ {α β:Type}{f:α->β}:∀ {l:List β} {xs:List α},l.Perm (xs.map f)->∃ ys:List α,ys.Perm xs/\ys.map f=l
 | [],xs,h=>by
  have:=h.length_eq
  cases xs with
  | nil=>exact⟨[],.refl _,rfl⟩
  | cons x xs=>simp at this
 | b::l,xs,h=>by
  obtain⟨x,hx,rfl⟩:=ae3.mp (h.mem_iff.mp (aeQ ..))
  obtain⟨l1,l2,rfl⟩:=ah0 hx
  have h2:l.Perm ((l1++l2).map f):=by
   have:=h
   rw [aeO,aeZ] at this
   have p2:=this.trans ahK
   rw [aeO]
   exact p2.cons_inv
  obtain⟨ys,p,e⟩:=mQ h2
  exact⟨x::ys,(p.cons x).trans ahK.symm,by rw [aeZ,e]⟩
section
variable {X:Cx}{e:Expr}{te:TE}{p pos lp cp kp1 kp2:Pos}{j:Option Str}
theorem v9 (hc:X.calm=true)(hg:Gl X "sorted")(hm:X.mg "sorted" = none)(hg2:Gl X "len")(hm2:X.mg "len" = none)(he:PE X e te)(hs:starEach [e] X.env=[(false,eval e X.env)]:=by rfl) :
 PE X (.Call (.Name "sorted" p) [e] [⟨some "key",.Name "len" lp,kp1⟩,⟨some "reverse",.Constant (.bool true) 0 cp,kp2⟩] pos) (aah te):=by
 intro pins s σ H Q I h
 refine ahn (iR I hg hm rfl ?_)
 rw [hs]
 refine callWith_builtin_kwB rfl rfl (evalArgs_kwB rfl ?_)
 show wpAny _ _ (spliced ((false,eval e X.env)::[])) _ _ s
 refine agW (thn (he pins s σ H _ I h) fun u s1 ⟨x,H1,I1,r1,a,kvs,ex,ed,q⟩=>ahx ?_)
 subst ex
 cases r1
 show wpAny _ _ (evalAll [(do let v ← eval (.Name (Str.ofString "len") lp) X.env;standAt pos;pure v),(do let v ← eval (.Constant (.bool true) 0 cp) X.env;standAt pos;pure v)]) _ _ s1
 refine wpAny_evalAll_cons (aeE (iR I1 hg2 hm2 rfl (aeE (ago (aeK (wpAny_evalAll_cons (aeE (Constant_bool (aeE (ago (aeK (wpAny_evalAll_nil ?_))))))))))))
 show wpAny _ _ (call (.builtin "sorted") [.ref a] [(Str.ofString "key",.builtin "len"),(Str.ofString "reverse",.bool true)]) _ _ s1
 obtain⟨z,hd,xs,rel,dd⟩:=abQ I1.hok ed
 obtain⟨o,es,ep,ho,hcl,hda,hes,hkeys,hnd⟩:=dd
 obtain⟨b1,b2⟩:=rel.back
 have hl:es.size=kvs.length:=by
  have e1:=aft List.length hes
  have e2:=aft List.length b1
  simp at e1 e2
  omega
 have hk:es.toList.map (·.key)=xs.map fun x=>Value.ref x.2.1:=by rw [hes,afZ];rfl
 have tl:∀ x∈xs,TupLen s1.heap (.ref x.2.1) x.1.length:=fun x hx=>by
  obtain⟨l1,its,v1,v2⟩:=(show ObjOk X.prog X.w H1 s1.heap x.2.1 (.tup (x.1.map kV)) from I1.hok _ _ (b2 x hx))
  have:=v1.length
  simp at this l1
  exact⟨x.2.1,its.toArray,rfl,v2,by simp;omega,by simp;omega⟩
 refine vF (I1.ok.hd hc) hd ⟨o,ho,hcl.1,hda⟩ (by omega) (fun e he=>?_) fun h' tk l out ee k hz hg pm pw=>?_
 ·rw [hes] at he
  obtain⟨x,hx,rfl⟩:=ae3.mp he
  exact⟨_,tl x hx⟩
 rw [hk] at pm
 obtain⟨ys,yp,ye⟩:=mQ pm
 subst ye
 have ev:Vals (ys.map fun x=>V.ref x.2.1) (ys.map fun x=>Value.ref x.2.1):=by
  clear pm pw yp hg
  induction ys with
  | nil=>exact .nil
  | cons y ys ih=>exact .cons rfl ih
 have hlen:ys.length=kvs.length:=by
  have e2:=aft List.length b1
  simp at e2
  rw [yp.length_eq];omega
 have em:(ys.map fun x=>(x.1,x.2.1)).map (fun p:List Key×Addr=>V.ref p.2)=ys.map fun x=>V.ref x.2.1:=by rw [afZ];rfl
 have:=q l (ys.map fun x=>(x.1,x.2.1)) (I1.hok.fresh hz) (by rw [afZ,b1];exact yp.map _) ?_ (fun p hp=>?_)
 ·rw [em] at this
  refine⟨.ref l,_,I1.laid (t':=tk) (o:=.lst (ys.map fun x=>V.ref x.2.1)) k hz ⟨?_,_,ee,ev,hg⟩,rfl,this⟩
  rw [aeD,hlen];exact z
 ·rw [ajr] at pw ⊢
  refine ajs ?_ pw
  intro x y hx hy hh
  exact hh _ _ (tl x (yp.mem_iff.mp hx)) (tl y (yp.mem_iff.mp hy))
 ·obtain⟨y,hy,rfl⟩:=ae3.mp hp
  exact b2 y (yp.mem_iff.mp hy)
end
def aaA (tk tv:TE):TE:=fun σ H Q=>∀ p,H p=none->tk σ (upd H p (.dT [])) fun x H1=>tv σ H1 fun y H2=>∃ b k,x=.ref b/\H2 p=some (.dT [])/\H2 b=some (.tup (k.map kV))/\Q (.ref p) (upd H2 p (.dT [(k,y)]))
section
variable {X:Cx}{k v:Expr}{tk tv:TE}{pos:Pos}
theorem aaa (hu:X.A.units+1 < cLine)(hk:PE X k tk)(hv:PE X v tv):PE X (.Dict [some k] [v] pos) (aaA tk tv):=by
 intro pins s σ H Q I h
 have hn:=I.hok.fresh (aeN s.heap.objs.size)
 have I1:=I.laid (a:=s.heap.objs.size) (o:=.dT []) (h':=s.heap.push { cls:=.type "dict",data:=.dict #[] }) (t':=s.toks) (fun _ _ q=>aeH _ q) (aeN _) (uu s.heap I.big)
 rw [arm_eval_Dict,zip_pairTrees [some k] [v] X.env pos rfl rfl,dictDisplay_pairs _ (by intro z;have:=ajM [some k] [v] X.env pos rfl rfl;rw [z] at this;cases this) (by rw [ajM [some k] [v] X.env pos rfl rfl];show 1 < 17;decide)]
 refine aeE (ago (aeE ?_))
 unfold subDict
 refine aeE (aky (aeE (afD ?_)))
 rw [if_pos (by rw [ajM [some k] [v] X.env pos rfl rfl];show 1<=15;decide)]
 refine aeE (thn ((aas hk hv (abL (X:=X))) pins _ σ _ (fun ps H2=>match ps with | [(x,y)]=>∃ b k,x=.ref b/\H2 s.heap.objs.size=some (.dT [])/\H2 b=some (.tup (k.map kV))/\Q (.ref s.heap.objs.size) (upd H2 s.heap.objs.size (.dT [(k,y)])) | _=>False) I1 (h _ hn)) fun ws s2 ⟨ps,H2,I2,rel,hq⟩=>?_)
 rcases rel with _ | ⟨⟨r1,r2⟩,_ | _⟩
 ·exact hq.elim
 rotate_left
 ·exact hq.elim
 rename_i pv pr _
 obtain⟨x,y⟩:=pv
 obtain⟨u1,u2⟩:=pr
 obtain⟨b,ke,ex,e,eb,q⟩:=hq
 cases (show x=V.ref b from ex)
 cases (show u1=Value.ref b from r1)
 refine afD (aeE ?_)
 rw [ahU]
 obtain⟨z,hd,xs,rl,dd⟩:=abQ I2.hok e
 cases rl
 refine aeE (aeE (wpAny_dictSet_heap (Nat.lt_of_succ_lt hu) (lB I2.hok eb) dd (fun h' dd' hs=>?_) (ae2 _)))
 refine aeK ?_
 dsimp only
 rw [aku]
 refine aeK (aeK (aeK (aeK ⟨.ref s.heap.objs.size,_,?_,rfl,q⟩)))
 obtain⟨qq,es,ep,hq,h2,h3,h4,_,h5⟩:=dd'
 refine jJ I2 (by rw [e];exact True.intro) hs ⟨qq,hq⟩ ⟨by show 1<=sizeLine;decide,hd,_,(KT.put (H:=H2) (kvs:=[]) .nil ke eb r2).keeps fun c ys ec=>?_,qq,es,ep,hq,h2,h3,h4,h5⟩
 rw [ah (bX ec e (fun z=>nomatch z))]
 exact ec
end
section
variable {prog:Program}{w:World}{A:Around}{E:Value->Shared->Prop}{s:Shared}
theorem vB {t:Addr}{vs:List Value}{ns:List Int}{Q:Value->Shared->Prop}(ht:IsTup s.heap t vs.toArray)(hI:IntsAre vs ns)(h64:vs.length < 64)
 (h:∀ (h1 h':Heap) (l:Addr) (out:List Value) (ns':List Int) (e:Nat),(∀ b o,s.heap.get? b=some o->h1.get? b=some o)->(∀ b o,h1.get? b=some o->h'.get? b=some o)->h1.objs.size<=l->h'.get? l=some (seqObj "list" out.toArray e)->IntsAre out ns'->ns'.Perm ns->ns'.Pairwise (·<=·)->Q (.ref l) { s with heap:=h' }) :
 wpAny (model prog w) A (call (.builtin "sorted") [.ref t]) Q E s:=by
 refine ag1 ajz ai2 ai3 (args_sorted1 _) ?_
 unfold Builtin.«sorted»
 obtain⟨o,ho,hc,n,hd⟩:=ht
 have h64':vs.length<=sizeLine:=afb (ae1 h64 (by decide))
 refine aeE (m:=checkCount "sorted" 1 1 _) (aeK (aeE (wpAny_collect_seq t (.inr rfl) ho hc hd (fun h1 k1=>?_) (by simpa using h64'))))
 refine aeE (ahz ?_ (by simpa using h64'))
 show wpAny _ _ _ _ _ { s with heap:=h1.push (seqObj "list" vs.toArray 0) }
 have hoL:(h1.push (seqObj "list" vs.toArray 0)).get? h1.objs.size=some (seqObj "list" vs.toArray 0):=aeY _ rfl
 refine aeE (afD (af4 aif ⟨_,hoL,rfl⟩ ahW (list_sort_tree hoL hI h64 fun out ns' a1 a2 a3=>⟨_,rfl,?_⟩) (aja _)))
 obtain⟨e,he⟩:=sortedHeap_at (vs:=vs) (out:=out) hoL
 refine aeK ⟨_,rfl,h h1 _ h1.objs.size out.toList ns' e k1 (fun b o q1=>?_) (aeN _) (by rw [ahD];exact he) a1 a2 a3⟩
 rw [sortedHeap_old (ae4 (aeR q1)) (by rw [aia];exact af7 (aeR q1))]
 exact aeH _ q1
end
section
variable {X:Cx}{K:PySem.W.Frag}
def aac (K:PySem.W.Frag):List V->Hp->VK->Prop:=fun xs H Q=>∃ (p:Addr) (ns:List Int),xs=[.ref p]/\H p=some (.tup (ns.map V.int))/\ns.length < 64/\∀ (l:Addr) (ns':List Int),H l=none->ns'.Perm ns->ns'.Pairwise (·<=·)->Q (.ref l) (upd H l (.lst (ns'.map V.int)))
theorem qz:fu X (.builtin "sorted") (aac X.K):=by
 intro pins s σ H xs us Q I r h
 obtain⟨p,ns,rfl,hq,hl,q⟩:=h
 obtain⟨u,rfl,rx⟩:=gY r
 cases rx
 obtain⟨its,rv,pl,hz⟩:=I.tuple (SqT.of hq)
 have hlen:=rv.length
 rw [aeD] at hlen
 refine vB pl (oz rv) (by omega) fun h1 h' l out ns' e k1 k hs hg a1 a2 a3=>?_
 have I1:Inv X pins σ H { s with heap:=h1 }:=I.kept (t':=s.toks) k1
 have hlen':ns'.length=ns.length:=a2.length_eq
 refine⟨.ref l,_,I1.laid (t':=s.toks) (o:=.lst (ns'.map V.int)) k hs ⟨?_,out,e,ji a1,hg⟩,rfl,q _ ns' (I1.hok.fresh hs) a2 a3⟩
 rw [aeD]
 exact afb (ae1 (by omega:ns'.length < 64) (by decide))
def acv:R2:=fun x y H Q=>∃ a b xs ys,x=.ref a/\y=.ref b/\H a=some (.tup xs)/\H b=some (.tup ys)/\ys≠[]/\xs.length+ys.length<=sizeLine ∧
 (xs=[]->Q (.ref b) H)/\(xs≠[]->∀ p,H p=none->Q (.ref p) (upd H p (.tup (xs++ys))))
theorem abo:OpR X (binaryOp .Add) acv:=by
 intro pins s σ H x y v u Q I rx ry h
 obtain⟨a,b,xs,ys,rfl,rfl,ha,hb,hy,hz,q1,q2⟩:=h
 cases rx
 cases ry
 by_cases hx:xs=[]
 ·subst hx
  obtain⟨its,r1,⟨o1,p1,c1,n1,d1⟩,_⟩:=I.tuple (SqT.of ha)
  obtain⟨its2,r2,⟨o2,p2,c2,n2,d2⟩,_⟩:=I.tuple (SqT.of hb)
  cases r1
  obtain⟨cl1,dd1,da1,sl1⟩:=o1
  obtain⟨cl2,dd2,da2,sl2⟩:=o2
  simp only at c1 d1 c2 d2
  subst c1 d1 c2 d2
  exact concat_meets ⟨_,p1,rfl⟩ ⟨_,p2,rfl⟩ ajD seq_tuple_add F.slot_tuple_add F.entry_tuple_add (F.args_tuple_add_2 _ _) (tuple_addW0 a b #[] its2.toArray n1 n2 dd1 dd2 sl1 sl2 rfl) ⟨p1,p2,⟨.ref b,H,I,rfl,q1 rfl⟩⟩
 ·exact abW pins s σ H (.ref a) (.ref b) (.ref a) (.ref b) Q I rfl rfl ⟨a,b,xs,ys,rfl,rfl,SqT.of ha,SqT.of hb,hx,hz,fun z=>absurd z hy,fun _=>q2 hx⟩
end
end L2
namespace K7
open PySem L2 PyProof.Rows
def kN (S:List Nat):List Key:=S.map fun (i:Nat)=>(Sum.inl (i:Int):Key)
theorem sR (S:List Nat):(kN S).map kV=aC S:=by
 unfold kN
 rw [afZ]
 rfl
theorem rn:∀ {S T:List Nat},kN S=kN T->S=T
 | [],[],_=>rfl
 | [],_::_,h=>by simp [kN] at h
 | _::_,[],h=>by simp [kN] at h
 | a::S,b::T,h=>by
  have h':(Sum.inl (a:Int):Key)::kN S=Sum.inl (b:Int)::kN T:=h
  injection h' with h1 h2
  injection h1 with h1
  rw [rn h2,Int.ofNat.inj h1]
structure Ent where
 S:List Nat
 l:Addr
 ps:List (Addr×List Nat)
def iI (E:List Ent):List (List Key×V):=E.map fun e=>(kN e.S,V.ref e.l)
theorem xt {E:List Ent}(nd:(E.map (·.S)).Nodup){e:Ent}(he:e∈E):fq (iI E) (kN e.S)=some (.ref e.l):=by
 induction E with
 | nil=>exact nomatch he
 | cons f E ih =>
  rw [aeZ,afx] at nd
  show fq ((kN f.S,V.ref f.l)::iI E) _=_
  rcases aeX.mp he with rfl | he
  ·exact dN rfl
  ·rw [dt (fun z=>nd.1 (ae3.mpr ⟨e,he,(rn z).symm⟩))]
   exact ih nd.2 he
theorem acV {E:List Ent}{T:List Nat}(h:T ∉ E.map (·.S)):fq (iI E) (kN T)=none:=by
 induction E with
 | nil=>rfl
 | cons f E ih =>
  rw [aeZ,aeX,not_or] at h
  show fq ((kN f.S,V.ref f.l)::iI E) _=_
  rw [dt (fun z=>h.1 (rn z).symm)]
  exact ih h.2
def Upto (h:Hs)(Es:List (List Nat))(k:Nat)(e:Ent):Prop :=
 (∀ j,j < k->Nxt h e.S j->∃ p∈e.ps,Ins e.S j p.2)/\(∀ p∈e.ps,(∃ j,Nxt h e.S j/\Ins e.S j p.2)/\p.2∈Es)/\e.ps.length<=k
structure MetM (h:Hs)(E:List Ent)(ws:List (List Nat))(cur:List Nat)(i:Nat):Prop where
 nd:(E.map (·.S)).Nodup
 rc:∀ e∈E,RchS h e.S
 nil:([]:List Nat)∈E.map (·.S)
 wn:ws.Nodup
 we:∀ S∈ws,S∈E.map (·.S)
 pr:∀ e∈E,(e.S∈ws/\e.ps=[])\/(e.S ∉ ws/\Upto h (E.map (·.S)) (if e.S=cur then i else h.2.length) e)
def qa (E:List Ent)(S:List Nat)(p:Addr×List Nat):List Ent:=E.map fun e=>if e.S=S then { e with ps:=e.ps++[p] } else e
theorem lK (E:List Ent)(S:List Nat)(p:Addr×List Nat):(qa E S p).map (·.S)=E.map (·.S):=by
 unfold qa
 rw [afZ]
 refine aiT fun e _=>?_
 show (if e.S=S then _ else e).S=e.S
 split<;>rfl
theorem ac3 (E:List Ent)(S:List Nat)(p:Addr×List Nat):(qa E S p).map (·.l)=E.map (·.l):=by
 unfold qa
 rw [afZ]
 refine aiT fun e _=>?_
 show (if e.S=S then _ else e).l=e.l
 split<;>rfl
theorem pC (E:List Ent)(S:List Nat)(p:Addr×List Nat):iI (qa E S p)=iI E:=by
 unfold iI qa
 rw [afZ]
 refine aiT fun e _=>?_
 show (kN (if e.S=S then _ else e).S,V.ref (if e.S=S then _ else e).l)=_
 split<;>rfl
theorem gn {E:List Ent}{S:List Nat}{p:Addr×List Nat}{f:Ent}(hf:f∈qa E S p):∃ e∈E,f.S=e.S/\f.l=e.l/\((e.S=S/\f.ps=e.ps++[p])\/(e.S≠S/\f.ps=e.ps)):=by
 obtain⟨e,he,rfl⟩:=ae3.mp hf
 refine⟨e,he,?_⟩
 by_cases z:e.S=S
 ·rw [if_pos z];exact⟨rfl,rfl,.inl ⟨z,rfl⟩⟩
 ·rw [if_neg z];exact⟨rfl,rfl,.inr ⟨z,rfl⟩⟩
theorem Upto.mono {h:Hs}{Es Es':List (List Nat)}{k:Nat}{e:Ent}(u:Upto h Es k e)(s:∀ T∈Es,T∈Es'):Upto h Es' k e:=⟨u.1,fun p hp=>⟨(u.2.1 p hp).1,s _ (u.2.1 p hp).2⟩,u.2.2⟩
section
variable {h:Hs}{E:List Ent}{ws:List (List Nat)}{S T:List Nat}{i:Nat}
theorem MetM.few (m:MetM h E ws S i):E.length<=2 ^ h.2.length:=by
 rw [← aeD (f:=(·.S))]
 exact abk m.nd fun S hS=>by
  obtain⟨e,he,rfl⟩:=ae3.mp hS
  exact⟨(m.rc e he).1,(m.rc e he).lt⟩
theorem MetM.pop (m:MetM h E (ws++[S]) [] h.2.length):MetM h E ws S 0:=by
 have wn:=afX.mp m.wn
 refine⟨m.nd,m.rc,m.nil,wn.1,fun T hT=>m.we T (by simp [hT]),fun e he=>?_⟩
 rcases m.pr e he with ⟨a,b⟩ | ⟨a,b⟩
 ·rcases aeI.mp a with a | a
  ·exact .inl ⟨a,b⟩
  ·refine .inr ⟨fun z=>?_,?_⟩
   ·exact wn.2.2 e.S z S (by simp) (aeF.mp a)
   ·rw [if_pos (aeF.mp a)]
    exact⟨fun j hj=>absurd hj (by omega),(fun p hp=>by rw [b] at hp;exact nomatch hp),by rw [b];exact ae2 _⟩
 ·rw [aeI,not_or,aeF] at a
  refine .inr ⟨a.1,?_⟩
  rw [if_neg a.2]
  rw [ite_self] at b
  exact b
theorem MetM.done (m:MetM h E ws S h.2.length):MetM h E ws [] h.2.length :=
 ⟨m.nd,m.rc,m.nil,m.wn,m.we,fun e he=>by have:=m.pr e he;rw [ite_self] at this ⊢;exact this⟩
theorem MetM.skip (m:MetM h E ws S i)(n:¬ Nxt h S i):MetM h E ws S (i+1) :=
 ⟨m.nd,m.rc,m.nil,m.wn,m.we,fun e he=>(m.pr e he).imp id fun ⟨a,b⟩=>⟨a,by
  by_cases z:e.S=S
  ·rw [if_pos z] at b ⊢
   refine⟨fun j hj nx=>?_,b.2.1,Nat.le_succ_of_le b.2.2⟩
   by_cases e2:j=i
   ·subst e2;rw [z] at nx;exact absurd nx n
   ·exact b.1 j (by omega) nx
  ·rw [if_neg z] at b ⊢;exact b⟩⟩
theorem MetM.old (m:MetM h E ws S i)(nw:S ∉ ws)(n:Nxt h S i)(s:Ins S i T)(hT:T∈E.map (·.S))(a:Addr):MetM h (qa E S (a,T)) ws S (i+1):=by
 refine⟨by rw [lK];exact m.nd,fun f hf=>?_,by rw [lK];exact m.nil,m.wn,by rw [lK];exact m.we,fun f hf=>?_⟩
 ·obtain⟨e,he,q,_⟩:=gn hf
  rw [q];exact m.rc e he
 rw [lK]
 obtain⟨e,he,q1,q2,q3⟩:=gn hf
 rcases q3 with ⟨z,q3⟩ | ⟨z,q3⟩
 ·refine .inr ⟨by rw [q1,z];exact nw,?_⟩
  rcases m.pr e he with ⟨w,_⟩ | ⟨w,u⟩
  ·exact absurd (z▸w) nw
  rw [if_pos z] at u
  rw [if_pos (q1.trans z)]
  unfold Upto
  rw [q1,q3]
  refine⟨fun j hj nx=>?_,fun p hp=>?_,by rw [aeG];exact agU u.2.2⟩
  ·by_cases e2:j=i
   ·subst e2
    exact⟨(a,T),by simp,by rw [z];exact s⟩
   ·obtain⟨p,hp,ip⟩:=u.1 j (by omega) nx
    exact⟨p,by simp [hp],ip⟩
  ·rcases aeI.mp hp with hp | hp
   ·exact u.2.1 p hp
   ·rw [aeF.mp hp,z]
    exact⟨⟨i,n,s⟩,hT⟩
 ·rcases m.pr e he with ⟨w,y⟩ | ⟨w,u⟩
  ·exact .inl ⟨by rw [q1];exact w,by rw [q3];exact y⟩
  ·refine .inr ⟨by rw [q1];exact w,?_⟩
   rw [if_neg z] at u
   rw [if_neg (by rw [q1];exact z)]
   unfold Upto
   rw [q1,q3]
   exact u
theorem MetM.new (x:HouseD h)(m:MetM h E ws S i)(nw:S ∉ ws)(n:Nxt h S i)(s:Ins S i T)(hS:RchS h S)(hT:T ∉ E.map (·.S))(a l:Addr):MetM h (qa E S (a,T)++[⟨T,l,[]⟩]) (ws++[T]) S (i+1):=by
 have ne:T≠S:=fun z=>by have:=yb s;rw [z] at this;omega
 have eS:(qa E S (a,T)++[(⟨T,l,[]⟩:Ent)]).map (·.S)=E.map (·.S)++[T]:=by rw [aeO,lK];rfl
 have m1:∀ f∈qa E S (a,T),(f.S∈ws/\f.ps=[])\/(f.S ∉ ws/\Upto h (E.map (·.S)++[T]) (if f.S=S then i+1 else h.2.length) f):=fun f hf=>by
  obtain⟨e,he,q1,q2,q3⟩:=gn hf
  rcases q3 with ⟨z,q3⟩ | ⟨z,q3⟩
  ·refine .inr ⟨by rw [q1,z];exact nw,?_⟩
   rcases m.pr e he with ⟨w,_⟩ | ⟨w,u⟩
   ·exact absurd (z▸w) nw
   rw [if_pos z] at u
   rw [if_pos (q1.trans z)]
   unfold Upto
   rw [q1,q3]
   refine⟨fun j hj nx=>?_,fun p hp=>?_,by rw [aeG];exact agU u.2.2⟩
   ·by_cases e2:j=i
    ·subst e2
     exact⟨(a,T),by simp,by rw [z];exact s⟩
    ·obtain⟨p,hp,ip⟩:=u.1 j (by omega) nx
     exact⟨p,by simp [hp],ip⟩
   ·rcases aeI.mp hp with hp | hp
    ·exact⟨(u.2.1 p hp).1,aeI.mpr (.inl (u.2.1 p hp).2)⟩
    ·rw [aeF.mp hp,z]
     exact⟨⟨i,n,s⟩,by simp⟩
  ·rcases m.pr e he with ⟨w,y⟩ | ⟨w,u⟩
   ·exact .inl ⟨by rw [q1];exact w,by rw [q3];exact y⟩
   ·refine .inr ⟨by rw [q1];exact w,?_⟩
    rw [if_neg z] at u
    rw [if_neg (by rw [q1];exact z)]
    unfold Upto
    rw [q1,q3]
    exact u.mono fun T' h'=>aeI.mpr (.inl h')
 refine⟨?_,fun f hf=>?_,?_,?_,fun T' h'=>?_,fun f hf=>?_⟩
 ·rw [eS,afX]
  exact⟨m.nd,by simp,fun u hu v hv=>by rw [aeF.mp hv];exact fun z=>hT (z▸hu)⟩
 ·rcases aeI.mp hf with hf | hf
  ·obtain⟨e,he,q,_⟩:=gn hf
   rw [q];exact m.rc e he
  ·rw [aeF.mp hf]
   exact zb x hS n s
 ·rw [eS];exact aeI.mpr (.inl m.nil)
 ·rw [afX]
  exact⟨m.wn,by simp,fun u hu v hv=>by rw [aeF.mp hv];exact fun z=>hT (z▸m.we u hu)⟩
 ·rw [eS]
  rcases aeI.mp h' with h' | h'
  ·exact aeI.mpr (.inl (m.we _ h'))
  ·exact aeI.mpr (.inr h')
 ·rw [eS]
  rcases aeI.mp hf with hf | hf
  ·rcases m1 f hf with ⟨a,b⟩ | ⟨a,b⟩
   ·exact .inl ⟨aeI.mpr (.inl a),b⟩
   ·refine .inr ⟨fun z=>?_,b⟩
    rcases aeI.mp z with z | z
    ·exact a z
    ·obtain⟨e,he,q,_⟩:=gn hf
     exact hT (by rw [← aeF.mp z,q];exact ae3.mpr ⟨e,he,rfl⟩)
  ·rw [aeF.mp hf]
   exact .inl ⟨by simp,rfl⟩
theorem MetM.full (m:MetM h E [] [] h.2.length){e:Ent}(he:e∈E):Upto h (E.map (·.S)) h.2.length e:=by
 rcases m.pr e he with ⟨w,_⟩ | ⟨_,u⟩
 ·exact nomatch w
 ·rw [ite_self] at u;exact u
theorem MetM.all (x:HouseD h)(m:MetM h E [] [] h.2.length){o:List Nat}(g:Gone h.1 h.2 o)(p:o.Perm S)(asc:Asc S):S∈E.map (·.S):=by
 obtain⟨S',h1,p'⟩:=acC x m.nil (fun T hT j nx=>by
  obtain⟨e,he,rfl⟩:=ae3.mp hT
  obtain⟨p,hp,ip⟩:=(m.full he).1 j nx.1 nx
  exact⟨p.2,((m.full he).2.1 p hp).2,ip⟩) (fun T hT=>by
  obtain⟨e,he,rfl⟩:=ae3.mp hT
  exact m.rc e he) o g
 obtain⟨e,he,rfl⟩:=ae3.mp h1
 rw [tE asc (m.rc e he).1 (p.symm.trans p')]
 exact h1
theorem MetM.can (x:HouseD h)(m:MetM h E [] [] h.2.length){e:Ent}(he:e∈E):aaC h e.S↔(e.S.length=h.2.length\/∃ p∈e.ps,aaC h p.2):=by
 rw [wM x (m.rc e he)]
 refine or_congr .rfl ⟨fun ⟨j,T,nx,s,c⟩=>?_,fun ⟨p,hp,c⟩=>?_⟩
 ·obtain⟨p,hp,ip⟩:=(m.full he).1 j nx.1 nx
  exact⟨p,hp,by rw [ab4 ip s];exact c⟩
 ·obtain⟨⟨j,nx,s⟩,_⟩:=(m.full he).2.1 p hp
  exact⟨j,p.2,nx,s,c⟩
end
abbrev je (ps:List (Addr×List Nat)):List V:=ps.map fun p=>V.ref p.1
structure MetH (H H':Hp)(wA mA lA:Addr)(E:List Ent)(ws:List (Addr×List Nat))(ls:List V):Prop where
 sm:Same H H'
 nw:H wA=none
 nm:H mA=none
 nl:H lA=none
 wl:wA≠lA
 w:H' wA=some (.lst (je ws))
 m:H' mA=some (.dT (iI E))
 l:H' lA=some (.lst ls)
 el:∀ e∈E,H e.l=none/\e.l≠wA/\e.l≠lA/\H' e.l=some (.lst (je e.ps))
 ln:(E.map (·.l)).Nodup
 tw:∀ p∈ws,H' p.1=some (.tup (aC p.2))
 te:∀ e∈E,∀ p∈e.ps,H' p.1=some (.tup (aC p.2))
section
variable {H H' H2:Hp}{wA mA lA:Addr}{E:List Ent}{ws:List (Addr×List Nat)}{ls:List V}
theorem MetH.same (m:MetH H H' wA mA lA E ws ls)(s:Same H' H2):MetH H H2 wA mA lA E ws ls :=
 ⟨m.sm.trans s,m.nw,m.nm,m.nl,m.wl,s _ _ m.w,s _ _ m.m,s _ _ m.l,fun e he=>let ⟨a,b,c,d⟩:=m.el e he;⟨a,b,c,s _ _ d⟩,m.ln,fun p hp=>s _ _ (m.tw p hp),fun e he p hp=>s _ _ (m.te e he p hp)⟩
theorem MetH.but {x:Addr}{xs:List V}(m:MetH H H' wA mA lA E ws ls)(hx:H' x=some (.lst xs))(x0:H x=none)(x1:x≠wA)(x2:x≠lA)(x3:∀ e∈E,x≠e.l)(B:But x H' H2):MetH H H2 wA mA lA E ws ls :=
 ⟨fun b u e=>B b u (af e x0) (m.sm b u e),m.nw,m.nm,m.nl,m.wl,B _ _ x1.symm m.w,B _ _ (bX m.m hx (by intro z;cases z)) m.m,B _ _ x2.symm m.l,
  fun e he=>let ⟨a,b,c,d⟩:=m.el e he;⟨a,b,c,B _ _ (x3 e he).symm d⟩,m.ln,fun p hp=>B _ _ (bX (m.tw p hp) hx (by intro z;cases z)) (m.tw p hp),fun e he p hp=>B _ _ (bX (m.te e he p hp) hx (by intro z;cases z)) (m.te e he p hp)⟩
theorem MetH.pop {a:Addr}{S:List Nat}(m:MetH H H' wA mA lA E (ws++[(a,S)]) ls):MetH H (upd H' wA (.lst (je ws))) wA mA lA E ws ls:=by
 have nt:∀ b ys,H' b=some (.tup ys)->b≠wA:=fun b ys e=>bX e m.w (by intro z;cases z)
 refine⟨fun b u e=>?_,m.nw,m.nm,m.nl,m.wl,ag,?_,?_,fun e he=>?_,m.ln,fun p hp=>?_,fun e he p hp=>?_⟩
 ·rw [ah (af e m.nw)];exact m.sm b u e
 ·rw [ah (bX m.m m.w (by intro z;cases z))];exact m.m
 ·rw [ah m.wl.symm];exact m.l
 ·obtain⟨a,b,c,d⟩:=m.el e he
  exact⟨a,b,c,by rw [ah b];exact d⟩
 ·have:=m.tw p (aeI.mpr (.inl hp))
  rw [ah (nt _ _ this)];exact this
 ·have:=m.te e he p hp
  rw [ah (nt _ _ this)];exact this
theorem MetH.line (m:MetH H H' wA mA lA E ws ls)(x:V):MetH H (upd H' lA (.lst (ls++[x]))) wA mA lA E ws (ls++[x]):=by
 have nt:∀ b ys,H' b=some (.tup ys)->b≠lA:=fun b ys e=>bX e m.l (by intro z;cases z)
 refine⟨fun b u e=>?_,m.nw,m.nm,m.nl,m.wl,?_,?_,ag,fun e he=>?_,m.ln,fun p hp=>?_,fun e he p hp=>?_⟩
 ·rw [ah (af e m.nl)];exact m.sm b u e
 ·rw [ah m.wl];exact m.w
 ·rw [ah (bX m.m m.l (by intro z;cases z))];exact m.m
 ·obtain⟨a,b,c,d⟩:=m.el e he
  exact⟨a,b,c,by rw [ah c];exact d⟩
 ·have:=m.tw p hp
  rw [ah (nt _ _ this)];exact this
 ·have:=m.te e he p hp
  rw [ah (nt _ _ this)];exact this
theorem abg {E:List Ent}(nd:(E.map (·.S)).Nodup){e f:Ent}(he:e∈E)(hf:f∈E)(z:e.S=f.S):e=f:=by
 induction E with
 | nil=>exact nomatch he
 | cons g E ih =>
  rw [aeZ,afx] at nd
  rcases aeX.mp he with e1 | e1
  ·rcases aeX.mp hf with f1 | f1
   ·rw [e1,f1]
   ·exact (nd.1 (ae3.mpr ⟨f,f1,by rw [← z,e1]⟩)).elim
  ·rcases aeX.mp hf with f1 | f1
   ·exact (nd.1 (ae3.mpr ⟨e,e1,by rw [z,f1]⟩)).elim
   ·exact ih nd.2 e1 f1
theorem abZ {E:List Ent}(ln:(E.map (·.l)).Nodup){e f:Ent}(he:e∈E)(hf:f∈E)(z:e.l=f.l):e=f:=by
 induction E with
 | nil=>exact nomatch he
 | cons g E ih =>
  rw [aeZ,afx] at ln
  rcases aeX.mp he with e1 | e1
  ·rcases aeX.mp hf with f1 | f1
   ·rw [e1,f1]
   ·exact (ln.1 (ae3.mpr ⟨f,f1,by rw [← z,e1]⟩)).elim
  ·rcases aeX.mp hf with f1 | f1
   ·exact (ln.1 (ae3.mpr ⟨e,e1,by rw [z,f1]⟩)).elim
   ·exact ih ln.2 e1 f1
theorem MetH.app (m:MetH H H' wA mA lA E ws ls)(nd:(E.map (·.S)).Nodup){e:Ent}(he:e∈E){a:Addr}{T:List Nat}(ha:H' a=some (.tup (aC T))) :
 MetH H (upd H' e.l (.lst (je e.ps++[.ref a]))) wA mA lA (qa E e.S (a,T)) ws ls:=by
 obtain⟨e0,e1,e2,e3⟩:=m.el e he
 have nt:∀ b ys,H' b=some (.tup ys)->b≠e.l:=fun b ys q=>bX q e3 (by intro z;cases z)
 refine⟨fun b u q=>?_,m.nw,m.nm,m.nl,m.wl,?_,?_,?_,fun f hf=>?_,by rw [ac3];exact m.ln,fun p hp=>?_,fun f hf p hp=>?_⟩
 ·rw [ah (af q e0)];exact m.sm b u q
 ·rw [ah e1.symm];exact m.w
 ·rw [pC,ah (bX m.m e3 (by intro z;cases z))];exact m.m
 ·rw [ah e2.symm];exact m.l
 ·obtain⟨g,hg,q1,q2,q3⟩:=gn hf
  obtain⟨g0,g1,g2,g3⟩:=m.el g hg
  rw [q2]
  refine⟨g0,g1,g2,?_⟩
  rcases q3 with ⟨z,q3⟩ | ⟨z,q3⟩
  ·have:=abg nd hg he z
   subst this
   rw [ag,q3]
   unfold je
   rw [aeO]
   rfl
  ·rw [ah (fun y=>z (by rw [abZ m.ln hg he y])),q3]
   exact g3
 ·have:=m.tw p hp
  rw [ah (nt _ _ this)];exact this
 ·obtain⟨g,hg,q1,q2,q3⟩:=gn hf
  have:H' p.1=some (.tup (aC p.2)):=by
   rcases q3 with ⟨z,q3⟩ | ⟨z,q3⟩
   ·rw [q3] at hp
    rcases aeI.mp hp with hp | hp
    ·exact m.te g hg p hp
    ·rw [aeF.mp hp];exact ha
   ·rw [q3] at hp;exact m.te g hg p hp
  rw [ah (nt _ _ this)];exact this
theorem MetH.put (m:MetH H H' wA mA lA E ws ls){a l:Addr}{T:List Nat}(ha:H' a=some (.tup (aC T)))(nl:H' l=none) :
 MetH H (upd (upd (upd H' l (.lst [])) mA (.dT (iI E++[(kN T,.ref l)]))) wA (.lst (je ws++[.ref a]))) wA mA lA (E++[⟨T,l,[]⟩]) (ws++[(a,T)]) ls:=by
 have nw:wA≠l:=af m.w nl
 have nm:mA≠l:=af m.m nl
 have nL:lA≠l:=af m.l nl
 have wm:wA≠mA:=bX m.w m.m (by intro z;cases z)
 have lm:lA≠mA:=bX m.l m.m (by intro z;cases z)
 have nt:∀ b ys,H' b=some (.tup ys)->(upd (upd (upd H' l (.lst [])) mA (.dT (iI E++[(kN T,.ref l)]))) wA (.lst (je ws++[.ref a]))) b=some (.tup ys):=fun b ys q=>by
  rw [ah (bX q m.w (by intro z;cases z)),ah (bX q m.m (by intro z;cases z)),ah (af q nl)];exact q
 refine⟨fun b u q=>?_,m.nw,m.nm,m.nl,m.wl,?_,?_,?_,fun f hf=>?_,?_,fun p hp=>nt _ _ ?_,fun f hf p hp=>nt _ _ ?_⟩
 ·rw [ah (af q m.nw),ah (af q m.nm),ah (af (m.sm b u q) nl)];exact m.sm b u q
 ·rw [ag];unfold je;rw [aeO];rfl
 ·rw [ah wm.symm,ag];unfold iI;rw [aeO];rfl
 ·rw [ah m.wl.symm,ah lm,ah nL];exact m.l
 ·rcases aeI.mp hf with hf | hf
  ·obtain⟨a,b,c,d⟩:=m.el f hf
   exact⟨a,b,c,by rw [ah b,ah (bX d m.m (by intro z;cases z)),ah (af d nl)];exact d⟩
  ·rw [aeF.mp hf]
   exact⟨m.sm.free nl,nw.symm,nL.symm,by show upd _ wA _ l=_;rw [ah nw.symm,ah nm.symm,ag];rfl⟩
 ·rw [aeO,afX]
  refine⟨m.ln,by simp,fun u hu v hv=>?_⟩
  obtain⟨e,he,rfl⟩:=ae3.mp hu
  have:v=l:=by simpa using hv
  rw [this]
  obtain⟨a,b,c,d⟩:=m.el e he
  exact af d nl
 ·rcases aeI.mp hp with hp | hp
  ·exact m.tw p hp
  ·rw [aeF.mp hp];exact ha
 ·rcases aeI.mp hf with hf | hf
  ·exact m.te f hf p hp
  ·rw [aeF.mp hf] at hp;exact nomatch hp
theorem aby {H:Hp}{a b:Addr}{xs ys:List V}{Q:VK}(ha:H a=some (.tup xs))(hb:H b=some (.tup ys))(hy:ys≠[])(hz:xs.length+ys.length<=sizeLine)(key:∀ (c:Addr) (G:Hp),Same H G->G c=some (.tup (xs++ys))->Q (.ref c) G):acv (.ref a) (.ref b) H Q :=
 ⟨a,b,xs,ys,rfl,rfl,ha,hb,hy,hz,fun e=>key b H (Same.refl H) (by rw [e];exact hb),fun _ p np=>key p _ (ar np) ag⟩
theorem ace {S:List Nat}{i:Nat}{ns:List Int}(asc:Asc S)(ni:i ∉ S)(p:ns.Perm ((S++[i]).map fun (j:Nat)=>(j:Int)))(so:ns.Pairwise (·<=·)):∃ T,ns=T.map (fun (j:Nat)=>(j:Int))/\Ins S i T:=by
 obtain⟨T,pT,eT⟩:=mQ p
 refine⟨T,eT.symm,pT,?_⟩
 rw [← eT,ajr] at so
 have nd:T.Nodup:=pT.nodup_iff.mpr (by
  rw [afX]
  exact⟨List.Pairwise.imp (fun h=>ae4 h) asc,by simp,fun u hu v hv=>by rw [aeF.mp hv];exact fun z=>ni (z▸hu)⟩)
 exact (so.and nd).imp fun ⟨a,b⟩=>by omega
theorem sj (hand:List Str)(k:Str):(([k].filter fun z=>decide (hand.count z < [k].count z)).map V.str).isEmpty=kR hand [k]:=by
 have e:[k].count k=1:=by simp
 unfold kR
 rw [af6,ahR,e]
 by_cases z:hand.count k < 1
 ·rw [if_pos (afi z),afq (by omega)]
  rfl
 ·rw [if_neg (by simpa using z),afi (by omega)]
  rfl
end
theorem yw {H:Hp}:∀ {ws:List (Addr×List Nat)},(∀ p∈ws,H p.1=some (.tup (aC p.2)))->SeesAll H (je ws) (ws.map fun p=>PyData.tuple (p.2.map fun (i:Nat)=>PyData.int (i:Int)))
 | [],_=>.nil
 | p::ws,h=>.cons (.tup (h p (by simp)) (by
  have:∀ l:List Nat,SeesAll H (aC l) (l.map fun (i:Nat)=>PyData.int (i:Int)):=fun l=>by
   induction l with
   | nil=>exact .nil
   | cons a l ih=>exact .cons (.int _) ih
  exact this p.2)) (yw fun q hq=>h q (by simp [hq]))
theorem aaV:∀ ws:List (Addr×List Nat),PyData.canLayAll0 (ws.map fun p=>PyData.tuple (p.2.map fun (i:Nat)=>PyData.int (i:Int)))=true
 | []=>rfl
 | p::ws=>by
  have:∀ l:List Nat,PyData.canLayAll0 (l.map fun (i:Nat)=>PyData.int (i:Int))=true:=fun l=>by
   induction l with
   | nil=>rfl
   | cons a l ih=>exact ih
  show (PyData.canLayAll0 (p.2.map fun (i:Nat)=>PyData.int (i:Int)) && PyData.canLayAll0 (ws.map fun p=>PyData.tuple (p.2.map fun (i:Nat)=>PyData.int (i:Int))))=true
  rw [this,aaV ws]
  rfl
def aaG (h:Hs)(gvs:List (List Key×V))(S:List Nat):Prop:=∃ c:Bool,fq gvs (kN S)=some (.bl c)/\(c=true↔aaC h S)
def yg:Sp:=fun vs H Q _=>∃ (v:V) (l:Addr) (h:Hs),vs=[v,.ref l]/\HouseAt H v h/\HouseD h/\h.2.length<=8/\H l=some (.lst []) ∧
 ∀ (g:Addr) (gvs:List (List Key×V)) (H':Hp),Same H H'->H g=none->H' g=some (.dT gvs)->(∀ S o,Gone h.1 h.2 o->o.Perm S->Asc S->aaG h gvs S)->Q (.ref g) H'
inductive WI (h:Hs)(t l0:Addr)(H:Hp)(m:Nat)(σ:L2.St)(H':Hp):Prop
 | mk (wA mA lA:Addr) (E:List Ent) (ws:List (Addr×List Nat)) (ls:List V) (x5 x6 x7 x8 x9 x10 x11 x12:Option V) :
  σ=[some (.ref t),some (.ref l0),some (.ref wA),some (.ref mA),some (.ref lA),x5,x6,x7,x8,x9,x10,x11,x12] →
  MetH H H' wA mA lA E ws ls->MetM h E (ws.map (·.2)) [] h.2.length->ls.length+ws.length=E.length->m+ls.length=256->WI h t l0 H m σ H'
inductive WE (h:Hs)(t l0:Addr)(H:Hp)(σ:L2.St)(H':Hp):Prop
 | mk (wA mA lA:Addr) (E:List Ent) (ls:List V) (x5 x6 x7 x8 x9 x10 x11 x12:Option V) :
  σ=[some (.ref t),some (.ref l0),some (.ref wA),some (.ref mA),some (.ref lA),x5,x6,x7,x8,x9,x10,x11,x12] →
  MetH H H' wA mA lA E [] ls->MetM h E [] [] h.2.length->WE h t l0 H σ H'
inductive HI (t l wA mA lA tS hA:Addr)(x9 x10 x11 x12:Option V)(Hb:Hp)(hand:List Str)(σ:L2.St)(H':Hp):Prop
 | mk (x7 x8:Option V):σ=[some (.ref t),some (.ref l),some (.ref wA),some (.ref mA),some (.ref lA),some (.ref tS),some (.ref hA),x7,x8,x9,x10,x11,x12]->But hA Hb H'->H' hA=some (.lst (hand.map V.str))->HI t l wA mA lA tS hA x9 x10 x11 x12 Hb hand σ H'
inductive RI (h:Hs)(t l wA mA lA tS hA:Addr)(S:List Nat)(H:Hp)(k i:Nat)(σ:L2.St)(H':Hp):Prop
 | mk (E:List Ent) (ws:List (Addr×List Nat)) (ls:List V) (x7 x8 x9 x10 x11 x12:Option V) :
  σ=[some (.ref t),some (.ref l),some (.ref wA),some (.ref mA),some (.ref lA),some (.ref tS),some (.ref hA),x7,x8,x9,x10,x11,x12] →
  MetH H H' wA mA lA E ws ls->MetM h E (ws.map (·.2)) S i->S ∉ ws.map (·.2)->S∈E.map (·.S)->ls.length+ws.length=E.length->ls.length=k->H' tS=some (.tup (aC S))->H' hA=some (.lst ((jH h S).map V.str))->hA≠wA->(∀ e∈E,hA≠e.l)->RI h t l wA mA lA tS hA S H k i σ H'
inductive GI (h:Hs)(t l wA mA lA gA:Addr)(E:List Ent)(ps:List (List Key×Addr))(Hb:Hp)(k:Nat)(σ:L2.St)(H':Hp):Prop
 | mk (gvs:List (List Key×V)) (x5 x6 x7 x8 x9 x10 x11:Option V) :
  σ=[some (.ref t),some (.ref l),some (.ref wA),some (.ref mA),some (.ref lA),x5,x6,x7,x8,x9,x10,x11,some (.ref gA)]->But gA Hb H'->H' gA=some (.dT gvs)->gvs.length<=k →
  (∀ j p,j < k->ps[j]? = some p->∀ e∈E,p.1=kN e.S->aaG h gvs e.S)->GI h t l wA mA lA gA E ps Hb k σ H'
theorem wH (h:Hs)(S:List Nat){j:Nat}(hj:j < S.length):(S.take (j+1)).flatMap (fun i=>(bW h.2 i).2)=(S.take j).flatMap (fun i=>(bW h.2 i).2)++(bW h.2 S[j]).2:=by
 rw [afc,aeC hj,agZ,afB]
 simp
theorem vI (h:Hs)(S:List Nat)(b:List Str){j:Nat}(hj:j < S.length):((cW h S).take (j+1)).foldl List.erase b=(((cW h S).take j).foldl List.erase b).erase (aA (bW h.2 S[j])):=by
 have hj':j < (cW h S).length:=by unfold cW;rw [aeD];exact hj
 rw [afc,aeC hj',agZ,aic]
 simp [cW]
section
variable {P:Program}{w:World}{K:PySem.W.Frag}{mg:Str->Option Value}{base:Heap}
theorem aZ:aO ["house","first","waiting","met","line","here","hand","room","kind","locks","short","behind","good"] ["house","first"] (aq cy):=⟨rfl,rfl,rfl,by decide +kernel,rfl,by decide +kernel,by decide +kernel⟩
theorem ny:(["kind","locks","hand"]:List Str).Nodup:=by decide +kernel
theorem nM:(["behind","good"]:List Str).Nodup:=by decide +kernel
theorem abn {f:Addr}{fd:FuncData}(F:Fun K "_law_sets" "_law_sets" cy f fd)(aY:mg "len" = none)(bV:mg "list" = none)(bh:mg "range" = none)(aS:mg "sorted" = none)(gJ:mg "tuple" = none):aV P w K mg base CX0 1 f fd ["house","first"] yg:=by
 refine F.ok aZ (fun vs H Q E h=>?_) (fun cdv A outer s H vs Q E hr h=>?_)
 ·obtain⟨v,l,h,rfl,_⟩:=h
  rfl
 ·have hu:=m7 hr
  obtain⟨v,l,h,rfl,⟨t,a,r,us,rfl,ht,ha,hrr,hR⟩,hD,h8,hl,q⟩:=h
  refine⟨_,(ak (aI (i:=2) aZ.nd rfl (Or.inl rfl) (gT (ae (bF ju rfl gJ (by decide +kernel) (ae (aw lG rfl aS agO (ae (pv 1) ai)) ai)) ai)))
   (ak (aI (i:=3) aZ.nd rfl (Or.inl rfl) (aaa hu (aT bD (pv 2) av (fun _ _=>rfl)) iV))
   (ak (aI (i:=4) aZ.nd rfl (Or.inl rfl) iV)
   (ak (bB (kW afl (aX kj (pv 2) iV (bj _))
    (ak (aI (i:=5) aZ.nd rfl (Or.inl rfl) (uP aeS agj agk xI (pv 2)))
    (ak (bC (fw aeS afI afJ df (pv 4) (ae (pv 5) ai)))
    (ak (aI (i:=6) aZ.nd rfl (Or.inr rfl) (bF b9 rfl bV (by decide +kernel) (ae (aT bu (pv 0) av (fun _ _=>rfl)) ai)))
    (ak (bB (dU afl rfl (aaD (pv 5)) (ay (i:=7) aZ.nd rfl (Or.inl rfl))
     (au (bC (fw aeS agE agF h7 (pv 6) (ae (aT bu (aT bD (aT bu (pv 0) av (fun _ _=>rfl)) (pv 7) (fun _ _=>rfl)) av (fun _ _=>rfl)) ai))))))
    (ak (bB (dU afl rfl (aaD (pv 5)) (ay (i:=7) aZ.nd rfl (Or.inl rfl))
     (au (bB (dU afl rfl (bT (aT bu (aT bD (aT bu (pv 0) av (fun _ _=>rfl)) (pv 7) (fun _ _=>rfl)) av (fun _ _=>rfl))) (ay (i:=8) aZ.nd rfl (Or.inl rfl))
      (au (bC (fw aeS ahN ahO lI (pv 6) (ae (pv 8) ai)))))))))
    (au (bB (dU afl rfl (cg rfl bh (ae (aw az rfl aY ae8 (ae (aT bu (pv 0) av (fun _ _=>rfl)) ai)) ai)) (ay (i:=7) aZ.nd rfl (Or.inl rfl))
     (ak (aI (i:=9) aZ.nd rfl (Or.inr rfl) (aT bu (aT bD (aT bu (pv 0) av (fun _ _=>rfl)) (pv 7) (fun _ _=>rfl)) av (fun _ _=>rfl)))
     (ak (iX (i:=10) (tg:=.Name "kind" _) (outer:=aq (cy)) (N:=["house","first","waiting","met","line","here","hand","room","kind","locks","short","behind","good"]) (N':=["kind","locks","hand"]) (nl:=1) (ix:=[9,6]) aZ.nd rfl (Or.inl rfl) rfl rfl rfl (bT (pv 9))
    (fun _ _ _ _=>(ay (i:=0) ny rfl (Or.inl rfl) (.inr rfl))) (fun _ _ _ _=>(jd (aX za (lV (K:=K) rfl aeS agr ags iA (pv 1) (ae (pv 0) ai)) (lV (K:=K) rfl aeS agr ags iA (pv 2) (ae (pv 0) ai)) (bj _))))
    (fun _ _ _ _=>(pv 0)))
     (au (bB (cU (PW.pt (oJ (aX gp (pv 7) (pv 5) rfl) (jR (aX uL (pv 10) iV (bj _)))))
      (ak (aI (i:=11) aZ.nd rfl (Or.inl rfl) (bF ju rfl gJ (by decide +kernel) (ae (aw qz rfl aS agO (ae (bq abo (pv 5) (fX (ae (pv 7) ai))) ai)) ai)))
      (ak (bC (fw aeS afI afJ df (i6 hu (pv 3) (pv 5) (fun _ _=>rfl)) (ae (pv 11) ai)))
      (au (bB (cU (acE (yq hu (pv 11) (pv 3)))
       (ak (ym hu (pv 3) (pv 11) iV rfl)
       (au (bC (fw aeS afI afJ df (pv 2) (ae (pv 11) ai))))) aU))))) aU)))))))))))))))
   (ak (aI (i:=12) aZ.nd rfl (Or.inr rfl) aae)
   (ak (bB (dU afl rfl (bT (v9 rfl rfl aS rfl aY (pv 3))) (ay (i:=5) aZ.nd rfl (Or.inl rfl))
    (au (ym hu (pv 12) (pv 5) (ado (cV gB (aw az rfl aY ae8 (ae (pv 5) ai)) (aw az rfl aY ae8 (ae (aT bu (pv 0) av (fun _ _=>rfl)) ai)) (bj _)) (jE (cV qQ iJ (lx (tg:=.Name "behind" _) (outer:=aq (cy)) (N:=["house","first","waiting","met","line","here","hand","room","kind","locks","short","behind","good"]) (N':=["behind","good"]) (nl:=1) (ix:=[12]) rfl rfl rfl (bT (i6 hu (pv 3) (pv 5) (fun _ _=>rfl)))
    (fun _ _ _ _=>(ay (i:=0) nM rfl (Or.inl rfl) (.inr rfl))) (fun _ _ _ _=>dv)
    (fun _ _ _ _=>(i6 hu (pv 1) (pv 0) (fun _ _=>rfl)))) rfl))) rfl))))
   (au (aN (pv 12))))))))),?_⟩
  refine⟨_,rfl,l,[],rfl,SqL.of hl,by decide,fun l1 ns' n1 p1 _=>⟨l1,[],rfl,.inl ⟨SqL.of (by rw [ag,List.perm_nil.mp p1];rfl),fun l2 n2=>⟨by show 1<=sizeLine;decide,fun wA nw=>?_⟩⟩⟩⟩
  have s1:Same H (upd H l1 (.lst (ns'.map V.int))):=ar n1
  generalize upd H l1 (.lst (ns'.map V.int))=H1 at *
  have s2:=s1.trans (ar (o:=.tup []) n2)
  have e2:(upd H1 l2 (.tup [])) l2=some (.tup []):=ag
  generalize upd H1 l2 (.tup [])=H2 at *
  have s3:=s2.trans (ar (o:=.lst [.ref l2]) nw)
  have e3:=ar (o:=.lst [.ref l2]) nw _ _ e2
  have w3:(upd H2 wA (.lst [.ref l2])) wA=some (.lst [.ref l2]):=ag
  have nw0:=s2.free nw
  show bJ 2 (V.ref wA) _ (upd H2 wA (.lst [.ref l2])) _
  generalize upd H2 wA (.lst [.ref l2])=H3 at *
  show wB (aaA _ _) _ _ _ _
  intro mA nm
  have s4:=s3.trans (ar (o:=.dT []) nm)
  have e4:=ar (o:=.dT []) nm _ _ e3
  have w4:=ar (o:=.dT []) nm _ _ w3
  have m4:(upd H3 mA (.dT [])) mA=some (.dT []):=ag
  have nm0:=s3.free nm
  generalize upd H3 mA (.dT [])=H4 at *
  refine⟨_,rfl,wA,_,0,.ref l2,rfl,rfl,SqL.of w4,rfl,?_⟩
  refine⟨ae2 _,fun l5 n5=>⟨l2,kN [],rfl,ar n5 _ _ m4,ar n5 _ _ e4,?_⟩⟩
  have s5:=s4.trans (ar (o:=.lst []) n5)
  have e5:=ar (o:=.lst []) n5 _ _ e4
  have w5:=ar (o:=.lst []) n5 _ _ w4
  have m5:=ar (o:=.lst []) n5 _ _ m4
  have l5e:(upd H4 l5 (.lst [])) l5=some (.lst []):=ag
  have n50:=s4.free n5
  have w5n:wA≠l5:=af w4 n5
  generalize upd H4 l5 (.lst [])=H5 at *
  show bJ 3 (V.ref mA) _ (upd H5 mA (.dT [(kN [],.ref l5)])) _
  have B6:∀ b u,b≠mA->H5 b=some u->(upd H5 mA (.dT [(kN [],.ref l5)])) b=some u:=fun b u nb e=>by rw [ah nb];exact e
  have m6:(upd H5 mA (.dT [(kN [],.ref l5)])) mA=some (.dT [(kN [],.ref l5)]):=ag
  have wm:wA≠mA:=bX w5 m5 (by intro z;cases z)
  have lm:l5≠mA:=bX l5e m5 (by intro z;cases z)
  have s6:Same H (upd H5 mA (.dT [(kN [],.ref l5)])):=fun b u e=>B6 b u (af e nm0) (s5 b u e)
  have w6:=B6 _ _ wm w5
  have l6:=B6 _ _ lm l5e
  have e6:=B6 _ _ (bX e5 m5 (by intro z;cases z)) e5
  generalize upd H5 mA (.dT [(kN [],.ref l5)])=H6 at *
  refine⟨ae2 _,fun lA nL=>?_⟩
  have s7:=s6.trans (ar (o:=.lst []) nL)
  have M0:MetH H (upd H6 lA (.lst [])) wA mA lA [⟨[],l5,[]⟩] [(l2,[])] []:=by
   have k7:=ar (o:=.lst []) nL
   refine⟨s7,nw0,nm0,s6.free nL,af w6 nL,k7 _ _ w6,k7 _ _ m6,ag,fun e he=>?_,by simp,fun p hp=>?_,fun e he p hp=>?_⟩
   ·rw [aeF.mp he]
    exact⟨n50,w5n.symm,af l6 nL,k7 _ _ l6⟩
   ·rw [aeF.mp hp]
    exact k7 _ _ e6
   ·rw [aeF.mp he] at hp
    exact nomatch hp
  show bJ 4 (V.ref lA) _ (upd H6 lA (.lst [])) _
  generalize upd H6 lA (.lst [])=H7 at *
  have Mm:MetM h [⟨[],l5,[]⟩] ([((l2,[]):Addr×List Nat)].map (·.2)) [] h.2.length:=by
   refine⟨by simp,fun e he=>?_,by simp,by simp,by simp,fun e he=>?_⟩
   ·rw [aeF.mp he];exact abF
   ·rw [aeF.mp he];exact .inl ⟨by simp,rfl⟩
  clear s1 s2 s3 s4 s5 s6 s7 e2 e3 e4 e5 e6 w3 w4 w5 w6 m4 m5 m6 l5e l6 B6 n1 n2 nw nm n5 nL nw0 nm0 n50 w5n wm lm
  refine⟨fun σ' H'=>WE h t l H σ' H',?_,?_⟩
  ·rintro σ H3 ⟨wA,mA,lA,Es,ls,x5,x6,x7,x8,x9,x10,x11,x12,rfl,mh,mm⟩
   have few:=mm.few
   have p8:2 ^ h.2.length<=2 ^ 8:=ahG (by decide) h8
   intro gA nG
   have mh4:=mh.same (ar (o:=.dT []) nG)
   have g4:(upd H3 gA (.dT [])) gA=some (.dT []):=ag
   have nG0:=mh.sm.free nG
   have gm:gA≠mA:=(af mh.m nG).symm
   show bJ 12 (V.ref gA) _ (upd H3 gA (.dT [])) _
   generalize upd H3 gA (.dT [])=H4 at *
   clear mh nG
   refine⟨fun σ' H'=>∃ ps Hb,(∀ e∈Es,∃ j p,j < Es.length/\ps[j]? = some p/\p.1=kN e.S)/\Same H Hb/\GI h t l wA mA lA gA Es ps Hb Es.length σ' H',?_,?_⟩
   ·rintro σ H5 ⟨ps,Hb,hall,sm,gvs,y5,y6,y7,y8,y9,y10,y11,rfl,B,g5,_,hg⟩
    refine⟨_,rfl,q gA gvs H5 (fun b u e=>B b u (af e nG0) (sm b u e)) nG0 g5 fun S o g pm asc=>?_⟩
    obtain⟨e,he,rfl⟩:=ae3.mp (mm.all hD g pm asc)
    obtain⟨j,p,hj,hp,ep⟩:=hall e he
    exact hg j p hj hp e he ep
   refine⟨_,rfl,mA,_,rfl,mh4.m,fun sl ps nS pm pw tp=>?_⟩
   have s5:=ar (o:=.lst (ps.map fun p=>V.ref p.2)) nS
   have mh5:=mh4.same s5
   have sl5:(upd H4 sl (.lst (ps.map fun p=>V.ref p.2))) sl=some (.lst (ps.map fun p=>V.ref p.2)):=ag
   have g5:=s5 _ _ g4
   have tp5:∀ p∈ps,(upd H4 sl (.lst (ps.map fun p=>V.ref p.2))) p.2=some (.tup (p.1.map kV)):=fun p hp=>s5 _ _ (tp p hp)
   generalize upd H4 sl (.lst (ps.map fun p=>V.ref p.2))=H5 at *
   clear mh4 g4 s5 nS tp
   have pk:∀ p∈ps,∃ e∈Es,p.1=kN e.S:=fun p hp=>by
    have:=pm.mem_iff.mp (ae3.mpr ⟨p,hp,rfl⟩)
    obtain⟨kv,hkv,ek⟩:=ae3.mp this
    obtain⟨e,he,rfl⟩:=ae3.mp hkv
    exact⟨e,he,ek.symm⟩
   have pl:ps.length=Es.length:=by
    have:=pm.length_eq
    unfold iI at this
    simpa using this
   have kp:∀ e∈Es,∃ j p,j < Es.length/\ps[j]? = some p/\p.1=kN e.S:=fun e he=>by
    have:kN e.S∈ps.map (·.1):=pm.mem_iff.mpr (ae3.mpr ⟨(kN e.S,.ref e.l),ae3.mpr ⟨e,he,rfl⟩,rfl⟩)
    obtain⟨p,hp,ep⟩:=ae3.mp this
    obtain⟨j,hj,ej⟩:=aiU hp
    exact⟨j,p,by omega,by rw [aeC hj,ej],ep⟩
   refine⟨sl,rfl,⟨_,SqL.of sl5⟩,?_⟩
   have sg:sl≠gA:=bX sl5 g5 (by intro z;cases z)
   refine eR (xs:=ps.map fun p=>V.ref p.2) (fun k σ' H'=>GI h t l wA mA lA gA Es ps H5 k σ' H') ⟨[],_,_,_,_,_,_,_,rfl,fun b u _ e=>e,g5,ae2 _,fun j p hj=>absurd hj (by omega)⟩ (fun k σ H' _ ⟨_,_,_,_,_,_,_,_,_,B,_,_,_⟩=>SqL.of (B _ _ sg sl5)) ?_ (fun σ H' z=>⟨ps,H5,kp,mh5.sm,by rw [aeD,pl] at z;exact z⟩)
   rintro k x σ H6 hx ⟨gvs,y5,y6,y7,y8,y9,y10,y11,rfl,B,g6,gl,hg⟩
   have hk:k < ps.length:=by
    have:=(aeJ.mp hx).1
    rwa [aeD] at this
   rw [aeP,aeC hk] at hx
   cases hx
   obtain⟨e,he,ek⟩:=pk _ (afa hk)
   have tk5:=tp5 _ (afa hk)
   have nt:∀ b ys,H5 b=some (.tup ys)->b≠gA:=fun b ys z=>bX z g5 (by intro z;cases z)
   have tk6:=B _ _ (nt _ _ tk5) tk5
   rw [ek,sR] at tk6
   have sm6:Same H H6:=fun b u e=>B b u (af e nG0) (mh5.sm b u e)
   refine⟨_,rfl,_,_,rfl,.inr (SqT.of tk6),?_⟩
   refine⟨_,rfl,t,_,1,.ref r,rfl,rfl,SqT.of (sm6 _ _ ht),rfl,r,_,rfl,.inl (SqL.of (sm6 _ _ hrr)),?_⟩
   rw [show (aC e.S).length=e.S.length by unfold aC;rw [aeD],hR.1]
   have fin:∀ (c:Bool) (H7:Hp),Same H6 H7->(c=true↔aaC h e.S)->∃ H8,DPut H7 gA (V.ref ps[k].2) (.bl c) H8/\GI h t l wA mA lA gA Es ps H5 (k+1) [some (.ref t),some (.ref l),some (.ref wA),some (.ref mA),some (.ref lA),some (.ref ps[k].2),y6,y7,y8,y9,y10,y11,some (.ref gA)] H8:=by
    intro c H7 s7 hc
    refine⟨_,DPut.t (k:=kN e.S) (s7 _ _ g6) (by rw [sR];exact s7 _ _ tk6) (aff gl (aD (by omega))),_,_,_,_,_,_,_,_,rfl,fun b u nb z=>by rw [ah nb];exact s7 b u (B b u nb z),ag,?_,fun j p hj hp e' he' ep=>?_⟩
    ·have:=eP gvs (kN e.S) (.bl c)
     omega
    ·by_cases z:kN e'.S=kN e.S
     ·refine⟨c,by rw [iG,if_pos z],?_⟩
      rw [rn z];exact hc
     ·have jk:j≠k:=fun y=>by
       subst y
       rw [aeC hk] at hp
       cases hp
       exact z (ep.symm.trans ek)
      obtain⟨c',v',w'⟩:=hg j p (by omega) hp e' he' ep
      exact⟨c',by rw [iG,if_neg z];exact v',w'⟩
   refine⟨rfl,_,rfl,rP (fun hb=>?_) (fun hb=>?_)⟩
   ·obtain⟨H8,d8,z8⟩:=fin true H6 (Same.refl _) ⟨fun _=>(mm.can hD he).mpr (.inl (by have:=agi hb;injection this with this;exact Int.ofNat.inj this)),fun _=>rfl⟩
    exact⟨_,rfl,_,rfl,gA,H8,rfl,d8,z8⟩
   have nfull:e.S.length≠h.2.length:=fun z=>hb (by rw [z];exact afi rfl)
   dsimp only [tOp,tC]
   refine bE _ _ _ _ _ _ _ _ _ ?_
   obtain⟨e0,e1,e2,e3⟩:=mh5.el e he
   have m6:=B _ _ gm.symm mh5.m
   have dg:DGet H6 mA (.ref ps[k].2) (some (.ref e.l)):=by
    rw [← xt mm.nd he]
    exact DGet.t m6 (by rw [sR];exact tk6)
   have eg:e.l≠gA:=bX e3 g5 (by intro z;cases z)
   have e36:=B _ _ eg e3
   have up:=mm.full he
   refine⟨_,rfl,_,rfl,mA,.ref e.l,rfl,dg,e.l,rfl,⟨_,SqL.of e36⟩,?_⟩
   intro D nD
   refine cZ (xs:=je e.ps) (fun i ys H'=>(∃ bs:List Bool,ys=bs.map V.bl/\bs.length=i/\∀ (j:Nat) (b:Bool) (p:Addr×List Nat),bs[j]? = some b->e.ps[j]? = some p->(b=true↔aaC h p.2))/\H' D=some (.lst ys)/\Same H6 H') ⟨⟨[],rfl,rfl,fun j b p z=>by simp at z⟩,ag,ar nD⟩ (fun i ys H' ⟨_,z,_⟩=>z) (fun i ys H' ⟨_,_,z⟩=>SqL.of (z _ _ e36)) ?_ ?_
   ·rintro i ys H7 x hx ⟨⟨bs,rfl,bl,hbs⟩,hD7,s7⟩
    have hi:=(aeJ.mp hx).1
    have hi':i < e.ps.length:=by unfold je at hi;rwa [aeD] at hi
    unfold je at hx
    rw [aeP,aeC hi'] at hx
    cases hx
    have hp:=afa hi'
    obtain⟨⟨j0,nx0,in0⟩,hE⟩:=up.2.1 _ hp
    obtain⟨e',he',eS'⟩:=ae3.mp hE
    obtain⟨j,p',hj,hpj,ep'⟩:=kp e' he'
    have len1:=yb in0
    have jk:j < k:=by
     apply afP
     intro z
     have hj':j < ps.length:=by omega
     rw [aeC hj'] at hpj
     cases hpj
     have kl:∀ S:List Nat,(kN S).length=S.length:=fun S=>by unfold kN;rw [aeD]
     by_cases y:j=k
     ·subst y
      have:=rn (ek.symm.trans ep')
      rw [this,eS'] at len1
      omega
     ·have:=agc.mp pw k j hk hj' (by omega)
      rw [ek,ep',kl,kl,eS'] at this
      omega
    obtain⟨c,v,w⟩:=hg j p' jk hpj e' he' ep'
    rw [eS'] at v w
    have t5:=mh5.te e he _ hp
    have t7:=s7 _ _ (B _ _ (nt _ _ t5) t5)
    have dgg:DGet H7 gA (.ref e.ps[i].1) (some (.bl c)):=by
     rw [← v]
     exact DGet.t (s7 _ _ g6) (by rw [sR];exact t7)
    refine dI rfl ?_
    refine⟨_,rfl,_,rfl,gA,.bl c,rfl,dgg,hD7,by rw [aeD,bl];exact aD (by have:=up.2.2;omega),nx hi ⟨⟨bs++[c],by rw [aeO];rfl,by rw [aeG,bl];rfl,fun j b p hb' hp'=>?_⟩,ag,fun b u z=>?_⟩⟩
    ·by_cases y:j < i
     ·rw [agy (by omega)] at hb'
      exact hbs j b p hb' hp'
     ·have hj3:j=i:=by
       have:=(aeJ.mp hb').1
       rw [aeG] at this
       simp at this
       omega
      subst hj3
      rw [afv (by omega),bl] at hb'
      simp at hb'
      subst hb'
      rw [aeC hi'] at hp'
      cases hp'
      exact w
    ·rw [ah (af z nD)];exact s7 b u z
   rintro ys H7 ⟨⟨bs,rfl,bl,hbs⟩,hD7,s7⟩
   rw [show (je e.ps).length=e.ps.length by unfold je;rw [aeD]] at bl
   have fl:(bs.map V.bl).all jh=true:=by
    rw [agH]
    intro x hx
    obtain⟨b,_,rfl⟩:=ae3.mp hx
    rfl
   refine⟨D,_,rfl,.inl (SqL.of hD7),rfl,fl,?_⟩
   have iv:inV (V.bl true) (bs.map V.bl)=bs.any id:=by
    unfold inV
    rw [ai6]
    congr 1
    funext b
    cases b<;>rfl
   rw [iv]
   obtain⟨H8,d8,z8⟩:=fin (bs.any id) H7 s7 (by
    rw [mm.can hD he,ait]
    constructor
    ·rintro⟨b,hb',eb⟩
     obtain⟨j,hj,ej⟩:=aiU hb'
     right
     have hj2:j < e.ps.length:=by omega
     exact⟨e.ps[j],afa hj2,(hbs j b _ (by rw [aeC hj,ej]) (aeC hj2)).mp eb⟩
    ·rintro (z | ⟨p,hp,cp⟩)
     ·exact absurd z nfull
     ·obtain⟨j,hj,ej⟩:=aiU hp
      have hj2:j < bs.length:=by omega
      exact⟨bs[j],afa hj2,(hbs j _ p (aeC hj2) (by rw [aeC hj,ej])).mpr cp⟩)
   exact⟨_,rfl,_,rfl,gA,H8,rfl,d8,z8⟩
  refine⟨fun m σ' H'=>WI h t l H m σ' H',⟨256,wA,mA,lA,_,_,_,none,none,none,none,none,none,none,none,rfl,M0,Mm,rfl,rfl⟩,?_⟩
  clear M0 Mm
  rintro m σ H3 ⟨wA,mA,lA,Es,ws,ls,x5,x6,x7,x8,x9,x10,x11,x12,rfl,mh,mm,hlen,hm⟩
  have few:=mm.few
  have p8:2 ^ h.2.length<=2 ^ 8:=ahG (by decide) h8
  refine⟨_,rfl,ae2 _,fun lq nq=>?_⟩
  have mh4:=mh.same (ar (o:=.lst []) nq)
  have eq4:(upd H3 lq (.lst [])) lq=some (.lst []):=ag
  generalize upd H3 lq (.lst [])=H4 at *
  refine iF mh4.w (yw mh4.tw) (aaV ws) eq4 hu ⟨_,rfl,?_⟩
  clear mh eq4 nq
  rcases aj9 ws with rfl | ⟨wr,⟨tS,S⟩,rfl⟩
  ·exact gu ⟨wA,mA,lA,Es,ls,_,_,_,_,_,_,_,_,rfl,mh4,mm⟩
  rw [aka] at *
  have ne:(!(je (wr++[(tS,S)])).isEmpty)=true:=by simp [je]
  have hls:ls.length < 256:=by
   rw [aeG] at hlen
   simp at hlen
   omega
  rw [ne]
  refine gU ⟨fun σ' H'=>WI h t l H (m - 1) σ' H',fun σ' H' z=>⟨m - 1,?_,z⟩,?_⟩
  ·rw [aeG] at hlen
   simp at hlen
   omega
  have rS:RchS h S:=by
   obtain⟨e,he,ee⟩:=ae3.mp (mm.we S (by simp))
   rw [← ee];exact mm.rc e he
  have hS:S∈Es.map (·.S):=mm.we S (by simp)
  rw [aeO] at mm
  have nSw:S ∉ wr.map (·.2):=fun z=>(afX.mp mm.wn).2.2 S z S (by simp) rfl
  have mm5:=MetM.pop mm
  have tS4:=mh4.tw (tS,S) (by simp)
  refine⟨_,rfl,.inl ⟨rfl,_,SqL.of mh4.w⟩,wA,_,.ref tS,rfl,rfl,mh4.w,by simp [je],?_⟩
  have ed:(je (wr++[(tS,S)])).dropLast=je wr:=by simp [je]
  rw [ed]
  have mh5:=mh4.pop
  have tS5:(upd H4 wA (.lst (je wr))) tS=some (.tup (aC S)):=by rw [ah (bX tS4 mh4.w (by intro z;cases z))];exact tS4
  show bJ 5 (V.ref tS) _ (upd H4 wA (.lst (je wr))) _
  generalize upd H4 wA (.lst (je wr))=H5 at *
  clear mh4 tS4 mm
  have lsl:ls.length<=256:=by omega
  refine⟨_,rfl,.inl ⟨rfl,_,SqL.of mh5.l⟩,_,rfl,lA,_,_,rfl,rfl,mh5.l,aD (by omega),?_⟩
  have mh6:=mh5.line (.ref tS)
  have tS6:(upd H5 lA (.lst (ls++[.ref tS]))) tS=some (.tup (aC S)):=by rw [ah (bX tS5 mh5.l (by intro z;cases z))];exact tS5
  generalize upd H5 lA (.lst (ls++[.ref tS]))=H6 at *
  clear mh5 tS5
  refine⟨_,rfl,t,_,0,.ref a,rfl,rfl,SqT.of (mh6.sm _ _ ht),rfl,a,_,rfl,.inl (SqL.of (mh6.sm _ _ ha)),fun hA nH=>?_⟩
  have mh7:=mh6.same (ar (o:=.lst (h.1.map V.str)) nH)
  have tS7:=ar (o:=.lst (h.1.map V.str)) nH _ _ tS6
  have hA7:(upd H6 hA (.lst (h.1.map V.str))) hA=some (.lst (h.1.map V.str)):=ag
  have hA0:=mh6.sm.free nH
  have hAw:hA≠wA:=(af mh6.w nH).symm
  have hAl:hA≠lA:=(af mh6.l nH).symm
  have hAe:∀ e∈Es,hA≠e.l:=fun e he=>(af (mh6.el e he).2.2.2 nH).symm
  show bJ 6 (V.ref hA) _ (upd H6 hA (.lst (h.1.map V.str))) _
  generalize upd H6 hA (.lst (h.1.map V.str))=H7 at *
  clear mh6 tS6 nH
  have tSh:tS≠hA:=bX tS7 hA7 (by intro z;cases z)
  have Sl:=rS.len
  have kl:=hD.ok.kl
  refine⟨fun σ' H'=>HI t l wA mA lA tS hA x9 x10 x11 x12 H7 (m9 h S) σ' H',?_,?_⟩
  rotate_left
  ·refine⟨_,rfl,tS,rfl,⟨_,SqT.of tS7⟩,?_⟩
   refine yL (xs:=aC S) (fun j σ' H'=>HI t l wA mA lA tS hA x9 x10 x11 x12 H7 (h.1++(S.take j).flatMap fun i=>(bW h.2 i).2) σ' H') ⟨x7,x8,rfl,fun b u _ e=>e,by simpa using hA7⟩ (fun j σ H' _ ⟨_,_,_,B,_⟩=>SqT.of (B _ _ tSh tS7)) ?_ (fun σ H' z=>by rw [show (aC S).length=S.length by unfold aC;rw [aeD],afm] at z;exact z)
   rintro j x σ H8 hx ⟨x7',x8',rfl,B,hh⟩
   have hj:j < S.length:=by
    have:=(aeJ.mp hx).1
    unfold aC at this
    rwa [aeD] at this
   unfold aC at hx
   rw [aeP,aeC hj] at hx
   cases hx
   have hlt:=rS.lt _ (afa hj)
   have hn':S[j] < us.length:=by rw [hR.1];exact hlt
   have er:=eW hlt
   have eu:us[S[j]]? = some us[S[j]]:=aeC hn'
   obtain⟨tt,dd,bb,et,g1,g2,g3⟩:=hR.2 _ _ _ eu er
   have sm8:Same H H8:=fun b u e=>B b u (af e hA0) (mh7.sm b u e)
   refine⟨_,rfl,.inl ⟨rfl,_,SqL.of hh⟩,_,rfl,t,_,1,.ref r,rfl,rfl,SqT.of (sm8 _ _ ht),rfl,_,rfl,r,us,((S[j]:Nat):Int),us[S[j]],rfl,rfl,SqL.of (sm8 _ _ hrr),cf eu,tt,_,1,.ref bb,et,rfl,SqT.of (sm8 _ _ g1),rfl,hA,bb,_,_,rfl,rfl,hh,sm8 _ _ g3,?_,?_⟩
   ·rw [aeD,aeD,aeG]
    have h1:((S.take j).flatMap fun i=>(bW h.2 i).2).length<=1000 * (S.take j).length:=lJ fun i hi=>(hD.ok.rs _ (cB (rS.lt i (afA hi)))).kl
    have h2:=(hD.ok.rs _ (cB hlt)).kl
    rw [ae9] at h1
    exact afb (aff (by omega:_<=20000) (by decide))
   ·refine⟨_,_,rfl,fun b u nb e=>by rw [ah nb];exact B b u nb e,?_⟩
    rw [ag,wH h S hj]
    simp only [aeO,aeW]
  rintro σ H8 ⟨x7',x8',rfl,B8,hh8⟩
  have mh8:=mh7.but hA7 hA0 hAw hAl hAe B8
  have tS8:=B8 _ _ tSh tS7
  clear mh7 tS7 hA7 B8
  refine⟨fun σ' H'=>HI t l wA mA lA tS hA x9 x10 x11 x12 H8 (jH h S) σ' H',?_,?_⟩
  rotate_left
  ·refine⟨_,rfl,tS,rfl,⟨_,SqT.of tS8⟩,?_⟩
   refine yL (xs:=aC S) (fun j σ' H'=>HI t l wA mA lA tS hA x9 x10 x11 x12 H8 (((cW h S).take j).foldl List.erase (m9 h S)) σ' H') ⟨x7',x8',rfl,fun b u _ e=>e,hh8⟩ (fun j σ H' _ ⟨_,_,_,B,_⟩=>SqT.of (B _ _ tSh tS8)) ?_ (fun σ H' z=>by rw [show (aC S).length=(cW h S).length by unfold aC cW;rw [aeD,aeD],afm] at z;exact z)
   rintro j x σ H9 hx ⟨x7',x8',rfl,B,hh⟩
   have hj:j < S.length:=by
    have:=(aeJ.mp hx).1
    unfold aC at this
    rwa [aeD] at this
   unfold aC at hx
   rw [aeP,aeC hj] at hx
   cases hx
   have hlt:=rS.lt _ (afa hj)
   have hn':S[j] < us.length:=by rw [hR.1];exact hlt
   have er:=eW hlt
   have eu:us[S[j]]? = some us[S[j]]:=aeC hn'
   obtain⟨tt,dd,bb,et,g1,g2,g3⟩:=hR.2 _ _ _ eu er
   have sm9:Same H H9:=fun b u e=>B b u (af e hA0) (mh8.sm b u e)
   have elk:=dW hD _ (cB hlt)
   rw [elk] at g2
   have hin:=xS hD rS hj
   refine⟨fun σ' H'=>HI t l wA mA lA tS hA x9 x10 x11 x12 H8 (((cW h S).take (j+1)).foldl List.erase (m9 h S)) σ' H',fun σ' H' z=>z,?_⟩
   refine⟨_,rfl,t,_,1,.ref r,rfl,rfl,SqT.of (sm9 _ _ ht),rfl,_,rfl,r,us,((S[j]:Nat):Int),us[S[j]],rfl,rfl,SqL.of (sm9 _ _ hrr),cf eu,tt,_,0,.ref dd,et,rfl,SqT.of (sm9 _ _ g1),rfl,dd,rfl,⟨_,SqL.of (sm9 _ _ g2)⟩,?_⟩
   have dh:dd≠hA:=af g2 hA0
   refine eR (xs:=[aA (bW h.2 S[j])].map V.str) (fun k σ' H'=>HI t l wA mA lA tS hA x9 x10 x11 x12 H8 (if k=0 then ((cW h S).take j).foldl List.erase (m9 h S) else ((cW h S).take (j+1)).foldl List.erase (m9 h S)) σ' H') ⟨_,x8',rfl,B,hh⟩ (fun k σ H' _ ⟨_,_,_,B',_⟩=>SqL.of (B' _ _ dh (mh8.sm _ _ g2))) ?_ (fun σ H' z=>by simpa using z)
   rintro k x σ H10 hx ⟨x7',x8',rfl,B',hh10⟩
   have hk:k=0:=by
    have:=(aeJ.mp hx).1
    simp at this
    exact this
   subst hk
   cases hx
   rw [if_pos rfl] at hh10
   refine⟨_,rfl,.inl ⟨rfl,_,SqL.of hh10⟩,_,rfl,hA,_,_,rfl,rfl,hh10,hin,?_⟩
   exact⟨_,_,rfl,fun b u nb e=>by rw [ah nb];exact B' b u nb e,by rw [ag,if_neg (by omega),vI h S _ hj]⟩
  rintro σ H9 ⟨x7',x8',rfl,B9,hh9⟩
  have mh9:=mh8.but hh8 hA0 hAw hAl hAe B9
  have tS9:=B9 _ _ tSh tS8
  clear mh8 tS8 hh8 B9
  have hk1:(ls++[V.ref tS]).length=ls.length+1:=by rw [aeG];rfl
  refine⟨fun σ' H'=>RI h t l wA mA lA tS hA S H (ls.length+1) h.2.length σ' H',?_,?_⟩
  ·rintro σ H10 ⟨E2,ws2,ls2,y7,y8,y9,y10,y11,y12,rfl,mh,mm,_,_,hl2,hk2,_,_,_,_⟩
   exact⟨wA,mA,lA,E2,ws2,ls2,_,_,_,_,_,_,_,_,rfl,mh,mm.done,hl2,by omega⟩
  have rl:=hD.rl
  refine⟨_,rfl,t,_,1,.ref r,rfl,rfl,SqT.of (mh9.sm _ _ ht),rfl,r,_,rfl,.inl (SqL.of (mh9.sm _ _ hrr)),_,rfl,by rw [hR.1];omega,by rw [hR.1];omega,?_⟩
  rw [afh,hR.1]
  refine gC (fun i σ' H'=>RI h t l wA mA lA tS hA S H (ls.length+1) i σ' H') ⟨Es,wr,_,_,_,_,_,_,_,rfl,mh9,mm5,nSw,hS,by rw [aeG] at hlen;simp at hlen;rw [hk1];omega,hk1,tS9,hh9,hAw,hAe⟩ ?_ (fun σ H' z=>z)
  clear mh9 mm5 hh9 tS9 hAe nSw hS hlen few
  rintro i σ H9 hi ⟨Es,wr,ls2,y7,y8,y9,y10,y11,y12,rfl,mh,mm,nSw,hS,hlen,hk2,tS9,hh9,_,hAe⟩
  rw [alq]
  have few:=mm.few
  have hn':i < us.length:=by rw [hR.1];exact hi
  have er:=eW hi
  have eu:us[i]? = some us[i]:=aeC hn'
  obtain⟨tt,dd,bb,et,g1,g2,g3⟩:=hR.2 _ _ _ eu er
  have elk:=dW hD _ (cB hi)
  rw [elk] at g2
  have kok:bp (aA (bW h.2 i)):=(hD.ok.rs _ (cB hi)).lk _ (by rw [elk];simp)
  refine⟨_,rfl,t,_,1,.ref r,rfl,rfl,SqT.of (mh.sm _ _ ht),rfl,_,rfl,r,us,((i:Nat):Int),us[i],rfl,rfl,SqL.of (mh.sm _ _ hrr),cf eu,tt,_,0,.ref dd,et,rfl,SqT.of (mh.sm _ _ g1),rfl,?_⟩
  dsimp only [bJ,aaJ,wB]
  refine bE _ _ _ _ _ _ _ _ _ ?_
  have d9:=mh.sm _ _ g2
  refine⟨_,rfl,dd,rfl,⟨_,SqL.of d9⟩,?_⟩
  intro D nD
  refine r9 (pb:=fun v=>match v with | .str z=>decide ((jH h S).count z < [aA (bW h.2 i)].count z) | _=>false) d9 nD (by rw [aeD];show 1<=1000000;decide) (fun x=>rfl) (fun G x R hx sG qq=>?_) (fun G x R qq=>⟨_,rfl,qq⟩) (fun H10 s10 hD10=>?_)
  ·obtain⟨z,hz,rfl⟩:=ae3.mp hx
   refine⟨_,rfl,.inl ⟨rfl,_,SqL.of (sG _ _ d9)⟩,_,rfl,dd,_,z,rfl,rfl,sG _ _ d9,?_⟩
   refine⟨_,rfl,.inl ⟨rfl,_,SqL.of (sG _ _ hh9)⟩,_,rfl,hA,_,z,rfl,rfl,sG _ _ hh9,?_⟩
   refine⟨_,_,rfl,rfl,_,rfl,?_⟩
   rw [show decide ((((jH h S).count z:Nat):Int) < (([aA (bW h.2 i)].count z:Nat):Int))=decide ((jH h S).count z < [aA (bW h.2 i)].count z) from ajL.mpr Int.ofNat_lt]
   exact qq
  have efs:([aA (bW h.2 i)].map V.str).filter (fun v=>match v with | .str z=>decide ((jH h S).count z < [aA (bW h.2 i)].count z) | _=>false)=([aA (bW h.2 i)].filter fun z=>decide ((jH h S).count z < [aA (bW h.2 i)].count z)).map V.str:=List.filter_map ..
  rw [efs] at hD10
  have mh10:=mh.same s10
  have tS10:=s10 _ _ tS9
  have hh10:=s10 _ _ hh9
  clear d9 mh tS9 hh9 s10 efs nD
  refine⟨fun σ' H'=>RI h t l wA mA lA tS hA S H (ls.length+1) (i+1) σ' H',fun σ' H' z=>z,?_⟩
  refine⟨_,rfl,_,rfl,tS,_,rfl,.inr (SqT.of tS10),rfl,qG _,_,rfl,?_⟩
  rw [rY]
  by_cases ni:i∈S
  ·rw [afi ni]
   refine gu (gu ?_)
   exact⟨Es,wr,ls2,_,_,_,_,_,_,rfl,mh10,mm.skip (fun z=>z.2.1 ni),nSw,hS,hlen,hk2,tS10,hh10,hAw,hAe⟩
  rw [afq ni]
  refine gU ?_
  refine⟨_,rfl,ae2 _,fun lq nq=>?_⟩
  have mh11:=mh10.same (ar (o:=.lst []) nq)
  have tS11:=ar (o:=.lst []) nq _ _ tS10
  have hh11:=ar (o:=.lst []) nq _ _ hh10
  have hD11:=ar (o:=.lst []) nq _ _ hD10
  have eq11:(upd H10 lq (.lst [])) lq=some (.lst []):=ag
  generalize upd H10 lq (.lst [])=H11 at *
  clear mh10 tS10 hh10 hD10 nq
  refine uU hD11 (SeesAll.strs _) (ft fun k hk=>by rw [aeF.mp (ahq.mp hk).1];exact kok) eq11 hu ⟨_,rfl,?_⟩
  rw [sj]
  cases hmay:kR (jH h S) [aA (bW h.2 i)] with
  | false =>
   refine gu ?_
   exact⟨Es,wr,ls2,_,_,_,_,_,_,rfl,mh11,mm.skip (fun z=>by have:=z.2.2;rw [elk,hmay] at this;cases this),nSw,hS,hlen,hk2,tS11,hh11,hAw,hAe⟩
  | true =>
  have nx:Nxt h S i:=⟨hi,ni,by rw [elk];exact hmay⟩
  refine gU ?_
  refine⟨_,rfl,_,rfl,by show 1<=sizeLine;decide,fun t1 nt1=>?_⟩
  have mh12:=mh11.same (ar (o:=.tup [.int (i:Int)]) nt1)
  have tS12:=ar (o:=.tup [.int (i:Int)]) nt1 _ _ tS11
  have hh12:=ar (o:=.tup [.int (i:Int)]) nt1 _ _ hh11
  have t12:(upd H11 t1 (.tup [.int (i:Int)])) t1=some (.tup [.int (i:Int)]):=ag
  generalize upd H11 t1 (.tup [.int (i:Int)])=H12 at *
  clear mh11 tS11 hh11 hD11 nt1 eq11
  have SL:=rS.len
  refine aby tS12 t12 (by simp) (by unfold aC;rw [aeD];exact afb (aD (by simp;omega))) fun c G sG ec=>?_
  have mh13:=mh12.same sG
  have tS13:=sG _ _ tS12
  have hh13:=sG _ _ hh12
  clear mh12 tS12 hh12 t12 sG
  have ec':G c=some (.tup (((S++[i]).map fun (j:Nat)=>(j:Int)).map V.int)):=by
   rw [ec,afZ,aeO]
   rfl
  refine⟨c,_,rfl,ec',by rw [aeD,aeG];simp;omega,fun l1 ns' n1 pm so=>?_⟩
  obtain⟨T,rfl,ins⟩:=ace rS.1 ni pm so
  have eT:(T.map fun (j:Nat)=>(j:Int)).map V.int=aC T:=by rw [afZ];rfl
  rw [eT]
  have mh14:=mh13.same (ar (o:=.lst (aC T)) n1)
  have tS14:=ar (o:=.lst (aC T)) n1 _ _ tS13
  have hh14:=ar (o:=.lst (aC T)) n1 _ _ hh13
  have l14:(upd G l1 (.lst (aC T))) l1=some (.lst (aC T)):=ag
  generalize upd G l1 (.lst (aC T))=H14 at *
  clear mh13 tS13 hh13 n1 ec ec'
  refine⟨l1,_,rfl,.inl ⟨SqL.of l14,fun tT nT=>?_⟩⟩
  have mh15:=mh14.same (ar (o:=.tup (aC T)) nT)
  have tS15:=ar (o:=.tup (aC T)) nT _ _ tS14
  have hh15:=ar (o:=.tup (aC T)) nT _ _ hh14
  have t15:(upd H14 tT (.tup (aC T))) tT=some (.tup (aC T)):=ag
  show bJ 11 (V.ref tT) _ (upd H14 tT (.tup (aC T))) _
  generalize upd H14 tT (.tup (aC T))=H15 at *
  clear mh14 tS14 hh14 l14 nT pm so
  obtain⟨e,he,eS⟩:=ae3.mp hS
  obtain⟨e0,e1,e2,e3⟩:=mh15.el e he
  have up:Upto h (Es.map (·.S)) i e:=by
   rcases mm.pr e he with ⟨z,_⟩ | ⟨_,u⟩
   ·exact absurd (eS▸z) nSw
   ·rw [if_pos eS] at u;exact u
  have dg:DGet H15 mA (.ref tS) (some (.ref e.l)):=by
   rw [← xt mm.nd he,eS]
   exact DGet.t mh15.m (by rw [sR];exact tS15)
  refine⟨_,rfl,_,rfl,mA,.ref e.l,rfl,dg,.inl ⟨rfl,_,SqL.of e3⟩,_,rfl,e.l,_,_,rfl,rfl,e3,by unfold je;rw [aeD];exact aD (by have:=up.2.2;omega),?_⟩
  have mh16:=mh15.app mm.nd he t15
  rw [eS] at mh16
  have tS16:(upd H15 e.l (.lst (je e.ps++[.ref tT]))) tS=some (.tup (aC S)):=by rw [ah (bX tS15 e3 (by intro z;cases z))];exact tS15
  have t16:(upd H15 e.l (.lst (je e.ps++[.ref tT]))) tT=some (.tup (aC T)):=by rw [ah (bX t15 e3 (by intro z;cases z))];exact t15
  have hh16:(upd H15 e.l (.lst (je e.ps++[.ref tT]))) hA=some (.lst ((jH h S).map V.str)):=by rw [ah (hAe e he)];exact hh15
  generalize upd H15 e.l (.lst (je e.ps++[.ref tT]))=H16 at *
  clear mh15 tS15 t15 hh15 dg e0 e1 e2 e3 up
  have hAe':∀ f∈qa Es S (tT,T),hA≠f.l:=fun f hf=>by
   obtain⟨g,hg,_,q2,_⟩:=gn hf
   rw [q2];exact hAe g hg
  have alen:(qa Es S (tT,T)).length=Es.length:=by unfold qa;rw [aeD]
  refine⟨fun σ' H'=>RI h t l wA mA lA tS hA S H (ls.length+1) (i+1) σ' H',fun σ' H' z=>z,?_⟩
  refine⟨_,rfl,_,rfl,mA,_,rfl,DGet.t (k:=kN T) mh16.m (by rw [sR];exact t16),_,rfl,?_⟩
  by_cases hT:T∈Es.map (·.S)
  ·obtain⟨g,hg,gS⟩:=ae3.mp hT
   have ev:(fq (iI (qa Es S (tT,T))) (kN T)).isSome=true:=by rw [pC,← gS,xt mm.nd hg];rfl
   rw [ev]
   refine gu ?_
   exact⟨_,wr,ls2,_,_,_,_,_,_,rfl,mh16,mm.old nSw nx ins hT tT,nSw,by rw [lK];exact hS,by rw [alen];exact hlen,hk2,tS16,hh16,hAw,hAe'⟩
  ·have ev:fq (iI (qa Es S (tT,T))) (kN T)=none:=by rw [pC];exact acV hT
   rw [ev]
   refine gU ?_
   refine⟨ae2 _,fun lN nN=>?_⟩
   have s17:=ar (o:=.lst []) nN
   refine⟨_,rfl,_,rfl,mA,_,rfl,DPut.t (k:=kN T) (s17 _ _ mh16.m) (by rw [sR];exact s17 _ _ t16) (by unfold iI;rw [aeD,alen];exact aD (by omega)),?_⟩
   rw [pj _ ev]
   have wm:wA≠mA:=bX mh16.w mh16.m (by intro z;cases z)
   have w18:(upd (upd H16 lN (.lst [])) mA (.dT (iI (qa Es S (tT,T))++[(kN T,.ref lN)]))) wA=some (.lst (je wr)):=by rw [ah wm];exact s17 _ _ mh16.w
   refine⟨_,rfl,.inl ⟨rfl,_,SqL.of w18⟩,_,rfl,wA,_,_,rfl,rfl,w18,by unfold je;rw [aeD];exact aD (by omega),?_⟩
   have mh19:=mh16.put t16 nN
   have hN:hA≠lN:=af hh16 nN
   refine⟨_,_,ls2,_,_,_,_,_,_,rfl,mh19,?_,?_,?_,?_,hk2,?_,?_,hAw,fun f hf=>?_⟩
   ·rw [aeO]
    exact MetM.new hD mm nSw nx ins rS hT tT lN
   ·rw [aeO,aeI,not_or]
    refine⟨nSw,fun z=>?_⟩
    have:S=T:=by simpa using z
    exact hT (this▸hS)
   ·rw [aeO,lK]
    exact aeI.mpr (.inl hS)
   ·rw [aeG,aeG,alen]
    simp
    omega
   ·rw [ah (bX tS16 mh16.w (by intro z;cases z)),ah (bX tS16 mh16.m (by intro z;cases z))]
    exact s17 _ _ tS16
   ·rw [ah hAw,ah (bX hh16 mh16.m (by intro z;cases z))]
    exact s17 _ _ hh16
   ·rcases aeI.mp hf with hf | hf
    ·exact hAe' f hf
    ·rw [aeF.mp hf];exact hN
end
end K7
namespace L2
open PySem PySem.Spec PyProof.Rows
theorem uO:∀ bs:List Bool,(List.range bs.length).any (fun i=>bs.getD i false)=bs.any id
 | []=>rfl
 | b::r=>by
  rw [afd,ajS,agY,ai6,agY,← uO r]
  rfl
section
variable {X:Cx}
theorem ue (hc:X.calm=true):fu X (.builtin "any") (fun xs H Q=>∃ (p:Addr) (bs:List Bool),xs=[.ref p]/\SqL X.K H p (bs.map V.bl)/\Q (.bl (bs.any id)) H):=by
 intro pins s σ H xs us Q I r h
 obtain⟨p,bs,rfl,hq,q⟩:=h
 obtain⟨u,rfl,rx⟩:=gY r
 cases rx
 obtain⟨its,rv,pl,hz⟩:=I.list hq
 have hh:X.A.in1.handled=none:=I.ok.hd hc
 have hlt:p < s.heap.objs.size:=by obtain⟨o,e,_⟩:=pl.isList;exact aeR e
 have hlen:=rv.length
 rw [aeD] at hlen
 refine call_any_walk (ah7 pl.isList ?_)
 refine⟨s.heap.objs.size,_,_,_,_,_,fun i=>bs.getD i false,rfl,Walks.list hh s.heap.objs.size p (ae4 hlt) its.toArray,⟨⟨_,aeY _ rfl,rfl,rfl⟩,pl.isList.push _⟩,fun i v s' Q' E' hv hq'=>?_,fun h' tk hk=>?_⟩
 ·have hv':its[i]? = some v:=by simpa using hv
  have hi:i < its.length:=(aeJ.mp hv').1
  have hb:bs[i]? = some (bs.getD i false):=by
   rw [agt]
   rw [aeC (by omega)]
   rfl
  obtain⟨u,hu,ru⟩:=rv.get (i:=i) (x:=.bl (bs.getD i false)) (by rw [aeP,hb];rfl)
  rw [hv'] at hu
  cases hu
  cases ru
  exact afL hq'
 ·have e:(List.range its.toArray.size).any (fun i=>bs.getD i false)=bs.any id:=by
   rw [aeU,← hlen,uO]
  rw [e]
  refine⟨.bl _,H,?_,rfl,q⟩
  refine (I.kept (t':=s.toks) (h':=s.heap.push { cls:=.type "list_iterator",data:=.fields #[.ref p,.int 0 0] }) fun b o e=>aeH _ e).turned (it:=s.heap.objs.size) (t':=tk) (h':=h') (fun b o hb e=>hk b o (by simpa using hb) e) I.fresh (agV I.lt) (.inr I.sz) (fun x c e z=>?_) fun p' hp z=>?_
  ·obtain⟨v,q⟩:=I.cell x c e
   exact absurd (z▸q.lt) (agx _)
  ·exact absurd (z▸aeR (I.pin p' hp).1) (agx _)
end
end L2
namespace K7
open PySem L2 PyProof.Rows
def adj (h:Hs)(k:Str)(a b:Int):Prop:=a < b/\(((bg h).count k:Nat):Int)=a/\(((aK h).count k:Nat):Int)=b
def pS:Sp:=fun vs H Q _=>∃ n:Int,vs=[.int n]/\Q (.bl true) H
def xg:Sp:=fun vs H Q _=>∃ (v:V) (h:Hs) (k:Str) (a b:Int),vs=[v,.str k,.int a,.int b]/\HouseAt H v h/\HouseD h/\bp k/\∀ (c:Bool) (H':Hp),Same H H'->(c=true↔adj h k a b)->Q (.bl c) H'
section
variable {P:Program}{w:World}{K:PySem.W.Frag}{mg:Str->Option Value}{base:Heap}
theorem tY:aO ["house","kind","keys","locks"] ["house","kind","keys","locks"] (aq eN):=⟨rfl,rfl,rfl,by decide +kernel,rfl,by decide +kernel,by decide +kernel⟩
theorem xY {f:Addr}{fd:FuncData}(F:Fun K "is_whole" "is_whole" dO f fd)(aQ:mg "isinstance" = none)(kK:mg "int" = none)(oG:mg "bool" = none):aV P w K mg base CX0 1 f fd ["thing"] pS:=by
 refine F.ok mD (fun vs H Q E h=>?_) (fun cdv A outer s H vs Q E hr h=>?_)
 ·obtain⟨n,rfl,_⟩:=h
  rfl
 ·obtain⟨n,rfl,k⟩:=h
  refine⟨_,(au (aN (gR (aw bU rfl aQ (by decide +kernel) (ae (pv 0) (ae (fV (v:=.ty "int") (u:=.type "int") rfl kK (by decide +kernel) rfl) ai))) (jE (aay (aw bU rfl aQ (by decide +kernel) (ae (pv 0) (ae (fV (v:=.ty "bool") (u:=.type "bool") rfl oG (by decide +kernel) rfl) ai)))))))),?_⟩
  exact⟨_,rfl,_,_,_,true,rfl,.int n,eU K _,true,rfl,gU ⟨_,rfl,_,_,_,false,rfl,.int n,km K,false,rfl,k⟩⟩
theorem abm {f fI fW fC:Addr}{fd fdI fdW fdC:FuncData}(F:Fun K "few_bars" "few_bars" eN f fd)(yF:aV P w K mg base CX0 1 fI fdI ["thing"] yZ)(gz:Cal K mg "is_kind" ["thing"] fI fdI)(iz:aV P w K mg base CX0 1 fW fdW ["thing"] pS)(bQ:Cal K mg "is_whole" ["thing"] fW fdW)
 (de:aV P w K mg base CX0 7 fC fdC ["house"] iq)(aJ:Cal K mg "kinds_counted" ["house"] fC fdC):aV P w K mg base CX0 8 f fd ["house","kind","keys","locks"] xg:=by
 refine F.ok tY (fun vs H Q E h=>?_) (fun cdv A outer s H vs Q E hr h=>?_)
 ·obtain⟨v,h,k,a,b,rfl,_⟩:=h
  rfl
 ·obtain⟨v,h,k,a,b,rfl,hh,hD,kk,q⟩:=h
  have hu:=m7 hr
  refine⟨_,(ak (cU (PW.pt (qF (eF (d6 (ax yF (hr.mono (show 1<=7 by decide)) rfl gz.mg gz.kp gz.b .nil aP (ae (pv 1) ai)))) (qF (eF (d6 (ax iz (hr.mono (show 1<=7 by decide)) rfl bQ.mg bQ.kp bQ.b .nil aP (ae (pv 2) ai)))) (oh (eF (d6 (ax iz (hr.mono (show 1<=7 by decide)) rfl bQ.mg bQ.kp bQ.b .nil aP (ae (pv 3) ai))))))))
   (au (aN iJ)) aU)
   (au (aN (gR (cV za (pv 3) (pv 2) (bj _)) (jE (cV uL (zF hu (ax de hr rfl aJ.mg aJ.kp aJ.b .nil aP (ae (pv 0) ai)) (pv 1) ⟨rfl,rfl,rfl,rfl⟩) (fX (ae (pv 2) (ae (pv 3) ai))) (bj _))))))),?_⟩
  refine⟨_,rfl,k,rfl,kk,fun H1 s1=>⟨true,rfl,gu ?_⟩⟩
  refine⟨_,rfl,a,rfl,true,rfl,gu ⟨_,rfl,b,rfl,true,rfl,gu ?_⟩⟩
  refine⟨_,rfl,_,rfl,_,_,rfl,rfl,_,rfl,rP (fun hb=>?_) (fun hb=>?_)⟩
  ·have hb':a < b:=agi hb
   refine⟨_,rfl,v,h,rfl,hh.same s1,hD.ok,hD.few',fun d kvs H2 nd s2 hd cm=>?_⟩
   refine⟨d,rfl,.inl ⟨_,.inl hd⟩,_,rfl,_,.k (k:=Sum.inr k) hd,?_⟩
   refine⟨_,rfl,_,rfl,by show 2<=sizeLine;decide,fun t nt=>?_⟩
   have s3:Same H2 (upd H2 t (.tup [.int a,.int b])):=ar nt
   have e3:(upd H2 t (.tup [.int a,.int b])) t=some (.tup [.int a,.int b]):=ag
   generalize upd H2 t (.tup [.int a,.int b])=H3 at *
   have s13:=s1.trans (s2.trans s3)
   rcases xW cm k with ⟨t',ev,ht'⟩ | ⟨ev,c1,c2⟩
   ·rw [ev]
    refine⟨.tuple [.int _,.int _],.tuple [.int a,.int b],.tup (s3 _ _ ht') (.cons (.int _) (.cons (.int _) .nil)),.tup e3 (.cons (.int _) (.cons (.int _) .nil)),rfl,rfl,aff (agN (ahe _ _) _) hu,?_⟩
    rw [if_neg (by decide),abe]
    exact q _ _ s13 (by unfold adj;rw [ah2];exact⟨fun z=>⟨hb',z⟩,fun z=>z.2⟩)
   ·rw [ev]
    refine⟨.none,.tuple [.int a,.int b],.non,.tup e3 (.cons (.int _) (.cons (.int _) .nil)),rfl,rfl,aff (agN (ahe _ _) _) hu,?_⟩
    exact q _ _ s13 ⟨(fun z=>nomatch z),fun z=>by unfold adj at z;rw [c1,c2] at z;omega⟩
  ·exact q _ _ s1 ⟨fun z=>absurd z (by simpa using hb),fun z=>absurd z.1 (by simpa using hb)⟩
end
end K7
namespace L2
open PySem PySem.Spec PyProof.Rows
end L2
namespace K7
open PySem L2 PyProof.Rows
theorem kg:∀ a b:List Str,PyData.eqvAll (a.map PyData.str) (b.map PyData.str)=true↔a=b
 | [],[]=>by simp [PyData.eqvAll]
 | [],y::b=>by simp [PyData.eqvAll]
 | x::a,[]=>by simp [PyData.eqvAll]
 | x::a,y::b=>by
  simp only [aeZ,PyData.eqvAll,PyData.eqv,af3,kg a b,List.cons.injEq,afe]
theorem t8 {K:PySem.W.Frag}{nl:Nat}{ix:List Nat}{tf:TT}{te:TE}{σ:L2.St}{H1:Hp}{D r:Addr}{Q:VK}{vs:List V}{rs:List Rm}{pb:Rm->Bool}{F:Rm->V}(hr:H1 r=some (.lst vs))(hR:RoomsAt H1 vs rs)(nD:H1 D=none)(hl:rs.length<=1000)
 (hc:∀ x y,(((dz nl ix σ).set 0 (some x)).set 1 (some y)).drop nl=ix.map fun j=>(σ[j]?).join)
 (ht:∀ (H:Hp) (rm:Rm) (aa bb:Addr) (R:Bool->Hp->Prop),rm∈rs->H aa=some (.lst (rm.1.map V.str))->H bb=some (.lst (rm.2.map V.str))->Same H1 H->R (pb rm) H->tf (((dz nl ix σ).set 0 (some (.ref aa))).set 1 (some (.ref bb))) H R)
 (he:∀ (H:Hp) (rm:Rm) (aa bb:Addr) (R:VK),rm∈rs->H aa=some (.lst (rm.1.map V.str))->H bb=some (.lst (rm.2.map V.str))->Same H1 H->R (F rm) H->te (((dz nl ix σ).set 0 (some (.ref aa))).set 1 (some (.ref bb))) H R)
 (hd:∀ H,Same H1 H->H D=some (.lst ((rs.filter pb).map F))->Q (.ref D) H):jg nl ix (y4 K 2 (kQ (bJ 0) (kQ (bJ 1) aaW))) tf te σ (Itl K r) H1 D Q:=by
 have lim:1000000 < sizeLine:=by decide
 have hl1:=hR.1
 refine cZ (xs:=vs) (fun i ys H=>ys=((rs.take i).filter pb).map F/\H D=some (.lst ys)/\Same H1 H) ⟨rfl,ag,fun b u e=>by rw [ah (af e nD)];exact e⟩ (fun i ys H ⟨_,h,_⟩=>h) (fun i ys H ⟨_,_,s⟩=>SqL.of (s r _ hr)) ?_ ?_
 ·rintro i ys H x hx ⟨rfl,hD,s⟩
  have hi:i < vs.length:=(aeJ.mp hx).1
  have hi':i < rs.length:=by omega
  have er:rs[i]? = some rs[i]:=aeC hi'
  have mr:rs[i]∈rs:=afa hi'
  have lf:(((rs.take i).filter pb).map F).length<=i:=by
   rw [aeD]
   exact afk (agB _ _) (by rw [ae9];omega)
  obtain⟨tt,aa,bb,rfl,g1,g2,g3⟩:=(hR.2 i x _ hx er).same s
  refine rF tt (.ref aa) (.ref bb) rfl (SqT.of g1) (hc _ _) (ht H rs[i] aa bb _ mr g2 g3 s ?_)
  cases e:pb rs[i] with
  | true =>
   rw [if_pos rfl]
   refine he H rs[i] aa bb _ mr g2 g3 s ⟨hD,by omega,nx hi ⟨?_,ag,fun b u e=>?_⟩⟩
   ·rw [afc,er,afV,aeO]
    simp [e]
   ·rw [ah (af e nD)]
    exact s b u e
  | false =>
   rw [if_neg aeM]
   refine nx hi ⟨?_,hD,s⟩
   rw [afc,er,afV]
   simp [e]
 ·rintro ys H ⟨rfl,hD,s⟩
  rw [hl1,afm] at hD
  exact hd H s hD
def SS (ks:List Str):Prop:=ks.Nodup/\ks.Pairwise leS
theorem acg {ks ts ss:List Str}(h:xE ts ks)(p:ss.Perm ts)(so:sortedS ss=true):ks=ss↔SS ks:=by
 constructor
 ·intro e
  rw [e]
  exact⟨p.nodup_iff.mpr h.1,bH so⟩
 ·rintro⟨nd,pw⟩
  refine iC pw (bH so) ?_
  exact ((ai0 nd h.1).mpr fun x=>(h.2 x).symm).trans p.symm
theorem vc {A:Around}{H:Hp}{x y:Addr}{ks ss:List Str}{Q:VK}(hx:H x=some (.lst (ks.map V.str)))(hy:H y=some (.lst (ss.map V.str)))(kk:∀ k∈ks,bp k)(kk':∀ k∈ss,bp k)(hu:A.units+1 < cLine)(q:∀ c:Bool,(c=true↔ks≠ss)->Q (.bl c) H):acK A true (.ref x) (.ref y) H Q:=by
 have l1:=ft kk
 have l2:=ft kk'
 have d1:(PyData.list (ks.map PyData.str)).depth<=1:=by simp only [PyData.depth,jU];decide
 refine⟨.list (ks.map PyData.str),.list (ss.map PyData.str),.lst hx (SeesAll.strs _),.lst hy (SeesAll.strs _),by simp only [PyData.canLay0,l1],by simp only [PyData.canLay0,l2],aff (agN (afk (Nat.min_le_left _ _) d1) _) hu,q _ ?_⟩
 rw [if_pos rfl,ahy,← Bool.not_eq_true]
 exact not_congr (kg _ _)
def acP (h:Hs)(ks:List Str):Prop:=SS ks/\(∀ x∈h.1,x ∉ ks)/\(∀ r∈h.2,(∀ k∈r.1,k ∉ ks)->∀ x∈r.2,x ∉ ks)/\∃ r∈h.2,∀ k∈r.1,k∈ks
def sQ:Sp:=fun vs H Q _=>∃ (v:V) (h:Hs) (l:Addr) (ks:List Str),vs=[v,.ref l]/\HouseAt H v h/\HouseD h/\H l=some (.lst (ks.map V.str))/\(∀ k∈ks,bp k)/\ks.length<=62/\∀ (c:Bool) (H':Hp),Same H H'->(c=true↔acP h ks)->Q (.bl c) H'
def vz (ks:List Str)(r:Rm):List Str:=if (∀ k∈r.1,k ∉ ks) then r.2 else []
inductive ShI (h:Hs)(ks:List Str)(t l a r oA:Addr)(H1:Hp)(i:Nat)(σ':L2.St)(H':Hp):Prop
 | mk (x5 x6:Option V):σ'=[some (.ref t),some (.ref l),some (.ref a),some (.ref r),some (.ref oA),x5,x6]->H' oA=some (.lst ((h.1++(h.2.take i).flatMap (vz ks)).map V.str))->Same H1 H'->ShI h ks t l a r oA H1 i σ' H'
theorem uI {α β:Type}{f g:α->List β}:∀ {l:List α},(∀ x∈l,(f x).length<=(g x).length)->(l.flatMap f).length<=(l.flatMap g).length
 | [],_=>aeN _
 | a::t,h=>by
  have h1:=h a aeQ
  have h2:=uI (l:=t) fun r hr=>h r (aeV _ hr)
  rw [afO,afO,aeG,aeG]
  omega
section
variable {P:Program}{w:World}{K:PySem.W.Frag}{mg:Str->Option Value}{base:Heap}
theorem eh:aO ["house","kinds","keys","rooms","outside","locks","within"] ["house","kinds"] (aq cw):=⟨rfl,rfl,rfl,by decide +kernel,rfl,by decide +kernel,by decide +kernel⟩
theorem nP:(["kind","kinds"]:List Str).Nodup:=by decide +kernel
theorem iQ:(["locks","within","kinds"]:List Str).Nodup:=by decide +kernel
theorem zE {f fA:Addr}{fd fdA:FuncData}(F:Fun K "shut_bars" "shut_bars" cw f fd)(tN:aV P w K mg base CX0 2 fA fdA ["thing"] jT)(dc:Cal K mg "are_kinds" ["thing"] fA fdA)(zy:mg "any" = none)(bV:mg "list" = none)(mR:mg "set" = none)(aS:mg "sorted" = none):aV P w K mg base CX0 3 f fd ["house","kinds"] sQ:=by
 refine F.ok eh (fun vs H Q E h=>?_) (fun cdv A outer s H vs Q E hr h=>?_)
 ·obtain⟨v,h,l,ks,rfl,_⟩:=h
  rfl
 ·obtain⟨v,h,l,ks,rfl,hh,hD,hl,kk,kl,q⟩:=h
  have hu:=m7 hr
  refine⟨_,(ak (cU (PW.pt (qF (eF (d6 (ax tN hr rfl dc.mg dc.kp dc.b .nil aP (ae (pv 1) ai)))) (oh (aX kj (pv 1) (aw (dj rfl) rfl aS agO (ae (bF (gQ rfl) rfl mR (by decide +kernel) (ae (pv 1) ai)) ai)) (bj _)))))
   (au (aN iJ)) aU)
   (ak (hJ (pv 0) (eG rfl (aG (ay (i:=2) eh.nd rfl (Or.inl rfl)) (aG (ay (i:=3) eh.nd rfl (Or.inl rfl)) bY))))
   (ak (aI (i:=4) eh.nd rfl (Or.inl rfl) (bF b9 rfl bV (by decide +kernel) (ae (pv 2) ai)))
   (ak (bB (dU afl rfl (bT (pv 3)) (eG rfl (aG (ay (i:=5) eh.nd rfl (Or.inl rfl)) (aG (ay (i:=6) eh.nd rfl (Or.inl rfl)) bY)))
    (au (bB (cU (aX gp (aT bD (pv 5) av (fun _ _=>rfl)) (pv 1) rfl)
     (au (bC (fw aeS agE agF h7 (pv 4) (ae (pv 6) ai)))) aU)))))
   (ak (cU (d6 (aw (ue rfl) rfl zy (by decide +kernel) (ae (lx (tg:=.Name "kind" _) (outer:=aq (cw)) (N:=["house","kinds","keys","rooms","outside","locks","within"]) (N':=["kind","kinds"]) (nl:=1) (ix:=[1]) rfl rfl rfl (bT (pv 4))
    (fun _ _ _ _=>(ay (i:=0) nP rfl (Or.inl rfl) (.inr rfl))) (fun _ _ _ _=>dv)
    (fun _ _ _ _=>(cV (oj (K:=K) rfl) (pv 0) (pv 1) rfl))) ai)))
    (au (aN iJ)) aU)
   (au (aN (aw (ue rfl) rfl zy (by decide +kernel) (ae (lx (outer:=aq (cw)) (N:=["house","kinds","keys","rooms","outside","locks","within"]) (N':=["locks","within","kinds"]) (nl:=2) (ix:=[1]) rfl rfl rfl (bT (pv 3))
    (fun _ _ _ _=>(mT (K:=K) (n:=2) rfl rfl (aG (ay (i:=0) iQ rfl (Or.inl rfl) (.inr rfl)) (aG (ay (i:=1) iQ rfl (Or.inl rfl) (.inr rfl)) bY)))) (fun _ _ _ _=>dv)
    (fun _ _ _ _=>(cV (oj (K:=K) rfl) (aT (gI (K:=K) rfl) (pv 0) av (fun _ _=>rfl)) (pv 2) rfl))) ai))))))))),?_⟩
  refine⟨_,rfl,l,ks,rfl,hl,kk,by omega,fun H1 s1=>⟨true,rfl,gu ?_⟩⟩
  have hl1:=s1 _ _ hl
  refine⟨_,rfl,_,rfl,l,ks,rfl,SqL.of hl1,aff (ahF kl 1) (by decide),fun sA ts nS hts=>?_⟩
  have tl:ts.length < 64:=aff (aF (U:=ks) hts.1 fun x hx=>(hts.2 x).mp hx) (by omega)
  refine⟨sA,ts,rfl,ag,tl,fun oA ss nO hp hso=>?_⟩
  dsimp only [wj,Cx.nox] at nO ⊢
  have s2:Same H1 (upd H1 sA (eA P w sA ts)):=ar nS
  generalize upd H1 sA (eA P w sA ts)=H2 at *
  have s3:Same H2 (upd H2 oA (.lst (ss.map V.str))):=ar nO
  have e3:(upd H2 oA (.lst (ss.map V.str))) oA=some (.lst (ss.map V.str)):=ag
  generalize upd H2 oA (.lst (ss.map V.str))=H3 at *
  have s13:=s2.trans s3
  have s03:=s1.trans s13
  have hl3:=s13 _ _ hl1
  have kk':∀ k∈ss,bp k:=fun k hk=>kk k ((hts.2 k).mp (hp.mem_iff.mp hk))
  refine vc hl3 e3 kk kk' hu fun c hc=>⟨_,rfl,?_⟩
  have ssi:=acg hts hp hso
  refine rP (fun hb=>?_) (fun hb=>?_)
  ·exact q _ _ s03 ⟨(fun z=>nomatch z),fun z=>absurd (ssi.mpr z.1) (hc.mp hb)⟩
  have sok:SS ks:=ssi.mp (ajo.mp fun z=>hb (hc.mpr z))
  clear hc hb ssi e3 kk'
  obtain⟨t,a,r,vs,rfl,ht,ha,hrr,hR⟩:=hh.same s03
  refine⟨_,rfl,t,_,rfl,SqT.of ht,rfl,_,_,rfl,_,_,rfl,rfl,?_⟩
  refine⟨_,rfl,a,_,rfl,.inl (SqL.of ha),fun oA nO=>?_⟩
  have s4:Same H3 (upd H3 oA (.lst (h.1.map V.str))):=ar nO
  have e4:(upd H3 oA (.lst (h.1.map V.str))) oA=some (.lst (h.1.map V.str)):=ag
  generalize upd H3 oA (.lst (h.1.map V.str))=H4 at *
  have nO3:=nO
  have plain:∀ rm∈h.2,∃ k,rm.1=[k]:=hD.pl
  have bl:∀ i,(h.1++(h.2.take i).flatMap (vz ks)).length<=1000:=fun i=>by
   have a1:=lR (vz ks) h.2 i
   have a2:(h.2.flatMap (vz ks)).length<=(h.2.flatMap (·.2)).length:=uI fun x _=>by
    unfold vz
    split
    ·exact aeN _
    ·exact ae2 _
   have a3:=hD.nk
   unfold bg at a3
   rw [aeG] at a3 ⊢
   omega
  refine⟨fun σ' H'=>ShI h ks t l a r oA H3 h.2.length σ' H',?_,?_⟩
  rotate_left
  ·refine⟨_,rfl,r,rfl,⟨_,SqL.of (s4 _ _ hrr)⟩,?_⟩
   refine eR (xs:=vs) (fun i σ' H'=>ShI h ks t l a r oA H3 i σ' H') ⟨_,_,rfl,by rw [e4];simp,s4⟩ (fun i σ H2 _ ⟨_,_,_,_,sm⟩=>SqL.of (sm _ _ hrr)) ?_ (fun σ H' z=>by rw [hR.1] at z;exact z)
   rintro i x σ H5 hx ⟨x5,x6,rfl,ho,sm⟩
   have hi:i < vs.length:=(aeJ.mp hx).1
   have hi':i < h.2.length:=by rw [← hR.1];exact hi
   obtain⟨tt,aa,bb,rfl,g1,g2,g3⟩:=(hR.2 i x _ hx (aeC hi')).same sm
   obtain⟨k1,ek⟩:=plain _ (afa hi')
   rw [ek] at g2
   have hl5:=sm _ _ hl3
   have bbo:bb≠oA:=by
    obtain⟨tt',aa',bb',e1,g1',g2',g3'⟩:=hR.2 i _ _ hx (aeC hi')
    cases e1
    have:=sm _ _ g1'
    rw [g1] at this
    cases this
    exact af g3' nO3
   have b1:=bl (i+1)
   rw [gb _ _ _ hi',← aeW,aeG] at b1
   refine⟨tt,_,rfl,SqT.of g1,rfl,.ref aa,[.ref bb],rfl,.ref bb,[],rfl,rfl,?_⟩
   refine⟨fun σ' H'=>ShI h ks t l a r oA H3 (i+1) σ' H',fun σ' H' z=>z,?_⟩
   refine⟨_,rfl,aa,_,0,.str k1,rfl,rfl,SqL.of g2,rfl,_,rfl,l,_,rfl,.inl (SqL.of hl5),rfl,by simp [jh],_,rfl,?_⟩
   refine rP (fun hb=>?_) (fun hb=>?_)
   ·have no:k1 ∉ ks:=fun z=>by rw [iY,afi z] at hb;cases hb
    have eo:vz ks h.2[i]=(h.2[i]).2:=by
     unfold vz
     rw [if_pos fun k hk=>by rw [ek] at hk;rw [aeF.mp hk];exact no]
    rw [eo] at b1
    refine⟨_,rfl,.inl ⟨rfl,_,SqL.of ho⟩,_,rfl,oA,bb,_,_,rfl,rfl,ho,g3,by rw [aeD,aeD];exact afb (aD b1),?_⟩
    refine⟨_,_,rfl,by rw [ag,gb _ _ _ hi',eo,← aeW,aeO (l₂:=(h.2[i]).2)],fun b u e=>?_⟩
    rw [ah (af e nO3)]
    exact sm b u e
   ·have yes:k1∈ks:=ajo.mp fun z=>hb (by rw [iY,afq z];rfl)
    have eo:vz ks h.2[i]=[]:=by
     unfold vz
     rw [if_neg fun z=>z k1 (by rw [ek];exact aeF.mpr rfl) yes]
    exact⟨_,_,rfl,by rw [gb _ _ _ hi',eo,afw];exact ho,sm⟩
  rintro σ H5 ⟨x5,x6,rfl,ho,sm⟩
  rw [afm] at ho
  have hl5:=sm _ _ hl3
  dsimp only [aaJ,ad0,tB,tCB,gq,mP]
  refine bE _ _ _ _ _ _ _ _ _ ?_
  refine⟨_,rfl,oA,rfl,⟨_,SqL.of ho⟩,?_⟩
  intro D nD
  have b0:=bl h.2.length
  rw [afm] at b0
  refine zS (F:=fun v=>V.bl (inV v (ks.map V.str))) ho nD (by rw [aeD];omega) (fun x=>rfl) (fun G x R hx sG q=>?_) (fun H6 s6 hD6=>?_)
  ·obtain⟨z,hz,rfl⟩:=ae3.mp hx
   exact⟨_,rfl,_,rfl,l,_,rfl,.inl (SqL.of (sG _ _ hl5)),rfl,by simp [jh],q⟩
  refine⟨D,(h.1++h.2.flatMap (vz ks)).map fun x=>inV (.str x) (ks.map V.str),rfl,SqL.of (by rw [hD6,afZ,afZ];rfl),_,rfl,?_⟩
  have s06:=s03.trans (sm.trans s6)
  refine rP (fun hb=>?_) (fun hb=>?_)
  ·refine q _ _ s06 ⟨(fun z=>nomatch z),fun z=>?_⟩
   rw [ai6,ait] at hb
   obtain⟨x,hx,hin⟩:=hb
   have hin':x∈ks:=by
    have:inV (.str x) (ks.map V.str)=true:=hin
    rw [iY] at this
    exact agi this
   rcases aeI.mp hx with m | m
   ·exact absurd hin' (z.2.1 x m)
   ·obtain⟨rm,hrm,hxr⟩:=afN.mp m
    unfold vz at hxr
    split at hxr
    ·rename_i hno
     exact absurd hin' (z.2.2.1 rm hrm hno x hxr)
    ·cases hxr
  have none:∀ x∈h.1++h.2.flatMap (vz ks),x ∉ ks:=fun x hx hin=>hb (by
   rw [ai6,ait]
   refine⟨x,hx,?_⟩
   show inV (.str x) (ks.map V.str)=true
   rw [iY]
   exact afi hin)
  have hR6:RoomsAt H6 vs h.2:=hR.same (sm.trans s6)
  have hr6:=s6 _ _ (sm _ _ hrr)
  have hl6:=s6 _ _ hl5
  dsimp only [uc,wy,tCB,gq,mP]
  refine bE _ _ _ _ _ _ _ _ _ ?_
  refine⟨_,rfl,r,rfl,⟨_,SqL.of hr6⟩,?_⟩
  intro D2 nD2
  refine t8 (pb:=fun _=>true) (F:=fun rm=>V.bl (rm.1.all fun k=>inV (.str k) (ks.map V.str))) hr6 hR6 nD2 hD.ok.rl (fun x y=>rfl) (fun G rm aa bb R hm g2 g3 sG q=>q) (fun G rm aa bb R hm g2 g3 sG q=>?_) (fun H7 s7 hD7=>?_)
  ·obtain⟨k1,ek⟩:=plain rm hm
   rw [ek] at g2 q
   refine⟨_,rfl,aa,_,0,.str k1,rfl,rfl,SqL.of g2,rfl,_,rfl,l,_,rfl,.inl (SqL.of (sG _ _ hl6)),rfl,by simp [jh],?_⟩
   have e1:([k1].all fun k=>inV (.str k) (ks.map V.str))=inV (.str k1) (ks.map V.str):=by simp
   rw [e1] at q
   exact q
  refine⟨D2,h.2.map fun rm=>rm.1.all fun k=>inV (.str k) (ks.map V.str),rfl,SqL.of (by rw [hD7,agw.mpr (fun _ _=>rfl),afZ];rfl),q _ _ (s06.trans s7) ?_⟩
  rw [ai6,ait]
  have al:∀ rm:Rm,(rm.1.all fun k=>inV (.str k) (ks.map V.str))=true↔∀ k∈rm.1,k∈ks:=fun rm=>by
   rw [agH]
   constructor
   ·intro z k hk
    have:=z k hk
    rw [iY] at this
    exact agi this
   ·intro z k hk
    rw [iY]
    exact afi (z k hk)
  constructor
  ·rintro⟨rm,hm,hin⟩
   refine⟨sok,fun x hx=>none x (ae6 _ hx),fun rm' hm' hno x hx=>none x (aeL _ (afN.mpr ⟨rm',hm',?_⟩)),rm,hm,(al rm).mp hin⟩
   unfold vz
   rw [if_pos hno]
   exact hx
  ·rintro⟨_,_,_,rm,hm,hin⟩
   exact⟨rm,hm,(al rm).mpr hin⟩
inductive jO where
 | few (k:Str) (a b:Int)
 | shut (ks:List Str)
def PaperAt (H:Hp)(v:V):jO->Prop
 | .few k a b=>∃ t:Addr,v=.ref t/\H t=some (.tup [.str "few",.str k,.int a,.int b])
 | .shut ks=>∃ t l:Addr,v=.ref t/\H t=some (.tup [.str "shut",.ref l])/\H l=some (.lst (ks.map V.str))
def jI:jO->Prop
 | .few k a b=>bp k/\-2000<=a/\a<=2000/\-2000<=b/\b<=200000000000000000000
 | .shut ks=>(∀ k∈ks,bp k)/\ks.length<=62
def zi (h:Hs):jO->Prop
 | .few k a b=>adj h k a b
 | .shut ks=>acP h ks
theorem PaperAt.same {H H':Hp}{v:V}{p:jO}(s:Same H H')(x:PaperAt H v p):PaperAt H' v p:=by
 cases p with
 | few k a b=>obtain⟨t,e,h⟩:=x;exact⟨t,e,s _ _ h⟩
 | shut ks=>obtain⟨t,l,e,h,h2⟩:=x;exact⟨t,l,e,s _ _ h,s _ _ h2⟩
def yo:Sp:=fun vs H Q _=>∃ (v u:V) (h:Hs) (pp:jO),vs=[v,u]/\HouseAt H v h/\HouseD h/\PaperAt H u pp/\jI pp/\∀ (c:Bool) (H':Hp),Same H H'->(c=true↔zi h pp)->Q (.bl c) H'
theorem zQ {h:Hs}(x:HouseD h):lP h=true:=by
 unfold lP
 rw [agH]
 intro r hr
 obtain⟨k,e⟩:=x.pl r hr
 rw [e]
 rfl
theorem pG:aO ["house","paper"] ["house","paper"] (aq dq):=⟨rfl,rfl,rfl,by decide +kernel,rfl,by decide +kernel,by decide +kernel⟩
theorem abC {f fR fF fS:Addr}{fd fdR fdF fdS:FuncData}(F:Fun K "bars_house" "bars_house" dq f fd)(gc:aV P w K mg base CX0 8 fR fdR ["thing"] iD)(br:Cal K mg "require_plain" ["thing"] fR fdR)(vM:aV P w K mg base CX0 8 fF fdF ["house","kind","keys","locks"] xg)(gy:Cal K mg "few_bars" ["house","kind","keys","locks"] fF fdF)
 (sE:aV P w K mg base CX0 3 fS fdS ["house","kinds"] sQ)(fJ:Cal K mg "shut_bars" ["house","kinds"] fS fdS)(aQ:mg "isinstance" = none)(gJ:mg "tuple" = none)(aY:mg "len" = none):aV P w K mg base CX0 9 f fd ["house","paper"] yo:=by
 refine F.ok pG (fun vs H Q E h=>?_) (fun cdv A outer s H vs Q E hr h=>?_)
 ·obtain⟨v,u,h,pp,rfl,_⟩:=h
  rfl
 ·obtain⟨v,u,h,pp,rfl,hh,hD,hp,ok,q⟩:=h
  refine⟨_,(ak (bC (ax gc hr rfl br.mg br.kp br.b .nil aP (ae (pv 0) ai)))
   (ak (cU (eF (d6 (aw bU rfl aQ (by decide +kernel) (ae (pv 1) (ae (fV (v:=.ty "tuple") (u:=.type "tuple") rfl gJ (by decide +kernel) rfl) ai)))))
    (au (aN iJ)) aU)
   (ak (cU (PW.pt (oJ (aX gB (aw az rfl aY ae8 (ae (pv 1) ai)) av (bj _)) (jR (aX gB (aT bu (pv 1) av (fun _ _=>rfl)) cP (bj _)))))
    (au (aN (ax vM hr rfl gy.mg gy.kp gy.b .nil aP (ae (pv 0) (ae (aT bu (pv 1) av (fun _ _=>rfl)) (ae (aT bu (pv 1) av (fun _ _=>rfl)) (ae (aT bu (pv 1) av (fun _ _=>rfl)) ai))))))) aU)
   (ak (cU (PW.pt (oJ (aX gB (aw az rfl aY ae8 (ae (pv 1) ai)) av (bj _)) (jR (aX gB (aT bu (pv 1) av (fun _ _=>rfl)) cP (bj _)))))
    (au (aN (ax sE (hr.mono (show 3<=8 by decide)) rfl fJ.mg fJ.kp fJ.b .nil aP (ae (pv 0) (ae (aT bu (pv 1) av (fun _ _=>rfl)) ai))))) aU)
   (au (aN iJ)))))),?_⟩
  refine⟨_,rfl,v,h,rfl,hh,hD.ok,zQ hD,fun H1 s1=>?_⟩
  cases pp with
  | few k a b =>
   obtain⟨t,rfl,ht⟩:=hp.same s1
   refine⟨_,rfl,_,_,_,true,rfl,.tup ht,eU K _,true,rfl,gu ?_⟩
   refine⟨_,rfl,t,_,rfl,.inr (SqT.of ht),rfl,true,rfl,gU ?_⟩
   refine⟨_,rfl,t,_,0,.str "few",rfl,rfl,SqT.of ht,rfl,rfl,true,rfl,gU ?_⟩
   refine⟨_,rfl,_,rfl,t,_,1,.str k,rfl,rfl,SqT.of ht,rfl,_,rfl,t,_,2,.int a,rfl,rfl,SqT.of ht,rfl,_,rfl,t,_,3,.int b,rfl,rfl,SqT.of ht,rfl,v,h,k,a,b,rfl,hh.same s1,hD,ok.1,fun c H' s' e=>q c H' (s1.trans s') e⟩
  | shut ks =>
   obtain⟨t,l,rfl,ht,hl⟩:=hp.same s1
   refine⟨_,rfl,_,_,_,true,rfl,.tup ht,eU K _,true,rfl,gu ?_⟩
   refine⟨_,rfl,t,_,rfl,.inr (SqT.of ht),rfl,false,rfl,gu ?_⟩
   refine⟨_,rfl,t,_,rfl,.inr (SqT.of ht),rfl,true,rfl,gU ?_⟩
   refine⟨_,rfl,t,_,0,.str "shut",rfl,rfl,SqT.of ht,rfl,rfl,true,rfl,gU ?_⟩
   exact⟨_,rfl,_,rfl,t,_,1,.ref l,rfl,rfl,SqT.of ht,rfl,v,h,l,ks,rfl,hh.same s1,hD,hl,ok.1,ok.2,fun c H' s' e=>q c H' (s1.trans s') e⟩
end
end K7
namespace L2
open PySem PySem.Spec PyProof.Rows PySem.W
section
variable {X:Cx}
end
theorem xj {nl:Nat}{ix:List Nat}{g:TG}{tf:TT}{te:TE}{σ:St}{H1:Hp}{D:Addr}{Q:VK}(Pv:Nat->List V->Hp->Prop){a:Addr}{o:Obj}{kvs:List (Key×V)}(h0:Pv 0 [] (upd H1 D (.lst [])))(hD:∀ i ys H,Pv i ys H->H D=some (.lst ys))(hl:∀ i ys H,Pv i ys H->H a=some (.frz o (.dK kvs)))
 (hs:∀ i ys H k v,kvs[i]? = some (k,v)->Pv i ys H->bL nl ix g tf te σ D ys H (kV k) fun ys' H'=>Nx kvs.length i (Pv (i+1) ys' H'))(hd:∀ ys H,Pv kvs.length ys H->Q (.ref D) H):jg nl ix g tf te σ (ItK a o kvs) H1 D Q:=by
 refine qD (n:=kvs.length) Pv h0 hD (fun i ys H hi p=>⟨hi,hl i ys H p⟩) (fun ys H p=>⟨rfl,hl _ ys H p⟩) (fun i ys H x H' hi p y=>?_) hd
 obtain⟨e,k,v,y,ex⟩:=y
 subst e ex
 exact hs i ys _ k v y p
end L2
namespace K7
open PySem L2 PyProof.Rows
def PapAt (D:Addr)(H:Hp)(p:Addr×jO):Prop:=jI p.2/\∀ G,But D H G->PaperAt G (.ref p.1) p.2
theorem PapAt.but {D:Addr}{H G:Hp}{p:Addr×jO}(x:PapAt D H p)(b:But D H G):PapAt D G p:=⟨x.1,fun G' b'=>x.2 G' fun c u n e=>b' c u n (b c u n e)⟩
theorem PapAt.at {D:Addr}{H:Hp}{p:Addr×jO}(x:PapAt D H p):PaperAt H (.ref p.1) p.2:=x.2 H fun _ _ _ e=>e
theorem abM {D T:Addr}{H:Hp}{k:Str}{a b:Int}(ok:jI (.few k a b))(hT:H T=some (.tup [.str "few",.str k,.int a,.int b]))(ne:T≠D):PapAt D H (T,.few k a b):=⟨ok,fun G B=>⟨T,rfl,B _ _ ne hT⟩⟩
theorem aag {D T l:Addr}{H:Hp}{ks:List Str}(ok:jI (.shut ks))(hT:H T=some (.tup [.str "shut",.ref l]))(hl:H l=some (.lst (ks.map V.str)))(ne:T≠D)(nl:l≠D):PapAt D H (T,.shut ks):=⟨ok,fun G B=>⟨T,l,rfl,B _ _ ne hT,B _ _ nl hl⟩⟩
def adV (G:Hp)(p:Addr×jO):Prop:=∃ k a b,p.2=.few k a b/\jI (.few k a b)/\G p.1=some (.tup [.str "few",.str k,.int a,.int b])
abbrev nE (ps:List (Addr×jO)):List V:=ps.map fun p=>V.ref p.1
def pF:Sp:=fun vs H Q _=>∃ (v:V) (h:Hs),vs=[v]/\HouseAt H v h/\HouseD h/\∀ (D:Addr) (ps:List (Addr×jO)) (H':Hp),Same H H'->H' D=some (.lst (nE ps))->(∀ p∈ps,PaperAt H' (.ref p.1) p.2/\jI p.2)->ps.length<=1000->Q (.ref D) H'
inductive PI (H Hb:Hp)(v:V)(d D kA:Addr)(i:Nat)(σ:L2.St)(H':Hp):Prop
 | mk (ps:List (Addr×jO)) (x4:Option V):σ=[some v,some (.ref d),some (.ref D),some (.ref kA),x4]->But D Hb H'->H' D=some (.lst (nE ps))->(∀ p∈ps,PapAt D H' p)->ps.length<=62+i->PI H Hb v d D kA i σ H'
theorem oR {h:Hs}(x:HouseD h){k:Str}(hk:k∈bg h\/k∈aK h):bp k:=by
 rcases hk with hk | hk
 ·unfold bg at hk
  rcases aeI.mp hk with hk | hk
  ·exact x.ok.kk k hk
  ·obtain⟨r,hr,hk⟩:=afN.mp hk
   exact (x.ok.rs r hr).kk k hk
 ·unfold aK at hk
  obtain⟨r,hr,hk⟩:=afN.mp hk
  exact (x.ok.rs r hr).lk k hk
section
variable {P:Program}{w:World}{K:PySem.W.Frag}{mg:Str->Option Value}{base:Heap}
theorem dB:aO ["house","counts","papers","kinds","bits"] ["house"] (aq bO):=⟨rfl,rfl,rfl,by decide +kernel,rfl,by decide +kernel,by decide +kernel⟩
theorem kJ:(["kind","counts"]:List Str).Nodup:=by decide +kernel
theorem kI:(["k","kinds","bits"]:List Str).Nodup:=by decide +kernel
theorem wU {f fC:Addr}{fd fdC:FuncData}(F:Fun K "_law_papers" "_law_papers" bO f fd)(de:aV P w K mg base CX0 7 fC fdC ["house"] iq)(aJ:Cal K mg "kinds_counted" ["house"] fC fdC)(aY:mg "len" = none)(bh:mg "range" = none)(aS:mg "sorted" = none):aV P w K mg base CX0 8 f fd ["house"] pF:=by
 refine F.ok dB (fun vs H Q E h=>?_) (fun cdv A outer s H vs Q E hr h=>?_)
 ·obtain⟨v,h,rfl,_⟩:=h
  rfl
 ·have hu:=m7 hr
  obtain⟨v,h,rfl,hh,hD,q⟩:=h
  refine⟨_,(ak (aI (i:=1) dB.nd rfl (Or.inr rfl) (ax de hr rfl aJ.mg aJ.kp aJ.b .nil aP (ae (pv 0) ai)))
   (ak (iX (i:=2) (tg:=.Name "kind" _) (outer:=aq (bO)) (N:=["house","counts","papers","kinds","bits"]) (N':=["kind","counts"]) (nl:=1) (ix:=[1]) dB.nd rfl (Or.inl rfl) rfl rfl rfl (aa6 (H₀:=H) rfl (pv 1))
    (fun _ _ _ _=>(ay (i:=0) kJ rfl (Or.inl rfl) (.inr rfl))) (fun _ _ _ _=>dv)
    (fun _ _ _ _=>(fX (ae cP (ae (pv 0) (ae (aT (yh (K:=K) rfl) (i6 hu (pv 1) (pv 0) (fun _ _=>rfl)) av (fun _ _=>rfl)) (ae (aT (yh (K:=K) rfl) (i6 hu (pv 1) (pv 0) (fun _ _=>rfl)) av (fun _ _=>rfl)) ai)))))))
   (zr (H₀:=H) rfl (ak (aI (i:=3) dB.nd rfl (Or.inr rfl) (gL lX (aw (gW rfl) rfl aS agO (ae (pv 1) ai)) i9 (i8 av)))
   (ak (bB (dU afl rfl (cg rfl bh (ae (bq aca av (aw az rfl aY ae8 (ae (pv 3) ai))) ai)) (ay (i:=4) dB.nd rfl (Or.inr rfl))
    (au (bC (fw aeS afI afJ df (pv 2) (ae (fX (ae cP (ae (lx (tg:=.Name "k" _) (outer:=aq (bO)) (N:=["house","counts","papers","kinds","bits"]) (N':=["k","kinds","bits"]) (nl:=1) (ix:=[3,4]) rfl rfl rfl (cg rfl bh (ae (aw az rfl aY ae8 (ae (pv 3) ai)) ai))
    (fun _ _ _ _=>(ay (i:=0) kI rfl (Or.inl rfl) (.inr rfl))) (fun _ _ _ _=>(jd (aX gB (bq acZ (bq acA (pv 2) (pv 0)) av) av (bj _))))
    (fun _ _ _ _=>(aT (gI (K:=K) rfl) (pv 1) (pv 0) (fun _ _=>rfl)))) ai))) ai))))))
   (au (aN (pv 2)))))))),?_⟩
  refine⟨_,rfl,v,h,rfl,hh,hD.ok,hD.few',fun d kvs H1 nd s1 hd cm=>?_⟩
  obtain⟨ss,ess,ssn,ssm⟩:=wY cm
  obtain⟨U,ul,inU⟩:=hD.few
  have ssl:ss.length<=62:=afk (aF (U:=U) ssn fun x hx=>inU x (ssm x hx)) ul
  have kvl:kvs.length=ss.length:=by simpa using aft List.length ess
  dsimp only [bJ,aaJ,wB,wy,acz]
  refine bE _ _ _ _ _ _ _ _ _ ?_
  refine⟨_,rfl,d,_,rfl,hd,fun o nf=>?_⟩
  intro D nD
  have Dd:D≠d:=fun z=>by rw [z,ag] at nD;cases nD
  have nD1:H1 D=none:=by rw [ah Dd] at nD;exact nD
  refine xj (kvs:=kvs) (fun j ys G=>(∃ ps:List (Addr×jO),ys=nE ps/\ps.length<=j/\∀ p∈ps,adV G p)/\j<=62/\G D=some (.lst ys)/\G d=some (.frz o (.dK kvs))/\∀ b u,b≠d->H1 b=some u->G b=some u) ⟨⟨[],rfl,aeN _,fun p hp=>nomatch hp⟩,by decide,ag,by rw [ah (agz Dd),ag],fun b u nb e=>by rw [ah (af e nD1),ah nb];exact e⟩ (fun j ys G z=>z.2.2.1) (fun j ys G z=>z.2.2.2.1) ?_ ?_
  ·rintro j ys G k u hx ⟨⟨ps,rfl,pl,hps⟩,hj0,hDG,hdG,sG⟩
   have hj:=(aeJ.mp hx).1
   obtain⟨x,rfl,kin⟩:=(cm.mem k).mp (ae3.mpr ⟨(k,u),afg hx,rfl⟩)
   rcases xW cm x with ⟨t',ev,ht'⟩ | ⟨_,c1,c2⟩
   rotate_left
   ·exfalso
    rcases kin with y | y
    ·exact absurd (afF.mpr y) (by omega)
    ·exact absurd (afF.mpr y) (by omega)
   have td:t'≠d:=bX ht' hd (by intro z;cases z)
   have htG:=sG _ _ td ht'
   have dg:DGet G d (.str x) (some (.ref t')):=by rw [← ev];exact .inl ⟨_,Sum.inr x,.inr ⟨_,hdG⟩,rfl,rfl⟩
   refine dI rfl ?_
   refine⟨_,rfl,_,rfl,_,rfl,d,.ref t',rfl,dg,t',_,0,_,rfl,rfl,SqT.of htG,rfl,?_⟩
   refine⟨_,rfl,_,rfl,d,.ref t',rfl,dg,t',_,1,_,rfl,rfl,SqT.of htG,rfl,?_⟩
   refine⟨by show 4<=sizeLine;decide,fun T nT=>?_⟩
   have sT:=ar (o:=.tup [.str "few",kV (Sum.inr x),.int (((bg h).count x:Nat):Int),.int (((aK h).count x:Nat):Int)]) nT
   have eT:(upd G T (.tup [.str "few",kV (Sum.inr x),.int (((bg h).count x:Nat):Int),.int (((aK h).count x:Nat):Int)])) T=some (.tup [.str "few",.str x,.int (((bg h).count x:Nat):Int),.int (((aK h).count x:Nat):Int)]):=ag
   show (upd G T (.tup [.str "few",kV (Sum.inr x),.int (((bg h).count x:Nat):Int),.int (((aK h).count x:Nat):Int)])) D=_/\_
   generalize upd G T (.tup [.str "few",kV (Sum.inr x),.int (((bg h).count x:Nat):Int),.int (((aK h).count x:Nat):Int)])=G2 at *
   have hD2:=sT _ _ hDG
   have TD:T≠D:=bX eT hD2 (by intro z;cases z)
   have c1:(bg h).count x<=(bg h).length:=ahH
   have c2:(aK h).count x<=(aK h).length:=ahH
   have nk:=hD.nk
   have nl:=hD.nl
   refine⟨hD2,by unfold nE;rw [aeD];exact aD (by omega),nx hj ⟨⟨ps++[(T,.few x (((bg h).count x:Nat):Int) (((aK h).count x:Nat):Int))],by unfold nE;rw [aeO];rfl,by rw [aeG];exact agU pl,fun p hp=>?_⟩,by omega,ag,by rw [ah (agz Dd)];exact sT _ _ hdG,fun b u nb e=>by rw [ah (af e nD1)];exact sT _ _ (sG b u nb e)⟩⟩
   rcases aeI.mp hp with hp | hp
   ·obtain⟨k,a,b,e1,e2,e3⟩:=hps p hp
    have e4:=sT _ _ e3
    exact⟨k,a,b,e1,e2,by rw [ah (bX e4 hD2 (by intro z;cases z))];exact e4⟩
   ·rw [aeF.mp hp]
    exact⟨_,_,_,rfl,⟨oR hD kin,by omega,by omega,by omega,by omega⟩,by show (upd G2 D _) T=_;rw [ah TD];exact eT⟩
  rintro ys G ⟨⟨ps,rfl,pl,hps⟩,_,hDG,hdG,sG⟩
  refine⟨d,o,kvs,hdG,nf,?_⟩
  have B2:∀ b u,b≠d->G b=some u->(upd G d (.dK kvs)) b=some u:=fun b u nb e=>by rw [ah nb];exact e
  have hD2:=B2 _ _ Dd hDG
  have hd2:(upd G d (.dK kvs)) d=some (.dK kvs):=ag
  have s2:Same H (upd G d (.dK kvs)):=fun b u e=>B2 b u (af e nd) (sG b u (af e nd) (s1 b u e))
  have hps2:∀ p∈ps,PapAt D (upd G d (.dK kvs)) p:=fun p hp=>by
   obtain⟨pa,pp⟩:=p
   obtain⟨k,a,b,e1,e2,e3⟩:=hps _ hp
   cases (show pp=.few k a b from e1)
   exact abM e2 (B2 _ _ (bX e3 hdG (by intro z;cases z)) e3) (bX e3 hDG (by intro z;cases z))
  generalize upd G d (.dK kvs)=G2 at *
  clear B2 hps hDG hdG sG nf
  refine⟨_,rfl,d,kvs,ss,rfl,hd2,ess,by omega,fun sl sk nsl perm so=>?_⟩
  have s3:=s2.trans (ar (o:=.lst (sk.map V.str)) nsl)
  have hD3:=ar (o:=.lst (sk.map V.str)) nsl _ _ hD2
  have sl3:(upd G2 sl (.lst (sk.map V.str))) sl=some (.lst (sk.map V.str)):=ag
  have hps3:∀ p∈ps,PapAt D (upd G2 sl (.lst (sk.map V.str))) p:=fun p hp=>(hps2 p hp).but (gj (ar nsl))
  generalize upd G2 sl (.lst (sk.map V.str))=G3 at *
  clear hps2 hD2 hd2 s2
  have skk:∀ k∈sk,bp k:=fun k hk=>oR hD (ssm k (perm.mem_iff.mp hk))
  refine⟨_,rfl,sl,_,rfl,SqL.of sl3,fun kA nK=>?_⟩
  rw [show (6:Int)=((6:Nat):Int) from rfl,wR,← aiC]
  have s4:=s3.trans (ar (o:=.lst ((sk.take 6).map V.str)) nK)
  have hD4:=ar (o:=.lst ((sk.take 6).map V.str)) nK _ _ hD3
  have k4:(upd G3 kA (.lst ((sk.take 6).map V.str))) kA=some (.lst ((sk.take 6).map V.str)):=ag
  have hps4:∀ p∈ps,PapAt D (upd G3 kA (.lst ((sk.take 6).map V.str))) p:=fun p hp=>(hps3 p hp).but (gj (ar nK))
  have kD:kA≠D:=(af hD3 nK).symm
  generalize upd G3 kA (.lst ((sk.take 6).map V.str))=G4 at *
  clear hps3 hD3 sl3 s3
  have D0:H D=none:=s1.free nD1
  have tl:(sk.take 6).length<=6:=by rw [ae9];omega
  have tk:∀ k∈sk.take 6,bp k:=fun k hk=>skk k (afA hk)
  generalize sk.take 6=ks at *
  refine⟨fun σ' H'=>PI H G4 v d D kA (2 ^ ks.length) σ' H',?_,?_⟩
  ·rintro σ G5 ⟨ps5,x4,rfl,B5,hD5,hps5,pl5⟩
   have p6:2 ^ ks.length<=2 ^ 6:=ahG (by decide) tl
   exact⟨_,rfl,q D ps5 G5 (fun b u e=>B5 b u (af e D0) (s4 b u e)) hD5 (fun p hp=>⟨(hps5 p hp).at,(hps5 p hp).1⟩) (by omega)⟩
  have p6:2 ^ ks.length<=2 ^ 6:=ahG (by decide) tl
  have ep:(1:Int) * 2 ^ (((ks.map V.str).length:Nat):Int).toNat=((2 ^ ks.length:Nat):Int):=by
   rw [Int.one_mul,afh,aeD]
   exact (Int.natCast_pow 2 ks.length).symm
  refine⟨_,rfl,kA,_,rfl,.inl (SqL.of k4),_,_,rfl,rfl,⟨by omega,by rw [aeD];omega,by decide⟩,_,rfl,?_,?_,?_⟩
  ·rw [ep]
   have:(0:Int)<=((2 ^ ks.length:Nat):Int):=ahP _
   exact Int.le_trans (by decide) this
  ·rw [ep]
   exact Int.lt_of_le_of_lt (Int.ofNat_le.mpr p6) (by decide)
  rw [ep,afh]
  refine gC (fun i σ' H'=>PI H G4 v d D kA i σ' H') ⟨ps,none,rfl,fun _ _ _ e=>e,hD4,hps4,by omega⟩ ?_ (fun σ H' z=>z)
  clear hps4 hD4 pl
  rintro i σ G5 hi ⟨ps,x4,rfl,B,hD5,hps,pl⟩
  refine⟨_,rfl,.inl ⟨rfl,_,SqL.of hD5⟩,?_⟩
  dsimp only [gq,adt,tC,mP]
  refine bE _ _ _ _ _ _ _ _ _ ?_
  have k5:=B _ _ kD k4
  refine⟨_,rfl,kA,_,rfl,.inl (SqL.of k5),_,rfl,by rw [aeD];omega,by rw [aeD];omega,?_⟩
  intro L nL
  rw [afh,aeD]
  refine gE (fun j ys G'=>(∃ zs:List Str,ys=zs.map V.str/\zs.length<=j/\∀ z∈zs,bp z)/\j<=6/\G' L=some (.lst ys)/\Same G5 G') ⟨⟨[],rfl,aeN _,fun z hz=>nomatch hz⟩,by decide,ag,ar nL⟩ (fun j ys G' z=>z.2.2.1) ?_ ?_
  ·rintro j ys G6 hj ⟨⟨zs,rfl,zl,hz⟩,hj6,hL,s6⟩
   unfold bL bJ
   have ej:(ks.map V.str)[j]? = some (.str ks[j]):=by rw [aeP,aeC hj];rfl
   refine⟨⟨rfl,rfl⟩,_,rfl,_,rfl,_,_,rfl,rfl,by omega,_,_,rfl,rfl,rfl,_,rfl,rP (fun _=>?_) (fun _=>?_)⟩
   ·refine⟨_,rfl,_,rfl,kA,_,_,.str ks[j],rfl,rfl,SqL.of (s6 _ _ k5),by rw [alq];exact cf ej,hL,by rw [aeD];exact aD (by omega),nx hj ⟨⟨zs++[ks[j]],by rw [aeO];rfl,by rw [aeG];exact agU zl,fun z hz'=>?_⟩,by omega,ag,fun b u e=>by rw [ah (af e nL)];exact s6 b u e⟩⟩
    rcases aeI.mp hz' with hz' | hz'
    ·exact hz z hz'
    ·rw [aeF.mp hz'];exact tk _ (afa hj)
   ·exact nx hj ⟨⟨zs,rfl,by omega,hz⟩,by omega,hL,s6⟩
  rintro ys G6 ⟨⟨zs,rfl,zl,hz⟩,_,hL,s6⟩
  refine⟨by show 2<=sizeLine;decide,fun T nT=>?_⟩
  have sT:=ar (o:=.tup [.str "shut",.ref L]) nT
  have eT:(upd G6 T (.tup [.str "shut",.ref L])) T=some (.tup [.str "shut",.ref L]):=ag
  generalize upd G6 T (.tup [.str "shut",.ref L])=G7 at *
  have hD7:=sT _ _ (s6 _ _ hD5)
  have L7:=sT _ _ hL
  have LD:L≠D:=(af hD5 nL).symm
  have TD:T≠D:=bX eT hD7 (by intro z;cases z)
  refine⟨D,_,_,rfl,rfl,hD7,by unfold nE;rw [aeD];exact aD (by omega),?_⟩
  refine⟨ps++[(T,.shut zs)],_,rfl,fun b u nb e=>by rw [ah nb];exact sT _ _ (s6 _ _ (B b u nb e)),by rw [ag];unfold nE;rw [aeO];rfl,fun p hp=>?_,by rw [aeG];simp;omega⟩
  rcases aeI.mp hp with hp | hp
  ·exact (hps p hp).but fun b u nb e=>by rw [ah nb];exact sT _ _ (s6 _ _ e)
  ·rw [aeF.mp hp]
   exact aag ⟨hz,by omega⟩ (by rw [ah TD];exact eT) (by rw [ah LD];exact L7) TD LD
theorem cE:aO ["deck","most","kinds","keys","rooms","left"] ["deck","most"] (aq cG):=⟨rfl,rfl,rfl,by decide +kernel,rfl,by decide +kernel,by decide +kernel⟩
theorem mH:(["k","left","deck"]:List Str).Nodup:=by decide +kernel
theorem yu {f fN fM fG fB:Addr}{fd fdN fdM fdG fdB:FuncData}(F:Fun K "_law_house" "_law_house" cG f fd)(aE:aV P w K mg base CX0 2 fN fdN ["deck"] jz)(aj:Cal K mg "_law_next" ["deck"] fN fdN)
 (rE:aV P w K mg base CX0 3 fM fdM ["deck","many"] tK)(eZ:Cal K mg "_law_names" ["deck","many"] fM fdM)
 (rL:aV P w K mg base CX0 3 fG fdG ["deck","kinds","many"] t4)(fc:Cal K mg "_law_grown" ["deck","kinds","many"] fG fdG)(sV:aV P w K mg base CX0 3 fB fdB ["deck","keys","rooms","kinds"] xV)(gh:Cal K mg "_law_bent" ["deck","keys","rooms","kinds"] fB fdB)
 (aY:mg "len" = none)(bh:mg "range" = none)(bV:mg "list" = none):aV P w K mg base CX0 4 f fd ["deck","most"] (oW 0):=by
 refine F.ok cE (fun vs H Q E h=>?_) (fun cdv A outer s H vs Q E hr h=>?_)
 ·obtain⟨p,most,rfl,_⟩:=h
  rfl
 ·obtain⟨p,most,rfl,dk,_,hm,k⟩:=h
  refine⟨_,(ak (aI (i:=2) cE.nd rfl (Or.inl rfl) (ax rE hr rfl eZ.mg eZ.kp eZ.b .nil aP (ae (pv 0) (ae (bq hZ av (bq bM (ax aE (hr.mono (show 2<=3 by decide)) rfl aj.mg aj.kp aj.b .nil aP (ae (pv 0) ai)) av)) ai))))
   (ak (hJ (ax rL hr rfl fc.mg fc.kp fc.b .nil aP (ae (pv 0) (ae (pv 2) (ae (bq bM (ax aE (hr.mono (show 2<=3 by decide)) rfl aj.mg aj.kp aj.b .nil aP (ae (pv 0) ai)) (bq hZ (pv 1) av)) ai)))) (eG rfl (aG (ay (i:=3) cE.nd rfl (Or.inl rfl)) (aG (ay (i:=4) cE.nd rfl (Or.inl rfl)) bY))))
   (ak (hJ (ax sV hr rfl gh.mg gh.kp gh.b .nil aP (ae (pv 0) (ae (pv 3) (ae (pv 4) (ae (pv 2) ai))))) (eG rfl (aG (ay (i:=3) cE.nd rfl (Or.inl rfl)) (aG (ay (i:=4) cE.nd rfl (Or.inl rfl)) bY))))
   (ak (aI (i:=5) cE.nd rfl (Or.inr rfl) (bF b9 rfl bV (by decide +kernel) (ae (pv 4) ai)))
   (au (aN (fX (ae (pv 3) (ae (lx (tg:=.Name "k" _) (outer:=aq (cG)) (N:=["deck","most","kinds","keys","rooms","left"]) (N':=["k","left","deck"]) (nl:=1) (ix:=[5,0]) rfl rfl rfl (cg rfl bh (ae (aw az rfl aY ae8 (ae (pv 5) ai)) ai))
    (fun _ _ _ _=>(ay (i:=0) mH rfl (Or.inl rfl) (.inr rfl))) (fun _ _ _ _=>dv)
    (fun _ _ _ _=>(lV (K:=K) rfl aeS agj agk kZ (pv 1) (ae (bq bM (ax aE (hr.mono (show 2<=3 by decide)) rfl aj.mg aj.kp aj.b .nil aP (ae (pv 2) ai)) (aw (jn (K:=K) rfl) rfl aY ae8 (ae (pv 1) ai))) ai)))) ai))))))))),?_⟩
  obtain⟨H1,dk1,B1,rfl⟩:∃ H1,DeckAt H1 p/\But p H H1/\H1=H:=⟨H,dk,fun b u _ e=>e,rfl⟩
  refine⟨_,rfl,_,rfl,p,rfl,dk1,fun r H2 _ _ dk2 B2 _=>⟨_,12,rfl,rfl,(by show (0:Int) < 12;decide),1,_,rfl,rfl,?_⟩⟩
  obtain⟨n,en,n1,n12⟩:∃ n:Nat,1+r % 12=(n:Int)/\1<=n/\n<=12:=by
   have a0:0<=r % 12:=afC _ (by decide)
   have a1:r % 12 < 12:=afr _ (by decide)
   exact⟨(1+r % 12).toNat,by omega,by omega,by omega⟩
  refine⟨p,n,by rw [← en];rfl,dk2,n1,n12,fun q ks H3 nq hq kl kk dk3 B3=>?_⟩
  have qp:=dk2.ne nq
  have ne:ks≠[]:=fun z=>by rw [z] at kl;simp at kl;omega
  refine⟨_,rfl,_,rfl,_,rfl,p,rfl,dk3,fun r4 H4 _ _ dk4 B4 _=>⟨_,rfl,_,1,rfl,rfl,_,_,rfl,rfl,(by show (0:Int) < (most:Int)+1;omega),?_⟩⟩
  obtain⟨g,eg,hg⟩:=oa (r:=r4) (n:=most+1) (by omega)
  have eg':r4 % ((most:Int)+1)=(g:Int):=by rw [← eg];rfl
  have hq4:=B4 _ _ qp hq
  refine⟨p,q,ks,g,by rw [← eg'];rfl,dk4,hq4,qp,ne,kk,by omega,fun t kA rA keys L H5 ht sep len pl hk hkl=>?_⟩
  refine⟨t,_,rfl,SqT.of ht,rfl,_,_,rfl,_,_,rfl,rfl,?_⟩
  refine⟨_,rfl,_,rfl,_,rfl,_,rfl,H4,p,kA,rA,q,ks,keys,L,rfl,sep,hq4,qp,ne,kk,hk,hkl,pl,by omega,fun t2 kB keys' L' H6 ht6 sep6 ll pl6 hk6 hkl6=>?_⟩
  refine⟨t2,_,rfl,SqT.of ht6,rfl,_,_,rfl,_,_,rfl,rfl,?_⟩
  refine⟨_,rfl,rA,_,rfl,.inl (SqL.of sep6.hr),fun lf nlf=>?_⟩
  have s7:Same H6 (upd H6 lf (.lst (L'.map fun x=>V.ref x.t))):=ar nlf
  have e7:(upd H6 lf (.lst (L'.map fun x=>V.ref x.t))) lf=some (.lst (L'.map fun x=>V.ref x.t)):=ag
  have sep7:=sep6.same s7
  have lfp:=sep6.dk.ne nlf
  generalize upd H6 lf (.lst (L'.map fun x=>V.ref x.t))=H7 at *
  refine⟨_,rfl,?_⟩
  dsimp only [gq,mP]
  refine bE _ _ _ _ _ _ _ _ _ ?_
  refine⟨_,rfl,lf,_,rfl,.inl (SqL.of e7),_,rfl,by rw [aeD];omega,by rw [aeD];omega,?_⟩
  intro D nD
  rw [afh]
  refine zA nD sep7.dk e7 lfp (by rw [aeD];omega) (fun x=>rfl) (fun x=>rfl) (fun x=>rfl) fun ys H8 pm hD8 dk8 B8=>?_
  obtain⟨L8,rfl,pm8⟩:=qf pm.symm (xs:=L') rfl
  have B68:adQ p lf H6 H8:=fun b u nb nl e=>B8 b u nb nl (s7 _ _ e)
  have nlo:∀ {b:Addr} {u:HO},H6 b=some u->b≠lf:=fun e=>af e nlf
  refine⟨by show 2<=sizeLine;decide,fun tt ntt=>?_⟩
  have s9:Same H8 (upd H8 tt (.tup [.ref kB,.ref D])):=ar ntt
  have e9:(upd H8 tt (.tup [.ref kB,.ref D])) tt=some (.tup [.ref kB,.ref D]):=ag
  generalize upd H8 tt (.tup [.ref kB,.ref D])=H9 at *
  have up:∀ {b:Addr} {u:HO},b≠p->H6 b=some u->H9 b=some u:=fun nb e=>s9 _ _ (B68 _ _ nb (nlo e) e)
  have m8:∀ x∈L8,x∈L':=fun x hx=>pm8.mem_iff.mp hx
  have U0:∀ k∈ks++ring3,bp k:=fun k h=>(aeI.mp h).elim (kk k) (uD k)
  refine k (.ref tt) (keys',L8.map (·.r)) H9 ⟨tt,kB,D,_,rfl,e9,up (sep6.ne (own_mem.mpr (.inl rfl))) sep6.hk,s9 _ _ hD8,by simp,fun i v r a b=>?_⟩ (yW U0 (.inr (by rw [aeG,kl];show n+3<=15;omega)) hk6 hkl6 (fun r hr=>?_) (by rw [aeD,pm8.length_eq];omega)) (dk8.same s9) ?_
  ·rw [aeP] at a b
   obtain⟨y,hy,rfl⟩:=agv.mp a
   rw [hy] at b
   cases b
   have my:=m8 y (afg hy)
   obtain⟨h1,h2,h3⟩:=sep6.it y my
   exact⟨y.t,y.d,y.w,rfl,up (sep6.dk.net h1) h1,up (sep6.ne (own_mem.mpr (.inr (.inr ⟨y,my,.inl rfl⟩)))) h2,up (sep6.ne (own_mem.mpr (.inr (.inr ⟨y,my,.inr rfl⟩)))) h3⟩
  ·obtain⟨y,hy,rfl⟩:=ae3.mp hr
   exact pl6 y (m8 y hy)
  ·exact B1.trans (B2.trans (B3.trans (B4.trans (sep6.but.trans fun b u nb e=>up nb e))))
theorem o7 (rs:List Rm):(List.range rs.length).map (bW rs)=rs:=by
 apply agM
 intro i
 rw [aeP]
 by_cases hi:i < rs.length
 ·rw [List.getElem?_range hi,ahS,eW hi]
 ·rw [agh (by rw [afs];omega),agh (by omega)]
  rfl
theorem abX {h:Hs}:Can h []↔kM h.1 h.2:=by
 unfold Can lH
 rw [zx,o7]
 exact Iff.rfl
theorem yf {h:Hs}(x:HouseD h)(f:kM h.1 h.2):∀ pp,¬ zi h pp
 | .few k a b,z=>by
  obtain⟨z1,z2,z3⟩:=z
  exact ((pN x).mp f).1 k (by unfold FewK;omega)
 | .shut ks,z=>by
  obtain⟨_,z1,z2,r,hr,z3⟩:=z
  have lk:=dW x r hr
  refine mY (dW x) (M:=fun y=>y ∉ ks) z1 (fun q hq nq y hy=>z2 q hq (fun k hk=>?_) y hy) (f.com r hr) (z3 _ (by rw [lk];simp))
  rw [dW x q hq] at hk
  rw [aeF.mp hk];exact nq
theorem yD {h:Hs}{k:Str}(f:FewK h k):zi h (.few k (((bg h).count k:Nat):Int) (((aK h).count k:Nat):Int)):=⟨by unfold FewK at f;omega,rfl,rfl⟩
theorem vH {h:Hs}(x:HouseD h){ss:List Str}(s:rJ h ss)(ne:ss≠[]):zi h (.shut ss):=by
 refine⟨⟨s.nd,bH s.so⟩,fun y hy z=>((s.mem y).mp z).2 (.key hy),fun r hr nk y hy z=>?_,?_⟩
 ·refine ((s.mem y).mp z).2 (Com.lock (dW x) hr ?_ hy)
  apply afP
  intro n
  exact nk (aA r) (by rw [dW x r hr];simp) ((s.mem _).mpr ⟨⟨r,hr,rfl⟩,n⟩)
 ·obtain⟨y,hy⟩:=ajb ss ne
  obtain⟨⟨r,hr,e⟩,_⟩:=(s.mem y).mp hy
  exact⟨r,hr,fun k hk=>by rw [dW x r hr] at hk;rw [aeF.mp hk,e];exact hy⟩
theorem uF (h:Hs):m9 h (List.range h.2.length)=h.1++h.2.flatMap (·.2):=by
 unfold m9
 congr 1
 conv=>rhs;rw [← o7 h.2]
 rw [List.flatMap_map]
theorem ql (h:Hs):cW h (List.range h.2.length)=h.2.map aA:=by
 unfold cW
 conv=>rhs;rw [← o7 h.2]
 rw [afZ]
 rfl
theorem ac5 {h:Hs}(x:HouseD h){o:List Nat}(g:Gone h.1 h.2 o)(p:o.Perm (List.range h.2.length)){j:Nat}(hj:j < h.2.length):aA h.2[j]∈((h.2.map aA).take j).foldl List.erase (h.1++h.2.flatMap (·.2)):=by
 have:=xS x (S:=List.range h.2.length) ⟨ajW,o,g,p⟩ (j:=j) (by rw [afs];exact hj)
 rw [List.getElem_range,ql,uF] at this
 have e:bW h.2 j=h.2[j]:=by
  have:=eW hj
  rw [aeC hj] at this
  exact (afG this).symm
 rw [e] at this
 exact this
theorem zq {h:Hs}(x:HouseD h){o:List Nat}(g:Gone h.1 h.2 o)(p:o.Perm (List.range h.2.length)):((h.2.map aA).foldl List.erase (h.1++h.2.flatMap (·.2))).Perm (bf h.1 h.2 o):=by
 have:=oe x g p
 unfold jH at this
 rw [ql,uF] at this
 exact this
theorem t6 (l:List Str)(b:List Str){j:Nat}(hj:j < l.length):(l.take (j+1)).foldl List.erase b=((l.take j).foldl List.erase b).erase l[j]:=by
 rw [afc,aeC hj,agZ,aic]
 rfl
theorem ve (rs:List Rm){j:Nat}(hj:j < rs.length):(rs.take (j+1)).flatMap (·.2)=(rs.take j).flatMap (·.2)++rs[j].2:=by
 rw [afc,aeC hj,agZ,afB]
 simp
def si:Sp:=fun vs H Q _=>∃ (v:V) (h:Hs),vs=[v]/\HouseAt H v h/\HouseD h/\h.2.length<=8/\∀ H',Same H H'->Q (.bl true) H'
inductive LfI (v:V)(tA:Addr)(c:V)(H Hb:Hp)(hand:List Str)(σ:L2.St)(H':Hp):Prop
 | mk (l:Addr) (x4 x5:Option V):σ=[some v,some c,some (.ref tA),some (.ref l),x4,x5]->Same Hb H'->H' l=some (.lst (hand.map V.str))->Hb l=none->LfI v tA c H Hb hand σ H'
inductive RmI (v:V)(tA l:Addr)(c:V)(Hb:Hp)(hand:List Str)(σ:L2.St)(H':Hp):Prop
 | mk (x4 x5:Option V):σ=[some v,some c,some (.ref tA),some (.ref l),x4,x5]->But l Hb H'->H' l=some (.lst (hand.map V.str))->RmI v tA l c Hb hand σ H'
theorem bK:aO ["house","can","told","left","locks","keys"] ["house"] (aq cD):=⟨rfl,rfl,rfl,by decide +kernel,rfl,by decide +kernel,by decide +kernel⟩
theorem mN:(["paper","house"]:List Str).Nodup:=by decide +kernel
theorem zj {f fS fT fB fK fN fH fP:Addr}{fd fdS fdT fdB fdK fdN fdH fdP:FuncData}(F:Fun K "_law_right" "_law_right" cD f fd)(sW:aV P w K mg base CX0 1 fS fdS ["house","first"] yg)(gg:Cal K mg "_law_sets" ["house","first"] fS fdS)
 (nV:aV P w K mg base CX0 9 fT fdT ["house"] w9)(dH:Cal K mg "told_opening" ["house"] fT fdT)(ki:aV P w K mg base CX0 9 fB fdB ["house","paper"] yo)(cx:Cal K mg "bars_house" ["house","paper"] fB fdB)
 (vD:aV P w K mg base CX0 8 fK fdK ["house","order"] tU)(gG:Cal K mg "is_stuck" ["house","order"] fK fdK)(ij:aV P w K mg base CX0 7 fN fdN ["house","order"] o6)(bP:Cal K mg "next_rooms" ["house","order"] fN fdN)
 (oZ:aV P w K mg base CX0 7 fH fdH ["house","order"] sd)(eB:Cal K mg "keys_behind" ["house","order"] fH fdH)(pI:aV P w K mg base CX0 8 fP fdP ["house"] pF)(eE:Cal K mg "_law_papers" ["house"] fP fdP)
 (aY:mg "len" = none)(bV:mg "list" = none)(aS:mg "sorted" = none):aV P w K mg base CX0 10 f fd ["house"] si:=by
 refine F.ok bK (fun vs H Q E h=>?_) (fun cdv A outer s H vs Q E hr h=>?_)
 ·obtain⟨v,h,rfl,_⟩:=h
  rfl
 ·have hu:=m7 hr
  obtain⟨v,h,rfl,hh,hD,h8,q⟩:=h
  refine⟨_,(ak (aI (i:=1) bK.nd rfl (Or.inl rfl) (i6 hu (ax sW (hr.mono (show 1<=9 by decide)) rfl gg.mg gg.kp gg.b .nil aP (ae (pv 0) (ae iV ai))) adE (fun _ _=>rfl)))
   (ak (aI (i:=2) bK.nd rfl (Or.inl rfl) (ax nV hr rfl dH.mg dH.kp dH.b .nil aP (ae (pv 0) ai)))
   (ak (cU (aX zf (cV gB (aT bu (pv 2) av (fun _ _=>rfl)) cP (bj _)) (pv 1) (bj _))
    (au (aN iJ)) aU)
   (ak (cU (eF (d6 (pv 1)))
    (au (aN (cV acj (ax ki hr rfl cx.mg cx.kp cx.b .nil aP (ae (pv 0) (ae (pv 2) ai))) iJ (bj _)))) aU)
   (ak (cU (PW.pt (qF (eF (d6 (ax vD (hr.mono (show 8<=9 by decide)) rfl gG.mg gG.kp gG.b .nil aP (ae (pv 0) (ae (aT bu (pv 2) av (fun _ _=>rfl)) ai))))) (qF (aX kj (ax ij (hr.mono (show 7<=9 by decide)) rfl bP.mg bP.kp bP.b .nil aP (ae (pv 0) (ae (aT bu (pv 2) av (fun _ _=>rfl)) ai))) iV (bj _)) (oh (aX zf (aw az rfl aY ae8 (ae (aT bu (pv 2) av (fun _ _=>rfl)) ai)) (aw az rfl aY ae8 (ae (aT bu (pv 0) av (fun _ _=>rfl)) ai)) (bj _))))))
    (au (aN iJ)) aU)
   (ak (aI (i:=3) bK.nd rfl (Or.inl rfl) (bF b9 rfl bV (by decide +kernel) (ae (aT bu (pv 0) av (fun _ _=>rfl)) ai)))
   (ak (bB (dU afl rfl (bT (aT bu (pv 0) av (fun _ _=>rfl))) (eG rfl (aG (ay (i:=4) bK.nd rfl (Or.inl rfl)) (aG (ay (i:=5) bK.nd rfl (Or.inl rfl)) bY)))
    (au (aI (i:=3) bK.nd rfl (Or.inl rfl) (bq n4 (pv 3) (pv 5))))))
   (ak (bB (dU afl rfl (bT (aT bu (pv 0) av (fun _ _=>rfl))) (eG rfl (aG (ay (i:=4) bK.nd rfl (Or.inl rfl)) (aG (ay (i:=5) bK.nd rfl (Or.inl rfl)) bY)))
    (au (bC (fw aeS ahN ahO lI (pv 3) (ae (aT bD (pv 4) av (fun _ _=>rfl)) ai))))))
   (ak (cU (aX kj (ax oZ (hr.mono (show 7<=9 by decide)) rfl eB.mg eB.kp eB.b .nil aP (ae (pv 0) (ae (aT bu (pv 2) av (fun _ _=>rfl)) ai))) (aw j7 rfl aS agO (ae (pv 3) ai)) (bj _))
    (au (aN iJ)) aU)
   (au (aN (cV uL (lx (tg:=.Name "paper" _) (outer:=aq (cD)) (N:=["house","can","told","left","locks","keys"]) (N':=["paper","house"]) (nl:=1) (ix:=[0]) rfl rfl rfl (bT (ax pI (hr.mono (show 8<=9 by decide)) rfl eE.mg eE.kp eE.b .nil aP (ae (pv 0) ai)))
    (fun _ _ _ _=>(ay (i:=0) mN rfl (Or.inl rfl) (.inr rfl))) (fun _ _ _ _=>(jd (d6 (ax ki hr rfl cx.mg cx.kp cx.b .nil aP (ae (pv 1) (ae (pv 0) ai))))))
    (fun _ _ _ _=>(pv 0))) iV (bj _))))))))))))),?_⟩
  refine⟨_,rfl,ae2 _,fun l0 n0=>?_⟩
  have s1:=ar (o:=.lst []) n0
  refine⟨v,l0,h,rfl,hh.same s1,hD,h8,ag,fun g gvs H2 s2 ng hg gd=>?_⟩
  have S2:=s1.trans s2
  obtain⟨c,cv,ci⟩:=gd [] [] (fun j i e=>by simp at e) (.refl _) .nil
  have ci':c=true↔kM h.1 h.2:=ci.trans ((pP hD (fun j i e=>by simp at e) (.refl _)).trans abX)
  clear ci gd
  refine⟨ae2 _,fun t0 nt=>?_⟩
  have s3:=ar (o:=.tup []) nt
  have S3:=S2.trans s3
  refine⟨g,.bl c,rfl,by rw [← cv];exact DGet.t (s3 _ _ hg) ag,?_⟩
  generalize upd H2 t0 (.tup [])=H3 at *
  clear s1 s2 s3 n0 nt hg cv ng S2
  refine⟨_,rfl,v,h,rfl,hh.same S3,hD,fun tA x H4 s4 ta tok=>?_⟩
  have S4:=S3.trans s4
  have hh4:=hh.same S4
  clear S3
  cases x with
  | few k =>
   have fk:FewK h k:=tok.1
   have ec:c=false:=by
    cases c with
    | false=>rfl
    | true=>exact absurd fk (((pN hD).mp (ci'.mp rfl)).1 k)
   subst ec
   refine⟨_,rfl,tA,_,0,.str "few",rfl,rfl,SqT.of ta,rfl,rfl,_,rfl,rfl,false,rfl,gu ?_⟩
   refine⟨_,rfl,false,rfl,gU ?_⟩
   have c1:(bg h).count k<=(bg h).length:=ahH
   have c2:(aK h).count k<=(aK h).length:=ahH
   have nk:=hD.nk
   have nl:=hD.nl
   have kin:k∈aK h:=afF.mp (by unfold FewK at fk;omega)
   refine⟨_,rfl,_,rfl,v,.ref tA,h,.few k _ _,rfl,hh4,hD,⟨tA,rfl,ta⟩,⟨oR hD (.inr kin),by omega,by omega,by omega,by omega⟩,fun c2 H5 s5 hc2=>⟨c2,true,rfl,rfl,?_⟩⟩
   rw [hc2.mpr (yD fk)]
   exact q _ (S4.trans s5)
  | shut ss =>
   obtain⟨l,nl,ht,hl⟩:=ta
   obtain⟨_,sh,ne⟩:=tok
   have ec:c=false:=by
    cases c with
    | false=>rfl
    | true=>exact absurd ((uv sh).mpr (ci'.mp rfl).com) ne
   subst ec
   refine⟨_,rfl,tA,_,0,.str "shut",rfl,rfl,SqT.of ht,rfl,rfl,_,rfl,rfl,false,rfl,gu ?_⟩
   refine⟨_,rfl,false,rfl,gU ?_⟩
   have lin:∀ x∈ss,x∈aK h:=fun x hx=>by
    obtain⟨⟨r,hr,e⟩,_⟩:=(sh.mem x).mp hx
    exact afN.mpr ⟨r,hr,by rw [dW hD r hr,e];simp⟩
   obtain⟨U,ul,inU⟩:=hD.few
   have ssl:ss.length<=62:=afk (aF (U:=U) sh.nd fun x hx=>inU x (.inr (lin x hx))) ul
   refine⟨_,rfl,_,rfl,v,.ref tA,h,.shut ss,rfl,hh4,hD,⟨tA,l,rfl,ht,hl⟩,⟨fun k hk=>oR hD (.inr (lin k hk)),ssl⟩,fun c2 H5 s5 hc2=>⟨c2,true,rfl,rfl,?_⟩⟩
   rw [hc2.mpr (vH hD sh ne)]
   exact q _ (S4.trans s5)
  | all o =>
   obtain⟨lo,nlo,ht,hlo⟩:=ta
   obtain⟨nf,sh,gr⟩:=tok
   have fine:kM h.1 h.2:=(pN hD).mpr ⟨nf,(uv sh).mp rfl⟩
   have ec:c=true:=ci'.mpr fine
   subst ec
   have gone:=wa hD fine gr
   have perm:=gr.perm
   have ol:o.length=h.2.length:=by rw [perm.length_eq,afs]
   clear nlo nf sh ci' s4
   refine⟨_,rfl,tA,_,0,.str "all",rfl,rfl,SqT.of ht,rfl,rfl,_,rfl,rfl,false,rfl,gu ?_⟩
   refine⟨_,rfl,true,rfl,gu ?_⟩
   refine⟨_,rfl,_,rfl,tA,_,1,.ref lo,rfl,rfl,SqT.of ht,rfl,v,lo,h,o,rfl,hh4,hD.ok,hlo,gone,by omega,fun H5 s5=>⟨_,rfl,?_⟩⟩
   rw [qH gr]
   refine gu ?_
   have S5:=S4.trans s5
   refine⟨_,rfl,_,rfl,tA,_,1,.ref lo,rfl,rfl,SqT.of (s5 _ _ ht),rfl,v,lo,h,o,rfl,hh4.same s5,hD.ok,s5 _ _ hlo,gone,by omega,fun l6 H6 s6 n6 e6=>?_⟩
   rw [qH gr] at e6
   refine⟨ae2 _,fun l7 n7=>?_⟩
   have s7:=ar (o:=.lst []) n7
   have e7:(upd H6 l7 (.lst [])) l7=some (.lst []):=ag
   have S7:=S5.trans (s6.trans s7)
   have k7:=s5.trans (s6.trans s7)
   have e67:=s7 _ _ e6
   generalize upd H6 l7 (.lst [])=H7 at *
   refine iF e67 .nil rfl e7 hu ⟨_,rfl,gu ?_⟩
   have ht7:=k7 _ _ ht
   have hlo7:=k7 _ _ hlo
   have hh7:=hh.same S7
   clear s5 s6 s7 S5 n6 n7 e6 e67 e7 ht hlo hh4 S4 k7
   obtain⟨t,a,r,us,rfl,ht,ha,hrr,hR⟩:=id hh7
   refine⟨_,rfl,tA,_,1,.ref lo,rfl,rfl,SqT.of ht7,rfl,lo,_,rfl,.inl (SqL.of hlo7),?_⟩
   refine⟨_,rfl,t,_,1,.ref r,rfl,rfl,SqT.of ht,rfl,r,_,rfl,.inl (SqL.of hrr),rfl,_,rfl,?_⟩
   rw [show (aC o).length=us.length by rw [hR.1];unfold aC;rw [aeD,ol],afi rfl]
   refine gu ?_
   refine⟨_,rfl,t,_,0,.ref a,rfl,rfl,SqT.of ht,rfl,a,_,rfl,.inl (SqL.of ha),fun l8 n8=>?_⟩
   have s8:=ar (o:=.lst (h.1.map V.str)) n8
   have e8:(upd H7 l8 (.lst (h.1.map V.str))) l8=some (.lst (h.1.map V.str)):=ag
   show bJ 3 (V.ref l8) _ (upd H7 l8 (.lst (h.1.map V.str))) _
   generalize upd H7 l8 (.lst (h.1.map V.str))=H8 at *
   have bound:∀ j,(h.1++(h.2.take j).flatMap (·.2)).length<=10000:=fun j=>by
    have h1:((h.2.take j).flatMap (·.2)).length<=1000 * (h.2.take j).length:=lJ fun q hq=>(hD.ok.rs q (afA hq)).kl
    have:=hD.ok.kl
    rw [ae9] at h1
    rw [aeG]
    omega
   refine⟨fun σ' H'=>LfI (.ref t) tA (.bl true) H H7 (h.1++h.2.flatMap (·.2)) σ' H',?_,?_⟩
   rotate_left
   ·refine⟨_,rfl,t,_,1,.ref r,rfl,rfl,SqT.of (s8 _ _ ht),rfl,r,rfl,⟨_,SqL.of (s8 _ _ hrr)⟩,?_⟩
    refine eR (xs:=us) (fun j σ' H'=>LfI (.ref t) tA (.bl true) H H7 (h.1++(h.2.take j).flatMap (·.2)) σ' H') ⟨l8,_,_,rfl,s8,by rw [e8];simp,n8⟩ (fun j σ H' _ ⟨_,_,_,_,sm,_,_⟩=>SqL.of (sm _ _ hrr)) ?_ (fun σ H' z=>by rw [hR.1,afm] at z;exact z)
    rintro j x σ H9 hx ⟨l9,x4,x5,rfl,sm,hl9,nl9⟩
    have hi:j < us.length:=(aeJ.mp hx).1
    have hi':j < h.2.length:=by rw [← hR.1];exact hi
    obtain⟨tt,aa,bb,rfl,g1,g2,g3⟩:=(hR.2 j x _ hx (aeC hi')).same sm
    refine⟨tt,_,rfl,SqT.of g1,rfl,.ref aa,[.ref bb],rfl,.ref bb,[],rfl,rfl,?_⟩
    have b1:=bound j
    have b2:=(hD.ok.rs _ (afa hi')).kl
    refine⟨_,rfl,_,rfl,l9,bb,_,_,rfl,rfl,hl9,g3,by rw [aeD,aeD];exact afb (aff (by omega:_<=20000) (by decide)),fun l10 n10=>?_⟩
    exact⟨l10,_,_,rfl,sm.trans (ar n10),by rw [ag,ve h.2 hi'];simp only [aeO,aeW],sm.free n10⟩
   rintro σ H9 ⟨l9,x4,x5,rfl,s9,hl9,nl9⟩
   clear s8 e8 n8
   refine⟨fun σ' H'=>RmI (.ref t) tA l9 (.bl true) H9 ((h.2.map aA).foldl List.erase (h.1++h.2.flatMap (·.2))) σ' H',?_,?_⟩
   rotate_left
   ·refine⟨_,rfl,t,_,1,.ref r,rfl,rfl,SqT.of (s9 _ _ ht),rfl,r,rfl,⟨_,SqL.of (s9 _ _ hrr)⟩,?_⟩
    have rl9:r≠l9:=af hrr nl9
    refine eR (xs:=us) (fun j σ' H'=>RmI (.ref t) tA l9 (.bl true) H9 (((h.2.map aA).take j).foldl List.erase (h.1++h.2.flatMap (·.2))) σ' H') ⟨x4,x5,rfl,fun b u _ e=>e,hl9⟩ (fun j σ H' _ ⟨_,_,_,B,_⟩=>SqL.of (B _ _ rl9 (s9 _ _ hrr))) ?_ (fun σ H' z=>by rw [hR.1,← aeD (f:=aA) (as:=h.2),afm] at z;exact z)
    rintro j x σ H10 hx ⟨x4,x5,rfl,B,hl10⟩
    have hi:j < us.length:=(aeJ.mp hx).1
    have hi':j < h.2.length:=by rw [← hR.1];exact hi
    have hj2:j < (h.2.map aA).length:=by rw [aeD];exact hi'
    obtain⟨tt,aa,bb,rfl,g1,g2,g3⟩:=hR.2 j x _ hx (aeC hi')
    have sm10:∀ b u,H7 b=some u->H10 b=some u:=fun b u e=>B b u (af e nl9) (s9 _ _ e)
    rw [dW hD _ (afa hi')] at g2
    refine⟨tt,_,rfl,SqT.of (sm10 _ _ g1),rfl,.ref aa,[.ref bb],rfl,.ref bb,[],rfl,rfl,?_⟩
    refine⟨_,rfl,.inl ⟨rfl,_,SqL.of hl10⟩,_,rfl,aa,_,0,.str (aA h.2[j]),rfl,rfl,SqL.of (sm10 _ _ g2),rfl,l9,_,_,rfl,rfl,hl10,ac5 hD gone perm hi',?_⟩
    exact⟨_,_,rfl,fun b u nb e=>by rw [ah nb];exact B b u nb e,by rw [ag,t6 _ _ hj2,List.getElem_map]⟩
   rintro σ H10 ⟨x4',x5',rfl,B10,hl10⟩
   have s10:Same H7 H10:=fun b u e=>B10 b u (af e nl9) (s9 _ _ e)
   have S10:=S7.trans s10
   clear hl9 B10 s9
   refine⟨_,rfl,_,rfl,tA,_,1,.ref lo,rfl,rfl,SqT.of (s10 _ _ ht7),rfl,.ref t,lo,h,o,rfl,hh7.same s10,hD.ok,s10 _ _ hlo7,gone,by omega,fun l11 ss H11 s11 n11 pm so e11=>?_⟩
   have hl11:=s11 _ _ hl10
   have apm:=zq hD gone perm
   have hkk:∀ k∈bf h.1 h.2 o,bp k:=ot (fun r hr=>(hD.ok.rs r hr).kk) o h.1 hD.ok.kk
   have hfew:=pQ hD.ok (order:=o) (by omega)
   refine⟨_,rfl,l9,_,rfl,SqL.of hl11,by rw [apm.length_eq];exact afb (aff hfew (by decide)),fun l12 ss2 n12 pm2 so2=>?_⟩
   have s12:=ar (o:=.lst (ss2.map V.str)) n12
   have e12:(upd H11 l12 (.lst (ss2.map V.str))) l12=some (.lst (ss2.map V.str)):=ag
   have S12:=S10.trans (s11.trans s12)
   have e112:=s12 _ _ e11
   generalize upd H11 l12 (.lst (ss2.map V.str))=H12 at *
   have ess:ss=ss2:=iC so (bH so2) (pm.trans (apm.symm.trans pm2.symm))
   subst ess
   have kss:∀ k∈ss,bp k:=fun k hk=>hkk k (pm.mem_iff.mp hk)
   refine vc e112 e12 kss kss hu fun c hc=>?_
   have ec:c=false:=by
    cases c with
    | false=>rfl
    | true=>exact absurd rfl (hc.mp rfl)
   subst ec
   refine⟨_,rfl,gu ?_⟩
   have hh12:=hh7.same (s10.trans (s11.trans s12))
   dsimp only [uc,wy,tOp]
   refine bE _ _ _ _ _ _ _ _ _ ?_
   refine⟨_,rfl,.ref t,h,rfl,hh12,hD,fun D ps H13 s13 hDp pa pl=>⟨D,rfl,⟨_,SqL.of hDp⟩,?_⟩⟩
   intro L nL
   have fb:=yf hD fine
   refine cZ (xs:=nE ps) (fun i ys H'=>ys=[]/\H' L=some (.lst ys)/\Same H13 H') ⟨rfl,ag,ar nL⟩ (fun i ys H' z=>z.2.1) (fun i ys H' z=>SqL.of (z.2.2 _ _ hDp)) ?_ ?_
   ·rintro i ys H14 x hx ⟨rfl,hL,s14⟩
    have hi:=(aeJ.mp hx).1
    have hi':i < ps.length:=by unfold nE at hi;rwa [aeD] at hi
    unfold nE at hx
    rw [aeP,aeC hi'] at hx
    cases hx
    obtain⟨pa1,pa2⟩:=pa _ (afa hi')
    unfold bL bJ
    refine⟨⟨rfl,rfl⟩,_,rfl,_,rfl,.ref t,.ref ps[i].1,h,ps[i].2,rfl,(hh12.same s13).same s14,hD,pa1.same s14,pa2,fun c H15 s15 hc=>⟨c,rfl,?_⟩⟩
    have ec:c=false:=by
     cases c with
     | false=>rfl
     | true=>exact absurd (hc.mp rfl) (fb _)
    subst ec
    exact gu (nx hi ⟨rfl,s15 _ _ hL,s14.trans s15⟩)
   rintro ys H14 ⟨rfl,hL,s14⟩
   refine⟨ae2 _,fun lz nz=>?_⟩
   have s15:=ar (o:=.lst []) nz
   exact uU (s15 _ _ hL) .nil rfl ag hu (q _ (S12.trans (s13.trans (s14.trans s15))))
def zD (K:PySem.W.Frag):Sp:=fun vs H Q _=>∃ (a:Addr) (ns:List Int),vs=[.ref a]/\SqL K H a (ns.map V.int)/\ns.length<=63/\∀ H',Q (.bl true) H'
inductive LwI (a:Addr)(H:Hp)(σ':L2.St)(H':Hp):Prop
 | mk (x1:Option V):σ'=[some (.ref a),x1]->Same H H'->LwI a H σ' H'
theorem aaQ:aO ["script","k"] ["script"] (aq acG):=⟨rfl,rfl,rfl,by decide +kernel,rfl,by decide +kernel,by decide +kernel⟩
theorem acO {f fC fD fH fR:Addr}{fd fdC fdD fdH fdR:FuncData}(F:Fun K "law" "law" aaR f fd)(nu:aV P w K mg base CX0 1 fC fdC ["script","k"] (yc K))(dy:Cal K mg "_law_cell_at" ["script","k"] fC fdC)
 (sD:aV P w K mg base CX0 2 fD fdD ["cell","many"] yA)(fY:Cal K mg "_law_deck" ["cell","many"] fD fdD)
 (qK:aV P w K mg base CX0 4 fH fdH ["deck","most"] (oW 0))(eX:Cal K mg "_law_house" ["deck","most"] fH fdH)
 (rq:aV P w K mg base CX0 10 fR fdR ["house"] si)(fm:Cal K mg "_law_right" ["house"] fR fdR)
 (bh:mg "range" = none)(aY:mg "len" = none)(wb:mg "min" = none)(abb:mg "max" = none):aV P w K mg base CX0 11 f fd ["script"] (zD K):=by
 refine F.ok aaQ (fun vs H Q E h=>?_) (fun cdv A outer s H vs Q E hr h=>?_)
 ·obtain⟨a,ns,rfl,_⟩:=h
  rfl
 ·obtain⟨a,ns,rfl,hS,hn,k⟩:=h
  refine⟨_,(ak (bB (dU afl rfl (cg rfl bh (ae (aw (yV rfl) rfl abb (by decide +kernel) (ae av (ae (aw (qP rfl) rfl wb (by decide +kernel) (ae (aw az rfl aY ae8 (ae (pv 0) ai)) (ae av ai))) ai))) ai)) (ay (i:=1) aaQ.nd rfl (Or.inl rfl))
   (au (cU (eF (d6 (ax rq hr rfl fm.mg fm.kp fm.b .nil aP (ae (ax qK (hr.mono (show 4<=10 by decide)) rfl eX.mg eX.kp eX.b .nil aP (ae (ax sD (hr.mono (show 2<=10 by decide)) rfl fY.mg fY.kp fY.b .nil aP (ae (ax nu (hr.mono (show 1<=10 by decide)) rfl dy.mg dy.kp dy.b .nil aP (ae (pv 0) (ae (pv 1) ai))) (ae av ai))) (ae av ai))) ai))))
    (au (aN iJ)) aU))))
   (au (aN iJ))),?_⟩
  try dsimp only [wj,Cx.nox]
  refine⟨fun σ' H'=>LwI a H σ' H',?_,?_⟩
  ·rintro σ H2 ⟨x1,rfl,sm⟩
   exact k _
  generalize hL:((ns.map V.int).length:Int)=L
  have mx:∃ m:Nat,(if (if 4 < L then 4 else L) > 1 then (if 4 < L then 4 else L) else 1)=(m:Int)/\m<=4:=by
   refine⟨((if (if 4 < L then 4 else L) > 1 then (if 4 < L then 4 else L) else 1):Int).toNat,?_,?_⟩<;>split<;>split<;>omega
  obtain⟨m,em,hm⟩:=mx
  subst hL
  refine⟨_,rfl,a,_,rfl,.inl hS,_,4,rfl,1,_,rfl,(m:Int),aft (fun z=>[V.int z]) em,by omega,by omega,?_⟩
  rw [afh]
  refine gC (fun i σ' H'=>LwI a H σ' H') ⟨none,rfl,Same.refl H⟩ ?_ (fun σ' H' z=>z)
  rintro i σ H2 hi ⟨x1,rfl,sm⟩
  refine⟨_,rfl,_,rfl,a,i,ns,aft (fun z=>[V.ref a,V.int z]) (show (0+(i:Int))=(i:Int) by omega),sm.seq hS,fun cell=>?_⟩
  refine⟨cell,280,rfl,by decide,by decide,fun p H3 np s3 dk3=>?_⟩
  refine⟨p,5,rfl,dk3,ae2 _,by decide,fun v h H4 hh dr dk4 b4=>?_⟩
  obtain⟨U,e,hU⟩:=dr
  have rl:=e.rl
  have hD:HouseD h:=HouseE.houseD e (by omega) (by omega)
  refine⟨v,h,rfl,hh,hD,rl,fun H5 s5=>⟨true,rfl,gu ?_⟩⟩
  exact⟨_,rfl,fun b u e=>s5 _ _ (b4 b u (af (sm b u e) np) (s3 _ _ (sm b u e)))⟩
end
set_option autoImplicit true in
theorem all_mk {l:PySem.W.OpenLaw}{w:World}{K:PySem.W.Frag}{h:Heap}{mg:Str->Option Value}{fa f1 f2 f3 f4 f5 f6 f7 f8 f9 f10 f11 f12 f13 f14 f15 f16 f17 f18 f19 f20 f21 f22 f23 f24 f25 f26 f27 f28 f29 f30 f31 f32 f33 f34 f35 f36 f37 f38 f39 f40:Addr}(X:K.In h)(G:h.Ns mainGlobals mg)(hfa:mg "law" = some (.ref fa))
 (a1:PySem.W.nsIn K mainGlobals "is_whole" = some (some (.ref f1)))(l1:K.lookup f1=some ⟨oc1,od1,.func (PySem.W.fnOf "is_whole" "is_whole" (aM dO) (aH dO) (aq dO) .none kV1 dc1 pm1 an1 cd1 ct1),sl1⟩)(c1:PySem.W.codeIn K cd1 "is_whole" = true)(k1:PySem.W.keepIn K (.ref f1)=true)
 (a2:PySem.W.nsIn K mainGlobals "is_kind" = some (some (.ref f2)))(l2:K.lookup f2=some ⟨oc2,od2,.func (PySem.W.fnOf "is_kind" "is_kind" (aM lS) (aH lS) (aq lS) .none kV2 dc2 pm2 an2 cd2 ct2),sl2⟩)(c2:PySem.W.codeIn K cd2 "is_kind" = true)(k2:PySem.W.keepIn K (.ref f2)=true)
 (a3:PySem.W.nsIn K mainGlobals "are_kinds" = some (some (.ref f3)))(l3:K.lookup f3=some ⟨oc3,od3,.func (PySem.W.fnOf "are_kinds" "are_kinds" (aM iL) (aH iL) (aq iL) .none kV3 dc3 pm3 an3 cd3 ct3),sl3⟩)(c3:PySem.W.codeIn K cd3 "are_kinds" = true)(k3:PySem.W.keepIn K (.ref f3)=true)
 (a4:PySem.W.nsIn K mainGlobals "are_locks" = some (some (.ref f4)))(l4:K.lookup f4=some ⟨oc4,od4,.func (PySem.W.fnOf "are_locks" "are_locks" (aM n9) (aH n9) (aq n9) .none kV4 dc4 pm4 an4 cd4 ct4),sl4⟩)(c4:PySem.W.codeIn K cd4 "are_locks" = true)(k4:PySem.W.keepIn K (.ref f4)=true)
 (a5:PySem.W.nsIn K mainGlobals "is_room" = some (some (.ref f5)))(l5:K.lookup f5=some ⟨oc5,od5,.func (PySem.W.fnOf "is_room" "is_room" (aM vG) (aH vG) (aq vG) .none kV5 dc5 pm5 an5 cd5 ct5),sl5⟩)(c5:PySem.W.codeIn K cd5 "is_room" = true)(k5:PySem.W.keepIn K (.ref f5)=true)
 (a6:PySem.W.nsIn K mainGlobals "is_house" = some (some (.ref f6)))(l6:K.lookup f6=some ⟨oc6,od6,.func (PySem.W.fnOf "is_house" "is_house" (aM iO) (aH iO) (aq iO) .none kV6 dc6 pm6 an6 cd6 ct6),sl6⟩)(c6:PySem.W.codeIn K cd6 "is_house" = true)(k6:PySem.W.keepIn K (.ref f6)=true)
 (a7:PySem.W.nsIn K mainGlobals "require_house" = some (some (.ref f7)))(l7:K.lookup f7=some ⟨oc7,od7,.func (PySem.W.fnOf "require_house" "require_house" (aM ab5) (aH ab5) (aq ab5) .none kV7 dc7 pm7 an7 cd7 ct7),sl7⟩)(c7:PySem.W.codeIn K cd7 "require_house" = true)(k7:PySem.W.keepIn K (.ref f7)=true)
 (a8:PySem.W.nsIn K mainGlobals "is_plain" = some (some (.ref f8)))(l8:K.lookup f8=some ⟨oc8,od8,.func (PySem.W.fnOf "is_plain" "is_plain" (aM dP) (aH dP) (aq dP) .none kV8 dc8 pm8 an8 cd8 ct8),sl8⟩)(c8:PySem.W.codeIn K cd8 "is_plain" = true)(k8:PySem.W.keepIn K (.ref f8)=true)
 (a9:PySem.W.nsIn K mainGlobals "require_plain" = some (some (.ref f9)))(l9:K.lookup f9=some ⟨oc9,od9,.func (PySem.W.fnOf "require_plain" "require_plain" (aM b6) (aH b6) (aq b6) .none kV9 dc9 pm9 an9 cd9 ct9),sl9⟩)(c9:PySem.W.codeIn K cd9 "require_plain" = true)(k9:PySem.W.keepIn K (.ref f9)=true)
 (a10:PySem.W.nsIn K mainGlobals "serves" = some (some (.ref f10)))(l10:K.lookup f10=some ⟨oc10,od10,.func (PySem.W.fnOf "serves" "serves" (aM fU) (aH fU) (aq fU) .none kV10 dc10 pm10 an10 cd10 ct10),sl10⟩)(c10:PySem.W.codeIn K cd10 "serves" = true)(k10:PySem.W.keepIn K (.ref f10)=true)
 (a11:PySem.W.nsIn K mainGlobals "hand_behind" = some (some (.ref f11)))(l11:K.lookup f11=some ⟨oc11,od11,.func (PySem.W.fnOf "hand_behind" "hand_behind" (aM cQ) (aH cQ) (aq cQ) .none kV11 dc11 pm11 an11 cd11 ct11),sl11⟩)(c11:PySem.W.codeIn K cd11 "hand_behind" = true)(k11:PySem.W.keepIn K (.ref f11)=true)
 (a12:PySem.W.nsIn K mainGlobals "is_step" = some (some (.ref f12)))(l12:K.lookup f12=some ⟨oc12,od12,.func (PySem.W.fnOf "is_step" "is_step" (aM fz) (aH fz) (aq fz) .none kV12 dc12 pm12 an12 cd12 ct12),sl12⟩)(c12:PySem.W.codeIn K cd12 "is_step" = true)(k12:PySem.W.keepIn K (.ref f12)=true)
 (a13:PySem.W.nsIn K mainGlobals "hand_after" = some (some (.ref f13)))(l13:K.lookup f13=some ⟨oc13,od13,.func (PySem.W.fnOf "hand_after" "hand_after" (aM dn) (aH dn) (aq dn) .none kV13 dc13 pm13 an13 cd13 ct13),sl13⟩)(c13:PySem.W.codeIn K cd13 "hand_after" = true)(k13:PySem.W.keepIn K (.ref f13)=true)
 (a14:PySem.W.nsIn K mainGlobals "keys_behind" = some (some (.ref f14)))(l14:K.lookup f14=some ⟨oc14,od14,.func (PySem.W.fnOf "keys_behind" "keys_behind" (aM cT) (aH cT) (aq cT) .none kV14 dc14 pm14 an14 cd14 ct14),sl14⟩)(c14:PySem.W.codeIn K cd14 "keys_behind" = true)(k14:PySem.W.keepIn K (.ref f14)=true)
 (a15:PySem.W.nsIn K mainGlobals "next_rooms" = some (some (.ref f15)))(l15:K.lookup f15=some ⟨oc15,od15,.func (PySem.W.fnOf "next_rooms" "next_rooms" (aM cJ) (aH cJ) (aq cJ) .none kV15 dc15 pm15 an15 cd15 ct15),sl15⟩)(c15:PySem.W.codeIn K cd15 "next_rooms" = true)(k15:PySem.W.keepIn K (.ref f15)=true)
 (a16:PySem.W.nsIn K mainGlobals "is_stuck" = some (some (.ref f16)))(l16:K.lookup f16=some ⟨oc16,od16,.func (PySem.W.fnOf "is_stuck" "is_stuck" (aM eK) (aH eK) (aq eK) .none kV16 dc16 pm16 an16 cd16 ct16),sl16⟩)(c16:PySem.W.codeIn K cd16 "is_stuck" = true)(k16:PySem.W.keepIn K (.ref f16)=true)
 (a17:PySem.W.nsIn K mainGlobals "kinds_counted" = some (some (.ref f17)))(l17:K.lookup f17=some ⟨oc17,od17,.func (PySem.W.fnOf "kinds_counted" "kinds_counted" (aM eQ) (aH eQ) (aq eQ) .none kV17 dc17 pm17 an17 cd17 ct17),sl17⟩)(c17:PySem.W.codeIn K cd17 "kinds_counted" = true)(k17:PySem.W.keepIn K (.ref f17)=true)
 (a18:PySem.W.nsIn K mainGlobals "rooms_by_lock" = some (some (.ref f18)))(l18:K.lookup f18=some ⟨oc18,od18,.func (PySem.W.fnOf "rooms_by_lock" "rooms_by_lock" (aM bZ) (aH bZ) (aq bZ) .none kV18 dc18 pm18 an18 cd18 ct18),sl18⟩)(c18:PySem.W.codeIn K cd18 "rooms_by_lock" = true)(k18:PySem.W.keepIn K (.ref f18)=true)
 (a19:PySem.W.nsIn K mainGlobals "reached" = some (some (.ref f19)))(l19:K.lookup f19=some ⟨oc19,od19,.func (PySem.W.fnOf "reached" "reached" (aM dQ) (aH dQ) (aq dQ) .none kV19 dc19 pm19 an19 cd19 ct19),sl19⟩)(c19:PySem.W.codeIn K cd19 "reached" = true)(k19:PySem.W.keepIn K (.ref f19)=true)
 (a20:PySem.W.nsIn K mainGlobals "kinds_that_come" = some (some (.ref f20)))(l20:K.lookup f20=some ⟨oc20,od20,.func (PySem.W.fnOf "kinds_that_come" "kinds_that_come" (aM bG) (aH bG) (aq bG) .none kV20 dc20 pm20 an20 cd20 ct20),sl20⟩)(c20:PySem.W.codeIn K cd20 "kinds_that_come" = true)(k20:PySem.W.keepIn K (.ref f20)=true)
 (a21:PySem.W.nsIn K mainGlobals "few_paper" = some (some (.ref f21)))(l21:K.lookup f21=some ⟨oc21,od21,.func (PySem.W.fnOf "few_paper" "few_paper" (aM d4) (aH d4) (aq d4) .none kV21 dc21 pm21 an21 cd21 ct21),sl21⟩)(c21:PySem.W.codeIn K cd21 "few_paper" = true)(k21:PySem.W.keepIn K (.ref f21)=true)
 (a22:PySem.W.nsIn K mainGlobals "shut_kinds" = some (some (.ref f22)))(l22:K.lookup f22=some ⟨oc22,od22,.func (PySem.W.fnOf "shut_kinds" "shut_kinds" (aM cO) (aH cO) (aq cO) .none kV22 dc22 pm22 an22 cd22 ct22),sl22⟩)(c22:PySem.W.codeIn K cd22 "shut_kinds" = true)(k22:PySem.W.keepIn K (.ref f22)=true)
 (a23:PySem.W.nsIn K mainGlobals "is_safe" = some (some (.ref f23)))(l23:K.lookup f23=some ⟨oc23,od23,.func (PySem.W.fnOf "is_safe" "is_safe" (aM eI) (aH eI) (aq eI) .none kV23 dc23 pm23 an23 cd23 ct23),sl23⟩)(c23:PySem.W.codeIn K cd23 "is_safe" = true)(k23:PySem.W.keepIn K (.ref f23)=true)
 (a24:PySem.W.nsIn K mainGlobals "order_of_all" = some (some (.ref f24)))(l24:K.lookup f24=some ⟨oc24,od24,.func (PySem.W.fnOf "order_of_all" "order_of_all" (aM ck) (aH ck) (aq ck) .none kV24 dc24 pm24 an24 cd24 ct24),sl24⟩)(c24:PySem.W.codeIn K cd24 "order_of_all" = true)(k24:PySem.W.keepIn K (.ref f24)=true)
 (a25:PySem.W.nsIn K mainGlobals "told_opening" = some (some (.ref f25)))(l25:K.lookup f25=some ⟨oc25,od25,.func (PySem.W.fnOf "told_opening" "told_opening" (aM cj) (aH cj) (aq cj) .none kV25 dc25 pm25 an25 cd25 ct25),sl25⟩)(c25:PySem.W.codeIn K cd25 "told_opening" = true)(k25:PySem.W.keepIn K (.ref f25)=true)
 (a26:PySem.W.nsIn K mainGlobals "few_bars" = some (some (.ref f26)))(l26:K.lookup f26=some ⟨oc26,od26,.func (PySem.W.fnOf "few_bars" "few_bars" (aM eN) (aH eN) (aq eN) .none kV26 dc26 pm26 an26 cd26 ct26),sl26⟩)(c26:PySem.W.codeIn K cd26 "few_bars" = true)(k26:PySem.W.keepIn K (.ref f26)=true)
 (a27:PySem.W.nsIn K mainGlobals "shut_bars" = some (some (.ref f27)))(l27:K.lookup f27=some ⟨oc27,od27,.func (PySem.W.fnOf "shut_bars" "shut_bars" (aM cw) (aH cw) (aq cw) .none kV27 dc27 pm27 an27 cd27 ct27),sl27⟩)(c27:PySem.W.codeIn K cd27 "shut_bars" = true)(k27:PySem.W.keepIn K (.ref f27)=true)
 (a28:PySem.W.nsIn K mainGlobals "bars_house" = some (some (.ref f28)))(l28:K.lookup f28=some ⟨oc28,od28,.func (PySem.W.fnOf "bars_house" "bars_house" (aM dq) (aH dq) (aq dq) .none kV28 dc28 pm28 an28 cd28 ct28),sl28⟩)(c28:PySem.W.codeIn K cd28 "bars_house" = true)(k28:PySem.W.keepIn K (.ref f28)=true)
 (a29:PySem.W.nsIn K mainGlobals "_law_cell_at" = some (some (.ref f29)))(l29:K.lookup f29=some ⟨oc29,od29,.func (PySem.W.fnOf "_law_cell_at" "_law_cell_at" (aM cn) (aH cn) (aq cn) .none kV29 dc29 pm29 an29 cd29 ct29),sl29⟩)(c29:PySem.W.codeIn K cd29 "_law_cell_at" = true)(k29:PySem.W.keepIn K (.ref f29)=true)
 (a30:PySem.W.nsIn K mainGlobals "_law_stir" = some (some (.ref f30)))(l30:K.lookup f30=some ⟨oc30,od30,.func (PySem.W.fnOf "_law_stir" "_law_stir" (aM d7) (aH d7) (aq d7) .none kV30 dc30 pm30 an30 cd30 ct30),sl30⟩)(c30:PySem.W.codeIn K cd30 "_law_stir" = true)(k30:PySem.W.keepIn K (.ref f30)=true)
 (a31:PySem.W.nsIn K mainGlobals "_law_deck" = some (some (.ref f31)))(l31:K.lookup f31=some ⟨oc31,od31,.func (PySem.W.fnOf "_law_deck" "_law_deck" (aM dS) (aH dS) (aq dS) .none kV31 dc31 pm31 an31 cd31 ct31),sl31⟩)(c31:PySem.W.codeIn K cd31 "_law_deck" = true)(k31:PySem.W.keepIn K (.ref f31)=true)
 (a32:PySem.W.nsIn K mainGlobals "_law_next" = some (some (.ref f32)))(l32:K.lookup f32=some ⟨oc32,od32,.func (PySem.W.fnOf "_law_next" "_law_next" (aM dZ) (aH dZ) (aq dZ) .none kV32 dc32 pm32 an32 cd32 ct32),sl32⟩)(c32:PySem.W.codeIn K cd32 "_law_next" = true)(k32:PySem.W.keepIn K (.ref f32)=true)
 (a33:PySem.W.nsIn K mainGlobals "_law_names" = some (some (.ref f33)))(l33:K.lookup f33=some ⟨oc33,od33,.func (PySem.W.fnOf "_law_names" "_law_names" (aM b8) (aH b8) (aq b8) .none kV33 dc33 pm33 an33 cd33 ct33),sl33⟩)(c33:PySem.W.codeIn K cd33 "_law_names" = true)(k33:PySem.W.keepIn K (.ref f33)=true)
 (a34:PySem.W.nsIn K mainGlobals "_law_grown" = some (some (.ref f34)))(l34:K.lookup f34=some ⟨oc34,od34,.func (PySem.W.fnOf "_law_grown" "_law_grown" (aM b7) (aH b7) (aq b7) .none kV34 dc34 pm34 an34 cd34 ct34),sl34⟩)(c34:PySem.W.codeIn K cd34 "_law_grown" = true)(k34:PySem.W.keepIn K (.ref f34)=true)
 (a35:PySem.W.nsIn K mainGlobals "_law_bent" = some (some (.ref f35)))(l35:K.lookup f35=some ⟨oc35,od35,.func (PySem.W.fnOf "_law_bent" "_law_bent" (aM d5) (aH d5) (aq d5) .none kV35 dc35 pm35 an35 cd35 ct35),sl35⟩)(c35:PySem.W.codeIn K cd35 "_law_bent" = true)(k35:PySem.W.keepIn K (.ref f35)=true)
 (a36:PySem.W.nsIn K mainGlobals "_law_house" = some (some (.ref f36)))(l36:K.lookup f36=some ⟨oc36,od36,.func (PySem.W.fnOf "_law_house" "_law_house" (aM cG) (aH cG) (aq cG) .none kV36 dc36 pm36 an36 cd36 ct36),sl36⟩)(c36:PySem.W.codeIn K cd36 "_law_house" = true)(k36:PySem.W.keepIn K (.ref f36)=true)
 (a37:PySem.W.nsIn K mainGlobals "_law_sets" = some (some (.ref f37)))(l37:K.lookup f37=some ⟨oc37,od37,.func (PySem.W.fnOf "_law_sets" "_law_sets" (aM cy) (aH cy) (aq cy) .none kV37 dc37 pm37 an37 cd37 ct37),sl37⟩)(c37:PySem.W.codeIn K cd37 "_law_sets" = true)(k37:PySem.W.keepIn K (.ref f37)=true)
 (a38:PySem.W.nsIn K mainGlobals "_law_papers" = some (some (.ref f38)))(l38:K.lookup f38=some ⟨oc38,od38,.func (PySem.W.fnOf "_law_papers" "_law_papers" (aM bO) (aH bO) (aq bO) .none kV38 dc38 pm38 an38 cd38 ct38),sl38⟩)(c38:PySem.W.codeIn K cd38 "_law_papers" = true)(k38:PySem.W.keepIn K (.ref f38)=true)
 (a39:PySem.W.nsIn K mainGlobals "_law_right" = some (some (.ref f39)))(l39:K.lookup f39=some ⟨oc39,od39,.func (PySem.W.fnOf "_law_right" "_law_right" (aM cD) (aH cD) (aq cD) .none kV39 dc39 pm39 an39 cd39 ct39),sl39⟩)(c39:PySem.W.codeIn K cd39 "_law_right" = true)(k39:PySem.W.keepIn K (.ref f39)=true)
 (a40:PySem.W.nsIn K mainGlobals "law" = some (some (.ref f40)))(l40:K.lookup f40=some ⟨oc40,od40,.func (PySem.W.fnOf "law" "law" (aM aaR) (aH aaR) (aq aaR) .none kV40 dc40 pm40 an40 cd40 ct40),sl40⟩)(c40:PySem.W.codeIn K cd40 "law" = true)(k40:PySem.W.keepIn K (.ref f40)=true)
 (g_LETTERS:PySem.W.nsIn K mainGlobals "LETTERS" = some (some (.str lettersS t_LETTERS)))
 (g_MOST_LETTERS:PySem.W.nsIn K mainGlobals "MOST_LETTERS" = some (some (.int 4 t_MOST_LETTERS)))
 (g_MOST_LOCKS:PySem.W.nsIn K mainGlobals "MOST_LOCKS" = some (some (.int 4 t_MOST_LOCKS)))
 (z_isinstance:PySem.W.nsIn K mainGlobals "isinstance" = some none)
 (z_str:PySem.W.nsIn K mainGlobals "str" = some none)
 (z_len:PySem.W.nsIn K mainGlobals "len" = some none)
 (z_all:PySem.W.nsIn K mainGlobals "all" = some none)
 (z_list:PySem.W.nsIn K mainGlobals "list" = some none)
 (z_tuple:PySem.W.nsIn K mainGlobals "tuple" = some none)
 (z_sorted:PySem.W.nsIn K mainGlobals "sorted" = some none)
 (z_range:PySem.W.nsIn K mainGlobals "range" = some none)
 (z_min:PySem.W.nsIn K mainGlobals "min" = some none)
 (z_max:PySem.W.nsIn K mainGlobals "max" = some none)
 (z_set:PySem.W.nsIn K mainGlobals "set" = some none)
 (z_int:PySem.W.nsIn K mainGlobals "int" = some none)
 (z_bool:PySem.W.nsIn K mainGlobals "bool" = some none)
 (z_enumerate:PySem.W.nsIn K mainGlobals "enumerate" = some none)
 (z_any:PySem.W.nsIn K mainGlobals "any" = some none)
 : ∃ fd:FuncData,(∀ (s:Shared) (v:Value),BindsTo s fd ⟨[v],[]⟩ [("script",v)])/\∀ base:Heap,K.In base->base.Ns mainGlobals mg->aV l.prog w K mg base CX0 11 fa fd ["script"] (zD K):=by
 have e:=hfa.symm.trans (ae5 X G a40)
 cases e
 have jS:=bw (st:=dO) l1 c1 k1
 have bQ:Cal K mg "is_whole" ["thing"] f1 _:=⟨ae5 X G a1,k1,jS.binds fun _ _ _ _ _ _ us hl=>match us,hl with | [_],_=>rfl⟩
 have lj:=bw (st:=lS) l2 c2 k2
 have gz:Cal K mg "is_kind" ["thing"] f2 _:=⟨ae5 X G a2,k2,lj.binds fun _ _ _ _ _ _ us hl=>match us,hl with | [_],_=>rfl⟩
 have mO:=bw (st:=iL) l3 c3 k3
 have dc:Cal K mg "are_kinds" ["thing"] f3 _:=⟨ae5 X G a3,k3,mO.binds fun _ _ _ _ _ _ us hl=>match us,hl with | [_],_=>rfl⟩
 have lY:=bw (st:=n9) l4 c4 k4
 have tD:Cal K mg "are_locks" ["thing"] f4 _:=⟨ae5 X G a4,k4,lY.binds fun _ _ _ _ _ _ us hl=>match us,hl with | [_],_=>rfl⟩
 have qi:=bw (st:=vG) l5 c5 k5
 have xx:Cal K mg "is_room" ["thing"] f5 _:=⟨ae5 X G a5,k5,qi.binds fun _ _ _ _ _ _ us hl=>match us,hl with | [_],_=>rfl⟩
 have nY:=bw (st:=iO) l6 c6 k6
 have vL:Cal K mg "is_house" ["thing"] f6 _:=⟨ae5 X G a6,k6,nY.binds fun _ _ _ _ _ _ us hl=>match us,hl with | [_],_=>rfl⟩
 have h9:=bw (st:=ab5) l7 c7 k7
 have aB:Cal K mg "require_house" ["thing"] f7 _:=⟨ae5 X G a7,k7,h9.binds fun _ _ _ _ _ _ us hl=>match us,hl with | [_],_=>rfl⟩
 have oN:=bw (st:=dP) l8 c8 k8
 have gv:Cal K mg "is_plain" ["house"] f8 _:=⟨ae5 X G a8,k8,oN.binds fun _ _ _ _ _ _ us hl=>match us,hl with | [_],_=>rfl⟩
 have ic:=bw (st:=b6) l9 c9 k9
 have br:Cal K mg "require_plain" ["thing"] f9 _:=⟨ae5 X G a9,k9,ic.binds fun _ _ _ _ _ _ us hl=>match us,hl with | [_],_=>rfl⟩
 have uC:=bw (st:=fU) l10 c10 k10
 have eV:Cal K mg "serves" ["hand","locks"] f10 _:=⟨ae5 X G a10,k10,uC.binds fun _ _ _ _ _ _ us hl=>match us,hl with | [_,_],_=>rfl⟩
 have jy:=bw (st:=cQ) l11 c11 k11
 have aR:Cal K mg "hand_behind" ["hand","room"] f11 _:=⟨ae5 X G a11,k11,jy.binds fun _ _ _ _ _ _ us hl=>match us,hl with | [_,_],_=>rfl⟩
 have rO:=bw (st:=fz) l12 c12 k12
 have dJ:Cal K mg "is_step" ["rooms","hand","gone","number"] f12 _:=⟨ae5 X G a12,k12,rO.binds fun _ _ _ _ _ _ us hl=>match us,hl with | [_,_,_,_],_=>rfl⟩
 have kh:=bw (st:=dn) l13 c13 k13
 have bN:Cal K mg "hand_after" ["house","order"] f13 _:=⟨ae5 X G a13,k13,kh.binds fun _ _ _ _ _ _ us hl=>match us,hl with | [_,_],_=>rfl⟩
 have jf:=bw (st:=cT) l14 c14 k14
 have eB:Cal K mg "keys_behind" ["house","order"] f14 _:=⟨ae5 X G a14,k14,jf.binds fun _ _ _ _ _ _ us hl=>match us,hl with | [_,_],_=>rfl⟩
 have j5:=bw (st:=cJ) l15 c15 k15
 have bP:Cal K mg "next_rooms" ["house","order"] f15 _:=⟨ae5 X G a15,k15,j5.binds fun _ _ _ _ _ _ us hl=>match us,hl with | [_,_],_=>rfl⟩
 have oO:=bw (st:=eK) l16 c16 k16
 have gG:Cal K mg "is_stuck" ["house","order"] f16 _:=⟨ae5 X G a16,k16,oO.binds fun _ _ _ _ _ _ us hl=>match us,hl with | [_,_],_=>rfl⟩
 have ie:=bw (st:=eQ) l17 c17 k17
 have aJ:Cal K mg "kinds_counted" ["house"] f17 _:=⟨ae5 X G a17,k17,ie.binds fun _ _ _ _ _ _ us hl=>match us,hl with | [_],_=>rfl⟩
 have g8:=bw (st:=bZ) l18 c18 k18
 have di:Cal K mg "rooms_by_lock" ["rooms"] f18 _:=⟨ae5 X G a18,k18,g8.binds fun _ _ _ _ _ _ us hl=>match us,hl with | [_],_=>rfl⟩
 have rf:=bw (st:=dQ) l19 c19 k19
 have dF:Cal K mg "reached" ["keys","rooms"] f19 _:=⟨ae5 X G a19,k19,rf.binds fun _ _ _ _ _ _ us hl=>match us,hl with | [_,_],_=>rfl⟩
 have gx:=bw (st:=bG) l20 c20 k20
 have cu:Cal K mg "kinds_that_come" ["house"] f20 _:=⟨ae5 X G a20,k20,gx.binds fun _ _ _ _ _ _ us hl=>match us,hl with | [_],_=>rfl⟩
 have nj:=bw (st:=d4) l21 c21 k21
 have gf:Cal K mg "few_paper" ["house"] f21 _:=⟨ae5 X G a21,k21,nj.binds fun _ _ _ _ _ _ us hl=>match us,hl with | [_],_=>rfl⟩
 have j9:=bw (st:=cO) l22 c22 k22
 have fe:Cal K mg "shut_kinds" ["house"] f22 _:=⟨ae5 X G a22,k22,j9.binds fun _ _ _ _ _ _ us hl=>match us,hl with | [_],_=>rfl⟩
 have qZ:=bw (st:=eI) l23 c23 k23
 have iw:Cal K mg "is_safe" ["hand","rooms","left","number"] f23 _:=⟨ae5 X G a23,k23,qZ.binds fun _ _ _ _ _ _ us hl=>match us,hl with | [_,_,_,_],_=>rfl⟩
 have iS:=bw (st:=ck) l24 c24 k24
 have dC:Cal K mg "order_of_all" ["house"] f24 _:=⟨ae5 X G a24,k24,iS.binds fun _ _ _ _ _ _ us hl=>match us,hl with | [_],_=>rfl⟩
 have iU:=bw (st:=cj) l25 c25 k25
 have dH:Cal K mg "told_opening" ["house"] f25 _:=⟨ae5 X G a25,k25,iU.binds fun _ _ _ _ _ _ us hl=>match us,hl with | [_],_=>rfl⟩
 have oH:=bw (st:=eN) l26 c26 k26
 have gy:Cal K mg "few_bars" ["house","kind","keys","locks"] f26 _:=⟨ae5 X G a26,k26,oH.binds fun _ _ _ _ _ _ us hl=>match us,hl with | [_,_,_,_],_=>rfl⟩
 have me:=bw (st:=cw) l27 c27 k27
 have fJ:Cal K mg "shut_bars" ["house","kinds"] f27 _:=⟨ae5 X G a27,k27,me.binds fun _ _ _ _ _ _ us hl=>match us,hl with | [_,_],_=>rfl⟩
 have ko:=bw (st:=dq) l28 c28 k28
 have cx:Cal K mg "bars_house" ["house","paper"] f28 _:=⟨ae5 X G a28,k28,ko.binds fun _ _ _ _ _ _ us hl=>match us,hl with | [_,_],_=>rfl⟩
 have iN:=bw (st:=cn) l29 c29 k29
 have dy:Cal K mg "_law_cell_at" ["script","k"] f29 _:=⟨ae5 X G a29,k29,iN.binds fun _ _ _ _ _ _ us hl=>match us,hl with | [_,_],_=>rfl⟩
 have mL:=bw (st:=d7) l30 c30 k30
 have cb:Cal K mg "_law_stir" ["cell","k"] f30 _:=⟨ae5 X G a30,k30,mL.binds fun _ _ _ _ _ _ us hl=>match us,hl with | [_,_],_=>rfl⟩
 have mV:=bw (st:=dS) l31 c31 k31
 have fY:Cal K mg "_law_deck" ["cell","many"] f31 _:=⟨ae5 X G a31,k31,mV.binds fun _ _ _ _ _ _ us hl=>match us,hl with | [_,_],_=>rfl⟩
 have mW:=bw (st:=dZ) l32 c32 k32
 have aj:Cal K mg "_law_next" ["deck"] f32 _:=⟨ae5 X G a32,k32,mW.binds fun _ _ _ _ _ _ us hl=>match us,hl with | [_],_=>rfl⟩
 have kc:=bw (st:=b8) l33 c33 k33
 have eZ:Cal K mg "_law_names" ["deck","many"] f33 _:=⟨ae5 X G a33,k33,kc.binds fun _ _ _ _ _ _ us hl=>match us,hl with | [_,_],_=>rfl⟩
 have ky:=bw (st:=b7) l34 c34 k34
 have fc:Cal K mg "_law_grown" ["deck","kinds","many"] f34 _:=⟨ae5 X G a34,k34,ky.binds fun _ _ _ _ _ _ us hl=>match us,hl with | [_,_,_],_=>rfl⟩
 have lT:=bw (st:=d5) l35 c35 k35
 have gh:Cal K mg "_law_bent" ["deck","keys","rooms","kinds"] f35 _:=⟨ae5 X G a35,k35,lT.binds fun _ _ _ _ _ _ us hl=>match us,hl with | [_,_,_,_],_=>rfl⟩
 have kF:=bw (st:=cG) l36 c36 k36
 have eX:Cal K mg "_law_house" ["deck","most"] f36 _:=⟨ae5 X G a36,k36,kF.binds fun _ _ _ _ _ _ us hl=>match us,hl with | [_,_],_=>rfl⟩
 have lr:=bw (st:=cy) l37 c37 k37
 have gg:Cal K mg "_law_sets" ["house","first"] f37 _:=⟨ae5 X G a37,k37,lr.binds fun _ _ _ _ _ _ us hl=>match us,hl with | [_,_],_=>rfl⟩
 have jD:=bw (st:=bO) l38 c38 k38
 have eE:Cal K mg "_law_papers" ["house"] f38 _:=⟨ae5 X G a38,k38,jD.binds fun _ _ _ _ _ _ us hl=>match us,hl with | [_],_=>rfl⟩
 have kf:=bw (st:=cD) l39 c39 k39
 have fm:Cal K mg "_law_right" ["house"] f39 _:=⟨ae5 X G a39,k39,kf.binds fun _ _ _ _ _ _ us hl=>match us,hl with | [_],_=>rfl⟩
 have adq:=bw (st:=aaR) l40 c40 k40
 have wt:=ae5 X G g_LETTERS
 have mZ:=ae5 X G g_MOST_LETTERS
 have pU:=ae5 X G g_MOST_LOCKS
 have aQ:=afz X G z_isinstance
 have adO:=afz X G z_str
 have aY:=afz X G z_len
 have qY:=afz X G z_all
 have bV:=afz X G z_list
 have gJ:=afz X G z_tuple
 have aS:=afz X G z_sorted
 have bh:=afz X G z_range
 have wb:=afz X G z_min
 have abb:=afz X G z_max
 have mR:=afz X G z_set
 have kK:=afz X G z_int
 have oG:=afz X G z_bool
 have cN:=afz X G z_enumerate
 have zy:=afz X G z_any
 refine⟨PySem.W.fnOf "law" "law" (aM aaR) (aH aaR) (aq aaR) .none kV40 dc40 pm40 an40 cd40 ct40,fun s v=>.of_eq rfl,fun base _ _=>?_⟩
 have Gl:Glb mg:=⟨aQ,adO,aY,qY,⟨_,wt⟩,⟨_,mZ⟩⟩
 have GK:aV l.prog w K mg base CX0 2 _ _ ["thing"] jT:=zt mO lj gz Gl bV
 have GL:aV l.prog w K mg base CX0 3 _ _ ["thing"] ua:=zZ lY GK dc aY aS ⟨_,pU⟩
 have GR:aV l.prog w K mg base CX0 4 _ _ ["thing"] yS:=ab1 qi GL tD GK dc aQ aY gJ
 have GH:aV l.prog w K mg base CX0 5 _ _ ["thing"] se:=zT nY GR xx GK dc aQ aY gJ bV qY
 have GQ:aV l.prog w K mg base CX0 6 _ _ ["thing"] tO:=acW h9 GH vL
 have GP:aV l.prog w K mg base CX0 7 _ _ ["house"] tG:=zo oN GQ aB qY aY
 have GRP:aV l.prog w K mg base CX0 8 _ _ ["thing"] iD:=tR ic GP gv
 have GC:aV l.prog w K mg base CX0 7 _ _ ["house"] iq:=vm ie GQ aB bV aS mR
 have GV:aV l.prog w K mg base CX0 1 _ _ ["hand","locks"] kS:=yE uC qY
 have GB:aV l.prog w K mg base CX0 1 _ _ ["hand","room"] jq:=xc jy bV
 have G1:aV l.prog w K mg base CX0 1 _ _ ["rooms"] pO:=yr g8 cN mR aS
 have G2:aV l.prog w K mg base CX0 2 _ _ ["keys","rooms"] jC:=wd rf G1 di cN aY bV mR aS
 have G3:aV l.prog w K mg base CX0 7 _ _ ["house"] jc:=qv gx GQ aB G2 dF
 have G4:aV l.prog w K mg base CX0 8 _ _ ["house"] xU:=aa7 nj GC aJ aS
 have G5:aV l.prog w K mg base CX0 8 _ _ ["house"] tI:=zN j9 G3 cu aS
 have G6:aV l.prog w K mg base CX0 3 _ _ ["hand","rooms","left","number"] wN:=abh qZ GV eV GB aR G2 dF aY
 have G7:aV l.prog w K mg base CX0 4 _ _ ["house"] sx:=zd iS G6 iw GB aR aY bV bh
 have G8:aV l.prog w K mg base CX0 9 _ _ ["house"] w9:=abr iU GRP br G4 gf G5 fe G7 dC
 have L1:aV l.prog w K mg base CX0 1 _ _ ["script","k"] (yc K):=abH iN aY
 have L2:aV l.prog w K mg base CX0 1 _ _ ["cell","k"] uo:=abG mL
 have L3:aV l.prog w K mg base CX0 2 _ _ ["cell","many"] yA:=abj mV L2 cb bh
 have L4:aV l.prog w K mg base CX0 2 _ _ ["deck"] jz:=ab2 mW L2 cb kK aY
 have L5:aV l.prog w K mg base CX0 3 _ _ ["deck","many"] tK:=zg kc L4 aj aY bh
 have L6:aV l.prog w K mg base CX0 3 _ _ ["deck","kinds","many"] t4:=aai ky L4 aj aY bh kK bV wb
 have L7:aV l.prog w K mg base CX0 3 _ _ ["deck","keys","rooms","kinds"] xV:=abf lT L4 aj aY bh
 have L9:aV l.prog w K mg base CX0 4 _ _ ["deck","most"] (oW 0):=yu kF L4 aj L5 eZ L6 fc L7 gh aY bh bV
 have W1:aV l.prog w K mg base CX0 1 _ _ ["thing"] tV:=zI jS oG kK aQ
 have W4:aV l.prog w K mg base CX0 2 _ _ ["rooms","hand","gone","number"] uV:=abK rO W1 bQ GV eV aY
 have W5:aV l.prog w K mg base CX0 3 _ _ ["house","order"] oV:=zK kh W4 dJ GB aR cN aQ bV
 have W6:aV l.prog w K mg base CX0 7 _ _ ["house","order"] o6:=z5 j5 GQ aB W5 bN W4 dJ aY bh
 have W7:aV l.prog w K mg base CX0 7 _ _ ["house","order"] sd:=zp jf GQ aB W5 bN aS
 have W8:aV l.prog w K mg base CX0 8 _ _ ["house","order"] tU:=aaf oO W6 bP
 have B0:aV l.prog w K mg base CX0 1 _ _ ["thing"] pS:=xY jS aQ kK oG
 have B1:aV l.prog w K mg base CX0 8 _ _ ["house","kind","keys","locks"] xg:=abm oH (yM lj Gl) gz B0 bQ GC aJ
 have B2:aV l.prog w K mg base CX0 3 _ _ ["house","kinds"] sQ:=zE me GK dc zy bV mR aS
 have B3:aV l.prog w K mg base CX0 9 _ _ ["house","paper"] yo:=abC ko GRP br B1 gy B2 fJ aQ gJ aY
 have R0:aV l.prog w K mg base CX0 1 _ _ ["house","first"] yg:=abn lr aY bV bh aS gJ
 have R1:aV l.prog w K mg base CX0 8 _ _ ["house"] pF:=wU jD GC aJ aY bh aS
 have R2:aV l.prog w K mg base CX0 10 _ _ ["house"] si:=zj kf R0 gg G8 dH B3 cx W8 gG W6 bP W7 eB R1 eE aY bV aS
 exact acO adq L1 dy L3 fY L9 eX R2 fm bh aY wb abb
theorem walk {l:PySem.W.OpenLaw}{q:Program}{loose:List Str}{XP:(Str->Option Value)->Heap->Prop}{YP:World->Heap->Prop}{d:DefRec}{K:Params->PySem.W.Frag}(hn:l.most=some 63)(hdf:d.params.defaults=[])
 (hY:∀ (w:World) (h:Heap),YP w h->(K w.params).In h)
 (F:∀ (w:World) (mg:Str->Option Value) (fa:Addr) (h:Heap),(K w.params).In h->h.Ns mainGlobals mg->mg d.name=some (.ref fa) →
  ∃ fd:FuncData,(∀ (s:Shared) (u:Value),BindsTo s fd ⟨[u],[]⟩ [("script",u)])/\∀ base:Heap,(K w.params).In base->base.Ns mainGlobals mg->aV l.prog w (K w.params) mg base CX0 11 fa fd ["script"] (zD (K w.params))) :
 PySem.W.WalkO q loose XP YP l.row.toRowW d [] (fun f vs=>PySem.call f vs) :=
 L2.walk_of (n:=63) (k:=11) (x := "script") (CX:=fun _=>CX0) (sp:=fun w=>zD (K w.params)) hn (by decide) hdf ⟨rfl,by decide,by decide⟩ hY F (fun _ _ a ns hl _ hS=>⟨a,ns,rfl,hS,hl,fun _=>rfl⟩) fun _ _ _ _ _ z=>z
end K7
namespace PySem.W.Fast
def tw10031836915916711144:=0
def tw10033915507325240159:=0
def tw10276665198291198161:=0
def tw10378334300351469569:=0
def tw1038943015912671139:=0
def tw10482683542174478126:=0
def tw10497527635114266448:=0
def tw10498683352750751672:=0
def tw10524550629681722672:=0
def tw10631211614252187488:=0
def tw1074503373989522616:=0
def tw10750327164362989245:=0
def tw1094720800939445516:=0
def tw10998273478058373375:=0
def tw11080606456677743882:=0
def tw11237180490669392311:=0
def tw11300895933349658984:=0
def tw11359845085408457641:=0
def tw11422425746648341482:=0
def tw11476403659280726883:=0
def tw11596550274092969816:=0
def tw11612047834393771438:=0
def tw11665046562740001404:=0
def tw11792006709806485960:=0
def tw11810418988911319300:=0
def tw11828457832115907076:=0
def tw1182864046367050014:=0
def tw11847431067486528977:=0
def tw1188474003887682857:=0
def tw11897900425170283466:=0
def tw11964305582232687461:=0
def tw12016523341763496407:=0
def tw12067426419659034930:=0
def tw12108667214041010099:=0
def tw1211233865460458402:=0
def tw12200240580415142205:=0
def tw12226603372692195677:=0
def tw12351595094754293052:=0
def tw12376582525530002740:=0
def tw1241228954133417910:=0
def tw12519498893092580814:=0
def tw12586236302482885209:=0
def tw12588289284787025984:=0
def tw12601052201910803820:=0
def tw12667099750289064392:=0
def tw12688450695457117448:=0
def tw12700754131157112184:=0
def tw1283637072242314382:=0
def tw12846907951201284805:=0
def tw12865572455792108193:=0
def tw12916167627678150993:=0
def tw12931926986376123601:=0
def tw12953690319363946940:=0
def tw12977472574729203249:=0
def tw13022363828735618682:=0
def tw13192216558567236807:=0
def tw13264576609809355386:=0
def tw13383867239154145083:=0
def tw13412606209301667897:=0
def tw13424880363844925506:=0
def tw1344889754332337379:=0
def tw13476291412458883980:=0
def tw13479866987471375788:=0
def tw13488857550256998165:=0
def tw13571108462532921443:=0
def tw13581742787456018297:=0
def tw13597385857352428815:=0
def tw13885436013976693564:=0
def tw13999205413629859144:=0
def tw14005893720195200338:=0
def tw14061880589826940215:=0
def tw14108971577825022640:=0
def tw14117343304879436849:=0
def tw14130316062708170968:=0
def tw14169916258196189860:=0
def tw14186156497009360649:=0
def tw14204966998847074099:=0
def tw14372161515337985363:=0
def tw14390191258660725931:=0
def tw14476716227520223073:=0
def tw14560107846877332570:=0
def tw14596938353243064404:=0
def tw14649352016179702140:=0
def tw14733995864478098502:=0
def tw14755088494208363100:=0
def tw14786407310341658723:=0
def tw14814334682220163361:=0
def tw14855883991154335360:=0
def tw14866869684298348926:=0
def tw14941754779603398830:=0
def tw15053512755168552909:=0
def tw1508989463185246241:=0
def tw15147940581750499107:=0
def tw15262449982586251981:=0
def tw15462864613657068856:=0
def tw1555827110115345322:=0
def tw15593701444697675302:=0
def tw15712159104277451479:=0
def tw15718783457559010348:=0
def tw15791021727624800247:=0
def tw15876795570660446958:=0
def tw1588244378307376207:=0
def tw15972165441859595784:=0
def tw15998966850291341010:=0
def tw16002246308870265671:=0
def tw16040986655728698447:=0
def tw16058314773627980392:=0
def tw16140542561730923097:=0
def tw16198965215273721967:=0
def tw16268691906228549103:=0
def tw16278548486356587758:=0
def tw16345783759747787046:=0
def tw16391194479861822772:=0
def tw16493204089127825345:=0
def tw16604246024912826758:=0
def tw16705133273055580453:=0
def tw16737739622063882167:=0
def tw16753566517990133349:=0
def tw16988839576563517724:=0
def tw17189324278647573359:=0
def tw1725026312208699128:=0
def tw17267098706735241085:=0
def tw17269098698347066777:=0
def tw1732088201363069824:=0
def tw17350311136220285062:=0
def tw17464167716332291319:=0
def tw17532532972393785728:=0
def tw17679081706143582614:=0
def tw17714042792630750269:=0
def tw17827358824942378641:=0
def tw17840739125841300586:=0
def tw17906879545033012029:=0
def tw17925653079508208962:=0
def tw17949018872585658188:=0
def tw18061690255667524023:=0
def tw18126274990793103403:=0
def tw18133278240411097969:=0
def tw18221942556361676120:=0
def tw1823724944672652388:=0
def tw18257502658500539840:=0
def tw1834314244868296648:=0
def tw18346951256273319728:=0
def tw1838151277983273835:=0
def tw18446411506137004429:=0
def tw1946379864173138096:=0
def tw2013336053823001585:=0
def tw2137503660267556780:=0
def tw2148450094593947523:=0
def tw2157672451894634801:=0
def tw2175085592462338953:=0
def tw2205314347564055035:=0
def tw2210733812443634746:=0
def tw22132221083525668:=0
def tw2222475480647110503:=0
def tw2299854560589078712:=0
def tw2491826977600740435:=0
def tw2533140553230785497:=0
def tw2588681930362157779:=0
def tw2631393855696550851:=0
def tw2635659369470880793:=0
def tw2686854232403804757:=0
def tw2710615550176409677:=0
def tw2724230855770678890:=0
def tw2797152202020333319:=0
def tw281661277513468592:=0
def tw2818652661468758304:=0
def tw2936024961104717879:=0
def tw2970203540332561318:=0
def tw2995400897546883663:=0
def tw3005000012626135011:=0
def tw3030300029216162462:=0
def tw3081721392112333623:=0
def tw3171267207084435975:=0
def tw3194436018885455186:=0
def tw3349642432175307373:=0
def tw3438551859151787545:=0
def tw3509484953562758089:=0
def tw3652066357924264817:=0
def tw3698541400329144278:=0
def tw3735233863409149425:=0
def tw374674863066668547:=0
def tw3922723511713405033:=0
def tw401251244310610722:=0
def tw4024423471325626475:=0
def tw4057300424988869159:=0
def tw4168331187506284497:=0
def tw4276223741859970773:=0
def tw4357257600404326514:=0
def tw4361563967318617982:=0
def tw4426473007530923777:=0
def tw4478056194338143980:=0
def tw4489535334755154070:=0
def tw4497514903782173663:=0
def tw4539919232506954225:=0
def tw4608355813262543134:=0
def tw4616943327931113765:=0
def tw4656257005397171784:=0
def tw4784966873598383670:=0
def tw4830644055884674880:=0
def tw497960391737853135:=0
def tw5029973804887849586:=0
def tw5056703775001323763:=0
def tw5192559445947909784:=0
def tw5250905558186322003:=0
def tw5261136977973924780:=0
def tw5306490738637789394:=0
def tw5316755733227272204:=0
def tw5550189382925120741:=0
def tw560582597252804338:=0
def tw5650806633607225656:=0
def tw5678137532894979940:=0
def tw5719898285495563095:=0
def tw5721261626696863138:=0
def tw573546051940686210:=0
def tw5757331603136429460:=0
def tw5974224736322935522:=0
def tw5986492048665914451:=0
def tw6081353202888944352:=0
def tw6154661408362311670:=0
def tw6174952139546570663:=0
def tw6212560895193330612:=0
def tw6218793193491213321:=0
def tw6245243071313742313:=0
def tw6278807300700433495:=0
def tw6318778397322042976:=0
def tw6382971173153987246:=0
def tw6415456008275365712:=0
def tw648254161458023003:=0
def tw6544116932227889274:=0
def tw6625283673229673332:=0
def tw6653677926744812547:=0
def tw6713490917032701463:=0
def tw6752011129007775235:=0
def tw6833017396529566896:=0
def tw6843631909173472051:=0
def tw6865924201765729217:=0
def tw6867192179557131664:=0
def tw6885289556281426952:=0
def tw692828642514846385:=0
def tw6963380435708542577:=0
def tw7000491984826519223:=0
def tw7159291617354674448:=0
def tw7249753335721050231:=0
def tw7253468225821137526:=0
def tw7276788920941298642:=0
def tw729215443442011531:=0
def tw7300412672970008606:=0
def tw7393306487786640604:=0
def tw7404307084919101172:=0
def tw7492527156060460285:=0
def tw7522991361932002375:=0
def tw7554756578198159276:=0
def tw7557591160072514240:=0
def tw7647379965326873846:=0
def tw7693992783666787858:=0
def tw7704562506973115369:=0
def tw7761234727338864688:=0
def tw7804026961903256362:=0
def tw792007366586218780:=0
def tw7924751727993585725:=0
def tw8019353868216280667:=0
def tw8040718197813039823:=0
def tw808923093273407164:=0
def tw8324928687092017656:=0
def tw8332951730399203364:=0
def tw8341177287762244671:=0
def tw8348863599260023328:=0
def tw8385076065408317625:=0
def tw8548292841224745770:=0
def tw8576261202589317718:=0
def tw8623956014503192372:=0
def tw8652943539947864504:=0
def tw8691821279790526783:=0
def tw8775712734340905367:=0
def tw9017430074083294460:=0
def tw9100130216593059738:=0
def tw9113024902058212279:=0
def tw9116108443027042516:=0
def tw9202631387026607854:=0
def tw9213021506460893745:=0
def tw9224716013653997943:=0
def tw9246535774071866542:=0
def tw9299898847165859945:=0
def tw9380468823603860412:=0
def tw9384237639557432338:=0
def tw9419292867980000861:=0
def tw9503720994223444417:=0
def tw9590101749151961975:=0
def tw960028025683218301:=0
def tw9761213870321592259:=0
def tw9876488354726153180:=0
def tw9968062332614410189:=0
end PySem.W.Fast
open PySem PySem.W PyProof.Rows
set_option maxRecDepth 100000 in
set_option maxHeartbeats 0 in
theorem PySem.Challenge.cw_keyrooms_k16_whole_barred_or_opened_holds : PySem.Challenge.rw_keyrooms_k16_whole_barred_or_opened.Holds := by
  w_on; o_law; k_head; (case hw => w_witness2)
  k_fill
  refine K7.walk (l := PySem.Challenge.rw_keyrooms_k16_whole_barred_or_opened) rfl rfl (fun w h Y => PySem.W.kIn_of Y) ?F
  case F =>
    intro w mg fa h KX G hmg
    refine' K7.all_mk KX G hmg _ _ _ _ _ _ _ _ _ _ _ _ _ _ _ _ _ _ _ _ _ _ _ _ _ _ _ _ _ _ _ _ _ _ _ _ _ _ _ _ _ _ _ _ _ _ _ _ _ _ _ _ _ _ _ _ _ _ _ _ _ _ _ _ _ _ _ _ _ _ _ _ _ _ _ _ _ _ _ _ _ _ _ _ _ _ _ _ _ _ _ _ _ _ _ _ _ _ _ _ _ _ _ _ _ _ _ _ _ _ _ _ _ _ _ _ _ _ _ _ _ _ _ _ _ _ _ _ _ _ _ _ _ _ _ _ _ _ _ _ _ _ _ _ _ _ _ _ _ _ _ _ _ _ _ _ _ _ _ _ _ _ _ _ _ _ _ _ _ _ _ _ _ _ _ _ _ _
    any_goals k_is
