import PyProof.Rows.All
import Wide.All
import OpenK.AllK
import Wide.FinOn
import Lean
import PyProof.EqAt
import PyProof.EqKinds
import PyProof.TupleCall
import PyProof.StationsW
import PyProof.ExcClass3
import PyProof.RulesTry
import PyProof.RulesAs
import PyProof.NsDelKeeps
import PyProof.ExcArgsOwn
import PyProof.Rows.SetFrom
import PyProof.SetRoads
import KE.KDictSum
import PyProof.DictCompW
import KE.KEqDict
import KE.KSortAsk
import PyProof.NeKinds
import KE.KIsAll
import KE.KxText
import PyProof.WalksEnum
import PyProof.EnumMake
import PyProof.DictItems
import PyProof.DictValues
import PyProof.DictWalks
import KE.KDictOf
import PyProof.Rows.SortStr
import KE.KDictLaws
import PyProof.ReprBulk
import KE.KRevSl
import PyProof.AttrMissHeap
import PyProof.ZipIter
import PyProof.ListRange
import PyProof.P3In
import KE.KUnpackStar
import PyProof.Rows.StrNews2
import PyProof.Rows.StrItems
import PyProof.FString5
import KE.BitLaws
import PyProof.ExcInit
import PyProof.Rows.ReprShort
import PyProof.Rows.StrRev
import PyProof.Rows.StrSplitMax
import KE.KIntText
import PySem.Challenge.RW_keyrooms_k31_papers_of_worth
set_option Elab.async false
set_option linter.all false
set_option maxRecDepth 100000
set_option maxHeartbeats 4000000
open PySem.W (instObj methodObj lookIn plainGet hasDictIn findIn handedIn isFn plainOver takerIn makesIn emptyDict keepIn kitOne kitx_list kitx_dict fnOf codeIn nsIn)
def afx:=@List.getElem?_eq_getElem
def afy:=@PySem.wpAny_bind
def afz:=@List.length_map
def afA:=@List.getElem?_eq_some_iff
def afB:=@PySem.Heap.get?_push_of_some
def afC:=@Bool.false_ne_true
def afD:=@List.mem_singleton
def afE:=@PySem.wpAny_pure
def afF:=@List.getElem?_map
def afG:=@Nat.le_refl
def afH:=@List.length_append
def afI:=@PySem.Heap.lt_size
def afJ:=@List.getD_eq_getElem?_getD
def afK:=@PySem.Heap.get?_push_size
def afL:=@List.mem_map
def afM:=@decide_eq_true
def afN:=@List.append_assoc
def afO:=@Array.length_toList
def afP:=@List.mem_of_getElem?
def afQ:=@List.mem_append_right
def afR:=@Nat.le_trans
def afS:=@decide_eq_false
def afT:=@PyProof.Rows.wpS_bind
def afU:=@Nat.ne_of_lt
def afV:=@List.mem_append
def afW:=@Nat.lt_of_lt_of_le
def afX:=@List.mem_cons_self
def afY:=@List.map_append
def afZ:=@List.mem_cons
def af0:=@List.map_cons
def af1:=@List.length_singleton
def af2:=@PyProof.Rows.wpS_pure
def af3:=@List.map_map
def af4:=@List.size_toArray
def af5:=@Nat.zero_le
def af6:=@List.mem_cons_of_mem
def af7:=@List.length_take
def af8:=@List.getElem?_append_right
def af9:=@decide_eq_true_iff
def aga:=@beq_iff_eq
def agb:=@PySem.F.plainAttrs_list
def agc:=@Nat.lt_of_le_of_lt
def agd:=@List.filter_append
def age:=@List.length_cons
def agf:=@Bool.and_eq_true
def agg:=@List.getElem_mem
def agh:=@List.take_add_one
def agi:=@List.mem_filter
def agj:=@List.getElem?_append_left
def agk:=@Int.toNat_natCast
def agl:=@List.append_nil
def agm:=@List.take_length
def agn:=@PySem.W.mg_none_of
def ago:=@Array.getElem?_eq_getElem
def agp:=@List.getElem?_of_mem
def agq:=@PySem.wpAny_mono
def agr:=@Nat.lt_succ_of_lt
def agt:=@List.all_eq_true
def agu:=@Nat.add_le_add_left
def agv:=@List.length_filter_le
def agw:=@PySem.Heap.size_push
def agx:=@PySem.PassesOwn.never
def agy:=@List.pairwise_cons
def agz:=@of_decide_eq_true
def agA:=@List.not_mem_nil
def agB:=@Nat.lt_irrefl
def agC:=@List.take_append_drop
def agD:=@Bool.false_eq_true
def agE:=@List.pairwise_append
def agF:=@PySem.wpAny_holding
def agG:=@Array.getElem?_toList
def agH:=@PySem.boot_len
def agI:=@List.nodup_iff_pairwise_ne
def agJ:=@PySem.wpAny_truthy_bool
def agK:=@List.length_range
def agL:=@decide_eq_decide
def agM:=@List.filter_cons
def agN:=@List.count_eq_zero_of_not_mem
def agO:=@PySem.wpAny_loadPart'
def agP:=@List.mem_range
def agQ:=@Option.map_eq_some_iff
def agR:=@List.take_of_length_le
def agS:=@congrArg
def agT:=@Option.some.inj
def agU:=@PyProof.Rows.callWith_type1
def agV:=@Nat.le_succ
def agW:=@PySem.F.slot_list_append
def agX:=@PySem.F.type_list_append
def agY:=@List.length_replicate
def agZ:=@List.getElem?_eq_none
def ag0:=@PyProof.Rows.wpS_forRange
def ag1:=@PySem.F.slot_list_count
def ag2:=@PySem.F.type_list_count
def ag3:=@Bool.eq_iff_iff
def ag4:=@List.take_append_of_le_length
def ag5:=@List.pairwise_iff_getElem
def ag6:=@Array.getD_eq_getD_getElem?
def ag7:=@List.cons_lt_cons_iff
def ag8:=@PySem.wpAny_standAt
def ag9:=@PySem.wpAny_rule
def aha:=@List.pairwise_map
def ahb:=@List.mem_of_mem_take
def ahc:=@Nat.le_of_lt
def ahd:=@PySem.W.kia_one
def ahe:=@List.extract_eq_take_drop
def ahf:=@Ne.symm
def ahg:=@PySem.Heap.get?_update_self
def ahh:=@PySem.wpAny_newObj_type
def ahi:=@PySem.Around.under_plainId
def ahj:=@List.mem_of_mem_drop
def ahk:=@Nat.lt_succ_self
def ahl:=@List.lookup_cons
def ahm:=@beq_self_eq_true
def ahn:=@PySem.wpAny_call_entry
def aho:=@List.any_eq_true
def ahp:=@Array.perm_iff_toList_perm
def ahq:=@PySem.Heap.get?_update_other
def ahr:=@decide_eq_true_eq
def ahs:=@PySem.Heap.SameBut.update
def aht:=@List.nodup_append
def ahu:=@List.ext_getElem?
def ahv:=@List.drop_zero
def ahw:=@Bool.true_and
def ahx:=@PySem.W.mg_of
def ahy:=@List.range_succ
def ahz:=@PySem.wpAny_comprehension_free
def ahA:=@List.Pairwise.imp_of_mem
def ahB:=@List.length_drop
def ahC:=@List.cons_append
def ahD:=@Array.toList_extract
def ahE:=@Nat.pow_le_pow_right
def ahF:=@List.any_cons
def ahG:=@List.all_map
def ahH:=@List.flatten_cons
def ahI:=@PySem.wpAny_setState_of
def ahJ:=@List.nodup_cons
def ahK:=@List.length_set
def ahL:=@Bool.or_eq_true
def ahM:=@Nat.not_lt_zero
def ahN:=@PySem.codeAny_builtin
def ahO:=@List.not_lt_nil
def ahP:=@List.Perm.append_right
def ahQ:=@List.flatten_singleton
def ahR:=@PyProof.Rows.wpS_mono
def ahS:=@List.Perm.append_left
def ahT:=@List.getElem?_take
def ahU:=@List.not_lt
def ahV:=@PySem.Calls.call_function_entry
def ahW:=@PyProof.Rows.boot_sorted
def ahX:=@Classical.byContradiction
def ahY:=@PySem.wpAny_passesOwn
def ahZ:=@PySem.wpAny_pyIter_list
def ah0:=@List.getElem?_take_of_lt
def ah1:=@PySem.fits_of_scanBound
def ah2:=@bne_self_eq_false
def ah3:=@PyProof.Rows.KeyOrd.kle_refl
def ah4:=@Nat.min_eq_left
def ah5:=@List.take_append_getElem
def ah6:=@Nat.ne_of_gt
def ah7:=@beq_eq_false_iff_ne
def ah8:=@PySem.mem_of_lookup
def ah9:=@List.getElem?_replicate
def aia:=@List.replicate_succ
def aib:=@List.eraseIdx_cons_succ
def aic:=@List.flatten_append
def aid:=@List.getElem_of_mem
def aie:=@List.filter_eq_self
def aif:=@Nat.succ_le_succ
def aih:=@PySem.wpAny_askSetting
def aii:=@PyProof.Rows.KeyOrd.kle_trans
def aij:=@List.eq_nil_of_length_eq_zero
def aik:=@PyProof.Rows.wpS_modify
def ail:=@List.take_zero
def aim:=@List.getElem?_set_self
def ain:=@PySem.Calls.callWith_builtin
def aio:=@List.drop_of_length_le
def aip:=@List.length_pos_of_mem
def aiq:=@if_false
def air:=@PySem.codeAny_mono
def ais:=@List.nil_append
def ait:=@List.find?_cons
def aiu:=@List.perm_append_comm
def aiv:=@Nat.zero_add
def aiw:=@Nat.min_le_left
def aix:=@List.filter_nil
def aiy:=@PySem.F.called_set
def aiz:=@Array.toList_push
def aiA:=@PySem.plainId_quiet
def aiB:=@PyProof.Rows.KeyOrd.kle_of_klt
def aiC:=@List.count_append
def aiD:=@PySem.wpAny_newFunctionEnv
def aiE:=@List.mem_iff_getElem
def aiF:=@List.getElem?_eq_none_iff
def aiG:=@List.drop_drop
def aiH:=@List.mem_or_eq_of_mem_set
def aiI:=@Option.getD_some
def aiJ:=@List.le_antisymm
def aiK:=@List.filterMap_cons
def aiL:=@PySem.sizeLine_eq
def aiM:=@PySem.F.slot_dict_itemiterator_iter
def aiN:=@List.length_reverse
def aiO:=@List.mem_map_of_mem
def aiP:=@List.length_pos_iff
def aiQ:=@PySem.wpAny_Call_Name_kw
def aiR:=@PySem.wpAny_Call_method0_late
def aiS:=@List.foldl_cons
def aiT:=@PySem.tupleKind_room_in1
def aiU:=@of_decide_eq_false
def aiV:=@List.length_eq_zero_iff
def aiW:=@Option.bind_eq_some_iff
def aiX:=@List.findIdx?_eq_some_iff_getElem
def aiY:=@List.getElem?_cons_succ
def aiZ:=@PySem.Obj.data_mapFields
def ai0:=@PySem.wpAny_newList
def ai1:=@Nat.add_assoc
def ai2:=@Bool.and_self
def ai3:=@PyProof.Rows.F.plain_set_update_loop
def ai4:=@PySem.codeAny_compStart_list
def ai5:=@Array.getElem?_eq_none
def ai6:=@List.filter_eq_nil_iff
def ai7:=@if_true
def ai8:=@PySem.wpAny_storeSet_of
def ai9:=@Bool.eq_false_iff
def aja:=@PySem.Heap.get?_push_ne
def ajb:=@List.getElem?_inj
def ajc:=@List.foldl_append
def ajd:=@List.filter_congr
def aje:=@List.take_take
def ajf:=@List.lt_irrefl
def ajg:=@PyProof.Rows.callWith_builtin1
def ajh:=@List.map_nil
def aji:=@List.Pairwise.sublist
def ajj:=@Nat.sub_self
def ajk:=@List.any_map
def ajl:=@PySem.Heap.size_update
def ajm:=@PyProof.Rows.wpS_get
def ajn:=@List.drop_append_of_le_length
def ajo:=@Option.not_isSome_iff_eq_none
def ajp:=@List.getElem?_set_ne
def ajq:=@List.getElem?_append
def ajr:=@Array.toArray_toList
def ajs:=@List.replicate_succ'
def ajt:=@List.all_cons
def aju:=@or_false
def ajv:=@PySem.Value.isStrOf_shape
def ajw:=@PySem.wpAny_execs_nil
def ajx:=@PySem.W.plainGet_of
def ajy:=@List.of_mem_zip
def ajz:=@PySem.evalArgs_none
def ajA:=@Option.map_some
def ajB:=@Option.bind_eq_bind
def ajC:=@PyProof.Rows.entry_list_sort
def ajD:=@PySem.codeAny_of_tree
def ajE:=@List.drop_length_add_append
def ajF:=@List.sum_append
def ajH:=@Int.fdiv_eq_ediv_of_nonneg
def ajI:=@List.length_eraseIdx_of_lt
def ajJ:=@Array.getElem?_append_left
def ajK:=@Array.getElem?_eq_some_iff
def ajL:=@List.getElem?_take_eq_none
def ajM:=@List.perm_ext_iff_of_nodup
def ajN:=@Int.natCast_nonneg
def ajO:=@PySem.Calls.spliced_cons
def ajP:=@PySem.W.callWith_K
def ajQ:=@PySem.SeqAt.EqAt.int_int
def ajR:=@Nat.lt_trans
def ajS:=@List.getElem?_drop
def ajT:=@Nat.lt_or_eq_of_le
def ajU:=@Nat.add_zero
def ajV:=@Int.emod_lt_of_pos
def ajW:=@Bool.false_and
def ajX:=@List.findIdx?_eq_none_iff
def ajY:=@PySem.F.plain_extend_loop
def ajZ:=@PyProof.Rows.slot_list_sort
def aj0:=@PyProof.Rows.args_list_sort
def aj1:=@List.nodup_nil
def aj2:=@PySem.F.slot_list_lt
def aj3:=@List.drop_eq_getElem_cons
def aj4:=@PySem.Value.isInt_shape
def aj5:=@PySem.Calls.spliced_nil
def aj6:=@Option.isSome_iff_exists
def aj7:=@PySem.slot_list_getitem
def aj9:=@PySem.call_meets
def aka:=@Option.isSome_map
def akb:=@Bool.not_eq_true'
def akc:=@Option.some.injEq
def akd:=@PySem.Heap.SameBut.refl
def ake:=@PySem.wpAny_pyIter_slot
def akf:=@List.getElem_take
def akg:=@List.getElem_drop
def akh:=@PySem.F.slot_dict_values
def aki:=@List.length_erase_of_mem
def akj:=@PySem.Paired.length
def akk:=@Bool.false_or
def akm:=@PySem.F.plain_list_iadd
def akn:=@PySem.F.plainAttrs_dict
def ako:=@PySem.F.slot_dict_items
def akq:=@List.lt_trans
def akr:=@List.pairwise_singleton
def aks:=@List.map_id
def akt:=@decide_eq_false_iff_not
def akv:=@Nat.le_of_not_lt
def akw:=@List.nil_lt_cons
def akx:=@List.getElem_map
def aky:=@PySem.pairTrees_length
def akz:=@PySem.W.cellsFrom_some
def akB:=@List.range_succ_eq_map
def akC:=@List.pairwise_lt_range
def akE:=@PySem.W.methodCall_KW
def akF:=@Bool.true_or
def akG:=@List.length_nil
def akH:=@PySem.wpAny_tests_nil
def akI:=@PySem.codeAny_loop
def akJ:=@Option.pure_def
def akN:=@PySem.wpAny_ite_split
def akR:=@List.singleton_append
def akT:=@List.eq_nil_or_concat
def akU:=@List.concat_eq_append
def akV:=@List.filter_map
def akW:=@List.cons.injEq
def akX:=@Int.emod_nonneg
def akY:=@PySem.Walks.list
def ak9:=@List.drop_left
def ala:=@List.take_left
def alb:=@PySem.wpAny_noted
def ale:=@PySem.wpAny_alloc
def alu:=@Bool.or_false
def aly:=@Prod.mk.injEq
def alD:=@List.sum_cons
def alZ:=@Int.zero_add
def al0:=@Int.add_zero
namespace L2
open PySem PySem.Spec PyProof.Rows
abbrev Key:=Sum Int Str
def wR:Key->Value->Bool
 | .inl k,v=>Value.isInt k v
 | .inr x,v=>Value.isStrOf x v
def afh (w:World):Key->Int
 | .inl k=>hashInt k
 | .inr x=>hashStr w x
theorem bP:∀ {k:Key} {v:Value},wR k v=true->(∃ i t,k=Sum.inl i/\v=Value.int i t)\/(∃ x t,k=Sum.inr x/\v=Value.str x t)
 | .inl i,v,h=>by
  obtain⟨t,e⟩:=aj4 (k:=i) (v:=v) h;exact .inl ⟨i,t,rfl,e⟩
 | .inr x,v,h=>by
  obtain⟨t,e⟩:=ajv (x:=x) (v:=v) h;exact .inr ⟨x,t,rfl,e⟩
theorem yZ (i:Int)(t:Tok):wR (.inl i) (.int i t)=true:=by simp[wR,Value.isInt]
theorem zS (x:Str)(t:Tok):wR (.inr x) (.str x t)=true:=by simp[wR,Value.isStrOf]
theorem adz (a b:Int):decide ((Sum.inl a:Key)=Sum.inl b)=(a == b):=by
 by_cases e:a=b
 .subst e;simp
 .have h:¬ (Sum.inl a:Key)=Sum.inl b:=λq=>e (Sum.inl.inj q);rw[afS h];exact (ah7.mpr e).symm
theorem adD (a b:Str):decide ((Sum.inr a:Key)=Sum.inr b)=decide (a=b):=by
 by_cases e:a=b
 .subst e;simp
 .have h:¬ (Sum.inr a:Key)=Sum.inr b:=λq=>e (Sum.inr.inj q);rw[afS h,afS e]
theorem adK (a:Int)(b:Str):decide ((Sum.inl a:Key)=Sum.inr b)=false:=afS (λq=>nomatch q)
theorem adY (a:Str)(b:Int):decide ((Sum.inr a:Key)=Sum.inl b)=false:=afS (λq=>nomatch q)
def aU (prog:Program)(w:World):PySem.KeyKind prog w Key where
 is:=wR
 hash:=afh w
 inj:=λv a b ha hb=>by
  rcases bP ha with ⟨i,t,rfl,rfl⟩ | ⟨x,t,rfl,rfl⟩
  .rcases bP hb with ⟨j,u,rfl,e⟩ | ⟨y,u,rfl,e⟩
   .injection e with e1 _;rw[e1]
   .exact nomatch e
  .rcases bP hb with ⟨j,u,rfl,e⟩ | ⟨y,u,rfl,e⟩
   .exact nomatch e
   .injection e with e1 _;rw[e1]
 byValue:=λk v h=>by
  rcases bP h with ⟨i,t,rfl,rfl⟩ | ⟨x,t,rfl,rfl⟩<;>rfl
 pyHash:=λhv h=>by
  rcases bP hv with ⟨i,t,rfl,rfl⟩ | ⟨x,t,rfl,rfl⟩
  .exact wpAny_pyHash_int h
  .exact wpAny_pyHash_str h
 eqBool:=λhu hv h=>by
  rcases bP hu with ⟨i,t,rfl,rfl⟩ | ⟨x,t,rfl,rfl⟩
  .rcases bP hv with ⟨j,u,rfl,rfl⟩ | ⟨y,u,rfl,rfl⟩
   .rw[adz] at h;exact wpAny_eqBool_int h
   .rw[adK] at h;exact SeqAt.EqAt.int_str i t y u _ _ _ _ h
  .rcases bP hv with ⟨j,u,rfl,rfl⟩ | ⟨y,u,rfl,rfl⟩
   .rw[adY] at h;exact SeqAt.EqAt.str_int x t j u _ _ _ _ h
   .rw[adD] at h;exact wpAny_eqBool_str h
 «strs»:=λk x t v h=>by
  rcases bP h with ⟨i,u,rfl,e⟩ | ⟨y,u,rfl,e⟩
  .exact nomatch e
  .injection e with e1 _
   subst e1;cases v<;>rfl
theorem uh (prog:Program)(w:World)(i:Int)(t:Tok):(aU prog w).is (.inl i) (.int i t)=true:=yZ i t
theorem t5 (prog:Program)(w:World)(x:Str)(t:Tok):(aU prog w).is (.inr x) (.str x t)=true:=zS x t
inductive V where
 | non | bl (b:Bool) | int (i:Int) | str (x:Str) | byt (b:Array UInt8) | flt (b:UInt64) | ref (a:Addr) | ty (n:String)
 deriving DecidableEq
def RelV:V->Value->Prop
 | .non,u=>u=Value.none
 | .bl b,u=>u=Value.bool b
 | .int i,u=>∃ t,u=Value.int i t
 | .str x,u=>∃ t,u=Value.str x t
 | .byt b,u=>∃ t,u=Value.bytes b t
 | .flt b,u=>∃ t,u=Value.float b t
 | .ref a,u=>u=Value.ref a
 | .ty n,u=>u=Value.type n
abbrev Vals:List V->List Value->Prop:=Paired RelV
theorem Vals.length {xs:List V}{us:List Value}(r:Vals xs us):xs.length=us.length:=akj r
theorem Vals.get:∀ {xs:List V} {us:List Value} {i:Nat} {x:V},Vals xs us->xs[i]? = some x->∃ u,us[i]? = some u/\RelV x u
 | _,_,_,_,.nil,e=>by simp at e
 | _,_,0,_,.cons r _,e=>by simp at e;subst e;exact⟨_,rfl,r⟩
 | _,_,i+1,x,.cons _ t,e=>by
  obtain⟨u,h1,h2⟩:=Vals.get (i:=i) (x:=x) t (by simpa using e);exact⟨u,by simpa using h1,h2⟩
theorem Vals.set {x:V}{u:Value}(r:RelV x u):∀ {xs:List V} {us:List Value} (i:Nat),Vals xs us->Vals (xs.set i x) (us.set i u)
 | _,_,_,.nil=>.nil
 | _,_,0,.cons _ t=>.cons r t
 | _,_,i+1,.cons q t=>.cons q (Vals.set r i t)
theorem Vals.append:∀ {xs ys:List V} {us ws:List Value},Vals xs us->Vals ys ws->Vals (xs++ys) (us++ws)
 | _,_,_,_,.nil,s=>s
 | _,_,_,_,.cons r t,s=>.cons r (Vals.append t s)
theorem Vals.take:∀ {xs:List V} {us:List Value} (n:Nat),Vals xs us->Vals (xs.take n) (us.take n)
 | _,_,0,_=>.nil
 | _,_,_+1,.nil=>.nil
 | _,_,n+1,.cons r t=>.cons r (Vals.take n t)
theorem Vals.drop:∀ {xs:List V} {us:List Value} (n:Nat),Vals xs us->Vals (xs.drop n) (us.drop n)
 | _,_,0,r=>r
 | _,_,_+1,.nil=>.nil
 | _,_,n+1,.cons _ t=>Vals.drop n t
def RelO:Option V->Option Value->Prop
 | some v,some u=>RelV v u
 | none,none=>True
 | _,_=>False
def KV {κ:Type}:List (κ×V)->List (κ×Value)->Prop:=Paired λ(p:κ×V) (q:κ×Value)=>p.1=q.1/\RelV p.2 q.2
def kV:Key->V
 | .inl i=>.int i
 | .inr x=>.str x
inductive HO where
 | lst (xs:List V)
 | tup (xs:List V)
 | dK (kvs:List (Key×V)) | dT (kvs:List (List Key×V))
 | set (S:Int->Bool) (n:Nat)
 | ins (C dx:Addr) (fs:List (Str×V))
 | own (x:Addr)
 | xd (fs:List (Str×V))
 | met (f x:Addr)
 | rng (lo hi:Int)
 | frz (o:Obj) (u:HO)
 | tbl (ps:Array Value)
 | ext (φ:Heap->Prop)
abbrev Hp:=Addr->Option HO
def upd (H:Hp)(a:Addr)(o:HO):Hp:=λb=>if b=a then some o else H b
theorem af {H:Hp}{a:Addr}{o:HO}:upd H a o a=some o:=by unfold upd;rw[if_pos rfl]
theorem ao {H:Hp}{a b:Addr}{o:HO}(h:b≠a):upd H a o b=H b:=by unfold upd;rw[if_neg h]
theorem y3 {H:Hp}{a b:Addr}{o u:HO}(h:H a=some o)(h':H b=some u)(d:o≠u):a≠b:=by
 intro e;subst e;rw[h] at h';exact d (agT h')
theorem aj {H:Hp}{a b:Addr}{o:HO}(h:H a=some o)(h':H b=none):a≠b:=by
 intro e;subst e;rw[h] at h';cases h'
section
variable (P:Program)(w:World)
def ObjOk (H:Hp)(h:Heap)(a:Addr):HO->Prop
 | .lst xs=>xs.length<=sizeLine/\∃ (its:List Value) (n:Nat),Vals xs its/\h.get? a=some { cls:=.type "list",data:=.seq its.toArray n }
 | .tup xs=>xs.length<=sizeLine/\∃ its:List Value,Vals xs its/\IsTup h a its.toArray
 | .dK kvs=>kvs.length<=sizeLine/\(a == sysModules)=false/\∃ vs,KV kvs vs/\h.DictOf (aU P w) a vs
 | .dT kvs=>kvs.length<=sizeLine/\(a == sysModules)=false/\∃ xs:List (List Key×Addr×Value),
  Paired (λ(p:List Key×V) (q:List Key×Addr×Value)=>p.1=q.1/\H q.2.1=some (.tup (p.1.map kV))/\RelV p.2 q.2.2) kvs xs ∧
  ∃ o es ep,h.get? a=some o/\o.ExactDict/\o.data=.dict es ep/\es.toList=xs.map (entryOfKey (tupleKind (aU P w)))/\(xs.map (·.1)).Nodup
 | .set S n=>h.SetOf (intKind P w) a S n
 | .ins C dx fs=>H dx=some (.own a)/\fs.length<=1000/\dx≠a/\h.get? a=some (instObj C dx) ∧
  ∃ mA,h.Ns1 dx mA/\(∀ f,RelO (fs.lookup f) (mA f))/\PySem.Within mA (fs.map (·.1))
 | .own _=>∃ o,h.get? a=some o
 | .xd fs=>∃ mA,h.Ns1 a mA/\∀ f,RelO (fs.lookup f) (mA f)
 | .rng lo hi=>∃ t u v,h.get? a=some { cls:=.type "range",data:=.fields #[.int lo t,.int hi u,.int 1 v] }
 | .frz o u=>h.get? a=some o/\ObjOk H h a u
 | .tbl ps=>h.get? a=some { cls:=.none,data:=.fields ps }
 | .met f x=>h.get? a=some (methodObj (.ref f) (.ref x))
 | .ext φ=>φ h/\(∃ o,h.get? a=some o)/\∀ h1 h2:Heap,φ h1->(∀ o,h1.get? a=some o->h2.get? a=some o)->φ h2
def HOk (H:Hp)(h:Heap):Prop:=∀ a o,H a=some o->ObjOk P w H h a o
end
section
variable {P:Program}{w:World}{H H':Hp}{h h':Heap}{a:Addr}{o:HO}
theorem ObjOk.lt (x:ObjOk P w H h a o):a < h.objs.size:=by
 cases o with
 | lst xs=>obtain⟨_,_,_,_,e⟩:=x;exact afI e
 | tup xs=>obtain⟨_,_,_,p⟩:=x;exact p.lt
 | dK kvs=>obtain⟨_,_,_,_,o,_,_,e,_⟩:=x;exact afI e
 | dT kvs=>obtain⟨_,_,_,_,o,_,_,e,_⟩:=x;exact afI e
 | set S n=>obtain⟨o,_,_,_,e,_⟩:=x;exact afI e
 | ins C dx fs=>obtain⟨_,_,_,e,_⟩:=x;exact afI e
 | own y=>obtain⟨_,e⟩:=x;exact afI e
 | xd fs=>obtain⟨_,⟨_,_,_,e,_⟩,_⟩:=x;exact afI e
 | rng lo hi=>obtain⟨_,_,_,e⟩:=x;exact afI e
 | frz z u=>obtain⟨e,_⟩:=x;exact afI e
 | tbl ps=>exact afI (show h.get? a=some _ from x)
 | met f y=>exact afI (show h.get? a=some _ from x)
 | ext J=>obtain⟨_,⟨_,e⟩,_⟩:=x;exact afI e
theorem Paired.mapP {α J:Type}{F G:α->J->Prop}:∀ {z:List α} {l₂:List J},Paired F z l₂->(∀ a b,F a b->G a b)->Paired G z l₂
 | _,_,.nil,_=>.nil
 | _,_,.cons r t,f=>.cons (f _ _ r) (Paired.mapP t f)
theorem ObjOk.stay (x:ObjOk P w H h a o)(k:∀ b u,(b=a\/H b=some (.own a))->h.get? b=some u->h'.get? b=some u)
 (U:∀ b,H b=some (.own a)->H' b=some (.own a))(Y:∀ b xs,H b=some (.tup xs)->H' b=some (.tup xs)):ObjOk P w H' h' a o:=by
 induction o with
 | lst xs=>obtain⟨z,its,n,r,e⟩:=x;exact⟨z,its,n,r,k _ _ (.inl rfl) e⟩
 | tup xs=>obtain⟨z,its,r,J,e,c⟩:=x;exact⟨z,its,r,J,k _ _ (.inl rfl) e,c⟩
 | dK kvs=>obtain⟨z,y,vs,r,J,es,ep,e,c⟩:=x;exact⟨z,y,vs,r,J,es,ep,k _ _ (.inl rfl) e,c⟩
 | dT kvs =>
  obtain⟨z,y,xs,r,J,es,ep,e,c⟩:=x;exact⟨z,y,xs,Paired.mapP r λp q z=>⟨z.1,Y _ _ z.2.1,z.2.2⟩,J,es,ep,k _ _ (.inl rfl) e,c⟩
 | set S n=>obtain⟨J,es,ep,t,e,c⟩:=x;exact⟨J,es,ep,t,k _ _ (.inl rfl) e,c⟩
 | ins C dx fs =>
  obtain⟨d,z,ne,e,mA,⟨O,es,ep,Z,c⟩,r⟩:=x;exact⟨U _ d,z,ne,k _ _ (.inl rfl) e,mA,⟨O,es,ep,k _ _ (.inr d) Z,c⟩,r⟩
 | own y=>obtain⟨J,e⟩:=x;exact⟨J,k _ _ (.inl rfl) e⟩
 | xd fs=>obtain⟨mA,⟨O,es,ep,e,c⟩,r⟩:=x;exact⟨mA,⟨O,es,ep,k _ _ (.inl rfl) e,c⟩,r⟩
 | rng lo hi=>obtain⟨t,u,v,e⟩:=x;exact⟨t,u,v,k _ _ (.inl rfl) e⟩
 | frz J u ih=>obtain⟨e,q⟩:=x;exact⟨k _ _ (.inl rfl) e,ih q⟩
 | tbl ps =>
  have e:h.get? a=some { cls:=.none,data:=.fields ps }:=x;show h'.get? a=some { cls:=.none,data:=.fields ps };exact k a _ (.inl rfl) e
 | met f y =>
  have e:h.get? a=some (methodObj (.ref f) (.ref y)):=x;show h'.get? a=some (methodObj (.ref f) (.ref y));exact k a _ (.inl rfl) e
 | ext φ=>obtain⟨p,⟨o,e⟩,st⟩:=x;exact⟨st _ _ p λo q=>k _ _ (.inl rfl) q,⟨o,k _ _ (.inl rfl) e⟩,st⟩
theorem HOk.lt (x:HOk P w H h)(e:H a=some o):a < h.objs.size:=(x a o e).lt
theorem HOk.fresh (x:HOk P w H h)(e:h.objs.size<=a):H a=none:=by
 cases q:H a with
 | none=>rfl
 | some u=>exact absurd (afW (x.lt q) e) (agB _)
theorem HOk.kept (x:HOk P w H h)(k:∀ b u,h.get? b=some u->h'.get? b=some u):HOk P w H h':=λa o e =>
 (x a o e).stay (λb u _ q=>k b u q) (λ_ q=>q) λ_ _ q=>q
theorem HOk.laid (x:HOk P w H h)(k:∀ b u,h.get? b=some u->h'.get? b=some u)(O:h.objs.size<=a)(new:ObjOk P w (upd H a o) h' a o):HOk P w (upd H a o) h':=λb u e=>by
 have z:=x.fresh O;by_cases J:b=a
 .subst J;rw[af] at e;cases e;exact new
 .rw[ao J] at e;exact (x b u e).stay (λc v _ q=>k c v q) (λc q=>by rw[ao (aj q z)];exact q) λc xs q=>by rw[ao (aj q z)];exact q
end
def Rd (H:Hp)(a:Addr)(u:HO):Prop:=H a=some u\/∃ o,H a=some (.frz o u)
theorem Rd.ok {P:Program}{w:World}{H:Hp}{h:Heap}{a:Addr}{u:HO}(r:Rd H a u)(x:HOk P w H h):ObjOk P w H h a u:=by
 rcases r with r | ⟨o,r⟩
 .exact x a u r
 .obtain⟨_,q⟩:=x a _ r;exact q
def Mut:Option HO->Prop
 | some (.lst _)=>True
 | some (.dK _)=>True
 | some (.dT _)=>True
 | some (.set _ _)=>True
 | some (.ins _ _ _)=>True
 | some (.ext _)=>True
 | _=>False
section
variable {P:Program}{w:World}{H:Hp}{h h':Heap}{x e:Addr}{o':HO}
theorem HOk.write (ok:HOk P w H h)(U:Mut (H x))(he:e=x\/H e=some (.own x))(k:∀ b u,b≠e->h.get? b=some u->h'.get? b=some u)(Z:∃ u,h'.get? e=some u)
 (new:ObjOk P w (upd H x o') h' x o'):HOk P w (upd H x o') h':=λb u q=>by
 have O:∀ c y,H c=some (.own y)->c≠x:=λc y r z=>by subst z;rw[r] at U;exact U
 have S:∀ c xs,H c=some (.tup xs)->c≠x:=λc xs r z=>by subst z;rw[r] at U;exact U
 by_cases Y:b=x
 .subst Y;rw[af] at q;cases q;exact new
 .rw[ao Y] at q;by_cases J:b=e
  .have q':H b=some (.own x):=by
    rcases he with z | z
    .exact absurd (J.trans z) Y
    .rw[J];exact z
   rw[q] at q';cases q';obtain⟨v,hv⟩:=Z;exact⟨v,by rw[J];exact hv⟩
  .refine (ok b u q).stay (λc v hc r=>k c v ?_ r) (λc r=>by rw[ao (O c b r)];exact r) λc xs r=>by rw[ao (S c xs r)];exact r
   rcases hc with rfl | hc
   .exact J
   .rintro rfl;rcases he with z | z
    .exact O c b hc z
    .rw[hc] at z;cases z;exact Y rfl
end
structure Un (fs ex:List Addr)(H H':Hp)(h h':Heap):Prop where
 keep:∀ b o,h.get? b=some o->H b=none->b ∉ fs->b ∉ ex->h'.get? b=some o
 slot:∀ b o,h.get? b=some o->H b=none->b∈fs->b ∉ ex->∃ sl,h'.get? b=some { o with slots:=sl }
 free:∀ b o,h.get? b=some o->H b=none->b ∉ ex->H' b=none
 there:∀ b o,h.get? b=some o->b ∉ ex->∃ o',h'.get? b=some o'
 tups:∀ b xs,H b=some (.tup xs)->H' b=some (.tup xs)
 frzs:∀ b o u,H b=some (.frz o u)->H' b=some (.frz o u)
 tbls:∀ b ps,H b=some (.tbl ps)->∃ more,H' b=some (.tbl (ps++more))
section
variable {fs fs' ex ex':List Addr}{H H1 H2:Hp}{h h1 h2 h':Heap}{a x e:Addr}{o:HO}
theorem Un.any (u:Un fs ex H H1 h h1){b:Addr}{z:Obj}(q:h.get? b=some z)(n:H b=none)(J:b ∉ ex):∃ sl,h1.get? b=some { z with slots:=sl }:=by
 by_cases O:b∈fs
 .exact u.slot b z q n O J
 .exact⟨z.slots,u.keep b z q n O J⟩
theorem Un.kept (k:∀ b u,h.get? b=some u->h'.get? b=some u):Un fs ex H H h h' :=
 ⟨λb z q _ _ _=>k b z q,λb z q _ _ _=>⟨z.slots,k b z q⟩,λ_ _ _ n _=>n,λb z q _=>⟨z,k b z q⟩,λ_ _ q=>q,λ_ _ _ q=>q,λ_ ps q=>⟨#[],by rw[q];simp⟩⟩
theorem Un.refl:Un fs ex H H h h:=Un.kept λ_ _ q=>q
theorem Un.laid (k:∀ b u,h.get? b=some u->h'.get? b=some u)(J:h.objs.size<=a)(z:H a=none):Un fs ex H (upd H a o) h h' where
 keep:=λb u q _ _ _=>k b u q
 slot:=λb u q _ _ _=>⟨u.slots,k b u q⟩
 free:=λb u q n _=>by rw[ao (afU (afW (afI q) J))];exact n
 there:=λb u q _=>⟨u,k b u q⟩
 tups:=λb xs q=>by rw[ao (aj q z)];exact q
 frzs:=λb u xs q=>by rw[ao (aj q z)];exact q
 tbls:=λb ps q=>⟨#[],by rw[ao (aj q z),q];simp⟩
theorem Un.write (O:Mut (H x))(he:e=x\/H e=some (.own x))(k:∀ b u,b≠e->h.get? b=some u->h'.get? b=some u)(S:∃ u,h'.get? e=some u):Un fs ex H (upd H x o) h h':=by
 have Y:∀ b,H b=none->b≠x:=λb n z=>by subst z;rw[n] at O;exact O
 have Z:∀ b,H b=none->b≠e:=λb n z=>by
  subst z;rcases he with r | r
  .exact Y b n r
  .rw[n] at r;cases r
 have U:∀ b u,H b=some u->¬ Mut (some u)->b≠x:=λb u q nm z=>by subst z;rw[q] at O;exact nm O
 refine⟨λb u q n _ _=>k b u (Z b n) q,λb u q n _ _=>⟨u.slots,k b u (Z b n) q⟩,λb u q n _=>by rw[ao (Y b n)];exact n,λb u q _=>?_,
  λb xs q=>by rw[ao (U b _ q λz=>z)];exact q,λb u xs q=>by rw[ao (U b _ q λz=>z)];exact q,λb ps q=>⟨#[],by rw[ao (U b _ q λz=>z),q];simp⟩⟩
 by_cases J:b=e
 .subst J;exact S
 .exact⟨u,k b u J q⟩
end
def trk (h:Heap)(H:Hp):List Addr:=(List.range h.objs.size).filter λa=>(H a).isSome
def aaT (h:Heap)(H:Hp):Heap:=PySem.W.hideAll h (trk h H)
theorem z4 (h:Heap)(H:Hp):(aaT h H).objs.size=h.objs.size:=PySem.W.hideAll_size _ _
theorem abH {h:Heap}{H:Hp}{b:Addr}{o:Obj}(e:h.get? b=some o)(n:H b=none):(aaT h H).get? b=some o :=
 PySem.W.hideAll_get _ e λz=>by
  have q:(H b).isSome=true:=(agi.mp z).2;rw[n] at q;simp at q
theorem adg {h:Heap}{H:Hp}{b:Addr}{o:Obj}(e:(aaT h H).get? b=some o):h.get? b=some o/\H b=none:=by
 have J:h.get? b=some o:=PySem.W.of_hideAll (trk h H) e;refine⟨J,?_⟩;cases q:H b with
 | none=>rfl
 | some x =>
  have O:b∈trk h H:=agi.mpr ⟨agP.mpr (afI J),by simp[q]⟩;have z:(aaT h H).get? b=none:=PySem.W.hideAll_none (trk h H) O;rw[z] at e;cases e
def acv (g h:Heap)(L:Addr):List (Addr×Obj):=(List.range h.objs.size).filterMap λa=>if a=L\/(g.get? a).isSome=true then none else (h.get? a).map λo=>(a,o)
def rest (g h:Heap)(L d:Addr):List (Addr×Obj):=(acv g h L).filter λp=>decide (p.1≠d)
structure Mod (K:PySem.W.Frag)(mg:Str->Option Value)(base:Heap):Prop where
 kin:K.In base
 glob:base.Ns mainGlobals mg
 blt:∃ mb,base.Ns builtinsNs mb/\∀ x:Str,x ≠ "__name__" → mb x=bootBuiltins x
 nolimit:base.NoLimit
structure Cx where
 prog:Program
 w:World
 K:PySem.W.Frag
 mg:Str->Option Value
 base:Heap
 A:Around
 N:List Str
 s₀:Shared
 H₀:Hp
 env:Env
 outer:List Env
 stack:List Env
 ex:List Addr
 fn:Str->Bool
 calm:Bool
 pn:List (Addr×Obj)
 xe:Value->Shared->Prop
def frs (l:List Env):List Addr:=l.filterMap (·.frame)
abbrev Cx.fs (X:Cx):List Addr:=frs X.outer
def Vis (sc:Scope)(x:Str):Prop:=sc.names.lookup x=some .local\/sc.names.lookup x=some .cell\/sc.names.lookup x=some .free
def Loc (sc:Scope)(x:Str):Prop:=sc.names.lookup x=some .local\/sc.names.lookup x=some .cell
def ae7 (env:Env)(h:Heap)(m:Str->Option Value)(x:Str)(u:Value):Prop :=
 (env.kindOf x=some .local/\m x=some u)\/((env.kindOf x=some .cell\/env.kindOf x=some .free)/\∃ c,env.cells.lookup x=some c/\h.IsCell c (some u))
structure Cx.Ok (X:Cx):Prop where
 mod:Mod X.K X.mg X.base
 kind:X.env.scope.kind=.function
 glob:X.env.globals=mainGlobals
 blt:X.env.builtins=builtinsNs
 above:X.s₀.heap.objs.size<=X.env.locals
 inj:∀ x y c,X.env.cells.lookup x=some c->X.env.cells.lookup y=some c->x=y
 has:∀ x,(X.env.kindOf x=some .cell\/X.env.kindOf x=some .free)->∃ c,X.env.cells.lookup x=some c
 cab:∀ x c,X.fn x=true->X.env.cells.lookup x=some c->X.s₀.heap.objs.size<=c
 hd:X.calm=true->X.A.handled=none
 frames:X.A.frames=some X.stack
 stk:X.stack=X.outer\/(X.stack=X.env::X.outer/\X.env.frame=some X.env.locals)
 exf:∀ b∈X.ex,b≠X.env.locals/\∀ x c,X.env.cells.lookup x=some c->c≠b
 bs:∀ b o,X.base.get? b=some o->X.s₀.heap.get? b=some o/\X.H₀ b=none
 bsz:X.base.objs.size<=X.s₀.heap.objs.size
 noex:∀ b o,X.base.get? b=some o->b ∉ X.ex
 exfs:∀ b∈X.ex,b ∉ X.fs
 funs:X.s₀.heap.FunFrames X.base X.outer
 frf:∀ b∈X.fs,X.H₀ b=none
structure Inv (X:Cx)(pins:List (Addr×Obj))(σ:List (Option V))(H:Hp)(s:Shared):Prop where
 ok:X.Ok
 os:s.os=X.s₀.os
 bare:AllBare s.gens
 base:Un X.fs X.ex X.H₀ H X.s₀.heap s.heap
 loc:∃ m,s.heap.Ns X.env.locals m/\∀ (i:Nat) (x:Str) (v:V),X.N[i]? = some x->σ[i]? = some (some v)->Vis X.env.scope x->∃ u,RelV v u/\ae7 X.env s.heap m x u
 cell:∀ x c,X.env.cells.lookup x=some c->∃ v,s.heap.IsCell c v
 free:H X.env.locals=none
 freeC:∀ x c,X.env.cells.lookup x=some c->H c=none
 pin:∀ p∈X.pn++pins,s.heap.get? p.1=some p.2/\H p.1=none/\p.1≠X.env.locals/\p.1 ∉ X.fs/\∀ v,p.2.data≠.cell v
 hok:HOk X.prog X.w H s.heap
 len:σ.length=X.N.length
section
variable {X:Cx}{pins:List (Addr×Obj)}{σ:List (Option V)}{H H':Hp}{s:Shared}{h':Heap}
theorem Cx.Ok.nofr (ok:X.Ok){b:Addr}{o:Obj}(e:X.base.get? b=some o):b ∉ X.fs:=λz=>by
 have:=(ok.funs.mem z).1;rw[e] at this;cases this
theorem Inv.bs (I:Inv X pins σ H s):∀ b o,X.base.get? b=some o->s.heap.get? b=some o/\H b=none:=λb o e =>
 ⟨I.base.keep b o (I.ok.bs b o e).1 (I.ok.bs b o e).2 (I.ok.nofr e) (I.ok.noex b o e),I.base.free b o (I.ok.bs b o e).1 (I.ok.bs b o e).2 (I.ok.noex b o e)⟩
theorem Inv.bk (I:Inv X pins σ H s):∀ b o,X.base.get? b=some o->s.heap.get? b=some o:=λb o e=>(I.bs b o e).1
theorem Inv.mod (I:Inv X pins σ H s):Mod X.K X.mg X.base:=I.ok.mod
theorem Inv.kIn (I:Inv X pins σ H s):X.K.In s.heap:=I.ok.mod.kin.keeps I.bk
theorem Inv.fr (I:Inv X pins σ H s):∃ m,Fr X.base X.env.locals s.heap m :=
 let ⟨m,hn,_⟩:=I.loc
 ⟨m,hn,I.bk,afR I.ok.bsz I.ok.above⟩
theorem Inv.lt (I:Inv X pins σ H s):X.env.locals < s.heap.objs.size:=let ⟨_,hn,_⟩:=I.loc;hn.lt
theorem Inv.sz (I:Inv X pins σ H s):X.s₀.heap.objs.size<=s.heap.objs.size:=afR I.ok.above (ahc I.lt)
theorem Inv.nofs (I:Inv X pins σ H s){a:Addr}(h:s.heap.objs.size<=a):a ∉ X.fs:=λz=>by
 obtain⟨_,o,J,_⟩:=I.ok.funs.mem z;exact absurd (afW (afI J) (afR I.sz h)) (agB _)
theorem Inv.cne (I:Inv X pins σ H s):∀ x c,X.env.cells.lookup x=some c->c≠X.env.locals:=λx c e z=>by
 obtain⟨v,o,S,U⟩:=I.cell x c e;obtain⟨m,⟨o',es,ep,J,O,_⟩,_⟩:=I.loc;rw[z,J] at S;cases S;rw[O] at U;cases U
theorem Inv.funs (I:Inv X pins σ H s):s.heap.FunFrames X.base X.outer:=by
 have all:∀ (l:List Env),(∀ b∈frs l,b∈X.fs)->X.s₀.heap.FunFrames X.base l->s.heap.FunFrames X.base l:=by
  intro l
  induction l with
  | nil=>intro _ _;trivial
  | cons env r Y =>
   intro U Z;obtain⟨hk,⟨L,o,J,hn,ho,hd⟩,hr⟩:=Z;have O:L∈X.fs:=U L (by unfold frs;rw[aiK,J];exact afX);obtain⟨sl,e⟩:=I.base.slot L o ho (I.ok.frf L O) O λz=>I.ok.exfs L z O;exact⟨hk,⟨L,_,J,hn,e,hd⟩,Y (λb S=>U b (by unfold frs;rw[aiK,J];exact af6 _ S)) hr⟩
 exact all X.outer (λ_ S=>S) I.ok.funs
theorem Inv.stack (I:Inv X pins σ H s):s.heap.FunFrames X.base X.stack:=by
 rcases I.ok.stk with e | ⟨e,hf⟩
 .rw[e];exact I.funs
 .rw[e];obtain⟨m,z,_⟩:=I.loc;refine .cons (by rw[I.ok.kind];decide) hf z ?_ I.funs;exact Heap.get?_none_of_le (afR I.ok.bsz I.ok.above)
theorem Inv.stkSub (I:Inv X pins σ H s):∀ b∈frs X.stack,b∈X.env.locals::X.fs:=λb hb=>by
 rcases I.ok.stk with e | ⟨e,hf⟩
 .rw[e] at hb;exact af6 _ hb
 .rw[e] at hb;unfold frs at hb;rw[aiK,hf] at hb;exact hb
theorem Inv.stkFree (I:Inv X pins σ H s):∀ b∈frs X.stack,H b=none:=λb hb=>by
 rcases afZ.mp (I.stkSub b hb) with e | hb
 .rw[e];exact I.free
 .obtain⟨_,o,J,_⟩:=I.ok.funs.mem hb;exact I.base.free b o J (I.ok.frf b hb) λz=>I.ok.exfs b z hb
theorem Inv.step {g':Array GenState}{t':Nat}{d':Drawn}{ch:List Addr}(I:Inv X pins σ H s)
 (O:∀ b∈ch,(b∈X.ex\/X.s₀.heap.objs.size<=b)/\b≠X.env.locals/\(∀ x c,X.env.cells.lookup x=some c->c≠b)/\∀ p∈X.pn++pins,p.1≠b)
 (S:∀ b o,b≠X.env.locals->b ∉ X.fs->b ∉ ch->s.heap.get? b=some o->H b=none->h'.get? b=some o)
 (ac:∀ b o,b≠X.env.locals->b∈X.fs->b ∉ ch->s.heap.get? b=some o->H b=none->∃ sl,h'.get? b=some { o with slots:=sl })(free:∀ b o,b ∉ ch->s.heap.get? b=some o->H b=none->H' b=none)
 (ad:∀ b o,b ∉ ch->s.heap.get? b=some o->∃ o',h'.get? b=some o')
 (ag:∀ b xs,H b=some (.tup xs)->H' b=some (.tup xs))(ah:∀ b o u,H b=some (.frz o u)->H' b=some (.frz o u))(ai:∀ b ps,H b=some (.tbl ps)->∃ more,H' b=some (.tbl (ps++more)))
 (ns:∀ m,s.heap.Ns X.env.locals m->h'.Ns X.env.locals m)(al:HOk X.prog X.w H' h')(hg:AllBare g') :
 Inv X pins σ H' { s with heap:=h',gens:=g',drawn:=d',toks:=t' }:=by
 have aj:∀ b o,X.s₀.heap.get? b=some o->b≠X.env.locals:=λb o e=>afU (afW (afI e) I.ok.above);have Z:∀ b o,X.s₀.heap.get? b=some o->b ∉ X.ex->b ∉ ch:=λb o e J hb=>by
  rcases (O b hb).1 with z | z
  .exact J z
  .exact absurd (afW (afI e) z) (agB _)
 have U:∀ x c,X.env.cells.lookup x=some c->∀ v,s.heap.IsCell c v->h'.IsCell c v:=λx c e v ⟨o,ho,hd⟩=>by
  have Y:c ∉ ch:=λz=>(O c z).2.2.1 x c e rfl;by_cases hc:c∈X.fs
  .obtain⟨sl,q⟩:=ac c o (I.cne x c e) hc Y ho (I.freeC x c e);exact⟨_,q,hd⟩
  .exact⟨o,S c o (I.cne x c e) hc Y ho (I.freeC x c e),hd⟩
 refine⟨I.ok,I.os,hg,⟨λb o e n hb J=>?_,λb o e n hb J=>?_,λb o e n J=>?_,λb o e J=>?_,λb xs e=>ag b xs (I.base.tups b xs e),λb o xs e=>ah b o xs (I.base.frzs b o xs e),λb ps e=>?_⟩,?_,λx c e=>?_,?_,λx c e=>?_,λp hp=>?_,al,I.len⟩
 .exact S b o (aj b o e) hb (Z b o e J) (I.base.keep b o e n hb J) (I.base.free b o e n J)
 .obtain⟨sl,e1⟩:=I.base.slot b o e n hb J;obtain⟨an,e2⟩:=ac b _ (aj b o e) hb (Z b o e J) e1 (I.base.free b o e n J);exact⟨an,e2⟩
 .obtain⟨o',e1⟩:=I.base.there b o e J;exact free b o' (Z b o e J) e1 (I.base.free b o e n J)
 .obtain⟨o',e1⟩:=I.base.there b o e J;exact ad b o' (Z b o e J) e1
 .obtain⟨m1,e1⟩:=I.base.tbls b ps e;obtain⟨m2,e2⟩:=ai b _ e1;exact⟨m1++m2,by rw[e2,Array.append_assoc]⟩
 .obtain⟨m,hn,hl⟩:=I.loc;refine⟨m,ns m hn,λi x v e1 e2 e3=>?_⟩;obtain⟨u,r,l⟩:=hl i x v e1 e2 e3;refine⟨u,r,?_⟩;rcases l with l | ⟨k,c,e,z⟩
  .exact .inl l
  .exact .inr ⟨k,c,e,U x c e _ z⟩
 .obtain⟨v,z⟩:=I.cell x c e;exact⟨v,U x c e v z⟩
 .obtain⟨m,⟨o,_,_,ho,_⟩,_⟩:=I.loc;exact free _ o (λz=>(O _ z).2.1 rfl) ho I.free
 .obtain⟨v,o,ho,hd⟩:=I.cell x c e;exact free c o (λz=>(O c z).2.2.1 x c e rfl) ho (I.freeC x c e)
 .obtain⟨e,n,ne,nf,d⟩:=I.pin p hp;have Y:p.1 ∉ ch:=λz=>(O p.1 z).2.2.2 p hp rfl;exact⟨S p.1 p.2 ne nf Y e n,free p.1 p.2 Y e n,ne,nf,d⟩
theorem Inv.un {t':Nat}(I:Inv X pins σ H s)(u:Un X.fs [] H H' s.heap h')(O:HOk X.prog X.w H' h'):Inv X pins σ H' { s with heap:=h',toks:=t' }:=by
 obtain⟨m,⟨o,es,ep,Z,r⟩,_⟩:=id I.loc;obtain⟨sl,hL⟩:=u.any Z I.free (by simp);exact I.step (g':=s.gens) (d':=s.drawn) (ch:=[]) (λ_ z=>nomatch z) (λb o _ S _ e n=>u.keep b o e n S (by simp)) (λb o _ S _ e n=>u.slot b o e n S (by simp)) (λb o _ e n=>u.free b o e n (by simp)) (λb o _ e=>u.there b o e (by simp)) u.tups u.frzs u.tbls (λm' hm=>by
  obtain⟨o',U,Y,J,r'⟩:=hm;rw[Z] at J;cases J;exact⟨_,U,Y,hL,r'⟩) O I.bare
theorem Inv.call {g':Array GenState}{t':Nat}{d':Drawn}{ch:List Addr}(I:Inv X pins σ H s)(u:Un (frs X.stack) ch H H' s.heap h')(U:HOk X.prog X.w H' h')(hg:AllBare g')
 (O:∀ b∈ch,(b∈X.ex\/X.s₀.heap.objs.size<=b)/\b≠X.env.locals/\(∀ x c,X.env.cells.lookup x=some c->c≠b)/\∀ p∈X.pn++pins,p.1≠b) :
 Inv X pins σ H' { s with heap:=h',gens:=g',drawn:=d',toks:=t' }:=by
 obtain⟨m,⟨o,es,ep,ho,r⟩,_⟩:=id I.loc;obtain⟨sl,Y⟩:=u.any ho I.free λz=>(O _ z).2.1 rfl;exact I.step (ch:=ch) O (λb o Y hb J e n=>u.keep b o e n (λz=>(afZ.mp (I.stkSub b z)).elim Y hb) J) (λb o _ _ J e n=>u.any e n J) (λb o J e n=>u.free b o e n J) (λb o J e=>u.there b o e J) u.tups u.frzs u.tbls (λm' hm=>by
  obtain⟨o',Z,aa,S,r'⟩:=hm;rw[ho] at S;cases S;exact⟨_,Z,aa,Y,r'⟩) U hg
theorem Inv.turned {t':Nat}{it:Addr}(I:Inv X pins σ H s)(k:∀ b o,b≠it->s.heap.get? b=some o->h'.get? b=some o)(U:H it=none)(S:it≠X.env.locals)
 (h1:it∈X.ex\/X.s₀.heap.objs.size<=it)(h2:∀ x c,X.env.cells.lookup x=some c->c≠it)(Y:∀ p∈X.pn++pins,p.1≠it):Inv X pins σ H { s with heap:=h',toks:=t' }:=by
 have O:∀ b u,H b=some u->b≠it:=λb u e z=>by rw[z,U] at e;cases e
 refine I.step (g':=s.gens) (d':=s.drawn) (ch:=[it]) (λb Z=>?_) (λb o _ _ J e _=>k b o (λz=>J (by simp[z])) e) (λb o _ _ J e _=>⟨o.slots,k b o (λz=>J (by simp[z])) e⟩) (λ_ _ _ _ n=>n)
  (λb o J e=>⟨o,k b o (λz=>J (by simp[z])) e⟩) (λ_ _ e=>e) (λ_ _ _ e=>e) (λb ps e=>⟨#[],by rw[e];simp⟩) (λm hm=>?_) (λb u e=>?_) I.bare
 .have e:b=it:=by simpa using Z
  subst e;exact⟨h1,S,h2,Y⟩
 .obtain⟨o,es,ep,ho,r⟩:=hm;exact⟨o,es,ep,k _ o (ahf S) ho,r⟩
 .refine (I.hok b u e).stay (λc v J q=>k c v ?_ q) (λ_ q=>q) λ_ _ q=>q;rcases J with z | z
  .rw[z];exact O b u e
  .exact O c _ z
theorem Inv.tok (I:Inv X pins σ H s)(t:Nat):Inv X pins σ H { s with toks:=t }:=I.un (h':=s.heap) (t':=t) Un.refl I.hok
theorem Inv.kept {t':Nat}(I:Inv X pins σ H s)(k:∀ b u,s.heap.get? b=some u->h'.get? b=some u):Inv X pins σ H { s with heap:=h',toks:=t' }:=I.un (Un.kept k) (I.hok.kept k)
theorem Inv.laid {a:Addr}{o:HO}{t':Nat}(I:Inv X pins σ H s)(k:∀ b u,s.heap.get? b=some u->h'.get? b=some u)(z:s.heap.objs.size<=a)(new:ObjOk X.prog X.w (upd H a o) h' a o) :
 Inv X pins σ (upd H a o) { s with heap:=h',toks:=t' }:=I.un (Un.laid k z (I.hok.fresh z)) (I.hok.laid k z new)
theorem Inv.write {x e:Addr}{o:HO}{t':Nat}(I:Inv X pins σ H s)(J:Mut (H x))(O:e=x\/H e=some (.own x))(k:∀ b u,b≠e->s.heap.get? b=some u->h'.get? b=some u)(z:∃ u,h'.get? e=some u)
 (new:ObjOk X.prog X.w (upd H x o) h' x o):Inv X pins σ (upd H x o) { s with heap:=h',toks:=t' }:=I.un (Un.write J O k z) (I.hok.write J O k z new)
theorem Inv.weak {z:List (Option V)}(I:Inv X pins σ H s)(J:z.length=σ.length)(w:∀ (i:Nat) v,z[i]? = some (some v)->σ[i]? = some (some v)):Inv X pins z H s :=
 ⟨I.ok,I.os,I.bare,I.base,let ⟨m,hn,hl'⟩:=I.loc;⟨m,hn,λi x v O S U=>hl' i x v O (w i v S) U⟩,I.cell,I.free,I.freeC,I.pin,I.hok,J.trans I.len⟩
theorem Inv.pins_of {pins':List (Addr×Obj)}(I:Inv X pins σ H s)(h:∀ p∈pins',s.heap.get? p.1=some p.2/\H p.1=none/\p.1≠X.env.locals/\p.1 ∉ X.fs/\∀ v,p.2.data≠.cell v):Inv X pins' σ H s :=
 ⟨I.ok,I.os,I.bare,I.base,I.loc,I.cell,I.free,I.freeC,λp J=>(afV.mp J).elim (λz=>I.pin p (List.mem_append_left _ z)) (h p),I.hok,I.len⟩
theorem vR {N:List Str}(z:N.Nodup){i j:Nat}{x:Str}(a:N[i]? = some x)(b:N[j]? = some x):i=j:=by
 obtain⟨h1,J⟩:=afA.mp a;obtain⟨h2,O⟩:=afA.mp b;exact (List.getElem_inj z).mp (J.trans O.symm)
theorem sf {M:Model}{A:Around}{E:Value->Shared->Prop}{i:Nat}{x:Str}{v:V}{u:Value}{Q:Unit->Shared->Prop}(I:Inv X pins σ H s)(hN:X.N.Nodup)(hi:X.N[i]? = some x)(U:Loc X.env.scope x)(r:RelV v u)
 (h:∀ s',Inv X pins (σ.set i (some v)) H s'->(∃ a,Heap.SameBut a s.heap s'.heap/\(a=X.env.locals\/X.env.cells.lookup x=some a))->Q () s')(hf:X.fn x=true\/X.env.scope.names.lookup x=some .local:=by first | exact .inl rfl | exact .inr rfl | assumption):wpAny M A (storeName X.env x u) Q E s:=by
 obtain⟨m,hn,hl⟩:=id I.loc;have af:(X.env.scope.kind == .class || (X.env.scope.kind == .module && X.env.locals != X.env.globals))=false:=by rw[I.ok.kind];rfl
 have aa:i < σ.length:=by rw[I.len];exact (afA.mp hi).1
 have cne:=I.cne;have O:∀ {a:Addr} {h':Heap},(∃ o,s.heap.get? a=some o/\H a=none)->Heap.SameBut a s.heap h'->HOk X.prog X.w H h':=fun {a h'} ha J b ob e=>by
  obtain⟨_,_,Y⟩:=ha;refine (I.hok b ob e).stay (λc w' hc q=>(J.2 c ?_).trans q) (λ_ q=>q) λ_ _ q=>q;rintro rfl;rcases hc with rfl | hc
  .rw[Y] at e;cases e
  .rw[Y] at hc;cases hc
 rcases U with hk | hk
 .refine wpAny_storeName_local hk hn (λh' an J=>?_) af;obtain⟨oL,_,_,ao,_⟩:=id hn;refine h _ ⟨I.ok,I.os,I.bare,⟨λb o e n hb U=>?_,λb o e n hb U=>?_,I.base.free,λb o e U=>?_,I.base.tups,I.base.frzs,I.base.tbls⟩,⟨_,an,λj y v' S Z e3=>?_⟩,λy c e=>?_,I.free,I.freeC,λp hp=>?_,O ⟨oL,ao,I.free⟩ J,by simpa using I.len⟩ ⟨_,J,.inl rfl⟩
  .exact (J.2 b (afU (afW (afI e) I.ok.above))).trans (I.base.keep b o e n hb U)
  .obtain⟨sl,S⟩:=I.base.slot b o e n hb U;exact⟨sl,(J.2 b (afU (afW (afI e) I.ok.above))).trans S⟩
  .obtain⟨o',S⟩:=I.base.there b o e U;exact⟨o',(J.2 b (afU (afW (afI e) I.ok.above))).trans S⟩
  .by_cases hj:j=i
   .subst hj;rw[hi] at S;cases S;rw[aim aa] at Z;cases Z;exact⟨u,r,.inl ⟨hk,by simp⟩⟩
   .rw[ajp (ahf hj)] at Z;obtain⟨u',r',q⟩:=hl j y v' S Z e3;refine⟨u',r',?_⟩;rcases q with ⟨k,e⟩ | ⟨k,c,e,z⟩
    .refine .inl ⟨k,?_⟩;have:y≠x:=λe=>hj (vR hN S (e▸hi));simp[this,e]
    .exact .inr ⟨k,c,e,z.sameBut J (cne y c e)⟩
  .obtain⟨w',z⟩:=I.cell y c e;exact⟨w',z.sameBut J (cne y c e)⟩
  .obtain⟨e,n,ne,nf,d⟩:=I.pin p hp;exact⟨(J.2 p.1 ne).trans e,n,ne,nf,d⟩
 .have ae:X.fn x=true:=by
   rcases hf with z | z
   .exact z
   .rw[z] at hk;cases hk
  obtain⟨c,hc⟩:=I.ok.has x (.inl hk);obtain⟨w',z⟩:=I.cell x c hc;refine wpAny_storeName_cell I.ok.kind hk hc z (λh' ag J=>?_);obtain⟨oc,ah,ai⟩:=id z;refine h { s with heap:=h' } ⟨I.ok,I.os,I.bare,⟨λb o e n hb U=>?_,λb o e n hb U=>?_,I.base.free,λb o e U=>?_,I.base.tups,I.base.frzs,I.base.tbls⟩,⟨m,hn.sameBut J (ahf (cne x c hc)),λj y v' S Z e3=>?_⟩,λy c' e=>?_,I.free,I.freeC,λp hp=>?_,O ⟨oc,ah,I.freeC x c hc⟩ J,by simpa using I.len⟩ ⟨c,J,.inr hc⟩
  .exact (J.2 b (afU (afW (afI e) (I.ok.cab x c ae hc)))).trans (I.base.keep b o e n hb U)
  .obtain⟨sl,S⟩:=I.base.slot b o e n hb U;exact⟨sl,(J.2 b (afU (afW (afI e) (I.ok.cab x c ae hc)))).trans S⟩
  .obtain⟨o',S⟩:=I.base.there b o e U;exact⟨o',(J.2 b (afU (afW (afI e) (I.ok.cab x c ae hc)))).trans S⟩
  .by_cases hj:j=i
   .subst hj;rw[hi] at S;cases S;rw[aim aa] at Z;cases Z;exact⟨u,r,.inr ⟨.inl hk,c,hc,ag⟩⟩
   .rw[ajp (ahf hj)] at Z;obtain⟨u',r',q⟩:=hl j y v' S Z e3;refine⟨u',r',?_⟩;rcases q with q | ⟨k,c',e,z'⟩
    .exact .inl q
    .refine .inr ⟨k,c',e,z'.sameBut J ?_⟩;rintro rfl;exact hj (vR hN S (I.ok.inj _ _ _ e hc▸hi))
  .by_cases aj:c'=c
   .subst aj;exact⟨_,ag⟩
   .obtain⟨w2,z2⟩:=I.cell y c' e;exact⟨w2,z2.sameBut J aj⟩
  .obtain⟨e,n,ne,nf,d⟩:=I.pin p hp;refine⟨(J.2 p.1 ?_).trans e,n,ne,nf,d⟩;intro q;rw[q,ah] at e;have q':oc=p.2:=agT e;exact d w' (by rw[← q'];exact ai)
theorem we {M:Model}{A:Around}{E:Value->Shared->Prop}{i:Nat}{x:Str}{v:V}{u:Value}{Q:Unit->Shared->Prop}(I:Inv X pins σ H s)(z:X.N.Nodup)(hi:X.N[i]? = some x)(J:Loc X.env.scope x)(r:RelV v u)
 (h:∀ s',Inv X pins (σ.set i (some v)) H s'->Q () s')(O:X.fn x=true\/X.env.scope.names.lookup x=some .local:=by first | exact .inl rfl | exact .inr rfl | assumption):wpAny M A (storeName X.env x u) Q E s :=
 sf I z hi J r (λs' S _=>h s' S) O
theorem Inv.call' {s':Shared}{ch:List Addr}(I:Inv X pins σ H s)(O:s'.os=s.os)(u:Un (frs X.stack) ch H H' s.heap s'.heap)(z:HOk X.prog X.w H' s'.heap)(S:AllBare s'.gens)
 (J:∀ b∈ch,(b∈X.ex\/X.s₀.heap.objs.size<=b)/\b≠X.env.locals/\(∀ x c,X.env.cells.lookup x=some c->c≠b)/\∀ p∈X.pn++pins,p.1≠b):Inv X pins σ H' s':=by
 obtain⟨h',g',d',t',o'⟩:=s';have e:o'=s.os:=O;subst e;exact I.call (g':=g') (t':=t') (d':=d') u z S J
end
abbrev XK:=Value->Option Addr->Hp->Prop
abbrev St:=List (Option V)
abbrev VK:=V->Hp->Prop
abbrev TE:=St->Hp->VK->Prop
abbrev TT:=St->Hp->(Bool->Hp->Prop)->Prop
abbrev TA:=St->Hp->(List V->Hp->Prop)->Prop
structure xV where
 nx:St->Hp->Prop
 rt:VK
 bk:St->Hp->Prop:=λ_ _=>False
 ct:St->Hp->Prop:=λ_ _=>False
abbrev TS:=xV->St->Hp->Prop
def EP (X:Cx)(pins:List (Addr×Obj))(σ:St)(Q:VK)(u:Value)(s':Shared):Prop:=∃ v H',Inv X pins σ H' s'/\RelV v u/\Q v H'
def TP (X:Cx)(pins:List (Addr×Obj))(σ:St)(Q:Bool->Hp->Prop)(b:Bool)(s':Shared):Prop:=∃ H',Inv X pins σ H' s'/\Q b H'
def AP (X:Cx)(pins:List (Addr×Obj))(σ:St)(Q:List V->Hp->Prop)(us:List Value)(s':Shared):Prop:=∃ vs H',Inv X pins σ H' s'/\Vals vs us/\Q vs H'
def SP (X:Cx)(pins:List (Addr×Obj))(D:xV)(f:Flow)(s':Shared):Prop :=
 match f with
 | .next=>∃ σ' H',Inv X pins σ' H' s'/\D.nx σ' H'
 | .brk=>∃ σ' H',Inv X pins σ' H' s'/\D.bk σ' H'
 | .cont=>∃ σ' H',Inv X pins σ' H' s'/\D.ct σ' H'
 | .ret u=>∃ v σ' H',Inv X pins σ' H' s'/\RelV v u/\D.rt v H'
def PE (X:Cx)(e:Expr)(t:TE):Prop :=
 ∀ (pins:List (Addr×Obj)) (s:Shared) (σ:St) (H:Hp) (Q:VK),Inv X pins σ H s->t σ H Q->wpAny (model X.prog X.w) X.A (eval e X.env) (EP X pins σ Q) X.xe s
def PT (X:Cx)(e:Expr)(t:TT):Prop :=
 ∀ (pins:List (Addr×Obj)) (s:Shared) (σ:St) (H:Hp) (Q:Bool->Hp->Prop),Inv X pins σ H s->t σ H Q->wpAny (model X.prog X.w) X.A (isTrue e X.env (eval e X.env)) (TP X pins σ Q) X.xe s
def PW (X:Cx)(e:Expr)(t:TT):Prop :=
 ∀ (whole:Sem Value) (pins:List (Addr×Obj)) (s:Shared) (σ:St) (H:Hp) (Q:Bool->Hp->Prop),Inv X pins σ H s->t σ H Q->wpAny (model X.prog X.w) X.A (isTrue e X.env whole) (TP X pins σ Q) X.xe s
theorem PW.pt {X:Cx}{e:Expr}{t:TT}(h:PW X e t):PT X e t:=h _
def PA (X:Cx)(es:List Expr)(t:TA):Prop :=
 ∀ (pos:Pos) (pins:List (Addr×Obj)) (s:Shared) (σ:St) (H:Hp) (Q:List V->Hp->Prop),Inv X pins σ H s->t σ H Q->wpAny (model X.prog X.w) X.A (spliced (backTo pos (starEach es X.env))) (AP X pins σ Q) X.xe s
def PS (X:Cx)(st:Stmt)(t:TS):Prop :=
 ∀ (pins:List (Addr×Obj)) (s:Shared) (σ:St) (H:Hp) (D:xV),Inv X pins σ H s->t D σ H->wpAny (model X.prog X.w) X.A (exec st X.env) (SP X pins D) X.xe s
def PSs (X:Cx)(st:List Stmt)(t:TS):Prop :=
 ∀ (pins:List (Addr×Obj)) (s:Shared) (σ:St) (H:Hp) (D:xV),Inv X pins σ H s->t D σ H->wpAny (model X.prog X.w) X.A (execs st X.env) (SP X pins D) X.xe s
theorem thn {α:Type}{t:Sem α}{Q z:α->Shared->Prop}{M:Model}{A:Around}{E:Value->Shared->Prop}{s:Shared}(h:wpAny M A t Q E s)(J:∀ a s,Q a s->z a s):wpAny M A t z E s:=agq h J λ_ _ x=>x
section
variable {X:Cx}
theorem bin {a b:Expr}{ta tb:TE}(O:PE X a ta)(S:PE X b tb){pins:List (Addr×Obj)}{s:Shared}{σ:St}{H:Hp}{R:V->V->Hp->Prop}(I:Inv X pins σ H s)(h:ta σ H λx H1=>tb σ H1 λy H2=>R x y H2)
 {α:Type}{Q:α->Shared->Prop}{f:Value->Value->Sem α}
 (U:∀ v u J x y H2,Inv X pins σ H2 J->RelV x v->RelV y u->R x y H2->wpAny (model X.prog X.w) X.A (f v u) Q X.xe J) :
 wpAny (model X.prog X.w) X.A (eval a X.env) (λv s₁=>wpAny (model X.prog X.w) X.A (eval b X.env) (λu z=>wpAny (model X.prog X.w) X.A (f v u) Q X.xe z) X.xe s₁) X.xe s:=by
 refine thn (O pins s σ H _ I h) λv Y ⟨x,H1,Z,r1,q1⟩=>?_;refine thn (S pins Y σ H1 _ Z q1) λu J ⟨y,H2,I2,r2,q2⟩=>?_;exact U v u J x y H2 I2 r1 r2 q2
def adC (i:Nat):TE:=λσ H Q=>∃ v,σ[i]? = some (some v)/\Q v H
def tC (v:V):TE:=λ_ H Q=>Q v H
theorem adI {i:Nat}{x:Str}{pos:Pos}(Y:X.N[i]? = some x)(Z:Vis X.env.scope x)(O:(x == ("__debug__" : Str))=false:=by decide)(S:(x == ("__classdict__" : Str))=false:=by decide):PE X (.Name x pos) (adC i):=by
 intro pins s σ H Q I h;obtain⟨v,e,h⟩:=h;obtain⟨m,hn,hl⟩:=I.loc;obtain⟨u,r,l⟩:=hl i x v Y e Z;have J:EP X pins σ Q u s:=⟨v,H,I,r,h⟩;rcases l with ⟨hk,hm⟩ | ⟨hk,c,U,z⟩
 .exact wpAny_Name (wpAny_loadName_local I.ok.kind hk hn hm J) O
 .rcases hk with hk | hk
  .exact wpAny_Name (wpAny_loadName_cell I.ok.kind hk U z J) O
  .exact wpAny_Name (wpAny_loadName_free I.ok.kind hk U z J S) O
theorem ar {i j pos}:PE X (.Constant (.int i) j pos) (tC (.int i)):=λ_ _ _ H _ I h=>wpAny_Constant_int ⟨.int i,H,I.tok _,⟨_,rfl⟩,h⟩
theorem fM {b j pos}:PE X (.Constant (.bool b) j pos) (tC (.bl b)):=λ_ _ _ H _ I h=>Constant_bool ⟨.bl b,H,I,rfl,h⟩
theorem dC {x j pos}:PE X (.Constant (.str x) j pos) (tC (.str x)):=λ_ _ _ H _ I h=>Calls.Constant_str ⟨.str x,H,I.tok _,⟨_,rfl⟩,h⟩
def Gl (X:Cx)(x:Str):Prop:=X.env.kindOf x=some .globalImplicit
theorem uW {E:Value->Shared->Prop}{pins:List (Addr×Obj)}{s:Shared}{σ:St}{H:Hp}{x:Str}{u:Value}{pos:Pos}{Q:Value->Shared->Prop}(I:Inv X pins σ H s)(z:Gl X x)(J:X.mg x=some u)(h:Q u s)
 (O:(x == ("__debug__" : Str))=false:=by decide):wpAny (model X.prog X.w) X.A (eval (.Name x pos) X.env) Q E s :=
 Calls.Name_function_global I.ok.kind z (Calls.loadGlobal_global (by rw[I.ok.glob];exact I.mod.glob.keeps I.bk) J h) O
theorem jf {E:Value->Shared->Prop}{pins:List (Addr×Obj)}{s:Shared}{σ:St}{H:Hp}{x:Str}{u:Value}{pos:Pos}{Q:Value->Shared->Prop}(I:Inv X pins σ H s)(z:Gl X x)(J:X.mg x=none)(O:bootBuiltins x=some u)(h:Q u s)
 (S:x ≠ "__name__" := by decide)(U:(x == ("__debug__" : Str))=false:=by decide):wpAny (model X.prog X.w) X.A (eval (.Name x pos) X.env) Q E s:=by
 obtain⟨Y,h1,h2⟩:=I.mod.blt;exact Calls.Name_function_global I.ok.kind z (Calls.loadGlobal_builtin (by rw[I.ok.glob];exact I.mod.glob.keeps I.bk) J (by rw[I.ok.blt];exact h1.keeps I.bk) ((h2 x S).trans O) h) U
theorem uN {x:Str}{v:V}{u:Value}{pos:Pos}(z:Gl X x)(J:X.mg x=some u)(r:RelV v u)(O:(x == ("__debug__" : Str))=false:=by decide):PE X (.Name x pos) (tC v) :=
 λ_ _ _ H _ I h=>uW I z J ⟨v,H,I,r,h⟩ O
theorem dO {x:Str}{v:V}{u:Value}{pos:Pos}(z:Gl X x)(J:X.mg x=none)(O:bootBuiltins x=some u)(r:RelV v u)(S:x ≠ "__name__" := by decide)(U:(x == ("__debug__" : Str))=false:=by decide):PE X (.Name x pos) (tC v) :=
 λ_ _ _ H _ I h=>jf I z J O ⟨v,H,I,r,h⟩ S U
variable {a b:Expr}{ta tb:TE}{pos:Pos}
def PC (X:Cx)(op:CmpOp)(a b:Expr)(t:TE):Prop :=
 ∀ (pins:List (Addr×Obj)) (s:Shared) (σ:St) (H:Hp) (Q:VK),Inv X pins σ H s->t σ H Q →
  wpAny (model X.prog X.w) X.A (eval a X.env) (λv s₁=>wpAny (model X.prog X.w) X.A (eval b X.env) (λu s₂=>wpAny (model X.prog X.w) X.A (compareOp op v u) (EP X pins σ Q) X.xe s₂) X.xe s₁) X.xe s
def tB (t:TE):TT:=λσ H Q=>t σ H λx H1=>∃ c,x=.bl c/\Q c H1
theorem abT {op:CmpOp}{t:TE}(h:PC X op a b t)(h1:behindInMarks op b=false:=by first | exact nobehind _ (by decide) (by decide) | rfl):PE X (.Compare a [op] [b] pos) t:=λpins s σ H Q I hw=>wpAny_Compare1 (h pins s σ H Q I hw) h1
theorem abQ {op:CmpOp}{t:TE}(h:PC X op a b t)(h1:behindInMarks op b=false:=by first | exact nobehind _ (by decide) (by decide) | rfl):PT X (.Compare a [op] [b] pos) (tB t):=by
 intro pins s σ H Q I hw;refine wpAny_isTrue_Compare1 (thn (h pins s σ H _ I hw) λv S h1=>thn h1 λu U h2=>thn h2 λc Y ⟨x,H1,z,J,O⟩=>?_) h1;obtain⟨d,rfl,q⟩:=O;cases J;exact agJ ⟨H1,z,q⟩
theorem cT {e:Expr}{t:TE}(h:PE X e t)(J:∀ z,isTrue e X.env z=(do let v ← z;standAt e.pos;holding [v] (truthy v)):=by intro _;rfl):PT X e (tB t):=by
 intro pins s σ H Q I hw;refine isTrue_plain (thn (h pins s σ H _ I hw) λv Y ⟨x,H1,O,S,U⟩=>?_) (J _);obtain⟨d,rfl,q⟩:=U;cases S;exact agJ ⟨H1,O,q⟩
variable {tA tB':TT}{rest:List Expr}
def afo (t u:TT):TT:=λσ H Q=>t σ H λc H1=>if c=true then u σ H1 Q else Q false H1
def tOr (t u:TT):TT:=λσ H Q=>t σ H λc H1=>if c=true then Q true H1 else u σ H1 Q
def ae3 (t:TT):TT:=λσ H Q=>t σ H λc H1=>Q (!c) H1
theorem kN (z:PT X a tA):PW X (.BoolOp .And [a] pos) tA:=by
 intro J pins s σ H Q I h;refine isTrue_and (thn (z pins s σ H Q I h) λc O e=>?_);cases c with
 | true=>exact isTrue_and_nil e
 | false=>exact e
theorem j0 (z:PT X a tA):PW X (.BoolOp .Or [a] pos) tA:=by
 intro J pins s σ H Q I h;refine isTrue_or (thn (z pins s σ H Q I h) λc O e=>?_);cases c with
 | false=>exact isTrue_or_nil e
 | true=>exact e
theorem m8 (O:PT X a tA)(S:PW X (.BoolOp .And (b::rest) pos) tB'):PW X (.BoolOp .And (a::b::rest) pos) (afo tA tB'):=by
 intro U pins s σ H Q I h;refine isTrue_and (thn (O pins s σ H _ I h) λc Y ⟨H1,z,J⟩=>?_);cases c with
 | true=>exact S U pins Y σ H1 Q z J
 | false=>exact⟨H1,z,J⟩
theorem mM (O:PT X a tA)(S:PW X (.BoolOp .Or (b::rest) pos) tB'):PW X (.BoolOp .Or (a::b::rest) pos) (tOr tA tB'):=by
 intro U pins s σ H Q I h;refine isTrue_or (thn (O pins s σ H _ I h) λc Y ⟨H1,z,J⟩=>?_);cases c with
 | true=>exact⟨H1,z,J⟩
 | false=>exact S U pins Y σ H1 Q z J
theorem gd (z:PT X a tA):PT X (.UnaryOp .Not a pos) (ae3 tA):=by
 intro pins s σ H Q I h;exact isTrue_not (z pins s σ H (λc H1=>Q (!c) H1) I h)
def ac7 (ta tb:TE):TE:=λσ H Q=>ta σ H λx H1=>∃ c,x=.bl c/\if c=true then tb σ H1 Q else Q (.bl false) H1
def afn (ta tb:TE):TE:=λσ H Q=>ta σ H λx H1=>∃ c,x=.bl c/\if c=true then Q (.bl true) H1 else tb σ H1 Q
def aeN (ta:TE):TE:=λσ H Q=>ta σ H λx H1=>∃ c,x=.bl c/\Q (.bl (!c)) H1
theorem jk {op}{t:TE}(h:PE X a t):PE X (.BoolOp op [a] pos) t:=λpins s σ H Q I hw=>BoolOp_one (h pins s σ H Q I hw)
theorem gb (O:PE X a ta)(S:PE X (.BoolOp .And (b::rest) pos) tb):PE X (.BoolOp .And (a::b::rest) pos) (ac7 ta tb):=by
 intro pins s σ H Q I h;refine BoolOp_and (thn (O pins s σ H _ I h) λv U ⟨x,H1,J,Y,z⟩=>?_);obtain⟨c,rfl,z⟩:=z;cases Y;refine agJ ?_;cases c with
 | true=>exact S pins U σ H1 Q J z
 | false=>exact⟨.bl false,H1,J,rfl,z⟩
theorem aeE (O:PE X a ta)(S:PE X (.BoolOp .Or (b::rest) pos) tb):PE X (.BoolOp .Or (a::b::rest) pos) (afn ta tb):=by
 intro pins s σ H Q I h;refine BoolOp_or (thn (O pins s σ H _ I h) λv U ⟨x,H1,J,Y,z⟩=>?_);obtain⟨c,rfl,z⟩:=z;cases Y;refine agJ ?_;cases c with
 | false=>exact S pins U σ H1 Q J z
 | true=>exact⟨.bl true,H1,J,rfl,z⟩
theorem adu (J:PE X a ta):PE X (.UnaryOp .Not a pos) (aeN ta):=by
 intro pins s σ H Q I h;refine UnaryOp_ (thn (J pins s σ H _ I h) λv U ⟨x,H1,O,S,z⟩=>?_);obtain⟨c,rfl,z⟩:=z;cases S;exact not_of (agJ ⟨.bl (!c),H1,O,rfl,z⟩)
end
def SqL (K:PySem.W.Frag)(H:Hp)(a:Addr)(xs:List V):Prop :=
 Rd H a (.lst xs) ∨
  ∃ (o:Obj) (its:Array Value) (n:Nat),K.lookup a=some o/\o.cls=.type "list" ∧ o.dict=none/\o.data=.seq its n/\its.size<=sizeLine/\Vals xs its.toList
def SqT (K:PySem.W.Frag)(H:Hp)(a:Addr)(xs:List V):Prop :=
 Rd H a (.tup xs) ∨
  ∃ (o:Obj) (its:Array Value) (n:Nat),K.lookup a=some o/\o.cls=.type "tuple" ∧ o.data=.seq its n/\its.size<=sizeLine/\Vals xs its.toList
def afv:Value->Option V
 | .none=>some .non
 | .bool b=>some (.bl b)
 | .int i _=>some (.int i)
 | .str x _=>some (.str x)
 | .bytes b _=>some (.byt b)
 | .float b _=>some (.flt b)
 | .ref a=>some (.ref a)
 | .type n=>some (.ty n)
 | _=>none
theorem RelV.abs {x:V}{u:Value}(r:RelV x u):afv u=some x:=by
 cases x with
 | non=>cases r;rfl
 | bl _=>cases r;rfl
 | int _=>obtain⟨t,rfl⟩:=r;rfl
 | str _=>obtain⟨t,rfl⟩:=r;rfl
 | byt _=>obtain⟨t,rfl⟩:=r;rfl
 | flt _=>obtain⟨t,rfl⟩:=r;rfl
 | ref _=>cases r;rfl
 | ty _=>cases r;rfl
theorem RelV.inj {x y:V}{u:Value}(r:RelV x u)(q:RelV y u):x=y:=agT (r.abs.symm.trans q.abs)
theorem Vals.inj:∀ {xs ys:List V} {us:List Value},Vals xs us->Vals ys us->xs=ys
 | _,_,_,.nil,.nil=>rfl
 | _,_,_,.cons r t,.cons r' t'=>by rw[r.inj r',Vals.inj t t']
section
variable {X:Cx}{pins:List (Addr×Obj)}{σ:St}{H:Hp}{s:Shared}{a:Addr}{xs ys:List V}
theorem SqL.of {K:PySem.W.Frag}(h:H a=some (.lst xs)):SqL K H a xs:=.inl (.inl h)
def aAA:=@SqL.of
theorem SqT.of {K:PySem.W.Frag}(h:H a=some (.tup xs)):SqT K H a xs:=.inl (.inl h)
def aAB:=@SqT.of
theorem Inv.list (I:Inv X pins σ H s)(h:SqL X.K H a xs):∃ its:List Value,Vals xs its/\PlainL s.heap a its.toArray/\xs.length<=sizeLine:=by
 rcases h with h | ⟨o,its,n,hk,hc,hd,hs,hz,r⟩
 .obtain⟨z,its,n,r,e⟩:=h.ok I.hok;exact⟨its,r,⟨_,n,e,rfl,rfl,rfl⟩,z⟩
 .refine⟨its.toList,r,⟨o,n,I.kIn a o hk,hc,hd,by simpa using hs⟩,?_⟩;have e:=r.length;simp only[afO] at e;lia
theorem Inv.tuple (I:Inv X pins σ H s)(h:SqT X.K H a xs):∃ its:List Value,Vals xs its/\IsTup s.heap a its.toArray/\xs.length<=sizeLine:=by
 rcases h with h | ⟨o,its,n,hk,hc,hs,hz,r⟩
 .obtain⟨z,its,r,p⟩:=h.ok I.hok;exact⟨its,r,p,z⟩
 .refine⟨its.toList,r,⟨o,I.kIn a o hk,hc,n,by simpa using hs⟩,?_⟩;have e:=r.length;simp only[afO] at e;lia
theorem Inv.list_inj (I:Inv X pins σ H s)(h:SqL X.K H a xs)(h':SqL X.K H a ys):xs=ys:=by
 obtain⟨its,r,⟨o,n,e,_,_,d⟩,_⟩:=I.list h;obtain⟨z,S,⟨o',U,J,_,_,O⟩,_⟩:=I.list h';rw[e] at J;cases J;rw[d] at O;injection O with d1 _
 have:its=z:=by simpa using agS Array.toList d1
 subst this;exact r.inj S
theorem Inv.tuple_inj (I:Inv X pins σ H s)(h:SqT X.K H a xs)(h':SqT X.K H a ys):xs=ys:=by
 obtain⟨its,r,⟨o,e,_,n,d⟩,_⟩:=I.tuple h;obtain⟨z,S,⟨o',J,_,U,O⟩,_⟩:=I.tuple h';rw[e] at J;cases J;rw[d] at O;injection O with d1 _
 have:its=z:=by simpa using agS Array.toList d1
 subst this;exact r.inj S
end
abbrev Cx.wish (X:Cx)(E:Value->Shared->Prop):Cx:={ X with xe:=E }
abbrev Cx.nox (X:Cx):Cx:=X.wish λ_ _=>False
theorem Cx.Ok.wish {X:Cx}(ok:X.Ok)(E:Value->Shared->Prop):(X.wish E).Ok :=
 ⟨ok.mod,ok.kind,ok.glob,ok.blt,ok.above,ok.inj,ok.has,ok.cab,ok.hd,ok.frames,ok.stk,ok.exf,ok.bs,ok.bsz,ok.noex,ok.exfs,ok.funs,ok.frf⟩
theorem Cx.Ok.unwish {X:Cx}{E:Value->Shared->Prop}(ok:(X.wish E).Ok):X.Ok :=
 ⟨ok.mod,ok.kind,ok.glob,ok.blt,ok.above,ok.inj,ok.has,ok.cab,ok.hd,ok.frames,ok.stk,ok.exf,ok.bs,ok.bsz,ok.noex,ok.exfs,ok.funs,ok.frf⟩
section
variable {X:Cx}{pins:List (Addr×Obj)}{σ:St}{H:Hp}{s:Shared}{E:Value->Shared->Prop}
theorem Inv.wish (I:Inv X pins σ H s)(E:Value->Shared->Prop):Inv (X.wish E) pins σ H s:=⟨I.ok.wish E,I.os,I.bare,I.base,I.loc,I.cell,I.free,I.freeC,I.pin,I.hok,I.len⟩
theorem Inv.unwish (I:Inv (X.wish E) pins σ H s):Inv X pins σ H s:=⟨I.ok.unwish,I.os,I.bare,I.base,I.loc,I.cell,I.free,I.freeC,I.pin,I.hok,I.len⟩
theorem SP.unwish {D:xV}{f:Flow}{s':Shared}(h:SP (X.wish E) pins D f s'):SP X pins D f s':=by
 cases f with
 | next=>obtain⟨z,H',I,q⟩:=h;exact⟨z,H',I.unwish,q⟩
 | brk=>obtain⟨z,H',I,q⟩:=h;exact⟨z,H',I.unwish,q⟩
 | cont=>obtain⟨z,H',I,q⟩:=h;exact⟨z,H',I.unwish,q⟩
 | ret u=>obtain⟨v,z,H',I,r,q⟩:=h;exact⟨v,z,H',I.unwish,r,q⟩
theorem PSs.nox {st:List Stmt}{t:TS}(h:PSs X.nox st t):PSs X st t:=λpins s σ H D I hw =>
 agq (h pins s σ H D (I.wish _) hw) (λ_ _ q=>q.unwish) λ_ _ z=>False.elim z
end
section
variable {X:Cx}{st:Stmt}{rest:List Stmt}{t u:TS}{e:Expr}{te:TE}{pos:Pos}
def kF:TS:=λD σ H=>D.nx σ H
def tK (t u:TS):TS:=λD σ H=>t { D with nx:=u D } σ H
theorem aF:PSs X [] kF:=λ_ _ σ H _ I h=>ajw ⟨σ,H,I,h⟩
theorem ah (h1:PS X st t)(h2:PSs X rest u):PSs X (st::rest) (tK t u):=by
 intro pins s σ H D I h;refine wpAny_execs_cons (thn (h1 pins s σ H { D with nx:=u D } I h) λf J q=>?_);cases f with
 | next =>
  obtain⟨z,H',O,q⟩:=q;exact h2 pins J z H' D O q
 | ret v=>exact q
 | brk=>exact q
 | cont=>exact q
theorem aq (h1:PS X st t):PSs X [st] t:=by
 intro pins s σ H D I h;refine wpAny_execs_cons (thn (h1 pins s σ H D I h) λf z q=>?_);cases f with
 | next=>exact ajw q
 | ret v=>exact q
 | brk=>exact q
 | cont=>exact q
theorem Inv.quiet {pins:List (Addr×Obj)}{σ:St}{H:Hp}{s:Shared}(I:Inv X pins σ H s):interactive X.env=false:=by simp[interactive,I.ok.kind]
def aeL (te:TE):TS:=λD σ H=>te σ H λ_ H1=>D.nx σ H1
theorem dg (z:PE X e te)(J:swapsWith e none pos.line X.env=pure false:=by rfl):PS X (.Expr e pos) (aeL te):=by
 intro pins s σ H D I h;exact wpAny_Expr_any (thn (z pins s σ H _ I h) λv U ⟨x,H1,O,Y,S⟩=>⟨σ,H1,O,S⟩) I.quiet J
def xF (te:TE):TS:=λD σ H=>te σ H D.rt
theorem aD (z:PE X e te):PS X (.Return (some e) pos) (xF te):=by
 intro pins s σ H D I h;exact wpAny_Return_some (thn (z pins s σ H _ I h) λv U ⟨x,H1,J,O,S⟩=>⟨x,σ,H1,J,O,S⟩)
def aen (c:TT)(t u:TS):TS:=λD σ H=>c σ H λb H1=>if b=true then t D σ H1 else u D σ H1
theorem cj {c:Expr}{a b:List Stmt}{tc:TT}(S:PT X c tc)(U:PSs X a t)(Y:PSs X b u):PS X (.If c a b pos) (aen tc t u):=by
 intro pins s σ H D I h;refine wpAny_If (thn (S pins s σ H _ I h) λd z ⟨H1,J,O⟩=>?_);cases d with
 | true=>exact U pins z σ H1 D J O
 | false=>exact Y pins z σ H1 D J O
def adx:TS:=λ_ _ _=>False
theorem mV {z:List Stmt}:PSs X z adx:=λ_ _ _ _ _ _ h=>h.elim
end
abbrev TG:=V->St->Hp->(St->Hp->Prop)->Prop
abbrev TGs:=List V->St->Hp->(St->Hp->Prop)->Prop
def PG (X:Cx)(target:Expr)(t:TG):Prop :=
 ∀ (pins:List (Addr×Obj)) (s:Shared) (σ:St) (H:Hp) (v:V) (u:Value) (Q:St->Hp->Prop),Inv X pins σ H s->RelV v u->t v σ H Q →
  wpAny (model X.prog X.w) X.A (assign target X.env u) (λ_ s'=>∃ σ' H',Inv X pins σ' H' s'/\Q σ' H') X.xe s
def PGs (X:Cx)(ts:List Expr)(t:TGs):Prop :=
 ∀ (pins:List (Addr×Obj)) (s:Shared) (σ:St) (H:Hp) (vs:List V) (us:List Value) (Q:St->Hp->Prop),Inv X pins σ H s->Vals vs us->t vs σ H Q →
  wpAny (model X.prog X.w) X.A (assignInOrder ((assignEach ts X.env).map (·.2)) us) (λ_ s'=>∃ σ' H',Inv X pins σ' H' s'/\Q σ' H') X.xe s
abbrev adO:=V->V->V->Hp->(Hp->Prop)->Prop
def aeU (X:Cx)(t:adO):Prop :=
 ∀ (pins:List (Addr×Obj)) (s:Shared) (σ:St) (H:Hp) (o i v:V) (ov iv u:Value) (Q:Hp->Prop),Inv X pins σ H s->RelV o ov->RelV i iv->RelV v u->t o i v H Q →
  wpAny (model X.prog X.w) X.A (setItem ov iv u) (λ_ s'=>∃ H',Inv X pins σ H' s'/\Q H') X.xe s
abbrev TIp:=V->V->Hp->VK->Prop
def PIp (X:Cx)(op:Operator)(t:TIp):Prop :=
 ∀ (pins:List (Addr×Obj)) (s:Shared) (σ:St) (H:Hp) (x y:V) (v u:Value) (Q:VK),Inv X pins σ H s->RelV x v->RelV y u->t x y H Q →
  wpAny (model X.prog X.w) X.A (inplaceOp op v u) (EP X pins σ Q) X.xe s
section
variable {X:Cx}{pos:Pos}
def bu (i:Nat):TG:=λv σ H Q=>Q (σ.set i (some v)) H
theorem av {i:Nat}{x:Str}(z:X.N.Nodup)(hi:X.N[i]? = some x)(J:Loc X.env.scope x)(O:X.fn x=true\/X.env.scope.names.lookup x=some .local:=by first | exact .inl rfl | exact .inr rfl | assumption):PG X (.Name x pos) (bu i):=by
 intro pins s σ H v u Q I r h;exact wpAny_assign_Name (we I z hi J r (λs' S=>⟨_,H,S,h⟩) O)
def aeo:TGs:=λvs σ H Q=>vs=[]/\Q σ H
def uB (t:TG)(u:TGs):TGs:=λvs σ H Q=>∃ v r,vs=v::r/\t v σ H λσ' H'=>u r σ' H' Q
theorem dB:PGs X [] aeo:=by
 intro pins s σ H vs z Q I r h;obtain⟨e,h⟩:=h;subst e;cases r;exact assignInOrder_nil ⟨σ,H,I,h⟩
theorem aI {e:Expr}{es:List Expr}{t:TG}{u:TGs}(h1:PG X e t)(h2:PGs X es u)
 (J:(assignEach (e::es) X.env).map (·.2)=assign e X.env::(assignEach es X.env).map (·.2):=by rfl):PGs X (e::es) (uB t u):=by
 intro pins s σ H vs us Q I r h;obtain⟨v,vr,O,h⟩:=h;subst O;cases r with
 | cons r S =>
  rw[J];refine assignInOrder_cons (thn (h1 pins s σ H _ _ _ I r h) λ_ U ⟨z,H1,Y,Z⟩=>?_);exact h2 pins U z H1 _ _ Q Y S Z
def adq (K:PySem.W.Frag)(n:Nat)(t:TGs):TG:=λv σ H Q=>∃ a xs,v=.ref a/\SqT K H a xs/\xs.length=n/\t xs σ H Q
theorem mR {es:List Expr}{k:Nat}{t:TGs}{n:Nat}(O:X.calm=true)(h:PGs X es t)
 (S:(assignEach es X.env).length=n:=by rfl)(z:(assignEach es X.env).findIdx? (·.1)=none:=by rfl):PG X (.Tuple es k pos) (adq X.K n t):=by
 intro pins s σ H v u Q I r hw;obtain⟨a,xs,U,Y,Z,hw⟩:=hw;subst U;cases r;obtain⟨its,J,ht,hz⟩:=I.tuple Y;refine assign_Tuple_tuple (I.ok.hd O) ht (by simp[S,← Z,J.length]) z λh' hx=>?_;have I1:Inv X pins σ H { s with heap:=h' }:=I.kept (t':=s.toks) λb o e=>hx b o (afU (afI e)) e;exact h pins _ σ H xs _ Q I1 (by simpa using J) hw
def afi (to ti:TE)(t:adO):TG:=λv σ H Q=>to σ H λo H1=>ti σ H1 λi H2=>t o i v H2 λH3=>Q σ H3
theorem qS {o i:Expr}{to O:TE}{t:adO}(S:PE X o to)(hi:PE X i O)(U:aeU X t)
 (Y:∀ v,assign (.Subscript o i pos) X.env v=(do
  let z ← holding [v] (eval o X.env)
  let J ← holding [v,z] (eval i X.env)
  standAt pos
  holding [v,z,J] (setItem z J v)
  release [v,z,J] []):=by intro _;rfl):PG X (.Subscript o i pos) (afi to O t):=by
 intro pins s σ H v u Q I r h;rw[Y];refine afy (agF (thn (S pins s σ H _ I h) λz Z ⟨x,H1,I1,r1,q1⟩=>?_));refine afy (agF (thn (hi pins Z σ H1 _ I1 q1) λJ s2 ⟨y,H2,I2,r2,q2⟩=>?_));refine afy (ag8 (afy (agF (thn (U pins s2 σ H2 x y v z J u _ I2 r1 r2 r q2) λ_ s3 ⟨H3,I3,q3⟩=>?_))));exact wpAny_release ⟨σ,H3,I3,q3⟩
def qR (te:TE)(g:TG):TS:=λD σ H=>te σ H λx H1=>g x σ H1 D.nx
theorem lj {tg e:Expr}{te:TE}{g:TG}(z:PE X e te)(J:PG X tg g)(O:swapsWithSole [tg] e pos.line X.env=pure false:=by rfl)(hw:swappedStores [tg] e X.env=pure none:=by rfl)
 (h1:(assignEach [tg] X.env).map (·.2)=[assign tg X.env]:=by rfl):PS X (.Assign [tg] e pos) (qR te g):=by
 intro pins s σ H D I h;refine wpAny_Assign_stores (thn (z pins s σ H _ I h) λv S ⟨x,H1,U,Y,Z⟩=>?_) O hw;rw[h1];exact thn (J pins S σ H1 x v _ U Y Z) λ_ s2 q=>q
theorem az {i:Nat}{x:Str}{e:Expr}{te:TE}{pos':Pos}(z:X.N.Nodup)(hi:X.N[i]? = some x)(J:Loc X.env.scope x)(O:PE X e te)(S:swapsWith e (some (.Name x pos')) pos.line X.env=pure false:=by rfl)(U:X.fn x=true\/X.env.scope.names.lookup x=some .local:=by first | exact .inl rfl | exact .inr rfl | assumption) :
 PS X (.Assign [.Name x pos'] e pos) (qR te (bu i)):=by
 intro pins s σ H D I h;refine wpAny_Assign_Name (thn (O pins s σ H _ I h) λv s1 ⟨y,H1,Y,Z,q1⟩=>?_) S;exact we Y z hi J Z (λs2 I2=>⟨_,H1,I2,q1⟩) U
def aev (to ti te:TE)(tget:V->V->Hp->VK->Prop)(tip:TIp)(tset:adO):TS:=λD σ H=>to σ H λo H1=>ti σ H1 λi H2=>tget o i H2 λx H3=>te σ H3 λy H4=>tip x y H4 λz H5=>tset o i z H5 λH6=>D.nx σ H6
def aeY (X:Cx)(t:V->V->Hp->VK->Prop):Prop :=
 ∀ (pins:List (Addr×Obj)) (s:Shared) (σ:St) (H:Hp) (o i:V) (ov iv:Value) (Q:VK),Inv X pins σ H s->RelV o ov->RelV i iv->t o i H Q →
  wpAny (model X.prog X.w) X.A (getItem ov iv) (EP X pins σ Q) X.xe s
theorem acM {o i e:Expr}{to Z te:TE}{z:V->V->Hp->VK->Prop}{U:TIp}{J:adO}{op:Operator}{tpos:Pos}(ho:PE X o to)(hi:PE X i Z)(hg:aeY X z)(he:PE X e te)(hp:PIp X op U)(hs:aeU X J)
 (ha:∀ O S new,augStore i O S new=(do holding [new,O,S] (setItem O S new);release [new,O,S] [];pure .next):=by intros;rfl):PS X (.AugAssign (.Subscript o i tpos) op e pos) (aev to Z te z U J):=by
 intro pins s σ H D I h;refine wpAny_AugAssign_SubscriptAny (thn (ho pins s σ H _ I h) λO s1 ⟨x1,H1,I1,r1,q1⟩=>?_) ha;refine thn (hi pins s1 σ H1 _ I1 q1) λS s2 ⟨x2,H2,I2,r2,q2⟩=>?_;refine thn (hg pins s2 σ H2 x1 x2 O S _ I2 r1 r2 q2) λY s3 ⟨x3,H3,I3,r3,q3⟩=>?_;refine thn (he pins s3 σ H3 _ I3 q3) λv s4 ⟨x4,H4,I4,r4,q4⟩=>?_;refine thn (hp pins s4 σ H4 x3 x4 Y v _ I4 r3 r4 q4) λnew s5 ⟨x5,H5,I5,r5,q5⟩=>?_;exact thn (hs pins s5 σ H5 x1 x2 x5 O S new _ I5 r1 r2 r5 q5) λ_ s6 ⟨H6,I6,q6⟩=>⟨σ,H6,I6,q6⟩
def ipI (f:Int->Int->Int):TIp:=λx y H Q=>∃ i j,x=.int i/\y=.int j/\Q (.int (f i j)) H
theorem adL:PIp X .Add (ipI λi j=>i+j):=by
 intro pins s σ H x y v u Q I z J h;obtain⟨i,j,O,S,q⟩:=h;subst O;subst S;obtain⟨t,rfl⟩:=z;obtain⟨U,rfl⟩:=J;exact iadd_int ⟨.int _,H,I.tok _,⟨_,rfl⟩,q⟩
end
section
variable {X:Cx}{pos:Pos}
def adT (c:TT)(tb:TS):TS:=λD σ H=>∃ W:Nat->St->Hp->Prop,(∃ m,W m σ H)/\∀ m σ H,W m σ H →
 c σ H λb H1=>if b=true then ∃ N:St->Hp->Prop,(∀ σ' H',N σ' H'->∃ m',m' < m/\W m' σ' H')/\tb { D with nx:=N,ct:=N,bk:=D.nx } σ H1 else D.nx σ H1
theorem wq {c:Expr}{O:List Stmt}{tc:TT}{tb:TS}(hp:PassesOwn (model X.prog X.w) X.A X.env X.xe)(hc:PT X c tc)(hb:PSs X O tb):PS X (.While c O [] pos) (adT tc tb):=by
 intro pins s σ H D I h;obtain⟨W,⟨m0,w0⟩,S⟩:=h;refine wpAny_While (codeAny_whileLoop (λn s'=>∃ U H',Inv X pins U H' s'/\W n U H') ?_ m0 ⟨σ,H,I,w0⟩);rintro n s1 ⟨J,H1,I1,w1⟩;refine ahY hp (thn (hc pins s1 J H1 _ I1 (S n J H1 w1)) λb s2 ⟨H2,I2,Z⟩=>?_);cases b with
 | true =>
  obtain⟨N,hN,Z⟩:=Z;rw[if_pos rfl];refine ahY hp (thn (hb pins s2 J H2 _ I2 Z) λf s3 q3=>?_);cases f with
  | next =>
   obtain⟨z,Y,I3,n3⟩:=q3;obtain⟨m',hm,w3⟩:=hN z Y n3;exact⟨m',hm,z,Y,I3,w3⟩
  | cont =>
   obtain⟨z,Y,I3,n3⟩:=q3;obtain⟨m',hm,w3⟩:=hN z Y n3;exact⟨m',hm,z,Y,I3,w3⟩
  | brk=>exact q3
  | ret v=>exact q3
 | false =>
  rw[if_neg afC];exact ajw ⟨J,H2,I2,Z⟩
end
structure It where
 go:Nat->Hp->Prop
 yld:Nat->Hp->V->Hp->Prop
 stop:Nat->Hp->Prop
def kA (X:Cx)(pins:List (Addr×Obj))(H:Hp)(b:Addr):Prop :=
 H b=none/\b≠X.env.locals/\b ∉ X.fs/\(b∈X.ex\/X.s₀.heap.objs.size<=b)/\(∀ x c,X.env.cells.lookup x=some c->c≠b)/\∀ p∈X.pn++pins,p.1≠b
theorem Inv.fpOk {X:Cx}{pins:List (Addr×Obj)}{σ:St}{H H':Hp}{s:Shared}{b:Addr}(I:Inv X pins σ H s)(J:s.heap.objs.size<=b)(O:H' b=none):kA X pins H' b:=by
 refine⟨O,ah6 (afW I.lt J),I.nofs J,.inr (afR I.sz J),λx c e z=>?_,λp S z=>?_⟩
 .obtain⟨v,q⟩:=I.cell x c e;exact absurd (afW q.lt (by rw[z];exact J)) (agB _)
 .exact absurd (afW (afI (I.pin p S).1) (by rw[z];exact J)) (agB _)
structure aak (P:Program)(w:World)(K:PySem.W.Frag)(tg:Expr)(J:It)(fp:List Addr)(it:Addr)(tn:Nat->Heap->Prop):Prop where
 mem:it∈fp
 obj:∀ i h,tn i h->∀ b∈fp,∃ o,h.get? b=some o/\∀ v,o.data≠.cell v
 keep:∀ i h h',tn i h->(∀ b∈fp,∀ o,h.get? b=some o->h'.get? b=some o)->tn i h'
 item:∀ (X:Cx),X.prog=P->X.w=w->X.K=K->X.calm=true->∀ (i:Nat) (pins:List (Addr×Obj)) (s:Shared) (σ:St) (H:Hp) (E:Value->Shared->Prop),Inv X pins σ H s->(∀ b∈fp,kA X pins H b)->tn i s.heap->J.go i H →
  wpAny (model P w) X.A (pyNext (.ref it)) (λr s1=>∃ u,r=some u ∧
   wpAny (model P w) X.A (letOwnedTupleGo tg (.ref it) u) (λ_ s2=>∃ x H',Inv X pins σ H' s2/\RelV x u/\J.yld i H x H'/\tn (i+1) s2.heap/\∀ b∈fp,H' b=none) E s1) E s
 done:∀ (X:Cx),X.prog=P->X.w=w->X.K=K->X.calm=true->∀ (i:Nat) (pins:List (Addr×Obj)) (s:Shared) (σ:St) (H:Hp) (E:Value->Shared->Prop),Inv X pins σ H s->(∀ b∈fp,kA X pins H b)->tn i s.heap->J.stop i H →
  wpAny (model P w) X.A (pyNext (.ref it)) (λr s1=>r=none/\Inv X pins σ H s1) E s
 self:∀ (A:Around) (i:Nat) (s:Shared) (Q:Value->Shared->Prop) (E:Value->Shared->Prop),tn i s.heap->Q (.ref it) s->wpAny (model P w) A (pyIter (.ref it)) Q E s
abbrev TI:=St->Hp->(It->Hp->Prop)->Prop
def PIE (X:Cx)(pins:List (Addr×Obj))(σ:St)(tg:Expr)(R:It->Hp->Prop)(itv:Value)(s2:Shared):Prop :=
 ∃ (it:Addr) (fp:List Addr) (tn:Nat->Heap->Prop) (J:It) (H':Hp),itv=.ref it/\Inv X pins σ H' s2/\aak X.prog X.w X.K tg J fp it tn/\tn 0 s2.heap/\(∀ b∈fp,kA X pins H' b)/\R J H'
def PI (X:Cx)(tg iter:Expr)(wi:TI):Prop :=
 ∀ (pins:List (Addr×Obj)) (s:Shared) (σ:St) (H:Hp) (R:It->Hp->Prop),Inv X pins σ H s->wi σ H R →
  wpAny (model X.prog X.w) X.A (eval iter X.env) (λv s1=>wpAny (model X.prog X.w) X.A (pyIter v) (PIE X pins σ tg R) X.xe s1) X.xe s
theorem aaa {M:Model}{A:Around}{E:Value->Shared->Prop}{s:Shared}{tg:Expr}{it:Addr}{u:Value}{o:Obj}{n:String}{vs:Array Value}{Q:Unit->Shared->Prop}(J:s.heap.get? it=some o)(O:o.cls=.type n)(S:o.data=.fields vs)
 (U:["enumerate","zip","dict_itemiterator","dict_reverseitemiterator","odict_iterator","itertools.zip_longest","itertools.pairwise"].contains n=false)(z:Q () s):wpAny M A (letOwnedTupleGo tg (.ref it) u) Q E s:=by
 unfold letOwnedTupleGo;cases tg<;>first
  | exact afE z
  | (cases u<;>first
   | exact afE z
   | (refine afy (wpAny_load J ?_);rw[O,S];show wpAny M A (if (["enumerate","zip","dict_itemiterator","dict_reverseitemiterator","odict_iterator","itertools.zip_longest","itertools.pairwise"].contains n && vs[0]? == some (rawInt _))=true then _ else _) Q E s;rw[if_neg (by intro h;rw[U,ajW] at h;cases h)];exact afE z))
def Itl (K:PySem.W.Frag)(a:Addr):It :=
 ⟨λi H=>∃ xs x,SqL K H a xs/\xs[i]? = some x,λi H x H'=>H'=H/\∀ xs,SqL K H a xs->xs[i]? = some x,λi H=>∃ xs,SqL K H a xs/\xs.length<=i⟩
def Itt (K:PySem.W.Frag)(a:Addr):It :=
 ⟨λi H=>∃ xs x,SqT K H a xs/\xs[i]? = some x,λi H x H'=>H'=H/\∀ xs,SqT K H a xs->xs[i]? = some x,λi H=>∃ xs,SqT K H a xs/\xs.length<=i⟩
def Itr (lo:Int)(n:Nat):It:=⟨λi _=>i < n,λi H x H'=>H'=H/\x=.int (lo+i),λi _=>n<=i⟩
theorem aac {P:Program}{w:World}{K:PySem.W.Frag}{tg:Expr}(a it:Addr):aak P w K tg (Itl K a) [it] it (λi h=>h.IsListIter it a i) where
 mem:=by simp
 obj:=λi h st b J=>by
  have e:b=it:=by simpa using J
  subst e;obtain⟨o,e,c,d⟩:=st;exact⟨o,e,λv z=>by rw[d] at z;cases z⟩
 keep:=λi h h' st k=>st.at λo e=>k it (by simp) o e
 item:=by
  intro X Y hw Z hc i pins s σ H E I S st hg;subst Y hw Z;obtain⟨xs,x,U,hx⟩:=hg;obtain⟨its,rv,p,hz⟩:=I.list U;obtain⟨u,hu,ru⟩:=rv.get hx;obtain⟨f0,f1,f2,f3,f4,f5⟩:=S it (by simp);refine wpAny_pyNext_list_item st p.isList (x:=u) (by simpa using hu) λh' O sb=>?_;have I1:Inv X pins σ H { s with heap:=h' }:=I.turned (t':=s.toks) (λb o J e=>(sb.2 b J).trans e) f0 f1 f3 f4 f5;obtain⟨o,e,c,d⟩:=id O;exact⟨u,rfl,aaa (s:={ s with heap:=h' }) e c d (by decide) ⟨x,H,I1,ru,⟨rfl,λys hy=>by rw[I.list_inj hy U];exact hx⟩,O,λb J=>(S b J).1⟩⟩
 done:=by
  intro X Y hw Z hc i pins s σ H E I S st hg;subst Y hw Z;obtain⟨xs,U,hx⟩:=hg;obtain⟨its,rv,p,hz⟩:=I.list U;obtain⟨f0,f1,f2,f3,f4,f5⟩:=S it (by simp);have hl:=rv.length;exact wpAny_pyNext_list_end (I.ok.hd hc) st p.isList (by simp;lia) λh' eb=>⟨rfl,I.turned (t':=s.toks) (λb o J e=>eb b o J e) f0 f1 f3 f4 f5⟩
 self:=λ_ _ _ _ _ st h=>wpAny_pyIter_listiter st h
theorem xm {P:Program}{w:World}{K:PySem.W.Frag}{tg:Expr}(a it:Addr):aak P w K tg (Itt K a) [it] it (λi h=>h.IsTupleIter it a i) where
 mem:=by simp
 obj:=λi h st b J=>by
  have e:b=it:=by simpa using J
  subst e;obtain⟨o,e,c,d⟩:=st;exact⟨o,e,λv z=>by rw[d] at z;cases z⟩
 keep:=λi h h' st k=>st.at λo e=>k it (by simp) o e
 item:=by
  intro X Y hw Z hc i pins s σ H E I S st hg;subst Y hw Z;obtain⟨xs,x,U,hx⟩:=hg;obtain⟨its,rv,p,hz⟩:=I.tuple U;obtain⟨u,hu,ru⟩:=rv.get hx;obtain⟨f0,f1,f2,f3,f4,f5⟩:=S it (by simp);refine wpAny_pyNext_tuple_item st (show s.heap.IsTuple a its.toArray from p) (x:=u) (by simpa using hu) λh' O sb=>?_;have I1:Inv X pins σ H { s with heap:=h' }:=I.turned (t':=s.toks) (λb o J e=>(sb.2 b J).trans e) f0 f1 f3 f4 f5;obtain⟨o,e,c,d⟩:=id O;exact⟨u,rfl,aaa (s:={ s with heap:=h' }) e c d (by decide) ⟨x,H,I1,ru,⟨rfl,λys hy=>by rw[I.tuple_inj hy U];exact hx⟩,O,λb J=>(S b J).1⟩⟩
 done:=by
  intro X Y hw Z hc i pins s σ H E I S st hg;subst Y hw Z;obtain⟨xs,U,hx⟩:=hg;obtain⟨its,rv,p,hz⟩:=I.tuple U;obtain⟨f0,f1,f2,f3,f4,f5⟩:=S it (by simp);have hl:=rv.length;exact wpAny_pyNext_tuple_end (I.ok.hd hc) st (show s.heap.IsTuple a its.toArray from p) (by simp;lia) λh' eb=>⟨rfl,I.turned (t':=s.toks) (λb o J e=>eb b o J e) f0 f1 f3 f4 f5⟩
 self:=λ_ _ _ _ _ st h=>wpAny_pyIter_tupleiter st h
theorem xf {P:Program}{w:World}{K:PySem.W.Frag}{tg:Expr}(it:Addr)(lo:Int)(n:Nat):aak P w K tg (Itr lo n) [it] it (λi h=>IsRangeIter h it (lo+(i:Nat) * 1) ((n:Int) - (i:Nat)) 1) where
 mem:=by simp
 obj:=λi h st b J=>by
  have e:b=it:=by simpa using J
  subst e;exact⟨_,st,λv z=>by
   have z':Data.fields _=Data.cell v:=z;cases z'⟩
 keep:=λi h h' st k=>k it (by simp) _ st
 item:=by
  intro X U hw Y Z i pins s σ H E I S st hg;subst U hw Y;obtain⟨f0,f1,f2,f3,f4,f5⟩:=S it (by simp);have W:=Walks.range (prog:=X.prog) (w:=X.w) (I.ok.hd Z) it lo 1 n;refine W.item i s _ _ hg st λv h' tk hv O kk=>?_;obtain⟨t,rfl⟩:=hv;have I1:Inv X pins σ H { s with heap:=h',toks:=tk }:=I.turned (λb o J e=>kk b o (by simpa using J) e) f0 f1 f3 f4 f5;refine⟨_,rfl,aaa (s:={ s with heap:=h',toks:=tk }) (n := "range_iterator") O rfl rfl (by decide) ⟨.int (lo+i),H,I1,⟨t,?_⟩,⟨rfl,rfl⟩,O,λb J=>(S b J).1⟩⟩;rw[Int.mul_one]
 done:=by
  intro X U hw Y Z i pins s σ H E I S st hg;subst U hw Y;obtain⟨f0,f1,f2,f3,f4,f5⟩:=S it (by simp);exact wpAny_pyNext_range_end (I.ok.hd Z) st (by have:n<=i:=hg;lia) λh' eb=>⟨rfl,I.turned (t':=s.toks) (λb o J e=>eb b o J e) f0 f1 f3 f4 f5⟩
 self:=λ_ _ _ _ _ st h=>wpAny_pyIter_rangeiter st h
section
variable {X:Cx}{tg:Expr}
def abl (K:PySem.W.Frag)(tl:TE):TI:=λσ H R=>tl σ H λx H1=>∃ a,x=.ref a/\(∃ xs,SqL K H1 a xs)/\R (Itl K a) H1
def afa (K:PySem.W.Frag)(tl:TE):TI:=λσ H R=>tl σ H λx H1=>∃ a,x=.ref a/\(∃ xs,SqT K H1 a xs)/\R (Itt K a) H1
theorem aL {l:Expr}{tl:TE}(O:PE X l tl):PI X tg l (abl X.K tl):=by
 intro pins s σ H R I h;refine thn (O pins s σ H _ I h) λv z ⟨x,H1,J,S,U⟩=>?_;obtain⟨a,e,⟨xs,Y⟩,q⟩:=U;subst e;cases S;obtain⟨its,rv,p,hz⟩:=J.list Y;refine ahZ p.isList ?_;refine⟨z.heap.objs.size,[z.heap.objs.size],_,_,H1,rfl,J.kept (t':=z.toks) λb o e=>afB _ e,aac a _,⟨_,afK _ rfl,rfl,rfl⟩,λb Z=>?_,q⟩;have e:b=z.heap.objs.size:=by simpa using Z
 subst e;exact J.fpOk (afG _) (J.hok.fresh (afG _))
theorem adJ {l:Expr}{tl:TE}(O:PE X l tl):PI X tg l (afa X.K tl):=by
 intro pins s σ H R I h;refine thn (O pins s σ H _ I h) λv z ⟨x,H1,J,S,U⟩=>?_;obtain⟨a,e,⟨xs,Y⟩,q⟩:=U;subst e;cases S;obtain⟨its,rv,p,hz⟩:=J.tuple Y;refine wpAny_pyIter_tuple (show z.heap.IsTuple a its.toArray from p) ?_;refine⟨z.heap.objs.size,[z.heap.objs.size],_,_,H1,rfl,J.kept (t':=z.toks) λb o e=>afB _ e,xm a _,⟨_,afK _ rfl,rfl,rfl⟩,λb Z=>?_,q⟩;have e:b=z.heap.objs.size:=by simpa using Z
 subst e;exact J.fpOk (afG _) (J.hok.fresh (afG _))
theorem aau {pins:List (Addr×Obj)}{σ:St}{H:Hp}{s:Shared}{R:It->Hp->Prop}{E:Value->Shared->Prop}{lo hi:Int}{t u v:Tok}{tk:Nat}(I:Inv X pins σ H s)(h1:-(2 ^ 62)<=lo)(h2:lo < 2 ^ 62)(J:-(2 ^ 62)<=hi)(O:hi < 2 ^ 62)
 (q:R (Itr lo (hi - lo).toNat) H):wpAny (model X.prog X.w) X.A (pyIter (.ref s.heap.objs.size)) (PIE X pins σ tg R) E { s with heap:=s.heap.push { cls:=.type "range",data:=.fields #[.int lo t,.int hi u,.int 1 v] },toks:=tk }:=by
 refine wpAny_pyIter_range (IsRange.new ..) (small_one h1 h2 J O) ?_;have z:Inv X pins σ H { s with heap:=s.heap.push { cls:=.type "range",data:=.fields #[.int lo t,.int hi u,.int 1 v] },toks:=tk }:=I.kept λb o e=>afB _ e;refine⟨(s.heap.push { cls:=.type "range",data:=.fields #[.int lo t,.int hi u,.int 1 v] }).objs.size,[(s.heap.push { cls:=.type "range",data:=.fields #[.int lo t,.int hi u,.int 1 v] }).objs.size],_,_,H,rfl,
  z.kept (t':=tk) λb o e=>afB _ e,xf _ lo (hi - lo).toNat,?_,λb S=>?_,q⟩
 .have U:lo+((0:Nat):Int) * 1=lo:=by simp
  have Y:(((hi - lo).toNat:Nat):Int) - ((0:Nat):Int)=Builtin.Range.rangeSize lo hi 1:=by rw[rangeSize_one];split<;>lia
  show IsRangeIter _ _ (lo+((0:Nat):Int) * 1) ((((hi - lo).toNat:Nat):Int) - ((0:Nat):Int)) 1;rw[U,Y];exact afK _ rfl
 .have e:b=(s.heap.push { cls:=.type "range",data:=.fields #[.int lo t,.int hi u,.int 1 v] }).objs.size:=by simpa using S
  subst e;exact z.fpOk (afG _) (z.hok.fresh (afG _))
def aeH (ta:TA):TI:=λσ H R=>ta σ H λvs H1=>∃ j:Int,vs=[.int j]/\-(2 ^ 62)<=j/\j < 2 ^ 62/\R (Itr 0 j.toNat) H1
theorem cy {a:Expr}{ta:TA}{p pos:Pos}(J:Gl X "range")(O:X.mg "range" = none)(S:PA X [a] ta)(U:starEach [a] X.env=[(false,eval a X.env)]:=by rfl):PI X tg (.Call (.Name "range" p) [a] [] pos) (aeH ta):=by
 intro pins s σ H R I h;refine Call_ (jf I J O boot_range (agU (thn (S pos pins s σ H _ I h) λus s1 ⟨vs,H1,Y,Z,z⟩=>?_) U rfl));obtain⟨j,e,z,q2,q⟩:=z;subst e;cases Z with
 | cons r rr =>
  cases rr;obtain⟨t,rfl⟩:=r;exact call_range_1 (aau Y (by lia) (by lia) z q2 (by simpa using q))
def afk (wi:TI)(g:TG)(tb:TS):TS:=λD σ H=>wi σ H λJ H1=>∃ W:Nat->Nat->St->Hp->Prop,(∃ m,W 0 m σ H1)/\∀ i m σ H,W i m σ H →
 (J.stop i H/\D.nx σ H)\/(J.go i H/\∃ N:St->Hp->Prop,(∀ σ' H',N σ' H'->∃ m',m' < m/\W (i+1) m' σ' H')/\∀ x H',J.yld i H x H'->g x σ H' λσ2 H2=>tb { D with nx:=N,ct:=N,bk:=D.nx } σ2 H2)
def f7 (fp:List Addr)(h:Heap):List (Addr×Obj):=fp.filterMap λb=>(h.get? b).map λo=>(b,o)
theorem bo {fp:List Addr}{h:Heap}{b:Addr}{o:Obj}(z:b∈fp)(e:h.get? b=some o):(b,o)∈f7 fp h:=List.mem_filterMap.mpr ⟨b,z,by rw[e];rfl⟩
theorem yP {fp:List Addr}{h:Heap}{p:Addr×Obj}(z:p∈f7 fp h):p.1∈fp/\h.get? p.1=some p.2:=by
 obtain⟨b,J,e⟩:=List.mem_filterMap.mp z;cases q:h.get? b with
 | none=>rw[q] at e;cases e
 | some o =>
  rw[q] at e;have O:(b,o)=p:=agT e;subst O;exact⟨J,q⟩
theorem Inv.pinned {pins:List (Addr×Obj)}{σ:St}{H:Hp}{s:Shared}{fp:List Addr}(I:Inv X pins σ H s)(S:∀ b∈fp,kA X pins H b)(U:∀ b∈fp,∃ o,s.heap.get? b=some o/\∀ v,o.data≠.cell v):Inv X (pins++f7 fp s.heap) σ H s :=
 I.pins_of λp Y=>(afV.mp Y).elim (λz=>I.pin p (afQ _ z)) λz=>by
  obtain⟨J,e⟩:=yP z;obtain⟨Z,f1,f2,_⟩:=S p.1 J;obtain⟨o,O,d⟩:=U p.1 J;rw[e] at O;cases O;exact⟨e,Z,f1,f2,d⟩
theorem Inv.unpinned {pins pl:List (Addr×Obj)}{σ:St}{H:Hp}{s:Shared}(I:Inv X (pins++pl) σ H s):Inv X pins σ H s:=I.pins_of λp z=>I.pin p (afQ _ (List.mem_append_left _ z))
theorem d9 {iter:Expr}{ad:List Stmt}{wi:TI}{g:TG}{tb:TS}{pos:Pos}(hp:PassesOwn (model X.prog X.w) X.A X.env X.xe)(hc:X.calm=true)(hi:PI X tg iter wi)(hg:PG X tg g)(O:PSs X ad tb)
 (hs:∀ x,foldedSetIterable iter X.env x=pure x:=by intro _;rfl):PS X (.For tg iter ad [] pos) (afk wi g tb):=by
 intro pins s σ H D I h;refine wpAny_For (thn (hi pins s σ H _ I h) λv s1 h1=>thn h1 λaD s2 h2=>?_) hs;obtain⟨it,fp,tn,J,H2,e,I2,T,an,f2,W,⟨m0,w0⟩,ah⟩:=h2;subst e;have S:∀ {H':Hp},(∀ b∈fp,H' b=none)->∀ b∈fp,kA X pins H' b:=λhn b O=>⟨hn b O,(f2 b O).2⟩;refine codeAny_forLoop_any (λn s'=>∃ i U H',Inv X pins U H' s'/\tn i s'.heap/\(∀ b∈fp,H' b=none)/\W i n U H') ?_ m0 ⟨0,σ,H2,I2,an,λb O=>(f2 b O).1,w0⟩;rintro n s3 ⟨i,Y,H3,I3,ai,aj,w3⟩;rcases ah i n Y H3 w3 with ⟨ak,qn⟩ | ⟨go,N,hN,step⟩
 .refine ahY hp (thn (T.done X rfl rfl rfl hc i pins s3 Y H3 X.xe I3 (S aj) ai ak) λr s4 ⟨hr,I4⟩=>?_);subst hr;exact ajw ⟨Y,H3,I4,qn⟩
 .refine ahY hp (thn (T.item X rfl rfl rfl hc i pins s3 Y H3 X.xe I3 (S aj) ai go) λr s4 ⟨u,hr,h4⟩=>?_);subst hr;refine ahY hp (thn h4 λ_ s5 ⟨x,H5,I5,r5,y5,af,ap⟩=>?_);have aq:=I5.pinned (S ap) (T.obj _ _ af);refine ahY hp (thn (hg _ s5 Y H5 x u _ aq r5 (step x H5 y5)) λ_ s6 ⟨ar,H6,I6,q6⟩=>?_);refine ahY hp (thn (O _ s6 ar H6 _ I6 q6) λf s7 q7=>?_);have Z:∀ {z:St} {H7:Hp},Inv X (pins++f7 fp s5.heap) z H7 s7->N z H7->∃ m,m < n/\∃ i U H',Inv X pins U H' s7/\tn i s7.heap/\(∀ b∈fp,H' b=none)/\W i m U H':=fun {z H7} I7 n7=>by
   obtain⟨m',hm,w7⟩:=hN z H7 n7;refine⟨m',hm,i+1,z,H7,I7.unpinned,T.keep _ _ _ af λb O o e=>(I7.pin (b,o) (afQ _ (afQ _ (bo O e)))).1,λb O=>?_,w7⟩;obtain⟨o,e,d⟩:=T.obj _ _ af b O;exact (I7.pin (b,o) (afQ _ (afQ _ (bo O e)))).2.1
  cases f with
  | next=>obtain⟨z,H7,I7,n7⟩:=q7;exact Z I7 n7
  | cont=>obtain⟨z,H7,I7,n7⟩:=q7;exact Z I7 n7
  | brk=>obtain⟨z,H7,I7,q7⟩:=q7;exact⟨z,H7,I7.unpinned,q7⟩
  | ret v=>obtain⟨x7,z,H7,I7,r7,q7⟩:=q7;exact⟨x7,z,H7,I7.unpinned,r7,q7⟩
end
theorem gS {K:PySem.W.Frag}{a:Addr}{xs:List V}{g:TG}{tb:TS}{D:xV}{σ:St}{H:Hp}(Pv:Nat->St->Hp->Prop)(U:Pv 0 σ H)(Y:∀ i σ H,i<=xs.length->Pv i σ H->SqL K H a xs)
 (Z:∀ i x σ H,xs[i]? = some x->Pv i σ H->g x σ H λz H2=>tb { D with nx:=Pv (i+1),ct:=Pv (i+1),bk:=D.nx } z H2)(hd:∀ σ H,Pv xs.length σ H->D.nx σ H) :
 ∃ W:Nat->Nat->St->Hp->Prop,(∃ m,W 0 m σ H)/\∀ i m σ H,W i m σ H →
  ((Itl K a).stop i H/\D.nx σ H)\/((Itl K a).go i H/\∃ N:St->Hp->Prop,(∀ J H',N J H'->∃ S,S < m/\W (i+1) S J H')/\∀ x H',(Itl K a).yld i H x H'->g x σ H' λz H2=>tb { D with nx:=N,ct:=N,bk:=D.nx } z H2):=by
 refine⟨λi m σ H=>m=xs.length - i/\i<=xs.length/\Pv i σ H,⟨xs.length,by simp,af5 _,U⟩,?_⟩;rintro i m σ H ⟨rfl,hi,p⟩;have q:=Y i σ H hi p;by_cases O:i < xs.length
 .refine .inr ⟨⟨xs,xs[i],q,by simp[O]⟩,Pv (i+1),λJ H' p'=>⟨xs.length - (i+1),by lia,rfl,O,p'⟩,λx H' y=>?_⟩;obtain⟨e,y⟩:=y;subst e;exact Z i x σ _ (y xs q) p
 .have e:i=xs.length:=by lia
  subst e;exact .inl ⟨⟨xs,q,afG _⟩,hd σ H p⟩
theorem fP {lo:Int}{n:Nat}{g:TG}{tb:TS}{D:xV}{σ:St}{H:Hp}(Pv:Nat->St->Hp->Prop)(U:Pv 0 σ H)
 (Y:∀ i σ H,i < n->Pv i σ H->g (.int (lo+i)) σ H λz H2=>tb { D with nx:=Pv (i+1),ct:=Pv (i+1),bk:=D.nx } z H2)(Z:∀ σ H,Pv n σ H->D.nx σ H) :
 ∃ W:Nat->Nat->St->Hp->Prop,(∃ m,W 0 m σ H)/\∀ i m σ H,W i m σ H →
  ((Itr lo n).stop i H/\D.nx σ H)\/((Itr lo n).go i H/\∃ N:St->Hp->Prop,(∀ J H',N J H'->∃ S,S < m/\W (i+1) S J H')/\∀ x H',(Itr lo n).yld i H x H'->g x σ H' λz H2=>tb { D with nx:=N,ct:=N,bk:=D.nx } z H2):=by
 refine⟨λi m σ H=>m=n - i/\i<=n/\Pv i σ H,⟨n,by simp,af5 _,U⟩,?_⟩;rintro i m σ H ⟨rfl,hi,p⟩;by_cases O:i < n
 .refine .inr ⟨O,Pv (i+1),λJ H' p'=>⟨n - (i+1),by lia,rfl,O,p'⟩,λx H' y=>?_⟩;obtain⟨e,y⟩:=y;subst e y;exact Y i σ _ O p
 .have e:i=n:=by lia
  subst e;exact .inl ⟨afG _,Z σ H p⟩
abbrev R2:=V->V->Hp->VK->Prop
def OpR (X:Cx)(f:Value->Value->Sem Value)(r:R2):Prop :=
 ∀ (pins:List (Addr×Obj)) (s:Shared) (σ:St) (H:Hp) (x y:V) (v u:Value) (Q:VK),Inv X pins σ H s->RelV x v->RelV y u->r x y H Q →
  wpAny (model X.prog X.w) X.A (f v u) (EP X pins σ Q) X.xe s
def UnR (X:Cx)(f:Value->Sem Value)(r:V->Hp->VK->Prop):Prop :=
 ∀ (pins:List (Addr×Obj)) (s:Shared) (σ:St) (H:Hp) (x:V) (v:Value) (Q:VK),Inv X pins σ H s->RelV x v->r x H Q →
  wpAny (model X.prog X.w) X.A (f v) (EP X pins σ Q) X.xe s
def eG (X:Cx)(f:Value)(r:List V->Hp->VK->Prop):Prop :=
 ∀ (pins:List (Addr×Obj)) (s:Shared) (σ:St) (H:Hp) (xs:List V) (us:List Value) (Q:VK),Inv X pins σ H s->Vals xs us->r xs H Q →
  wpAny (model X.prog X.w) X.A (call f us) (EP X pins σ Q) X.xe s
def afw (X:Cx)(r:V->Hp->(Bool->Hp->Prop)->Prop):Prop :=
 ∀ (pins:List (Addr×Obj)) (s:Shared) (σ:St) (H:Hp) (x:V) (v:Value) (Q:Bool->Hp->Prop),Inv X pins σ H s->RelV x v->r x H Q →
  wpAny (model X.prog X.w) X.A (truthy v) (TP X pins σ Q) X.xe s
def tOp (r:R2)(ta tb:TE):TE:=λσ H Q=>ta σ H λx H1=>tb σ H1 λy H2=>r x y H2 Q
def tUn (r:V->Hp->VK->Prop)(ta:TE):TE:=λσ H Q=>ta σ H λx H1=>r x H1 Q
def rI (C:Int->Int->Prop)(g:Int->Int->V):R2:=λx y H Q=>∃ i j,x=.int i/\y=.int j/\C i j/\Q (g i j) H
def rI0 (g:Int->Int->V):R2:=λx y H Q=>∃ i j,x=.int i/\y=.int j/\Q (g i j) H
def rU (g:Int->V):V->Hp->VK->Prop:=λx H Q=>∃ i,x=.int i/\Q (g i) H
section
variable {X:Cx}{a b c:Expr}{ta tb tc:TE}{pos:Pos}
theorem aeI (O:PE X a ta)(S:PE X b tb){pins:List (Addr×Obj)}{s:Shared}{σ:St}{H:Hp}{R:V->V->Hp->Prop}(I:Inv X pins σ H s)
 (h:ta σ H λx H1=>tb σ H1 λy H2=>R x y H2){Q:Value->Shared->Prop}{f:Value->Value->Sem Value}
 (U:∀ v u J x y H2,Inv X pins σ H2 J->RelV x v->RelV y u->R x y H2->wpAny (model X.prog X.w) X.A (f v u) Q X.xe J) :
 wpAny (model X.prog X.w) X.A (eval a X.env) (λv s₁=>wpAny (model X.prog X.w) X.A (eval b X.env) (λu z=>wpAny (model X.prog X.w) X.A (f v u) Q X.xe z) X.xe s₁) X.xe s:=by
 refine thn (O pins s σ H _ I h) λv Y ⟨x,H1,Z,r1,q1⟩=>?_;refine thn (S pins Y σ H1 _ Z q1) λu J ⟨y,H2,I2,r2,q2⟩=>?_;exact U v u J x y H2 I2 r1 r2 q2
theorem bN {op:Operator}{r:R2}(z:OpR X (binaryOp op) r)(J:PE X a ta)(O:PE X b tb):PE X (.BinOp a op b pos) (tOp r ta tb):=by
 intro pins s σ H Q I h;exact wpAny_BinOp (aeI J O I h λv u S x y H2 U Y Z q=>z pins S σ H2 x y v u Q U Y Z q)
theorem abL {op:UnaryOp}{r:V->Hp->VK->Prop}(z:UnR X (unaryOp op) r)(J:PE X a ta):PE X (.UnaryOp op a pos) (tUn r ta):=by
 intro pins s σ H Q I h;exact UnaryOp_ (thn (J pins s σ H _ I h) λv O ⟨x,H1,S,U,Y⟩=>z pins O σ H1 x v Q S U Y)
theorem opI {f:Value->Value->Sem Value}{C:Int->Int->Prop}{g:Int->Int->Int}
 (z:∀ (i j:Int) (t u:Tok) (s:Shared) (Q:Value->Shared->Prop) (E:Value->Shared->Prop),C i j->Q (.int (g i j) s.toks) { s with toks:=s.toks+1 }->wpAny (model X.prog X.w) X.A (f (.int i t) (.int j u)) Q E s) :
 OpR X f (rI C λi j=>.int (g i j)):=by
 intro pins s σ H x y v u Q I J O h;obtain⟨i,j,rfl,rfl,S,q⟩:=h;obtain⟨t,rfl⟩:=J;obtain⟨U,rfl⟩:=O;exact z i j t U s _ _ S ⟨.int (g i j),H,I.tok _,⟨_,rfl⟩,q⟩
theorem aej {f:Value->Value->Sem Value}{g:Int->Int->Int}
 (z:∀ (i j:Int) (t u:Tok) (s:Shared) (Q:Value->Shared->Prop) (E:Value->Shared->Prop),Q (.int (g i j) s.toks) { s with toks:=s.toks+1 }->wpAny (model X.prog X.w) X.A (f (.int i t) (.int j u)) Q E s) :
 OpR X f (rI0 λi j=>.int (g i j)):=by
 intro pins s σ H x y v u Q I J O h;obtain⟨i,j,rfl,rfl,q⟩:=h;obtain⟨t,rfl⟩:=J;obtain⟨S,rfl⟩:=O;exact z i j t S s _ _ ⟨.int (g i j),H,I.tok _,⟨_,rfl⟩,q⟩
theorem aeh {f:Value->Value->Sem Value}{g:Int->Int->Bool}
 (z:∀ (i j:Int) (t u:Tok) (s:Shared) (Q:Value->Shared->Prop) (E:Value->Shared->Prop),Q (.bool (g i j)) s->wpAny (model X.prog X.w) X.A (f (.int i t) (.int j u)) Q E s) :
 OpR X f (rI0 λi j=>.bl (g i j)):=by
 intro pins s σ H x y v u Q I J O h;obtain⟨i,j,rfl,rfl,q⟩:=h;obtain⟨t,rfl⟩:=J;obtain⟨S,rfl⟩:=O;exact z i j t S s _ _ ⟨.bl (g i j),H,I,rfl,q⟩
def ae5 (i j:Int):Prop:=0<=j/\j<=1000000/\i.natAbs < 2 ^ 64
def CMul (i j:Int):Prop:=(-(2 ^ 64) < i/\i < 2 ^ 64)\/(-(2 ^ 64) < j/\j < 2 ^ 64)
theorem CMul.ok {i j:Int}(h:CMul i j):IntMulOk i j:=by
 rcases h with ⟨h1,h2⟩ | ⟨h1,h2⟩
 .exact .of_left (intBits_le_64 h1 h2)
 .exact .of_right (intBits_le_64 h1 h2)
theorem xg (k:Nat):(0:Int)<=2 ^ k:=by
 rw[two_pow_cast];exact ajN _
theorem gA:OpR X (binaryOp .Add) (rI0 λi j=>.int (i+j)):=aej λ_ _ _ _ _ _ _ q=>add_int q
theorem u9:OpR X (binaryOp .Sub) (rI0 λi j=>.int (i - j)):=aej λ_ _ _ _ _ _ _ q=>sub_int q
theorem sg:OpR X (binaryOp .Mult) (rI CMul λi j=>.int (i * j)):=opI λ_ _ _ _ _ _ _ z q=>mul_int q z.ok
theorem pj:OpR X (binaryOp .Mod) (rI (λ_ j=>0 < j) λi j=>.int (i % j)):=opI λi j _ _ _ _ _ z q=>by
 have h1:(0:Int) < j:=z;exact mod_int' (by lia) (by rw[Int.fmod_eq_emod_of_nonneg i (by lia)];exact q)
theorem acd:OpR X (binaryOp .Pow) (rI ae5 λi j=>.int (i ^ j.toNat)):=opI λ_ _ _ _ _ _ _ z q=>pow_int_small z.1 z.2.1 z.2.2 q
theorem adG:OpR X (binaryOp .LShift) (rI ae5 λi j=>.int (i * 2 ^ j.toNat)):=opI λ_ _ _ _ _ _ _ z q=>lshift_int_small z.1 z.2.1 z.2.2 q
theorem aeg:OpR X (binaryOp .RShift) (rI (λ_ j=>0<=j) λi j=>.int (i / 2 ^ j.toNat)):=opI λi j _ _ _ _ _ z q =>
 rshift_int z (by rw[ajH i (xg _)];exact q)
theorem adp:OpR X (binaryOp .BitAnd) (rI0 λi j=>.int (Builtin.bitAnd i j)):=aej λ_ _ _ _ _ _ _ q=>and_int q
theorem aet:OpR X (binaryOp .BitOr) (rI0 λi j=>.int (Builtin.bitOr i j)):=aej λ_ _ _ _ _ _ _ q=>or_int q
theorem unI {f:Value->Sem Value}{g:Int->Int}
 (z:∀ (i:Int) (t:Tok) (s:Shared) (Q:Value->Shared->Prop) (E:Value->Shared->Prop),Q (.int (g i) s.toks) { s with toks:=s.toks+1 }->wpAny (model X.prog X.w) X.A (f (.int i t)) Q E s) :
 UnR X f (rU λi=>.int (g i)):=by
 intro pins s σ H x v Q I J h;obtain⟨i,rfl,q⟩:=h;obtain⟨t,rfl⟩:=J;exact z i t s _ _ ⟨.int (g i),H,I.tok _,⟨_,rfl⟩,q⟩
theorem vt:UnR X (unaryOp .USub) (rU λi=>.int (-i)):=unI λ_ _ _ _ _ q=>neg_int q
end
def ae2:V->V->Bool
 | .non,.non=>true | .non,.int _=>true | .int _,.non=>true | .non,.bl _=>true | .bl _,.non=>true | .non,.str _=>true | .str _,.non=>true
 | .int _,.int _=>true | .bl _,.bl _=>true | .str _,.str _=>true | .byt _,.byt _=>true
 | .int _,.str _=>true | .str _,.int _=>true | .bl _,.str _=>true | .str _,.bl _=>true
 | _,_=>false
def rEq:R2:=λx y H Q=>ae2 x y=true/\Q (.bl (decide (x=y))) H
def rNe:R2:=λx y H Q=>ae2 x y=true/\Q (.bl (!decide (x=y))) H
theorem yU {i j:Int}:decide (V.int i=V.int j)=(i == j):=by
 rw[ag3];simp
theorem ab3 {i j:Bool}:decide (V.bl i=V.bl j)=(i == j):=by
 rw[ag3];simp
theorem z7 {i j:Str}:decide (V.str i=V.str j)=(i == j):=by
 rw[ag3];simp
theorem xG {i j:Array UInt8}:decide (V.byt i=V.byt j)=(i.toList == j.toList):=by
 rw[ag3];cases i;cases j;simp
section
variable {X:Cx}{a b c:Expr}{ta tb tc:TE}{pos:Pos}
theorem bD {pins:List (Addr×Obj)}{σ:St}{H:Hp}{s:Shared}{Q:VK}{k z:Bool}(I:Inv X pins σ H s)(q:Q (.bl k) H)(e:k=z):EP X pins σ Q (.bool z) s:=by
 subst e;exact⟨.bl k,H,I,rfl,q⟩
theorem jt:OpR X (compareOp .Eq) rEq:=by
 intro pins s σ H x y v u Q I S z h;obtain⟨O,q⟩:=h;cases x with
 | non =>
  cases S;cases y with
  | non=>cases z;exact PySem.EqNone.eq_none_none (bD I q (by simp))
  | bl j=>cases z;exact PySem.EqNone.eq_none_bool (bD I q (by simp))
  | int j=>obtain⟨J,rfl⟩:=z;exact PySem.EqNone.eq_none_int (bD I q (by simp))
  | str j=>obtain⟨J,rfl⟩:=z;exact PySem.EqNone.eq_none_str (bD I q (by simp))
  | _=>exact absurd (show false=true from O) afC
 | bl i =>
  cases S;cases y with
  | non=>cases z;exact PySem.EqNone.eq_bool_none (bD I q (by simp))
  | bl j=>cases z;exact eq_bool (bD I q ab3)
  | str j=>obtain⟨J,rfl⟩:=z;exact PySem.EqMixed.eq_bool_str (bD I q (by simp))
  | _=>exact absurd (show false=true from O) afC
 | int i =>
  obtain⟨t,rfl⟩:=S;cases y with
  | non=>cases z;exact PySem.EqNone.eq_int_none (bD I q (by simp))
  | int j=>obtain⟨J,rfl⟩:=z;exact eq_int (bD I q yU)
  | str j=>obtain⟨J,rfl⟩:=z;exact PySem.EqMixed.eq_int_str (bD I q (by simp))
  | _=>exact absurd (show false=true from O) afC
 | str i =>
  obtain⟨t,rfl⟩:=S;cases y with
  | non=>cases z;exact PySem.EqNone.eq_str_none (bD I q (by simp))
  | bl j=>cases z;exact PySem.EqMixed.eq_str_bool (bD I q (by simp))
  | int j=>obtain⟨J,rfl⟩:=z;exact PySem.EqMixed.eq_str_int (bD I q (by simp))
  | str j=>obtain⟨J,rfl⟩:=z;exact eq_str (bD I q z7)
  | _=>exact absurd (show false=true from O) afC
 | byt i =>
  obtain⟨t,rfl⟩:=S;cases y with
  | byt j=>obtain⟨J,rfl⟩:=z;exact PySem.W.eq_bytes (bD I q xG)
  | _=>exact absurd (show false=true from O) afC
 | _=>cases y<;>exact absurd (show false=true from O) afC
theorem acU:OpR X (compareOp .NotEq) rNe:=by
 intro pins s σ H x y v u Q I S z h;obtain⟨O,q⟩:=h;cases x with
 | non =>
  cases S;cases y with
  | non=>cases z;exact PySem.EqNone.ne_none_none (bD I q (by simp))
  | bl j=>cases z;exact PySem.EqNone.ne_none_bool (bD I q (by simp))
  | int j=>obtain⟨J,rfl⟩:=z;exact PySem.EqNone.ne_none_int (bD I q (by simp))
  | str j=>obtain⟨J,rfl⟩:=z;exact PySem.EqNone.ne_none_str (bD I q (by simp))
  | _=>exact absurd (show false=true from O) afC
 | bl i =>
  cases S;cases y with
  | non=>cases z;exact PySem.EqNone.ne_bool_none (bD I q (by simp))
  | bl j=>cases z;exact ne_bool (bD I q (agS not ab3))
  | str j=>obtain⟨J,rfl⟩:=z;exact PySem.EqMixed.ne_bool_str (bD I q (by simp))
  | _=>exact absurd (show false=true from O) afC
 | int i =>
  obtain⟨t,rfl⟩:=S;cases y with
  | non=>cases z;exact PySem.EqNone.ne_int_none (bD I q (by simp))
  | int j=>obtain⟨J,rfl⟩:=z;exact ne_int (bD I q (agS not yU))
  | str j=>obtain⟨J,rfl⟩:=z;exact PySem.EqMixed.ne_int_str (bD I q (by simp))
  | _=>exact absurd (show false=true from O) afC
 | str i =>
  obtain⟨t,rfl⟩:=S;cases y with
  | non=>cases z;exact PySem.EqNone.ne_str_none (bD I q (by simp))
  | bl j=>cases z;exact PySem.EqMixed.ne_str_bool (bD I q (by simp))
  | int j=>obtain⟨J,rfl⟩:=z;exact PySem.EqMixed.ne_str_int (bD I q (by simp))
  | str j=>obtain⟨J,rfl⟩:=z;exact ne_str (bD I q (agS not z7))
  | _=>exact absurd (show false=true from O) afC
 | byt i =>
  obtain⟨t,rfl⟩:=S;cases y with
  | byt j=>obtain⟨J,rfl⟩:=z;exact PySem.W.ne_bytes (bD I q (agS not xG))
  | _=>exact absurd (show false=true from O) afC
 | _=>cases y<;>exact absurd (show false=true from O) afC
theorem wK:OpR X (compareOp .Lt) (rI0 λi j=>.bl (decide (i < j))):=aeh λ_ _ _ _ _ _ _ q=>lt_int q
theorem yX:OpR X (compareOp .LtE) (rI0 λi j=>.bl (decide (i<=j))):=aeh λ_ _ _ _ _ _ _ q=>le_int q
theorem wY:OpR X (compareOp .Gt) (rI0 λi j=>.bl (decide (j < i))):=aeh λ_ _ _ _ _ _ _ q=>gt_int q
theorem aaM:OpR X (compareOp .GtE) (rI0 λi j=>.bl (decide (j<=i))):=aeh λ_ _ _ _ _ _ _ q=>ge_int q
theorem zX:OpR X (compareOp .In) (λx y H Q=>∃ i j,x=.str i/\y=.str j/\Q (.bl (!(Builtin.Str.occurrences j i 0 j.length 1).isEmpty)) H):=by
 intro pins s σ H x y v u Q I z J h;obtain⟨i,j,rfl,rfl,q⟩:=h;obtain⟨t,rfl⟩:=z;obtain⟨O,rfl⟩:=J;exact in_str (bD I q rfl)
theorem aP (b:Expr){op:CmpOp}(h:op≠.In:=by decide)(h2:op≠.NotIn:=by decide):behindInMarks op b=false:=by
 have z:(op == CmpOp.In)=false:=by cases op<;>first | rfl | exact absurd rfl h
 have J:(op == CmpOp.NotIn)=false:=by cases op<;>first | rfl | exact absurd rfl h2
 cases b<;>simp[behindInMarks,z,J]
theorem fQ {op:CmpOp}{r:R2}(z:OpR X (compareOp op) r)(J:PE X a ta)(O:PE X b tb)(S:behindInMarks op b=false):PE X (.Compare a [op] [b] pos) (tOp r ta tb):=by
 intro pins s σ H Q I h;exact wpAny_Compare1 (aeI J O I h λv u U x y H2 Y Z ry q=>z pins U σ H2 x y v u Q Y Z ry q) S
def ada (t:TE):TT:=λσ H Q=>t σ H λx H'=>∃ k,x=.bl k/\Q k H'
theorem aE {op:CmpOp}{r:R2}(J:OpR X (compareOp op) r)(O:PE X a ta)(S:PE X b tb)(U:behindInMarks op b=false):PT X (.Compare a [op] [b] pos) (ada (tOp r ta tb)):=by
 intro pins s σ H Q I h;refine wpAny_isTrue_Compare1 (thn (O pins s σ H _ I h) λv Y ⟨x,H1,Z,r1,q1⟩=>thn (S pins Y σ H1 _ Z q1) λu s2 ⟨y,H2,I2,r2,q2⟩ =>
  thn (J pins s2 σ H2 x y v u _ I2 r1 r2 q2) λc s3 ⟨z,H3,I3,r3,k,e,q3⟩=>?_) U
 subst e;cases r3;exact agJ ⟨H3,I3,q3⟩
def abR (r r':R2)(ta tb tc:TE):TE:=λσ H Q=>ta σ H λx H1=>tb σ H1 λy H2=>r x y H2 λz H3=>∃ k,z=.bl k ∧
 (if k=true then tc σ H3 λw' H4=>r' y w' H4 Q else Q (.bl false) H3)
theorem vA {op J:CmpOp}{r S:R2}(ho:OpR X (compareOp op) r)(O:OpR X (compareOp J) S)(ha:PE X a ta)(hb:PE X b tb)(hc:PE X c tc)
 (hm:lastMarks [op,J] [b,c]=false:=by with_unfolding_all rfl):PE X (.Compare a [op,J] [b,c] pos) (abR r S ta tb tc):=by
 intro pins s σ H Q I h;refine Compare_chain (thn (ha pins s σ H _ I h) λv s1 ⟨x,H1,I1,r1,q1⟩=>chain_link (thn (hb pins s1 σ H1 _ I1 q1) λu s2 ⟨y,H2,I2,U,q2⟩ =>
  thn (ho pins s2 σ H2 x y v u _ I2 r1 U q2) λd s3 ⟨z,Y,Z,r3,k,e,q3⟩=>?_)) hm
 subst e;cases r3;refine agJ ?_;cases k with
 | false=>exact ite_ff ⟨.bl false,Y,Z,rfl,q3⟩
 | true=>exact ite_tt (chain_last (thn (hc pins s3 σ Y _ Z q3) λw' s4 ⟨z',H4,I4,r4,q4⟩=>O pins s4 σ H4 y z' u w' Q I4 U r4 q4))
theorem aam {op J:CmpOp}{r S:R2}(ho:OpR X (compareOp op) r)(O:OpR X (compareOp J) S)(ha:PE X a ta)(hb:PE X b tb)(hc:PE X c tc)
 (hm:lastMarks [op,J] [b,c]=false:=by with_unfolding_all rfl):PT X (.Compare a [op,J] [b,c] pos) (ada (abR r S ta tb tc)):=by
 intro pins s σ H Q I h;refine isTrue_chain (thn (ha pins s σ H _ I h) λv s1 ⟨x,H1,I1,r1,q1⟩=>test_link (thn (hb pins s1 σ H1 _ I1 q1) λu s2 ⟨y,H2,I2,U,q2⟩ =>
  thn (ho pins s2 σ H2 x y v u _ I2 r1 U q2) λd s3 ⟨z,Y,Z,r3,k,e,q3⟩=>?_)) hm
 subst e;cases r3;refine agJ ?_;cases k with
 | false =>
  obtain⟨k',e',q'⟩:=q3;cases e';exact ite_ff ⟨Y,Z,q'⟩
 | true =>
  refine ite_tt (test_last (thn (hc pins s3 σ Y _ Z q3) λw' s4 ⟨z',H4,I4,r4,q4⟩=>thn (O pins s4 σ H4 y z' u w' _ I4 U r4 q4) λd' s5 ⟨z2,H5,I5,r5,k2,e2,q5⟩=>?_));subst e2;cases r5;exact agJ ⟨H5,I5,q5⟩
def ae1 (K:PySem.W.Frag)(x:V)(H:Hp)(k:Bool):Prop :=
 match x with
 | .non=>k=false
 | .bl b=>k=b
 | .int i=>k=(i != 0)
 | .str y=>y.length<=sizeLine/\k=((y.length:Int) != 0)
 | .byt y=>y.size<=sizeLine/\k=((y.size:Int) != 0)
 | .ref p=>(∃ xs,SqL K H p xs/\k=!xs.isEmpty)\/(∃ xs,SqT K H p xs/\k=!xs.isEmpty)\/∃ kvs,H p=some (.dK kvs)/\k=!kvs.isEmpty
 | _=>False
theorem wU {κ:Type}{kvs:List (κ×V)}{vs:List (κ×Value)}(r:KV kvs vs):(!vs.isEmpty)=!kvs.isEmpty:=by
 cases r<;>rfl
theorem o6 {xs:List V}{its:List Value}(r:Vals xs its):(!its.toArray.isEmpty)=!xs.isEmpty:=by
 cases r<;>simp
theorem k9:(sizeLine:Nat) < 2 ^ 63:=by rw[aiL];decide
theorem adF:afw X (λx H Q=>∃ k,ae1 X.K x H k/\Q k H):=by
 intro pins s σ H x v Q I O h;obtain⟨k,e,q⟩:=h;have hl:=k9;have hs:sizeLine=16777216:=aiL;cases x with
 | non =>
  cases O;have z:k=false:=e;subst z;exact truthy_none ⟨H,I,q⟩
 | bl b =>
  cases O;have z:k=b:=e;subst z;exact agJ ⟨H,I,q⟩
 | int i =>
  obtain⟨t,rfl⟩:=O;have z:k=(i != 0):=e;subst z;exact PySem.P.truthy_int ⟨H,I,q⟩
 | str y =>
  obtain⟨t,rfl⟩:=O;obtain⟨Z,z⟩:y.length<=sizeLine/\k=((y.length:Int) != 0):=e;subst z;exact PySem.P.truthy_str (by lia) ⟨H,I.tok _,q⟩
 | byt y =>
  obtain⟨t,rfl⟩:=O;obtain⟨Z,z⟩:y.size<=sizeLine/\k=((y.size:Int) != 0):=e;subst z;exact PySem.W.truthy_bytes (by lia) ⟨H,I.tok _,q⟩
 | ref p =>
  cases O;have z:(∃ xs,SqL X.K H p xs/\k=!xs.isEmpty)\/(∃ xs,SqT X.K H p xs/\k=!xs.isEmpty)\/∃ kvs,H p=some (.dK kvs)/\k=!kvs.isEmpty:=e;rcases z with ⟨xs,S,z⟩ | ⟨xs,S,z⟩ | ⟨kvs,S,z⟩
  .subst z;obtain⟨its,r,U,Y⟩:=I.list S;have J:=r.length;exact wpAny_truthy_list U.isList (by simp only[af4];lia) ⟨H,I.tok _,by rw[o6 r];exact q⟩
  .subst z;obtain⟨its,r,U,Y⟩:=I.tuple S;have J:=r.length;exact truthy_tuple U (by simp only[af4];lia) ⟨H,I.tok _,by rw[o6 r];exact q⟩
  .subst z;obtain⟨Y,hS,vs,r,m⟩:kvs.length<=sizeLine/\(p == sysModules)=false/\∃ vs,KV kvs vs/\s.heap.DictOf (aU X.prog X.w) p vs:=I.hok p _ S;have J:kvs.length=vs.length:=akj r;exact wpAny_truthy_dict hS m (by lia) ⟨H,I.tok _,by rw[wU r];exact q⟩
 | _=>exact (show False from e).elim
theorem aa9 (J:PE X a ta)(O:∀ z,isTrue a X.env z=(do let v ← z;standAt a.pos;holding [v] (truthy v))) :
 PT X a (λσ H Q=>ta σ H λx H'=>∃ k,ae1 X.K x H' k/\Q k H'):=by
 intro pins s σ H Q I h;exact isTrue_plain (thn (J pins s σ H _ I h) λv S ⟨x,H1,U,Y,Z⟩=>adF pins S σ H1 x v Q U Y Z) (O _)
theorem xn:OpR X (binaryOp .Add) (λx y H Q=>∃ i j,x=.str i/\y=.str j/\i.length+j.length<=sizeLine/\Q (.str (i++j)) H):=by
 intro pins s σ H x y v u Q I z J h;obtain⟨i,j,rfl,rfl,O,q⟩:=h;obtain⟨t,rfl⟩:=z;obtain⟨S,rfl⟩:=J;exact add_str (λS tk=>⟨.str (i++j),H,I.tok _,⟨_,rfl⟩,q⟩) O
theorem gz {x:V}{us:List Value}(r:Vals [x] us):∃ u,us=[u]/\RelV x u:=by
 cases r with
 | cons z J=>cases J;exact⟨_,rfl,z⟩
theorem acP {x y:V}{us:List Value}(r:Vals [x,y] us):∃ u z,us=[u,z]/\RelV x u/\RelV y z:=by
 cases r with
 | cons J O =>
  cases O with
  | cons S U=>cases U;exact⟨_,_,rfl,J,S⟩
theorem rY (J:X.calm=true):eG X (.builtin "max") (λxs H Q=>∃ i j,xs=[.int i,.int j]/\Q (.int (if j > i then j else i)) H):=by
 intro pins s σ H xs O Q I r h;obtain⟨i,j,rfl,q⟩:=h;obtain⟨u,S,rfl,⟨t,rfl⟩,⟨U,rfl⟩⟩:=acP r;refine max_two_ints (I.ok.hd J) λh' tk k=>⟨_,H,I.kept k,?_,q⟩;by_cases z:j > i
 .rw[if_pos z,if_pos z];exact⟨_,rfl⟩
 .rw[if_neg z,if_neg z];exact⟨_,rfl⟩
theorem xN (J:X.calm=true):eG X (.builtin "min") (λxs H Q=>∃ i j,xs=[.int i,.int j]/\Q (.int (if j < i then j else i)) H):=by
 intro pins s σ H xs O Q I r h;obtain⟨i,j,rfl,q⟩:=h;obtain⟨u,S,rfl,⟨t,rfl⟩,⟨U,rfl⟩⟩:=acP r;refine min_two_ints (I.ok.hd J) λh' tk k=>⟨_,H,I.kept k,?_,q⟩;by_cases z:j < i
 .rw[if_pos z,if_pos z];exact⟨_,rfl⟩
 .rw[if_neg z,if_neg z];exact⟨_,rfl⟩
theorem mE:eG X (.type "int") (λxs H Q=>(∃ i,xs=[.int i]/\Q (.int i) H)\/∃ k,xs=[.bl k]/\Q (.int (if k then 1 else 0)) H):=by
 intro pins s σ H xs J Q I r h;rcases h with ⟨i,rfl,q⟩ | ⟨k,rfl,q⟩
 .obtain⟨u,rfl,t,rfl⟩:=gz r;exact call_int_int ⟨.int i,H,I,⟨_,rfl⟩,q⟩
 .obtain⟨u,rfl,z⟩:=gz r;cases z;exact call_int_bool ⟨.int (if k then 1 else 0),H,I.tok _,⟨_,rfl⟩,q⟩
end
structure ObjM (h:Heap)(x dx C:Addr)(mA:Str->Option Value):Prop where
 obj:h.get? x=some (instObj C dx)
 ns:h.Ns1 dx mA
 ne:dx≠x
theorem yp {h:Heap}{dx:Addr}{mA:Str->Option Value}(n:h.Ns1 dx mA):∃ O,h.get? dx=some O/\∀ name,lookIn name O=some (mA name):=by
 obtain⟨o,es,ep,S,U,Y,_,Z⟩:=n;refine⟨o,S,λname=>?_⟩;have e:=Z name;unfold nsFind findBy at e;rw[← Array.find?_toList] at e;unfold lookIn;rw[U];dsimp only;split
 .rename_i y q;rw[q] at e;exact agS some e
 .rename_i q;rw[q] at e;have a:es.toList.any (·.refKey)=false:=by
   rw[List.any_eq_false];intro y hy;obtain⟨z,t,J⟩:=Y y (Array.mem_toList_iff.mp hy);simp[DictEntry.refKey,J]
  have a':¬ es.toList.any (·.refKey)=true:=by rw[a];exact afC
  rw[if_neg a'];exact agS some e
theorem ObjM.look {h:Heap}{x dx C:Addr}{mA:Str->Option Value}(I:ObjM h x dx C mA):∃ z,PySem.W.InstAt h x (instObj C dx) C (some z)/\∀ name,lookIn name z=some (mA name) :=
 let ⟨z,ho,hl⟩:=yp I.ns
 ⟨z,⟨I.obj,rfl,rfl,ho⟩,hl⟩
section
variable {prog:Program}{w:World}{A:Around}{E:Value->Shared->Prop}{s:Shared}{K:PySem.W.Frag}{x dx C f:Addr}{mA:Str->Option Value}{name:Str}{v:Value}
theorem acX {z:Bool}{Q:Value->Shared->Prop}(X:K.In s.heap)(I:ObjM s.heap x dx C mA)(S:plainGet K C name=true)(U:hasDictIn K C=true)
 (Y:findIn K (.ref C) name=some none)(Z:mA name=some v)(O:handedIn v=true)(h:Q v { s with toks:=s.toks+1 }) :
 wpAny (model prog w) A (getAttr (.ref x) name z) Q E s:=by
 obtain⟨od,J,hl⟩:=I.look;exact PySem.W.get_value X J (ajx S).1 (PySem.W.findObj_own U Y rfl (by rw[hl,Z])) O h
theorem abu {pl:Sem Bool}{Q:Value×List Value->Shared->Prop}(X:K.In s.heap)(I:ObjM s.heap x dx C mA)(z:plainGet K C name=true)
 (O:findIn K (.ref C) name=some (some (.ref f)))(S:isFn K (.ref f)=true)(U:mA name=none)(h:Q (.ref f,[.ref x]) s) :
 wpAny (model prog w) A (getMethod (.ref x) name pl) Q E s:=by
 obtain⟨Y,J,Z⟩:=I.look;exact PySem.W.method_fn X J (ajx z).1 (ajx z).2 O (aga.mp S) (by show (lookIn name Y).map (·.isSome)=some false;rw[Z,U];rfl) h
theorem ac8 {ns:List Str}{Q:Unit->Shared->Prop}(X:K.In s.heap)(I:ObjM s.heap x dx C mA)
 (hs:findIn K (.ref C) "__setattr__" = some (some (.builtin "object.__setattr__")))(hp:plainOver K C=true)(ht:takerIn K C name=some none)(hh:hasDictIn K C=true)
 (hw:PySem.Within mA ns)(hsz:ns.length<=sizeLine)
 (h:∀ h',ObjM h' x dx C (λy=>if y=name then some v else mA y)->Heap.SameBut dx s.heap h'->Q () { s with heap:=h',toks:=s.toks+2 }) :
 wpAny (model prog w) A (setAttr (.ref x) name v) Q E s:=by
 obtain⟨od,J,hl⟩:=I.look;refine PySem.W.set_plain X J hs (PySem.W.osa_open (s:={ s with toks:=s.toks+1 }) (r:=none) X J hp ht λb=>?_);obtain⟨cd,hc,S⟩:=PySem.W.any_some hh;have hx:s.heap.get? x=some ⟨.ref C,some dx,.plain,#[]⟩:=I.obj;refine afy (afE (afy (afy (wpAny_loadPart hx (afy (PySem.W.Looks.here (s:={ s with toks:=s.toks+1 }) (PySem.W.looks_clsIn X hc) ?_))))));rw[S];refine afE (a:=some dx) (afy (afE (afy ?_)));refine wpAny_nsSet1 (s:={ s with toks:=s.toks+1 }) I.ns λh' z O=>?_;obtain⟨oD,ai,aj,U,Y,Z⟩:=z.count (PySem.Within.cons name v hw);refine afy (wpAny_lookBehind U (by rw[Y];exact pastItsLine_dict (afR Z (by rw[age];lia))) ?_);exact afE (h _ ⟨(O.2 _ (ahf I.ne)).trans I.obj,z,I.ne⟩ O)
theorem aaF {R:Result->Shared->Prop}{vs:List Value}{J:List (Str×Value)}(X:K.In s.heap)(O:makesIn K C=true)
 (hi:findIn K (.ref C) "__init__" = some (some (.ref f)))(S:PySem.W.typeIn K (.ref f)=some (.type "function"))
 (h:codeAny (model prog w) (A.under (.builtin "type.__call__" ⟨.ref C::vs,J⟩)) (.call (.ref f) ⟨.ref (s.heap.objs.size+1)::vs,J⟩) (PySem.W.InitBack (s.heap.objs.size+1) R)
  { s with heap:=(s.heap.push emptyDict).push (instObj C s.heap.objs.size) }) :
 codeAny (model prog w) A (.call (.ref C) ⟨vs,J⟩) R s:=by
 obtain⟨U,g,d,t,os⟩:=s;exact PySem.W.make_core (PySem.W.makes_of X O) (PySem.W.looks_findIn X hi) (λz=>PySem.W.bind_fn X z S) (.inl rfl) h
end
def jl (f:Str)(v:V):List (Str×V)->List (Str×V)
 | []=>[(f,v)]
 | (g,x)::r=>if g=f then (g,v)::r else (g,x)::jl f v r
theorem fB (f g:Str)(v:V):∀ fs:List (Str×V),(jl f v fs).lookup g=if g=f then some v else fs.lookup g
 | []=>by
  show List.lookup g [(f,v)]=_;by_cases h:g=f
  .have z:(g == f)=true:=aga.mpr h;simp only[List.lookup,z,if_pos h]
  .have z:(g == f)=false:=ah7.mpr h;simp only[List.lookup,z,if_neg h]
 | (k,x)::r=>by
  have O:=fB f g v r;rw[show jl f v ((k,x)::r)=(if k=f then (k,v)::r else (k,x)::jl f v r) from rfl];by_cases J:k=f
  .rw[if_pos J];by_cases h:g=k
   .have z:(g == k)=true:=aga.mpr h;simp only[List.lookup,z,if_pos (h.trans J)]
   .have z:(g == k)=false:=ah7.mpr h;simp only[List.lookup,z,if_neg (λe:g=f=>h (e.trans J.symm))]
  .rw[if_neg J];by_cases h:g=k
   .have z:(g == k)=true:=aga.mpr h;simp only[List.lookup,z,if_neg (λe:g=f=>J (h.symm.trans e))]
   .have z:(g == k)=false:=ah7.mpr h;simp only[List.lookup,z];exact O
theorem nc (f:Str)(v:V):∀ fs:List (Str×V),f∈(jl f v fs).map (·.1)/\∀ g,g∈fs.map (·.1)->g∈(jl f v fs).map (·.1)
 | []=>⟨by simp[jl],λg h=>by simp at h⟩
 | (k,x)::r=>by
  obtain⟨J,O⟩:=nc f v r;rw[show jl f v ((k,x)::r)=(if k=f then (k,v)::r else (k,x)::jl f v r) from rfl];by_cases z:k=f
  .rw[if_pos z];subst z;exact⟨by simp,λg h=>by simpa using h⟩
  .rw[if_neg z];refine⟨?_,λg h=>?_⟩
   .rw[af0];exact af6 _ J
   .rw[af0] at h ⊢;rcases afZ.mp h with e | e
    .exact afZ.mpr (.inl e)
    .exact af6 _ (O g e)
theorem gI (f:Str)(v:V):∀ fs:List (Str×V),(jl f v fs).length<=fs.length+1
 | []=>by simp[jl]
 | (k,x)::r=>by
  have J:=gI f v r;rw[show jl f v ((k,x)::r)=(if k=f then (k,v)::r else (k,x)::jl f v r) from rfl];by_cases z:k=f
  .rw[if_pos z,age,age];lia
  .rw[if_neg z,age,age];lia
theorem RelO.some_of {v:V}{o:Option Value}(r:RelO (some v) o):∃ u,o=some u/\RelV v u:=by
 cases o with
 | none=>exact (show False from r).elim
 | some u=>exact⟨u,rfl,r⟩
theorem RelO.none_of {o:Option Value}(r:RelO none o):o=none:=by
 cases o with
 | none=>rfl
 | some u=>exact (show False from r).elim
theorem aaf {v:V}{u:Value}(r:RelV v u):handedIn u=true:=by
 cases v with
 | non=>cases (show u=Value.none from r);rfl
 | bl b=>cases (show u=Value.bool b from r);rfl
 | int i=>obtain⟨t,e⟩:=(show ∃ t,u=Value.int i t from r);cases e;rfl
 | str x=>obtain⟨t,e⟩:=(show ∃ t,u=Value.str x t from r);cases e;rfl
 | byt b=>obtain⟨t,e⟩:=(show ∃ t,u=Value.bytes b t from r);cases e;rfl
 | flt b=>obtain⟨t,e⟩:=(show ∃ t,u=Value.float b t from r);cases e;rfl
 | ref a=>cases (show u=Value.ref a from r);rfl
 | ty n=>cases (show u=Value.type n from r);rfl
section
variable {P:Program}{w:World}{H H':Hp}{h h':Heap}{a C dx:Addr}{fs fs':List (Str×V)}
theorem qe (J:HOk P w H h)(e:H a=some (.ins C dx fs)):∃ mA,ObjM h a dx C mA/\(∀ f,RelO (fs.lookup f) (mA f))/\PySem.Within mA (fs.map (·.1))/\fs.length<=1000/\H dx=some (.own a):=by
 obtain⟨d,z,ne,O,mA,n,r,q⟩:=(show ObjOk P w H h a (.ins C dx fs) from J a _ e);exact⟨mA,⟨O,n,ne⟩,r,q,z,d⟩
end
structure Cls (K:PySem.W.Frag)(C:Addr):Prop where
 pg:plainGet K C Str.empty=true
 hd:hasDictIn K C=true
 po:plainOver K C=true
 sa:findIn K (.ref C) "__setattr__" = some (some (.builtin "object.__setattr__"))
theorem Cls.get {K:PySem.W.Frag}{C:Addr}(c:Cls K C)(f:Str):plainGet K C f=true:=c.pg
def NoAttr (K:PySem.W.Frag)(C:Addr)(f:Str):Prop:=findIn K (.ref C) f=some none
theorem NoAttr.taker {K:PySem.W.Frag}{C:Addr}{f:Str}(n:NoAttr K C f):takerIn K C f=some none:=by
 unfold takerIn;rw[show findIn K (.ref C) f=some none from n]
 rfl
structure ace (K:PySem.W.Frag)(C:Addr)(m:Str)(f:Addr):Prop where
 at_:findIn K (.ref C) m=some (some (.ref f))
 fn:isFn K (.ref f)=true
 kp:keepIn K (.ref f)=true
section
variable {X:Cx}{pins:List (Addr×Obj)}{σ:St}{H:Hp}{s:Shared}{a C dx:Addr}{fs:List (Str×V)}{f:Str}{v:V}{A:Around}{E:Value->Shared->Prop}
theorem xc {b:Bool}{Q:Value->Shared->Prop}(I:Inv X pins σ H s)(e:H a=some (.ins C dx fs))(c:Cls X.K C)(n:NoAttr X.K C f)(l:fs.lookup f=some v)
 (h:∀ u s',Inv X pins σ H s'->RelV v u->Q u s'):wpAny (model X.prog X.w) A (getAttr (.ref a) f b) Q E s:=by
 obtain⟨mA,O,r,_,_,_⟩:=qe I.hok e;obtain⟨u,J,z⟩:=RelO.some_of (v:=v) (o:=mA f) (by rw[← l];exact r f);exact acX I.kIn O (c.get f) c.hd n J (aaf z) (h u _ (I.tok _) z)
theorem o3 {m:Str}{g:Addr}{pl:Sem Bool}{Q:Value×List Value->Shared->Prop}(I:Inv X pins σ H s)(e:H a=some (.ins C dx fs))(c:Cls X.K C)(k:ace X.K C m g)(l:fs.lookup m=none)
 (h:Q (.ref g,[.ref a]) s):wpAny (model X.prog X.w) A (getMethod (.ref a) m pl) Q E s:=by
 obtain⟨mA,O,r,_,_,_⟩:=qe I.hok e;have z:mA m=none:=RelO.none_of (by rw[← l];exact r m);exact abu I.kIn O (c.get m) k.at_ k.fn z h
theorem wF {y:V}{u:Value}{Q:Unit->Shared->Prop}(I:Inv X pins σ H s)(e:H a=some (.ins C dx fs))(c:Cls X.K C)(n:NoAttr X.K C f)(hl:fs.length < 1000)(U:RelV y u)
 (h:∀ s',Inv X pins σ (upd H a (.ins C dx (jl f y fs))) s'->Q () s'):wpAny (model X.prog X.w) A (setAttr (.ref a) f u) Q E s:=by
 obtain⟨mA,O,r,wi,_,S⟩:=qe I.hok e;have Y:(fs.map (·.1)).length<=sizeLine:=by rw[afz,aiL];lia
 refine ac8 I.kIn O c.sa c.po n.taker c.hd wi Y λh' J sb=>h _ ?_;have Z:∃ o,h'.get? dx=some o:=let ⟨o,_,_,e',_⟩:=J.ns;⟨o,e'⟩;refine I.write (x:=a) (e:=dx) (by rw[e];exact True.intro) (.inr S) (λb q hb z=>(sb.2 b hb).trans z) Z ?_;refine⟨by rw[ao O.ne];exact S,?_,O.ne,J.obj,_,J.ns,λg=>?_,λg hg=>?_⟩
 .have:=gI f y fs;lia
 .show RelO ((jl f y fs).lookup g) (if g=f then some u else mA g);rw[fB];by_cases q:g=f
  .rw[if_pos q,if_pos q];exact U
  .rw[if_neg q,if_neg q];exact r g
 .by_cases q:g=f
  .rw[q];exact (nc f y fs).1
  .refine (nc f y fs).2 g (wi g λz=>hg ?_);show (if g=f then some u else mA g)=none;rw[if_neg q];exact z
theorem Inv.made (I:Inv X pins σ H s):Inv X pins σ (upd (upd H s.heap.objs.size (.own (s.heap.objs.size+1))) (s.heap.objs.size+1) (.ins C s.heap.objs.size []))
 { s with heap:=(s.heap.push emptyDict).push (instObj C s.heap.objs.size) }:=by
 have z:(s.heap.push emptyDict).get? s.heap.objs.size=some emptyDict:=afK s.heap rfl;have J:((s.heap.push emptyDict).push (instObj C s.heap.objs.size)).get? (s.heap.objs.size+1)=some (instObj C s.heap.objs.size):=by
  have:=afK (s.heap.push emptyDict) (o:=instObj C s.heap.objs.size) rfl
  rwa [agw] at this
 have O:(s.heap.push emptyDict).Ns s.heap.objs.size (λ_=>none):=⟨emptyDict,#[],_,z,rfl,(λe S=>absurd S (by simp)),λ_=>rfl⟩;have U:=I.laid (a:=s.heap.objs.size) (o:=.own (s.heap.objs.size+1)) (h':=s.heap.push emptyDict) (t':=s.toks) (λb u q=>afB _ q) (afG _) ⟨_,z⟩;refine U.laid (a:=s.heap.objs.size+1) (o:=.ins C s.heap.objs.size []) (t':=s.toks) (λb u q=>afB _ q) (Nat.le_of_eq (agw _ _)) ?_;have ne:s.heap.objs.size≠s.heap.objs.size+1:=afU (ahk _);refine⟨by rw[ao ne,af],af5 _,ne,J,λ_=>none,(Heap.Ns1.of_empty O).at λo q=>afB _ q,λ_=>True.intro,λy Y=>absurd rfl Y⟩
theorem acH {prog:Program}{w:World}{env:Env}{e:Expr}{f:Str}{pos:Pos}{s:Shared}{Q:Value->Shared->Prop}(z:attributeBase e f env (eval e env)=eval e env)
 (h:wpAny (model prog w) A (eval e env) (λo s₁=>wpAny (model prog w) A (getAttr o f true) Q E s₁) E s):wpAny (model prog w) A (eval (.Attribute e f pos) env) Q E s :=
 Attribute_any_ h (by rw[arm_eval_Attribute,z])
end
def afg (K:PySem.W.Frag)(ta:TE)(f:Str):TE:=λσ H Q=>ta σ H λx H1=>∃ a C dx fs v,x=.ref a/\H1 a=some (.ins C dx fs)/\Cls K C/\NoAttr K C f/\fs.lookup f=some v/\Q v H1
def aeX (K:PySem.W.Frag)(ta tv:TE)(f:Str):TS:=λD σ H=>tv σ H λy H1=>ta σ H1 λx H2=>∃ a C dx fs,x=.ref a/\H2 a=some (.ins C dx fs)/\Cls K C/\NoAttr K C f/\fs.length < 1000 ∧
 D.nx σ (upd H2 a (.ins C dx (jl f y fs)))
section
variable {X:Cx}{o e value:Expr}{f:Str}{pos pos' tpos:Pos}{ta tv:TE}
theorem vg (z:PE X e ta)(J:attributeBase e f X.env (eval e X.env)=eval e X.env):PE X (.Attribute e f pos) (afg X.K ta f):=by
 intro pins s σ H Q I h;refine acH J (thn (z pins s σ H _ I h) λu s1 ⟨x,H1,O,S,a,C,dx,fs,v,ex,U,c,n,l,q⟩=>?_);subst ex;obtain rfl:u=Value.ref a:=S;exact xc O U c n l λu' s2 Y Z=>⟨v,H1,Y,Z,q⟩
theorem zx (z:PE X o ta)(J:PE X value tv)(O:swapsWith value (some (.Attribute o f pos')) pos.line X.env=pure false):PS X (.Assign [.Attribute o f pos'] value pos) (aeX X.K ta tv f):=by
 intro pins s σ H D I h;refine plainObj_wpAny_Assign_Attribute (thn (J pins s σ H _ I h) λu S ⟨y,H1,U,Y,q⟩=>thn (z pins S σ H1 _ U q) λZ s2 ⟨x,H2,I2,rx,a,C,dx,fs,ex,ea,c,n,l,q2⟩=>?_) O;subst ex;obtain rfl:Z=Value.ref a:=rx;exact wF I2 ea c n l Y λs3 I3=>⟨σ,_,I3,q2⟩
theorem acA {pl:Sem Bool}{m:Str}{apos:Pos}{args:List Expr}{pins:List (Addr×Obj)}{s:Shared}{σ:St}{H:Hp}{Q:Value->Shared->Prop}{te:TE}(O:PE X e te)(I:Inv X pins σ H s)
 (h:te σ H λx H1=>∃ a C dx fs g,x=.ref a/\H1 a=some (.ins C dx fs)/\Cls X.K C/\ace X.K C m g/\fs.lookup m=none ∧
  ∀ z,Inv X pins σ H1 z->wpAny (model X.prog X.w) X.A (callWith pos (.ref g) [.ref a] (backTo pos (starEach args X.env)) (backToKw pos (keywordEach [] X.env))) Q X.xe z)
 (S:eval (.Call (.Attribute e m apos) args [] pos) X.env=(do
  let ov ← eval e X.env
  standAt apos.atName
  let (f,first) ← holding [ov] (getMethod ov m pl)
  callWith pos f first (backTo pos (starEach args X.env)) (backToKw pos (keywordEach [] X.env)))) :
 wpAny (model X.prog X.w) X.A (eval (.Call (.Attribute e m apos) args [] pos) X.env) Q X.xe s:=by
 refine akE (pl:=pl) (thn (O pins s σ H _ I h) λu z ⟨x,H1,J,U,a,C,dx,fs,g,ex,Y,c,k,l,q⟩=>?_) S;subst ex;obtain rfl:u=Value.ref a:=U;exact o3 J Y c k l (q z J)
end
section
variable {X:Cx}{pins:List (Addr×Obj)}{σ:St}{H:Hp}{s:Shared}{A:Around}{E:Value->Shared->Prop}{Q:Value->Shared->Prop}{c:Value}{b:Bool}
inductive w9 (K:PySem.W.Frag)(H:Hp):V->Value->Prop where
 | non:w9 K H .non (.type "NoneType")
 | bl (x:Bool):w9 K H (.bl x) (.type "bool")
 | int (i:Int):w9 K H (.int i) (.type "int")
 | str (x:Str):w9 K H (.str x) (.type "str")
 | flt (x:UInt64):w9 K H (.flt x) (.type "float")
 | lst {a:Addr} {xs:List V} (e:H a=some (.lst xs)):w9 K H (.ref a) (.type "list")
 | frz {a:Addr} {o:Obj} {xs:List V} (e:H a=some (.frz o (.lst xs))):w9 K H (.ref a) (.type "list")
 | tup {a:Addr} {xs:List V} (e:H a=some (.tup xs)):w9 K H (.ref a) (.type "tuple")
 | dK {a:Addr} {kvs:List (Key×V)} (e:H a=some (.dK kvs)):w9 K H (.ref a) (.type "dict")
 | dT {a:Addr} {kvs:List (List Key×V)} (e:H a=some (.dT kvs)):w9 K H (.ref a) (.type "dict")
 | ins {a C dx:Addr} {fs:List (Str×V)} (e:H a=some (.ins C dx fs)) (cl:Cls K C) (ha:findIn K (.ref C) "__class__" = some (some (.builtin "object.__class__")))
  (hn:PySem.W.specialIn K (.builtin "object.__class__") "__get__" = some (some (.builtin "getset_descriptor.__get__"))) (htk:PySem.W.takesIn K (.builtin "object.__class__")=some true)
  (hm:PySem.W.mroIn K C (.type "object")=some true):w9 K H (.ref a) (.ref C)
theorem zL {x:V}{u t:Value}(I:Inv X pins σ H s)(S:RelV x u)(ty:w9 X.K H x t)(e:kitOne X.K t c=some b)(h:∀ tk,Q (.bool b) { s with toks:=tk }) :
 wpAny (model X.prog X.w) A (call (.builtin "isinstance") [u,c]) Q E s:=by
 cases ty with
 | non=>cases (show u=Value.none from S);exact ahd PySem.W.kitx_none I.kIn True.intro e (λz=>nomatch z) h
 | bl y=>cases (show u=Value.bool y from S);exact ahd PySem.W.kitx_bool I.kIn True.intro e (λz=>nomatch z) h
 | int i=>obtain⟨t,q⟩:=(show ∃ t,u=Value.int i t from S);cases q;exact ahd PySem.W.kitx_int I.kIn True.intro e (λz=>nomatch z) h
 | str y=>obtain⟨t,q⟩:=(show ∃ t,u=Value.str y t from S);cases q;exact ahd PySem.W.kitx_str I.kIn True.intro e (λz=>nomatch z) h
 | flt y=>obtain⟨t,q⟩:=(show ∃ t,u=Value.float y t from S);cases q;exact ahd PySem.W.kitx_float I.kIn True.intro e (λz=>nomatch z) h
 | @lst a xs U =>
  cases (show u=Value.ref a from S);obtain⟨_,_,n,_,h1⟩:=(show ObjOk X.prog X.w H s.heap a (.lst xs) from I.hok a _ U);exact ahd kitx_list I.kIn ⟨_,h1,rfl⟩ e (λz=>nomatch z) h
 | @frz a ob xs U =>
  cases (show u=Value.ref a from S);obtain⟨_,_,_,n,_,h1⟩:=(show ObjOk X.prog X.w H s.heap a (.frz ob (.lst xs)) from I.hok a _ U);exact ahd kitx_list I.kIn ⟨_,h1,rfl⟩ e (λz=>nomatch z) h
 | @tup a xs U =>
  cases (show u=Value.ref a from S);obtain⟨_,_,_,p⟩:=(show ObjOk X.prog X.w H s.heap a (.tup xs) from I.hok a _ U);obtain⟨o,h1,h2,_⟩:=p;exact ahd PySem.W.kitx_tuple I.kIn ⟨o,h1,h2⟩ e (λz=>nomatch z) h
 | @dK a kvs U =>
  cases (show u=Value.ref a from S);obtain⟨_,_,vs,_,p⟩:=(show ObjOk X.prog X.w H s.heap a (.dK kvs) from I.hok a _ U);obtain⟨o,es,ep,h1,h2,_⟩:=p;exact ahd kitx_dict I.kIn ⟨o,h1,h2.1⟩ e (λz=>nomatch z) h
 | @dT a kvs U =>
  cases (show u=Value.ref a from S);obtain⟨_,_,xs,_,o,es,ep,h1,h2,_⟩:=(show ObjOk X.prog X.w H s.heap a (.dT kvs) from I.hok a _ U);exact ahd kitx_dict I.kIn ⟨o,h1,h2.1⟩ e (λz=>nomatch z) h
 | @ins a C dx fs U Z ha hn Y hm =>
  cases (show u=Value.ref a from S);obtain⟨mA,O,_⟩:=qe I.hok U;obtain⟨od,J,_⟩:=O.look;exact ahd (PySem.W.kitx_own (Z.get _) Z.hd ha hn Y hm) I.kIn J e (λz=>nomatch z) h
end
structure Room (k:Nat)(A:Around):Prop where
 hd:A.handled=none
 dp:A.depth+3 * k+5 < recursionLimit
 un:A.units+16 * k+200 < cLine
theorem Room.mono {j k:Nat}{A:Around}(r:Room k A)(h:j<=k):Room j A:=⟨r.hd,by have:=r.dp;lia,by have:=r.un;lia⟩
theorem Room.deeper {k:Nat}{A:Around}(r:Room (k+1) A)(env:Env):Room k (A.deeper env) :=
 ⟨r.hd,by have:=r.dp;show A.depth+1+3 * k+5 < _;lia,by have:=r.un;show A.units+3+16 * k+200 < _;lia⟩
theorem xp {A:Around}{C:Addr}{us:List Value}{z:List (Str×Value)}:(A.under (.builtin "type.__call__" ⟨.ref C::us,z⟩)).depth=A.depth+1:=by
 first | rfl | simp[Around.under,Code.weight,Code.isCreation,Code.isGuard,Code.isCaller,Code.frames,Code.isFrame,guardIds]
theorem xi {A:Around}{C:Addr}{us:List Value}{z:List (Str×Value)}:(A.under (.builtin "type.__call__" ⟨.ref C::us,z⟩)).units=A.units+1:=by
 first | rfl | simp[Around.under,Code.cUnits,Code.frames,Code.isFrame]
theorem Room.make {k:Nat}{A:Around}(r:Room (k+1) A)(C:Addr)(us:List Value)(z:List (Str×Value)):Room k (A.under (.builtin "type.__call__" ⟨.ref C::us,z⟩)) :=
 ⟨r.hd,by have:=r.dp;rw[xp];lia,by have:=r.un;rw[xi];lia⟩
theorem Room.depth {k:Nat}{A:Around}(r:Room k A):A.depth < recursionLimit:=by have:=r.dp;lia
theorem Room.units {k:Nat}{A:Around}(r:Room k A):A.units+64 < cLine:=by have:=r.un;lia
def lV:TA:=λ_ H Q=>Q [] H
def fb (ta:TE)(tr:TA):TA:=λσ H Q=>ta σ H λx H1=>tr σ H1 λxs H2=>Q (x::xs) H2
section
variable {X:Cx}{e:Expr}{es:List Expr}{te:TE}{t:TA}{pos:Pos}
theorem ag:PA X [] lV:=λ_ _ _ _ H Q I h=>aj5 ⟨[],H,I,.nil,h⟩
theorem ae (z:PE X e te)(J:PA X es t)(O:starEach (e::es) X.env=(false,eval e X.env)::starEach es X.env:=by rfl):PA X (e::es) (fb te t):=by
 intro pos pins s σ H Q I h;rw[O];show wpAny _ _ (spliced ((false,eval e X.env)::backTo pos (starEach es X.env))) _ _ s;refine ajO (thn (z pins s σ H _ I h) λu S ⟨x,H1,U,Y,Z⟩=>?_);exact thn (J pos pins S σ H1 _ U Z) λus s2 ⟨xs,H2,I2,r2,q2⟩=>⟨x::xs,H2,I2,.cons Y r2,q2⟩
def afc (t:TA):TE:=λσ H Q=>t σ H λxs H1=>xs.length<=sizeLine/\∀ p,H1 p=none->Q (.ref p) (upd H1 p (.tup xs))
def aeO (t:TA):TE:=λσ H Q=>t σ H λxs H1=>xs.length<=sizeLine/\∀ p,H1 p=none->Q (.ref p) (upd H1 p (.lst xs))
theorem rO {x1}(h:PA X es t):PE X (.Tuple es x1 pos) (afc t):=by
 intro pins s σ H Q I S;refine wpAny_Tuple_spliced (thn (h pos pins s σ H _ I S) λU J ⟨xs,H1,O,r,z,q⟩=>⟨by rw[← r.length];exact z,?_⟩);have Y:H1 J.heap.objs.size=none:=O.hok.fresh (afG _);refine⟨.ref J.heap.objs.size,upd H1 J.heap.objs.size (.tup xs),O.laid (t':=J.toks) (λb u e=>afB _ e) (afG _) ?_,rfl,q _ Y⟩;exact⟨z,U,r,⟨_,afK _ rfl,rfl,_,rfl⟩⟩
theorem cJ (h:PA X es t):PE X (.List es pos) (aeO t):=by
 intro pins s σ H Q I S;refine wpAny_List_spliced (thn (h pos pins s σ H _ I S) λU J ⟨xs,H1,O,r,z,q⟩=>⟨by rw[← r.length];exact z,?_⟩);have Y:H1 J.heap.objs.size=none:=O.hok.fresh (afG _);refine⟨.ref J.heap.objs.size,upd H1 J.heap.objs.size (.lst xs),O.laid (t':=J.toks) (λb u e=>afB _ e) (afG _) ?_,rfl,q _ Y⟩;exact⟨z,U,0,r,afK _ rfl⟩
end
abbrev Sp:=List V->Hp->VK->XK->Prop
abbrev CXT:=List Env->Hp->Shared->XK->Value->Shared->Prop
structure Env0 (P:Program)(w:World)(K:PySem.W.Frag)(mg:Str->Option Value)(base:Heap)(A:Around)(outer:List Env)(s:Shared)(H:Hp):Prop where
 frames:A.frames=some outer
 mod:Mod K mg base
 bs:∀ b o,base.get? b=some o->s.heap.get? b=some o/\H b=none
 bsz:base.objs.size<=s.heap.objs.size
 funs:s.heap.FunFrames base outer
 frf:∀ b∈frs outer,H b=none
 hok:HOk P w H s.heap
 bare:AllBare s.gens
def CE (outer:List Env)(P:Program)(w:World)(H:Hp)(s:Shared)(Q:VK)(u:Value)(s':Shared):Prop :=
 ∃ v H',s'.os=s.os/\AllBare s'.gens/\Un (frs outer) [] H H' s.heap s'.heap/\HOk P w H' s'.heap/\RelV v u/\Q v H'
def CR (CX:CXT)(outer:List Env)(P:Program)(w:World)(H:Hp)(s:Shared)(Q:VK)(E:XK)(r:Result)(s':Shared):Prop :=
 match r with
 | .ok (.ret u)=>CE outer P w H s Q u s'
 | .ok _=>False
 | .error e=>CX outer H s E e s'
structure FnOk (P:Program)(w:World)(K:PySem.W.Frag)(mg:Str->Option Value)(base:Heap)(CX:CXT)(k:Nat)(f:Addr)(fd:FuncData)(ps:List Str)(sp:Sp):Prop where
 len:∀ vs H Q E,sp vs H Q E->vs.length=ps.length
 run:∀ (A:Around) (outer:List Env) (s:Shared) (H:Hp) (args:Args) (us:List Value) (vs:List V) (Q:VK) (E:XK),Room k A->Env0 P w K mg base A outer s H->BindsTo s fd args (ps.zip us)->Vals vs us->sp vs H Q E →
  codeAny (model P w) A (.call (.ref f) args) (CR CX outer P w H s Q E) s
theorem Env0.make {P:Program}{w:World}{K:PySem.W.Frag}{mg:Str->Option Value}{base:Heap}{A:Around}{outer:List Env}{s:Shared}{H:Hp}(e:Env0 P w K mg base A outer s H)(C:Addr)(us:List Value)(z:List (Str×Value)) :
 Env0 P w K mg base (A.under (.builtin "type.__call__" ⟨.ref C::us,z⟩)) outer s H:=⟨by first | exact e.frames | (simpa [Around.under,Code.envs,Code.isFrame,pushEnvs] using e.frames),e.mod,e.bs,e.bsz,e.funs,e.frf,e.hok,e.bare⟩
section
variable {X:Cx}{pins:List (Addr×Obj)}{σ:St}{H:Hp}{s s':Shared}
theorem Inv.env0 (I:Inv X pins σ H s):Env0 X.prog X.w X.K X.mg X.base X.A X.stack s H :=
 ⟨I.ok.frames,I.ok.mod,I.bs,afR I.ok.bsz I.sz,I.stack,I.stkFree,I.hok,I.bare⟩
theorem Inv.after {Q:VK}{u:Value}(I:Inv X pins σ H s)(h:CE X.stack X.prog X.w H s Q u s'):EP X pins σ Q u s':=by
 obtain⟨v,H',os,J,un,O,r,q⟩:=h;obtain⟨U,g,d,t,S⟩:=s';obtain rfl:S=s.os:=os;exact⟨v,H',I.call (h':=U) (g':=g) (d':=d) (t':=t) (ch:=[]) un O J (λb z=>absurd z (by simp)),r,q⟩
end
def ad0 (sp:Sp)(dvs:List V)(E:XK)(t:TA):TE:=λσ H Q=>t σ H λvs H1=>sp (vs++dvs) H1 Q E
def aeS (C:Addr)(m:Str)(sp:Sp)(dvs:List V)(E:XK)(ta:TE)(t:TA):TE:=λσ H Q=>ta σ H λx H1=>∃ a dx fs,x=.ref a/\H1 a=some (.ins C dx fs)/\fs.lookup m=none ∧
 t σ H1 λvs H2=>sp (x::(vs++dvs)) H2 Q E
def aes (C:Addr)(sp:Sp)(dvs:List V)(E:XK)(t:TA):TE:=λσ H Q=>t σ H λvs H1=>∀ x dx,H1 x=none->H1 dx=none->dx≠x →
 sp (.ref x::(vs++dvs)) (upd (upd H1 dx (.own x)) x (.ins C dx [])) (λv H2=>v=.non/\Q (.ref x) H2) E
def Binds (K:PySem.W.Frag)(fd:FuncData)(ps:List Str)(ds:List Value):Prop :=
 ∀ (s:Shared) (us:List Value),K.In s.heap->(us++ds).length=ps.length->BindsTo s fd ⟨us,[]⟩ (ps.zip (us++ds))
theorem Binds.all {K:PySem.W.Frag}{fd:FuncData}{ps:List Str}(h:∀ us:List Value,us.length=ps.length->bindArgs fd ⟨us,[]⟩=pure (ps.zip us)):Binds K fd ps []:=λs us _ z=>by
 rw[agl] at z ⊢;exact .of_eq (h us z)
def oZ (CX:CXT)(X:Cx)(E:XK):Prop:=∀ (pins:List (Addr×Obj)) (σ:St) (H:Hp) (s:Shared) (e:Value) (s':Shared),Inv X pins σ H s->CX X.stack H s E e s'->X.xe e s'
section
variable {X:Cx}{CX:CXT}{k:Nat}{f C:Addr}{fd:FuncData}{ps:List Str}{sp:Sp}{dvs:List V}{ds:List Value}{E:XK}{x m:Str}{p pos apos:Pos}{e o:Expr}{es:List Expr}{ta:TE}{t:TA}
theorem abS {pins:List (Addr×Obj)}{σ:St}{H:Hp}{s:Shared}{Q:VK}{us:List Value}{vs:List V}(F:FnOk X.prog X.w X.K X.mg X.base CX k f fd ps sp)(O:Room k X.A)(S:Binds X.K fd ps ds)(U:Vals dvs ds)(Y:oZ CX X E)
 (I:Inv X pins σ H s)(r:Vals vs us)(h:sp (vs++dvs) H Q E):wpAny (model X.prog X.w) X.A (call (.ref f) us) (EP X pins σ Q) X.xe s:=by
 have J:Vals (vs++dvs) (us++ds):=r.append U;have Z:(us++ds).length=ps.length:=by rw[← J.length];exact F.len _ _ _ _ h
 refine wpAny_call (air (F.run X.A X.stack s H ⟨us,[]⟩ (us++ds) (vs++dvs) Q E O I.env0 (S s us I.kIn Z) J h) λr s' z=>?_);cases r with
 | error e=>exact Y pins σ H s e s' I z
 | ok fl =>
  cases fl with
  | ret u=>exact I.after z
  | next=>exact False.elim z
  | brk=>exact False.elim z
  | cont=>exact False.elim z
theorem gM (F:FnOk X.prog X.w X.K X.mg X.base CX k f fd ps sp)(S:Room k X.A)(U:Gl X x)(Y:X.mg x=some (.ref f))(Z:keepIn X.K (.ref f)=true)(hb:Binds X.K fd ps ds)(hd:Vals dvs ds)(hx:oZ CX X E)
 (ha:PA X (e::es) t)(z:(x == ("__debug__" : Str))=false:=by decide)(he:starEach (e::es) X.env=(false,eval e X.env)::starEach es X.env:=by rfl)(J:(backTo pos (starEach es X.env)).any (·.1)=false:=by rfl) :
 PE X (.Call (.Name x p) (e::es) [] pos) (ad0 sp dvs E t):=by
 intro pins s σ H Q I h;refine aiQ (uW I U Y ?_ z);refine ajP (h₀:=X.base) I.ok.mod.kin Z (thn (ha pos pins s σ H _ I h) λus s1 ⟨vs,H1,O,r,q⟩=>⟨O.kIn,?_⟩) he J;exact abS F S hb hd hx O r q
theorem mf {pl:Sem Bool}(Y:PE X o ta)(c:Cls X.K C)(O:ace X.K C m f)(F:FnOk X.prog X.w X.K X.mg X.base CX k f fd ps sp)(Z:Room k X.A)(hb:Binds X.K fd ps ds)(hd:Vals dvs ds)(hx:oZ CX X E)(ha:PA X (e::es) t)
 (z:starEach (e::es) X.env=(false,eval e X.env)::starEach es X.env:=by rfl)(J:(backTo pos (starEach es X.env)).any (·.1)=false:=by rfl)
 (ht:eval (.Call (.Attribute o m apos) (e::es) [] pos) X.env=(do
  let ov ← eval o X.env
  standAt apos.atName
  let (f,first) ← holding [ov] (getMethod ov m pl)
  callWith pos f first (backTo pos (starEach (e::es) X.env)) (backToKw pos (keywordEach [] X.env))):=by rfl) :
 PE X (.Call (.Attribute o m apos) (e::es) [] pos) (aeS C m sp dvs E ta t):=by
 intro pins s σ H Q I h;refine akE (pl:=pl) (thn (Y pins s σ H _ I h) λu s1 ⟨x,H1,S,rx,a,dx,fs,ex,ea,l,q⟩=>?_) ht;subst ex;obtain rfl:u=Value.ref a:=rx;refine o3 S ea c O l ?_;refine ajP (first:=[.ref a]) (h₀:=X.base) I.ok.mod.kin O.kp (thn (ha pos pins s1 σ H1 _ S q) λus s2 ⟨vs,H2,U,r,q2⟩=>⟨U.kIn,?_⟩) z J;exact abS (us:=.ref a::us) (vs:=.ref a::vs) F Z hb hd hx U (.cons rfl r) q2
structure Mk (K:PySem.W.Frag)(C f:Addr):Prop where
 makes:makesIn K C=true
 init:findIn K (.ref C) "__init__" = some (some (.ref f))
 fn:isFn K (.ref f)=true
 kp:keepIn K (.ref C)=true
theorem aaS {pins:List (Addr×Obj)}{σ:St}{H:Hp}{s:Shared}{Q:VK}{us:List Value}{vs:List V}(M:Mk X.K C f)(F:FnOk X.prog X.w X.K X.mg X.base CX k f fd ps sp)(U:Room (k+1) X.A)(Y:Binds X.K fd ps ds)(Z:Vals dvs ds)
 (hx:oZ CX X E)(I:Inv X pins σ H s)(r:Vals vs us)
 (h:∀ x dx,H x=none->H dx=none->dx≠x->sp (.ref x::(vs++dvs)) (upd (upd H dx (.own x)) x (.ins C dx [])) (λv H2=>v=.non/\Q (.ref x) H2) E) :
 wpAny (model X.prog X.w) X.A (call (.ref C) us) (EP X pins σ Q) X.xe s:=by
 have O:=h (s.heap.objs.size+1) s.heap.objs.size (I.hok.fresh (agV _)) (I.hok.fresh (afG _)) (afU (ahk _));have J:=Inv.made (C:=C) I;have S:Vals (V.ref (s.heap.objs.size+1)::(vs++dvs)) (Value.ref (s.heap.objs.size+1)::(us++ds)):=.cons rfl (r.append Z);have hl:(Value.ref (s.heap.objs.size+1)::us++ds).length=ps.length:=by
  have e:=S.length;rw[F.len _ _ _ _ O] at e;exact e.symm
 refine wpAny_call (aaF (f:=f) I.kIn M.makes M.init (aga.mp M.fn) (air (F.run _ X.stack _ _ ⟨Value.ref (s.heap.objs.size+1)::us,[]⟩ (Value.ref (s.heap.objs.size+1)::(us++ds)) _ _ E (U.make C us [])
  (J.env0.make C us []) (Y _ (Value.ref (s.heap.objs.size+1)::us) J.kIn hl) S O) λr s' z=>?_))
 cases r with
 | error e=>exact hx pins σ _ _ e s' J z
 | ok fl =>
  cases fl with
  | ret u =>
   obtain⟨v,H',I3,rv,ev,q3⟩:=J.after z;subst ev;exact⟨rv,⟨V.ref (s.heap.objs.size+1),H',I3,rfl,q3⟩⟩
  | next=>exact False.elim z
  | brk=>exact False.elim z
  | cont=>exact False.elim z
theorem zJ (M:Mk X.K C f)(F:FnOk X.prog X.w X.K X.mg X.base CX k f fd ps sp)(S:Room (k+1) X.A)(U:Gl X x)(Y:X.mg x=some (.ref C))(Z:Binds X.K fd ps ds)(hd:Vals dvs ds)(hx:oZ CX X E)
 (ha:PA X (e::es) t)(z:(x == ("__debug__" : Str))=false:=by decide)(he:starEach (e::es) X.env=(false,eval e X.env)::starEach es X.env:=by rfl)(J:(backTo pos (starEach es X.env)).any (·.1)=false:=by rfl) :
 PE X (.Call (.Name x p) (e::es) [] pos) (aes C sp dvs E t):=by
 intro pins s σ H Q I h;refine aiQ (uW I U Y ?_ z);refine ajP (h₀:=X.base) I.ok.mod.kin M.kp (thn (ha pos pins s σ H _ I h) λus s1 ⟨vs,H1,O,r,q⟩=>⟨O.kIn,?_⟩) he J;exact aaS M F S Z hd hx O r q
end
section
variable {X:Cx}{CX:CXT}{k:Nat}{f C:Addr}{fd:FuncData}{ps ks:List Str}{sp:Sp}{E:XK}{x m:Str}{p pos apos kpos:Pos}{e o:Expr}{es:List Expr}{kws:List Keyword}{te ta:TE}{t tk:TA}{nm:Option Str}
variable {g:List Value->List Value->List Value}{gV:List V->List V->List V}
end
structure aA (N P:List Str)(sc:Scope):Prop where
 kind:sc.kind=.function
 co:sc.isCoroutine=false
 gen:sc.isGenerator=false
 nd:N.Nodup
 pre:N.take P.length=P
 par:∀ x∈P,sc.names.lookup x=some .local\/sc.names.lookup x=some .cell
 nofree:∀ y∈sc.names,y.2≠.free
theorem scM {N P:List Str}{z:Scope}(a:z.kind=.function)(b:z.isCoroutine=false)(c:z.isGenerator=false)(e:N.take P.length=P)(d:N.Nodup/\(∀ x∈P,z.names.lookup x=some .local\/z.names.lookup x=some .cell)/\∀ y∈z.names,y.2≠.free):aA N P z:=⟨a,b,c,d.1,e,d.2.1,d.2.2⟩
theorem rG {z:Str->Option NameKind}{x:Str}:∀ {binds:List (Str×Value)} {m:Str->Option Value},(∀ v,(x,v) ∉ binds)->bindL z binds m x=m x
 | [],_,_=>rfl
 | (n,v)::r,m,h=>by
  unfold bindL;rw[rG λw hw=>h w (af6 _ hw)];split
  .have:x≠n:=by rintro rfl;exact h v afX
   simp[this]
  .rfl
theorem tu {z:Str->Option NameKind}{x:Str}:∀ {binds:List (Str×Value)} {m:Str->Option Value},(∀ v,(x,v) ∉ binds)->bindC z binds m x=m x
 | [],_,_=>rfl
 | (n,v)::r,m,h=>by
  unfold bindC;rw[tu λw hw=>h w (af6 _ hw)];split
  .rfl
  .have:x≠n:=by rintro rfl;exact h v afX
   simp[this]
theorem rf {z:Str->Option NameKind}{x:Str}{v:Value}:∀ {P:List Str} {vs:List Value} {i:Nat} {m:Str->Option Value},P.Nodup->P[i]? = some x->vs[i]? = some v->z x=some .local →
 bindL z (P.zip vs) m x=some v
 | [],_,_,_,_,h,_,_=>by simp at h
 | _::_,[],_,_,_,_,h,_=>by simp at h
 | p::P,w::vs,0,m,nd,h1,h2,hk=>by
  simp at h1 h2;subst h1;subst h2;show bindL z ((p,w)::P.zip vs) m p=_;unfold bindL;rw[rG λv J=>(ahJ.mp nd).1 (ajy J).1,if_pos hk];simp
 | p::P,w::vs,i+1,m,nd,h1,h2,hk=>by
  show bindL z ((p,w)::P.zip vs) m x=_;unfold bindL;exact rf (i:=i) (ahJ.mp nd).2 (by simpa using h1) (by simpa using h2) hk
theorem sj {z:Str->Option NameKind}{x:Str}{v:Value}:∀ {P:List Str} {vs:List Value} {i:Nat} {m:Str->Option Value},P.Nodup->P[i]? = some x->vs[i]? = some v->z x≠some .local →
 bindC z (P.zip vs) m x=some v
 | [],_,_,_,_,h,_,_=>by simp at h
 | _::_,[],_,_,_,_,h,_=>by simp at h
 | p::P,w::vs,0,m,nd,h1,h2,hk=>by
  simp at h1 h2;subst h1;subst h2;show bindC z ((p,w)::P.zip vs) m p=_;unfold bindC;rw[tu λv J=>(ahJ.mp nd).1 (ajy J).1,if_neg hk];simp
 | p::P,w::vs,i+1,m,nd,h1,h2,hk=>by
  show bindC z ((p,w)::P.zip vs) m x=_;unfold bindC;exact sj (i:=i) (ahJ.mp nd).2 (by simpa using h1) (by simpa using h2) hk
def pW (N:List Str)(vs:List V):St:=vs.map some++List.replicate (N.length - vs.length) none
def aaj (CX:CXT)(P:Program)(w:World)(K:PySem.W.Frag)(mg:Str->Option Value)(base:Heap)(N:List Str)(qual:Str)(scope:Scope)(f:Addr)(cd:Value)(A:Around)(outer:List Env)(s:Shared)(H:Hp)(E:XK):Cx where
 prog:=P
 w:=w
 K:=K
 mg:=mg
 base:=base
 A:=A.deeper (envOfC qual scope s.heap.objs.size f cd)
 N:=N
 s₀:=s
 H₀:=H
 env:=envOfC qual scope s.heap.objs.size f cd
 outer:=outer
 stack:=envOfC qual scope s.heap.objs.size f cd::outer
 ex:=[]
 calm:=true
 fn:=λ_=>true
 pn:=[]
 xe:=λe s'=>wpAny (model P w) (A.deeper (envOfC qual scope s.heap.objs.size f cd)) (leaving (envOfC qual scope s.heap.objs.size f cd) e) (λ_ s''=>CX outer H s E e s'') (λe' s''=>CX outer H s E e' s'') s'
theorem vd {z:Scope}{n:Nat}{x:Str}(h:z.names.lookup x=some .cell):∃ c,(cellsFrom n z.names []).lookup x=some c:=by
 have q:=akz z.names n [] (.inl h);exact aj6.mp q
theorem zU {CX:CXT}{P:Program}{w:World}{K:PySem.W.Frag}{mg:Str->Option Value}{base:Heap}{N ps:List Str}{qual:Str}{scope:Scope}{f:Addr}{cd:Value}{A:Around}{outer:List Env}{s Z:Shared}{H:Hp}{E:XK}{us:List Value}{vs:List V}
 (S:aA N ps scope)(hd:A.handled=none)(J:Env0 P w K mg base A outer s H)(hl:vs.length=ps.length)(r:Vals vs us)
 (x:InCallC s s.heap.objs.size (bindL (envOfC qual scope s.heap.objs.size f cd).kindOf (ps.zip us) λ_=>none) (cellsFrom (s.heap.objs.size+1) scope.names []) (bindC (envOfC qual scope s.heap.objs.size f cd).kindOf (ps.zip us) λ_=>none) Z) :
 Inv (aaj CX P w K mg base N qual scope f cd A outer s H E) [] (pW N vs) H Z:=by
 have ae:ps.length<=N.length:=by have:=agS List.length S.pre;rw[af7] at this;lia
 obtain⟨h1,tk,rfl,hk⟩:=x.done;have O:∀ b:Addr,b ∉ (aaj CX P w K mg base N qual scope f cd A outer s H E).ex:=λb z=>absurd (show b∈([]:List Addr) from z) (by simp);refine⟨⟨J.mod,S.kind,rfl,rfl,afG _,λy z c h1 h2=>?_,λy hy=>?_,λy c _ h=>?_,λ_=>hd,Around.frames_deeper J.frames,.inr ⟨rfl,rfl⟩,λb z=>absurd z (O b),J.bs,J.bsz,λb _ _=>O b,λb z=>absurd z (O b),J.funs,J.frf⟩,
  rfl,J.bare,Un.kept hk,⟨_,x.toInCall.ns,λi y v h1 h2 h3=>?_⟩,λy c h=>⟨_,x.cell y c h⟩,J.hok.fresh (afG _),λy c h=>?_,λp U=>absurd (show p∈([]:List (Addr×Obj)) from U) (by simp),J.hok.kept hk,?_⟩
 .exact name_of_addr x.apart (ah8 h1) (ah8 h2)
 .have hy:scope.names.lookup y=some .cell\/scope.names.lookup y=some .free:=hy;rcases hy with hy | hy
  .exact vd hy
  .exact absurd rfl (S.nofree _ (ah8 hy))
 .exact ahc (x.above y c (ah8 h))
 .have hi:i < vs.length:=by
   unfold pW at h2;by_cases hi:i < vs.length
   .exact hi
   .rw[af8 (by simpa using hi)] at h2;rw[ah9] at h2;split at h2<;>cases h2
  have ha:vs[i]? = some v:=by
   unfold pW at h2;rw[agj (by simpa using hi),afF] at h2;cases e:vs[i]? with
   | none=>rw[e] at h2;cases h2
   | some a=>rw[e] at h2;cases h2;rfl
  obtain⟨u,hu,rv⟩:=r.get ha;have U:ps[i]? = some y:=by
   rw[← S.pre,ah0 (by lia)];exact h1
  have Y:ps.Nodup:=by rw[← S.pre];exact S.nd.sublist (List.take_sublist _ _)
  refine⟨u,rv,?_⟩;rcases S.par y (afP U) with k | k
  .exact .inl ⟨k,rf Y U hu k⟩
  .obtain⟨c,e⟩:=vd (n:=s.heap.objs.size+1) k;refine .inr ⟨.inl k,c,e,?_⟩;have q:=x.cell y c e;rw[sj Y U hu (by show scope.names.lookup y≠_;rw[k];decide)] at q;exact q
 .exact J.hok.fresh (ahc (x.above y c (ah8 h)))
 .unfold pW;show _=N.length;rw[afH,afz,agY];lia
theorem ad8 {CX:CXT}{P:Program}{w:World}{K:PySem.W.Frag}{mg:Str->Option Value}{base:Heap}{k:Nat}{f:Addr}{name qual:Str}{O:Arguments}{U:List Stmt}{scope:Scope}{dV kV ad pm z ct oc:Value}{an od:Option Addr}
 {ah:Array (Option Value)}{N ps:List Str}{sp:Sp}(lk:K.lookup f=some ⟨oc,od,.func (fnOf name qual O U scope dV kV ad pm an z ct),ah⟩)(ai:codeIn K z qual=true)(S:aA N ps scope)
 (len:∀ vs H Q E,sp vs H Q E->vs.length=ps.length)
 (Z:∀ (A:Around) (outer:List Env) (s:Shared) (H:Hp) (vs:List V) (Q:VK) (E:XK),Room k (A.deeper (envOfC qual scope s.heap.objs.size f z))->sp vs H Q E →
  ∃ t,PSs (aaj CX P w K mg base N qual scope f z A outer s H E) U t/\t { nx:=λ_ H'=>Q .non H',rt:=Q } (pW N vs) H) :
 FnOk P w K mg base CX (k+1) f (fnOf name qual O U scope dV kV ad pm an z ct) ps sp:=by
 refine⟨len,λA outer s H aq us vs Q E hr e0 hb r af=>?_⟩;have hl:=len _ _ _ _ af;have KX:K.In s.heap:=e0.mod.kin.keeps λb o e=>(e0.bs b o e).1;have ak:s.heap.NoLimit:=e0.mod.nolimit.keeps λb o e=>(e0.bs b o e).1;have aa:∀ y∈ps.zip us,scope.names.lookup y.1=some .local\/(scope.names.lookup y.1=some .cell/\((cellsFrom (s.heap.objs.size+1) scope.names []).lookup y.1).isSome=true):=λ⟨n,v⟩ hy=>by
  rcases S.par n (ajy hy).1 with q | q
  .exact .inl q
  .exact .inr ⟨q,akz _ _ _ (.inl q)⟩
 refine codeAny_call_function hr.depth (KX _ _ lk) rfl S.co S.gen rfl (PySem.W.codeRec_of KX ai) (hb _ _ _ _ ?_);refine wpAny_newFunctionEnv_cells S.kind aa λenv he s1 x=>?_;subst he;refine⟨ak.keeps x.toInCall.keep,codeAny_func ?_⟩;obtain⟨t,ht,hq⟩:=Z A outer s H vs Q E (hr.deeper _) af;have I:Inv (aaj CX P w K mg base N qual scope f z A outer s H E) [] (pW N vs) H s1:=zU S hr.hd e0 hl r x;refine agq (ht [] s1 (pW N vs) H _ I hq) (λfl s' hs=>?_) λe s' hs=>hs;have ag:∀ {Y:St} {H':Hp} {v:V} {u:Value},Inv (aaj CX P w K mg base N qual scope f z A outer s H E) [] Y H' s'->RelV v u->Q v H'->CE outer P w H s Q u s' :=
  fun {Y H' v u} J rv q=>⟨v,H',J.os,J.bare,J.base,J.hok,rv,q⟩
 cases fl with
 | ret u =>
  obtain⟨v,Y,H',J,rv,q⟩:=hs;exact ag J rv q
 | next =>
  obtain⟨Y,H',J,q⟩:=hs;exact ag (v:=V.non) (u:=Value.none) J rfl q
 | brk =>
  obtain⟨_,_,_,q⟩:=hs;exact False.elim q
 | cont =>
  obtain⟨_,_,_,q⟩:=hs;exact False.elim q
section
variable {X:Cx}{x:Str}{p pos:Pos}{e:Expr}{es:List Expr}{t:TA}{id T:String}{r:List V->Hp->VK->Prop}
def tCB (r:List V->Hp->VK->Prop)(t:TA):TE:=λσ H Q=>t σ H λvs H1=>r vs H1 Q
theorem au (O:eG X (.builtin id) r)(S:Gl X x)(U:X.mg x=none)(Y:bootBuiltins x=some (.builtin id))(Z:PA X (e::es) t)(hn:x ≠ "__name__" := by decide)(z:(x == ("__debug__" : Str))=false:=by decide)
 (he:starEach (e::es) X.env=(false,eval e X.env)::starEach es X.env:=by rfl)(J:(backTo pos (starEach es X.env)).any (·.1)=false:=by rfl):PE X (.Call (.Name x p) (e::es) [] pos) (tCB r t):=by
 intro pins s σ H Q I h;refine aiQ (jf I S U Y ?_ hn z);exact ajg (thn (Z pos pins s σ H _ I h) λus s1 ⟨vs,H1,I1,r1,q1⟩=>O pins s1 σ H1 vs us Q I1 r1 q1) he J
theorem aV (O:eG X (.type T) r)(S:Gl X x)(U:X.mg x=none)(Y:bootBuiltins x=some (.type T))(Z:PA X (e::es) t)(hn:x ≠ "__name__" := by decide)(z:(x == ("__debug__" : Str))=false:=by decide)
 (he:starEach (e::es) X.env=(false,eval e X.env)::starEach es X.env:=by rfl)(J:(backTo pos (starEach es X.env)).any (·.1)=false:=by rfl):PE X (.Call (.Name x p) (e::es) [] pos) (tCB r t):=by
 intro pins s σ H Q I h;refine aiQ (jf I S U Y ?_ hn z);exact agU (thn (Z pos pins s σ H _ I h) λus s1 ⟨vs,H1,I1,r1,q1⟩=>O pins s1 σ H1 vs us Q I1 r1 q1) he J
end
end L2
namespace HT
open PySem PyProof.Rows
section
open PySem.SeqAt
open PySem.AutoSeq1 (wpAny_loadPart')
open PySem.MeetsSeq PySem.MeetsSeq2 PySem.MeetsSeq3
end
section
variable {prog:Program}{w:World}{A:Around}{E:Value->Shared->Prop}{s:Shared}
def sIx (n d:Nat):Option Int->Nat
 | none=>d
 | some v=>if v < 0 then (v+(n:Int)).toNat else min v.toNat n
theorem sIx_none (n d:Nat):sIx n d none=d:=rfl
theorem sIx_nat (n d k:Nat):sIx n d (some (k:Int))=min k n:=by
 show (if (k:Int) < 0 then ((k:Int)+(n:Int)).toNat else min (k:Int).toNat n)=min k n;rw[if_neg (by lia),agk]
end
end HT
namespace L2
open PySem PySem.Spec PyProof.Rows
abbrev TO:=St->Hp->(Option Int->Hp->Prop)->Prop
def PO (X:Cx)(e:Option Expr)(t:TO):Prop :=
 ∀ (pins:List (Addr×Obj)) (s:Shared) (σ:St) (H:Hp) (Q:Option Int->Hp->Prop),Inv X pins σ H s->t σ H Q →
  wpAny (model X.prog X.w) X.A (evalPart e X.env) (λu s'=>∃ o H',Inv X pins σ H' s'/\IsPart u o/\Q o H') X.xe s
def ach:TO:=λ_ H Q=>Q none H
def aeR (t:TE):TO:=λσ H Q=>t σ H λx H1=>∃ i,x=.int i/\Q (some i) H1
theorem oV {z:List Int}:∀ {us:List Value},Vals (z.map V.int) us->IntsAre us z:=by
 induction z with
 | nil=>intro us r;rw[ajh] at r;cases r;exact .nil
 | cons n z J =>
  intro us r;rw[af0] at r;cases r with
  | cons O S =>
   obtain⟨t,e⟩:=O;subst e;exact .cons n t (J S)
section
variable {X:Cx}{e:Expr}{te:TE}{lo hi:Option Expr}{tl th:TO}{pos p2:Pos}
theorem yK:PO X none ach:=by
 intro pins s σ H Q I h;rw[evalPart_none];exact afE ⟨none,H,I,.none,h⟩
theorem zt (h:PE X e te):PO X (some e) (aeR te):=by
 intro pins s σ H Q I hw;rw[evalPart_some];refine thn (h pins s σ H _ I hw) λu S ⟨x,H1,z,J,O⟩=>?_;obtain⟨i,rfl,q⟩:=O;obtain⟨t,rfl⟩:=J;exact⟨some i,H1,z,.int i t,q⟩
def SlR (X:Cx)(r:V->Option Int->Option Int->Hp->VK->Prop):Prop :=
 ∀ (pins:List (Addr×Obj)) (s:Shared) (σ:St) (H:Hp) (x:V) (v vl vu:Value) (lo hi:Option Int) (sl:Addr) (Q:VK),Inv X pins σ H s->RelV x v->s.heap.IsSliceOf sl vl vu .none->IsPart vl lo->IsPart vu hi->r x lo hi H Q →
  ∃ T id,typeLookup (.type T) "__getitem__" = pure (some (.builtin id))/\s.TypeIs v T/\wpAny (model X.prog X.w) X.A (getItem v (.ref sl)) (EP X pins σ Q) X.xe s
def tSl (r:V->Option Int->Option Int->Hp->VK->Prop)(te:TE)(tl th:TO):TE:=λσ H Q=>te σ H λx H1=>tl σ H1 λl H2=>th σ H2 λu H3=>r x l u H3 Q
theorem vO {r:V->Option Int->Option Int->Hp->VK->Prop}(U:SlR X r)(Y:PE X e te)(Z:PO X lo tl)(hu:PO X hi th):PE X (.Subscript e (.Slice lo hi none p2) pos) (tSl r te tl th):=by
 intro pins s σ H Q I h;refine Subscript_ (thn (Y pins s σ H _ I h) λv s1 ⟨x,H1,I1,r1,q1⟩=>?_);refine wpAny_Slice (thn (Z pins s1 σ H1 _ I1 q1) λJ s2 ⟨l,H2,I2,pl,q2⟩=>thn (hu pins s2 σ H2 _ I2 q2) λO z ⟨u,S,I3,pu,q3⟩=>?_);rw[evalPart_none];refine afE ?_;have I4:Inv X pins σ S { z with heap:=z.heap.push { cls:=.type "slice",data:=.fields #[J,O,.none] } }:=I3.kept (t':=z.toks) λb ob q=>afB _ q;obtain⟨T,id,hT,ht,hg⟩:=U pins { z with heap:=z.heap.push { cls:=.type "slice",data:=.fields #[J,O,.none] } } σ S x v J O l u z.heap.objs.size Q I4 r1 (Heap.IsSliceOf.new ..) pl pu q3;show wpAny (model X.prog X.w) X.A (subscriptTail e (.Slice lo hi none p2) v (.ref z.heap.objs.size)) (EP X pins σ Q) X.xe { z with heap:=z.heap.push { cls:=.type "slice",data:=.fields #[J,O,.none] } };exact tail_any (ops:=[.ref z.heap.objs.size,v]) ht hT hg (by with_unfolding_all rfl)
def t6 (xs:List V)(lo hi:Option Int):List V:=(xs.drop (HT.sIx xs.length 0 lo)).take (HT.sIx xs.length xs.length hi - HT.sIx xs.length 0 lo)
theorem ug (xs:List V)(lo hi:Option Int):(t6 xs lo hi).length<=xs.length:=by
 unfold t6;rw[af7,ahB];lia
end
def ixN (n:Nat)(i:Int):Option Nat:=if 0<=i then (if i < n then some i.toNat else none) else if -(n:Int)<=i then some (i+n).toNat else none
def atI {α:Type}(xs:List α)(i:Int):Option α:=(ixN xs.length i).bind λj=>xs[j]?
theorem yF {n:Nat}{i:Int}{j:Nat}(h:ixN n i=some j):seqIndex? i n=some j/\j < n/\-(n:Int)<=i/\i < n:=by
 unfold ixN at h;by_cases z:0<=i
 .rw[if_pos z] at h;by_cases h1:i < n
  .rw[if_pos h1] at h;have e:i.toNat=j:=agT h;exact⟨by rw[seqIndex_of z h1,e],by lia,by lia,h1⟩
  .rw[if_neg h1] at h;cases h
 .rw[if_neg z] at h;by_cases h1:-(n:Int)<=i
  .rw[if_pos h1] at h;have e:(i+n).toNat=j:=agT h;exact⟨by rw[seqIndex_neg (by lia) h1,e],by lia,h1,by lia⟩
  .rw[if_neg h1] at h;cases h
theorem uv {α:Type}{xs:List α}{i:Int}{v:α}(h:atI xs i=some v):∃ j,seqIndex? i xs.length=some j/\xs[j]? = some v/\j < xs.length/\-(xs.length:Int)<=i/\i < xs.length:=by
 unfold atI at h;cases e:ixN xs.length i with
 | none=>rw[e] at h;cases h
 | some j =>
  rw[e] at h;obtain⟨h1,h2,z,J⟩:=yF e;exact⟨j,h1,h,h2,z,J⟩
theorem bU {α:Type}{xs:List α}{j:Nat}{v:α}(h:xs[j]? = some v):atI xs (j:Int)=some v:=by
 have z:j < xs.length:=(afA.mp h).1;have e:ixN xs.length (j:Int)=some j:=by
  unfold ixN;rw[if_pos (by lia),if_pos (by lia)];simp
 unfold atI;rw[e];exact h
def ade (b:Expr):Prop:=∀ o i,subscripted b false o i=operate [o,i] (getItem o i)
def IxR (X:Cx)(r:R2):Prop :=
 ∀ (value slice:Expr) (pins:List (Addr×Obj)) (s:Shared) (σ:St) (H:Hp) (x y:V) (v u:Value) (Q:VK),Inv X pins σ H s->RelV x v->RelV y u->r x y H Q →
  subscripted slice false v u=operate [v,u] (getItem v u)->wpAny (model X.prog X.w) X.A (subscriptTail value slice v u) (EP X pins σ Q) X.xe s
def MtR (X:Cx)(id:String)(r:V->List V->Hp->VK->Prop):Prop :=
 ∀ (pins:List (Addr×Obj)) (s:Shared) (σ:St) (H:Hp) (x:V) (xs:List V) (v:Value) (us:List Value) (Q:VK),Inv X pins σ H s->RelV x v->Vals xs us->r x xs H Q →
  wpAny (model X.prog X.w) X.A (call (.builtin id) (v::us)) (EP X pins σ Q) X.xe s
section
variable {X:Cx}{a b:Expr}{ta tb:TE}{pos:Pos}
theorem bR {r:R2}(z:IxR X r)(J:PE X a ta)(O:PE X b tb)(S:ade b):PE X (.Subscript a b pos) (tOp r ta tb):=by
 intro pins s σ H Q I h;exact Subscript_ (aeI J O I h λv u U x y H2 Y Z ry q=>z a b pins U σ H2 x y v u Q Y Z ry q (S _ _))
def aeW (K:PySem.W.Frag):R2:=λx y H Q=>∃ p xs i v,x=.ref p/\y=.int i/\SqL K H p xs/\atI xs i=some v/\Q v H
def afu (K:PySem.W.Frag):R2:=λx y H Q=>∃ p xs i v,x=.ref p/\y=.int i/\SqT K H p xs/\atI xs i=some v/\Q v H
def afe:R2:=λx y H Q=>∃ z i c,x=.str z/\y=.int i/\z.length<=sizeLine/\atI z.cps.toList i=some c/\Q (.str ⟨#[c]⟩) H
theorem bq:IxR X (aeW X.K):=by
 intro value O pins s σ H x y v u Q I rx ry h Z;obtain⟨p,xs,i,z,rfl,rfl,hq,he,q⟩:=h;cases rx;obtain⟨t,rfl⟩:=ry;obtain⟨its,r,S,hz⟩:=I.list hq;obtain⟨j,h1,h2,h3,h4,h5⟩:=uv he;obtain⟨w,ew,U⟩:=r.get h2;have hl:=r.length;have hn:=k9;have J:EP X pins σ Q w s:=⟨z,H,I,U,q⟩;by_cases h0:0<=i
 .have Y:i.toNat=j:=by
   rw[seqIndex_of h0 h5] at h1;exact agT h1
  exact item_listR S.isList h0 (by lia) (by rw[Y];simpa using ew) J Z
 .have Y:(i+(its.toArray.size:Int)).toNat=j:=by
   rw[seqIndex_neg (by lia) h4] at h1;rw[af4,← hl];exact agT h1
  exact subscriptTail_builtinR (x:=w) S.isList.typeIs aj7.lookup
   (wpAny_getItem_list_neg (Q:=λr s'=>r=w/\EP X pins σ Q r s') S.isList (by lia) (by rw[af4]<;>lia) (by lia) (by rw[Y];simpa using ew) ⟨rfl,J⟩) Z
theorem il:IxR X (afu X.K):=by
 intro value J pins s σ H x y v u Q I Y Z h hs;obtain⟨p,xs,i,z,rfl,rfl,hq,he,q⟩:=h;cases Y;obtain⟨t,rfl⟩:=Z;obtain⟨its,r,U,hz⟩:=I.tuple hq;obtain⟨j,h1,h2,h3,h4,h5⟩:=uv he;obtain⟨w,ew,O⟩:=r.get h2;have hl:=r.length;have hn:=k9;have S:EP X pins σ Q w s:=⟨z,H,I,O,q⟩;exact subscriptTail_builtinR (x:=w) U.typeIs slot_tuple_getitem.lookup
  (getItem_tuple (j:=j) (Q:=λr s'=>r=w/\EP X pins σ Q r s') U (by lia) (by lia) (by rw[af4,← hl];exact h1) (by simpa using ew) ⟨rfl,S⟩) hs
theorem adR:IxR X afe:=by
 intro value J pins s σ H x y v u Q I O S h U;obtain⟨z,i,c,rfl,rfl,hz,Y,q⟩:=h;obtain⟨t,rfl⟩:=O;obtain⟨t',rfl⟩:=S;obtain⟨j,h1,h2,h3,Z,h5⟩:=uv Y;have hl:z.cps.toList.length=z.length:=by simp[Str.length]
 rw[hl] at h1 Z h5;have hn:=k9;exact tail_any (typeIs_str s z t) slot_str_getitem.lookup (getItem_str (c:=c) (by
  have e1:decide (i < -(2 ^ 63:Int))=false:=afS (by lia);have e2:decide (i ≥ 2 ^ 63)=false:=afS (by lia);rw[e1,e2,alu]) (by rw[h1];simpa using h2) ⟨.str ⟨#[c]⟩,H,I.tok _,⟨_,rfl⟩,q⟩) U
theorem wV (its:List Value)(n j:Nat)(u:Value):Obj.mapSeq (·.setIfInBounds j u) { cls:=.type "list",data:=.seq its.toArray n }={ cls:=.type "list",data:=.seq (its.set j u).toArray n }:=by
 simp[Obj.mapSeq]
theorem Inv.lst {pins:List (Addr×Obj)}{σ:St}{H:Hp}{s:Shared}{p:Addr}{xs:List V}(I:Inv X pins σ H s)(h:H p=some (.lst xs)) :
 ∃ (its:List Value) (n:Nat),Vals xs its/\s.heap.get? p=some { cls:=.type "list",data:=.seq its.toArray n }/\xs.length<=sizeLine:=by
 obtain⟨z,its,n,r,e⟩:=I.hok p _ h;exact⟨its,n,r,e,z⟩
theorem Inv.lstUpd {pins:List (Addr×Obj)}{σ:St}{H:Hp}{s:Shared}{p:Addr}{xs ys:List V}{its its':List Value}{n z:Nat}{f:Obj->Obj}(I:Inv X pins σ H s)(h:H p=some (.lst xs))
 (O:s.heap.get? p=some { cls:=.type "list",data:=.seq its.toArray n })(J:f { cls:=.type "list",data:=.seq its.toArray n }={ cls:=.type "list",data:=.seq its'.toArray z })(r:Vals ys its')(hz:ys.length<=sizeLine)(t:Nat) :
 Inv X pins σ (upd H p (.lst ys)) { s with heap:=s.heap.update p f,toks:=t }:=by
 have e:(s.heap.update p f).get? p=some { cls:=.type "list",data:=.seq its'.toArray z }:=by
  rw[ahg f O (by rw[J]<;>rfl),J]
 refine I.write (x:=p) (e:=p) (by rw[h];trivial) (.inl rfl) (λb u S q=>(ahq _ _ (ahf S)).trans q) ⟨_,e⟩ ?_;exact⟨hz,its',z,r,e⟩
def aex:V->V->V->Hp->(Hp->Prop)->Prop:=λo i v H Q=>∃ p xs k j,o=.ref p/\i=.int k/\H p=some (.lst xs)/\ixN xs.length k=some j/\Q (upd H p (.lst (xs.set j v)))
theorem iY:aeU X aex:=by
 intro pins s σ H o i v ov iv u Q I ro ri rv h;obtain⟨p,xs,k,j,rfl,rfl,S,hj,q⟩:=h;cases ro;obtain⟨t,rfl⟩:=ri;obtain⟨its,n,r,z,hz⟩:=I.lst S;obtain⟨h1,h2,U,Y⟩:=yF hj;have J:=r.length;have hn:=k9;have Z:Inv X pins σ (upd H p (.lst (xs.set j v))) { s with heap:=s.heap.update p (Obj.mapSeq (·.setIfInBounds j u)) } :=
  I.lstUpd S z (wV its n j u) (r.set rv j) (by rw[ahK];exact hz) s.toks
 by_cases h0:0<=k
 .have O:k.toNat=j:=by
   rw[seqIndex_of h0 Y] at h1;exact agT h1
  exact PySem.W.ki_setAt z h0 (by lia) (by rw[af4,← J];exact Y) (by rw[O];exact⟨_,Z,q⟩)
 .have O:(k+(its.toArray.size:Int)).toNat=j:=by
   rw[seqIndex_neg (by lia) U] at h1;rw[af4,← J];exact agT h1
  exact PySem.W.ki_setBack z (by lia) (by rw[af4,← J];exact U) (by lia) (by rw[O];exact⟨_,Z,q⟩)
theorem rB (lo hi:Option Int)(n:Nat):(sliceBounds lo hi none n).1=((HT.sIx n 0 lo:Nat):Int)/\(sliceBounds lo hi none n).2.1=((HT.sIx n n hi:Nat):Int)/\(sliceBounds lo hi none n).2.2=1:=by
 refine⟨?_,?_,rfl⟩
 .cases lo with
  | none=>simp[sliceBounds,HT.sIx]
  | some i =>
   simp only[sliceBounds,HT.sIx,Option.getD_none,show (1:Int) > 0 by decide,ai7];by_cases h:i < 0
   .simp only[h,ai7]<;>lia
   .simp only[h,aiq]<;>lia
 .cases hi with
  | none=>simp[sliceBounds,HT.sIx]
  | some i =>
   simp only[sliceBounds,HT.sIx,Option.getD_none,show (1:Int) > 0 by decide,ai7];by_cases h:i < 0
   .simp only[h,ai7]<;>lia
   .simp only[h,aiq]<;>lia
theorem p4 (its:List Value)(lo hi:Option Int):slicePick its.toArray lo hi none=((its.drop (HT.sIx its.length 0 lo)).take (HT.sIx its.length its.length hi - HT.sIx its.length 0 lo)).toArray:=by
 obtain⟨h1,h2,z⟩:=rB lo hi its.toArray.size;unfold slicePick;rw[h1,h2,z];simp only[sliceRange_one,pick_run,af4]<;>rfl
def aft (K:PySem.W.Frag):V->Option Int->Option Int->Hp->VK->Prop:=λx lo hi H Q=>∃ a xs,x=.ref a/\SqL K H a xs/\∀ p,H p=none->Q (.ref p) (upd H p (.lst (t6 xs lo hi)))
theorem aad:SlR X (aft X.K):=by
 intro pins s σ H x v vl vu lo hi sl Q I O S U Y h;obtain⟨a,xs,rfl,Z,q⟩:=h;cases O;obtain⟨its,r,J,hz⟩:=I.list Z;have z:=r.length;refine⟨"list",_,aj7.lookup,J.isList.typeIs,?_⟩;refine wpAny_getItem_list_slice J.isList S U Y .none (by simp) ?_ (by rw[af4]<;>lia);rw[p4,← z];refine⟨.ref s.heap.objs.size,_,I.laid (t':=s.toks) (o:=.lst (t6 xs lo hi)) (λb ob q=>afB _ q) (afG _) ?_,rfl,q _ (I.hok.fresh (afG _))⟩;exact⟨afR (ug xs lo hi) hz,_,0,(r.drop (HT.sIx xs.length 0 lo)).take (HT.sIx xs.length xs.length hi - HT.sIx xs.length 0 lo),afK _ rfl⟩
def qQ:V->Bool
 | .non=>true
 | .bl _=>true
 | .int _=>true
 | .str _=>true
 | _=>false
def eqV:V->V->Bool
 | .non,.non=>true
 | .bl a,.bl b=>a == b
 | .bl a,.int b=>(if a then 1 else 0) == b
 | .int a,.bl b=>a == (if b then 1 else 0)
 | .int a,.int b=>a == b
 | .str a,.str b=>a == b
 | _,_=>false
theorem adU {A:Around}{s:Shared}{y x:V}{u v:Value}(O:RelV y u)(z:RelV x v)(U:qQ y=true)(S:qQ x=true):SeqAt.EqAt A s u v (eqV y x):=by
 cases y with
 | non =>
  cases O;cases x with
  | non=>cases z;exact SeqAt.EqAt.same _
  | bl b=>cases z;exact SeqAt.EqAt.none_bool b
  | int b=>obtain⟨t,rfl⟩:=z;exact SeqAt.EqAt.none_int b t
  | str b=>obtain⟨t,rfl⟩:=z;exact SeqAt.EqAt.none_str b t
  | _=>exact absurd (show false=true from S) afC
 | bl a =>
  cases O;cases x with
  | non=>cases z;exact SeqAt.EqAt.bool_none a
  | bl b=>cases z;exact SeqAt.EqAt.bool_bool a b
  | int b=>obtain⟨t,rfl⟩:=z;exact SeqAt.EqAt.bool_int a b t
  | str b=>obtain⟨t,rfl⟩:=z;exact SeqAt.EqAt.bool_str a b t
  | _=>exact absurd (show false=true from S) afC
 | int a =>
  obtain⟨J,rfl⟩:=O;cases x with
  | non=>cases z;exact SeqAt.EqAt.int_none a J
  | bl b=>cases z;exact SeqAt.EqAt.int_bool a J b
  | int b=>obtain⟨t,rfl⟩:=z;exact ajQ a J b t
  | str b=>obtain⟨t,rfl⟩:=z;exact SeqAt.EqAt.int_str a J b t
  | _=>exact absurd (show false=true from S) afC
 | str a =>
  obtain⟨J,rfl⟩:=O;cases x with
  | non=>cases z;exact SeqAt.EqAt.str_none a J
  | bl b=>cases z;exact SeqAt.EqAt.str_bool a J b
  | int b=>obtain⟨t,rfl⟩:=z;exact SeqAt.EqAt.str_int a J b t
  | str b=>obtain⟨t,rfl⟩:=z;exact SeqAt.EqAt.str_str a J b t
  | _=>exact absurd (show false=true from S) afC
 | _=>exact absurd (show false=true from U) afC
def eqU (x:V)(u:Value):Bool:=match u with
 | .none=>eqV .non x
 | .bool b=>eqV (.bl b) x
 | .int i _=>eqV (.int i) x
 | .str z _=>eqV (.str z) x
 | _=>false
theorem acf {x y:V}{u:Value}(r:RelV y u)(f:qQ y=true):eqU x u=eqV y x:=by
 cases y with
 | non=>cases r;rfl
 | bl b=>cases r;rfl
 | int i=>obtain⟨t,rfl⟩:=r;rfl
 | str z=>obtain⟨t,rfl⟩:=r;rfl
 | _=>exact absurd (show false=true from f) afC
theorem mJ {x:V}:∀ {xs:List V} {us:List Value},Vals xs us->xs.all qQ=true->us.any (eqU x)=xs.any λy=>eqV y x
 | _,_,.nil,_=>rfl
 | y::xs,u::us,.cons r t,f=>by
  rw[ajt,agf] at f;rw[ahF,ahF,acf r f.1,mJ t f.2]
theorem j5 {A:Around}{s:Shared}{x:V}{v:Value}(z:RelV x v)(J:qQ x=true):∀ {xs:List V} {us:List Value},Vals xs us->xs.all qQ=true->∀ u∈us,SeqAt.EqAt A s u v (eqU x u)
 | _,_,.nil,_=>λu hu=>by cases hu
 | y::xs,u::us,.cons r t,f=>λO hu=>by
  rw[ajt,agf] at f;rcases afZ.mp hu with rfl | hu
  .rw[acf r f.1];exact adU r z f.1 J
  .exact j5 z J t f.2 O hu
def inV (x:V)(xs:List V):Bool:=xs.any λy=>eqV y x
def rIn (K:PySem.W.Frag)(neg:Bool):R2:=λx y H Q=>∃ p xs,y=.ref p/\(SqL K H p xs\/SqT K H p xs)/\qQ x=true/\xs.all qQ=true/\Q (.bl (if neg then !inV x xs else inV x xs)) H
theorem zG:OpR X (compareOp .In) (rIn X.K false):=by
 intro pins s σ H x y v u Q I J S h;obtain⟨p,xs,rfl,hq,O,fs,q⟩:=h;cases S;rcases hq with hq | hq
 .obtain⟨its,r,z,U⟩:=I.list hq;refine SeqAt.in_listAt (eqU x) z.isList (λw hw=>j5 J O r fs w (by simpa using hw)) ⟨.bl _,H,I,rfl,?_⟩;rw[show its.toArray.any (eqU x)=its.any (eqU x) by simp,mJ r fs];exact q
 .obtain⟨its,r,z,U⟩:=I.tuple hq;refine SeqAt.in_tupleAt (eqU x) z (λw hw=>j5 J O r fs w (by simpa using hw)) ⟨.bl _,H,I,rfl,?_⟩;rw[show its.toArray.any (eqU x)=its.any (eqU x) by simp,mJ r fs];exact q
theorem lq:OpR X (compareOp .NotIn) (rIn X.K true):=by
 intro pins s σ H x y v u Q I J S h;obtain⟨p,xs,rfl,hq,O,fs,q⟩:=h;cases S;rcases hq with hq | hq
 .obtain⟨its,r,z,U⟩:=I.list hq;refine SeqAt.notIn_listAt (eqU x) z.isList (λw hw=>j5 J O r fs w (by simpa using hw)) ⟨.bl _,H,I,rfl,?_⟩;rw[show its.toArray.any (eqU x)=its.any (eqU x) by simp,mJ r fs];exact q
 .obtain⟨its,r,z,U⟩:=I.tuple hq;refine SeqAt.notIn_tupleAt (eqU x) z (λw hw=>j5 J O r fs w (by simpa using hw)) ⟨.bl _,H,I,rfl,?_⟩;rw[show its.toArray.any (eqU x)=its.any (eqU x) by simp,mJ r fs];exact q
theorem aQ:eG X (.builtin "len") (λxs H Q=>∃ p ys,xs=[.ref p]/\(SqL X.K H p ys\/SqT X.K H p ys)/\Q (.int ys.length) H):=by
 intro pins s σ H xs Y Q I r h;obtain⟨p,ys,rfl,hq,q⟩:=h;obtain⟨u,rfl,S⟩:=gz r;cases S;have Z:=k9;rcases hq with hq | hq
 .obtain⟨its,J,O,U⟩:=I.list hq;have z:=J.length;exact Calls.call_len_list O.isList (by simp only[af4]<;>lia) ⟨.int ys.length,H,I.tok _,⟨s.toks+1,by rw[af4,z]⟩,q⟩
 .obtain⟨its,J,O,U⟩:=I.tuple hq;have z:=J.length;exact len_tuple O (by simp only[af4]<;>lia) ⟨.int ys.length,H,I.tok _,⟨s.toks+1,by rw[af4,z]⟩,q⟩
theorem r9:eG X (.builtin "len") (λxs H Q=>∃ z,xs=[.str z]/\z.length<=sizeLine/\Q (.int z.length) H):=by
 intro pins s σ H xs J Q I r h;obtain⟨z,rfl,O,q⟩:=h;obtain⟨u,rfl,t,rfl⟩:=gz r;have S:=k9;exact len_str (by lia) ⟨.int z.length,H,I.tok _,⟨_,rfl⟩,q⟩
theorem bO:eG X (.type "list") (λxs H Q=>∃ p ys,xs=[.ref p]/\(SqL X.K H p ys\/SqT X.K H p ys)/\∀ l,H l=none->Q (.ref l) (upd H l (.lst ys))):=by
 intro pins s σ H xs us Q I r h;obtain⟨p,ys,rfl,hq,q⟩:=h;obtain⟨u,rfl,rx⟩:=gz r;cases rx;have O:∀ (its:List Value),Vals ys its->ys.length<=sizeLine->∀ (h':Heap) (z:Nat),(∀ b o',s.heap.get? b=some o'->h'.get? b=some o') →
  h'.get? s.heap.objs.size=some { cls:=.type "list",dict:=none,data:=.seq its.toArray z,slots:=#[] }->EP X pins σ Q (.ref s.heap.objs.size) { s with heap:=h' }:=λits J S h' z U e =>
  ⟨.ref s.heap.objs.size,_,I.laid (t':=s.toks) U (afG _) (show ObjOk X.prog X.w _ h' _ (.lst ys) from ⟨S,its,z,J,e⟩),rfl,q _ (I.hok.fresh (afG _))⟩
 rcases hq with hq | hq
 .obtain⟨its,J,Z,S⟩:=I.list hq;have Y:=J.length;obtain⟨o,ho,hc,n,hd⟩:=Z.isList;exact call_list_seq p (.inl rfl) ho hc hd (λh' z U e=>O its J S h' z U e) (by simp only[af4]<;>lia)
 .obtain⟨its,J,Z,S⟩:=I.tuple hq;have Y:=J.length;obtain⟨o,ho,hc,n,hd⟩:=Z;exact call_list_seq p (.inr rfl) ho hc hd (λh' z U e=>O its J S h' z U e) (by simp only[af4]<;>lia)
theorem qo:eG X (.type "tuple") (λxs H Q=>∃ p ys,xs=[.ref p]/\((SqL X.K H p ys/\∀ l,H l=none->Q (.ref l) (upd H l (.tup ys)))\/(SqT X.K H p ys/\Q (.ref p) H))):=by
 intro pins s σ H xs us Q I r h;obtain⟨p,ys,rfl,h⟩:=h;obtain⟨u,rfl,Z⟩:=gz r;cases Z;rcases h with ⟨z,q⟩ | ⟨z,q⟩
 .obtain⟨its,J,O,S⟩:=I.list z;have U:=J.length;refine call_tuple_list O.isList (λh' kp=>?_) (by simp only[af4]<;>lia);have Y:Inv X pins σ H { s with heap:=h' }:=I.kept (t':=s.toks) kp;have I2:Inv X pins σ (upd H h'.objs.size (.tup ys)) { s with heap:=h'.push { cls:=.type "tuple",data:=.seq its.toArray } } :=
   Y.laid (t':=s.toks) (λb o e=>afB _ e) (afG _) (show ObjOk X.prog X.w _ _ _ (.tup ys) from ⟨S,its,J,IsTup.new _ _⟩)
  exact⟨.ref h'.objs.size,_,I2,rfl,q _ (Y.hok.fresh (afG _))⟩
 .obtain⟨its,J,O,S⟩:=I.tuple z;exact call_tuple_same O ⟨.ref p,H,I,rfl,q⟩
def tyV (K:PySem.W.Frag)(T:String)(x:V)(H:Hp):Prop:=match x with
 | .str _=>T = "str"
 | .int _=>T = "int"
 | .ref p=>(T = "list" ∧ ∃ xs,SqL K H p xs)\/(T = "tuple" ∧ ∃ o,K.lookup p=some o/\o.cls=.type "tuple" ∧ o.dict=none) ∨
  (T = "dict" ∧ ((∃ kvs,H p=some (.dK kvs))\/∃ kvs,H p=some (.dT kvs)))\/(T = "set" ∧ ∃ S n,H p=some (.set S n))
 | _=>False
theorem vN {pins:List (Addr×Obj)}{σ:St}{H:Hp}{s:Shared}{T:String}{x:V}{v:Value}(I:Inv X pins σ H s)(r:RelV x v)(ty:tyV X.K T x H) :
 s.TypeIs v T/\∀ a,v=.ref a->∃ Y,s.heap.get? a=some Y/\Y.dict=none:=by
 cases x with
 | str z =>
  obtain⟨t,rfl⟩:=r;cases (show T = "str" from ty);exact⟨typeIs_str s z t,λ_ e=>nomatch e⟩
 | int i =>
  obtain⟨t,rfl⟩:=r;cases (show T = "int" from ty);exact⟨typeIs_int s i t,λ_ e=>nomatch e⟩
 | ref p =>
  cases r;rcases ty with ⟨rfl,xs,hq⟩ | ⟨rfl,o,J,hc,O⟩ | ⟨rfl,J⟩ | ⟨rfl,S,n,J⟩
  .obtain⟨its,_,Z,_⟩:=I.list hq;refine⟨Z.isList.typeIs,λa e=>?_⟩;cases e;obtain⟨o,n,e,c,O,_⟩:=Z;exact⟨o,e,O⟩
  .refine⟨⟨o,I.kIn p o J,hc⟩,λa e=>?_⟩;cases e;exact⟨o,I.kIn _ o J,O⟩
  .have z:∃ o,s.heap.get? p=some o/\o.ExactDict:=by
    rcases J with ⟨kvs,J⟩ | ⟨kvs,J⟩
    .obtain⟨_,_,_,_,o,_,_,e,ex,_⟩:=I.hok p _ J;exact⟨o,e,ex⟩
    .obtain⟨_,_,_,_,o,_,_,e,ex,_⟩:=I.hok p _ J;exact⟨o,e,ex⟩
   obtain⟨o,e,ex⟩:=z;refine⟨⟨o,e,ex.1⟩,λa U=>?_⟩;cases U;exact⟨o,e,ex.2.1⟩
  .obtain⟨o,_,_,_,e,ex,_⟩:=I.hok p _ J;refine⟨⟨o,e,ex.1⟩,λa U=>?_⟩;cases U;exact⟨o,e,ex.2.1⟩
 | _=>exact False.elim ty
def afd (K:PySem.W.Frag)(T:String)(r:V->List V->Hp->VK->Prop)(to:TE):TE:=λσ H Q=>to σ H λx H1=>tyV K T x H1/\r x [] H1 Q
def tBM (K:PySem.W.Frag)(T:String)(r:V->List V->Hp->VK->Prop)(to:TE)(t:TA):TE:=λσ H Q=>to σ H λx H1=>tyV K T x H1/\t σ H1 λxs H2=>r x xs H2 Q
variable {o e:Expr}{es:List Expr}{to:TE}{t:TA}{name:Str}{apos cpos:Pos}{T id:String}{r:V->List V->Hp->VK->Prop}
theorem adX (Z:PlainAttrs T)(O:Slot T name id)(S:typeOf (.builtin id)=pure (.type "method_descriptor"))(hm:MtR X id r)(ho:PE X o to)
 (z:attributeBase o name X.env (eval o X.env)=eval o X.env:=by rfl)(J:(apos.endLine == cpos.line)=true:=by rfl):PE X (.Call (.Attribute o name apos) [] [] cpos) (afd X.K T r to):=by
 intro pins s σ H Q I h;refine aiR z J (thn (ho pins s σ H _ I h) λv s1 ⟨x,H1,U,Y,ty,q1⟩=>?_);obtain⟨h1,h2⟩:=vN U Y ty;exact⟨T,id,Z,O,S,h1,h2,ain rfl (ajz (hm pins s1 σ H1 x [] v [] Q U Y .nil q1))⟩
theorem jN (pa:PlainAttrs T)(S:Slot T name id)(Y:typeOf (.builtin id)=pure (.type "method_descriptor"))(hm:MtR X id r)(ho:PE X o to)(ha:PA X (e::es) t)
 (J:attributeBase o name X.env (eval o X.env)=eval o X.env:=by rfl)
 (U:((backTo cpos (starEach (e::es) X.env)).all (λx=>!x.1) && (backToKw cpos (keywordEach [] X.env)).all (λx=>x.1.isSome)
  && decide ((e::es).length+([]:List Keyword).length+(if ([]:List Keyword).isEmpty then 0 else 1) < 30))=true:=by rfl)
 (O:(apos.endLine == cpos.line)=true:=by rfl)(hs:starEach (e::es) X.env=(false,eval e X.env)::starEach es X.env:=by rfl)(z:(backTo cpos (starEach es X.env)).any (·.1)=false:=by rfl) :
 PE X (.Call (.Attribute o name apos) (e::es) [] cpos) (tBM X.K T r to t):=by
 intro pins s σ H Q I h;refine wpAny_Call_method_late J U O rfl (thn (ho pins s σ H _ I h) λv s1 ⟨x,H1,Z,r1,ty,q1⟩=>?_);obtain⟨h1,h2⟩:=vN Z r1 ty;refine⟨T,id,pa,S,Y,h1,h2,?_⟩;have hA:=ha cpos pins s1 σ H1 _ Z q1;rw[hs] at hA ⊢;refine ain (by show (false || (backTo cpos (starEach es X.env)).any (·.1))=false;rw[z]<;>rfl) (Calls.evalArgs_plain ?_);exact thn hA λus s2 ⟨vs,H2,I2,r2,q2⟩=>hm pins s2 σ H2 x vs v us Q I2 r1 r2 q2
end
def MtM (X:Cx)(id:String)(r:V->List V->Hp->VK->Prop):Prop :=
 ∀ (pins:List (Addr×Obj)) (s:Shared) (σ:St) (H:Hp) (x:V) (xs:List V) (v:Value) (us:List Value) (Q:VK),Inv X pins σ H s->RelV x v->Vals xs us->r x xs H Q →
  wpAny (model X.prog X.w) X.A (call (.builtin id) (v::us)) (EP X pins σ Q) X.xe s
theorem Vals.one:∀ {x:V} {us:List Value},Vals [x] us->∃ u,us=[u]/\RelV x u
 | _,_,.cons r .nil=>⟨_,rfl,r⟩
theorem Vals.eraseIdx:∀ {xs:List V} {us:List Value} (i:Nat),Vals xs us->Vals (xs.eraseIdx i) (us.eraseIdx i)
 | _,_,_,.nil=>.nil
 | _,_,0,.cons _ t=>t
 | _,_,i+1,.cons r t=>.cons r (Vals.eraseIdx i t)
theorem Vals.rep {xs:List V}{us:List Value}(h:Vals xs us):∀ k:Nat,Vals (List.replicate k xs).flatten (List.replicate k us).flatten
 | 0=>.nil
 | k+1=>by
  rw[aia,aia,ahH,ahH];exact Vals.append h (Vals.rep h k)
theorem rA {α:Type}:∀ (l:List α) (i:Nat),(l.eraseIdx i).length<=l.length
 | [],_=>afG _
 | _::_,0=>agV _
 | _::r,i+1=>aif (rA r i)
theorem rS (its:List Value):∀ (k:Nat) (acc:List Value),
 List.foldl (λz J=>z++J) acc.toArray (List.replicate k its.toArray)=(acc++(List.replicate k its).flatten).toArray
 | 0,acc=>by simp
 | k+1,acc=>by
  have e:acc.toArray++its.toArray=(acc++its).toArray:=by simp
  have O:(acc++its)++(List.replicate k its).flatten=acc++(List.replicate (k+1) its).flatten:=by
   rw[aia,ahH,afN]
  rw[← O,← rS its k (acc++its),← e,aia,aiS]
section
variable {X:Cx}{pins:List (Addr×Obj)}{σ:St}{H:Hp}{s:Shared}{l b:Addr}{xs ys zs:List V}
theorem Inv.lset {its its':List Value}{n:Nat}{f:Array Value->Array Value}{t':Nat}(I:Inv X pins σ H s)(z:H l=some (.lst xs))
 (e:s.heap.get? l=some { cls:=.type "list",data:=.seq its.toArray n })(J:f its.toArray=its'.toArray)(O:Vals ys its')(hz:ys.length<=sizeLine) :
 Inv X pins σ (upd H l (.lst ys)) { s with heap:=s.heap.update l (Obj.mapSeq f),toks:=t' }:=by
 have q:=PySem.IsL.update e f;rw[J] at q;refine I.write (x:=l) (e:=l) (by rw[z];exact trivial) (.inl rfl) (λY u S U=>(ahq s.heap (Obj.mapSeq f) (ahf S)).trans U) ⟨_,q⟩ ?_;exact⟨hz,its',_,O,q⟩
theorem Inv.lnew {its:List Value}{t':Nat}(I:Inv X pins σ H s)(z:Vals ys its)(hz:ys.length<=sizeLine) :
 Inv X pins σ (upd H s.heap.objs.size (.lst ys)) { s with heap:=s.heap.push { cls:=.type "list",data:=.seq its.toArray },toks:=t' } :=
 I.laid (λ_ _ q=>afB _ q) (afG _) ⟨hz,its,0,z,afK _ rfl⟩
theorem Inv.fresh (I:Inv X pins σ H s):H s.heap.objs.size=none:=I.hok.fresh (afG _)
theorem Inv.lstM (I:Inv X pins σ H s)(J:H l=some (.lst xs)):xs.length<=sizeLine/\∃ (its:List Value) (n:Nat),Vals xs its/\xs.length=its.length/\s.heap.get? l=some { cls:=.type "list",data:=.seq its.toArray n }:=by
 obtain⟨z,its,n,r,e⟩:=I.hok l _ J;exact⟨z,its,n,r,r.length,e⟩
theorem aaw {n:Nat}(h:n<=sizeLine):Builtin.List.listTooLong n=false:=by
 unfold Builtin.List.listTooLong;exact afS (by lia)
end
section
variable {X:Cx}
def acs:V->List V->Hp->VK->Prop:=λx vs H Q=>∃ l xs y,x=.ref l/\vs=[y]/\H l=some (.lst xs)/\xs.length < sizeLine/\Q .non (upd H l (.lst (xs++[y])))
theorem cx:MtM X "list.append" acs:=by
 intro pins s σ H x vs v Y Q I O S h;obtain⟨l,xs,y,rfl,rfl,J,Z,q⟩:=h;cases O;obtain⟨u,rfl,U⟩:=S.one;obtain⟨z,its,n,r,hl,e⟩:=I.lstM J;refine aj9 F.slot_list_append ⟨_,e,rfl⟩ F.entry_list_append (F.args_list_append_2 _ _) (PySem.list_append l its.toArray n u (by rw[af4];lia)) ⟨e,?_⟩;refine⟨.non,_,I.lset (its':=its++[u]) J e (by simp) (r.append (.cons U .nil)) ?_,rfl,q⟩;rw[afH,af1];lia
def ad4:V->List V->Hp->VK->Prop:=λx vs H Q=>∃ l xs i k y,x=.ref l/\vs=[.int i]/\H l=some (.lst xs)/\-(2 ^ 63)<=i/\i < 2 ^ 63/\seqIndex? i xs.length=some k/\xs[k]? = some y/\Q y (upd H l (.lst (xs.eraseIdx k)))
theorem abj:MtM X "list.pop" ad4:=by
 intro pins s σ H x vs v us Q I S U h;obtain⟨l,xs,i,k,y,rfl,rfl,O,h1,h2,Y,Z,q⟩:=h;cases S;obtain⟨u,rfl,ru⟩:=U.one;obtain⟨t,rfl⟩:=ru;obtain⟨z,its,n,r,hl,e⟩:=I.lstM O;obtain⟨w,hw,J⟩:=r.get Z;refine aj9 F.slot_list_pop ⟨_,e,rfl⟩ F.entry_list_pop (F.args_list_pop_2 _ _)
  (MeetsSeq.list_pop_at l its.toArray n i t k w (fitsIndex_both h1 h2) (by rw[af4,← hl];exact Y) (by rw[← agG];exact hw) (by rw[af4];lia)) ⟨e,?_⟩
 refine⟨y,_,I.lset (its':=its.eraseIdx k) O e ?_ (r.eraseIdx k) ?_,J,q⟩
 .show its.toArray.eraseIdxIfInBounds k=(its.eraseIdx k).toArray;rw[List.eraseIdxIfInBounds_toArray]
 .have:=rA xs k;lia
def ae9:R2:=λx y H Q=>∃ l b xs zs,x=.ref l/\y=.ref b/\H l=some (.lst xs)/\H b=some (.lst zs)/\xs.length+zs.length<=sizeLine/\∀ p,H p=none->Q (.ref p) (upd H p (.lst (xs++zs)))
theorem pq:OpR X (binaryOp .Add) ae9:=by
 intro pins s σ H x y v u Q I O S h;obtain⟨l,b,xs,zs,rfl,rfl,U,Y,hz,q⟩:=h;cases O;cases S;obtain⟨z,its,n,r,hl,e⟩:=I.lstM U;obtain⟨z2,J,n2,Z,aa,e2⟩:=I.lstM Y;refine PySem.P.add_list e e2 ?_ (by rw[af4,af4];lia);have ea:its.toArray++J.toArray=(its++J).toArray:=by simp
 rw[ea];exact⟨.ref _,_,I.lnew (t':=s.toks) (r.append Z) (by rw[afH];lia),rfl,q _ I.fresh⟩
def afm:R2:=λx y H Q=>∃ l k xs,x=.ref l/\y=.int k/\H l=some (.lst xs)/\-(2 ^ 63)<=k/\k < 2 ^ 63/\xs.length * k.toNat<=sizeLine ∧
 ∀ p,H p=none->Q (.ref p) (upd H p (.lst (List.replicate k.toNat xs).flatten))
theorem xM {α:Type}(xs:List α)(k:Nat):(List.replicate k xs).flatten.length=k * xs.length:=by
 induction k with
 | zero=>simp
 | succ k z=>rw[aia,ahH,afH,z,Nat.succ_mul,Nat.add_comm]
theorem adE:OpR X (binaryOp .Mult) afm:=by
 intro pins s σ H x y v u Q I rx ry h;obtain⟨l,k,xs,rfl,rfl,hH,h1,h2,hz,q⟩:=h;cases rx;obtain⟨t,rfl⟩:=ry;obtain⟨z,its,n,r,hl,e⟩:=I.lstM hH;have O:its.toArray.size * k.toNat<=sizeLine:=by rw[af4,← hl];exact hz
 have S:¬ its.toArray.size * k.toNat > (2 ^ 63 - 1) / 8:=by
  have:(sizeLine:Nat)<=(2 ^ 63 - 1) / 8:=by decide
  lia
 have Y:¬ (!Builtin.List.listFitsIndex k)=true:=by
  rw[fitsIndex_both h1 h2];exact afC
 have J:¬ Builtin.List.listTooLong (its.toArray.size * k.toNat)=true:=by
  rw[aaw O];exact afC
 have Z:List.foldl (λx1 x2=>x1++x2) #[] (List.replicate (if its.toArray.isEmpty=true then 0 else k.toNat) its.toArray)=(List.replicate k.toNat its).flatten.toArray:=by
  have f0:∀ m:Nat,List.foldl (λx1 x2=>x1++x2) #[] (List.replicate m its.toArray)=(List.replicate m its).flatten.toArray:=λm=>by
   have:=rS its m [];rw[ais] at this;exact this
  rw[f0];cases its with
  | nil=>simp
  | cons a r'=>rw[if_neg (by simp)]
 refine wpAny_binaryOp_repeat_ref (T := "list") (U := "int") (by decide) ⟨_,e,rfl⟩ (λs'=>typeIs_int s' k t) noFill_list_mul F.fills_int_mul F.slot_int_rmul repeat_list F.slot_int_index.lookup
  (aj9 F.slot_int_rmul (typeIs_int s k t) F.entry_int_rmul (F.args_int_rmul_2 _ _) (int___rmul___int_list k t l its.toArray n)
   ⟨e,rfl,⟨_,e,rfl⟩,aj9 F.slot_list_mul ⟨_,e,rfl⟩ F.entry_list_mul (F.args_list_mul_2 _ _) (AutoListH.list___mul___list_int_3 l its.toArray n k t Y S J) ⟨e,?_⟩⟩)
 rw[Z];exact⟨.ref _,_,I.lnew (t':=s.toks) (r.rep k.toNat) (by rw[xM,Nat.mul_comm];exact hz),rfl,q _ I.fresh⟩
end
section
variable {prog:Program}{w:World}{A:Around}{E:Value->Shared->Prop}{s:Shared}
end
section
variable {X:Cx}
end
end L2
namespace Att
open PySem PySem.W PySem.Calls PyProof.Rows
theorem nR {P:Params}{h:Heap}:∀ (z:List Int) (vs:List Value),WellAll P h vs (z.map WData.int)->IntsAre vs z:=by
 intro z
 induction z with
 | nil =>
  intro vs w;rw[ajh] at w;cases w;exact .nil
 | cons n z J =>
  intro vs w;rw[af0] at w;cases w with
  | cons a b =>
   cases a;exact .cons _ _ (J _ b)
theorem zj {l:OpenLaw}{n:Nat}(hn:l.most=some n){P:Params}{h:Heap}{args:List WData}{J:List Value}
 (O:l.row.toRowW.claim.pre args=true)(aa:WellAll P h J args) :
 ∃ a vs z,J=[Value.ref a]/\args=[WData.list (z.map WData.int)]/\h.get? a=some { cls:=.type "list",data:=.seq vs.toArray }/\IntsAre vs z/\z.length<=n:=by
 have ac:WShape.hasAll [] args [.list .int]=true:=(pre_splitW O).1;have hc:l.pre.holds [] { args:=args }=true:=(pre_splitW O).2;obtain⟨d,r,rfl,h1,h2⟩:=hasAllW_cons ac;obtain rfl:=hasAllW_nil h2;obtain⟨xs,rfl,h3⟩:=hasW_list h1;obtain⟨z,rfl⟩:=items_int h3;have S:z.length<=n:=by
  unfold OpenLaw.pre at hc;have Y:(WTm.not (.lt (.lit (.int (n:Int))) (.len (.arg 0)))).holds [] { args:=[.list (z.map .int)] }=true:=by
   have Y:=(holds_andW hc).1;rw[hn] at Y;exact Y
  have Z:=condW_of Y (w_not (w_lt w_lit (w_len_list (w_arg rfl))));rw[afz] at Z;refine akv λq=>?_;have q':(n:Int) < ((z.length:Nat):Int):=by lia
  first
   | (rw[afM q'] at Z;exact absurd Z (by decide))
   | (simp at Z;lia)
 cases aa with
 | cons w1 w2 =>
  cases w2;cases w1 with
  | list ho U=>exact⟨_,_,z,rfl,rfl,ho,nR z _ U,S⟩
theorem xI (l:OpenLaw)(args:List WData):l.row.toRowW.claim.post args (.bool true) args=true :=
 postW_of (r:=l.row.toRowW) (X:=(true == true))
  (show WShape.has [] (.bool true) .bool=true by first | rfl | decide | simp[WShape.has,WShape.arms,WShape.armsAll])
  (show (WTm.eq .res (.lit (.bool true))).value [] { args:=args,res:=some (.bool true),after:=args }=some (.bool (true == true)) from w_eq_bool (w_res rfl) w_lit) rfl
theorem attach_call {l:OpenLaw}{n:Nat}{q:Program}{z:List Str}{XP:(Str->Option Value)->Heap->Prop}{YP:World->Heap->Prop}{d:DefRec}
 (hn:l.most=some n)(ad:d.params.defaults=[])
 (call:∀ (w:World) (s₀ s₁:Shared) (mg mb:Str->Option Value) (S:Addr) (o:Obj) (pm cd J:Value) (a:Addr) (vs:List Value) (ns:List Int),
  Ground q z [] XP w s₀ mg mb s₁.heap->YP w s₁.heap →
  s₁.heap.get? S=some o->o.data=.func (docDef d.name d.params d.body d.scope pm cd J)->s₁.heap.CodeRec cd d.name->mg d.name=some (.ref S) →
  s₁.heap.get? a=some { cls:=.type "list",data:=.seq vs.toArray }->IntsAre vs ns->ns.length<=n->s₁.gens=#[] →
  codeAny (model l.prog w) callerA (.call (.ref S) ⟨[.ref a],[]⟩) (λr s'=>r=.ok (.ret (.bool true))/\OldK s₁.heap s'.heap/\s'.os=s₁.os/\AllBare s'.gens) s₁) :
 WalkO q z XP YP l.row.toRowW d [] (λf vs=>PySem.call f vs):=by
 intro w s₀ s₁ mg mb G Y S o pm cd J dV kV ho hd ag hD ah hg am an as U ao aw ai ax;obtain rfl:dV=.none:=Dflts.none hD ad;obtain rfl:kV=.none:=Dflts.noKw hD;obtain⟨a,vs,ns,rfl,rfl,Z,O,aa⟩:=zj hn U ai;refine enter_call (air (call w s₀ s₁ mg mb S o pm cd J a vs ns G Y ho (fd_plain hd) ag ah Z O aa hg) λr s' hq=>?_);obtain⟨rfl,h2,h3,h4⟩:=hq;exact⟨.inl ⟨.bool true,.bool true,[],rfl,λ_=>rfl,.bool true,xI l _,λ_=>⟨List.Pairwise.nil,λ_ hm=>(nomatch hm)⟩⟩,h2,h3,h4⟩
section
variable {prog:Program}{w:World}{A:Around}{E:Value->Shared->Prop}{s:Shared}{K:Frag}
end
end Att
namespace L2
open PySem PySem.Spec PyProof.Rows
theorem jI:∀ {vs:List Value} {ns:List Int},IntsAre vs ns->Vals (ns.map V.int) vs
 | _,_,.nil=>.nil
 | _,_,.cons n t h=>.cons ⟨t,rfl⟩ (jI h)
def aeF (H:Hp):Prop:=∀ b,H b=none\/∃ o xs,H b=some (.frz o (.lst xs))
theorem aa3 {P:Program}{w:World}{K:PySem.W.Frag}{mg mb:Str->Option Value}{CX:CXT}{k:Nat}{fa a:Addr}{fd:FuncData}{x:Str}{sp:Sp}{s₁:Shared}{vs:List Value}{Z:List Int}
 (KX:K.In s₁.heap)(aa:s₁.heap.Ns mainGlobals mg)(O:s₁.heap.Ns builtinsNs mb)(am:∀ x:Str,x ≠ "__name__" → mb x=bootBuiltins x)(ac:s₁.heap.NoLimit)(hg:s₁.gens=#[])
 (ha:s₁.heap.get? a=some { cls:=.type "list",data:=.seq vs.toArray })(hi:IntsAre vs Z)(hl:Z.length<=sizeLine)(hr:Room k callerA)
 (F:∀ base:Heap,K.In base->base.Ns mainGlobals mg->FnOk P w K mg base CX k fa fd [x] sp)(Y:∀ (s:Shared) (u:Value),BindsTo s fd ⟨[u],[]⟩ [(x,u)])
 (an:∀ H:Hp,aeF H->SqL K H a (Z.map V.int)->sp [.ref a] H (λv _=>v=.bl true) λ_ _ _=>False)
 (ao:∀ H e s',CX [] H s₁ (λ_ _ _=>False) e s'->False) :
 codeAny (model P w) callerA (.call (.ref fa) ⟨[.ref a],[]⟩) (λr s'=>r=.ok (.ret (.bool true))/\OldK s₁.heap s'.heap/\s'.os=s₁.os/\AllBare s'.gens) s₁:=by
 have rv:=jI hi;have ad:=hi.length;have U:∀ H:Hp,aeF H->SqL K H a (Z.map V.int)->HOk P w H s₁.heap->(∀ b,H b≠none->b=a)->(H a≠none->K.lookup a=none) →
  codeAny (model P w) callerA (.call (.ref fa) ⟨[.ref a],[]⟩) (λr s'=>r=.ok (.ret (.bool true))/\OldK s₁.heap s'.heap/\s'.os=s₁.os/\AllBare s'.gens) s₁:=by
  intro H hO hS ae hA hK;have J:∀ {b:Addr} {o:Obj},s₁.heap.get? b=some o->H b=none->(aaT s₁.heap H).get? b=some o:=λe n=>abH e n;have ap:∀ {b:Addr} {o:Obj} {es:Array DictEntry} {ep:Nat},s₁.heap.get? b=some o->o.data=.dict es ep->H b=none:=fun {b o es ep} e d=>by
   cases q:H b with
   | none=>rfl
   | some u =>
    have e':b=a:=hA b (by rw[q];simp);subst e';rw[ha] at e;cases e;have d':Data.seq vs.toArray _=Data.dict es ep:=d;cases d'
  have S:∀ {b:Addr} {m:Str->Option Value},s₁.heap.Ns b m->(aaT s₁.heap H).Ns b m:=fun {b m} ⟨o,es,ep,e,d,r⟩=>⟨o,es,ep,J e (ap e d),d,r⟩;have af:K.In (aaT s₁.heap H):=λb o e=>J (KX b o e) (by
   cases q:H b with
   | none=>rfl
   | some u =>
    have e':b=a:=hA b (by rw[q];simp);subst e';rw[hK (by rw[q];simp)] at e;cases e)
  have hM:Mod K mg (aaT s₁.heap H):=⟨af,S aa,⟨mb,S O,am⟩,let ⟨mc,h1,h2⟩:=ac;⟨mc,S h1,h2⟩⟩;have e0:Env0 P w K mg (aaT s₁.heap H) callerA [] s₁ H:=⟨rfl,hM,λb o e=>adg e,Nat.le_of_eq (z4 _ _),trivial,λb O=>absurd (show b∈([]:List Addr) from O) (by simp),ae,.of_eq hg⟩;refine air ((F _ af (S aa)).run callerA [] s₁ H ⟨[.ref a],[]⟩ [.ref a] [.ref a] _ _ hr e0 (Y s₁ (.ref a)) (.cons rfl .nil) (an H hO hS)) λr s' h=>?_;cases r with
  | error e=>exact (ao H e s' h).elim
  | ok fl =>
   cases fl with
   | next=>exact False.elim h
   | brk=>exact False.elim h
   | cont=>exact False.elim h
   | ret u =>
    obtain⟨v,H',os,ag,un,ah,r',q⟩:=h;have q':v=.bl true:=q;subst q';obtain rfl:u=Value.bool true:=r';refine⟨rfl,OldK.of_keep λb o e=>?_,os,ag⟩;cases q:H b with
    | none=>exact un.keep b o e q (by intro z;exact absurd (show b∈([]:List Addr) from z) (by simp)) (by simp)
    | some u =>
     rcases hO b with z | ⟨ob,xs,z⟩
     .rw[q] at z;cases z
     .have z2:=un.frzs b ob _ z;obtain⟨e1,_⟩:=ae b _ z;obtain⟨e2,_⟩:=ah b _ z2;rw[e] at e1;cases e1;exact e2
 cases hk:K.lookup a with
 | some o =>
  have e:=KX a o hk;rw[ha] at e;cases e;refine U (λ_=>none) (λ_=>.inl rfl) (.inr ⟨_,vs.toArray,_,hk,rfl,rfl,rfl,by rw[af4,ad];exact hl,by simpa using rv⟩) (λb u z=>by have z':(none:Option HO)=some u:=z;cases z') (λb z=>absurd rfl z) λz=>absurd rfl z
 | none =>
  refine U (λb=>if b=a then some (.frz { cls:=.type "list",data:=.seq vs.toArray } (.lst (Z.map V.int))) else none) (λb=>?_) (.inl (.inr ⟨{ cls:=.type "list",data:=.seq vs.toArray },if_pos rfl⟩)) (λb u z=>?_) (λb z=>?_) λ_=>hk
  .by_cases O:b=a
   .exact .inr ⟨_,_,if_pos O⟩
   .exact .inl (if_neg O)
  .by_cases O:b=a
   .have z':=(if_pos O).symm.trans z;cases z';subst O;exact⟨ha,by rw[afz];exact hl,vs,_,rv,ha⟩
   .have z':=(if_neg O).symm.trans z;cases z'
  .by_cases O:b=a
   .exact O
   .exact absurd (if_neg O) z
theorem walk_of {l:PySem.W.OpenLaw}{n k:Nat}{q:Program}{J:List Str}{XP:(Str->Option Value)->Heap->Prop}{YP:World->Heap->Prop}{d:DefRec}{K:Params->PySem.W.Frag}{CX:World->CXT}{sp:World->Sp}{x:Str}
 (hn:l.most=some n)(ac:n<=sizeLine)(ad:d.params.defaults=[])(hr:Room k callerA)
 (hY:∀ (w:World) (h:Heap),YP w h->(K w.params).In h)
 (F:∀ (w:World) (mg:Str->Option Value) (Z:Addr) (h:Heap),(K w.params).In h->h.Ns mainGlobals mg->mg d.name=some (.ref Z) →
  ∃ fd:FuncData,(∀ (s:Shared) (u:Value),BindsTo s fd ⟨[u],[]⟩ [(x,u)]) ∧
   ∀ base:Heap,(K w.params).In base->base.Ns mainGlobals mg->FnOk l.prog w (K w.params) mg base (CX w) k Z fd [x] (sp w))
 (ae:∀ (w:World) (H:Hp) (a:Addr) (ns:List Int),ns.length<=n->aeF H->SqL (K w.params) H a (ns.map V.int)->sp w [.ref a] H (λv _=>v=.bl true) λ_ _ _=>False)
 (af:∀ (w:World) (H:Hp) (s:Shared) (e:Value) (s':Shared),CX w [] H s (λ_ _ _=>False) e s'->False) :
 PySem.W.WalkO q J XP YP l.row.toRowW d [] (λf vs=>PySem.call f vs):=by
 refine Att.attach_call hn ad λw ai S mg mb Z o pm cd ao a vs ns G Y ho hd ap ag U O z hg=>?_;have KX:=hY w _ Y;obtain⟨fd,hb,hF⟩:=F w mg Z _ KX G.T.g ag;exact aa3 KX G.T.g G.T.b G.T.builtins G.T.nolimit hg U O (afR z ac) hr hF hb (λH hO hS=>ae w H a ns z hO hS) λH e s'=>af w H S e s'
def fX (s:Stmt):Arguments:=match s with
 | .FunctionDef _ a _ _ _ _ _ _ _ _=>a
 | _=>{ posonlyargs:=[],args:=[],vararg:=none,kwonlyargs:=[],kw_defaults:=[],kwarg:=none,defaults:=[] }
def bY (s:Stmt):List Stmt:=match s with
 | .FunctionDef _ _ b _ _ _ _ _ _ _=>b
 | _=>[]
def ai (s:Stmt):Scope:=match s with
 | .FunctionDef _ _ _ _ _ _ sc _ _ _=>sc
 | _=>{ kind:=.function,names:=[],isGenerator:=false,isCoroutine:=false }
abbrev CX0:CXT:=λ_ _ _ _ _ _=>False
abbrev E0:XK:=λ_ _ _=>False
theorem jd {X:Cx}:oZ CX0 X E0:=λ_ _ _ _ _ _ _ h=>h.elim
structure Fun (K:PySem.W.Frag)(x qual:Str)(st:Stmt)(f:Addr)(fd:FuncData):Prop where
 ex:∃ (oc:Value) (od:Option Addr) (kV doc pm:Value) (an:Option Addr) (cdv ct:Value) (osl:Array (Option Value)),
  fd=fnOf x qual (fX st) (bY st) (ai st) .none kV doc pm an cdv ct/\K.lookup f=some ⟨oc,od,.func fd,osl⟩/\codeIn K cdv qual=true
 kp:keepIn K (.ref f)=true
section
variable {P:Program}{w:World}{K:PySem.W.Frag}{mg:Str->Option Value}{base:Heap}
theorem Fun.ok {x qual:Str}{st:Stmt}{f:Addr}{fd:FuncData}{N ps:List Str}{k:Nat}{sp:Sp}(F:Fun K x qual st f fd)(S:aA N ps (ai st))(len:∀ vs H Q E,sp vs H Q E->vs.length=ps.length)
 (J:∀ (z:Value) (A:Around) (outer:List Env) (s:Shared) (H:Hp) (vs:List V) (Q:VK) (E:XK),Room k (A.deeper (envOfC qual (ai st) s.heap.objs.size f z))->sp vs H Q E →
  ∃ t,PSs (aaj CX0 P w K mg base N qual (ai st) f z A outer s H E).nox (bY st) t/\t { nx:=λ_ H'=>Q .non H',rt:=Q } (pW N vs) H):FnOk P w K mg base CX0 (k+1) f fd ps sp:=by
 obtain⟨oc,od,kV,Y,pm,an,z,ct,Z,rfl,lk,O⟩:=F.ex;refine ad8 lk O S len λA outer s H vs Q E hr U=>?_;obtain⟨t,h,q⟩:=J z A outer s H vs Q E hr U;exact⟨t,h.nox,q⟩
theorem Fun.binds {x qual:Str}{st:Stmt}{f:Addr}{fd:FuncData}{ps:List Str}(F:Fun K x qual st f fd)
 (h:∀ (kV z O:Value) (S:Option Addr) (J ct:Value) (us:List Value),us.length=ps.length->bindArgs (fnOf x qual (fX st) (bY st) (ai st) .none kV z O S J ct) ⟨us,[]⟩=pure (ps.zip us)):Binds K fd ps []:=by
 obtain⟨Z,od,kV,z,O,S,J,ct,U,rfl,lk,Y⟩:=F.ex;exact .all (h kV z O S J ct)
theorem fun_mk {x qual:Str}{st:Stmt}{f:Addr}{Y:Value}{Z S:Option Addr}{O:Array (Option Value)}{kV J U z ct:Value}(l:K.lookup f=some ⟨Y,Z,.func (fnOf x qual (fX st) (bY st) (ai st) .none kV J U S z ct),O⟩)
 (c:codeIn K z qual=true)(k:keepIn K (.ref f)=true):Fun K x qual st f (fnOf x qual (fX st) (bY st) (ai st) .none kV J U S z ct):=⟨⟨Y,Z,kV,J,U,S,z,ct,O,rfl,l,c⟩,k⟩
end
theorem du {A:Around}{k:Nat}(z:Room k A):A.units+1 < cLine:=agc (agu (by decide:1<=64) _) z.units
theorem iA {n:Nat}(h:n<=1000):n < sizeLine:=agc h (by decide)
section
variable {X:Cx}
theorem pv (i:Nat){x:Str}{pos:Pos}(J:X.N[i]? = some x:=by rfl)(O:Vis X.env.scope x:=by first | exact Or.inl rfl | exact Or.inr (.inl rfl) | exact Or.inr (.inr rfl))(S:(x == ("__debug__" : Str))=false:=by decide)
 (z:(x == ("__classdict__" : Str))=false:=by decide):PE X (.Name x pos) (adC i):=adI J O S z
end
theorem cu {A B:Prop}(h:B):if false=true then A else B:=by
 rw[if_neg afC];exact h
theorem dt {A B:Prop}(h:A):if true=true then A else B:=by
 rw[if_pos rfl];exact h
theorem aeb {c A B:Prop}[Decidable c](h1:c->A)(h2:¬ c->B):if c then A else B:=by
 by_cases h:c
 .rw[if_pos h];exact h1 h
 .rw[if_neg h];exact h2 h
def Same (H H':Hp):Prop:=∀ b o,H b=some o->H' b=some o
theorem Same.refl (H:Hp):Same H H:=λ_ _ h=>h
theorem Same.trans {H H1 H2:Hp}(a:Same H H1)(b:Same H1 H2):Same H H2:=λc o h=>b c o (a c o h)
theorem Same.free {H H':Hp}(e:Same H H'){l:Addr}(h:H' l=Option.none):H l=Option.none:=by
 cases q:H l with
 | none=>rfl
 | some o =>
  rw[e l o q] at h;cases h
theorem Same.seq {K:PySem.W.Frag}{H H':Hp}{a:Addr}{xs:List V}(e:Same H H')(h:SqL K H a xs):SqL K H' a xs:=by
 rcases h with (h | ⟨o,h⟩) | h
 .exact .inl (.inl (e _ _ h))
 .exact .inl (.inr ⟨o,e _ _ h⟩)
 .exact .inr h
section
variable {κ:Type}[DecidableEq κ]
def gG (kvs:List (κ×V))(k:κ):Option V:=(kvs.find? λkv=>decide (kv.1=k)).map (·.2)
def j6 (kvs:List (κ×V))(k:κ)(v:V):List (κ×V) :=
 if (kvs.any λkv=>decide (kv.1=k))=true then kvs.map (λkv=>if kv.1=k then (kv.1,v) else kv) else kvs++[(k,v)]
theorem cB {p:κ×V}{r:List (κ×V)}{k:κ}(e:p.1=k):gG (p::r) k=some p.2:=by simp[gG,ait,e]
theorem cD {p:κ×V}{r:List (κ×V)}{k:κ}(e:¬ p.1=k):gG (p::r) k=gG r k:=by simp[gG,ait,e]
theorem gN (k:κ):∀ kvs:List (κ×V),(kvs.any λkv=>decide (kv.1=k))=(gG kvs k).isSome
 | []=>rfl
 | p::r=>by
  rw[ahF];by_cases e:p.1=k
  .simp only[cB e,afM e,akF,Option.isSome_some]
  .rw[cD e,afS e,akk];exact gN k r
theorem vh (k j:κ)(y:V):∀ kvs:List (κ×V),gG (kvs.map λkv=>if kv.1=k then (kv.1,y) else kv) j=(gG kvs j).map λx=>if j=k then y else x
 | []=>rfl
 | p::r=>by
  have J:=vh k j y r;rw[af0];by_cases h:p.1=k
  .rw[if_pos h];by_cases e:p.1=j
   .rw[cB (p:=(p.1,y)) e,cB e,ajA,if_pos (e.symm.trans h)]
   .rw[cD (p:=(p.1,y)) e,cD e,J]
  .rw[if_neg h];by_cases e:p.1=j
   .rw[cB (p:=p) e,cB e,ajA,if_neg (λz=>h (e.trans z))]
   .rw[cD (p:=p) e,cD e,J]
theorem qU (k j:κ)(y:V):∀ kvs:List (κ×V),gG kvs k=none->gG (kvs++[(k,y)]) j=if j=k then some y else gG kvs j
 | [],_=>by
  by_cases e:k=j
  .rw[if_pos e.symm];exact cB (p:=(k,y)) e
  .rw[if_neg (λz=>e z.symm)];exact cD (p:=(k,y)) e
 | p::r,hn=>by
  rw[ahC];have J:¬ p.1=k:=λz=>by rw[cB z] at hn;cases hn
  rw[cD J] at hn;have O:=qU k j y r hn;by_cases e:p.1=j
  .rw[cB e,cB e,if_neg (λz=>J (e.trans z))]
  .rw[cD e,cD e,O]
theorem vM (kvs:List (κ×V))(k j:κ)(y:V):gG (j6 kvs k y) j=if j=k then some y else gG kvs j:=by
 unfold j6;by_cases a:(kvs.any λz=>decide (z.1=k))=true
 .rw[if_pos a,vh];rw[gN] at a;by_cases e:j=k
  .obtain⟨x,J⟩:=aj6.mp a;rw[if_pos e,e,J,ajA,if_pos rfl]
  .rw[if_neg e];cases gG kvs j with
   | none=>rfl
   | some x=>rw[ajA,if_neg e]
 .rw[if_neg a];refine qU k j y kvs ?_;rw[gN] at a;cases q:gG kvs k with
  | none=>rfl
  | some x=>rw[q] at a;exact (a rfl).elim
theorem fT (kvs:List (κ×V))(k:κ)(v:V):(j6 kvs k v).length<=kvs.length+1:=by
 unfold j6;split
 .rw[afz];lia
 .rw[afH,age,akG];lia
theorem vT {kvs:List (κ×V)}{k:κ}(v:V)(h:gG kvs k=none):j6 kvs k v=kvs++[(k,v)]:=by
 unfold j6;rw[gN,h];exact if_neg (by decide)
theorem RelO.isSome_eq {o:Option V}{u:Option Value}(r:RelO o u):o.isSome=u.isSome:=by
 cases o with
 | none=>cases u with
  | none=>rfl
  | some _=>exact (show False from r).elim
 | some _=>cases u with
  | none=>exact (show False from r).elim
  | some _=>rfl
theorem KV.val {kvs:List (κ×V)}{vs:List (κ×Value)}(r:KV kvs vs)(k:κ):RelO (gG kvs k) (valueAt vs k):=by
 unfold KV at r
 induction r with
 | nil=>exact True.intro
 | @cons p q ps J h t S =>
  obtain⟨h1,h2⟩:=h;by_cases e:p.1=k
  .have O:q.1=k:=h1.symm.trans e;have b:valueAt (q::J) k=some q.2:=by simp[valueAt,ait,O]
   rw[cB e,b];exact h2
  .have O:¬ q.1=k:=λz=>e (h1.trans z);have b:valueAt (q::J) k=valueAt J k:=by simp[valueAt,ait,O]
   rw[cD e,b];exact S
theorem KV.any {kvs:List (κ×V)}{vs:List (κ×Value)}(r:KV kvs vs)(k:κ):(kvs.any λkv=>decide (kv.1=k))=vs.any λkv=>decide (kv.1=k):=by
 unfold KV at r
 induction r with
 | nil=>rfl
 | cons h t z=>rw[ahF,ahF,z,h.1]
theorem KV.repl {kvs:List (κ×V)}{vs:List (κ×Value)}(r:KV kvs vs)(k:κ){y:V}{u:Value}(J:RelV y u) :
 KV (kvs.map λkv=>if kv.1=k then (kv.1,y) else kv) (vs.map λkv=>if kv.1=k then (kv.1,u) else kv):=by
 unfold KV at r ⊢
 induction r with
 | nil=>exact .nil
 | @cons p q ps S h t O =>
  rw[af0,af0];refine .cons ?_ O;obtain⟨h1,h2⟩:=h;by_cases e:p.1=k
  .rw[if_pos e,if_pos (h1.symm.trans e)];exact⟨h1,J⟩
  .rw[if_neg e,if_neg (λz=>e (h1.trans z))];exact⟨h1,h2⟩
theorem KV.put {kvs:List (κ×V)}{vs:List (κ×Value)}(r:KV kvs vs)(k:κ){y:V}{u:Value}(z:RelV y u):KV (j6 kvs k y) (stored vs k u):=by
 unfold j6 stored;rw[r.any k];by_cases e:(vs.any λJ=>decide (J.1=k))=true
 .rw[if_pos e,if_pos e];exact r.repl k z
 .rw[if_neg e,if_neg e];exact Paired.snoc r ⟨rfl,z⟩
theorem KV.keys {kvs:List (κ×V)}{vs:List (κ×Value)}(r:KV kvs vs):kvs.map (·.1)=vs.map (·.1):=by
 unfold KV at r
 induction r with
 | nil=>rfl
 | cons h t z=>rw[af0,af0,z,h.1]
theorem KV.length {kvs:List (κ×V)}{vs:List (κ×Value)}(r:KV kvs vs):kvs.length=vs.length:=akj r
end
theorem tR {P:Program}{w:World}{k:Key}{u:Value}(r:RelV (kV k) u):(aU P w).is k u=true:=by
 cases k with
 | inl i=>obtain⟨t,e⟩:=(show ∃ t,u=Value.int i t from r);subst e;exact uh P w i t
 | inr x=>obtain⟨t,e⟩:=(show ∃ t,u=Value.str x t from r);subst e;exact t5 P w x t
theorem rq {P:Program}{w:World}:∀ {ks:List Key} {us:List Value},Vals (ks.map kV) us->ItemsAre (aU P w) ks us
 | [],_,r=>by rw[ajh] at r;cases r;exact .nil
 | k::ks,_,r=>by
  rw[af0] at r;cases r with
  | cons h t=>exact .cons (tR h) (rq t)
abbrev KT (H:Hp):List (List Key×V)->List (List Key×Addr×Value)->Prop:=Paired λp q=>p.1=q.1/\H q.2.1=some (.tup (p.1.map kV))/\RelV p.2 q.2.2
theorem KT.val {H:Hp}{kvs:List (List Key×V)}{xs:List (List Key×Addr×Value)}(r:KT H kvs xs)(k:List Key):RelO (gG kvs k) ((atKey xs k).map (·.2)):=by
 induction r with
 | nil=>exact True.intro
 | @cons p q ps J h t S =>
  obtain⟨h1,_,h2⟩:=h;by_cases e:p.1=k
  .have O:q.1=k:=h1.symm.trans e;have b:atKey (q::J) k=some q.2:=by simp[atKey,ait,O]
   rw[cB e,b];exact h2
  .have O:¬ q.1=k:=λz=>e (h1.trans z);have b:atKey (q::J) k=atKey J k:=by simp[atKey,ait,O]
   rw[cD e,b];exact S
theorem KT.repl {H:Hp}{kvs:List (List Key×V)}{xs:List (List Key×Addr×Value)}(r:KT H kvs xs)(k:List Key){y:V}{u:Value}(J:RelV y u) :
 KT H (kvs.map λkv=>if kv.1=k then (kv.1,y) else kv) (xs.map (putAt k u)):=by
 induction r with
 | nil=>exact .nil
 | @cons p q ps U h t O =>
  rw[af0,af0];refine .cons ?_ O;obtain⟨h1,h2,S⟩:=h;unfold putAt;by_cases e:p.1=k
  .rw[if_pos e,if_pos (h1.symm.trans e)];exact⟨h1,h2,J⟩
  .rw[if_neg e,if_neg (λz=>e (h1.trans z))];exact⟨h1,h2,S⟩
theorem KT.put {H:Hp}{kvs:List (List Key×V)}{xs:List (List Key×Addr×Value)}(r:KT H kvs xs)(k:List Key){b:Addr}{y:V}{u:Value}(J:H b=some (.tup (k.map kV)))(z:RelV y u) :
 KT H (j6 kvs k y) (storedH xs k b u):=by
 have e:(kvs.any λO=>decide (O.1=k))=(atKey xs k).isSome:=by
  rw[gN,(r.val k).isSome_eq,aka]
 unfold j6 storedH;rw[e];by_cases q:(atKey xs k).isSome=true
 .rw[if_pos q,if_pos q];exact r.repl k z
 .rw[if_neg q,if_neg q];exact Paired.snoc r ⟨rfl,J,z⟩
theorem KT.keeps {H H':Hp}{kvs:List (List Key×V)}{xs:List (List Key×Addr×Value)}(r:KT H kvs xs)(J:∀ b ys,H b=some (.tup ys)->H' b=some (.tup ys)):KT H' kvs xs :=
 Paired.mapP r λ_ _ z=>⟨z.1,J _ _ z.2.1,z.2.2⟩
section
variable {P:Program}{w:World}{H:Hp}{h:Heap}{a:Addr}
theorem adm {u:HO}(ok:HOk P w H h)(e:Rd H a u):ObjOk P w H h a u:=e.ok ok
theorem zw {kvs:List (Key×V)}(ok:HOk P w H h)(e:Rd H a (.dK kvs)):kvs.length<=sizeLine/\(a == sysModules)=false/\∃ vs,KV kvs vs/\h.DictOf (aU P w) a vs :=
 show ObjOk P w H h a (.dK kvs) from adm ok e
theorem ud {kvs:List (Key×V)}(ok:HOk P w H h)(e:H a=some (.dK kvs)):kvs.length<=sizeLine/\(a == sysModules)=false/\∃ vs,KV kvs vs/\h.DictOf (aU P w) a vs:=zw ok (.inl e)
theorem rZ {ks:List Key}(ok:HOk P w H h)(e:H a=some (.tup (ks.map kV))):(tupleKind (aU P w)).is h ks a:=by
 obtain⟨_,its,r,o,h1,h2,n,z⟩:=(show ObjOk P w H h a (.tup (ks.map kV)) from ok a _ e);exact⟨o,its.toArray,n,h1,h2,z,by simpa using rq r⟩
theorem xZ {kvs:List (List Key×V)}(ok:HOk P w H h)(e:Rd H a (.dT kvs)):kvs.length<=sizeLine/\(a == sysModules)=false ∧
 ∃ xs,KT H kvs xs/\h.DictOfH (tupleKind (aU P w)) a xs:=by
 obtain⟨z,y,xs,r,o,es,ep,h1,h2,O,S,U⟩:=(show ObjOk P w H h a (.dT kvs) from adm ok e);refine⟨z,y,xs,r,o,es,ep,h1,h2,O,S,λx hx=>?_,U⟩;have all:∀ {l:List (List Key×V)} {m:List (List Key×Addr×Value)},KT H l m->∀ x∈m,(tupleKind (aU P w)).is h x.1 x.2.1:=by
  intro l m q
  induction q with
  | nil=>intro x hx;exact nomatch hx
  | @cons p q ps Z J t Y =>
   intro x hx;rcases afZ.mp hx with e | hx
   .subst e;exact rZ ok (by rw[← J.1];exact J.2.1)
   .exact Y x hx
 exact all r x hx
theorem aez {kvs:List (List Key×V)}(ok:HOk P w H h)(e:H a=some (.dT kvs)):kvs.length<=sizeLine/\(a == sysModules)=false ∧
 ∃ xs,KT H kvs xs/\h.DictOfH (tupleKind (aU P w)) a xs:=xZ ok (.inl e)
end
def DGet (H:Hp)(a:Addr)(y:V)(r:Option V):Prop :=
 (∃ kvs k,Rd H a (.dK kvs)/\y=kV k/\r=gG kvs k)\/∃ kvs k b,Rd H a (.dT kvs)/\y=.ref b/\H b=some (.tup (k.map kV))/\r=gG kvs k
def DPut (H:Hp)(a:Addr)(y v:V)(H':Hp):Prop :=
 (∃ kvs k,H a=some (.dK kvs)/\y=kV k/\kvs.length < sizeLine/\H'=upd H a (.dK (j6 kvs k v))) ∨
 ∃ kvs k b,H a=some (.dT kvs)/\y=.ref b/\H b=some (.tup (k.map kV))/\kvs.length < sizeLine/\H'=upd H a (.dT (j6 kvs k v))
theorem DGet.k {H:Hp}{a:Addr}{kvs:List (Key×V)}{k:Key}(e:H a=some (.dK kvs)):DGet H a (kV k) (gG kvs k):=.inl ⟨kvs,k,.inl e,rfl,rfl⟩
theorem DPut.k {H:Hp}{a:Addr}{kvs:List (Key×V)}{k:Key}{v:V}(e:H a=some (.dK kvs))(z:kvs.length < sizeLine):DPut H a (kV k) v (upd H a (.dK (j6 kvs k v))):=.inl ⟨kvs,k,e,rfl,z,rfl⟩
section
variable {X:Cx}{pins:List (Addr×Obj)}{σ:St}{H:Hp}{s:Shared}{a:Addr}{y v:V}{u r:Value}{o:Option V}{A:Around}{E:Value->Shared->Prop}
theorem Inv.big (I:Inv X pins σ H s):sysModules < s.heap.objs.size:=by
 have h:mainGlobals < s.heap.objs.size:=(I.mod.glob.keeps I.bk).lt;exact ajR (by decide) h
theorem zq {Q:Value->Shared->Prop}(hu:A.units+1 < cLine)(I:Inv X pins σ H s)(g:DGet H a y (some v))(Z:RelV y u)(h:∀ S s',Inv X pins σ H s'->RelV v S->Q S s') :
 wpAny (model X.prog X.w) A (getItem (.ref a) u) Q E s:=by
 rcases g with ⟨kvs,k,e,U,l⟩ | ⟨kvs,k,b,e,U,eb,l⟩
 .subst U;obtain⟨z,hd,vs,J,dd⟩:=zw I.hok e;obtain⟨S,hw,O⟩:=RelO.some_of (v:=v) (o:=valueAt vs k) (by rw[l];exact J.val k);exact wpAny_getItem_of (tR Z) dd.mapOf hw (h S _ (I.tok _) O)
 .subst U;cases (show u=Value.ref b from Z);obtain⟨z,hd,xs,J,dd⟩:=xZ I.hok e;obtain⟨S,hw,O⟩:=RelO.some_of (v:=v) (o:=(atKey xs k).map (·.2)) (by rw[l];exact J.val k);obtain⟨p,hp,Y⟩:=agQ.mp hw;refine wpAny_getItem_heap (aiT hu) (rZ I.hok eb) dd hp ?_;rw[Y];exact h S _ (I.tok _) O
theorem afj {Q:Value->Shared->Prop}(Y:A.units+1 < cLine)(I:Inv X pins σ H s)(g:DGet H a y o)(U:RelV y u)(h:∀ s',Inv X pins σ H s'->Q (.bool o.isSome) s') :
 wpAny (model X.prog X.w) A (compareOp .In u (.ref a)) Q E s:=by
 rcases g with ⟨kvs,k,e,O,l⟩ | ⟨kvs,k,b,e,O,Z,l⟩
 .subst O;obtain⟨z,S,vs,J,dd⟩:=zw I.hok e;refine wpAny_in_of (tR U) S dd.mapOf ?_;rw[← (J.val k).isSome_eq,← l];exact h _ (I.tok _)
 .subst O;cases (show u=Value.ref b from U);obtain⟨z,S,xs,J,dd⟩:=xZ I.hok e;refine wpAny_in_heap (aiT Y) (rZ I.hok Z) S dd ?_;have q:=(J.val k).isSome_eq;rw[aka] at q;rw[← q,← l];exact h _ (I.tok _)
theorem acE {Q:Value->Shared->Prop}(Y:A.units+1 < cLine)(I:Inv X pins σ H s)(g:DGet H a y o)(U:RelV y u)(h:∀ s',Inv X pins σ H s'->Q (.bool (!o.isSome)) s') :
 wpAny (model X.prog X.w) A (compareOp .NotIn u (.ref a)) Q E s:=by
 rcases g with ⟨kvs,k,e,O,l⟩ | ⟨kvs,k,b,e,O,Z,l⟩
 .subst O;obtain⟨z,S,vs,J,dd⟩:=zw I.hok e;refine wpAny_notIn_of (tR U) S dd.mapOf ?_;rw[← (J.val k).isSome_eq,← l];exact h _ (I.tok _)
 .subst O;cases (show u=Value.ref b from U);obtain⟨z,S,xs,J,dd⟩:=xZ I.hok e;refine wpAny_notIn_heap (aiT Y) (rZ I.hok Z) S dd ?_;have q:=(J.val k).isSome_eq;rw[aka] at q;rw[← q,← l];exact h _ (I.tok _)
theorem nO {h':Heap}{t':Nat}{J:HO}(I:Inv X pins σ H s)(O:Mut (H a))(S:Heap.SameBut a s.heap h')(U:∃ q,h'.get? a=some q)(new:ObjOk X.prog X.w (upd H a J) h' a J) :
 Inv X pins σ (upd H a J) { s with heap:=h',toks:=t' } :=
 I.write (x:=a) (e:=a) O (.inl rfl) (λb q Y z=>(S.2 b Y).trans z) U new
theorem xT {P:Program}{w:World}{H':Hp}{h':Heap}{kvs:List (Key×V)}{vs:List (Key×Value)}(z:kvs.length<=sizeLine)(O:(a == sysModules)=false)(J:KV kvs vs)(dd:h'.DictOf (aU P w) a vs) :
 ObjOk P w H' h' a (.dK kvs):=⟨z,O,vs,J,dd⟩
theorem ym {H':Hp}{Q:Unit->Shared->Prop}(hu:A.units+1 < cLine)(I:Inv X pins σ H s)(g:DPut H a y v H')(ry:RelV y u)(rv:RelV v r)(h:∀ s',Inv X pins σ H' s'->Q () s') :
 wpAny (model X.prog X.w) A (setItem (.ref a) u r) Q E s:=by
 rcases g with ⟨kvs,k,e,U,l,Y⟩ | ⟨kvs,k,b,e,U,eb,l,Y⟩
 .subst U Y;obtain⟨z,Z,vs,J,dd⟩:=ud I.hok e;have hz:vs.length<=sizeLine:=by rw[← J.length];exact z
  have hl:(j6 kvs k v).length<=sizeLine:=by have:=fT kvs k v;lia
  refine wpAny_setItem_pairs (hsz:=hz) (tR ry) dd λh' O hs=>h _ ?_;have he:∃ q,h'.get? a=some q:=let ⟨q,_,_,S,_⟩:=O;⟨q,S⟩;exact nO I (by rw[e];exact True.intro) hs he (xT hl Z (J.put k rv) O)
 .subst U Y;cases (show u=Value.ref b from ry);obtain⟨z,Z,xs,J,dd⟩:=aez I.hok e;have hz:xs.length<=sizeLine:=by rw[← akj J];exact z
  have hl:(j6 kvs k v).length<=sizeLine:=by have:=fT kvs k v;lia
  refine wpAny_setItem_heap (hsz:=hz) (aiT hu) (rZ I.hok eb) dd λh' O hs=>h _ ?_;obtain⟨q,es,ep,S,h2,h3,h4,_,h5⟩:=O;refine nO I (by rw[e];exact True.intro) hs ⟨q,S⟩ ⟨hl,Z,_,(J.put k eb rv).keeps λc ys ec=>?_,q,es,ep,S,h2,h3,h4,h5⟩;rw[ao (y3 ec e (λz=>nomatch z))];exact ec
end
section
variable {X:Cx}{pins:List (Addr×Obj)}{σ:St}{H:Hp}{s:Shared}{a:Addr}{kvs:List (Key×V)}{k:Key}{u:Value}{A:Around}{E:Value->Shared->Prop}
end
def ae4 (i:Expr):Prop:=∀ ov iv,subscripted i false ov iv=operate [ov,iv] (getItem ov iv)
theorem acL {prog:Program}{w:World}{A:Around}{E:Value->Shared->Prop}{s:Shared}{env:Env}{value z:Expr}{pos:Pos}{T id:String}{Q:Value->Shared->Prop}
 (hl:typeLookup (.type T) "__getitem__" = pure (some (.builtin id)))(hs:ae4 z)
 (h:wpAny (model prog w) A (eval value env) (λo s₁=>wpAny (model prog w) A (eval z env) (λi J=>J.TypeIs o T/\wpAny (model prog w) A (getItem o i) Q E J) E s₁) E s) :
 wpAny (model prog w) A (eval (.Subscript value z pos) env) Q E s:=by
 refine Subscript_ (agq h (λo s₁ Y=>agq Y (λi J O=>?_) λ_ _ x=>x) λ_ _ x=>x);obtain⟨hT,O⟩:=O;unfold subscriptTail;refine afy ?_;rw[getitemInPython_of_ne hT.not_modules];refine afy (wpAny_specialOf hT hl ?_);have U:wpAny (model prog w) A (subscripted z false o i) (λr S=>wpAny (model prog w) A (letTemporaryGo value o r >>= λ_=>pure r) Q E S) E J:=by
  rw[hs o i];exact wpAny_operating (agq O (λr S Z=>afy (wpAny_letTemporaryGo (afE Z))) λ_ _ x=>x)
 first
  | exact afE (afy U)
  | exact afy (afE (afy U))
  | exact afy U
theorem tW {X:Cx}{pins:List (Addr×Obj)}{σ:St}{H:Hp}{s:Shared}{a:Addr}{y:V}{o:Option V}(I:Inv X pins σ H s)(g:DGet H a y o):s.TypeIs (.ref a) "dict" := by
 rcases g with ⟨kvs,k,e,_,_⟩ | ⟨kvs,k,b,e,_,_,_⟩
 .obtain⟨_,_,vs,_,dd⟩:=zw I.hok e;exact dd.typeIs
 .obtain⟨_,_,xs,_,dd⟩:=xZ I.hok e;exact dd.typeIs
def aep (td ty:TE):TE:=λσ H Q=>td σ H λx H1=>ty σ H1 λy H2=>∃ a v,x=.ref a/\DGet H2 a y (some v)/\Q v H2
def afq (ty td:TE):TE:=λσ H Q=>ty σ H λy H1=>td σ H1 λx H2=>∃ a o,x=.ref a/\DGet H2 a y o/\Q (.bl o.isSome) H2
def acp (ty td:TE):TE:=λσ H Q=>ty σ H λy H1=>td σ H1 λx H2=>∃ a o,x=.ref a/\DGet H2 a y o/\Q (.bl (!o.isSome)) H2
def aea (td ty tv:TE):TS:=λD σ H=>tv σ H λv H1=>td σ H1 λx H2=>ty σ H2 λy H3=>∃ a H4,x=.ref a/\DPut H3 a y v H4/\D.nx σ H4
section
variable {X:Cx}{o i e value:Expr}{pos pos' tpos:Pos}{td ty tv:TE}
theorem ma (O:X.A.units+1 < cLine)(S:PE X o td)(hi:PE X i ty)(U:ae4 i):PE X (.Subscript o i pos) (aep td ty):=by
 intro pins s σ H Q I h;refine acL PySem.F.slot_dict_getitem.lookup U (thn (S pins s σ H _ I h) λu Y ⟨x,H1,Z,rx,q1⟩=>thn (hi pins Y σ H1 _ Z q1) λiv s2 ⟨y,H2,J,ry,a,v,ex,g,q2⟩=>?_);subst ex;obtain rfl:u=Value.ref a:=rx;exact⟨tW J g,zq O J g ry λw' s3 I3 z=>⟨v,H2,I3,z,q2⟩⟩
theorem ab1 (z:X.A.units+1 < cLine)(hi:PE X i ty)(J:PE X o td):PC X .In i o (afq ty td):=by
 intro pins s σ H Q I h;refine thn (hi pins s σ H _ I h) λiv O ⟨y,H1,S,U,Y⟩=>thn (J pins O σ H1 _ S Y) λu s2 ⟨x,H2,Z,rx,a,ov,ex,g,q2⟩=>?_;subst ex;obtain rfl:u=Value.ref a:=rx;exact afj z Z g U λs3 I3=>⟨.bl ov.isSome,H2,I3,rfl,q2⟩
theorem sD (z:X.A.units+1 < cLine)(hi:PE X i ty)(J:PE X o td):PC X .NotIn i o (acp ty td):=by
 intro pins s σ H Q I h;refine thn (hi pins s σ H _ I h) λiv O ⟨y,H1,S,U,Y⟩=>thn (J pins O σ H1 _ S Y) λu s2 ⟨x,H2,Z,rx,a,ov,ex,g,q2⟩=>?_;subst ex;obtain rfl:u=Value.ref a:=rx;exact acE z Z g U λs3 I3=>⟨.bl (!ov.isSome),H2,I3,rfl,q2⟩
theorem uK (z:X.A.units+1 < cLine)(J:PE X o td)(hi:PE X i ty)(O:PE X value tv)(S:swapsWith value (some (.Subscript o i pos')) pos.line X.env=pure false) :
 PS X (.Assign [.Subscript o i pos'] value pos) (aea td ty tv):=by
 intro pins s σ H D I h;refine wpAny_Assign_Subscript (thn (O pins s σ H _ I h) λr U ⟨v,H1,Y,Z,q1⟩=>thn (J pins U σ H1 _ Y q1) λu s2 ⟨x,H2,I2,rx,q2⟩=>thn (hi pins s2 σ H2 _ I2 q2) λiv s3 ⟨y,H3,I3,ry,a,H4,ex,g,q3⟩=>?_) S;subst ex;obtain rfl:u=Value.ref a:=rx;exact ym z I3 g ry Z λs4 I4=>⟨σ,H4,I4,q3⟩
end
theorem qM {P:Program}{w:World}{H:Hp}(h:Heap)(z:sysModules < h.objs.size):ObjOk P w H (h.push { cls:=.type "dict",data:=.dict #[] }) h.objs.size (.dK []) :=
 ⟨af5 _,ah7.mpr (ahf (afU z)),[],.nil,Heap.DictOf.new h⟩
def adW:TE:=λ_ H Q=>∀ p,H p=none->Q (.ref p) (upd H p (.dK []))
section
variable {X:Cx}{pos:Pos}
theorem qy:PE X (.Dict [] [] pos) adW:=λpins s σ H Q I h =>
 wpAny_Dict_empty ⟨.ref s.heap.objs.size,_,I.laid (a:=s.heap.objs.size) (o:=.dK []) (t':=s.toks) (λ_ _ q=>afB _ q) (afG _) (qM s.heap I.big),rfl,h _ (I.hok.fresh (afG _))⟩
end
def ab0:List (TE×TE)->St->Hp->(List (V×V)->Hp->Prop)->Prop
 | [],_,H,Q=>Q [] H
 | (tk,tv)::r,σ,H,Q=>tk σ H λx H1=>tv σ H1 λy H2=>ab0 r σ H2 λps H3=>Q ((x,y)::ps) H3
abbrev VV:List (V×V)->List (Value×Value)->Prop:=Paired λp q=>RelV p.1 q.1/\RelV p.2 q.2
def PPs (X:Cx)(pos:Pos)(keys:List (Option Expr))(values:List Expr)(trs:List (TE×TE)):Prop :=
 ∀ (pins:List (Addr×Obj)) (s:Shared) (σ:St) (H:Hp) (Q:List (V×V)->Hp->Prop),Inv X pins σ H s->ab0 trs σ H Q →
  wpAny (model X.prog X.w) X.A (evalPairs (pairTrees keys values X.env pos)) (λvs s'=>∃ ps H',Inv X pins σ H' s'/\VV ps vs/\Q ps H') X.xe s
theorem ac5 {X:Cx}{pos:Pos}:PPs X pos [] [] []:=λpins s σ H Q I h=>pairTrees_nil_walk ⟨[],H,I,.nil,h⟩
theorem abt {X:Cx}{pos:Pos}{k v:Expr}{ks:List (Option Expr)}{vs:List Expr}{tk tv:TE}{z:List (TE×TE)}(O:PE X k tk)(S:PE X v tv)(U:PPs X pos ks vs z) :
 PPs X pos (some k::ks) (v::vs) ((tk,tv)::z):=λpins s σ H Q I h =>
 pairTrees_cons_walk (thn (O pins s σ H _ I h) λu Y ⟨x,H1,Z,rx,q1⟩=>thn (S pins Y σ H1 _ Z q1) λw2 s2 ⟨y,H2,I2,ry,q2⟩ =>
  thn (U pins s2 σ H2 _ I2 q2) λws s3 ⟨ps,H3,I3,J,q3⟩=>⟨(x,y)::ps,H3,I3,.cons ⟨rx,ry⟩ J,q3⟩)
structure M1 (X:Cx)(o:Expr)(m:Str)(apos:Pos)(e:Expr)(cpos:Pos):Prop where
 base:attributeBase o m X.env (eval o X.env)=eval o X.env
 few:((backTo cpos (starEach [e] X.env)).all (λx=>!x.1) && (backToKw cpos (keywordEach [] X.env)).all (λx=>x.1.isSome)
  && decide (([e]:List Expr).length+([]:List Keyword).length+(if ([]:List Keyword).isEmpty then 0 else 1) < 30))=true
 line:(apos.endLine == cpos.line)=true
 trees:backTo cpos (starEach [e] X.env)=[(false,eval e X.env)]
structure M2 (X:Cx)(o:Expr)(m:Str)(apos:Pos)(e f:Expr)(cpos:Pos):Prop where
 base:attributeBase o m X.env (eval o X.env)=eval o X.env
 few:((backTo cpos (starEach [e,f] X.env)).all (λx=>!x.1) && (backToKw cpos (keywordEach [] X.env)).all (λx=>x.1.isSome)
  && decide (([e,f]:List Expr).length+([]:List Keyword).length+(if ([]:List Keyword).isEmpty then 0 else 1) < 30))=true
 line:(apos.endLine == cpos.line)=true
 trees:backTo cpos (starEach [e,f] X.env)=[(false,eval e X.env),(false,eval f X.env)]
section
variable {X:Cx}{pins:List (Addr×Obj)}{σ:St}{H:Hp}{s:Shared}{a:Addr}{y d:V}{u r:Value}{o:Option V}{A:Around}{E:Value->Shared->Prop}
end
section
variable {X:Cx}{o e f:Expr}{apos cpos:Pos}{td ty tx:TE}
end
section
variable {X:Cx}{pins:List (Addr×Obj)}{σ:St}{H:Hp}{s:Shared}{a:Addr}{kvs:List (Key×V)}{A:Around}{E:Value->Shared->Prop}
end
section
variable {X:Cx}{pins:List (Addr×Obj)}{σ:St}{H:Hp}{s:Shared}{a:Addr}{y:V}{u:Value}{A:Around}{E:Value->Shared->Prop}
end
def jw (env:Env):List (Str×NameKind)->List (Str×Addr)->List (Str×Addr)
 | [],cs=>cs
 | (n,k)::r,cs=>jw env r (if k=.free then (n,(env.cells.lookup n).getD 0)::cs else cs)
theorem xX {env:Env}:∀ (J:List (Str×NameKind)) (z:List (Str×Addr)),(∀ x∈J,x.2=.free->∃ c,env.cells.lookup x.1=some c) →
 (forIn (m:=Sem) J z λ(x:Str×NameKind) (r:List (Str×Addr))=>(if (x.2 == .free)=true then (do let a ← cellOf env x.1;pure (ForInStep.yield ((x.1,a)::r))) else pure (ForInStep.yield r)))=pure (jw env J z)
 | [],z,_=>by simp[jw]
 | (n,k)::r,z,h=>by
  have U:=λz=>xX r z λx Z=>h x (af6 _ Z);rw[List.forIn_cons];by_cases O:k=.free
  .subst O;obtain⟨c,Y⟩:=h (n,.free) afX rfl;have e1:cellOf env n=pure c:=by unfold cellOf;rw[Y]
   have S:(NameKind.free == NameKind.free)=true:=rfl;simp only[S,ai7,e1,pure_bind,jw,Y,aiI];exact U _
  .have S:(k == NameKind.free)=false:=by simpa using O
   simp only[S,agD,aiq,pure_bind,jw,if_neg O];exact U _
theorem qt {env:Env}:∀ (S:List (Str×NameKind)) (z:List (Str×Addr)) (x:Str) (c:Addr),(∀ x∈S,x.2=.free->∃ c,env.cells.lookup x.1=some c)->(jw env S z).lookup x=some c->z.lookup x=some c\/env.cells.lookup x=some c
 | [],z,x,c,_,e=>.inl e
 | (n,k)::r,z,x,c,h,e=>by
  have ih:=qt r (if k=.free then (n,(env.cells.lookup n).getD 0)::z else z) x c (λx J=>h x (af6 _ J)) e;rcases ih with ih | ih
  .by_cases U:k=.free
   .subst U;rw[if_pos rfl] at ih;obtain⟨d,Y⟩:=h (n,.free) afX rfl;have O:env.cells.lookup n=some d:=Y;rw[O] at ih;rw[ahl] at ih;cases J:x == n with
    | true =>
     rw[J] at ih;have:x=n:=by simpa using J
     subst this;right;rw[O];exact ih
    | false =>
     rw[J] at ih;exact .inl ih
   .rw[if_neg U] at ih;exact .inl ih
  .exact .inr ih
theorem tL {env:Env}:∀ (J:List (Str×NameKind)) (z:List (Str×Addr)) (x:Str),(∃ c,z.lookup x=some c)->∃ c,(jw env J z).lookup x=some c
 | [],_,_,h=>h
 | (n,k)::r,z,x,h=>by
  refine tL r _ x ?_;split
  .rw[ahl];split
   .exact⟨_,rfl⟩
   .exact h
  .exact h
theorem jJ {env:Env}:∀ (z:List (Str×NameKind)) (J:List (Str×Addr)) (x:Str),(x,NameKind.free)∈z->∃ c,(jw env z J).lookup x=some c
 | [],_,_,h=>nomatch h
 | (n,k)::r,J,x,h=>by
  rcases afZ.mp h with e | h
  .cases e;refine tL r _ _ ⟨(env.cells.lookup n).getD 0,?_⟩;rw[if_pos rfl,ahl,ahm]
  .exact jJ r _ x h
theorem gr {scope:Scope}{env:Env}(h:∀ x∈scope.names,x.2=.free->∃ c,env.cells.lookup x.1=some c):closureFor scope env=pure (jw env scope.names []):=by
 have e:=xX scope.names [] h;unfold closureFor;simp only[] at e ⊢;rw[e]
 rfl
theorem gU {scope:Scope}{env:Env}{x:Str}{k:NameKind}:(relabel scope env).names.lookup x=some k->∃ z,(x,z)∈scope.names/\(k=z\/(z=.free/\k=.cell)):=by
 intro h;have all:∀ (J:List (Str×NameKind)),(J.map λ(n,k)=>if (k == NameKind.free && env.scope.kind == .function && env.kindOf n == some .cell) then (n,NameKind.cell) else (n,k)).lookup x=some k->∃ z,(x,z)∈J/\(k=z\/(z=.free/\k=.cell)):=by
  intro J
  induction J with
  | nil=>intro h;simp at h
  | cons y r S =>
   obtain⟨n,z⟩:=y;intro h;rw[af0,ahl] at h;by_cases O:(z == NameKind.free && env.scope.kind == .function && env.kindOf n == some .cell)=true
   .simp only[O,ai7] at h;cases hx:x == n with
    | true =>
     rw[hx] at h;have e:x=n:=by simpa using hx
     subst e;have U:z=.free:=by
      simp only[agf] at O;simpa using O.1.1
     exact⟨z,afX,.inr ⟨U,(agT h).symm⟩⟩
    | false =>
     rw[hx] at h;obtain⟨k2,h1,h2⟩:=S h;exact⟨k2,af6 _ h1,h2⟩
   .simp only[O,agD,aiq] at h;cases hx:x == n with
    | true =>
     rw[hx] at h;have e:x=n:=by simpa using hx
     subst e;exact⟨z,afX,.inl (agT h).symm⟩
    | false =>
     rw[hx] at h;obtain⟨k2,h1,h2⟩:=S h;exact⟨k2,af6 _ h1,h2⟩
 exact all scope.names h
def Cx.comp (X:Cx)(scope:Scope)(N':List Str)(C:Addr)(fp:List Addr)(s₀:Shared)(H₀:Hp):Cx :=
 { X with N:=N',s₀:=s₀,H₀:=H₀,env:=compEnvC scope (jw X.env scope.names []) C X.env,outer:=X.stack,stack:=X.stack,ex:=fp,fn:=λ_=>false,pn:=[],xe:=λ_ _=>False }
structure CompScope (X:Cx)(scope:Scope):Prop where
 kind:scope.kind=.function
 nocell:∀ x∈scope.names,x.2≠.cell
 loc:∀ x∈scope.names,x.2=.local->scope.names.lookup x.1=some .local
 free:∀ x∈scope.names,x.2=.free->X.env.kindOf x.1=some .cell
section
variable {X:Cx}{pins:List (Addr×Obj)}{σ:St}{H:Hp}{s:Shared}{scope:Scope}{N':List Str}{fp:List Addr}
theorem CompScope.cells (S:CompScope X scope)(ok:X.Ok):∀ x∈scope.names,x.2=.free->∃ c,X.env.cells.lookup x.1=some c:=λx z J=>ok.has x.1 (.inl (S.free x z J))
theorem CompScope.sub (S:CompScope X scope)(ok:X.Ok){x:Str}{c:Addr}(e:(jw X.env scope.names []).lookup x=some c):X.env.cells.lookup x=some c:=by
 rcases qt scope.names [] x c (S.cells ok) e with h | h
 .cases h
 .exact h
theorem CompScope.ok (S:CompScope X scope)(I:Inv X pins σ H s)(J:∀ b∈fp,kA X pins H b)(U:∀ b∈fp,b < s.heap.objs.size):(X.comp scope N' s.heap.objs.size fp s H).Ok where
 mod:=I.ok.mod
 kind:=S.kind
 glob:=I.ok.glob
 blt:=I.ok.blt
 above:=afG _
 inj:=λx y c Y Z=>I.ok.inj x y c (S.sub I.ok Y) (S.sub I.ok Z)
 has:=λx hx=>by
  have O:(relabel scope X.env).names.lookup x=some .cell\/(relabel scope X.env).names.lookup x=some .free:=hx;have fr:(x,NameKind.free)∈scope.names:=by
   rcases O with h | h
   .obtain⟨k',h1,h2⟩:=gU h;rcases h2 with h2 | ⟨h2,_⟩
    .subst h2;exact absurd rfl (S.nocell _ h1)
    .subst h2;exact h1
   .obtain⟨k',h1,h2⟩:=gU h;rcases h2 with h2 | ⟨h2,h3⟩
    .subst h2;exact h1
    .cases h3
  exact jJ scope.names [] x fr
 cab:=λx c h _=>by cases h
 hd:=I.ok.hd
 frames:=I.ok.frames
 stk:=.inl rfl
 exf:=λb z=>⟨afU (U b z),λx c e=>(J b z).2.2.2.2.1 x c (S.sub I.ok e)⟩
 bs:=I.bs
 bsz:=afR I.ok.bsz I.sz
 noex:=λb o e z=>by
  rcases (J b z).2.2.2.1 with h | h
  .exact I.ok.noex b o e h
  .exact absurd (afW (afI e) (afR I.ok.bsz h)) (agB _)
 exfs:=λb z hs=>by
  rcases afZ.mp (I.stkSub b hs) with h | h
  .exact (J b z).2.1 h
  .exact (J b z).2.2.1 h
 funs:=I.stack
 frf:=I.stkFree
def bM (nl:Nat)(ix:List Nat)(σ:St):St:=List.replicate nl none++ix.map λj=>(σ[j]?).join
structure abK (X:Cx)(scope:Scope)(N':List Str)(nl:Nat)(ix:List Nat):Prop where
 len:N'.length=nl+ix.length
 at':∀ (k j:Nat),ix[k]? = some j->∃ x,X.N[j]? = some x/\N'[nl+k]? = some x/\X.env.kindOf x=some .cell/\(relabel scope X.env).names.lookup x=some .cell/\(x,NameKind.free)∈scope.names
theorem lR {nl:Nat}{ix:List Nat}{h1:Heap}{tk:Nat}(S:CompScope X scope)(Cp:abK X scope N' nl ix)(I:Inv X pins σ H s)(hf:∀ b∈fp,kA X pins H b)(ho:∀ b∈fp,b < s.heap.objs.size)
 (hn:h1.Ns s.heap.objs.size (λ_=>none))(hk:∀ b o,s.heap.get? b=some o->h1.get? b=some o):Inv (X.comp scope N' s.heap.objs.size fp s H) [] (bM nl ix σ) H { s with heap:=h1,toks:=tk }:=by
 have ok:=S.ok (N':=N') I hf ho;refine⟨ok,rfl,I.bare,Un.kept hk,⟨_,hn,λi x v e1 e2 e3=>?_⟩,λx c e=>?_,I.hok.fresh (afG _),λx c e=>I.freeC x c (S.sub I.ok e),λp hp=>by simp[Cx.comp] at hp,I.hok.kept hk,?_⟩
 .unfold bM at e2;rw[ajq] at e2;split at e2
  .rw[ah9] at e2;split at e2<;>simp at e2
  .rename_i hi;rw[agY] at hi e2;rw[afF] at e2;cases ej:ix[i - nl]? with
   | none=>rw[ej] at e2;simp at e2
   | some j =>
    rw[ej] at e2;have J:(σ[j]?).join=some v:=by simpa using e2
    have U:σ[j]? = some (some v):=by
     cases q:σ[j]? with
     | none=>rw[q] at J;simp at J
     | some z=>rw[q] at J;simp at J;rw[J]
    obtain⟨x',a1,a2,a3,a4,a5⟩:=Cp.at' _ _ ej;have ae:nl+(i - nl)=i:=by lia
    rw[ae] at a2;have Y:N'[i]? = some x:=e1;rw[a2] at Y;cases Y;obtain⟨m,hm,hl⟩:=I.loc;obtain⟨u,r,l⟩:=hl j x v a1 U (.inr (.inl a3));refine⟨u,r,?_⟩;rcases l with ⟨k,_⟩ | ⟨_,c,ec,z⟩
    .rw[k] at a3;cases a3
    .obtain⟨c',Z⟩:=jJ (env:=X.env) scope.names [] x a5;have aa:=S.sub I.ok Z;rw[ec] at aa;cases aa;obtain⟨o,O,hd⟩:=z;exact .inr ⟨.inl a4,c,Z,o,hk _ _ O,hd⟩
 .obtain⟨v,o,O,hd⟩:=I.cell x c (S.sub I.ok e);exact⟨v,o,hk _ _ O,hd⟩
 .show (bM nl ix σ).length=N'.length;unfold bM;rw[afH,agY,afz,Cp.len]
theorem jX {H':Hp}{Z:St}{pins':List (Addr×Obj)}{s':Shared}{h':Heap}(I:Inv X pins σ H s)(U:∀ b∈fp,kA X pins H b)
 (S:Inv (X.comp scope N' s.heap.objs.size fp s H) pins' Z H' s')(Y:Heap.SameBut s.heap.objs.size s'.heap h'):Inv X pins σ H' { s' with heap:=h' }:=by
 have lo:∀ b o,s.heap.get? b=some o->b≠s.heap.objs.size:=λb o e=>afU (afI e);have B:=S.base;refine I.call' (ch:=fp) (show s'.os=s.os from S.os) ⟨λb o e n J O=>?_,λb o e n J O=>?_,λb o e n O=>B.free b o e n O,λb o e O=>?_,B.tups,B.frzs,B.tbls⟩ (λb u e=>?_) S.bare λb J=>⟨(U b J).2.2.2.1,(U b J).2.1,(U b J).2.2.2.2.1,(U b J).2.2.2.2.2⟩
 .exact (Y.2 b (lo b o e)).trans (B.keep b o e n J O)
 .obtain⟨sl,q⟩:=B.slot b o e n J O;exact⟨sl,(Y.2 b (lo b o e)).trans q⟩
 .obtain⟨o',q⟩:=B.there b o e O;exact⟨o',(Y.2 b (lo b o e)).trans q⟩
 .have nl:H' s.heap.objs.size=none:=S.free;refine (S.hok b u e).stay (λc v hc q=>(Y.2 c ?_).trans q) (λ_ q=>q) λ_ _ q=>q;rintro rfl;rcases hc with z | z
  .rw[← z,nl] at e;cases e
  .rw[nl] at z;cases z
end
def PIf (X:Cx)(ifs:List Expr)(t:TT):Prop :=
 ∀ (pins:List (Addr×Obj)) (s:Shared) (σ:St) (H:Hp) (Q:Bool->Hp->Prop),Inv X pins σ H s->t σ H Q →
  wpAny (model X.prog X.w) X.A (forIn ifs true λc r=>if r=true then do let ok ← isTrue c X.env (eval c X.env);pure (ForInStep.yield ok) else pure (ForInStep.yield r)) (TP X pins σ Q) X.xe s
def uI:TT:=λ_ H Q=>Q true H
theorem aT {X:Cx}:PIf X [] uI:=λ_ _ _ H _ I h=>akH ⟨H,I,h⟩
theorem iF {X:Cx}{c:Expr}{t:TT}(h:PT X c t):PIf X [c] t:=λpins s σ H Q I hw=>wpAny_tests_one (h pins s σ H Q I hw)
section
variable {prog:Program}{w:World}{A:Around}{R:Result->Shared->Prop}{s:Shared}
theorem j9 {ad J iter:Expr}{ifs:List Expr}{scope:Scope}{pos:Pos}{it acc:Value}{env:Env}(I:Nat->Shared->Prop)
 (ag:∀ n s,I n s->wpAny (model prog w) A (pyNext it) (λr s₁=>match r with
  | none=>R (.ok .next) s₁
  | some v=>wpAny (model prog w) A (letOwnedTupleGo J it v) (λ_ O=>wpAny (model prog w) A (assign J env v) (λ_ U =>
   wpAny (model prog w) A (forIn ifs true λc r=>if r=true then do let ok ← isTrue c env (eval c env);pure (ForInStep.yield ok) else pure (ForInStep.yield r)) (λok S =>
    if ok=true then wpAny (model prog w) A (eval ad env) (λx Y =>
     wpAny (model prog w) A (call (.builtin "list.append") [acc,x]) (λ_ Z=>∃ m,m < n/\I m Z) (λ_ _=>False) Y) (λ_ _=>False) S
    else ∃ m,m < n/\I m S) (λ_ _=>False) U) (λ_ _=>False) O) (λ_ _=>False) s₁) (λ_ _=>False) s)
 (n:Nat)(h:I n s) :
 codeAny (model prog w) A (.compLoop (.ListComp ad [⟨J,iter,ifs,0⟩] scope pos) 0 it acc env) R s:=by
 have no:∀ {E:Value->Shared->Prop} (x:Value) (s:Shared),False->E x s:=λ_ _ z=>z.elim;refine akI rfl I (λn s hI=>?_) n h;show wpAny _ A ((compTurn (.ListComp ad [⟨J,iter,ifs,0⟩] scope pos) 0 it acc env).onRaise (λx=>do noteFrame x env;theTreesLotGoes x)) _ _ s;refine alb ?_;rw[compTurn_list];refine afy (ag8 (afy (agq (ag n s hI) (λr s₁ aa=>?_) no)));cases r with
 | none=>exact afE aa
 | some v =>
  refine afy (agq aa (λ_ O ae=>afy (agq ae (λ_ U ah=>afy (agq ah (λok S ac=>?_) no)) no)) no);cases ok with
  | false=>exact afE ⟨rfl,ac⟩
  | true =>
   exact afy (afy (agq ac (λx Y ai=>afy (agq ai (λ_ Z aj=>afE (afE ⟨rfl,aj⟩)) no)) no))
end
def mX (nl:Nat)(ix:List Nat)(wi:TI)(g:TG)(tf:TT)(te:TE):TE:=λσ H Q=>wi σ H λJ H1=>∀ D,H1 D=none->∃ W:Nat->Nat->List V->Hp->Prop,(∃ m,W 0 m [] (upd H1 D (.lst []))) ∧
 ∀ i m ys H2,W i m ys H2->H2 D=some (.lst ys)/\((J.stop i H2/\Q (.ref D) H2)\/(J.go i H2/\∀ x H3,J.yld i H2 x H3->g x (bM nl ix σ) H3 λσ4 H4=>(σ4.length=(bM nl ix σ).length/\σ4.drop nl=ix.map λj=>(σ[j]?).join)/\tf σ4 H4 λb H5 =>
  if b=true then te σ4 H5 λy H6=>H6 D=some (.lst ys)/\ys.length < sizeLine/\∃ m',m' < m/\W (i+1) m' (ys++[y]) (upd H6 D (.lst (ys++[y]))) else ∃ m',m' < m/\W (i+1) m' ys H5))
theorem hV {X:Cx}{pins:List (Addr×Obj)}{σ z:St}{H:Hp}{s:Shared}{nl:Nat}{ix:List Nat}(I:Inv X pins z H s)(O:z.length=(bM nl ix σ).length)(S:z.drop nl=ix.map λj=>(σ[j]?).join):Inv X pins (bM nl ix σ) H s:=by
 refine I.weak O.symm λi v e=>?_;unfold bM at e;rw[ajq] at e;split at e
 .rw[ah9] at e;split at e<;>simp at e
 .rename_i hi;rw[agY] at hi e;rw[← S,ajS] at e;have J:nl+(i - nl)=i:=by lia
  rw[J] at e;exact e
section
variable {X:Cx}
theorem lX {aq tg iter:Expr}{ifs:List Expr}{scope:Scope}{pos:Pos}{N':List Str}{nl:Nat}{ix:List Nat}{wi:TI}{g:TG}{tf:TT}{te:TE}(hc:X.calm=true)(S:CompScope X scope)(Cp:abK X scope N' nl ix)(hi:PI X tg iter wi)
 (hg:∀ C fp s₀ H₀,PG (X.comp scope N' C fp s₀ H₀) tg g)(hf:∀ C fp s₀ H₀,PIf (X.comp scope N' C fp s₀ H₀) ifs tf)(he:∀ C fp s₀ H₀,PE (X.comp scope N' C fp s₀ H₀) aq te)
 (hs:∀ x,foldedSetIterable iter X.env x=pure x:=by intro _;rfl):PE X (.ListComp aq [⟨tg,iter,ifs,0⟩] scope pos) (mX nl ix wi g tf te):=by
 intro pins s σ H Q I h;rw[eval_ListComp];refine ahz (use:=none) (cl:=jw X.env scope.names []) rfl hs (gr (S.cells I.ok)) S.kind S.loc ?_;refine thn (hi pins s σ H _ I h) λv s1 h1=>thn h1 λbr z h2=>?_;obtain⟨it,fp,tn,J,H2,rfl,I2,T,ar,f2,h2⟩:=h2;obtain⟨W,⟨m0,w0⟩,ay⟩:=h2 z.heap.objs.size I2.fresh;refine ahh (aiD S.nocell (by intro y hy;simp at hy) (λae Y Z=>?_) S.kind);dsimp only at Y Z ⊢;have az:∀ b∈fp,b < z.heap.objs.size:=λb O=>by
  obtain⟨o,e,_⟩:=T.obj 0 _ ar b O;exact afI e
 have I3:Inv X pins σ (upd H2 z.heap.objs.size (.lst [])) { z with heap:=z.heap.push { cls:=.type "list",data:=.seq ([]:List Value).toArray },toks:=z.toks }:=I2.lnew .nil (af5 _);have hD:(upd H2 z.heap.objs.size (.lst [])) z.heap.objs.size=some (.lst []):=af;have f3:∀ b∈fp,kA X pins (upd H2 z.heap.objs.size (.lst [])) b:=λb O=>by
  refine⟨?_,(f2 b O).2⟩;rw[ao (afU (az b O))];exact (f2 b O).1
 generalize hS3:z.heap.push { cls:=.type "list",dict:=none,data:=.seq ([]:List Value).toArray }=g3 at Y Z I3 ⊢;have aT:g3.objs.size=z.heap.objs.size+1:=by rw[← hS3,agw]
 have ap:∀ b∈fp,b < ({ z with heap:=g3,toks:=z.toks }:Shared).heap.objs.size:=λb O=>by
  show b < g3.objs.size;rw[aT];exact agr (az b O)
 have as:∀ b o,g3.get? b=some o->ae.get? b=some o:=λb o e=>Z.extBut b o (afU (afI e)) (afB _ e);have I4:=lR (tk:=z.toks+([]:List (Str×Value)).length) S Cp I3 f3 ap Y as;generalize hX:X.comp scope N' g3.objs.size fp { z with heap:=g3,toks:=z.toks } (upd H2 z.heap.objs.size (.lst []))=U at *;have ag:U.prog=X.prog:=by rw[← hX];rfl
 have ah:U.w=X.w:=by rw[← hX];rfl
 have aA:U.K=X.K:=by rw[← hX];rfl
 have aU:U.A=X.A:=by rw[← hX];rfl
 have aB:U.calm=true:=by rw[← hX];exact hc
 have am:U.xe=λ_ _=>False:=by rw[← hX];rfl
 have au:U.ex=fp:=by rw[← hX];rfl
 have aV:U.pn=[]:=by rw[← hX];rfl
 have aC:U.env.locals=g3.objs.size:=by rw[← hX];rfl
 have aW:U.env=compEnvC scope (jw X.env scope.names []) g3.objs.size X.env:=by rw[← hX];rfl
 have aD:=hg g3.objs.size fp { z with heap:=g3,toks:=z.toks } (upd H2 z.heap.objs.size (.lst []));have aE:=hf g3.objs.size fp { z with heap:=g3,toks:=z.toks } (upd H2 z.heap.objs.size (.lst []));have aF:=he g3.objs.size fp { z with heap:=g3,toks:=z.toks } (upd H2 z.heap.objs.size (.lst []));rw[hX] at aD aE aF;have av:Inv U [] (bM nl ix σ) (upd H2 z.heap.objs.size (.lst [])) { z with heap:=ae,toks:=z.toks+([]:List (Str×Value)).length }:=I4;have aG:∀ {H':Hp} {σ':St} {pins':List (Addr×Obj)} {s':Shared} {h':Heap},Inv U pins' σ' H' s'->Heap.SameBut g3.objs.size s'.heap h'->Inv X pins σ H' { s' with heap:=h' }:=λI' sb=>by
  subst hX;exact jX I3 f3 I' sb
 have ai:∀ {H':Hp},(∀ b∈fp,H' b=none)->∀ b∈fp,kA U [] H' b:=λhn b O=>by
  refine⟨hn b O,?_,?_,.inl (by rw[au];exact O),?_,λp hp=>by rw[aV] at hp;cases hp⟩
  .rw[aC];exact afU (ap b O)
  .exact av.ok.exfs b (by rw[au];exact O)
  .exact (av.ok.exf b (by rw[au];exact O)).2
 have aj:codeAny (model X.prog X.w) X.A (.compLoop (.ListComp aq [⟨tg,iter,ifs,0⟩] scope pos) 0 (.ref it) (.ref z.heap.objs.size) U.env)
  (compPost (model X.prog X.w) X.A X.xe none (EP X pins σ Q) (.ref z.heap.objs.size) g3.objs.size) { z with heap:=ae,toks:=z.toks+([]:List (Str×Value)).length }:=by
  rw[← ag,← ah,← aU];refine j9 (λn s'=>∃ i ys H',Inv U [] (bM nl ix σ) H' s'/\tn i s'.heap/\(∀ b∈fp,H' b=none)/\W i n ys H') ?_ m0
   ⟨0,[],_,av,T.keep _ _ _ ar (λb O o e=>as b o (by rw[← hS3];exact afB _ e)),λb O=>(f3 b O).1,w0⟩
  rintro n s5 ⟨i,ys,H5,I5,aH,aI,w5⟩;obtain⟨bA,aX⟩:=ay i n ys H5 w5;rcases aX with ⟨aJ,qn⟩ | ⟨go,step⟩
  .rw[ag,ah];refine thn (T.done U ag ah aA aB i [] s5 _ H5 _ I5 (ai aI) aH aJ) λr s6 ⟨hr,I6⟩=>?_;subst hr;obtain⟨m,hn,_⟩:=I6.loc;rw[aC] at hn;exact⟨m,hn,λh' sb=>⟨.ref z.heap.objs.size,H5,aG I6 sb,rfl,qn⟩⟩
  .have aK:=T.item U ag ah aA aB i [] s5 _ H5 (λ_ _=>False) I5 (ai aI) aH go;rw[← ag,← ah] at aK;refine thn aK λr s6 ⟨u,hr,h6⟩=>?_;subst hr;refine thn h6 λ_ s7 ⟨x,H7,I7,r7,y7,aw,aZ⟩=>?_;have a0:=I7.pinned (ai aZ) (T.obj _ _ aw);have g7:=aD _ s7 _ H7 x u _ a0 r7 (step x H7 y7);rw[am] at g7;refine thn g7 λ_ s8 ⟨an,H8,I8,⟨a1,a2⟩,q8⟩=>?_;have f8:=aE _ s8 an H8 _ I8 q8;rw[am] at f8;refine thn f8 λok s9 ⟨H9,I9,q9⟩=>?_;have ak:∀ {ac:Hp} {ad:Shared} {ax:List V},Inv U ([]++f7 fp s7.heap) an ac ad->(∃ m',m' < n/\W (i+1) m' ax ac)->∃ m,m < n/\∃ i ys H',Inv U [] (bM nl ix σ) H' ad/\tn i ad.heap/\(∀ b∈fp,H' b=none)/\W i m ys H':=fun {ac ad ax} al ⟨m',hm,w'⟩=>by
    refine⟨m',hm,i+1,ax,ac,hV al.unpinned a1 a2,T.keep _ _ _ aw λb O o e=>(al.pin (b,o) (afQ _ (afQ _ (bo O e)))).1,λb O=>?_,w'⟩;obtain⟨o,e,d⟩:=T.obj _ _ aw b O;exact (al.pin (b,o) (afQ _ (afQ _ (bo O e)))).2.1
   cases ok with
   | false =>
    rw[if_neg afC] at q9 ⊢;exact ak I9 q9
   | true =>
    rw[if_pos rfl] at q9 ⊢;have e9:=aF _ s9 an H9 _ I9 q9;rw[am] at e9;refine thn e9 λxv ad ⟨y,ac,al,a3,aL,hz,mw⟩=>?_;have aM:=cx (X:=U) _ ad an ac (.ref z.heap.objs.size) [y] _ [xv] (λ_ H'=>H'=upd ac z.heap.objs.size (.lst (ys++[y]))) al rfl (.cons a3 .nil) ⟨_,ys,y,rfl,rfl,aL,hz,rfl⟩;rw[am] at aM;refine thn aM λ_ bU ⟨_,bV,a4,_,a5⟩=>?_;subst a5;exact ak a4 mw
 rw[aW] at aj;exact ai4 aj (T.self _ 0 _ _ _ (T.keep _ _ _ ar (λb O o e=>as b o (by rw[← hS3];exact afB _ e))) aj)
theorem ky:∀ {ss:List Str} {us:List Value},Vals (ss.map V.str) us->StrsAre us ss
 | [],_,.nil=>.nil
 | _::_,_,.cons r t=>by
  obtain⟨k,rfl⟩:=r;exact .cons _ k (ky t)
theorem kC:∀ {ss:List Str} {us:List Value},StrsAre us ss->Vals (ss.map V.str) us
 | _,_,.nil=>.nil
 | _,_,.cons y t h=>.cons ⟨t,rfl⟩ (kC h)
theorem uZ:∀ bs:List Bool,(List.range bs.length).all (λi=>bs.getD i false)=bs.all id
 | []=>rfl
 | b::r=>by
  rw[age,akB,ajt,ahG,ajt,← uZ r]
  rfl
theorem fh (hc:X.calm=true):eG X (.builtin "all") (λxs H Q=>∃ (p:Addr) (bs:List Bool),xs=[.ref p]/\SqL X.K H p (bs.map V.bl)/\Q (.bl (bs.all id)) H):=by
 intro pins s σ H xs us Q I r h;obtain⟨p,bs,rfl,hq,q⟩:=h;obtain⟨u,rfl,rx⟩:=gz r;cases rx;obtain⟨its,rv,S,hz⟩:=I.list hq;have hh:X.A.in1.handled=none:=I.ok.hd hc;have U:p < s.heap.objs.size:=by obtain⟨o,e,_⟩:=S.isList;exact afI e
 have J:=rv.length;rw[afz] at J;refine call_all_walk (ahZ S.isList ?_);refine⟨s.heap.objs.size,_,_,_,_,_,λi=>bs.getD i false,rfl,akY hh s.heap.objs.size p (afU U) its.toArray,⟨⟨_,afK _ rfl,rfl,rfl⟩,S.isList.push _⟩,λi v s' Q' E' hv Y=>?_,λh' tk hk=>?_⟩
 .have O:its[i]? = some v:=by simpa using hv
  have hi:i < its.length:=(afA.mp O).1;have Z:bs[i]? = some (bs.getD i false):=by
   rw[afJ];rw[afx (by lia)]
   rfl
  obtain⟨u,hu,ru⟩:=rv.get (i:=i) (x:=.bl (bs.getD i false)) (by rw[afF,Z];rfl);rw[O] at hu;cases hu;cases ru;exact agJ Y
 .have e:(List.range its.toArray.size).all (λi=>bs.getD i false)=bs.all id:=by
   rw[af4,← J,uZ]
  rw[e];refine⟨.bl _,H,?_,rfl,q⟩;refine (I.kept (t':=s.toks) (h':=s.heap.push { cls:=.type "list_iterator",data:=.fields #[.ref p,.int 0 0] }) λb o e=>afB _ e).turned (it:=s.heap.objs.size) (t':=tk) (h':=h') (λb o Z e=>hk b o (by simpa using Z) e) I.fresh (ah6 I.lt) (.inr I.sz) (λx c e z=>?_) λp' hp z=>?_
  .obtain⟨v,q⟩:=I.cell x c e;exact absurd (z▸q.lt) (agB _)
  .exact absurd (z▸afI (I.pin p' hp).1) (agB _)
theorem mP:eG X (.builtin "sorted") (λxs H Q=>∃ (p:Addr) (ss:List Str),xs=[.ref p]/\SqL X.K H p (ss.map V.str)/\ss.length < 64/\∀ (l:Addr) (z:List Str),H l=none->z.Perm ss->sortedS z=true->Q (.ref l) (upd H l (.lst (z.map V.str)))):=by
 intro pins s σ H xs us Q I r h;obtain⟨p,ss,rfl,Y,hl,q⟩:=h;obtain⟨u,rfl,Z⟩:=gz r;cases Z;obtain⟨its,S,pl,hz⟩:=I.list Y;have J:=S.length;rw[afz] at J;refine sorted_strs pl.isList (ky S) (by lia) λout z a1 U a3=>?_;obtain⟨e,he⟩:=sortedAll_at s.heap its out;have O:z.length=ss.length:=U.length_eq;refine⟨.ref (s.heap.objs.size+1),_,I.laid (t':=s.toks) (o:=.lst (z.map V.str)) (λb o e=>sortedAll_old e) (agV _) ⟨?_,out.toList,e,kC a1,?_⟩,rfl,q _ z (I.hok.fresh (agV _)) U a3⟩
 .rw[afz];exact ahc (afW (by lia:z.length < 64) (by decide))
 .simpa using he
def adV:V->List V->Hp->VK->Prop:=λx vs H Q=>∃ (l:Addr) (ss:List Str) (k:Str),x=.ref l/\vs=[.str k]/\H l=some (.lst (ss.map V.str))/\Q (.int (ss.count k)) H
theorem tT (k:Str):∀ ss:List Str,countIn (.str k) (ss.map PyData.str)=((ss.count k:Nat):Int):=by
 intro ss
 induction ss with
 | nil=>rfl
 | cons y r J =>
  rw[af0,countIn,J,List.count_cons];by_cases e:y=k
  .subst e;have z:same (.str y) (.str y)=true:=same_refl _;rw[if_pos z,ahm,if_pos rfl];lia
  .have z:¬ same (.str y) (.str k)=true:=by simpa [same] using e
   have O:(y == k)=false:=by simpa using e
   rw[if_neg z,O];simp
theorem gc:MtM X "list.count" adV:=by
 intro pins s σ H x vs v U Q I z J h;obtain⟨l,ss,k,rfl,rfl,O,q⟩:=h;cases z;obtain⟨u,rfl,t,rfl⟩:=J.one;obtain⟨its,r,S,Y⟩:=I.list (aAA O);refine count_list_strs S.isList (ky r) ⟨.int (ss.count k),H,I.tok _,⟨s.toks,?_⟩,q⟩;rw[tT]
end
mutual
inductive Sees (H:Hp):V->PyData->Prop
 | non:Sees H .non .none
 | bl (b:Bool):Sees H (.bl b) (.bool b)
 | int (i:Int):Sees H (.int i) (.int i)
 | str (x:Str):Sees H (.str x) (.str x)
 | lst {a:Addr} {vs:List V} {ds:List PyData}:H a=some (.lst vs)->SeesAll H vs ds->Sees H (.ref a) (.list ds)
 | tup {a:Addr} {vs:List V} {ds:List PyData}:H a=some (.tup vs)->SeesAll H vs ds->Sees H (.ref a) (.tuple ds)
inductive SeesAll (H:Hp):List V->List PyData->Prop
 | nil:SeesAll H [] []
 | cons {v:V} {vs:List V} {d:PyData} {ds:List PyData}:Sees H v d->SeesAll H vs ds->SeesAll H (v::vs) (d::ds)
end
mutual
theorem Sees.reads {P:Program}{w:World}{H:Hp}{h:Heap}(ok:HOk P w H h):∀ {d:PyData} {v:V} {u:Value},Sees H v d->RelV v u->∃ z,Reads h u d z
 | _,_,_,.non,r=>by cases r;exact⟨_,.none⟩
 | _,_,_,.bl b,r=>by cases r;exact⟨_,.bool b⟩
 | _,_,_,.int i,r=>by obtain⟨t,rfl⟩:=r;exact⟨_,.int i t⟩
 | _,_,_,.str x,r=>by obtain⟨t,rfl⟩:=r;exact⟨_,.str x t⟩
 | _,_,_,.lst e q,r=>by
  cases r;obtain⟨_,its,n,J,g⟩:=ok _ _ e;obtain⟨z,O⟩:=SeesAll.reads ok q J;exact⟨_,.list g rfl rfl (by simpa using O)⟩
 | _,_,_,.tup e q,r=>by
  cases r;obtain⟨_,its,J,o,g,S,n,U⟩:=ok _ _ e;obtain⟨z,O⟩:=SeesAll.reads ok q J;exact⟨_,.tuple g S U (by simpa using O)⟩
theorem SeesAll.reads {P:Program}{w:World}{H:Hp}{h:Heap}(ok:HOk P w H h):∀ {ds:List PyData} {vs:List V} {us:List Value},SeesAll H vs ds->Vals vs us->∃ z,ReadsAll h us ds z
 | _,_,_,.nil,r=>by cases r;exact⟨_,.nil⟩
 | _,_,_,.cons a b,r=>by
  cases r with
  | cons J O =>
   obtain⟨_,x⟩:=Sees.reads ok a J;obtain⟨_,y⟩:=SeesAll.reads ok b O;exact⟨_,.cons x y⟩
end
mutual
theorem Sees.same {H H':Hp}:∀ {d:PyData} {v:V},(∀ b o,H b=some o->(∃ xs,o=.lst xs\/o=.tup xs)->H' b=some o)->Sees H v d->Sees H' v d
 | _,_,_,.non=>.non
 | _,_,_,.bl b=>.bl b
 | _,_,_,.int i=>.int i
 | _,_,_,.str x=>.str x
 | _,_,k,.lst e q=>.lst (k _ _ e ⟨_,.inl rfl⟩) (SeesAll.same k q)
 | _,_,k,.tup e q=>.tup (k _ _ e ⟨_,.inr rfl⟩) (SeesAll.same k q)
theorem SeesAll.same {H H':Hp}:∀ {ds:List PyData} {vs:List V},(∀ b o,H b=some o->(∃ xs,o=.lst xs\/o=.tup xs)->H' b=some o)->SeesAll H vs ds->SeesAll H' vs ds
 | _,_,_,.nil=>.nil
 | _,_,k,.cons a b=>.cons (Sees.same k a) (SeesAll.same k b)
end
theorem SeesAll.strs {H:Hp}:∀ ss:List Str,SeesAll H (ss.map V.str) (ss.map PyData.str)
 | []=>.nil
 | s::r=>.cons (.str s) (SeesAll.strs r)
theorem SeesAll.ints {H:Hp}:∀ z:List Int,SeesAll H (z.map V.int) (z.map PyData.int)
 | []=>.nil
 | s::r=>.cons (.int s) (SeesAll.ints r)
section
variable {X:Cx}
def adj (A:Around)(neg:Bool):R2:=λx y H Q=>∃ da db,Sees H x da/\Sees H y db/\da.canLay0=true/\db.canLay0=true/\A.units+min da.depth db.depth < cLine/\Q (.bl (if neg then !PyData.eqv da db else PyData.eqv da db)) H
theorem yk:OpR X (compareOp .Eq) (adj X.A false):=by
 intro pins s σ H x y v u Q I z J h;obtain⟨da,db,O,sb,S,U,Y,q⟩:=h;obtain⟨_,Z⟩:=O.reads I.hok z;obtain⟨_,rb⟩:=sb.reads I.hok J;exact SeqAt.rcAt_reads Z rb S U Y _ _ _ _ ⟨.bl _,H,I,rfl,q⟩
theorem rk:OpR X (compareOp .NotEq) (adj X.A true):=by
 intro pins s σ H x y v u Q I z J h;obtain⟨da,db,O,sb,S,U,Y,q⟩:=h;obtain⟨_,Z⟩:=O.reads I.hok z;obtain⟨_,rb⟩:=sb.reads I.hok J;exact SeqAt.compareNe_reads Z rb S U Y ⟨.bl _,H,I,rfl,q⟩
def Itn (n:Nat)(val:Nat->V->Prop):It:=⟨λi _=>i < n,λi H x H'=>H'=H/\val i x,λi _=>i=n⟩
theorem o5 {P:Program}{w:World}{K:PySem.W.Frag}{x:Str}{p:Pos}{I:Addr}{n:Nat}{Pv:Nat->Value->Prop}{St:Nat->Heap->Prop}{val:Nat->V->Prop}
 (W:∀ A':Around,A'.handled=none->Walks P w A' I [I] [I] n Pv St)(ho:∀ i h,St i h->∃ o,h.get? I=some o/\∀ v,o.data≠.cell v)(hv:∀ i u,Pv i u->∃ v,RelV v u/\val i v)
 (z:∀ (A:Around) (i:Nat) (s:Shared) (Q:Value->Shared->Prop) (E:Value->Shared->Prop),St i s.heap->Q (.ref I) s->wpAny (model P w) A (pyIter (.ref I)) Q E s) :
 aak P w K (.Name x p) (Itn n val) [I] I St where
 mem:=by simp
 obj:=λi h st b O=>by
  have e:b=I:=by simpa using O
  subst e;exact ho i h st
 keep:=λi h h' st k=>(W { handled:=none,depth:=0,frames:=none,guards:=none,units:=0 } rfl).frame i h h' st k
 item:=by
  intro X U hw Y Z i pins s σ H E J S st hg;subst U hw Y;obtain⟨f0,f1,f2,f3,f4,f5⟩:=S I (by simp);refine (W X.A (J.ok.hd Z)).item i s _ _ hg st λv h' tk ah ai kk=>?_;obtain⟨y,ry,vy⟩:=hv i v ah;have J1:Inv X pins σ H { s with heap:=h',toks:=tk }:=J.turned (λb o O e=>kk b o (by simpa using O) e) f0 f1 f3 f4 f5;exact⟨v,rfl,afE ⟨y,H,J1,ry,⟨rfl,vy⟩,ai,λb O=>(S b O).1⟩⟩
 done:=by
  intro X U hw Y Z i pins s σ H E J S st hg;subst U hw Y;obtain⟨f0,f1,f2,f3,f4,f5⟩:=S I (by simp);have e:i=n:=hg;subst e;exact (W X.A (J.ok.hd Z)).done s _ _ st λh' tk kk=>⟨rfl,J.turned (λb o O e=>kk b o (by simpa using O) e) f0 f1 f3 f4 f5⟩
 self:=z
theorem nH {h:Heap}{I:Addr}{n:String}{x:Str}{t:Tok}{i:Nat}(st:h.IsStrIter I n x t i):∃ o,h.get? I=some o/\∀ v,o.data≠.cell v:=by
 obtain⟨o,e,_,d⟩:=st;exact⟨o,e,λv z=>by rw[d] at z;cases z⟩
def ItS (z:Str):It:=Itn z.cps.size λi v=>∃ c,z.cps[i]? = some c/\v=.str ⟨#[c]⟩
def aff (tl:TE):TI:=λσ H R=>tl σ H λx H1=>∃ z,x=.str z/\R (ItS z) H1
theorem vI {z:Str}(i:Nat)(u:Value)(h:SignAt z i u):∃ v,RelV v u/\∃ c,z.cps[i]? = some c/\v=.str ⟨#[c]⟩:=by
 obtain⟨c,t,e,rfl⟩:=h;exact⟨.str ⟨#[c]⟩,⟨t,rfl⟩,c,e,rfl⟩
theorem adP {l:Expr}{tl:TE}{x:Str}{p:Pos}(Z:PE X l tl):PI X (.Name x p) l (aff tl):=by
 intro pins s σ H R I h;refine thn (Z pins s σ H _ I h) λv J ⟨y,H1,S,r1,q1⟩=>?_;obtain⟨z,rfl,q⟩:=q1;obtain⟨t,rfl⟩:=r1;have O:∀ (o:Obj),Inv X pins σ H1 { J with heap:=J.heap.push o }:=λo=>S.kept (t':=J.toks) λb o e=>afB _ e;have Y:∀ b∈[J.heap.objs.size],kA X pins H1 b:=λb hb=>by
  have e:b=J.heap.objs.size:=by simpa using hb
  subst e;exact S.fpOk (afG _) S.fresh
 cases ha:z.cps.all (· < 128)
 .refine wpAny_pyIter_wide ha ⟨J.heap.objs.size,[J.heap.objs.size],_,ItS z,H1,rfl,O _,o5 (λA' U=>Walks.strWide U _ z t) (λi h st=>nH st) vI (λA i s Q E st h=>wpAny_pyIter_striter_wide st h),⟨_,afK _ rfl,rfl,rfl⟩,Y,q⟩
 .refine wpAny_pyIter_ascii ha ⟨J.heap.objs.size,[J.heap.objs.size],_,ItS z,H1,rfl,O _,o5 (λA' U=>Walks.strAscii U _ z t) (λi h st=>nH st) vI (λA i s Q E st h=>wpAny_pyIter_striter_ascii st h),⟨_,afK _ rfl,rfl,rfl⟩,Y,q⟩
end
def jD (scope outer:Scope):List (Str×NameKind) :=
 scope.names.map λ(n,k)=>if (k == .free && outer.kind == .function && outer.names.lookup n == some .cell) then (n,.cell) else (n,k)
def jO (outer scope:Scope)(N N':List Str)(nl:Nat)(ix:List Nat):Bool :=
 (scope.kind == .function && scope.names.all λx=>x.2 != .cell && (x.2 != .local || scope.names.lookup x.1 == some .local) && (x.2 != .free || outer.names.lookup x.1 == some .cell)) &&
 (N'.length == nl+ix.length && (List.range ix.length).all λk=>match ix[k]? with
  | none=>false
  | some j=>match N[j]? with
   | none=>false
   | some x=>N'[nl+k]? == some x && outer.names.lookup x == some .cell && (jD scope outer).lookup x == some .cell && decide ((x,NameKind.free)∈scope.names))
theorem jq {X:Cx}{outer scope:Scope}{N N':List Str}{nl:Nat}{ix:List Nat}(h1:X.env.scope=outer)(h2:X.N=N)(h:jO outer scope N N' nl ix=true):CompScope X scope/\abK X scope N' nl ix:=by
 unfold jO at h;simp only[agf,agt,aga,bne_iff_ne,ahL,ne_eq,agP] at h;obtain⟨⟨Y,O⟩,Z,hb⟩:=h;have U:∀ x,X.env.kindOf x=outer.names.lookup x:=λx=>by rw[← h1];rfl
 refine⟨⟨Y,λx J=>(O x J).1.1,λx J e=>?_,λx J e=>?_⟩,⟨Z,λk j e=>?_⟩⟩
 .rcases (O x J).1.2 with z | z
  .exact absurd e z
  .exact z
 .rcases (O x J).2 with z | z
  .exact absurd e z
  .rw[U];exact z
 .have S:k < ix.length:=(afA.mp e).1;have q:=hb k S;rw[e] at q;simp only at q;cases ex:N[j]? with
  | none=>rw[ex] at q;simp at q
  | some x =>
   rw[ex] at q;simp only[agf,aga,ahr] at q;obtain⟨⟨⟨q1,q2⟩,q3⟩,q4⟩:=q;refine⟨x,by rw[h2];exact ex,q1,by rw[U];exact q2,?_,q4⟩;have er:(relabel scope X.env).names=jD scope outer:=by rw[← h1];rfl
   rw[er];exact q3
def Nx (n i:Nat)(p:Prop):Prop:=∃ m',m' < n - i/\m'=n - (i+1)/\i+1<=n/\p
theorem nx {n i:Nat}{p:Prop}(h:i < n)(q:p):Nx n i p:=⟨n - (i+1),by lia,rfl,h,q⟩
def bQ (nl:Nat)(ix:List Nat)(g:TG)(tf:TT)(te:TE)(σ:St)(D:Addr)(ys:List V)(H:Hp)(x:V)(nxt:List V->Hp->Prop):Prop :=
 g x (bM nl ix σ) H λσ4 H4=>(σ4.length=(bM nl ix σ).length/\σ4.drop nl=ix.map λj=>(σ[j]?).join)/\tf σ4 H4 λb H5 =>
  if b=true then te σ4 H5 λy H6=>H6 D=some (.lst ys)/\ys.length < sizeLine/\nxt (ys++[y]) (upd H6 D (.lst (ys++[y]))) else nxt ys H5
def gi (nl:Nat)(ix:List Nat)(g:TG)(tf:TT)(te:TE)(σ:St)(J:It)(H1:Hp)(D:Addr)(Q:VK):Prop :=
 ∃ W:Nat->Nat->List V->Hp->Prop,(∃ m,W 0 m [] (upd H1 D (.lst []))) ∧
 ∀ i m ys H2,W i m ys H2->H2 D=some (.lst ys)/\((J.stop i H2/\Q (.ref D) H2)\/(J.go i H2/\∀ x H3,J.yld i H2 x H3->bQ nl ix g tf te σ D ys H3 x λys' H'=>∃ m',m' < m/\W (i+1) m' ys' H'))
theorem aB (nl:Nat)(ix:List Nat)(wi:TI)(g:TG)(tf:TT)(te:TE)(σ:St)(H:Hp)(Q:VK)(h:wi σ H λJ H1=>∀ D,H1 D=none->gi nl ix g tf te σ J H1 D Q):mX nl ix wi g tf te σ H Q:=h
section
variable {nl:Nat}{ix:List Nat}{g:TG}{tf:TT}{te:TE}{σ:St}{H1:Hp}{D:Addr}{Q:VK}(Pv:Nat->List V->Hp->Prop)
theorem nj {J:It}{n:Nat}(U:Pv 0 [] (upd H1 D (.lst [])))(Y:∀ i ys H,Pv i ys H->H D=some (.lst ys))(Z:∀ i ys H,i < n->Pv i ys H->J.go i H)(z:∀ ys H,Pv n ys H->J.stop n H)
 (hs:∀ i ys H x H',i < n->Pv i ys H->J.yld i H x H'->bQ nl ix g tf te σ D ys H' x λS H'=>Nx n i (Pv (i+1) S H'))
 (hd:∀ ys H,Pv n ys H->Q (.ref D) H):gi nl ix g tf te σ J H1 D Q:=by
 refine⟨λi m ys H=>m=n - i/\i<=n/\Pv i ys H,⟨n,by simp,af5 _,U⟩,?_⟩;rintro i m ys H ⟨rfl,hi,p⟩;refine⟨Y i ys H p,?_⟩;by_cases O:i < n
 .exact .inr ⟨Z i ys H O p,λx H' y=>hs i ys H x H' O p y⟩
 .have e:i=n:=by lia
  subst e;exact .inl ⟨z ys H p,hd ys H p⟩
theorem i6 {lo:Int}{n:Nat}(J:Pv 0 [] (upd H1 D (.lst [])))(O:∀ i ys H,Pv i ys H->H D=some (.lst ys))
 (S:∀ i ys H,i < n->Pv i ys H->bQ nl ix g tf te σ D ys H (.int (lo+i)) λz H'=>Nx n i (Pv (i+1) z H'))(U:∀ ys H,Pv n ys H->Q (.ref D) H):gi nl ix g tf te σ (Itr lo n) H1 D Q:=by
 refine nj (n:=n) Pv J O (λ_ _ _ hi _=>hi) (λ_ _ _=>afG _) (λi ys H x H' hi p y=>?_) U;obtain⟨e,y⟩:=y;subst e y;exact S i ys H' hi p
theorem cN {K:PySem.W.Frag}{a:Addr}{xs:List V}(O:Pv 0 [] (upd H1 D (.lst [])))(S:∀ i ys H,Pv i ys H->H D=some (.lst ys))(z:∀ i ys H,Pv i ys H->SqL K H a xs)
 (U:∀ i ys H x,xs[i]? = some x->Pv i ys H->bQ nl ix g tf te σ D ys H x λJ H'=>Nx xs.length i (Pv (i+1) J H'))(Y:∀ ys H,Pv xs.length ys H->Q (.ref D) H):gi nl ix g tf te σ (Itl K a) H1 D Q:=by
 refine nj (n:=xs.length) Pv O S (λi ys H hi p=>⟨xs,xs[i],z i ys H p,by simp[hi]⟩) (λys H p=>⟨xs,z _ ys H p,afG _⟩) (λi ys H x H' hi p y=>?_) Y;obtain⟨e,y⟩:=y;subst e;exact U i ys H' x (y xs (z i ys H' p)) p
theorem abq {K:PySem.W.Frag}{a:Addr}{xs:List V}(O:Pv 0 [] (upd H1 D (.lst [])))(S:∀ i ys H,Pv i ys H->H D=some (.lst ys))(z:∀ i ys H,Pv i ys H->SqT K H a xs)
 (U:∀ i ys H x,xs[i]? = some x->Pv i ys H->bQ nl ix g tf te σ D ys H x λJ H'=>Nx xs.length i (Pv (i+1) J H'))(Y:∀ ys H,Pv xs.length ys H->Q (.ref D) H):gi nl ix g tf te σ (Itt K a) H1 D Q:=by
 refine nj (n:=xs.length) Pv O S (λi ys H hi p=>⟨xs,xs[i],z i ys H p,by simp[hi]⟩) (λys H p=>⟨xs,z _ ys H p,afG _⟩) (λi ys H x H' hi p y=>?_) Y;obtain⟨e,y⟩:=y;subst e;exact U i ys H' x (y xs (z i ys H' p)) p
theorem aas {z:Str}(O:Pv 0 [] (upd H1 D (.lst [])))(S:∀ i ys H,Pv i ys H->H D=some (.lst ys))
 (U:∀ i ys H c,z.cps[i]? = some c->Pv i ys H->bQ nl ix g tf te σ D ys H (.str ⟨#[c]⟩) λJ H'=>Nx z.cps.size i (Pv (i+1) J H'))(Y:∀ ys H,Pv z.cps.size ys H->Q (.ref D) H):gi nl ix g tf te σ (ItS z) H1 D Q:=by
 refine nj (n:=z.cps.size) Pv O S (λ_ _ _ hi _=>hi) (λ_ _ _=>rfl) (λi ys H x H' hi p y=>?_) Y;obtain⟨e,c,Z,ex⟩:=y;subst e ex;exact U i ys H' c Z p
end
section
variable {X:Cx}{K:PySem.W.Frag}
theorem jG (z:X.K=K):IxR X (aeW K):=by subst z;exact bq
theorem jU (z:X.K=K):eG X (.builtin "len") (λxs H Q=>∃ p ys,xs=[.ref p]/\(SqL K H p ys\/SqT K H p ys)/\Q (.int ys.length) H):=by subst z;exact aQ
theorem iW (z:X.K=K):eG X (.type "list") (λxs H Q=>∃ p ys,xs=[.ref p]/\(SqL K H p ys\/SqT K H p ys)/\∀ l,H l=none->Q (.ref l) (upd H l (.lst ys))):=by subst z;exact bO
theorem iU {pos:Pos}{es:List Expr}{k:Nat}{t:TGs}{n:Nat}(J:X.K=K)(O:X.calm=true)(h:PGs X es t)(S:(assignEach es X.env).length=n:=by rfl)(z:(assignEach es X.env).findIdx? (·.1)=none:=by rfl):PG X (.Tuple es k pos) (adq K n t):=by
 subst J;exact mR O h S z
end
theorem dy {nl:Nat}{ix:List Nat}{te:TE}{σ:St}{D:Addr}{ys:List V}{H:Hp}{x:V}{z:List V->Hp->Prop}{i:Nat}(h1:((bM nl ix σ).set i (some x)).drop nl=ix.map λj=>(σ[j]?).join)
 (h:te ((bM nl ix σ).set i (some x)) H λy J=>J D=some (.lst ys)/\ys.length < sizeLine/\z (ys++[y]) (upd J D (.lst (ys++[y])))):bQ nl ix (bu i) uI te σ D ys H x z:=by
 unfold bQ bu uI;dsimp only;rw[if_pos rfl];exact⟨⟨by simp,h1⟩,h⟩
section
variable {X:Cx}
theorem aW:eG X (.builtin "isinstance") (λxs H Q=>∃ (x:V) (T:String) (t:Value) (b:Bool),xs=[x,.ty T]/\w9 X.K H x t/\kitOne X.K t (.type T)=some b/\Q (.bl b) H):=by
 intro pins s σ H xs O Q I r h;obtain⟨x,T,t,b,rfl,ty,e,q⟩:=h;obtain⟨u,v,rfl,z,J⟩:=acP r;cases J;exact zL I z ty e λtk=>⟨.bl b,H,I.tok _,rfl,q⟩
theorem cV (K:PySem.W.Frag)(n:String):kitOne K (.type n) (.type n)=some true:=by
 unfold kitOne;rw[if_pos (by simp)]
end
section
variable {P:Program}{w:World}{K:PySem.W.Frag}{mg:Str->Option Value}{base:Heap}{N:List Str}{qual:Str}{scope:Scope}{f:Addr}{cd:Value}{A:Around}{outer:List Env}{s:Shared}{H:Hp}{E0:XK}
end
section
variable {P:Program}{w:World}{K:PySem.W.Frag}{mg:Str->Option Value}{base:Heap}{N:List Str}{qual:Str}{scope:Scope}{f:Addr}{cd:Value}{A:Around}{outer:List Env}{s:Shared}{H:Hp}{E0:XK}
end
section
variable {X:Cx}{pins pins':List (Addr×Obj)}{σ:St}{H:Hp}{s:Shared}{xe:Value->Shared->Prop}{a:Addr}
end
section
variable {X:Cx}
end
section
variable {P:Program}{w:World}{K:PySem.W.Frag}{mg:Str->Option Value}{base:Heap}
end
section
variable {X:Cx}
end
end L2
namespace K7
open PySem L2 PyProof.Rows
structure FunD (K:PySem.W.Frag)(x qual:Str)(st:Stmt)(T f:Addr)(fd:FuncData):Prop where
 ex:∃ (oc:Value) (od:Option Addr) (kV doc pm:Value) (an:Option Addr) (cdv ct:Value) (osl:Array (Option Value)),
  fd=fnOf x qual (fX st) (bY st) (ai st) (.ref T) kV doc pm an cdv ct/\K.lookup f=some ⟨oc,od,.func fd,osl⟩/\codeIn K cdv qual=true
 kp:keepIn K (.ref f)=true
theorem FunD.ok {P:Program}{w:World}{K:PySem.W.Frag}{mg:Str->Option Value}{base:Heap}{x qual:Str}{st:Stmt}{T f:Addr}{fd:FuncData}{N ps:List Str}{k:Nat}{sp:Sp}(F:FunD K x qual st T f fd)(S:aA N ps (ai st))(len:∀ vs H Q E,sp vs H Q E->vs.length=ps.length)
 (J:∀ (z:Value) (A:Around) (outer:List Env) (s:Shared) (H:Hp) (vs:List V) (Q:VK) (E:XK),Room k (A.deeper (envOfC qual (ai st) s.heap.objs.size f z))->sp vs H Q E →
  ∃ t,PSs (aaj CX0 P w K mg base N qual (ai st) f z A outer s H E).nox (bY st) t/\t { nx:=λ_ H'=>Q .non H',rt:=Q } (pW N vs) H):FnOk P w K mg base CX0 (k+1) f fd ps sp:=by
 obtain⟨oc,od,kV,Y,pm,an,z,ct,Z,rfl,lk,O⟩:=F.ex;refine ad8 lk O S len λA outer s H vs Q E hr U=>?_;obtain⟨t,h,q⟩:=J z A outer s H vs Q E hr U;exact⟨t,h.nox,q⟩
theorem fund_mk {K:PySem.W.Frag}{x qual:Str}{st:Stmt}{T f:Addr}{Y:Value}{Z S:Option Addr}{O:Array (Option Value)}{kV J U z ct:Value}(l:K.lookup f=some ⟨Y,Z,.func (fnOf x qual (fX st) (bY st) (ai st) (.ref T) kV J U S z ct),O⟩)
 (c:codeIn K z qual=true)(k:keepIn K (.ref f)=true):FunD K x qual st T f (fnOf x qual (fX st) (bY st) (ai st) (.ref T) kV J U S z ct):=⟨⟨Y,Z,kV,J,U,S,z,ct,O,rfl,l,c⟩,k⟩
end K7
namespace L2
open PySem PySem.Spec PyProof.Rows
def leS (a b:Str):Prop:=ltCps b.cps.toList a.cps.toList=false
theorem leS_iff {a b:Str}:leS a b↔a.cps.toList<=b.cps.toList:=by
 unfold leS;rw[ltCps_eq];constructor
 .intro h;exact ahU.mp (aiU h)
 .intro h;exact afS (ahU.mpr h)
theorem tD {a b:Str}(h1:leS a b)(h2:leS b a):a=b:=by
 have e:=aiJ (leS_iff.mp h1) (leS_iff.mp h2);cases a;cases b;simp only at e;rw[Str.mk.injEq];exact Array.toList_inj.mp e
theorem xO {a b c:Str}(h1:leS a b)(h2:leS b c):leS a c:=leS_iff.mpr (List.le_trans (leS_iff.mp h1) (leS_iff.mp h2))
theorem nr:∀ {l:List Str} {p:Str},risingS p l=true->(∀ x∈l,leS p x)/\l.Pairwise leS
 | [],p,_=>⟨(λx hx=>nomatch hx),List.Pairwise.nil⟩
 | y::r,p,h=>by
  have h':(!ltCps y.cps.toList p.cps.toList && risingS y r)=true:=h;rw[agf,akb] at h';obtain⟨z,O⟩:=nr h'.2;have J:leS p y:=h'.1;refine⟨λx hx=>?_,List.Pairwise.cons z O⟩;rcases afZ.mp hx with rfl | hx
  .exact J
  .exact xO J (z x hx)
theorem hE:∀ {l:List Str},sortedS l=true->l.Pairwise leS
 | [],_=>List.Pairwise.nil
 | _::_,h=>let ⟨a,b⟩:=nr h;List.Pairwise.cons a b
theorem pJ:∀ {J z:List Str},J.Pairwise leS->z.Pairwise leS->J.Perm z->J=z
 | [],z,_,_,p=>(List.nil_perm.mp p).symm▸rfl
 | a::r,[],_,_,p=>absurd p.length_eq (by simp)
 | a::r,b::t,h1,h2,p=>by
  have ab:leS a b:=by
   rcases afZ.mp (p.mem_iff.mpr afX:b∈a::r) with e | hb
   .subst e;exact leS_iff.mpr (List.le_refl _)
   .exact (agy.mp h1).1 b hb
  have O:leS b a:=by
   rcases afZ.mp (p.mem_iff.mp afX:a∈b::t) with e | ha
   .subst e;exact leS_iff.mpr (List.le_refl _)
   .exact (agy.mp h2).1 a ha
  have e:=tD ab O;subst e;rw[pJ (agy.mp h1).2 (agy.mp h2).2 p.cons_inv]
section
variable {M:Model}{A:Around}{E:Value->Shared->Prop}{s:Shared}
theorem qO {z:Source}{n:Nat}{Q:Nat->Shared->Prop}(J:n≠0)(h:∀ i,i < n->Q i { s with drawn:=s.drawn.bump z }):wpAny M A (choose z n) Q E s:=λ_ _ _ =>
 ⟨J,h _ (Nat.mod_lt _ (Nat.pos_of_ne_zero J))⟩
theorem gP {α:Type}:∀ (xs:List α) (i:Nat) (x:α),xs[i]? = some x->(x::xs.eraseIdx i).Perm xs
 | [],_,_,h=>by simp at h
 | y::r,0,x,h=>by simp at h;subst h;exact .rfl
 | y::r,i+1,x,h=>by
  have h':r[i]? = some x:=by simpa using h
  rw[aib];exact (List.Perm.swap y x _).trans ((gP r i x h').cons y)
theorem ig {α:Type}:∀ (n:Nat) (xs:List α) (s:Shared) (Q:List α->Shared->Prop),xs.length=n->(∀ ys d,ys.Perm xs->Q ys { s with drawn:=d })->wpAny M A (drawOrder n xs) Q E s
 | 0,xs,s,Q,hl,h=>by
  have e:xs=[]:=aiV.mp hl;subst e;unfold drawOrder;exact afE (h [] s.drawn .rfl)
 | n+1,[],s,Q,hl,h=>by simp at hl
 | n+1,y::r,s,Q,hl,h=>by
  unfold drawOrder;refine afy (qO (by simp) λi hi=>?_);have z:(y::r)[i]? = some (y::r)[i]:=afx hi;rw[z];dsimp only;refine afy (ig n _ _ _ (by rw[ajI hi];simpa using hl) λys d p=>?_);exact afE (h _ d ((p.cons _).trans (gP _ i _ z)))
theorem mz {α:Type}(next:Nat->Nat):∀ (fuel k:Nat) (left:List α) (out:Array α),left.length=fuel->(pickOrder.go next fuel k left out).toList.Perm (out.toList++left)
 | 0,k,left,out,h=>by
  have e:left=[]:=aiV.mp h;subst e;unfold pickOrder.go;simp
 | fuel+1,k,left,out,h=>by
  unfold pickOrder.go;have z:0 < left.length:=by lia
  have hi:next k % left.length < left.length:=Nat.mod_lt _ z
  rw[afx hi];dsimp only;refine (mz next fuel (k+1) _ _ (by rw[ajI hi];lia)).trans ?_;rw[aiz,afN];exact (gP left _ _ (afx hi)).append_left _
theorem je {α:Type}(next:Nat->Nat)(xs:Array α):(pickOrder next xs).toList.Perm xs.toList:=by
 unfold pickOrder;simpa using mz next xs.size 0 xs.toList #[] (by simp)
end
theorem pA (t:SetTable)(es:Array (Int×Value))(h:Int)(x:Value):(layNew t es h x).2.1.led=t.led:=by
 unfold layNew;split
 .dsimp only;unfold SetTable.orStandIn;split<;>rfl
 .rfl
theorem lC (t:SetTable)(es:Array (Int×Value))(n:Nat):(relayAll t es n).2.1.led=t.led:=by
 unfold relayAll;split
 .rename_i t' order e;have z:t'.led=t.led:=by
   unfold SetTable.relaid SetTable.laid at e;simp only[ajB,aiW] at e;obtain⟨J,_,e⟩:=e;simp only[akJ,akc,aly] at e;rw[← e.1]
  dsimp only;split
  .exact z
  .rfl
 .rfl
theorem oh (t:SetTable)(es:Array (Int×Value))(n:Nat)(h:t.plain=false):(relayAll t es n).2.1.plain=false:=by
 unfold relayAll;split
 .rename_i t' order e;have z:t'.plain=t.plain:=by
   unfold SetTable.relaid SetTable.laid at e;simp only[ajB,aiW] at e;obtain⟨J,_,e⟩:=e;simp only[akJ,akc,aly] at e;rw[← e.1]
  dsimp only;split
  .rw[z];exact h
  .rfl
 .rfl
structure TxAt (prog:Program)(w:World)(h:Heap)(a:Addr)(es:Array (Int×Value))(ep:Nat)(t:SetTable):Prop where
 get:h.get? a=some { cls:=.type "set",dict:=none,data:=.set es ep t,slots:=#[] }
 el:ElemsOf (PySem.strKind prog w) es.toList
 bd:es.size < scanBound
 fit:t.fits es.size=true
 led:t.led=!w.params.followText "set-order"
 pl:t.plain=false\/es=#[]
def yq (es:Array (Int×Value)):List Str:=es.toList.map λe=>strOf e.2
def TxSet (prog:Program)(w:World)(h:Heap)(a:Addr)(ss:List Str):Prop:=∃ es ep t,TxAt prog w h a es ep t/\yq es=ss/\ss.Nodup
section
variable {prog:Program}{w:World}{h h':Heap}{a:Addr}{es:Array (Int×Value)}{ep:Nat}{t:SetTable}{ss:List Str}
theorem TxAt.at' (x:TxAt prog w h a es ep t)(k:∀ o,h.get? a=some o->h'.get? a=some o):TxAt prog w h' a es ep t:=⟨k _ x.get,x.el,x.bd,x.fit,x.led,x.pl⟩
theorem TxSet.at' (x:TxSet prog w h a ss)(k:∀ o,h.get? a=some o->h'.get? a=some o):TxSet prog w h' a ss:=let ⟨es,ep,t,y,r⟩:=x;⟨es,ep,t,y.at' k,r⟩
theorem zu {l:List (Int×Value)}(h:ElemsOf (PySem.strKind prog w) l){e:Int×Value}(O:e∈l):∃ tk,e=(hashStr w (strOf e.2),.str (strOf e.2) tk):=by
 obtain⟨⟨k,S,z⟩,_⟩:=h e O;obtain⟨tk,J⟩:=ajv S;obtain⟨U,v⟩:=e;simp only at J z;subst J;exact⟨tk,by rw[z];rfl⟩
theorem vS {k:Str}{v:Value}{x:Str}{tk:Tok}(e:v=.str x tk):(PySem.strKind prog w).is k v=true↔k=x:=by
 subst e;constructor
 .intro h;have h':Value.isStrOf k (.str x tk)=true:=h;obtain⟨u,e⟩:=ajv h';injection e with e
  exact e.symm
 .intro h;subst h;show Value.isStrOf k (.str k tk)=true;simp[Value.isStrOf]
theorem abZ {l:List (Int×Value)}(h:ElemsOf (PySem.strKind prog w) l)(k:Str):k∈l.map (λe=>strOf e.2)↔∃ e∈l,(PySem.strKind prog w).is k e.2=true:=by
 rw[afL];constructor
 .rintro⟨e,z,rfl⟩;obtain⟨tk,J⟩:=zu h z;exact⟨e,z,(vS (by rw[J];rfl)).mpr rfl⟩
 .rintro⟨e,z,O⟩;obtain⟨tk,J⟩:=zu h z;exact⟨e,z,((vS (x:=strOf e.2) (tk:=tk) (by rw[J];rfl)).mp O).symm⟩
theorem TxSet.setOf (x:TxSet prog w h a ss):h.SetOf (PySem.strKind prog w) a (λk=>decide (k∈ss)) ss.length:=by
 obtain⟨es,ep,t,y,e,n⟩:=x;subst e;refine⟨_,es,ep,t,y.get,⟨rfl,rfl,rfl⟩,rfl,y.el,λk=>?_,y.bd,y.fit,by simp[yq]⟩;rw[ahr];exact abZ y.el k
section
variable {A:Around}{E:Value->Shared->Prop}{s:Shared}
theorem jh {g:Bool->Sem Unit}(hg:∀ (b:Bool) (s₁:Shared) (Q':Unit->Shared->Prop),Q' () s₁->wpAny (model prog w) A (g b) Q' E s₁)
 (ho:s.heap.get? a=some { cls:=.type "set",dict:=none,data:=.set es ep t,slots:=#[] })
 {z:Array (Int×Value)}{O:SetTable}(Y:ElemsOf (PySem.strKind prog w) z.toList)
 (aa:z.size < scanBound)(ak:O.fits z.size=true)(ag:O.led=!w.params.followText "set-order")(ah:O.plain=false){S:Bool}{R:Option Bool->Shared->Prop}
 (h:∀ h' J al t',Heap.SameBut a s.heap h'->TxAt prog w h' a J al t'->J.toList.Perm z.toList->R (some true) { s with heap:=h' }) :
 wpAny (model prog w) A (do
  storeSet a z O
  if (!S && O.tooFull)=true then do
   g (relayAll O z (SetTable.grown z.size)).2.2
   storeSet a (relayAll O z (SetTable.grown z.size)).1 (relayAll O z (SetTable.grown z.size)).2.1
   pure (some true)
   else pure (some true)) R E s:=by
 refine afy (ai8 ho rfl ?_ (ah1 aa));have up:∀ {h0:Heap} {es0:Array (Int×Value)} {ep0:Nat} {t0:SetTable} (J:Array (Int×Value)) (t':SetTable),h0.get? a=some { cls:=.type "set",dict:=none,data:=.set es0 ep0 t0,slots:=#[] }->(h0.update a (Obj.putSet J t')).get? a=some { cls:=.type "set",dict:=none,data:=.set J (ep0+1) t',slots:=#[] }:=λJ t' q=>by
  have:=ahg (Obj.putSet J t') q (by rw[putSet_of J t' rfl];rfl);rw[putSet_of J t' rfl] at this;exact this
 have ac:=up z O ho;have Z:=ahs s.heap a (Obj.putSet z O);split
 .have hp:=relayAll_perm O z (SetTable.grown z.size);have ad:=relayAll_fits O z (SetTable.grown z.size);have ae:=lC O z (SetTable.grown z.size);have af:=oh O z (SetTable.grown z.size) ah;generalize hRl:relayAll O z (SetTable.grown z.size)=Rl at hp ad ae af ⊢;obtain⟨U,t3,am⟩:=Rl;dsimp only at hp ad ae af ⊢;have an:U.size=z.size:=by rw[← afO,hp.length_eq,afO]
  have aj:U.size < scanBound:=by rw[an];exact aa
  refine afy (hg _ _ _ ?_);refine afy (ai8 ac rfl ?_ (ah1 aj));exact afE (h _ U _ t3 (Z.trans (ahs _ a _)) ⟨up U t3 ac,Y.perm hp,aj,ad,ae.trans ag,.inl af⟩ hp)
 .exact afE (h _ z _ O Z ⟨ac,Y,aa,ak,ag,.inl ah⟩ .rfl)
theorem iR {α:Type}{l:List α}{x:α}{z:List α}(J:l.Nodup)(O:x ∉ l)(p:z.Perm (l++[x])):z.Nodup:=by
 refine p.nodup_iff.mpr ?_;rw[aht];refine⟨J,by simp,λa S b U e=>?_⟩;rw[afD.mp U] at e;exact O (e▸S)
theorem ou {x:Str}{tk:Tok}{Q:Bool->Shared->Prop}(hS:TxSet prog w s.heap a ss)(ah:ss.length+1 < scanBound)
 (h:∀ h' ai,Heap.SameBut a s.heap h'->TxSet prog w h' a ai->((x∈ss/\ai=ss)\/(x ∉ ss/\ai.Perm (ss++[x])))->Q (!decide (x∈ss)) { s with heap:=h' }) :
 wpAny (model prog w) A (setAddHashed a (.str x tk) (hashStr w x)) Q E s:=by
 obtain⟨es,ep,t,T,e,nd⟩:=hS;subst e;have aa:(PySem.strKind prog w).is x (.str x tk)=true:=(vS rfl).mpr rfl;have aj:(Value.str x tk).scannable=true:=rfl;have ar:es.size+1 < scanBound:=by simpa [yq] using ah
 have ac:=abZ T.el x;unfold setAddHashed setAddHashedIn;refine agF (afy (ahI T.get rfl T.fit ?_));dsimp only;rw[byScan_of aj T.bd T.el];simp only[↓reduceIte];unfold setAddByScan;refine afy ?_;refine afy (ag9 ?_);refine afy (wpAny_setScan_of (knd:=PySem.strKind prog w) aa T.get rfl T.fit T.el ?_);cases hr:List.findIdx? (λe=>(PySem.strKind prog w).is x e.2) es.toList with
 | some j =>
  dsimp only;obtain⟨hj,as,_⟩:=aiX.mp hr;have hx:x∈yq es:=ac.mpr ⟨es.toList[j],agg hj,as⟩;refine afE (afE ?_);have q:=h s.heap (yq es) (akd a s.heap) ⟨es,ep,t,T,rfl,nd⟩ (.inl ⟨hx,rfl⟩);rw[afM hx] at q;exact q
 | none =>
  dsimp only;have hx:x ∉ yq es:=λhk=>by
   obtain⟨e,he,hp⟩:=ac.mp hk;have:=ajX.mp hr e he;rw[hp] at this;exact Bool.noConfusion this
  have au:∀ (b:Bool) {S:Shared} {Q':Unit->Shared->Prop},Q' () S->wpAny (model prog w) A (match b with | true=>rule "set.scan.the-table-gave-way" | false=>pure ()) Q' E S :=
   λb S Q' hq=>by cases b<;>first | exact afE hq | exact ag9 hq
  have z:=layNew_perm t es (hashStr w x) (.str x tk);have O:=layNew_fits t es (hashStr w x) (.str x tk);have Y:=pA t es (hashStr w x) (.str x tk);generalize hL:layNew t es ((PySem.strKind prog w).hash x) (.str x tk)=L;have av:layNew t es (hashStr w x) (.str x tk)=L:=hL;rw[av] at z O Y ⊢;obtain⟨ak,t1,an,aw⟩:=L;dsimp only at z O Y ⊢;rw[aiz] at z;have ae:ElemsOf (PySem.strKind prog w) ak.toList:=(T.el.push aa aj).perm z;have af:ak.size < scanBound:=by rw[← afO,z.length_eq,afH,afO];simpa using ar
  refine afy (au _ ?_);have ag:∀ h' J U t',Heap.SameBut a s.heap h'->TxAt prog w h' a J U t'->J.toList.Perm ak.toList->Q true { s with heap:=h' }:=by
   intro h' J U t' Z T' p';have p2:(yq J).Perm (yq es++[x]):=by
    have:=(p'.trans z).map (λe=>strOf e.2);simpa [yq,strOf] using this
   have q:=h h' (yq J) Z ⟨J,U,t',T',rfl,iR nd hx p2⟩ (.inr ⟨hx,p2⟩);rw[afS hx] at q;exact q
  split
  .refine afy ?_;rw[hashByValue_scannable 8 aj];refine afE ?_;refine jh ?_ T.get ae af ?_ ?_ ?_ ?_
   .intro b S Q' hq;cases b<;>first | exact afE hq | exact ag9 hq
   .exact SetTable.fits_plain_off O
   .exact Y.trans T.led
   .rfl
   .intro h' J U t' Z T' p';dsimp only;exact afE (ag h' J U t' Z T' p')
  .rename_i hpl;refine afy (afE ?_);simp only[↓reduceIte];refine jh ?_ T.get ae af O (Y.trans T.led) (by simpa using hpl) ?_
   .intro b S Q' hq;cases b<;>first | exact afE hq | exact ag9 hq
   .intro h' J U t' Z T' p';dsimp only;exact afE (ag h' J U t' Z T' p')
end
end
theorem oj:entryFor table "set.__iter__" = some Builtin.«frozenset.__iter__» :=
 entryFor_alias (id' := "frozenset.__iter__") (by kernel_rfl) rfl (by decide +kernel) (by kernel_rfl)
theorem slot_si_next:Slot "set_iterator" "__next__" "set_iterator.__next__" :=
 .of (owner := "set_iterator") (n := "__next__") (by rw[typeLookup_type,builtinLookup_eq_fast];kernel_rfl) (by decide +kernel) (by decide +kernel) (by decide +kernel)
  (by first | exact .inl (by decide +kernel) | exact .inr (by decide +kernel)) (by rw[isSubtype_type];kernel_rfl)
theorem p5:entryFor table "set_iterator.__next__" = some Builtin.«set_iterator.__next__»:=entryFor_of_tree (by kernel_rfl)
theorem wy:Manifest.owners.lookup (String.ofList ['r','o','t','a','r','e','t','i','_','t','e','s'].reverse)=some Manifest.sig_set_iterator:=by kernel_rfl
theorem rM (a:Value):argsOk "set_iterator.__next__" ⟨[a],[]⟩:=by
 unfold argsOk;rw[signature?_of (id := "set_iterator.__next__") (n:=['_','_','t','x','e','n','_','_']) (o:=['r','o','t','a','r','e','t','i','_','t','e','s']) (by kernel_rfl) wy];kernel_rfl
theorem lD:Slot "set_iterator" "__iter__" "set_iterator.__iter__" :=
 .of (owner := "set_iterator") (n := "__iter__") (by rw[typeLookup_type,builtinLookup_eq_fast];kernel_rfl) (by decide +kernel) (by decide +kernel) (by decide +kernel)
  (by first | exact .inl (by decide +kernel) | exact .inr (by decide +kernel)) (by rw[isSubtype_type];kernel_rfl)
theorem qL:entryFor table "set_iterator.__iter__" = some Builtin.«dict_keyiterator.__iter__» :=
 entryFor_alias (id' := "dict_keyiterator.__iter__") (by kernel_rfl) rfl (by decide +kernel) (by kernel_rfl)
theorem qX (a:Value):argsOk "set_iterator.__iter__" ⟨[a],[]⟩:=by
 unfold argsOk;rw[signature?_of (id := "set_iterator.__iter__") (n:=['_','_','r','e','t','i','_','_']) (o:=['r','o','t','a','r','e','t','i','_','t','e','s']) (by kernel_rfl) wy];kernel_rfl
def SIter (h:Heap)(it a:Addr)(first:Value)(i n ep:Nat):Prop :=
 ∃ o,h.get? it=some o/\o.cls=.type "set_iterator" ∧ o.data=.fields #[first,.int i 0,.ref a,.int n 0,.int ep 0]
theorem SIter.typeIs {s:Shared}{it a:Addr}{first:Value}{i n ep:Nat}(x:SIter s.heap it a first i n ep):s.TypeIs (.ref it) "set_iterator" := let ⟨o,ho,hc,_⟩:=x;⟨o,ho,hc⟩
theorem SIter.at' {h h':Heap}{it a:Addr}{first:Value}{i n ep:Nat}(x:SIter h it a first i n ep)(k:∀ o,h.get? it=some o->h'.get? it=some o):SIter h' it a first i n ep:=let ⟨o,ho,r⟩:=x;⟨o,k _ ho,r⟩
section
variable {prog:Program}{w:World}{A:Around}{E:Value->Shared->Prop}{s:Shared}{a I:Addr}{es:Array (Int×Value)}{ep:Nat}{t:SetTable}
theorem kK (es:Array (Int×Value)){ps:List Nat}(h:ps.Perm (List.range es.size)):(ps.filterMap λp=>es[p]?).Perm es.toList:=by
 have:=h.filterMap λp=>es[p]?
 rwa [filterMap_getElem?_range] at this
theorem lu (es:Array (Int×Value)):∀ (ps:List Nat),(∀ p∈ps,p < es.size)->∀ i:Nat,(ps.filterMap λp=>es[p]?)[i]? = (ps[i]?).bind λp=>es[p]?
 | [],_,i=>by simp
 | p::r,h,i=>by
  have z:p < es.size:=h p afX;rw[List.filterMap_cons_some (b:=es[p]) (by simp[z])];cases i with
  | zero=>simp[z]
  | succ i =>
   rw[aiY,aiY];exact lu es r (λq J=>h q (af6 _ J)) i
theorem aaN {Q:Option Value->Shared->Prop}{s₁:Shared}(J:A.handled=none)(O:∀ h',(∀ b o,s₁.heap.get? b=some o->h'.get? b=some o)->Q none { s₁ with heap:=h' }) :
 wpAny (model prog w) A.in1 (do raiseNew (← newExc (.type "StopIteration") [])) (λz s'=>∃ r,z=Fin.done (.ret r)/\wpAny (model prog w) A (match Except.ok (ε:=Value) (some r) with | .ok (some v)=>pure (some v) | .ok none=>unsupported "x" | .error e=>throw e) Q E s')
  (λe s'=>wpAny (model prog w) A (do if ← isInstance e (.type "StopIteration") then pure none else throw e) Q E s') s₁:=by
 refine afy ?_;simp only[newExc,newTuple];refine afy (ahh ?_ (by size_fits));refine afy (m:=firstArgMember _ _) (wpAny_of_eq (a:=Value.none) (by first | rfl | (simp only[firstArgMember];rfl)) ?_);refine ahh ?_ (by size_fits);simp only[raiseNew];refine afy (wpAny_handled ?_);rw[show A.in1.handled=none from J];refine afy (afE (wpAny_throw ?_));refine afy (wpAny_isInstance (T := "StopIteration") (b:=true) ⟨_,afK _ rfl,rfl⟩ isSubtype_stop ?_);exact afE (O _ λb o e=>afB _ (afB _ e))
end
def kr (es:Array (Int×Value))(t:SetTable)(slot:Nat):Option (Value×Nat) :=
 match es[SetTable.below t.place slot]?,t.place[SetTable.below t.place slot]? with
  | some (_,x),some j=>some (x,j+1)
  | _,_=>none
def acN (b:Bool):Sem Unit:=do
 if b then unsupported "set:maker-not-led"
theorem uJ (a:Addr):setDrawn a=(do
 let (es,_,t) ← setState a
 let byText ← setsByText
 return !byText && (!t.plain && decide (es.size > 1))):=rfl
theorem xx (a:Addr):setWalk a=(do
 let (es,epoch,t) ← setState a
 if ← setsByText then return pickOrder ((← ask).params.setOrder a epoch) es
 if (!t.plain && decide (es.size > 1)) then return (← drawOrder es.size es.toList).toArray
 acN (!t.led && decide (es.size > 1)) >>= λ_=>pure es):=rfl
theorem pF (a:Addr)(J O z:Nat):setNext a J O z=(do
 let (es,epoch,t) ← setState a
 if ← setsByText then
  if epoch != z then unsupported "set_iterator.__next__:elements-changed"
  return ((← setWalk a)[O]?).map λe=>(e.2,J)
 if (!t.plain && decide (es.size > 1)) then unsupported "set_iterator.__next__:the-table-is-plain-no-more"
 acN (!t.led && !es.isEmpty) >>= λ_=>pure (kr es t J)):=rfl
section
variable {prog:Program}{w:World}{A:Around}{E:Value->Shared->Prop}{s:Shared}{a I T:Addr}{es:Array (Int×Value)}{ep:Nat}{t:SetTable}{ps:List Nat}
theorem cZ {Q:Bool->Shared->Prop}(h:Q (w.params.followText "set-order") s):wpAny (model prog w) A setsByText Q E s:=by
 unfold setsByText;exact afy (aih (afE h))
end
section
variable {prog:Program}{w:World}{A:Around}{E:Value->Shared->Prop}{s:Shared}{a I T:Addr}{es:Array (Int×Value)}{ep:Nat}{t:SetTable}{ps:List Nat}{i:Nat}
theorem tY {f x:Value}{n:Nat}{Q:Unit->Shared->Prop}(z:SIter s.heap I a f i n ep)(h:∀ h',SIter h' I a x i n ep->Heap.SameBut I s.heap h'->Q () { s with heap:=h' }):wpAny (model prog w) A (setField (.ref I) 0 x) Q E s:=by
 obtain⟨o,O,S,J⟩:=z;refine wpAny_setField O J (by simp) (h _ ⟨_,ahg _ O (Obj.isFreed_of_fields (aiZ J _)),(Obj.cls_mapFields ..).trans S,by rw[aiZ J];simp⟩ (ahs ..))
theorem zT {f:Value}{n:Nat}{Q:Unit->Shared->Prop}(z:SIter s.heap I a f i n ep)(h:∀ h',SIter h' I a f (i+1) n ep->Heap.SameBut I s.heap h'->Q () { s with heap:=h' }):wpAny (model prog w) A (setField (.ref I) 1 (rawInt ((i:Int)+1))) Q E s:=by
 obtain⟨o,O,S,J⟩:=z;refine wpAny_setField O J (by simp) (h _ ⟨_,ahg _ O (Obj.isFreed_of_fields (aiZ J _)),(Obj.cls_mapFields ..).trans S,by rw[aiZ J];simp[rawInt]⟩ (ahs ..))
theorem uP {f:Value}{n:Nat}{Q:Unit->Shared->Prop}(z:SIter s.heap I a f i n ep)(h:∀ h',Heap.SameBut I s.heap h'->Q () { s with heap:=h' }):wpAny (model prog w) A (setField (.ref I) 2 .none) Q E s:=by
 obtain⟨o,J,S,O⟩:=z;exact wpAny_setField J O (by simp) (h _ (ahs ..))
theorem m4 {h h':Heap}(x:Heap.SameBut I h h'):∀ b o,b≠I->h.get? b=some o->h'.get? b=some o:=λb o z e=>(x.2 b z).trans e
theorem acG {Q:Value->Shared->Prop}{f:Value}{n:Nat}(z:SIter s.heap I a f i n ep)(h:Q (.ref I) s):wpAny (model prog w) A (pyIter (.ref I)) Q E s:=by
 refine ake z.typeIs lD (ahn lD z.typeIs qL ?_ (qX _));show wpAny _ _ (ret (.ref I)) _ _ s;exact afE ⟨_,rfl,"set_iterator",_,z.typeIs,slot_si_next.lookup,h⟩
end
def UpP (xs:Array Nat):Prop:=∀ i j:Nat,i < j->j < xs.size->xs.getD i 0 < xs.getD j 0
theorem abz (xs:Array Nat)(j:Nat)(u:UpP xs):∀ (z lo hi:Nat),hi - lo<=z->lo<=hi->hi<=xs.size->(∀ k,k < lo->xs.getD k 0 < j)->(∀ k,hi<=k->k < xs.size->j<=xs.getD k 0) →
 SetTable.below.go xs j z lo hi<=xs.size/\(∀ k,k < SetTable.below.go xs j z lo hi->xs.getD k 0 < j)/\(∀ k,SetTable.below.go xs j z lo hi<=k->k < xs.size->j<=xs.getD k 0):=by
 intro z
 induction z with
 | zero =>
  intro lo hi h1 h2 J O S;have:lo=hi:=by lia
  subst this;exact⟨J,O,S⟩
 | succ z Y =>
  intro lo hi h1 h2 J O S;unfold SetTable.below.go;by_cases Z:lo < hi
  .rw[if_pos Z];dsimp only;rw[show xs.getD ((lo+hi) / 2) j=xs.getD ((lo+hi) / 2) 0 by simp only[ag6];rw[ago (by lia)];rfl];by_cases U:xs.getD ((lo+hi) / 2) 0 < j
   .rw[if_pos U];refine Y _ _ (by lia) (by lia) J (λk hk=>?_) S;by_cases e:k=(lo+hi) / 2
    .rw[e];exact U
    .exact ajR (u k _ (by lia) (by lia)) U
   .rw[if_neg U];refine Y _ _ (by lia) (by lia) (by lia) O (λk hk hs=>?_);by_cases e:k=(lo+hi) / 2
    .rw[e];lia
    .have:=u ((lo+hi) / 2) k (by lia) hs;lia
  .rw[if_neg Z];have:lo=hi:=by lia
   subst this;exact⟨J,O,S⟩
theorem pX {xs:Array Nat}(u:UpP xs)(j:Nat):SetTable.below xs j<=xs.size/\(∀ k,k < SetTable.below xs j->xs.getD k 0 < j)/\(∀ k,SetTable.below xs j<=k->k < xs.size->j<=xs.getD k 0) :=
 abz xs j u _ _ _ (by lia) (af5 _) (afG _) (λk h=>absurd h (ahM k)) (λk h1 h2=>by lia)
theorem wz {xs:Array Nat}(u:UpP xs):SetTable.below xs 0=0:=by
 obtain⟨h1,h2,z⟩:=pX u 0;by_cases e:SetTable.below xs 0=0
 .exact e
 .exact absurd (h2 0 (by lia)) (by lia)
theorem wZ {xs:Array Nat}(u:UpP xs){i:Nat}(hi:i < xs.size):SetTable.below xs (xs.getD i 0+1)=i+1:=by
 obtain⟨h1,h2,z⟩:=pX u (xs.getD i 0+1);by_cases a:i < SetTable.below xs (xs.getD i 0+1)
 .by_cases b:SetTable.below xs (xs.getD i 0+1)<=i+1
  .lia
  .have q:=h2 (i+1) (by lia);have:=u i (i+1) (by lia) (by lia);lia
 .have:=z i (by lia) hi;lia
theorem qf {α:Type}(xs:Array α)(p:Nat)(x:α)(z:p<=xs.size):(SetTable.insertAt xs p x).size=xs.size+1:=by
 unfold SetTable.insertAt;simp;lia
theorem jH (xs:Array Nat)(p:Nat)(x:Nat)(z:p<=xs.size)(k:Nat):(SetTable.insertAt xs p x).getD k 0=if k < p then xs.getD k 0 else if k=p then x else xs.getD (k - 1) 0:=by
 unfold SetTable.insertAt;simp only[ag6];by_cases h1:k < p
 .rw[if_pos h1,ajJ (by simp;lia),Array.getElem?_push_lt (by simp;lia)];simp;rw[ago (by lia)]
  rfl
 .rw[if_neg h1];by_cases h2:k=p
  .rw[if_pos h2,ajJ (by simp;lia),h2];have:(xs.extract 0 p).size=p:=by simp;lia
   rw[Array.getElem?_push,this];simp
  .rw[if_neg h2,Array.getElem?_append_right (by simp;lia)];have:(xs.extract 0 p).size=p:=by simp;lia
   simp only[Array.size_push,this];rw[Array.getElem?_extract];by_cases J:k - 1 < xs.size
   .rw[if_pos (by lia)];congr 2;lia
   .rw[if_neg (by lia),ai5 (by lia)]
theorem zb {xs:Array Nat}(u:UpP xs){j:Nat}(S:xs[SetTable.below xs j]?≠some j):UpP (SetTable.insertAt xs (SetTable.below xs j) j):=by
 obtain⟨h1,h2,U⟩:=pX u j;have J:∀ k,SetTable.below xs j<=k->k < xs.size->j < xs.getD k 0:=λk a b=>by
  have O:j < xs.getD (SetTable.below xs j) 0:=by
   have lt:SetTable.below xs j < xs.size:=by lia
   have:=U _ (afG _) lt;rcases ajT this with z | z
   .exact z
   .exact absurd (by rw[ago lt];rw[ag6,ago lt] at z;exact agS some z.symm) S
  by_cases e:k=SetTable.below xs j
  .rw[e];exact O
  .exact ajR O (u _ k (by lia) b)
 intro i k Y Z;rw[qf _ _ _ h1] at Z;rw[jH _ _ _ h1,jH _ _ _ h1];by_cases a:i < SetTable.below xs j
 .rw[if_pos a];by_cases b:k < SetTable.below xs j
  .rw[if_pos b];exact u i k Y (by lia)
  .rw[if_neg b];by_cases c:k=SetTable.below xs j
   .rw[if_pos c];exact h2 i a
   .rw[if_neg c];exact ajR (h2 i a) (J _ (by lia) (by lia))
 .rw[if_neg a,if_neg (show ¬ k < SetTable.below xs j by lia),if_neg (show ¬ k=SetTable.below xs j by lia)];by_cases c:i=SetTable.below xs j
  .rw[if_pos c];exact J _ (by lia) (by lia)
  .rw[if_neg c];exact u _ _ (by lia) (by lia)
theorem aan (n:Nat):UpP (Array.range n):=λi j z J=>by
 have O:j < n:=by simpa using J
 simp only[ag6];rw[ago (by simp;lia),ago (by simp;lia)];simp;exact z
theorem abE {t:SetTable}{j:Nat}(h:∀ i,t.slot j≠.live i):t.place[SetTable.below t.place j]?≠some j:=λz=>by
 refine h (SetTable.below t.place j) ?_;unfold SetTable.slot;dsimp only;rw[if_pos (by rw[z];exact ahm _)]
theorem xo {t:SetTable}{O:Nat->Int}{h:Int}:∀ (J:Nat) (p:SetTable.Probe),(∀ d,p.dummy=some d->∀ i,t.slot d≠.live i)->∀ j S,SetTable.probe.go t O h J p=some (.empty j S)->(∀ i,t.slot j≠.live i)/\∀ d,S=some d->∀ i,t.slot d≠.live i:=by
 intro J
 induction J with
 | zero=>intro p U j S e;cases e
 | succ J Z =>
  intro p U j S e;unfold SetTable.probe.go at e;split at e
  .rename_i hs;injection e with e
   injection e with e1 e2
   subst e1 e2;exact⟨λi z=>(by rw[hs] at z;cases z),U⟩
  .rename_i hs;refine Z _ (λd Y i z=>?_) j S e;have:some p.j=some d:=by
    rw[← Y];unfold SetTable.advance;dsimp only;split<;>rfl
   injection this with this
   rw[← this,hs] at z;cases z
  .split at e
   .cases e
   .refine Z _ (λd Y=>U d ?_) j S e;rw[← Y];unfold SetTable.advance;dsimp only;split<;>rfl
theorem iZ (t:SetTable)(n:Nat):UpP (t.standIn n).place:=aan n
theorem yz {t:SetTable}{es:Array (Int×Value)}{h:Int}{x:Value}(u:UpP t.place):UpP (layNew t es h x).2.1.place:=by
 unfold layNew;split
 .rename_i slot wd e;dsimp only;have free:∀ i,t.slot slot≠.live i:=by
   unfold SetTable.freeSlot at e;split at e
   .rename_i j dm ep;injection e with e
    injection e with e1 e2
    obtain⟨a,b⟩:=xo _ _ (λd z=>by cases z) j dm ep;cases dm with
    | none=>rw[← e1];exact a
    | some d=>rw[← e1];exact b d rfl
   .cases e
  have J:UpP (t.put slot).1.place:=zb u (abE free);unfold SetTable.orStandIn;split
  .exact J
  .exact iZ _ _
 .exact iZ _ _
theorem qc {J:Type}(f:Nat->Option J)(l:List Nat):((l.filterMap λj=>(f j).map (j,·)).map (·.1)).Sublist l:=by
 induction l with
 | nil=>exact .slnil
 | cons a l z =>
  rw[aiK];cases f a with
  | none=>exact .cons _ z
  | some b=>exact .cons₂ _ z
theorem ac3 {l:List Nat}(h:l.Pairwise (· < ·)):UpP l.toArray:=λi j O J=>by
 have z:j < l.length:=by simpa using J
 have:=ag5.mp h i j (by lia) z O;simp only[ag6];rw[ago (by simp;lia),ago (by simpa using J)];simpa using this
theorem aaC {t:SetTable}{es:Array (Int×Value)}{n:Nat}:UpP (relayAll t es n).2.1.place:=by
 unfold relayAll;split
 .rename_i t' order e;dsimp only;split
  .unfold SetTable.relaid SetTable.laid at e;simp only[ajB,aiW] at e;obtain⟨z,_,e⟩:=e;simp only[akJ,akc,aly] at e;rw[← e.1];dsimp only;exact ac3 (aji (qc _ _) akC)
  .exact iZ _ _
 .exact iZ _ _
end L2
namespace L2
open PySem PySem.Spec PyProof.Rows PySem.W
structure SbAt (w:World)(h:Heap)(a:Addr)(es:Array (Int×Value))(ep:Nat)(t:SetTable):Prop where
 get:h.get? a=some { cls:=.type "set",dict:=none,data:=.set es ep t,slots:=#[] }
 bd:es.size < scanBound
 fit:t.fits es.size=true
 led:t.led=!w.params.followText "set-order"
 up:¬ ((!t.plain && decide (es.size > 1))=true)->UpP t.place
theorem SbAt.at' {w:World}{h h':Heap}{a:Addr}{es:Array (Int×Value)}{ep:Nat}{t:SetTable}(x:SbAt w h a es ep t)(k:∀ o,h.get? a=some o->h'.get? a=some o):SbAt w h' a es ep t:=⟨k _ x.get,x.bd,x.fit,x.led,x.up⟩
theorem TxAt.sb {prog:Program}{w:World}{h:Heap}{a:Addr}{es:Array (Int×Value)}{ep:Nat}{t:SetTable}(x:TxAt prog w h a es ep t):SbAt w h a es ep t:=⟨x.get,x.bd,x.fit,x.led,λn i j O z=>by
 have J:t.place.size=es.size:=by
  have:=x.fit;simp only[SetTable.fits,agf,aga] at this;exact this.1
 refine absurd ?_ n;rcases x.pl with q | q
 .rw[q,afM (show es.size > 1 by lia)];rfl
 .subst q;rw[J] at z;exact absurd z (ahM j)⟩
def gn (t:SetTable)(i:Nat):Nat:=if i=0 then 0 else t.place.getD (i - 1) 0+1
section
variable {prog:Program}{w:World}{A:Around}{E:Value->Shared->Prop}{s:Shared}{a I:Addr}{es:Array (Int×Value)}{ep:Nat}{t:SetTable}
def bw (w:World)(es:Array (Int×Value))(t:SetTable)(T:Addr)(i:Nat):Value :=
 if w.params.followText "set-order" = true then .int 0 0 else if (!t.plain && decide (es.size > 1))=true then .ref T else .int ((gn t i:Nat):Int) 0
def dF (w:World)(a:Addr)(es:Array (Int×Value))(ep:Nat)(t:SetTable)(ps:List Nat):List (Int×Value) :=
 if w.params.followText "set-order" = true then (pickOrder (w.params.setOrder a ep) es).toList else if (!t.plain && decide (es.size > 1))=true then ps.filterMap λp=>es[p]? else es.toList
theorem jy {ps:List Nat}(z:ps.Perm (List.range es.size)):(dF w a es ep t ps).Perm es.toList:=by
 unfold dF;split
 .exact je _ _
 .split
  .exact kK es z
  .exact .rfl
structure SStY (prog:Program)(w:World)(a I T:Addr)(es:Array (Int×Value))(ep:Nat)(t:SetTable)(ps:List Nat)(i:Nat)(h:Heap):Prop where
 set:SbAt w h a es ep t
 it:SIter h I a (bw w es t T i) i es.size ep
 tup:w.params.followText "set-order" = false->(!t.plain && decide (es.size > 1))=true->IsTup h T (ps.map λ(p:Nat)=>Value.int p 0).toArray
end
section
variable {prog:Program}{w:World}{A:Around}{E:Value->Shared->Prop}{s:Shared}{a I T:Addr}{es:Array (Int×Value)}{ep:Nat}{t:SetTable}{ps:List Nat}
theorem rV {Q:Bool->Shared->Prop}(x:SbAt w s.heap a es ep t)(h:Q (!w.params.followText "set-order" && (!t.plain && decide (es.size > 1))) s):wpAny (model prog w) A (setDrawn a) Q E s:=by
 rw[uJ];refine afy (ahI x.get rfl x.fit ?_);dsimp only;refine afy (cZ (afE ?_));exact h
theorem qa {Q:Array (Int×Value)->Shared->Prop}(x:SbAt w s.heap a es ep t)(z:w.params.followText "set-order" = true)(h:Q (pickOrder (w.params.setOrder a ep) es) s):wpAny (model prog w) A (setWalk a) Q E s:=by
 rw[xx];refine afy (ahI x.get rfl x.fit ?_);dsimp only;refine afy (cZ ?_);rw[z];simp only[ai7];exact afy (aih (afE h))
theorem jW {Q:Option (Value×Nat)->Shared->Prop}{z:Nat}(x:SbAt w s.heap a es ep t)(J:w.params.followText "set-order" = true)(h:Q (((pickOrder (w.params.setOrder a ep) es)[z]?).map λe=>(e.2,0)) s) :
 wpAny (model prog w) A (setNext a 0 z ep) Q E s:=by
 rw[pF];refine afy (ahI x.get rfl x.fit ?_);dsimp only;refine afy (cZ ?_);rw[J];simp only[ai7,ah2,agD,aiq];refine afy (qa x J (afE h))
theorem kY {Q:Option (Value×Nat)->Shared->Prop}{z J:Nat}(x:SbAt w s.heap a es ep t)(O:w.params.followText "set-order" = false)(S:¬ ((!t.plain && decide (es.size > 1))=true))
 (h:Q (kr es t z) s) :
 wpAny (model prog w) A (setNext a z J ep) Q E s:=by
 rw[pF];refine afy (ahI x.get rfl x.fit ?_);dsimp only;refine afy (cZ ?_);have U:t.led=true:=by rw[x.led,O];rfl
 rw[O];simp only[agD,aiq,ai9.mpr S,U,Bool.not_true,ajW,acN];exact afy (afE (afE h))
theorem zp (x:SbAt w s.heap a es ep t):t.place.size=es.size:=by
 have:=x.fit;simp only[SetTable.fits,agf,aga] at this;exact this.1
theorem ny (x:SbAt w s.heap a es ep t)(z:¬ ((!t.plain && decide (es.size > 1))=true)){i:Nat}(hi:i<=es.size):SetTable.below t.place (gn t i)=i:=by
 unfold gn;have J:=zp x;cases i with
 | zero=>rw[if_pos rfl];exact wz (x.up z)
 | succ i=>rw[if_neg (Nat.succ_ne_zero i)];exact wZ (x.up z) (by lia)
theorem qN (x:SbAt w s.heap a es ep t)(z:¬ ((!t.plain && decide (es.size > 1))=true)){i:Nat}(hi:i < es.size):kr es t (gn t i)=some (es[i].2,gn t (i+1)):=by
 have J:=zp x;unfold kr;rw[ny x z (ahc hi),ago hi,ago (show i < t.place.size by lia)];show some (es[i].2,t.place[i]+1)=_;unfold gn;rw[if_neg (Nat.succ_ne_zero i),Nat.add_sub_cancel,ag6,ago (show i < t.place.size by lia)]
 rfl
theorem rp (x:SbAt w s.heap a es ep t)(z:¬ ((!t.plain && decide (es.size > 1))=true)):kr es t (gn t es.size)=none:=by
 unfold kr;rw[ny x z (afG _),ai5 (afG _)]
end
section
variable {prog:Program}{w:World}{A:Around}{E:Value->Shared->Prop}{s:Shared}{a I T:Addr}{es:Array (Int×Value)}{ep:Nat}{t:SetTable}{ps:List Nat}{i:Nat}
theorem SStY.next {s':Heap}(z:SStY prog w a I T es ep t ps i s')(O:a≠I)(S:T≠I)(J:Nat){h':Heap}(U:SIter h' I a (bw w es t T J) J es.size ep)(k:∀ b o,b≠I->s'.get? b=some o->h'.get? b=some o):SStY prog w a I T es ep t ps J h' :=
 ⟨z.set.at' λo e=>k a o O e,U,λh1 h2=>by
  obtain⟨o,e,c⟩:=z.tup h1 h2;exact⟨o,k T o S e,c⟩⟩
theorem pI {Q:Option Value->Shared->Prop}(z:SStY prog w a I T es ep t ps i s.heap)
 (h:wpAny (model prog w) A.in1 (match bw w es t T i with
 | Value.int slot tok=>do
  match ← setNext a slot.toNat (i:Int).toNat (ep:Int).toNat with
   | some (x,next)=>do
    setField (Value.ref I) 0 (rawInt (next:Nat))
    setField (Value.ref I) 1 (rawInt ((i:Int)+1))
    ret x
   | none=>do
    setField (Value.ref I) 2 Value.none
    raiseNew (← newExc (Value.type "StopIteration") [])
 | _=>do
  let some places ← seqItems? (bw w es t T i) | unsupported "internal:set_iterator"
  match places[(i:Int).toNat]? with
   | some (Value.int place tok)=>do
    let x ← setNextDrawn a place.toNat (ep:Int).toNat
    setField (Value.ref I) 1 (rawInt ((i:Int)+1))
    ret x
   | some _=>unsupported "internal:set_iterator"
   | none=>do
    setField (Value.ref I) 0 (rawInt 0)
    setField (Value.ref I) 2 Value.none
    raiseNew (← newExc (Value.type "StopIteration") []))
 (λO s'=>∃ v,O=Fin.done (Flow.ret v)/\wpAny (model prog w) A (pure (some v)) Q E s')
 (λe s' =>
  wpAny (model prog w) A
   (do
    if ← isInstance e (Value.type "StopIteration") then pure none else throw e)
   Q E s')
 s):wpAny (model prog w) A (pyNext (.ref I)) Q E s:=by
 obtain⟨o,ho,Y,Z⟩:=id z.it;obtain⟨oc,S,U,J⟩:=o;simp only at Y Z;subst Y Z;unfold pyNext;refine afy (wpAny_attempt (wpAny_callSpecial?_slot (name:=Str.ofString "__next__") z.it.typeIs slot_si_next
  (ahn slot_si_next z.it.typeIs p5 ?_ (rM _))))
 unfold Builtin.«set_iterator.__next__»;refine afy (afE ?_);refine afy (wpAny_fieldsOf ho rfl ?_);dsimp only;refine afy (wpAny_setEntries_of z.set.get rfl z.set.fit ?_);simp only[ah2,agD,aiq];exact h
theorem lI {Q:Value->Shared->Prop}{p:Nat}{e:Int×Value}(x:SbAt w s.heap a es ep t)(z:es[p]? = some e)(h:Q e.2 s):wpAny (model prog w) A (setNextDrawn a p ep) Q E s:=by
 unfold setNextDrawn;refine afy (ahI x.get rfl x.fit ?_);simp only[ah2,agD,aiq,z];exact afE h
theorem oF {Q:Option Value->Shared->Prop}(z:SStY prog w a I T es ep t ps i s.heap)(Y:ps.Perm (List.range es.size))(hI:a≠I)(hT:T≠I)(hi:i < es.size)
 (hQ:∀ v h' tk,(dF w a es ep t ps)[i]?.map (·.2)=some v->SStY prog w a I T es ep t ps (i+1) h'->(∀ b o,b≠I->s.heap.get? b=some o->h'.get? b=some o)->Q (some v) { s with heap:=h',toks:=tk }) :
 wpAny (model prog w) A (pyNext (.ref I)) Q E s:=by
 refine pI z ?_;have ol:(dF w a es ep t ps).length=es.size:=by rw[(jy (w:=w) (a:=a) (ep:=ep) (t:=t) Y).length_eq,afO]
 obtain⟨e,he⟩:∃ e,(dF w a es ep t ps)[i]? = some e:=⟨_,afx (by lia)⟩;have J:=z.it;rw[agk,agk];cases hb:w.params.followText "set-order" with
 | true =>
  have U:∀ j,bw w es t T j=.int 0 0:=λj=>by unfold bw;rw[if_pos hb]
  rw[U i] at J ⊢;dsimp only;rw[Int.toNat_zero];refine afy (jW z.set hb ?_);have e2:(pickOrder (w.params.setOrder a ep) es)[i]? = some e:=by
   unfold dF at he;rw[if_pos hb,agG] at he;exact he
  rw[e2];dsimp only [Option.map];refine afy (tY (x:=.int 0 0) J λh1 Z k1=>?_);refine afy (zT Z λh2 O k2=>?_);have S:=(k1.trans k2);exact afE ⟨_,rfl,afE (hQ e.2 h2 s.toks (by rw[he];rfl) (z.next hI hT (i+1) (by rw[U];exact O) (m4 S)) (m4 S))⟩
 | false =>
  by_cases hs:(!t.plain && decide (es.size > 1))=true
  .have U:∀ j,bw w es t T j=.ref T:=λj=>by unfold bw;rw[if_neg (by rw[hb];exact afC),if_pos hs]
   rw[U i] at J ⊢;dsimp only;obtain⟨oT,ah,aj,nT,ai⟩:=z.tup hb hs;have ad:i < ps.length:=by rw[Y.length_eq,agK];exact hi
   refine afy (wpAny_seqItems ah ai ?_);dsimp only;have e1:(ps.map λ(p:Nat)=>Value.int p 0).toArray[i]? = some (.int ps[i] 0):=by simp[ad]
   rw[e1];dsimp only;rw[agk];have pl:∀ p∈ps,p < es.size:=λp hp=>agP.mp (Y.mem_iff.mp hp);have e2:es[ps[i]]? = some e:=by
    unfold dF at he;rw[if_neg (by rw[hb];exact afC),if_pos hs,lu es ps pl i,afx ad] at he;exact he
   refine afy (lI z.set e2 ?_);refine afy (zT J λh2 O k2=>?_);exact afE ⟨_,rfl,afE (hQ e.2 h2 s.toks (by rw[he];rfl) (z.next hI hT (i+1) (by rw[U];exact O) (m4 k2)) (m4 k2))⟩
  .have U:∀ j,bw w es t T j=.int ((gn t j:Nat):Int) 0:=λj=>by unfold bw;rw[if_neg (by rw[hb];exact afC),if_neg hs]
   rw[U] at J ⊢;dsimp only;rw[agk];refine afy (kY z.set hb hs ?_);have e2:e=es[i]:=by
    unfold dF at he;rw[if_neg (by rw[hb];exact afC),if_neg hs,agG,ago hi] at he;injection he with he
    exact he.symm
   rw[qN z.set hs hi];dsimp only;refine afy (tY (x:=.int ((gn t (i+1):Nat):Int) 0) J λh1 Z k1=>?_);refine afy (zT Z λh2 O k2=>?_);have S:=(k1.trans k2);exact afE ⟨_,rfl,afE (hQ es[i].2 h2 s.toks (by rw[he,e2];rfl) (z.next hI hT (i+1) (by rw[U];exact O) (m4 S)) (m4 S))⟩
theorem oE {Q:Option Value->Shared->Prop}(hh:A.handled=none)(z:SStY prog w a I T es ep t ps es.size s.heap)(Z:ps.Perm (List.range es.size))
 (hQ:∀ h' tk,(∀ b o,b≠I->s.heap.get? b=some o->h'.get? b=some o)->Q none { s with heap:=h',toks:=tk }) :
 wpAny (model prog w) A (pyNext (.ref I)) Q E s:=by
 refine pI z ?_;have J:=z.it;have O:∀ {h1:Heap},Heap.SameBut I s.heap h1->wpAny (model prog w) A.in1 (do raiseNew (← newExc (.type "StopIteration") [])) (λO s'=>∃ v,O=Fin.done (Flow.ret v)/\wpAny (model prog w) A (pure (some v)) Q E s')
  (λe s'=>wpAny (model prog w) A (do if ← isInstance e (Value.type "StopIteration") then pure none else throw e) Q E s') { s with heap:=h1 }:=fun {h1} k1 =>
  aaN (s₁:={ s with heap:=h1 }) hh λh' k=>hQ h' s.toks λb o S e=>k b o (m4 k1 b o S e)
 rw[agk,agk];cases S:w.params.followText "set-order" with
 | true =>
  have U:∀ j,bw w es t T j=.int 0 0:=λj=>by unfold bw;rw[if_pos S]
  rw[U] at J ⊢;dsimp only;rw[Int.toNat_zero];refine afy (jW z.set S ?_);have e2:(pickOrder (w.params.setOrder a ep) es)[es.size]? = none:=by
   have:=(je (w.params.setOrder a ep) es).length_eq;rw[afO,afO] at this;exact ai5 (by lia)
  rw[e2];dsimp only [Option.map];exact afy (uP J λh1 k1=>O k1)
 | false =>
  by_cases Y:(!t.plain && decide (es.size > 1))=true
  .have U:∀ j,bw w es t T j=.ref T:=λj=>by unfold bw;rw[if_neg (by rw[S];exact afC),if_pos Y]
   rw[U] at J ⊢;dsimp only;obtain⟨oT,aa,ah,nT,ac⟩:=z.tup S Y;refine afy (wpAny_seqItems aa ac ?_);dsimp only;have e1:(ps.map λ(p:Nat)=>Value.int p 0).toArray[es.size]? = none:=by
    have:=Z.length_eq;rw[agK] at this;simp[this]
   rw[e1];dsimp only;refine afy (tY (x:=.int 0 0) J λh1 ad k1=>?_);exact afy (uP ad λh2 k2=>O (k1.trans k2))
  .have U:∀ j,bw w es t T j=.int ((gn t j:Nat):Int) 0:=λj=>by unfold bw;rw[if_neg (by rw[S];exact afC),if_neg Y]
   rw[U] at J ⊢;dsimp only;rw[agk];refine afy (kY z.set S Y ?_);rw[rp z.set Y];dsimp only;exact afy (uP J λh1 k1=>O k1)
theorem Walks.setY (Z:A.handled=none)(hI:a≠I)(hT:T≠I)(O:ps.Perm (List.range es.size)) :
 Walks prog w A I [I,a,T] [I] es.size (λi v=>(dF w a es ep t ps)[i]?.map (·.2)=some v) (λi h=>SStY prog w a I T es ep t ps i h) where
 sub:=λb J=>by simp at J;simp[J]
 frame:=λi h h' st U=>⟨st.set.at' λo e=>U a (by simp) o e,st.it.at' λo e=>U I (by simp) o e,λh1 h2=>let ⟨o,e,c⟩:=st.tup h1 h2;⟨o,U T (by simp) o e,c⟩⟩
 item:=λi s Q E hi st S=>oF st O hI hT hi λv h' tk e Y k=>S v h' tk e Y λb o J q=>k b o (λz=>J (by simp[z])) q
 done:=λs Q E st S=>oE Z st O λh' tk k=>S h' tk λb o J q=>k b o (λz=>J (by simp[z])) q
 self:=λi s Q E st S=>acG st.it S
theorem t7 {Q:Value->Shared->Prop}(x:SbAt w s.heap a es ep t)
 (h:∀ (I T:Addr) (ps:List Nat) (h':Heap) (d:Drawn),ps.Perm (List.range es.size)->a≠I->T≠I->s.heap.objs.size<=I->(T=a\/s.heap.objs.size<=T)->I < h'.objs.size->T < h'.objs.size->SStY prog w a I T es ep t ps 0 h'->(∀ b o,s.heap.get? b=some o->h'.get? b=some o)->Q (.ref I) { s with heap:=h',drawn:=d }) :
 wpAny (model prog w) A (pyIter (.ref a)) Q E s:=by
 have hT:s.TypeIs (.ref a) "set" := ⟨_,x.get,rfl⟩;have S:a < s.heap.objs.size:=afI x.get;refine ake hT F.slot_set_iter (ahn F.slot_set_iter hT oj ?_ (F.args_set_iter_1 _));unfold Builtin.«frozenset.__iter__» Builtin.Frozenset.slot0 slotArgs;simp only[List.isEmpty_nil,Bool.not_true,agD,↓reduceIte,bind_assoc,akG,ah2];unfold Builtin.Frozenset.addrOf Builtin.Frozenset.sizeOf;refine afy (afE ?_)
 try dsimp only
 refine afy (afE ?_);refine afy (afy (wpAny_setEntries_of x.get rfl x.fit (afE ?_)));refine afy (rV x ?_);have J:∀ (T:Addr) (ps:List Nat) (h1:Heap) (d:Drawn),ps.Perm (List.range es.size)->(T=a\/s.heap.objs.size<=T)->T < h1.objs.size->(∀ b o,s.heap.get? b=some o->h1.get? b=some o)->s.heap.objs.size<=h1.objs.size →
  (w.params.followText "set-order" = false->(!t.plain && decide (es.size > 1))=true->IsTup h1 T (ps.map λ(p:Nat)=>Value.int p 0).toArray) →
  wpAny (model prog w) A.in1 (do
   let r ← newFields "set_iterator" [bw w es t T 0,rawInt 0,Value.ref a,rawInt (es.size:Nat),rawInt (ep:Nat)]
   ret r) (λJ s'=>∃ v,J=Fin.done (Flow.ret v)/\∃ T' r,s'.TypeIs v T'/\typeLookup (Value.type T') (Str.ofString "__next__")=pure (some r)/\Q v s') E { s with heap:=h1,drawn:=d }:=λT ps h1 d Y Z U k hz hp=>by
  refine afy (ahh (afE ⟨_,rfl,"set_iterator",_,⟨_,afK _ rfl,rfl⟩,slot_si_next.lookup,?_⟩));have k2:∀ b o,h1.get? b=some o->(h1.push { cls:=.type "set_iterator",data:=.fields #[bw w es t T 0,rawInt 0,Value.ref a,rawInt (es.size:Nat),rawInt (ep:Nat)] }).get? b=some o:=λb o e=>afB _ e;refine h h1.objs.size T ps (h1.push { cls:=.type "set_iterator",data:=.fields #[bw w es t T 0,rawInt 0,Value.ref a,rawInt (es.size:Nat),rawInt (ep:Nat)] }) d Y (afU (afW S hz)) (afU U) hz Z (by rw[agw];exact ahk _) (by rw[agw];exact agr U) ⟨x.at' λo e=>k2 _ _ (k _ _ e),⟨_,afK _ rfl,rfl,rfl⟩,λh1 h2=>?_⟩ λb o e=>k2 _ _ (k _ _ e);obtain⟨o,e,c⟩:=hp h1 h2;exact⟨o,k2 _ _ e,c⟩
 by_cases O:w.params.followText "set-order" = false/\(!t.plain && decide (es.size > 1))=true
 .have e1:(!w.params.followText "set-order" && (!t.plain && decide (es.size > 1)))=true:=by rw[O.1,O.2];rfl
  rw[e1];simp only[ai7];refine afy (ig _ _ _ _ (by simp) λys d p=>?_);simp only[newTuple];have ac:ys.length<=sizeLine:=by rw[p.length_eq,agK];exact ah1 x.bd
  refine afy (ahh ?_ (by show (List.map (λ(i:Nat)=>rawInt i) ys).toArray.size<=sizeLine;simpa using ac));refine afy (wpAny_setEpoch_of (afB _ x.get) rfl x.fit ?_);have ef:bw w es t s.heap.objs.size 0=.ref s.heap.objs.size:=by unfold bw;rw[if_neg (by rw[O.1];exact afC),if_pos O.2]
  have q:=J s.heap.objs.size ys (s.heap.push { cls:=.type "tuple",data:=.seq (ys.map λ(p:Nat)=>Value.int p 0).toArray }) d p (.inr (afG _)) (by rw[agw];exact ahk _) (λb o e=>afB _ e) (by rw[agw];exact agV _) (λ_ _=>⟨_,afK _ rfl,rfl,_,rfl⟩);rw[ef] at q;exact q
 .have e1:(!w.params.followText "set-order" && (!t.plain && decide (es.size > 1)))=false:=by
   rw[ai9];intro z;rw[agf,akb] at z;exact O z
  rw[e1];simp only[agD,aiq];refine afy (afE ?_);refine afy (wpAny_setEpoch_of x.get rfl x.fit ?_);have ef:bw w es t a 0=rawInt 0:=by
   unfold bw;split
   .rfl
   .split
    .rename_i q1 q2;exact absurd ⟨by simpa using q1,q2⟩ O
    .rfl
  have q:=J a (List.range es.size) s.heap s.drawn .rfl (.inl rfl) S (λ_ _ e=>e) (afG _) (λh1 h2=>absurd ⟨h1,h2⟩ O);rw[ef] at q;exact q
end
section
variable {prog:Program}{w:World}{A:Around}{E:Value->Shared->Prop}{s:Shared}{a I T:Addr}{es:Array (Int×Value)}{ep:Nat}{t:SetTable}{ps:List Nat}{i:Nat}
theorem aby {Q:Bool->Shared->Prop}(J:s.TypeIs (.ref a) "set")(h:Q false s):wpAny (model prog w) A (Builtin.List.listLengthHint (.ref a)) Q E s:=by
 unfold Builtin.List.listLengthHint;refine afy (wpAny_specialOf J PySem.F.slot_set_len.lookup ?_);generalize hid:("set.__len__" : String)=O
 wp_delta
 rw[show splitId O=some ("set","__len__") from by subst hid;decide +kernel];subst hid;refine afy (wpAny_isInstance (T := "set") (b:=true) J (by rw[isSubtype_type];kernel_rfl) ?_);refine akN (λz=>absurd z (by decide)) (λ_=>?_);refine akN (λ_=>?_) (λz=>absurd (by decide +kernel) z);refine afy (wpAny_typeOf J ?_);exact afE h
theorem uq {R:Result->Shared->Prop}(hh:A.handled=none)(x:SbAt w s.heap a es ep t)(S:Addr)(ac:S≠a)(res:Value)(Z:Nat)(hS:s.heap.get? S=some { cls:=.type "list",data:=.seq #[] Z })
 (hR:∀ h' d tk O c' ps,ps.Perm (List.range es.size)->(∀ b o,b≠S->s.heap.get? b=some o->h'.get? b=some o)->h'.get? S=some { cls:=.type "list",dict:=none,data:=.seq O c',slots:=#[] }->ItemsOf (λi v=>(dF w a es ep t ps)[i]?.map (·.2)=some v) O es.size->R (.ok (.ret res)) { s with heap:=h',drawn:=d,toks:=tk }) :
 wpAny (model prog w) A.in1 (Builtin.List.listExtendWith (.ref S) (.ref a) res)
  (λam s'=>match am with | .done f=>R (.ok f) s' | .again c'=>c'.quiet=true/\codeAny (model prog w) A c' R s') (λe s'=>R (.error e) s') s:=by
 have hn:es.size<=sizeLine:=ah1 x.bd;have aa:S < s.heap.objs.size:=afI hS;unfold Builtin.List.listExtendWith;refine afy (wpAny_typeOf (T := "set") ⟨_,x.get,rfl⟩ ?_);have h1:Builtin.List.listSameRef (.ref S) (.ref a)=false:=by simp[Builtin.List.listSameRef,ac]
 have h2:(Value.type "set" == Value.type "list")=false:=by decide
 have h3:(Value.type "set" == Value.type "tuple")=false:=by decide
 simp only[h1,h2,h3,alu,agD,aiq];refine afy (t7 x λI T ps h1 d ag an ao ah ap aB aC st k1=>?_);have aq:S≠I:=afU (afW aa ah);have ar:S≠T:=by
  rcases ap with z | z
  .rw[z];exact ac
  .exact afU (afW aa z)
 have ai:S ∉ [I,a,T]:=by simp only[afZ,agA,aju,not_or];exact⟨aq,ac,ar⟩
 have W:Walks prog w A.in1 I [I,a,T] [I] es.size (λi v=>(dF w a es ep t ps)[i]?.map (·.2)=some v) (λi h=>SStY prog w a I T es ep t ps i h):=Walks.setY hh an ao ag;have aj:∀ (h:Heap) (U tk:Nat),SStY prog w a I T es ep t ps 0 h->(∀ b o,b≠S->s.heap.get? b=some o->h.get? b=some o) →
  h.get? S=some { cls:=.type "list",data:=.seq #[] U }->codeAny (model prog w) A (.builtin "list.extend.loop" ⟨[.ref S,.ref I,res],[]⟩) R { s with heap:=h,drawn:=d,toks:=tk }:=by
  intro h U tk as hk J;refine codeAny_extend_loopS W.toS hn S ai res es.size 0 _ #[] U rfl (af5 _) as J (ItemsOf.nil _) λs' O c' hm au ak=>?_;rw[Moved.eq_with hm];refine hR s'.heap _ s'.toks O c' ps ag (λb o hb e=>hm.heap b o (λhmem=>?_) (hk b o hb e)) au ak;rcases afZ.mp hmem with e' | hmem
  .exact hb e'
  .rw[afD.mp hmem] at e;exact absurd (afW (afI e) ah) (agB _)
 have J:=k1 _ _ hS;refine afy (agF (aby ⟨_,k1 _ _ x.get,rfl⟩ ?_));refine akN (λ_=>?_) (λ_=>afE ⟨aiA ajY _,aj _ Z _ st (λb o _ e=>k1 _ _ e) J⟩);refine afy (ag9 ?_);refine afy ?_;show wpAny _ _ (updateSeq S (·.push .none) >>= λ_=>updateSeq S (·.pop)) _ _ _;refine afy (wpAny_updateSeq J rfl ?_);have Y:=ahg (Obj.mapSeq (·.push Value.none)) J rfl;refine wpAny_updateSeq (hz:=by seq_fits) Y rfl ?_;have ae:=ahg (Obj.mapSeq (·.pop)) Y rfl;refine afE ⟨aiA ajY _,aj _ _ _ ?_ (λb o hb e=>?_) ae⟩
 .refine W.frame 0 _ _ st λb hb o e=>?_;have al:b≠S:=λh=>ai (h▸hb);exact (ahq _ _ (ahf al)).trans ((ahq _ _ (ahf al)).trans e)
 .exact (ahq _ _ (ahf hb)).trans ((ahq _ _ (ahf hb)).trans (k1 _ _ e))
theorem kO {R:List Value->Shared->Prop}(hh:A.handled=none)(x:SbAt w s.heap a es ep t)
 (h:∀ (h':Heap) (d:Drawn) (tk:Nat) (acc:List Value),(∀ b o,s.heap.get? b=some o->h'.get? b=some o)->s.heap.objs.size<=h'.objs.size->acc.Perm (es.toList.map (·.2))->R acc { s with heap:=h',drawn:=d,toks:=tk }) :
 wpAny (model prog w) A (collect (.ref a)) R E s:=by
 have ac:a < s.heap.objs.size:=afI x.get;have U:∀ (acc:Array Value) (ps:List Nat),ps.Perm (List.range es.size)->ItemsOf (λi v=>(dF w a es ep t ps)[i]?.map (·.2)=some v) acc es.size->acc.toList.Perm (es.toList.map (·.2)):=λacc ps S ha=>by
  have e:acc.toList=(dF w a es ep t ps).map (·.2):=by
   apply ahu;intro i;rw[afF];cases q:acc.toList[i]? with
   | some v=>exact (ha.2 i v (by rw[← agG];exact q)).symm
   | none =>
    have:=aiF.mp q;rw[afO,ha.1] at this;have ol:(dF w a es ep t ps).length=es.size:=by rw[(jy (w:=w) (a:=a) (ep:=ep) (t:=t) S).length_eq,afO]
    rw[agZ (by lia)]
    rfl
  rw[e];exact (jy S).map _
 unfold collect;refine afy (wpAny_runValue (ahN entry_proto_collect' ?_));rw[ahi PySem.F.plain_proto_collect _];show wpAny _ A.in1 (newList [] >>= λl=>again (.builtin "list.__iadd__" ⟨[l,.ref a],[]⟩)) _ _ s;refine afy (ahh ?_);refine afE ⟨aiA akm _,ahN entry_list_iadd' ?_⟩;rw[ahi akm _];have Y:(s.heap.push { cls:=.type "list",data:=.seq ([]:List Value).toArray }).get? s.heap.objs.size=some { cls:=.type "list",data:=.seq #[] }:=afK _ rfl;show wpAny _ A.in1 (Builtin.List.listExtendWith (.ref s.heap.objs.size) (.ref a) (.ref s.heap.objs.size)) _ _ _;have ad:=uq (prog:=prog) (A:=A) (s:={ s with heap:=s.heap.push { cls:=.type "list",data:=.seq ([]:List Value).toArray } })
  (R:=λ(q:Result) (s':Shared)=>∃ (h':Heap) (d:Drawn) (tk:Nat) (z:Array Value) (Z:Nat),q=.ok (.ret (.ref s.heap.objs.size))/\s'={ s with heap:=h',drawn:=d,toks:=tk } ∧
   (∀ b o,s.heap.get? b=some o->h'.get? b=some o)/\h'.get? s.heap.objs.size=some { cls:=.type "list",dict:=none,data:=.seq z Z,slots:=#[] }/\z.toList.Perm (es.toList.map (·.2)))
  hh (x.at' λo e=>afB _ e) s.heap.objs.size (ah6 ac) (.ref s.heap.objs.size) 0 Y
  (λh' d tk z Z ps S hk O J=>⟨h',d,tk,z,Z,rfl,rfl,λb o e=>hk b o (afU (afI e)) (afB _ e),O,U _ _ S J⟩)
 refine agq ad (λU s' x=>?_) λe s' x=>?_
 .cases U with
  | done f =>
   obtain⟨h',d,tk,z,Z,e,rfl,hk,O,J⟩:=x;cases e;show wpAny _ A (load s.heap.objs.size >>= _) _ _ _;refine afy (wpAny_load O ?_);exact afE (h h' d tk z.toList hk (ahc (afI O)) J)
  | again af =>
   refine⟨x.1,air x.2 λq ag y=>?_⟩;obtain⟨h',d,tk,z,Z,rfl,rfl,hk,O,J⟩:=y;show wpAny _ A (load s.heap.objs.size >>= _) _ _ _;refine afy (wpAny_load O ?_);exact afE (h h' d tk z.toList hk (ahc (afI O)) J)
 .obtain⟨_,_,_,_,_,e',_⟩:=x;cases e'
end
section
variable {prog:Program}{w:World}{A:Around}{E:Value->Shared->Prop}{s:Shared}{a I T:Addr}{es:Array (Int×Value)}{ep:Nat}{t:SetTable}{ps:List Nat}{i:Nat}
theorem acC {l:List (Int×Value)}(h:ElemsOf (PySem.strKind prog w) l):StrsAre (l.map (·.2)) (l.map λe=>strOf e.2):=by
 have:=strsAre_map (l.map (·.2)) λv z=>by
  obtain⟨e,J,rfl⟩:=afL.mp z;obtain⟨tk,O⟩:=zu h J;exact⟨strOf e.2,tk,by rw[O];rfl⟩
 rw[af3] at this;exact this
theorem xa {Q:Value->Shared->Prop}{ss:List Str}(hh:A.handled=none)(x:TxSet prog w s.heap a ss)(ai:ss.length < 64)
 (h:∀ (h':Heap) (d:Drawn) (tk:Nat) (l:Addr) (vs:List Value) (J:List Str) (e:Nat),(∀ b o,s.heap.get? b=some o->h'.get? b=some o)->s.heap.objs.size<=l->h'.get? l=some (seqObj "list" vs.toArray e)->StrsAre vs J->J.Perm ss->sortedS J=true->Q (.ref l) { s with heap:=h',drawn:=d,toks:=tk }) :
 wpAny (model prog w) A (call (.builtin "sorted") [.ref a]) Q E s:=by
 obtain⟨es,ep,t,T,e,nd⟩:=x;subst e;refine ahV kind_sorted plain_sorted entry_sorted (args_sorted1 _) ?_;unfold Builtin.«sorted»;refine afy (m:=checkCount "sorted" 1 1 _) (afE ?_);refine afy (kO (prog:=prog) (A:=A.in1) hh T.sb λh1 d tk z k1 Y hp=>?_);have Z:=acC T.el;have hS:StrsAre z (z.map strOf):=strsAre_map z λv hv=>Z.all v (hp.mem_iff.mp hv);have S:(z.map strOf).Perm (yq es):=by
  have:=hp.map strOf;rw[af3] at this;exact this
 have hl:z.length < 64:=by
  have:=S.length_eq;rw[afz] at this;lia
 refine afy (ai0 ?_ (ahc (afW hl (by decide))));show wpAny _ _ _ _ _ { s with heap:=h1.push (seqObj "list" z.toArray 0),drawn:=d,toks:=tk };have O:(h1.push (seqObj "list" z.toArray 0)).get? h1.objs.size=some (seqObj "list" z.toArray 0):=afK _ rfl;refine afy (agF (ahn ajZ ⟨_,O,rfl⟩ ajC (list_sort_treeK strKind_oneLt O hS.keysOf (λaf ag rest e=>keyKind_strs (by rw[← e];exact hS)) hl λU a1 a2=>⟨_,rfl,?_⟩) (aj0 _)));obtain⟨J,b1,b2,b3⟩:=sorted_out_str hS a1 a2;obtain⟨e,he⟩:=sortedHeap_at (vs:=z) (out:=(arrOf U).map (·.2)) O;refine afE ⟨_,rfl,h _ d tk h1.objs.size ((arrOf U).map (·.2)).toList J e (λb o q=>?_) Y (by rw[ajr];exact he) b1 (b2.trans S) b3⟩;have q1:=k1 _ _ q;rw[sortedHeap_old (afU (afI q1)) (by rw[size_push'];exact agr (afI q1))];exact afB _ q1
end
end L2
namespace L2
open PySem PySem.Spec PyProof.Rows
section
variable {prog:Program}{w:World}{A:Around}{R:Result->Shared->Prop}{I:Addr}{fp wr:List Addr}{G:Array GenState->Array GenState->Prop}{n:Nat}{P:Nat->Value->Prop}{St:Nat->Shared->Prop}
theorem TxSet.nd {h:Heap}{a:Addr}{ss:List Str}(x:TxSet prog w h a ss):ss.Nodup:=let ⟨_,_,_,_,_,n⟩:=x;n
end
section
variable {prog:Program}{w:World}{A:Around}{E:Value->Shared->Prop}{s:Shared}
theorem m5 (a:Value){Q₁:Value->Shared->Prop}
 (h:Q₁ (.ref s.heap.objs.size) { s with heap:=s.heap.push { cls:=.type "set",dict:=none,data:=.set #[] 0 (.fresh 0 0 (!w.params.followText "set-order")) } }) :
 codeAny (model prog w) A (.call (.builtin "set.__new__") ⟨[.type "set",a],[]⟩) (wants Q₁ E) s:=by
 refine ajD ?_;show wpAny _ A.in1 (do checkBuiltinCall "set.__new__" ⟨[.type "set",a],[]⟩;again (.builtin "set.__new__" ⟨[.type "set",a],[]⟩)) _ _ s;refine afy (wpAny_of_eq (F.newCall_set_1 a) (afE ⟨aiA F.plain_set_new _,ahN F.entry_set_new ?_⟩));rw[ahi F.plain_set_new _];unfold Builtin.«set.__new__» Builtin.Frozenset.newClass;have z:=sub_set_self;obtain⟨J,g,d,tk,os⟩:=s;dsimp only
 wp_walk
 refine aih (afE ?_);dsimp only;simp only[newObj];refine afy (ale (afE ?_));exact afE h
theorem aaz (prog:Program)(w:World)(h:Heap):TxSet prog w (h.push { cls:=.type "set",dict:=none,data:=.set #[] 0 (.fresh 0 0 (!w.params.followText "set-order")) }) h.objs.size [] :=
 ⟨#[],0,_,⟨afK _ rfl,λe z=>by simp at z,by decide,rfl,rfl,.inr rfl⟩,rfl,aj1⟩
end
theorem Inv.drawn' {X:Cx}{pins:List (Addr×Obj)}{σ:St}{H:Hp}{s:Shared}(I:Inv X pins σ H s)(d:Drawn):Inv X pins σ H { s with drawn:=d }:=⟨I.ok,I.os,I.bare,I.base,I.loc,I.cell,I.free,I.freeC,I.pin,I.hok,I.len⟩
def lK (P:Program)(w:World)(a:Addr)(ss:List Str):HO:=.ext λh=>TxSet P w h a ss
theorem ab5 {P:Program}{w:World}{H:Hp}{h:Heap}{a:Addr}{ss:List Str}(x:TxSet P w h a ss):ObjOk P w H h a (lK P w a ss) :=
 ⟨x,(let ⟨_,_,_,T,_⟩:=x;⟨_,T.get⟩),λ_ _ y k=>y.at' k⟩
theorem abP {P:Program}{w:World}{H:Hp}{h:Heap}{a:Addr}{ss:List Str}(ok:HOk P w H h)(e:H a=some (lK P w a ss)):TxSet P w h a ss:=(ok a _ e).1
section
variable {X:Cx}
theorem nJ (U:X.calm=true):eG X (.builtin "sorted") (λxs H Q=>∃ (a:Addr) (ss:List Str),xs=[.ref a]/\H a=some (lK X.prog X.w a ss)/\ss.length < 64/\∀ (l:Addr) (z:List Str),H l=none->z.Perm ss->sortedS z=true->Q (.ref l) (upd H l (.lst (z.map V.str)))):=by
 intro pins s σ H xs us Q I r h;obtain⟨a,ss,rfl,e,J,q⟩:=h;obtain⟨u,rfl,Y⟩:=gz r;cases Y;refine xa (I.ok.hd U) (abP I.hok e) J λh' d tk l vs z ep k O Z hS S hs=>?_;refine⟨.ref l,_,((I.laid (t':=tk) (o:=.lst (z.map V.str)) k O ⟨?_,vs,ep,kC hS,Z⟩).drawn' d),rfl,q l z (I.hok.fresh O) S hs⟩;rw[afz,S.length_eq];exact ahc (afW J (by decide))
end
section
variable {prog:Program}{w:World}{A:Around}{R:Result->Shared->Prop}{s:Shared}
theorem xq {kx vx J iter:Expr}{ifs:List Expr}{scope:Scope}{pos:Pos}{it:Value}{D:Addr}{env:Env}(I:Nat->Shared->Prop)
 (ag:∀ n s,I n s->wpAny (model prog w) A (pyNext it) (λr s₁=>match r with
  | none=>R (.ok .next) s₁
  | some v=>wpAny (model prog w) A (letOwnedTupleGo J it v) (λ_ O=>wpAny (model prog w) A (assign J env v) (λ_ U =>
   wpAny (model prog w) A (forIn ifs true λc r=>if r=true then do let ok ← isTrue c env (eval c env);pure (ForInStep.yield ok) else pure (ForInStep.yield r)) (λok S =>
    if ok=true then wpAny (model prog w) A (eval kx env) (λkv Y=>wpAny (model prog w) A (eval vx env) (λvv Z =>
     wpAny (model prog w) A (dictSet D kv vv) (λ_ aa=>∃ m,m < n/\I m aa) (λ_ _=>False) Z) (λ_ _=>False) Y) (λ_ _=>False) S
    else ∃ m,m < n/\I m S) (λ_ _=>False) U) (λ_ _=>False) O) (λ_ _=>False) s₁) (λ_ _=>False) s)
 (n:Nat)(h:I n s) :
 codeAny (model prog w) A (.compLoop (.DictComp kx vx [⟨J,iter,ifs,0⟩] scope pos) 0 it (.ref D) env) R s:=by
 have no:∀ {E:Value->Shared->Prop} (x:Value) (s:Shared),False->E x s:=λ_ _ z=>z.elim;refine akI rfl I (λn s hI=>?_) n h;show wpAny _ A ((compTurn (.DictComp kx vx [⟨J,iter,ifs,0⟩] scope pos) 0 it (.ref D) env).onRaise (λx=>do noteFrame x env;theTreesLotGoes x)) _ _ s;refine alb ?_;rw[compTurn_dict];refine afy (ag8 (afy (agq (ag n s hI) (λr s₁ ac=>?_) no)));cases r with
 | none=>exact afE ac
 | some v =>
  refine afy (agq ac (λ_ O af=>afy (agq af (λ_ U ah=>afy (agq ah (λok S ad=>?_) no)) no)) no);cases ok with
  | false=>exact afE ⟨rfl,ad⟩
  | true =>
   exact afy (afy (agq ad (λkv Y ai=>afy (agF (agq ai (λvv Z aj=>afy (ag8 (agF (agq aj (λ_ aa ak=>afE ⟨rfl,ak⟩) no)))) no))) no))
end
def yD (nl:Nat)(ix:List Nat)(wi:TI)(g:TG)(tf:TT)(tk tv:TE):TE:=λσ H Q=>wi σ H λJ H1=>∀ D,H1 D=none->∃ W:Nat->Nat->List (Key×V)->Hp->Prop,(∃ m,W 0 m [] (upd H1 D (.dK []))) ∧
 ∀ i m ys H2,W i m ys H2->H2 D=some (.dK ys)/\((J.stop i H2/\Q (.ref D) H2)\/(J.go i H2/\∀ x H3,J.yld i H2 x H3->g x (bM nl ix σ) H3 λσ4 H4=>(σ4.length=(bM nl ix σ).length/\σ4.drop nl=ix.map λj=>(σ[j]?).join)/\tf σ4 H4 λb H5 =>
  if b=true then tk σ4 H5 λz H6=>tv σ4 H6 λy H7=>∃ k:Key,z=kV k/\H7 D=some (.dK ys)/\ys.length < sizeLine/\∃ m',m' < m/\W (i+1) m' (j6 ys k y) (upd H7 D (.dK (j6 ys k y))) else ∃ m',m' < m/\W (i+1) m' ys H5))
section
variable {X:Cx}
theorem aba {kx vx tg iter:Expr}{ifs:List Expr}{scope:Scope}{pos:Pos}{N':List Str}{nl:Nat}{ix:List Nat}{wi:TI}{g:TG}{tf:TT}{tk tv:TE}(hc:X.calm=true)(S:CompScope X scope)(Cp:abK X scope N' nl ix)(hi:PI X tg iter wi)
 (hg:∀ C fp s₀ H₀,PG (X.comp scope N' C fp s₀ H₀) tg g)(hf:∀ C fp s₀ H₀,PIf (X.comp scope N' C fp s₀ H₀) ifs tf)(hk:∀ C fp s₀ H₀,PE (X.comp scope N' C fp s₀ H₀) kx tk)(hv:∀ C fp s₀ H₀,PE (X.comp scope N' C fp s₀ H₀) vx tv)
 (hs:∀ x,foldedSetIterable iter X.env x=pure x:=by intro _;rfl):PE X (.DictComp kx vx [⟨tg,iter,ifs,0⟩] scope pos) (yD nl ix wi g tf tk tv):=by
 intro pins s σ H Q I h;rw[arm_eval_DictComp];refine ahz (use:=none) (cl:=jw X.env scope.names []) rfl hs (gr (S.cells I.ok)) S.kind S.loc ?_;refine thn (hi pins s σ H _ I h) λv s1 h1=>thn h1 λbB O h2=>?_;obtain⟨it,fp,tn,J,H2,rfl,I2,T,as,f2,h2⟩:=h2;obtain⟨W,⟨m0,w0⟩,az⟩:=h2 O.heap.objs.size I2.fresh;refine ahh (aiD S.nocell (by intro y hy;simp at hy) (λag Y Z=>?_) S.kind);dsimp only at Y Z ⊢;have aA:∀ b∈fp,b < O.heap.objs.size:=λb U=>by
  obtain⟨o,e,_⟩:=T.obj 0 _ as b U;exact afI e
 have I3:Inv X pins σ (upd H2 O.heap.objs.size (.dK [])) { O with heap:=O.heap.push { cls:=.type "dict",data:=.dict #[] },toks:=O.toks }:=I2.laid (a:=O.heap.objs.size) (o:=.dK []) (t':=O.toks) (λ_ _ q=>afB _ q) (afG _) (qM O.heap I2.big);have hD:(upd H2 O.heap.objs.size (.dK [])) O.heap.objs.size=some (.dK []):=af;have f3:∀ b∈fp,kA X pins (upd H2 O.heap.objs.size (.dK [])) b:=λb U=>by
  refine⟨?_,(f2 b U).2⟩;rw[ao (afU (aA b U))];exact (f2 b U).1
 generalize hS3:O.heap.push { cls:=.type "dict",dict:=none,data:=.dict #[] }=g3 at Y Z I3 ⊢;have a1:g3.objs.size=O.heap.objs.size+1:=by rw[← hS3,agw]
 have aq:∀ b∈fp,b < ({ O with heap:=g3,toks:=O.toks }:Shared).heap.objs.size:=λb U=>by
  show b < g3.objs.size;rw[a1];exact agr (aA b U)
 have au:∀ b o,g3.get? b=some o->ag.get? b=some o:=λb o e=>Z.extBut b o (afU (afI e)) (afB _ e);have I4:=lR (tk:=O.toks+([]:List (Str×Value)).length) S Cp I3 f3 aq Y au;generalize hX:X.comp scope N' g3.objs.size fp { O with heap:=g3,toks:=O.toks } (upd H2 O.heap.objs.size (.dK []))=X' at *;have ah:X'.prog=X.prog:=by rw[← hX];rfl
 have ai:X'.w=X.w:=by rw[← hX];rfl
 have aB:X'.K=X.K:=by rw[← hX];rfl
 have a2:X'.A=X.A:=by rw[← hX];rfl
 have aC:X'.calm=true:=by rw[← hX];exact hc
 have an:X'.xe=λ_ _=>False:=by rw[← hX];rfl
 have av:X'.ex=fp:=by rw[← hX];rfl
 have a3:X'.pn=[]:=by rw[← hX];rfl
 have aD:X'.env.locals=g3.objs.size:=by rw[← hX];rfl
 have a4:X'.env=compEnvC scope (jw X.env scope.names []) g3.objs.size X.env:=by rw[← hX];rfl
 have aE:=hg g3.objs.size fp { O with heap:=g3,toks:=O.toks } (upd H2 O.heap.objs.size (.dK []));have aF:=hf g3.objs.size fp { O with heap:=g3,toks:=O.toks } (upd H2 O.heap.objs.size (.dK []));have aG:=hk g3.objs.size fp { O with heap:=g3,toks:=O.toks } (upd H2 O.heap.objs.size (.dK []));have aH:=hv g3.objs.size fp { O with heap:=g3,toks:=O.toks } (upd H2 O.heap.objs.size (.dK []));rw[hX] at aE aF aG aH;have aw:Inv X' [] (bM nl ix σ) (upd H2 O.heap.objs.size (.dK [])) { O with heap:=ag,toks:=O.toks+([]:List (Str×Value)).length }:=I4;have aI:∀ {H':Hp} {σ':St} {pins':List (Addr×Obj)} {s':Shared} {h':Heap},Inv X' pins' σ' H' s'->Heap.SameBut g3.objs.size s'.heap h'->Inv X pins σ H' { s' with heap:=h' }:=λI' sb=>by
  subst hX;exact jX I3 f3 I' sb
 have aj:∀ {H':Hp},(∀ b∈fp,H' b=none)->∀ b∈fp,kA X' [] H' b:=λhn b U=>by
  refine⟨hn b U,?_,?_,.inl (by rw[av];exact U),?_,λp hp=>by rw[a3] at hp;cases hp⟩
  .rw[aD];exact afU (aq b U)
  .exact aw.ok.exfs b (by rw[av];exact U)
  .exact (aw.ok.exf b (by rw[av];exact U)).2
 have ak:codeAny (model X.prog X.w) X.A (.compLoop (.DictComp kx vx [⟨tg,iter,ifs,0⟩] scope pos) 0 (.ref it) (.ref O.heap.objs.size) X'.env)
  (compPost (model X.prog X.w) X.A X.xe none (EP X pins σ Q) (.ref O.heap.objs.size) g3.objs.size) { O with heap:=ag,toks:=O.toks+([]:List (Str×Value)).length }:=by
  rw[← ah,← ai,← a2];refine xq (λn s'=>∃ i ys H',Inv X' [] (bM nl ix σ) H' s'/\tn i s'.heap/\(∀ b∈fp,H' b=none)/\W i n ys H') ?_ m0
   ⟨0,[],_,aw,T.keep _ _ _ as (λb U o e=>au b o (by rw[← hS3];exact afB _ e)),λb U=>(f3 b U).1,w0⟩
  rintro n s5 ⟨i,ys,H5,I5,aJ,aK,w5⟩;obtain⟨bI,a5⟩:=az i n ys H5 w5;rcases a5 with ⟨aL,qn⟩ | ⟨go,step⟩
  .rw[ah,ai];refine thn (T.done X' ah ai aB aC i [] s5 _ H5 _ I5 (aj aK) aJ aL) λr s6 ⟨hr,I6⟩=>?_;subst hr;obtain⟨m,hn,_⟩:=I6.loc;rw[aD] at hn;exact⟨m,hn,λh' sb=>⟨.ref O.heap.objs.size,H5,aI I6 sb,rfl,qn⟩⟩
  .have aM:=T.item X' ah ai aB aC i [] s5 _ H5 (λ_ _=>False) I5 (aj aK) aJ go;rw[← ah,← ai] at aM;refine thn aM λr s6 ⟨u,hr,h6⟩=>?_;subst hr;refine thn h6 λ_ s7 ⟨x,H7,I7,r7,y7,ax,a7⟩=>?_;have a8:=I7.pinned (aj a7) (T.obj _ _ ax);have g7:=aE _ s7 _ H7 x u _ a8 r7 (step x H7 y7);rw[an] at g7;refine thn g7 λ_ s8 ⟨ap,H8,I8,⟨a9,ba⟩,q8⟩=>?_;have f8:=aF _ s8 ap H8 _ I8 q8;rw[an] at f8;refine thn f8 λok s9 ⟨H9,I9,q9⟩=>?_;have al:∀ {ad:Hp} {ae:Shared} {ay:List (Key×V)},Inv X' ([]++f7 fp s7.heap) ap ad ae->(∃ m',m' < n/\W (i+1) m' ay ad)->∃ m,m < n/\∃ i ys H',Inv X' [] (bM nl ix σ) H' ae/\tn i ae.heap/\(∀ b∈fp,H' b=none)/\W i m ys H':=fun {ad ae ay} am ⟨m',hm,w'⟩=>by
    refine⟨m',hm,i+1,ay,ad,hV am.unpinned a9 ba,T.keep _ _ _ ax λb U o e=>(am.pin (b,o) (afQ _ (afQ _ (bo U e)))).1,λb U=>?_,w'⟩;obtain⟨o,e,d⟩:=T.obj _ _ ax b U;exact (am.pin (b,o) (afQ _ (afQ _ (bo U e)))).2.1
   cases ok with
   | false =>
    rw[if_neg afC] at q9 ⊢;exact al I9 q9
   | true =>
    rw[if_pos rfl] at q9 ⊢;have e9:=aG _ s9 ap H9 _ I9 q9;rw[an] at e9;refine thn e9 λzv ae ⟨z,ad,am,bb,bc⟩=>?_;have aN:=aH _ ae ap ad _ am bc;rw[an] at aN;refine thn aN λxv bZ ⟨y,b0,aO,bd,k,ez,ar,hz,mw⟩=>?_;subst ez;obtain⟨z1,hd,vs,aP,dd⟩:=ud aO.hok ar;refine wpAny_dictSet_pairs (tR bb) dd (hsz:=by rw[← aP.length];exact z1) λh' aQ hs=>?_;have be:∃ q,h'.get? O.heap.objs.size=some q:=let ⟨q,_,_,hq,_⟩:=aQ;⟨q,hq⟩;have hl:(j6 ys k y).length<=sizeLine:=by have:=fT ys k y;lia
    exact al (nO aO (by rw[ar];exact True.intro) hs be (xT hl hd (aP.put k bd) aQ)) mw
 rw[a4] at ak;exact codeAny_compStart_dict ak (T.self _ 0 _ _ _ (T.keep _ _ _ as (λb U o e=>au b o (by rw[← hS3];exact afB _ e))) ak)
end
end L2
namespace L2
open PySem PySem.Spec PyProof.Rows PySem.W
section
variable {X:Cx}{pins:List (Addr×Obj)}{σ:St}{H:Hp}{s:Shared}{a:Addr}{o:Obj}{kvs:List (Key×V)}
theorem Inv.freeze (I:Inv X pins σ H s)(e:H a=some (.dK kvs))(J:s.heap.get? a=some o):Inv X pins σ (upd H a (.frz o (.dK kvs))) s:=by
 have q:=I.hok a _ e;refine I.write (x:=a) (e:=a) (o:=.frz o (.dK kvs)) (h':=s.heap) (t':=s.toks) (by rw[e];exact True.intro) (.inl rfl) (λb u _ z=>z) ⟨o,J⟩ ⟨J,?_⟩;exact q.stay (λ_ _ _ z=>z) (λb z=>by rw[ao (y3 z e (λz=>nomatch z))];exact z) λb xs z=>by rw[ao (y3 z e (λz=>nomatch z))];exact z
theorem Inv.notFrz (I:Inv X pins σ H s)(e:H a=some (.dK kvs)):∀ o u,X.H₀ a≠some (.frz o u):=λo u z=>by
 have:=I.base.frzs a o u z;rw[e] at this;cases this
theorem Inv.thaw (I:Inv X pins σ H s)(e:H a=some (.frz o (.dK kvs)))(S:∀ o u,X.H₀ a≠some (.frz o u)):Inv X pins σ (upd H a (.dK kvs)) s:=by
 have U:∀ xs,X.H₀ a≠some (.tup xs):=λxs z=>by have:=I.base.tups a xs z;rw[e] at this;cases this
 have nb:∀ ps,X.H₀ a≠some (.tbl ps):=λps z=>by obtain⟨_,q⟩:=I.base.tbls a ps z;rw[e] at q;cases q
 have ne:∀ {b},H b=none->b≠a:=λh z=>by subst z;rw[e] at h;cases h
 refine⟨I.ok,I.os,I.bare,⟨I.base.keep,I.base.slot,λb J q n Y=>?_,I.base.there,λb xs z=>?_,λb J u z=>?_,λb ps z=>?_⟩,I.loc,I.cell,?_,λx c z=>?_,λp Z=>?_,λb u z=>?_,I.len⟩
 .have:=I.base.free b J q n Y;rw[ao (ne this)];exact this
 .rw[ao (show b≠a from λw=>by subst w;exact U xs z)];exact I.base.tups b xs z
 .rw[ao (show b≠a from λw=>by subst w;exact S J u z)];exact I.base.frzs b J u z
 .rw[ao (show b≠a from λw=>by subst w;exact nb ps z)];exact I.base.tbls b ps z
 .rw[ao (ne I.free)];exact I.free
 .rw[ao (ne (I.freeC x c z))];exact I.freeC x c z
 .obtain⟨p1,p2,p3⟩:=I.pin p Z;exact⟨p1,by rw[ao (ne p2)];exact p2,p3⟩
 .have st:∀ {c w},ObjOk X.prog X.w H s.heap c w->ObjOk X.prog X.w (upd H a (.dK kvs)) s.heap c w:=fun {c w} q =>
   q.stay (λ_ _ _ z=>z) (λb z=>by rw[ao (y3 z e (λz=>nomatch z))];exact z) λb xs z=>by rw[ao (y3 z e (λz=>nomatch z))];exact z
  by_cases O:b=a
  .subst O;rw[af] at z;cases z;exact st (I.hok _ _ e).2
  .rw[ao O] at z;exact st (I.hok b u z)
end
def ItK (a:Addr)(o:Obj)(kvs:List (Key×V)):It :=
 ⟨λi H=>i < kvs.length/\H a=some (.frz o (.dK kvs)),λi H x H'=>H'=H/\∃ k v,kvs[i]? = some (k,v)/\x=kV k,λi H=>i=kvs.length/\H a=some (.frz o (.dK kvs))⟩
theorem qq {P:Program}{w:World}{k:Key}{u:Value}(h:(aU P w).is k u=true):RelV (kV k) u:=by
 rcases bP h with ⟨i,t,rfl,rfl⟩ | ⟨x,t,rfl,rfl⟩
 .exact⟨t,rfl⟩
 .exact⟨t,rfl⟩
theorem zK {P:Program}{w:World}{K:PySem.W.Frag}{tg:Expr}(a it:Addr)(o:Obj)(kvs:List (Key×V))(ep:Nat)(Z:∃ es,o.data=.dict es ep):aak P w K tg (ItK a o kvs) [it] it (λi h=>h.IsKeyIter it a i kvs.length ep) where
 mem:=by simp
 obj:=λi h st b S=>by
  have e:b=it:=by simpa using S
  subst e;obtain⟨o,e,c,d⟩:=st;exact⟨o,e,λv z=>by rw[d] at z;cases z⟩
 keep:=λi h h' st k=>st.at λo e=>k it (by simp) o e
 item:=by
  intro X hP hw hK hc i pins s σ H E I hf st hg;subst hP hw hK;obtain⟨hi,hH⟩:=hg;obtain⟨ho,_,_,vs,O,dd⟩:=I.hok a _ hH;obtain⟨U,da⟩:=dd.dictAt;have ee:U=ep:=by
   obtain⟨es,h1⟩:=Z;obtain⟨o',am,h2,_,h3,_⟩:=id da;rw[ho] at h2;cases h2;rw[h1] at h3;injection h3 with _ z
   exact z.symm
  subst ee;have Y:=O.length;obtain⟨⟨k,v⟩,hx⟩:∃ p,vs[i]? = some p:=⟨vs[i],by simp[← Y,hi]⟩;obtain⟨f0,f1,f2,f3,f4,f5⟩:=hf it (by simp);refine wpAny_pyNext_dict_item (knd:=aU X.prog X.w) (by rw[← Y];exact st) da hx λas h' ad J au=>?_;rw[← Y] at J;have I1:Inv X pins σ H { s with heap:=h' }:=I.turned (t':=s.toks) (λb o S e=>(au.2 b S).trans e) f0 f1 f3 f4 f5;have hk:∃ v',kvs[i]? = some (k,v'):=by
   have e1:(kvs.map (·.1))[i]? = some k:=by rw[O.keys,afF,hx];rfl
   rw[afF] at e1;cases q:kvs[i]? with
   | none=>rw[q] at e1;cases e1
   | some p=>rw[q] at e1;cases e1;exact⟨p.2,rfl⟩
  obtain⟨v',aw⟩:=hk;obtain⟨oi,e,c,d⟩:=id J;exact⟨as,rfl,aaa (s:={ s with heap:=h' }) e c d (by decide) ⟨kV k,H,I1,qq ad,⟨rfl,k,v',aw,rfl⟩,J,λb S=>(hf b S).1⟩⟩
 done:=by
  intro X hP hw hK hc i pins s σ H E I hf st hg;subst hP hw hK;obtain⟨hi,hH⟩:=hg;obtain⟨ho,_,_,vs,O,dd⟩:=I.hok a _ hH;obtain⟨U,da⟩:=dd.dictAt;have ee:U=ep:=by
   obtain⟨es,h1⟩:=Z;obtain⟨o',am,h2,_,h3,_⟩:=id da;rw[ho] at h2;cases h2;rw[h1] at h3;injection h3 with _ z
   exact z.symm
  subst ee;have Y:=O.length;obtain⟨f0,f1,f2,f3,f4,f5⟩:=hf it (by simp);exact wpAny_pyNext_dict_end (knd:=aU X.prog X.w) (I.ok.hd hc) (by rw[← Y];exact st) da (by rw[hi,Y];simp) λh' eb=>⟨rfl,I.turned (t':=s.toks) (λb o S e=>eb b o S e) f0 f1 f3 f4 f5⟩
 self:=λ_ _ _ _ _ st h=>wpAny_pyIter_keyiter st h
def aeJ (H₀:Hp)(td:TE):TI:=λσ H R=>td σ H λx H1=>∃ a kvs,x=.ref a/\H1 a=some (.dK kvs)/\∀ o,(∀ o' u,H₀ a≠some (.frz o' u))->R (ItK a o kvs) (upd H1 a (.frz o (.dK kvs)))
section
variable {X:Cx}{tg:Expr}
theorem uQ {l:Expr}{tl:TE}{H₀:Hp}(Z:X.H₀=H₀)(hl:PE X l tl):PI X tg l (aeJ H₀ tl):=by
 subst Z;intro pins s σ H R I h;refine thn (hl pins s σ H _ I h) λv J ⟨y,H1,O,r1,q1⟩=>?_;obtain⟨a,kvs,rfl,e,q⟩:=q1;cases r1;obtain⟨z,hd,vs,S,dd⟩:=ud O.hok e;obtain⟨ep,Y⟩:=dd.dictAt;refine wpAny_pyIter_dict (knd:=aU X.prog X.w) hd Y ?_;obtain⟨o,es,ho,_,U,_⟩:=id Y;have I2:=(O.freeze e ho).kept (t':=J.toks) (h':=J.heap.push { cls:=.type "dict_keyiterator",data:=.fields #[.ref a,.int 0 0,.int vs.length 0,.int ep 0] }) λb o e=>afB _ e;have hn:(upd H1 a (.frz o (.dK kvs))) J.heap.objs.size=none:=by
  have:=O.fresh;rw[ao (λz=>by rw[z,e] at this;cases this)];exact this
 refine⟨J.heap.objs.size,[J.heap.objs.size],_,ItK a o kvs,upd H1 a (.frz o (.dK kvs)),rfl,I2,zK a _ o kvs ep ⟨es,U⟩,⟨_,afK _ rfl,rfl,by rw[S.length];rfl⟩,λb hb=>?_,q o (O.notFrz e)⟩;have e:b=J.heap.objs.size:=by simpa using hb
 subst e;exact O.fpOk (afG _) hn
def aeA (H₀:Hp)(t:TS):TS:=λD σ H=>∃ a o kvs,H a=some (.frz o (.dK kvs))/\(∀ o' u,H₀ a≠some (.frz o' u))/\t D σ (upd H a (.dK kvs))
theorem vV {z:List Stmt}{t:TS}{H₀:Hp}(J:X.H₀=H₀)(h:PSs X z t):PSs X z (aeA H₀ t):=by
 subst J;intro pins s σ H D I hw;obtain⟨a,o,kvs,e,O,q⟩:=hw;exact h pins s σ _ D (I.thaw e O) q
end
section
variable {X:Cx}
end
end L2
namespace LL
open PySem PySem.SeqAt PySem.W PyProof.Rows
open AutoSeq1 (wpAny_loadPart')
open MeetsSeq MeetsSeq2 MeetsSeq3
def xK (A:Around)(s:Shared)(y x:Value)(b:Bool):Prop :=
 ∀ (prog:Program) (w:World) (E:Value->Shared->Prop) (Q:Value->Shared->Prop),Q (.bool b) s->wpAny (model prog w) A (richCompare .Lt y x) Q E s
def xA (m n:Nat)(e f:Nat->Bool):Nat->Nat->Bool
 | 0,_=>decide (m < n)
 | k+1,i=>if e i=true then xA m n e f k (i+1) else f i
theorem zi (l b:Addr)(O J:Array Value)(n n2:Nat)(dd ad:Option Addr)(sl ae:Array (Option Value))(e f:Nat->Bool)(k:Nat) :
 ∀ i:Nat,min O.size J.size - i=k->Meets (Builtin.«list.__eq__.loop» ⟨[.ref l,.ref b,rawInt i,rawInt 0],[]⟩)
  (λA R s=>s.heap.get? l=some { cls:=.type "list",dict:=dd,data:=.seq O n,slots:=sl }/\s.heap.get? b=some { cls:=.type "list",dict:=ad,data:=.seq J n2,slots:=ae } ∧
   (∀ j (h1:j < O.size) (h2:j < J.size),EqAt A.in1 s O[j] J[j] (e j))/\(∀ j (h1:j < O.size) (h2:j < J.size),e j=false->xK A.in1 s O[j] J[j] (f j)) ∧
   R (.ok (.ret (.bool (xA O.size J.size e f k i)))) s):=by
 induction k with
 | zero =>
  intro i hk prog w A R s h;obtain⟨hp,g,d,tk,os⟩:=s;obtain⟨U,Y,he,hf,h⟩:=h
  wp_walk using agO U,agO Y
  have hz:O[((i:Nat):Int).toNat]? = none\/J[((i:Nat):Int).toNat]? = none:=by
   rcases Nat.lt_or_ge i O.size with h1 | h1
   .right;simp;lia
   .left;simp;lia
  have go:R (.ok (.ret (.bool (decide (O.size < J.size))))) ⟨hp,g,d,tk,os⟩:=h;cases e1:O[((i:Nat):Int).toNat]? with
  | none =>
   wp_walk using agO U,agO Y
   exact go
  | some x =>
   cases e2:J[((i:Nat):Int).toNat]? with
   | none =>
    wp_walk using agO U,agO Y
    exact go
   | some y =>
    rcases hz with z | z
    .rw[e1] at z;cases z
    .rw[e2] at z;cases z
 | succ k ih =>
  intro i hk prog w A R s h;obtain⟨hp,g,d,tk,os⟩:=s;obtain⟨U,Y,he,hf,h⟩:=h
  wp_walk using agO U,agO Y
  have Z:i < O.size:=by lia
  have S:i < J.size:=by lia
  have aa:O[((i:Nat):Int).toNat]? = some O[i]:=by simp[Z]
  have ac:J[((i:Nat):Int).toNat]? = some J[i]:=by simp[S]
  have hc:((i:Int)+1)=((i+1:Nat):Int):=by push_cast;rfl
  rw[aa,ac];refine afy (he i Z S prog w _ _ ?_);unfold xA at h;cases hb':e i with
  | true =>
   rw[hb',if_pos rfl] at h
   wp_walk
   rw[hc];exact⟨aiA plain_eq_loop _,ahN entry_eq_loop (by
    rw[ahi plain_eq_loop _];exact ih (i+1) (by lia) prog w A R _ ⟨U,Y,he,hf,h⟩)⟩
  | false =>
   rw[hb',if_neg afC] at h
   wp_walk using agO U,agO Y
   rw[aa,ac];refine afy (hf i Z S hb' prog w _ _ ?_)
   wp_walk
   exact h
theorem tj (l b:Addr)(J z:Array Value)(n U:Nat)(dd O:Option Addr)(sl S:Array (Option Value))(e f:Nat->Bool) :
 Meets (Builtin.«list.__lt__» ⟨[.ref l,.ref b],[]⟩)
  (λA R s=>s.heap.get? l=some { cls:=.type "list",dict:=dd,data:=.seq J n,slots:=sl }/\s.heap.get? b=some { cls:=.type "list",dict:=O,data:=.seq z U,slots:=S } ∧
   (∀ j (h1:j < J.size) (h2:j < z.size),EqAt A.in1 s J[j] z[j] (e j))/\(∀ j (h1:j < J.size) (h2:j < z.size),e j=false->xK A.in1 s J[j] z[j] (f j)) ∧
   R (.ok (.ret (.bool (xA J.size z.size e f (min J.size z.size) 0)))) s):=by
 intro prog w A R s h;obtain⟨hp,g,d,tk,os⟩:=s;obtain⟨Y,Z,he,hf,h⟩:=h;have f3:=AutoSeq1.sub_list_list
 wp_walk using agO Y,agO Z
 exact⟨aiA plain_eq_loop _,ahN entry_eq_loop (by
  rw[ahi plain_eq_loop _];exact zi l b J z n U dd O sl S e f _ 0 (by lia) prog w A R _ ⟨Y,Z,he,hf,h⟩)⟩
section
variable {prog:Program}{w:World}{A:Around}{E:Value->Shared->Prop}{s:Shared}
theorem tO {l b:Addr}{J z:Array Value}{e f:Nat->Bool}{Q:Bool->Shared->Prop}(hl:s.heap.IsList l J)(hb:s.heap.IsList b z)(hu:A.units < cLine)
 (he:∀ j (h1:j < J.size) (h2:j < z.size),EqAt A.in1 s J[j] z[j] (e j))(hf:∀ j (h1:j < J.size) (h2:j < z.size),e j=false->xK A.in1 s J[j] z[j] (f j))
 (h:Q (xA J.size z.size e f (min J.size z.size) 0) s):wpAny (model prog w) A (keyLt' oneType' (.ref l) (.ref b)) Q E s:=by
 obtain⟨⟨am,dd,ad,sl⟩,U,hc,n,hd⟩:=id hl;obtain⟨⟨ag,Y,Z,aa⟩,ac,O,n2,S⟩:=id hb;simp only at hc hd O S;subst hc hd O S;rw[keyLt'_oneType,oneLt'_eq];simp only[ai7];refine afy (wpAny_cRoomFor hu ?_);refine afy (wpAny_callSpecialIfBound?_slot ⟨_,U,rfl⟩ aj2 (aj9 aj2 ⟨_,U,rfl⟩ F.entry_list_lt (F.args_list_lt_2 _ _) (tj l b J z n n2 dd Y sl aa e f) ⟨U,ac,he,hf,?_⟩));exact agJ h
end
end LL
namespace L2
open PySem PySem.Spec PyProof.Rows
def fG (nl:Nat)(ix:List Nat)(g:TG)(tf:TT)(tk tv:TE)(σ:St)(D:Addr)(ys:List (Key×V))(H:Hp)(x:V)(nxt:List (Key×V)->Hp->Prop):Prop :=
 g x (bM nl ix σ) H λσ4 H4=>(σ4.length=(bM nl ix σ).length/\σ4.drop nl=ix.map λj=>(σ[j]?).join)/\tf σ4 H4 λb H5 =>
  if b=true then tk σ4 H5 λz H6=>tv σ4 H6 λy H7=>∃ k:Key,z=kV k/\H7 D=some (.dK ys)/\ys.length < sizeLine/\nxt (j6 ys k y) (upd H7 D (.dK (j6 ys k y))) else nxt ys H5
def rJ (nl:Nat)(ix:List Nat)(g:TG)(tf:TT)(tk tv:TE)(σ:St)(J:It)(H1:Hp)(D:Addr)(Q:VK):Prop :=
 ∃ W:Nat->Nat->List (Key×V)->Hp->Prop,(∃ m,W 0 m [] (upd H1 D (.dK []))) ∧
 ∀ i m ys H2,W i m ys H2->H2 D=some (.dK ys)/\((J.stop i H2/\Q (.ref D) H2)\/(J.go i H2/\∀ x H3,J.yld i H2 x H3->fG nl ix g tf tk tv σ D ys H3 x λys' H'=>∃ m',m' < m/\W (i+1) m' ys' H'))
theorem qJ (nl:Nat)(ix:List Nat)(wi:TI)(g:TG)(tf:TT)(tk tv:TE)(σ:St)(H:Hp)(Q:VK)(h:wi σ H λJ H1=>∀ D,H1 D=none->rJ nl ix g tf tk tv σ J H1 D Q):yD nl ix wi g tf tk tv σ H Q:=h
section
variable {nl:Nat}{ix:List Nat}{g:TG}{tf:TT}{tk tv:TE}{σ:St}{H1:Hp}{D:Addr}{Q:VK}(Pv:Nat->List (Key×V)->Hp->Prop)
theorem yu {J:It}{n:Nat}(U:Pv 0 [] (upd H1 D (.dK [])))(Y:∀ i ys H,Pv i ys H->H D=some (.dK ys))(Z:∀ i ys H,i < n->Pv i ys H->J.go i H)(z:∀ ys H,Pv n ys H->J.stop n H)
 (hs:∀ i ys H x H',i < n->Pv i ys H->J.yld i H x H'->fG nl ix g tf tk tv σ D ys H' x λS H'=>Nx n i (Pv (i+1) S H'))
 (hd:∀ ys H,Pv n ys H->Q (.ref D) H):rJ nl ix g tf tk tv σ J H1 D Q:=by
 refine⟨λi m ys H=>m=n - i/\i<=n/\Pv i ys H,⟨n,by simp,af5 _,U⟩,?_⟩;rintro i m ys H ⟨rfl,hi,p⟩;refine⟨Y i ys H p,?_⟩;by_cases O:i < n
 .exact .inr ⟨Z i ys H O p,λx H' y=>hs i ys H x H' O p y⟩
 .have e:i=n:=by lia
  subst e;exact .inl ⟨z ys H p,hd ys H p⟩
theorem pP {K:PySem.W.Frag}{a:Addr}{xs:List V}(O:Pv 0 [] (upd H1 D (.dK [])))(S:∀ i ys H,Pv i ys H->H D=some (.dK ys))(z:∀ i ys H,Pv i ys H->SqL K H a xs)
 (U:∀ i ys H x,xs[i]? = some x->Pv i ys H->fG nl ix g tf tk tv σ D ys H x λJ H'=>Nx xs.length i (Pv (i+1) J H'))(Y:∀ ys H,Pv xs.length ys H->Q (.ref D) H):rJ nl ix g tf tk tv σ (Itl K a) H1 D Q:=by
 refine yu (n:=xs.length) Pv O S (λi ys H hi p=>⟨xs,xs[i],z i ys H p,by simp[hi]⟩) (λys H p=>⟨xs,z _ ys H p,afG _⟩) (λi ys H x H' hi p y=>?_) Y;obtain⟨e,y⟩:=y;subst e;exact U i ys H' x (y xs (z i ys H' p)) p
end
theorem o4 {nl:Nat}{ix:List Nat}{tk tv:TE}{σ:St}{D:Addr}{ys:List (Key×V)}{H:Hp}{x:V}{J:List (Key×V)->Hp->Prop}{i:Nat}(h1:((bM nl ix σ).set i (some x)).drop nl=ix.map λj=>(σ[j]?).join)
 (h:tk ((bM nl ix σ).set i (some x)) H λz S=>tv ((bM nl ix σ).set i (some x)) S λy O=>∃ k:Key,z=kV k/\O D=some (.dK ys)/\ys.length < sizeLine/\J (j6 ys k y) (upd O D (.dK (j6 ys k y)))):fG nl ix (bu i) uI tk tv σ D ys H x J:=by
 unfold fG bu uI;dsimp only;rw[if_pos rfl];exact⟨⟨by simp,h1⟩,h⟩
theorem jC {nl:Nat}{ix:List Nat}{te:TE}{tf:TT}{σ:St}{D:Addr}{ys:List V}{H:Hp}{x:V}{z:List V->Hp->Prop}{i:Nat}(h1:((bM nl ix σ).set i (some x)).drop nl=ix.map λj=>(σ[j]?).join)
 (h:tf ((bM nl ix σ).set i (some x)) H λb J=>if b=true then te ((bM nl ix σ).set i (some x)) J λy O=>O D=some (.lst ys)/\ys.length < sizeLine/\z (ys++[y]) (upd O D (.lst (ys++[y]))) else z ys J):bQ nl ix (bu i) tf te σ D ys H x z:=by
 unfold bQ bu;dsimp only;exact⟨⟨by simp,h1⟩,h⟩
def afb (t:TS):TS:=λD σ H=>∃ N:St->Hp->Prop,(∀ σ' H',N σ' H'->D.nx σ' H')/\t { D with nx:=N } σ H
theorem bp {X:Cx}{st:Stmt}{t:TS}(h:PS X st t):PS X st (afb t):=by
 intro pins s σ H D I hw;obtain⟨N,O,q⟩:=hw;refine thn (h pins s σ H _ I q) λf U z=>?_;cases f with
 | next=>obtain⟨J,H',S,n⟩:=z;exact⟨J,H',S,O _ _ n⟩
 | brk=>exact z
 | cont=>exact z
 | ret u=>exact z
theorem rP (a b:Str):(a++b).cps.toList=a.cps.toList++b.cps.toList:=by
 show (a.cps++b.cps).toList=_;simp
section
variable {X:Cx}{outer scope:Scope}{N N':List Str}{nl:Nat}{ix:List Nat}{tg iter:Expr}{ifs:List Expr}{pos:Pos}{wi:TI}{g:TG}{tf:TT}
theorem gm {z:Expr}{te:TE}(h1:X.env.scope=outer)(h2:X.N=N)(O:X.calm=true)(hi:PI X tg iter wi)
 (U:∀ C fp s₀ H₀,PG (X.comp scope N' C fp s₀ H₀) tg g)(Y:∀ C fp s₀ H₀,PIf (X.comp scope N' C fp s₀ H₀) ifs tf)(Z:∀ C fp s₀ H₀,PE (X.comp scope N' C fp s₀ H₀) z te)
 (J:jO outer scope N N' nl ix=true:=by decide +kernel)(hs:∀ x,foldedSetIterable iter X.env x=pure x:=by intro _;rfl):PE X (.ListComp z [⟨tg,iter,ifs,0⟩] scope pos) (mX nl ix wi g tf te) :=
 let ⟨S,Cp⟩:=jq h1 h2 J
 lX O S Cp hi U Y Z hs
theorem adf {J O:Expr}{tk tv:TE}(h1:X.env.scope=outer)(h2:X.N=N)(U:X.calm=true)(hi:PI X tg iter wi)
 (Y:∀ C fp s₀ H₀,PG (X.comp scope N' C fp s₀ H₀) tg g)(Z:∀ C fp s₀ H₀,PIf (X.comp scope N' C fp s₀ H₀) ifs tf)(hk:∀ C fp s₀ H₀,PE (X.comp scope N' C fp s₀ H₀) J tk)(hv:∀ C fp s₀ H₀,PE (X.comp scope N' C fp s₀ H₀) O tv)
 (z:jO outer scope N N' nl ix=true:=by decide +kernel)(hs:∀ x,foldedSetIterable iter X.env x=pure x:=by intro _;rfl):PE X (.DictComp J O [⟨tg,iter,ifs,0⟩] scope pos) (yD nl ix wi g tf tk tv) :=
 let ⟨S,Cp⟩:=jq h1 h2 z
 aba U S Cp hi Y Z hk hv hs
end
section
variable {X:Cx}{pins:List (Addr×Obj)}{σ:St}{H:Hp}{s:Shared}{h':Heap}
theorem Inv.turnedL {t':Nat}{fp:List Addr}(I:Inv X pins σ H s)(k:∀ b o,b ∉ fp->s.heap.get? b=some o->h'.get? b=some o)(S:∀ b∈fp,kA X pins H b):Inv X pins σ H { s with heap:=h',toks:=t' }:=by
 have O:∀ b u,H b=some u->b ∉ fp:=λb u e z=>by have:=(S b z).1;rw[e] at this;cases this
 refine I.step (g':=s.gens) (d':=s.drawn) (ch:=fp) (λb U=>?_) (λb o _ _ J e _=>k b o J e) (λb o _ _ J e _=>⟨o.slots,k b o J e⟩) (λ_ _ _ _ n=>n)
  (λb o J e=>⟨o,k b o J e⟩) (λ_ _ e=>e) (λ_ _ _ e=>e) (λb ps e=>⟨#[],by rw[e];simp⟩) (λm Y=>?_) (λb u e=>?_) I.bare
 .obtain⟨f0,Z,f2,f3,f4,f5⟩:=S b U;exact⟨f3,Z,f4,f5⟩
 .obtain⟨o,es,ep,ho,r⟩:=Y;exact⟨o,es,ep,k _ o (λz=>(S _ z).2.1 rfl) ho,r⟩
 .refine (I.hok b u e).stay (λc v J q=>k c v ?_ q) (λ_ q=>q) λ_ _ q=>q;rcases J with z | z
  .rw[z];exact O b u e
  .exact O c _ z
theorem Inv.turnedNew {t':Nat}{fp:List Addr}{a:Addr}{o:HO}(I:Inv X pins σ H s)(k:∀ b o,b ∉ fp->s.heap.get? b=some o->h'.get? b=some o)(Y:∀ b∈fp,kA X pins H b)(Z:s.heap.objs.size<=a)(new:ObjOk X.prog X.w (upd H a o) h' a o) :
 Inv X pins σ (upd H a o) { s with heap:=h',toks:=t' }:=by
 have ha:H a=none:=I.hok.fresh Z;have O:∀ b u,H b=some u->b ∉ fp:=λb u e z=>by have:=(Y b z).1;rw[e] at this;cases this
 have S:∀ {b u},H b=some u->upd H a o b=some u:=fun {b u} e=>by rw[ao (aj e ha)];exact e
 refine I.step (g':=s.gens) (d':=s.drawn) (ch:=fp) (λb U=>?_) (λb o _ _ J e _=>k b o J e) (λb o _ _ J e _=>⟨o.slots,k b o J e⟩) (λb ob _ e n=>?_)
  (λb o J e=>⟨o,k b o J e⟩) (λ_ _ e=>S e) (λ_ _ _ e=>S e) (λb ps e=>⟨#[],by rw[S e];simp⟩) (λm hm=>?_) (λb u e=>?_) I.bare
 .obtain⟨f0,f1,f2,f3,f4,f5⟩:=Y b U;exact⟨f3,f1,f4,f5⟩
 .rw[ao (afU (afW (afI e) Z))];exact n
 .obtain⟨o,es,ep,ho,r⟩:=hm;exact⟨o,es,ep,k _ o (λz=>(Y _ z).2.1 rfl) ho,r⟩
 .by_cases U:b=a
  .subst U;rw[af] at e;cases e;exact new
  .rw[ao U] at e;refine (I.hok b u e).stay (λc v J q=>k c v ?_ q) (λ_ q=>S q) λ_ _ q=>S q;rcases J with z | z
   .rw[z];exact O b u e
   .exact O c _ z
end
def ItE (K:PySem.W.Frag)(a:Addr):It :=
 ⟨λi H=>∃ xs x,SqL K H a xs/\xs[i]? = some x,λi H x H'=>∃ T v,x=.ref T/\H T=none/\H'=upd H T (.tup [.int (i:Int),v])/\∀ xs,SqL K H a xs->xs[i]? = some v,λi H=>∃ xs,SqL K H a xs/\xs.length<=i⟩
theorem yI {P:Program}{w:World}{K:PySem.W.Frag}{es:List Expr}{kk:Nat}{tp:Pos}(a e it:Addr)(Y:e≠it):aak P w K (.Tuple es kk tp) (ItE K a) [e,it] e (λi h=>(∃ J,IsEnum h e it (i:Int) J)/\h.IsListIter it a i) where
 mem:=by simp
 obj:=λi h st b hb=>by
  obtain⟨⟨J,O⟩,hi⟩:=st;rcases afZ.mp hb with z | hb
  .rw[z];exact⟨_,O,λv z=>by cases z⟩
  .rw[afD.mp hb];obtain⟨o,e,c,d⟩:=hi;exact⟨o,e,λv z=>by rw[d] at z;cases z⟩
 keep:=λi h h' st k=>⟨let ⟨J,O⟩:=st.1;⟨J,k e (by simp) _ O⟩,st.2.at λo e=>k it (by simp) o e⟩
 item:=by
  intro X hP hw hK hc i pins s σ H E I hf st hg;subst hP hw hK;obtain⟨xs,x,hq,hx⟩:=hg;obtain⟨its,rv,p,hz⟩:=I.list hq;obtain⟨u,hu,ru⟩:=rv.get hx;obtain⟨⟨J,O⟩,S⟩:=st;refine wpAny_pyNext_enum_item O S p.isList (x:=u) (by simpa using hu) Y λh' ho Z hT av k=>?_;have hh:∀ b o,b ∉ [e,it]->s.heap.get? b=some o->h'.get? b=some o:=λb o hb q=>k b o (λz=>hb (by simp[z])) (λz=>hb (by simp[z])) q;refine⟨_,rfl,wpAny_letOwnedTupleGo_enum ho λh2 ai U=>?_⟩;have eT:s.heap.objs.size≠e:=ah6 (afI O);have aj:h2.get? s.heap.objs.size=some { cls:=.type "tuple",data:=.seq #[.int i s.toks,u] }:=(U.2 _ eT).trans hT;have ak:∀ b o,b ∉ [e,it]->s.heap.get? b=some o->h2.get? b=some o:=λb o hb q=>(U.2 b (λz=>hb (by simp[z]))).trans (hh b o hb q);have I2:=I.turnedNew (t':=s.toks+1) (h':=h2) (o:=.tup [.int (i:Int),x]) ak hf (afG _) ⟨by show 2<=sizeLine;decide,[.int i s.toks,u],.cons ⟨_,rfl⟩ (.cons ru .nil),_,aj,rfl,_,rfl⟩;have fr:H s.heap.objs.size=none:=I.fresh;refine⟨.ref s.heap.objs.size,_,I2,rfl,⟨_,x,rfl,fr,rfl,λys hy=>by rw[I.list_inj hy hq];exact hx⟩,⟨⟨_,by simpa using ai⟩,Z.at λo q=>(U.2 it (ahf Y)).trans q⟩,λb hb=>?_⟩;have al:b < s.heap.objs.size:=by
   rcases afZ.mp hb with z | hb
   .rw[z];exact afI O
   .rw[afD.mp hb];obtain⟨o,q,_⟩:=S;exact afI q
  rw[ao (afU al)];exact (hf b hb).1
 done:=by
  intro X hP hw hK hc i pins s σ H E I hf st hg;subst hP hw hK;obtain⟨xs,hq,hx⟩:=hg;obtain⟨its,rv,p,hz⟩:=I.list hq;obtain⟨⟨J,O⟩,S⟩:=st;have hl:=rv.length;exact wpAny_pyNext_enum_end (I.ok.hd hc) O S p.isList (by simp;lia) λh' eb=>⟨rfl,I.turnedL (t':=s.toks) (λb o hb q=>eb b o (λz=>hb (by simp[z])) q) hf⟩
 self:=λ_ _ _ _ _ st h=>let ⟨⟨_,O⟩,_⟩:=st;wpAny_pyIter_enum O h
def aec (K:PySem.W.Frag)(ta:TA):TI:=λσ H R=>ta σ H λvs H1=>∃ a,vs=[.ref a]/\(∃ xs,SqL K H1 a xs)/\R (ItE K a) H1
section
variable {X:Cx}
theorem oK:bootBuiltins "enumerate" = some (.type "enumerate"):=by decide +kernel
theorem t4 {a:Expr}{ta:TA}{p pos:Pos}{es:List Expr}{kk:Nat}{U:Pos}(Y:Gl X "enumerate")(Z:X.mg "enumerate" = none)(ha:PA X [a] ta)(hs:starEach [a] X.env=[(false,eval a X.env)]:=by rfl):PI X (.Tuple es kk U) (.Call (.Name "enumerate" p) [a] [] pos) (aec X.K ta):=by
 intro pins s σ H R I h;refine Call_ (jf I Y Z oK (agU (thn (ha pos pins s σ H _ I h) λus O ⟨vs,H1,J,r1,q1⟩=>?_) hs rfl));obtain⟨a,e,⟨xs,hq⟩,q⟩:=q1;subst e;obtain⟨u,rfl,ru⟩:=gz r1;cases ru;obtain⟨its,rv,p,hz⟩:=J.list hq;refine call_enumerate_list p.isList λh' S hi ah k=>?_;have I2:Inv X pins σ H1 { O with heap:=h' }:=J.kept (t':=O.toks) k;refine wpAny_pyIter_enum S ⟨O.heap.objs.size+1,[O.heap.objs.size+1,O.heap.objs.size],_,ItE X.K a,H1,rfl,I2,yI a _ _ (Nat.succ_ne_self _),⟨⟨_,S⟩,hi⟩,λb hb=>?_,q⟩;rcases afZ.mp hb with z | hb
 .rw[z];exact J.fpOk (agV _) (J.hok.fresh (agV _))
 .rw[afD.mp hb];exact J.fpOk (afG _) J.fresh
end
theorem abb {K:PySem.W.Frag}{a:Addr}{xs:List V}{g:TG}{tb:TS}{D:xV}{σ:St}{H:Hp}(Pv:Nat->St->Hp->Prop)(U:Pv 0 σ H)(Y:∀ i σ H,i<=xs.length->Pv i σ H->SqL K H a xs)
 (Z:∀ i x σ H T,xs[i]? = some x->Pv i σ H->H T=none->g (.ref T) σ (upd H T (.tup [.int (i:Int),x])) λz H2=>tb { D with nx:=Pv (i+1),ct:=Pv (i+1),bk:=D.nx } z H2)(hd:∀ σ H,Pv xs.length σ H->D.nx σ H) :
 ∃ W:Nat->Nat->St->Hp->Prop,(∃ m,W 0 m σ H)/\∀ i m σ H,W i m σ H →
  ((ItE K a).stop i H/\D.nx σ H)\/((ItE K a).go i H/\∃ N:St->Hp->Prop,(∀ J H',N J H'->∃ S,S < m/\W (i+1) S J H')/\∀ x H',(ItE K a).yld i H x H'->g x σ H' λz H2=>tb { D with nx:=N,ct:=N,bk:=D.nx } z H2):=by
 refine⟨λi m σ H=>m=xs.length - i/\i<=xs.length/\Pv i σ H,⟨xs.length,by simp,af5 _,U⟩,?_⟩;rintro i m σ H ⟨rfl,hi,p⟩;have q:=Y i σ H hi p;by_cases O:i < xs.length
 .refine .inr ⟨⟨xs,xs[i],q,by simp[O]⟩,Pv (i+1),λJ H' p'=>⟨xs.length - (i+1),by lia,rfl,O,p'⟩,λx H' y=>?_⟩;obtain⟨T,v,ex,hT,eH,hv⟩:=y;subst ex eH;exact Z i v σ H T (hv xs q) p hT
 .have e:i=xs.length:=by lia
  subst e;exact .inl ⟨⟨xs,q,afG _⟩,hd σ H p⟩
theorem rN {nl:Nat}{ix:List Nat}{g:TG}{tf:TT}{te:TE}{σ:St}{H1:Hp}{D:Addr}{Q:VK}(Pv:Nat->List V->Hp->Prop){K:PySem.W.Frag}{a:Addr}{xs:List V}(O:Pv 0 [] (upd H1 D (.lst [])))(S:∀ i ys H,Pv i ys H->H D=some (.lst ys))(z:∀ i ys H,Pv i ys H->SqL K H a xs)
 (U:∀ i ys H x T,xs[i]? = some x->Pv i ys H->H T=none->bQ nl ix g tf te σ D ys (upd H T (.tup [.int (i:Int),x])) (.ref T) λJ H'=>Nx xs.length i (Pv (i+1) J H'))(Y:∀ ys H,Pv xs.length ys H->Q (.ref D) H):gi nl ix g tf te σ (ItE K a) H1 D Q:=by
 refine nj (n:=xs.length) Pv O S (λi ys H hi p=>⟨xs,xs[i],z i ys H p,by simp[hi]⟩) (λys H p=>⟨xs,z _ ys H p,afG _⟩) (λi ys H x H' hi p y=>?_) Y;obtain⟨T,v,ex,Z,eH,hv⟩:=y;subst ex eH;exact U i ys H v T (hv xs (z i ys H p)) p Z
end L2
namespace L2
open PySem PySem.Spec PyProof.Rows PySem.W
theorem KV.at' {kvs:List (Key×V)}{vs:List (Key×Value)}(r:KV kvs vs):∀ {i:Nat} {k:Key} {u:Value},vs[i]? = some (k,u)->∃ v,kvs[i]? = some (k,v)/\RelV v u:=by
 induction r with
 | nil=>intro i k u e;simp at e
 | cons h t z =>
  intro i k u e;cases i with
  | zero =>
   cases e;obtain⟨h1,h2⟩:=h;exact⟨_,agS some (Prod.ext h1 rfl),h2⟩
  | succ i=>exact z (by simpa using e)
theorem oO:entryFor table "dict_itemiterator.__iter__" = some Builtin.«dict_keyiterator.__iter__» :=
 entryFor_alias (id' := "dict_keyiterator.__iter__") (by kernel_rfl) (by first | rfl | decide +kernel) (by decide +kernel) (by kernel_rfl)
theorem qx {prog:Program}{w:World}{A:Around}{E:Value->Shared->Prop}{s:Shared}{it d:Addr}{i n ep:Nat}{ok O:Value}{Q:Value->Shared->Prop}(z:IsItemIter s.heap it d i n ep ok O)(h:Q (.ref it) s):wpAny (model prog w) A (pyIter (.ref it)) Q E s:=by
 have J:s.TypeIs (.ref it) "dict_itemiterator" := ⟨_,z,rfl⟩;refine ake J aiM (ahn aiM J oO ?_ (PySem.F.args_dict_itemiterator_iter_1 _));show wpAny _ _ (ret (.ref it)) _ _ s;exact afE ⟨_,rfl,"dict_itemiterator",_,J,PySem.F.slot_dict_itemiterator_next.lookup,h⟩
def ItI (a:Addr)(o:Obj)(kvs:List (Key×V)):It :=
 ⟨λi H=>i < kvs.length/\H a=some (.frz o (.dK kvs)),λi H x H'=>∃ T k v,x=.ref T/\H T=none/\H'=upd H T (.tup [kV k,v])/\kvs[i]? = some (k,v),λi H=>i=kvs.length/\H a=some (.frz o (.dK kvs))⟩
theorem wO {P:Program}{w:World}{K:PySem.W.Frag}{es:List Expr}{kk:Nat}{tp:Pos}(a it:Addr)(o:Obj)(kvs:List (Key×V))(ep:Nat)(ac:∃ es,o.data=.dict es ep):aak P w K (.Tuple es kk tp) (ItI a o kvs) [it] it (λi h=>∃ ok Z,IsItemIter h it a i kvs.length ep ok Z) where
 mem:=by simp
 obj:=λi h st b O=>by
  have e:b=it:=by simpa using O
  subst e;obtain⟨ok,Z,e⟩:=st;exact⟨_,e,λv z=>by cases z⟩
 keep:=λi h h' st k=>let ⟨ok,Z,e⟩:=st;⟨ok,Z,k it (by simp) _ e⟩
 item:=by
  intro X hP hw hK hc i pins s σ H E I hf st hg;subst hP hw hK;obtain⟨hi,hH⟩:=hg;obtain⟨ho,_,_,vs,S,dd⟩:=I.hok a _ hH;obtain⟨U,da⟩:=dd.dictAt;have ee:U=ep:=by
   obtain⟨es,h1⟩:=ac;obtain⟨o',ar,h2,_,h3,_⟩:=id da;rw[ho] at h2;cases h2;rw[h1] at h3;injection h3 with _ z
   exact z.symm
  subst ee;have hl:=S.length;obtain⟨⟨k,u⟩,hx⟩:∃ p,vs[i]? = some p:=⟨vs[i],by simp[← hl,hi]⟩;obtain⟨v,hv,rv⟩:=S.at' hx;obtain⟨ok,Z,J⟩:=st;rw[hl] at J;refine wpAny_pyNext_items_item (knd:=aU X.prog X.w) J da hx λY h' af ag hT aB kp=>?_;refine⟨_,rfl,wpAny_letOwnedTupleGo_items ag λh2 ah ai=>?_⟩;have lt:it < s.heap.objs.size:=afI J;have as:h2.get? s.heap.objs.size=some { cls:=.type "tuple",data:=.seq #[Y,u] }:=(ai.2 _ (ah6 lt)).trans hT;have au:∀ b o,b ∉ [it]->s.heap.get? b=some o->h2.get? b=some o:=λb o O q=>(ai.2 b (λz=>O (by simp[z]))).trans (kp b o (λz=>O (by simp[z])) q);have I2:=I.turnedNew (t':=s.toks) (h':=h2) (o:=.tup [kV k,v]) au hf (afG _) ⟨by show 2<=sizeLine;decide,[Y,u],.cons (qq af) (.cons rv .nil),_,as,rfl,_,rfl⟩;refine⟨.ref s.heap.objs.size,_,I2,rfl,⟨_,k,v,rfl,I.fresh,rfl,hv⟩,⟨Y,u,by rw[hl];exact ah⟩,λb O=>?_⟩;have e:b=it:=by simpa using O
  subst e;rw[ao (afU lt)];exact (hf b O).1
 done:=by
  intro X hP hw hK hc i pins s σ H E I hf st hg;subst hP hw hK;obtain⟨hi,hH⟩:=hg;obtain⟨ho,_,_,vs,S,dd⟩:=I.hok a _ hH;obtain⟨U,da⟩:=dd.dictAt;have ee:U=ep:=by
   obtain⟨es,h1⟩:=ac;obtain⟨o',ar,h2,_,h3,_⟩:=id da;rw[ho] at h2;cases h2;rw[h1] at h3;injection h3 with _ z
   exact z.symm
  subst ee;have hl:=S.length;obtain⟨ok,Z,J⟩:=st;rw[hl] at J;obtain⟨f0,f1,f2,f3,f4,f5⟩:=hf it (by simp);exact wpAny_pyNext_items_end (knd:=aU X.prog X.w) (I.ok.hd hc) J da (by rw[hi,hl];simp) λh' eb=>⟨rfl,I.turned (t':=s.toks) (λb o O e=>eb b o O e) f0 f1 f3 f4 f5⟩
 self:=λ_ s _ _ _ st h=>let ⟨_,_,J⟩:=st;qx J h
def ad1 (H₀:Hp)(td:TE):TI:=λσ H R=>td σ H λx H1=>∃ a kvs,x=.ref a/\H1 a=some (.dK kvs)/\∀ o,(∀ o' u,H₀ a≠some (.frz o' u))->R (ItI a o kvs) (upd H1 a (.frz o (.dK kvs)))
section
variable {X:Cx}
theorem aao {l:Expr}{tl:TE}{H₀:Hp}{apos cpos tp:Pos}{es:List Expr}{kk:Nat}(hH:X.H₀=H₀)(hl:PE X l tl)(O:attributeBase l "items" X.env (eval l X.env)=eval l X.env:=by rfl)(S:(apos.endLine == cpos.line)=true:=by rfl):PI X (.Tuple es kk tp) (.Call (.Attribute l "items" apos) [] [] cpos) (ad1 H₀ tl):=by
 subst hH;intro pins s σ H R I h;refine aiR O S (thn (hl pins s σ H _ I h) λv J ⟨y,H1,U,r1,q1⟩=>?_);obtain⟨a,kvs,rfl,e,q⟩:=q1;cases r1;obtain⟨z,hd,vs,Y,dd⟩:=ud U.hok e;obtain⟨ep,da⟩:=dd.dictAt;obtain⟨o,Z,ho,hc,aa,_⟩:=id da;obtain⟨h1,h2⟩:=vN (T := "dict") U (show RelV (.ref a) (.ref a) from rfl) (.inr (.inr (.inl ⟨rfl,.inl ⟨kvs,e⟩⟩)));refine⟨"dict","dict.items",akn,ako,PySem.F.type_dict_items,h1,h2,ain rfl (ajz ?_)⟩;refine call_meetsIn ako h1 PySem.F.entry_dict_items (PySem.F.args_dict_items_1 _) (meets_dict_items (aU X.prog X.w) a hd) ⟨⟨vs,dd⟩,?_⟩;have ac:(J.heap.push { cls:=.type "dict_items",data:=.fields #[.ref a] }).DictAt (aU X.prog X.w) a vs ep:=da.at' λo e=>afB _ e;refine wpAny_pyIter_items (s:={ J with heap:=J.heap.push { cls:=.type "dict_items",data:=.fields #[.ref a] } }) (knd:=aU X.prog X.w) ⟨_,afK _ rfl,rfl,rfl⟩ ac ?_;have sz:(J.heap.push { cls:=.type "dict_items",data:=.fields #[.ref a] }).objs.size=J.heap.objs.size+1:=agw ..;have I2:=(U.freeze e ho).kept (t':=J.toks) (h':=(J.heap.push { cls:=.type "dict_items",data:=.fields #[.ref a] }).push { cls:=.type "dict_itemiterator",data:=.fields #[.none,.bool false,.ref a,.int 0 0,.int vs.length 0,.int ep 0,.none,.none] }) λb o e=>afB _ (afB _ e);have ge:J.heap.objs.size<=(J.heap.push { cls:=.type "dict_items",data:=.fields #[.ref a] }).objs.size:=by rw[sz];exact agV _
 have hn:(upd H1 a (.frz o (.dK kvs))) (J.heap.push { cls:=.type "dict_items",data:=.fields #[.ref a] }).objs.size=none:=by
  have:=U.hok.fresh ge;rw[ao (λz=>by rw[z,e] at this;cases this)];exact this
 refine⟨_,[(J.heap.push { cls:=.type "dict_items",data:=.fields #[.ref a] }).objs.size],_,ItI a o kvs,upd H1 a (.frz o (.dK kvs)),rfl,I2,wO a _ o kvs ep ⟨Z,aa⟩,⟨.none,.none,by rw[Y.length];exact afK _ rfl⟩,λb hb=>?_,q o (U.notFrz e)⟩;have eb:b=(J.heap.push { cls:=.type "dict_items",data:=.fields #[.ref a] }).objs.size:=by simpa using hb
 subst eb;exact U.fpOk ge hn
def abY (H₀:Hp)(t:TE):TE:=λσ H Q=>t σ H λv H1=>∃ a o kvs,H1 a=some (.frz o (.dK kvs))/\(∀ o' u,H₀ a≠some (.frz o' u))/\Q v (upd H1 a (.dK kvs))
theorem acw {e:Expr}{t:TE}{H₀:Hp}(z:X.H₀=H₀)(h:PE X e t):PE X e (abY H₀ t):=by
 subst z;intro pins s σ H Q I hw;refine thn (h pins s σ H _ I hw) λv U ⟨y,H1,J,O,a,o,kvs,e,S,q⟩=>?_;exact⟨y,_,J.thaw e S,O,q⟩
end
end L2
namespace LL
open PySem PySem.SeqAt PySem.W PyProof.Rows
open AutoSeq1 (wpAny_loadPart')
open MeetsSeq MeetsSeq2 MeetsSeq3
section
variable {prog:Program}{w:World}{A:Around}{E:Value->Shared->Prop}{s:Shared}
theorem aax {a:Addr}{vs:List Value}{n:Nat}{R:PySem.Fin->Shared->Prop}(S:s.heap.get? a=some (seqObj "list" vs.toArray n))(h2:vs.length < 2)
 (h:R (.done (.ret .none)) { s with heap:=sortedHeap s.heap a vs vs.toArray }):wpAny (model prog w) A (Builtin.«list.sort» ⟨[.ref a],[]⟩) R E s:=by
 have Z:a < s.heap.objs.size:=afI S;have U:vs.toArray.size=vs.length:=af4 ..;obtain⟨Y,z⟩:∃ e,(s.heap.update a (Obj.mapSeq λ_=>#[])).get? a=some (seqObj "list" #[] e):=⟨_,get?_update_seq S (λ_=>#[])⟩;have J:(((s.heap.update a (Obj.mapSeq λ_=>#[])).push (seqObj "tuple" vs.toArray 0)).push (seqObj "list" #[] 0)).get? a=some (seqObj "list" #[] Y):=afB _ (afB _ z);rw[list_sort_plain];refine afy (listItems_at S rfl (afy (listUpdate_at S rfl ?_ (by rw[U,aiL];lia) (af5 _))));refine afy (seqEpoch_at z rfl (afy (wpAny_newTuple (afy (ai0 (agF ?_) (af5 _))) (by show vs.length<=_;rw[aiL];lia))));have nb:vs.toArray.size < 2:=by rw[U];lia
 show wpAny (model prog w) A _ R E { s with heap:=((s.heap.update a (Obj.mapSeq λ_=>#[])).push (seqObj "tuple" vs.toArray 0)).push (seqObj "list" #[] 0) };dsimp only;rw[if_pos nb,if_pos nb];refine afy (afE ?_);rw[StateT.run_pure];refine afy (afE ?_);have O:(arrOf (SortSt.mk' general' (vs.toArray.zip vs.toArray) #[] 7 none)).map (·.2)=vs.toArray:=by
  show (vs.toArray.zip vs.toArray).map (·.2)=vs.toArray;apply Array.ext_getElem?;intro i;by_cases hi:i < vs.length
  .simp[hi]
  .simp[akv hi]
 dsimp only;rw[O];refine afy (seqEpoch_at J rfl (afy (listUpdate_at J rfl ?_ (af5 _) (by rw[U,aiL];lia))));show wpAny (model prog w) A _ R E _;simp only[ah2,agD,aiq];exact afE h
theorem wM {l:Addr}{vs:List Value}{Q:Value->Shared->Prop}(O:s.heap.IsList l vs.toArray)(h2:vs.length < 2)
 (h:Q (.ref (s.heap.objs.size+1)) { s with heap:=sortedAll s.heap vs vs.toArray }):wpAny (model prog w) A (call (.builtin "sorted") [.ref l]) Q E s:=by
 refine ahV kind_sorted plain_sorted entry_sorted (args_sorted1 _) ?_;have z:((s.heap.push (seqObj "list" #[] 0)).update s.heap.objs.size (Obj.mapSeq (·++vs.toArray))).objs.size=s.heap.objs.size+1:=by
  rw[ajl,size_push']
 have J:(((s.heap.push (seqObj "list" #[] 0)).update s.heap.objs.size (Obj.mapSeq (·++vs.toArray))).push (seqObj "list" vs.toArray 0)).get? (s.heap.objs.size+1)=some (seqObj "list" vs.toArray 0):=by
  rw[← z];exact afK _ rfl
 unfold Builtin.«sorted»;refine afy (m:=checkCount "sorted" 1 1 _) (afE (afy (collect_list O (afy (ai0 ?_ (by rw[aiL];lia))) (by rw[aiL];lia))));show wpAny _ _ _ _ _ { s with heap:=((s.heap.push (seqObj "list" #[] 0)).update s.heap.objs.size (Obj.mapSeq (·++vs.toArray))).push (seqObj "list" vs.toArray 0) };rw[z];exact afy (agF (ahn ajZ ⟨_,J,rfl⟩ ajC (aax J h2 ⟨_,rfl,afE ⟨_,rfl,h⟩⟩) (aj0 _)))
end
end LL
namespace L2
open PySem PySem.Spec PyProof.Rows
section
variable {X:Cx}
end
end L2
namespace TS
open PySem PyProof.Rows
def yw:Bool->Keyed->Array Keyed->Nat->Nat->Nat->StateT SortSt Sem (Option Nat):=sortPriv% PySem.Builtin.gallop
def kk (κ:KeyKind)(p:Keyed):κ.α:=(κ.keyOf p.1).getD κ.dflt
def Va (κ:KeyKind)(p:Keyed):Prop:=∃ a,κ.keyOf p.1=some a
theorem pY {κ:KeyKind}{xs:Array Keyed}{i:Nat}{p:Keyed}(h:xs[i]? = some p):KK κ xs i=kk κ p:=by
 unfold KK kk;rw[h]
def LtAt (prog:Program)(w:World)(A:Around)(s:Shared)(κ:KeyKind):Prop:=∀ (E:Value->Shared->Prop) (x y:Value) (a b:κ.α) {Q:Bool->Shared->Prop},κ.keyOf x=some a->κ.keyOf y=some b->Q (κ.blt a b) s->wpAny (model prog w) A (oneLt' true x y) Q E s
section
variable {prog:Program}{w:World}{A:Around}{E:Value->Shared->Prop}{s:Shared}{κ:KeyKind}
theorem ado (O:LtAt prog w A s κ){st:SortSt}{x y:Keyed}{Q:Option Bool->SortSt->Prop}(S:kindOf st=oneType')(U:Va κ x)(Y:Va κ y)(h:Q (some (κ.blt (kk κ x) (kk κ y))) st):wpS (model prog w) A E s (lt' x y) Q st:=by
 obtain⟨a,z⟩:=U;obtain⟨b,J⟩:=Y;have Z:kk κ x=a:=by unfold kk;rw[z];rfl
 have eb:kk κ y=b:=by unfold kk;rw[J];rfl
 rw[Z,eb] at h;rw[lt'_eq];refine afT (ajm ?_);rw[S,keyLt'_oneType];exact afT (wpS_lift (wpAny_attempt (O _ x.1 y.1 a b z J ⟨rfl,af2 h⟩)))
theorem cv {arr:Array Keyed}{i:Nat}{p:Keyed}{st:SortSt}{Q:Keyed->SortSt->Prop}(h:arr[i]? = some p)(q:Q p st):wpS (model prog w) A E s (elem' arr i) Q st:=by
 rw[elem'_eq,h];exact af2 q
def bey (κ:KeyKind)(left:Bool)(key:Keyed)(arr:Array Keyed)(base i:Nat):Bool:=if left=true then κ.blt (KK κ arr (base+i)) (kk κ key) else !κ.blt (kk κ key) (KK κ arr (base+i))
theorem abk (J:LtAt prog w A s κ){left:Bool}{key:Keyed}{arr:Array Keyed}{base i:Nat}{st:SortSt}{Q:Option Bool->SortSt->Prop}(O:kindOf st=oneType')(z:Va κ key)(Y:∃ p,arr[base+i]? = some p/\Va κ p)(h:Q (some (bey κ left key arr base i)) st) :
 wpS (model prog w) A E s (elem' arr (base+i) >>= λx=>if left=true then lt' x key else lt' key x >>= λl=>pure (l.map λb=>!b)) Q st:=by
 obtain⟨p,S,U⟩:=Y;unfold bey at h;rw[pY S] at h;refine afT (cv S ?_);cases left with
 | true =>
  rw[if_pos rfl] at h ⊢;exact ado J O U z h
 | false =>
  rw[if_neg afC] at h ⊢;exact afT (ado J O z U (af2 h))
theorem wH (hO:LtAt prog w A s κ){left:Bool}{key:Keyed}{arr:Array Keyed}{base n hint:Nat}{st:SortSt}{Q:Option Nat->SortSt->Prop}(hk:kindOf st=oneType')(Z:Va κ key)(hv:∀ i,i < n->∃ p,arr[base+i]? = some p/\Va κ p)(hn:hint < n)
 (mono:∀ i j,i<=j->j < n->bey κ left key arr base j=true->bey κ left key arr base i=true)
 (h:∀ k,k<=n->(∀ i,i < k->bey κ left key arr base i=true)->(∀ i,k<=i->i < n->bey κ left key arr base i=false)->Q (some k) st) :
 wpS (model prog w) A E s (yw left key arr base n hint) Q st:=by
 have ac:∀ i j,i<=j->j < n->bey κ left key arr base i=false->bey κ left key arr base j=false:=λi j ak hj e=>by
  cases q:bey κ left key arr base j with
  | false=>rfl
  | true=>rw[mono i j ak hj q] at e;cases e
 refine afT (abk hO hk Z (hv hint hn) ?_);dsimp -zeta -zetaHave only
 lift_lets
 extract_lets jp
 have ae:∀ Y af lo hi,lo<=hi->hi<=n->(∀ i,i < lo->bey κ left key arr base i=true)->(∀ i,hi<=i->i < n->bey κ left key arr base i=false)->wpS (model prog w) A E s (jp () Y af lo hi) Q st:=by
  intro Y af lo hi h1 h2 h3 h4;refine afT (ahR (ag0 (I:=λx c z=>z=st/\∃ l r,c=(none,l,r)/\l<=r/\r<=n/\r - l<=n - x/\(∀ i,i < l->bey κ left key arr base i=true)/\(∀ i,r<=i->i < n->bey κ left key arr base i=false))
   (Q:=λc z=>z=st/\∃ l r,c=(none,l,r)/\r<=n/\(∀ i,i < r->bey κ left key arr base i=true)/\(∀ i,r<=i->i < n->bey κ left key arr base i=false)) ?_ ?_ ⟨rfl,lo,hi,rfl,h1,h2,by lia,h3,h4⟩) ?_)
  .rintro x c z _ hx ⟨rfl,l,r,rfl,g1,U,g3,S,g5⟩;dsimp only;by_cases O:l ≥ r
   .rw[if_pos O];have e:l=r:=by lia
    subst e;exact af2 ⟨rfl,l,l,rfl,U,S,g5⟩
   .rw[if_neg O];refine afT (abk hO hk Z (hv _ (by lia)) ?_);dsimp only;cases q:bey κ left key arr base (l+(r - l) / 2) with
    | true =>
     rw[if_pos rfl];exact af2 ⟨rfl,_,r,rfl,by lia,U,by lia,λi hi=>mono i _ (by lia) (by lia) q,g5⟩
    | false =>
     rw[if_neg afC];exact af2 ⟨rfl,l,_,rfl,by lia,by lia,by lia,S,λi hi ad=>ac _ i hi ad q⟩
  .rintro c z ⟨rfl,l,r,rfl,g1,U,g3,S,g5⟩;have e:l=r:=by lia
   subst e;exact⟨rfl,l,l,rfl,U,S,g5⟩
  .rintro c z ⟨rfl,l,r,rfl,U,S,g5⟩;exact af2 (h r U S g5)
 clear_value jp
 cases q0:bey κ left key arr base hint with
 | true =>
  rw[if_pos rfl];refine afT (ahR (ag0 (I:=λx c z=>z=st/\∃ J of,c=(none,J,of)/\x+1<=of/\J < of/\hint+J < n/\bey κ left key arr base (hint+J)=true)
   (Q:=λc z=>z=st/\∃ J of,c=(none,J,of)/\J < of/\hint+J < n/\bey κ left key arr base (hint+J)=true/\(n - hint<=of\/bey κ left key arr base (hint+of)=false)) ?_ ?_ ⟨rfl,0,1,rfl,by lia,by lia,by lia,q0⟩) ?_)
  .rintro x c z _ hx ⟨rfl,J,of,rfl,g1,U,g3,S⟩;dsimp only;by_cases O:of ≥ n - hint
   .rw[if_pos O];exact af2 ⟨rfl,J,of,rfl,U,g3,S,.inl O⟩
   .rw[if_neg O];refine afT (abk hO hk Z (hv _ (by lia)) ?_);dsimp only;cases q:bey κ left key arr base (hint+of) with
    | true =>
     rw[if_neg (by simp)];exact af2 ⟨rfl,of,_,rfl,by lia,by lia,by lia,q⟩
    | false =>
     rw[if_pos (show (!false)=true from rfl)];exact af2 ⟨rfl,J,of,rfl,U,g3,S,.inr q⟩
  .rintro c z ⟨rfl,J,of,rfl,g1,U,g3,S⟩;exact⟨rfl,J,of,rfl,U,g3,S,.inl (by lia)⟩
  .rintro c z ⟨rfl,J,of,rfl,U,g3,S,g5⟩;dsimp only;refine ae _ _ _ _ (by lia) (by lia) (λi hi=>mono i (hint+J) (by lia) g3 S) (λi hi ad=>?_);rcases g5 with g5 | g5
   .lia
   .exact ac (hint+of) i (by lia) ad g5
 | false =>
  rw[if_neg afC];refine afT (ahR (ag0 (I:=λx c z=>z=st/\∃ J of,c=(none,J,of)/\x+1<=of/\J < of/\J<=hint/\bey κ left key arr base (hint - J)=false)
   (Q:=λc z=>z=st/\∃ J of,c=(none,J,of)/\J < of/\J<=hint/\bey κ left key arr base (hint - J)=false/\(hint+1<=of\/bey κ left key arr base (hint - of)=true)) ?_ ?_ ⟨rfl,0,1,rfl,by lia,by lia,by lia,q0⟩) ?_)
  .rintro x c z _ hx ⟨rfl,J,of,rfl,g1,U,g3,S⟩;dsimp only;by_cases O:of ≥ hint+1
   .rw[if_pos O];exact af2 ⟨rfl,J,of,rfl,U,g3,S,.inl O⟩
   .rw[if_neg O];refine afT (abk hO hk Z (hv _ (by lia)) ?_);dsimp only;cases q:bey κ left key arr base (hint - of) with
    | true =>
     rw[if_pos rfl];exact af2 ⟨rfl,J,of,rfl,U,g3,S,.inr q⟩
    | false =>
     rw[if_neg afC];exact af2 ⟨rfl,of,_,rfl,by lia,by lia,by lia,q⟩
  .rintro c z ⟨rfl,J,of,rfl,g1,U,g3,S⟩;exact⟨rfl,J,of,rfl,U,g3,S,.inl (by lia)⟩
  .rintro c z ⟨rfl,J,of,rfl,U,g3,S,g5⟩;dsimp only;refine ae _ _ _ _ (by lia) (by lia) (λi hi=>?_) (λi hi ad=>ac (hint - J) i (by lia) ad S);rcases g5 with g5 | g5
   .lia
   .exact mono i (hint - of) (by lia) (by lia) g5
end
def abf:Array Keyed->Array Keyed->StateT SortSt Sem (Array Keyed):=sortPriv% PySem.Builtin.mergeLo
def abv:Array Keyed->Array Keyed->StateT SortSt Sem (Array Keyed):=sortPriv% PySem.Builtin.mergeHi
def le (κ:KeyKind)(x y:Keyed):Prop:=κ.kle (kk κ x) (kk κ y)
def lt (κ:KeyKind)(x y:Keyed):Prop:=κ.klt (kk κ x) (kk κ y)
def SL (κ:KeyKind)(l:List Keyed):Prop:=l.Pairwise (le κ)
section
variable {κ:KeyKind}
theorem le_trans {x y z:Keyed}(a:le κ x y)(b:le κ y z):le κ x z:=aii a b
theorem le_of_lt {x y:Keyed}(a:lt κ x y):le κ x y:=aiB a
theorem le_refl (x:Keyed):le κ x x:=ah3 _
structure Mg (κ:KeyKind)(LL o A B:List Keyed):Prop where
 perm:(o++(A++B)).Perm LL
 sa:SL κ (o++A)
 sb:SL κ (o++B)
def oy (κ:KeyKind)(LL m:List Keyed):Prop:=m.Perm LL/\SL κ m
theorem Mg.a {LL o c A B:List Keyed}(h:Mg κ LL o (c++A) B)(S:∀ x∈c,∀ y∈B,le κ x y):Mg κ LL (o++c) A B:=by
 refine⟨?_,?_,?_⟩
 .have:=h.perm;rw[afN] at this;rw[afN];exact this
 .rw[afN];exact h.sa
 .have z:=h.sa;have J:=h.sb;unfold SL at *;rw[← afN] at z;rw[agE] at z J ⊢;refine⟨z.1,J.2.1,λx hx y O=>?_⟩;rcases afV.mp hx with hx | hx
  .exact J.2.2 x hx y O
  .exact S x hx y O
theorem Mg.b {LL o c A B:List Keyed}(h:Mg κ LL o A (c++B))(S:∀ y∈c,∀ x∈A,le κ y x):Mg κ LL (o++c) A B:=by
 refine⟨?_,?_,?_⟩
 .refine List.Perm.trans ?_ h.perm;rw[afN];refine ahS o ?_;rw[← afN,← afN];exact ahP B aiu
 .have z:=h.sa;have J:=h.sb;unfold SL at *;rw[← afN] at J;rw[agE] at z J ⊢;refine⟨J.1,z.2.1,λx hx y O=>?_⟩;rcases afV.mp hx with hx | hx
  .exact z.2.2 x hx y O
  .exact S x hx y O
 .rw[afN];exact h.sb
theorem Mg.endA {LL o A:List Keyed}(h:Mg κ LL o A []):oy κ LL (o++A):=⟨by have:=h.perm;rwa [agl] at this,h.sa⟩
theorem Mg.endB {LL o B:List Keyed}(h:Mg κ LL o [] B):oy κ LL (o++B):=⟨h.perm,h.sb⟩
theorem Mg.last {LL o B:List Keyed}{z:Keyed}(h:Mg κ LL o [z] B)(hz:∀ y∈B,le κ y z):oy κ LL (o++B++[z]):=by
 refine⟨?_,?_⟩
 .refine List.Perm.trans ?_ h.perm;rw[afN];exact ahS o aiu
 .have J:=h.sa;have S:=h.sb;unfold SL at *;rw[agE] at J ⊢;refine⟨S,J.2.1,λx hx y O=>?_⟩;rcases afV.mp hx with hx | hx
  .exact J.2.2 x hx y O
  .rw[afD.mp O];exact hz x hx
theorem SL.at {l:List Keyed}(h:SL κ l){i j:Nat}{x y:Keyed}(z:i<=j)(O:l[i]? = some x)(S:l[j]? = some y):le κ x y:=by
 obtain⟨hi,ex⟩:=afA.mp O;obtain⟨U,J⟩:=afA.mp S;rcases ajT z with q | q
 .rw[← ex,← J];exact ag5.mp h i j hi U q
 .subst q;rw[← ex,← J];exact le_refl _
theorem SL.head {l:List Keyed}{x:Keyed}(h:SL κ (x::l)):∀ y∈x::l,le κ x y:=λy z=>by
 rcases afZ.mp z with e | e
 .rw[e];exact le_refl _
 .exact (agy.mp h).1 y e
theorem SL.drop {l:List Keyed}(h:SL κ l)(n:Nat):SL κ (l.drop n):=aji (List.drop_sublist _ _) h
theorem SL.take {l:List Keyed}(h:SL κ l)(n:Nat):SL κ (l.take n):=aji (List.take_sublist _ _) h
end
section
variable {prog:Program}{w:World}{A:Around}{E:Value->Shared->Prop}{s:Shared}{κ:KeyKind}
theorem fv (hO:LtAt prog w A s κ){left:Bool}{key:Keyed}{arr:Array Keyed}{base n hint:Nat}{st:SortSt}{Q:Option Nat->SortSt->Prop}(hk:kindOf st=oneType')(O:Va κ key)(hb:base+n<=arr.size)(va:∀ p∈(arr.toList.drop base).take n,Va κ p)(so:SL κ ((arr.toList.drop base).take n))(hn:hint < n)
 (h:∀ k,k<=n->(∀ x∈((arr.toList.drop base).take n).take k,if left=true then lt κ x key else le κ x key)->(∀ x∈((arr.toList.drop base).take n).drop k,if left=true then le κ key x else lt κ key x)->Q (some k) st) :
 wpS (model prog w) A E s (yw left key arr base n hint) Q st:=by
 have at_:∀ i,i < n->∃ p,arr[base+i]? = some p/\((arr.toList.drop base).take n)[i]? = some p:=λi hi=>by
  refine⟨arr[base+i],getElem?_pos _ _ (by lia),?_⟩;rw[ah0 hi,ajS];simp
 have len:((arr.toList.drop base).take n).length=n:=by
  rw[af7,ahB,afO];lia
 generalize (arr.toList.drop base).take n=S at va so h at_ len;refine wH hO hk O (λi hi=>?_) hn (λi j Y hj e=>?_) λk Z h1 h2=>h k Z (λx hx=>?_) (λx hx=>?_)
 .obtain⟨p,J,z⟩:=at_ i hi;exact⟨p,J,va p (afP z)⟩
 .obtain⟨p,J,z⟩:=at_ i (by lia);obtain⟨q,e3,e4⟩:=at_ j hj;have U:=so.at Y z e4;unfold bey at e ⊢;rw[pY J];rw[pY e3] at e;cases left with
  | true =>
   rw[if_pos rfl] at e ⊢;exact KeyOrd.klt_of_kle_of_klt U e
  | false =>
   rw[if_neg afC] at e ⊢;have e':κ.blt (kk κ key) (kk κ q)=false:=by simpa using e
   have this:κ.blt (kk κ key) (kk κ p)=false:=aii U e';rw[this]
   rfl
 .obtain⟨i,hi,ex⟩:=aiE.mp hx;rw[af7] at hi;rw[akf] at ex;obtain⟨p,J,z⟩:=at_ i (by lia);have q:=h1 i (by lia);rw[afx (by lia)] at z;rw[ex] at z;cases z;unfold bey at q;rw[pY J] at q;cases left with
  | true=>exact q
  | false =>
   rw[if_neg afC] at q ⊢;show κ.blt (kk κ key) (kk κ x)=false;simpa using q
 .obtain⟨i,hi,ex⟩:=aiE.mp hx;rw[ahB] at hi;rw[akg] at ex;obtain⟨p,J,z⟩:=at_ (k+i) (by lia);have q:=h2 (k+i) (by lia) (by lia);rw[afx (by lia)] at z;rw[ex] at z;cases z;unfold bey at q;rw[pY J] at q;cases left with
  | true=>exact q
  | false =>
   rw[if_neg afC] at q ⊢;show κ.blt (kk κ key) (kk κ x)=true;simpa using q
end
def Eqv (st st':SortSt):Prop:=kindOf st'=kindOf st/\arrOf st'=arrOf st/\pendingOf st'=pendingOf st/\failedOf st'=failedOf st
theorem Eqv.refl (st:SortSt):Eqv st st:=⟨rfl,rfl,rfl,rfl⟩
def aeM:Nat->StateT SortSt Sem Unit:=sortPriv% PySem.Builtin.setMinGallop
theorem wb {prog:Program}{w:World}{A:Around}{E:Value->Shared->Prop}{s:Shared}{g:Nat}{z st:SortSt}{Q:Unit->SortSt->Prop}(e:Eqv z st)(h:∀ J,Eqv z J->Q () J):wpS (model prog w) A E s (aeM g) Q st :=
 aik (h _ e)
theorem bx {a:Array Keyed}{i:Nat}{x:Keyed}(h:a[i]? = some x):a.toList.drop i=[x]++a.toList.drop (i+1):=by
 obtain⟨hi,e⟩:=ajK.mp h;rw[aj3 (by simpa using hi)];simp[e]
theorem jQ (o:Array Keyed)(x:Keyed):(o.push x).toList=o.toList++[x]:=by simp
theorem vW (o a:Array Keyed)(i k:Nat):(o++a.extract i (i+k)).toList=o.toList++(a.toList.drop i).take k:=by
 simp[ahD,ahe]
theorem ja (o a:Array Keyed)(i:Nat):(o++a.extract i a.size).toList=o.toList++a.toList.drop i:=by
 simp only[Array.toList_append,ahD,ahe];rw[agR (by simp)]
section
variable {κ:KeyKind}{LL:List Keyed}{a b out:Array Keyed}{ia ib:Nat}
theorem abi (M:Mg κ LL out.toList (a.toList.drop ia) (b.toList.drop ib))(c:ib=b.size):oy κ LL (out++a.extract ia a.size++b.extract ib b.size).toList:=by
 rw[ja,ja];have e:b.toList.drop ib=[]:=aio (by rw[afO];lia);rw[e] at M ⊢;rw[agl];exact M.endA
theorem aeG (M:Mg κ LL out.toList (a.toList.drop ia) (b.toList.drop ib))(c:ia=a.size):oy κ LL (out++a.extract ia a.size++b.extract ib b.size).toList:=by
 rw[ja,ja];have e:a.toList.drop ia=[]:=aio (by rw[afO];lia);rw[e] at M ⊢;rw[agl];exact M.endB
theorem abM (M:Mg κ LL out.toList (a.toList.drop ia) (b.toList.drop ib))(c:ia+1=a.size)(J:∀ y∈b.toList,∀ z∈a.toList.drop (a.size - 1),le κ y z):oy κ LL (out++b.extract ib b.size++a.extract ia a.size).toList:=by
 rw[ja,ja];have O:a[ia]? = some a[ia]:=getElem?_pos _ _ (by lia);have e:a.toList.drop ia=[a[ia]]:=by
  rw[bx O,aio (by rw[afO];lia),agl]
 rw[e] at M ⊢;refine M.last λy S=>J y (ahj S) _ ?_;rw[show a.size - 1=ia by lia,e];exact afD.mpr rfl
theorem jb (x:Array Keyed)(i:Nat):(x.toList.drop i).take (x.size - i)=x.toList.drop i:=agR (by rw[ahB,afO];lia)
theorem rK (x:Array Keyed)(i k:Nat):x.toList.drop i=(x.toList.drop i).take k++x.toList.drop (i+k):=by
 have:=(agC k (x.toList.drop i)).symm
 rwa [aiG] at this
theorem fE {x:Array Keyed}{i:Nat}(h:i < x.size):∃ p,x[i]? = some p/\p∈x.toList:=⟨x[i],getElem?_pos x i h,by simp⟩
end
section
variable {prog:Program}{w:World}{A:Around}{E:Value->Shared->Prop}{s:Shared}{κ:KeyKind}
theorem ifp {M:Model}{σ α:Type}{c:Prop}[Decidable c]{z J:StateT σ Sem α}{Q:α->σ->Prop}{st:σ}(O:c)(h:wpS M A E s z Q st):wpS M A E s (if c then z else J) Q st:=by
 rw[if_pos O];exact h
theorem ifn {M:Model}{σ α:Type}{c:Prop}[Decidable c]{J z:StateT σ Sem α}{Q:α->σ->Prop}{st:σ}(O:¬ c)(h:wpS M A E s z Q st):wpS M A E s (if c then J else z) Q st:=by
 rw[if_neg O];exact h
theorem ifs {M:Model}{σ α:Type}{c:Prop}[Decidable c]{J O:StateT σ Sem α}{Q:α->σ->Prop}{st:σ}(h1:c->wpS M A E s J Q st)(h2:¬ c->wpS M A E s O Q st):wpS M A E s (if c then J else O) Q st:=by
 by_cases z:c
 .exact ifp z (h1 z)
 .exact ifn z (h2 z)
theorem abI {M:Model}{σ α z J:Type}{jp:Unit->z->J->StateT σ Sem α}{m:StateT σ Sem α}{Q:α->σ->Prop}{st:σ}(R:z->J->Prop)(h1:∀ x y,R x y->wpS M A E s (jp () x y) Q st)(h2:(∀ x y,R x y->wpS M A E s (jp () x y) Q st)->wpS M A E s m Q st):wpS M A E s m Q st:=h2 h1
theorem ifj {M:Model}{σ α z:Type}{c:Prop}[Decidable c]{jp:Unit->z->StateT σ Sem α}{x y:z}{Q:α->σ->Prop}{st:σ}(h:∀ g,wpS M A E s (jp () g) Q st):wpS M A E s (if c then jp () x else jp () y) Q st:=ifs (λ_=>h x) (λ_=>h y)
theorem uD (hO:LtAt prog w A s κ){a b:Array Keyed}{st:SortSt}{Q:Array Keyed->SortSt->Prop}(hk:kindOf st=oneType')(va:∀ p∈a.toList,Va κ p)(vb:∀ p∈b.toList,Va κ p)(ha:1<=a.size)(hb:1<=b.size)(sa:SL κ a.toList)(sb:SL κ b.toList)
 (P1:∀ y∈b.toList.take 1,∀ x∈a.toList,le κ y x)(P2:∀ y∈b.toList,∀ z∈a.toList.drop (a.size - 1),le κ y z)
 (h:∀ m ah,Eqv st ah->oy κ (a.toList++b.toList) m.toList->Q m ah):wpS (model prog w) A E s (abf a b) Q st:=by
 have hL:∃ LL,LL=a.toList++b.toList:=⟨_,rfl⟩;obtain⟨LL,eL⟩:=hL;rw[← eL] at h;obtain⟨b0,aD,bu⟩:=fE (x:=b) (i:=0) (by lia);have M0:Mg κ LL [] a.toList b.toList:=⟨by rw[eL];exact List.Perm.refl _,sa,sb⟩;have M1:Mg κ LL (#[b0]:Array Keyed).toList (a.toList.drop 0) (b.toList.drop 1):=by
  have e:b.toList=[b0]++b.toList.drop 1:=by
   have:=bx aD
   rwa [ahv] at this
  have aE:=M0;rw[e] at aE;rw[ahv];refine Mg.b aE λy hy x hx=>P1 y ?_ x hx;rw[e];rw[afD.mp hy];simp
 refine afT (wpS_lift (ag9 ⟨rfl,?_⟩));refine afT (cv aD ?_);by_cases c1:1=b.size
 .rw[if_pos (by simpa using c1)];exact af2 (h _ _ (Eqv.refl _) (abi M1 c1))
 rw[if_neg (by simpa using c1)];by_cases c2:0+1=a.size
 .rw[if_pos (by simpa using c2)];exact af2 (h _ _ (Eqv.refl _) (abM M1 c2 P2))
 rw[if_neg (by simpa using c2)];refine afT (ajm ?_);refine afT (ahR (ag0 (I:=λx c ah=>Eqv st ah/\∃ out ia ib mg,c=(none,out,ia,ib,mg)/\Mg κ LL out.toList (a.toList.drop ia) (b.toList.drop ib)/\ia+1 < a.size/\ib < b.size/\x+1<=ia+ib)
  (Q:=λc ah=>Eqv st ah/\∃ m r,c=(some m,r)/\oy κ LL m.toList) ?_ ?_ ⟨Eqv.refl _,_,_,_,_,rfl,M1,by lia,by lia,by lia⟩) ?_)
 rotate_left
 .rintro c ah ⟨ev,out,ia,ib,mg,rfl,M,aF,aG,aX⟩;lia
 .rintro c ah ⟨ev,m,r,rfl,g⟩;exact af2 (h _ _ ev g)
 rintro x c bw _ hx ⟨aY,out,ia,ib,mg,rfl,M,aF,aG,aX⟩;refine afT (ahR (ag0 (I:=λy c am=>Eqv st am/\∃ S J O ac bc,c=(none,S,J,O,ac,bc)/\Mg κ LL S.toList (a.toList.drop J) (b.toList.drop O)/\J+1 < a.size/\O < b.size/\ia+ib+y<=J+O)
  (Q:=λc am=>Eqv st am/\((∃ m r,c=(some m,r)/\oy κ LL m.toList)\/∃ S J O ac bc,c=(none,S,J,O,ac,bc)/\Mg κ LL S.toList (a.toList.drop J) (b.toList.drop O)/\J+1 < a.size/\O < b.size/\ia+ib+1<=J+O)) ?_ ?_ ⟨aY,out,ia,ib,_,_,rfl,M,aF,aG,afG _⟩) ?_)
 .rintro y c am _ hy ⟨aa,S,J,O,ac,bc,rfl,M',Z,ae,ap⟩;obtain⟨q,hq,mq⟩:=fE ae;obtain⟨p,hp,mp⟩:=fE (x:=a) (i:=J) (by lia);have sB:=sb.drop O;have sA:=sa.drop J;rw[bx hq] at sB;rw[bx hp] at sA;refine afT (cv hq (afT (cv hp (afT (ado hO (aa.1.trans hk) (vb q mq) (va p mp) ?_)))));cases hw:κ.blt (kk κ q) (kk κ p) with
  | true =>
   refine ifp rfl ?_;refine afT (cv hq ?_);have M2:Mg κ LL (S.push q).toList (a.toList.drop J) (b.toList.drop (O+1)):=by
    rw[jQ];refine Mg.b (by rw[← bx hq];exact M') λy hy x hx=>?_;rw[afD.mp hy];rw[bx hp] at hx;exact le_trans (le_of_lt hw) (sA.head x hx)
   by_cases c:O+1=b.size
   .refine ifp (aga.mpr c) ?_;exact af2 ⟨aa,.inl ⟨_,_,rfl,abi M2 c⟩⟩
   refine ifn (λz=>c (aga.mp z)) ?_;refine ifs (λ_=>?_) (λ_=>?_)
   .exact af2 ⟨aa,.inr ⟨_,J,O+1,_,_,rfl,M2,Z,by lia,by lia⟩⟩
   .exact af2 ⟨aa,_,J,O+1,_,_,rfl,M2,Z,by lia,by lia⟩
  | false =>
   refine ifn afC ?_;refine afT (cv hp ?_);have M2:Mg κ LL (S.push p).toList (a.toList.drop (J+1)) (b.toList.drop O):=by
    rw[jQ];refine Mg.a (by rw[← bx hp];exact M') λy hy x hx=>?_;rw[afD.mp hy];rw[bx hq] at hx;exact le_trans (show le κ p q from hw) (sB.head x hx)
   by_cases c:J+1+1=a.size
   .refine ifp (aga.mpr c) ?_;exact af2 ⟨aa,.inl ⟨_,_,rfl,abM M2 c P2⟩⟩
   refine ifn (λz=>c (aga.mp z)) ?_;refine ifs (λ_=>?_) (λ_=>?_)
   .exact af2 ⟨aa,.inr ⟨_,J+1,O,_,_,rfl,M2,by lia,by lia,by lia⟩⟩
   .exact af2 ⟨aa,_,J+1,O,_,_,rfl,M2,by lia,by lia,by lia⟩
 .rintro c am ⟨aa,S,J,O,ac,bc,rfl,M',Z,ae,ap⟩;exact⟨aa,.inr ⟨_,_,_,_,_,rfl,M',Z,ae,by lia⟩⟩
 rintro c am ⟨aa,hc⟩;rcases hc with ⟨m,r,rfl,g⟩ | ⟨aJ,ay,az,a2,a3,rfl,N1,aK,aL,bn⟩
 .exact af2 ⟨aa,m,_,rfl,g⟩
 refine afT (wpS_lift (ag9 ⟨rfl,?_⟩));refine afT (ahR (ag0 (I:=λy c an=>Eqv st an/\∃ S J O aw ac bc,c=(none,S,J,O,aw,ac,bc)/\Mg κ LL S.toList (a.toList.drop J) (b.toList.drop O)/\J+1 < a.size/\O < b.size/\ay+az<=J+O)
  (Q:=λc an=>Eqv st an/\((∃ m r,c=(some m,r)/\oy κ LL m.toList)\/∃ S J O aw ac bc,c=(none,S,J,O,aw,ac,bc)/\Mg κ LL S.toList (a.toList.drop J) (b.toList.drop O)/\J+1 < a.size/\O < b.size/\ay+az<=J+O)) ?_ ?_ ⟨aa,aJ,ay,az,_,a2,a3,rfl,N1,aK,aL,afG _⟩) ?_)
 rotate_left
 .rintro c an ⟨ao,S,J,O,aw,ac,bc,rfl,M',Z,ae,ap⟩;exact⟨ao,.inr ⟨_,_,_,_,_,_,rfl,M',Z,ae,by lia⟩⟩
 .rintro c an ⟨ao,hc⟩;rcases hc with ⟨m,r,rfl,g⟩ | ⟨ax,ad,U,a4,a5,a6,rfl,N2,aM,aN,bo⟩
  .exact af2 ⟨ao,m,_,rfl,g⟩
  refine afT (wb ao λa7 af=>?_);exact af2 ⟨af,_,ad,U,_,rfl,N2,aM,aN,by lia⟩
 rintro y c an _ hy ⟨ao,ax,ad,U,a4,a5,a6,rfl,M',Z,ae,ap⟩;obtain⟨q,hq,mq⟩:=fE ae;have sB:=sb.drop U;rw[bx hq] at sB;dsimp -zeta -zetaHave only
 lift_lets
 extract_lets s1 v1 s2 v2 s3 v3 s4 v4 s5 v5 v6 v7 jp
 refine ifj (jp:=jp) (λg=>?_)
 .refine afT (wb ao λa7 af=>?_);refine afT (cv hq (afT (fv (left:=false) (key:=q) (arr:=a) (base:=ad) (n:=a.size - ad) (hint:=0) hO (af.1.trans hk) (vb q mq) (by lia) (by rw[jb];exact λp hp=>va p (ahj hp)) (by rw[jb];exact sa.drop _) (by lia) λk bB g1 g2=>?_)));rw[jb] at g1 g2;rw[aiG] at g2;simp only[agD,aiq] at g1 g2;dsimp -zeta -zetaHave only
  lift_lets
  extract_lets w1 jp2
  refine abI (jp:=jp2) (λ(al:Array Keyed) (Y:Nat)=>Mg κ LL al.toList (a.toList.drop Y) (b.toList.drop U)/\Y+1 < a.size/\ad<=Y/\∀ x∈a.toList.drop Y,le κ q x) (λal Y hR=>?_) (λhj=>?_)
  .obtain⟨M3,bC,bD,hA⟩:=hR;refine afT (cv hq ?_);have M4:Mg κ LL (al.push q).toList (a.toList.drop Y) (b.toList.drop (U+1)):=by
    rw[jQ];refine Mg.b (by rw[← bx hq];exact M3) λy hy x hx=>?_;rw[afD.mp hy];exact hA x hx
   by_cases c4:U+1=b.size
   .refine ifp (aga.mpr c4) ?_;exact af2 ⟨af,.inl ⟨_,_,rfl,abi M4 c4⟩⟩
   refine ifn (λz=>c4 (aga.mp z)) ?_;obtain⟨p,hp,mp⟩:=fE (x:=a) (i:=Y) (by lia);refine afT (cv hp (afT (fv (left:=true) (key:=p) (arr:=b) (base:=U+1) (n:=b.size - (U+1)) (hint:=0) hO (af.1.trans hk) (va p mp) (by lia) (by rw[jb];exact λp hp=>vb p (ahj hp)) (by rw[jb];exact sb.drop _) (by lia) λk2 bq g3 g4=>?_)));rw[jb] at g3 g4;rw[aiG] at g4;simp only[ai7] at g3 g4;dsimp -zeta -zetaHave only
   lift_lets
   extract_lets w3 jp3
   refine abI (jp:=jp3) (λ(ar:Array Keyed) (ai:Nat)=>Mg κ LL ar.toList (a.toList.drop Y) (b.toList.drop ai)/\ai < b.size/\U+1<=ai/\∀ y∈b.toList.drop ai,le κ p y) (λar ai hR=>?_) (λaP=>?_)
   .obtain⟨M5,bF,bG,hB⟩:=hR;refine afT (cv hp ?_);have M6:Mg κ LL (ar.push p).toList (a.toList.drop (Y+1)) (b.toList.drop ai):=by
     rw[jQ];refine Mg.a (by rw[← bx hp];exact M5) λy hy x hx=>?_;rw[afD.mp hy];exact hB x hx
    by_cases c7:Y+1+1=a.size
    .refine ifp (aga.mpr c7) ?_;exact af2 ⟨af,.inl ⟨_,_,rfl,abM M6 c7 P2⟩⟩
    refine ifn (λz=>c7 (aga.mp z)) ?_;refine ifs (λ_=>?_) (λ_=>?_)
    .exact af2 ⟨af,.inr ⟨_,Y+1,ai,_,_,_,rfl,M6,by lia,by lia,by lia⟩⟩
    .exact af2 ⟨af,_,Y+1,ai,_,_,_,rfl,M6,by lia,by lia,by lia⟩
   by_cases bf:k2=0
   .subst bf;rw[ajU] at g4;exact ifn (show ¬ (0 > 0) by lia) (aP _ (U+1) ⟨M4,by lia,afG _,g4⟩)
   .refine ifp (show k2 > 0 by lia) ?_;have M5:Mg κ LL ((al.push q)++b.extract (U+1) (U+1+k2)).toList (a.toList.drop Y) (b.toList.drop (U+1+k2)):=by
     rw[vW];refine Mg.b (by rw[← rK];exact M4) λy hy x hx=>?_;have sA:=sa.drop Y;rw[bx hp] at sA;rw[bx hp] at hx;exact le_trans (le_of_lt (g3 y hy)) (sA.head x hx)
    by_cases c5:U+1+k2=b.size
    .refine ifp (aga.mpr c5) ?_;exact af2 ⟨af,.inl ⟨_,_,rfl,abi M5 c5⟩⟩
    exact ifn (λz=>c5 (aga.mp z)) (aP _ (U+1+k2) ⟨M5,by lia,by lia,g4⟩)
  by_cases bh:k=0
  .subst bh;rw[ajU] at g2;exact ifn (show ¬ (0 > 0) by lia) (hj _ ad ⟨M',Z,afG _,λx hx=>le_of_lt (g2 x hx)⟩)
  .refine ifp (show k > 0 by lia) ?_;have M3:Mg κ LL (ax++a.extract ad (ad+k)).toList (a.toList.drop (ad+k)) (b.toList.drop U):=by
    rw[vW];refine Mg.a (by rw[← rK];exact M') λy hy x hx=>?_;rw[bx hq] at hx;exact le_trans (g1 y hy) (sB.head x hx)
   by_cases aA:ad+k+1=a.size
   .refine ifp (aga.mpr aA) ?_;exact af2 ⟨af,.inl ⟨_,_,rfl,abM M3 aA P2⟩⟩
   refine ifn (λz=>aA (aga.mp z)) ?_;by_cases c3:ad+k=a.size
   .refine ifp (aga.mpr c3) ?_;exact af2 ⟨af,.inl ⟨_,_,rfl,aeG M3 c3⟩⟩
   exact ifn (λz=>c3 (aga.mp z)) (hj _ (ad+k) ⟨M3,by lia,by lia,λx hx=>le_of_lt (g2 x hx)⟩)
end
section
variable {κ:KeyKind}
structure MgH (κ:KeyKind)(LL o A B:List Keyed):Prop where
 perm:(A++(B++o)).Perm LL
 sa:SL κ (A++o)
 sb:SL κ (B++o)
theorem MgH.a {LL o c A B:List Keyed}(h:MgH κ LL o (A++c) B)(S:∀ x∈c,∀ y∈B,le κ y x):MgH κ LL (c++o) A B:=by
 refine⟨?_,?_,?_⟩
 .refine List.Perm.trans ?_ h.perm;rw[afN];refine ahS A ?_;rw[← afN,← afN];exact ahP o aiu
 .rw[← afN];exact h.sa
 .have J:=h.sa;have z:=h.sb;unfold SL at *;rw[afN,agE] at J;rw[agE] at z ⊢;refine⟨z.1,J.2.1,λx O y hy=>?_⟩;rcases afV.mp hy with hy | hy
  .exact S y hy x O
  .exact z.2.2 x O y hy
theorem MgH.b {LL o c A B:List Keyed}(h:MgH κ LL o A (B++c))(S:∀ y∈c,∀ x∈A,le κ x y):MgH κ LL (c++o) A B:=by
 refine⟨?_,?_,?_⟩
 .have:=h.perm;rw[afN] at this;exact this
 .have z:=h.sa;have J:=h.sb;unfold SL at *;rw[afN,agE] at J;rw[agE] at z ⊢;refine⟨z.1,J.2.1,λx O y hy=>?_⟩;rcases afV.mp hy with hy | hy
  .exact S y hy x O
  .exact z.2.2 x O y hy
 .rw[← afN];exact h.sb
theorem MgH.endA {LL o A:List Keyed}(h:MgH κ LL o A []):oy κ LL (A++o):=⟨h.perm,h.sa⟩
theorem MgH.endB {LL o B:List Keyed}(h:MgH κ LL o [] B):oy κ LL (B++o):=⟨h.perm,h.sb⟩
theorem MgH.first {LL o A:List Keyed}{z:Keyed}(h:MgH κ LL o A [z])(hz:∀ x∈A,le κ z x):oy κ LL ([z]++A++o):=by
 refine⟨?_,?_⟩
 .refine List.Perm.trans ?_ h.perm;rw[← afN];exact ahP o aiu
 .have O:=h.sa;have J:=h.sb;unfold SL at *;rw[afN,akR,agy];rw[akR,agy] at J;refine⟨λy hy=>?_,O⟩;rcases afV.mp hy with hy | hy
  .exact hz y hy
  .exact J.1 y hy
theorem gB {a:Array Keyed}{n:Nat}{x:Keyed}(h:a[n]? = some x):a.toList.take (n+1)=a.toList.take n++[x]:=by
 rw[agh];have:a.toList[n]? = some x:=by simpa using h
 rw[this]
 rfl
theorem lQ (o:Array Keyed)(x:Keyed):(o.push x).toList.reverse=[x]++o.toList.reverse:=by simp
theorem yY (o a:Array Keyed)(i n:Nat):(o++(a.extract i n).reverse).toList.reverse=(a.toList.take n).drop i++o.toList.reverse:=by
 simp[ahD,ahe,List.drop_take]
theorem vi (a:Array Keyed){i n:Nat}(h:i<=n):a.toList.take n=a.toList.take i++(a.toList.take n).drop i:=by
 have:=(agC i (a.toList.take n)).symm
 rwa [aje,ah4 h] at this
theorem qh (o a b:Array Keyed)(na nb:Nat):(a.extract 0 na++b.extract 0 nb++o.reverse).toList=a.toList.take na++b.toList.take nb++o.toList.reverse:=by
 simp[ahD,ahe]
theorem SL.lastOf {l:List Keyed}{x:Keyed}(h:SL κ (l++[x])):∀ y∈l++[x],le κ y x:=λy z=>by
 rcases afV.mp z with e | e
 .exact (agE.mp h).2.2 y e x (afD.mpr rfl)
 .rw[afD.mp e];exact le_refl _
end
section
variable {κ:KeyKind}{LL:List Keyed}{a b out:Array Keyed}{na nb:Nat}
theorem aem (M:MgH κ LL out.toList.reverse (a.toList.take na) (b.toList.take nb))(c:na=0):oy κ LL (a.extract 0 na++b.extract 0 nb++out.reverse).toList:=by
 subst c;rw[qh,ail,ais];rw[ail] at M;exact M.endB
theorem ae6 (M:MgH κ LL out.toList.reverse (a.toList.take na) (b.toList.take nb))(c:nb=0):oy κ LL (a.extract 0 na++b.extract 0 nb++out.reverse).toList:=by
 subst c;rw[qh,ail,agl];rw[ail] at M;exact M.endA
theorem ael (M:MgH κ LL out.toList.reverse (a.toList.take na) (b.toList.take nb))(c:nb=1)(S:1<=b.size)(z:∀ y∈b.toList.take 1,∀ x∈a.toList,le κ y x):oy κ LL (b.extract 0 nb++a.extract 0 na++out.reverse).toList:=by
 subst c;rw[qh];have J:b[0]? = some b[0]:=getElem?_pos _ _ (by lia);have e:b.toList.take 1=[b[0]]:=by rw[gB J,ail,ais]
 rw[e] at M z ⊢;exact M.first λx O=>z _ (afD.mpr rfl) x (ahb O)
end
section
variable {prog:Program}{w:World}{A:Around}{E:Value->Shared->Prop}{s:Shared}{κ:KeyKind}
theorem tX (hO:LtAt prog w A s κ){a b:Array Keyed}{st:SortSt}{Q:Array Keyed->SortSt->Prop}(hk:kindOf st=oneType')(va:∀ p∈a.toList,Va κ p)(vb:∀ p∈b.toList,Va κ p)(ha:1<=a.size)(hb:1<=b.size)(sa:SL κ a.toList)(sb:SL κ b.toList)
 (P1:∀ y∈b.toList.take 1,∀ x∈a.toList,le κ y x)(P2:∀ y∈b.toList,∀ z∈a.toList.drop (a.size - 1),le κ y z)
 (h:∀ m af,Eqv st af->oy κ (a.toList++b.toList) m.toList->Q m af):wpS (model prog w) A E s (abv a b) Q st:=by
 have hL:∃ LL,LL=a.toList++b.toList:=⟨_,rfl⟩;obtain⟨LL,eL⟩:=hL;rw[← eL] at h;obtain⟨a0,ay,bE⟩:=fE (x:=a) (i:=a.size - 1) (by lia);have M1:MgH κ LL (#[a0]:Array Keyed).toList.reverse (a.toList.take (a.size - 1)) (b.toList.take b.size):=by
  have e:a.toList=a.toList.take (a.size - 1)++[a0]:=by
   have:=gB ay
   rwa [show a.size - 1+1=a.size by lia,agR (by rw[afO];exact afG _)] at this
  have M0:MgH κ LL [] (a.toList.take (a.size - 1)++[a0]) b.toList:=by
   refine⟨?_,?_,?_⟩
   .rw[← e,agl,eL]
   .rw[← e,agl];exact sa
   .rw[agl];exact sb
  rw[agR (l:=b.toList) (by rw[afO];exact afG _)];refine MgH.a M0 λx hx y hy=>P2 y hy x ?_;rw[bx ay,afD.mp hx];simp
 refine afT (wpS_lift (ag9 ⟨rfl,?_⟩));refine afT (cv ay ?_);by_cases c1:a.size - 1=0
 .refine ifp (aga.mpr c1) ?_;exact af2 (h _ _ (Eqv.refl _) (aem M1 c1))
 refine ifn (λz=>c1 (aga.mp z)) ?_;by_cases c2:b.size=1
 .refine ifp (aga.mpr c2) ?_;exact af2 (h _ _ (Eqv.refl _) (ael M1 c2 hb P1))
 refine ifn (λz=>c2 (aga.mp z)) ?_;refine afT (ajm ?_);refine afT (ahR (ag0 (I:=λx c af=>Eqv st af/\∃ na nb out mg,c=(none,na,nb,out,mg)/\MgH κ LL out.toList.reverse (a.toList.take na) (b.toList.take nb)/\1<=na/\na<=a.size/\2<=nb/\nb<=b.size/\na+nb+x+1<=a.size+b.size)
  (Q:=λc af=>Eqv st af/\∃ m r,c=(some m,r)/\oy κ LL m.toList) ?_ ?_ ⟨Eqv.refl _,a.size - 1,b.size,_,_,rfl,M1,by lia,by lia,by lia,by lia,by lia⟩) ?_)
 rotate_left
 .rintro c af ⟨ev,na,nb,out,mg,rfl,M,_,_,_,_,aX⟩;lia
 .rintro c af ⟨ev,m,r,rfl,g⟩;exact af2 (h _ _ ev g)
 rintro x c bG _ hx ⟨aY,na,nb,out,mg,rfl,M,aZ,aF,a1,aG,aX⟩;refine afT (ahR (ag0 (I:=λy c aj=>Eqv st aj/\∃ J O S ac bc,c=(none,J,O,S,ac,bc)/\MgH κ LL S.toList.reverse (a.toList.take J) (b.toList.take O)/\1<=J/\J<=a.size/\2<=O/\O<=b.size/\J+O+y<=na+nb)
  (Q:=λc aj=>Eqv st aj/\((∃ m r,c=(some m,r)/\oy κ LL m.toList)\/∃ J O S ac bc,c=(none,J,O,S,ac,bc)/\MgH κ LL S.toList.reverse (a.toList.take J) (b.toList.take O)/\1<=J/\J<=a.size/\2<=O/\O<=b.size/\J+O+1<=na+nb)) ?_ ?_ ⟨aY,na,nb,out,_,_,rfl,M,aZ,aF,a1,aG,afG _⟩) ?_)
 .rintro y c aj _ hy ⟨Z,J,O,S,ac,bc,rfl,M',br,a2,bt,a3,av⟩;obtain⟨q,hq,mq⟩:=fE (x:=b) (i:=O - 1) (by lia);obtain⟨p,hp,mp⟩:=fE (x:=a) (i:=J - 1) (by lia);have tq:=gB hq;have tp:=gB hp;rw[show O - 1+1=O by lia] at tq;rw[show J - 1+1=J by lia] at tp;have sB:=sb.take O;have sA:=sa.take J;rw[tq] at sB;rw[tp] at sA;refine afT (cv hq (afT (cv hp (afT (ado hO (Z.1.trans hk) (vb q mq) (va p mp) ?_)))));cases hw:κ.blt (kk κ q) (kk κ p) with
  | true =>
   refine ifp rfl ?_;refine afT (cv hp ?_);have M2:MgH κ LL (S.push p).toList.reverse (a.toList.take (J - 1)) (b.toList.take O):=by
    rw[lQ];refine MgH.a (by rw[← tp];exact M') λx hx y hy=>?_;rw[afD.mp hx];rw[tq] at hy;exact le_trans (sB.lastOf y hy) (le_of_lt hw)
   by_cases c:J - 1=0
   .refine ifp (aga.mpr c) ?_;exact af2 ⟨Z,.inl ⟨_,_,rfl,aem M2 c⟩⟩
   refine ifn (λz=>c (aga.mp z)) ?_;refine ifs (λ_=>?_) (λ_=>?_)
   .exact af2 ⟨Z,.inr ⟨J - 1,O,_,_,_,rfl,M2,by lia,by lia,by lia,by lia,by lia⟩⟩
   .exact af2 ⟨Z,J - 1,O,_,_,_,rfl,M2,by lia,by lia,by lia,by lia,by lia⟩
  | false =>
   refine ifn afC ?_;refine afT (cv hq ?_);have M2:MgH κ LL (S.push q).toList.reverse (a.toList.take J) (b.toList.take (O - 1)):=by
    rw[lQ];refine MgH.b (by rw[← tq];exact M') λy hy x hx=>?_;rw[afD.mp hy];rw[tp] at hx;exact le_trans (sA.lastOf x hx) (show le κ p q from hw)
   by_cases c:O - 1=1
   .refine ifp (aga.mpr c) ?_;exact af2 ⟨Z,.inl ⟨_,_,rfl,ael M2 c hb P1⟩⟩
   refine ifn (λz=>c (aga.mp z)) ?_;refine ifs (λ_=>?_) (λ_=>?_)
   .exact af2 ⟨Z,.inr ⟨J,O - 1,_,_,_,rfl,M2,by lia,by lia,by lia,by lia,by lia⟩⟩
   .exact af2 ⟨Z,J,O - 1,_,_,_,rfl,M2,by lia,by lia,by lia,by lia,by lia⟩
 .rintro c aj ⟨Z,J,O,S,ac,bc,rfl,M',g1,g2,g3,g4,av⟩;exact⟨Z,.inr ⟨_,_,_,_,_,rfl,M',g1,g2,g3,g4,by lia⟩⟩
 rintro c aj ⟨Z,hc⟩;rcases hc with ⟨m,r,rfl,g⟩ | ⟨aC,aD,aL,a7,a8,rfl,N1,i1,i2,i3,i4,bu⟩
 .exact af2 ⟨Z,m,_,rfl,g⟩
 refine afT (wpS_lift (ag9 ⟨rfl,?_⟩));refine afT (ahR (ag0 (I:=λy c ak=>Eqv st ak/\∃ J O S au ac bc,c=(none,J,O,S,au,ac,bc)/\MgH κ LL S.toList.reverse (a.toList.take J) (b.toList.take O)/\1<=J/\J<=a.size/\2<=O/\O<=b.size/\J+O<=aC+aD)
  (Q:=λc ak=>Eqv st ak/\((∃ m r,c=(some m,r)/\oy κ LL m.toList)\/∃ J O S au ac bc,c=(none,J,O,S,au,ac,bc)/\MgH κ LL S.toList.reverse (a.toList.take J) (b.toList.take O)/\1<=J/\J<=a.size/\2<=O/\O<=b.size/\J+O<=aC+aD)) ?_ ?_ ⟨Z,aC,aD,aL,_,a7,a8,rfl,N1,i1,i2,i3,i4,afG _⟩) ?_)
 rotate_left
 .rintro c ak ⟨al,J,O,S,au,ac,bc,rfl,M',g⟩;exact⟨al,.inr ⟨_,_,_,_,_,_,rfl,M',g⟩⟩
 .rintro c ak ⟨al,hc⟩;rcases hc with ⟨m,r,rfl,g⟩ | ⟨ag,U,aw,a9,ba,bb,rfl,N2,j1,j2,j3,j4,bA⟩
  .exact af2 ⟨al,m,_,rfl,g⟩
  refine afT (wb al λbe aa=>?_);exact af2 ⟨aa,ag,U,_,_,rfl,N2,j1,j2,j3,j4,by lia⟩
 rintro y c ak _ hy ⟨al,ag,U,aw,a9,ba,bb,rfl,M',j1,j2,j3,j4,av⟩;obtain⟨q,hq,mq⟩:=fE (x:=b) (i:=U - 1) (by lia);have tq:=gB hq;rw[show U - 1+1=U by lia] at tq;have sB:=sb.take U;rw[tq] at sB;dsimp -zeta -zetaHave only
 lift_lets
 extract_lets s1 v1 s2 v2 s3 v3 s4 v4 s5 v5 v6 v7 jp
 refine ifj (jp:=jp) (λg=>?_)
 .refine afT (wb al λbe aa=>?_);refine afT (cv hq (afT (fv (left:=false) (key:=q) (arr:=a) (base:=0) (n:=ag) (hint:=ag - 1) hO (aa.1.trans hk) (vb q mq) (by lia) (by rw[ahv];exact λp hp=>va p (ahb hp)) (by rw[ahv];exact sa.take _) (by lia) λk aE g1 g2=>?_)));rw[ahv] at g1 g2;rw[aje,ah4 aE] at g1;simp only[agD,aiq] at g1 g2;dsimp -zeta -zetaHave only
  lift_lets
  extract_lets w1 w2 jp2
  refine abI (jp:=jp2) (λ(Y:Nat) (ai:Array Keyed)=>MgH κ LL ai.toList.reverse (a.toList.take Y) (b.toList.take U)/\1<=Y/\Y<=ag/\∀ x∈a.toList.take Y,le κ x q) (λY ai hR=>?_) (λhj=>?_)
  .obtain⟨M3,bN,bO,hA⟩:=hR;refine afT (cv hq ?_);have M4:MgH κ LL (ai.push q).toList.reverse (a.toList.take Y) (b.toList.take (U - 1)):=by
    rw[lQ];refine MgH.b (by rw[← tq];exact M3) λy hy x hx=>?_;rw[afD.mp hy];exact hA x hx
   by_cases c4:U - 1=1
   .refine ifp (aga.mpr c4) ?_;exact af2 ⟨aa,.inl ⟨_,_,rfl,ael M4 c4 hb P1⟩⟩
   refine ifn (λz=>c4 (aga.mp z)) ?_;obtain⟨p,hp,mp⟩:=fE (x:=a) (i:=Y - 1) (by lia);have tp:=gB hp;rw[show Y - 1+1=Y by lia] at tp;refine afT (cv hp (afT (fv (left:=true) (key:=p) (arr:=b) (base:=0) (n:=U - 1) (hint:=U - 1 - 1) hO (aa.1.trans hk) (va p mp) (by lia) (by rw[ahv];exact λp hp=>vb p (ahb hp)) (by rw[ahv];exact sb.take _) (by lia) λk2 ax g3 g4=>?_)));rw[ahv] at g3 g4;rw[aje,ah4 ax] at g3;simp only[ai7] at g3 g4;dsimp -zeta -zetaHave only
   lift_lets
   extract_lets w3 w4 jp3
   refine abI (jp:=jp3) (λ(ah:Nat) (an:Array Keyed)=>MgH κ LL an.toList.reverse (a.toList.take Y) (b.toList.take ah)/\2<=ah/\ah<=U - 1/\∀ y∈b.toList.take ah,le κ y p) (λah an hR=>?_) (λaM=>?_)
   .obtain⟨M5,bQ,bR,hB⟩:=hR;refine afT (cv hp ?_);have M6:MgH κ LL (an.push p).toList.reverse (a.toList.take (Y - 1)) (b.toList.take ah):=by
     rw[lQ];refine MgH.a (by rw[← tp];exact M5) λx hx y hy=>?_;rw[afD.mp hx];exact hB y hy
    by_cases c7:Y - 1=0
    .refine ifp (aga.mpr c7) ?_;exact af2 ⟨aa,.inl ⟨_,_,rfl,aem M6 c7⟩⟩
    refine ifn (λz=>c7 (aga.mp z)) ?_;refine ifs (λ_=>?_) (λ_=>?_)
    .exact af2 ⟨aa,.inr ⟨Y - 1,ah,_,_,_,_,rfl,M6,by lia,by lia,by lia,by lia,by lia⟩⟩
    .exact af2 ⟨aa,Y - 1,ah,_,_,_,_,rfl,M6,by lia,by lia,by lia,by lia,by lia⟩
   by_cases bj:k2=U - 1
   .subst bj;refine ifn (show ¬ (U - 1 - (U - 1) > 0) by lia) (aM (U - 1) _ ⟨M4,by lia,afG _,λy hy=>le_of_lt (g3 y hy)⟩)
   .refine ifp (show U - 1 - k2 > 0 by lia) ?_;have M5:MgH κ LL ((ai.push q)++(b.extract k2 (U - 1)).reverse).toList.reverse (a.toList.take Y) (b.toList.take k2):=by
     rw[yY];refine MgH.b (by rw[← vi b ax];exact M4) λy hy x hx=>?_;have sA:=sa.take Y;rw[tp] at sA;rw[tp] at hx;exact le_trans (sA.lastOf x hx) (g4 y hy)
    by_cases c5:k2=1
    .refine ifp (aga.mpr c5) ?_;exact af2 ⟨aa,.inl ⟨_,_,rfl,ael M5 c5 hb P1⟩⟩
    refine ifn (λz=>c5 (aga.mp z)) ?_;by_cases c6:k2=0
    .refine ifp (aga.mpr c6) ?_;exact af2 ⟨aa,.inl ⟨_,_,rfl,ae6 M5 c6⟩⟩
    exact ifn (λz=>c6 (aga.mp z)) (aM k2 _ ⟨M5,by lia,by lia,λy hy=>le_of_lt (g3 y hy)⟩)
  by_cases bo:k=ag
  .subst bo;exact ifn (show ¬ (k - k > 0) by lia) (hj k _ ⟨M',j1,afG _,λx hx=>g1 x hx⟩)
  .refine ifp (show ag - k > 0 by lia) ?_;have M3:MgH κ LL (aw++(a.extract k ag).reverse).toList.reverse (a.toList.take k) (b.toList.take U):=by
    rw[yY];refine MgH.a (by rw[← vi a aE];exact M') λx hx y hy=>?_;rw[tq] at hy;exact le_trans (sB.lastOf y hy) (le_of_lt (g2 x hx))
   by_cases c3:k=0
   .refine ifp (aga.mpr c3) ?_;exact af2 ⟨aa,.inl ⟨_,_,rfl,aem M3 c3⟩⟩
   exact ifn (λz=>c3 (aga.mp z)) (hj k _ ⟨M3,by lia,aE,λx hx=>g1 x hx⟩)
end
theorem u5 (s:Nat):∀ (m:List Keyed) (off:Nat) (arr:Array Keyed),s+off+m.length<=arr.size →
 ((m.zipIdx off).foldl (λa x=>a.setIfInBounds (s+x.2) x.1) arr).toList=arr.toList.take (s+off)++(m++arr.toList.drop (s+off+m.length))
 | [],off,arr,h=>by simp
 | x::m,off,arr,h=>by
  rw[List.zipIdx_cons,aiS];rw[age] at h;rw[u5 s m (off+1) _ (by rw[Array.size_setIfInBounds];lia)];have e:(arr.setIfInBounds (s+off) x).toList=arr.toList.set (s+off) x:=by simp
  show (arr.setIfInBounds (s+off) x).toList.take _++(m++(arr.setIfInBounds (s+off) x).toList.drop _)=_;rw[e];have z:s+off < arr.toList.length:=by rw[afO];lia
  have J:(arr.toList.set (s+off) x).take (s+(off+1))=arr.toList.take (s+off)++[x]:=by
   rw[show s+(off+1)=s+off+1 by lia,agh,List.take_set_of_le (afG _),aim z]
   rfl
  have O:(arr.toList.set (s+off) x).drop (s+(off+1)+m.length)=arr.toList.drop (s+off+(m.length+1)):=by
   rw[List.drop_set_of_lt (by lia)];congr 1;lia
  rw[J,O,age,afN]
  rfl
section
variable {prog:Program}{w:World}{A:Around}{E:Value->Shared->Prop}{s:Shared}{κ:KeyKind}
theorem qb {X Y:List Keyed}(z:SL κ X)(J:SL κ Y)(h:∀ x∈X,∀ y∈Y,le κ x y):SL κ (X++Y):=agE.mpr ⟨z,J,h⟩
theorem uX (hO:LtAt prog w A s κ){i:Nat}{st:SortSt}{P X Y R:List Keyed}{pw ap:Nat}{Q:Bool->SortSt->Prop}(hk:kindOf st=oneType')(hf:failedOf st=none)
 (aI:(pendingOf st)[i]? = some (P.length,X.length,pw))(aJ:(pendingOf st)[i+1]? = some (P.length+X.length,Y.length,ap))(ea:(arrOf st).toList=P++(X++(Y++R)))
 (vX:∀ p∈X,Va κ p)(vY:∀ p∈Y,Va κ p)(sX:SL κ X)(sY:SL κ Y)(hX:1<=X.length)(hY:1<=Y.length)
 (h:∀ M U,M.Perm (X++Y)->SL κ M->kindOf U=oneType'->failedOf U=none->(arrOf U).toList=P++(M++R)->pendingOf U=((pendingOf st).setIfInBounds i (P.length,X.length+Y.length,pw)).eraseIdxIfInBounds (i+1)->Q true U) :
 wpS (model prog w) A E s (mergeAt' i) Q st:=by
 have a2:(arrOf st).size=P.length+(X.length+(Y.length+R.length)):=by
  have:=agS List.length ea;simpa using this
 have dX:((arrOf st).toList.drop P.length).take X.length=X:=by rw[ea];simp
 have dY:((arrOf st).toList.drop (P.length+X.length)).take Y.length=Y:=by
  rw[ea,← afN];rw[← afH];simp
 obtain⟨y0,Y',eY⟩:∃ y0 Y',Y=y0::Y':=by
  cases Y with
  | nil=>simp at hY
  | cons y r=>exact⟨y,r,rfl⟩
 have aM:y0∈Y:=by rw[eY];exact afX
 have aN:(arrOf st)[P.length+X.length]? = some y0:=by
  have:(arrOf st).toList[P.length+X.length]? = some y0:=by
   rw[ea,eY,← afN,af8 (by simp)];simp
  simpa using this
 have aq:∀ y∈Y,le κ y0 y:=by
  rw[eY] at sY ⊢;exact sY.head
 refine afT (ajm ?_);have ag:((pendingOf st)[i]?,(pendingOf st)[i+1]?)=(some (P.length,X.length,pw),some (P.length+X.length,Y.length,ap)):=by rw[aI,aJ]
 rw[ag];refine afT (aik ?_);have k1:kindOf (SortSt.mk' (kindOf st) (arrOf st) (((pendingOf st).setIfInBounds i (P.length,X.length+Y.length,pw)).eraseIdxIfInBounds (i+1)) (gallopOf st) (failedOf st))=oneType':=hk;have f1:failedOf (SortSt.mk' (kindOf st) (arrOf st) (((pendingOf st).setIfInBounds i (P.length,X.length+Y.length,pw)).eraseIdxIfInBounds (i+1)) (gallopOf st) (failedOf st))=none:=hf;have a1:arrOf (SortSt.mk' (kindOf st) (arrOf st) (((pendingOf st).setIfInBounds i (P.length,X.length+Y.length,pw)).eraseIdxIfInBounds (i+1)) (gallopOf st) (failedOf st))=arrOf st:=rfl;have p1:pendingOf (SortSt.mk' (kindOf st) (arrOf st) (((pendingOf st).setIfInBounds i (P.length,X.length+Y.length,pw)).eraseIdxIfInBounds (i+1)) (gallopOf st) (failedOf st))=((pendingOf st).setIfInBounds i (P.length,X.length+Y.length,pw)).eraseIdxIfInBounds (i+1):=rfl;show wpS _ _ _ _ _ _ (SortSt.mk' (kindOf st) (arrOf st) (((pendingOf st).setIfInBounds i (P.length,X.length+Y.length,pw)).eraseIdxIfInBounds (i+1)) (gallopOf st) (failedOf st));generalize SortSt.mk' (kindOf st) (arrOf st) (((pendingOf st).setIfInBounds i (P.length,X.length+Y.length,pw)).eraseIdxIfInBounds (i+1)) (gallopOf st) (failedOf st)=am at k1 f1 a1 p1 ⊢;have same:SL κ (X++Y)->Q true am:=λso=>h (X++Y) am (List.Perm.refl _) so k1 f1 (by rw[a1,ea,afN]) p1;refine afT (cv aN (afT (fv (left:=false) (key:=y0) (arr:=arrOf st) (base:=P.length) (n:=X.length) (hint:=0) hO k1 (vY y0 aM) (by lia) (by rw[dX];exact vX) (by rw[dX];exact sX) (by lia) λk as g1 g2=>?_)));rw[dX] at g1 g2;simp only[agD,aiq] at g1 g2;have sp:=agC k X;have l2:(X.drop k).length=X.length - k:=ahB;have l1:(X.take k).length=k:=by rw[af7];lia
 have an:∀ x∈X.take k,∀ y∈Y,le κ x y:=λx O y S=>le_trans (g1 x O) (aq y S);by_cases c1:X.length - k=0
 .refine ifp (aga.mpr c1) ?_;refine af2 (same (qb sX sY λx O y S=>an x ?_ y S));rw[agR (by lia)];exact O
 refine ifn (λz=>c1 (aga.mp z)) ?_;obtain⟨xl,ai⟩:∃ xl,X[X.length - 1]? = some xl:=⟨_,afx (by lia)⟩;have aS:xl∈X:=afP ai;have aT:(arrOf st)[P.length+k+(X.length - k) - 1]? = some xl:=by
  have:(arrOf st).toList[P.length+k+(X.length - k) - 1]? = some xl:=by
   rw[ea,show P.length+k+(X.length - k) - 1=P.length+(X.length - 1) by lia,af8 (by lia),Nat.add_sub_cancel_left,agj (by lia)];exact ai
  simpa using this
 have au:∀ x∈X,le κ x xl:=λx O=>by
  obtain⟨j,hj,ej⟩:=aiE.mp O;exact sX.at (i:=j) (j:=X.length - 1) (by lia) (by rw[afx hj,ej]) ai
 refine afT (cv aT (afT (fv (left:=true) (key:=xl) (arr:=arrOf st) (base:=P.length+X.length) (n:=Y.length) (hint:=Y.length - 1) hO k1 (vX xl aS) (by lia) (by rw[dY];exact vY) (by rw[dY];exact sY) (by lia) λk2 al g3 g4=>?_)));rw[dY] at g3 g4;simp only[ai7] at g3 g4;by_cases c2:k2=0
 .refine ifp (aga.mpr c2) ?_;refine af2 (same (qb sX sY λx O y S=>le_trans (au x O) (g4 y ?_)));rw[c2,ahv];exact S
 refine ifn (λz=>c2 (aga.mp z)) ?_;have l3:(Y.take k2).length=k2:=by rw[af7];lia
 have ex:((arrOf st).extract (P.length+k) (P.length+X.length)).toList=X.drop k:=by
  rw[ahD,ahe,ea,← aiG,ak9,ajn as,show P.length+X.length - (P.length+k)=(X.drop k).length by rw[l2];lia,ala]
 have Z:((arrOf st).extract (P.length+X.length) (P.length+X.length+k2)).toList=Y.take k2:=by
  rw[ahD,ahe,ea,← aiG,ak9,ak9,show P.length+X.length+k2 - (P.length+X.length)=k2 by lia,ag4 al]
 have av:∀ (m:Array Keyed) (J:SortSt),Eqv am J->oy κ (X.drop k++Y.take k2) m.toList->Q true (SortSt.mk' (kindOf J) ((m.toList.zipIdx).foldl (λa x=>a.setIfInBounds (P.length+k+x.2) x.1) (arrOf J)) (pendingOf J) (gallopOf J) (failedOf J)):=by
  intro m J ev g;have ml:m.toList.length=X.length - k+k2:=by rw[g.1.length_eq,afH,l2,l3]
  have a7:m.size=X.length - k+k2:=by rw[← afO];exact ml
  refine h (X.take k++(m.toList++Y.drop k2)) _ ?_ ?_ (ev.1.trans k1) (ev.2.2.2.trans f1) ?_ (ev.2.2.1.trans p1)
  .refine List.Perm.trans (ahS _ (ahP _ g.1)) ?_;rw[afN,agC,← afN,agC]
  .have aw:∀ z∈m.toList,z∈X.drop k\/z∈Y.take k2:=λz hz=>afV.mp (g.1.mem_iff.mp hz);have ax:=sX;rw[← sp] at ax;have cX:=(agE.mp ax).2.2;have ay:=sY;rw[← agC k2 Y] at ay;have cY:=(agE.mp ay).2.2;refine qb (sX.take k) (qb g.2 (sY.drop k2) λz hz y S=>?_) λx O z hz=>?_
   .rcases aw z hz with q | q
    .exact le_trans (au z (ahj q)) (g4 y S)
    .exact cY z q y S
   .rcases afV.mp hz with hz | hz
    .rcases aw z hz with q | q
     .exact cX x O z q
     .exact an x O z (ahb q)
    .exact an x O z (ahj hz)
  .show ((m.toList.zipIdx).foldl (λa x=>a.setIfInBounds (P.length+k+x.2) x.1) (arrOf J)).toList=_;have aX:(arrOf J).size=(arrOf st).size:=by rw[ev.2.1,a1]
   rw[u5 (P.length+k) m.toList 0 (arrOf J) (by lia),ev.2.1,a1,ea];have t1:(P++(X++(Y++R))).take (P.length+k+0)=P++X.take k:=by
    rw[ajU,List.take_length_add_append,ag4 as]
   have t2:(P++(X++(Y++R))).drop (P.length+k+0+m.toList.length)=Y.drop k2++R:=by
    rw[show P.length+k+0+m.toList.length=P.length+(X.length+k2) by lia,ajE,ajE,ajn al]
   rw[t1,t2];simp only[afN]
 have az:∀ y∈(Y.take k2).take 1,∀ x∈X.drop k,le κ y x:=λy S x O=>by
  rw[aje,ah4 (by lia),eY] at S;have:y=y0:=by simpa using S
  rw[this];exact le_of_lt (g2 x O)
 have aA:∀ y∈Y.take k2,∀ z∈(X.drop k).drop (X.length - k - 1),le κ y z:=λy S z hz=>by
  rw[aiG,show k+(X.length - k - 1)=X.length - 1 by lia] at hz;have ez:X.drop (X.length - 1)=[xl]:=by
   obtain⟨hl,e⟩:=afA.mp ai;rw[aj3 hl,e,aio (by lia)]
  rw[ez] at hz;rw[afD.mp hz];exact le_of_lt (g3 y S)
 have aj:((arrOf st).extract (P.length+k) (P.length+X.length)).size=X.length - k:=by rw[← afO,ex,l2]
 have aB:((arrOf st).extract (P.length+X.length) (P.length+X.length+k2)).size=k2:=by rw[← afO,Z,l3]
 refine ifs (λ_=>?_) (λ_=>?_)
 .refine afT (uD hO k1 (by rw[ex];exact λp hp=>vX p (ahj hp)) (by rw[Z];exact λp hp=>vY p (ahb hp)) (by rw[aj];lia) (by rw[aB];lia) (by rw[ex];exact sX.drop k) (by rw[Z];exact sY.take k2) (by rw[ex,Z];exact az) (by rw[ex,Z,aj];exact aA) λm J ev g=>?_);rw[ex,Z] at g;refine afT (aik (afT (ajm ?_)));have:=av m J ev g;have e:(failedOf J).isNone=true:=by rw[ev.2.2.2,f1];rfl
  refine af2 ?_;show Q (failedOf J).isNone _;rw[e];exact this
 .refine afT (tX hO k1 (by rw[ex];exact λp hp=>vX p (ahj hp)) (by rw[Z];exact λp hp=>vY p (ahb hp)) (by rw[aj];lia) (by rw[aB];lia) (by rw[ex];exact sX.drop k) (by rw[Z];exact sY.take k2) (by rw[ex,Z];exact az) (by rw[ex,Z,aj];exact aA) λm J ev g=>?_);rw[ex,Z] at g;refine afT (aik (afT (ajm ?_)));have:=av m J ev g;have e:(failedOf J).isNone=true:=by rw[ev.2.2.2,f1];rfl
  refine af2 ?_;show Q (failedOf J).isNone _;rw[e];exact this
end
structure Rl (lo:Nat)(st0 st:SortSt):Prop where
 kind:kindOf st=oneType'
 failed:failedOf st=none
 pend:pendingOf st=pendingOf st0
 perm:(arrOf st).Perm (arrOf st0)
 pre:∀ i,i < lo->(arrOf st)[i]? = (arrOf st0)[i]?
theorem Rl.size {lo:Nat}{z st:SortSt}(R:Rl lo z st):(arrOf st).size=(arrOf z).size:=R.perm.size_eq
theorem Rl.mir {lo i j:Nat}{z st:SortSt}(R:Rl lo z st)(hi:lo<=i)(J:j<=(arrOf z).size):Rl lo z (setArr st (mirror (arrOf st) i j ((j - i) / 2))) :=
 ⟨R.kind,R.failed,R.pend,(mirror_perm _ _ _ _).trans R.perm,λk O=>by
  show (mirror (arrOf st) i j ((j - i) / 2))[k]? = _;rw[getElem?_mirror_all (by rw[R.size];exact J),if_neg (by lia)];exact R.pre k O⟩
theorem Rl.bub {lo z d:Nat}{J st:SortSt}(R:Rl lo J st)(hi:lo<=z - d)(O:d<=z)(S:z < (arrOf J).size):Rl lo J (setArr st (bubble (arrOf st) z d)) :=
 ⟨R.kind,R.failed,R.pend,(bubble_perm _ _ _).trans R.perm,λk U=>by
  show (bubble (arrOf st) z d)[k]? = _;rw[getElem?_bubble (by rw[R.size];exact S) d O,if_neg (by lia),if_neg (by lia)];exact R.pre k U⟩
def UpK (κ:KeyKind)(xs:Array Keyed)(lo n:Nat):Prop:=∀ i j,i<=j->j < n->κ.kle (KK κ xs (lo+i)) (KK κ xs (lo+j))
def DnK (κ:KeyKind)(xs:Array Keyed)(lo n:Nat):Prop:=∀ i j,i<=j->j < n->κ.kle (KK κ xs (lo+j)) (KK κ xs (lo+i))
section
variable {κ:KeyKind}
theorem UpK.one (xs:Array Keyed)(lo n:Nat)(J:n<=1):UpK κ xs lo n:=λi j z O=>by
 have e:i=j:=by lia
 subst e;exact ah3 _
theorem UpK.more {xs:Array Keyed}{lo x:Nat}(h:UpK κ xs lo x)(S:1<=x)(q:κ.kle (KK κ xs (lo+(x - 1))) (KK κ xs (lo+x))):UpK κ xs lo (x+1):=λi j z U=>by
 by_cases J:j < x
 .exact h i j z J
 .have e:j=x:=by lia
  subst e;by_cases O:i=j
  .subst O;exact ah3 _
  .exact aii (h i (j - 1) (by lia) (by lia)) q
theorem DnK.more {xs:Array Keyed}{lo x:Nat}(h:DnK κ xs lo x)(S:1<=x)(q:κ.kle (KK κ xs (lo+x)) (KK κ xs (lo+(x - 1)))):DnK κ xs lo (x+1):=λi j z U=>by
 by_cases J:j < x
 .exact h i j z J
 .have e:j=x:=by lia
  subst e;by_cases O:i=j
  .subst O;exact ah3 _
  .exact aii q (h i (j - 1) (by lia) (by lia))
theorem DnK.congr {xs ys:Array Keyed}{lo n:Nat}(h:DnK κ xs lo n)(e:∀ k,KK κ ys k=KK κ xs k):DnK κ ys lo n:=λi j z J=>by
 rw[e,e];exact h i j z J
end
section
variable {prog:Program}{w:World}{A:Around}{E:Value->Shared->Prop}{s:Shared}{κ:KeyKind}
theorem pN (Y:LtAt prog w A s κ){lo i j:Nat}{z st:SortSt}{Q:Option Bool->SortSt->Prop}(R:Rl lo z st)(Z:∀ p∈(arrOf z).toList,Va κ p)(hi:i < (arrOf z).size)(hj:j < (arrOf z).size)
 (h:Q (some (κ.blt (KK κ (arrOf st) i) (KK κ (arrOf st) j))) st):wpS (model prog w) A E s (ltAt' i j) Q st:=by
 have get:∀ k,k < (arrOf z).size->∃ p,(arrOf st)[k]? = some p/\Va κ p:=λk hk=>by
  obtain⟨p,e,m⟩:=fE (x:=arrOf st) (i:=k) (by rw[R.size];exact hk);exact⟨p,e,Z p ((ahp.mp R.perm).mem_iff.mp m)⟩
 obtain⟨p,S,a,J⟩:=get i hi;obtain⟨q,U,b,O⟩:=get j hj;have ka:KK κ (arrOf st) i=a:=by rw[pY S];unfold kk;rw[J];rfl
 have kb:KK κ (arrOf st) j=b:=by rw[pY U];unfold kk;rw[O];rfl
 rw[ka,kb] at h;rw[ltAt'_eq];refine afT (ajm (afT (cv S (afT (cv U (ado Y R.kind ⟨a,J⟩ ⟨b,O⟩ ?_))))));have kp:kk κ p=a:=by unfold kk;rw[J];rfl
 have kq:kk κ q=b:=by unfold kk;rw[O];rfl
 rw[kp,kq];exact h
theorem xC (hO:LtAt prog w A s κ){lo n ok:Nat}{U st:SortSt}{Q:Bool->SortSt->Prop}(R:Rl lo U st)(va:∀ p∈(arrOf U).toList,Va κ p)(hn:lo+n<=(arrOf U).size)(h1:1<=ok)(aq:ok<=n)(hs:UpK κ (arrOf st) lo ok)
 (h:∀ O,Rl lo U O->UpK κ (arrOf O) lo n->Q true O):wpS (model prog w) A E s (binarySort' lo n ok) Q st:=by
 rw[binarySort'_eq];refine afT (ahR (ag0 (I:=λk c O=>c=(none,())/\Rl lo U O/\UpK κ (arrOf O) lo k) (Q:=λc O=>c=(none,())/\Rl lo U O/\UpK κ (arrOf O) lo n) ?_ ?_ ⟨rfl,R,by rw[Nat.max_eq_left h1];exact hs⟩) ?_);rotate_left
 .rintro c O ⟨rfl,R',Y⟩;rw[show max (max ok 1) n=n by lia] at Y;exact⟨rfl,R',Y⟩
 .rintro c O ⟨rfl,R',Y⟩;exact af2 (h O R' Y)
 rintro k c S as au ⟨rfl,R1,s1⟩;have av:1<=k:=by lia
 refine afT (ahR (ag0 (I:=λx c J=>J=S/\∃ l r,c=(none,l,r)/\l<=r/\r<=k/\r - l<=k - x/\(∀ i,i < l->κ.kle (KK κ (arrOf S) (lo+i)) (KK κ (arrOf S) (lo+k)))/\∀ i,r<=i->i < k->κ.klt (KK κ (arrOf S) (lo+k)) (KK κ (arrOf S) (lo+i)))
  (Q:=λc J=>J=S/\∃ l r,c=(none,l,r)/\l<=k/\(∀ i,i < l->κ.kle (KK κ (arrOf S) (lo+i)) (KK κ (arrOf S) (lo+k)))/\∀ i,l<=i->i < k->κ.klt (KK κ (arrOf S) (lo+k)) (KK κ (arrOf S) (lo+i))) ?_ ?_ ⟨rfl,0,k,rfl,af5 _,afG _,by lia,λi hi=>absurd hi (by lia),λi a b=>absurd b (by lia)⟩) ?_)
 .rintro x c J _ hx ⟨rfl,l,r,rfl,g1,g2,g3,g4,g5⟩;by_cases ae:l ≥ r
  .refine ifp ae ?_;have e:l=r:=by lia
   subst e;exact af2 ⟨rfl,l,l,rfl,g2,g4,g5⟩
  .refine ifn ae ?_;refine afT (pN hO R1 va (by show lo+k < _;lia) (by show lo+(l+r) / 2 < _;lia) ?_);show wpS _ _ _ _ (if κ.blt (KK κ (arrOf J) (lo+k)) (KK κ (arrOf J) (lo+(l+r) / 2))=true then _ else _) _ _;cases q:κ.blt (KK κ (arrOf J) (lo+k)) (KK κ (arrOf J) (lo+(l+r) / 2)) with
   | true =>
    refine ifp rfl ?_;exact af2 ⟨rfl,l,(l+r) / 2,rfl,by lia,by lia,by lia,g4,λi a b=>KeyOrd.klt_of_klt_of_kle q (s1 _ _ a b)⟩
   | false =>
    refine ifn afC ?_;exact af2 ⟨rfl,(l+r) / 2+1,r,rfl,by lia,by lia,by lia,λi a=>aii (s1 i ((l+r) / 2) (by lia) (by lia)) (show κ.kle _ _ from q),g5⟩
 .rintro c J ⟨rfl,l,r,rfl,g1,g2,g3,g4,g5⟩;have e:l=r:=by lia
  subst e;exact⟨rfl,l,l,rfl,g2,g4,g5⟩
 .rintro c J ⟨rfl,l,r,rfl,g2,g4,g5⟩;show wpS _ _ _ _ (moveDown' (lo+k) (lo+l) >>= λ_=>pure (ForInStep.yield (none,()))) _ _;rw[moveDown'_eq];have af:lo+k < (arrOf J).size:=by rw[R1.size];lia
  refine afT (aik (af2 ⟨rfl,R1.bub (by lia) (by lia) (by lia),?_⟩));intro i j aj hj;show κ.kle (KK κ (bubble (arrOf J) (lo+k) (lo+k - (lo+l))) (lo+i)) (KK κ (bubble (arrOf J) (lo+k) (lo+k - (lo+l))) (lo+j));rw[KK_bubble af (by lia),KK_bubble af (by lia)];have e1:∀ {z:Nat},l < z->z<=k->lo+z - 1=lo+(z - 1):=fun {z} a b=>by lia
  by_cases ak:j=l
  .subst ak;rw[if_pos (show lo+j=lo+k - (lo+k - (lo+j)) by lia)];by_cases Z:i=j
   .rw[Z,if_pos (show lo+j=lo+k - (lo+k - (lo+j)) by lia)];exact ah3 _
   .rw[if_neg (by lia),if_neg (by lia)];exact g4 i (by lia)
  .by_cases al:l < j
   .rw[if_neg (show ¬ (lo+j=lo+k - (lo+k - (lo+l))) by lia),if_pos (show lo+k - (lo+k - (lo+l)) < lo+j/\lo+j<=lo+k by lia),e1 al (by lia)];by_cases Z:i=l
    .rw[Z,if_pos (show lo+l=lo+k - (lo+k - (lo+l)) by lia)];exact aiB (g5 (j - 1) (by lia) (by lia))
    .by_cases am:l < i
     .rw[if_neg (show ¬ (lo+i=lo+k - (lo+k - (lo+l))) by lia),if_pos (show lo+k - (lo+k - (lo+l)) < lo+i/\lo+i<=lo+k by lia),e1 am (by lia)];exact s1 _ _ (by lia) (by lia)
     .rw[if_neg (by lia),if_neg (by lia)];exact s1 _ _ (by lia) (by lia)
   .rw[if_neg (show ¬ (lo+j=lo+k - (lo+k - (lo+l))) by lia),if_neg (show ¬ (lo+k - (lo+k - (lo+l)) < lo+j/\lo+j<=lo+k) by lia),if_neg (by lia),if_neg (by lia)];exact s1 _ _ aj (by lia)
end
section
variable {prog:Program}{w:World}{A:Around}{E:Value->Shared->Prop}{s:Shared}{κ:KeyKind}
theorem yb (hO:LtAt prog w A s κ){lo nrem:Nat}{U:SortSt}{Q:Option Nat->SortSt->Prop}(hk:kindOf U=oneType')(hf:failedOf U=none)(va:∀ p∈(arrOf U).toList,Va κ p)(hn:lo+nrem<=(arrOf U).size)(h1:1<=nrem)
 (h:∀ m J,Rl lo U J->1<=m->m<=nrem->UpK κ (arrOf J) lo m->Q (some m) J):wpS (model prog w) A E s (countRun' lo nrem) Q U:=by
 rw[countRun'_eq];have R0:Rl lo U U:=⟨hk,hf,rfl,Array.Perm.refl _,λ_ _=>rfl⟩;refine afT (ahR (ag0 (I:=λx c J=>J=U/\c=(none,x)/\UpK κ (arrOf U) lo x) (Q:=λc J=>J=U/\∃ n,c=(none,n)/\1<=n/\n<=nrem/\UpK κ (arrOf U) lo n/\(n=nrem\/κ.klt (KK κ (arrOf U) (lo+n)) (KK κ (arrOf U) (lo+(n - 1))))) ?_ ?_ ⟨rfl,rfl,UpK.one _ _ _ (afG _)⟩) ?_)
 .rintro x c J aj hx ⟨rfl,rfl,s1⟩;refine afT (pN hO R0 va (by show lo+x < _;lia) (by show lo+x - 1 < _;lia) ?_);show wpS _ _ _ _ (if κ.blt (KK κ (arrOf J) (lo+x)) (KK κ (arrOf J) (lo+x - 1))=true then _ else _) _ _;rw[show lo+x - 1=lo+(x - 1) by lia];cases q:κ.blt (KK κ (arrOf J) (lo+x)) (KK κ (arrOf J) (lo+(x - 1))) with
  | true =>
   refine ifp rfl ?_;exact af2 ⟨rfl,x,rfl,aj,by lia,s1,.inr q⟩
  | false =>
   refine ifn afC ?_;exact af2 ⟨rfl,rfl,s1.more aj q⟩
 .rintro c J ⟨rfl,rfl,s1⟩;rw[show max 1 nrem=nrem by lia] at s1 ⊢;exact⟨rfl,nrem,rfl,h1,afG _,s1,.inl rfl⟩
 rintro c J ⟨rfl,n,rfl,g1,g2,s1,aw⟩;by_cases ak:n=nrem
 .refine ifp (aga.mpr ak) ?_;exact af2 (h n J R0 g1 g2 s1)
 refine ifn (λz=>ak (aga.mp z)) ?_;have ao:=aw.resolve_left ak
 lift_lets
 extract_lets n0 q0 jp
 have ap:∀ ad,Rl lo J ad->DnK κ (arrOf ad) lo (n+1)->wpS (model prog w) A E s (jp ()) Q ad:=by
  intro ad R1 d1;refine afT (wpS_lift (ag9 ⟨rfl,?_⟩));refine afT (ahR (ag0 (a:=n+1) (b:=nrem) (I:=λx c O=>Rl lo J O/\∃ S,c=(none,x,S)/\DnK κ (arrOf O) lo x/\S+1<=x/\∀ i,x - (S+1)<=i->i < x->KK κ (arrOf O) (lo+i)=KK κ (arrOf O) (lo+(x - 1)))
   (Q:=λc O=>Rl lo J O/\∃ x S,c=(none,x,S)/\1<=x/\x<=nrem/\DnK κ (arrOf O) lo x/\S+1<=x/\∀ i,x - (S+1)<=i->i < x->KK κ (arrOf O) (lo+i)=KK κ (arrOf O) (lo+(x - 1))) ?_ ?_ ⟨R1,0,rfl,d1,by lia,λi a b=>by congr 1;lia⟩) ?_)
  .rintro x c O aj hx ⟨R2,S,rfl,d2,q1,q2⟩;have aa:lo+x<=(arrOf O).size:=by rw[R2.size];lia
   refine afT (pN hO R2 va (by show lo+x < _;lia) (by show lo+x - 1 < _;lia) ?_);show wpS _ _ _ _ (if κ.blt (KK κ (arrOf O) (lo+x)) (KK κ (arrOf O) (lo+x - 1))=true then _ else _) _ _;rw[show lo+x - 1=lo+(x - 1) by lia];cases q:κ.blt (KK κ (arrOf O) (lo+x)) (KK κ (arrOf O) (lo+(x - 1))) with
   | true =>
    refine ifp rfl ?_;have d3:=d2.more (by lia) (aiB q);refine ifs (λhq=>?_) (λhq=>?_)
    .refine afT (wpS_reverse (i:=lo+x - (S+1)) (j:=lo+x) (af2 ⟨R2.mir (by lia) (by lia),0,rfl,?_,by lia,λi a b=>by congr 1;lia⟩));refine d3.congr λk=>KK_mirror_equal aa (λk a b=>?_) k;have e:=q2 (k - lo) (by lia) (by lia);rw[show lo+(k - lo)=k by lia] at e;rw[e];congr 1;lia
    .exact af2 ⟨R2,0,rfl,d3,by lia,λi a b=>by congr 1;lia⟩
   | false =>
    refine ifn afC ?_;refine afT (pN hO R2 va (by show lo+(x - 1) < _;lia) (by show lo+x < _;lia) ?_);show wpS _ _ _ _ (if κ.blt (KK κ (arrOf O) (lo+(x - 1))) (KK κ (arrOf O) (lo+x))=true then _ else _) _ _;cases p:κ.blt (KK κ (arrOf O) (lo+(x - 1))) (KK κ (arrOf O) (lo+x)) with
    | true =>
     refine ifp rfl ?_;exact af2 ⟨R2,x,S,rfl,by lia,by lia,d2,q1,q2⟩
    | false =>
     refine ifn afC ?_;have e:KK κ (arrOf O) (lo+x)=KK κ (arrOf O) (lo+(x - 1)):=KeyOrd.kle_antisymm p q;refine af2 ⟨R2,S+1,rfl,d2.more (by lia) (show κ.kle _ _ from p),by lia,λi a b=>?_⟩;rw[show x+1 - 1=x by lia];by_cases ay:i=x
     .rw[ay]
     .rw[e];exact q2 i (by lia) (by lia)
  .rintro c O ⟨R2,S,rfl,d2,q1,q2⟩;rw[show max (n+1) nrem=nrem by lia] at d2 q1 q2 ⊢;exact⟨R2,nrem,S,rfl,h1,afG _,d2,q1,q2⟩
  rintro c O ⟨R2,x,S,rfl,x1,x2,d2,q1,q2⟩
  lift_lets
  extract_lets r5 s5 n5 q5 jp2
  have ai:∀ Y,Rl lo J Y->DnK κ (arrOf Y) lo x->wpS (model prog w) A E s (jp2 ()) Q Y:=by
   intro Y R3 d3;have aa:lo+x<=(arrOf Y).size:=by rw[R3.size];lia
   refine afT (wpS_reverse (i:=lo) (j:=lo+x) ?_);have R4:=R3.mir (i:=lo) (j:=lo+x) (afG _) (by lia);have u4:UpK κ (arrOf (setArr Y (mirror (arrOf Y) lo (lo+x) ((lo+x - lo) / 2)))) lo x:=λi j ar hj=>by
    show κ.kle (KK κ (mirror (arrOf Y) lo (lo+x) ((lo+x - lo) / 2)) (lo+i)) (KK κ (mirror (arrOf Y) lo (lo+x) ((lo+x - lo) / 2)) (lo+j));rw[KK_mirror aa,KK_mirror aa,if_pos (by lia),if_pos (by lia),show lo+(lo+x) - 1 - (lo+i)=lo+(x - 1 - i) by lia,show lo+(lo+x) - 1 - (lo+j)=lo+(x - 1 - j) by lia];exact d3 _ _ (by lia) (by lia)
   generalize setArr Y (mirror (arrOf Y) lo (lo+x) ((lo+x - lo) / 2))=af at R4 u4 ⊢;refine afT (ahR (ag0 (a:=x) (b:=nrem) (I:=λy c Z=>Z=af/\c=(none,y)/\UpK κ (arrOf af) lo y) (Q:=λc Z=>Z=af/\∃ m,c=(none,m)/\1<=m/\m<=nrem/\UpK κ (arrOf af) lo m) ?_ ?_ ⟨rfl,rfl,u4⟩) ?_)
   .rintro y c Z aL hy ⟨rfl,rfl,s5⟩;refine afT (pN hO R4 va (by show lo+y < _;lia) (by show lo+y - 1 < _;lia) ?_);show wpS _ _ _ _ (if κ.blt (KK κ (arrOf Z) (lo+y)) (KK κ (arrOf Z) (lo+y - 1))=true then _ else _) _ _;rw[show lo+y - 1=lo+(y - 1) by lia];cases q:κ.blt (KK κ (arrOf Z) (lo+y)) (KK κ (arrOf Z) (lo+(y - 1))) with
    | true =>
     refine ifp rfl ?_;exact af2 ⟨rfl,y,rfl,by lia,by lia,s5⟩
    | false =>
     refine ifn afC ?_;exact af2 ⟨rfl,rfl,s5.more (by lia) q⟩
   .rintro c Z ⟨rfl,rfl,s5⟩;rw[show max x nrem=nrem by lia] at s5 ⊢;exact⟨rfl,nrem,rfl,h1,afG _,s5⟩
   .rintro c Z ⟨rfl,m,rfl,m1,m2,s5⟩;exact af2 (h m Z R4 m1 m2 s5)
  clear_value jp2
  refine ifs (λhq=>?_) (λhq=>ai O R2 d2);have aa:lo+x<=(arrOf O).size:=by rw[R2.size];lia
  refine afT (wpS_reverse (i:=lo+x - (S+1)) (j:=lo+x) (ai _ (R2.mir (by lia) (by lia)) ?_));refine d2.congr λk=>KK_mirror_equal aa (λk a b=>?_) k;have e:=q2 (k - lo) (by lia) (by lia);rw[show lo+(k - lo)=k by lia] at e;rw[e];congr 1;lia
 clear_value jp
 have aa:lo+n<=(arrOf J).size:=by lia
 refine ifs (λaB=>?_) (λaB=>?_)
 .refine afT (pN hO R0 va (by show lo < _;lia) (by show lo+n - 1 < _;lia) ?_);show wpS _ _ _ _ (if κ.blt (KK κ (arrOf J) lo) (KK κ (arrOf J) (lo+n - 1))=true then _ else _) _ _;cases q:κ.blt (KK κ (arrOf J) lo) (KK κ (arrOf J) (lo+n - 1)) with
  | true =>
   refine ifp rfl ?_;exact af2 (h n J R0 g1 g2 s1)
  | false =>
   refine ifn afC ?_;have all:∀ k,k < n->KK κ (arrOf J) (lo+k)=KK κ (arrOf J) (lo+(n - 1)):=λk hk=>by
    have a1:=s1 0 k (by lia) hk;have a2:=s1 k (n - 1) (by lia) (by lia);rw[ajU] at a1;rw[show lo+n - 1=lo+(n - 1) by lia] at q;exact KeyOrd.kle_antisymm a2 (aii q a1)
   refine afT (wpS_reverse (i:=lo) (j:=lo+n) (ap _ (R0.mir (afG _) (by lia)) ?_));have d0:DnK κ (arrOf J) lo n:=λi j ar hj=>by rw[all i (by lia),all j hj];exact ah3 _
   refine (d0.more g1 (aiB ao)).congr λk=>KK_mirror_equal aa (λk a b=>?_) k;have e:=all (k - lo) (by lia);rw[show lo+(k - lo)=k by lia] at e;rw[e,show lo+n - 1=lo+(n - 1) by lia]
 .have e1:n=1:=by lia
  subst e1;have d0:DnK κ (arrOf J) lo 1:=λi j ar hj=>by
   have e:i=j:=by lia
   subst e;exact ah3 _
  exact ap J R0 (d0.more (afG _) (aiB ao))
end
def jE:Nat->List (List Keyed)->List (Nat×Nat)
 | _,[]=>[]
 | s,g::gs=>(s,g.length)::jE (s+g.length) gs
theorem eJ:∀ (A B:List (List Keyed)) (s:Nat),jE s (A++B)=jE s A++jE (s+A.flatten.length) B
 | [],B,s=>by simp[jE]
 | g::A,B,s=>by
  rw[ahC];simp only[jE,ahH,afH,ahC];rw[eJ A B,ai1]
theorem iQ:∀ (A:List (List Keyed)) (s:Nat),(jE s A).length=A.length
 | [],s=>rfl
 | g::A,s=>by simp only[jE,age,iQ A]
def two (p:Nat×Nat×Nat):Nat×Nat:=(p.1,p.2.1)
structure Runs (κ:KeyKind)(a₀:Array Keyed)(segs:List (List Keyed))(rest:List Keyed)(st:SortSt):Prop where
 kind:kindOf st=oneType'
 failed:failedOf st=none
 perm:(arrOf st).Perm a₀
 arr:(arrOf st).toList=segs.flatten++rest
 pend:(pendingOf st).toList.map two=jE 0 segs
 sl:∀ g∈segs,SL κ g/\1<=g.length
theorem Runs.psize {κ:KeyKind}{a₀:Array Keyed}{segs:List (List Keyed)}{rest:List Keyed}{st:SortSt}(r:Runs κ a₀ segs rest st):(pendingOf st).size=segs.length:=by
 have:=agS List.length r.pend;rw[afz,iQ,afO] at this;exact this
theorem Runs.total {κ:KeyKind}{a₀:Array Keyed}{segs:List (List Keyed)}{rest:List Keyed}{st:SortSt}(r:Runs κ a₀ segs rest st):segs.flatten.length+rest.length=a₀.size:=by
 have:=agS List.length r.arr;rw[afH,afO,r.perm.size_eq] at this;exact this.symm
theorem zo:∀ {segs:List (List Keyed)},(∀ g∈segs,1<=g.length)->segs.length<=segs.flatten.length
 | [],_=>afG _
 | g::gs,h=>by
  have a:=h g afX;have b:=zo (segs:=gs) λq z=>h q (af6 _ z);rw[ahH,afH,age];lia
theorem sO:∀ {segs:List (List Keyed)} {i:Nat},i+1 < segs.length->∃ z X Y J,segs=z++(X::Y::J)/\z.length=i
 | [],i,h=>absurd h (by simp)
 | [g],i,h=>absurd h (by simp)
 | g::g'::gs,0,h=>⟨[],g,g',gs,rfl,rfl⟩
 | g::g'::gs,i+1,h=>by
  obtain⟨z,X,Y,J,e,l⟩:=sO (segs:=g'::gs) (i:=i) (by simpa using h);exact⟨g::z,X,Y,J,by rw[e];rfl,by simp[l]⟩
theorem sQ {α z:Type}(f:α->z):∀ (l:List α) (n:Nat),(l.eraseIdx n).map f=(l.map f).eraseIdx n
 | [],n=>by simp
 | x::l,0=>by simp
 | x::l,n+1=>by
  rw[aib,af0,af0,aib,sQ f l n]
theorem Runs.after {κ:KeyKind}{a₀:Array Keyed}{segs:List (List Keyed)}{rest:List Keyed}{st z:SortSt}(r:Runs κ a₀ segs rest st)(R:Rl segs.flatten.length st z):Runs κ a₀ segs ((arrOf z).toList.drop segs.flatten.length) z:=by
 refine⟨R.kind,R.failed,R.perm.trans r.perm,?_,by rw[R.pend];exact r.pend,r.sl⟩;have e:(arrOf z).toList.take segs.flatten.length=segs.flatten:=by
  have O:(arrOf st).toList.take segs.flatten.length=segs.flatten:=by rw[r.arr,ala]
  rw[← O];refine ahu λi=>?_;have J:(List.take segs.flatten.length (arrOf st).toList).length=segs.flatten.length:=by
   rw[O]
  rw[J];by_cases hi:i < segs.flatten.length
  .rw[ah0 hi,ah0 hi,agG,agG];exact R.pre i hi
  .rw[ajL (by lia),ajL (by lia)]
 have:=(agC segs.flatten.length (arrOf z).toList).symm
 rwa [e] at this
theorem UpK.sl {κ:KeyKind}{xs:Array Keyed}{lo n:Nat}(h:UpK κ xs lo n):SL κ ((xs.toList.drop lo).take n):=by
 refine ag5.mpr λi j hi O z=>?_;have J:j < n/\j < xs.size - lo:=by
  rw[af7,ahB,afO] at O;lia
 have q:=h i j (ahc z) J.1;rw[pY (p:=xs[lo+i]) (getElem?_pos xs (lo+i) (by lia)),pY (p:=xs[lo+j]) (getElem?_pos xs (lo+j) (by lia))] at q;rw[akf,akg,akf,akg];exact q
theorem aee {c:Prop}[Decidable c]{a b n:Nat}(h1:a+1 < n)(h2:b+1 < n):(if c then a else b)+1 < n:=by
 split<;>assumption
theorem zI (f:Nat×Nat×Nat->Nat×Nat×Nat)(z:∀ x,two (f x)=two x)(p:Array (Nat×Nat×Nat))(i:Nat):(p.modify i f).toList.map two=p.toList.map two:=by
 refine ahu λj=>?_;rw[afF,afF,agG,agG,Array.getElem?_modify];cases p[j]? with
 | none=>split<;>rfl
 | some v =>
  split
  .show some (two (f v))=some (two v);rw[z]
  .rfl
section
variable {prog:Program}{w:World}{A:Around}{E:Value->Shared->Prop}{s:Shared}{κ:KeyKind}
theorem gK (hO:LtAt prog w A s κ){a₀:Array Keyed}{segs:List (List Keyed)}{rest:List Keyed}{i:Nat}{st:SortSt}{Q:Bool->SortSt->Prop}(va:∀ p∈a₀.toList,Va κ p)(r:Runs κ a₀ segs rest st)(hi:i+1 < segs.length)
 (h:∀ J O,Runs κ a₀ J rest O->J.length+1=segs.length->J.flatten.length=segs.flatten.length->Q true O):wpS (model prog w) A E s (mergeAt' i) Q st:=by
 obtain⟨Z,X,Y,S2,rfl,l1⟩:=sO hi;have pe:=r.pend;rw[eJ] at pe;simp only[jE,aiv] at pe;have S:(jE 0 Z).length=i:=by rw[iQ];exact l1
 have ae:((pendingOf st).toList.map two)[i]? = some (Z.flatten.length,X.length):=by
  rw[pe,af8 (by lia),S,ajj]
  rfl
 have af:((pendingOf st).toList.map two)[i+1]? = some (Z.flatten.length+X.length,Y.length):=by
  rw[pe,af8 (by lia),S,show i+1 - i=1 by lia]
  rfl
 have get:∀ {k a b:Nat},((pendingOf st).toList.map two)[k]? = some (a,b)->∃ c,(pendingOf st)[k]? = some (a,b,c):=fun {k a b} e=>by
  rw[afF,agG] at e;cases q:(pendingOf st)[k]? with
  | none=>rw[q] at e;cases e
  | some v =>
   rw[q] at e;obtain⟨x,y,z⟩:=v;have e':(x,y)=(a,b):=agT e;cases e';exact⟨z,rfl⟩
 obtain⟨pw,ag⟩:=get ae;obtain⟨as,ah⟩:=get af;have ea:(arrOf st).toList=Z.flatten++(X++(Y++(S2.flatten++rest))):=by
  rw[r.arr];simp[afN]
 have U:∀ p∈(arrOf st).toList,Va κ p:=λp hp=>va p ((ahp.mp r.perm).mem_iff.mp hp);have sX:=r.sl X (by simp);have sY:=r.sl Y (by simp);refine uX hO r.kind r.failed ag ah ea (λp hp=>U p (by rw[ea];simp[hp])) (λp hp=>U p (by rw[ea];simp[hp])) sX.1 sY.1 sX.2 sY.2 λM O pM sM k' f' a' p'=>?_;have lM:M.length=X.length+Y.length:=by rw[pM.length_eq,afH]
 refine h (Z++M::S2) O ⟨k',f',?_,?_,?_,λg hg=>?_⟩ (by simp only[afH,age];lia) (by simp only[aic,ahH,afH];lia)
 .refine Array.Perm.trans (ahp.mpr ?_) r.perm;rw[a',ea];refine ahS _ ?_;rw[← afN X];exact ahP _ pM
 .rw[a'];simp[afN]
 .rw[p',Array.toList_eraseIdxIfInBounds,Array.toList_setIfInBounds,eJ];simp only[jE,aiv];rw[sQ,List.map_set,pe];rw[show two (Z.flatten.length,X.length+Y.length,pw)=(Z.flatten.length,X.length+Y.length) from rfl];rw[List.set_append_right _ _ (by lia),S,ajj,List.set_cons_zero,List.eraseIdx_append_of_length_le (by lia),S,show i+1 - i=1 by lia];simp only[aib,List.eraseIdx_cons_zero];rw[lM,ai1]
 .rcases afV.mp hg with hg | hg
  .exact r.sl g (by simp[hg])
  .rcases afZ.mp hg with hg | hg
   .rw[hg];exact⟨sM,by lia⟩
   .exact r.sl g (by simp[hg])
theorem wpS_sortAll (hO:LtAt prog w A s κ){a₀:Array Keyed}{st:SortSt}{Q:Unit->SortSt->Prop}(va:∀ p∈a₀.toList,Va κ p)(hk:kindOf st=oneType')(hf:failedOf st=none)(hp:(arrOf st).Perm a₀)(aB:pendingOf st=#[])
 (h:∀ ac,(arrOf ac).Perm a₀->failedOf ac=none->SL κ (arrOf ac).toList->Q () ac):wpS (model prog w) A E s sortRuns' Q st:=by
 have hN:(arrOf st).size=a₀.size:=hp.size_eq;have ad:∀ {O:List (List Keyed)} {rest:List Keyed} {ac:SortSt},Runs κ a₀ O rest ac->(arrOf st).size<=O.flatten.length->Runs κ a₀ O [] ac:=fun {O rest ac} r hl=>by
  have t:=r.total;have e:rest=[]:=aiV.mp (by lia);rw[← e];exact r
 refine afT (ajm ?_);refine afT (ahR (ag0 (a:=0) (b:=(arrOf st).size) (I:=λx c ac=>∃ O rest,c=(none,O.flatten.length)/\Runs κ a₀ O rest ac/\x<=O.flatten.length)
  (Q:=λc ac=>∃ O lo,c=(none,lo)/\Runs κ a₀ O [] ac) ?_ ?_ ⟨[],(arrOf st).toList,rfl,⟨hk,hf,hp,rfl,by rw[aB];rfl,λg hg=>nomatch hg⟩,afG _⟩) ?_)
 .rintro x c aj _ hx ⟨O,rest,rfl,r,am⟩;by_cases an:O.flatten.length ≥ (arrOf st).size
  .refine ifp an ?_;exact af2 ⟨O,_,rfl,ad r an⟩
  refine ifn an ?_;have aQ:(arrOf aj).size=a₀.size:=r.perm.size_eq;have ak:∀ p∈(arrOf aj).toList,Va κ p:=λp hp=>va p ((ahp.mp r.perm).mem_iff.mp hp);refine afT (yb (lo:=O.flatten.length) (nrem:=(arrOf st).size - O.flatten.length) hO r.kind r.failed ak (by lia) (by lia) λm aa R2 m1 m2 u2=>?_);have r2:=r.after R2;have t2:=r2.total;refine ifs (λar=>?_) (λar=>?_)
  .refine afT (wpS_lift (ag9 ⟨rfl,?_⟩));have aC:m<=min ((arrOf st).size - O.flatten.length) (minRun' (arrOf st).size (arrOf st).size 0):=by
    have aK:m < minRun' (arrOf st).size (arrOf st).size 0:=ar;lia
   have aT:min ((arrOf st).size - O.flatten.length) (minRun' (arrOf st).size (arrOf st).size 0)<=(arrOf st).size - O.flatten.length:=aiw _ _;refine afT (xC (lo:=O.flatten.length) (n:=min ((arrOf st).size - O.flatten.length) (minRun' (arrOf st).size (arrOf st).size 0)) (ok:=m) hO R2 ak (by lia) m1 aC u2 λao R3 u3=>?_);refine ifn (by simp) ?_;have r3:=r.after R3;have t3:=r3.total;have sN:=u3.sl;generalize (arrOf ao).toList.drop O.flatten.length=U at r3 sN t3;have ae:∀ (J:List (List Keyed)) (S:SortSt),Runs κ a₀ J U S->J.flatten.length=O.flatten.length->∃ Y ah,((none,O.flatten.length+min ((arrOf st).size - O.flatten.length) (minRun' (arrOf st).size (arrOf st).size 0)):Option Unit×Nat)=(none,Y.flatten.length)/\Runs κ a₀ Y ah (setPending S ((pendingOf S).push (O.flatten.length,min ((arrOf st).size - O.flatten.length) (minRun' (arrOf st).size (arrOf st).size 0),0)))/\x+1<=Y.flatten.length:=λJ S Z e4=>by
    have lN:(U.take (min ((arrOf st).size - O.flatten.length) (minRun' (arrOf st).size (arrOf st).size 0))).length=min ((arrOf st).size - O.flatten.length) (minRun' (arrOf st).size (arrOf st).size 0):=by rw[af7];lia
    have lf:(J++[U.take (min ((arrOf st).size - O.flatten.length) (minRun' (arrOf st).size (arrOf st).size 0))]).flatten.length=O.flatten.length+min ((arrOf st).size - O.flatten.length) (minRun' (arrOf st).size (arrOf st).size 0):=by
     rw[aic,afH,ahQ,lN,e4]
    refine⟨J++[U.take (min ((arrOf st).size - O.flatten.length) (minRun' (arrOf st).size (arrOf st).size 0))],U.drop (min ((arrOf st).size - O.flatten.length) (minRun' (arrOf st).size (arrOf st).size 0)),by rw[lf],⟨Z.kind,Z.failed,Z.perm,?_,?_,λg hg=>?_⟩,by rw[lf];lia⟩
    .show (arrOf S).toList=_;rw[Z.arr,aic,ahQ,afN,agC]
    .show ((pendingOf S).push (O.flatten.length,min ((arrOf st).size - O.flatten.length) (minRun' (arrOf st).size (arrOf st).size 0),0)).toList.map two=_;rw[aiz,afY,Z.pend,eJ,e4];simp only[jE,aiv,lN]
     rfl
    .rcases afV.mp hg with hg | hg
     .exact Z.sl g hg
     .rw[afD.mp hg];exact⟨sN,by lia⟩
   refine afT (ajm ?_);cases hb:(pendingOf ao).back? with
   | none=>exact afT (aik (af2 (ae O ao r3 rfl)))
   | some v =>
    obtain⟨s1,n1,p0⟩:=v;refine afT (ahR (ag0 (a:=0) (b:=(arrOf st).size) (I:=λy c S=>c=(none,())/\∃ J,Runs κ a₀ J U S/\J.flatten.length=O.flatten.length) (Q:=λc S=>c=(none,())/\∃ J,Runs κ a₀ J U S/\J.flatten.length=O.flatten.length) ?_ (λ_ _ h=>h) ⟨rfl,O,r3,rfl⟩) ?_)
    .rintro y c S _ hy ⟨rfl,J,Z,e4⟩;refine afT (ajm ?_);have ps:=Z.psize;by_cases af:(pendingOf S).size > 1
     .obtain⟨v,hv⟩:∃ v,(pendingOf S)[(pendingOf S).size - 2]? = some v:=⟨_,getElem?_pos _ _ (by lia)⟩;obtain⟨q1,q2,q3⟩:=v;have em:(if (pendingOf S).size > 1 then (pendingOf S)[(pendingOf S).size - 2]? else none)=some (q1,q2,q3):=by rw[if_pos af,hv]
      dsimp only;rw[em];refine ifs (λho=>af2 ⟨rfl,J,Z,e4⟩) (λho=>?_);refine afT (gK (i:=(pendingOf S).size - 2) hO va Z (by lia) λY aw r5 l5 e5=>?_);exact ifn (by simp) (af2 ⟨rfl,Y,r5,by lia⟩)
     .have em:(if (pendingOf S).size > 1 then (pendingOf S)[(pendingOf S).size - 2]? else none)=none:=if_neg af;dsimp only;rw[em];exact af2 ⟨rfl,J,Z,e4⟩
    .rintro c S ⟨rfl,J,Z,e4⟩;refine afT (aik (afT (aik (af2 (ae J _ ⟨Z.kind,Z.failed,Z.perm,Z.arr,?_,Z.sl⟩ e4)))));refine (zI _ ?_ _ _).trans Z.pend;intro z
     rfl
  .have sN:=u2.sl;have r3:=r2;have t3:=t2;generalize (arrOf aa).toList.drop O.flatten.length=U at r3 sN t3;have ae:∀ (J:List (List Keyed)) (S:SortSt),Runs κ a₀ J U S->J.flatten.length=O.flatten.length->∃ Y ah,((none,O.flatten.length+m):Option Unit×Nat)=(none,Y.flatten.length)/\Runs κ a₀ Y ah (setPending S ((pendingOf S).push (O.flatten.length,m,0)))/\x+1<=Y.flatten.length:=λJ S Z e4=>by
    have lN:(U.take (m)).length=m:=by rw[af7];lia
    have lf:(J++[U.take (m)]).flatten.length=O.flatten.length+m:=by
     rw[aic,afH,ahQ,lN,e4]
    refine⟨J++[U.take (m)],U.drop (m),by rw[lf],⟨Z.kind,Z.failed,Z.perm,?_,?_,λg hg=>?_⟩,by rw[lf];lia⟩
    .show (arrOf S).toList=_;rw[Z.arr,aic,ahQ,afN,agC]
    .show ((pendingOf S).push (O.flatten.length,m,0)).toList.map two=_;rw[aiz,afY,Z.pend,eJ,e4];simp only[jE,aiv,lN]
     rfl
    .rcases afV.mp hg with hg | hg
     .exact Z.sl g hg
     .rw[afD.mp hg];exact⟨sN,by lia⟩
   refine afT (ajm ?_);cases hb:(pendingOf aa).back? with
   | none=>exact afT (aik (af2 (ae O aa r3 rfl)))
   | some v =>
    obtain⟨s1,n1,p0⟩:=v;refine afT (ahR (ag0 (a:=0) (b:=(arrOf st).size) (I:=λy c S=>c=(none,())/\∃ J,Runs κ a₀ J U S/\J.flatten.length=O.flatten.length) (Q:=λc S=>c=(none,())/\∃ J,Runs κ a₀ J U S/\J.flatten.length=O.flatten.length) ?_ (λ_ _ h=>h) ⟨rfl,O,r3,rfl⟩) ?_)
    .rintro y c S _ hy ⟨rfl,J,Z,e4⟩;refine afT (ajm ?_);have ps:=Z.psize;by_cases af:(pendingOf S).size > 1
     .obtain⟨v,hv⟩:∃ v,(pendingOf S)[(pendingOf S).size - 2]? = some v:=⟨_,getElem?_pos _ _ (by lia)⟩;obtain⟨q1,q2,q3⟩:=v;have em:(if (pendingOf S).size > 1 then (pendingOf S)[(pendingOf S).size - 2]? else none)=some (q1,q2,q3):=by rw[if_pos af,hv]
      dsimp only;rw[em];refine ifs (λho=>af2 ⟨rfl,J,Z,e4⟩) (λho=>?_);refine afT (gK (i:=(pendingOf S).size - 2) hO va Z (by lia) λY aw r5 l5 e5=>?_);exact ifn (by simp) (af2 ⟨rfl,Y,r5,by lia⟩)
     .have em:(if (pendingOf S).size > 1 then (pendingOf S)[(pendingOf S).size - 2]? else none)=none:=if_neg af;dsimp only;rw[em];exact af2 ⟨rfl,J,Z,e4⟩
    .rintro c S ⟨rfl,J,Z,e4⟩;refine afT (aik (afT (aik (af2 (ae J _ ⟨Z.kind,Z.failed,Z.perm,Z.arr,?_,Z.sl⟩ e4)))));refine (zI _ ?_ _ _).trans Z.pend;intro z
     rfl
 .rintro c aj ⟨O,rest,rfl,r,am⟩;rw[Nat.max_eq_right (af5 _)] at am;exact⟨O,_,rfl,ad r am⟩
 .rintro c aj ⟨O,lo,rfl,r⟩;have tt:=r.total;rw[akG,ajU] at tt;have fg:=zo λg hg=>(r.sl g hg).2;refine afT (ahR (ag0 (a:=0) (b:=(arrOf st).size) (I:=λy c aa=>c=(none,())/\∃ J,Runs κ a₀ J [] aa/\(J.length+y<=a₀.size\/J.length<=1)) (Q:=λc aa=>c=(none,())/\∃ J,Runs κ a₀ J [] aa/\J.length<=1) ?_ ?_ ⟨rfl,O,r,.inl (by lia)⟩) ?_)
  .rintro y c aa _ hy ⟨rfl,J,r2,ay⟩;refine afT (ajm ?_);have ps:=r2.psize;by_cases af:(pendingOf aa).size<=1
   .refine ifp af ?_;exact af2 ⟨rfl,J,r2,by lia⟩
   refine ifn af ?_;refine afT (gK hO va r2 ?_ λY aw r5 l5 e5=>?_)
   .exact aee (show (pendingOf aa).size - 2 - 1+1 < _ by lia) (show (pendingOf aa).size - 2+1 < _ by lia)
   .exact ifn (by simp) (af2 ⟨rfl,Y,r5,.inl (by lia)⟩)
  .rintro c aa ⟨rfl,J,r2,ay⟩;refine⟨rfl,J,r2,?_⟩;rw[Nat.max_eq_right (af5 _)] at ay;lia
  .rintro c aa ⟨rfl,J,r2,l2⟩;refine af2 (h aa r2.perm r2.failed ?_);rw[r2.arr,agl]
   match J,l2,r2 with
   | [],_,_=>exact List.Pairwise.nil
   | [g],_,r2=>rw[ahQ];exact (r2.sl g afX).1
end
section
variable {prog:Program}{w:World}{A:Around}{E:Value->Shared->Prop}{s:Shared}
end
end TS
namespace LL
open PySem PySem.SeqAt PySem.W PyProof.Rows
theorem um {m n:Nat}{e f:Nat->Bool}:∀ (l J:List Int) (i:Nat),(∀ (j:Nat) (x y:Int),l[j]? = some x->J[j]? = some y->e (i+j)=decide (x=y))->(∀ (j:Nat) (x y:Int),l[j]? = some x->J[j]? = some y->f (i+j)=decide (x < y))->(m < n↔l.length < J.length)->xA m n e f (min l.length J.length) i=decide (l < J)
 | [],[],i,_,_,h=>by
  show xA m n e f 0 i=_;unfold xA;exact agL.mpr ⟨λz=>absurd (h.mp z) (agB _),λz=>absurd z (ahO _)⟩
 | [],y::ys,i,_,_,h=>by
  show xA m n e f (min 0 _) i=_;rw[Nat.zero_min];unfold xA;exact agL.mpr ⟨λ_=>akw _ _,λ_=>h.mpr (Nat.succ_pos _)⟩
 | x::xs,[],i,_,_,h=>by
  show xA m n e f (min _ 0) i=_;rw[Nat.min_zero];unfold xA;exact agL.mpr ⟨λz=>absurd (h.mp z) (ahM _),λz=>absurd z (ahO _)⟩
 | x::xs,y::ys,i,he,hf,h=>by
  rw[show min (x::xs).length (y::ys).length=min xs.length ys.length+1 by simp only[age];lia];unfold xA;have U:e i=decide (x=y):=he 0 x y rfl rfl;have Y:f i=decide (x < y):=hf 0 x y rfl rfl;by_cases q:x=y
  .subst q;rw[U,afM rfl,if_pos rfl,um xs ys (i+1) (λj a b O S=>by rw[Nat.add_right_comm,ai1];exact he (j+1) a b O S) (λj a b O S=>by rw[Nat.add_right_comm,ai1];exact hf (j+1) a b O S) (by rw[h];simp only[age];lia)];exact agL.mpr (by rw[ag7];exact⟨λz=>.inr ⟨rfl,z⟩,λz=>z.elim (λz=>absurd z (Int.lt_irrefl _)) (·.2)⟩)
  .rw[U,afS q,if_neg afC,Y];exact agL.mpr (by rw[ag7];exact⟨λz=>.inl z,λz=>z.elim id (λz=>absurd z.1 q)⟩)
def NumsAt (h:Heap)(v:Value)(l:List Int):Prop:=∃ (b:Addr) (os:List Value),v=.ref b/\h.IsList b os.toArray/\os.length=l.length/\∀ (j:Nat) z,l[j]? = some z->∃ tk,os[j]? = some (.int z tk)
theorem NumsAt.one {h:Heap}{v:Value}{l S:List Int}(a:NumsAt h v l)(b:NumsAt h v S):l=S:=by
 obtain⟨a1,os,rfl,⟨o,ho,hc,n,hd⟩,hl,hx⟩:=a;obtain⟨b1,U,e,⟨o',J,af,n',O⟩,ag,Y⟩:=b;cases e;rw[ho] at J;cases J;rw[hd] at O;have eo:os=U:=by
  injection O with Z z
  exact agS Array.toList Z
 subst eo;apply ahu ;intro j;by_cases hj:j < l.length
 .obtain⟨tk,Z⟩:=hx j _ (afx hj);obtain⟨ai,z⟩:=Y j _ (afx (show j < S.length by lia));rw[Z] at z;rw[afx hj,afx (show j < S.length by lia)];injection z with z
  injection z with z
  rw[z]
 .rw[agZ (by lia),agZ (by lia)]
theorem abD (a b c:List Int)(x:decide (a < c)=true):decide (a < b)=true\/decide (b < c)=true:=by
 by_cases q:a < b
 .exact .inl (afM q)
 .exact .inr (afM (List.lt_of_le_of_lt (ahU.mp q) (agz x)))
noncomputable abbrev gJ (h:Heap):KeyKind:={ α:=List Int,blt:=λa b=>decide (a < b),irrefl:=λa=>afS (ajf a),trans:=λa b c x y=>afM (akq (agz x) (agz y)),negTrans:=abD,total:=λa b x y=>aiJ (ahU.mp (aiU y)) (ahU.mp (aiU x)),keyOf:=λv=>@dite _ (∃ l,NumsAt h v l) (Classical.propDecidable _) (λq=>some (Classical.choose q)) λ_=>none,dflt:=[] }
theorem gY {h:Heap}{v:Value}{l:List Int}(a:NumsAt h v l):(gJ h).keyOf v=some l:=by
 have q:∃ l,NumsAt h v l:=⟨l,a⟩;show @dite _ _ (Classical.propDecidable _) _ _=_;rw[dif_pos q,(Classical.choose_spec q).one a]
theorem mC {h:Heap}{v:Value}{l:List Int}(e:(gJ h).keyOf v=some l):NumsAt h v l:=by
 by_cases q:∃ l,NumsAt h v l
 .obtain⟨z,a⟩:=q;rw[gY a] at e;cases e;exact a
 .have e:@dite _ (∃ l,NumsAt h v l) (Classical.propDecidable _) (λq=>some (Classical.choose q)) (λ_=>none)=some l:=e;rw[dif_neg q] at e;cases e
theorem uk {prog:Program}{w:World}{A:Around}{s:Shared}(hu:A.units < cLine):TS.LtAt prog w A s (gJ s.heap):=by
 intro E x y a b Q hx hy q;obtain⟨p,os,rfl,hl,nl,hz⟩:=mC hx;obtain⟨p',ad,rfl,ae,U,Y⟩:=mC hy;rw[← keyLt'_oneType];have J:∀ {l:List Int} {os:List Value},os.length=l.length->(∀ (j:Nat) z,l[j]? = some z->∃ tk,os[j]? = some (.int z tk))->∀ j (hj:j < os.toArray.size),∃ (z:Int) (tk:Tok),l[j]? = some z/\os.toArray[j]=.int z tk:=fun {l os} nl hz j hj=>by
  have af:j < os.length:=by simpa using hj
  obtain⟨tk,e⟩:=hz j l[j] (afx _);refine⟨l[j],tk,afx _,?_⟩;rw[afx af] at e;simpa using e
 have sz:os.toArray.size=a.length:=by simp;lia
 have ag:ad.toArray.size=b.length:=by simp;lia
 refine tO (e:=λj=>decide (a[j]? = b[j]?)) (f:=λj=>decide ((a[j]?).getD 0 < (b[j]?).getD 0)) hl ae hu (λj h1 h2=>?_) (λj h1 h2 _=>?_) ?_
 .obtain⟨z,tk,q1,q2⟩:=J nl hz j h1;obtain⟨Z,aa,O,S⟩:=J U Y j h2;rw[q2,S];have:=ajQ (A:=A.in1) (s:=s) z tk Z aa;simp only[q1,O];rw[show decide (some z=some Z)=(z == Z) by
   by_cases y:z=Z<;>simp[y]]
  exact this
 .obtain⟨z,tk,q1,q2⟩:=J nl hz j h1;obtain⟨Z,aa,O,S⟩:=J U Y j h2;rw[q2,S];intro prog w E Q hq;simp only[q1,O,aiI] at hq;exact lt_int hq
 .rw[sz,ag,um a b 0 (λj x y e1 e2=>by
   rw[aiv];simp only[e1,e2];exact agL.mpr ⟨λz=>by cases z;rfl,λz=>by rw[z]⟩) (λj x y e1 e2=>by rw[aiv];simp only[e1,e2,aiI]) Iff.rfl]
  exact q
section
variable {prog:Program}{w:World}{A:Around}{E:Value->Shared->Prop}{s:Shared}
theorem yt {a:Addr}{vs:List Value}{n:Nat}{R:PySem.Fin->Shared->Prop}(S:s.heap.get? a=some (seqObj "list" vs.toArray n))(h2:2<=vs.length)(hz:vs.length<=sizeLine)(hu:A.units < cLine)
 (hT:∀ v∈vs,(∃ b,v=.ref b/\b≠a)/\∃ l,NumsAt s.heap v l)
 (h:∀ (h':Heap) (Y:List Value),(∀ v∈vs,∀ l,NumsAt s.heap v l->NumsAt h' v l)->Y.Perm vs->Y.Pairwise (λx y=>∀ l l',NumsAt s.heap x l->NumsAt s.heap y l'->¬ l' < l)->R (.done (.ret .none)) { s with heap:=sortedHeap s.heap a vs Y.toArray }):wpAny (model prog w) A (Builtin.«list.sort» ⟨[.ref a],[]⟩) R E s:=by
 have la:a < s.heap.objs.size:=afI S;have sv:vs.toArray.size=vs.length:=af4 ..;obtain⟨e1,Z⟩:∃ e,(s.heap.update a (Obj.mapSeq λ_=>#[])).get? a=some (seqObj "list" #[] e):=⟨_,get?_update_seq S (λ_=>#[])⟩;have aa:(((s.heap.update a (Obj.mapSeq λ_=>#[])).push (seqObj "tuple" vs.toArray 0)).push (seqObj "list" #[] 0)).get? a=some (seqObj "list" #[] e1):=by
  rw[aja _ _ _ (by rw[size_push',ajl];exact afU (afW la (agV _))),aja _ _ _ (by rw[ajl];exact afU la)];exact Z
 have U:∀ b o,b≠a->s.heap.get? b=some o->(((s.heap.update a (Obj.mapSeq λ_=>#[])).push (seqObj "tuple" vs.toArray 0)).push (seqObj "list" #[] 0)).get? b=some o:=λb o nb e=>by
  refine afB _ (afB _ ?_);rw[Heap.get?_update_ne _ _ _ _ nb];exact e
 have kn:∀ v∈vs,∀ l,NumsAt s.heap v l->NumsAt (((s.heap.update a (Obj.mapSeq λ_=>#[])).push (seqObj "tuple" vs.toArray 0)).push (seqObj "list" #[] 0)) v l:=λv hv l q=>by
  obtain⟨⟨b,rfl,nb⟩,_⟩:=hT v hv;obtain⟨b',os,e,⟨o,S,hc,n,hd⟩,x1,x2⟩:=q;cases e;exact⟨b,os,rfl,⟨o,U _ _ nb S,hc,n,hd⟩,x1,x2⟩
 rw[list_sort_plain];refine afy (listItems_at S rfl (afy (listUpdate_at S rfl ?_ (by rw[sv];exact hz) (af5 _))));refine afy (seqEpoch_at Z rfl (afy (wpAny_newTuple (afy (ai0 (agF ?_) (af5 _))) (by show vs.length<=_;exact hz))));have nb:¬ vs.toArray.size < 2:=by rw[sv];lia
 show wpAny (model prog w) A _ R E { s with heap:=((s.heap.update a (Obj.mapSeq λ_=>#[])).push (seqObj "tuple" vs.toArray 0)).push (seqObj "list" #[] 0) };dsimp only;rw[if_neg nb,if_neg nb];refine afy (kas_kind h2 (T:=.type "list") (λv hv=>?_) (by decide +kernel) (by decide +kernel) ?_)
 .obtain⟨⟨b,rfl,nb⟩,l,b',os,e,⟨o,S,hc,_⟩,_⟩:=hT v hv;cases e;exact kitAt_ty _ _ ⟨o,U _ _ nb S,hc⟩
 generalize hs1:(((s.heap.update a (Obj.mapSeq λ_=>#[])).push (seqObj "tuple" vs.toArray 0)).push (seqObj "list" #[] 0))=h1 at *;have O:∀ p∈(pairsOf vs).toList,p.1=p.2/\p.2∈vs:=λp hp=>by
  unfold pairsOf at hp;rw[Array.toList_zip] at hp;have e:p.1=p.2:=by
   obtain⟨i,hi,rfl⟩:=aid hp;rw[List.getElem_zip]
  exact⟨e,(ajy (a:=p.1) (b:=p.2) hp).2⟩
 have go:wpAny (model prog w) A (sortRuns'.run (SortSt.mk' oneType' (vs.toArray.zip vs.toArray) #[] 7 none))
  (λr s'=>s'={ s with heap:=h1 }/\(arrOf r.2).Perm (pairsOf vs)/\failedOf r.2=none/\TS.SL (gJ h1) (arrOf r.2).toList) E { s with heap:=h1 } :=
  TS.wpS_sortAll (κ:=gJ h1) (uk (s:={ s with heap:=h1 }) hu) (a₀:=pairsOf vs) (Q:=λ_ J=>(arrOf J).Perm (pairsOf vs)/\failedOf J=none/\TS.SL (gJ h1) (arrOf J).toList) (λp hp=>by
   obtain⟨e,m⟩:=O p hp;obtain⟨_,l,q⟩:=hT _ m;exact⟨l,by rw[e];exact gY (kn _ m l q)⟩) rfl rfl (Array.Perm.refl _) rfl λJ b1 b2 b3=>⟨b1,b2,b3⟩
 refine afy (agq go ?_ λ_ _ e=>e);rintro⟨⟨⟩,J⟩ s' ⟨rfl,b1,b2,b3⟩;have sz:(arrOf J).size=vs.length:=b1.size_eq.trans (pairsOf_size _);refine afy (seqEpoch_at aa rfl (afy (listUpdate_at aa rfl ?_ (af5 _) (by rw[Array.size_map,sz];lia))));dsimp only;rw[b2];simp only[ah2,agD,aiq];have pm:=ahp.mp b1;have e2:((pairsOf vs).toList.map (·.2))=vs:=by
  unfold pairsOf;rw[Array.toList_zip];exact List.map_snd_zip (by simp)
 have:=h h1 (((arrOf J).map (·.2)).toList) kn (by
  rw[Array.toList_map];exact e2▸pm.map (·.2)) (by
  rw[Array.toList_map,aha];refine ahA (fun {p q} hp hq z l l' n1 n2=>?_) b3;obtain⟨x1,y1⟩:=O p (pm.mem_iff.mp hp);obtain⟨x2,y2⟩:=O q (pm.mem_iff.mp hq);have z:(gJ h1).blt (TS.kk _ q) (TS.kk _ p)=false:=z;unfold TS.kk at z;rw[x1,x2,gY (kn _ y1 _ n1),gY (kn _ y2 _ n2)] at z;exact aiU z)
 rw[ajr] at this;subst hs1;exact afE this
theorem sorted_nums {l:Addr}{vs:List Value}{Q:Value->Shared->Prop}(hl:s.heap.IsList l vs.toArray)(hz:vs.length<=sizeLine)(hu:A.units+2 < cLine)
 (hT:∀ v∈vs,∃ l,NumsAt s.heap v l)
 (h:∀ J:List Value,J.Perm vs->J.Pairwise (λx y=>∀ l S,NumsAt s.heap x l->NumsAt s.heap y S->¬ S < l)->Q (.ref (s.heap.objs.size+1)) { s with heap:=sortedAll s.heap vs J.toArray }):wpAny (model prog w) A (call (.builtin "sorted") [.ref l]) Q E s:=by
 by_cases h2:2<=vs.length
 .refine ahV kind_sorted plain_sorted entry_sorted (args_sorted1 _) ?_;have Y:((s.heap.push (seqObj "list" #[] 0)).update s.heap.objs.size (Obj.mapSeq (·++vs.toArray))).objs.size=s.heap.objs.size+1:=by
   rw[ajl,size_push']
  have g1:(((s.heap.push (seqObj "list" #[] 0)).update s.heap.objs.size (Obj.mapSeq (·++vs.toArray))).push (seqObj "list" vs.toArray 0)).get? (s.heap.objs.size+1)=some (seqObj "list" vs.toArray 0):=by
   rw[← Y];exact afK _ rfl
  have U:∀ b o,s.heap.get? b=some o->(((s.heap.push (seqObj "list" #[] 0)).update s.heap.objs.size (Obj.mapSeq (·++vs.toArray))).push (seqObj "list" vs.toArray 0)).get? b=some o:=λb o q=>by
   have O:b < s.heap.objs.size:=afI q;rw[aja _ _ _ (by rw[Y];exact afU (agr O)),Heap.get?_update_ne _ _ _ _ (afU O),aja _ _ _ (afU O)];exact q
  have Z:∀ v l,NumsAt s.heap v l->NumsAt (((s.heap.push (seqObj "list" #[] 0)).update s.heap.objs.size (Obj.mapSeq (·++vs.toArray))).push (seqObj "list" vs.toArray 0)) v l:=λv l ⟨b,os,e,⟨o,ho,x⟩,y⟩=>⟨b,os,e,⟨o,U _ _ ho,x⟩,y⟩;unfold Builtin.«sorted»;refine afy (m:=checkCount "sorted" 1 1 _) (afE (afy (collect_list hl (afy (ai0 ?_ hz)) hz)));show wpAny _ _ _ _ _ { s with heap:=((s.heap.push (seqObj "list" #[] 0)).update s.heap.objs.size (Obj.mapSeq (·++vs.toArray))).push (seqObj "list" vs.toArray 0) };rw[Y];refine afy (agF (ahn ajZ ⟨_,g1,rfl⟩ ajC (yt g1 h2 hz (by show A.units+2 < cLine;exact hu) (λv hv=>?_) (λ_ J _ p1 p2=>⟨_,rfl,afE ⟨_,rfl,h J p1 (p2.imp fun {x y} z l S a b=>z l S (Z _ _ a) (Z _ _ b))⟩⟩)) (aj0 _)));obtain⟨S,q⟩:=hT v hv;have q0:=q;obtain⟨b,os,e,⟨o,ho,_⟩,_⟩:=q;exact⟨⟨b,e,afU (agr (afI ho))⟩,S,Z _ _ q0⟩
 .refine wM hl (by lia) (h vs (.refl _) ?_)
  match vs,h2 with
  | [],_=>exact .nil
  | [v],_=>exact akr _ _
  | _::_::_,h2=>exact absurd (Nat.le_add_left 2 _) h2
end
end LL
namespace L2
open PySem PySem.Spec PyProof.Rows
def numsOf (H:Hp):V->List Int
 | .ref a=>match H a with
  | some (.lst xs)=>xs.map λx=>match x with | .int z=>z | _=>0
  | _=>[]
 | _=>[]
theorem numsOf_at {H:Hp}{a:Addr}{z:List Int}(e:H a=some (.lst (z.map V.int))):numsOf H (.ref a)=z:=by
 unfold numsOf;dsimp only;rw[e];show (z.map V.int).map _=z;rw[af3];exact aks _
theorem Vals.perm':∀ {us z:List Value} {vs:List V},us.Perm z->Vals vs us->∃ J,J.Perm vs/\Vals J z:=by
 intro us z vs p
 induction p generalizing vs with
 | nil=>exact λr=>⟨vs,.refl _,r⟩
 | cons x _ O =>
  rintro (_ | ⟨r,t⟩);obtain⟨J,a,b⟩:=O t;exact⟨_,a.cons _,.cons r b⟩
 | swap x y l =>
  rintro (_ | ⟨r,_ | ⟨q,t⟩⟩);exact⟨_,.swap _ _ _,.cons q (.cons r t)⟩
 | trans _ _ S U =>
  intro r;obtain⟨v1,Y,Z⟩:=S r;obtain⟨v2,a2,b2⟩:=U Z;exact⟨v2,a2.trans Y,b2⟩
section
variable {X:Cx}
theorem dE:eG X (.builtin "sorted") (λxs H Q=>∃ (p:Addr) (vs:List V),xs=[.ref p]/\SqL X.K H p vs/\vs.length<=sizeLine/\X.A.units+4 < cLine/\(∀ v∈vs,∃ (a:Addr) (ns:List Int),v=.ref a/\H a=some (.lst (ns.map V.int)))/\∀ (l:Addr) (J:List V),H l=none->J.Perm vs->(J.map (numsOf H)).Pairwise (λa b=>¬ b < a)->Q (.ref l) (upd H l (.lst J))):=by
 intro pins s σ H xs us Q I r h;obtain⟨p,vs,rfl,hq,an,S,aa,q⟩:=h;obtain⟨u,rfl,rx⟩:=gz r;cases rx;obtain⟨its,U,pl,hz⟩:=I.list hq;have nl:=U.length;have O:∀ {v u},RelV v u->v∈vs->LL.NumsAt s.heap u (numsOf H v):=fun {v u} U hv=>by
  obtain⟨a,ns,rfl,ha⟩:=aa v hv;cases U;rw[numsOf_at ha];obtain⟨os,ro,po,_⟩:=I.list (aAA ha);have Y:=ro.length;rw[afz] at Y;refine⟨a,os,rfl,po.isList,Y.symm,λj z e=>?_⟩;obtain⟨u,S,tk,rfl⟩:=ro.get (i:=j) (x:=.int z) (by rw[afF,e];rfl);exact⟨tk,S⟩
 refine LL.sorted_nums pl.isList (by lia) (by show X.A.units+2 < _;lia) (λv hv=>?_) λJ p1 p2=>?_
 .obtain⟨i,hi,ei⟩:=aid hv;obtain⟨u,S,ru⟩:=U.get (afx (show i < vs.length by lia));rw[afx hi,ei] at S;cases S;exact⟨_,O ru (agg _)⟩
 obtain⟨e,he⟩:=sortedAll_at s.heap its J.toArray;obtain⟨ws,Z,w2⟩:=Vals.perm' p1.symm U;have wl:=Z.length_eq;refine⟨.ref (s.heap.objs.size+1),_,I.laid (t':=s.toks) (o:=.lst ws) (λb o e=>sortedAll_old e) (agV _) ⟨by lia,J,e,w2,by simpa using he⟩,rfl,q _ ws (I.hok.fresh (agV _)) Z ?_⟩;rw[ag5];intro i j hi hj ae;rw[afz] at hi hj;obtain⟨u1,g1,r1⟩:=w2.get (afx hi);obtain⟨u2,g2,r2⟩:=w2.get (afx hj);obtain⟨k1,g1⟩:=afA.mp g1;obtain⟨k2,g2⟩:=afA.mp g2;rw[akx,akx];have:=ag5.mp p2 i j k1 k2 ae;rw[g1,g2] at this;exact this _ _ (O r1 (Z.mem_iff.mp (agg _))) (O r2 (Z.mem_iff.mp (agg _)))
end
end L2
namespace LL
open PySem PySem.SeqAt PySem.W PyProof.Rows
section
variable {prog:Program}{w:World}{A:Around}{I:Addr}{fp wr:List Addr}{n:Nat}{P:Nat->Value->Prop}{St:Nat->Heap->Prop}
end
section
variable {prog:Program}{w:World}{A:Around}{E:Value->Shared->Prop}{s:Shared}{x:Value}{Q:Value->Shared->Prop}
end
section
variable {prog:Program}{w:World}{A:Around}{E:Value->Shared->Prop}{s:Shared}
theorem rc_nums {x y:Value}{a b:List Int}{Q:Value->Shared->Prop}(hx:NumsAt s.heap x a)(hy:NumsAt s.heap y b)(hu:A.units+1 < cLine)(q:Q (.bool (decide (a < b))) s):wpAny (model prog w) A (richCompare .Lt x y) Q E s:=by
 obtain⟨p,os,rfl,hl,nl,hz⟩:=hx;obtain⟨p',U,rfl,ah,Y,Z⟩:=hy;have J:∀ {l:List Int} {os:List Value},os.length=l.length->(∀ (j:Nat) z,l[j]? = some z->∃ tk,os[j]? = some (.int z tk))->∀ j (hj:j < os.toArray.size),∃ (z:Int) (tk:Tok),l[j]? = some z/\os.toArray[j]=.int z tk:=fun {l os} nl hz j hj=>by
  have ai:j < os.length:=by simpa using hj
  obtain⟨tk,e⟩:=hz j l[j] (afx _);refine⟨l[j],tk,afx _,?_⟩;rw[afx ai] at e;simpa using e
 have sz:os.toArray.size=a.length:=by simp;lia
 have aj:U.toArray.size=b.length:=by simp;lia
 obtain⟨⟨aD,dd,au,sl⟩,ho,hc,n,hd⟩:=id hl;obtain⟨⟨ax,al,am,an⟩,aa,ac,n2,ad⟩:=id ah;simp only at hc hd ac ad;subst hc hd ac ad;refine wpAny_richCompare_same_room (op:=.Lt) ⟨_,ho,rfl⟩ ⟨_,aa,rfl⟩ aj2 (aj9 aj2 ⟨_,ho,rfl⟩ F.entry_list_lt (F.args_list_lt_2 _ _) (tj p p' os.toArray U.toArray n n2 dd al sl an (λj=>decide (a[j]? = b[j]?)) (λj=>decide ((a[j]?).getD 0 < (b[j]?).getD 0))) ⟨ho,aa,λj h1 h2=>?_,λj h1 h2 _=>?_,?_⟩) (by lia)
 .obtain⟨z,tk,q1,q2⟩:=J nl hz j h1;obtain⟨z',af,O,S⟩:=J Y Z j h2;rw[q2,S];have:=ajQ (A:=A.in1) (s:=s) z tk z' af;simp only[q1,O];rw[show decide (some z=some z')=(z == z') by
   by_cases y:z=z'<;>simp[y]]
  exact this
 .obtain⟨z,tk,q1,q2⟩:=J nl hz j h1;obtain⟨z',af,O,S⟩:=J Y Z j h2;rw[q2,S];intro prog w E Q hq;simp only[q1,O,aiI] at hq;exact lt_int hq
 .rw[sz,aj,um a b 0 (λj x y e1 e2=>by
   rw[aiv];simp only[e1,e2];exact agL.mpr ⟨λz=>by cases z;rfl,λz=>by rw[z]⟩) (λj x y e1 e2=>by rw[aiv];simp only[e1,e2,aiI]) Iff.rfl]
  refine And.intro (λx=>?_) q;cases x
end
end LL
namespace L2
open PySem PySem.Spec PyProof.Rows PySem.W
section
variable {X:Cx}
theorem sU (Z:X.calm=true):eG X (.builtin "min") (λxs H Q=>∃ (p:Addr) (z:List Int),xs=[.ref p]/\SqL X.K H p (z.map V.int)/\0 < z.length/\∀ m∈z,(∀ a∈z,m<=a)->Q (.int m) H):=by
 intro pins s σ H xs us Q I r h;obtain⟨p,z,rfl,hq,pos,q⟩:=h;obtain⟨u,rfl,rx⟩:=gz r;cases rx;obtain⟨its,U,O,hz⟩:=I.list hq;have nl:=U.length;rw[afz] at nl;have hh:X.A.in1.handled=none:=I.ok.hd Z;have ne:p≠s.heap.objs.size:=by
  obtain⟨o,S,_⟩:=O.isList;exact afU (afI S)
 have kp:∀ b o,s.heap.get? b=some o->(s.heap.push { cls:=.type "list_iterator",data:=.fields #[.ref p,.int 0 0] }).get? b=some o:=λb o e=>afB _ e;have J:∀ (i:Nat) (u:Value),its.toArray[i]? = some u->i < z.length/\∃ t,u=.int (z.getD i 0) t:=λi u e=>by
  rw[List.getElem?_toArray] at e;have hi:=(afA.mp e).1;obtain⟨u',Y,t,rfl⟩:=U.get (i:=i) (x:=.int (z.getD i 0)) (by rw[afF,afJ,afx (show i < z.length by lia)];rfl);rw[e] at Y;cases Y;exact⟨by lia,t,rfl⟩
 refine call_min_walk (ahZ O.isList ?_);refine⟨s.heap.objs.size,_,[s.heap.objs.size],_,_,_,_,rfl,akY hh s.heap.objs.size p ne its.toArray,⟨⟨_,afK s.1 rfl,rfl,rfl⟩,O.isList.push _⟩,λb hb=>?_,by simp;lia,CmpOf.ints_lt (λi=>z.getD i 0) λi v e=>(J i v e).2,λv h' tk hP k=>?_⟩
 .show b < (s.heap.push _).objs.size;rw[agw];rcases afZ.mp hb with rfl | hb
  .exact ahk _
  .rw[afD.mp hb];obtain⟨o,S,_⟩:=O.isList;exact agr (afI S)
 .obtain⟨hi,t,rfl⟩:=J _ _ hP;obtain⟨b1,b2⟩:=argBest_lt (λi=>z.getD i 0) (its.toArray.size - 1);refine⟨.int _,H,I.kept λb o e=>k b o (λm=>?_) (kp _ _ e),⟨t,rfl⟩,q _ (by rw[afJ,afx hi];exact agg _) λa ha=>?_⟩
  .rw[afD] at m;subst m;exact agB _ (afI e)
  .obtain⟨j,hj,ej⟩:=aid ha;have:=b2 j (by simp;lia);rw[show z.getD j 0=a by rw[afJ,afx hj,ej];rfl] at this;exact this
def aaD (td:TE):TE:=λσ H Q=>td σ H λx H1=>∃ (a:Addr) (kvs:List (Key×V)) (ns:List Int),x=.ref a/\H1 a=some (.dK kvs)/\kvs.map (·.2)=ns.map V.int/\0 < ns.length/\∀ m∈ns,(∀ a∈ns,a<=m)->Q (.int m) H1
theorem aaK:bootBuiltins "max" = some (.builtin "max"):=by decide +kernel
theorem rE {l:Expr}{tl:TE}{p apos cpos pos:Pos}(hg:Gl X "max")(hm:X.mg "max" = none)(hc:X.calm=true)(hl:PE X l tl)(O:attributeBase l "values" X.env (eval l X.env)=eval l X.env:=by rfl)(S:(apos.endLine == cpos.line)=true:=by rfl)
 (hs:starEach [.Call (.Attribute l "values" apos) [] [] cpos] X.env=[(false,eval (.Call (.Attribute l "values" apos) [] [] cpos) X.env)]:=by rfl):PE X (.Call (.Name "max" p) [.Call (.Attribute l "values" apos) [] [] cpos] [] pos) (aaD tl):=by
 intro pins s σ H Q I h;refine Call_ (jf I hg hm aaK (ajg ?_ hs rfl));rw[hs];show wpAny _ _ (spliced [(false,eval _ X.env)]) _ _ s;refine ajO ?_;refine aiR O S (thn (hl pins s σ H _ I h) λv J ⟨y,H1,Y,r1,q1⟩=>?_);obtain⟨a,kvs,U,rfl,e,hv,pos,q⟩:=q1;cases r1;obtain⟨z,hd,vs,Z,dd⟩:=ud Y.hok e;obtain⟨ep,da⟩:=dd.dictAt;obtain⟨h1,h2⟩:=vN (T := "dict") Y (show RelV (.ref a) (.ref a) from rfl) (.inr (.inr (.inl ⟨rfl,.inl ⟨kvs,e⟩⟩)));refine⟨"dict","dict.values",akn,akh,PySem.F.type_dict_values,h1,h2,ain rfl (ajz ?_)⟩;refine call_meetsIn akh h1 PySem.F.entry_dict_values (PySem.F.args_dict_values_1 _) (meets_dict_values (aU X.prog X.w) a hd) ⟨⟨vs,dd⟩,?_⟩;have aa:a < J.heap.objs.size:=da.lt_size;have ac:(J.heap.push { cls:=.type "dict_values",data:=.fields #[.ref a] }).DictAt (aU X.prog X.w) a vs ep:=da.at' λo e=>afB _ e;have sz:(J.heap.push { cls:=.type "dict_values",data:=.fields #[.ref a] }).objs.size=J.heap.objs.size+1:=agw ..;refine aj5 ?_;have ah:kvs.length=vs.length:=Z.length;have as:U.length=kvs.length:=by
  have:=agS List.length hv;rw[afz,afz] at this;exact this.symm
 have ad:∀ (i:Nat) (v:Value),(∃ k,vs[i]? = some (k,v))->i < U.length/\∃ t,v=.int (U.getD i 0) t:=λi v ⟨k,ek⟩=>by
  obtain⟨v',e1,r'⟩:=Z.at' ek;have e2:(kvs.map (·.2))[i]? = some v':=by rw[afF,e1];rfl
  rw[hv,afF] at e2;obtain⟨n,e3,e4⟩:=agQ.mp e2;subst e4;have e5:U.getD i 0=n:=by rw[afJ,e3];rfl
  rw[e5];exact⟨(afA.mp e3).1,r'⟩
 refine call_max_walk (wpAny_pyIter_values (s:={ J with heap:=J.heap.push { cls:=.type "dict_values",data:=.fields #[.ref a] } }) (knd:=aU X.prog X.w) (kvs:=vs) (ep:=ep) ⟨_,afK _ rfl,rfl,rfl⟩ ac ?_);have kp:∀ b o,J.heap.get? b=some o->((J.heap.push { cls:=.type "dict_values",data:=.fields #[.ref a] }).push { cls:=.type "dict_valueiterator",data:=.fields #[.ref a,.int 0 0,.int vs.length 0,.int ep 0] }).get? b=some o:=λb o e=>afB _ (afB _ e);have I2:=Y.kept (t':=J.toks) kp;have hh:X.A.in1.handled=none:=Y.ok.hd hc;refine⟨(J.heap.push { cls:=.type "dict_values",data:=.fields #[.ref a] }).objs.size,_,_,_,_,_,_,rfl,Walks.dictValues (knd:=aU X.prog X.w) hh (J.heap.push { cls:=.type "dict_values",data:=.fields #[.ref a] }).objs.size a (by rw[sz];exact afU (agr aa)) vs ep,⟨⟨_,afK _ rfl,rfl,rfl⟩,ac.at' λo e=>afB _ e⟩,λb hb=>?_,by lia,CmpOf.ints_gt (λi=>U.getD i 0) λi v e=>(ad i v e).2,λv h' tk hP hk=>?_⟩
 .show b < ((J.heap.push _).push _).objs.size;rw[agw];rcases afZ.mp hb with rfl | hb
  .exact ahk _
  .rw[afD.mp hb,sz];exact agr (agr aa)
 .obtain⟨hi,t,rfl⟩:=ad _ _ hP;obtain⟨b1,b2⟩:=argBest_gt (λi=>U.getD i 0) (vs.length - 1);refine⟨.int _,H1,?_,⟨t,rfl⟩,q _ (by rw[afJ,afx hi];exact agg _) λa ha=>by
   obtain⟨j,hj,ej⟩:=aid ha;have:=b2 j (by lia);rw[show U.getD j 0=a by rw[afJ,afx hj,ej];rfl] at this;exact this⟩
  have ge:J.heap.objs.size<=(J.heap.push { cls:=.type "dict_values",data:=.fields #[.ref a] }).objs.size:=by rw[sz];exact agV _
  have fo:=Y.fpOk ge (Y.hok.fresh ge);obtain⟨f0,f1,f2,f3,f4,f5⟩:=fo;exact I2.turned (t':=tk) (λb o hb e=>hk b o (by simpa using hb) e) f0 f1 f3 f4 f5
end
end L2
namespace L2
open PySem PySem.Spec PyProof.Rows
def rT (n:Nat):Nat:=Builtin.Int.intBits ((n:Nat):Int)
theorem aa4 (n:Nat):n < 2 ^ rT n:=by
 unfold rT Builtin.Int.intBits;by_cases e:n=0
 .subst e;decide
 .rw[if_neg (by simpa using e)];rw[Int.natAbs_natCast];exact Nat.lt_log2_self
theorem abx {n k:Nat}(h:n < 2 ^ k):rT n<=k:=by
 unfold rT Builtin.Int.intBits;by_cases e:n=0
 .subst e;exact af5 _
 .rw[if_neg (by simpa using e),Int.natAbs_natCast];have:=Nat.log2_self_le e;exact (Nat.pow_lt_pow_iff_right (by decide:1 < 2)).mp (agc this h)
section
variable {X:Cx}
theorem zE:MtR X "int.bit_length" (λx xs H Q=>∃ n:Nat,x=.int ((n:Nat):Int)/\xs=[]/\Q (.int ((rT n:Nat):Int)) H):=by
 intro pins s σ H x xs v O Q I z J h;obtain⟨n,rfl,rfl,q⟩:=h;obtain⟨t,rfl⟩:=z;cases J;exact call_int_bit_length ⟨.int _,H,I.tok _,⟨_,rfl⟩,q⟩
end
section
variable {prog:Program}{w:World}{A:Around}{E:Value->Shared->Prop}{s:Shared}
end
section
variable {X:Cx}
variable {o e:Expr}{es:List Expr}{to:TE}{t:TA}{name:Str}{apos cpos:Pos}{T id:String}{r:V->List V->Hp->VK->Prop}{ty:V->Hp->Prop}
def acV (P:Program)(w:World):V->List V->Hp->VK->Prop:=λx vs H Q=>∃ a ss z,x=.ref a/\vs=[.str z]/\H a=some (lK P w a ss)/\ss.length+1 < scanBound/\∀ ss',((z∈ss/\ss'=ss)\/(z ∉ ss/\ss'.Perm (ss++[z])))->ss'.Nodup->Q .non (upd H a (lK P w a ss'))
theorem wW:MtM X "set.add" (acV X.prog X.w):=by
 intro pins s σ H x vs v us Q I Y Z h;obtain⟨a,ss,z,rfl,rfl,e,hr,q⟩:=h;cases Y;obtain⟨u,rfl,t,rfl⟩:=Z.one;have tx:=abP I.hok e;refine ahn F.slot_set_add tx.setOf.typeIs F.entry_set_add ?_ (F.args_set_add_2 _ _);unfold Builtin.«set.add» Builtin.Frozenset.oneOther;simp only[List.isEmpty_nil,bind_assoc];unfold Builtin.Frozenset.addrOf setAdd;refine afy (afE ?_)
 try dsimp only
 refine afy (afE ?_)
 try dsimp only
 refine afy ?_;refine agF ?_;refine afy ((PySem.strKind X.prog X.w).pyHash (k:=z) ((vS rfl).mpr rfl) ?_);refine ou (s:={ s with toks:=s.toks+1 }) tx hr λh' O S J U=>?_;show wpAny _ _ (ret Value.none) _ _ _;refine afE ⟨_,rfl,.non,_,nO (t':=s.toks+1) (I.tok (s.toks+1)) (by rw[e];exact True.intro) S ?_ (ab5 J),rfl,q O U J.nd⟩;obtain⟨_,_,_,T,_⟩:=J;exact⟨_,T.get⟩
theorem aaV:aeY X (λx y H Q=>∃ p xs i v,x=.ref p/\y=.int (i:Nat)/\SqL X.K H p xs/\xs[i]? = some v/\Q v H):=by
 intro pins s σ H x y v u Q I S U h;obtain⟨p,xs,i,z,rfl,rfl,Y,O,q⟩:=h;cases S;obtain⟨t,rfl⟩:=U;obtain⟨its,r,Z,hz⟩:=I.list Y;obtain⟨w,ew,J⟩:=r.get O;have hi:i < xs.length:=(afA.mp O).1;have hn:=k9;exact wpAny_getItem_list Z.isList (by lia) (by lia) (by simpa using ew) ⟨z,H,I,J,q⟩
end
section
variable {X:Cx}{K:PySem.W.Frag}{P:Program}{w:World}
theorem j7 (z:X.K=K):OpR X (compareOp .In) (rIn K false):=by subst z;exact zG
theorem hZ:eG X (.builtin "sorted") (λxs H Q=>∃ (p:Addr) (J:List Int),xs=[.ref p]/\SqL X.K H p (J.map V.int)/\J.length < 64/\∀ (l:Addr) (z:List Int),H l=none->z.Perm J->z.Pairwise (·<=·)->Q (.ref l) (upd H l (.lst (z.map V.int)))):=by
 intro pins s σ H xs us Q I r h;obtain⟨p,J,rfl,Z,hl,q⟩:=h;obtain⟨u,rfl,rx⟩:=gz r;cases rx;obtain⟨its,U,pl,hz⟩:=I.list Z;have O:=U.length;rw[afz] at O;refine sorted_ints pl.isList (oV U) (by lia) λout z a1 Y a3=>?_;obtain⟨e,he⟩:=sortedAll_at s.heap its out;have S:z.length=J.length:=Y.length_eq;refine⟨.ref (s.heap.objs.size+1),_,I.laid (t':=s.toks) (o:=.lst (z.map V.int)) (λb o e=>sortedAll_old e) (agV _) ⟨?_,out.toList,e,jI a1,?_⟩,rfl,q _ z (I.hok.fresh (agV _)) Y a3⟩
 .rw[afz];exact ahc (afW (by lia:z.length < 64) (by decide))
 .simpa using he
end
section
variable {X:Cx}
theorem aaP {i:Nat}{x:Str}{pos' as:Pos}{ah tg iter:Expr}{ifs:List Expr}{scope:Scope}{pos:Pos}{N':List Str}{nl:Nat}{ix:List Nat}{wi:TI}{g:TG}{tf:TT}{te:TE}(hN:X.N.Nodup)(aV:X.N[i]? = some x)(hx:Loc X.env.scope x)
 (hc:X.calm=true)(S:CompScope X scope)(Cp:abK X scope N' nl ix)(hi:PI X tg iter wi)
 (hg:∀ C fp s₀ H₀,PG (X.comp scope N' C fp s₀ H₀) tg g)(hf:∀ C fp s₀ H₀,PIf (X.comp scope N' C fp s₀ H₀) ifs tf)(he:∀ C fp s₀ H₀,PE (X.comp scope N' C fp s₀ H₀) ah te)
 (aW:swapsWith (.ListComp ah [⟨tg,iter,ifs,0⟩] scope pos) (some (.Name x pos')) as.line X.env=pure true)
 (hs:∀ x,foldedSetIterable iter X.env x=pure x)(aX:X.fn x=true\/X.env.scope.names.lookup x=some .local):PS X (.Assign [.Name x pos'] (.ListComp ah [⟨tg,iter,ifs,0⟩] scope pos) as) (qR (mX nl ix wi g tf te) (bu i)):=by
 intro pins s σ H D I h;rw[exec_Assign_Name_used _ _ _ _ aW];refine afy (ag8 (afy ?_));show wpAny _ X.A (do let _ ← comprehension (.ListComp ah [⟨tg,iter,ifs,0⟩] scope pos) scope X.env _ (newList []) false (eval iter X.env) (some (assign (.Name x pos') X.env))) _ _ s;refine afy (agq (ahz (use:=some (assign (.Name x pos') X.env)) (cl:=jw X.env scope.names []) (Q:=λ_ s'=>∃ ad H',Inv X pins ad H' s'/\D.nx ad H') rfl hs (gr (S.cells I.ok)) S.kind S.loc ?_) (λ_ s' hq=>afE (afE hq)) λ_ _ e=>e);refine thn (hi pins s σ H _ I h) λv s1 h1=>thn h1 λbO O h2=>?_;obtain⟨it,fp,tn,J,H2,rfl,I2,T,av,f2,h2⟩:=h2;obtain⟨W,⟨m0,w0⟩,aD⟩:=h2 O.heap.objs.size I2.fresh;refine ahh (aiD S.nocell (by intro y hy;simp at hy) (λai aa ac=>?_) S.kind);dsimp only at aa ac ⊢;have aE:∀ b∈fp,b < O.heap.objs.size:=λb U=>by
  obtain⟨o,e,_⟩:=T.obj 0 _ av b U;exact afI e
 have I3:Inv X pins σ (upd H2 O.heap.objs.size (.lst [])) { O with heap:=O.heap.push { cls:=.type "list",data:=.seq ([]:List Value).toArray },toks:=O.toks }:=I2.lnew .nil (af5 _);have hD:(upd H2 O.heap.objs.size (.lst [])) O.heap.objs.size=some (.lst []):=af;have f3:∀ b∈fp,kA X pins (upd H2 O.heap.objs.size (.lst [])) b:=λb U=>by
  refine⟨?_,(f2 b U).2⟩;rw[ao (afU (aE b U))];exact (f2 b U).1
 generalize hS3:O.heap.push { cls:=.type "list",dict:=none,data:=.seq ([]:List Value).toArray }=Y at aa ac I3 ⊢;have aZ:Y.objs.size=O.heap.objs.size+1:=by rw[← hS3,agw]
 have au:∀ b∈fp,b < ({ O with heap:=Y,toks:=O.toks }:Shared).heap.objs.size:=λb U=>by
  show b < Y.objs.size;rw[aZ];exact agr (aE b U)
 have aw:∀ b o,Y.get? b=some o->ai.get? b=some o:=λb o e=>ac.extBut b o (afU (afI e)) (afB _ e);have I4:=lR (tk:=O.toks+([]:List (Str×Value)).length) S Cp I3 f3 au aa aw;generalize hX:X.comp scope N' Y.objs.size fp { O with heap:=Y,toks:=O.toks } (upd H2 O.heap.objs.size (.lst []))=Z at *;have aj:Z.prog=X.prog:=by rw[← hX];rfl
 have ak:Z.w=X.w:=by rw[← hX];rfl
 have aF:Z.K=X.K:=by rw[← hX];rfl
 have a0:Z.A=X.A:=by rw[← hX];rfl
 have aG:Z.calm=true:=by rw[← hX];exact hc
 have aq:Z.xe=λ_ _=>False:=by rw[← hX];rfl
 have ax:Z.ex=fp:=by rw[← hX];rfl
 have a1:Z.pn=[]:=by rw[← hX];rfl
 have ay:Z.env.locals=Y.objs.size:=by rw[← hX];rfl
 have a2:Z.env=compEnvC scope (jw X.env scope.names []) Y.objs.size X.env:=by rw[← hX];rfl
 have aH:=hg Y.objs.size fp { O with heap:=Y,toks:=O.toks } (upd H2 O.heap.objs.size (.lst []));have aI:=hf Y.objs.size fp { O with heap:=Y,toks:=O.toks } (upd H2 O.heap.objs.size (.lst []));have aJ:=he Y.objs.size fp { O with heap:=Y,toks:=O.toks } (upd H2 O.heap.objs.size (.lst []));rw[hX] at aH aI aJ;have az:Inv Z [] (bM nl ix σ) (upd H2 O.heap.objs.size (.lst [])) { O with heap:=ai,toks:=O.toks+([]:List (Str×Value)).length }:=I4;have aK:∀ {H':Hp} {ad:St} {pins':List (Addr×Obj)} {s':Shared} {h':Heap},Inv Z pins' ad H' s'->Heap.SameBut Y.objs.size s'.heap h'->Inv X pins σ H' { s' with heap:=h' }:=λI' sb=>by
  subst hX;exact jX I3 f3 I' sb
 have al:∀ {H':Hp},(∀ b∈fp,H' b=none)->∀ b∈fp,kA Z [] H' b:=λhn b U=>by
  refine⟨hn b U,?_,?_,.inl (by rw[ax];exact U),?_,λp hp=>by rw[a1] at hp;cases hp⟩
  .rw[ay];exact afU (au b U)
  .exact az.ok.exfs b (by rw[ax];exact U)
  .exact (az.ok.exf b (by rw[ax];exact U)).2
 have am:codeAny (model X.prog X.w) X.A (.compLoop (.ListComp ah [⟨tg,iter,ifs,0⟩] scope pos) 0 (.ref it) (.ref O.heap.objs.size) Z.env)
  (compPost (model X.prog X.w) X.A X.xe (some (assign (.Name x pos') X.env)) (λ_ s'=>∃ ad H',Inv X pins ad H' s'/\D.nx ad H') (.ref O.heap.objs.size) Y.objs.size) { O with heap:=ai,toks:=O.toks+([]:List (Str×Value)).length }:=by
  rw[← aj,← ak,← a0];refine j9 (λn s'=>∃ i ys H',Inv Z [] (bM nl ix σ) H' s'/\tn i s'.heap/\(∀ b∈fp,H' b=none)/\W i n ys H') ?_ m0
   ⟨0,[],_,az,T.keep _ _ _ av (λb U o e=>aw b o (by rw[← hS3];exact afB _ e)),λb U=>(f3 b U).1,w0⟩
  rintro n s5 ⟨i,ys,H5,I5,aL,aM,w5⟩;obtain⟨bV,a3⟩:=aD i n ys H5 w5;rcases a3 with ⟨aN,qn⟩ | ⟨go,step⟩
  .rw[aj,ak];refine thn (T.done Z aj ak aF aG i [] s5 _ H5 _ I5 (al aM) aL aN) λr s6 ⟨hr,I6⟩=>?_;subst hr;obtain⟨m,hn,_⟩:=I6.loc;rw[ay] at hn;have I7:Inv X pins σ H5 s6:=aK I6 (akd _ _);have nC:H5 Y.objs.size=none:=by
    have:=I6.free;rw[ay] at this;exact this
   have fC:kA X pins H5 Y.objs.size:=I3.fpOk (afG _) nC;show wpAny _ _ (assign (.Name x pos') X.env (.ref O.heap.objs.size)) _ _ _;refine wpAny_assign_Name (sf I7 hN aV hx (v:=.ref O.heap.objs.size) rfl (λs8 I8 ⟨a8,bb,bc⟩=>?_) aX);have bd:Y.objs.size≠a8:=by
    rcases bc with z | z
    .rw[z];exact fC.2.1
    .exact λq=>fC.2.2.2.2.1 x a8 z q.symm
   refine⟨m,hn.sameBut bb bd,λh' sb=>⟨_,H5,?_,qn⟩⟩;exact I8.turnedL (t':=s8.toks) (fp:=[Y.objs.size]) (λb o U e=>(sb.2 b (λz=>U (by rw[z];exact afD.mpr rfl))).trans e) (λb U=>by rw[afD.mp U];exact fC)
  .have aO:=T.item Z aj ak aF aG i [] s5 _ H5 (λ_ _=>False) I5 (al aM) aL go;rw[← aj,← ak] at aO;refine thn aO λr s6 ⟨u,hr,h6⟩=>?_;subst hr;refine thn h6 λ_ s7 ⟨x,H7,I7,r7,y7,aB,be⟩=>?_;have bf:=I7.pinned (al be) (T.obj _ _ aB);have g7:=aH _ s7 _ H7 x u _ bf r7 (step x H7 y7);rw[aq] at g7;refine thn g7 λ_ s8 ⟨ar,H8,I8,⟨bg,bh⟩,q8⟩=>?_;have f8:=aI _ s8 ar H8 _ I8 q8;rw[aq] at f8;refine thn f8 λok s9 ⟨H9,I9,q9⟩=>?_;have an:∀ {ae:Hp} {ag:Shared} {aC:List V},Inv Z ([]++f7 fp s7.heap) ar ae ag->(∃ m',m' < n/\W (i+1) m' aC ae)->∃ m,m < n/\∃ i ys H',Inv Z [] (bM nl ix σ) H' ag/\tn i ag.heap/\(∀ b∈fp,H' b=none)/\W i m ys H':=fun {ae ag aC} ap ⟨m',hm,w'⟩=>by
    refine⟨m',hm,i+1,aC,ae,hV ap.unpinned bg bh,T.keep _ _ _ aB λb U o e=>(ap.pin (b,o) (afQ _ (afQ _ (bo U e)))).1,λb U=>?_,w'⟩;obtain⟨o,e,d⟩:=T.obj _ _ aB b U;exact (ap.pin (b,o) (afQ _ (afQ _ (bo U e)))).2.1
   cases ok with
   | false =>
    rw[if_neg afC] at q9 ⊢;exact an I9 q9
   | true =>
    rw[if_pos rfl] at q9 ⊢;have e9:=aJ _ s9 ar H9 _ I9 q9;rw[aq] at e9;refine thn e9 λxv ag ⟨y,ae,ap,bi,aP,hz,mw⟩=>?_;have aQ:=cx (X:=Z) _ ag ar ae (.ref O.heap.objs.size) [y] _ [xv] (λ_ H'=>H'=upd ae O.heap.objs.size (.lst (ys++[y]))) ap rfl (.cons bi .nil) ⟨_,ys,y,rfl,rfl,aP,hz,rfl⟩;rw[aq] at aQ;refine thn aQ λ_ cb ⟨_,cc,bj,_,bk⟩=>?_;subst bk;exact an bj mw
 rw[a2] at am;exact ai4 am (T.self _ 0 _ _ _ (T.keep _ _ _ av (λb U o e=>aw b o (by rw[← hS3];exact afB _ e))) am)
theorem iH {i:Nat}{x:Str}{pos' z:Pos}{J tg iter:Expr}{ifs:List Expr}{outer scope:Scope}{pos:Pos}{N N':List Str}{nl:Nat}{ix:List Nat}{wi:TI}{g:TG}{tf:TT}{te:TE}(hN:X.N.Nodup)(O:X.N[i]? = some x)(hx:Loc X.env.scope x)
 (h1:X.env.scope=outer)(h2:X.N=N)(hc:X.calm=true)(hi:PI X tg iter wi)
 (hg:∀ C fp s₀ H₀,PG (X.comp scope N' C fp s₀ H₀) tg g)(hf:∀ C fp s₀ H₀,PIf (X.comp scope N' C fp s₀ H₀) ifs tf)(he:∀ C fp s₀ H₀,PE (X.comp scope N' C fp s₀ H₀) J te)
 (U:swapsWith (.ListComp J [⟨tg,iter,ifs,0⟩] scope pos) (some (.Name x pos')) z.line X.env=pure true:=by rfl)
 (Y:jO outer scope N N' nl ix=true:=by decide +kernel)(hs:∀ x,foldedSetIterable iter X.env x=pure x:=by intro _;rfl)(Z:X.fn x=true\/X.env.scope.names.lookup x=some .local:=by first | exact .inl rfl | exact .inr rfl | assumption) :
 PS X (.Assign [.Name x pos'] (.ListComp J [⟨tg,iter,ifs,0⟩] scope pos) z) (qR (mX nl ix wi g tf te) (bu i)) :=
 let ⟨S,Cp⟩:=jq h1 h2 Y
 aaP hN O hx hc S Cp hi hg hf he U hs Z
end
section
variable {X:Cx}{K:PySem.W.Frag}{P:Program}{w:World}
end
section
variable {X:Cx}
end
section
variable {prog:Program}{w:World}{A:Around}{E:Value->Shared->Prop}
end
section
variable {X:Cx}
end
section
variable {P:Program}{w:World}{K:PySem.W.Frag}{mg:Str->Option Value}{base:Heap}
end
section
variable {X:Cx}
def ae8 (K:PySem.W.Frag)(te tk:TE):TE:=λσ H Q=>te σ H λx H1=>tk σ H1 λy H2=>y=.int (-1)/\∃ a xs,x=.ref a/\SqL K H2 a xs/\∀ p,H2 p=none->Q (.ref p) (upd H2 p (.lst xs.reverse))
theorem Vals.rev:∀ {xs:List V} {us:List Value},Vals xs us->Vals xs.reverse us.reverse
 | _,_,.nil=>.nil
 | _,_,.cons a b=>by
  rw[List.reverse_cons,List.reverse_cons];exact (Vals.rev b).append (.cons a .nil)
end
section
variable {prog:Program}{w:World}{A:Around}{E:Value->Shared->Prop}{s:Shared}
def pr:Nat->List Value->List (Key×Value)
 | _,[]=>[]
 | k,v::r=>(.inl (k:Int),v)::pr (k+1) r
end
section
variable {prog:Program}{w:World}{A:Around}{R:Result->Shared->Prop}
end
section
variable {prog:Program}{w:World}{A:Around}{E:Value->Shared->Prop}{s:Shared}
end
section
variable {X:Cx}
end
section
variable {prog:Program}{w:World}{A:Around}{E:Value->Shared->Prop}{s:Shared}
end
section
variable {prog:Program}{w:World}{A:Around}{R:Result->Shared->Prop}
end
section
variable {prog:Program}{w:World}{A:Around}{E:Value->Shared->Prop}{s:Shared}
end
def wI (ta:TA):TE:=λσ H Q=>ta σ H λxs H1=>∃ n:Nat,xs=[.int (n:Int)]/\n<=1000000/\∀ l,H1 l=none->Q (.ref l) (upd H1 l (.lst ((List.range n).map λi=>V.int (i:Nat))))
section
variable {X:Cx}
theorem abo:bootBuiltins "zip" = some (.type "zip"):=by decide +kernel
theorem wB:bootBuiltins "list" = some (.type "list"):=by decide +kernel
theorem pE:∀ {its:List Value} {m:Nat},(∀ (j:Nat) v,its[j]? = some v->∃ t,v=.int (((m+j:Nat):Int)) t)->Vals ((List.range' m its.length).map λi=>V.int (i:Nat)) its
 | [],_,_=>.nil
 | u::us,m,h=>by
  rw[age,List.range'_succ,af0];refine .cons ?_ (pE (m:=m+1) λj v e=>?_)
  .obtain⟨t,rfl⟩:=h 0 u rfl;exact⟨t,rfl⟩
  .obtain⟨t,rfl⟩:=h (j+1) v (by simpa using e);exact⟨t,by rw[show m+1+j=m+(j+1) by lia]⟩
theorem tG {a:Expr}{ta:TA}{p p2 pos J:Pos}(U:Gl X "list")(hm:X.mg "list" = none)(Y:Gl X "range")(Z:X.mg "range" = none)(hc:X.calm=true)(ha:PA X [a] ta)(aa:starEach [a] X.env=[(false,eval a X.env)]:=by rfl)
 (hs:starEach [.Call (.Name "range" p2) [a] [] J] X.env=[(false,eval (.Call (.Name "range" p2) [a] [] J) X.env)]:=by rfl):PE X (.Call (.Name "list" p) [.Call (.Name "range" p2) [a] [] J] [] pos) (wI ta):=by
 intro pins s σ H Q I h;refine Call_ (jf I U hm wB (agU ?_ hs rfl));rw[hs];show wpAny _ _ (spliced [(false,eval _ X.env)]) _ _ s;refine ajO ?_;refine Call_ (jf I Y Z boot_range (agU (thn (ha J pins s σ H _ I h) λus O ⟨vs,H1,I1,r1,q1⟩=>?_) aa rfl));obtain⟨n,e,hn,q⟩:=q1;subst e;obtain⟨u,rfl,t,rfl⟩:=gz r1;refine call_range_1 ?_;refine aj5 ?_;have I2:Inv X pins σ H1 { O with heap:=O.heap.push { cls:=.type "range",data:=.fields #[.int 0 O.toks,.int n t,.int 1 (O.toks+1)] },toks:=O.toks+1+1 }:=I1.kept λb o e=>afB _ e;refine call_list_range (n:=n) (I1.ok.hd hc) (IsRange.new ..) (small_one (by lia) (by lia) (by lia) (by lia)) (by rw[rangeSize_one];split<;>lia) (by lia) λh' tk S c k U it=>?_;refine⟨.ref _,_,I2.laid (t':=tk) (o:=.lst ((List.range n).map λi=>V.int (i:Nat))) k (afG _) ?_,rfl,q _ (I2.hok.fresh (afG _))⟩;obtain⟨i1,i2⟩:=it;refine⟨by rw[afz,agK];exact afR hn (by decide),S.toList,c,?_,by simpa using U⟩;have z:=pE (its:=S.toList) (m:=0) λj v e=>by
  obtain⟨t',rfl⟩:=i2 j v (by simpa using e);exact⟨t',by simp⟩
 rw[afO,i1,← List.range_eq_range'] at z;exact z
end
theorem aaq {K:PySem.W.Frag}{nl:Nat}{ix:List Nat}{te:TE}{σ:St}{H1:Hp}{D a:Addr}{Q:VK}{xs:List V}{F:V->V}(S:H1 a=some (.lst xs))(O:H1 D=none)(hl:xs.length<=1000000)
 (U:∀ x,((bM nl ix σ).set 0 (some x)).drop nl=ix.map λj=>(σ[j]?).join)
 (Y:∀ (H:Hp) (x:V) (R:VK),x∈xs->Same H1 H->R (F x) H->te ((bM nl ix σ).set 0 (some x)) H R)
 (Z:∀ H,Same H1 H->H D=some (.lst (xs.map F))->Q (.ref D) H):gi nl ix (bu 0) uI te σ (Itl K a) H1 D Q:=by
 have aa:1000000 < sizeLine:=by decide
 refine cN (xs:=xs) (λi ys H=>ys=(xs.take i).map F/\H D=some (.lst ys)/\Same H1 H) ⟨rfl,af,λb u e=>by rw[ao (aj e O)];exact e⟩ (λi ys H ⟨_,h,_⟩=>h) (λi ys H ⟨_,_,s⟩=>aAA (s a _ S)) ?_ ?_
 .rintro i ys H x J ⟨rfl,z,s⟩;have hi:i < xs.length:=(afA.mp J).1;refine dy (U x) (Y H x _ (afP J) s ⟨z,by rw[afz,af7];lia,nx hi ⟨?_,af,λb u e=>?_⟩⟩)
  .rw[agh,J,afY]
   rfl
  .rw[ao (aj e O)];exact s b u e
 .rintro ys H ⟨rfl,z,s⟩;rw[agm] at z;exact Z H s z
end L2
namespace L2
open PySem PySem.Spec PyProof.Rows PySem.W
def aek (A:Around)(neg:Bool):R2:=λx y H Q=>∃ (ds:List PyData) (d:PyData),Sees H y (.list ds)/\Sees H x d/\PyData.canLayAll0 ds=true/\d.canLay0=true/\A.units+1+min (PyData.depthAll ds) d.depth < cLine/\Q (.bl (if neg then !(ds.any λz=>z.eqv d) else ds.any λz=>z.eqv d)) H
section
variable {X:Cx}
theorem mL:OpR X (compareOp .NotIn) (aek X.A true):=by
 intro pins s σ H x y v u Q I z J h;obtain⟨ds,d,O,sb,S,U,Y,q⟩:=h;obtain⟨_,Z⟩:=O.reads I.hok J;obtain⟨_,rb⟩:=sb.reads I.hok z;exact SeqAt.notIn_list_reads Z rb S U Y ⟨.bl _,H,I,rfl,q⟩
theorem ad5:OpR X (compareOp .In) (aek X.A false):=by
 intro pins s σ H x y v u Q I z J h;obtain⟨ds,d,O,sb,S,U,Y,q⟩:=h;obtain⟨_,Z⟩:=O.reads I.hok J;obtain⟨_,rb⟩:=sb.reads I.hok z;exact SeqAt.in_list_reads Z rb S U Y ⟨.bl _,H,I,rfl,q⟩
end
theorem sI {nl:Nat}{ix:List Nat}{g:TG}{tf:TT}{te:TE}{σ:St}{H1:Hp}{D:Addr}{Q:VK}(Pv:Nat->List V->Hp->Prop){a:Addr}{o:Obj}{kvs:List (Key×V)}(O:Pv 0 [] (upd H1 D (.lst [])))(S:∀ i ys H,Pv i ys H->H D=some (.lst ys))(J:∀ i ys H,Pv i ys H->H a=some (.frz o (.dK kvs)))
 (U:∀ i ys H k v,kvs[i]? = some (k,v)->Pv i ys H->bQ nl ix g tf te σ D ys H (kV k) λz H'=>Nx kvs.length i (Pv (i+1) z H'))(Y:∀ ys H,Pv kvs.length ys H->Q (.ref D) H):gi nl ix g tf te σ (ItK a o kvs) H1 D Q:=by
 refine nj (n:=kvs.length) Pv O S (λi ys H hi p=>⟨hi,J i ys H p⟩) (λys H p=>⟨rfl,J _ ys H p⟩) (λi ys H x H' hi p y=>?_) Y;obtain⟨e,k,v,y,ex⟩:=y;subst e ex;exact U i ys _ k v y p
end L2
namespace L2
open PySem PySem.Spec PyProof.Rows
theorem dD {K:PySem.W.Frag}{nl:Nat}{ix:List Nat}{te:TE}{σ:St}{H1:Hp}{D a:Addr}{Q:VK}{xs:List V}{F:V->V}(S:H1 a=some (.lst xs))(O:H1 D=none)(hl:xs.length<=1000000)
 (U:∀ x,((bM nl ix σ).set 0 (some x)).drop nl=ix.map λj=>(σ[j]?).join)
 (Y:∀ (H:Hp) (x:V) (R:VK),x∈xs->Same H1 H->(∀ H',Same H H'->R (F x) H')->te ((bM nl ix σ).set 0 (some x)) H R)
 (Z:∀ H,Same H1 H->H D=some (.lst (xs.map F))->Q (.ref D) H):gi nl ix (bu 0) uI te σ (Itl K a) H1 D Q:=by
 have aa:1000000 < sizeLine:=by decide
 refine cN (xs:=xs) (λi ys H=>ys=(xs.take i).map F/\H D=some (.lst ys)/\Same H1 H) ⟨rfl,af,λb u e=>by rw[ao (aj e O)];exact e⟩ (λi ys H ⟨_,h,_⟩=>h) (λi ys H ⟨_,_,s⟩=>aAA (s a _ S)) ?_ ?_
 .rintro i ys H x J ⟨rfl,z,s⟩;have hi:i < xs.length:=(afA.mp J).1;refine dy (U x) (Y H x _ (afP J) s λH' s'=>⟨s' _ _ z,by rw[afz,af7];lia,nx hi ⟨?_,af,λb u e=>?_⟩⟩)
  .rw[agh,J,afY]
   rfl
  .rw[ao (aj e O)];exact s' _ _ (s b u e)
 .rintro ys H ⟨rfl,z,s⟩;rw[agm] at z;exact Z H s z
theorem yy {K:PySem.W.Frag}{nl:Nat}{ix:List Nat}{tf:TT}{te:TE}{σ:St}{H1:Hp}{D a:Addr}{Q:VK}{xs:List V}{F:V->V}{pb:V->Bool}(ha:H1 a=some (.lst xs))(S:H1 D=none)(hl:xs.length<=1000000)
 (hc:∀ x,((bM nl ix σ).set 0 (some x)).drop nl=ix.map λj=>(σ[j]?).join)
 (ht:∀ (H:Hp) (x:V) (R:Bool->Hp->Prop),x∈xs->Same H1 H->(∀ H',Same H H'->R (pb x) H')->tf ((bM nl ix σ).set 0 (some x)) H R)
 (he:∀ (H:Hp) (x:V) (R:VK),x∈xs->pb x=true->Same H1 H->(∀ H',Same H H'->R (F x) H')->te ((bM nl ix σ).set 0 (some x)) H R)
 (hd:∀ H,Same H1 H->H D=some (.lst ((xs.filter pb).map F))->Q (.ref D) H):gi nl ix (bu 0) tf te σ (Itl K a) H1 D Q:=by
 have J:1000000 < sizeLine:=by decide
 refine cN (xs:=xs) (λi ys H=>ys=((xs.take i).filter pb).map F/\H D=some (.lst ys)/\Same H1 H) ⟨rfl,af,λb u e=>by rw[ao (aj e S)];exact e⟩ (λi ys H ⟨_,h,_⟩=>h) (λi ys H ⟨_,_,s⟩=>aAA (s a _ ha)) ?_ ?_
 .rintro i ys H x O ⟨rfl,z,s⟩;have hi:i < xs.length:=(afA.mp O).1;have U:=afP O;refine jC (hc x) (ht H x _ U s λH' s'=>?_);have Y:xs.take (i+1)=xs.take i++[x]:=by rw[agh,O];rfl
  cases hb:pb x with
  | true =>
   refine dt (he H' x _ U hb (s.trans s') λH2 Z=>⟨Z _ _ (s' _ _ z),?_,nx hi ⟨?_,af,λb u e=>?_⟩⟩)
   .rw[afz];exact agc (afR (agv _ _) (by rw[af7];lia)) J
   .rw[Y,agd,afY,agM,if_pos hb]
    rfl
   .rw[ao (aj e S)];exact Z _ _ (s' _ _ (s b u e))
  | false =>
   refine cu (nx hi ⟨?_,s' _ _ z,s.trans s'⟩);rw[Y,agd,agM,if_neg (by rw[hb];exact afC),aix,agl]
 .rintro ys H ⟨rfl,z,s⟩;rw[agm] at z;exact hd H s z
theorem wG {nl:Nat}{ix:List Nat}{tf:TT}{te:TE}{σ:St}{H1:Hp}{D a:Addr}{o:Obj}{kvs:List (Key×V)}{Q:VK}{F:Key->V}{pb:Key->Bool}(ha:H1 a=some (.frz o (.dK kvs)))(O:H1 D=none)(hl:kvs.length<=1000000)
 (hc:∀ x,((bM nl ix σ).set 0 (some x)).drop nl=ix.map λj=>(σ[j]?).join)
 (ht:∀ (H:Hp) (k:Key) (R:Bool->Hp->Prop),k∈kvs.map (·.1)->Same H1 H->(∀ H',Same H H'->R (pb k) H')->tf ((bM nl ix σ).set 0 (some (kV k))) H R)
 (he:∀ (H:Hp) (k:Key) (R:VK),k∈kvs.map (·.1)->pb k=true->Same H1 H->(∀ H',Same H H'->R (F k) H')->te ((bM nl ix σ).set 0 (some (kV k))) H R)
 (hd:∀ H,Same H1 H->H D=some (.lst (((kvs.map (·.1)).filter pb).map F))->Q (.ref D) H):gi nl ix (bu 0) tf te σ (ItK a o kvs) H1 D Q:=by
 have J:1000000 < sizeLine:=by decide
 refine sI (λi ys H=>ys=(((kvs.map (·.1)).take i).filter pb).map F/\H D=some (.lst ys)/\Same H1 H) ⟨rfl,af,λb u e=>by rw[ao (aj e O)];exact e⟩ (λi ys H ⟨_,h,_⟩=>h) (λi ys H ⟨_,_,s⟩=>s a _ ha) ?_ ?_
 .rintro i ys H k v S ⟨rfl,z,s⟩;have hi:i < kvs.length:=(afA.mp S).1;have U:(kvs.map (·.1))[i]? = some k:=by rw[afF,S];rfl
  have Y:=afP U;refine jC (hc _) (ht H k _ Y s λH' s'=>?_);have Z:(kvs.map (·.1)).take (i+1)=(kvs.map (·.1)).take i++[k]:=by rw[agh,U];rfl
  cases hb:pb k with
  | true =>
   refine dt (he H' k _ Y hb (s.trans s') λH2 s2=>⟨s2 _ _ (s' _ _ z),?_,nx hi ⟨?_,af,λb u e=>?_⟩⟩)
   .rw[afz];exact agc (afR (agv _ _) (by rw[af7,afz];lia)) J
   .rw[Z,agd,afY,agM,if_pos hb]
    rfl
   .rw[ao (aj e O)];exact s2 _ _ (s' _ _ (s b u e))
  | false =>
   refine cu (nx hi ⟨?_,s' _ _ z,s.trans s'⟩);rw[Z,agd,agM,if_neg (by rw[hb];exact afC),aix,agl]
 .rintro ys H ⟨rfl,z,s⟩;rw[agR (by rw[afz];exact afG _)] at z;exact hd H s z
theorem tV {nl:Nat}{ix:List Nat}{tk tv:TE}{σ:St}{H1:Hp}{D a:Addr}{o:Obj}{kvs:List (Key×V)}{Q:VK}{F:Key->V}(Y:H1 a=some (.frz o (.dK kvs)))(nd:(kvs.map (·.1)).Nodup)(Z:H1 D=none)(hl:kvs.length<=1000000)
 (hc:∀ x,((bM nl ix σ).set 0 (some x)).drop nl=ix.map λj=>(σ[j]?).join)
 (hk:∀ (H:Hp) (k:Key) (R:VK),R (kV k) H->tk ((bM nl ix σ).set 0 (some (kV k))) H R)
 (hv:∀ (H:Hp) (k:Key) (R:VK),k∈kvs.map (·.1)->Same H1 H->(∀ H',Same H H'->R (F k) H')->tv ((bM nl ix σ).set 0 (some (kV k))) H R)
 (hd:∀ H,Same H1 H->H D=some (.dK (kvs.map λp=>(p.1,F p.1)))->Q (.ref D) H):rJ nl ix (bu 0) uI tk tv σ (ItK a o kvs) H1 D Q:=by
 have ai:1000000 < sizeLine:=by decide
 refine yu (n:=kvs.length) (λi ys H=>ys=(kvs.take i).map (λp=>(p.1,F p.1))/\H D=some (.dK ys)/\Same H1 H) ⟨rfl,af,λb u e=>by rw[ao (aj e Z)];exact e⟩ (λi ys H ⟨_,h,_⟩=>h) (λi ys H hi ⟨_,_,s⟩=>⟨hi,s a _ Y⟩) (λys H ⟨_,_,s⟩=>⟨rfl,s a _ Y⟩) ?_ ?_
 .rintro i ys H x H' hi ⟨rfl,S,s⟩ ⟨e,k,v,hx,ex⟩;subst e ex;have J:(kvs.map (·.1))[i]? = some k:=by rw[afF,hx];rfl
  refine o4 (hc _) (hk _ k _ (hv _ k _ (afP J) s λH2 s2=>⟨k,rfl,s2 _ _ S,by rw[afz,af7];lia,nx hi ⟨?_,af,λb u e=>?_⟩⟩))
  .have no:gG ((kvs.take i).map λp=>(p.1,F p.1)) k=none:=by
    rw[← ajo,← gN];intro z;obtain⟨q,hq,e⟩:=aho.mp z;obtain⟨r,hr,rfl⟩:=afL.mp hq;have ek:r.1=k:=by simpa using e
    obtain⟨j,U⟩:=agp hr;rw[ahT] at U;split at U
    .rename_i lt;have O:(kvs.map (·.1))[j]? = some k:=by rw[afF,U];show some r.1=_;rw[ek]
     have:=(ajb (afA.mp O).1 nd).mp (O.trans J.symm);lia
    .cases U
   rw[vT _ no,agh,hx,afY]
   rfl
  .rw[ao (aj e Z)];exact s2 _ _ (s b u e)
 .rintro ys H ⟨rfl,S,s⟩;rw[agm] at S;exact hd H s S
theorem wX {nl:Nat}{ix:List Nat}{tk tv:TE}{tf:TT}{σ:St}{D:Addr}{ys:List (Key×V)}{H:Hp}{x:V}{J:List (Key×V)->Hp->Prop}{i:Nat}(h1:((bM nl ix σ).set i (some x)).drop nl=ix.map λj=>(σ[j]?).join)
 (h:tf ((bM nl ix σ).set i (some x)) H λb O=>if b=true then tk ((bM nl ix σ).set i (some x)) O λz U=>tv ((bM nl ix σ).set i (some x)) U λy S=>∃ k:Key,z=kV k/\S D=some (.dK ys)/\ys.length < sizeLine/\J (j6 ys k y) (upd S D (.dK (j6 ys k y))) else J ys O):fG nl ix (bu i) tf tk tv σ D ys H x J:=by
 unfold fG bu;dsimp only;exact⟨⟨by simp,h1⟩,h⟩
theorem yo {ks:List Key}{pb:Key->Bool}{F:Key->V}{i:Nat}{k:Key}(nd:ks.Nodup)(e:ks[i]? = some k):(pb k=true->j6 (((ks.take i).filter pb).map λk=>(k,F k)) k (F k)=((ks.take (i+1)).filter pb).map λk=>(k,F k))/\(pb k=false->((ks.take i).filter pb).map (λk=>(k,F k))=((ks.take (i+1)).filter pb).map λk=>(k,F k)):=by
 have O:ks.take (i+1)=ks.take i++[k]:=by rw[agh,e];rfl
 constructor
 .intro h;have S:gG (((ks.take i).filter pb).map λk=>(k,F k)) k=none:=by
   rw[← ajo,← gN];intro z;obtain⟨q,U,Y⟩:=aho.mp z;obtain⟨r,Z,rfl⟩:=afL.mp U;have ek:r=k:=by simpa using Y
   subst ek;obtain⟨j,J⟩:=agp (agi.mp Z).1;rw[ahT] at J;split at J
   .rename_i lt;have:=(ajb (afA.mp J).1 nd).mp (J.trans e.symm);lia
   .cases J
  rw[vT _ S,O,agd,afY,agM,if_pos h]
  rfl
 .intro h;rw[O,agd,agM,if_neg (by rw[h];exact afC),aix,agl]
section
variable {nl:Nat}{ix:List Nat}{tf:TT}{tk tv:TE}{σ:St}{H1:Hp}{D a:Addr}{Q:VK}{F:Key->V}{pb:Key->Bool}{ks:List Key}
theorem t9 {K:PySem.W.Frag}(ha:H1 a=some (.lst (ks.map kV)))(nd:ks.Nodup)(U:H1 D=none)(hl:ks.length<=1000000)
 (hc:∀ x,((bM nl ix σ).set 0 (some x)).drop nl=ix.map λj=>(σ[j]?).join)
 (ht:∀ (H:Hp) (k:Key) (R:Bool->Hp->Prop),k∈ks->Same H1 H->(∀ H',Same H H'->R (pb k) H')->tf ((bM nl ix σ).set 0 (some (kV k))) H R)
 (hk:∀ (H:Hp) (k:Key) (R:VK),R (kV k) H->tk ((bM nl ix σ).set 0 (some (kV k))) H R)
 (hv:∀ (H:Hp) (k:Key) (R:VK),k∈ks->pb k=true->Same H1 H->(∀ H',Same H H'->R (F k) H')->tv ((bM nl ix σ).set 0 (some (kV k))) H R)
 (hd:∀ H,Same H1 H->H D=some (.dK ((ks.filter pb).map λk=>(k,F k)))->Q (.ref D) H):rJ nl ix (bu 0) tf tk tv σ (Itl K a) H1 D Q:=by
 have S:1000000 < sizeLine:=by decide
 refine pP (xs:=ks.map kV) (λi ys H=>ys=((ks.take i).filter pb).map (λk=>(k,F k))/\H D=some (.dK ys)/\Same H1 H) ⟨rfl,af,λb u e=>by rw[ao (aj e U)];exact e⟩ (λi ys H ⟨_,h,_⟩=>h) (λi ys H ⟨_,_,s⟩=>aAA (s a _ ha)) ?_ ?_
 .rintro i ys H x Y ⟨rfl,J,s⟩;rw[afF] at Y;obtain⟨k,z,rfl⟩:=agQ.mp Y;have hi:i < (ks.map kV).length:=by rw[afz];exact (afA.mp z).1
  have Z:=afP z;obtain⟨n1,n2⟩:=yo (pb:=pb) (F:=F) nd z;refine wX (hc _) (ht _ k _ Z s λH5 O=>?_);cases hb:pb k with
  | true =>
   refine dt (hk _ k _ (hv _ k _ Z hb (s.trans O) λH2 s2=>⟨k,rfl,s2 _ _ (O _ _ J),?_,nx hi ⟨n1 hb,af,λb u e=>?_⟩⟩))
   .rw[afz];exact agc (afR (agv _ _) (by rw[af7];lia)) S
   .rw[ao (aj e U)];exact s2 _ _ (O _ _ (s b u e))
  | false=>exact cu (nx hi ⟨n2 hb,O _ _ J,s.trans O⟩)
 .rintro ys H ⟨rfl,J,s⟩;rw[agR (by rw[afz];exact afG _)] at J;exact hd H s J
end
structure RelL {α:Type}(F:α->List V)(H0 H:Hp)(D:Addr)(ys:List V)(ks:List α):Prop where
 len:ys.length=ks.length
 at_:∀ (j:Nat) y k,ys[j]? = some y->ks[j]? = some k->∃ b:Addr,y=.ref b/\H b=some (.lst (F k))/\b≠D/\H0 b=none
theorem RelL.nil {α:Type}{F:α->List V}{z H:Hp}{D:Addr}:RelL F z H D [] ([]:List α):=⟨rfl,λj y k e=>nomatch e⟩
theorem RelL.same {α:Type}{F:α->List V}{z H H':Hp}{D:Addr}{ys:List V}{ks:List α}(r:RelL F z H D ys ks)(s:∀ b u,b≠D->H b=some u->H' b=some u):RelL F z H' D ys ks :=
 ⟨r.len,λj y k a b=>let ⟨c,e,h,n⟩:=r.at_ j y k a b;⟨c,e,s _ _ n.1 h,n⟩⟩
theorem RelL.snoc {α:Type}{F:α->List V}{z H:Hp}{D b:Addr}{ys:List V}{ks:List α}{k:α}(r:RelL F z H D ys ks)(h:H b=some (.lst (F k)))(n:b≠D/\z b=none):RelL F z H D (ys++[.ref b]) (ks++[k]):=by
 refine⟨by rw[afH,afH,r.len];rfl,λj y x a c=>?_⟩;have S:=r.len;by_cases J:j < ys.length
 .rw[agj J] at a;rw[agj (by lia)] at c;exact r.at_ j y x a c
 .have O:=(afA.mp a).1;rw[afH,af1] at O;rw[af8 (by lia),show j - ys.length=0 by lia] at a;rw[af8 (by lia),show j - ks.length=0 by lia] at c;cases a;cases c;exact⟨b,rfl,h,n⟩
section
variable {nl:Nat}{ix:List Nat}{tf:TT}{te:TE}{σ:St}{H1:Hp}{D a:Addr}{Q:VK}
theorem xt {o:Obj}{kvs:List (Key×V)}{pb:Key->Bool}{F:Key->List V}(ha:H1 a=some (.frz o (.dK kvs)))(Z:H1 D=none)(hl:kvs.length<=1000000)
 (hc:∀ x,((bM nl ix σ).set 0 (some x)).drop nl=ix.map λj=>(σ[j]?).join)
 (ht:∀ (H:Hp) (k:Key) (R:Bool->Hp->Prop),k∈kvs.map (·.1)->Same H1 H->(∀ H',Same H H'->R (pb k) H')->tf ((bM nl ix σ).set 0 (some (kV k))) H R)
 (he:∀ (H:Hp) (k:Key) (R:VK),k∈kvs.map (·.1)->pb k=true->Same H1 H->(∀ (b:Addr) H',Same H H'->H b=none->H' b=some (.lst (F k))->R (.ref b) H')->te ((bM nl ix σ).set 0 (some (kV k))) H R)
 (hd:∀ ys H,Same H1 H->H D=some (.lst ys)->RelL F H1 H D ys ((kvs.map (·.1)).filter pb)->Q (.ref D) H):gi nl ix (bu 0) tf te σ (ItK a o kvs) H1 D Q:=by
 have U:1000000 < sizeLine:=by decide
 refine sI (λi ys H=>RelL F H1 H D ys (((kvs.map (·.1)).take i).filter pb)/\H D=some (.lst ys)/\Same H1 H) ⟨.nil,af,λb u e=>by rw[ao (aj e Z)];exact e⟩ (λi ys H ⟨_,h,_⟩=>h) (λi ys H ⟨_,_,s⟩=>s a _ ha) ?_ ?_
 .rintro i ys H k v hx ⟨J,O,s⟩;have hi:i < kvs.length:=(afA.mp hx).1;have hk:(kvs.map (·.1))[i]? = some k:=by rw[afF,hx];rfl
  have hm:=afP hk;have et:(kvs.map (·.1)).take (i+1)=(kvs.map (·.1)).take i++[k]:=by rw[agh,hk];rfl
  have yl:ys.length<=1000000:=by
   rw[J.len];exact afR (agv _ _) (by rw[af7,afz];lia)
  refine jC (hc _) (ht H k _ hm s λH' s'=>?_);cases hb:pb k with
  | true =>
   refine dt (he H' k _ hm hb (s.trans s') λb H2 Y nb eb=>⟨Y _ _ (s' _ _ O),agc yl U,nx hi ⟨?_,af,λb u e=>?_⟩⟩)
   .rw[et,agd,agM,if_pos hb];have S:b≠D:=λz=>by subst z;rw[s' _ _ O] at nb;cases nb
    exact RelL.snoc (k:=k) (J.same λc u n e=>by rw[ao n];exact Y _ _ (s' _ _ e)) (by rw[ao S];exact eb) ⟨S,(s.trans s').free nb⟩
   .rw[ao (aj e Z)];exact Y _ _ (s' _ _ (s b u e))
  | false =>
   refine cu (nx hi ⟨?_,s' _ _ O,s.trans s'⟩);rw[et,agd,agM,if_neg (by rw[hb];exact afC),aix,agl];exact J.same λc u _ e=>s' _ _ e
 .rintro ys H ⟨J,O,s⟩;rw[agR (by rw[afz];exact afG _)] at J;exact hd ys H s O J
theorem i7 {α:Type}{K:PySem.W.Frag}{xs:List V}{ks:List α}{pb:α->Bool}{F:α->List V}(ha:H1 a=some (.lst xs))(nD:H1 D=none)(hl:xs.length<=1000000)(lk:xs.length=ks.length)
 (hc:∀ x,((bM nl ix σ).set 0 (some x)).drop nl=ix.map λj=>(σ[j]?).join)
 (ht:∀ (H:Hp) (j:Nat) (x:V) (k:α) (R:Bool->Hp->Prop),xs[j]? = some x->ks[j]? = some k->Same H1 H->(∀ H',Same H H'->R (pb k) H')->tf ((bM nl ix σ).set 0 (some x)) H R)
 (he:∀ (H:Hp) (j:Nat) (x:V) (k:α) (R:VK),xs[j]? = some x->ks[j]? = some k->pb k=true->Same H1 H->(∀ (b:Addr) H',Same H H'->H b=none->H' b=some (.lst (F k))->R (.ref b) H')->te ((bM nl ix σ).set 0 (some x)) H R)
 (hd:∀ ys H,Same H1 H->H D=some (.lst ys)->RelL F H1 H D ys (ks.filter pb)->Q (.ref D) H):gi nl ix (bu 0) tf te σ (Itl K a) H1 D Q:=by
 have U:1000000 < sizeLine:=by decide
 refine cN (xs:=xs) (λi ys H=>RelL F H1 H D ys ((ks.take i).filter pb)/\H D=some (.lst ys)/\Same H1 H) ⟨.nil,af,λb u e=>by rw[ao (aj e nD)];exact e⟩ (λi ys H ⟨_,h,_⟩=>h) (λi ys H ⟨_,_,s⟩=>aAA (s a _ ha)) ?_ ?_
 .rintro i ys H x Y ⟨J,O,s⟩;have hi:i < xs.length:=(afA.mp Y).1;obtain⟨k,Z⟩:∃ k,ks[i]? = some k:=⟨_,afx (by lia)⟩;have et:ks.take (i+1)=ks.take i++[k]:=by rw[agh,Z];rfl
  have yl:ys.length<=1000000:=by
   rw[J.len];exact afR (agv _ _) (by rw[af7];lia)
  refine jC (hc x) (ht H i x k _ Y Z s λH' s'=>?_);cases hb:pb k with
  | true =>
   refine dt (he H' i x k _ Y Z hb (s.trans s') λb H2 s2 nb eb=>⟨s2 _ _ (s' _ _ O),agc yl U,nx hi ⟨?_,af,λb u e=>?_⟩⟩)
   .rw[et,agd,agM,if_pos hb];have S:b≠D:=λz=>by subst z;rw[s' _ _ O] at nb;cases nb
    exact RelL.snoc (k:=k) (J.same λc u n e=>by rw[ao n];exact s2 _ _ (s' _ _ e)) (by rw[ao S];exact eb) ⟨S,(s.trans s').free nb⟩
   .rw[ao (aj e nD)];exact s2 _ _ (s' _ _ (s b u e))
  | false =>
   refine cu (nx hi ⟨?_,s' _ _ O,s.trans s'⟩);rw[et,agd,agM,if_neg (by rw[hb];exact afC),aix,agl];exact J.same λc u _ e=>s' _ _ e
 .rintro ys H ⟨J,O,s⟩;rw[lk,agm] at J;exact hd ys H s O J
end
theorem qg {H G:Hp}{S:Addr}{J:Obj}{kvs:List (Key×V)}(O:H S=some (.dK kvs))(s:Same (upd H S (.frz J (.dK kvs))) G):Same H (upd G S (.dK kvs)):=λb u e=>by
 by_cases z:b=S
 .subst z;rw[O] at e;cases e;exact af
 .rw[ao z];exact s _ _ (by rw[ao z];exact e)
section
variable {X:Cx}
theorem yG {prog:Program}{w:World}{A:Around}{E:Value->Shared->Prop}{s:Shared}{J:List Expr}{O:Nat}{pos:Pos}{z TI TO T:Addr}{Q:Unit->Shared->Prop}(hz:IsZip s.heap z TI TO (rawInt T))
 (S:∀ h',IsZip h' z TI TO .none->Heap.SameBut z s.heap h'->Q () { s with heap:=h' }):wpAny (model prog w) A (letOwnedTupleGo (.Tuple J O pos) (.ref z) (.ref T)) Q E s:=by
 unfold letOwnedTupleGo;refine afy (wpAny_load hz ?_);dsimp only;rw[if_pos (by simp)];refine afy (ag9 ?_);show wpAny _ A (setField (.ref z) 0 .none) Q E s;exact wpAny_setField_rec hz (by simp) λh' a b=>S h' a b
def ItZ (K:PySem.W.Frag)(a b:Addr):It :=
 ⟨λi H=>∃ xs ys x y,SqL K H a xs/\SqL K H b ys/\xs[i]? = some x/\ys[i]? = some y,λi H x H'=>∃ T u v,x=.ref T/\H T=none/\H'=upd H T (.tup [u,v])/\(∀ xs,SqL K H a xs->xs[i]? = some u)/\∀ ys,SqL K H b ys->ys[i]? = some v,λi H=>∃ xs ys,SqL K H a xs/\SqL K H b ys/\(xs.length<=i\/ys.length<=i)⟩
theorem aaW {P:Program}{w:World}{K:PySem.W.Frag}{es:List Expr}{kk:Nat}{tp:Pos}{z TI TO i1 i2 a b:Addr}(D:ZipApart z TI TO i1 i2 a b):aak P w K (.Tuple es kk tp) (ItZ K a b) [z,TO,i1,i2,TI] z (λi h=>IsZip h z TI TO .none/\IsPair h TI (.ref i1) (.ref i2)/\(∃ u v,IsPair h TO u v)/\h.IsListIter i1 a i/\h.IsListIter i2 b i) where
 mem:=by simp
 obj:=λi h st c J=>by
  obtain⟨U,O,⟨u,v,S⟩,h1,h2⟩:=st;simp only[afZ,agA,aju] at J;rcases J with rfl | rfl | rfl | rfl | rfl
  .exact⟨_,U,λv z=>by cases z⟩
  .exact⟨_,S,λv z=>by cases z⟩
  .obtain⟨o,e,_,d⟩:=h1;exact⟨o,e,λv z=>by rw[d] at z;cases z⟩
  .obtain⟨o,e,_,d⟩:=h2;exact⟨o,e,λv z=>by rw[d] at z;cases z⟩
  .exact⟨_,O,λv z=>by cases z⟩
 keep:=λi h h' st k=>by
  obtain⟨U,O,⟨u,v,S⟩,h1,h2⟩:=st;exact⟨k _ (by simp) _ U,k _ (by simp) _ O,⟨u,v,k _ (by simp) _ S⟩,h1.at λo e=>k _ (by simp) o e,h2.at λo e=>k _ (by simp) o e⟩
 item:=by
  intro X hP hw hK hc i pins s σ H E I hf st hg;subst hP hw hK;obtain⟨xs,ys,x,y,Y,Z,hx,hy⟩:=hg;obtain⟨ah,ad,p1,_⟩:=I.list Y;obtain⟨ai,ae,p2,_⟩:=I.list Z;obtain⟨u1,ar,as⟩:=ad.get hx;obtain⟨u2,av,aw⟩:=ae.get hy;obtain⟨U,O,⟨u,v,S⟩,h1,h2⟩:=st;have lt:∀ c∈[z,TO,i1,i2,TI],c < s.heap.objs.size:=λc J=>by
   simp only[afZ,agA,aju] at J;rcases J with rfl | rfl | rfl | rfl | rfl
   .exact afI U
   .exact afI S
   .obtain⟨o,e,_⟩:=h1;exact afI e
   .obtain⟨o,e,_⟩:=h2;exact afI e
   .exact afI O
  refine wpAny_pyNext_zip_item D U O S h1 h2 p1.isList p2.isList (x:=u1) (y:=u2) (by simpa using ar) (by simpa using av) λh' z1 ax l1 l2 pr sz k=>?_;refine⟨_,rfl,yG z1 λh3 z3 s3=>?_⟩;have ne:∀ c∈[z,TO,i1,i2,TI],s.heap.objs.size≠c:=λc hc=>ah6 (lt c hc);have az:IsPair h3 s.heap.objs.size u1 u2:=(s3.2 _ (ne _ (by simp))).trans pr;have aA:∀ c o,c ∉ [z,TO,i1,i2,TI]->s.heap.get? c=some o->h3.get? c=some o:=λc o J q=>(s3.2 c (λe=>J (by simp[e]))).trans (k c o (λe=>J (by simp[e])) (λe=>J (by simp[e])) (λe=>J (by simp[e])) (λe=>J (by simp[e])) q);have I2:=I.turnedNew (t':=s.toks) (h':=h3) (o:=.tup [x,y]) aA hf (afG _) ⟨by show 2<=sizeLine;decide,[u1,u2],.cons as (.cons aw .nil),_,az,rfl,_,rfl⟩;have fr:H s.heap.objs.size=none:=I.fresh;refine⟨.ref s.heap.objs.size,_,I2,rfl,⟨_,x,y,rfl,fr,rfl,λzs U=>by rw[I.list_inj U Y];exact hx,λzs U=>by rw[I.list_inj U Z];exact hy⟩,⟨z3,(s3.2 _ D.TIz).trans (k _ _ D.TIz D.TITO D.TIi1 D.TIi2 O),⟨_,_,(s3.2 _ D.TOz).trans ax⟩,l1.at λo q=>(s3.2 _ D.i1z).trans q,l2.at λo q=>(s3.2 _ D.i2z).trans q⟩,λc J=>?_⟩;rw[ao (afU (lt c J))];exact (hf c J).1
 done:=by
  intro X hP hw hK hc i pins s σ H E I hf st hg;subst hP hw hK;obtain⟨xs,ys,Y,Z,hx⟩:=hg;obtain⟨ah,ad,p1,_⟩:=I.list Y;obtain⟨ai,ae,p2,_⟩:=I.list Z;obtain⟨U,O,⟨u,v,S⟩,h1,h2⟩:=st;have hl:=ad.length;have aI:=ae.length;exact wpAny_pyNext_zip_end (I.ok.hd hc) D U O S h1 h2 p1.isList p2.isList (hx.elim (λhx=>.inl (by simp;lia)) λhx=>.inr (by simp;lia)) λh' eb=>⟨rfl,I.turnedL (t':=s.toks) (λc o J q=>eb c o (λe=>J (by simp[e])) (λe=>J (by simp[e])) (λe=>J (by simp[e])) (λe=>J (by simp[e])) q) hf⟩
 self:=λ_ _ _ _ _ st h=>wpAny_pyIter_zip st.1 h
theorem y4 {n a b:Nat}(z:a < n)(J:b < n):ZipApart (n+4) (n+2) (n+3) n (n+1) a b:=by
 refine⟨?_,?_,?_,?_,?_,?_,?_,?_,?_,?_,?_,?_,?_,?_,?_,?_,?_,?_⟩<;>exact λh=>by revert h;exact (λ(h:@Eq Nat _ _)=>by lia)
def afp (K:PySem.W.Frag)(ta:TA):TI:=λσ H R=>ta σ H λvs H1=>∃ a b,vs=[.ref a,.ref b]/\(∃ xs,SqL K H1 a xs)/\(∃ ys,SqL K H1 b ys)/\R (ItZ K a b) H1
theorem adZ {S J:Expr}{ta:TA}{p pos:Pos}{es:List Expr}{kk:Nat}{tp:Pos}(hg:Gl X "zip")(hm:X.mg "zip" = none)(ha:PA X [S,J] ta)(hs:starEach [S,J] X.env=(false,eval S X.env)::starEach [J] X.env:=by rfl)(U:(backTo pos (starEach [J] X.env)).any (·.1)=false:=by rfl):PI X (.Tuple es kk tp) (.Call (.Name "zip" p) [S,J] [] pos) (afp X.K ta):=by
 intro pins s σ H R I h;refine Call_ (jf I hg hm abo (agU (thn (ha pos pins s σ H _ I h) λus z ⟨vs,H1,O,r1,q1⟩=>?_) hs U));obtain⟨a,b,e,⟨xs,Y⟩,⟨ys,Z⟩,q⟩:=q1;subst e;cases r1 with
 | cons ru rr =>
  cases rr with
  | cons rw rn =>
   cases rn;cases ru;cases rw;obtain⟨ad,au,p1,_⟩:=O.list Y;obtain⟨af,av,p2,_⟩:=O.list Z;have la:a < z.heap.objs.size:=by obtain⟨o,e,_⟩:=p1.isList;exact afI e
   have lb:b < z.heap.objs.size:=by obtain⟨o,e,_⟩:=p2.isList;exact afI e
   refine call_zip_2 p1.isList p2.isList λh' hz aa ac h1 h2 sz k=>?_;have I2:Inv X pins σ H1 { z with heap:=h' }:=O.kept (t':=z.toks) k;have D:ZipApart (z.heap.objs.size+4) (z.heap.objs.size+2) (z.heap.objs.size+3) z.heap.objs.size (z.heap.objs.size+1) a b:=y4 la lb;refine wpAny_pyIter_zip hz ⟨_,[z.heap.objs.size+4,z.heap.objs.size+3,z.heap.objs.size,z.heap.objs.size+1,z.heap.objs.size+2],_,ItZ X.K a b,H1,rfl,I2,aaW D,⟨hz,aa,⟨_,_,ac⟩,h1,h2⟩,λc hb=>?_,q⟩;have hc:z.heap.objs.size<=c:=by
    simp only[afZ,agA,aju] at hb;rcases hb with h | h | h | h | h<;>rw[h]<;>first | exact Nat.le_add_right _ _ | exact afG _
   exact O.fpOk hc (O.hok.fresh hc)
end
def adt (K:PySem.W.Frag)(a:Addr)(n:Nat):It :=
 ⟨λi H=>∃ xs x,SqL K H a xs/\i < n/\xs[n - 1 - i]? = some x,λi H x H'=>H'=H/\∀ xs,SqL K H a xs->xs[n - 1 - i]? = some x,λi H=>i=n⟩
theorem abN {P:Program}{w:World}{K:PySem.W.Frag}{tg:Expr}(a it:Addr)(n:Nat):aak P w K tg (adt K a n) [it] it (λi h=>h.IsRevIter it a ((n:Int) - 1 - i)) where
 mem:=by simp
 obj:=λi h st b J=>by
  have e:b=it:=by simpa using J
  subst e;obtain⟨o,e,c,d⟩:=st;exact⟨o,e,λv z=>by rw[d] at z;cases z⟩
 keep:=λi h h' st k=>st.at λo e=>k it (by simp) o e
 item:=by
  intro X U hw Y hc i pins s σ H E I S st Z;subst U hw Y;obtain⟨xs,x,hq,hi,hx⟩:=Z;obtain⟨its,rv,p,hz⟩:=I.list hq;obtain⟨u,hu,ru⟩:=rv.get hx;obtain⟨f0,f1,f2,f3,f4,f5⟩:=S it (by simp);rw[show ((n:Int) - 1 - i)=((n - 1 - i:Nat):Int) by lia] at st;refine wpAny_pyNext_rev_item st p.isList (x:=u) (by simpa using hu) λh' O sb=>?_;have I1:Inv X pins σ H { s with heap:=h' }:=I.turned (t':=s.toks) (λb o J e=>(sb.2 b J).trans e) f0 f1 f3 f4 f5;rw[show (((n - 1 - i:Nat):Int) - 1)=((n:Int) - 1 - ((i+1:Nat):Int)) by lia] at O;obtain⟨o,e,c,d⟩:=id O;exact⟨u,rfl,aaa (s:={ s with heap:=h' }) e c d (by decide) ⟨x,H,I1,ru,⟨rfl,λys hy=>by rw[I.list_inj hy hq];exact hx⟩,O,λb J=>(S b J).1⟩⟩
 done:=by
  intro X U hw Y hc i pins s σ H E I S st Z;subst U hw Y;have ag:i=n:=Z;subst ag;obtain⟨f0,f1,f2,f3,f4,f5⟩:=S it (by simp);rw[show ((i:Int) - 1 - i)=-1 by lia] at st;exact wpAny_pyNext_rev_end (I.ok.hd hc) st λh' eb=>⟨rfl,I.turned (t':=s.toks) (λb o J e=>eb b o J e) f0 f1 f3 f4 f5⟩
 self:=λ_ _ _ _ _ st h=>wpAny_pyIter_revIter st h
def afr (K:PySem.W.Frag)(ta:TA):TI:=λσ H R=>ta σ H λvs H1=>∃ a xs,vs=[.ref a]/\SqL K H1 a xs/\R (adt K a xs.length) H1
theorem adM {X:Cx}{tg J:Expr}{ta:TA}{p pos:Pos}(U:Gl X "reversed")(Y:X.mg "reversed" = none)(Z:PA X [J] ta)(hs:starEach [J] X.env=(false,eval J X.env)::starEach [] X.env:=by rfl)(S:(backTo pos (starEach [] X.env)).any (·.1)=false:=by rfl):PI X tg (.Call (.Name "reversed" p) [J] [] pos) (afr X.K ta):=by
 intro pins s σ H R I h;refine Call_ (jf I U Y Boot.reversed (agU (thn (Z pos pins s σ H _ I h) λus z ⟨vs,H1,O,r1,q1⟩=>?_) hs S));obtain⟨a,xs,e,hq,q⟩:=q1;subst e;obtain⟨u,rfl,ru⟩:=gz r1;cases ru;obtain⟨its,rv,p1,_⟩:=O.list hq;refine call_reversed_list p1.isList ?_;refine wpAny_pyIter_revIter (it:=z.heap.objs.size) ⟨_,afK _ rfl,rfl,rfl⟩ ?_;refine⟨z.heap.objs.size,[z.heap.objs.size],_,_,H1,rfl,O.kept (t':=z.toks) λb o e=>afB _ e,abN a _ xs.length,⟨_,afK _ rfl,rfl,?_⟩,λb hb=>?_,q⟩
 .have:=rv.length;show Data.fields _=Data.fields _;congr 2;simp[this]
 .have e:b=z.heap.objs.size:=by simpa using hb
  subst e;exact O.fpOk (afG _) (O.hok.fresh (afG _))
theorem acF {K:PySem.W.Frag}{a:Addr}{xs:List V}{g:TG}{tb:TS}{D:xV}{σ:St}{H:Hp}(Pv:Nat->St->Hp->Prop)(U:Pv 0 σ H)(Y:∀ i σ H,i<=xs.length->Pv i σ H->SqL K H a xs)
 (Z:∀ i x σ H,xs[xs.length - 1 - i]? = some x->i < xs.length->Pv i σ H->g x σ H λz H2=>tb { D with nx:=Pv (i+1),ct:=Pv (i+1),bk:=D.nx } z H2)(hd:∀ σ H,Pv xs.length σ H->D.nx σ H) :
 ∃ W:Nat->Nat->St->Hp->Prop,(∃ m,W 0 m σ H)/\∀ i m σ H,W i m σ H →
  ((adt K a xs.length).stop i H/\D.nx σ H)\/((adt K a xs.length).go i H/\∃ N:St->Hp->Prop,(∀ J H',N J H'->∃ S,S < m/\W (i+1) S J H')/\∀ x H',(adt K a xs.length).yld i H x H'->g x σ H' λz H2=>tb { D with nx:=N,ct:=N,bk:=D.nx } z H2):=by
 refine⟨λi m σ H=>m=xs.length - i/\i<=xs.length/\Pv i σ H,⟨xs.length,by simp,af5 _,U⟩,?_⟩;rintro i m σ H ⟨rfl,hi,p⟩;have q:=Y i σ H hi p;by_cases O:i < xs.length
 .refine .inr ⟨⟨xs,_,q,O,afx (by lia)⟩,Pv (i+1),λJ H' p'=>⟨xs.length - (i+1),by lia,rfl,O,p'⟩,λx H' y=>?_⟩;obtain⟨e,y⟩:=y;subst e;exact Z i x σ _ (y xs q) O p
 .have e:i=xs.length:=by lia
  subst e;exact .inl ⟨rfl,hd σ H p⟩
end L2
namespace L2
open PySem PySem.Spec PySem.Calls PyProof.Rows PySem.W
section
variable {prog:Program}{w:World}{A:Around}{E:Value->Shared->Prop}{s:Shared}{a:Addr}
end
section
variable {X:Cx}
end
end L2
namespace L2
open PySem PySem.Spec PyProof.Rows PySem.W
section
variable {X:Cx}
theorem zH {a:Addr}{o:Obj}{kvs:List (Key×V)}{g:TG}{tb:TS}{D:xV}{σ:St}{H:Hp}(Pv:Nat->St->Hp->Prop)(Y:Pv 0 σ H)(Z:∀ i σ H,i<=kvs.length->Pv i σ H->H a=some (.frz o (.dK kvs)))
 (hs:∀ i k v σ H T,kvs[i]? = some (k,v)->Pv i σ H->H T=none->g (.ref T) σ (upd H T (.tup [kV k,v])) λz H2=>tb { D with nx:=Pv (i+1),ct:=Pv (i+1),bk:=D.nx } z H2)(hd:∀ σ H,Pv kvs.length σ H->D.nx σ H) :
 ∃ W:Nat->Nat->St->Hp->Prop,(∃ m,W 0 m σ H)/\∀ i m σ H,W i m σ H →
  ((ItI a o kvs).stop i H/\D.nx σ H)\/((ItI a o kvs).go i H/\∃ N:St->Hp->Prop,(∀ J H',N J H'->∃ S,S < m/\W (i+1) S J H')/\∀ x H',(ItI a o kvs).yld i H x H'->g x σ H' λz H2=>tb { D with nx:=N,ct:=N,bk:=D.nx } z H2):=by
 refine⟨λi m σ H=>m=kvs.length - i/\i<=kvs.length/\Pv i σ H,⟨kvs.length,by simp,af5 _,Y⟩,?_⟩;rintro i m σ H ⟨rfl,hi,p⟩;have U:=Z i σ H hi p;by_cases O:i < kvs.length
 .refine .inr ⟨⟨O,U⟩,Pv (i+1),λJ H' p'=>⟨kvs.length - (i+1),by lia,rfl,O,p'⟩,λx H' y=>?_⟩;obtain⟨T,k,v,ex,hT,eH,hu⟩:=y;subst ex eH;exact hs i k v σ H T hu p hT
 .have e:i=kvs.length:=by lia
  subst e;exact .inl ⟨⟨rfl,U⟩,hd σ H p⟩
theorem m9 (hc:X.calm=true):eG X (.builtin "sum") (λxs H Q=>∃ (p:Addr) (J:List Int),xs=[.ref p]/\SqL X.K H p (J.map V.int)/\Q (.int J.sum) H):=by
 intro pins s σ H xs us Q I r h;obtain⟨p,J,rfl,hq,q⟩:=h;obtain⟨u,rfl,rx⟩:=gz r;cases rx;obtain⟨its,Z,Y,hz⟩:=I.list hq;have hh:X.A.in1.handled=none:=I.ok.hd hc;have S:p < s.heap.objs.size:=by obtain⟨o,e,_⟩:=Y.isList;exact afI e
 have O:=Z.length;rw[afz] at O;refine call_sum_walkG (ahZ Y.isList ?_);refine⟨s.heap.objs.size,_,_,_,_,_,λi=>J.getD i 0,rfl,akY hh s.heap.objs.size p (afU S) its.toArray,⟨⟨_,afK _ rfl,rfl,rfl⟩,Y.isList.push _⟩,λb hb=>?_,λi v hv=>?_,λh' tk t' hk=>?_⟩
 .show b < (s.heap.push _).objs.size;rw[agw];rcases afZ.mp hb with rfl | hb
  .exact ahk _
  .rw[afD.mp hb];exact agr S
 .have U:its[i]? = some v:=by simpa using hv
  have hi:i < its.length:=(afA.mp U).1;have hb:J[i]? = some (J.getD i 0):=by
   rw[afJ];rw[afx (by lia)]
   rfl
  obtain⟨u,hu,ru⟩:=Z.get (i:=i) (x:=.int (J.getD i 0)) (by rw[afF,hb];rfl);rw[U] at hu;cases hu;exact ru
 .have e:preSum (λi=>J.getD i 0) its.toArray.size=J.sum:=by
   have all:∀ (k:Nat) (l:List Int),k<=l.length->preSum (λi=>l.getD i 0) k=(l.take k).sum:=λk=>by
    induction k with
    | zero=>intro l _;simp[preSum]
    | succ k ih =>
     intro l hk;rw[preSum,ih l (by lia),agh,ajF,afJ,afx (by lia)];simp
   rw[af4,← O,all _ J (afG _),agm]
  rw[e];refine⟨.int _,H,?_,⟨_,rfl⟩,q⟩;refine (I.kept (t':=s.toks) (h':=s.heap.push { cls:=.type "list_iterator",data:=.fields #[.ref p,.int 0 0] }) λb o e=>afB _ e).turned (it:=s.heap.objs.size) (t':=tk) (h':=h') (λb o hb e=>hk b o (by simpa using hb) e) I.fresh (ah6 I.lt) (.inr I.sz) (λx c e z=>?_) λp' hp z=>?_
  .obtain⟨v,q⟩:=I.cell x c e;exact absurd (z▸q.lt) (agB _)
  .exact absurd (z▸afI (I.pin p' hp).1) (agB _)
theorem o7 {P:Program}{w:World}:∀ {acc:List Value} {kvs:List (Key×Value)},acc.length=kvs.length->(∀ (j:Nat) v,acc[j]? = some v->∃ k x,kvs[j]? = some (k,x)/\(aU P w).is k v=true)->Vals (kvs.map λp=>kV p.1) acc
 | [],[],_,_=>.nil
 | _::_,[],h,_=>by simp at h
 | [],_::_,h,_=>by simp at h
 | v::acc,(k,x)::kvs,hl,hp=>by
  obtain⟨J,O,e,z⟩:=hp 0 v rfl;cases e;exact .cons (qq z) (o7 (P:=P) (w:=w) (by simpa using hl) λj u e=>hp (j+1) u e)
theorem oP (Z:X.calm=true):eG X (.type "list") (λxs H Q=>∃ (a:Addr) (kvs:List (Key×V)),xs=[.ref a]/\H a=some (.dK kvs)/\kvs.length<=sizeLine/\∀ l:Addr,H l=none->Q (.ref l) (upd H l (.lst (kvs.map λp=>kV p.1)))):=by
 intro pins s σ H xs us Q I r h;obtain⟨a,kvs,rfl,e,hl,q⟩:=h;obtain⟨u,rfl,rx⟩:=gz r;cases rx;obtain⟨z,hd,vs,U,dd⟩:=ud I.hok e;obtain⟨ep,da⟩:=dd.dictAt;have kk:vs.map (·.1)=kvs.map (·.1):=U.keys.symm;have kl:vs.length=kvs.length:=by simpa using agS List.length kk
 refine kdl_call (kdl_dict (knd:=aU X.prog X.w) (kvs:=vs) (ep:=ep) hd) (I.ok.hd Z) da (by lia) λh' tk O c hk hS J=>?_;have Y:O.toList.length=vs.length:=by rw[afO];exact J.1
 have S:=o7 Y λj v e=>J.2 j v (by rw[← agG];exact e);have ek:(vs.map λp=>kV p.1)=kvs.map λp=>kV p.1:=by
  have:=agS (List.map kV) kk
  rwa [af3,af3] at this
 rw[ek] at S;exact⟨.ref s.heap.objs.size,_,I.laid (t':=tk) (o:=.lst (kvs.map λp=>kV p.1)) hk (afG _) ⟨by rw[afz];exact hl,O.toList,c,S,hS⟩,rfl,q _ (I.hok.fresh (afG _))⟩
end
end L2
namespace L2
open PySem PySem.Spec PyProof.Rows
section
variable {X:Cx}
theorem u6:∀ bs:List Bool,(List.range bs.length).any (λi=>bs.getD i false)=bs.any id
 | []=>rfl
 | b::r=>by
  rw[age,akB,ahF,ajk,ahF,← u6 r]
  rfl
theorem u0 (hc:X.calm=true):eG X (.builtin "any") (λxs H Q=>∃ (p:Addr) (bs:List Bool),xs=[.ref p]/\SqL X.K H p (bs.map V.bl)/\Q (.bl (bs.any id)) H):=by
 intro pins s σ H xs us Q I r h;obtain⟨p,bs,rfl,hq,q⟩:=h;obtain⟨u,rfl,rx⟩:=gz r;cases rx;obtain⟨its,rv,S,hz⟩:=I.list hq;have hh:X.A.in1.handled=none:=I.ok.hd hc;have U:p < s.heap.objs.size:=by obtain⟨o,e,_⟩:=S.isList;exact afI e
 have J:=rv.length;rw[afz] at J;refine call_any_walk (ahZ S.isList ?_);refine⟨s.heap.objs.size,_,_,_,_,_,λi=>bs.getD i false,rfl,akY hh s.heap.objs.size p (afU U) its.toArray,⟨⟨_,afK _ rfl,rfl,rfl⟩,S.isList.push _⟩,λi v s' Q' E' hv Y=>?_,λh' tk hk=>?_⟩
 .have O:its[i]? = some v:=by simpa using hv
  have hi:i < its.length:=(afA.mp O).1;have Z:bs[i]? = some (bs.getD i false):=by
   rw[afJ];rw[afx (by lia)]
   rfl
  obtain⟨u,hu,ru⟩:=rv.get (i:=i) (x:=.bl (bs.getD i false)) (by rw[afF,Z];rfl);rw[O] at hu;cases hu;cases ru;exact agJ Y
 .have e:(List.range its.toArray.size).any (λi=>bs.getD i false)=bs.any id:=by
   rw[af4,← J,u6]
  rw[e];refine⟨.bl _,H,?_,rfl,q⟩;refine (I.kept (t':=s.toks) (h':=s.heap.push { cls:=.type "list_iterator",data:=.fields #[.ref p,.int 0 0] }) λb o e=>afB _ e).turned (it:=s.heap.objs.size) (t':=tk) (h':=h') (λb o Z e=>hk b o (by simpa using Z) e) I.fresh (ah6 I.lt) (.inr I.sz) (λx c e z=>?_) λp' hp z=>?_
  .obtain⟨v,q⟩:=I.cell x c e;exact absurd (z▸q.lt) (agB _)
  .exact absurd (z▸afI (I.pin p' hp).1) (agB _)
end
section
variable {X:Cx}{K:PySem.W.Frag}
end
theorem rj {K:PySem.W.Frag}{nl:Nat}{ix:List Nat}{tf:TT}{te:TE}{σ:St}{H1:Hp}{D a:Addr}{Q:VK}{xs:List V}{pb:V->Bool}(Y:H1 a=some (.lst xs))(S:H1 D=none)(hl:xs.length<=1000000)
 (Z:∀ x,((bM nl ix σ).set 0 (some x)).drop nl=ix.map λj=>(σ[j]?).join)
 (ht:∀ (H:Hp) (x:V) (R:Bool->Hp->Prop),x∈xs->(∀ b u,H1 b=some u->H b=some u)->(∀ H',(∀ b u,H b=some u->H' b=some u)->R (pb x) H')->tf ((bM nl ix σ).set 0 (some x)) H R)
 (he:∀ (H:Hp) (x:V) (R:VK),R x H->te ((bM nl ix σ).set 0 (some x)) H R)
 (hd:∀ H,(∀ b u,H1 b=some u->H b=some u)->H D=some (.lst (xs.filter pb))->Q (.ref D) H):gi nl ix (bu 0) tf te σ (Itl K a) H1 D Q:=by
 have ae:1000000 < sizeLine:=by decide
 refine cN (xs:=xs) (λi ys H=>ys=(xs.take i).filter pb/\H D=some (.lst ys)/\∀ b u,H1 b=some u->H b=some u) ⟨rfl,af,λb u e=>by rw[ao (aj e S)];exact e⟩ (λi ys H ⟨_,h,_⟩=>h) (λi ys H ⟨_,_,s⟩=>aAA (s a _ Y)) ?_ ?_
 .rintro i ys H x J ⟨rfl,O,s⟩;have hi:i < xs.length:=(afA.mp J).1;have lf:((xs.take i).filter pb).length<=i:=afR (agv _ _) (by rw[af7];lia);unfold bQ bu;refine⟨⟨by simp,Z x⟩,ht H x _ (afP J) s λH' s'=>?_⟩;have z:=s' _ _ O;have U:∀ b u,H1 b=some u->H' b=some u:=λb u e=>s' _ _ (s b u e);cases e:pb x with
  | true =>
   rw[if_pos rfl];refine he H' x _ ⟨z,by lia,nx hi ⟨?_,af,λb u e=>?_⟩⟩
   .rw[agh,J,agd];simp[e]
   .rw[ao (aj e S)];exact U b u e
  | false =>
   rw[if_neg afC];refine nx hi ⟨?_,z,U⟩;rw[agh,J,agd];simp[e]
 .rintro ys H ⟨rfl,O,s⟩;rw[agm] at O;exact hd H s O
theorem rQ {nl:Nat}{ix:List Nat}{tf:TT}{te:TE}{σ:St}{H1:Hp}{D:Addr}{Q:VK}{n:Nat}{pb:Nat->Bool}(O:H1 D=none)(hl:n<=1000000)
 (U:∀ x,((bM nl ix σ).set 0 (some x)).drop nl=ix.map λj=>(σ[j]?).join)
 (Y:∀ (H:Hp) (i:Nat) (R:Bool->Hp->Prop),i < n->(∀ b u,H1 b=some u->H b=some u)->(∀ H',(∀ b u,H b=some u->H' b=some u)->R (pb i) H')->tf ((bM nl ix σ).set 0 (some (.int (i:Int)))) H R)
 (Z:∀ (H:Hp) (x:V) (R:VK),R x H->te ((bM nl ix σ).set 0 (some x)) H R)
 (hd:∀ H,(∀ b u,H1 b=some u->H b=some u)->H D=some (.lst (((List.range n).filter pb).map λ(i:Nat)=>V.int (i:Int)))->Q (.ref D) H):gi nl ix (bu 0) tf te σ (Itr 0 n) H1 D Q:=by
 have ac:1000000 < sizeLine:=by decide
 refine i6 (λi ys H=>ys=((List.range i).filter pb).map (λ(i:Nat)=>V.int (i:Int))/\H D=some (.lst ys)/\∀ b u,H1 b=some u->H b=some u) ⟨rfl,af,λb u e=>by rw[ao (aj e O)];exact e⟩ (λi ys H ⟨_,h,_⟩=>h) ?_ ?_
 .rintro i ys H hi ⟨rfl,J,s⟩;have lf:(((List.range i).filter pb).map λ(i:Nat)=>V.int (i:Int)).length<=i:=by
   rw[afz];exact afR (agv _ _) (by rw[agK];lia)
  rw[alZ];unfold bQ bu;refine⟨⟨by simp,U _⟩,Y H i _ hi s λH' s'=>?_⟩;have z:=s' _ _ J;have S:∀ b u,H1 b=some u->H' b=some u:=λb u e=>s' _ _ (s b u e);cases e:pb i with
  | true =>
   rw[if_pos rfl];refine Z H' _ _ ⟨z,by lia,nx hi ⟨?_,af,λb u e=>?_⟩⟩
   .rw[ahy,agd,afY];simp[e]
   .rw[ao (aj e O)];exact S b u e
  | false =>
   rw[if_neg afC];refine nx hi ⟨?_,z,S⟩;rw[ahy,agd,afY];simp[e]
 .rintro ys H ⟨rfl,J,s⟩;exact hd H s J
section
variable {X:Cx}
theorem oo {pos:Pos}:PE X (.List [] pos) (aeO lV):=cJ ag
def aca:Expr->Bool
 | .Starred .. => false
 | _=>true
theorem uj (e:Expr)(es:List Expr)(env:Env)(h:aca e=true):starEach (e::es) env=(false,eval e env)::starEach es env:=by
 cases e<;>first | rfl | exact absurd h afC
theorem ck {e:Expr}{es:List Expr}{te:TE}{t:TA}(z:PE X e te)(J:PA X es t)(h:aca e=true):PA X (e::es) (fb te t):=ae z J (uj e es _ h)
theorem zQ {e k:Expr}{te tk:TE}{p2 pos:Pos}(Y:PE X e te)(Z:PE X k tk)(J:∀ v i:Value,subscripted (.Slice none none (some k) p2) false v i=operate [v,i] (getItem v i):=by intro _ _;with_unfolding_all rfl):PE X (.Subscript e (.Slice none none (some k) p2) pos) (ae8 X.K te tk):=by
 intro pins s σ H Q I h;refine Subscript_ (thn (Y pins s σ H _ I h) λv s1 ⟨x,H1,I1,r1,q1⟩=>?_);refine wpAny_Slice ?_;rw[evalPart_none];refine afE ?_;refine afE ?_;refine thn (Z pins s1 σ H1 _ I1 q1) λvk z ⟨y,H3,I3,r3,q3⟩=>?_;obtain⟨rfl,a,xs,rfl,hx,q⟩:=q3;obtain⟨tk,rfl⟩:=r3;cases r1;have O:Inv X pins σ H3 { z with heap:=z.heap.push { cls:=.type "slice",data:=.fields #[.none,.none,.int (-1) tk] } }:=I3.kept (t':=z.toks) λb ob q=>afB _ q;obtain⟨its,r,S,hz⟩:=O.list hx;have U:=r.length;refine tail_any (ops:=[.ref a,.ref z.heap.objs.size]) S.isList.typeIs aj7.lookup ?_ (J _ _);refine wpAny_getItem_list_slice S.isList (Heap.IsSliceOf.new ..) .none .none (.int (-1) tk) (by simp) ?_ (by rw[af4]<;>lia);rw[PySem.W.krv_pick];refine⟨.ref _,_,O.laid (t':=z.toks) (o:=.lst xs.reverse) (λb ob q=>afB _ q) (afG _) ?_,rfl,q _ (O.hok.fresh (afG _))⟩;exact⟨by rw[aiN];exact hz,_,0,by simpa using r.rev,afK _ rfl⟩
end
end L2
namespace K7
open PySem L2 PyProof.Rows
def top (i:Nat):Stmt:=PySem.Challenge.pw_keyrooms_k31_papers_of_worth.main.body.getD i (.Pass ⟨0,0,0,0⟩)
abbrev sP:Stmt:=top 10
abbrev mB:Stmt:=top 11
abbrev yd:Stmt:=top 12
abbrev aci:Stmt:=top 13
abbrev mK:Stmt:=top 14
abbrev aeB:Stmt:=top 15
abbrev aeD:Stmt:=top 49
abbrev jA:Stmt:=top 9
abbrev cU:Stmt:=top 18
abbrev iV:Stmt:=top 19
abbrev jx:Stmt:=top 20
abbrev nX:Stmt:=top 21
abbrev gT:Stmt:=top 22
abbrev jz:Stmt:=top 24
abbrev eX:Stmt:=top 26
abbrev dP:Stmt:=top 27
abbrev gZ:Stmt:=top 28
abbrev fA:Stmt:=top 29
abbrev bW:Stmt:=top 30
abbrev cP:Stmt:=top 31
abbrev cz:Stmt:=top 32
abbrev jT:Stmt:=top 33
abbrev gX:Stmt:=top 34
abbrev dW:Stmt:=top 35
abbrev cS:Stmt:=top 36
abbrev ir:Stmt:=top 38
abbrev iw:Stmt:=top 39
abbrev fk:Stmt:=top 40
abbrev gL:Stmt:=top 41
abbrev g6:Stmt:=top 42
abbrev dh:Stmt:=top 45
abbrev iG:Stmt:=top 46
abbrev cF:Stmt:=top 47
abbrev dj:Stmt:=top 48
abbrev sW:Stmt:=top 49
structure Cal (K:PySem.W.Frag)(mg:Str->Option Value)(x:Str)(ps:List Str)(f:Addr)(fd:FuncData):Prop where
 mg:mg x=some (.ref f)
 kp:keepIn K (.ref f)=true
 b:Binds K fd ps []
theorem pcl {X:Cx}{k:Nat}{f:Addr}{fd:FuncData}{ps:List Str}{sp:Sp}{x:Str}{e:Expr}{es:List Expr}{t:TA}{p pos:Pos}(F:FnOk X.prog X.w X.K X.mg X.base CX0 k f fd ps sp)(c:Cal X.K X.mg x ps f fd)(O:Room k X.A)(S:Gl X x)(U:PA X (e::es) t)(z:(x == ("__debug__" : Str))=false:=by decide)(Y:starEach (e::es) X.env=(false,eval e X.env)::starEach es X.env:=by rfl)(J:(backTo pos (starEach es X.env)).any (·.1)=false:=by rfl):PE X (.Call (.Name x p) (e::es) [] pos) (ad0 sp [] E0 t):=gM F O S c.mg c.kp c.b .nil jd U z Y J
def But (p:Addr)(H H':Hp):Prop:=∀ b u,b≠p->H b=some u->H' b=some u
theorem But.trans {p:Addr}{H H1 H2:Hp}(a:But p H H1)(b:But p H1 H2):But p H H2:=λc u n e=>b c u n (a c u n e)
theorem But.upd {p:Addr}{H:Hp}{o:HO}:But p H (upd H p o):=λb u n e=>by rw[ao n];exact e
theorem But.new {p q:Addr}{H H1:Hp}{o:HO}(a:But p H H1)(n:H q=none):But p H (L2.upd H1 q o):=λb u z e=>by rw[ao (aj e n)];exact a b u z e
theorem But.free {p q:Addr}{H H':Hp}(a:But p H H')(n:q≠p)(e:H' q=none):H q=none:=by
 cases h:H q with
 | none=>rfl
 | some u=>rw[a q u n h] at e;cases e
def gE (e:Expr):Scope:=match e with
 | .ListComp _ _ s _=>s
 | .DictComp _ _ _ s _=>s
 | _=>{ kind:=.function,names:=[],isGenerator:=false,isCoroutine:=false }
def qB (s:Stmt):Expr:=match s with
 | .Return (some e) _=>e
 | _=>.Name "" ⟨0,0,0,0⟩
def eP (z:Str):Prop:=1<=z.length/\z.length<=4/\∀ c∈z.cps.toList,97<=c/\c<=122
def ab4:Sp:=λvs H Q _=>∃ z:Str,vs=[.str z]/\eP z/\∀ H',Same H H'->Q (.bl true) H'
abbrev lettersS:Str := "abcdefghijklmnopqrstuvwxyz"
theorem xD (c:Nat)(h1:97<=c)(h2:c<=122):(!(Builtin.Str.occurrences lettersS ⟨#[c]⟩ 0 lettersS.length 1).isEmpty)=true:=by
 have all:∀ k:_root_.Fin 26,(!(Builtin.Str.occurrences lettersS ⟨#[97+k.val]⟩ 0 lettersS.length 1).isEmpty)=true:=by decide +kernel
 have e:=all ⟨c - 97,by lia⟩;have z:97+(c - 97)=c:=by lia
 simp only[z] at e;exact e
section
variable {P:Program}{w:World}{K:PySem.W.Frag}{mg:Str->Option Value}{base:Heap}
structure Glb (mg:Str->Option Value):Prop where
 isi:mg "isinstance" = none
 str:mg "str" = none
 len:mg "len" = none
 all:mg "all" = none
 letters:∃ t,mg "LETTERS" = some (.str lettersS t)
 most:∃ t,mg "MOST_LETTERS" = some (.int 4 t)
theorem adA:aA ["thing"] ["thing"] (ai sP):=scM rfl rfl rfl rfl (by decide +kernel)
def qm (e:Expr):Expr:=match e with
 | .Call _ (a::_) _ _=>a
 | e=>e
abbrev abp:Expr:=qm (qB ((bY sP).getD 1 (.Pass ⟨0,0,0,0⟩)))
theorem ads:jO (ai sP) (gE abp) ["thing"] ["sign"] 1 []=true:=by decide +kernel
theorem nd2:(["sign"]:List Str).Nodup:=by decide +kernel
theorem acY {f:Addr}{fd:FuncData}(F:Fun K "is_kind" "is_kind" sP f fd)(G:Glb mg):FnOk P w K mg base CX0 1 f fd ["thing"] ab4:=by
 obtain⟨tl,hL⟩:=G.letters;obtain⟨tm,hM⟩:=G.most;refine F.ok adA (λvs H Q E h=>?_) (λO A outer s H vs Q E hr h=>?_)
 .obtain⟨z,rfl,_⟩:=h
  rfl
 .obtain⟨z,rfl,⟨z1,z2,Y⟩,k⟩:=h;obtain⟨S,Cp⟩:=jq (X:=(aaj CX0 P w K mg base ["thing"] "is_kind" (ai sP) f O A outer s H E).nox) (outer:=ai sP) (N:=["thing"]) rfl rfl ads;refine⟨_,ah (cj (PW.pt (mM (gd (cT (au aW rfl G.isi (by decide +kernel) (ae (pv 0) (ae (dO (v:=.ty "str") (u:=.type "str") rfl G.str (by decide +kernel) rfl) ag)))))
   (j0 (gd (aam yX yX ar (au r9 rfl G.len agH (ae (pv 0) ag)) (uN (v:=.int 4) rfl hM ⟨tm,rfl⟩))))))
   (aq (aD fM)) aF)
   (aq (aD (au (fh rfl) rfl G.all (by decide +kernel) (ae (lX (tg:=.Name "sign" _) rfl S Cp (adP (pv 0))
    (λ_ _ _ _=>av (i:=0) nd2 rfl (.inl rfl) (.inr rfl)) (λ_ _ _ _=>aT)
    (λ_ _ _ _=>fQ zX (pv 0) (uN (v:=.str lettersS) rfl hL ⟨tl,rfl⟩) (by with_unfolding_all rfl))) ag)))),?_⟩
  have zs:z.length<=sizeLine:=ahc (iA (by lia));refine⟨_,rfl,_,_,_,true,rfl,.str z,cV K _,true,rfl,?_⟩;refine cu ?_;refine⟨_,rfl,z,rfl,zs,1,_,rfl,rfl,true,agS V.bl (afM (by lia)),?_⟩;refine dt ?_;refine⟨_,4,rfl,rfl,true,agS V.bl (afM (by lia)),?_⟩;refine cu ?_;dsimp only [kF,xF,tCB,fb,lV];refine aB _ _ _ _ _ _ _ _ _ ?_;refine⟨_,rfl,z,rfl,?_⟩;intro D Z;refine aas (λi ys H2=>ys=(List.replicate i true).map V.bl/\H2 D=some (.lst ys)/\Same H H2) ⟨rfl,af,λb u e=>by rw[ao (aj e Z)];exact e⟩ (λi ys H2 ⟨_,h,_⟩=>h) ?_ ?_
  .rintro i ys H2 c hc ⟨rfl,J,U⟩;have hi:i < z.cps.size:=(ajK.mp hc).1;have hz:z.length=z.cps.size:=rfl;have hm:c∈z.cps.toList:=by
    have:=Array.mem_of_getElem? hc;simpa using this
   refine dy rfl ?_;refine⟨_,rfl,_,_,rfl,rfl,J,by rw[afz,agY];exact iA (by lia),nx hi ⟨?_,af,λb u e=>?_⟩⟩
   .rw[xD c (Y c hm).1 (Y c hm).2,ajs,afY]
    rfl
   .rw[ao (aj e Z)];exact U b u e
  .rintro ys H2 ⟨rfl,J,U⟩;refine⟨D,List.replicate z.cps.size true,rfl,aAA J,?_⟩;have e:(List.replicate z.cps.size true).all id=true:=by simp
   rw[e];exact k H2 U
def qp:Sp:=λvs H Q _=>∃ (a:Addr) (ks:List Str),vs=[.ref a]/\H a=some (.lst (ks.map V.str))/\(∀ k∈ks,eP k)/\ks.length<=1000/\∀ H',Same H H'->Q (.bl true) H'
def vm (e:Expr):Expr:=match e with
 | .BoolOp _ es _=>es.getLastD e
 | e=>e
theorem aco:aA ["thing"] ["thing"] (ai mB):=scM rfl rfl rfl rfl (by decide +kernel)
abbrev yV:Expr:=qm (vm (qB ((bY mB).getD 0 (.Pass ⟨0,0,0,0⟩))))
theorem acO:jO (ai mB) (gE yV) ["thing"] ["kind"] 1 []=true:=by decide +kernel
theorem nd3:(["kind"]:List Str).Nodup:=by decide +kernel
theorem aav {f Z:Addr}{fd z:FuncData}(F:Fun K "are_kinds" "are_kinds" mB f fd)(FK:Fun K "is_kind" "is_kind" sP Z z)(cK:Cal K mg "is_kind" ["thing"] Z z)(G:Glb mg)(ac:mg "list" = none):FnOk P w K mg base CX0 2 f fd ["thing"] qp:=by
 have GK:FnOk P w K mg base CX0 1 Z z ["thing"] ab4:=acY FK G;refine F.ok aco (λvs H Q E h=>?_) (λad A outer s H vs Q E hr h=>?_)
 .obtain⟨a,ks,rfl,_⟩:=h
  rfl
 .obtain⟨a,ks,rfl,ha,hk,hl,k⟩:=h;obtain⟨S,Cp⟩:=jq (X:=(aaj CX0 P w K mg base ["thing"] "are_kinds" (ai mB) f ad A outer s H E).nox) (outer:=ai mB) (N:=["thing"]) rfl rfl acO;refine⟨_,aq (aD (gb (au aW rfl G.isi (by decide +kernel) (ae (pv 0) (ae (dO (v:=.ty "list") (u:=.type "list") rfl ac (by decide +kernel) rfl) ag)))
   (jk (au (fh rfl) rfl G.all (by decide +kernel) (ae (lX (tg:=.Name "kind" _) rfl S Cp (aL (pv 0))
    (λ_ _ _ _=>av (i:=0) nd3 rfl (.inl rfl) (.inr rfl)) (λ_ _ _ _=>aT)
    (λ_ _ _ _=>gM GK hr rfl cK.mg cK.kp cK.b .nil jd (ae (pv 0) ag))) ag))))),?_⟩
  refine⟨_,rfl,_,_,_,true,rfl,.lst ha,cV K _,true,rfl,?_⟩;refine dt ?_;dsimp only [kF,xF,tCB,fb,lV];refine aB _ _ _ _ _ _ _ _ _ ?_;refine⟨_,rfl,a,rfl,⟨_,aAA ha⟩,?_⟩;intro D hD;refine cN (xs:=ks.map V.str) (λi ys H2=>ys=(List.replicate i true).map V.bl/\i<=1000/\H2 D=some (.lst ys)/\Same H H2) ⟨rfl,by decide,af,λb u e=>by rw[ao (aj e hD)];exact e⟩ (λi ys H2 ⟨_,_,h,_⟩=>h) (λi ys H2 ⟨_,_,_,U⟩=>aAA (U a _ ha)) ?_ ?_
  .rintro i ys H2 x hx ⟨rfl,as,J,U⟩;have hi:i < (ks.map V.str).length:=(afA.mp hx).1;have O:=hi;rw[afz] at O;rw[afF,afx O] at hx;cases hx;refine dy rfl ?_;refine⟨_,rfl,ks[i],rfl,hk _ (agg O),λH3 Y=>?_⟩;refine⟨Y D _ J,by rw[afz,agY];exact iA (by lia),nx hi ⟨?_,by lia,af,λb u e=>?_⟩⟩
   .rw[ajs,afY]
    rfl
   .rw[ao (aj e hD)];exact Y b u (U b u e)
  .rintro ys H2 ⟨rfl,_,J,U⟩;refine⟨D,List.replicate (ks.map V.str).length true,rfl,aAA J,?_⟩;have e:(List.replicate (ks.map V.str).length true).all id=true:=by simp
   rw[e];exact k H2 U
def xY:Sp:=λvs H Q _=>∃ (a:Addr) (ks:List Str),vs=[.ref a]/\H a=some (.lst (ks.map V.str))/\(∀ k∈ks,eP k)/\1<=ks.length/\ks.length<=4/\ks.Pairwise leS/\∀ H',Same H H'->Q (.bl true) H'
theorem iX {ks:List Str}(h:∀ k∈ks,eP k):PyData.canLayAll0 (ks.map PyData.str)=true:=by
 induction ks with
 | nil=>rfl
 | cons z r J =>
  have O:=h z afX;have S:PyData.strOk z=true:=by
   unfold PyData.strOk;rw[← Array.all_toList,agt];intro c U;exact afM (by have:=O.2.2 c U;lia)
  rw[af0];simp only[PyData.canLayAll0,PyData.canLay0,S,ahw];exact J λk Y=>h k (af6 _ Y)
theorem lT:∀ ks:List Str,PyData.eqvAll (ks.map PyData.str) (ks.map PyData.str)=true
 | []=>rfl
 | z::r=>by
  rw[af0];simp only[PyData.eqvAll,PyData.eqv,ahm,ahw];exact lT r
theorem i9:∀ ks:List Str,PyData.depthAll (ks.map PyData.str)=0
 | []=>rfl
 | z::r=>by
  rw[af0];simp only[PyData.depthAll,PyData.depth,i9 r]
  rfl
theorem acT:aA ["thing"] ["thing"] (ai yd):=scM rfl rfl rfl rfl (by decide +kernel)
theorem aa1 {f fK:Addr}{fd J:FuncData}(F:Fun K "are_locks" "are_locks" yd f fd)(GK:FnOk P w K mg base CX0 2 fK J ["thing"] qp)(O:Cal K mg "are_kinds" ["thing"] fK J)(S:mg "len" = none)(U:mg "sorted" = none)(Y:∃ t,mg "MOST_LOCKS" = some (.int 4 t)) :
 FnOk P w K mg base CX0 3 f fd ["thing"] xY:=by
 obtain⟨tm,Y⟩:=Y;refine F.ok acT (λvs H Q E h=>?_) (λan A outer s H vs Q E hr h=>?_)
 .obtain⟨a,ks,rfl,_⟩:=h
  rfl
 .obtain⟨a,ks,rfl,ha,Z,h1,h4,hs,k⟩:=h;have hu:=du hr;refine⟨_,aq (aD (gb (gM GK hr rfl O.mg O.kp O.b .nil jd (ae (pv 0) ag))
   (gb (vA yX yX ar (au aQ rfl S agH (ae (pv 0) ag)) (uN (v:=.int 4) rfl Y ⟨tm,rfl⟩))
   (jk (fQ yk (pv 0) (au mP rfl U ahW (ae (pv 0) ag)) (aP _)))))),?_⟩
  refine⟨_,rfl,a,ks,rfl,ha,Z,by lia,λH1 s1=>⟨true,rfl,?_⟩⟩;refine dt ?_;have z:=s1 a _ ha;refine⟨_,rfl,a,_,rfl,.inl (aAA z),1,_,rfl,rfl,true,agS V.bl (afM (by rw[afz];lia)),?_⟩;refine dt ?_;refine⟨_,4,rfl,rfl,true,agS V.bl (afM (by rw[afz];lia)),?_⟩;refine dt ?_;refine⟨_,rfl,_,rfl,a,ks,rfl,aAA z,by lia,λl ss hl hp ac=>?_⟩;have e:ss=ks:=pJ (hE ac) hs hp;subst e;have ne:a≠l:=aj z hl;refine⟨.list (ss.map PyData.str),.list (ss.map PyData.str),.lst (by rw[ao ne];exact z) (SeesAll.strs ss),.lst af (SeesAll.strs ss),iX Z,iX Z,?_,?_⟩
  .show _+min (PyData.depthAll (ss.map PyData.str)+1) (PyData.depthAll (ss.map PyData.str)+1) < cLine;rw[i9];exact hu
  .have ee:PyData.eqv (.list (ss.map PyData.str)) (.list (ss.map PyData.str))=true:=lT ss;rw[ee];exact k _ λb u e=>by rw[ao (aj (s1 b u e) hl)];exact s1 b u e
abbrev Rm:=List Str×List Str
structure yT (r:Rm):Prop where
 lk:∀ k∈r.1,eP k
 l1:1<=r.1.length
 l4:r.1.length<=4
 so:r.1.Pairwise leS
 kk:∀ k∈r.2,eP k
 kl:r.2.length<=1000
def RoomAt (H:Hp)(v:V)(r:Rm):Prop:=∃ t a b:Addr,v=.ref t/\H t=some (.tup [.ref a,.ref b])/\H a=some (.lst (r.1.map V.str))/\H b=some (.lst (r.2.map V.str))
theorem RoomAt.same {H H':Hp}{v:V}{r:Rm}(s:Same H H')(h:RoomAt H v r):RoomAt H' v r:=by
 obtain⟨t,a,b,e,h1,h2,z⟩:=h;exact⟨t,a,b,e,s _ _ h1,s _ _ h2,s _ _ z⟩
def ab2:Sp:=λvs H Q _=>∃ (v:V) (r:Rm),vs=[v]/\RoomAt H v r/\yT r/\∀ H',Same H H'->Q (.bl true) H'
theorem adN:aA ["thing"] ["thing"] (ai aci):=scM rfl rfl rfl rfl (by decide +kernel)
theorem acQ {f fL fK:Addr}{fd z J:FuncData}(F:Fun K "is_room" "is_room" aci f fd)(GL:FnOk P w K mg base CX0 3 fL z ["thing"] xY)(S:Cal K mg "are_locks" ["thing"] fL z)
 (GK:FnOk P w K mg base CX0 2 fK J ["thing"] qp)(U:Cal K mg "are_kinds" ["thing"] fK J)(mI:mg "isinstance" = none)(Y:mg "len" = none)(Z:mg "tuple" = none):FnOk P w K mg base CX0 4 f fd ["thing"] ab2:=by
 refine F.ok adN (λvs H Q E h=>?_) (λak A outer s H vs Q E hr h=>?_)
 .obtain⟨v,r,rfl,_⟩:=h
  rfl
 .obtain⟨v,r,rfl,⟨t,a,b,rfl,O,ha,hb⟩,ok,k⟩:=h;refine⟨_,aq (aD (gb (au aW rfl mI (by decide +kernel) (ae (pv 0) (ae (dO (v:=.ty "tuple") (u:=.type "tuple") rfl Z (by decide +kernel) rfl) ag)))
   (gb (fQ jt (au aQ rfl Y agH (ae (pv 0) ag)) ar (aP _))
   (gb (gM GL hr rfl S.mg S.kp S.b .nil jd (ae (bR il (pv 0) ar (λ_ _=>rfl)) ag))
   (jk (gM GK (hr.mono (by decide)) rfl U.mg U.kp U.b .nil jd (ae (bR il (pv 0) ar (λ_ _=>rfl)) ag))))))),?_⟩
  refine⟨_,rfl,_,_,_,true,rfl,.tup O,cV K _,true,rfl,?_⟩;refine dt ?_;refine⟨_,rfl,t,_,rfl,.inr (aAB O),rfl,true,rfl,?_⟩;refine dt ?_;refine⟨_,rfl,t,_,0,.ref a,rfl,rfl,aAB O,rfl,a,r.1,rfl,ha,ok.lk,ok.l1,ok.l4,ok.so,λH1 s1=>⟨true,rfl,?_⟩⟩;refine dt ?_;refine⟨_,rfl,t,_,1,.ref b,rfl,rfl,aAB (s1 _ _ O),rfl,b,r.2,rfl,s1 _ _ hb,ok.kk,ok.kl,λH2 s2=>?_⟩;exact k H2 (s1.trans s2)
abbrev Hs:=List Str×List Rm
def RoomsAt (H:Hp)(vs:List V)(rs:List Rm):Prop:=vs.length=rs.length/\∀ (i:Nat) (v:V) (r:Rm),vs[i]? = some v->rs[i]? = some r->RoomAt H v r
theorem RoomsAt.same {H H':Hp}{vs:List V}{rs:List Rm}(s:Same H H')(h:RoomsAt H vs rs):RoomsAt H' vs rs:=⟨h.1,λi v r a b=>(h.2 i v r a b).same s⟩
def HouseAt (H:Hp)(v:V)(h:Hs):Prop:=∃ (t a r:Addr) (vs:List V),v=.ref t/\H t=some (.tup [.ref a,.ref r])/\H a=some (.lst (h.1.map V.str))/\H r=some (.lst vs)/\RoomsAt H vs h.2
theorem HouseAt.same {H H':Hp}{v:V}{h:Hs}(s:Same H H')(x:HouseAt H v h):HouseAt H' v h:=by
 obtain⟨t,a,r,vs,e,h1,h2,z,J⟩:=x;exact⟨t,a,r,vs,e,s _ _ h1,s _ _ h2,s _ _ z,J.same s⟩
structure dz (h:Hs):Prop where
 kk:∀ k∈h.1,eP k
 kl:h.1.length<=1000
 rs:∀ r∈h.2,yT r
 rl:h.2.length<=1000
def za:Sp:=λvs H Q _=>∃ (v:V) (h:Hs),vs=[v]/\HouseAt H v h/\dz h/\∀ H',Same H H'->Q (.bl true) H'
def adn:Sp:=λvs H Q _=>∃ (v:V) (h:Hs),vs=[v]/\HouseAt H v h/\dz h/\∀ H',Same H H'->Q .non H'
theorem scHouse:aA ["thing","keys","rooms"] ["thing"] (ai mK):=scM rfl rfl rfl rfl (by decide +kernel)
abbrev yn:Expr:=qm (vm (qB ((bY mK).getD 2 (.Pass ⟨0,0,0,0⟩))))
theorem adb:jO (ai mK) (gE yn) ["thing","keys","rooms"] ["room"] 1 []=true:=by decide +kernel
theorem nd4:(["room"]:List Str).Nodup:=by decide +kernel
theorem abh {f fR fK:Addr}{fd U Y:FuncData}(F:Fun K "is_house" "is_house" mK f fd)(GR:FnOk P w K mg base CX0 4 fR U ["thing"] ab2)(cR:Cal K mg "is_room" ["thing"] fR U)
 (GK:FnOk P w K mg base CX0 2 fK Y ["thing"] qp)(cK:Cal K mg "are_kinds" ["thing"] fK Y)(mI:mg "isinstance" = none)(al:mg "len" = none)(am:mg "tuple" = none)(an:mg "list" = none)(ap:mg "all" = none):FnOk P w K mg base CX0 5 f fd ["thing"] za:=by
 refine F.ok scHouse (λvs H Q E h=>?_) (λas A outer s H vs Q E hr h=>?_)
 .obtain⟨v,r,rfl,_⟩:=h
  rfl
 .obtain⟨v,hs,rfl,⟨t,a,r,vs,rfl,ht,ha,z,hR⟩,ok,k⟩:=h;obtain⟨S,Cp⟩:=jq (X:=(aaj CX0 P w K mg base ["thing","keys","rooms"] "is_house" (ai mK) f as A outer s H E).nox) (outer:=ai mK) (N:=["thing","keys","rooms"]) rfl rfl adb;refine⟨_,ah (cj (PW.pt (mM (gd (cT (au aW rfl mI (by decide +kernel) (ae (pv 0) (ae (dO (v:=.ty "tuple") (u:=.type "tuple") rfl am (by decide +kernel) rfl) ag)))))
   (j0 (aE acU (au aQ rfl al agH (ae (pv 0) ag)) ar (aP _)))))
   (aq (aD fM)) aF)
   (ah (lj (pv 0) (mR rfl (aI (av (i:=1) scHouse.nd rfl (.inl rfl)) (aI (av (i:=2) scHouse.nd rfl (.inl rfl)) dB))))
   (aq (aD (gb (gM GK (hr.mono (by decide)) rfl cK.mg cK.kp cK.b .nil jd (ae (pv 1) ag))
    (gb (au aW rfl mI (by decide +kernel) (ae (pv 2) (ae (dO (v:=.ty "list") (u:=.type "list") rfl an (by decide +kernel) rfl) ag)))
    (jk (au (fh rfl) rfl ap (by decide +kernel) (ae (lX (tg:=.Name "room" _) rfl S Cp (aL (pv 2))
     (λ_ _ _ _=>av (i:=0) nd4 rfl (.inl rfl) (.inr rfl)) (λ_ _ _ _=>aT)
     (λ_ _ _ _=>gM GR hr rfl cR.mg cR.kp cR.b .nil jd (ae (pv 0) ag))) ag)))))))),?_⟩
  refine⟨_,rfl,_,_,_,true,rfl,.tup ht,cV K _,true,rfl,?_⟩;refine cu ?_;refine⟨_,rfl,t,_,rfl,.inr (aAB ht),rfl,false,rfl,?_⟩;refine cu ?_;refine⟨_,rfl,t,_,rfl,aAB ht,rfl,_,_,rfl,_,_,rfl,rfl,?_⟩;refine⟨_,rfl,a,hs.1,rfl,ha,ok.kk,ok.kl,λH1 Z=>⟨true,rfl,?_⟩⟩;refine dt ?_;refine⟨_,rfl,_,_,_,true,rfl,.lst (Z _ _ z),cV K _,true,rfl,?_⟩;refine dt ?_;dsimp only [kF,xF,tCB,fb,lV];refine aB _ _ _ _ _ _ _ _ _ ?_;refine⟨_,rfl,r,rfl,⟨_,aAA (Z _ _ z)⟩,?_⟩;intro D hD;have hl:vs.length<=1000:=by rw[hR.1];exact ok.rl
  refine cN (xs:=vs) (λi ys H2=>ys=(List.replicate i true).map V.bl/\i<=1000/\H2 D=some (.lst ys)/\Same H1 H2) ⟨rfl,by decide,af,λb u e=>by rw[ao (aj e hD)];exact e⟩ (λi ys H2 ⟨_,_,h,_⟩=>h) (λi ys H2 ⟨_,_,_,O⟩=>aAA (O r _ (Z _ _ z))) ?_ ?_
  .rintro i ys H2 x hx ⟨rfl,aO,J,O⟩;have hi:i < vs.length:=(afA.mp hx).1;have aa:i < hs.2.length:=by rw[← hR.1];exact hi
   refine dy rfl ?_;refine⟨_,rfl,x,hs.2[i],rfl,((hR.2 i x _ hx (afx aa)).same Z).same O,ok.rs _ (agg aa),λH3 ac=>?_⟩;refine⟨ac D _ J,by rw[afz,agY];exact iA (by lia),nx hi ⟨?_,by lia,af,λb u e=>?_⟩⟩
   .rw[ajs,afY]
    rfl
   .rw[ao (aj e hD)];exact ac b u (O b u e)
  .rintro ys H2 ⟨rfl,_,J,O⟩;refine⟨D,List.replicate vs.length true,rfl,aAA J,?_⟩;have e:(List.replicate vs.length true).all id=true:=by simp
   rw[e];exact k H2 (Z.trans O)
theorem aeC:aA ["thing"] ["thing"] (ai aeB):=scM rfl rfl rfl rfl (by decide +kernel)
theorem aef {f O:Addr}{fd z:FuncData}(F:Fun K "require_house" "require_house" aeB f fd)(S:FnOk P w K mg base CX0 5 O z ["thing"] za)(J:Cal K mg "is_house" ["thing"] O z):FnOk P w K mg base CX0 6 f fd ["thing"] adn:=by
 refine F.ok aeC (λvs H Q E h=>?_) (λU A outer s H vs Q E Y h=>?_)
 .obtain⟨v,r,rfl,_⟩:=h
  rfl
 .obtain⟨v,Z,rfl,hh,ok,k⟩:=h;refine⟨_,aq (cj (gd (cT (gM S Y rfl J.mg J.kp J.b .nil jd (ae (pv 0) ag)))) mV aF),?_⟩;refine⟨_,rfl,v,Z,rfl,hh,ok,λH1 s1=>⟨true,rfl,?_⟩⟩;refine cu ?_;exact k H1 s1
end
end K7
namespace L2
open PySem PySem.Spec PyProof.Rows
section
variable {X:Cx}{o e:Expr}{es:List Expr}{to:TE}{t:TA}{name:Str}{apos cpos:Pos}{T id:String}{r:V->List V->Hp->VK->Prop}{K:PySem.W.Frag}
theorem vC (Z:X.K=K)(pa:PlainAttrs T)(S:Slot T name id)(Y:typeOf (.builtin id)=pure (.type "method_descriptor"))(hm:MtR X id r)(ho:PE X o to)(ha:PA X (e::es) t)
 (J:attributeBase o name X.env (eval o X.env)=eval o X.env:=by rfl)
 (U:((backTo cpos (starEach (e::es) X.env)).all (λx=>!x.1) && (backToKw cpos (keywordEach [] X.env)).all (λx=>x.1.isSome)
  && decide ((e::es).length+([]:List Keyword).length+(if ([]:List Keyword).isEmpty then 0 else 1) < 30))=true:=by rfl)
 (O:(apos.endLine == cpos.line)=true:=by rfl)(hs:starEach (e::es) X.env=(false,eval e X.env)::starEach es X.env:=by rfl)(z:(backTo cpos (starEach es X.env)).any (·.1)=false:=by rfl) :
 PE X (.Call (.Attribute o name apos) (e::es) [] cpos) (tBM K T r to t):=by
 subst Z;exact jN pa S Y hm ho ha J U O hs z
end
end L2
namespace K7
open PySem L2 PyProof.Rows
theorem eU {α:Type}[DecidableEq α]:∀ {l U:List α},l.Nodup->(∀ x∈l,x∈U)->l.length<=U.length
 | [],U,_,_=>af5 _
 | a::r,U,hn,h=>by
  rw[ahJ] at hn;have J:=h a afX;have S:=eU (U:=U.erase a) hn.2 λx O=>by
   have ne:x≠a:=λz=>hn.1 (z▸O);exact (List.mem_erase_of_ne ne).mpr (h x (af6 _ O))
  have Y:=aki J;have Z:0 < U.length:=aip J;rw[age];lia
end K7
namespace L2
open PySem PySem.Spec PyProof.Rows
theorem rH (K:PySem.W.Frag):kitOne K (.type "int") (.type "bool")=some false:=by
 first
  | rfl
  | (with_unfolding_all rfl)
end L2
namespace K7
open PySem L2 PyProof.Rows
def tw (hand locks:List Str):Bool:=locks.all λx=>decide (locks.count x<=hand.count x)
def n6 (hand:List Str)(r:Rm):List Str:=r.1.foldl List.erase hand++r.2
theorem gf (x:Str):∀ (l h:List Str),(l.foldl List.erase h).count x=h.count x - l.count x
 | [],h=>by simp
 | a::l,h=>by
  rw[aiS,gf x l,List.count_erase,List.count_cons];by_cases e:a=x
  .subst e;simp;lia
  .have:¬ x=a:=λz=>e z.symm;simp[e,this]
def cQ (ks:List Str)(rs:List Rm)(order:List Nat):List Str:=order.foldl (λhd i=>n6 hd ((rs[i]?).getD ([],[]))) ks
theorem jr (ks:List Str)(rs:List Rm)(z:List Nat)(i:Nat):cQ ks rs (z++[i])=n6 (cQ ks rs z) ((rs[i]?).getD ([],[])):=by
 unfold cQ;rw[ajc]
 rfl
def iE (rs:List Rm)(hand:List Str)(order:List Nat):List Nat:=(List.range rs.length).filter λi=>!decide (i∈order) && tw hand ((rs[i]?).getD ([],[])).1
def cM (ks:List Str)(rs:List Rm)(order:List Nat):Prop:=∀ j i,order[j]? = some i->i < rs.length/\i ∉ order.take j/\tw (cQ ks rs (order.take j)) ((rs[i]?).getD ([],[])).1=true
def aO (o:List Nat):Nat:=o.foldl (λm i=>m ||| 2 ^ i) 0
theorem dZ (o:List Nat)(i:Nat):aO (o++[i])=aO o ||| 2 ^ i:=by
 unfold aO;rw[ajc]
 rfl
theorem eZ (o:List Nat):∀ i,(aO o).testBit i=decide (i∈o):=by
 have J:∀ (l:List Nat) (m i:Nat),(l.foldl (λm i=>m ||| 2 ^ i) m).testBit i=(m.testBit i || decide (i∈l)):=λl=>by
  induction l with
  | nil=>intro m i;simp
  | cons a l O =>
   intro m i;rw[aiS,O,Nat.testBit_or,Nat.testBit_two_pow];by_cases h:a=i
   .subst h;simp
   .have h':i≠a:=λz=>h z.symm;simp[h,h']
 intro i;unfold aO;rw[J];simp
theorem iT {o o':List Nat}(p:o.Perm o'):aO o=aO o':=Nat.eq_of_testBit_eq λi=>by
 rw[eZ,eZ];exact agL.mpr p.mem_iff
theorem f9 {o o':List Nat}(n:o.Nodup)(z:o'.Nodup)(e:aO o=aO o'):o.Perm o':=(ajM n z).mpr λi=>by
 have h1:=eZ o i;have h2:=eZ o' i;rw[e,h2] at h1;exact (agL.mp h1).symm
theorem qw {o:List Nat}{n:Nat}(h:∀ i∈o,i < n):aO o < 2 ^ n:=Nat.lt_pow_two_of_testBit _ λi hi=>by
 rw[eZ];exact afS λz=>by have:=h i z;lia
theorem zF (a b:Nat):Builtin.bitOr (a:Int) (b:Int)=((a ||| b:Nat):Int):=by
 unfold Builtin.bitOr Builtin.bitAnd Builtin.bitNot;have h1:decide (0<=(-(a:Int) - 1))=false:=afS (by lia);have h2:decide (0<=(-(b:Int) - 1))=false:=afS (by lia);simp only[h1,h2];have z:(-(-(a:Int) - 1) - 1)=(a:Int):=by lia
 have J:(-(-(b:Int) - 1) - 1)=(b:Int):=by lia
 simp only[z,J,agk];lia
theorem yQ (o:List Nat)(i:Nat):Builtin.bitAnd (((aO o:Nat):Int) / 2 ^ ((i:Int)).toNat) 1=if i∈o then 1 else 0:=by
 rw[bitAnd_m1,agk];have e:((aO o:Nat):Int) / 2 ^ i % 2=(((aO o) / 2 ^ i % 2:Nat):Int):=by simp
 rw[e];have t:=eZ o i;rw[Nat.testBit_eq_decide_div_mod_eq] at t;have J:=agL.mp t;by_cases h:i∈o
 .rw[if_pos h,J.mpr h];rfl
 .rw[if_neg h];have:aO o / 2 ^ i % 2≠1:=λz=>h (J.mp z);have:aO o / 2 ^ i % 2=0:=by lia
  rw[this];rfl
structure adh (h:Hs)(ks:List Str):Prop where
 nd:ks.Nodup
 mem:∀ k,k∈ks↔∃ r∈h.2,k∈r.1
 few:ks.length<=63
def fZ (ks hand:List Str):List Int:=ks.map λk=>((hand.count k:Nat):Int)
def kAt (ks:List Str)(p:Nat):Str:=(ks[p]?).getD ""
def bX (ks:List Str)(r:Rm):List (Nat×Int):=((List.range ks.length).filter λp=>decide (kAt ks p∈r.1)).map λp=>(p,((r.1.count (kAt ks p):Nat):Int))
def vz (r:Rm)(k:Str):Int:=((r.2.count k:Nat):Int) - ((r.1.count k:Nat):Int)
def chB (ks:List Str)(r:Rm)(p:Nat):Bool:=decide (kAt ks p∈r.1) || decide (kAt ks p∈r.2)
def aeT (ks:List Str)(r:Rm)(m:Nat):List (Nat×Int):=((List.range m).filter (chB ks r)).map λp=>(p,vz r (kAt ks p))
def hJ (ks:List Str)(r:Rm):List (Nat×Int):=aeT ks r ks.length
theorem xQ {ks:List Str}{p:Nat}(h:p < ks.length):ks[p]? = some (kAt ks p):=by
 unfold kAt;rw[afx h]
 rfl
theorem ze {ks:List Str}{k:Str}(h:k∈ks):∃ p,p < ks.length/\kAt ks p=k:=by
 obtain⟨p,z,e⟩:=aid h;refine⟨p,z,?_⟩;unfold kAt;rw[afx z,e]
 rfl
theorem qD {ks z:List Str}{p:Nat}(h:p < ks.length):(fZ ks z)[p]? = some ((z.count (kAt ks p):Nat):Int):=by
 unfold fZ;rw[afF,xQ h]
 rfl
theorem ki (ks z:List Str):(fZ ks z).length=ks.length:=by unfold fZ;rw[afz]
theorem aai {ks z:List Str}{r:Rm}(s:∀ k∈r.1,k∈ks):(∀ c∈bX ks r,c.2<=((z.count (kAt ks c.1):Nat):Int))↔tw z r.1=true:=by
 unfold tw;rw[agt];constructor
 .intro h k O;obtain⟨p,J,e⟩:=ze (s k O);have:=h (p,((r.1.count (kAt ks p):Nat):Int)) (afL.mpr ⟨p,agi.mpr ⟨agP.mpr J,afM (by rw[e];exact O)⟩,rfl⟩);rw[e] at this;exact afM (by simpa using this)
 .intro h c S;obtain⟨p,J,rfl⟩:=afL.mp S;have:=agz (h _ (agz (agi.mp J).2));simpa using this
def vo (v:List Int)(cs:List (Nat×Int)):List Int:=cs.foldl (λv c=>v.set c.1 (v.getD c.1 0+c.2)) v
theorem rL (v:List Int)(z:List (Nat×Int))(c:Nat×Int):vo v (z++[c])=(vo v z).set c.1 ((vo v z).getD c.1 0+c.2):=by
 unfold vo;rw[ajc]
 rfl
theorem qi (v:List Int):∀ z:List (Nat×Int),(vo v z).length=v.length:=by
 have J:∀ (z:List (Nat×Int)) (v:List Int),(z.foldl (λv c=>v.set c.1 (v.getD c.1 0+c.2)) v).length=v.length:=λz=>by
  induction z with
  | nil=>intro v;rfl
  | cons c z O=>intro v;rw[aiS,O,ahK]
 exact λz=>J z v
theorem acS {ks:List Str}{r:Rm}(v:List Int)(S:v.length=ks.length):∀ m,m<=ks.length->∀ p:Nat,(vo v (aeT ks r m))[p]? = if p < m/\chB ks r p=true then (v[p]?).map (· + vz r (kAt ks p)) else v[p]?
 | 0,_,p=>by rw[if_neg (by lia)];rfl
 | m+1,hm,p=>by
  have ih:=acS (r:=r) v S m (by lia);unfold aeT at ih ⊢;rw[ahy,agd,afY];cases hc:chB ks r m with
  | false =>
   have e:[m].filter (chB ks r)=[]:=by simp[hc]
   rw[e,ajh,agl,ih p];by_cases h1:p < m/\chB ks r p=true
   .rw[if_pos h1,if_pos ⟨by lia,h1.2⟩]
   .rw[if_neg h1,if_neg];rintro⟨a,b⟩;by_cases z:p=m
    .subst z;rw[hc] at b;cases b
    .exact h1 ⟨by lia,b⟩
  | true =>
   have e:[m].filter (chB ks r)=[m]:=by simp[hc]
   rw[e,List.map_singleton,rL];have J:m < v.length:=by lia
   have O:=ih m;rw[if_neg (by lia)] at O;by_cases z:p=m
   .subst z;rw[aim (by rw[qi];exact J),if_pos ⟨by lia,hc⟩,afJ,O,afx J]
    rfl
   .rw[ajp (λy=>z y.symm),ih p];by_cases h1:p < m/\chB ks r p=true
    .rw[if_pos h1,if_pos ⟨by lia,h1.2⟩]
    .rw[if_neg h1,if_neg];rintro⟨a,b⟩;exact h1 ⟨by lia,b⟩
theorem aaU {ks J:List Str}{r:Rm}(m:tw J r.1=true):vo (fZ ks J) (hJ ks r)=fZ ks (n6 J r):=by
 apply ahu;intro p;unfold hJ;rw[acS _ (ki ks J) _ (afG _)];by_cases O:p < ks.length
 .rw[qD O,qD O];have S:(n6 J r).count (kAt ks p)=J.count (kAt ks p) - r.1.count (kAt ks p)+r.2.count (kAt ks p):=by
   unfold n6;rw[aiC,gf]
  have le:r.1.count (kAt ks p)<=J.count (kAt ks p):=by
   by_cases U:kAt ks p∈r.1
   .unfold tw at m;rw[agt] at m;exact agz (m _ U)
   .rw[agN U];exact af5 _
  rw[S];by_cases hb:chB ks r p=true
  .rw[if_pos ⟨O,hb⟩];have e:((J.count (kAt ks p) - r.1.count (kAt ks p)+r.2.count (kAt ks p):Nat):Int)=((J.count (kAt ks p):Nat):Int)+(((r.2.count (kAt ks p):Nat):Int) - ((r.1.count (kAt ks p):Nat):Int)):=by lia
   rw[e]
   rfl
  .rw[if_neg (λz=>hb z.2)];unfold chB at hb;rw[ahL,ahr,ahr,not_or] at hb;rw[agN hb.1,agN hb.2];simp
 .rw[if_neg (λz=>O z.1),agZ (by rw[ki];lia),agZ (by rw[ki];lia)]
def aeZ (s:Stmt):Expr:=match s with
 | .Assign _ e _=>e
 | _=>.Name "" ⟨0,0,0,0⟩
abbrev rmD (rs:List Rm)(i:Nat):Rm:=(rs[i]?).getD ([],[])
theorem next_iffD {rs:List Rm}{z:List Str}{o:List Nat}{i:Nat}:i∈iE rs z o↔i < rs.length/\i ∉ o/\tw z (rmD rs i).1=true:=by
 unfold iE;rw[agi,agP,agf,akb,akt]
theorem iN (ks:List Str)(rs:List Rm):cM ks rs []:=λj i e=>by simp at e
theorem cf {ks:List Str}{rs:List Rm}{o:List Nat}{i:Nat}(g:cM ks rs o)(hi:i∈iE rs (cQ ks rs o) o):cM ks rs (o++[i]):=by
 intro j k e;obtain⟨h1,h2,z⟩:=next_iffD.mp hi;by_cases J:j < o.length
 .rw[agj J] at e;rw[ag4 (by lia)];exact g j k e
 .rw[af8 (by lia)] at e;have:j - o.length=0:=by
   have:=(afA.mp e).1;simp at this;lia
  rw[this] at e;cases e;have O:j=o.length:=by lia
  subst O;rw[ag4 (afG _),agm];exact⟨h1,h2,z⟩
theorem di {ks:List Str}{rs:List Rm}{o:List Nat}{i:Nat}(g:cM ks rs (o++[i])):cM ks rs o/\i∈iE rs (cQ ks rs o) o:=by
 constructor
 .intro j k e;have z:j < o.length:=(afA.mp e).1;have:=g j k (by rw[agj z];exact e);rw[ag4 (by lia)] at this;exact this
 .have:=g o.length i (by simp);rw[ag4 (afG _),agm] at this;exact next_iffD.mpr this
theorem fV {p:List Nat->Prop}(J:p [])(O:∀ o i,p o->p (o++[i]))(o:List Nat):p o:=by
 have S:∀ n (o:List Nat),o.length=n->p o:=λn=>by
  induction n with
  | zero=>intro o e;rw[aij e];exact J
  | succ n U =>
   intro o e;rcases akT o with z | ⟨r,y,z⟩
   .subst z;cases e
   .rw[akU] at z;subst z;exact O r y (U r (by simpa using e))
 exact S _ o rfl
theorem aG {ks:List Str}{rs:List Rm}:∀ o,cM ks rs o->o.Nodup:=by
 refine fV (λ_=>.nil) λo i O g=>?_;obtain⟨S,U⟩:=di g;rw[aht];refine⟨O S,by simp,λa Y b J=>?_⟩;rw[afD] at J;subst J;exact λz=>(next_iffD.mp U).2.1 (z▸Y)
theorem gh {ks:List Str}{rs:List Rm}:∀ o,cM ks rs o->∀ i∈o,i < rs.length:=by
 refine fV (λ_ i z=>nomatch z) λo i J g k O=>?_;obtain⟨S,U⟩:=di g;rcases afV.mp O with z | z
 .exact J S k z
 .rw[afD] at z;subst z;exact (next_iffD.mp U).1
theorem fe:∀ {n:Nat} {o:List Nat},o.Nodup->(∀ i∈o,i < n)->o.length<=n
 | 0,[],_,_=>afG _
 | 0,a::_,_,lt=>absurd (lt a (afX ..)) (by lia)
 | n+1,o,nd,lt=>by
  have J:=fe (n:=n) (o:=o.erase n) (nd.erase n) λi hi=>by
   have:=lt i (List.mem_of_mem_erase hi);have:i≠n:=λz=>by subst z;exact (nd.not_mem_erase) hi
   lia
  by_cases O:n∈o
  .rw[aki O] at J;lia
  .rw[List.erase_of_not_mem O] at J;lia
theorem i8 {ks:List Str}{rs:List Rm}{o:List Nat}(g:cM ks rs o):o.length<=rs.length:=fe (aG o g) (gh o g)
theorem acr {z:List Str}{r:List Str}(m:tw z r=true)(k:Str):r.count k<=z.count k:=by
 by_cases J:k∈r
 .unfold tw at m;rw[agt] at m;exact agz (m _ J)
 .rw[agN J];exact af5 _
theorem nh {ks:List Str}{rs:List Rm}(k:Str):∀ o,cM ks rs o->(cQ ks rs o).count k+(o.flatMap λi=>(rmD rs i).1).count k=ks.count k+(o.flatMap λi=>(rmD rs i).2).count k:=by
 refine fV (λ_=>by simp[cQ]) λo i z g=>?_;obtain⟨J,O⟩:=di g;have:=z J;have le:=acr (next_iffD.mp O).2.2 k;rw[jr,List.flatMap_append,List.flatMap_append,aiC,aiC];unfold n6;rw[aiC,gf];simp only[List.flatMap_cons,List.flatMap_nil,agl];show (cQ ks rs o).count k - (rmD rs i).1.count k+(rmD rs i).2.count k+_=_;lia
theorem o8 {ks:List Str}{rs:List Rm}{o o':List Nat}(g:cM ks rs o)(g':cM ks rs o')(p:o.Perm o'):(cQ ks rs o).Perm (cQ ks rs o'):=by
 rw[List.perm_iff_count];intro k;have a:=nh k o g;have b:=nh k o' g';have c:=(p.flatMap_right λi=>(rmD rs i).1).count_eq k;have d:=(p.flatMap_right λi=>(rmD rs i).2).count_eq k;lia
theorem o9 {rs:List Rm}{J z:List Str}{o o':List Nat}(p:J.Perm z)(q:o.Perm o'):iE rs J o=iE rs z o':=by
 unfold iE;apply ajd;intro i _;have O:decide (i∈o)=decide (i∈o'):=agL.mpr q.mem_iff;have S:∀ l,tw J l=tw z l:=λl=>by
  unfold tw;congr 1;funext x;rw[p.count_eq]
 rw[O,S]
structure LevL (h:Hs)(n:Nat)(L:List (List Nat)):Prop where
 gone:∀ o∈L,cM h.1 h.2 o
 len:∀ o∈L,o.length=n
 nd:(L.map aO).Nodup
abbrev hU (h:Hs)(o:List Nat):List Nat:=iE h.2 (cQ h.1 h.2 o) o
theorem LevL.nil (h:Hs)(n:Nat):LevL h n []:=⟨λo z=>absurd z agA,λo z=>absurd z agA,aj1⟩
theorem LevL.snoc {h:Hs}{n:Nat}{M:List (List Nat)}(l:LevL h (n+1) M){o:List Nat}{i:Nat}(g:cM h.1 h.2 o)(e:o.length=n)(hi:i∈hU h o)(S:aO (o++[i]) ∉ M.map aO):LevL h (n+1) (M++[o++[i]]):=by
 refine⟨λx J=>?_,λx J=>?_,?_⟩
 .rcases afV.mp J with z | z
  .exact l.gone x z
  .rw[afD] at z;subst z;exact cf g hi
 .rcases afV.mp J with z | z
  .exact l.len x z
  .rw[afD] at z;subst z;simp[e]
 .rw[afY,aht];refine⟨l.nd,by simp,λa U b O=>?_⟩;rw[List.map_singleton,afD] at O;subst O;exact λz=>S (z▸U)
def adk (h:Hs)(n:Nat)(L:List (List Nat)):Prop:=∀ o,cM h.1 h.2 o->o.length=n->aO o∈L.map aO
theorem yg (h:Hs):adk h 0 [[]]:=λo g e=>by
 rw[aij e];simp
theorem yE {h:Hs}{n:Nat}{L M:List (List Nat)}(l:LevL h n L)(a:adk h n L)(k:∀ o∈L,∀ i∈hU h o,aO (o++[i])∈M.map aO):adk h (n+1) M:=λo' g e=>by
 rcases akT o' with z | ⟨o,i,z⟩
 .subst z;cases e
 .rw[akU] at z;subst z;obtain⟨O,Y⟩:=di g;obtain⟨J,S,U⟩:=afL.mp (a o O (by simpa using e));have p:=f9 (aG J (l.gone J S)) (aG o O) U;have Z:i∈hU h J:=by
   unfold hU;rw[o9 (o8 (l.gone J S) O p) p];exact Y
  have:=k J S i Z;rw[dZ,U,← dZ] at this;exact this
theorem yC {h:Hs}{n:Nat}{L:List (List Nat)}(l:LevL h n L)(ne:L≠[]):n<=h.2.length:=by
 cases L with
 | nil=>exact absurd rfl ne
 | cons o r=>rw[← l.len o (afX ..)];exact i8 (l.gone o (afX ..))
theorem zM {h:Hs}{n:Nat}{L:List (List Nat)}(l:LevL h n L):L.length<=2 ^ h.2.length:=by
 have:(L.map aO).length<=2 ^ h.2.length:=fe l.nd λi hi=>by
  obtain⟨o,z,rfl⟩:=afL.mp hi;exact qw (gh o (l.gone o z))
 simpa using this
end K7
namespace L2
open PySem PySem.Spec PyProof.Rows
section
variable {X:Cx}{P:Program}{w:World}{K:PySem.W.Frag}
theorem yB (z:X.K=K)(J:X.calm=true):eG X (.builtin "all") (λxs H Q=>∃ (p:Addr) (bs:List Bool),xs=[.ref p]/\SqL K H p (bs.map V.bl)/\Q (.bl (bs.all id)) H):=by
 subst z;exact fh J
theorem vJ {a:Expr}{ta:TA}{p pos:Pos}{es:List Expr}{kk:Nat}{z:Pos}(J:X.K=K)(O:Gl X "enumerate")(S:X.mg "enumerate" = none)(U:PA X [a] ta)(Y:starEach [a] X.env=[(false,eval a X.env)]:=by rfl):PI X (.Tuple es kk z) (.Call (.Name "enumerate" p) [a] [] pos) (aec K ta):=by
 subst J;exact t4 O S U Y
end
section
variable {X:Cx}
end
end L2
namespace L2
open PySem PySem.Spec PySem.Calls PyProof.Rows PySem.W
section
variable {prog:Program}{w:World}{A:Around}{E:Value->Shared->Prop}{s:Shared}{it d:Addr}{i ep:Nat}{es:Array DictEntry}
end
section
variable {prog:Program}{w:World}
end
section
variable {prog:Program}{w:World}{A:Around}{E:Value->Shared->Prop}
end
section
variable {prog:Program}{w:World}{A:Around}{E:Value->Shared->Prop}{s:Shared}
end
section
variable {X:Cx}{e:Expr}{te:TE}{p pos lp cp kp1 kp2:Pos}{j:Option Str}
end
section
variable {X:Cx}{k v:Expr}{tk tv:TE}{pos:Pos}
end
section
variable {prog:Program}{w:World}{A:Around}{E:Value->Shared->Prop}{s:Shared}
end
section
variable {X:Cx}{K:PySem.W.Frag}
end
end L2
namespace L2
open PySem PySem.Spec PyProof.Rows
def ady (tk tv:TE):TE:=λσ H Q=>∀ p,H p=none->tk σ (upd H p (.dK [])) λx H1=>tv σ H1 λy H2=>∃ k:Key,x=kV k/\H2 p=some (.dK [])/\Q (.ref p) (upd H2 p (.dK [(k,y)]))
section
variable {X:Cx}{k v:Expr}{tk tv:TE}{pos:Pos}
theorem abF (hk:PE X k tk)(hv:PE X v tv):PE X (.Dict [some k] [v] pos) (ady tk tv):=by
 intro pins s σ H Q I h;have hn:=I.hok.fresh (afG s.heap.objs.size);have I1:=I.laid (a:=s.heap.objs.size) (o:=.dK []) (h':=s.heap.push { cls:=.type "dict",data:=.dict #[] }) (t':=s.toks) (λ_ _ q=>afB _ q) (afG _) (qM s.heap I.big);rw[arm_eval_Dict,zip_pairTrees [some k] [v] X.env pos rfl rfl,dictDisplay_pairs _ (by intro z;have:=aky [some k] [v] X.env pos rfl rfl;rw[z] at this;cases this) (by rw[aky [some k] [v] X.env pos rfl rfl];show 1 < 17;decide)];refine afy (ag8 (afy ?_));unfold subDict;refine afy (ale (afy (agF ?_)));rw[if_pos (by rw[aky [some k] [v] X.env pos rfl rfl];show 1<=15;decide)];refine afy (thn ((abt hk hv (ac5 (X:=X))) pins _ σ _ (λps H2=>match ps with | [(x,y)]=>∃ k:Key,x=kV k/\H2 s.heap.objs.size=some (.dK [])/\Q (.ref s.heap.objs.size) (upd H2 s.heap.objs.size (.dK [(k,y)])) | _=>False) I1 (h _ hn)) λws s2 ⟨ps,H2,Y,S,J⟩=>?_);rcases S with _ | ⟨⟨r1,r2⟩,_ | _⟩
 .exact J.elim
 rotate_left
 .exact J.elim
 rename_i pv pr _;obtain⟨x,y⟩:=pv;obtain⟨u1,u2⟩:=pr;obtain⟨Z,ex,e,q⟩:=J;cases (show x=kV Z from ex);refine agF (afy ?_);rw[List.forIn_cons];obtain⟨z,hd,xs,rl,dd⟩:=ud Y.hok e;refine afy (afy (wpAny_dictSet_pairs (tR r1) dd (hsz:=by rw[← rl.length];exact z) λh' O hs=>?_));refine afE ?_;dsimp only;rw[List.forIn_nil];have U:∃ q,h'.get? s.heap.objs.size=some q:=let ⟨q,_,_,J,_⟩:=O;⟨q,J⟩;refine afE (afE (afE (afE ⟨.ref s.heap.objs.size,_,?_,rfl,q⟩)));exact nO Y (by rw[e];exact True.intro) hs U (xT (by show 1<=sizeLine;decide) hd (rl.put Z r2) O)
end
section
variable {prog:Program}{w:World}{A:Around}{R:Result->Shared->Prop}{s:Shared}
end
section
variable {X:Cx}
end
section
variable {prog:Program}{w:World}{A:Around}{E:Value->Shared->Prop}{R:Result->Shared->Prop}{s:Shared}
theorem ua {ex target iter ifs rest scope pos it acc env}
 (J:codeAny (model prog w) A (.compLoop (.SetComp ex (⟨target,iter,ifs,0⟩::rest) scope pos) 0 it acc env) R s)
 (h:wpAny (model prog w) A (pyIter it) (λz s'=>codeAny (model prog w) A (.compLoop (.SetComp ex (⟨target,iter,ifs,0⟩::rest) scope pos) 0 z acc env) R s')
  (notedBy (model prog w) A env λx s'=>R (.error x) s') s) :
 codeAny (model prog w) A (.compStart (.SetComp ex (⟨target,iter,ifs,0⟩::rest) scope pos) 0 it acc env) R s:=by
 refine ajD ?_;show wpAny _ A ((compStart (.SetComp ex (⟨target,iter,ifs,0⟩::rest) scope pos) 0 it acc env).onRaise (λx=>do noteFrame x env;standAt theWindowsPlace)) _ _ s;refine wpAny_notedAt ?_;unfold compStart;show wpAny _ A (ask >>= _) _ _ s;refine afy (aih (wpAny_ite ?_));split
 .first
   | exact afy (afE (afE (And.intro rfl J)))
   | exact afE (And.intro rfl J)
 .first
   | exact afy (ag9 (afy (ag8 (afy (agq h (λz s' h'=>afE (And.intro rfl h')) λ_ _ x=>x)))))
   | (refine afy (ag9 ?_);show wpAny _ _ (standAt iter.pos >>= _) _ _ s;exact afy (ag8 (afy (agq h (λz s' h'=>afE (And.intro rfl h')) λ_ _ x=>x))))
theorem acu {Q:Value->Shared->Prop}(h:Q (.ref s.heap.objs.size) { s with heap:=s.heap.push { cls:=.type "set",dict:=none,data:=.set #[] 0 (.fresh 0 0 (!w.params.followText "set-order")) } }) :
 wpAny (model prog w) A (newSet (.type "set")) Q E s:=by
 unfold newSet setsByText;refine afy (afy (aih (afE ?_)));dsimp only;simp only[newObj];exact afy (ale (afE h))
end
section
variable {X:Cx}
end
section
variable {P:Program}{w:World}{nl:Nat}{ix:List Nat}{g:TG}{tf:TT}{tk:TE}{σ:St}{H1:Hp}{D:Addr}{Q:VK}(Pv:Nat->List Str->Hp->Prop)
end
section
variable {X:Cx}{P:Program}{w:World}{outer scope:Scope}{N N':List Str}{nl:Nat}{ix:List Nat}{tg iter:Expr}{ifs:List Expr}{pos:Pos}{wi:TI}{g:TG}{tf:TT}
end
abbrev sc2 (ex t1 i1 t2 i2:Expr)(scope:Scope)(pos:Pos):Expr:=.SetComp ex [⟨t1,i1,[],0⟩,⟨t2,i2,[],0⟩] scope pos
theorem oG (S J O U z:Expr)(scope:Scope)(pos:Pos)(it:Value)(D:Addr)(env:Env) :
 compTurn (sc2 S J O U z scope pos) 0 it (.ref D) env=(do
  standAt O.pos
  match ← pyNext it with
  | none=>pure (.done .next)
  | some v =>
   letOwnedTupleGo J it v
   assign J env v
   let mut ok:=true
   for c in ([]:List Expr) do
    if ok then ok ← isTrue c env (eval c env)
   if ok then
    let x ← eval z env
    standAt z.pos
    let x ← foldedSetIterable z env x
    let _ ← runOwn (.compStart (sc2 S J O U z scope pos) 1 (← holding [x] (pyIter x)) (.ref D) env) env
   again (.compLoop (sc2 S J O U z scope pos) 0 it (.ref D) env)):=by rfl
theorem oC (z S U J O:Expr)(scope:Scope)(pos:Pos)(it:Value)(D:Addr)(env:Env) :
 compTurn (sc2 z S U J O scope pos) 1 it (.ref D) env=(do
  standAt O.pos
  match ← pyNext it with
  | none=>pure (.done .next)
  | some v =>
   letOwnedTupleGo J it v
   assign J env v
   let mut ok:=true
   for c in ([]:List Expr) do
    if ok then ok ← isTrue c env (eval c env)
   if ok then
    (do
     let v ← eval z env
     standAt z.pos
     let _ ← call (.builtin "set.add") [.ref D,v])
   again (.compLoop (sc2 z S U J O scope pos) 1 it (.ref D) env)):=by rfl
section
variable {prog:Program}{w:World}{A:Around}{R:Result->Shared->Prop}{s:Shared}
theorem rR {kx t1 i1 t2 i2:Expr}{scope:Scope}{pos:Pos}{it:Value}{D:Addr}{env:Env}(ao:∀ x,foldedSetIterable i2 env x=pure x)(I:Nat->Shared->Prop)
 (af:∀ n s,I n s->wpAny (model prog w) A (pyNext it) (λr s₁=>match r with
  | none=>R (.ok .next) s₁
  | some v=>wpAny (model prog w) A (letOwnedTupleGo t1 it v) (λ_ J=>wpAny (model prog w) A (assign t1 env v) (λ_ O =>
   wpAny (model prog w) A (eval i2 env) (λx S=>wpAny (model prog w) A (pyIter x) (λag U =>
    codeAny (model prog w) A (.compStart (sc2 kx t1 i1 t2 i2 scope pos) 1 ag (.ref D) env) (λr Y=>match r with | .ok _=>∃ m,m < n/\I m Y | .error _=>False) U) (λ_ _=>False) S) (λ_ _=>False) O) (λ_ _=>False) J) (λ_ _=>False) s₁) (λ_ _=>False) s)
 (n:Nat)(h:I n s) :
 codeAny (model prog w) A (.compLoop (sc2 kx t1 i1 t2 i2 scope pos) 0 it (.ref D) env) R s:=by
 have no:∀ {E:Value->Shared->Prop} (x:Value) (s:Shared),False->E x s:=λ_ _ z=>z.elim;refine akI rfl I (λn s hI=>?_) n h;show wpAny _ A ((compTurn (sc2 kx t1 i1 t2 i2 scope pos) 0 it (.ref D) env).onRaise (λx=>do noteFrame x env;theTreesLotGoes x)) _ _ s;refine alb ?_;rw[oG];refine afy (ag8 (afy (agq (af n s hI) (λr s₁ Z=>?_) no)));cases r with
 | none=>exact afE Z
 | some v =>
  refine afy (agq Z (λ_ J ac=>afy (agq ac (λ_ O ai=>afy (akH ?_)) no)) no);refine afy (agq ai (λx S aj=>afy (ag8 (afy (wpAny_of_eq (ao x) (afy (agF (agq aj (λag U ak=>?_) no))))))) no);refine afy (wpAny_runOwn (air ak λr Y aa=>?_));cases r with
  | ok f=>exact afE ⟨rfl,aa⟩
  | error e=>exact aa.elim
theorem tM {kx t1 i1 t2 i2:Expr}{scope:Scope}{pos:Pos}{it:Value}{D:Addr}{env:Env}(I:Nat->Shared->Prop)
 (aa:∀ n s,I n s->wpAny (model prog w) A (pyNext it) (λr s₁=>match r with
  | none=>R (.ok .next) s₁
  | some v=>wpAny (model prog w) A (letOwnedTupleGo t2 it v) (λ_ J=>wpAny (model prog w) A (assign t2 env v) (λ_ O =>
   wpAny (model prog w) A (eval kx env) (λkv S =>
    wpAny (model prog w) A (call (.builtin "set.add") [.ref D,kv]) (λ_ U=>∃ m,m < n/\I m U) (λ_ _=>False) S) (λ_ _=>False) O) (λ_ _=>False) J) (λ_ _=>False) s₁) (λ_ _=>False) s)
 (n:Nat)(h:I n s) :
 codeAny (model prog w) A (.compLoop (sc2 kx t1 i1 t2 i2 scope pos) 1 it (.ref D) env) R s:=by
 have no:∀ {E:Value->Shared->Prop} (x:Value) (s:Shared),False->E x s:=λ_ _ z=>z.elim;refine akI rfl I (λn s hI=>?_) n h;show wpAny _ A ((compTurn (sc2 kx t1 i1 t2 i2 scope pos) 1 it (.ref D) env).onRaise (λx=>do noteFrame x env;theTreesLotGoes x)) _ _ s;refine alb ?_;rw[oC];refine afy (ag8 (afy (agq (aa n s hI) (λr s₁ Y=>?_) no)));cases r with
 | none=>exact afE Y
 | some v =>
  refine afy (agq Y (λ_ J Z=>afy (agq Z (λ_ O ad=>afy (akH ?_)) no)) no);exact afy (afy (agq ad (λkv S ae=>afy (ag8 (afy (agq ae (λ_ U af=>afE (afE ⟨rfl,af⟩)) no)))) no))
theorem qk {O S U Y J:Expr}{scope:Scope}{pos:Pos}{it acc:Value}{env:Env}
 (Z:codeAny (model prog w) A (.compLoop (sc2 O S U Y J scope pos) 1 it acc env) R s)
 (h:wpAny (model prog w) A (pyIter it) (λz s'=>codeAny (model prog w) A (.compLoop (sc2 O S U Y J scope pos) 1 z acc env) R s')
  (notedBy (model prog w) A env λx s'=>R (.error x) s') s) :
 codeAny (model prog w) A (.compStart (sc2 O S U Y J scope pos) 1 it acc env) R s:=by
 refine ajD ?_;show wpAny _ A ((compStart (sc2 O S U Y J scope pos) 1 it acc env).onRaise (λx=>do noteFrame x env;standAt theWindowsPlace)) _ _ s;refine wpAny_notedAt ?_;unfold compStart;show wpAny _ A (ask >>= _) _ _ s;refine afy (aih (wpAny_ite ?_));split
 .first
   | exact afy (afE (afE (And.intro rfl Z)))
   | exact afE (And.intro rfl Z)
 .first
   | exact afy (ag9 (afy (ag8 (afy (agq h (λz s' h'=>afE (And.intro rfl h')) λ_ _ x=>x)))))
   | (refine afy (ag9 ?_);show wpAny _ _ (standAt J.pos >>= _) _ _ s;exact afy (ag8 (afy (agq h (λz s' h'=>afE (And.intro rfl h')) λ_ _ x=>x))))
end
def uL (P:Program)(w:World)(nl:Nat)(ix:List Nat)(wi:TI)(g:TG)(wi2:TI)(g2:TG)(tk:TE):TE:=λσ H Q=>wi σ H λJ H1=>∀ D,H1 D=none->∃ W:Nat->Nat->List Str->Hp->Prop,(∃ m,W 0 m [] (upd H1 D (lK P w D []))) ∧
 ∀ i m ys H2,W i m ys H2->H2 D=some (lK P w D ys)/\((J.stop i H2/\Q (.ref D) H2)\/(J.go i H2/\∀ x H3,J.yld i H2 x H3->g x (bM nl ix σ) H3 λσ4 H4=>(σ4.length=(bM nl ix σ).length/\σ4.drop nl=ix.map λj=>(σ[j]?).join) ∧
  wi2 σ4 H4 λJ2 H5=>∃ W2:Nat->Nat->List Str->Hp->Prop,(∃ m2,W2 0 m2 ys H5) ∧
   ∀ i2 m2 ys2 H6,W2 i2 m2 ys2 H6->H6 D=some (lK P w D ys2)/\((J2.stop i2 H6/\∃ m',m' < m/\W (i+1) m' ys2 H6)\/(J2.go i2 H6/\∀ x2 H7,J2.yld i2 H6 x2 H7->g2 x2 σ4 H7 λσ8 H8=>(σ8.length=σ4.length/\∀ (j:Nat) (v:V),σ4[j]? = some (some v)->σ8[j]? = some (some v)) ∧
    tk σ8 H8 λz H9=>∃ k:Str,z=.str k/\H9 D=some (lK P w D ys2)/\ys2.length+1 < scanBound/\∀ ys',((k∈ys2/\ys'=ys2)\/(k ∉ ys2/\ys'.Perm (ys2++[k])))->ys'.Nodup->∃ m',m' < m2/\W2 (i2+1) m' ys' (upd H9 D (lK P w D ys'))))))
section
variable {X:Cx}
theorem zh {P:Program}{w:World}{kx tg iter tg2 Z:Expr}{scope:Scope}{pos:Pos}{N':List Str}{nl:Nat}{ix:List Nat}{wi a6:TI}{g g2:TG}{tk:TE}(hP:X.prog=P)(hw:X.w=w)(hc:X.calm=true)(S:CompScope X scope)(Cp:abK X scope N' nl ix)(hi:PI X tg iter wi)
 (hg:∀ C fp s₀ H₀,PG (X.comp scope N' C fp s₀ H₀) tg g)(bF:∀ C fp s₀ H₀,PI (X.comp scope N' C fp s₀ H₀) tg2 Z a6)(bG:∀ C fp s₀ H₀,PG (X.comp scope N' C fp s₀ H₀) tg2 g2)
 (hk:∀ C fp s₀ H₀,PE (X.comp scope N' C fp s₀ H₀) kx tk)
 (hs:∀ x,foldedSetIterable iter X.env x=pure x:=by intro _;rfl)(bH:∀ C fp s₀ H₀ x,foldedSetIterable Z (X.comp scope N' C fp s₀ H₀).env x=pure x:=by intro _ _ _ _ _;rfl):PE X (sc2 kx tg iter tg2 Z scope pos) (uL P w nl ix wi g a6 g2 tk):=by
 subst hP hw;intro pins s σ H Q I h;rw[arm_eval_SetComp];refine ahz (use:=none) (cl:=jw X.env scope.names []) rfl hs (gr (S.cells I.ok)) S.kind S.loc ?_;refine thn (hi pins s σ H _ I h) λv s1 h1=>thn h1 λcA O h2=>?_;obtain⟨it,fp,tn,J,H2,rfl,I2,T,aO,f2,h2⟩:=h2;obtain⟨W,⟨m0,w0⟩,a7⟩:=h2 O.heap.objs.size I2.fresh;refine acu (aiD S.nocell (by intro y hy;simp at hy) (λap ad ae=>?_) S.kind);dsimp only at ad ae ⊢;have a8:∀ b∈fp,b < O.heap.objs.size:=λb U=>by
  obtain⟨o,e,_⟩:=T.obj 0 _ aO b U;exact afI e
 have I3:Inv X pins σ (upd H2 O.heap.objs.size (lK X.prog X.w O.heap.objs.size [])) { O with heap:=O.heap.push { cls:=.type "set",dict:=none,data:=.set #[] 0 (.fresh 0 0 (!X.w.params.followText "set-order")) },toks:=O.toks }:=I2.laid (a:=O.heap.objs.size) (o:=lK X.prog X.w O.heap.objs.size []) (t':=O.toks) (λ_ _ q=>afB _ q) (afG _) (ab5 (aaz X.prog X.w O.heap));have hD:(upd H2 O.heap.objs.size (lK X.prog X.w O.heap.objs.size [])) O.heap.objs.size=some (lK X.prog X.w O.heap.objs.size []):=af;have f3:∀ b∈fp,kA X pins (upd H2 O.heap.objs.size (lK X.prog X.w O.heap.objs.size [])) b:=λb U=>by
  refine⟨?_,(f2 b U).2⟩;rw[ao (afU (a8 b U))];exact (f2 b U).1
 generalize hS3:O.heap.push { cls:=.type "set",dict:=none,data:=.set #[] 0 (.fresh 0 0 (!X.w.params.followText "set-order")) }=g3 at ad ae I3 ⊢;have bL:g3.objs.size=O.heap.objs.size+1:=by rw[← hS3,agw]
 have aF:∀ b∈fp,b < ({ O with heap:=g3,toks:=O.toks }:Shared).heap.objs.size:=λb U=>by
  show b < g3.objs.size;rw[bL];exact agr (a8 b U)
 have aP:∀ b o,g3.get? b=some o->ap.get? b=some o:=λb o e=>ae.extBut b o (afU (afI e)) (afB _ e);have I4:=lR (tk:=O.toks+([]:List (Str×Value)).length) S Cp I3 f3 aF ad aP;generalize hX:X.comp scope N' g3.objs.size fp { O with heap:=g3,toks:=O.toks } (upd H2 O.heap.objs.size (lK X.prog X.w O.heap.objs.size []))=Y at *;have ah:Y.prog=X.prog:=by rw[← hX];rfl
 have ai:Y.w=X.w:=by rw[← hX];rfl
 have a9:Y.K=X.K:=by rw[← hX];rfl
 have bN:Y.A=X.A:=by rw[← hX];rfl
 have aA:Y.calm=true:=by rw[← hX];exact hc
 have aq:Y.xe=λ_ _=>False:=by rw[← hX];rfl
 have aQ:Y.ex=fp:=by rw[← hX];rfl
 have bO:Y.pn=[]:=by rw[← hX];rfl
 have ba:Y.env.locals=g3.objs.size:=by rw[← hX];rfl
 have bP:Y.env=compEnvC scope (jw X.env scope.names []) g3.objs.size X.env:=by rw[← hX];rfl
 have bb:=hg g3.objs.size fp { O with heap:=g3,toks:=O.toks } (upd H2 O.heap.objs.size (lK X.prog X.w O.heap.objs.size []));have aG:=bF g3.objs.size fp { O with heap:=g3,toks:=O.toks } (upd H2 O.heap.objs.size (lK X.prog X.w O.heap.objs.size []));have aH:=bG g3.objs.size fp { O with heap:=g3,toks:=O.toks } (upd H2 O.heap.objs.size (lK X.prog X.w O.heap.objs.size []));have bc:=hk g3.objs.size fp { O with heap:=g3,toks:=O.toks } (upd H2 O.heap.objs.size (lK X.prog X.w O.heap.objs.size []));have aI:=bH g3.objs.size fp { O with heap:=g3,toks:=O.toks } (upd H2 O.heap.objs.size (lK X.prog X.w O.heap.objs.size []));rw[hX] at bb aG aH bc aI;have aR:Inv Y [] (bM nl ix σ) (upd H2 O.heap.objs.size (lK X.prog X.w O.heap.objs.size [])) { O with heap:=ap,toks:=O.toks+([]:List (Str×Value)).length }:=I4;have bd:∀ {H':Hp} {σ':St} {pins':List (Addr×Obj)} {s':Shared} {h':Heap},Inv Y pins' σ' H' s'->Heap.SameBut g3.objs.size s'.heap h'->Inv X pins σ H' { s' with heap:=h' }:=λI' sb=>by
  subst hX;exact jX I3 f3 I' sb
 have ar:∀ {H':Hp},(∀ b∈fp,H' b=none)->∀ b∈fp,kA Y [] H' b:=λhn b U=>by
  refine⟨hn b U,?_,?_,.inl (by rw[aQ];exact U),?_,λp hp=>by rw[bO] at hp;cases hp⟩
  .rw[ba];exact afU (aF b U)
  .exact aR.ok.exfs b (by rw[aQ];exact U)
  .exact (aR.ok.exf b (by rw[aQ];exact U)).2
 have as:codeAny (model X.prog X.w) X.A (.compLoop (sc2 kx tg iter tg2 Z scope pos) 0 (.ref it) (.ref O.heap.objs.size) Y.env)
  (compPost (model X.prog X.w) X.A X.xe none (EP X pins σ Q) (.ref O.heap.objs.size) g3.objs.size) { O with heap:=ap,toks:=O.toks+([]:List (Str×Value)).length }:=by
  rw[← ah,← ai,← bN];refine rR aI (λn s'=>∃ i ys H',Inv Y [] (bM nl ix σ) H' s'/\tn i s'.heap/\(∀ b∈fp,H' b=none)/\W i n ys H') ?_ m0
   ⟨0,[],_,aR,T.keep _ _ _ aO (λb U o e=>aP b o (by rw[← hS3];exact afB _ e)),λb U=>(f3 b U).1,w0⟩
  rintro n s5 ⟨i,ys,H5,I5,be,bf,w5⟩;obtain⟨cH,aS⟩:=a7 i n ys H5 w5;rcases aS with ⟨bg,qn⟩ | ⟨go,step⟩
  .rw[ah,ai];refine thn (T.done Y ah ai a9 aA i [] s5 _ H5 _ I5 (ar bf) be bg) λr s6 ⟨hr,I6⟩=>?_;subst hr;obtain⟨m,hn,_⟩:=I6.loc;rw[ba] at hn;exact⟨m,hn,λh' sb=>⟨.ref O.heap.objs.size,H5,bd I6 sb,rfl,qn⟩⟩
  .have bh:=T.item Y ah ai a9 aA i [] s5 _ H5 (λ_ _=>False) I5 (ar bf) be go;rw[← ah,← ai] at bh;refine thn bh λr s6 ⟨u,hr,h6⟩=>?_;subst hr;refine thn h6 λ_ s7 ⟨x,H7,I7,r7,y7,aU,bQ⟩=>?_;have bR:=I7.pinned (ar bQ) (T.obj _ _ aU);have g7:=bb _ s7 _ H7 x u _ bR r7 (step x H7 y7);rw[aq] at g7;refine thn g7 λ_ s8 ⟨aB,H8,I8,⟨bS,bT⟩,q8⟩=>?_;have aV:∀ {ak:Hp} {al:Shared} {aa:List Str},Inv Y ([]++f7 fp s7.heap) aB ak al->(∃ m',m' < n/\W (i+1) m' aa ak)->∃ m,m < n/\∃ i ys H',Inv Y [] (bM nl ix σ) H' al/\tn i al.heap/\(∀ b∈fp,H' b=none)/\W i m ys H':=fun {ak al aa} au ⟨m',hm,w'⟩=>by
    refine⟨m',hm,i+1,aa,ak,hV au.unpinned bS bT,T.keep _ _ _ aU λb U o e=>(au.pin (b,o) (afQ _ (afQ _ (bo U e)))).1,λb U=>?_,w'⟩;obtain⟨o,e,d⟩:=T.obj _ _ aU b U;exact (au.pin (b,o) (afQ _ (afQ _ (bo U e)))).2.1
   have p8:=aG _ s8 aB H8 _ I8 q8;rw[aq] at p8;refine thn p8 λv2 s9 p9=>thn p9 λcr al bU=>?_;obtain⟨bV,av,bi,J2,ak,rfl,au,T2,aJ,bj,W2,⟨m2,w2⟩,aY⟩:=bU;have aj:∀ {H':Hp},(∀ b∈av,H' b=none)->∀ b∈av,kA Y ([]++f7 fp s7.heap) H' b:=λhn b U=>⟨hn b U,(bj b U).2⟩;have aw:codeAny (model Y.prog Y.w) Y.A (.compLoop (sc2 kx tg iter tg2 Z scope pos) 1 (.ref bV) (.ref O.heap.objs.size) Y.env)
    (λr aK=>match r with | .ok _=>∃ m,m < n/\∃ i ys H',Inv Y [] (bM nl ix σ) H' aK/\tn i aK.heap/\(∀ b∈fp,H' b=none)/\W i m ys H' | .error _=>False) al:=by
    refine tM (λn2 s'=>∃ i2 am H',Inv Y ([]++f7 fp s7.heap) aB H' s'/\bi i2 s'.heap/\(∀ b∈av,H' b=none)/\W2 i2 n2 am H') ?_ m2 ⟨0,ys,ak,au,aJ,λb U=>(bj b U).1,w2⟩;rintro n2 bk ⟨i2,am,ax,bn,aL,aM,bW⟩;obtain⟨cs,bp⟩:=aY i2 n2 am ax bW;rcases bp with ⟨aZ,bX⟩ | ⟨bY,a0⟩
    .refine thn (T2.done Y rfl rfl rfl aA i2 _ bk _ ax _ bn (aj aM) aL aZ) λr bZ ⟨hr,b0⟩=>?_;subst hr;exact aV b0 bX
    .have bq:=T2.item Y rfl rfl rfl aA i2 _ bk _ ax (λ_ _=>False) bn (aj aM) aL bY;refine thn bq λr bZ ⟨u2,hr,b1⟩=>?_;subst hr;refine thn b1 λ_ br ⟨x2,bt,b2,b3,b4,ay,bu⟩=>?_;have bv:=b2.pinned (aj bu) (T2.obj _ _ ay);have bw:=aH _ br _ bt x2 u2 _ bv b3 (a0 x2 bt b4);rw[aq] at bw;refine thn bw λ_ b5 ⟨az,b6,b7,⟨bx,bz⟩,b8⟩=>?_;have aC:∀ {aD:Hp} {aE:Shared} {aa:List Str},Inv Y ([]++f7 fp s7.heap++f7 av br.heap) az aD aE->(∃ m',m' < n2/\W2 (i2+1) m' aa aD)->∃ m,m < n2/\∃ i2 am H',Inv Y ([]++f7 fp s7.heap) aB H' aE/\bi i2 aE.heap/\(∀ b∈av,H' b=none)/\W2 i2 m am H':=fun {aD aE aa} a1 ⟨m',hm,w'⟩=>by
      refine⟨m',hm,i2+1,aa,aD,(a1.unpinned).weak bx.symm (λj v e=>bz j v e),T2.keep _ _ _ ay λb U o e=>(a1.pin (b,o) (afQ _ (afQ _ (bo U e)))).1,λb U=>?_,w'⟩;obtain⟨o,e,d⟩:=T2.obj _ _ ay b U;exact (a1.pin (b,o) (afQ _ (afQ _ (bo U e)))).2.1
     have e9:=bc _ b5 az b6 _ b7 b8;rw[aq] at e9;refine thn e9 λzv b9 ⟨z,ca,cb,cc,k,ez,bA,hz,mw⟩=>?_;subst ez;have aN:=wW (X:=Y) _ b9 az ca (.ref O.heap.objs.size) [.str k] (.ref O.heap.objs.size) [zv] (λ_ ax=>∃ m',m' < n2/\∃ aa,W2 (i2+1) m' aa ax) cb rfl (.cons cc .nil) ⟨_,am,k,rfl,rfl,by rw[ah,ai];exact bA,hz,λbB aS nd=>by
      obtain⟨m',hm,w'⟩:=mw bB aS nd;exact⟨m',hm,bB,by rw[ah,ai];exact w'⟩⟩
     rw[aq] at aN;refine thn aN λ_ c1 ⟨_,c2,ce,_,m',hm,aa,w'⟩=>?_;exact aC ce ⟨m',hm,w'⟩
   exact qk aw (T2.self _ 0 _ _ _ aJ aw)
 rw[bP] at as;exact ua as (T.self _ 0 _ _ _ (T.keep _ _ _ aO (λb U o e=>aP b o (by rw[← hS3];exact afB _ e))) as)
theorem adB {P:Program}{w:World}{kx tg iter tg2 z:Expr}{outer scope:Scope}{pos:Pos}{N N':List Str}{nl:Nat}{ix:List Nat}{wi J:TI}{g g2:TG}{tk:TE}(h1:X.env.scope=outer)(h2:X.N=N)(hc:X.calm=true)(hi:PI X tg iter wi)
 (hg:∀ C fp s₀ H₀,PG (X.comp scope N' C fp s₀ H₀) tg g)(O:∀ C fp s₀ H₀,PI (X.comp scope N' C fp s₀ H₀) tg2 z J)(U:∀ C fp s₀ H₀,PG (X.comp scope N' C fp s₀ H₀) tg2 g2)
 (hk:∀ C fp s₀ H₀,PE (X.comp scope N' C fp s₀ H₀) kx tk)(hP:X.prog=P:=by rfl)(hw:X.w=w:=by rfl)
 (Y:jO outer scope N N' nl ix=true:=by decide +kernel)(hs:∀ x,foldedSetIterable iter X.env x=pure x:=by intro _;rfl)(Z:∀ C fp s₀ H₀ x,foldedSetIterable z (X.comp scope N' C fp s₀ H₀).env x=pure x:=by intro _ _ _ _ _;rfl) :
 PE X (.SetComp kx [⟨tg,iter,[],0⟩,⟨tg2,z,[],0⟩] scope pos) (uL P w nl ix wi g J g2 tk) :=
 let ⟨S,Cp⟩:=jq h1 h2 Y
 zh hP hw hc S Cp hi hg O U hk hs Z
end
section
variable {X:Cx}{tg:Expr}
theorem vL {K:PySem.W.Frag}{l:Expr}{tl:TE}(z:X.K=K)(J:PE X l tl):PI X tg l (abl K tl):=by
 subst z;exact aL J
def z5 (sc outer:Scope):Scope:={ sc with names:=jD sc outer }
theorem wC {outer z:Scope}{N':List Str}{C:Addr}{fp:List Addr}{s₀:Shared}{H₀:Hp}(h1:X.env.scope=outer):(X.comp z N' C fp s₀ H₀).env.scope=z5 z outer:=by
 subst h1
 rfl
end
end L2
namespace L2
open PySem PySem.Spec PyProof.Rows PySem.W
section
variable {X:Cx}{pins:List (Addr×Obj)}{σ:St}{H:Hp}{s:Shared}{scope:Scope}{N':List Str}{fp:List Addr}{x:Str}
end
section
variable {X:Cx}
end
section
variable {X:Cx}{outer scope:Scope}{N N':List Str}{nl:Nat}{ix:List Nat}{tg iter:Expr}{ifs:List Expr}{pos:Pos}{wi:TI}{g:TG}{tf:TT}
end
def oU:Nat->List Str->List (Str×Addr)->List (Str×Addr)
 | _,[],acc=>acc
 | n,x::xs,acc=>oU (n+1) xs ((x,n)::acc)
def zY (h:Heap):Nat->Heap
 | 0=>h
 | k+1=>zY (h.push { cls:=.type "cell",data:=.cell none }) k
theorem i5:∀ (k:Nat) {h:Heap} {b:Addr} {o:Obj},h.get? b=some o->(zY h k).get? b=some o
 | 0,_,_,_,e=>e
 | k+1,_,_,_,e=>i5 k (afB _ e)
theorem jY {y:Str}{c:Addr}:∀ {xs:List Str} {n:Nat} {acc:List (Str×Addr)},(oU n xs acc).lookup y=some c->(y∈xs/\n<=c)\/(y ∉ xs/\acc.lookup y=some c)
 | [],_,_,e=>.inr ⟨agA,e⟩
 | x::xs,n,acc,e=>by
  rcases jY (xs:=xs) (n:=n+1) e with ⟨a,b⟩ | ⟨a,b⟩
  .exact .inl ⟨af6 _ a,by lia⟩
  .rw[ahl] at b;split at b
   .rename_i hb;injection b with b
    exact .inl ⟨by rw[show y=x by simpa using hb];exact afX,by lia⟩
   .rename_i hb;refine .inr ⟨λz=>?_,b⟩;rcases afZ.mp z with z | z
    .rw[z] at hb;simp at hb
    .exact a z
theorem yh {y z:Str}{c:Addr}:∀ {xs:List Str} {n:Nat} {acc:List (Str×Addr)},xs.Nodup->(oU n xs acc).lookup y=some c->(oU n xs acc).lookup z=some c->y∈xs->z∈xs->y=z
 | [],_,_,_,_,_,h,_=>nomatch h
 | x::xs,n,acc,nd,e1,e2,h1,h2=>by
  rw[ahJ] at nd;have at_:∀ {y:Str},(oU (n+1) xs ((x,n)::acc)).lookup y=some c->y∈x::xs->(y∈xs/\n+1<=c)\/(y=x/\c=n):=fun {y} e h=>by
   rcases jY e with ⟨a,b⟩ | ⟨a,b⟩
   .exact .inl ⟨a,b⟩
   .have S:y=x:=(afZ.mp h).resolve_right a;rw[ahl,S,ahm] at b;injection b with b
    exact .inr ⟨S,b.symm⟩
  rcases at_ e1 h1 with ⟨a,b⟩ | ⟨a,b⟩<;>rcases at_ e2 h2 with ⟨O,J⟩ | ⟨O,J⟩
  .exact yh nd.2 e1 e2 a O
  .rw[J] at b;exact absurd b (Nat.not_succ_le_self _)
  .rw[b] at J;exact absurd J (Nat.not_succ_le_self _)
  .rw[a,O]
theorem pU {y:Str}:∀ {xs:List Str} {n:Nat} {acc:List (Str×Addr)},(y∈xs\/∃ c,acc.lookup y=some c)->∃ c,(oU n xs acc).lookup y=some c
 | [],_,_,h=>h.elim (λz=>nomatch z) id
 | x::xs,n,acc,h=>by
  refine pU (xs:=xs) ?_;rcases h with h | ⟨c,h⟩
  .rcases afZ.mp h with h | h
   .exact .inr ⟨n,by rw[h,ahl,ahm]⟩
   .exact .inl h
  .refine .inr ?_;rw[ahl];split
   .exact⟨_,rfl⟩
   .exact⟨c,h⟩
theorem ve {y:Str}{c:Addr}:∀ {xs:List Str} {h:Heap} {acc:List (Str×Addr)},xs.Nodup->(oU h.objs.size xs acc).lookup y=some c->y∈xs->(zY h xs.length).IsCell c none
 | [],_,_,_,_,m=>nomatch m
 | x::xs,h,acc,nd,e,m=>by
  rw[ahJ] at nd;have J:(oU (h.push { cls:=.type "cell",data:=.cell none }).objs.size xs ((x,h.objs.size)::acc)).lookup y=some c:=by rw[agw];exact e
  by_cases z:y∈xs
  .exact ve (xs:=xs) (h:=h.push { cls:=.type "cell",data:=.cell none }) nd.2 J z
  .have O:y=x:=(afZ.mp m).resolve_right z;rcases jY J with ⟨a,_⟩ | ⟨_,b⟩
   .exact absurd a z
   .rw[ahl,O,ahm] at b;injection b with b
    subst b;exact⟨{ cls:=.type "cell",data:=.cell none },i5 xs.length (afK _ rfl),rfl⟩
theorem kG:∀ (names:List (Str×NameKind)) (xs:List Str) (n:Nat) (acc:List (Str×Addr)) (h:Heap),names.filter (λy=>y.2 == .cell)=xs.map (λx=>(x,NameKind.cell))->cellsFrom n names acc=oU n xs acc/\pushCells h names=zY h xs.length
 | [],[],_,_,_,_=>⟨rfl,rfl⟩
 | [],_::_,_,_,_,e=>by cases e
 | (a,k)::r,xs,n,acc,h,e=>by
  cases hk:(k == NameKind.cell) with
  | true =>
   rw[agM,if_pos hk] at e;cases xs with
   | nil=>cases e
   | cons x xs =>
    rw[af0] at e;injection e with e1 e2
    cases e1;unfold cellsFrom pushCells;rw[hk,if_pos rfl,if_pos rfl];exact kG r xs _ _ _ e2
  | false =>
   rw[agM,if_neg (by rw[hk];exact afC)] at e;unfold cellsFrom pushCells;rw[hk,if_neg afC,if_neg afC];exact kG r xs n acc h e
theorem uF {M:Model}{A:Around}{E:Value->Shared->Prop}{s:Shared}{xs:List Str}{scope:Scope}{O:Addr}{z:List (Str×Addr)}{qual:Str}{S:Option Addr}{U:Value}{outer:Env}{J:Addr}{Q:Env->Shared->Prop}
 (h1:scope.names.filter (λy=>y.2 == .cell)=xs.map (λx=>(x,NameKind.cell)))(nd:xs.Nodup)
 (hQ:∀ h',h'.Ns s.heap.objs.size (λ_=>none)->(∀ y c,(oU (s.heap.objs.size+1) xs z).lookup y=some c->y∈xs->h'.IsCell c none)->(∀ b o,s.heap.get? b=some o->h'.get? b=some o)->Q (newEnv scope s.heap.objs.size O (oU (s.heap.objs.size+1) xs z) qual S U (some outer) J) { s with heap:=h' }) :
 wpAny M A (newFunctionEnv scope O z [] qual S U (some outer) J) Q E s:=by
 simp only[newFunctionEnv,Option.isSome_some,ai7];refine afy (ale ?_);refine afy (wpAny_layCells _ (λname Y cells=>by cases hkc:Y == NameKind.cell<;>simp[hkc]) _ _ _ _ ?_);obtain⟨e1,e2⟩:=kG scope.names xs (s.heap.push { cls:=.type "dict",data:=.dict #[] }).objs.size z (s.heap.push { cls:=.type "dict",data:=.dict #[] }) h1;dsimp only;rw[e1,e2];rw[List.forIn_nil];refine afy (afE (afE ?_));have Z:∀ y c,(oU (s.heap.push { cls:=.type "dict",data:=.dict #[] }).objs.size xs z).lookup y=some c->y∈xs->(zY (s.heap.push { cls:=.type "dict",data:=.dict #[] }) xs.length).IsCell c none:=λy c e m=>ve nd e m;rw[agw] at Z ⊢;exact hQ _ ((Heap.Ns.new s.heap (.type "dict")).keeps λb o e=>i5 _ e) Z λb o e=>i5 _ (afB _ e)
def Cx.compCs (X:Cx)(scope:Scope)(xs:List Str)(N':List Str)(C:Addr)(fp:List Addr)(s₀:Shared)(H₀:Hp):Cx :=
 { X with N:=N',s₀:=s₀,H₀:=H₀,env:=compEnvC scope (oU (C+1) xs (jw X.env scope.names [])) C X.env,outer:=X.stack,stack:=X.stack,ex:=fp,fn:=λy=>xs.elem y,pn:=[],xe:=λ_ _=>False }
structure CompScopeCs (X:Cx)(scope:Scope)(xs:List Str):Prop where
 kind:scope.kind=.function
 one:scope.names.filter (λy=>y.2 == .cell)=xs.map (λx=>(x,NameKind.cell))
 nd:xs.Nodup
 loc:∀ y∈scope.names,y.2=.local->scope.names.lookup y.1=some .local
 free:∀ y∈scope.names,y.2=.free->X.env.kindOf y.1=some .cell
 not:∀ y∈scope.names,y.2=.free->y.1 ∉ xs
section
variable {X:Cx}{pins:List (Addr×Obj)}{σ:St}{H:Hp}{s:Shared}{scope:Scope}{N':List Str}{fp:List Addr}{xs:List Str}
theorem CompScopeCs.cells (S:CompScopeCs X scope xs)(ok:X.Ok):∀ y∈scope.names,y.2=.free->∃ c,X.env.cells.lookup y.1=some c:=λy z J=>ok.has y.1 (.inl (S.free y z J))
theorem CompScopeCs.sub (S:CompScopeCs X scope xs)(ok:X.Ok){y:Str}{c:Addr}(e:(jw X.env scope.names []).lookup y=some c):X.env.cells.lookup y=some c:=by
 rcases qt scope.names [] y c (S.cells ok) e with h | h
 .cases h
 .exact h
theorem CompScopeCs.its (S:CompScopeCs X scope xs){y:Str}(h:(y,NameKind.cell)∈scope.names):y∈xs:=by
 have:(y,NameKind.cell)∈scope.names.filter (λy=>y.2 == .cell):=agi.mpr ⟨h,ahm _⟩;rw[S.one] at this;obtain⟨x,z,e⟩:=afL.mp this;cases e;exact z
theorem CompScopeCs.look (S:CompScopeCs X scope xs)(ok:X.Ok){n:Nat}{y:Str}{c:Addr}(e:(oU n xs (jw X.env scope.names [])).lookup y=some c):(y∈xs/\n<=c)\/(y ∉ xs/\X.env.cells.lookup y=some c):=(jY e).imp id λz=>⟨z.1,S.sub ok z.2⟩
theorem CompScopeCs.ok (S:CompScopeCs X scope xs)(I:Inv X pins σ H s)(O:∀ b∈fp,kA X pins H b)(ho:∀ b∈fp,b < s.heap.objs.size):(X.compCs scope xs N' s.heap.objs.size fp s H).Ok where
 mod:=I.ok.mod
 kind:=S.kind
 glob:=I.ok.glob
 blt:=I.ok.blt
 above:=afG _
 inj:=λy z c e1 e2=>by
  have lt:∀ {y:Str},X.env.cells.lookup y=some c->c < s.heap.objs.size:=fun {y} e=>let ⟨v,q⟩:=I.cell y c e;q.lt;rcases S.look I.ok e1 with ⟨a1,U⟩ | ⟨_,a⟩<;>rcases S.look I.ok e2 with ⟨b1,b2⟩ | ⟨_,b⟩
  .exact yh S.nd e1 e2 a1 b1
  .exact absurd (afW (lt b) (afR (agV _) U)) (agB _)
  .exact absurd (afW (lt a) (afR (agV _) b2)) (agB _)
  .exact I.ok.inj y z c a b
 has:=λy Y=>by
  have Z:(relabel scope X.env).names.lookup y=some .cell\/(relabel scope X.env).names.lookup y=some .free:=Y;have key:y∈xs\/(y,NameKind.free)∈scope.names:=by
   rcases Z with h | h
   .obtain⟨k',h1,h2⟩:=gU h;rcases h2 with h2 | ⟨h2,_⟩
    .subst h2;exact .inl (S.its h1)
    .subst h2;exact .inr h1
   .obtain⟨k',h1,h2⟩:=gU h;rcases h2 with h2 | ⟨h2,h3⟩
    .subst h2;exact .inr h1
    .cases h3
  exact pU (key.imp id λz=>jJ scope.names [] y z)
 cab:=λy c h e=>by
  have Y:y∈xs:=by simpa [Cx.compCs] using h
  rcases S.look I.ok (show (oU (s.heap.objs.size+1) xs (jw X.env scope.names [])).lookup y=some c from e) with ⟨_,a⟩ | ⟨a,_⟩
  .exact afR (agV _) a
  .exact absurd Y a
 hd:=I.ok.hd
 frames:=I.ok.frames
 stk:=.inl rfl
 exf:=λb J=>⟨afU (ho b J),λy c e=>by
  rcases S.look I.ok (show (oU (s.heap.objs.size+1) xs (jw X.env scope.names [])).lookup y=some c from e) with ⟨_,U⟩ | ⟨_,a⟩
  .intro z;subst z;exact absurd (afW (ho _ J) (afR (agV _) U)) (agB _)
  .exact (O b J).2.2.2.2.1 y c a⟩
 bs:=I.bs
 bsz:=afR I.ok.bsz I.sz
 noex:=λb o e J=>by
  rcases (O b J).2.2.2.1 with h | h
  .exact I.ok.noex b o e h
  .exact absurd (afW (afI e) (afR I.ok.bsz h)) (agB _)
 exfs:=λb J hs=>by
  rcases afZ.mp (I.stkSub b hs) with h | h
  .exact (O b J).2.1 h
  .exact (O b J).2.2.1 h
 funs:=I.stack
 frf:=I.stkFree
theorem xk {nl:Nat}{ix:List Nat}{h1:Heap}{tk:Nat}(S:CompScopeCs X scope xs)(Cp:abK X scope N' nl ix)(I:Inv X pins σ H s)(hf:∀ b∈fp,kA X pins H b)(ho:∀ b∈fp,b < s.heap.objs.size)
 (hn:h1.Ns s.heap.objs.size (λ_=>none))(ad:∀ y c,(oU (s.heap.objs.size+1) xs (jw X.env scope.names [])).lookup y=some c->y∈xs->h1.IsCell c none)(hk:∀ b o,s.heap.get? b=some o->h1.get? b=some o):Inv (X.compCs scope xs N' s.heap.objs.size fp s H) [] (bM nl ix σ) H { s with heap:=h1,toks:=tk }:=by
 have ok:=S.ok (N':=N') I hf ho;refine⟨ok,rfl,I.bare,Un.kept hk,⟨_,hn,λi y v e1 e2 e3=>?_⟩,λy c e=>?_,I.hok.fresh (afG _),λy c e=>?_,λp hp=>by simp[Cx.compCs] at hp,I.hok.kept hk,?_⟩
 .unfold bM at e2;rw[ajq] at e2;split at e2
  .rw[ah9] at e2;split at e2<;>simp at e2
  .rename_i hi;rw[agY] at hi e2;rw[afF] at e2;cases ej:ix[i - nl]? with
   | none=>rw[ej] at e2;simp at e2
   | some j =>
    rw[ej] at e2;have J:(σ[j]?).join=some v:=by simpa using e2
    have Y:σ[j]? = some (some v):=by
     cases q:σ[j]? with
     | none=>rw[q] at J;simp at J
     | some z=>rw[q] at J;simp at J;rw[J]
    obtain⟨x',a1,a2,a3,a4,a5⟩:=Cp.at' _ _ ej;have af:nl+(i - nl)=i:=by lia
    rw[af] at a2;have Z:N'[i]? = some y:=e1;rw[a2] at Z;cases Z;obtain⟨m,hm,hl⟩:=I.loc;obtain⟨u,r,l⟩:=hl j y v a1 Y (.inr (.inl a3));refine⟨u,r,?_⟩;rcases l with ⟨k,_⟩ | ⟨_,c,ec,z⟩
    .rw[k] at a3;cases a3
    .obtain⟨c',O⟩:=jJ (env:=X.env) scope.names [] y a5;have aa:=S.sub I.ok O;rw[ec] at aa;cases aa;obtain⟨o,U,hd⟩:=z;have ah:(oU (s.heap.objs.size+1) xs (jw X.env scope.names [])).lookup y=some c:=by
      obtain⟨c3,h3⟩:=pU (xs:=xs) (n:=s.heap.objs.size+1) (acc:=jw X.env scope.names []) (y:=y) (.inr ⟨_,O⟩);rcases jY h3 with ⟨z,_⟩ | ⟨_,z⟩
      .exact absurd z (S.not _ a5 rfl)
      .rw[O] at z;cases z;exact h3
     exact .inr ⟨.inl a4,c,ah,o,hk _ _ U,hd⟩
 .rcases S.look I.ok (show (oU (s.heap.objs.size+1) xs (jw X.env scope.names [])).lookup y=some c from e) with ⟨z,_⟩ | ⟨_,a⟩
  .exact⟨_,ad y c e z⟩
  .obtain⟨v,o,U,hd⟩:=I.cell y c a;exact⟨v,o,hk _ _ U,hd⟩
 .rcases S.look I.ok (show (oU (s.heap.objs.size+1) xs (jw X.env scope.names [])).lookup y=some c from e) with ⟨_,z⟩ | ⟨_,a⟩
  .exact I.hok.fresh (afR (agV _) z)
  .exact I.freeC y c a
 .show (bM nl ix σ).length=N'.length;unfold bM;rw[afH,agY,afz,Cp.len]
theorem uA {H':Hp}{Z:St}{pins':List (Addr×Obj)}{s':Shared}{h':Heap}(I:Inv X pins σ H s)(U:∀ b∈fp,kA X pins H b)
 (S:Inv (X.compCs scope xs N' s.heap.objs.size fp s H) pins' Z H' s')(Y:Heap.SameBut s.heap.objs.size s'.heap h'):Inv X pins σ H' { s' with heap:=h' }:=by
 have lo:∀ b o,s.heap.get? b=some o->b≠s.heap.objs.size:=λb o e=>afU (afI e);have B:=S.base;refine I.call' (ch:=fp) (show s'.os=s.os from S.os) ⟨λb o e n J O=>?_,λb o e n J O=>?_,λb o e n O=>B.free b o e n O,λb o e O=>?_,B.tups,B.frzs,B.tbls⟩ (λb u e=>?_) S.bare λb J=>⟨(U b J).2.2.2.1,(U b J).2.1,(U b J).2.2.2.2.1,(U b J).2.2.2.2.2⟩
 .exact (Y.2 b (lo b o e)).trans (B.keep b o e n J O)
 .obtain⟨sl,q⟩:=B.slot b o e n J O;exact⟨sl,(Y.2 b (lo b o e)).trans q⟩
 .obtain⟨o',q⟩:=B.there b o e O;exact⟨o',(Y.2 b (lo b o e)).trans q⟩
 .have nl:H' s.heap.objs.size=none:=S.free;refine (S.hok b u e).stay (λc v hc q=>(Y.2 c ?_).trans q) (λ_ q=>q) λ_ _ q=>q;rintro rfl;rcases hc with z | z
  .rw[← z,nl] at e;cases e
  .rw[nl] at z;cases z
end
section
variable {X:Cx}
theorem xy {xs:List Str}{ar tg iter:Expr}{ifs:List Expr}{scope:Scope}{pos:Pos}{N':List Str}{nl:Nat}{ix:List Nat}{wi:TI}{g:TG}{tf:TT}{te:TE}(hc:X.calm=true)(S:CompScopeCs X scope xs)(Cp:abK X scope N' nl ix)(hi:PI X tg iter wi)
 (hg:∀ C fp s₀ H₀,PG (X.compCs scope xs N' C fp s₀ H₀) tg g)(hf:∀ C fp s₀ H₀,PIf (X.compCs scope xs N' C fp s₀ H₀) ifs tf)(he:∀ C fp s₀ H₀,PE (X.compCs scope xs N' C fp s₀ H₀) ar te)
 (hs:∀ x,foldedSetIterable iter X.env x=pure x:=by intro _;rfl):PE X (.ListComp ar [⟨tg,iter,ifs,0⟩] scope pos) (mX nl ix wi g tf te):=by
 intro pins s σ H Q I h;rw[eval_ListComp];refine ahz (use:=none) (cl:=jw X.env scope.names []) rfl hs (gr (S.cells I.ok)) S.kind S.loc ?_;refine thn (hi pins s σ H _ I h) λv s1 h1=>thn h1 λbt z h2=>?_;obtain⟨it,fp,tn,J,H2,rfl,I2,T,as,f2,h2⟩:=h2;obtain⟨W,⟨m0,w0⟩,az⟩:=h2 z.heap.objs.size I2.fresh;refine ahh (uF S.one S.nd (λag Y Z aa=>?_));dsimp only at Y Z aa ⊢;have aA:∀ b∈fp,b < z.heap.objs.size:=λb O=>by
  obtain⟨o,e,_⟩:=T.obj 0 _ as b O;exact afI e
 have I3:Inv X pins σ (upd H2 z.heap.objs.size (.lst [])) { z with heap:=z.heap.push { cls:=.type "list",data:=.seq ([]:List Value).toArray },toks:=z.toks }:=I2.lnew .nil (af5 _);have hD:(upd H2 z.heap.objs.size (.lst [])) z.heap.objs.size=some (.lst []):=af;have f3:∀ b∈fp,kA X pins (upd H2 z.heap.objs.size (.lst [])) b:=λb O=>by
  refine⟨?_,(f2 b O).2⟩;rw[ao (afU (aA b O))];exact (f2 b O).1
 generalize hS3:z.heap.push { cls:=.type "list",dict:=none,data:=.seq ([]:List Value).toArray }=g3 at Y Z aa I3 ⊢;have aU:g3.objs.size=z.heap.objs.size+1:=by rw[← hS3,agw]
 have aq:∀ b∈fp,b < ({ z with heap:=g3,toks:=z.toks }:Shared).heap.objs.size:=λb O=>by
  show b < g3.objs.size;rw[aU];exact agr (aA b O)
 have au:∀ b o,g3.get? b=some o->ag.get? b=some o:=aa;have I4:=xk (tk:=z.toks) S Cp I3 f3 aq Y Z au;generalize hX:X.compCs scope xs N' g3.objs.size fp { z with heap:=g3,toks:=z.toks } (upd H2 z.heap.objs.size (.lst []))=U at *;have ah:U.prog=X.prog:=by rw[← hX];rfl
 have ai:U.w=X.w:=by rw[← hX];rfl
 have aB:U.K=X.K:=by rw[← hX];rfl
 have aV:U.A=X.A:=by rw[← hX];rfl
 have aC:U.calm=true:=by rw[← hX];exact hc
 have an:U.xe=λ_ _=>False:=by rw[← hX];rfl
 have av:U.ex=fp:=by rw[← hX];rfl
 have aW:U.pn=[]:=by rw[← hX];rfl
 have aD:U.env.locals=g3.objs.size:=by rw[← hX];rfl
 have aX:U.env=compEnvC scope (oU (g3.objs.size+1) xs (jw X.env scope.names [])) g3.objs.size X.env:=by rw[← hX];rfl
 have aE:=hg g3.objs.size fp { z with heap:=g3,toks:=z.toks } (upd H2 z.heap.objs.size (.lst []));have aF:=hf g3.objs.size fp { z with heap:=g3,toks:=z.toks } (upd H2 z.heap.objs.size (.lst []));have aG:=he g3.objs.size fp { z with heap:=g3,toks:=z.toks } (upd H2 z.heap.objs.size (.lst []));rw[hX] at aE aF aG;have aw:Inv U [] (bM nl ix σ) (upd H2 z.heap.objs.size (.lst [])) { z with heap:=ag,toks:=z.toks }:=I4;have aH:∀ {H':Hp} {σ':St} {pins':List (Addr×Obj)} {s':Shared} {h':Heap},Inv U pins' σ' H' s'->Heap.SameBut g3.objs.size s'.heap h'->Inv X pins σ H' { s' with heap:=h' }:=λI' sb=>by
  subst hX;exact uA I3 f3 I' sb
 have aj:∀ {H':Hp},(∀ b∈fp,H' b=none)->∀ b∈fp,kA U [] H' b:=λhn b O=>by
  refine⟨hn b O,?_,?_,.inl (by rw[av];exact O),?_,λp hp=>by rw[aW] at hp;cases hp⟩
  .rw[aD];exact afU (aq b O)
  .exact aw.ok.exfs b (by rw[av];exact O)
  .exact (aw.ok.exf b (by rw[av];exact O)).2
 have ak:codeAny (model X.prog X.w) X.A (.compLoop (.ListComp ar [⟨tg,iter,ifs,0⟩] scope pos) 0 (.ref it) (.ref z.heap.objs.size) U.env)
  (compPost (model X.prog X.w) X.A X.xe none (EP X pins σ Q) (.ref z.heap.objs.size) g3.objs.size) { z with heap:=ag,toks:=z.toks }:=by
  rw[← ah,← ai,← aV];refine j9 (λn s'=>∃ i ys H',Inv U [] (bM nl ix σ) H' s'/\tn i s'.heap/\(∀ b∈fp,H' b=none)/\W i n ys H') ?_ m0
   ⟨0,[],_,aw,T.keep _ _ _ as (λb O o e=>au b o (by rw[← hS3];exact afB _ e)),λb O=>(f3 b O).1,w0⟩
  rintro n s5 ⟨i,ys,H5,I5,aI,aJ,w5⟩;obtain⟨bA,aY⟩:=az i n ys H5 w5;rcases aY with ⟨aK,qn⟩ | ⟨go,step⟩
  .rw[ah,ai];refine thn (T.done U ah ai aB aC i [] s5 _ H5 _ I5 (aj aJ) aI aK) λr s6 ⟨hr,I6⟩=>?_;subst hr;obtain⟨m,hn,_⟩:=I6.loc;rw[aD] at hn;exact⟨m,hn,λh' sb=>⟨.ref z.heap.objs.size,H5,aH I6 sb,rfl,qn⟩⟩
  .have aL:=T.item U ah ai aB aC i [] s5 _ H5 (λ_ _=>False) I5 (aj aJ) aI go;rw[← ah,← ai] at aL;refine thn aL λr s6 ⟨u,hr,h6⟩=>?_;subst hr;refine thn h6 λ_ s7 ⟨x,H7,I7,r7,y7,ax,a0⟩=>?_;have a1:=I7.pinned (aj a0) (T.obj _ _ ax);have g7:=aE _ s7 _ H7 x u _ a1 r7 (step x H7 y7);rw[an] at g7;refine thn g7 λ_ s8 ⟨ap,H8,I8,⟨a2,a3⟩,q8⟩=>?_;have f8:=aF _ s8 ap H8 _ I8 q8;rw[an] at f8;refine thn f8 λok s9 ⟨H9,I9,q9⟩=>?_;have al:∀ {ad:Hp} {ae:Shared} {ay:List V},Inv U ([]++f7 fp s7.heap) ap ad ae->(∃ m',m' < n/\W (i+1) m' ay ad)->∃ m,m < n/\∃ i ys H',Inv U [] (bM nl ix σ) H' ae/\tn i ae.heap/\(∀ b∈fp,H' b=none)/\W i m ys H':=fun {ad ae ay} am ⟨m',hm,w'⟩=>by
    refine⟨m',hm,i+1,ay,ad,hV am.unpinned a2 a3,T.keep _ _ _ ax λb O o e=>(am.pin (b,o) (afQ _ (afQ _ (bo O e)))).1,λb O=>?_,w'⟩;obtain⟨o,e,d⟩:=T.obj _ _ ax b O;exact (am.pin (b,o) (afQ _ (afQ _ (bo O e)))).2.1
   cases ok with
   | false =>
    rw[if_neg afC] at q9 ⊢;exact al I9 q9
   | true =>
    rw[if_pos rfl] at q9 ⊢;have e9:=aG _ s9 ap H9 _ I9 q9;rw[an] at e9;refine thn e9 λxv ae ⟨y,ad,am,a4,aM,hz,mw⟩=>?_;have aN:=cx (X:=U) _ ae ap ad (.ref z.heap.objs.size) [y] _ [xv] (λ_ H'=>H'=upd ad z.heap.objs.size (.lst (ys++[y]))) am rfl (.cons a4 .nil) ⟨_,ys,y,rfl,rfl,aM,hz,rfl⟩;rw[an] at aN;refine thn aN λ_ bU ⟨_,bV,a5,_,a6⟩=>?_;subst a6;exact al a5 mw
 rw[aX] at ak;exact ai4 ak (T.self _ 0 _ _ _ (T.keep _ _ _ as (λb O o e=>au b o (by rw[← hS3];exact afB _ e))) ak)
end
def qF (outer scope:Scope)(xs:List Str)(N N':List Str)(nl:Nat)(ix:List Nat):Bool :=
 (scope.kind == .function && decide (scope.names.filter (λy=>y.2 == .cell)=xs.map (λx=>(x,NameKind.cell))) && decide xs.Nodup && scope.names.all λy=>(y.2 != .local || scope.names.lookup y.1 == some .local) && (y.2 != .free || outer.names.lookup y.1 == some .cell) && (y.2 != .free || !xs.elem y.1)) &&
 (N'.length == nl+ix.length && (List.range ix.length).all λk=>match ix[k]? with
  | none=>false
  | some j=>match N[j]? with
   | none=>false
   | some x=>N'[nl+k]? == some x && outer.names.lookup x == some .cell && (jD scope outer).lookup x == some .cell && decide ((x,NameKind.free)∈scope.names))
theorem yL {X:Cx}{outer scope:Scope}{xs:List Str}{N N':List Str}{nl:Nat}{ix:List Nat}(h1:X.env.scope=outer)(h2:X.N=N)(h:qF outer scope xs N N' nl ix=true):CompScopeCs X scope xs/\abK X scope N' nl ix:=by
 unfold qF at h;simp only[agf,agt,aga,bne_iff_ne,ahL,ne_eq,agP,ahr] at h;obtain⟨⟨⟨⟨hk,O⟩,S⟩,U⟩,hl,hb⟩:=h;have Z:∀ x,X.env.kindOf x=outer.names.lookup x:=λx=>by rw[← h1];rfl
 refine⟨⟨hk,O,S,λx J e=>?_,λx J e=>?_,λx J e=>?_⟩,⟨hl,λk j e=>?_⟩⟩
 .exact (U x J).1.1.resolve_left λz=>z e
 .rw[Z];exact (U x J).1.2.resolve_left λz=>z e
 .have:=(U x J).2.resolve_left λz=>z e;simpa using this
 .have Y:k < ix.length:=(afA.mp e).1;have q:=hb k Y;rw[e] at q;simp only at q;cases ex:N[j]? with
  | none=>rw[ex] at q;simp at q
  | some x =>
   rw[ex] at q;simp only[agf,aga,ahr] at q;obtain⟨⟨⟨q1,q2⟩,q3⟩,q4⟩:=q;refine⟨x,by rw[h2];exact ex,q1,by rw[Z];exact q2,?_,q4⟩;have er:(relabel scope X.env).names=jD scope outer:=by rw[← h1];rfl
   rw[er];exact q3
section
variable {X:Cx}{outer scope:Scope}{N N':List Str}{nl:Nat}{ix:List Nat}{tg iter:Expr}{ifs:List Expr}{pos:Pos}{wi:TI}{g:TG}{tf:TT}
theorem zk {z:Expr}{te:TE}(xs:List Str)(h1:X.env.scope=outer)(h2:X.N=N)(O:X.calm=true)(hi:PI X tg iter wi)
 (U:∀ C fp s₀ H₀,PG (X.compCs scope xs N' C fp s₀ H₀) tg g)(Y:∀ C fp s₀ H₀,PIf (X.compCs scope xs N' C fp s₀ H₀) ifs tf)(Z:∀ C fp s₀ H₀,PE (X.compCs scope xs N' C fp s₀ H₀) z te)
 (J:qF outer scope xs N N' nl ix=true:=by decide +kernel)(hs:∀ x,foldedSetIterable iter X.env x=pure x:=by intro _;rfl):PE X (.ListComp z [⟨tg,iter,ifs,0⟩] scope pos) (mX nl ix wi g tf te) :=
 let ⟨S,Cp⟩:=yL h1 h2 J
 xy O S Cp hi U Y Z hs
theorem kQ {outer z:Scope}{xs:List Str}{N':List Str}{C:Addr}{fp:List Addr}{s₀:Shared}{H₀:Hp}(h1:X.env.scope=outer):(X.compCs z xs N' C fp s₀ H₀).env.scope=z5 z outer:=by
 subst h1
 rfl
end
end L2
namespace K7
open PySem L2 PyProof.Rows
def qH (s:Stmt):List Stmt:=match s with
 | .ClassDef _ _ _ b _ _ _ _ _ _ _=>b
 | _=>[]
abbrev aR:Stmt:=(qH (top 23)).getD 0 (.Pass ⟨0,0,0,0⟩)
abbrev cm:Stmt:=(qH (top 23)).getD 1 (.Pass ⟨0,0,0,0⟩)
abbrev aK:Stmt:=(qH (top 23)).getD 3 (.Pass ⟨0,0,0,0⟩)
theorem ak {H:Hp}{l:Addr}{o:HO}(n:H l=none):Same H (upd H l o):=λb u e=>by rw[ao (aj e n)];exact e
structure jR (K:PySem.W.Frag)(C:Addr):Prop where
 cls:Cls K C
 n1:NoAttr K C "at_first"
 n2:NoAttr K C "wants"
 n3:NoAttr K C "changes"
def PairsAt (H:Hp)(v:V)(cs:List (Nat×Int)):Prop:=∃ (a:Addr) (vs:List V),v=.ref a/\H a=some (.lst vs)/\vs.length=cs.length/\∀ (i:Nat) (x:V) (c:Nat×Int),vs[i]? = some x->cs[i]? = some c->∃ t:Addr,x=.ref t/\H t=some (.tup [.int ((c.1:Nat):Int),.int c.2])
theorem PairsAt.same {H H':Hp}{v:V}{J:List (Nat×Int)}(s:Same H H')(p:PairsAt H v J):PairsAt H' v J:=by
 obtain⟨a,vs,e,h,l,f⟩:=p;exact⟨a,vs,e,s _ _ h,l,λi x c a b=>(f i x c a b).imp λt z=>⟨z.1,s _ _ z.2⟩⟩
def RowsP (H:Hp)(a:Addr)(cs:List (List (Nat×Int))):Prop:=∃ vs:List V,H a=some (.lst vs)/\vs.length=cs.length/\∀ (i:Nat) (x:V) (c:List (Nat×Int)),vs[i]? = some x->cs[i]? = some c->PairsAt H x c
theorem RowsP.same {H H':Hp}{a:Addr}{z:List (List (Nat×Int))}(s:Same H H')(p:RowsP H a z):RowsP H' a z:=by
 obtain⟨vs,h,l,f⟩:=p;exact⟨vs,s _ _ h,l,λi x c a b=>(f i x c a b).same s⟩
inductive DoorsAt (C:Addr)(H:Hp)(d:Addr)(h:Hs)(ks:List Str):Prop
 | mk (dx l w c:Addr) (fs:List (Str×V)):H d=some (.ins C dx fs)->fs.lookup ("at_first" : Str)=some (.ref l)->fs.lookup ("wants" : Str)=some (.ref w)->fs.lookup ("changes" : Str)=some (.ref c)->fs.lookup ("hand_with" : Str)=none->fs.lookup ("next_behind" : Str)=none →
  H l=some (.lst ((fZ ks h.1).map V.int))->RowsP H w (h.2.map (bX ks))->RowsP H c (h.2.map (hJ ks))->fs.lookup ("hand_of" : Str)=none->DoorsAt C H d h ks
theorem DoorsAt.same {C:Addr}{H H':Hp}{d:Addr}{h:Hs}{ks:List Str}(s:Same H H')(p:DoorsAt C H d h ks):DoorsAt C H' d h ks:=by
 obtain⟨dx,l,w,c,fs,h1,h2,z,J,O,S,U,Y,Z,h0⟩:=p;exact⟨dx,l,w,c,fs,s _ _ h1,h2,z,J,O,S,s _ _ U,Y.same s,Z.same s,h0⟩
def qV:Sp:=λvs H Q _=>∃ (m i:Nat),vs=[.int (m:Int),.int (i:Int)]/\i<=1000/\∀ H',Same H H'->Q (.int ((m ||| 2 ^ i:Nat):Int)) H'
def aal:Sp:=λvs H Q _=>∃ (o:List Nat) (i:Nat),vs=[.int ((aO o:Nat):Int),.int (i:Int)]/\∀ H',Same H H'->Q (.bl (decide (i∈o))) H'
def yR (C:Addr):Sp:=λvs H Q _=>∃ (d a:Addr) (i:Nat) (h:Hs) (ks hand:List Str) (r:Rm),vs=[.ref d,.ref a,.int (i:Int)]/\DoorsAt C H d h ks/\h.2[i]? = some r/\H a=some (.lst ((fZ ks hand).map V.int))/\tw hand r.1=true/\h.2.length<=1000/\ks.length<=63/\∀ b H',Same H H'->H b=none->H' b=some (.lst ((fZ ks (n6 hand r)).map V.int))->Q (.ref b) H'
def zC (C:Addr):Sp:=λvs H Q _=>∃ (d a:Addr) (i:Nat) (h:Hs) (ks:List Str) (u:List Int) (r:Rm),vs=[.ref d,.ref a,.int (i:Int)]/\DoorsAt C H d h ks/\h.2[i]? = some r/\H a=some (.lst (u.map V.int))/\u.length=ks.length/\h.2.length<=1000/\ks.length<=63/\∀ b H',Same H H'->H b=none->H' b=some (.lst ((vo u (hJ ks r)).map V.int))->Q (.ref b) H'
inductive HwI (d a b:Addr)(i:Nat)(u:List Int)(ks:List Str)(r:Rm)(H:Hp)(j:Nat)(σ:L2.St)(H':Hp):Prop
 | mk (x4 x5:Option V):σ=[some (.ref d),some (.ref a),some (.int (i:Int)),some (.ref b),x4,x5]->H' b=some (.lst ((vo u ((hJ ks r).take j)).map V.int))->Same H H'->HwI d a b i u ks r H j σ H'
theorem FnOk.wk {P:Program}{w:World}{K:PySem.W.Frag}{mg:Str->Option Value}{base:Heap}{CX:CXT}{k:Nat}{f:Addr}{fd:FuncData}{ps:List Str}{sp z:Sp}(F:FnOk P w K mg base CX k f fd ps sp)(h:∀ vs H Q E,z vs H Q E->sp vs H Q E):FnOk P w K mg base CX k f fd ps z :=
 ⟨λvs H Q E x=>F.len vs H Q E (h _ _ _ _ x),λA outer s H args us vs Q E J e O r x=>F.run A outer s H args us vs Q E J e O r (h _ _ _ _ x)⟩
section
variable {P:Program}{w:World}{K:PySem.W.Frag}{mg:Str->Option Value}{base:Heap}
theorem rd:aA ["opened","number"] ["opened","number"] (ai iV):=scM rfl rfl rfl rfl (by decide +kernel)
theorem acg {f:Addr}{fd:FuncData}(F:Fun K "with_room" "with_room" iV f fd):FnOk P w K mg base CX0 1 f fd ["opened","number"] qV:=by
 refine F.ok rd (λvs H Q E h=>?_) (λz A outer s H vs Q E J h=>?_)
 .obtain⟨m,i,rfl,_⟩:=h
  rfl
 .have O:=du J;obtain⟨m,i,rfl,hi,q⟩:=h;refine⟨_,(aq (aD (bN aet (pv 0) (bN adG ar (pv 1))))),?_⟩;have e:(m ||| 2 ^ i:Nat)=(Builtin.bitOr (m:Int) (1 * 2 ^ (i:Int).toNat)):=by
   rw[agk,Int.one_mul,show ((2:Int) ^ i)=((2 ^ i:Nat):Int) by simp,zF]
  refine⟨_,rfl,_,rfl,1,(i:Int),rfl,rfl,⟨by lia,by lia,by decide⟩,(m:Int),_,rfl,rfl,?_⟩;have:=q H (Same.refl H);rw[e] at this;exact this
theorem uz:aA ["opened","number"] ["opened","number"] (ai jx):=scM rfl rfl rfl rfl (by decide +kernel)
theorem adS {f:Addr}{fd:FuncData}(F:Fun K "has_room" "has_room" jx f fd):FnOk P w K mg base CX0 1 f fd ["opened","number"] aal:=by
 refine F.ok uz (λvs H Q E h=>?_) (λJ A outer s H vs Q E O h=>?_)
 .obtain⟨m,i,rfl,_⟩:=h
  rfl
 .have S:=du O;obtain⟨o,i,rfl,q⟩:=h;refine⟨_,(aq (aD (fQ jt (bN adp (bN aeg (pv 0) (pv 1)) ar) ar (aP _)))),?_⟩;refine⟨_,rfl,_,rfl,_,_,rfl,rfl,by lia,_,_,rfl,rfl,rfl,?_⟩;have e:decide (V.int (Builtin.bitAnd (((aO o:Nat):Int) / 2 ^ ((i:Int)).toNat) 1)=V.int 1)=decide (i∈o):=by
   by_cases hi:i∈o
   .rw[afM hi,yQ,if_pos hi];exact afM rfl
   .rw[afS hi,yQ,if_neg hi];exact afS (λz=>by cases z)
  have:=q H (Same.refl H);rw[← e] at this;exact this
theorem cq:aA ["self","hand","number","behind","place","change"] ["self","hand","number"] (ai cm):=scM rfl rfl rfl rfl (by decide +kernel)
theorem u7 {f:Addr}{fd:FuncData}{C:Addr}(F:Fun K "hand_with" "Doors.hand_with" cm f fd)(DC:jR K C)(aJ:mg "list" = none):FnOk P w K mg base CX0 1 f fd ["self","hand","number"] (zC C):=by
 refine F.ok cq (λvs H Q E h=>?_) (λaA A outer s H vs Q E hr h=>?_)
 .obtain⟨d,a,i,h,ks,u,r,rfl,_⟩:=h
  rfl
 .have hu:=du hr;obtain⟨d,a,i,h,ks,u,r,rfl,D,hi,ha,S,hl,hk,q⟩:=h;refine⟨_,(ah (az (i:=3) cq.nd rfl (.inl rfl) (aV bO rfl aJ (by decide +kernel) (ae (pv 1) ag)))
   (ah (bp (d9 agx rfl (aL (bR bq (vg (pv 0) rfl) (pv 2) (λ_ _=>rfl))) (mR rfl (aI (av (i:=4) cq.nd rfl (.inl rfl)) (aI (av (i:=5) cq.nd rfl (.inl rfl)) dB)))
    (aq (acM (pv 3) (pv 4) aaV (pv 5) adL iY))))
   (aq (aD (pv 3))))),?_⟩
  refine⟨_,rfl,a,_,rfl,.inl (aAA ha),λb nb=>?_⟩;obtain⟨dx,l,w',c,fs,h1,h2,h3,h4,h5,h6,h7,h8,⟨vs,h9,ac,ad⟩,h0⟩:=D;have U:i < vs.length:=by have:=(afA.mp hi).1;rw[ac,afz];exact this
  obtain⟨ca,us,ev,J,ul,ai⟩:=ad i vs[i] (hJ ks r) (afx U) (by rw[afF,hi];rfl);have Z:Same H (upd H b (.lst ((u).map V.int))):=ak nb;have e1:(upd H b (.lst ((u).map V.int))) b=some (.lst ((u).map V.int)):=af;generalize upd H b (.lst ((u).map V.int))=H1 at *;have cb:ca≠b:=aj J nb;refine⟨HwI d a b i u ks r H us.length,?_,?_⟩
  .rintro σ H2 ⟨x4,x5,rfl,Y,s2⟩;rw[ul,agm] at Y;exact⟨_,rfl,q b H2 s2 nb Y⟩
  .refine⟨_,rfl,d,C,dx,fs,_,rfl,Z _ _ h1,DC.cls,DC.n3,h4,_,rfl,c,vs,_,_,rfl,rfl,aAA (Z _ _ h9),bU (afx U),ca,ev,⟨_,aAA (Z _ _ J)⟩,?_⟩;refine gS (xs:=us) (λj al H'=>HwI d a b i u ks r H j al H') ⟨none,none,rfl,e1,Z⟩ (λj σ H' _ ⟨_,_,_,_,sm⟩=>aAA (sm _ _ J)) ?_ (λσ H' z=>z);rintro j x σ H2 hx ⟨x4,x5,rfl,Y,s2⟩;have hj:j < (hJ ks r).length:=by rw[← ul];exact (afA.mp hx).1
   obtain⟨t,rfl,ht⟩:=ai j x _ hx (afx hj);generalize ec:(hJ ks r)[j]=O at *;have tk:(hJ ks r).take (j+1)=(hJ ks r).take j++[O]:=by rw[agh,afx hj,ec];rfl
   have hp:O.1 < ks.length:=by
    have:O∈hJ ks r:=by rw[← ec];exact agg hj
    obtain⟨p,hp,rfl⟩:=afL.mp this;exact agP.mp (agi.mp hp).1
   have vl:(vo (u) ((hJ ks r).take j)).length=ks.length:=by rw[qi,S]
   refine⟨t,_,rfl,aAB (s2 _ _ ht),rfl,?_⟩;have hg:((vo (u) ((hJ ks r).take j)).map V.int)[O.1]? = some (.int ((vo (u) ((hJ ks r).take j)).getD O.1 0)):=by
    rw[afF,afJ,afx (by rw[vl];exact hp)]
    rfl
   refine⟨_,_,rfl,_,_,rfl,rfl,?_⟩;refine⟨_,rfl,_,rfl,b,_,O.1,_,rfl,rfl,aAA Y,hg,_,rfl,_,_,rfl,rfl,b,_,_,O.1,rfl,rfl,Y,?_,?_⟩
   .unfold ixN;rw[if_pos (by lia),if_pos (by rw[afz,vl];lia)];simp
   .refine⟨_,_,rfl,?_,λz y e=>?_⟩
    .rw[af,tk,rL,List.map_set]
    .rw[ao (aj e nb)];exact s2 _ _ e
theorem aaJ {f:Addr}{fd:FuncData}{C:Addr}(F:Fun K "hand_with" "Doors.hand_with" cm f fd)(J:jR K C)(O:mg "list" = none):FnOk P w K mg base CX0 1 f fd ["self","hand","number"] (yR C) :=
 FnOk.wk (u7 F J O) λvs H Q E ⟨d,a,i,h,ks,z,r,e,D,hi,S,U,Y,Z,q⟩=>⟨d,a,i,h,ks,fZ ks z,r,e,D,hi,S,ki ks z,Y,Z,λb H' s n x=>q b H' s n (by rw[← aaU U];exact x)⟩
def aaX (h:Hs):Prop:=∀ L:List Str,L.Nodup->(∀ k∈L,∃ r∈h.2,k∈r.1)->L.length<=63
def oN (H H':Hp):Hp:=λb=>match H b with | some _=>none | none=>H' b
theorem pS {H H':Hp}{b:Addr}{o:HO}(n:H b=none)(e:H' b=some o):oN H H' b=some o:=by unfold oN;rw[n];exact e
theorem lW {H H':Hp}:Same (oN H H') H':=λb u e=>by
 unfold oN at e;split at e
 .cases e
 .exact e
inductive CpI (D:Addr)(pb:Nat->Bool)(gv:Nat->Int)(H:Hp)(i:Nat)(ys:List V)(H':Hp):Prop
 | mk:H' D=some (.lst ys)->Same H H'->ys.length=((List.range i).filter pb).length->(∀ (j:Nat) (x:V) (c:Nat×Int),ys[j]? = some x->(((List.range i).filter pb).map λp=>(p,gv p))[j]? = some c->∃ T:Addr,x=.ref T/\H T=none/\T≠D/\H' T=some (.tup [.int ((c.1:Nat):Int),.int c.2]))->CpI D pb gv H i ys H'
theorem ph {K:PySem.W.Frag}{nl:Nat}{ix:List Nat}{tf:TT}{te:TE}{σ:L2.St}{H1:Hp}{D a:Addr}{Q:VK}{ks:List Str}{pb:Nat->Bool}{gv:Nat->Int}(ha:H1 a=some (.lst (ks.map V.str)))(nD:H1 D=none)(av:ks.length<=63)
 (hc:∀ x y,(((bM nl ix σ).set 0 (some x)).set 1 (some y)).drop nl=ix.map λj=>(σ[j]?).join)
 (ht:∀ (H:Hp) (p:Nat) (R:Bool->Hp->Prop),p < ks.length->Same H1 H->R (pb p) H->tf (((bM nl ix σ).set 0 (some (.int ((p:Nat):Int)))).set 1 (some (.str (kAt ks p)))) H R)
 (he:∀ (H:Hp) (p:Nat) (R:VK),p < ks.length->Same H1 H->(∀ T,H T=none->R (.ref T) (upd H T (.tup [.int ((p:Nat):Int),.int (gv p)])))->te (((bM nl ix σ).set 0 (some (.int ((p:Nat):Int)))).set 1 (some (.str (kAt ks p)))) H R)
 (hd:∀ H' x,Same H1 H'->PairsAt (oN H1 H') x (((List.range ks.length).filter pb).map λp=>(p,gv p))->Q x H'):gi nl ix (adq K 2 (uB (bu 0) (uB (bu 1) aeo))) tf te σ (ItE K a) H1 D Q:=by
 have aA:1000000 < sizeLine:=by decide
 refine rN (xs:=ks.map V.str) (CpI D pb gv H1) (.mk af (ak nD) rfl (λj x c e=>nomatch e)) (λi ys H' ⟨e,_,_,_⟩=>e) (λi ys H' ⟨_,s,_,_⟩=>aAA (s _ _ ha)) ?_ ?_
 .rintro i ys H x T hx ⟨hD,s,S,al⟩ nT;have Y:i < (ks.map V.str).length:=(afA.mp hx).1;have hi:i < ks.length:=by rwa [afz] at Y
  rw[afF,xQ hi] at hx;cases hx;have U:Same H (upd H T (.tup [.int (i:Int),.str (kAt ks i)])):=ak nT;have e2:(upd H T (.tup [.int (i:Int),.str (kAt ks i)])) T=some (.tup [.int (i:Int),.str (kAt ks i)]):=af;generalize upd H T (.tup [.int (i:Int),.str (kAt ks i)])=H2 at *;have lf:((List.range i).filter pb).length<=i:=afR (agv _ _) (by rw[agK];exact afG _);refine⟨T,_,rfl,aAB e2,rfl,?_⟩;refine⟨_,_,rfl,_,_,rfl,rfl,⟨by simp,hc _ _⟩,?_⟩;refine ht H2 i _ hi (s.trans U) ?_;have ae:∀ (j:Nat) (x:V) (c:Nat×Int),ys[j]? = some x->(((List.range i).filter pb).map λp=>(p,gv p))[j]? = some c->∃ T:Addr,x=.ref T/\H1 T=none/\T≠D/\H2 T=some (.tup [.int ((c.1:Nat):Int),.int c.2]):=λj x c e1 e2=>by
   obtain⟨T,e,n,nd,Z⟩:=al j x c e1 e2;exact⟨T,e,n,nd,U _ _ Z⟩
  cases eb:pb i with
  | true =>
   refine dt ?_;refine he H2 i _ hi (s.trans U) λT2 O=>?_;have ag:=U _ _ hD;have ne:T2≠D:=λz=>by subst z;rw[ag] at O;cases O
   have n1:H1 T2=none:=(s.trans U).free O;have J:(List.range (i+1)).filter pb=(List.range i).filter pb++[i]:=by rw[ahy,agd];simp[eb]
   refine⟨by rw[ao (λz=>ne z.symm)];exact ag,by lia,nx Y (.mk af (λb u e=>?_) (by rw[J,afH,afH,S];rfl) λj x c ey ec=>?_)⟩
   .rw[ao (aj e nD),ao (aj e n1)];exact U _ _ (s _ _ e)
   .rw[J,afY] at ec;by_cases hj:j < ys.length
    .rw[agj hj] at ey;rw[agj (by rw[afz,← S];exact hj)] at ec;obtain⟨T,e,n,nd,Z⟩:=ae j x c ey ec;exact⟨T,e,n,nd,by rw[ao nd,ao (aj Z O)];exact Z⟩
    .rw[af8 (by lia)] at ey;rw[af8 (by rw[afz,← S];lia),afz,← S] at ec;have:j - ys.length=0:=by
      have:=(afA.mp ey).1;simp at this;lia
     rw[this] at ey ec;cases ey;cases ec;exact⟨T2,rfl,n1,ne,by rw[ao ne,af]⟩
  | false =>
   refine cu ?_;have J:(List.range (i+1)).filter pb=(List.range i).filter pb:=by rw[ahy,agd];simp[eb]
   exact nx Y (.mk (U _ _ hD) (s.trans U) (by rw[J];exact S) (by rw[J];exact ae))
 .rintro ys H ⟨hD,s,S,al⟩;rw[afz] at S al;refine hd H (.ref D) s ⟨D,ys,rfl,pS nD hD,by rw[afz];exact S,λj x c e1 e2=>?_⟩;obtain⟨T,e,n,nd,Z⟩:=al j x c e1 e2;exact⟨T,e,pS n Z⟩
def eI (D:Addr)(H:Hp):Hp:=λb=>if b=D then none else H b
theorem lS {D:Addr}{H:Hp}:Same (eI D H) H:=λb u e=>by
 unfold eI at e;split at e
 .cases e
 .exact e
theorem aa0 {D:Addr}{H H':Hp}{o:HO}(s:Same H H'):Same (eI D H) (eI D (upd H' D o)):=λb u e=>by
 unfold eI at e ⊢;split at e
 .cases e
 .rename_i hb;rw[if_neg hb,ao hb];exact s _ _ e
theorem aa5 {D:Addr}{H H':Hp}{o o':HO}(h:H D=some o):Same (oN H H') (eI D (upd H' D o')):=λb u e=>by
 unfold oN at e;split at e
 .cases e
 .rename_i hb;have nb:b≠D:=λz=>by subst z;rw[h] at hb;cases hb
  unfold eI;rw[if_neg nb,ao nb];exact e
inductive CrI (D:Addr)(cs:List (List (Nat×Int)))(H:Hp)(i:Nat)(ys:List V)(H':Hp):Prop
 | mk:H' D=some (.lst ys)->Same H H'->ys.length=(cs.take i).length->(∀ (j:Nat) (x:V) (c:List (Nat×Int)),ys[j]? = some x->cs[j]? = some c->PairsAt (eI D H') x c)->CrI D cs H i ys H'
theorem oW {K:PySem.W.Frag}{nl:Nat}{ix:List Nat}{te:TE}{σ:L2.St}{H1:Hp}{D a:Addr}{Q:VK}{vs:List V}{rs:List Rm}{F:Rm->List (Nat×Int)}(ha:H1 a=some (.lst vs))(hR:RoomsAt H1 vs rs)(nD:H1 D=none)(hl:rs.length<=1000)
 (hc:∀ x y,(((bM nl ix σ).set 0 (some x)).set 1 (some y)).drop nl=ix.map λj=>(σ[j]?).join)
 (he:∀ (H:Hp) (r:Rm) (S U:Addr) (R:VK),r∈rs->H S=some (.lst (r.1.map V.str))->H U=some (.lst (r.2.map V.str))->Same H1 H->(∀ H' x,Same H H'->PairsAt (oN H H') x (F r)->R x H')->te (((bM nl ix σ).set 0 (some (.ref S))).set 1 (some (.ref U))) H R)
 (hd:∀ H',Same H1 H'->RowsP H' D (rs.map F)->Q (.ref D) H'):gi nl ix (adq K 2 (uB (bu 0) (uB (bu 1) aeo))) uI te σ (Itl K a) H1 D Q:=by
 have au:1000000 < sizeLine:=by decide
 have vl:=hR.1;refine cN (xs:=vs) (CrI D (rs.map F) H1) (.mk af (ak nD) rfl (λj x c e=>nomatch e)) (λi ys H' ⟨e,_,_,_⟩=>e) (λi ys H' ⟨_,s,_,_⟩=>aAA (s _ _ ha)) ?_ ?_
 .rintro i ys H x hx ⟨Y,s,Z,al⟩;have hi:i < vs.length:=(afA.mp hx).1;have J:i < rs.length:=by lia
  obtain⟨t,S,U,rfl,ht,ac,ad⟩:=hR.2 i x _ hx (afx J);have ae:ys.length=i:=by rw[Z,af7,afz];lia
  refine⟨t,_,rfl,aAB (s _ _ ht),rfl,?_⟩;refine⟨_,_,rfl,_,_,rfl,rfl,⟨by simp,hc _ _⟩,?_⟩;unfold uI;dsimp only;refine dt (B:=False) ?_;refine he H rs[i] S U _ (agg J) (s _ _ ac) (s _ _ ad) s λH2 x s2 pa=>?_;refine⟨s2 _ _ Y,by lia,nx hi (.mk af (λb u e=>by rw[ao (aj e nD)];exact s2 _ _ (s _ _ e)) ?_ λj y c O ec=>?_)⟩
  .rw[afH,ae,af7,afz];simp;lia
  .by_cases hj:j < ys.length
   .rw[agj hj] at O;exact (al j y c O ec).same (aa0 s2)
   .rw[af8 (by lia)] at O;have z:j - ys.length=0:=by
     have:=(afA.mp O).1;simp at this;lia
    have ji:j=i:=by lia
    rw[z] at O;cases O;subst ji;rw[afF,afx J] at ec;cases ec;exact pa.same (aa5 Y)
 .rintro ys H ⟨Y,s,Z,al⟩;refine hd H s ⟨ys,Y,?_,λj x c e1 e2=>(al j x c e1 e2).same lS⟩;rw[Z,af7,afz];lia
inductive SwI (P:Program)(w:World)(D:Addr)(rs:List Rm)(H:Hp)(i m:Nat)(ys:List Str)(H':Hp):Prop
 | mk:m=rs.length - i->i<=rs.length->H' D=some (lK P w D ys)->Same H H'->ys.Nodup->(∀ k,k∈ys↔∃ r∈rs.take i,k∈r.1)->SwI P w D rs H i m ys H'
inductive SvI (P:Program)(w:World)(D:Addr)(rs:List Rm)(H:Hp)(i:Nat)(r:Rm)(j m:Nat)(ys:List Str)(H':Hp):Prop
 | mk:m=r.1.length - j->j<=r.1.length->H' D=some (lK P w D ys)->Same H H'->ys.Nodup->(∀ k,k∈ys↔(∃ r∈rs.take i,k∈r.1)\/k∈r.1.take j)->SvI P w D rs H i r j m ys H'
theorem uS {P:Program}{w:World}{K K':PySem.W.Frag}{te:TE}{σ:L2.St}{H:Hp}{a:Addr}{Q:VK}{vs:List V}{h:Hs}(ht:∀ R,R (.ref a) H->te σ H R)(ha:H a=some (.lst vs))(hR:RoomsAt H vs h.2)(ai:aaX h)
 (hd:∀ D ss H',Same H H'->H D=none->H' D=some (lK P w D ss)->ss.Nodup->(∀ k,k∈ss↔∃ r∈h.2,k∈r.1)->Q (.ref D) H'):uL P w 3 [] (abl K te) (adq K' 2 (uB (bu 0) (uB (bu 1) aeo))) (abl K' (adC 0)) (bu 2) (adC 2) σ H Q:=by
 have aw:70 < scanBound:=by decide
 have vl:=hR.1;refine ht _ ⟨a,rfl,⟨_,aAA ha⟩,λD nD=>?_⟩;refine⟨SwI P w D h.2 H,⟨_,.mk rfl (af5 _) af (ak nD) .nil (λk=>by simp)⟩,?_⟩;rintro i m ys H2 ⟨rfl,hi,hD,s,nd,Z⟩;refine⟨hD,?_⟩;by_cases O:i < h.2.length
 .refine .inr ⟨⟨vs,vs[i]'(by lia),aAA (s _ _ ha),by simp⟩,λx H3 y=>?_⟩;obtain⟨e,y⟩:=y;subst e;have hx:=y vs (aAA (s _ _ ha));obtain⟨t,la,lb,rfl,an,S,az⟩:=hR.2 i x _ hx (afx O);refine⟨t,_,rfl,aAB (s _ _ an),rfl,?_⟩;refine⟨_,_,rfl,_,_,rfl,rfl,⟨rfl,rfl⟩,?_⟩;refine⟨_,rfl,la,rfl,⟨_,aAA (s _ _ S)⟩,?_⟩;refine⟨SvI P w D h.2 H i h.2[i],⟨_,.mk rfl (af5 _) hD s nd (λk=>by rw[Z k];simp)⟩,?_⟩;rintro j m2 aa H6 ⟨rfl,hj,Y,s6,ad,J⟩;refine⟨Y,?_⟩;by_cases U:j < (h.2[i]).1.length
  .refine .inr ⟨⟨_,.str ((h.2[i]).1[j]),aAA (s6 _ _ S),by simp[U]⟩,λx2 H7 y2=>?_⟩;obtain⟨e,y2⟩:=y2;subst e;have ae:=y2 _ (aAA (s6 _ _ S));rw[afF,afx U] at ae;cases ae;have sub:∀ k,k∈aa->∃ r∈h.2,k∈r.1:=λk hk=>by
    rcases (J k).mp hk with ⟨r,hr,hk⟩ | hk
    .exact⟨r,ahb hr,hk⟩
    .exact⟨_,agg O,ahb hk⟩
   refine⟨⟨rfl,?_⟩,?_⟩
   .intro z v e
    match z,e with
    | 0,e=>exact e
    | 1,e=>exact e
    | 2,e=>cases e
    | z+3,e=>cases e
   .refine⟨_,rfl,(h.2[i]).1[j],rfl,Y,by have:=ai aa ad sub;lia,λaA hy aq=>⟨_,?_,.mk rfl U af (λb u e=>by rw[ao (aj e nD)];exact s6 _ _ e) aq λk=>?_⟩⟩
    .lia
    .have tk:(h.2[i]).1.take (j+1)=(h.2[i]).1.take j++[(h.2[i]).1[j]]:=by rw[agh,afx U];rfl
     rw[tk,afV,← or_assoc,← J k,afD];rcases hy with ⟨hk,rfl⟩ | ⟨hk,hp⟩
     .constructor
      .exact Or.inl
      .rintro (z | rfl)
       .exact z
       .exact hk
     .rw[hp.mem_iff,afV,afD]
  .have ej:j=(h.2[i]).1.length:=by lia
   subst ej;refine .inl ⟨⟨_,aAA (s6 _ _ S),by simp⟩,_,?_,.mk rfl O Y s6 ad λk=>?_⟩
   .lia
   .rw[J k,agm,agh,afx O];simp only[afV,Option.toList,afD];constructor
    .rintro (⟨r,hr,hk⟩ | hk)
     .exact⟨r,.inl hr,hk⟩
     .exact⟨_,.inr rfl,hk⟩
    .rintro⟨r,hr | rfl,hk⟩
     .exact .inl ⟨r,hr,hk⟩
     .exact .inr hk
 .have ei:i=h.2.length:=by lia
  subst ei;refine .inl ⟨⟨vs,aAA (s _ _ ha),by lia⟩,hd D ys H2 s nD hD nd λk=>?_⟩;rw[Z k,agm]
def zr (C:Addr):Sp:=λvs H Q _=>∃ (d dx:Addr) (v:V) (h:Hs),vs=[.ref d,v]/\HouseAt H v h/\dz h/\aaX h/\H d=some (.ins C dx [])/\∀ ks H',adh h ks->But d H H'->DoorsAt C H' d h ks->Q .non H'
theorem uO {d:Addr}{H:Hp}{o:HO}:Same (eI d H) (upd H d o):=λb u e=>by
 unfold eI at e;split at e
 .cases e
 .rename_i hb;rw[ao hb];exact e
theorem lU {d:Addr}{H H':Hp}(s:Same H H'):Same (eI d H) (eI d H'):=λb u e=>by
 unfold eI at e ⊢;split at e
 .cases e
 .rename_i hb;rw[if_neg hb];exact s _ _ e
theorem fU {d b:Addr}{H:Hp}{o:HO}(n:b≠d)(e:H b=some o):eI d H b=some o:=by
 unfold eI;rw[if_neg n];exact e
theorem acD {d:Addr}{H H':Hp}(s:Same (eI d H) H'):But d H H':=λb u n e=>s _ _ (fU n e)
theorem hC {d b C dx:Addr}{fs:List (Str×V)}{H:Hp}{o:HO}(J:H d=some (.ins C dx fs))(e:H b=some o)(n:o≠.ins C dx fs):b≠d:=λz=>by
 subst z;rw[J] at e;cases e;exact n rfl
theorem PairsAt.off {d C dx:Addr}{fs:List (Str×V)}{H:Hp}{v:V}{J:List (Nat×Int)}(O:H d=some (.ins C dx fs))(p:PairsAt H v J):PairsAt (eI d H) v J:=by
 obtain⟨a,vs,e,h,l,f⟩:=p;exact⟨a,vs,e,fU (hC O h (λz=>nomatch z)) h,l,λi x c a b=>by
  obtain⟨t,U,S⟩:=f i x c a b;exact⟨t,U,fU (hC O S (λz=>nomatch z)) S⟩⟩
theorem RowsP.off {d C dx:Addr}{fs:List (Str×V)}{H:Hp}{a:Addr}{J:List (List (Nat×Int))}(O:H d=some (.ins C dx fs))(p:RowsP H a J):RowsP (eI d H) a J:=by
 obtain⟨vs,h,l,f⟩:=p;exact⟨vs,fU (hC O h (λz=>nomatch z)) h,l,λi x c a b=>(f i x c a b).off O⟩
theorem RoomsAt.off {d C dx:Addr}{fs:List (Str×V)}{H:Hp}{vs:List V}{rs:List Rm}(J:H d=some (.ins C dx fs))(h:RoomsAt H vs rs):RoomsAt (eI d H) vs rs:=⟨h.1,λi v r a b=>by
 obtain⟨t,x,y,e,h1,h2,O⟩:=h.2 i v r a b;exact⟨t,x,y,e,fU (hC J h1 (λz=>nomatch z)) h1,fU (hC J h2 (λz=>nomatch z)) h2,fU (hC J O (λz=>nomatch z)) O⟩⟩
theorem pQ (z:Str)(ks:List Str):inV (.str z) (ks.map V.str)=decide (z∈ks):=by
 unfold inV
 induction ks with
 | nil=>rfl
 | cons a r J =>
  rw[af0,ahF,J];show (a == z || decide (z∈r))=_;by_cases e:a=z
  .subst e;simp
  .have O:¬ z=a:=λx=>e x.symm;simp[e,O]
theorem kH (ks:List Str):(ks.map V.str).all qQ=true:=by
 rw[ahG,agt];intro _ _
 rfl
theorem vD {x y:V}:[x,y].length<=sizeLine:=show 2<=sizeLine by decide
def afl (keys:List Str):V->V:=λv=>match v with
 | .str k=>.int ((keys.count k:Nat):Int)
 | v=>v
theorem fc:aA ["self","house","keys","rooms","kinds"] ["self","house"] (ai aR):=scM rfl rfl rfl rfl (by decide +kernel)
theorem fJ:(["locks","within","kind"]:List Str).Nodup:=by decide +kernel
theorem ng:(["kind","keys"]:List Str).Nodup:=by decide +kernel
theorem dw:(["locks","within","kinds"]:List Str).Nodup:=by decide +kernel
theorem iu:(["place","kind","locks"]:List Str).Nodup:=by decide +kernel
theorem iK:(["place","kind","within","locks"]:List Str).Nodup:=by decide +kernel
theorem aaE {f:Addr}{fd:FuncData}{C:Addr}(F:Fun K "__init__" "Doors.__init__" aR f fd)(DC:jR K C)(aZ:mg "sorted" = none)(aY:mg "enumerate" = none):FnOk P w K mg base CX0 1 f fd ["self","house"] (zr C):=by
 refine F.ok fc (λvs H Q E h=>?_) (λbA A outer s H vs Q E hr h=>?_)
 .obtain⟨d,dx,v,h,rfl,_⟩:=h
  rfl
 .have hu:=du hr;obtain⟨d,dx,v,h,rfl,⟨t,a,r,vs,rfl,ht,ha,al,hR⟩,ok,aw,hd,q⟩:=h;refine⟨_,(ah (lj (pv 1) (mR rfl (aI (av (i:=2) fc.nd rfl (.inr rfl)) (aI (av (i:=3) fc.nd rfl (.inl rfl)) dB))))
   (ah (az (i:=4) fc.nd rfl (.inr rfl) (au (nJ rfl) rfl aZ ahW (ae (adB (P:=P) (w:=w) (tg2:=.Name "kind" _) (outer:=ai (aR)) (N:=["self","house","keys","rooms","kinds"]) (N':=["locks","within","kind"]) (nl:=3) (ix:=[]) rfl rfl rfl (aL (pv 3))
    (λ_ _ _ _=>(iU (K:=K) (n:=2) rfl rfl (aI (av (i:=0) fJ rfl (.inl rfl) (.inr rfl)) (aI (av (i:=1) fJ rfl (.inl rfl) (.inr rfl)) dB)))) (λ_ _ _ _=>(vL (K:=K) rfl (pv 0))) (λ_ _ _ _=>(av (i:=2) fJ rfl (.inl rfl) (.inr rfl)))
    (λ_ _ _ _=>(pv 2))) ag)))
   (ah (zx (pv 0) (gm (tg:=.Name "kind" _) (outer:=ai (aR)) (N:=["self","house","keys","rooms","kinds"]) (N':=["kind","keys"]) (nl:=1) (ix:=[2]) rfl rfl rfl (aL (pv 4))
    (λ_ _ _ _=>(av (i:=0) ng rfl (.inl rfl) (.inr rfl))) (λ_ _ _ _=>aT)
    (λ_ _ _ _=>(vC (K:=K) rfl agb ag1 ag2 gc (pv 1) (ae (pv 0) ag)))) rfl)
   (ah (zx (pv 0) (zk ["locks"] (outer:=ai (aR)) (N:=["self","house","keys","rooms","kinds"]) (N':=["locks","within","kinds"]) (nl:=2) (ix:=[4]) rfl rfl rfl (aL (pv 3))
    (λ_ _ _ _=>(iU (K:=K) (n:=2) rfl rfl (aI (av (i:=0) dw rfl (.inr rfl) (.inl rfl)) (aI (av (i:=1) dw rfl (.inl rfl) (.inr rfl)) dB)))) (λ_ _ _ _=>aT)
    (λ_ _ _ _=>(gm (outer:=z5 (gE (aeZ ((bY aR).getD 3 (.Pass ⟨0,0,0,0⟩)))) (ai (aR))) (N:=["locks","within","kinds"]) (N':=["place","kind","locks"]) (nl:=2) (ix:=[0]) (kQ rfl) rfl rfl (vJ (K:=K) rfl rfl aY (ae (pv 2) ag))
    (λ_ _ _ _=>(iU (K:=K) (n:=2) rfl rfl (aI (av (i:=0) iu rfl (.inl rfl) (.inr rfl)) (aI (av (i:=1) iu rfl (.inl rfl) (.inr rfl)) dB)))) (λ_ _ _ _=>(iF (aE (j7 (K:=K) rfl) (pv 1) (pv 2) rfl)))
    (λ_ _ _ _=>(rO (ae (pv 0) (ae (vC (K:=K) rfl agb ag1 ag2 gc (pv 2) (ae (pv 1) ag)) ag))))))) rfl)
   (aq (zx (pv 0) (zk ["locks","within"] (outer:=ai (aR)) (N:=["self","house","keys","rooms","kinds"]) (N':=["locks","within","kinds"]) (nl:=2) (ix:=[4]) rfl rfl rfl (aL (pv 3))
    (λ_ _ _ _=>(iU (K:=K) (n:=2) rfl rfl (aI (av (i:=0) dw rfl (.inr rfl) (.inl rfl)) (aI (av (i:=1) dw rfl (.inr rfl) (.inl rfl)) dB)))) (λ_ _ _ _=>aT)
    (λ_ _ _ _=>(gm (outer:=z5 (gE (aeZ ((bY aR).getD 4 (.Pass ⟨0,0,0,0⟩)))) (ai (aR))) (N:=["locks","within","kinds"]) (N':=["place","kind","within","locks"]) (nl:=2) (ix:=[1,0]) (kQ rfl) rfl rfl (vJ (K:=K) rfl rfl aY (ae (pv 2) ag))
    (λ_ _ _ _=>(iU (K:=K) (n:=2) rfl rfl (aI (av (i:=0) iK rfl (.inl rfl) (.inr rfl)) (aI (av (i:=1) iK rfl (.inl rfl) (.inr rfl)) dB)))) (λ_ _ _ _=>(iF (PW.pt (mM (aE (j7 (K:=K) rfl) (pv 1) (pv 3) rfl) (j0 (aE (j7 (K:=K) rfl) (pv 1) (pv 2) rfl))))))
    (λ_ _ _ _=>(rO (ae (pv 0) (ae (bN u9 (vC (K:=K) rfl agb ag1 ag2 gc (pv 2) (ae (pv 1) ag)) (vC (K:=K) rfl agb ag1 ag2 gc (pv 3) (ae (pv 1) ag))) ag))))))) rfl)))))),?_⟩
  refine⟨_,rfl,t,_,rfl,aAB ht,rfl,_,_,rfl,_,_,rfl,rfl,?_⟩;unfold tK qR tCB fb lV;dsimp only;refine uS (te:=adC 3) (h:=h) (vs:=vs) (λR e=>⟨_,rfl,e⟩) al hR aw λD1 ss H1 s1 bE aV ax ac=>?_;have l1:=aw ss ax λk hk=>(ac k).mp hk;refine⟨D1,ss,rfl,aV,by lia,λl ks nl hp hs=>?_⟩;have s2:Same H1 (upd H1 l (.lst (ks.map V.str))):=ak nl;have e2:(upd H1 l (.lst (ks.map V.str))) l=some (.lst (ks.map V.str)):=af;generalize upd H1 l (.lst (ks.map V.str))=H2 at *;have KO:adh h ks:=⟨hp.nodup_iff.mpr ax,λk=>by rw[hp.mem_iff];exact ac k,by rw[hp.length_eq];lia⟩;rw[show bu 4=λv σ H k=>k (σ.set 4 (some v)) H from rfl];dsimp only;unfold aeX;dsimp only;have d2:H2 d=some (.ins C dx []):=s2 _ _ (s1 _ _ hd);have ay:Same H H2:=s1.trans s2;have G0:Same (eI d H) (eI d H2):=lU ay;have a2:=G0 _ _ (fU (hC hd ha (λz=>nomatch z)) ha);have r2:=G0 _ _ (fU (hC hd al (λz=>nomatch z)) al);have R2:=(RoomsAt.off hd hR).same G0;have k2:=fU (hC d2 e2 (λz=>nomatch z)) e2;refine aB _ _ _ _ _ _ _ _ _ ?_;refine⟨_,rfl,l,rfl,⟨_,aAA e2⟩,λD3 aW=>?_⟩;refine aaq (F:=afl h.1) e2 aW (by rw[afz];have:=KO.few;lia) (λx=>rfl) (λH3 x R hx s3 aX=>?_) (λH3 s3 a0=>?_)
  .obtain⟨k,_,rfl⟩:=afL.mp hx;have a3:=s3 _ _ (ay _ _ ha);exact⟨_,rfl,.inl ⟨rfl,_,aAA a3⟩,_,rfl,a,_,k,rfl,rfl,a3,aX⟩
  .have d3:=s3 _ _ d2;have aA:H3 D3=some (.lst ((fZ ks h.1).map V.int)):=by
    rw[a0];unfold fZ;rw[af3,af3]
    rfl
   refine⟨_,rfl,d,C,dx,[],rfl,d3,DC.cls,DC.n1,by decide,?_⟩;have s4:Same (eI d H3) (upd H3 d (.ins C dx (jl "at_first" (.ref D3) []))):=uO;have d4:(upd H3 d (.ins C dx (jl "at_first" (.ref D3) []))) d=some (.ins C dx (jl "at_first" (.ref D3) [])):=af;generalize upd H3 d (.ins C dx (jl "at_first" (.ref D3) []))=H4 at *;have G4:Same (eI d H2) H4:=(lU s3).trans s4;have l4:=s4 _ _ (fU (hC d3 aA (λz=>nomatch z)) aA);have f4:(jl "at_first" (.ref D3) []).length<=1:=gI _ _ _;generalize ef4:jl "at_first" (.ref D3) []=O at *;refine aB _ _ _ _ _ _ _ _ _ ?_;refine⟨_,rfl,r,rfl,⟨_,aAA (G4 _ _ r2)⟩,λD5 a4=>?_⟩;refine oW (F:=bX ks) (G4 _ _ r2) (R2.same G4) a4 ok.rl (λx y=>rfl) (λH5 m la lb R hm J Y s5 k5=>?_) (λH5 s5 RP=>?_)
   .refine aB _ _ _ _ _ _ _ _ _ ?_;have l5:=s5 _ _ (G4 _ _ k2);refine⟨_,rfl,l,rfl,⟨_,aAA l5⟩,λD6 a6=>?_⟩;refine ph (pb:=λp=>decide (kAt ks p∈m.1)) (gv:=λp=>((m.1.count (kAt ks p):Nat):Int)) l5 a6 KO.few (λx y=>rfl) (λH6 p R hp Z k6=>?_) (λH6 p R hp Z k6=>?_) (λH6 x Z pa=>k5 H6 x Z pa)
    .refine⟨_,rfl,_,rfl,la,_,rfl,.inl (aAA (Z _ _ J)),rfl,kH _,_,rfl,?_⟩;have e:=pQ (kAt ks p) m.1;show R (inV _ _) H6;rw[e];exact k6
    .exact⟨_,rfl,_,rfl,.inl ⟨rfl,_,aAA (Z _ _ J)⟩,_,rfl,la,_,_,rfl,rfl,Z _ _ J,vD,k6⟩
   .have d5:=s5 _ _ d4;refine⟨_,rfl,d,C,dx,_,rfl,d5,DC.cls,DC.n2,by lia,?_⟩;have Z:Same (eI d H5) (upd H5 d (.ins C dx (jl "wants" (.ref D5) O))):=uO;have d6:(upd H5 d (.ins C dx (jl "wants" (.ref D5) O))) d=some (.ins C dx (jl "wants" (.ref D5) O)):=af;generalize upd H5 d (.ins C dx (jl "wants" (.ref D5) O))=H6 at *;have G6:Same (eI d H4) H6:=(lU s5).trans Z;have aG:Same (eI d H2) (eI d H4):=λb u e=>by
     by_cases z:b=d
     .subst z;unfold eI at e;rw[if_pos rfl] at e;cases e
     .exact fU z (G4 _ _ e)
    have U:Same (eI d H2) H6:=aG.trans G6;have l6:=G6 _ _ (fU (hC d4 l4 (λz=>nomatch z)) l4);have W6:=(RP.off d5).same Z;have f6:(jl "wants" (.ref D5) O).length<=2:=afR (gI _ _ _) (by lia);generalize ef6:jl "wants" (.ref D5) O=aa at *;refine aB _ _ _ _ _ _ _ _ _ ?_;refine⟨_,rfl,r,rfl,⟨_,aAA (U _ _ r2)⟩,λD7 ba=>?_⟩;refine oW (F:=hJ ks) (U _ _ r2) (R2.same U) ba ok.rl (λx y=>rfl) (λH7 m la lb R hm J Y s7 k7=>?_) (λH7 s7 bb=>?_)
    .refine aB _ _ _ _ _ _ _ _ _ ?_;have l7:=s7 _ _ (U _ _ k2);refine⟨_,rfl,l,rfl,⟨_,aAA l7⟩,λD8 bc=>?_⟩;refine ph (pb:=chB ks m) (gv:=λp=>vz m (kAt ks p)) l7 bc KO.few (λx y=>rfl) (λH8 p R hp S k8=>?_) (λH8 p R hp S k8=>?_) (λH8 x S pa=>k7 H8 x S pa)
     .refine⟨_,rfl,_,rfl,la,_,rfl,.inl (aAA (S _ _ J)),rfl,kH _,_,rfl,?_⟩;have e:=pQ (kAt ks p) m.1;have e2:=pQ (kAt ks p) m.2;unfold chB at k8;show if inV _ _=true then _ else _
      rw[e];by_cases z:kAt ks p∈m.1
      .rw[afM z] at k8 ⊢;exact dt k8
      .rw[afS z] at k8 ⊢;refine cu ?_;refine⟨_,rfl,_,rfl,lb,_,rfl,.inl (aAA (S _ _ Y)),rfl,kH _,_,rfl,?_⟩;show R (inV _ _) H8;rw[e2];exact k8
     .exact⟨_,rfl,_,rfl,.inl ⟨rfl,_,aAA (S _ _ Y)⟩,_,rfl,lb,_,_,rfl,rfl,S _ _ Y,_,rfl,.inl ⟨rfl,_,aAA (S _ _ J)⟩,_,rfl,la,_,_,rfl,rfl,S _ _ J,_,_,rfl,rfl,vD,k8⟩
    .have d7:=s7 _ _ d6;refine⟨_,rfl,d,C,dx,_,rfl,d7,DC.cls,DC.n3,by lia,?_⟩;have S:Same (eI d H7) (upd H7 d (.ins C dx (jl "changes" (.ref D7) aa))):=uO;have d8:(upd H7 d (.ins C dx (jl "changes" (.ref D7) aa))) d=some (.ins C dx (jl "changes" (.ref D7) aa)):=af;generalize upd H7 d (.ins C dx (jl "changes" (.ref D7) aa))=H8 at *;have G8:Same (eI d H6) H8:=(lU s7).trans S;have l8:=G8 _ _ (fU (hC d6 l6 (λz=>nomatch z)) l6);have W8:=(W6.off d6).same G8;have C8:=(bb.off d7).same S;refine q ks H8 KO (acD ?_) ⟨dx,D3,D5,D7,_,d8,?_,?_,?_,?_,?_,l8,W8,C8,?_⟩
     .refine G0.trans (Same.trans (λb u e=>?_) G8);by_cases z:b=d
      .subst z;unfold eI at e;rw[if_pos rfl] at e;cases e
      .exact fU z (U _ _ e)
     all_goals subst ef6 ef4;rw[fB,fB,fB];rfl
def ad2:HO->Bool
 | .dK _=>false
 | .frz _ _=>false
 | _=>true
def ndH (H:Hp):Hp:=λb=>(H b).filter ad2
theorem jZ {H:Hp}{b:Addr}{u:HO}(e:H b=some u)(n:ad2 u=true):ndH H b=some u:=by
 unfold ndH;rw[e];simp[Option.filter,n]
theorem jV {H:Hp}:Same (ndH H) H:=λb u e=>by
 unfold ndH at e;cases z:H b with
 | none=>rw[z] at e;cases e
 | some x =>
  rw[z] at e;simp only[Option.filter] at e;split at e
  .exact e
  .cases e
theorem aer {H:Hp}{b:Addr}{u:HO}(e:ndH H b=some u):ad2 u=true:=by
 unfold ndH at e;cases z:H b with
 | none=>rw[z] at e;cases e
 | some x =>
  rw[z] at e;simp only[Option.filter] at e;split at e
  .rename_i hx;cases e;exact hx
  .cases e
theorem wx {G H:Hp}{D:Addr}{x o:HO}(s:Same (ndH G) H)(J:H D=some x)(n:ad2 x=false):Same (ndH G) (upd H D o):=λb u e=>by
 have:=s _ _ e;rw[ao (λz=>by subst z;rw[J] at this;cases this;rw[aer e] at n;cases n)];exact this
theorem uE {H:Hp}{D:Addr}{x o:HO}(z:H D=some x)(n:ad2 x=false):Same (ndH H) (upd H D o):=wx jV z n
theorem DoorsAt.nd {C:Addr}{H:Hp}{d:Addr}{h:Hs}{ks:List Str}(p:DoorsAt C H d h ks):DoorsAt C (ndH H) d h ks:=by
 obtain⟨dx,l,w,c,fs,h1,h2,S,U,Y,Z,h7,⟨v8,a8,b8,c8⟩,⟨v9,a9,b9,c9⟩,h0⟩:=p;have J:∀ {v O},PairsAt H v O->PairsAt (ndH H) v O:=λ⟨a,vs,e,x,y,z⟩=>⟨a,vs,e,jZ x rfl,y,λi x c a b=>let ⟨t,e1,e2⟩:=z i x c a b;⟨t,e1,jZ e2 rfl⟩⟩;exact⟨dx,l,w,c,fs,jZ h1 rfl,h2,S,U,Y,Z,jZ h7 rfl,⟨v8,jZ a8 rfl,b8,λi x c a b=>J (c8 i x c a b)⟩,⟨v9,jZ a9 rfl,b9,λi x c a b=>J (c9 i x c a b)⟩,h0⟩
abbrev kB (o:List Nat):Key:=.inl ((aO o:Nat):Int)
structure DictL (F:List Nat->List V)(H:Hp)(kvs:List (Key×V))(os:List (List Nat)):Prop where
 keys:kvs.map (·.1)=os.map kB
 at_:∀ (i:Nat) (kv:Key×V) (o:List Nat),kvs[i]? = some kv->os[i]? = some o->∃ l:Addr,kv.2=.ref l/\H l=some (.lst (F o))
theorem DictL.nil {F:List Nat->List V}{H:Hp}:DictL F H [] []:=⟨rfl,λi kv o e=>nomatch e⟩
theorem DictL.same {F:List Nat->List V}{H H':Hp}{kvs:List (Key×V)}{os:List (List Nat)}(d:DictL F H kvs os)(s:Same (ndH H) H'):DictL F H' kvs os :=
 ⟨d.keys,λi kv o a b=>let ⟨l,e,x⟩:=d.at_ i kv o a b;⟨l,e,s _ _ (jZ x rfl)⟩⟩
theorem DictL.len {F:List Nat->List V}{H:Hp}{kvs:List (Key×V)}{os:List (List Nat)}(d:DictL F H kvs os):kvs.length=os.length:=by
 have:=agS List.length d.keys;simpa using this
theorem rF {o o':List Nat}(e:kB o=kB o'):aO o=aO o':=by
 cases o<;>cases o'<;>exact Int.ofNat.inj (Sum.inl.inj e)
theorem kB_mem {o:List Nat}{os:List (List Nat)}:kB o∈os.map kB↔aO o∈os.map aO:=by
 rw[afL,afL];exact⟨λ⟨x,m,e⟩=>⟨x,m,rF e⟩,λ⟨x,m,e⟩=>⟨x,m,by unfold kB;rw[e]⟩⟩
theorem qP {kvs:List (Key×V)}{k:Key}:(gG kvs k).isSome=true↔k∈kvs.map (·.1):=by
 induction kvs with
 | nil=>simp[gG]
 | cons p r J =>
  by_cases e:p.1=k
  .rw[cB e];simp[e]
  .rw[cD e,J];have O:¬ k=p.1:=λz=>e z.symm;simp[O]
theorem yf {kvs:List (Key×V)}{k:Key}{v:V}(n:k ∉ kvs.map (·.1)):j6 kvs k v=kvs++[(k,v)]:=by
 unfold j6;rw[if_neg];intro z;rw[aho] at z;obtain⟨p,J,e⟩:=z;exact n (afL.mpr ⟨p,J,agz e⟩)
theorem DictL.snoc {F:List Nat->List V}{H H':Hp}{kvs:List (Key×V)}{os:List (List Nat)}{o:List Nat}{l:Addr}(d:DictL F H kvs os)(s:Same (ndH H) H')(J:H l=some (.lst (F o))):DictL F H' (kvs++[(kB o,.ref l)]) (os++[o]):=by
 refine⟨by rw[afY,afY,d.keys];rfl,λi O x a b=>?_⟩;have S:=d.len;by_cases hi:i < kvs.length
 .rw[agj hi] at a;rw[agj (by lia)] at b;exact (d.same s).at_ i O x a b
 .rw[af8 (by lia)] at a;rw[af8 (by lia),← S] at b;have z:i - kvs.length=0:=by
   have:=(afA.mp a).1;simp at this;lia
  rw[z] at a b;cases a;cases b;exact⟨l,rfl,s _ _ (jZ J rfl)⟩
structure StepsM (h:Hs)(n:Nat)(os:List (List Nat)):Prop where
 gone:∀ o∈os,cM h.1 h.2 o
 lt:∀ o∈os,o.length < n
 nd:(os.map aO).Nodup
 all:∀ o,cM h.1 h.2 o->o.length < n->aO o∈os.map aO
 up:os.Pairwise λa b=>a.length<=b.length
theorem StepsM.zero (h:Hs):StepsM h 0 []:=⟨λo z=>absurd z agA,λo z=>absurd z agA,aj1,λo _ z=>absurd z (ahM _),.nil⟩
theorem mm {h:Hs}{n:Nat}{os L:List (List Nat)}(s:StepsM h n os)(l:LevL h n L):∀ x∈L,aO x ∉ os.map aO:=λx J z=>by
 obtain⟨y,O,e⟩:=afL.mp z;have p:=f9 (aG y (s.gone y O)) (aG x (l.gone x J)) e;have:=p.length_eq;have:=s.lt y O;have:=l.len x J;lia
theorem StepsM.next {h:Hs}{n:Nat}{os L:List (List Nat)}(s:StepsM h n os)(l:LevL h n L)(a:adk h n L):StepsM h (n+1) (os++L):=by
 refine⟨λo J=>?_,λo J=>?_,?_,λo g J=>?_,?_⟩
 .rcases afV.mp J with z | z
  .exact s.gone o z
  .exact l.gone o z
 .rcases afV.mp J with z | z
  .exact agr (s.lt o z)
  .rw[l.len o z];exact ahk n
 .rw[afY,aht];refine⟨s.nd,l.nd,λx O y S e=>?_⟩;subst e;obtain⟨o,J,rfl⟩:=afL.mp S;exact mm s l o J O
 .rw[afY,afV];by_cases e:o.length=n
  .exact .inr (a o g e)
  .exact .inl (s.all o g (by lia))
 .rw[agE];refine⟨s.up,?_,λx O y S=>?_⟩
  .rw[List.pairwise_iff_forall_sublist];intro x y sl;have U:x∈L:=sl.subset (by simp);have Y:y∈L:=sl.subset (by simp);rw[l.len x U,l.len y Y];exact afG _
  .have:=s.lt x O;have:=l.len y S;lia
structure cn (h:Hs)(os:List (List Nat)):Prop where
 gone:∀ o∈os,cM h.1 h.2 o
 nd:(os.map aO).Nodup
 all:∀ o,cM h.1 h.2 o->aO o∈os.map aO
 up:os.Pairwise λa b=>a.length<=b.length
theorem ku {ks:List Str}{rs:List Rm}{o:List Nat}(g:cM ks rs o)(n:Nat):cM ks rs (o.take n):=λj i e=>by
 have z:j < n:=by
  have:=(afA.mp e).1;rw[af7] at this;lia
 rw[ahT,if_pos z] at e;have:=g j i e;rw[aje,ah4 (by lia)];exact this
theorem StepsM.done {h:Hs}{n:Nat}{os:List (List Nat)}(s:StepsM h n os)(a:adk h n []):cn h os:=by
 refine⟨s.gone,s.nd,λo g=>?_,s.up⟩;by_cases z:o.length < n
 .exact s.all o g z
 .have:=a (o.take n) (ku g n) (by rw[af7];lia);exact absurd this (by simp)
theorem xR {h:Hs}{n:Nat}{os:List (List Nat)}(s:StepsM h n os):os.length<=2 ^ h.2.length:=by
 have:(os.map aO).length<=2 ^ h.2.length:=fe s.nd λi hi=>by
  obtain⟨o,z,rfl⟩:=afL.mp hi;exact qw (gh o (s.gone o z))
 simpa using this
def afs (l:List Nat):Nat:=l.foldr (· + ·) 0
def adw (h:Hs):Nat->List Nat->Nat
 | 0,_=>1
 | n+1,o=>afs ((hU h o).map λi=>adw h n (o++[i]))
def xV (h:Hs)(o:List Nat):Nat:=adw h (h.2.length - o.length) o
theorem abV {h:Hs}{o:List Nat}(g:cM h.1 h.2 o){i:Nat}(hi:i∈hU h o):o.length < h.2.length:=by
 have:=i8 (cf g hi);rw[afH,af1] at this;lia
theorem acK {h:Hs}{o:List Nat}(g:cM h.1 h.2 o)(e:o.length=h.2.length):hU h o=[]:=by
 cases hn:hU h o with
 | nil=>rfl
 | cons i r =>
  have:=abV g (i:=i) (by rw[hn];exact afX);lia
theorem qv {h:Hs}{o o':List Nat}(g:cM h.1 h.2 o)(g':cM h.1 h.2 o')(p:o.Perm o'):hU h o=hU h o':=o9 (o8 g g' p) p
theorem ab8 (h:Hs)(o:List Nat):(hU h o).Nodup:=List.nodup_range.filter _
def yS (C:Addr):Sp:=λvs H Q _=>∃ (d a:Addr) (o:List Nat) (h:Hs) (ks hand:List Str),vs=[.ref d,.int ((aO o:Nat):Int),.ref a]/\DoorsAt C H d h ks/\adh h ks/\H a=some (.lst ((fZ ks hand).map V.int))/\h.2.length<=1000 ∧
 ∀ b H',Same H H'->H b=none->H' b=some (.lst ((iE h.2 hand o).map λi=>V.int ((i:Nat):Int)))->Q (.ref b) H'
def nbB (h:Hs)(ks:List Str)(u:List Int)(o:List Nat)(i:Nat):Bool:=!decide (i∈o) && (bX ks ((h.2[i]?).getD ([],[]))).all λc=>decide (c.2<=u.getD c.1 0)
def zz (C:Addr):Sp:=λvs H Q _=>∃ (d a:Addr) (o:List Nat) (h:Hs) (ks:List Str) (u:List Int),vs=[.ref d,.int ((aO o:Nat):Int),.ref a]/\DoorsAt C H d h ks/\adh h ks/\H a=some (.lst (u.map V.int))/\u.length=ks.length/\h.2.length<=1000 ∧
 ∀ b H',Same H H'->H b=none->H' b=some (.lst (((List.range h.2.length).filter (nbB h ks u o)).map λi=>V.int ((i:Nat):Int)))->Q (.ref b) H'
inductive NbI (D:Addr)(h:Hs)(ks:List Str)(u:List Int)(o:List Nat)(H:Hp)(i:Nat)(ys:List V)(H':Hp):Prop
 | mk:ys=((List.range i).filter (nbB h ks u o)).map (λi=>V.int ((i:Nat):Int))->H' D=some (.lst ys)->Same H H'->NbI D h ks u o H i ys H'
inductive NwI (D:Addr)(ks:List Str)(u:List Int)(r:Rm)(H:Hp)(i:Nat)(ys:List V)(H':Hp):Prop
 | mk:ys=((bX ks r).take i).map (λc=>V.bl (decide (c.2<=u.getD c.1 0)))->H' D=some (.lst ys)->Same H H'->NwI D ks u r H i ys H'
theorem acq {h:Hs}{ks J:List Str}{o:List Nat}(ok:adh h ks):(List.range h.2.length).filter (nbB h ks (fZ ks J) o)=iE h.2 J o:=by
 unfold iE;refine ajd λi hi=>?_;have hi:=agP.mp hi;unfold nbB;rw[afx hi];congr 1;show (bX ks h.2[i]).all _=tw J (h.2[i]).1;rw[ag3,← aai (λk U=>(ok.mem k).mpr ⟨_,agg hi,U⟩),agt];have e:∀ c∈bX ks h.2[i],(fZ ks J).getD c.1 0=((J.count (kAt ks c.1):Nat):Int):=λc O=>by
  obtain⟨p,S,rfl⟩:=afL.mp O;have S:=agP.mp (agi.mp S).1;rw[afJ,qD S]
  rfl
 constructor
 .intro z c O;have:=agz (z c O)
  rwa [e c O] at this
 .intro z c O;refine afM ?_;rw[e c O];exact z c O
theorem jc:aA ["self","opened","hand"] ["self","opened","hand"] (ai aK):=scM rfl rfl rfl rfl (by decide +kernel)
theorem dG:(["number","wants","opened","hand"]:List Str).Nodup:=by decide +kernel
theorem dI:(["place","many","hand"]:List Str).Nodup:=by decide +kernel
theorem wj {f fH:Addr}{fd Z:FuncData}{C:Addr}(F:Fun K "next_behind" "Doors.next_behind" aK f fd)(DC:jR K C)(gD:FnOk P w K mg base CX0 1 fH Z ["opened","number"] aal)(cI:Cal K mg "has_room" ["opened","number"] fH Z)(aY:mg "enumerate" = none)(fz:mg "all" = none):FnOk P w K mg base CX0 2 f fd ["self","opened","hand"] (zz C):=by
 refine F.ok jc (λvs H Q E h=>?_) (λaW A outer s H vs Q E hr h=>?_)
 .obtain⟨d,a,o,h,ks,u,rfl,_⟩:=h
  rfl
 .have hu:=du hr;obtain⟨d,a,o,h,ks,u,rfl,D,ok,ha,aa,hl,q⟩:=h;refine⟨_,(aq (aD (gm (outer:=ai (aK)) (N:=["self","opened","hand"]) (N':=["number","wants","opened","hand"]) (nl:=2) (ix:=[1,2]) rfl rfl rfl (t4 rfl aY (ae (vg (pv 0) rfl) ag))
   (λ_ _ _ _=>(iU (K:=K) (n:=2) rfl rfl (aI (av (i:=0) dG rfl (.inl rfl) (.inr rfl)) (aI (av (i:=1) dG rfl (.inl rfl) (.inr rfl)) dB)))) (λ_ _ _ _=>(iF (PW.pt (m8 (gd (cT (pcl gD cI hr rfl (ae (pv 2) (ae (pv 0) ag))))) (kN (cT (au (yB (K:=K) rfl rfl) rfl fz (by decide +kernel) (ae (gm (outer:=z5 (gE (qB ((bY aK).getD 0 (.Pass ⟨0,0,0,0⟩)))) (ai (aK))) (N:=["number","wants","opened","hand"]) (N':=["place","many","hand"]) (nl:=2) (ix:=[3]) (wC rfl) rfl rfl (vL (K:=K) rfl (pv 1))
   (λ_ _ _ _=>(iU (K:=K) (n:=2) rfl rfl (aI (av (i:=0) dI rfl (.inl rfl) (.inr rfl)) (aI (av (i:=1) dI rfl (.inl rfl) (.inr rfl)) dB)))) (λ_ _ _ _=>aT)
   (λ_ _ _ _=>(fQ aaM (bR (jG (K:=K) rfl) (pv 2) (pv 0) (λ_ _=>rfl)) (pv 1) (aP _)))) ag))))))))
   (λ_ _ _ _=>(pv 0))))),?_⟩
  obtain⟨dx,l,w',c,fs,h1,h2,h3,h4,h5,h6,h7,⟨vs,h8,aw,ax⟩,h9,h0⟩:=D;have a1:1000000 < sizeLine:=by decide
  refine aB _ _ _ _ _ _ _ _ _ ?_;refine⟨_,rfl,d,C,dx,fs,_,rfl,h1,DC.cls,DC.n2,h3,w',rfl,⟨_,aAA h8⟩,λD nD=>?_⟩;have vl:vs.length=h.2.length:=by rw[aw,afz]
  refine rN (xs:=vs) (NbI D h ks u o H) (.mk rfl af (ak nD)) (λi ys H' ⟨_,e,_⟩=>e) (λi ys H' ⟨_,_,s⟩=>aAA (s _ _ h8)) ?_ ?_
  .rintro i ys H1 x T hx ⟨rfl,U,Y⟩ nT;have hi:i < vs.length:=(afA.mp hx).1;have ac:i < h.2.length:=by lia
   obtain⟨wa,us,rfl,ah,ul,aA⟩:=ax i x (bX ks h.2[i]) hx (by rw[afF,afx ac];rfl);have s2:Same H1 (upd H1 T (.tup [.int (i:Int),.ref wa])):=ak nT;have e2:(upd H1 T (.tup [.int (i:Int),.ref wa])) T=some (.tup [.int (i:Int),.ref wa]):=af;generalize upd H1 T (.tup [.int (i:Int),.ref wa])=H2 at *;have lf:((List.range i).filter (nbB h ks u o)).length<=i:=afR (agv _ _) (by rw[agK];exact afG _);have rb:nbB h ks u o i=(!decide (i∈o) && (bX ks h.2[i]).all λc=>decide (c.2<=u.getD c.1 0)):=by unfold nbB;rw[afx ac];rfl
   refine⟨T,_,rfl,aAB e2,rfl,?_⟩;refine⟨_,_,rfl,_,_,rfl,rfl,⟨rfl,rfl⟩,?_⟩;refine⟨_,rfl,_,rfl,o,i,rfl,λH3 s3=>⟨_,rfl,?_⟩⟩;have z:Same H1 H3:=s2.trans s3;by_cases ho:i∈o
   .rw[afM ho] at rb ⊢;refine cu ?_;refine cu ?_;refine nx hi (.mk ?_ (z _ _ U) (Y.trans z));rw[ahy,agd,afY];simp[rb]
   .rw[afS ho] at rb ⊢;refine dt ?_;unfold tB tCB fb lV;refine aB _ _ _ _ _ _ _ _ _ ?_;have S:=Y.trans z;refine⟨_,rfl,wa,rfl,⟨_,aAA (S _ _ ah)⟩,λD2 al=>?_⟩;refine cN (xs:=us) (NwI D2 ks u (h.2[i]) H3) (.mk rfl af (ak al)) (λj ys H' ⟨_,e,_⟩=>e) (λj ys H' ⟨_,_,s⟩=>aAA (s _ _ (S _ _ ah))) ?_ ?_
    .rintro j ys H4 y hy ⟨rfl,J,s4⟩;have hj:j < (bX ks h.2[i]).length:=by rw[← ul];exact (afA.mp hy).1
     obtain⟨t,rfl,ht⟩:=aA j y _ hy (afx hj);generalize ec:(bX ks h.2[i])[j]=cc at *;have hp:cc.1 < ks.length/\(bX ks h.2[i]).length<=63:=by
      refine⟨?_,?_⟩
      .have:cc∈bX ks h.2[i]:=by rw[← ec];exact agg hj
       obtain⟨p,hp,rfl⟩:=afL.mp this;exact agP.mp (agi.mp hp).1
      .unfold bX;rw[afz];refine afR (agv _ _) ?_;rw[agK];exact ok.few
     have am:=S.trans s4;refine⟨t,_,rfl,aAB (am _ _ ht),rfl,?_⟩;refine⟨_,_,rfl,_,_,rfl,rfl,⟨rfl,rfl⟩,?_⟩;unfold uI;dsimp only;refine dt (B:=False) ?_;refine⟨_,rfl,_,rfl,a,_,_,_,rfl,rfl,aAA (am _ _ ha),bU (by rw[afF,show u[cc.1]? = some (u.getD cc.1 0) by rw[afJ,afx (by rw[aa];exact hp.1)];rfl];rfl),_,rfl,_,_,rfl,rfl,J,?_,nx (by rw[ul];exact hj) (.mk ?_ af λb y e=>by rw[ao (aj e al)];exact s4 _ _ e)⟩
     .rw[afz,af7];lia
     .rw[agh,afx hj,ec];simp
    .rintro ys H4 ⟨rfl,J,s4⟩;rw[ul,agm] at J;refine⟨D2,(bX ks h.2[i]).map λc=>decide (c.2<=u.getD c.1 0),rfl,aAA (by rw[J,af3];rfl),_,rfl,?_⟩;have eb:((bX ks h.2[i]).map λc=>decide (c.2<=u.getD c.1 0)).all id=(bX ks h.2[i]).all λc=>decide (c.2<=u.getD c.1 0):=by
      rw[ahG]
      rfl
     rw[eb];have aE:nbB h ks u o i=(bX ks h.2[i]).all λc=>decide (c.2<=u.getD c.1 0):=by rw[rb];rfl
     rw[← aE];have O:=z.trans s4;cases eb2:nbB h ks u o i with
     | true =>
      refine dt ?_;refine⟨_,rfl,O _ _ U,?_,nx hi (.mk ?_ af λb y e=>by rw[ao (aj e nD)];exact O _ _ (Y _ _ e))⟩
      .rw[afz];lia
      .rw[ahy,agd,afY];simp[eb2]
     | false =>
      refine cu ?_;refine nx hi (.mk ?_ (O _ _ U) (Y.trans O));rw[ahy,agd,afY];simp[eb2]
  .rintro ys H1 ⟨rfl,U,Y⟩;rw[vl] at U;exact q D H1 Y nD U
theorem abw {f O:Addr}{fd J:FuncData}{C:Addr}(F:Fun K "next_behind" "Doors.next_behind" aK f fd)(S:jR K C)(U:FnOk P w K mg base CX0 1 O J ["opened","number"] aal)(Y:Cal K mg "has_room" ["opened","number"] O J)(Z:mg "enumerate" = none)(fz:mg "all" = none):FnOk P w K mg base CX0 2 f fd ["self","opened","hand"] (yS C) :=
 FnOk.wk (wj F S U Y Z fz) λvs H Q E ⟨d,a,o,h,ks,z,e,D,ok,ha,hl,q⟩=>⟨d,a,o,h,ks,fZ ks z,e,D,ok,ha,ki ks z,hl,λb H' s n x=>q b H' s n (by rw[← acq ok];exact x)⟩
abbrev nxV (h:Hs)(o:List Nat):List V:=(hU h o).map λi=>V.int ((i:Nat):Int)
abbrev hdV (h:Hs)(ks:List Str)(o:List Nat):List V:=(fZ ks (cQ h.1 h.2 o)).map V.int
def ue:Sp:=λvs H Q _=>∃ (v:V) (h:Hs),vs=[v]/\HouseAt H v h/\dz h/\aaX h/\h.2.length<=12/\∀ S kvs os H',Same H H'->H S=none->H' S=some (.dK kvs)->DictL (nxV h) H' kvs os->cn h os->Q (.ref S) H'
inductive EnI (v:V)(d S:Addr)(h:Hs)(H0:Hp)(σ:L2.St)(H':Hp):Prop
 | mk (os:List (List Nat)) (kvs:List (Key×V)) (x3 x4 x5 x6 x7 x8 x9:Option V):σ=[some v,some (.ref d),some (.ref S),x3,x4,x5,x6,x7,x8,x9]->H' S=some (.dK kvs)->DictL (nxV h) H' kvs os->cn h os->Same H0 H'->EnI v d S h H0 σ H'
inductive WhI (v:V)(d S:Addr)(h:Hs)(ks:List Str)(H0 H1:Hp)(n:Nat)(σ:L2.St)(H':Hp):Prop
 | mk (os L:List (List Nat)) (kvsS kvsL:List (Key×V)) (Lv:Addr) (x4 x5 x6 x7 x8 x9:Option V):σ=[some v,some (.ref d),some (.ref S),some (.ref Lv),x4,x5,x6,x7,x8,x9]->H' S=some (.dK kvsS)->H' Lv=some (.dK kvsL)->S≠Lv->H0 Lv=none →
  Same H0 H'->Same (ndH H1) H'->DictL (nxV h) H' kvsS os->DictL (hdV h ks) H' kvsL L->LevL h n L->adk h n L->StepsM h n os->WhI v d S h ks H0 H1 n σ H'
inductive FoI (v:V)(d S Lv Fu:Addr)(h:Hs)(ks:List Str)(H0 H1:Hp)(kvsL:List (Key×V))(ob:Obj)(os L:List (List Nat))(n i:Nat)(σ:L2.St)(H':Hp):Prop
 | mk (kvsS:List (Key×V)) (M:List (List Nat)) (kvsM:List (Key×V)) (x5 x6 x7 x8 x9:Option V):σ=[some v,some (.ref d),some (.ref S),some (.ref Lv),some (.ref Fu),x5,x6,x7,x8,x9]->H' S=some (.dK kvsS)->H' Lv=some (.frz ob (.dK kvsL))->H' Fu=some (.dK kvsM) →
  Same H0 H'->Same (ndH H1) H'->DictL (nxV h) H' kvsS (os++L.take i)->DictL (hdV h ks) H' kvsL L->DictL (hdV h ks) H' kvsM M->LevL h (n+1) M->(∀ o∈L.take i,∀ k∈hU h o,aO (o++[k])∈M.map aO)->FoI v d S Lv Fu h ks H0 H1 kvsL ob os L n i σ H'
inductive InI (v:V)(d S Lv Fu:Addr)(h:Hs)(ks:List Str)(H0 H1:Hp)(kvsL kvsS:List (Key×V))(ob:Obj)(os L:List (List Nat))(n i:Nat)(o:List Nat)(lh ln:Addr)(j:Nat)(σ:L2.St)(H':Hp):Prop
 | mk (M:List (List Nat)) (kvsM:List (Key×V)) (x8 x9:Option V):σ=[some v,some (.ref d),some (.ref S),some (.ref Lv),some (.ref Fu),some (.int ((aO o:Nat):Int)),some (.ref lh),some (.ref ln),x8,x9]->H' S=some (.dK kvsS)->H' Lv=some (.frz ob (.dK kvsL))->H' Fu=some (.dK kvsM) →
  Same H0 H'->Same (ndH H1) H'->H' lh=some (.lst (hdV h ks o))->H' ln=some (.lst (nxV h o))->DictL (nxV h) H' kvsS (os++L.take (i+1))->DictL (hdV h ks) H' kvsL L->DictL (hdV h ks) H' kvsM M->LevL h (n+1) M->(∀ o∈L.take i,∀ k∈hU h o,aO (o++[k])∈M.map aO)->(∀ k∈(hU h o).take j,aO (o++[k])∈M.map aO) →
  InI v d S Lv Fu h ks H0 H1 kvsL kvsS ob os L n i o lh ln j σ H'
theorem de {H H':Hp}{D:Addr}{o:HO}(s:Same H H')(n:H D=none):Same H (upd H' D o):=λb u e=>by rw[ao (aj e n)];exact s _ _ e
theorem bz:aA ["house","doors","steps","level","further","opened","hand","numbers","number","behind"] ["house"] (ai jz):=scM rfl rfl rfl rfl (by decide +kernel)
theorem aaZ {f fI fN fH fW:Addr}{fd bn bo bq br:FuncData}{C:Addr}(F:Fun K "steps_of" "steps_of" jz f fd)(DC:jR K C)(C_Doors:Cls K C)(M_Doors:Mk K C fI)(as:mg "Doors" = some (.ref C))(iS:FnOk P w K mg base CX0 1 fI bn ["self","house"] (zr C))(iC:Binds K bn ["self","house"] [])
 (df:ace K C "next_behind" fN)(c0:FnOk P w K mg base CX0 2 fN bo ["self","opened","hand"] (yS C))(dc:Binds K bo ["self","opened","hand"] [])
 (dJ:ace K C "hand_with" fH)(dQ:FnOk P w K mg base CX0 1 fH bq ["self","hand","number"] (yR C))(dN:Binds K bq ["self","hand","number"] [])
 (bV:FnOk P w K mg base CX0 1 fW br ["opened","number"] qV)(aS:Cal K mg "with_room" ["opened","number"] fW br):FnOk P w K mg base CX0 3 f fd ["house"] ue:=by
 refine F.ok bz (λvs H Q E h=>?_) (λdb A outer s H vs Q E hr h=>?_)
 .obtain⟨v,h,rfl,_⟩:=h
  rfl
 .have hu:=du hr;obtain⟨v,h,rfl,hh,ok,b7,small,q⟩:=h;refine⟨_,(ah (az (i:=1) bz.nd rfl (.inl rfl) (zJ M_Doors iS hr rfl as iC .nil jd (ae (pv 0) ag)))
   (ah (az (i:=2) bz.nd rfl (.inl rfl) qy)
   (ah (az (i:=3) bz.nd rfl (.inl rfl) (abF ar (vg (pv 1) rfl)))
   (ah (bp (wq agx (aa9 (pv 3) (by intro _;rfl))
    (ah (az (i:=4) bz.nd rfl (.inl rfl) qy)
    (ah (bp (d9 agx rfl (aao (H₀:=H) rfl (pv 3)) (mR rfl (aI (av (i:=5) bz.nd rfl (.inl rfl)) (aI (av (i:=6) bz.nd rfl (.inl rfl)) dB)))
     (ah (az (i:=7) bz.nd rfl (.inl rfl) (mf (pv 1) C_Doors df c0 hr dc .nil jd (ae (pv 5) (ae (pv 6) ag))))
     (ah (uK hu (pv 2) (pv 5) (pv 7) rfl)
     (aq (bp (d9 agx rfl (aL (pv 7)) (av (i:=8) bz.nd rfl (.inl rfl))
      (ah (az (i:=9) bz.nd rfl (.inl rfl) (pcl bV aS (hr.mono (by decide:1<=2)) rfl (ae (pv 5) (ae (pv 8) ag))))
      (aq (bp (cj (abQ (sD hu (pv 9) (pv 4)))
       (aq (uK hu (pv 4) (pv 9) (mf (pv 1) C_Doors dJ dQ (hr.mono (by decide:1<=2)) dN .nil jd (ae (pv 6) (ae (pv 8) ag))) rfl)) aF)))))))))))
    (aq (az (i:=3) bz.nd rfl (.inl rfl) (pv 4)))))))
   (aq (aD (pv 2))))))),?_⟩
  refine⟨_,rfl,λd dx nd b8 ne=>?_⟩;have sM:Same H (upd (upd H dx (.own d)) d (.ins C dx [])):=de (ak b8) nd;have dM:(upd (upd H dx (.own d)) d (.ins C dx [])) d=some (.ins C dx []):=af;generalize upd (upd H dx (.own d)) d (.ins C dx [])=HM at *;refine⟨d,dx,v,h,rfl,hh.same sM,ok,b7,dM,λks H1 KO b1 DA=>⟨rfl,?_⟩⟩;have s1:Same H H1:=λb u e=>b1 b u (aj e nd) (sM _ _ e);have bu:=DA.nd;obtain⟨aK,l,_,_,fs,h1,h2,_,_,h5,h6,h7,_,_,_⟩:=DA;intro S nS;intro Lv aW;have aM:H1 Lv=none:=(ak (o:=.dK []) nS).free aW;have Z:S≠Lv:=λz=>by subst z;rw[af] at aW;cases aW
  have bv:H S=none:=s1.free nS;have aX:H Lv=none:=s1.free aM;have d2:(upd (upd H1 S (.dK [])) Lv (.dK [])) d=some (.ins C aK fs):=de (ak nS) aM _ _ h1;refine⟨_,rfl,d,C,aK,fs,_,rfl,d2,DC.cls,DC.n1,h2,.inl 0,rfl,af,?_⟩;have s2:Same H1 (upd (upd (upd H1 S (.dK [])) Lv (.dK [])) Lv (.dK [(.inl 0,.ref l)])):=de (de (ak nS) aM) aM;have cb:(upd (upd (upd H1 S (.dK [])) Lv (.dK [])) Lv (.dK [(.inl 0,.ref l)])) S=some (.dK []):=by rw[ao Z,ao Z,af]
  have cc:(upd (upd (upd H1 S (.dK [])) Lv (.dK [])) Lv (.dK [(.inl 0,.ref l)])) Lv=some (.dK [(.inl 0,.ref l)]):=af;generalize upd (upd (upd H1 S (.dK [])) Lv (.dK [])) Lv (.dK [(.inl 0,.ref l)])=H2 at *;have dn:2 ^ h.2.length<=4096:=afR (ahE (by decide) small) (by decide);have dp:1000000 < sizeLine:=by decide
  refine⟨EnI v d S h H,?_,?_⟩
  .rintro σ H3 ⟨os,kvs,x3,x4,x5,x6,x7,x8,x9,rfl,e3,d3,a3,s3⟩;exact⟨_,rfl,q S kvs os H3 s3 bv e3 d3 a3⟩
  .refine⟨λm σ H'=>∃ n,m=h.2.length+1 - n/\n<=h.2.length+1/\WhI v d S h ks H H1 n σ H',⟨_,0,rfl,af5 _,?_⟩,?_⟩
   .refine .mk [] [[]] [] [(.inl 0,.ref l)] Lv none none none none none none rfl cb cc Z aX (s1.trans s2) (jV.trans s2) .nil ⟨rfl,λi kv o a b=>?_⟩ ⟨λo ho=>?_,λo ho=>?_,by simp⟩ (yg h) (.zero h)
    .match i,a,b with
     | 0,a,b =>
      cases a;cases b;exact⟨l,rfl,s2 _ _ h7⟩
    .rw[afD] at ho;subst ho;exact iN _ _
    .rw[afD] at ho;subst ho
     rfl
   .rintro m σ H3 ⟨n,rfl,hn,os,L,aU,J,Lv,x4,x5,x6,x7,x8,x9,rfl,eS,eL,Z,aX,s3,g3,dS,dL,aa,al,st⟩;refine⟨_,rfl,_,.inr (.inr ⟨J,eL,rfl⟩),?_⟩;cases hk:J with
    | nil =>
     subst hk;have:L=[]:=aij dL.len.symm;subst this;exact cu ⟨os,aU,_,_,_,_,_,_,_,rfl,eS,dS,st.done al,s3⟩
    | cons p r =>
     refine dt ?_;have ch:L≠[]:=λz=>by
      have:=dL.len;rw[z,hk] at this;cases this
     have dE:=yC aa ch;refine⟨λU H'=>WhI v d S h ks H H1 (n+1) U H',λU H' w=>⟨_,?_,n+1,rfl,by lia,w⟩,?_⟩
     .lia
     .intro Fu au;have bA:H Fu=none:=s3.free au;have ax:S≠Fu:=λz=>by subst z;rw[eS] at au;cases au
      have aV:Lv≠Fu:=λz=>by subst z;rw[eL] at au;cases au
      have s4:Same H3 (upd H3 Fu (.dK [])):=ak au;have ci:(upd H3 Fu (.dK [])) Fu=some (.dK []):=af;generalize upd H3 Fu (.dK [])=H4 at *;have aZ:=s4 _ _ eL;have ck:=s4 _ _ eS;refine⟨λU H'=>∃ ob,FoI v d S Lv Fu h ks H H1 J ob os L n J.length U H',?_,?_⟩
      .rintro U H5 ⟨ob,kS,M,kM,y5,y6,y7,y8,y9,rfl,fS,fL,fF,s5,g5,aw,aN,a0,ay,ap⟩;rw[dL.len,agm] at aw ap;exact⟨_,rfl,.mk (os++L) M kS kM Fu _ _ _ _ _ _ rfl fS fF ax bA s5 g5 aw a0 ay (yE aa al ap) (st.next aa al)⟩
      .refine⟨_,rfl,Lv,J,rfl,aZ,λob nf=>?_⟩;have bC:Same (ndH H4) (upd H4 Lv (.frz ob (.dK J))):=uE aZ rfl;refine zH (FoI v d S Lv Fu h ks H H1 J ob os L n) (.mk aU [] [] _ _ _ _ _ rfl (by rw[ao Z];exact ck) af (by rw[ao (λz=>aV z.symm)];exact ci) (de (s3.trans s4) aX) (wx (g3.trans s4) aZ rfl) ?_ ((dL.same (jV.trans s4)).same bC) .nil (.nil h _) (λo ho=>absurd ho (by simp))) (λi σ H' _ ⟨_,_,_,_,_,_,_,_,_,_,e,_,_,_,_,_,_,_,_⟩=>e) ?_ (λσ H' z=>⟨ob,z⟩)
       .rw[ail,agl];exact (dS.same (jV.trans s4)).same bC
       .rintro i k vv σ H5 T ba ⟨kS,M,kM,y5,y6,y7,y8,y9,rfl,fS,fL,fF,s5,g5,aw,aN,a0,ay,ap⟩ nT;have bD:i < L.length:=by rw[← dL.len];exact (afA.mp ba).1
        have bb:L[i]? = some L[i]:=afx bD;have bc:L[i]∈L:=agg bD;obtain⟨lh,ev,bE⟩:=aN.at_ i (k,vv) L[i] ba bb;have cn:k=kB L[i]:=by
         have a:(J.map (·.1))[i]? = some k:=by rw[afF,ba];rfl
         rw[aN.keys,afF,bb] at a;exact (agT a).symm
        dsimp only at ev;subst ev cn;have tk:L.take (i+1)=L.take i++[L[i]]:=by rw[agh,bb];rfl
        generalize eo:L[i]=o at *;have gO:=aa.gone o bc;have s6:Same H5 (upd H5 T (.tup [kV (kB o),.ref lh])):=ak nT;have e6:(upd H5 T (.tup [kV (kB o),.ref lh])) T=some (.tup [kV (kB o),.ref lh]):=af;generalize upd H5 T (.tup [kV (kB o),.ref lh])=H6 at *;refine⟨T,_,rfl,aAB e6,rfl,?_⟩;refine⟨_,_,rfl,_,_,rfl,rfl,?_⟩;have co:=bu.same (g5.trans s6);have cq:=(g5.trans s6) _ _ (jZ h1 rfl);refine⟨_,rfl,d,aK,fs,rfl,cq,h6,_,rfl,_,rfl,d,lh,o,h,ks,cQ h.1 h.2 o,rfl,co,KO,s6 _ _ bE,by lia,λln H7 s7 dX bF=>?_⟩;have ac:=s6.trans s7;have cr:kB o ∉ kS.map (·.1):=by
         rw[aw.keys,kB_mem,afY,afV];rintro (z | z)
         .exact mm st aa o bc z
         .have nd:=aa.nd;rw[← agC (i+1) L,tk,afY,afY,aht] at nd;exact (aht.mp nd.1).2.2 _ z _ (by simp) rfl
        have bG:kS.length < sizeLine:=by
         rw[aw.len,afH,af7];have:=xR st;have:=zM aa;lia
        refine⟨_,rfl,_,rfl,_,rfl,S,_,rfl,DPut.k (k:=kB o) (ac _ _ fS) bG,?_⟩;rw[yf cr];have bH:=ac _ _ fS;have aA:Same (ndH H7) (upd H7 S (.dK (kS++[(kB o,.ref ln)]))):=uE bH rfl;have bI:Lv≠S:=λz=>Z z.symm;have cs:=s5.trans ac;have g7:=g5.trans ac;have k7:Same (ndH H5) H7:=jV.trans ac;have s8:Same H (upd H7 S (.dK (kS++[(kB o,.ref ln)]))):=de cs bv;have g8:Same (ndH H1) (upd H7 S (.dK (kS++[(kB o,.ref ln)]))):=wx g7 bH rfl;have cv:(upd H7 S (.dK (kS++[(kB o,.ref ln)]))) S=some (.dK (kS++[(kB o,.ref ln)])):=af;have cw:(upd H7 S (.dK (kS++[(kB o,.ref ln)]))) Lv=some (.frz ob (.dK J)):=by rw[ao bI];exact ac _ _ fL
        have cx:(upd H7 S (.dK (kS++[(kB o,.ref ln)]))) Fu=some (.dK kM):=by rw[ao (λz=>ax z.symm)];exact ac _ _ fF
        have cy:=aA _ _ (jZ (ac _ _ bE) rfl);have bJ:=aA _ _ (jZ bF rfl);have cz:DictL (nxV h) (upd H7 S (.dK (kS++[(kB o,.ref ln)]))) (kS++[(kB o,.ref ln)]) (os++L.take (i+1)):=by
         rw[tk,← afN];exact (aw.same k7).snoc aA bF
        have cA:=(aN.same k7).same aA;have cB:=(a0.same k7).same aA;generalize upd H7 S (.dK (kS++[(kB o,.ref ln)]))=H8 at *;generalize kS++[(kB o,.ref ln)]=aQ at *;refine⟨InI v d S Lv Fu h ks H H1 J aQ ob os L n i o lh ln (hU h o).length,?_,?_⟩
        .rintro U H9 ⟨M',ad,z8,z9,rfl,a1,a2,a3,a4,a5,a6,a7,a8,a9,ai,aB,aR,aC⟩;rw[agm] at aC;refine .mk aQ M' ad _ _ _ _ _ rfl a1 a2 a3 a4 a5 a8 a9 ai aB λx hx k hk=>?_;rw[tk,afV,afD] at hx;rcases hx with hx | hx
         .exact aR x hx k hk
         .subst hx;exact aC k hk
        .refine⟨_,rfl,ln,rfl,⟨_,aAA bJ⟩,?_⟩;refine gS (xs:=nxV h o) (λj U H'=>InI v d S Lv Fu h ks H H1 J aQ ob os L n i o lh ln j U H') (.mk M kM _ _ rfl cv cw cx s8 g8 cy bJ cz cA cB ay ap (λk hk=>absurd hk (by simp))) (λj σ H' _ ⟨_,_,_,_,_,_,_,_,_,_,_,e,_,_,_,_,_,_⟩=>aAA e) ?_ (λσ H' z=>by rw[afz] at z;exact z);rintro j x σ H9 hx ⟨M',ad,z8,z9,rfl,a1,a2,a3,a4,a5,a6,a7,a8,a9,ai,aB,aR,aC⟩;have hj:j < (hU h o).length:=by have:=(afA.mp hx).1;rwa [afz] at this
         rw[afF,afx hj] at hx;have bM:(hU h o).take (j+1)=(hU h o).take j++[(hU h o)[j]]:=by rw[agh,afx hj];rfl
         have bN:(hU h o)[j]∈hU h o:=agg hj;generalize (hU h o)[j]=nm at *;cases hx;obtain⟨cF,d6,bO⟩:=next_iffD.mp bN;refine⟨_,rfl,_,rfl,aO o,nm,rfl,by lia,λcG Y=>?_⟩;rw[← dZ];have c3:=Y _ _ a3;refine⟨λU H'=>InI v d S Lv Fu h ks H H1 J aQ ob os L n i o lh ln (j+1) U H',λU H' z=>z,?_⟩;refine⟨_,rfl,_,rfl,Fu,_,rfl,DGet.k (k:=kB (o++[nm])) c3,_,rfl,?_⟩;have bd:Same (ndH H9) cG:=jV.trans Y;by_cases aE:aO (o++[nm])∈M'.map aO
         .have e1:(gG ad (kB (o++[nm]))).isSome=true:=by rw[qP,ai.keys,kB_mem];exact aE
          rw[e1];refine cu ?_;refine .mk M' ad _ _ rfl (Y _ _ a1) (Y _ _ a2) c3 (a4.trans Y) (a5.trans Y) (Y _ _ a6) (Y _ _ a7) (a8.same bd) (a9.same bd) (ai.same bd) aB aR λk hk=>?_;rw[bM,afV,afD] at hk;rcases hk with hk | hk
          .exact aC k hk
          .subst hk;exact aE
         .have e1:(gG ad (kB (o++[nm]))).isSome=false:=by
           rw[ai9];intro z;rw[qP,ai.keys,kB_mem] at z;exact aE z
          rw[e1];refine dt ?_;have bP:=a5.trans Y;have bQ:=bu.same bP;have bR:=bP _ _ (jZ h1 rfl);have rg:h.2[nm]? = some (rmD h.2 nm):=by
           unfold rmD;rw[afx cF]
           rfl
          refine⟨_,rfl,d,aK,fs,rfl,bR,h5,_,rfl,_,rfl,d,lh,nm,h,ks,cQ h.1 h.2 o,rmD h.2 nm,rfl,bQ,rg,Y _ _ a6,bO,by lia,KO.few,λbh aT cI d8 cJ=>?_⟩;have O:=Y.trans cI;have be:=O _ _ a3;have bS:=aB.snoc gO (aa.len o bc) bN aE;have bT:ad.length < sizeLine:=by
           rw[ai.len];have:=zM aB;lia
          have cK:kB (o++[nm]) ∉ ad.map (·.1):=by
           rw[ai.keys,kB_mem];exact aE
          refine⟨_,rfl,_,rfl,Fu,_,rfl,DPut.k (k:=kB (o++[nm])) be bT,?_⟩;rw[yf cK];have aG:Same (ndH aT) (upd aT Fu (.dK (ad++[(kB (o++[nm]),.ref bh)]))):=uE be rfl;have bf:Same (ndH H9) aT:=jV.trans O;have cL:aT bh=some (.lst (hdV h ks (o++[nm]))):=by
           unfold hdV;rw[jr];exact cJ
          refine .mk (M'++[o++[nm]]) _ _ _ rfl (by rw[ao ax];exact O _ _ a1) (by rw[ao aV];exact O _ _ a2) af (de (a4.trans O) bA) (wx (a5.trans O) be rfl) (aG _ _ (jZ (O _ _ a6) rfl)) (aG _ _ (jZ (O _ _ a7) rfl)) ((a8.same bf).same aG) ((a9.same bf).same aG) ((ai.same bf).snoc aG cL) bS (λx hx k hk=>?_) λk hk=>?_
          .rw[afY,afV];exact .inl (aR x hx k hk)
          .rw[afY,afV];rw[bM,afV,afD] at hk;rcases hk with hk | hk
           .exact .inl (aC k hk)
           .subst hk;exact .inr (by simp)
def aae:Sp:=λvs H Q _=>∃ (v:V) (h:Hs) (m:Nat),vs=[v,.int (m:Int)]/\HouseAt H v h/\dz h/\h.2.length<=m/\∀ H',Same H H'->Q .non H'
theorem uu {h:Hs}{os:List (List Nat)}(s:cn h os):os.length<=2 ^ h.2.length:=by
 have:(os.map aO).length<=2 ^ h.2.length:=fe s.nd λi hi=>by
  obtain⟨o,z,rfl⟩:=afL.mp hi;exact qw (gh o (s.gone o z))
 simpa using this
theorem xW:∀ {kvs:List (Key×V)} {os:List (List Nat)} {j:Nat} {kv:Key×V} {o:List Nat},kvs.map (·.1)=os.map kB->(os.map aO).Nodup->kvs[j]? = some kv->os[j]? = some o->gG kvs (kB o)=some kv.2
 | p::kvs,q::os,0,_,_,hk,_,e1,e2=>by
  cases e1;cases e2;rw[af0,af0] at hk;injection hk with h1 _
  exact cB h1
 | p::kvs,q::os,j+1,kv,o,hk,nd,e1,e2=>by
  rw[af0,af0] at hk;injection hk with h1 h2
  rw[af0,ahJ] at nd;simp only[aiY] at e1 e2;rw[cD (λz=>nd.1 ?_)]
  .exact xW h2 nd.2 e1 e2
  .have:kB q=kB o:=h1.symm.trans z;rw[rF this];exact aiO (afP e2)
 | [],_,_,_,_,_,_,e1,_=>by simp at e1
 | _::_,[],_,_,_,hk,_,_,_=>by simp at hk
theorem DictL.get {F:List Nat->List V}{H:Hp}{kvs:List (Key×V)}{os:List (List Nat)}(d:DictL F H kvs os)(nd:(os.map aO).Nodup){j:Nat}{o:List Nat}(e:os[j]? = some o):∃ l:Addr,gG kvs (kB o)=some (.ref l)/\H l=some (.lst (F o)):=by
 have z:j < kvs.length:=by rw[d.len];exact (afA.mp e).1
 obtain⟨l,J,O⟩:=d.at_ j _ o (afx z) e;exact⟨l,by rw[xW d.keys nd (afx z) e,J],O⟩
theorem aeu {h:Hs}{os:List (List Nat)}(s:cn h os){j:Nat}{o:List Nat}(e:os[j]? = some o){i:Nat}(hi:i∈hU h o):∃ k o',os[k]? = some o'/\j < k/\aO o'=aO (o++[i])/\o'.Perm (o++[i]):=by
 have Z:=afP e;have g:=cf (s.gone o Z) hi;obtain⟨o',z,Y⟩:=afL.mp (s.all _ g);have p:=f9 (aG o' (s.gone o' z)) (aG _ g) Y;obtain⟨k,J⟩:=agp z;refine⟨k,o',J,?_,Y,p⟩;have l:=p.length_eq;rw[afH,af1] at l;refine ahX λO=>?_;rcases ajT (akv O) with lt | eq
 .obtain⟨S,ek⟩:=afA.mp J;obtain⟨U,ej⟩:=afA.mp e;have:=ag5.mp s.up k j S U lt;rw[ek,ej] at this;lia
 .subst eq;rw[J] at e;cases e;lia
theorem aab {H:Hp}{a:Addr}{kvs:List (Key×V)}{k:Key}{v:V}(e:H a=some (.dK kvs))(z:gG kvs k=some v):DGet H a (kV k) (some v):=by
 rw[← z];exact DGet.k e
def qA:Sp:=λvs H Q _=>∃ n:Int,vs=[.int n]/\∀ H',Same H H'->Q (.bl true) H'
theorem aar {h:Hs}{H:Hp}{kvs:List (Key×V)}{os:List (List Nat)}(S:DictL (nxV h) H kvs os)(z:cn h os){o:List Nat}(g:cM h.1 h.2 o):∃ l:Addr,gG kvs (kB o)=some (.ref l)/\H l=some (.lst (nxV h o)):=by
 obtain⟨y,J,O⟩:=afL.mp (z.all _ g);have p:=f9 (aG y (z.gone y J)) (aG _ g) O;obtain⟨j,U⟩:=agp J;obtain⟨l,Y,Z⟩:=S.get z.nd U;refine⟨l,by rw[show kB o=kB y by unfold kB;rw[O]];exact Y,?_⟩;rw[Z];unfold nxV;rw[qv (z.gone y J) g p]
theorem acn (i:Nat)(z:List Nat):inV (.int ((i:Nat):Int)) (z.map λn=>V.int ((n:Nat):Int))=decide (i∈z):=by
 unfold inV;rw[ag3,ajk,aho,af9];constructor
 .rintro⟨n,J,e⟩;have e:eqV (.int ((n:Nat):Int)) (.int ((i:Nat):Int))=true:=e;have:((n:Nat):Int)=((i:Nat):Int):=by simpa [eqV] using e
  have:n=i:=by lia
  exact this▸J
 .intro h;refine⟨i,h,?_⟩;show eqV (.int ((i:Nat):Int)) (.int ((i:Nat):Int))=true;simp[eqV]
abbrev cO (o:List Nat):List V:=o.map λn=>V.int ((n:Nat):Int)
theorem lF:aA ["thing","most"] ["thing","most"] (ai cU):=scM rfl rfl rfl rfl (by decide +kernel)
theorem wD {T f:Addr}{fd:FuncData}{J d:Value}{O:Option Addr}{n:Nat}{sl:Array (Option Value)}(F:FunD K "require_small" "require_small" cU T f fd)(S:K.lookup T=some ⟨J,O,.seq #[d] n,sl⟩):Binds K fd ["thing","most"] [d]:=by
 obtain⟨_,_,kV,U,pm,an,Y,ct,Z,rfl,lk,aa⟩:=F.ex;intro s z KX hl;have l1:z.length=1:=by simpa using hl
 match z,l1 with
 | [x],_=>exact BindsTo.of_defaults rfl (KX _ _ S) rfl rfl rfl
theorem aaO {T f O:Addr}{fd z:FuncData}(F:FunD K "require_small" "require_small" cU T f fd)(Y:FnOk P w K mg base CX0 6 O z ["thing"] adn)(Z:Cal K mg "require_house" ["thing"] O z)(cg:mg "len" = none):FnOk P w K mg base CX0 7 f fd ["thing","most"] aae:=by
 refine F.ok lF (λvs H Q E h=>?_) (λac A outer s H vs Q E S h=>?_)
 .obtain⟨v,h,m,rfl,_⟩:=h
  rfl
 .have hu:=du S;obtain⟨v,h,m,rfl,U,ok,le,q⟩:=h;refine⟨_,(ah (dg (pcl Y Z S rfl (ae (pv 0) ag)))
   (aq (cj (aE wY (au aQ rfl cg agH (ae (bR il (pv 0) ar (λ_ _=>rfl)) ag)) (pv 1) (aP _))
    mV aF))),?_⟩
  refine⟨_,rfl,v,h,rfl,U,ok,λH1 J=>?_⟩;obtain⟨t,a,r,vs,rfl,h1,h2,h3,h4⟩:=U;refine⟨_,rfl,t,_,_,_,rfl,rfl,aAB (J _ _ h1),rfl,r,_,rfl,.inl (aAA (J _ _ h3)),_,rfl,_,_,rfl,rfl,_,rfl,?_⟩;rw[afS (by have:=h4.1;lia)];exact cu (q H1 J)
theorem uf:aA ["thing"] ["thing"] (ai jA):=scM rfl rfl rfl rfl (by decide +kernel)
theorem abm {f:Addr}{fd:FuncData}(F:Fun K "is_whole" "is_whole" jA f fd)(J:mg "bool" = none)(O:mg "int" = none)(z:mg "isinstance" = none):FnOk P w K mg base CX0 1 f fd ["thing"] qA:=by
 refine F.ok uf (λvs H Q E h=>?_) (λS A outer s H vs Q E U h=>?_)
 .obtain⟨n,rfl,_⟩:=h
  rfl
 .obtain⟨n,rfl,k⟩:=h;refine⟨_,(aq (aD (gb (au aW rfl z (by decide +kernel) (ae (pv 0) (ae (dO (v:=.ty "int") (u:=.type "int") rfl O (by decide +kernel) rfl) ag))) (jk (adu (au aW rfl z (by decide +kernel) (ae (pv 0) (ae (dO (v:=.ty "bool") (u:=.type "bool") rfl J (by decide +kernel) rfl) ag)))))))),?_⟩;refine⟨_,rfl,_,_,_,true,rfl,.int n,cV K _,true,rfl,dt ?_⟩;exact⟨_,rfl,_,_,_,false,rfl,.int n,rH K,false,rfl,k _ (Same.refl H)⟩
abbrev zs (o:List Nat):List Int:=o.map λn=>((n:Nat):Int)
theorem zs_lt:∀ {a b:List Nat},zs a < zs b↔a < b
 | [],[]=>⟨λz=>absurd z (ahO _),λz=>absurd z (ahO _)⟩
 | [],y::b=>⟨λ_=>akw _ _,λ_=>akw _ _⟩
 | x::a,[]=>⟨λz=>absurd z (ahO _),λz=>absurd z (ahO _)⟩
 | x::a,y::b=>by
  show ((x:Nat):Int)::zs a < ((y:Nat):Int)::zs b↔_;rw[ag7,ag7,zs_lt (a:=a) (b:=b)];constructor
  .rintro (z | ⟨z,u⟩)
   .exact .inl (by lia)
   .exact .inr ⟨by lia,u⟩
  .rintro (z | ⟨z,u⟩)
   .exact .inl (by lia)
   .exact .inr ⟨by lia,u⟩
theorem vf {a b:List Nat}(e:zs a=zs b):a=b:=List.map_inj_right (λx y h=>by lia) |>.mp e
theorem abO:∀ {a b x y:List Nat},a.length=b.length->a < b->a++x < b++y
 | [],[],_,_,_,h=>absurd h (ahO _)
 | a::as,b::bs,x,y,l,h=>by
  rw[ag7] at h;rw[ahC,ahC,ag7];rcases h with h | ⟨e,h⟩
  .exact .inl h
  .exact .inr ⟨e,abO (by simpa using l) h⟩
 | [],_::_,_,_,l,_=>by simp at l
 | _::_,[],_,_,l,_=>by simp at l
theorem lt_same {p:List Nat}{i j:Nat}:p++[i] < p++[j]↔i < j:=by
 induction p with
 | nil=>rw[ais,ais,ag7];exact⟨λz=>z.elim id λz=>absurd z.2 (ajf _),.inl⟩
 | cons x p J =>
  rw[ahC,ahC,ag7,J];exact⟨λz=>z.elim (λz=>absurd z (agB _)) (·.2),λz=>.inr ⟨rfl,z⟩⟩
def ldF (h:Hs)(Wp:List Nat->Bool):Nat->List Nat->Bool
 | 0,o=>Wp o
 | n+1,o=>Wp o || (hU h o).any λi=>ldF h Wp n (o++[i])
def Ld (h:Hs)(Wp:List Nat->Bool)(o:List Nat):Bool:=ldF h Wp (h.2.length - o.length) o
def abg (h:Hs)(Wp:List Nat->Bool):Prop:=∀ o o',cM h.1 h.2 o->cM h.1 h.2 o'->o.Perm o'->Wp o=Wp o'
theorem Ld.step {h:Hs}{Wp:List Nat->Bool}{o:List Nat}(g:cM h.1 h.2 o):Ld h Wp o=(Wp o || (hU h o).any λi=>Ld h Wp (o++[i])):=by
 unfold Ld;have le:=i8 g;by_cases e:o.length=h.2.length
 .rw[acK g e,e,ajj];show Wp o=(Wp o || false);rw[alu]
 .obtain⟨n,z⟩:∃ n,h.2.length - o.length=n+1:=⟨h.2.length - o.length - 1,by lia⟩;rw[z];show (Wp o || _)=_;congr 1;refine agS (λf=>(hU h o).any f) (funext λi=>?_);rw[afH,af1,show h.2.length - (o.length+1)=n by lia]
theorem tN {α:Type}{f g:α->Bool}:∀ {l:List α},(∀ x∈l,f x=g x)->l.any f=l.any g
 | [],_=>rfl
 | a::l,h=>by rw[ahF,ahF,h a afX,tN λx m=>h x (af6 _ m)]
theorem vE {h:Hs}{Wp:List Nat->Bool}(z:abg h Wp):∀ n o o',cM h.1 h.2 o->cM h.1 h.2 o'->o.Perm o'->ldF h Wp n o=ldF h Wp n o'
 | 0,o,o',g,g',p=>z o o' g g' p
 | n+1,o,o',g,g',p=>by
  show (Wp o || _)=(Wp o' || _);rw[z o o' g g' p,qv g g' p];congr 1;refine tN λi hi=>?_;exact vE z n _ _ (cf g (by rw[← qv g g' p] at hi;exact hi)) (cf g' hi) (p.append_right [i])
theorem Ld.perm {h:Hs}{Wp:List Nat->Bool}(z:abg h Wp){o o':List Nat}(g:cM h.1 h.2 o)(g':cM h.1 h.2 o')(p:o.Perm o'):Ld h Wp o=Ld h Wp o':=by
 unfold Ld;rw[p.length_eq];exact vE z _ _ _ g g' p
theorem Ld.of {h:Hs}{Wp:List Nat->Bool}:∀ e o,cM h.1 h.2 (o++e)->Wp (o++e)=true->Ld h Wp o=true
 | [],o,g,w=>by
  rw[agl] at g w;rw[Ld.step g,w,akF]
 | i::e,o,g,w=>by
  have z:cM h.1 h.2 ((o++[i])++e):=by rw[afN];exact g
  have J:Wp ((o++[i])++e)=true:=by rw[afN];exact w
  have O:=Ld.of e (o++[i]) z J;have S:cM h.1 h.2 (o++[i]):=by
   have:=ku z (o++[i]).length
   rwa [ala] at this
  obtain⟨U,hi⟩:=di S;rw[Ld.step U];rw[ahL,aho];exact .inr ⟨i,hi,O⟩
structure FirstI (h:Hs)(Wp:List Nat->Bool)(p:List Nat):Prop where
 gone:cM h.1 h.2 p
 ld:Ld h Wp p=true
 low:∀ o,cM h.1 h.2 o->Wp o=true->¬ o.take p.length < p
theorem FirstI.nil {h:Hs}{Wp:List Nat->Bool}(l:Ld h Wp []=true):FirstI h Wp []:=⟨iN _ _,l,λo _ _=>ahO _⟩
theorem FirstI.next {h:Hs}{Wp:List Nat->Bool}{p:List Nat}{k m:Nat}(f:FirstI h Wp p)(sz:∀ o,cM h.1 h.2 o->Wp o=true->o.length=m)(nw:Wp p=false)(S:k∈hU h p)(U:Ld h Wp (p++[k])=true)(O:∀ i∈hU h p,Ld h Wp (p++[i])=true->k<=i)(pm:p.length < m):FirstI h Wp (p++[k]):=by
 refine⟨cf f.gone S,U,λo g w z=>?_⟩;have ol:=sz o g w;have J:p.length < o.length:=by lia
 rw[afH,af1,← ah5 J] at z;have tl:(o.take p.length).length=p.length:=by rw[af7];lia
 by_cases e:o.take p.length=p
 .rw[e] at z;have z:=lt_same.mp z;have Y:cM h.1 h.2 (p++[o[p.length]]):=by
   have:=ku g (p.length+1);rw[← ah5 J,e] at this;exact this
  have:=O _ (di Y).2 (Ld.of (o.drop (p.length+1)) _ (by
   rw[show p++[o[p.length]]=o.take (p.length+1) by rw[← ah5 J,e],agC];exact g) (by
   rw[show p++[o[p.length]]=o.take (p.length+1) by rw[← ah5 J,e],agC];exact w))
  lia
 .have lt:p < o.take p.length:=by
   have h1:=f.low o g w;exact ahX λZ=>e (aiJ (ahU.mp Z) (ahU.mp h1))
  exact ajf _ (akq z (abO tl.symm lt))
theorem FirstI.more {h:Hs}{Wp:List Nat->Bool}{p:List Nat}(f:FirstI h Wp p)(z:Wp p=false):∃ k∈hU h p,Ld h Wp (p++[k])=true:=by
 have:=f.ld;rw[Ld.step f.gone,z,akk,aho] at this;exact this
theorem FirstI.done {h:Hs}{Wp:List Nat->Bool}{p:List Nat}{m:Nat}(f:FirstI h Wp p)(sz:∀ o,cM h.1 h.2 o->Wp o=true->o.length=m)(w:Wp p=true):∀ o,cM h.1 h.2 o->Wp o=true->¬ o < p:=λo g J z=>by
 have:=f.low o g J;rw[sz p f.gone w,← sz o g J,agm] at this;exact this z
def bL (n:Nat):List Nat:=(List.range (rT n)).filter λi=>n.testBit i
theorem rooms_mem {o:List Nat}{i:Nat}:i∈bL (aO o)↔i∈o:=by
 unfold bL;rw[agi,agP,eZ,af9];refine⟨(·.2),λm=>⟨?_,m⟩⟩;refine ahX λz=>?_;have h1:aO o < 2 ^ i:=afW (aa4 _) (ahE (by decide) (by lia));have h2:=Nat.testBit_lt_two_pow h1;rw[eZ,akt] at h2;exact h2 m
theorem qu (n:Nat):(bL n).Pairwise (· < ·):=akC.filter _
theorem abc (n:Nat):(bL n).Nodup:=List.nodup_range.filter _
theorem bj {o:List Nat}(nd:o.Nodup):(bL (aO o)).Perm o:=(ajM (abc _) nd).mpr λi=>rooms_mem
theorem ye {o o':List Nat}(nd:o.Nodup)(z:o'.Nodup)(e:bL (aO o)=bL (aO o')):aO o=aO o':=iT (((bj nd).symm.trans (.of_eq e)).trans (bj z))
theorem yO {α:Type}[LT α](J:∀ a:α,¬ a < a)(S:∀ a b c:α,a < b->b < c->a < c):∀ {l O:List α},l.Pairwise (· < ·)->O.Pairwise (· < ·)->(∀ x,x∈l↔x∈O)->l=O
 | [],[],_,_,_=>rfl
 | [],y::_,_,_,h=>absurd ((h y).mpr afX) agA
 | x::_,[],_,_,h=>absurd ((h x).mp afX) agA
 | x::l,y::O,p,q,h=>by
  rw[agy] at p q;have e:x=y:=by
   rcases afZ.mp ((h x).mp afX) with e | e
   .exact e
   .rcases afZ.mp ((h y).mpr afX) with e2 | e2
    .exact e2.symm
    .exact absurd (S _ _ _ (q.1 x e) (p.1 y e2)) (J _)
  subst e;congr 1;refine yO J S p.2 q.2 λz=>⟨λm=>?_,λm=>?_⟩
  .rcases afZ.mp ((h z).mp (af6 _ m)) with e | e
   .exact absurd (p.1 z m) (by rw[e];exact J _)
   .exact e
  .rcases afZ.mp ((h z).mpr (af6 _ m)) with e | e
   .exact absurd (q.1 z m) (by rw[e];exact J _)
   .exact e
theorem abW {h:Hs}{Wp:List Nat->Bool}:∀ n o,cM h.1 h.2 o->ldF h Wp n o=true->∃ e,cM h.1 h.2 (o++e)/\Wp (o++e)=true
 | 0,o,g,l=>⟨[],by rw[agl];exact g,by rw[agl];exact l⟩
 | n+1,o,g,l=>by
  have l:(Wp o || (hU h o).any λi=>ldF h Wp n (o++[i]))=true:=l;rw[ahL,aho] at l;rcases l with l | ⟨i,hi,l⟩
  .exact⟨[],by rw[agl];exact g,by rw[agl];exact l⟩
  .obtain⟨e,z,w⟩:=abW n _ (cf g hi) l;exact⟨i::e,by rw[afN] at z;exact z,by rw[afN] at w;exact w⟩
theorem FirstI.lt {h:Hs}{Wp:List Nat->Bool}{p:List Nat}{m:Nat}(f:FirstI h Wp p)(sz:∀ o,cM h.1 h.2 o->Wp o=true->o.length=m)(z:Wp p=false):p.length < m:=by
 obtain⟨e,g,w⟩:=abW _ p f.gone f.ld;have l:=sz _ g w;cases e with
 | nil=>rw[agl] at w;rw[z] at w;cases w
 | cons x e=>rw[afH,age] at l;lia
def ui:Sp:=λvs H Q _=>∃ (o:List Nat),vs=[.int ((aO o:Nat):Int)]/\(∀ i∈o,i < 60)/\∀ D H',Same H H'->H D=none->H' D=some (.lst (cO (bL (aO o))))->Q (.ref D) H'
def yx:Sp:=λvs H Q _=>∃ (S Wa:Addr) (kvs:List (Key×V)) (h:Hs) (os:List (List Nat)) (ws:List (Key×V)) (Wp:List Nat->Bool) (m:Nat),vs=[.ref S,.ref Wa]/\h.2.length<=12/\H S=some (.dK kvs)/\DictL (nxV h) H kvs os/\cn h os/\H Wa=some (.dK ws)/\(∀ o,cM h.1 h.2 o->(gG ws (kB o)).isSome=Wp o)/\(∃ o,cM h.1 h.2 o/\Wp o=true)/\(∀ o,cM h.1 h.2 o->Wp o=true->o.length=m) ∧
 ∀ (D:Addr) (r:List Nat) (H':Hp),Same H H'->H D=none->H' D=some (.lst (cO r))->cM h.1 h.2 r->Wp r=true->(∀ o,cM h.1 h.2 o->Wp o=true->¬ o < r)->Q (.ref D) H'
def ldV (h:Hs)(Wp:List Nat->Bool)(o:List Nat):V->V
 | .int n=>.bl (Ld h Wp (o++[n.toNat]))
 | v=>v
def ldB (h:Hs)(Wp:List Nat->Bool)(o:List Nat):V->Bool
 | .int n=>Ld h Wp (o++[n.toNat])
 | _=>false
def LdD (h:Hs)(Wp:List Nat->Bool)(es:List (Key×V))(o:List Nat):Prop:=gG es (kB o)=some (.bl (Ld h Wp o))
theorem aeP {h:Hs}{Wp:List Nat->Bool}{es:List (Key×V)}{os:List (List Nat)}(S:abg h Wp)(z:cn h os)(all:∀ o∈os,LdD h Wp es o){o:List Nat}(g:cM h.1 h.2 o):gG es (kB o)=some (.bl (Ld h Wp o)):=by
 obtain⟨y,J,O⟩:=afL.mp (z.all _ g);have p:=f9 (aG y (z.gone y J)) (aG _ g) O;have:=all y J;unfold LdD at this;rw[show kB o=kB y by unfold kB;rw[O],this,Ld.perm S (z.gone y J) g p]
inductive FdI (S Wa E l:Addr)(h:Hs)(Wp:List Nat->Bool)(os:List (List Nat))(ks:List V)(H:Hp)(i:Nat)(σ:L2.St)(H':Hp):Prop
 | mk (x3 x4:Option V) (es:List (Key×V)):σ=[some (.ref S),some (.ref Wa),some (.ref E),x3,x4,none,none]->H' E=some (.dK es)->H' l=some (.lst ks)->es.length<=i->(∀ j o,os.length - i<=j->os[j]? = some o->LdD h Wp es o)->Same H H'->FdI S Wa E l h Wp os ks H i σ H'
inductive FwI (S Wa E L:Addr)(h:Hs)(Wp:List Nat->Bool)(H4:Hp)(p:List Nat)(σ:L2.St)(H':Hp):Prop
 | mk (x4 x6:Option V):σ=[some (.ref S),some (.ref Wa),some (.ref E),some (.int ((aO p:Nat):Int)),x4,some (.ref L),x6]->H' L=some (.lst (cO p))->FirstI h Wp p->Same H4 H'->FwI S Wa E L h Wp H4 p σ H'
theorem uG:aA ["opened"] ["opened"] (ai gT):=scM rfl rfl rfl rfl (by decide +kernel)
theorem qr:(["number","opened"]:List Str).Nodup:=by decide +kernel
theorem abA {f S:Addr}{fd J:FuncData}(F:Fun K "rooms_of" "rooms_of" gT f fd)(gD:FnOk P w K mg base CX0 1 S J ["opened","number"] aal)(cI:Cal K mg "has_room" ["opened","number"] S J)(bf:mg "range" = none):FnOk P w K mg base CX0 2 f fd ["opened"] ui:=by
 refine F.ok uG (λvs H Q E h=>?_) (λaf A outer s H vs Q E U h=>?_)
 .obtain⟨o,rfl,_⟩:=h
  rfl
 .have hu:=du U;obtain⟨o,rfl,O,q⟩:=h;refine⟨_,(aq (aD (gm (tg:=.Name "number" _) (outer:=ai (gT)) (N:=["opened"]) (N':=["number","opened"]) (nl:=1) (ix:=[0]) rfl rfl rfl (cy rfl bf (ae (adX PySem.F.plainAttrs_int PyProof.Rows.slot_int_bit_length PyProof.Rows.type_int_bit_length zE (pv 0)) ag))
   (λ_ _ _ _=>(av (i:=0) qr rfl (.inl rfl) (.inr rfl))) (λ_ _ _ _=>(iF (cT (pcl gD cI U rfl (ae (pv 1) (ae (pv 0) ag))))))
   (λ_ _ _ _=>(pv 0))))),?_⟩
  have ah:rT (aO o)<=60:=abx (qw O);refine aB _ _ _ _ _ _ _ _ _ ?_;refine⟨_,rfl,rfl,aO o,rfl,rfl,((rT (aO o):Nat):Int),rfl,by lia,by lia,λD Y=>?_⟩;rw[agk];refine rQ (pb:=λi=>decide (i∈o)) Y (by lia) (λx=>rfl) (λG i R hi Z r=>?_) (λG x R r=>⟨_,rfl,r⟩) (λG Z hD=>?_)
  .exact⟨_,rfl,_,rfl,o,i,rfl,λH' s'=>⟨_,rfl,r H' s'⟩⟩
  .refine q D G Z Y ?_;rw[hD];unfold bL;refine agS (λz=>some (HO.lst (z.map λ(i:Nat)=>V.int (i:Int)))) (ajd λi _=>?_);rw[eZ]
theorem cw:aA ["steps","wanted","leads","opened","further","order","first"] ["steps","wanted"] (ai fA):=scM rfl rfl rfl rfl (by decide +kernel)
theorem jF:(["number","leads","opened"]:List Str).Nodup:=by decide +kernel
theorem abG {f fW:Addr}{fd ax:FuncData}(F:Fun K "first_to" "first_to" fA f fd)(bV:FnOk P w K mg base CX0 1 fW ax ["opened","number"] qV)(aS:Cal K mg "with_room" ["opened","number"] fW ax)(aJ:mg "list" = none)(kj:mg "reversed" = none)(wA:mg "any" = none)(qd:mg "min" = none):FnOk P w K mg base CX0 3 f fd ["steps","wanted"] yx:=by
 refine F.ok cw (λvs H Q E h=>?_) (λbL A outer s H vs Q E hr h=>?_)
 .obtain⟨S,Wa,kvs,h,os,ws,Wp,m,rfl,_⟩:=h
  rfl
 .have hu:=du hr;obtain⟨S,Wa,kvs,h,os,ws,Wp,m,rfl,a1,hS,dl,sa,hW,Y,⟨w0,wg,ww⟩,sz,q⟩:=h;have pw:abg h Wp:=λo o' g g' p=>by
   rw[← Y o g,← Y o' g'];unfold kB;rw[iT p]
  refine⟨_,(ah (az (i:=2) cw.nd rfl (.inr rfl) qy)
   (ah (bp (d9 agx rfl (adM rfl kj (ae (aV (oP rfl) rfl aJ (by decide +kernel) (ae (pv 0) ag)) ag)) (av (i:=3) cw.nd rfl (.inr rfl))
    (ah (iH (i:=4) (tg:=.Name "number" _) (outer:=ai (fA)) (N:=["steps","wanted","leads","opened","further","order","first"]) (N':=["number","leads","opened"]) (nl:=1) (ix:=[2,3]) cw.nd rfl (.inl rfl) rfl rfl rfl (aL (ma hu (pv 0) (pv 3) (λ_ _=>rfl)))
    (λ_ _ _ _=>(av (i:=0) jF rfl (.inl rfl) (.inr rfl))) (λ_ _ _ _=>aT)
    (λ_ _ _ _=>(ma (by exact hu) (pv 1) (pcl bV aS (hr.mono (by decide:1<=2)) rfl (ae (pv 2) (ae (pv 0) ag))) (λ_ _=>rfl))))
    (aq (uK hu (pv 2) (pv 3) (aeE (abT (ab1 hu (pv 3) (pv 1))) (jk (au (u0 rfl) rfl wA (by decide +kernel) (ae (pv 4) ag)))) rfl)))))
   (ah (az (i:=5) cw.nd rfl (.inl rfl) oo)
   (ah (az (i:=3) cw.nd rfl (.inr rfl) ar)
   (ah (bp (wq agx (abQ (sD hu (pv 3) (pv 1)))
    (ah (az (i:=6) cw.nd rfl (.inl rfl) (au (sU rfl) rfl qd (by decide +kernel) (ae (gm (tg:=.Name "number" _) (outer:=ai (fA)) (N:=["steps","wanted","leads","opened","further","order","first"]) (N':=["number","leads","opened"]) (nl:=1) (ix:=[2,3]) rfl rfl rfl (aL (ma hu (pv 0) (pv 3) (λ_ _=>rfl)))
    (λ_ _ _ _=>(av (i:=0) jF rfl (.inl rfl) (.inr rfl))) (λ_ _ _ _=>(iF (cT (ma (by exact hu) (pv 1) (pcl bV aS (hr.mono (by decide:1<=2)) rfl (ae (pv 2) (ae (pv 0) ag))) (λ_ _=>rfl)))))
    (λ_ _ _ _=>(pv 0))) ag)))
    (ah (dg (jN agb agW agX cx (pv 5) (ae (pv 6) ag)))
    (aq (az (i:=3) cw.nd rfl (.inr rfl) (pcl bV aS (hr.mono (by decide:1<=2)) rfl (ae (pv 3) (ae (pv 6) ag)))))))))
   (aq (aD (pv 5)))))))),?_⟩
  intro E nE;have s0:Same H (upd H E (.dK [])):=ak nE;have e0:(upd H E (.dK [])) E=some (.dK []):=af;generalize upd H E (.dK [])=H0 at *;have bS:=uu sa;have bT:2 ^ h.2.length<=4096:=afR (ahE (by decide) a1) (by decide);have kl:=dl.len;have bW:1000000 < sizeLine:=by decide
  refine⟨λσ H'=>∃ l,FdI S Wa E l h Wp os (kvs.map λp=>kV p.1) H os.length σ H',?_,?_⟩
  .rintro σ H1 ⟨l,x3,x4,es,rfl,eE,_,_,all,s1⟩;have ay:∀ o∈os,LdD h Wp es o:=λo ho=>by
    obtain⟨j,hj⟩:=agp ho;exact all j o (by lia) hj
   have a4:Ld h Wp []=true:=Ld.of w0 [] wg ww;refine⟨af5 _,λL nL=>?_⟩;have s2:Same H1 (upd H1 L (.lst [])):=ak nL;have a6:H L=none:=s1.free nL;have eL:(upd H1 L (.lst [])) L=some (.lst (cO [])):=af;generalize upd H1 L (.lst [])=H2 at *;have bZ:=s1.trans s2;refine⟨λσ H'=>∃ p,Wp p=true/\FwI S Wa E L h Wp H1 p σ H',?_,?_⟩
   .rintro σ H6 ⟨p,wp,⟨x4,x6,rfl,hL,Z,s6⟩⟩;exact⟨_,rfl,q L p H6 (s1.trans s6) a6 hL Z.gone wp (Z.done sz wp)⟩
   .refine⟨λk σ H'=>∃ p,k=h.2.length - p.length/\FwI S Wa E L h Wp H1 p σ H',⟨_,[],rfl,.mk x4 none rfl eL (.nil a4) s2⟩,?_⟩;rintro k σ H6 ⟨p,rfl,⟨x4,x6,rfl,hL,Z,s6⟩⟩;have an:=s1.trans s6;refine⟨_,rfl,_,rfl,Wa,_,rfl,.k (k:=kB p) (an _ _ hW),_,rfl,?_⟩;rw[Y p Z.gone];cases wp:Wp p with
    | true=>exact cu ⟨p,wp,x4,x6,rfl,hL,Z,s6⟩
    | false =>
     have gp:=Z.gone;obtain⟨ln,en,hn⟩:=aar (dl.same (jV.trans an)) sa gp;obtain⟨k0,aE,a7⟩:=Z.more wp;have pm:=Z.lt sz wp;refine dt ⟨λaF H'=>∃ y,y∈hU h p/\FwI S Wa E L h Wp H1 (p++[y]) aF H',λaF H' ⟨y,hy,w⟩=>⟨_,?_,p++[y],rfl,w⟩,?_⟩
     .have:=abV gp aE;rw[afH,af1];lia
     .dsimp only [tK,qR,tCB,fb,lV];refine aB _ _ _ _ _ _ _ _ _ ?_;refine⟨_,rfl,_,rfl,S,.ref ln,rfl,aab (k:=kB p) (an _ _ hS) en,ln,rfl,⟨_,aAA hn⟩,λD nD=>?_⟩;have lx:(nxV h p).length<=1000000:=by
       rw[afz];have:=fe (ab8 h p) λi hi=>(next_iffD.mp hi).1;lia
      have bb:H1 E=some (.dK es):=eE;refine yy (F:=id) (pb:=ldB h Wp p) hn nD lx (λx=>rfl) (λG x R U O r=>?_) (λG x R U _ O r=>⟨_,rfl,r G (Same.refl G)⟩) (λG O hD=>?_)
      .obtain⟨n,J,rfl⟩:=afL.mp U;refine⟨_,rfl,_,rfl,_,rfl,aO p,n,rfl,by have:=(next_iffD.mp J).1;lia,λG' s'=>⟨E,_,rfl,aab (k:=.inl ((aO p ||| 2 ^ n:Nat):Int)) (s' _ _ (O _ _ (s6 _ _ bb))) (v:=.bl (Ld h Wp (p++[n]))) ?_,_,rfl,r G' s'⟩⟩;rw[← dZ];exact aeP pw sa ay (cf gp J)
      .have eD:G D=some (.lst ((((hU h p).filter λi=>Ld h Wp (p++[i])).map λn=>((n:Nat):Int)).map V.int)):=by
        rw[hD,aks,akV,af3]
        rfl
       have bf:k0∈(hU h p).filter λi=>Ld h Wp (p++[i]):=agi.mpr ⟨aE,a7⟩;refine⟨D,_,rfl,aAA eD,by rw[afz];exact aip bf,λmi hm bg=>?_⟩;obtain⟨k,kf,rfl⟩:=afL.mp hm;obtain⟨km,bi⟩:=agi.mp kf;have aG:∀ i∈hU h p,Ld h Wp (p++[i])=true->k<=i:=λi hi li=>by
        have:=bg _ (aiO (f:=λn=>((n:Nat):Int)) (agi.mpr ⟨hi,li⟩));lia
       have aH:=O _ _ hL;have lp:=i8 gp;refine⟨_,rfl,.inl ⟨rfl,_,aAA aH⟩,_,rfl,L,_,_,rfl,rfl,aH,by rw[afz];lia,?_⟩;refine⟨_,rfl,_,rfl,aO p,k,rfl,by have:=(next_iffD.mp km).1;lia,λH7 s7=>?_⟩;rw[← dZ];refine⟨k,km,.mk x4 _ rfl ?_ (Z.next sz wp km bi aG pm) (de (s6.trans O) nL |>.trans s7)⟩;refine s7 _ _ ?_;rw[af,cO,cO,afY]
       rfl
  .refine⟨_,rfl,S,kvs,rfl,s0 _ _ hS,by lia,λl nl=>?_⟩;have s1:Same H (upd H0 l (.lst (kvs.map λp=>kV p.1))):=s0.trans (ak nl);have el:E≠l:=λz=>by rw[z] at e0;rw[e0] at nl;cases nl
   refine⟨l,_,rfl,aAA af,?_⟩;have aI:(kvs.map λp=>kV p.1).length=os.length:=by rw[afz,kl]
   refine acF (xs:=kvs.map λp=>kV p.1) (FdI S Wa E l h Wp os (kvs.map λp=>kV p.1) H) ⟨none,none,[],rfl,by rw[ao el];exact e0,af,af5 _,λj o hj e=>?_,s1⟩ (λi σ H' _ ⟨_,_,_,_,_,hl,_,_,_⟩=>aAA hl) ?_ ?_
   .have:=(afA.mp e).1;lia
   .rw[aI];rintro i x σ H2 U hi ⟨x3,x4,es,rfl,eE,hl,len,all,s2⟩;have hj:os.length - 1 - i < os.length:=by lia
    obtain⟨o,ho⟩:∃ o,os[os.length - 1 - i]? = some o:=⟨_,afx hj⟩;obtain⟨ln,vn,hn⟩:=dl.get sa.nd ho;have bk:=afP ho;have g:=sa.gone o bk;have ex:x=.int ((aO o:Nat):Int):=by
     have e1:(kvs.map (·.1))[os.length - 1 - i]? = some (kB o):=by rw[dl.keys,afF,ho];rfl
     rw[afF] at e1 U;cases hk:kvs[os.length - 1 - i]? with
     | none=>rw[hk] at U;cases U
     | some kv =>
      rw[hk] at e1 U;cases U;injection e1 with e1
      have e2:kv.1=kB o:=e1;show kV kv.1=_;rw[e2]
      rfl
    subst ex;dsimp only [bu,tK,aea,qR,tCB,fb,lV];refine aB _ _ _ _ _ _ _ _ _ ?_;refine⟨_,rfl,_,rfl,S,.ref ln,rfl,aab (k:=kB o) (s2 _ _ hS) vn,ln,rfl,⟨_,aAA (s2 _ _ hn)⟩,λD nD=>?_⟩;have lx:(nxV h o).length<=1000000:=by
     rw[afz];have:=fe (ab8 h o) λi hi=>(next_iffD.mp hi).1;lia
    refine dD (F:=ldV h Wp o) (s2 _ _ hn) nD lx (λx=>rfl) (λG x R U O r=>?_) (λG O hD=>?_)
    .obtain⟨n,J,rfl⟩:=afL.mp U;obtain⟨k2,o2,e2,b5,eb,pm⟩:=aeu sa ho J;have nd2:=all k2 o2 (by lia) e2;refine⟨_,rfl,_,rfl,_,rfl,aO o,n,rfl,by have:=(next_iffD.mp J).1;lia,λG' s'=>⟨E,_,rfl,aab (k:=.inl ((aO o ||| 2 ^ n:Nat):Int)) (s' _ _ (O _ _ eE)) (v:=.bl (Ld h Wp (o++[n]))) ?_,r G' s'⟩⟩;unfold LdD at nd2;rw[← dZ,← eb];rw[nd2,Ld.perm pw (sa.gone o2 (afP e2)) (cf g J) pm]
    .have eD:G D=some (.lst (((hU h o).map λn=>Ld h Wp (o++[n])).map V.bl)):=by
      rw[hD,af3,af3]
      rfl
     have sE:=s2.trans O;have aM:=O _ _ eE;have lG:=O _ _ hl;have val:(Wp o || ((hU h o).map λn=>Ld h Wp (o++[n])).any id)=Ld h Wp o:=by
      rw[Ld.step g,ajk]
      rfl
     have aN:∀ v:V,v=.bl (Ld h Wp o)->FdI S Wa E l h Wp os (kvs.map λp=>kV p.1) H (i+1) [some (.ref S),some (.ref Wa),some (.ref E),some (.int ((aO o:Nat):Int)),some (.ref D),none,none] (upd G E (.dK (j6 es (kB o) v))):=λv ev=>by
      refine⟨_,_,_,rfl,af,by rw[ao (ahf el)];exact lG,?_,λj' o' b8 aa=>?_,de sE nE⟩
      .have:=fT es (kB o) v;lia
      .unfold LdD;rw[vM];by_cases ej:j'=os.length - 1 - i
       .subst ej;rw[ho] at aa;cases aa;rw[if_pos rfl,ev]
       .rw[if_neg λz=>ej ?_]
        .exact all j' o' (by lia) aa
        .have eb:=rF z;have ha:(os.map aO)[j']? = some (aO o'):=by rw[afF,aa];rfl
         have hb:(os.map aO)[os.length - 1 - i]? = some (aO o):=by rw[afF,ho];rfl
         exact (ajb (afA.mp ha).1 sa.nd).mp (by rw[ha,hb,eb])
     refine⟨_,rfl,_,rfl,Wa,_,rfl,.k (k:=kB o) (sE _ _ hW),_,rfl,?_⟩;rw[Y o g];cases wo:Wp o with
     | true=>exact aeb (λ_=>⟨_,rfl,_,rfl,E,_,rfl,.inl ⟨es,kB o,aM,rfl,by lia,rfl⟩,aN _ (by rw[← val,wo,akF])⟩) (λz=>absurd rfl z)
     | false=>exact aeb (λz=>nomatch z) (λ_=>⟨_,rfl,D,_,rfl,aAA eD,_,rfl,_,rfl,E,_,rfl,.inl ⟨es,kB o,aM,rfl,by lia,rfl⟩,aN _ (by rw[← val,wo,akk])⟩)
   .rw[aI];exact λσ H' z=>⟨l,z⟩
end
def eV (ws:List Int)(o:List Nat):Int:=(o.map λi=>ws.getD i 0).sum
theorem sk {a b:List Int}(p:a.Perm b):a.sum=b.sum:=by
 induction p with
 | nil=>rfl
 | cons x _ z=>rw[alD,alD,z]
 | swap x y l=>simp only[alD];lia
 | trans _ _ h1 h2=>rw[h1,h2]
theorem gx {ws:List Int}{a b:List Nat}(p:a.Perm b):eV ws a=eV ws b:=sk (p.map _)
def nY:Sp:=λvs H Q _=>∃ (a b:Addr) (ws:List Int) (o:List Nat),vs=[.ref a,.ref b]/\H a=some (.lst (ws.map V.int))/\H b=some (.lst (cO o))/\(∀ i∈o,i < ws.length)/\o.length<=1000/\∀ H',Same H H'->Q (.int (eV ws o)) H'
def abX:Sp:=λvs H Q _=>∃ (a:Addr) (ws:List Int),vs=[.ref a,.int ((ws.length:Nat):Int)]/\H a=some (.lst (ws.map V.int))/\ws.length<=1000/\(∀ x∈ws,0<=x)/\∀ H',Same H H'->Q (.bl true) H'
def vZ:Sp:=λvs H Q _=>∃ (v:V) (h:Hs) (a:Addr) (ws:List Int),vs=[v,.ref a]/\HouseAt H v h/\dz h/\h.2.length<=12/\H a=some (.lst (ws.map V.int))/\ws.length=h.2.length/\(∀ x∈ws,0<=x)/\∀ H',Same H H'->Q .non H'
structure aeK (h:Hs)(m:Int)(f:List Nat->Int)(few:Option Nat)(r:List Nat):Prop where
 gone:cM h.1 h.2 r
 has:f r=m
 most:∀ o,cM h.1 h.2 o->f o<=m
 size:∀ n,few=some n->r.length=n/\∀ o,cM h.1 h.2 o->f o=m->n<=o.length
 first:∀ o,cM h.1 h.2 o->f o=m->(∀ n,few=some n->o.length=n)->¬ o < r
def aah:Sp:=λvs H Q _=>∃ (v:V) (h:Hs) (a:Addr) (ws:List Int),vs=[v,.ref a]/\HouseAt H v h/\dz h/\aaX h/\h.2.length<=12/\H a=some (.lst (ws.map V.int))/\ws.length=h.2.length/\(∀ x∈ws,0<=x) ∧
 ∀ (T D:Addr) (m:Int) (few:Nat) (r:List Nat) (H':Hp),Same H H'->H T=none->H D=none->T≠D->H' T=some (.tup [.int m,.ref D])->H' D=some (.lst (cO r))->aeK h m (eV ws) (some few) r->Q (.ref T) H'
def lP:Key->List Nat
 | .inl n=>bL n.toNat
 | _=>[]
theorem tQ (o:List Nat):lP (kB o)=bL (aO o):=rfl
theorem ac4 {h:Hs}{os:List (List Nat)}(J:cn h os):(os.map kB).Nodup:=by
 have:=J.nd;rw[agI,aha] at this ⊢;exact this.imp λn z=>n (rF z)
theorem ad6 {h:Hs}{os:List (List Nat)}(z:cn h os){o:List Nat}(g:cM h.1 h.2 o):kB o∈os.map kB:=kB_mem.mpr (z.all o g)
theorem abJ {ks:List Key}{pb:Key->Bool}{F:Key->V}{k:Key}(m:k∈ks):(gG ((ks.filter pb).map λk=>(k,F k)) k).isSome=pb k:=by
 rw[ag3,qP,af3];show k∈(ks.filter pb).map id↔_;rw[aks,agi];exact⟨(·.2),λh=>⟨m,h⟩⟩
section
variable {P:Program}{w:World}{K:PySem.W.Frag}{mg:Str->Option Value}{base:Heap}{f:Addr}{fd:FuncData}
theorem tP:aA ["worths","numbers"] ["worths","numbers"] (ai gZ):=scM rfl rfl rfl rfl (by decide +kernel)
theorem pZ:(["number","worths"]:List Str).Nodup:=by decide +kernel
theorem wN (F:Fun K "worth_of" "worth_of" gZ f fd)(S:mg "sum" = none):FnOk P w K mg base CX0 1 f fd ["worths","numbers"] nY:=by
 refine F.ok tP (λvs H Q E h=>?_) (λU A outer s H vs Q E Y h=>?_)
 .obtain⟨a,b,z,o,rfl,_⟩:=h
  rfl
 .have hu:=du Y;obtain⟨a,b,z,o,rfl,Z,O,lt,l,q⟩:=h;refine⟨_,(aq (aD (au (m9 rfl) rfl S (by decide +kernel) (ae (gm (tg:=.Name "number" _) (outer:=ai (gZ)) (N:=["worths","numbers"]) (N':=["number","worths"]) (nl:=1) (ix:=[0]) rfl rfl rfl (aL (pv 1))
   (λ_ _ _ _=>(av (i:=0) pZ rfl (.inl rfl) (.inr rfl))) (λ_ _ _ _=>aT)
   (λ_ _ _ _=>(bR (jG (K:=K) rfl) (pv 1) (pv 0) (λ_ _=>rfl)))) ag)))),?_⟩
  dsimp only [xF,tCB,fb,lV];refine aB _ _ _ _ _ _ _ _ _ ?_;refine⟨_,rfl,b,rfl,⟨_,aAA O⟩,λD nD=>?_⟩;refine dD (F:=λx=>match x with | .int n=>.int (z.getD n.toNat 0) | v=>v) O nD (by rw[afz];lia) (λx=>rfl) (λG x R hx J r=>?_) (λG J hD=>?_)
  .obtain⟨n,hn,rfl⟩:=afL.mp hx;refine⟨_,rfl,_,rfl,a,_,_,_,rfl,rfl,aAA (J _ _ Z),bU (j:=n) ?_,r G (Same.refl G)⟩;rw[afF];show Option.map V.int z[n]? = some (.int (z.getD (Int.toNat ((n:Nat):Int)) 0));rw[agk,afJ,afx (lt n hn)]
   rfl
  .refine⟨D,o.map λi=>z.getD i 0,rfl,aAA (by rw[hD,af3,af3];rfl),q G J⟩
theorem p6:aA ["thing","many"] ["thing","many"] (ai eX):=scM rfl rfl rfl rfl (by decide +kernel)
theorem nV:(["worth"]:List Str).Nodup:=by decide +kernel
theorem acR (F:Fun K "are_worths" "are_worths" eX f fd){J:Addr}{z:FuncData}(Z:FnOk P w K mg base CX0 1 J z ["thing"] qA)(cG:Cal K mg "is_whole" ["thing"] J z)(ax:mg "isinstance" = none)(aJ:mg "list" = none)(cg:mg "len" = none)(fz:mg "all" = none):FnOk P w K mg base CX0 2 f fd ["thing","many"] abX:=by
 refine F.ok p6 (λvs H Q E h=>?_) (λak A outer s H vs Q E U h=>?_)
 .obtain⟨a,S,rfl,_⟩:=h
  rfl
 .have hu:=du U;obtain⟨a,S,rfl,O,l,nn,q⟩:=h;refine⟨_,(ah (cj (PW.pt (mM (gd (cT (au aW rfl ax (by decide +kernel) (ae (pv 0) (ae (dO (v:=.ty "list") (u:=.type "list") rfl aJ (by decide +kernel) rfl) ag))))) (j0 (aE acU (au aQ rfl cg agH (ae (pv 0) ag)) (pv 1) (aP _)))))
   (aq (aD fM)) aF)
   (aq (aD (au (fh rfl) rfl fz (by decide +kernel) (ae (gm (tg:=.Name "worth" _) (outer:=ai (eX)) (N:=["thing","many"]) (N':=["worth"]) (nl:=1) (ix:=[]) rfl rfl rfl (aL (pv 0))
    (λ_ _ _ _=>(av (i:=0) nV rfl (.inl rfl) (.inr rfl))) (λ_ _ _ _=>aT)
    (λ_ _ _ _=>(gb (pcl Z cG U rfl (ae (pv 0) ag)) (jk (fQ aaM (pv 0) ar (aP _)))))) ag))))),?_⟩
  refine⟨_,rfl,_,_,_,true,rfl,.lst O,cV K _,true,rfl,cu ?_⟩;refine⟨_,rfl,a,_,rfl,.inl (aAA O),_,rfl,rfl,_,rfl,?_⟩;rw[afz,afM rfl];refine cu ?_;dsimp only [kF,xF,tCB,fb,lV];refine aB _ _ _ _ _ _ _ _ _ ?_;refine⟨_,rfl,a,rfl,⟨_,aAA O⟩,λD nD=>?_⟩;refine dD (F:=λ_=>.bl true) O nD (by rw[afz];lia) (λx=>rfl) (λG x R hx Y r=>?_) (λG Y hD=>?_)
  .obtain⟨n,hn,rfl⟩:=afL.mp hx;refine⟨_,rfl,n,rfl,λH' s'=>⟨true,rfl,dt ⟨_,rfl,_,_,rfl,rfl,?_⟩⟩⟩;show R (V.bl (decide ((0:Int)<=n))) H';rw[afM (nn n hn)];exact r H' s'
  .refine⟨D,S.map λ_=>true,rfl,aAA (by rw[hD,af3,af3];rfl),?_⟩;have e:(S.map λ_=>true).all id=true:=by
    rw[ahG,agt];exact λ_ _=>rfl
   rw[e];exact q G Y
theorem j8:aA ["house","worths"] ["house","worths"] (ai dP):=scM rfl rfl rfl rfl (by decide +kernel)
theorem acm (F:Fun K "require_worths" "require_worths" dP f fd){S:Addr}{O:FuncData}{tk:Nat}(nv:FnOk P w K mg base CX0 7 S O ["thing","most"] aae)(mS:mg "require_small" = some (.ref S))(kS:keepIn K (.ref S)=true)(bS:Binds K O ["thing","most"] [.int 12 tk]){J:Addr}{z:FuncData}(qZ:FnOk P w K mg base CX0 2 J z ["thing","many"] abX)(iD:Cal K mg "are_worths" ["thing","many"] J z)(cg:mg "len" = none):FnOk P w K mg base CX0 8 f fd ["house","worths"] vZ:=by
 refine F.ok j8 (λvs H Q E h=>?_) (λav A outer s H vs Q E U h=>?_)
 .obtain⟨v,h,a,ws,rfl,_⟩:=h
  rfl
 .have hu:=du U;obtain⟨v,h,a,ws,rfl,hh,ok,Y,ha,lw,nn,q⟩:=h;refine⟨_,(ah (dg (gM nv U rfl mS kS bS (dvs:=[.int 12]) (.cons ⟨tk,rfl⟩ .nil) jd (ae (pv 0) ag)))
   (aq (cj (gd (cT (pcl qZ iD (U.mono (by decide:2<=7)) rfl (ae (pv 1) (ae (au aQ rfl cg agH (ae (bR il (pv 0) ar (λ_ _=>rfl)) ag)) ag)))))
    mV aF))),?_⟩
  refine⟨_,rfl,v,h,12,rfl,hh,ok,Y,λH1 Z=>?_⟩;obtain⟨t,a1,rr,us,ev,aa,_,ac,ad⟩:=id (hh.same Z);refine⟨_,rfl,_,rfl,t,_,1,.ref rr,ev,rfl,aAB aa,rfl,rr,us,rfl,.inl (aAA ac),a,ws,?_,Z _ _ ha,by lia,nn,λH2 s2=>⟨true,rfl,cu (q H2 (Z.trans s2))⟩⟩;rw[ad.1,lw]
  rfl
end
section
variable {P:Program}{w:World}{K:PySem.W.Frag}{mg:Str->Option Value}{base:Heap}{f:Addr}{fd:FuncData}
theorem aaL {h:Hs}{os:List (List Nat)}(J:cn h os):∃ z,z∈os:=by
 obtain⟨z,O,_⟩:=afL.mp (J.all [] (iN _ _));exact⟨z,O⟩
theorem aap {h:Hs}{os:List (List Nat)}{kvs:List (Key×V)}{F:List Nat->Int}(z:cn h os)(J:kvs.map (·.1)=os.map kB)(O:∀ o o',o.Perm o'->F o=F o'):(kvs.map λp=>(p.1,V.int (F (lP p.1)))).map (·.2)=(os.map F).map V.int:=by
 rw[af3,af3];have e:(λx=>x.2) ∘ (λp:Key×V=>(p.1,V.int (F (lP p.1))))=(λk=>V.int (F (lP k))) ∘ (λp:Key×V=>p.1):=rfl;rw[e,← af3,J,af3];refine List.map_congr_left λo S=>?_;show V.int (F (bL (aO o)))=V.int (F o);rw[O _ _ (bj (aG o (z.gone o S)))]
theorem zg {h:Hs}{os:List (List Nat)}{kvs:List (Key×V)}{F:Key->V}(S:cn h os)(z:kvs.map (·.1)=os.map kB){o:List Nat}(U:o∈os):gG (kvs.map λp=>(p.1,F p.1)) (kB o)=some (F (kB o)):=by
 obtain⟨j,J⟩:=agp U;have O:(kvs.map (·.1))[j]? = some (kB o):=by rw[z,afF,J];rfl
 rw[afF] at O;obtain⟨kv,Y,Z⟩:=agQ.mp O;have:=xW (kvs:=kvs.map λp=>(p.1,F p.1)) (os:=os) (j:=j) (kv:=(kv.1,F kv.1)) (o:=o) (by rw[af3];exact z) S.nd (by rw[afF,Y];rfl) J;rw[this];show some (F kv.1)=_;rw[Z]
theorem abB {h:Hs}{os:List (List Nat)}{F:List Nat->Int}(z:cn h os)(O:∀ o o',o.Perm o'->F o=F o'){m:Int}(S:m∈os.map F)(hi:∀ a∈os.map F,a<=m):(∃ o,cM h.1 h.2 o/\F o=m)/\∀ o,cM h.1 h.2 o->F o<=m:=by
 obtain⟨o,U,e⟩:=afL.mp S;refine⟨⟨o,z.gone o U,e⟩,λo' g=>?_⟩;obtain⟨y,J,Y⟩:=afL.mp (z.all _ g);have p:=f9 (aG y (z.gone y J)) (aG _ g) Y;rw[← O _ _ p];exact hi _ (aiO J)
theorem yc {α z:Type}{ys:List V}{ks:List α}{f:V->z}{g:α->z}(l:ys.length=ks.length)(h:∀ (j:Nat) y k,ys[j]? = some y->ks[j]? = some k->f y=g k):ys.map f=ks.map g:=by
 apply ahu;intro j;rw[afF,afF];by_cases J:j < ys.length
 .rw[afx J,afx (show j < ks.length by lia)];exact agS some (h j _ _ (afx J) (afx _))
 .rw[agZ (by lia),agZ (by lia)]
  rfl
def jg (H:Hp)(v:V):List Nat:=(L2.numsOf H v).map Int.toNat
theorem eh {H:Hp}{a:Addr}{o:List Nat}(e:H a=some (.lst (cO o))):jg H (.ref a)=o/\L2.numsOf H (.ref a)=zs o:=by
 have z:H a=some (.lst ((zs o).map V.int)):=by rw[e,af3];rfl
 have:=L2.numsOf_at z;refine⟨?_,this⟩;unfold jg;rw[this,af3];exact aks _
theorem cC:aA ["house","worths","steps","had","worth","best","fewest"] ["house","worths"] (ai bW):=scM rfl rfl rfl rfl (by decide +kernel)
theorem mU:(["opened","worths"]:List Str).Nodup:=by decide +kernel
theorem mG:(["opened","worth","had"]:List Str).Nodup:=by decide +kernel
theorem mF:(["opened"]:List Str).Nodup:=by decide +kernel
theorem mn:(["opened","fewest"]:List Str).Nodup:=by decide +kernel
theorem aaB (F:Fun K "most_worth" "most_worth" bW f fd){O:Addr}{J:FuncData}(bZ:FnOk P w K mg base CX0 8 O J ["house","worths"] vZ)(aM:Cal K mg "require_worths" ["house","worths"] O J){aj:Addr}{Z:FuncData}(kI:FnOk P w K mg base CX0 3 aj Z ["house"] ue)(fq:Cal K mg "steps_of" ["house"] aj Z){al:Addr}{aa:FuncData}(gq:FnOk P w K mg base CX0 2 al aa ["opened"] ui)(dq:Cal K mg "rooms_of" ["opened"] al aa){am:Addr}{ac:FuncData}(xh:FnOk P w K mg base CX0 3 am ac ["steps","wanted"] yx)(kE:Cal K mg "first_to" ["steps","wanted"] am ac){an:Addr}{ad:FuncData}(kJ:FnOk P w K mg base CX0 1 an ad ["worths","numbers"] nY)(ft:Cal K mg "worth_of" ["worths","numbers"] an ad)(cg:mg "len" = none)(uM:mg "max" = none)(qd:mg "min" = none):FnOk P w K mg base CX0 9 f fd ["house","worths"] aah:=by
 refine F.ok cC (λvs H Q E h=>?_) (λb2 A outer s H vs Q E hr h=>?_)
 .obtain⟨v,h,a,Y,rfl,_⟩:=h
  rfl
 .have hu:=du hr;obtain⟨v,h,a,Y,rfl,hh,ok,bg,aJ,ha,lw,nn,q⟩:=h;refine⟨_,(ah (dg (pcl bZ aM hr rfl (ae (pv 0) (ae (pv 1) ag))))
   (ah (az (i:=2) cC.nd rfl (.inl rfl) (pcl kI fq (hr.mono (by decide:3<=8)) rfl (ae (pv 0) ag)))
   (ah (az (i:=3) cC.nd rfl (.inr rfl) (adf (tg:=.Name "opened" _) (outer:=ai (bW)) (N:=["house","worths","steps","had","worth","best","fewest"]) (N':=["opened","worths"]) (nl:=1) (ix:=[1]) rfl rfl rfl (uQ (H₀:=H) rfl (pv 2))
    (λ_ _ _ _=>(av (i:=0) mU rfl (.inl rfl) (.inr rfl))) (λ_ _ _ _=>aT)
    (λ_ _ _ _=>(pv 0)) (λ_ _ _ _=>(pcl kJ ft (hr.mono (by decide:1<=8)) rfl (ae (pv 1) (ae (pcl gq dq (hr.mono (by decide:2<=8)) rfl (ae (pv 0) ag)) ag))))))
   (vV (H₀:=H) rfl (ah (az (i:=4) cC.nd rfl (.inr rfl) (rE rfl uM rfl (pv 3)))
   (ah (iH (i:=5) (tg:=.Name "opened" _) (outer:=ai (bW)) (N:=["house","worths","steps","had","worth","best","fewest"]) (N':=["opened","worth","had"]) (nl:=1) (ix:=[4,3]) cC.nd rfl (.inl rfl) rfl rfl rfl (uQ (H₀:=H) rfl (pv 2))
    (λ_ _ _ _=>(av (i:=0) mG rfl (.inl rfl) (.inr rfl))) (λ_ _ _ _=>(iF (aE jt (ma (by exact hu) (pv 2) (pv 0) (λ_ _=>rfl)) (pv 1) (aP _))))
    (λ_ _ _ _=>(pv 0)))
   (vV (H₀:=H) rfl (ah (az (i:=6) cC.nd rfl (.inr rfl) (au (sU rfl) rfl qd (by decide +kernel) (ae (gm (tg:=.Name "opened" _) (outer:=ai (bW)) (N:=["house","worths","steps","had","worth","best","fewest"]) (N':=["opened"]) (nl:=1) (ix:=[]) rfl rfl rfl (aL (pv 5))
    (λ_ _ _ _=>(av (i:=0) mF rfl (.inl rfl) (.inr rfl))) (λ_ _ _ _=>aT)
    (λ_ _ _ _=>(au (jU (K:=K) rfl) rfl cg agH (ae (pcl gq dq (hr.mono (by decide:2<=8)) rfl (ae (pv 0) ag)) ag)))) ag)))
   (aq (aD (rO (ae (pv 4) (ae (pcl xh kE (hr.mono (by decide:3<=8)) rfl (ae (pv 2) (ae (adf (tg:=.Name "opened" _) (outer:=ai (bW)) (N:=["house","worths","steps","had","worth","best","fewest"]) (N':=["opened","fewest"]) (nl:=1) (ix:=[6]) rfl rfl rfl (aL (pv 5))
    (λ_ _ _ _=>(av (i:=0) mn rfl (.inl rfl) (.inr rfl))) (λ_ _ _ _=>(iF (aE jt (au (jU (K:=K) rfl) rfl cg agH (ae (pcl gq dq (hr.mono (by decide:2<=8)) rfl (ae (pv 0) ag)) ag)) (pv 1) (aP _))))
    (λ_ _ _ _=>(pv 0)) (λ_ _ _ _=>fM)) ag))) ag))))))))))))),?_⟩
  refine⟨_,rfl,_,rfl,v,h,a,Y,rfl,hh,ok,aJ,ha,lw,nn,λH1 s1=>?_⟩;refine⟨_,rfl,v,h,rfl,hh.same s1,ok,bg,aJ,λS kvs os H2 s2 nS eS dl sa=>?_⟩;have aV:=s1.trans s2;have fw:=uu sa;have b7:2 ^ h.2.length<=4096:=afR (ahE (by decide) aJ) (by decide);have kl:=dl.len;have ay:∀ o∈os,∀ i∈o,i < 60:=λo ho i hi=>by have:=gh o (sa.gone o ho) i hi;lia
  have kn:=ac4 sa;have aR:=aV _ _ ha;have aW:∀ o o':List Nat,o.Perm o'->eV Y o=eV Y o':=λo o' p=>gx p;dsimp only [bu,tK,qR,tCB,fb,lV];refine qJ _ _ _ _ _ _ _ _ _ _ ?_;refine⟨_,rfl,S,kvs,rfl,eS,λob nf D nD=>?_⟩;have aA:S≠D:=λz=>by subst z;rw[af] at nD;cases nD
  have b9:H2 D=none:=by rw[ao (ahf aA)] at nD;exact nD
  have aY:a≠S:=λz=>by subst z;rw[eS] at aR;cases aR
  refine tV (F:=λk=>.int (eV Y (lP k))) (a:=S) (o:=ob) (kvs:=kvs) af (by rw[dl.keys];exact kn) nD (by lia) (λx=>rfl) (λG k R r=>⟨_,rfl,r⟩) (λG k R hk sG r=>?_) λG sG hG=>?_
  .rw[dl.keys] at hk;obtain⟨o,ho,rfl⟩:=afL.mp hk;refine⟨_,rfl,_,rfl,o,rfl,ay o ho,λb H' s' nb eb=>⟨a,b,Y,bL (aO o),rfl,s' _ _ (sG _ _ (by rw[ao aY];exact aR)),eb,λi hi=>?_,?_,λbi bk=>r bi (s'.trans bk)⟩⟩
   .have:=gh o (sa.gone o ho) i (rooms_mem.mp hi);lia
   .rw[(bj (aG o (sa.gone o ho))).length_eq];have:=i8 (sa.gone o ho);lia
  refine⟨S,ob,kvs,sG _ _ af,nf,?_⟩;have s3:Same H2 (upd G S (.dK kvs)):=qg eS sG;have eD:(upd G S (.dK kvs)) D=some (.dK (kvs.map λp=>(p.1,V.int (eV Y (lP p.1))))):=by rw[ao (ahf aA)];exact hG
  have a0:(upd G S (.dK kvs)) S=some (.dK kvs):=af;generalize upd G S (.dK kvs)=H3 at *;refine⟨_,rfl,D,_,os.map λo=>eV Y o,rfl,eD,aap (F:=λo=>eV Y o) sa dl.keys aW,?_,λm hm hi=>?_⟩
  .rw[afz];obtain⟨z0,bn⟩:=aaL sa;exact aip bn
  obtain⟨⟨w0,wg,wm⟩,most⟩:=abB sa aW hm hi;dsimp only [bu,tK,qR,tCB,fb,lV];refine aB _ _ _ _ _ _ _ _ _ ?_;refine⟨_,rfl,S,kvs,rfl,a0,λa1 bo B nB=>?_⟩;have a2:S≠B:=λz=>by subst z;rw[af] at nB;cases nB
  refine wG (F:=kV) (pb:=λk=>decide (eV Y (lP k)=m)) (a:=S) (o:=a1) (kvs:=kvs) af nB (by lia) (λx=>rfl) (λG k R hk sG r=>?_) (λG k R hk _ sG r=>⟨_,rfl,r G (Same.refl G)⟩) λG2 a3 a4=>?_
  .rw[dl.keys] at hk;obtain⟨o,ho,rfl⟩:=afL.mp hk;refine⟨_,rfl,_,rfl,D,_,rfl,aab (k:=kB o) (sG _ _ (by rw[ao (ahf aA)];exact eD)) (zg (F:=λk=>.int (eV Y (lP k))) sa dl.keys ho),_,rfl,rfl,_,rfl,?_⟩;have:=r G (Same.refl G);rw[show decide (V.int (eV Y (lP (kB o)))=V.int m)=decide (eV Y (lP (kB o))=m) from agL.mpr ⟨λz=>by injection z,λz=>by rw[z]⟩];exact this
  rw[dl.keys] at a4;refine⟨S,a1,kvs,a3 _ _ af,bo,?_⟩;have s4:Same H3 (upd G2 S (.dK kvs)):=qg a0 a3;have eB:(upd G2 S (.dK kvs)) B=some (.lst (((os.map kB).filter λk=>decide (eV Y (lP k)=m)).map kV)):=by rw[ao (ahf a2)];exact a4
  have br:(upd G2 S (.dK kvs)) S=some (.dK kvs):=af;generalize upd G2 S (.dK kvs)=H4 at *;have a5:∀ o,cM h.1 h.2 o->eV Y (lP (kB o))=eV Y o:=λo g=>gx (bj (aG o g));have aC:((os.map kB).filter λk=>decide (eV Y (lP k)=m))=(os.filter λo=>decide (eV Y o=m)).map kB:=by
   rw[akV];refine agS _ (ajd λo ho=>?_);show decide (eV Y (lP (kB o))=m)=_;rw[a5 o (sa.gone o ho)]
  have bl:((os.map kB).filter λk=>decide (eV Y (lP k)=m)).length<=1000000:=afR (agv _ _) (by rw[afz];lia);dsimp only [tK,qR,tCB,fb,lV];refine aB _ _ _ _ _ _ _ _ _ ?_;refine⟨_,rfl,B,rfl,⟨_,aAA eB⟩,λL nL=>?_⟩;refine dD (F:=λx=>match x with | .int n=>.int (((bL n.toNat).length:Nat):Int) | v=>v) eB nL (by rw[afz];exact bl) (λx=>rfl) (λG x R hx sG r=>?_) (λG5 s5 hL=>?_)
  .rw[aC,af3] at hx;obtain⟨o,ho,rfl⟩:=afL.mp hx;have ho:=(agi.mp ho).1;refine⟨_,rfl,o,rfl,ay o ho,λb H' s' nb eb=>⟨b,_,rfl,.inl (aAA eb),?_⟩⟩;rw[afz];exact r H' s'
  have eL:G5 L=some (.lst (((os.filter λo=>decide (eV Y o=m)).map λo=>(((bL (aO o)).length:Nat):Int)).map V.int)):=by
   rw[hL,aC,af3,af3,af3]
   rfl
  have aw:∃ o,o∈os.filter λo=>decide (eV Y o=m):=by
   obtain⟨y,hy,ey⟩:=afL.mp (sa.all _ wg);have p:=f9 (aG y (sa.gone y hy)) (aG _ wg) ey;exact⟨y,agi.mpr ⟨hy,afM (by rw[gx p];exact wm)⟩⟩
  have U:∀ o∈os,(bL (aO o)).length=o.length:=λo ho=>(bj (aG o (sa.gone o ho))).length_eq;refine⟨L,_,rfl,aAA eL,?_,λfm hf lo=>?_⟩
  .rw[afz];obtain⟨o,ho⟩:=aw;exact aip ho
  obtain⟨o1,bw,rfl⟩:=afL.mp hf;obtain⟨ax,aF⟩:=agi.mp bw;have aF:=agz aF;have g1:=sa.gone o1 ax;have aS:∀ o,cM h.1 h.2 o->eV Y o=m->o1.length<=o.length:=λo g e=>by
   obtain⟨y,hy,ey⟩:=afL.mp (sa.all _ g);have p:=f9 (aG y (sa.gone y hy)) (aG _ g) ey;have:=lo _ (aiO (f:=λo=>(((bL (aO o)).length:Nat):Int)) (agi.mpr ⟨hy,afM (by rw[gx p];exact e)⟩));rw[U y hy,U o1 ax] at this;have:=p.length_eq;lia
  have bx:=s5 _ _ br;have a6:=s5 _ _ eB;refine⟨_,rfl,_,rfl,?_⟩;refine qJ _ _ _ _ _ _ _ _ _ _ ?_;refine⟨_,rfl,B,rfl,⟨_,aAA a6⟩,λW nW=>?_⟩;refine t9 (F:=λ_=>.bl true) (pb:=λk=>decide ((lP k).length=o1.length)) a6 (kn.filter _) nW bl (λx=>rfl) (λG k R hk sG r=>?_) (λG k R r=>⟨_,rfl,r⟩) (λG k R hk _ sG r=>r G (Same.refl G)) λH6 s6 eW=>?_
  .rw[aC] at hk;obtain⟨o,ho,rfl⟩:=afL.mp hk;have ho:=(agi.mp ho).1;refine⟨_,rfl,o,rfl,ay o ho,λb H' s' nb eb=>⟨b,_,rfl,.inl (aAA eb),_,rfl,rfl,_,rfl,?_⟩⟩;have:=r H' s';rw[afz,show decide (V.int (((bL (aO o)).length:Nat):Int)=V.int (((bL (aO o1)).length:Nat):Int))=decide ((lP (kB o)).length=o1.length) from agL.mpr ⟨λz=>by
    injection z with z
    rw[tQ,← U o1 ax];lia,λz=>by
    rw[tQ,← U o1 ax] at z;rw[z]⟩]
   exact this
  rw[List.filter_filter] at eW;have a7:=((s3.trans s4).trans s5).trans s6;have bz:∀ o,cM h.1 h.2 o->(gG (((os.map kB).filter λk=>decide ((lP k).length=o1.length) && decide (eV Y (lP k)=m)).map λk=>(k,V.bl true)) (kB o)).isSome=(decide (o.length=o1.length) && decide (eV Y o=m)):=λo g=>by
   rw[abJ (F:=λ_=>V.bl true) (ad6 sa g)];show (decide ((lP (kB o)).length=o1.length) && decide (eV Y (lP (kB o))=m))=_;rw[a5 o g,tQ,(bj (aG o g)).length_eq]
  have wp:∀ {o:List Nat},(decide (o.length=o1.length) && decide (eV Y o=m))=true->o.length=o1.length/\eV Y o=m:=fun {o} e=>by
   rw[agf,af9,af9] at e;exact e
  have pw:∀ {o:List Nat},o.length=o1.length->eV Y o=m->(decide (o.length=o1.length) && decide (eV Y o=m))=true:=fun {o} e1 e2=>by
   rw[agf,af9,af9];exact⟨e1,e2⟩
  refine⟨S,W,kvs,h,os,_,λo=>decide (o.length=o1.length) && decide (eV Y o=m),o1.length,rfl,aJ,s6 _ _ bx,dl.same (jV.trans a7),sa,eW,bz,⟨o1,g1,pw rfl aF⟩,λo _ e=>(wp e).1,λLr r H7 s7 bB a8 rg a9 bC=>?_⟩;refine⟨by show 2<=sizeLine;decide,λT nT=>?_⟩;have aQ:T≠Lr:=λz=>by subst z;rw[a8] at nT;cases nT
  have ba:=aV.trans a7;have bb:=ba.trans s7;refine q T Lr m o1.length r _ (bb.trans (ak nT)) (bb.free nT) (ba.free bB) aQ af (by rw[ao (ahf aQ)];exact a8) ⟨rg,(wp a9).2,most,λn e=>?_,λo g e sz=>bC o g (pw (sz _ rfl) e)⟩;cases e;exact⟨(wp a9).1,aS⟩
end
end K7
namespace L2
open PySem PySem.Spec PyProof.Rows
section
variable {X:Cx}
end
section
variable {prog:Program}{w:World}{A:Around}{E:Value->Shared->Prop}{h:Heap}{g:Array GenState}{d:Drawn}{t:Nat}{os:OsState}{nm q:Str}{C N:Addr}{bs bm bmB bmN:List Value}{hdct:Bool}{sn:List Str}{sub:List Value}{ab:Bool}{col:Option Bool}{dd:Option Addr}{k0 k1 k2 k3 k5:Option Value}{B Bn newId nid initId inN:String}{mN:Str->Option Value}{rest:List Value}{fI:Addr}{oI:Obj}
end
section
variable {prog:Program}{w:World}{A:Around}{E:Value->Shared->Prop}{s:Shared}{K:PySem.W.Frag}{e C:Addr}{oe:Obj}{nm q:Str}{N:Addr}{bs bm:List Value}{sn:List Str}{sub:List Value}{ab:Bool}{col:Option Bool}{dd:Option Addr}{k0 k1 k2 k3 k5:Option Value}{newId:String}{name:Str}{v:Value}
end
section
variable {X:Cx}{C f:Addr}{bm:List Value}
end
section
variable {X:Cx}{pins:List (Addr×Obj)}{σ:St}{H:Hp}{s:Shared}
end
section
variable {P:Program}{w:World}{K:PySem.W.Frag}{mg:Str->Option Value}{base:Heap}{N:List Str}{qual:Str}{scope:Scope}{f:Addr}{cd:Value}{A:Around}{outer:List Env}{s:Shared}{H:Hp}{E1:XK}
end
section
variable {X:Cx}{d:Addr}{kvs:List (Key×V)}
end
section
variable {X:Cx}
end
section
variable {M:Model}{A:Around}{E:Value->Shared->Prop}{s:Shared}{base:Heap}{env:Env}{outer:List Env}{L e:Addr}{oe:Obj}{vs:Array Value}
end
section
variable {P:Program}{w:World}{K:PySem.W.Frag}{mg:Str->Option Value}{base:Heap}{N:List Str}{qual:Str}{scope:Scope}{f:Addr}{cd:Value}{A:Around}{outer:List Env}{s:Shared}{H:Hp}{E0:XK}
end
section
variable {X:Cx}{C f:Addr}{bm:List Value}
end
section
variable {P:Program}{w:World}{K:PySem.W.Frag}{mg:Str->Option Value}{base:Heap}{N:List Str}{qual:Str}{scope:Scope}{f:Addr}{cd:Value}{A:Around}{outer:List Env}{s:Shared}{H:Hp}{E1:XK}
end
end L2
namespace K7
open PySem L2 PyProof.Rows
abbrev gC (ns:List Nat):List PyData:=ns.map λi=>PyData.int ((i:Nat):Int)
theorem mh:∀ z:List Nat,PyData.canLayAll0 (gC z)=true
 | []=>rfl
 | n::z=>by rw[gC,af0];simp only[PyData.canLayAll0,PyData.canLay0,ahw];exact mh z
theorem nG:∀ z:List Nat,PyData.depthAll (gC z)=0
 | []=>rfl
 | n::z=>by
  rw[gC,af0];have:=nG z;unfold gC at this;simp only[PyData.depthAll,PyData.depth,this]
  rfl
theorem lY:∀ a b:List Nat,PyData.eqvAll (gC a) (gC b)=true↔a=b
 | [],[]=>by simp[PyData.eqvAll]
 | [],y::b=>by simp[PyData.eqvAll]
 | x::a,[]=>by simp[PyData.eqvAll]
 | x::a,y::b=>by
  have:=lY a b;unfold gC at this ⊢;simp only[af0,PyData.eqvAll,PyData.eqv,agf,this,akW,aga];constructor
  .rintro⟨p,q⟩;exact⟨Int.ofNat.inj p,q⟩
  .rintro⟨p,q⟩;exact⟨by rw[p],q⟩
theorem kh {H:Hp}:∀ z:List Nat,SeesAll H (z.map λi=>V.int ((i:Nat):Int)) (gC z)
 | []=>.nil
 | n::z=>.cons (.int _) (kh z)
theorem sH {A:Around}{H:Hp}{x y:Addr}{ss:List Str}{Q:VK}(z:H x=some (.lst (ss.map V.str)))(J:H y=some (.lst []))(kk:∀ k∈ss,eP k)(O:A.units+1 < cLine)(q:Q (.bl ss.isEmpty) H):adj A false (.ref x) (.ref y) H Q:=by
 refine⟨.list (ss.map PyData.str),.list [],.lst z (SeesAll.strs _),.lst J .nil,by simp only[PyData.canLay0,iX kk],rfl,agc (agu (Nat.min_le_right _ _) _) O,?_⟩;cases ss<;>exact q
theorem mT {H:Hp}:∀ {vs:List V} {ls:List (List Nat)},vs.length=ls.length->(∀ (i:Nat) v l,vs[i]? = some v->ls[i]? = some l->∃ a:Addr,v=.ref a/\H a=some (.lst (l.map λn=>V.int ((n:Nat):Int))))->SeesAll H vs (ls.map λl=>.list (gC l))
 | [],[],_,_=>.nil
 | v::vs,l::ls,e,h=>by
  obtain⟨a,rfl,z⟩:=h 0 v l rfl rfl;exact .cons (.lst z (kh l)) (mT (by simpa using e) λi J O p q=>h (i+1) J O p q)
theorem pB:∀ ls:List (List Nat),PyData.canLayAll0 (ls.map λl=>.list (gC l))=true
 | []=>rfl
 | l::ls=>by rw[af0];simp only[PyData.canLayAll0,PyData.canLay0,mh,ahw];exact pB ls
theorem lB:∀ ls:List (List Nat),PyData.depthAll (ls.map λl=>.list (gC l))<=1
 | []=>by simp only[ajh,PyData.depthAll];decide
 | l::ls=>by
  have:=lB ls;rw[af0];simp only[PyData.depthAll,PyData.depth,nG];lia
theorem vq {H:Hp}{us:List V}{rs:List Rm}{i:Nat}(z:RoomsAt H us rs)(hi:i < rs.length):∃ J O S:Addr,us[i]? = some (.ref J)/\H J=some (.tup [.ref O,.ref S])/\H O=some (.lst (rs[i].1.map V.str))/\H S=some (.lst (rs[i].2.map V.str)):=by
 have U:i < us.length:=by have:=z.1;lia
 obtain⟨t,a,b,e,h1,h2,Y⟩:=z.2 i us[i] rs[i] (afx U) (afx hi);exact⟨t,a,b,by rw[afx U,e],h1,h2,Y⟩
theorem adQ {xs:List V}{k:Nat}(h:k<=xs.length):t6 xs none (some (k:Int))=xs.take k:=by
 unfold t6;rw[HT.sIx_none,HT.sIx_nat,Nat.sub_zero,ahv,ah4 h]
theorem aaA {xs:List V}{k:Nat}(h:k<=xs.length):t6 xs (some (k:Int)) none=xs.drop k:=by
 unfold t6;rw[HT.sIx_none,HT.sIx_nat,ah4 h];exact agR (by rw[ahB];exact afG _)
theorem iJ:∀ {J z:List Int},J.Pairwise (·<=·)->z.Pairwise (·<=·)->J.Perm z->J=z
 | [],z,_,_,p=>(List.nil_perm.mp p).symm▸rfl
 | a::r,[],_,_,p=>absurd p.length_eq (by simp)
 | a::r,b::t,h1,h2,p=>by
  have ab:a<=b:=by
   rcases afZ.mp (p.mem_iff.mpr afX:b∈a::r) with e | hb
   .subst e;exact Int.le_refl _
   .exact (agy.mp h1).1 b hb
  have O:b<=a:=by
   rcases afZ.mp (p.mem_iff.mp afX:a∈b::t) with e | ha
   .subst e;exact Int.le_refl _
   .exact (agy.mp h2).1 a ha
  have e:=Int.le_antisymm ab O;subst e;rw[iJ (agy.mp h1).2 (agy.mp h2).2 (List.perm_cons a |>.mp p)]
section
variable {P:Program}{w:World}{K:PySem.W.Frag}{mg:Str->Option Value}{base:Heap}
end
end K7
namespace L2
open PySem PySem.Spec PyProof.Rows
theorem tF (K:PySem.W.Frag):kitOne K (.type "str") (.type "list")=some false:=by
 first
  | rfl
  | (with_unfolding_all rfl)
theorem ux (K:PySem.W.Frag):kitOne K (.type "str") (.type "tuple")=some false:=by
 first
  | rfl
  | (with_unfolding_all rfl)
theorem sq (K:PySem.W.Frag):kitOne K (.type "tuple") (.type "list")=some false:=by
 first
  | rfl
  | (with_unfolding_all rfl)
end L2
namespace K7
open PySem L2 PyProof.Rows
def cE (r:Rm):PyData:=.tuple [.list (r.1.map PyData.str),.list (r.2.map PyData.str)]
theorem pH {H:Hp}:∀ {vs:List V} {rs:List Rm},RoomsAt H vs rs->SeesAll H vs (rs.map cE)
 | [],[],_=>.nil
 | [],_::_,h=>absurd h.1 (by simp)
 | _::_,[],h=>absurd h.1 (by simp)
 | v::vs,r::rs,h=>by
  obtain⟨t,a,b,rfl,h1,h2,z⟩:=h.2 0 v r rfl rfl;refine .cons (.tup h1 (.cons (.lst h2 (SeesAll.strs _)) (.cons (.lst z (SeesAll.strs _)) .nil))) (pH ⟨by simpa using h.1,λi J O S U=>h.2 (i+1) J O (by simpa using S) (by simpa using U)⟩)
theorem sZ:∀ {rs:List Rm},(∀ r∈rs,(∀ k∈r.1,eP k)/\∀ k∈r.2,eP k)->PyData.canLayAll0 (rs.map cE)=true
 | [],_=>rfl
 | r::rs,h=>by
  obtain⟨h1,h2⟩:=h r afX;have z:=iX h1;have J:=iX h2;have O:=sZ λq S=>h q (af6 _ S);rw[af0];simp only[PyData.canLayAll0,PyData.canLay0,cE,z,J,O,ai2]
def aN (h:Hs):PyData:=.tuple [.list (h.1.map PyData.str),.list (h.2.map cE)]
theorem gw {H:Hp}{v:V}{h:Hs}(x:HouseAt H v h):Sees H v (aN h):=by
 obtain⟨t,a,r,vs,rfl,h1,h2,z,J⟩:=x;exact .tup h1 (.cons (.lst h2 (SeesAll.strs _)) (.cons (.lst z (pH J)) .nil))
theorem tE {h:Hs}(ok:dz h):(aN h).canLay0=true:=by
 have J:=iX ok.kk;have O:=sZ (rs:=h.2) λr z=>⟨(ok.rs r z).lk,(ok.rs r z).kk⟩;simp only[aN,PyData.canLay0,PyData.canLayAll0,J,O,ai2]
theorem qT:∀ rs:List Rm,PyData.eqvAll (rs.map cE) (rs.map cE)=true
 | []=>rfl
 | r::rs=>by
  rw[af0];simp only[PyData.eqvAll,cE,PyData.eqv,lT,ahw];exact qT rs
theorem xU (h:Hs):PyData.eqv (aN h) (aN h)=true:=by
 simp only[aN,PyData.eqv,PyData.eqvAll,lT,qT,ai2]
theorem mH:∀ rs:List Rm,PyData.depthAll (rs.map cE)<=2
 | []=>af5 _
 | r::rs=>by
  rw[af0];simp only[PyData.depthAll,cE,PyData.depth,i9];exact Nat.max_le.mpr ⟨by decide,mH rs⟩
theorem ur (h:Hs):(aN h).depth<=4:=by
 have:=mH h.2;simp only[aN,PyData.depth,PyData.depthAll,i9];lia
inductive Cpy:Nat->PyData->Prop
 | str (n:Nat) (x:Str):Cpy n (.str x)
 | lst {n:Nat} {ds:List PyData}:ds.length<=1000000->(∀ d∈ds,Cpy n d)->Cpy (n+1) (.list ds)
 | tup {n:Nat} {ds:List PyData}:ds.length<=1000000->(∀ d∈ds,Cpy n d)->Cpy (n+1) (.tuple ds)
theorem Cpy.strs {ks:List Str}(h:ks.length<=1000000)(n:Nat):Cpy (n+1) (.list (ks.map PyData.str)):=.lst (by rw[afz];exact h) λd z=>by
 obtain⟨k,_,rfl⟩:=afL.mp z;exact .str _ _
theorem Cpy.room {r:Rm}(h1:r.1.length<=1000000)(h2:r.2.length<=1000000):Cpy 2 (cE r):=.tup (by show 2<=1000000;decide) λd hd=>by
 rcases afZ.mp hd with rfl | hd
 .exact .strs h1 0
 .rw[afD.mp hd];exact .strs h2 0
theorem Cpy.house {h:Hs}(h1:h.1.length<=1000000)(h2:h.2.length<=1000000)(J:∀ r∈h.2,r.1.length<=1000000/\r.2.length<=1000000):Cpy 4 (aN h):=.tup (by show 2<=1000000;decide) λd hd=>by
 rcases afZ.mp hd with rfl | hd
 .exact .strs h1 2
 .rw[afD.mp hd];refine .lst (by rw[afz];exact h2) λd hd=>?_;obtain⟨r,z,rfl⟩:=afL.mp hd;exact .room (J r z).1 (J r z).2
theorem jK {H:Hp}:∀ {vs:List V} {ks:List Str},SeesAll H vs (ks.map PyData.str)->vs=ks.map V.str
 | [],[],_=>rfl
 | v::vs,k::ks,s=>by
  cases s with
  | cons a b =>
   cases a;rw[jK b]
   rfl
 | [],_::_,s=>by cases s
 | _::_,[],s=>by cases s
theorem xJ {H:Hp}{v:V}{r:Rm}(s:Sees H v (cE r)):RoomAt H v r:=by
 unfold cE at s;cases s with
 | tup e a =>
  cases a with
  | cons x b =>
   cases b with
   | cons y c =>
    cases c;cases x with
    | lst z J =>
     cases y with
     | lst O S =>
      exact⟨_,_,_,rfl,e,by rw[z,jK J],by rw[O,jK S]⟩
theorem pz {H:Hp}:∀ {vs:List V} {rs:List Rm},SeesAll H vs (rs.map cE)->RoomsAt H vs rs
 | [],[],_=>⟨rfl,λi v r e=>nomatch e⟩
 | v::vs,r::rs,s=>by
  cases s with
  | cons a b =>
   have z:=pz b;refine⟨by rw[age,age,z.1],λi S U J O=>?_⟩;cases i with
   | zero=>cases J;cases O;exact xJ a
   | succ i=>exact z.2 i S U J O
 | [],_::_,s=>by cases s
 | _::_,[],s=>by cases s
theorem kD {H:Hp}{v:V}{h:Hs}(s:Sees H v (aN h)):HouseAt H v h:=by
 unfold aN at s;cases s with
 | tup e a =>
  cases a with
  | cons x b =>
   cases b with
   | cons y c =>
    cases c;cases x with
    | lst z J =>
     cases y with
     | lst O S =>
      exact⟨_,_,_,_,rfl,e,by rw[z,jK J],O,pz S⟩
theorem Sees.same {H H':Hp}(st:Same H H'):∀ {d:PyData} {v:V},Sees H v d->Sees H' v d:=fun {d v} s=>by
 refine Sees.rec (motive_1:=λv d _=>Sees H' v d) (motive_2:=λvs ds _=>SeesAll H' vs ds) .non (λb=>.bl b) (λi=>.int i) (λx=>.str x) (λe _ z=>.lst (st _ _ e) z) (λe _ z=>.tup (st _ _ e) z) .nil (λ_ _ a b=>.cons a b) s
theorem SeesAll.of {H:Hp}:∀ {vs:List V} {ds:List PyData},vs.length=ds.length->(∀ (i:Nat) v d,vs[i]? = some v->ds[i]? = some d->Sees H v d)->SeesAll H vs ds
 | [],[],_,_=>.nil
 | v::vs,d::ds,l,h=>.cons (h 0 v d rfl rfl) (SeesAll.of (by simpa using l) λi z d' J O=>h (i+1) z d' J O)
 | [],_::_,l,_=>by simp at l
 | _::_,[],l,_=>by simp at l
theorem SeesAll.get {H:Hp}:∀ {vs:List V} {ds:List PyData},SeesAll H vs ds->vs.length=ds.length/\∀ (i:Nat) v d,vs[i]? = some v->ds[i]? = some d->Sees H v d
 | [],[],_=>⟨rfl,λi v d e=>nomatch e⟩
 | v::vs,d::ds,s=>by
  cases s with
  | cons a b =>
   have z:=SeesAll.get b;refine⟨by rw[age,age,z.1],λi S d' J O=>?_⟩;cases i with
   | zero=>cases J;cases O;exact a
   | succ i=>exact z.2 i S d' J O
 | [],_::_,s=>by cases s
 | _::_,[],s=>by cases s
inductive CqI (D:Addr)(H1:Hp)(ds:List PyData)(i:Nat)(ys:List V)(H:Hp):Prop
 | mk:ys.length=i->H D=some (.lst ys)->Same H1 H->(∀ (j:Nat) y d,ys[j]? = some y->ds[j]? = some d->Sees (eI D (oN H1 H)) y d)->CqI D H1 ds i ys H
theorem yJ {nl:Nat}{ix:List Nat}{te:TE}{σ:L2.St}{H1 H:Hp}{D:Addr}{ds:List PyData}{i n:Nat}{ys:List V}{x:V}{d:PyData}(Z:H1 D=none)(hi:i < n)(hn:n<=1000000)(ed:ds[i]? = some d)(c:CqI D H1 ds i ys H)(hc:∀ x,((bM nl ix σ).set 0 (some x)).drop nl=ix.map λj=>(σ[j]?).join)
 (ht:∀ C:VK,(∀ y H',Same H H'->Sees (oN H H') y d->C y H')->te ((bM nl ix σ).set 0 (some x)) H C):bQ nl ix (bu 0) uI te σ D ys H x λO H'=>Nx n i (CqI D H1 ds (i+1) O H'):=by
 obtain⟨U,Y,s,al⟩:=c;have ag:1000000 < sizeLine:=by decide
 refine dy (hc x) (ht _ λy H' s' sy=>⟨s' _ _ Y,by lia,nx hi ⟨by rw[afH,U];rfl,af,λb u e=>?_,λj z d' J S=>?_⟩⟩)
 .rw[ao (aj e Z)];exact s' _ _ (s b u e)
 .have to:∀ {G:Hp} {z:V} {d:PyData},Same G (eI D (oN H1 (upd H' D (.lst (ys++[y])))))->Sees G z d->Sees (eI D (oN H1 (upd H' D (.lst (ys++[y]))))) z d:=λst q=>Sees.same st q;by_cases hj:j < ys.length
  .rw[agj hj] at J;refine to (λb u e=>?_) (al j z d' J S);unfold eI at e ⊢;split at e
   .cases e
   .rename_i nb;rw[if_neg nb];unfold oN at e ⊢;split at e
    .cases e
    .rename_i n0;rw[ao nb];exact s' _ _ e
  .have:=(afA.mp J).1;rw[afH,af1] at this;have ej:j=i:=by lia
   subst ej;rw[af8 (by lia),U,ajj] at J;cases J;rw[ed] at S;cases S;refine to (λb u e=>?_) sy;unfold oN at e;split at e
   .cases e
   .rename_i n0;have nb:b≠D:=λz=>by subst z;rw[Y] at n0;cases n0
    unfold eI;rw[if_neg nb];unfold oN;rw[s.free n0];show upd H' D _ b=_;rw[ao nb];exact e
theorem ab9 {H1:Hp}{D:Addr}{ds:List PyData}(z:H1 D=none):CqI D H1 ds 0 [] (upd H1 D (.lst [])):=⟨rfl,af,λb u e=>by rw[ao (aj e z)];exact e,λj y d e=>nomatch e⟩
theorem ac6 {K:PySem.W.Frag}{nl:Nat}{ix:List Nat}{te:TE}{σ:L2.St}{H1:Hp}{D a:Addr}{Q:VK}{xs:List V}{ds:List PyData}(S:H1 a=some (.lst xs))(U:SeesAll H1 xs ds)(J:H1 D=none)(Y:xs.length<=1000000)(Z:∀ x,((bM nl ix σ).set 0 (some x)).drop nl=ix.map λj=>(σ[j]?).join)
 (ht:∀ (H:Hp) (x:V) (d:PyData) (C:VK),d∈ds->Sees H x d->(∀ y H',Same H H'->Sees (oN H H') y d->C y H')->te ((bM nl ix σ).set 0 (some x)) H C)
 (hd:∀ (H:Hp) (ys:List V),Same H1 H->H D=some (.lst ys)->ys.length=xs.length->SeesAll (eI D (oN H1 H)) ys ds->Q (.ref D) H):gi nl ix (bu 0) uI te σ (Itl K a) H1 D Q:=by
 obtain⟨l,at_⟩:=SeesAll.get U;refine cN (xs:=xs) (CqI D H1 ds) (ab9 J) (λi ys H ⟨_,h,_,_⟩=>h) (λi ys H ⟨_,_,s,_⟩=>aAA (s a _ S)) (λi ys H x O c=>?_) (λys H ⟨yl,h,s,al⟩=>hd H ys s h yl (SeesAll.of (by lia) al));have hi:=(afA.mp O).1;have z:ds[i]? = some (ds[i]'(by lia)):=afx _;have s:Same H1 H:=by obtain⟨_,_,s,_⟩:=c;exact s
 exact yJ J hi Y z c Z λC q=>ht H x _ C (afP z) (Sees.same s (at_ i x _ O z)) q
theorem ad3 {K:PySem.W.Frag}{nl:Nat}{ix:List Nat}{te:TE}{σ:L2.St}{H1:Hp}{D a:Addr}{Q:VK}{xs:List V}{ds:List PyData}(S:H1 a=some (.tup xs))(U:SeesAll H1 xs ds)(J:H1 D=none)(Y:xs.length<=1000000)(Z:∀ x,((bM nl ix σ).set 0 (some x)).drop nl=ix.map λj=>(σ[j]?).join)
 (ht:∀ (H:Hp) (x:V) (d:PyData) (C:VK),d∈ds->Sees H x d->(∀ y H',Same H H'->Sees (oN H H') y d->C y H')->te ((bM nl ix σ).set 0 (some x)) H C)
 (hd:∀ (H:Hp) (ys:List V),Same H1 H->H D=some (.lst ys)->ys.length=xs.length->SeesAll (eI D (oN H1 H)) ys ds->Q (.ref D) H):gi nl ix (bu 0) uI te σ (Itt K a) H1 D Q:=by
 obtain⟨l,at_⟩:=SeesAll.get U;refine abq (xs:=xs) (CqI D H1 ds) (ab9 J) (λi ys H ⟨_,h,_,_⟩=>h) (λi ys H ⟨_,_,s,_⟩=>aAB (s a _ S)) (λi ys H x O c=>?_) (λys H ⟨yl,h,s,al⟩=>hd H ys s h yl (SeesAll.of (by lia) al));have hi:=(afA.mp O).1;have z:ds[i]? = some (ds[i]'(by lia)):=afx _;have s:Same H1 H:=by obtain⟨_,_,s,_⟩:=c;exact s
 exact yJ J hi Y z c Z λC q=>ht H x _ C (afP z) (Sees.same s (at_ i x _ O z)) q
theorem lg {H H':Hp}(st:Same H H'){vs:List V}{ds:List PyData}(s:SeesAll H vs ds):SeesAll H' vs ds:=by
 obtain⟨l,a⟩:=SeesAll.get s;exact SeesAll.of l λi v d z J=>Sees.same st (a i v d z J)
end K7
namespace L2
open PySem PySem.Spec PyProof.Rows
theorem vP {X:Cx}:OpR X (binaryOp .FloorDiv) (rI (λ_ j=>0 < j/\j<=10000000000000000000000000000000000000000) λi j=>.int (i / j)):=opI λi j _ _ _ _ _ z q=>by
 have h1:(0:Int) < j:=z.1;have h2:j<=10000000000000000000000000000000000000000:=z.2;refine floordiv_int (by lia) (by rw[ajH i (by lia)];exact q) (.inl (PyProof.noPylong_of_log2 ?_));have J:j.natAbs≠0:=by lia
 have O:j.natAbs < 2 ^ 140:=agc (show j.natAbs<=10000000000000000000000000000000000000000 by lia) (by decide);have:=(Nat.log2_lt J).mpr O;lia
end L2
namespace K7
open PySem L2 PyProof.Rows
theorem qz:lettersS.cps.toList=List.range' 97 26:=by decide +kernel
theorem xB (r:Nat)(h:r < 26):atI lettersS.cps.toList (r:Int)=some (97+r):=bU (by rw[qz,List.getElem?_range' h];simp)
theorem uw:lettersS.length<=sizeLine:=by decide
theorem ac0 {z:Str}(h:1<=z.cps.toList.length/\z.cps.toList.length<=4/\∀ c∈z.cps.toList,97<=c/\c<=122):eP z:=by
 obtain⟨h1,h2,J⟩:=h;have e:z.cps.toList.length=z.length:=afO;exact⟨by lia,by lia,J⟩
def aa7 (z:Str):Bool:=decide (1<=z.length) && decide (z.length<=4) && z.cps.toList.all λc=>decide (97<=c) && decide (c<=122)
theorem abr {z:Str}(h:aa7 z=true):eP z:=by
 unfold aa7 at h;rw[agf,agf,af9,af9,agt] at h;refine⟨h.1.1,h.1.2,λc J=>?_⟩;have:=h.2 c J;rw[agf,af9,af9] at this;exact this
theorem xH {l:List Str}(h:l.all aa7=true):∀ k∈l,eP k:=λk z=>abr (agt.mp h k z)
theorem aeq {xs:List Str}{r:Int}(J:0<=r)(h1:r < xs.length):∃ m∈xs,atI (xs.map V.str) r=some (.str m):=by
 obtain⟨j,rfl⟩:∃ j:Nat,r=(j:Int):=⟨r.toNat,by lia⟩;have z:j < xs.length:=by lia
 exact⟨xs[j],agg z,bU (by rw[afF,afx z];rfl)⟩
theorem aH {p:Addr}{H H':Hp}(s:Same H H'):But p H H':=λb u _ e=>s b u e
def PoolD (H:Hp)(p:Addr):Prop:=∃ a f c:Int,H p=some (.lst [.int a,.int f,.int c])
theorem PoolD.same {H H':Hp}{p:Addr}(d:PoolD H p)(s:Same H H'):PoolD H' p:=let ⟨a,f,c,e⟩:=d;⟨a,f,c,s _ _ e⟩
theorem PoolD.ne {H:Hp}{p q:Addr}(d:PoolD H p)(n:H q=none):q≠p:=λz=>by
 obtain⟨_,_,_,e⟩:=d;rw[← z,n] at e;cases e
def yj (K:PySem.W.Frag):Sp:=λvs H Q _=>∃ (a:Addr) (k:Nat) (ns:List Int),vs=[.ref a,.int k]/\SqL K H a (ns.map V.int)/\∀ p H',H p=none->Same H H'->PoolD H' p->Q (.ref p) H'
def pf:Sp:=λvs H Q _=>∃ (p:Addr) (n:Int),vs=[.ref p,.int n]/\PoolD H p/\0 < n/\n<=10000000000000000000000000000000000000000/\∀ (r:Int) (H':Hp),0<=r->r < n->PoolD H' p->But p H H'->Q (.int r) H'
section
variable {P:Program}{w:World}{K:PySem.W.Frag}{mg:Str->Option Value}{base:Heap}
theorem iz:aA ["script","k","cell"] ["script","k"] (ai ir):=scM rfl rfl rfl rfl (by decide +kernel)
theorem eO:aA ["pool","many","found","x"] ["pool","many"] (ai iw):=scM rfl rfl rfl rfl (by decide +kernel)
theorem aay {f:Addr}{fd:FuncData}(F:Fun K "_law_pool" "_law_pool" ir f fd)(Z:mg "len" = none)(ox:mg "int" = none):FnOk P w K mg base CX0 1 f fd ["script","k"] (yj K):=by
 refine F.ok iz (λvs H Q E h=>?_) (λac A outer s H vs Q E hr h=>?_)
 .obtain⟨a,k,O,rfl,_⟩:=h
  rfl
 .obtain⟨a,k,O,rfl,U,q⟩:=h;refine⟨_,(ah (az (i:=2) iz.nd rfl (.inl rfl) ar)
   (ah (bp (cj (aE wK (pv 1) (au aQ rfl Z agH (ae (pv 0) ag)) (aP _))
    (aq (az (i:=2) iz.nd rfl (.inl rfl) (bR bq (pv 0) (pv 1) (λ_ _=>rfl)))) aF))
   (aq (aD (cJ (ae (pv 2) (ae (aV mE rfl ox (by decide +kernel) (ae (fQ aaM (pv 2) (bN acd ar ar) (aP _)) ag)) (ae (bN sg ar (pv 1)) ag)))))))),?_⟩
  refine⟨λσ H'=>∃ x:Int,σ=[some (.ref a),some (.int k),some (.int x)]/\H'=H,?_,?_⟩
  .rintro σ H' ⟨x,rfl,rfl⟩;refine⟨_,rfl,_,rfl,10,18,rfl,rfl,⟨by decide,by decide,by decide⟩,_,_,rfl,rfl,.inr ⟨_,rfl,?_⟩⟩;refine⟨_,rfl,53,k,rfl,rfl,.inl ⟨by decide,by decide⟩,(by show 3<=sizeLine;decide),λl Y=>?_⟩;exact q l _ Y (ak Y) ⟨_,_,_,af⟩
  .refine⟨_,rfl,_,rfl,a,_,rfl,.inl U,_,_,rfl,rfl,_,rfl,aeb (λS=>?_) (λ_=>⟨0,rfl,rfl⟩)⟩;have J:k < O.length:=by
    have z:=agz S;rw[afz] at z;lia
   exact⟨_,rfl,_,rfl,a,_,_,.int O[k],rfl,rfl,U,bU (by rw[afF,afx J];rfl),_,rfl,rfl⟩
theorem ac9 {f:Addr}{fd:FuncData}(F:Fun K "_law_draw" "_law_draw" iw f fd):FnOk P w K mg base CX0 1 f fd ["pool","many"] pf:=by
 refine F.ok eO (λvs H Q E h=>?_) (λY A outer s H vs Q E hr h=>?_)
 .obtain⟨p,n,rfl,_⟩:=h
  rfl
 .obtain⟨p,n,rfl,⟨a,O,c,J⟩,S,Z,q⟩:=h;refine⟨_,(ah (bp (cj (aE jt (bR bq (pv 0) ar (λ_ _=>rfl)) ar (aP _))
   (ah (az (i:=2) eO.nd rfl (.inl rfl) (bN pj (bR bq (pv 0) ar (λ_ _=>rfl)) (pv 1)))
   (ah (lj (bN vP (bR bq (pv 0) ar (λ_ _=>rfl)) (pv 1)) (qS (pv 0) ar iY))
   (aq (aD (pv 2))))) aF))
   (ah (lj (bN gA (bR bq (pv 0) ar (λ_ _=>rfl)) ar) (qS (pv 0) ar iY))
   (ah (az (i:=3) eO.nd rfl (.inl rfl) (bN pj (bN gA (bN pj (bR bq (pv 0) ar (λ_ _=>rfl)) ar) (bN sg ar (bR bq (pv 0) ar (λ_ _=>rfl)))) ar))
   (ah (az (i:=3) eO.nd rfl (.inl rfl) (bN pj (bN sg (pv 3) (pv 3)) ar))
   (ah (az (i:=3) eO.nd rfl (.inl rfl) (bN pj (bN sg (bN gA (pv 3) ar) (pv 3)) ar))
   (aq (aD (bN pj (bN vP (pv 3) ar) (pv 1))))))))),?_⟩
  have U:∀ x:Int,0<=x % n/\x % n < n:=λx=>⟨akX _ (by lia),ajV _ S⟩;refine⟨λσ H'=>σ=[some (.ref p),some (.int n),none,none]/\H'=H,?_,?_⟩
  .rintro σ H' ⟨rfl,rfl⟩;refine⟨_,rfl,p,_,2,.int c,rfl,rfl,aAA J,rfl,c,1,rfl,rfl,?_⟩;refine⟨_,rfl,p,_,2,2,rfl,rfl,J,rfl,?_⟩;have z:(upd H' p (.lst [.int a,.int O,.int (c+1)])) p=some (.lst [.int a,.int O,.int (c+1)]):=af;have b1:But p H' (upd H' p (.lst [.int a,.int O,.int (c+1)])):=.upd;show _;refine⟨_,rfl,p,_,0,.int a,rfl,rfl,aAA z,rfl,a,999999999989,rfl,rfl,(by show (0:Int) < 999999999989;decide),?_⟩;refine⟨_,rfl,p,_,2,.int (c+1),rfl,rfl,aAA z,rfl,810083,c+1,rfl,rfl,.inl ⟨by decide,by decide⟩,_,_,rfl,rfl,_,_,rfl,rfl,(by show (0:Int) < 999999999989;decide),?_⟩;have x0:=akX (a % 999999999989+810083 * (c+1)) (by decide:(999999999989:Int)≠0);have x1:=ajV (a % 999999999989+810083 * (c+1)) (by decide:(0:Int) < 999999999989);generalize hx:(a % 999999999989+810083 * (c+1)) % 999999999989=x at *;refine⟨_,rfl,_,rfl,x,x,agS V.int hx,agS V.int hx,.inl ⟨by lia,by lia⟩,_,_,rfl,rfl,(by show (0:Int) < 1000000000039;decide),?_⟩;have y0:=akX (x * x) (by decide:(1000000000039:Int)≠0);have y1:=ajV (x * x) (by decide:(0:Int) < 1000000000039);generalize hy:x * x % 1000000000039=y at *;refine⟨_,rfl,y,390001,agS V.int hy,rfl,_,rfl,_,y,rfl,agS V.int hy,.inr ⟨by lia,by lia⟩,_,_,rfl,rfl,(by show (0:Int) < 999999999961;decide),?_⟩;refine⟨_,rfl,_,_,rfl,rfl,⟨by decide,by decide⟩,_,rfl,_,n,rfl,rfl,S,?_⟩;exact q _ _ (U _).1 (U _).2 ⟨_,_,_,z⟩ b1
  .refine⟨_,rfl,p,_,1,.int O,rfl,rfl,aAA J,rfl,rfl,_,rfl,aeb (λ_=>?_) (λ_=>⟨rfl,rfl⟩)⟩;refine⟨_,rfl,p,_,0,.int a,rfl,rfl,aAA J,rfl,_,rfl,a,n,rfl,rfl,S,?_⟩;refine⟨_,rfl,p,_,0,.int a,rfl,rfl,aAA J,rfl,_,rfl,a,n,rfl,rfl,⟨S,Z⟩,?_⟩;refine⟨_,rfl,p,_,0,0,rfl,rfl,J,rfl,?_⟩;refine⟨_,rfl,?_⟩;exact q _ _ (U _).1 (U _).2 ⟨_,_,_,af⟩ .upd
def vK:Sp:=λvs H Q _=>∃ (p kl:Addr) (n:Nat) (U:List Str),vs=[.ref p,.int n,.ref kl]/\PoolD H p/\n<=1000/\H kl=some (.lst (U.map V.str))/\U≠[]/\U.length<=1000 ∧
 ∀ (D:Addr) (ks:List Str) (H':Hp),H D=none->H' D=some (.lst (ks.map V.str))->ks.length=n->(∀ k∈ks,k∈U)->PoolD H' p->But p H H'->Q (.ref D) H'
theorem uc {H:Hp}{p J:Addr}{U:List Str}(d:PoolD H p)(e:H J=some (.lst (U.map V.str)))(ne:U≠[]):J≠p:=λz=>by
 obtain⟨_,_,_,O⟩:=d;rw[← z,e] at O;cases U with
 | nil=>exact ne rfl
 | cons a r=>cases O
theorem zB:∀ {ys:List V} {U:List Str},(∀ y∈ys,∃ z∈U,y=V.str z)->∃ ss:List Str,ys=ss.map V.str/\∀ x∈ss,x∈U
 | [],_,_=>⟨[],rfl,λ_ h=>nomatch h⟩
 | y::ys,U,h=>by
  obtain⟨ss,rfl,k⟩:=zB (U:=U) λz hz=>h z (af6 _ hz);obtain⟨c,J,rfl⟩:=h y afX;refine⟨c::ss,rfl,λx O=>?_⟩;rcases afZ.mp O with z | z
  .rw[z];exact J
  .exact k x z
theorem pT:aA ["pool","many","kinds"] ["pool","many","kinds"] (ai fk):=scM rfl rfl rfl rfl (by decide +kernel)
theorem nI:(["k","kinds","pool"]:List Str).Nodup:=by decide +kernel
theorem zm {f fD:Addr}{fd O:FuncData}(F:Fun K "_law_kinds" "_law_kinds" fk f fd)(ay:FnOk P w K mg base CX0 1 fD O ["pool","many"] pf)(aw:Cal K mg "_law_draw" ["pool","many"] fD O)(cg:mg "len" = none)(bf:mg "range" = none):FnOk P w K mg base CX0 2 f fd ["pool","many","kinds"] vK:=by
 refine F.ok pT (λvs H Q E h=>?_) (λaJ A outer s H vs Q E hr h=>?_)
 .obtain⟨p,kl,n,U,rfl,_⟩:=h
  rfl
 .have hu:=du hr;obtain⟨p,kl,n,U,rfl,dk,n1,hk,ne,ul,q⟩:=h;refine⟨_,(aq (aD (gm (tg:=.Name "k" _) (outer:=ai (fk)) (N:=["pool","many","kinds"]) (N':=["k","kinds","pool"]) (nl:=1) (ix:=[2,0]) rfl rfl rfl (cy rfl bf (ae (pv 1) ag))
   (λ_ _ _ _=>(av (i:=0) nI rfl (.inl rfl) (.inr rfl))) (λ_ _ _ _=>aT)
   (λ_ _ _ _=>(bR (jG (K:=K) rfl) (pv 1) (pcl ay aw hr rfl (ae (pv 2) (ae (au (jU (K:=K) rfl) rfl cg agH (ae (pv 1) ag)) ag))) (λ_ _=>rfl)))))),?_⟩
  dsimp only [xF];refine aB _ _ _ _ _ _ _ _ _ ?_;refine⟨_,rfl,(n:Int),rfl,by lia,by lia,λD nD=>?_⟩;rw[agk];have S:=dk.ne nD;have Y:=uc dk hk ne;have aK:1000000 < sizeLine:=by decide
  have s0:Same H (upd H D (.lst [])):=ak nD;refine i6 (n:=n) (λi ys H'=>ys.length=i/\(∀ y∈ys,∃ z∈U,y=V.str z)/\H' D=some (.lst ys)/\PoolD H' p/\But p H H') ⟨rfl,λ_ h=>(nomatch h),af,dk.same s0,aH s0⟩ (λi ys H' ⟨_,_,h,_⟩=>h) ?_ ?_
  .rintro i ys H2 hi ⟨yl,al,hD,J,b2⟩;refine dy rfl ?_;have Z:=b2 _ _ Y hk;refine⟨_,rfl,_,rfl,_,rfl,kl,_,rfl,.inl (aAA Z),p,(U.length:Int),?_,J,?_,?_,λr H3 r0 r1 ap b3=>?_⟩
   .rw[afz];rfl
   .have:=aiP.mpr ne;lia
   .lia
   .obtain⟨m,hm,em⟩:=aeq (xs:=U) r0 r1;refine⟨kl,_,r,_,rfl,rfl,aAA (b3 _ _ Y Z),em,b3 _ _ S hD,by lia,nx hi ⟨by rw[afH,yl];rfl,λy hy=>?_,af,?_,(b2.trans b3).new nD⟩⟩
    .rcases afV.mp hy with h | h
     .exact al y h
     .rw[afD] at h;exact⟨m,hm,h⟩
    .obtain⟨a,f',c,e⟩:=ap;exact⟨a,f',c,by rw[ao (ahf S)];exact e⟩
  .rintro ys H2 ⟨yl,al,hD,J,b2⟩;obtain⟨ks,rfl,as⟩:=zB al;rw[afz] at yl;exact q D ks H2 nD hD yl as J b2
def wu:Sp:=λvs H Q _=>∃ (p:Addr),vs=[.ref p]/\PoolD H p/\∀ (D:Addr) (U:List Str) (H':Hp),H D=none->H' D=some (.lst (U.map V.str))->U≠[]->U.length<=16->(∀ k∈U,eP k)->PoolD H' p->But p H H'->Q (.ref D) H'
inductive DwI (p l:Addr)(H:Hp)(i:Nat)(σ:L2.St)(H':Hp):Prop
 | mk (U:List Str) (x2 x3 x4:Option V):σ=[some (.ref p),some (.ref l),x2,x3,x4]->H' l=some (.lst (U.map V.str))->U.length<=i->(0 < i->U≠[])->(∀ k∈U,eP k)->PoolD H' p->But p H H'->DwI p l H i σ H'
inductive DvI (p l:Addr)(H:Hp)(U:List Str)(x2:Option V)(i:Nat)(σ:L2.St)(H':Hp):Prop
 | mk (z:Str) (x4:Option V):σ=[some (.ref p),some (.ref l),x2,some (.str z),x4]->z.cps.toList.length=i->(∀ c∈z.cps.toList,97<=c/\c<=122)->H' l=some (.lst (U.map V.str))->PoolD H' p->But p H H'->DvI p l H U x2 i σ H'
theorem cA:aA ["pool","found","k","word","s"] ["pool"] (ai gL):=scM rfl rfl rfl rfl (by decide +kernel)
theorem yv {f fD:Addr}{fd ac:FuncData}(F:Fun K "_law_words" "_law_words" gL f fd)(ay:FnOk P w K mg base CX0 1 fD ac ["pool","many"] pf)(aw:Cal K mg "_law_draw" ["pool","many"] fD ac)(bf:mg "range" = none):FnOk P w K mg base CX0 2 f fd ["pool"] wu:=by
 refine F.ok cA (λvs H Q E h=>?_) (λaT A outer s H vs Q E hr h=>?_)
 .obtain⟨p,rfl,_⟩:=h
  rfl
 .have hu:=du hr;obtain⟨p,rfl,dk,q⟩:=h;refine⟨_,(ah (az (i:=1) cA.nd rfl (.inl rfl) oo)
   (ah (bp (d9 agx rfl (cy rfl bf (ae (bN gA ar (pcl ay aw hr rfl (ae (pv 0) (ae ar ag)))) ag)) (av (i:=2) cA.nd rfl (.inl rfl))
    (ah (az (i:=3) cA.nd rfl (.inl rfl) dC)
    (ah (bp (d9 agx rfl (cy rfl bf (ae (bN gA ar (pcl ay aw hr rfl (ae (pv 0) (ae ar ag)))) ag)) (av (i:=4) cA.nd rfl (.inl rfl))
     (aq (az (i:=3) cA.nd rfl (.inl rfl) (bN xn (pv 3) (bR adR dC (pcl ay aw hr rfl (ae (pv 0) (ae ar ag))) (λ_ _=>rfl)))))))
    (aq (bp (cj (aE lq (pv 3) (pv 1) rfl)
     (aq (dg (jN agb agW agX cx (pv 1) (ae (pv 3) ag)))) aF)))))))
   (aq (aD (pv 1))))),?_⟩
  refine⟨af5 _,λl nl=>?_⟩;have O:=dk.ne nl;have aU:1000000 < sizeLine:=by decide
  have s0:Same H (upd H l (.lst [])):=ak nl;refine⟨λσ H'=>∃ i,0 < i/\i<=16/\DwI p l H i σ H',?_,?_⟩
  .rintro σ H' ⟨i,i0,i1,⟨U,x2,x3,x4,rfl,hl,ul,ne,kk,Z,b2⟩⟩;exact⟨_,rfl,q l U H' nl hl (ne i0) (by lia) kk Z b2⟩
  .refine⟨_,rfl,p,12,rfl,dk.same s0,by decide,by decide,λr H1 r0 r1 as b1=>⟨5,r,rfl,rfl,5+r,rfl,by lia,by lia,?_⟩⟩;obtain⟨m,em⟩:∃ m:Nat,5+r=(m:Int):=⟨(5+r).toNat,by lia⟩;rw[em,agk];refine fP (λi J H'=>DwI p l H i J H') (.mk [] none none none rfl (b1 _ _ O af) (af5 _) (λz=>absurd z (by lia)) (λ_ h=>(nomatch h)) as ((aH s0).trans b1)) ?_ (λJ H' z=>⟨m,by lia,by lia,z⟩);rintro i σ H2 hi ⟨U,x2,x3,x4,rfl,hl,ul,ne,kk,Z,b2⟩;refine⟨λJ H'=>∃ j,1<=j/\j<=4/\DvI p l H U (some (.int (0+(i:Int)))) j J H',?_,?_⟩
   .rintro J H3 ⟨j,j1,j4,⟨z,au,rfl,zl,zc,S,Y,b3⟩⟩;have kz:=ac0 ⟨by lia,by lia,zc⟩;refine⟨λJ H'=>DwI p l H (i+1) J H',λ_ _ z=>z,?_⟩;refine⟨_,rfl,_,rfl,l,_,rfl,.inl (aAA S),rfl,by rw[ahG,agt];exact λ_ _=>rfl,_,rfl,aeb (λ_=>?_) (λe=>?_)⟩
    .refine⟨_,rfl,.inl ⟨rfl,_,aAA S⟩,_,rfl,l,_,_,rfl,rfl,S,by rw[afz];lia,?_⟩;have aa:PoolD (upd H3 l (.lst (U.map V.str++[.str z]))) p:=by
      obtain⟨a,f',c,e⟩:=Y;exact⟨a,f',c,by rw[ao (ahf O)];exact e⟩
     refine .mk (U++[z]) _ _ _ rfl (by rw[af,afY];rfl) (by rw[afH,af1];lia) (λ_=>by simp) (λk hk=>?_) aa (b3.new nl);rcases afV.mp hk with h | h
     .exact kk k h
     .rw[afD] at h;rw[h];exact kz
    .refine .mk U _ _ _ rfl S (by lia) (λ_ aA=>?_) kk Y b3;subst aA;exact e rfl
   .refine⟨_,rfl,p,4,rfl,Z,by decide,by decide,λr H3 r0 r1 Y b3=>⟨1,r,rfl,rfl,1+r,rfl,by lia,by lia,?_⟩⟩;obtain⟨m2,aB⟩:∃ m:Nat,1+r=(m:Int):=⟨(1+r).toNat,by lia⟩;rw[aB,agk];refine fP (λj J H'=>DvI p l H U (some (.int (0+(i:Int)))) j J H') (.mk "" x4 rfl (by decide) (λc hc=>by simp[show (Str.ofString "").cps.toList=[] by decide] at hc) (b3 _ _ O hl) Y (b2.trans b3)) ?_ (λJ H' z=>⟨m2,by lia,by lia,z⟩);rintro j σ H4 hj ⟨z,au,rfl,zl,zc,aC,aa,b4⟩;refine⟨_,rfl,_,rfl,p,26,rfl,aa,by decide,by decide,λr H5 r0 r1 aG b5=>?_⟩;obtain⟨k,rfl⟩:∃ k:Nat,r=(k:Int):=⟨r.toNat,by lia⟩;have el:z.cps.toList.length=z.length:=afO;refine⟨lettersS,_,97+k,rfl,rfl,uw,xB k (by lia),z,_,rfl,rfl,ahc (iA (by show z.length+1<=1000;lia)),?_⟩;refine .mk _ _ rfl (by rw[rP,afH,zl];rfl) (λc hc=>?_) (b5 _ _ O aC) aG (b4.trans b5);rw[rP] at hc;rcases afV.mp hc with y | y
    .exact zc c y
    .have:c=97+k:=by simpa using y
     lia
structure RmU (U:List Str)(r:Rm):Prop where
 lk:∀ k∈r.1,k∈U
 l1:1<=r.1.length
 l4:r.1.length<=4
 so:r.1.Pairwise leS
 wi:∀ k∈r.2,k∈U
 w6:r.2.length<=6
structure HsU (U:List Str)(n:Nat)(h:Hs):Prop where
 kk:∀ k∈U,eP k
 ul:U.length<=16
 bg:∀ k∈h.1,k∈U
 bl:h.1.length<=189
 rl:h.2.length=n
 rm:∀ r∈h.2,RmU U r
def vQ:Sp:=λvs H Q _=>∃ (p:Addr) (n:Nat),vs=[.ref p,.int n]/\PoolD H p/\n<=12/\∀ (v:V) (h:Hs) (U:List Str) (H':Hp),HouseAt H' v h->HsU U n h->PoolD H' p->But p H H'->Q v H'
def KindsAt (H:Hp)(v:V)(U:List Str):Prop:=∃ a,v=.ref a/\H a=some (.lst (U.map V.str))/\U≠[]/\U.length<=16/\∀ k∈U,eP k
theorem KindsAt.but {H H':Hp}{v:V}{U:List Str}{p:Addr}(k:KindsAt H v U)(d:PoolD H p)(b:But p H H'):KindsAt H' v U:=let ⟨a,e,h,n,l,o⟩:=k;⟨a,e,b _ _ (uc d h n) h,n,l,o⟩
theorem KindsAt.same {H H':Hp}{v:V}{U:List Str}(k:KindsAt H v U)(s:Same H H'):KindsAt H' v U:=let ⟨a,e,h,n,l,o⟩:=k;⟨a,e,s _ _ h,n,l,o⟩
theorem tU {l:List Str}{x y z:Int}:l.map V.str≠[.int x,.int y,.int z]:=λe=>by cases l<;>cases e
theorem RoomAt.pool {H H':Hp}{p:Addr}{v:V}{r:Rm}(x:RoomAt H v r)(d:PoolD H p)(b:But p H H'):RoomAt H' v r:=by
 obtain⟨t,O,S,rfl,h1,h2,J⟩:=x;obtain⟨i,j,k,e⟩:=d;refine⟨t,O,S,rfl,b _ _ (λz=>?_) h1,b _ _ (λz=>?_) h2,b _ _ (λz=>?_) J⟩
 .rw[z,e] at h1;cases h1
 .rw[z,e] at h2;injection h2 with h2;injection h2 with h2;exact tU h2.symm
 .rw[z,e] at J;injection J with J;injection J with J;exact tU J.symm
theorem RoomsAt.pool {H H':Hp}{p:Addr}{vs:List V}{rs:List Rm}(x:RoomsAt H vs rs)(d:PoolD H p)(b:But p H H'):RoomsAt H' vs rs:=⟨x.1,λi v r a c=>(x.2 i v r a c).pool d b⟩
theorem ad9 {xs:List Nat}{r:Int}(J:0<=r)(h1:r < xs.length):∃ m∈xs,atI (xs.map λn=>V.int ((n:Nat):Int)) r=some (.int ((m:Nat):Int)):=by
 obtain⟨j,rfl⟩:∃ j:Nat,r=(j:Int):=⟨r.toNat,by lia⟩;have z:j < xs.length:=by lia
 exact⟨xs[j],agg z,bU (by rw[afF,afx z];rfl)⟩
theorem abe {D p:Addr}{H H':Hp}(s:But p H H'):But p (eI D H) (eI D H'):=λb u n e=>by
 unfold eI at e ⊢;split at e
 .cases e
 .rename_i hb;rw[if_neg hb];exact s _ _ n e
theorem yi {D p:Addr}{H:Hp}(d:PoolD H p)(n:D≠p):PoolD (eI D H) p:=let ⟨a,f,c,e⟩:=d;⟨a,f,c,by unfold eI;rw[if_neg (ahf n)];exact e⟩
theorem yM {D:Addr}{H:Hp}{o:HO}:eI D (upd H D o)=eI D H:=by
 funext b;unfold eI;split
 .rfl
 .rename_i hb;rw[ao hb]
inductive DhI (p kl lr:Addr)(L:Int)(n:Nat)(U:List Str)(H0:Hp)(i:Nat)(σ:L2.St)(H':Hp):Prop
 | mk (vs:List V) (rs:List Rm) (x5 x6:Option V):σ=[some (.ref p),some (.int ((n:Nat):Int)),some (.ref kl),some (.int L),some (.ref lr),x5,x6]->H' lr=some (.lst vs)->RoomsAt (eI lr H') vs rs->rs.length=i->(∀ r∈rs,RmU U r)->PoolD H' p->But p H0 H'->H' kl=some (.lst (U.map V.str))->DhI p kl lr L n U H0 i σ H'
theorem RoomsAt.snocD {H:Hp}{vs:List V}{rs:List Rm}{v:V}{r:Rm}(x:RoomsAt H vs rs)(y:RoomAt H v r):RoomsAt H (vs++[v]) (rs++[r]):=by
 refine⟨by rw[afH,afH,x.1];rfl,λi O S z J=>?_⟩;by_cases h:i < vs.length
 .rw[agj h] at z;rw[agj (by rw[← x.1];exact h)] at J;exact x.2 i O S z J
 .have U:i < (vs++[v]).length:=(afA.mp z).1;rw[afH,af1] at U;have Y:i=vs.length:=by lia
  subst Y;rw[af8 (afG _),ajj] at z;rw[x.1,af8 (afG _),ajj] at J;cases z;cases J;exact y
theorem qY (l:Addr){H:Hp}{ws:List Str}(e:H l=some (.lst (ws.map V.str)))(k:ws.all aa7=true)(ne:ws≠[])(z:ws.length<=16):KindsAt H (.ref l) ws:=⟨l,rfl,e,ne,z,xH k⟩
def ws1:List Str:=["a"]
def ws2:List Str:=["a","b"]
def ws3:List Str:=["a","b","cc"]
def ws4:List Str:=["ab","abce","zbcd","abcd"]
def ws5:List Str:=["key","a","b","abcd","keyb","cb","keya"]
theorem lt_size {n:Nat}(h:n<=1000):n<=sizeLine:=afR h (by decide)
theorem bt:aA ["pool","many","kinds","locks","rooms","k","some"] ["pool","many"] (ai g6):=scM rfl rfl rfl rfl (by decide +kernel)
theorem zP {f fD fK fW:Addr}{fd bb bc bd:FuncData}(F:Fun K "_law_house" "_law_house" g6 f fd)(ay:FnOk P w K mg base CX0 1 fD bb ["pool","many"] pf)(aw:Cal K mg "_law_draw" ["pool","many"] fD bb)(iL:FnOk P w K mg base CX0 2 fK bc ["pool","many","kinds"] vK)(eA:Cal K mg "_law_kinds" ["pool","many","kinds"] fK bc)
 (rD:FnOk P w K mg base CX0 2 fW bd ["pool"] wu)(iy:Cal K mg "_law_words" ["pool"] fW bd)(bf:mg "range" = none)(aZ:mg "sorted" = none):FnOk P w K mg base CX0 3 f fd ["pool","many"] vQ:=by
 refine F.ok bt (λvs H Q E h=>?_) (λdE A outer s H vs Q E hr h=>?_)
 .obtain⟨p,n,rfl,_⟩:=h
  rfl
 .have hu:=du hr;obtain⟨p,n,rfl,dk,dF,q⟩:=h;refine⟨_,(@ah _ _ _ _ _ (@az _ _ 2 _ _ _ _ bt.nd rfl (.inl rfl) (@cJ _ _ _ _ (@ck _ _ _ _ _ (@cJ _ _ _ _ (@ck _ _ _ _ _ (@dC _ _ _ _) (@ag _) rfl)) (@ck _ _ _ _ _ (@cJ _ _ _ _ (@ck _ _ _ _ _ (@dC _ _ _ _) (@ck _ _ _ _ _ (@dC _ _ _ _) (@ag _) rfl) rfl)) (@ck _ _ _ _ _ (@cJ _ _ _ _ (@ck _ _ _ _ _ (@dC _ _ _ _) (@ck _ _ _ _ _ (@dC _ _ _ _) (@ck _ _ _ _ _ (@dC _ _ _ _) (@ag _) rfl) rfl) rfl)) (@ck _ _ _ _ _ (@cJ _ _ _ _ (@ck _ _ _ _ _ (@dC _ _ _ _) (@ck _ _ _ _ _ (@dC _ _ _ _) (@ck _ _ _ _ _ (@dC _ _ _ _) (@ck _ _ _ _ _ (@dC _ _ _ _) (@ag _) rfl) rfl) rfl) rfl)) (@ag _) rfl) rfl) rfl) rfl)) rfl (by first | exact .inl rfl | exact .inr rfl))
   (ah (az (i:=2) bt.nd rfl (.inl rfl) (bN pq (pv 2) (cJ (ae (@cJ _ _ _ _ (@ck _ _ _ _ _ (@dC _ _ _ _) (@ck _ _ _ _ _ (@dC _ _ _ _) (@ck _ _ _ _ _ (@dC _ _ _ _) (@ck _ _ _ _ _ (@dC _ _ _ _) (@ck _ _ _ _ _ (@dC _ _ _ _) (@ck _ _ _ _ _ (@dC _ _ _ _) (@ck _ _ _ _ _ (@dC _ _ _ _) (@ag _) rfl) rfl) rfl) rfl) rfl) rfl) rfl)) (ae (pcl rD iy hr rfl (ae (pv 0) ag)) ag)))))
   (ah (az (i:=2) bt.nd rfl (.inl rfl) (bR bq (pv 2) (pcl ay aw (hr.mono (by decide:1<=2)) rfl (ae (pv 0) (ae ar ag))) (λ_ _=>rfl)))
   (ah (az (i:=3) bt.nd rfl (.inl rfl) (bN gA ar (bN sg (pcl ay aw (hr.mono (by decide:1<=2)) rfl (ae (pv 0) (ae ar ag))) (pcl ay aw (hr.mono (by decide:1<=2)) rfl (ae (pv 0) (ae ar ag))))))
   (ah (az (i:=4) bt.nd rfl (.inl rfl) oo)
   (ah (bp (d9 agx rfl (cy rfl bf (ae (pv 1) ag)) (av (i:=5) bt.nd rfl (.inl rfl))
    (ah (az (i:=6) bt.nd rfl (.inl rfl) (au mP rfl aZ ahW (ae (pcl iL eA hr rfl (ae (pv 0) (ae (bN gA ar (pcl ay aw (hr.mono (by decide:1<=2)) rfl (ae (pv 0) (ae (pv 3) ag)))) (ae (pv 2) ag)))) ag)))
    (aq (dg (jN agb agW agX cx (pv 4) (ae (rO (ae (pv 6) (ae (pcl iL eA hr rfl (ae (pv 0) (ae (@bR _ _ _ _ _ _ _ bq (@cJ _ _ _ _ (@ck _ _ _ _ _ (@ar _ _ _ _) (@ck _ _ _ _ _ (@ar _ _ _ _) (@ck _ _ _ _ _ (@ar _ _ _ _) (@ck _ _ _ _ _ (@ar _ _ _ _) (@ck _ _ _ _ _ (@ar _ _ _ _) (@ck _ _ _ _ _ (@ar _ _ _ _) (@ck _ _ _ _ _ (@ar _ _ _ _) (@ck _ _ _ _ _ (@ar _ _ _ _) (@ag _) rfl) rfl) rfl) rfl) rfl) rfl) rfl) rfl)) (pcl ay aw (hr.mono (by decide:1<=2)) rfl (ae (pv 0) (ae ar ag))) (λ_ _=>rfl)) (ae (pv 2) ag)))) ag))) ag)))))))
   (@ah _ _ _ _ _ (@az _ _ 1 _ _ _ _ bt.nd rfl (.inl rfl) (@bR _ _ _ _ _ _ _ bq (@cJ _ _ _ _ (@ck _ _ _ _ _ (@ar _ _ _ _) (@ck _ _ _ _ _ (@ar _ _ _ _) (@ck _ _ _ _ _ (@ar _ _ _ _) (@ck _ _ _ _ _ (@ar _ _ _ _) (@ck _ _ _ _ _ (@ar _ _ _ _) (@ck _ _ _ _ _ (@ar _ _ _ _) (@ck _ _ _ _ _ (@ar _ _ _ _) (@ck _ _ _ _ _ (bN gA ar (pcl ay aw (hr.mono (by decide:1<=2)) rfl (ae (pv 0) (ae ar ag)))) (@ag _) rfl) rfl) rfl) rfl) rfl) rfl) rfl) rfl)) (pcl ay aw (hr.mono (by decide:1<=2)) rfl (ae (pv 0) (ae ar ag))) (λ_ _=>rfl)) rfl (by first | exact .inl rfl | exact .inr rfl))
   (aq (aD (rO (ae (pcl iL eA hr rfl (ae (pv 0) (ae (pv 1) (ae (pv 2) ag)))) (ae (pv 4) ag)))))))))))),?_⟩
  refine⟨lt_size (by decide:1<=1000),λZ n1=>⟨lt_size (by decide:2<=1000),λa2 n2=>⟨lt_size (by decide:3<=1000),λa3 n3=>⟨lt_size (by decide:4<=1000),λa4 n4=>?_⟩⟩⟩⟩;have k1:KindsAt (upd H Z (.lst [.str "a"])) (.ref Z) ws1:=qY Z af (by decide +kernel) (by decide) (by decide);have s1:Same H (upd H Z (.lst [.str "a"])):=ak n1;generalize upd H Z (.lst [.str "a"])=H1 at *;have k2:KindsAt (upd H1 a2 (.lst [.str "a",.str "b"])) (.ref a2) ws2:=qY a2 af (by decide +kernel) (by decide) (by decide);have s2:Same H1 (upd H1 a2 (.lst [.str "a",.str "b"])):=ak n2;generalize upd H1 a2 (.lst [.str "a",.str "b"])=H2 at *;have k3:KindsAt (upd H2 a3 (.lst [.str "a",.str "b",.str "cc"])) (.ref a3) ws3:=qY a3 af (by decide +kernel) (by decide) (by decide);have s3:Same H2 (upd H2 a3 (.lst [.str "a",.str "b",.str "cc"])):=ak n3;generalize upd H2 a3 (.lst [.str "a",.str "b",.str "cc"])=H3 at *;have k4:KindsAt (upd H3 a4 (.lst [.str "ab",.str "abce",.str "zbcd",.str "abcd"])) (.ref a4) ws4:=qY a4 af (by decide +kernel) (by decide) (by decide);have s4:Same H3 (upd H3 a4 (.lst [.str "ab",.str "abce",.str "zbcd",.str "abcd"])):=ak n4;generalize upd H3 a4 (.lst [.str "ab",.str "abce",.str "zbcd",.str "abcd"])=H4 at *;refine⟨lt_size (by decide:4<=1000),λl nl=>?_⟩;have sL:Same H4 (upd H4 l (.lst [.ref Z,.ref a2,.ref a3,.ref a4])):=ak nl;have eL:(upd H4 l (.lst [.ref Z,.ref a2,.ref a3,.ref a4])) l=some (.lst [.ref Z,.ref a2,.ref a3,.ref a4]):=af;generalize upd H4 l (.lst [.ref Z,.ref a2,.ref a3,.ref a4])=H5 at *;have bh:=(((s1.trans s2).trans s3).trans s4).trans sL;have bi:=dk.same bh;have bj:=k1.same (((s2.trans s3).trans s4).trans sL);have bk:=k2.same ((s3.trans s4).trans sL);have bn:=k3.same (s4.trans sL);have bo:=k4.same sL;refine⟨_,rfl,lt_size (by decide:7<=1000),λa5 n5=>?_⟩;have k5:KindsAt (upd H5 a5 (.lst [.str "key",.str "a",.str "b",.str "abcd",.str "keyb",.str "cb",.str "keya"])) (.ref a5) ws5:=qY a5 af (by decide +kernel) (by decide) (by decide);have s5:Same H5 (upd H5 a5 (.lst [.str "key",.str "a",.str "b",.str "abcd",.str "keyb",.str "cb",.str "keya"])):=ak n5;generalize upd H5 a5 (.lst [.str "key",.str "a",.str "b",.str "abcd",.str "keyb",.str "cb",.str "keya"])=H6 at *;refine⟨_,rfl,p,rfl,bi.same s5,λD6 U6 H7 dP cn co cq cr cs b7=>⟨lt_size (by decide:2<=1000),λl2 cu=>?_⟩⟩;have k6:KindsAt H7 (.ref D6) U6:=⟨D6,rfl,cn,co,cq,cr⟩;have cv:=bi.same s5;have cw:l≠p:=(dk.same (((s1.trans s2).trans s3).trans s4)).ne nl;have s7:Same H7 (upd H7 l2 (.lst [.ref a5,.ref D6])):=ak cu;have e7:(upd H7 l2 (.lst [.ref a5,.ref D6])) l2=some (.lst [.ref a5,.ref D6]):=af;generalize upd H7 l2 (.lst [.ref a5,.ref D6])=H8 at *;refine⟨l,l2,_,_,rfl,rfl,s7 _ _ (b7 _ _ cw (s5 _ _ eL)),e7,lt_size (by decide:6<=1000),λl6 bv=>?_⟩;have s8:Same H8 (upd H8 l6 (.lst ([.ref Z,.ref a2,.ref a3,.ref a4]++[.ref a5,.ref D6]))):=ak bv;have e8:(upd H8 l6 (.lst ([.ref Z,.ref a2,.ref a3,.ref a4]++[.ref a5,.ref D6]))) l6=some (.lst ([.ref Z,.ref a2,.ref a3,.ref a4]++[.ref a5,.ref D6])):=af;generalize upd H8 l6 (.lst ([.ref Z,.ref a2,.ref a3,.ref a4]++[.ref a5,.ref D6]))=H9 at *;have bw:=cs.same s7;have bx:=bw.same s8;have bz:l6≠p:=bw.ne bv;have aR:=s7.trans s8;have cB:But p H H9:=((aH (bh.trans s5)).trans b7).trans (aH aR);have S:∀ {v:V} {U:List Str},KindsAt H6 v U->KindsAt H9 v U:=λk=>(k.but cv b7).same aR;have all:∀ v∈([.ref Z,.ref a2,.ref a3,.ref a4]++[.ref a5,.ref D6]:List V),∃ U,KindsAt H9 v U:=λv hv=>by
   simp only[ahC,ais,afZ,agA,aju] at hv;rcases hv with e | e | e | e | e | e
   .exact⟨_,e▸S (bj.same s5)⟩
   .exact⟨_,e▸S (bk.same s5)⟩
   .exact⟨_,e▸S (bn.same s5)⟩
   .exact⟨_,e▸S (bo.same s5)⟩
   .exact⟨_,e▸S k5⟩
   .exact⟨_,e▸k6.same aR⟩
  have dS:([.ref Z,.ref a2,.ref a3,.ref a4]++[.ref a5,.ref D6]:List V).length=6:=rfl;generalize ([.ref Z,.ref a2,.ref a3,.ref a4]++[.ref a5,.ref D6]:List V)=aL at *;clear k1 k2 k3 k4 bj bk bn bo k5 k6;refine⟨_,rfl,_,rfl,p,6,rfl,bx,by decide,by decide,λr HA r0 r1 bD bA=>?_⟩;obtain⟨j,rfl⟩:∃ j:Nat,r=(j:Int):=⟨r.toNat,by lia⟩;have hj:j < aL.length:=by lia
  obtain⟨U,kU⟩:=all _ (agg hj);obtain⟨kl,cD,bL,aG,cE,cF⟩:=kU.but bx bA;refine⟨l6,aL,(j:Int),_,rfl,rfl,aAA (bA _ _ bz e8),bU (afx hj),?_⟩;rw[cD];refine⟨_,rfl,p,2,rfl,bD,by decide,by decide,λr2 HB dV dW cG bB=>?_⟩;refine⟨_,rfl,p,4,rfl,cG,by decide,by decide,λr4 HC dX dY bO bC=>?_⟩;refine⟨r2,r4,rfl,rfl,.inl ⟨by lia,by lia⟩,1,r2 * r4,rfl,rfl,?_⟩;have hL:1<=1+r2 * r4/\1+r2 * r4<=4:=by
   rcases (by lia:r2=0\/r2=1) with e | e
   .subst e;lia
   .subst e;lia
  generalize hLe:1+r2 * r4=L at *;have O:=uc bD bL aG;have as:=bC _ _ O (bB _ _ O bL);have cH:But p H HC:=((cB.trans bA).trans bB).trans bC;refine⟨af5 _,λlr ax=>?_⟩;have J:lr≠p:=bO.ne ax;have sR:Same HC (upd HC lr (.lst [])):=ak ax;have eR:(upd HC lr (.lst [])) lr=some (.lst []):=af;generalize upd HC lr (.lst [])=HD at *;refine⟨λσ H'=>DhI p kl lr L n U HC n σ H',?_,?_⟩
  .rintro σ HE ⟨vs,rs,x5,x6,rfl,am,hR,rl,rm,aA,bE,Y⟩;have dq:kl≠p:=O;refine⟨_,rfl,p,160,rfl,aA,by decide,by decide,λr HF r0 r1 aI bF=>⟨30,r,rfl,rfl,lt_size (by decide:8<=1000),λl8 n8=>?_⟩⟩;obtain⟨k,rfl⟩:∃ k:Nat,r=(k:Int):=⟨r.toNat,by lia⟩;have sF:Same HF (upd HF l8 (.lst [.int 1,.int 2,.int 3,.int 1,.int 0,.int 2,.int 1,.int (30+(k:Int))])):=ak n8;have eF:(upd HF l8 (.lst [.int 1,.int 2,.int 3,.int 1,.int 0,.int 2,.int 1,.int (30+(k:Int))])) l8=some (.lst (([1,2,3,1,0,2,1,30+k]:List Nat).map λn=>V.int ((n:Nat):Int))):=af;have aU:l8≠p:=aI.ne n8;show _;generalize upd HF l8 (.lst [.int 1,.int 2,.int 3,.int 1,.int 0,.int 2,.int 1,.int (30+(k:Int))])=HG at *;have aJ:=aI.same sF;refine⟨_,rfl,p,8,rfl,aJ,by decide,by decide,λr8 HH aW aX aB bH=>?_⟩;obtain⟨m,hm,em⟩:=ad9 (xs:=[1,2,3,1,0,2,1,30+k]) aW aX;refine⟨l8,_,r8,_,rfl,rfl,aAA (bH _ _ aU eF),em,?_⟩;have d3:m<=189:=by
    simp only[afZ,agA,aju] at hm;lia
   have b1:But p HE HH:=(bF.trans (aH sF)).trans bH;refine⟨_,rfl,_,rfl,_,rfl,p,kl,m,U,rfl,aB,by lia,b1 _ _ O Y,aG,by lia,λD ks HI nD eD d5 cQ a0 bI=>?_⟩;refine⟨_,rfl,lt_size (by decide:2<=1000),λT nT=>?_⟩;have sT:Same HI (upd HI T (.tup [.ref D,.ref lr])):=ak nT;have cT:=sT _ _ (bI _ _ J (b1 _ _ J am));have cU:RoomsAt HI vs rs:=((hR.same (lS)).pool aA b1).pool aB bI;exact q (.ref T) (ks,rs) U _ ⟨T,D,lr,vs,rfl,af,sT _ _ eD,cT,cU.same sT⟩ ⟨cF,cE,cQ,by show ks.length<=189;lia,rl,rm⟩ (a0.same sT) (((cH.trans bE).trans (b1.trans bI)).trans (aH sT))
  .refine⟨_,rfl,(n:Int),rfl,by lia,by lia,?_⟩;rw[agk];refine fP (λi bW H'=>DhI p kl lr L n U HC i bW H') (.mk [] [] none none (by rw[← hLe];rfl) eR ⟨rfl,λi v r e=>by simp at e⟩ rfl (λ_ h=>(nomatch h)) (bO.same sR) (aH sR) (sR _ _ as)) ?_ (λbW H' z=>z);rintro i σ HE hi ⟨vs,rs,x5,x6,rfl,am,hR,rl,rm,aA,bE,Y⟩;have bX:kl≠lr:=λz=>by rw[z] at as;rw[as] at ax;cases ax
   refine⟨_,rfl,_,rfl,_,rfl,p,L,rfl,aA,by lia,by lia,λr HF r0 r1 aI bF=>?_⟩;obtain⟨m,em⟩:∃ m:Nat,1+r=(m:Int):=⟨(1+r).toNat,by lia⟩;refine⟨1,r,rfl,rfl,_,rfl,p,kl,m,U,by show [V.ref p,V.int (1+r),V.ref kl]=_;rw[em],aI,by lia,bF _ _ O Y,aG,by lia,λD1 cV HG d7 cW d8 bY aJ bG=>?_⟩;refine⟨D1,cV,rfl,aAA cW,by lia,λls ss aE perm so=>?_⟩;have sS:Same HG (upd HG ls (.lst (ss.map V.str))):=ak aE;have eS:(upd HG ls (.lst (ss.map V.str))) ls=some (.lst (ss.map V.str)):=af;have aN:ls≠p:=aJ.ne aE;generalize upd HG ls (.lst (ss.map V.str))=HH at *;have aB:=aJ.same sS;have b1:But p HE HH:=(bF.trans bG).trans (aH sS);have bZ:=b1 _ _ J am;refine⟨_,rfl,.inl ⟨rfl,_,aAA bZ⟩,_,rfl,_,rfl,lt_size (by decide:8<=1000),λl8 n8=>?_⟩;have sF:Same HH (upd HH l8 (.lst [.int 0,.int 1,.int 1,.int 2,.int 2,.int 3,.int 1,.int 6])):=ak n8;have eF:(upd HH l8 (.lst [.int 0,.int 1,.int 1,.int 2,.int 2,.int 3,.int 1,.int 6])) l8=some (.lst (([0,1,1,2,2,3,1,6]:List Nat).map λn=>V.int ((n:Nat):Int))):=af;have aU:l8≠p:=aB.ne n8;generalize upd HH l8 (.lst [.int 0,.int 1,.int 1,.int 2,.int 2,.int 3,.int 1,.int 6])=HI at *;have a0:=aB.same sF;refine⟨_,rfl,p,8,rfl,a0,by decide,by decide,λr8 HJ aW aX cX bJ=>?_⟩;obtain⟨m2,cZ,c0⟩:=ad9 (xs:=[0,1,1,2,2,3,1,6]) aW aX;refine⟨l8,_,r8,_,rfl,rfl,aAA (bJ _ _ aU eF),c0,?_⟩;have ed:m2<=6:=by
    simp only[afZ,agA,aju] at cZ;lia
   have b2:But p HE HJ:=(b1.trans (aH sF)).trans bJ;refine⟨_,rfl,p,kl,m2,U,rfl,cX,by lia,b2 _ _ O Y,aG,by lia,λD2 a6 HK a7 c2 ee b4 c3 bK=>⟨lt_size (by decide:2<=1000),λT nT=>?_⟩⟩;have sT:Same HK (upd HK T (.tup [.ref ls,.ref D2])):=ak nT;have eT:(upd HK T (.tup [.ref ls,.ref D2])) T=some (.tup [.ref ls,.ref D2]):=af;generalize upd HK T (.tup [.ref ls,.ref D2])=HL at *;have b3:But p HE HL:=(b2.trans bK).trans (aH sT);have c5:=c3.same sT;have vl:vs.length=rs.length:=hR.1;have aO:=b3 _ _ J am;refine⟨lr,vs,.ref T,rfl,rfl,aO,afW (show vs.length < 1000 by lia) (lt_size (afG _)),?_⟩;have b5:HL ls=some (.lst (ss.map V.str)):=sT _ _ (bK _ _ aN (bJ _ _ aN (sF _ _ eS)));have b6:=sT _ _ c2;have c6:RoomAt (eI lr HL) (.ref T) (ss,a6):=by
    refine⟨T,ls,D2,rfl,?_,?_,?_⟩
    .unfold eI;rw[if_neg (λz=>?_)]
     .exact eT
     .rw[z,aO] at eT;cases eT
    .unfold eI;rw[if_neg (λz=>?_)]
     .exact b5
     .rw[z] at aE;rw[(bF.trans bG) _ _ J am] at aE;cases aE
    .unfold eI;rw[if_neg (λz=>?_)]
     .exact b6
     .rw[z] at a7;rw[b2 _ _ J am] at a7;cases a7
   have c7:RoomsAt (eI lr HL) vs rs:=hR.pool (yi aA J.symm.symm) (abe b3);refine .mk (vs++[.ref T]) (rs++[(ss,a6)]) _ _ rfl af ?_ (by rw[afH,rl];rfl) (λx hx=>?_) ?_ ?_ ?_
   .rw[yM];exact c7.snocD c6
   .rcases afV.mp hx with h | h
    .exact rm x h
    .rw[afD] at h;rw[h];refine⟨λk hk=>bY k (perm.mem_iff.mp hk),?_,?_,hE so,b4,?_⟩
     .show 1<=ss.length;rw[perm.length_eq];lia
     .show ss.length<=4;rw[perm.length_eq];lia
     .show a6.length<=6;lia
   .obtain⟨a,f',c,e⟩:=c5;exact⟨a,f',c,by rw[ao (ahf J)];exact e⟩
   .exact (bE.trans b3).new ax
   .rw[ao bX];exact b3 _ _ O Y
end
def aei (n:Nat):Sp:=λvs H Q _=>∃ (v:V) (d:PyData),vs=[v]/\Sees H v d/\Cpy n d/\∀ u H',Same H H'->Sees (oN H H') u d->Q u H'
def aey:Nat->Sp
 | 0=>λ_ _ _ _=>False
 | n+1=>aei n
def OrdsAt (H:Hp)(ys:List V)(os:List (List Nat)):Prop:=ys.length=os.length/\∀ (j:Nat) y o,ys[j]? = some y->os[j]? = some o->∃ b:Addr,y=.ref b/\H b=some (.lst (cO o))
theorem OrdsAt.same {H H':Hp}{ys:List V}{os:List (List Nat)}(a:OrdsAt H ys os)(s:Same H H'):OrdsAt H' ys os:=⟨a.1,λj y o z J=>let ⟨b,e,h⟩:=a.2 j y o z J;⟨b,e,s _ _ h⟩⟩
theorem OrdsAt.get {H:Hp}{ys:List V}{os:List (List Nat)}(a:OrdsAt H ys os){j:Nat}{y:V}(e:ys[j]? = some y):∃ o b,os[j]? = some o/\y=V.ref b/\H b=some (.lst (cO o)):=by
 have J:=(afA.mp e).1;have l:=a.1;obtain⟨b,z,h⟩:=a.2 j y _ e (afx (show j < os.length by lia));exact⟨_,b,afx _,z,h⟩
section
variable {P:Program}{w:World}{K:PySem.W.Frag}{mg:Str->Option Value}{base:Heap}{f:Addr}{fd:FuncData}
theorem qW:aA ["thing"] ["thing"] (ai dh):=scM rfl rfl rfl rfl (by decide +kernel)
theorem jm:(["one"]:List Str).Nodup:=by decide +kernel
theorem zy (n:Nat)(F:Fun K "_law_copy" "_law_copy" dh f fd)(dR:FnOk P w K mg base CX0 n f fd ["thing"] (aey n))(aX:Cal K mg "_law_copy" ["thing"] f fd)(gj:mg "tuple" = none)(ax:mg "isinstance" = none)(aJ:mg "list" = none):FnOk P w K mg base CX0 (n+1) f fd ["thing"] (aei n):=by
 refine F.ok qW (λvs H Q E h=>?_) (λaz A outer s H vs Q E U h=>?_)
 .obtain⟨v,d,rfl,_⟩:=h
  rfl
 .have hu:=du U;obtain⟨v,d,rfl,Y,cp,q⟩:=h;refine⟨_,(ah (cj (cT (au aW rfl ax (by decide +kernel) (ae (pv 0) (ae (dO (v:=.ty "list") (u:=.type "list") rfl aJ (by decide +kernel) rfl) ag))))
   (aq (aD (gm (tg:=.Name "one" _) (outer:=ai (dh)) (N:=["thing"]) (N':=["one"]) (nl:=1) (ix:=[]) rfl rfl rfl (aL (pv 0))
   (λ_ _ _ _=>(av (i:=0) jm rfl (.inl rfl) (.inr rfl))) (λ_ _ _ _=>aT)
   (λ_ _ _ _=>(pcl dR aX U rfl (ae (pv 0) ag)))))) aF)
   (ah (cj (cT (au aW rfl ax (by decide +kernel) (ae (pv 0) (ae (dO (v:=.ty "tuple") (u:=.type "tuple") rfl gj (by decide +kernel) rfl) ag))))
    (aq (aD (aV qo rfl gj (by decide +kernel) (ae (gm (tg:=.Name "one" _) (outer:=ai (dh)) (N:=["thing"]) (N':=["one"]) (nl:=1) (ix:=[]) rfl rfl rfl (adJ (pv 0))
    (λ_ _ _ _=>(av (i:=0) jm rfl (.inl rfl) (.inr rfl))) (λ_ _ _ _=>aT)
    (λ_ _ _ _=>(pcl dR aX U rfl (ae (pv 0) ag)))) ag)))) aF)
   (aq (aD (pv 0))))),?_⟩
  cases cp with
  | str n x =>
   cases Y;refine⟨_,rfl,_,_,_,false,rfl,.str x,tF K,false,rfl,cu ?_⟩;refine⟨_,rfl,_,_,_,false,rfl,.str x,ux K,false,rfl,cu ?_⟩;exact⟨_,rfl,q _ H (Same.refl H) (.str x)⟩
  | lst l Z =>
   cases Y with
   | lst e J =>
    rename_i n ds a xs;have xl:=(SeesAll.get J).1;refine⟨_,rfl,_,_,_,true,rfl,.lst e,cV K _,true,rfl,dt ?_⟩;dsimp only [xF];refine aB _ _ _ _ _ _ _ _ _ ?_;refine⟨_,rfl,a,rfl,⟨_,aAA e⟩,λD O=>?_⟩;refine ac6 e J O (by lia) (λx=>rfl) (λG x d C hd sx k=>?_) (λG ys s eD yl sy=>?_)
    .exact⟨_,rfl,x,d,rfl,sx,Z d hd,λu H' s' su=>k u H' s' su⟩
    .exact q _ G s (.lst (pS O eD) (lg lS sy))
  | tup l Z =>
   cases Y with
   | tup e J =>
    rename_i n ds a xs;have xl:=(SeesAll.get J).1;refine⟨_,rfl,_,_,_,false,rfl,.tup e,sq K,false,rfl,cu ?_⟩;refine⟨_,rfl,_,_,_,true,rfl,.tup e,cV K _,true,rfl,dt ?_⟩;dsimp only [xF,tCB,fb,lV];refine aB _ _ _ _ _ _ _ _ _ ?_;refine⟨_,rfl,a,rfl,⟨_,aAB e⟩,λD O=>?_⟩;refine ad3 e J O (by lia) (λx=>rfl) (λG x d C hd sx k=>?_) (λG ys s eD yl sy=>?_)
    .exact⟨_,rfl,x,d,rfl,sx,Z d hd,λu H' s' su=>k u H' s' su⟩
    .refine⟨D,ys,rfl,.inl ⟨aAA eD,λt S=>q _ _ (s.trans (ak S)) (.tup (pS (s.free S) af) (lg (λb u eb=>?_) sy))⟩⟩;have e1:=lS _ _ eb;have e2:=lW _ _ e1;have nb:b≠t:=λz=>by subst z;rw[e2] at S;cases S
     unfold oN at e1 ⊢;split at e1
     .cases e1
     .rename_i n0;rw[ao nb];exact e2
theorem yr (F:Fun K "_law_copy" "_law_copy" dh f fd)(z:Cal K mg "_law_copy" ["thing"] f fd)(J:mg "tuple" = none)(O:mg "isinstance" = none)(S:mg "list" = none):∀ n,FnOk P w K mg base CX0 (n+1) f fd ["thing"] (aei n)
 | 0=>zy 0 F ⟨λ_ _ _ _ h=>h.elim,λ_ _ _ _ _ _ _ _ _ _ _ _ _ h=>h.elim⟩ z J O S
 | n+1=>zy (n+1) F (yr F z J O S n) z J O S
end
def qC {α:Type}(lt:α->α->Bool)(l:List α):Bool:=(l.zip l.tail).all λp=>lt p.1 p.2
theorem pV {α:Type}{lt:α->α->Bool}(J:∀ a b c,lt a b=true->lt b c=true->lt a c=true):∀ {l:List α},qC lt l=true↔l.Pairwise λa b=>lt a b=true
 | []=>⟨λ_=>.nil,λ_=>rfl⟩
 | [a]=>⟨λ_=>akr _ _,λ_=>rfl⟩
 | a::b::l=>by
  have ih:=pV J (l:=b::l);unfold qC at ih ⊢;rw[List.tail_cons] at ih;show ((a,b)::(b::l).zip l).all _=true↔_;rw[ajt,agf,ih];constructor
  .rintro⟨h1,h2⟩;refine agy.mpr ⟨λx O=>?_,h2⟩;rcases afZ.mp O with e | e
   .rw[e];exact h1
   .exact J _ _ _ h1 ((agy.mp h2).1 x e)
  .intro z;obtain⟨h1,h2⟩:=agy.mp z;exact⟨h1 b afX,h2⟩
def ltZ (a b:Int):Bool:=decide (a < b)
def adi (a b:List Int):Bool:=decide (a < b)
theorem aeQ {l:List Int}:qC ltZ l=true↔l.Pairwise (· < ·):=by
 rw[pV (λa b c x y=>by unfold ltZ at *;simp only[af9] at *;lia)];unfold ltZ;simp only[af9]
theorem riseZs {l:List (List Int)}:qC adi l=true↔l.Pairwise (· < ·):=by
 rw[pV (λa b c x y=>by unfold adi at *;simp only[af9] at *;exact akq x y)];unfold adi;simp only[af9]
def OrdsZ (H:Hp)(ys:List V)(ls:List (List Int)):Prop:=ys.length=ls.length/\∀ (j:Nat) y l,ys[j]? = some y->ls[j]? = some l->∃ b:Addr,y=.ref b/\H b=some (.lst (l.map V.int))
theorem OrdsZ.same {H H':Hp}{ys:List V}{z:List (List Int)}(a:OrdsZ H ys z)(s:Same H H'):OrdsZ H' ys z:=⟨a.1,λj y o J O=>let ⟨b,e,h⟩:=a.2 j y o J O;⟨b,e,s _ _ h⟩⟩
theorem OrdsZ.get {H:Hp}{ys:List V}{z:List (List Int)}(a:OrdsZ H ys z){j:Nat}{y:V}(e:ys[j]? = some y):∃ l b,z[j]? = some l/\y=V.ref b/\H b=some (.lst (l.map V.int)):=by
 have O:=(afA.mp e).1;have l:=a.1;obtain⟨b,J,h⟩:=a.2 j y _ e (afx (show j < z.length by lia));exact⟨_,b,afx _,J,h⟩
theorem OrdsAt.z {H:Hp}{ys:List V}{os:List (List Nat)}(a:OrdsAt H ys os):OrdsZ H ys (os.map zs):=⟨by rw[afz];exact a.1,λj y l O J=>by
 rw[afF] at J;obtain⟨o,S,rfl⟩:=agQ.mp J;obtain⟨b,e,h⟩:=a.2 j y o O S;exact⟨b,e,by rw[h,af3];rfl⟩⟩
theorem OrdsZ.nat {H:Hp}{ys:List V}{os:List (List Nat)}(a:OrdsZ H ys (os.map zs)):OrdsAt H ys os:=⟨by have:=a.1;rwa [afz] at this,λj y o z J=>by
 obtain⟨b,e,h⟩:=a.2 j y (zs o) z (by rw[afF,J];rfl);exact⟨b,e,by rw[h,af3];rfl⟩⟩
def gy (h:Hs)(o:List Nat)(k:Str):Int:=((h.1.count k:Nat):Int)+(o.map λi=>vz (rmD h.2 i) k).sum
def xu (h:Hs)(o:List Nat)(i:Nat):Prop:=∀ k∈(rmD h.2 i).1,(((rmD h.2 i).1.count k:Nat):Int)<=gy h o k
def SetZ (n:Nat)(l:List Int):Prop:=l.Pairwise (· < ·)/\∀ z∈l,0<=z/\z < (n:Int)
theorem SetZ.nat {n:Nat}{l:List Int}(s:SetZ n l):∃ o:List Nat,l=zs o/\o.Nodup/\o.Pairwise (· < ·)/\∀ i∈o,i < n:=by
 refine⟨l.map Int.toNat,?_,?_,?_,λi hi=>?_⟩
 .have:∀ z∈l,((z.toNat:Nat):Int)=z:=λz J=>by have:=(s.2 z J).1;lia
  rw[zs,af3];exact ((List.map_congr_left λz J=>this z J).trans (aks _)).symm
 .rw[agI,aha];exact ahA (fun {a b} O S x=>by have:=(s.2 a O).1;have:=(s.2 b S).1;lia) s.1
 .rw[aha];exact ahA (fun {a b} O S x=>by have:=(s.2 a O).1;have:=(s.2 b S).1;lia) s.1
 .obtain⟨z,J,rfl⟩:=afL.mp hi;have:=s.2 z J;lia
theorem acb {n:Nat}{o:List Nat}(u:o.Pairwise (· < ·))(lt:∀ i∈o,i < n):SetZ n (zs o):=by
 refine⟨?_,λz J=>?_⟩
 .rw[aha];exact u.imp λx=>by lia
 .obtain⟨i,hi,rfl⟩:=afL.mp J;have:=lt i hi;exact⟨by lia,by lia⟩
structure ShowsP (h:Hs)(ws:List Int)(ls:List (List Int))(wt:Int):Prop where
 nil:[]∈ls
 up:ls.Pairwise (· < ·)
 set:∀ l∈ls,SetZ h.2.length l
 sum:∀ o:List Nat,zs o∈ls->eV ws o<=wt
 more:∀ o:List Nat,zs o∈ls->∀ k,k < h.2.length->k ∉ o->xu h o k->zs (bL (aO (o++[k])))∈ls
theorem xE {h:Hs}{o o':List Nat}(p:o.Perm o')(k:Str):gy h o k=gy h o' k:=by
 unfold gy;rw[sk (p.map _)]
theorem sr {h:Hs}{o o':List Nat}(p:o.Perm o'){i:Nat}(m:xu h o i):xu h o' i:=λk z=>by rw[← xE p];exact m k z
theorem pk {h:Hs}{k:Str}:∀ o,cM h.1 h.2 o->gy h o k=(((cQ h.1 h.2 o).count k:Nat):Int):=by
 refine fV (λ_=>?_) λo i ih g=>?_
 .show _+(0:Int)=_;rw[al0]
  rfl
 .obtain⟨O,hi⟩:=di g;have m:=(next_iffD.mp hi).2.2;have ih:=ih O;unfold gy at ih ⊢;rw[afY,ajF,jr];have z:(n6 (cQ h.1 h.2 o) (rmD h.2 i)).count k=(cQ h.1 h.2 o).count k - (rmD h.2 i).1.count k+(rmD h.2 i).2.count k:=by
   unfold n6;rw[aiC,gf]
  have le:(rmD h.2 i).1.count k<=(cQ h.1 h.2 o).count k:=by
   by_cases J:k∈(rmD h.2 i).1
   .unfold tw at m;rw[agt] at m;exact agz (m _ J)
   .rw[agN J];exact af5 _
  show _=(((n6 (cQ h.1 h.2 o) (rmD h.2 i)).count k:Nat):Int);rw[z];have S:(List.map (λi=>vz (rmD h.2 i) k) [i]).sum=vz (rmD h.2 i) k:=by simp
  have U:vz (rmD h.2 i) k=(((rmD h.2 i).2.count k:Nat):Int) - (((rmD h.2 i).1.count k:Nat):Int):=rfl;rw[S,U];lia
theorem vc {h:Hs}{o:List Nat}{i:Nat}(g:cM h.1 h.2 o):xu h o i↔tw (cQ h.1 h.2 o) (rmD h.2 i).1=true:=by
 unfold tw xu;rw[agt];constructor
 .intro z k J;have:=z k J;rw[pk o g] at this;exact afM (by lia)
 .intro z k J;have:=agz (z k J);rw[pk o g];lia
theorem ShowsP.in_ {h:Hs}{ws:List Int}{O:List (List Int)}{wt:Int}(s:ShowsP h ws O wt):∀ o,cM h.1 h.2 o->zs (bL (aO o))∈O:=by
 refine fV (λ_=>?_) λo i S g=>?_
 .exact s.nil
 .obtain⟨J,hi⟩:=di g;obtain⟨h1,h2,U⟩:=next_iffD.mp hi;have p:=bj (aG o J);have:=s.more _ (S J) i h1 (λz=>h2 (p.mem_iff.mp z)) (sr p.symm ((vc J).mpr U))
  rwa [iT (p.append_right [i])] at this
theorem ShowsP.most {h:Hs}{ws:List Int}{z:List (List Int)}{wt:Int}(s:ShowsP h ws z wt){o:List Nat}(g:cM h.1 h.2 o):eV ws o<=wt:=by
 have:=s.sum _ (s.in_ o g)
 rwa [gx (bj (aG o g))] at this
structure PaperR (h:Hs)(ss:List (List Nat)):Prop where
 up:ss.Pairwise (· < ·)
 mem:∀ s,s∈ss↔∃ o,cM h.1 h.2 o/\s=bL (aO o)
theorem aew {ss:List (List Nat)}(u:ss.Pairwise (· < ·)):(ss.map zs).Pairwise (· < ·):=by
 rw[aha];exact u.imp λx=>zs_lt.mpr x
theorem PaperR.shows {h:Hs}{ws:List Int}{ss:List (List Nat)}{wt:Int}(p:PaperR h ss)(le:∀ o,cM h.1 h.2 o->eV ws o<=wt):ShowsP h ws (ss.map zs) wt:=by
 have J:∀ {o:List Nat},zs o∈ss.map zs->∃ x,cM h.1 h.2 x/\o=bL (aO x):=fun {o} m=>by
  obtain⟨s,O,e⟩:=afL.mp m;have:=vf e;subst this;exact (p.mem _).mp O
 refine⟨?_,aew p.up,λl S=>?_,λo m=>?_,λo m k U Y Z=>?_⟩
 .exact afL.mpr ⟨[],(p.mem []).mpr ⟨[],iN _ _,rfl⟩,rfl⟩
 .obtain⟨s,O,rfl⟩:=afL.mp S;obtain⟨x,g,rfl⟩:=(p.mem s).mp O;exact acb (qu _) λi hi=>gh x g i (rooms_mem.mp hi)
 .obtain⟨x,g,rfl⟩:=J m;rw[gx (bj (aG x g))];exact le x g
 .obtain⟨x,g,rfl⟩:=J m;have pr:=bj (aG x g);have gk:cM h.1 h.2 (x++[k]):=cf g (next_iffD.mpr ⟨U,λz=>Y (pr.mem_iff.mpr z),(vc g).mp (sr pr Z)⟩);exact afL.mpr ⟨_,(p.mem _).mpr ⟨x++[k],gk,by rw[iT (pr.append_right [k])]⟩,rfl⟩
def hvG (h:Hs)(ks:List Str)(o:List Nat):List Int:=o.foldl (λu i=>vo u (hJ ks (rmD h.2 i))) (fZ ks h.1)
theorem uT (h:Hs)(ks:List Str)(o:List Nat)(i:Nat):hvG h ks (o++[i])=vo (hvG h ks o) (hJ ks (rmD h.2 i)):=by
 unfold hvG;rw[ajc]
 rfl
theorem xS (h:Hs)(ks:List Str):∀ o,(hvG h ks o).length=ks.length:=by
 refine fV (ki ks h.1) λo i z=>?_;rw[uT,qi,z]
theorem ad7 {h:Hs}{ks:List Str}{p:Nat}(J:p < ks.length):∀ o,(hvG h ks o)[p]? = some (gy h o (kAt ks p)):=by
 refine fV ?_ λo i O=>?_
 .show (fZ ks h.1)[p]? = _;rw[qD J];unfold gy;show _=some (_+(0:Int));rw[al0]
 .rw[uT];unfold hJ;rw[acS _ (xS h ks o) _ (afG _),O];have e:gy h (o++[i]) (kAt ks p)=gy h o (kAt ks p)+vz (rmD h.2 i) (kAt ks p):=by
   unfold gy;rw[afY,ajF];have S:(List.map (λi=>vz (rmD h.2 i) (kAt ks p)) [i]).sum=vz (rmD h.2 i) (kAt ks p):=by simp
   rw[S];lia
  rw[e];by_cases hb:chB ks (rmD h.2 i) p=true
  .rw[if_pos ⟨J,hb⟩]
   rfl
  .rw[if_neg (λz=>hb z.2)];unfold chB at hb;rw[ahL,ahr,ahr,not_or] at hb;unfold vz;rw[agN hb.1,agN hb.2];simp
theorem tI {h:Hs}{ks:List Str}{o:List Nat}{i:Nat}(hi:i < h.2.length)(ok:adh h ks):((bX ks (rmD h.2 i)).all λc=>decide (c.2<=(hvG h ks o).getD c.1 0))=true↔xu h o i:=by
 have S:rmD h.2 i=h.2[i]:=by show (h.2[i]?).getD ([],[])=_;rw[afx hi];rfl
 rw[agt];constructor
 .intro z k O;obtain⟨p,J,rfl⟩:=ze ((ok.mem k).mpr ⟨_,agg hi,by rw[← S];exact O⟩);have:=agz (z (p,_) (afL.mpr ⟨p,agi.mpr ⟨agP.mpr J,afM O⟩,rfl⟩))
  rwa [afJ,ad7 J] at this
 .intro z c U;obtain⟨p,J,rfl⟩:=afL.mp U;obtain⟨h1,h2⟩:=agi.mp J;have J:=agP.mp h1;refine afM ?_;rw[afJ,ad7 J];exact z _ (agz h2)
end K7
namespace L2
open PySem PySem.Spec PyProof.Rows PySem.W
def ae0 (A:Around):R2:=λx y H Q=>(∃ i j:Int,x=.int i/\y=.int j/\Q (.bl (decide (i < j))) H)\/∃ (a b:Addr) (ns ms:List Int),x=.ref a/\y=.ref b/\H a=some (.lst (ns.map V.int))/\H b=some (.lst (ms.map V.int))/\A.units+2 < cLine/\Q (.bl (decide (ns < ms))) H
section
variable {X:Cx}
theorem adl {A₁:Around}(hA:X.A=A₁):OpR X (compareOp .Lt) (ae0 A₁):=by
 subst hA;intro pins s σ H x y v u Q I Y Z h;rcases h with ⟨i,j,rfl,rfl,q⟩ | ⟨a,b,S,ms,rfl,rfl,U,hb,hu,q⟩
 .exact wK pins s σ H _ _ v u Q I Y Z ⟨i,j,rfl,rfl,q⟩
 .cases Y;cases Z;have J:∀ {a:Addr} {S:List Int},H a=some (.lst (S.map V.int))->LL.NumsAt s.heap (.ref a) S:=fun {a S} U=>by
   obtain⟨os,ro,po,_⟩:=I.list (aAA U);have O:=ro.length;rw[afz] at O;refine⟨a,os,rfl,po.isList,O.symm,λj z e=>?_⟩;obtain⟨u,hu,tk,rfl⟩:=ro.get (i:=j) (x:=.int z) (by rw[afF,e];rfl);exact⟨tk,hu⟩
  exact PySem.W.cmp_ofLt (LL.rc_nums (J U) (J hb) (by show X.A.units+1 < _;lia) ⟨.bl _,H,I,rfl,q⟩)
end
theorem aaH {nl:Nat}{ix:List Nat}{g:TG}{tf:TT}{te:TE}{σ:St}{H1:Hp}{D:Addr}{Q:VK}(Pv:Nat->List V->Hp->Prop){K:PySem.W.Frag}{a b:Addr}{xs ys:List V}(U:ys.length<=xs.length)(Y:Pv 0 [] (upd H1 D (.lst [])))(Z:∀ i zs H,Pv i zs H->H D=some (.lst zs))(O:∀ i zs H,Pv i zs H->SqL K H a xs/\SqL K H b ys)
 (hs:∀ i zs H x y T,xs[i]? = some x->ys[i]? = some y->Pv i zs H->H T=none->bQ nl ix g tf te σ D zs (upd H T (.tup [x,y])) (.ref T) λS H'=>Nx ys.length i (Pv (i+1) S H'))(hd:∀ zs H,Pv ys.length zs H->Q (.ref D) H):gi nl ix g tf te σ (ItZ K a b) H1 D Q:=by
 refine nj (n:=ys.length) Pv Y Z (λi zs H hi p=>?_) (λzs H p=>?_) (λi zs H x H' hi p y=>?_) hd
 .obtain⟨z,J⟩:=O i zs H p;exact⟨xs,ys,xs[i]'(by lia),ys[i],z,J,afx _,afx _⟩
 .obtain⟨z,J⟩:=O _ zs H p;exact⟨xs,ys,z,J,.inr (afG _)⟩
 .obtain⟨T,u,v,ex,hT,eH,hu,hv⟩:=y;subst ex eH;obtain⟨z,J⟩:=O i zs H p;exact hs i zs H u v T (hu xs z) (hv ys J) p hT
end L2
namespace K7
open PySem L2 PyProof.Rows
abbrev eQ:Stmt:=(qH (top 23)).getD 2 (.Pass ⟨0,0,0,0⟩)
def zO:Sp:=λvs H Q _=>∃ (a:Addr) (o:List Nat),vs=[.ref a]/\H a=some (.lst (cO o))/\(∀ i∈o,i<=1000)/\∀ H',Same H H'->Q (.int ((aO o:Nat):Int)) H'
def wc (C:Addr):Sp:=λvs H Q _=>∃ (d a:Addr) (h:Hs) (ks:List Str) (o:List Nat),vs=[.ref d,.ref a]/\DoorsAt C H d h ks/\ks.length<=63/\h.2.length<=1000/\H a=some (.lst (cO o))/\(∀ i∈o,i < h.2.length)/\∀ b H',Same H H'->H b=none->H' b=some (.lst ((hvG h ks o).map V.int))->Q (.ref b) H'
def yA:Sp:=λvs H Q _=>∃ (v:V) (h:Hs) (a:Addr) (ws:List Int),vs=[v,.ref a]/\HouseAt H v h/\dz h/\aaX h/\h.2.length<=12/\H a=some (.lst (ws.map V.int))/\ws.length=h.2.length/\(∀ x∈ws,0<=x) ∧
 ∀ (L:Addr) (ys:List V) (ss:List (List Nat)) (H':Hp),Same H H'->H L=none->H' L=some (.lst ys)->ss.length=ys.length->(∀ (j:Nat) y s,ys[j]? = some y->ss[j]? = some s->∃ b:Addr,y=.ref b/\H' b=some (.lst (cO s))/\H b=none/\b≠L)->PaperR h ss->ss.length<=2 ^ h.2.length->Q (.ref L) H'
def yH:Sp:=λvs H Q _=>(∃ (a:Addr) (l:List Int),vs=[.ref a]/\H a=some (.lst (l.map V.int))/\l.length<=1000000/\∀ H',Same H H'->Q (.bl (qC ltZ l)) H')\/∃ (a:Addr) (ys:List V) (ls:List (List Int)),vs=[.ref a]/\H a=some (.lst ys)/\OrdsZ H ys ls/\ls.length<=1000000/\∀ H',Same H H'->Q (.bl (qC adi ls)) H'
theorem pK {α:Type}(lt:α->α->Bool)(d:α)(l:List α):qC lt l=(List.range (l.length - 1)).all λi=>lt (l.getD i d) (l.getD (i+1) d):=by
 unfold qC;have e:l.zip l.tail=(List.range (l.length - 1)).map λi=>(l.getD i d,l.getD (i+1) d):=by
  apply List.ext_getElem
  .rw[List.length_zip,List.length_tail,afz,agK];lia
  .intro i h1 h2;rw[afz,agK] at h2;rw[List.getElem_zip,akx,List.getElem_range,List.getElem_tail,afJ,afJ,afx (show i < l.length by lia),afx (show i+1 < l.length by lia)]
   rfl
 rw[e,ahG]
 rfl
theorem acz (xs:List V):t6 xs (some 1) none=xs.drop 1:=by
 cases xs with
 | nil=>rfl
 | cons x r=>exact aaA (k:=1) (by rw[age];lia)
inductive SoI (a:Addr)(o:List Nat)(H:Hp)(i:Nat)(σ:L2.St)(H':Hp):Prop
 | mk (x2:Option V):σ=[some (.ref a),some (.int ((aO (o.take i):Nat):Int)),x2]->Same H H'->SoI a o H i σ H'
inductive HoI (d a:Addr)(h:Hs)(ks:List Str)(o:List Nat)(H:Hp)(i:Nat)(σ:L2.St)(H':Hp):Prop
 | mk (b:Addr) (x3:Option V):σ=[some (.ref d),some (.ref a),some (.ref b),x3]->H' b=some (.lst ((hvG h ks (o.take i)).map V.int))->H b=none->Same H H'->HoI d a h ks o H i σ H'
section
variable {P:Program}{w:World}{K:PySem.W.Frag}{mg:Str->Option Value}{base:Heap}{f:Addr}{fd:FuncData}
theorem uR {o:List Nat}{i:Nat}{x:V}(e:(cO o)[i]? = some x):∃ n,o[i]? = some n/\x=.int ((n:Nat):Int)/\o.take (i+1)=o.take i++[n]:=by
 rw[afF] at e;obtain⟨n,z,rfl⟩:=agQ.mp e;exact⟨n,z,rfl,by rw[agh,z];rfl⟩
theorem jS:aA ["numbers","opened","number"] ["numbers"] (ai nX):=scM rfl rfl rfl rfl (by decide +kernel)
theorem aaG (F:Fun K "set_of" "set_of" nX f fd){O:Addr}{J:FuncData}(Z:FnOk P w K mg base CX0 1 O J ["opened","number"] qV)(aS:Cal K mg "with_room" ["opened","number"] O J):FnOk P w K mg base CX0 2 f fd ["numbers"] zO:=by
 refine F.ok jS (λvs H Q E h=>?_) (λac A outer s H vs Q E U h=>?_)
 .obtain⟨a,o,rfl,_⟩:=h
  rfl
 .have hu:=du U;obtain⟨a,o,rfl,Y,l,q⟩:=h;refine⟨_,(ah (az (i:=1) jS.nd rfl (.inl rfl) ar)
   (ah (bp (d9 agx rfl (aL (pv 0)) (av (i:=2) jS.nd rfl (.inl rfl))
    (aq (az (i:=1) jS.nd rfl (.inl rfl) (pcl Z aS U rfl (ae (pv 1) (ae (pv 2) ag)))))))
   (aq (aD (pv 1))))),?_⟩
  refine⟨λσ H'=>SoI a o H o.length σ H',?_,?_⟩
  .rintro σ H' ⟨x2,rfl,s'⟩;rw[agm];exact⟨_,rfl,q H' s'⟩
  .refine⟨_,rfl,a,rfl,⟨_,aAA Y⟩,?_⟩;refine gS (xs:=cO o) (λi S H'=>SoI a o H i S H') ⟨none,rfl,Same.refl H⟩ (λi σ H' _ ⟨_,_,s⟩=>aAA (s _ _ Y)) ?_ (λσ H' z=>by rw[afz] at z;exact z);rintro i x σ H1 hx ⟨x2,rfl,s1⟩;obtain⟨n,en,rfl,tk⟩:=uR hx;refine⟨_,rfl,_,rfl,aO (o.take i),n,rfl,l n (afP en),λH2 s2=>?_⟩;rw[← dZ,← tk];exact .mk _ rfl (s1.trans s2)
theorem cW:aA ["self","numbers","hand","number"] ["self","numbers"] (ai eQ):=scM rfl rfl rfl rfl (by decide +kernel)
theorem z6 (F:Fun K "hand_of" "Doors.hand_of" eQ f fd){C:Addr}{fH:Addr}{J:FuncData}(C_Doors:Cls K C)(DC:jR K C)(dJ:ace K C "hand_with" fH)(dQ:FnOk P w K mg base CX0 1 fH J ["self","hand","number"] (zC C))(dN:Binds K J ["self","hand","number"] [])(aJ:mg "list" = none):FnOk P w K mg base CX0 2 f fd ["self","numbers"] (wc C):=by
 refine F.ok cW (λvs H Q E h=>?_) (λau A outer s H vs Q E hr h=>?_)
 .obtain⟨d,a,h,ks,o,rfl,_⟩:=h
  rfl
 .have hu:=du hr;obtain⟨d,a,h,ks,o,rfl,D,aa,l,ha,lt,q⟩:=h;refine⟨_,(ah (az (i:=2) cW.nd rfl (.inl rfl) (aV bO rfl aJ (by decide +kernel) (ae (vg (pv 0) rfl) ag)))
   (ah (bp (d9 agx rfl (aL (pv 1)) (av (i:=3) cW.nd rfl (.inl rfl))
    (aq (az (i:=2) cW.nd rfl (.inl rfl) (mf (pv 0) C_Doors dJ dQ hr dN .nil jd (ae (pv 2) (ae (pv 3) ag)))))))
   (aq (aD (pv 2))))),?_⟩
  have D0:=D;obtain⟨dx,l1,w1,c1,fs,h1,h2,h3,h4,h5,h6,h7,h8,h9,h0⟩:=D;refine⟨_,rfl,d,C,dx,fs,_,rfl,h1,DC.cls,DC.n1,h2,l1,_,rfl,.inl (aAA h7),λO S=>?_⟩;have s0:Same H (upd H O (.lst ((fZ ks h.1).map V.int))):=ak S;have e0:(upd H O (.lst ((fZ ks h.1).map V.int))) O=some (.lst ((hvG h ks (o.take 0)).map V.int)):=af;generalize upd H O (.lst ((fZ ks h.1).map V.int))=H1 at *;refine⟨λσ H'=>HoI d a h ks o H o.length σ H',?_,?_⟩
  .rintro σ H' ⟨b,x3,rfl,Y,nb,s'⟩;rw[agm] at Y;exact⟨_,rfl,q b H' s' nb Y⟩
  .refine⟨_,rfl,a,rfl,⟨_,aAA (s0 _ _ ha)⟩,?_⟩;refine gS (xs:=cO o) (λi ac H'=>HoI d a h ks o H i ac H') ⟨O,none,rfl,e0,S,s0⟩ (λi σ H' _ ⟨_,_,_,_,_,s⟩=>aAA (s _ _ ha)) ?_ (λσ H' z=>by rw[afz] at z;exact z);rintro i x σ H2 hx ⟨b,x3,rfl,Y,nb,Z⟩;obtain⟨n,en,rfl,tk⟩:=uR hx;have hn:=lt n (afP en);have er:h.2[n]? = some (rmD h.2 n):=by
    show _=some ((h.2[n]?).getD ([],[]));rw[afx hn]
    rfl
   refine⟨_,rfl,d,dx,fs,rfl,Z _ _ h1,h5,_,rfl,_,rfl,d,b,n,h,ks,hvG h ks (o.take i),rmD h.2 n,rfl,D0.same Z,er,Y,xS h ks _,l,aa,λb' H3 s3 ad U=>?_⟩;rw[← uT,← tk] at U;exact .mk b' _ rfl U (Z.free ad) (Z.trans s3)
theorem ot:aA ["house","worths"] ["house","worths"] (ai cP):=scM rfl rfl rfl rfl (by decide +kernel)
theorem lL:(["opened"]:List Str).Nodup:=by decide +kernel
theorem abC (F:Fun K "worth_paper" "worth_paper" cP f fd){O:Addr}{J:FuncData}(bZ:FnOk P w K mg base CX0 8 O J ["house","worths"] vZ)(aM:Cal K mg "require_worths" ["house","worths"] O J){Z:Addr}{U:FuncData}(kI:FnOk P w K mg base CX0 3 Z U ["house"] ue)(fq:Cal K mg "steps_of" ["house"] Z U){aa:Addr}{Y:FuncData}(gq:FnOk P w K mg base CX0 2 aa Y ["opened"] ui)(dq:Cal K mg "rooms_of" ["opened"] aa Y)(aZ:mg "sorted" = none):FnOk P w K mg base CX0 9 f fd ["house","worths"] yA:=by
 refine F.ok ot (λvs H Q E h=>?_) (λaR A outer s H vs Q E hr h=>?_)
 .obtain⟨v,h,a,ws,rfl,_⟩:=h
  rfl
 .have hu:=du hr;obtain⟨v,h,a,ws,rfl,hh,ok,aS,an,ha,lw,nn,q⟩:=h;have ay:(A.deeper (envOfC "worth_paper" (ai cP) s.heap.objs.size f aR)).units+4 < cLine:=agc (agu (by decide:4<=64) _) hr.units;refine⟨_,(ah (dg (pcl bZ aM hr rfl (ae (pv 0) (ae (pv 1) ag))))
   (aq (aD (au dE rfl aZ ahW (ae (acw (H₀:=H) rfl (gm (tg:=.Name "opened" _) (outer:=ai (cP)) (N:=["house","worths"]) (N':=["opened"]) (nl:=1) (ix:=[]) rfl rfl rfl (uQ (H₀:=H) rfl (pcl kI fq (hr.mono (by decide:3<=8)) rfl (ae (pv 0) ag)))
    (λ_ _ _ _=>(av (i:=0) lL rfl (.inl rfl) (.inr rfl))) (λ_ _ _ _=>aT)
    (λ_ _ _ _=>(pcl gq dq (hr.mono (by decide:2<=8)) rfl (ae (pv 0) ag))))) ag))))),?_⟩
  refine⟨_,rfl,_,rfl,v,h,a,ws,rfl,hh,ok,an,ha,lw,nn,λH1 s1=>?_⟩;dsimp only [xF,tCB,fb,lV,abY,bu];refine aB _ _ _ _ _ _ _ _ _ ?_;refine⟨_,rfl,v,h,rfl,hh.same s1,ok,aS,an,λS kvs os H2 s2 nS eS dl sa=>?_⟩;have az:=s1.trans s2;have fw:=uu sa;have bp:2 ^ h.2.length<=4096:=afR (ahE (by decide) an) (by decide);have kl:=dl.len;have aA:∀ o∈os,∀ i∈o,i < 60:=λo ho i hi=>by have:=gh o (sa.gone o ho) i hi;lia
  refine⟨S,kvs,rfl,eS,λob nf D nD=>?_⟩;have am:S≠D:=λz=>by subst z;rw[af] at nD;cases nD
  have br:H2 D=none:=by rw[ao (ahf am)] at nD;exact nD
  refine xt (F:=λk=>cO (lP k)) (pb:=λ_=>true) (a:=S) (o:=ob) (kvs:=kvs) af nD (by lia) (λx=>rfl) (λG k R hk sG r=>r G (Same.refl G)) (λG k R hk _ sG r=>?_) λys G sG hG rl=>?_
  .rw[dl.keys] at hk;obtain⟨o,ho,rfl⟩:=afL.mp hk;exact⟨_,rfl,o,rfl,aA o ho,λb H' s' nb eb=>r b H' s' nb eb⟩
  rw[dl.keys,aie.mpr (λ_ _=>rfl)] at rl;refine⟨S,ob,kvs,sG _ _ af,nf,?_⟩;have s3:Same H2 (upd G S (.dK kvs)):=qg eS sG;have aj:RelL (λk=>cO (lP k)) (upd H2 S (.frz ob (.dK kvs))) (upd G S (.dK kvs)) D ys (os.map kB):=⟨rl.len,λj y k a c=>by
   obtain⟨b,e,hb,n⟩:=rl.at_ j y k a c;have nb:b≠S:=λz=>by subst z;rw[sG _ _ af] at hb;cases hb
   exact⟨b,e,by rw[ao nb];exact hb,n⟩⟩
  have eD:(upd G S (.dK kvs)) D=some (.lst ys):=by rw[ao (ahf am)];exact hG
  generalize upd G S (.dK kvs)=H3 at *;have yl:=aj.len;rw[afz] at yl;have ac:∀ y∈ys,∃ (b:Addr) (r:List Nat),y=.ref b/\H3 b=some (.lst (cO r))/\H b=none:=λy hy=>by
   obtain⟨j,hj⟩:=agp hy;obtain⟨b,e,hb,_,nb⟩:=aj.at_ j y _ hj (afx (by have:=(afA.mp hj).1;rw[aj.len] at this;exact this));have aY:b≠S:=λz=>by subst z;rw[af] at nb;cases nb
   rw[ao aY] at nb;exact⟨b,_,e,hb,az.free nb⟩
  refine⟨D,ys,rfl,aAA eD,afR (show ys.length<=4096 by lia) (by decide),ay,λy hy=>?_,λL al nL pm so=>?_⟩
  .obtain⟨b,r,e,hb,_⟩:=ac y hy;exact⟨b,zs r,e,by rw[hb,af3];rfl⟩
  have em:ys.map (jg H3)=os.map λo=>bL (aO o):=by
   rw[yc (g:=lP) aj.len λj y k e1 e2=>by
    obtain⟨b,rfl,hb,_⟩:=aj.at_ j y k e1 e2;exact (eh hb).1,af3]
   rfl
  have a1:(os.map λo=>bL (aO o)).Nodup:=by
   have n1:=sa.nd;rw[agI,aha] at n1 ⊢;refine ahA (fun {a b} ha hb n e=>n ?_) n1;exact ye (aG a (sa.gone a ha)) (aG b (sa.gone b hb)) e
  have as:(al.map (jg H3)).Perm (os.map λo=>bL (aO o)):=em▸pm.map (jg H3);have aI:(al.map (jg H3)).Nodup:=as.nodup_iff.mpr a1;have aJ:=az.trans s3;have aK:∀ b u,H3 b=some u->b≠L:=λb u e z=>by subst z;rw[nL] at e;cases e
  refine q L al (al.map (jg H3)) _ (aJ.trans (ak nL)) (aJ.free nL) af (by rw[afz]) (λj y s e1 e2=>?_) ⟨?_,λs=>?_⟩ (by rw[as.length_eq,afz];exact fw)
  .rw[afF,e1] at e2;cases e2;obtain⟨b,r,rfl,hb,nb⟩:=ac y (pm.mem_iff.mp (afP e1));rw[(eh hb).1];exact⟨b,rfl,by rw[ao (aK _ _ hb)];exact hb,nb,aK _ _ hb⟩
  .rw[aha] at so ⊢;rw[agI,aha] at aI;refine ahA (fun {a b} ha hb z=>?_) (so.and aI);obtain⟨z1,z2⟩:=z;obtain⟨a',ra,rfl,ea,_⟩:=ac a (pm.mem_iff.mp ha);obtain⟨b',rb,rfl,eb,_⟩:=ac b (pm.mem_iff.mp hb);rw[(eh ea).2,(eh eb).2,zs_lt] at z1;rw[(eh ea).1,(eh eb).1] at z2 ⊢;exact ahX λno=>z2 (aiJ (ahU.mp z1) (ahU.mp no))
  .rw[as.mem_iff,afL];constructor
   .rintro⟨o,ho,e⟩;exact⟨o,sa.gone o ho,e.symm⟩
   .rintro⟨o,g,rfl⟩;obtain⟨y,hy,ey⟩:=afL.mp (sa.all _ g);exact⟨y,hy,by rw[ey]⟩
theorem tH:aA ["things"] ["things"] (ai cz):=scM rfl rfl rfl rfl (by decide +kernel)
theorem jj:(["one","other"]:List Str).Nodup:=by decide +kernel
theorem acI (F:Fun K "is_rising" "is_rising" cz f fd)(fz:mg "all" = none)(ad:mg "zip" = none):FnOk P w K mg base CX0 1 f fd ["things"] yH:=by
 refine F.ok tH (λvs H Q E h=>?_) (λJ A outer s H vs Q E hr h=>?_)
 .rcases h with ⟨a,l,rfl,_⟩ | ⟨a,ys,S,rfl,_⟩<;>rfl
 .have hu:=du hr;have U:(A.deeper (envOfC "is_rising" (ai cz) s.heap.objs.size f J)).units+2 < cLine:=agc (agu (by decide:2<=64) _) hr.units;obtain⟨a,xs,lt,rfl,O,xl,ah,q⟩:∃ (a:Addr) (xs:List V) (lt:Nat->Nat->Bool),vs=[.ref a]/\H a=some (.lst xs)/\xs.length<=1000000/\(∀ (G:Hp) (i j:Nat) (x y:V) (C:VK),Same H G->xs[i]? = some x->xs[j]? = some y->C (.bl (lt i j)) G->ae0 (A.deeper (envOfC "is_rising" (ai cz) s.heap.objs.size f J)) x y G C)/\∀ H',Same H H'->Q (.bl ((List.range (xs.length - 1)).all λi=>lt i (i+1))) H':=by
   rcases h with ⟨a,l,rfl,O,ll,q⟩ | ⟨a,ys,S,rfl,O,Y,ll,q⟩
   .refine⟨a,_,λi j=>ltZ (l.getD i 0) (l.getD j 0),rfl,O,by rw[afz];exact ll,λG i j x y C sG ex Z c=>?_,λH' s'=>?_⟩
    .rw[afF] at ex Z;obtain⟨m,em,rfl⟩:=agQ.mp ex;obtain⟨n,en,rfl⟩:=agQ.mp Z;have e1:l.getD i 0=m:=by rw[afJ,em];rfl
     have e2:l.getD j 0=n:=by rw[afJ,en];rfl
     simp only[e1,e2] at c;exact .inl ⟨m,n,rfl,rfl,c⟩
    .rw[afz,← pK ltZ 0 l];exact q H' s'
   .refine⟨a,ys,λi j=>adi (S.getD i []) (S.getD j []),rfl,O,by rw[Y.1];exact ll,λG i j x y C sG ex Z c=>?_,λH' s'=>?_⟩
    .obtain⟨m,b1,em,rfl,h1⟩:=Y.get ex;obtain⟨n,b2,en,rfl,h2⟩:=Y.get Z;have e1:S.getD i []=m:=by rw[afJ,em];rfl
     have e2:S.getD j []=n:=by rw[afJ,en];rfl
     simp only[e1,e2] at c;exact .inr ⟨b1,b2,m,n,rfl,rfl,sG _ _ h1,sG _ _ h2,U,c⟩
    .rw[Y.1,← pK adi [] S];exact q H' s'
  have aG:1000000 < sizeLine:=by decide
  refine⟨_,(aq (aD (au (fh rfl) rfl fz (by decide +kernel) (ae (gm (outer:=ai (cz)) (N:=["things"]) (N':=["one","other"]) (nl:=2) (ix:=[]) rfl rfl rfl (adZ rfl ad (ae (pv 0) (ae (vO aad (pv 0) (zt ar) yK) ag)))
   (λ_ _ _ _=>(iU (K:=K) (n:=2) rfl rfl (aI (av (i:=0) jj rfl (.inl rfl) (.inr rfl)) (aI (av (i:=1) jj rfl (.inl rfl) (.inr rfl)) dB)))) (λ_ _ _ _=>aT)
   (λ_ _ _ _=>(fQ (adl (A₁:=A.deeper (envOfC "is_rising" (ai cz) s.heap.objs.size f J)) rfl) (pv 0) (pv 1) (aP _)))) ag)))),?_⟩
  dsimp only [xF,tCB,fb,lV];refine aB _ _ _ _ _ _ _ _ _ ?_;refine⟨_,rfl,_,rfl,1,rfl,a,xs,rfl,aAA O,λt nt=>?_⟩;have st:Same H (upd H t (.lst (t6 xs (some 1) none))):=ak nt;have et:(upd H t (.lst (t6 xs (some 1) none))) t=some (.lst (xs.drop 1)):=by rw[af,acz]
  generalize upd H t (.lst (t6 xs (some 1) none))=H1 at *;refine⟨a,t,rfl,⟨_,aAA (st _ _ O)⟩,⟨_,aAA et⟩,λD nD=>?_⟩;have dl:(xs.drop 1).length=xs.length - 1:=ahB;refine aaH (xs:=xs) (ys:=xs.drop 1) (λi z H'=>z=(List.range i).map (λj=>V.bl (lt j (j+1)))/\H' D=some (.lst z)/\Same H1 H') (by lia) ⟨rfl,af,ak nD⟩ (λi z H' ⟨_,e,_⟩=>e) (λi z H' ⟨_,_,s⟩=>⟨aAA (s _ _ (st _ _ O)),aAA (s _ _ et)⟩) ?_ ?_
  .rintro i z H2 x y T hx hy ⟨rfl,hD,s2⟩ nT;have hi:=(afA.mp hy).1;have aw:xs[i+1]? = some y:=by rw[ajS,Nat.add_comm] at hy;exact hy
   have sT:Same H2 (upd H2 T (.tup [x,y])):=ak nT;have eT:(upd H2 T (.tup [x,y])) T=some (.tup [x,y]):=af;generalize upd H2 T (.tup [x,y])=H3 at *;refine⟨T,_,rfl,aAB eT,rfl,?_⟩;refine⟨_,_,rfl,_,_,rfl,rfl,⟨rfl,rfl⟩,?_⟩;dsimp only [uI];refine dt ⟨_,rfl,_,rfl,ah H3 i (i+1) x y _ ((st.trans s2).trans sT) hx aw ⟨sT _ _ hD,by rw[afz,agK];lia,nx hi ⟨?_,af,de (s2.trans sT) nD⟩⟩⟩;rw[ahy,afY]
   rfl
  .rintro z H2 ⟨rfl,hD,s2⟩;rw[dl] at hD;refine⟨D,(List.range (xs.length - 1)).map λj=>lt j (j+1),rfl,aAA (by rw[hD,af3];rfl),?_⟩;rw[ahG];exact q H2 (st.trans s2)
end
def aag:Sp:=λvs H Q _=>∃ (a:Addr) (n:Nat) (l:List Int),vs=[.ref a,.int ((n:Nat):Int)]/\H a=some (.lst (l.map V.int))/\l.length<=1000000/\∀ (b:Bool) H',Same H H'->(b=true↔SetZ n l)->Q (.bl b) H'
def sV:Sp:=λvs H Q _=>∃ (a:Addr) (n:Nat) (ys:List V) (ls:List (List Int)),vs=[.ref a,.int ((n:Nat):Int)]/\H a=some (.lst ys)/\OrdsZ H ys ls/\ls.length<=1000000/\(∀ l∈ls,l.length<=1000000)/\∀ (b:Bool) H',Same H H'->(b=true↔(∀ l∈ls,SetZ n l)/\ls.Pairwise (· < ·))->Q (.bl b) H'
def zW (h:Hs)(ps:List (List Nat)):Prop:=∀ o∈ps,∀ k,k < h.2.length->k ∉ o->xu h o k->aO (o++[k])∈ps.map aO
def vw:Sp:=λvs H Q _=>∃ (v:V) (h:Hs) (a:Addr) (ys:List V) (ps:List (List Nat)),vs=[v,.ref a]/\HouseAt H v h/\dz h/\aaX h/\h.2.length<=12/\H a=some (.lst ys)/\OrdsAt H ys ps/\ps.length<=1000000/\(∀ o∈ps,∀ i∈o,i < h.2.length)/\∀ (b:Bool) H',Same H H'->(b=true↔zW h ps)->Q (.bl b) H'
def xP:Sp:=λvs H Q _=>∃ (v:V) (h:Hs) (a:Addr) (ws:List Int) (p:Addr) (ys:List V) (ls:List (List Int)) (wt:Int),vs=[v,.ref a,.ref p,.int wt]/\HouseAt H v h/\dz h/\aaX h/\h.2.length<=12/\H a=some (.lst (ws.map V.int))/\ws.length=h.2.length/\(∀ x∈ws,0<=x)/\H p=some (.lst ys)/\OrdsZ H ys ls/\ls.length<=1000000/\(∀ l∈ls,l.length<=1000000) ∧
 ∀ (b:Bool) H',Same H H'->(b=true↔ShowsP h ws ls wt)->Q (.bl b) H'
def ack (n:Nat)(z:Int):Bool:=decide (0<=z) && decide (z < (n:Int))
theorem aat {n:Nat}{l:List Int}:(l.all (ack n) && qC ltZ l)=true↔SetZ n l:=by
 rw[agf,aeQ,agt];unfold ack SetZ;simp only[agf,af9];exact And.comm
theorem aaR {A:Around}{H:Hp}{x:V}{y:Addr}{q:List Nat}{us:List V}{ss:List (List Nat)}{Q:VK}(O:∃ b:Addr,x=.ref b/\H b=some (.lst (cO q)))(S:H y=some (.lst us))(J:OrdsAt H us ss)(U:A.units+3 < cLine)(k:Q (.bl (!decide (q∈ss))) H):aek A true x (.ref y) H Q:=by
 obtain⟨b,rfl,Y⟩:=O;refine⟨ss.map λl=>.list (gC l),.list (gC q),.lst S (mT J.1 J.2),.lst Y (kh q),pB ss,by simp only[PyData.canLay0,mh],?_,?_⟩
 .have h1:=lB ss;refine agc ?_ U;rw[ai1];exact agu (afR (agu (afR (aiw _ _) h1) 1) (by decide:1+1<=3)) _
 .have e:((ss.map λl=>PyData.list (gC l)).any λz=>z.eqv (.list (gC q)))=decide (q∈ss):=by
   rw[ag3,ajk,aho,af9];constructor
   .rintro⟨l,Z,e⟩;have e:PyData.eqv (.list (gC l)) (.list (gC q))=true:=e;simp only[PyData.eqv] at e;rw[← (lY l q).mp e];exact Z
   .intro hq;refine⟨q,hq,?_⟩;show PyData.eqv (.list (gC q)) (.list (gC q))=true;simp only[PyData.eqv];exact (lY q q).mpr rfl
  rw[e];exact k
theorem xr {o:List Nat}(u:o.Pairwise (· < ·)):bL (aO o)=o:=by
 have nd:o.Nodup:=by
  rw[agI];exact u.imp λx=>by lia
 exact yO (λa=>agB a) (λa b c=>ajR) (qu _) u λx=>rooms_mem
theorem vH {n:Nat}:∀ {ls:List (List Int)},(∀ l∈ls,SetZ n l)->∃ ps:List (List Nat),ls=ps.map zs/\∀ o∈ps,o.Pairwise (· < ·)/\∀ i∈o,i < n
 | [],_=>⟨[],rfl,λo z=>nomatch z⟩
 | l::ls,h=>by
  obtain⟨o,e,_,u,lt⟩:=(h l afX).nat
  obtain⟨ps,J,O⟩:=vH λx m=>h x (af6 _ m);refine⟨o::ps,by rw[e,J];rfl,λx m=>?_⟩;rcases afZ.mp m with z | z
  .rw[z];exact⟨u,lt⟩
  .exact O x z
theorem zs_mem {o:List Nat}{ps:List (List Nat)}:zs o∈ps.map zs↔o∈ps:=by
 rw[afL];exact⟨λ⟨x,m,e⟩=>vf e▸m,λm=>⟨o,m,rfl⟩⟩
theorem zA {h:Hs}{ws:List Int}{ps:List (List Nat)}{wt:Int}(J:∀ o∈ps,o.Pairwise (· < ·)/\∀ i∈o,i < h.2.length)(Z:(ps.map zs).Pairwise (· < ·)):ShowsP h ws (ps.map zs) wt↔[]∈ps/\(∀ o∈ps,eV ws o<=wt)/\zW h ps:=by
 have O:∀ {o:List Nat} {k:Nat},o.Pairwise (· < ·)->k ∉ o->(o++[k]).Nodup:=fun {o k} u z=>by
  rw[aht];refine⟨?_,by simp,λa ha b hb e=>?_⟩
  .rw[agI];exact u.imp λx=>by lia
  .rw[afD.mp hb] at e;exact z (e▸ha)
 constructor
 .intro s;refine⟨zs_mem.mp s.nil,λo m=>s.sum o (zs_mem.mpr m),λo m k S z U=>?_⟩;have:=zs_mem.mp (s.more o (zs_mem.mpr m) k S z U);exact afL.mpr ⟨_,this,iT (bj (O (J o m).1 z))⟩
 .rintro⟨n,le,cl⟩;refine⟨zs_mem.mpr n,Z,λl hl=>?_,λo m=>le o (zs_mem.mp m),λo m k S z U=>?_⟩
  .obtain⟨o,m,rfl⟩:=afL.mp hl;exact acb (J o m).1 (J o m).2
  .obtain⟨o',Y,e⟩:=afL.mp (cl o (zs_mem.mp m) k S z U);rw[← e,xr (J o' Y).1];exact zs_mem.mpr Y
noncomputable def kZ (n:Nat)(l:List Int):Bool:=@decide (SetZ n l) (Classical.propDecidable _)
theorem isSetB_iff {n:Nat}{l:List Int}:kZ n l=true↔SetZ n l:=by
 unfold kZ;exact @af9 _ (Classical.propDecidable _)
theorem vB {a b:Bool}{p:Prop}(x:a=true↔p)(y:b=true↔p):a=b:=ag3.mpr (x.trans y.symm)
section
variable {P:Program}{w:World}{K:PySem.W.Frag}{mg:Str->Option Value}{base:Heap}{f:Addr}{fd:FuncData}
theorem zd:aA ["thing","many"] ["thing","many"] (ai jT):=scM rfl rfl rfl rfl (by decide +kernel)
theorem uY:(["number","many"]:List Str).Nodup:=by decide +kernel
theorem aaI (F:Fun K "is_set" "is_set" jT f fd){U:Addr}{O:FuncData}(gF:FnOk P w K mg base CX0 1 U O ["thing"] qA)(cG:Cal K mg "is_whole" ["thing"] U O){S:Addr}{J:FuncData}(jB:FnOk P w K mg base CX0 1 S J ["things"] yH)(dU:Cal K mg "is_rising" ["things"] S J)(fz:mg "all" = none)(ax:mg "isinstance" = none)(aJ:mg "list" = none):FnOk P w K mg base CX0 2 f fd ["thing","many"] aag:=by
 refine F.ok zd (λvs H Q E h=>?_) (λao A outer s H vs Q E hr h=>?_)
 .obtain⟨a,n,l,rfl,_⟩:=h
  rfl
 .have hu:=du hr;obtain⟨a,n,l,rfl,Y,ll,q⟩:=h;refine⟨_,(ah (cj (gd (cT (au aW rfl ax (by decide +kernel) (ae (pv 0) (ae (dO (v:=.ty "list") (u:=.type "list") rfl aJ (by decide +kernel) rfl) ag)))))
   (aq (aD fM)) aF)
   (aq (aD (gb (au (fh rfl) rfl fz (by decide +kernel) (ae (gm (tg:=.Name "number" _) (outer:=ai (jT)) (N:=["thing","many"]) (N':=["number","many"]) (nl:=1) (ix:=[1]) rfl rfl rfl (aL (pv 0))
    (λ_ _ _ _=>(av (i:=0) uY rfl (.inl rfl) (.inr rfl))) (λ_ _ _ _=>aT)
    (λ_ _ _ _=>(gb (pcl gF cG hr rfl (ae (pv 0) ag)) (jk (vA yX wK ar (pv 0) (pv 1)))))) ag)) (jk (pcl jB dU hr rfl (ae (pv 0) ag))))))),?_⟩
  refine⟨_,rfl,_,_,_,true,rfl,.lst Y,cV K _,true,rfl,cu ?_⟩;dsimp only [kF,xF,ac7,tCB,fb,lV];refine aB _ _ _ _ _ _ _ _ _ ?_;refine⟨_,rfl,a,rfl,⟨_,aAA Y⟩,λD nD=>?_⟩;refine dD (F:=λx=>match x with | .int z=>.bl (ack n z) | v=>v) Y nD (by rw[afz];exact ll) (λx=>rfl) (λG x R hx Z r=>?_) (λG Z hD=>?_)
  .obtain⟨z,hz,rfl⟩:=afL.mp hx;refine⟨_,rfl,z,rfl,λH' s'=>⟨true,rfl,dt ⟨_,rfl,_,_,rfl,rfl,_,rfl,?_⟩⟩⟩;have r:R (V.bl (decide (0<=z) && decide (z < (n:Int)))) H':=r H' s';cases e:decide (0<=z) with
   | true =>
    rw[e,ahw] at r;exact dt ⟨_,rfl,_,_,rfl,rfl,r⟩
   | false =>
    rw[e,ajW] at r;exact cu r
  .refine⟨D,l.map (ack n),rfl,aAA (by rw[hD,af3,af3];rfl),?_⟩;rw[ahG];have e:l.all (id ∘ ack n)=l.all (ack n):=rfl;rw[e];refine⟨_,rfl,?_⟩;have iff:=aat (n:=n) (l:=l);cases e2:l.all (ack n) with
   | true =>
    rw[e2,ahw] at iff;exact dt ⟨_,rfl,.inl ⟨a,l,rfl,Z _ _ Y,ll,λH' s'=>q _ H' (Z.trans s') iff⟩⟩
   | false =>
    rw[e2,ajW] at iff;exact cu (q _ G Z iff)
theorem uy:aA ["thing","many"] ["thing","many"] (ai gX):=scM rfl rfl rfl rfl (by decide +kernel)
theorem qE:(["inner","many"]:List Str).Nodup:=by decide +kernel
theorem wQ (F:Fun K "are_sets" "are_sets" gX f fd){U:Addr}{S:FuncData}(af:FnOk P w K mg base CX0 2 U S ["thing","many"] aag)(qK:Cal K mg "is_set" ["thing","many"] U S){O:Addr}{J:FuncData}(jB:FnOk P w K mg base CX0 1 O J ["things"] yH)(dU:Cal K mg "is_rising" ["things"] O J)(fz:mg "all" = none)(ax:mg "isinstance" = none)(aJ:mg "list" = none):FnOk P w K mg base CX0 3 f fd ["thing","many"] sV:=by
 refine F.ok uy (λvs H Q E h=>?_) (λaz A outer s H vs Q E hr h=>?_)
 .obtain⟨a,n,ys,Y,rfl,_⟩:=h
  rfl
 .have hu:=du hr;obtain⟨a,n,ys,Y,rfl,ha,oz,ll,l1,q⟩:=h;refine⟨_,(aq (aD (gb (au aW rfl ax (by decide +kernel) (ae (pv 0) (ae (dO (v:=.ty "list") (u:=.type "list") rfl aJ (by decide +kernel) rfl) ag))) (gb (au (fh rfl) rfl fz (by decide +kernel) (ae (gm (tg:=.Name "inner" _) (outer:=ai (gX)) (N:=["thing","many"]) (N':=["inner","many"]) (nl:=1) (ix:=[1]) rfl rfl rfl (aL (pv 0))
   (λ_ _ _ _=>(av (i:=0) qE rfl (.inl rfl) (.inr rfl))) (λ_ _ _ _=>aT)
   (λ_ _ _ _=>(pcl af qK hr rfl (ae (pv 0) (ae (pv 1) ag))))) ag)) (jk (pcl jB dU (hr.mono (by decide:1<=2)) rfl (ae (pv 0) ag))))))),?_⟩
  refine⟨_,rfl,_,_,_,true,rfl,.lst ha,cV K _,true,rfl,dt ?_⟩;dsimp only [ac7,tCB,fb,lV];refine aB _ _ _ _ _ _ _ _ _ ?_;refine⟨_,rfl,a,rfl,⟨_,aAA ha⟩,λD nD=>?_⟩;refine dD (F:=λx=>.bl (kZ n (L2.numsOf H x))) ha nD (by rw[oz.1];exact ll) (λx=>rfl) (λG x R hx Z r=>?_) (λG Z hD=>?_)
  .obtain⟨j,hj⟩:=agp hx;obtain⟨l,b,el,rfl,hb⟩:=oz.get hj;rw[L2.numsOf_at hb] at r;refine⟨_,rfl,_,rfl,b,n,l,rfl,Z _ _ hb,l1 l (afP el),λc H' s' ic=>?_⟩;rw[vB ic isSetB_iff];exact r H' s'
  .have em:ys.map (λx=>V.bl (kZ n (L2.numsOf H x)))=(Y.map (kZ n)).map V.bl:=by
    rw[af3];apply ahu;intro j;rw[afF,afF];cases e:ys[j]? with
    | none=>rw[agZ (by have:=aiF.mp e;rw[← oz.1];exact this)];rfl
    | some y =>
     obtain⟨l,b,el,rfl,hb⟩:=oz.get e;rw[el];show some (V.bl (kZ n (L2.numsOf H (.ref b))))=_;rw[L2.numsOf_at hb]
     rfl
   rw[em] at hD;refine⟨D,_,rfl,aAA hD,_,rfl,?_⟩;have i1:(Y.map (kZ n)).all id=true↔∀ l∈Y,SetZ n l:=by
    rw[ahG,agt];exact⟨λz l hl=>isSetB_iff.mp (z l hl),λz l hl=>isSetB_iff.mpr (z l hl)⟩
   cases e2:(Y.map (kZ n)).all id with
   | true =>
    have i2:=i1.mp e2;exact dt ⟨_,rfl,.inr ⟨a,ys,Y,rfl,Z _ _ ha,oz.same Z,ll,λH' s'=>q _ H' (Z.trans s') (riseZs.trans ⟨λz=>⟨i2,z⟩,(·.2)⟩)⟩⟩
   | false =>
    refine cu (q _ G Z ⟨λz=>(by cases z),λz=>?_⟩);have:=i1.mpr z.1;rw[e2] at this;cases this
theorem oJ:aA ["house","worths","paper","worth"] ["house","worths","paper","worth"] (ai cS):=scM rfl rfl rfl rfl (by decide +kernel)
theorem lE:(["numbers","worth","worths"]:List Str).Nodup:=by decide +kernel
theorem abd (F:Fun K "worth_shows" "worth_shows" cS f fd){O:Addr}{J:FuncData}(bZ:FnOk P w K mg base CX0 8 O J ["house","worths"] vZ)(aM:Cal K mg "require_worths" ["house","worths"] O J){ac:Addr}{U:FuncData}(gF:FnOk P w K mg base CX0 1 ac U ["thing"] qA)(cG:Cal K mg "is_whole" ["thing"] ac U){ad:Addr}{Y:FuncData}(wJ:FnOk P w K mg base CX0 3 ad Y ["thing","many"] sV)(ko:Cal K mg "are_sets" ["thing","many"] ad Y){aj:Addr}{Z:FuncData}(kJ:FnOk P w K mg base CX0 1 aj Z ["worths","numbers"] nY)(ft:Cal K mg "worth_of" ["worths","numbers"] aj Z){aa:Addr}{S:FuncData}(uC:FnOk P w K mg base CX0 4 aa S ["house","paper"] vw)(jn:Cal K mg "is_closed" ["house","paper"] aa S)(wA:mg "any" = none)(cg:mg "len" = none):FnOk P w K mg base CX0 9 f fd ["house","worths","paper","worth"] xP:=by
 refine F.ok oJ (λvs H Q E h=>?_) (λaN A outer s H vs Q E hr h=>?_)
 .obtain⟨v,h,a,ws,p,ys,ls,wt,rfl,_⟩:=h
  rfl
 .have hu:=du hr;have aw:∀ {n:Nat},n<=12->(A.deeper (envOfC "worth_shows" (ai cS) s.heap.objs.size f aN)).units+(n+1) < cLine:=fun {n} h=>agc (agu (afR (aif h) (by decide:13<=64)) _) hr.units;obtain⟨v,h,a,ws,p,ys,ls,wt,rfl,hh,ok,aR,ax,ha,lw,nn,hp,oz,ll,l1,q⟩:=h;refine⟨_,(ah (dg (pcl bZ aM hr rfl (ae (pv 0) (ae (pv 1) ag))))
   (ah (cj (PW.pt (mM (gd (cT (pcl gF cG (hr.mono (by decide:1<=8)) rfl (ae (pv 3) ag)))) (mM (gd (cT (pcl wJ ko (hr.mono (by decide:3<=8)) rfl (ae (pv 2) (ae (au aQ rfl cg agH (ae (bR il (pv 0) ar (λ_ _=>rfl)) ag)) ag))))) (j0 (aE mL oo (pv 2) rfl)))))
    (aq (aD fM)) aF)
   (ah (cj (cT (au (u0 rfl) rfl wA (by decide +kernel) (ae (gm (tg:=.Name "numbers" _) (outer:=ai (cS)) (N:=["house","worths","paper","worth"]) (N':=["numbers","worth","worths"]) (nl:=1) (ix:=[3,1]) rfl rfl rfl (aL (pv 2))
    (λ_ _ _ _=>(av (i:=0) lE rfl (.inl rfl) (.inr rfl))) (λ_ _ _ _=>aT)
    (λ_ _ _ _=>(fQ wY (pcl kJ ft (hr.mono (by decide:1<=8)) rfl (ae (pv 2) (ae (pv 0) ag))) (pv 1) (aP _)))) ag)))
    (aq (aD fM)) aF)
   (aq (aD (pcl uC jn (hr.mono (by decide:4<=8)) rfl (ae (pv 0) (ae (pv 2) ag)))))))),?_⟩
  refine⟨_,rfl,_,rfl,v,h,a,ws,rfl,hh,ok,ax,ha,lw,nn,λH1 s1=>?_⟩;refine⟨_,rfl,wt,rfl,λH2 s2=>⟨true,rfl,cu ?_⟩⟩;have ao:=s1.trans s2;obtain⟨tt,a1,rr,us,ev,aU,_,aV,aW⟩:=id (hh.same ao);refine⟨_,rfl,_,rfl,tt,_,1,.ref rr,ev,rfl,aAB aU,rfl,rr,us,rfl,.inl (aAA aV),p,h.2.length,ys,ls,by rw[aW.1];rfl,ao _ _ hp,oz.same ao,ll,l1,λb1 H3 s3 i1=>⟨b1,rfl,?_⟩⟩;have az:=ao.trans s3;cases b1 with
  | false =>
   refine dt (q false H3 az ⟨λz=>(by cases z),λz=>?_⟩);have:=i1.mpr ⟨z.set,z.up⟩;cases this
  | true =>
   obtain⟨aA,up⟩:=i1.mp rfl;refine cu ?_;refine⟨af5 _,λe0 n0=>?_⟩;obtain⟨ps,rfl,al⟩:=vH aA;have shows:=zA (ws:=ws) (wt:=wt) al up;have oa:=oz.nat
   have pl:ps.length<=1000000:=by rw[afz] at ll;exact ll
   have st:Same H3 (upd H3 e0 (.lst [])):=ak n0;have am:=az.trans st;refine⟨_,rfl,aaR (q:=[]) ⟨e0,rfl,af⟩ (am _ _ hp) (oa.same am) (aw (by decide:2<=12)) ⟨_,rfl,?_⟩⟩;generalize upd H3 e0 (.lst [])=H4 at *;by_cases hn:[]∈ps
   .rw[afM hn];refine cu ?_;dsimp only [kF,tK,aen,tB,tCB,fb,lV];refine aB _ _ _ _ _ _ _ _ _ ?_;refine⟨_,rfl,p,rfl,⟨_,aAA (am _ _ hp)⟩,λD nD=>?_⟩;refine dD (F:=λx=>.bl (decide (wt < eV ws (jg H x)))) (am _ _ hp) nD (by rw[oa.1];exact pl) (λx=>rfl) (λG x R hx sG r=>?_) (λG sG hD=>?_)
    .obtain⟨j,hj⟩:=agp hx;obtain⟨o,b,eo,rfl,hb⟩:=oa.get hj;have hm:=afP eo;rw[(eh hb).1] at r;refine⟨_,rfl,_,rfl,a,b,ws,o,rfl,sG _ _ (am _ _ ha),sG _ _ (am _ _ hb),λi hi=>by rw[lw];exact (al o hm).2 i hi,?_,λH' s'=>⟨_,rfl,_,_,rfl,rfl,r H' s'⟩⟩;have nd:o.Nodup:=by
      rw[agI];exact (al o hm).1.imp λx=>by lia
     have:=fe nd (al o hm).2;lia
    .have em:ys.map (λx=>V.bl (decide (wt < eV ws (jg H x))))=(ps.map λo=>decide (wt < eV ws o)).map V.bl:=by
      rw[af3];exact yc oa.1 λj y o e1 e2=>by
       obtain⟨b,rfl,hb⟩:=oa.2 j y o e1 e2;show V.bl (decide (wt < eV ws (jg H (.ref b))))=V.bl (decide (wt < eV ws o));rw[(eh hb).1]
     rw[em] at hD;refine⟨D,_,rfl,aAA hD,_,rfl,?_⟩;have an:=am.trans sG;have ia:((ps.map λo=>decide (wt < eV ws o)).any id)=false↔∀ o∈ps,eV ws o<=wt:=by
      rw[ajk,List.any_eq_false];constructor
      .intro z o m;have:=z o m;simp at this;exact this
      .intro z o m;have:=z o m;simp;exact this
     cases e2:(ps.map λo=>decide (wt < eV ws o)).any id with
     | true =>
      refine dt (q false G an ⟨λz=>(by cases z),λz=>?_⟩);have:=ia.mpr (shows.mp z).2.1;rw[e2] at this;cases this
     | false =>
      have le:=ia.mp e2;refine cu ⟨_,rfl,_,rfl,v,h,p,ys,ps,rfl,hh.same an,ok,aR,ax,an _ _ hp,oa.same an,pl,λo m=>(al o m).2,λb H' s' ib=>q b H' (an.trans s') (ib.trans ⟨λc=>shows.mpr ⟨hn,le,c⟩,λz=>(shows.mp z).2.2⟩)⟩
   .rw[afS hn];refine dt (q false H4 am ⟨λz=>(by cases z),λz=>?_⟩);exact absurd (shows.mp z).1 hn
end
end K7
namespace L2
open PySem PySem.Spec PyProof.Rows PySem.W
structure TxAtZ (prog:Program)(w:World)(h:Heap)(a:Addr)(es:Array (Int×Value))(ep:Nat)(t:SetTable):Prop where
 get:h.get? a=some { cls:=.type "set",dict:=none,data:=.set es ep t,slots:=#[] }
 el:ElemsOf (PySem.intKind prog w) es.toList
 bd:es.size < scanBound
 fit:t.fits es.size=true
 led:t.led=!w.params.followText "set-order"
 up:UpP t.place
def oB (es:Array (Int×Value)):List Int:=es.toList.map λe=>numOf e.2
def TxSetZ (prog:Program)(w:World)(h:Heap)(a:Addr)(ss:List Int):Prop:=∃ es ep t,TxAtZ prog w h a es ep t/\oB es=ss/\ss.Nodup
section
variable {prog:Program}{w:World}{h h':Heap}{a:Addr}{es:Array (Int×Value)}{ep:Nat}{t:SetTable}{ss:List Int}
theorem TxAtZ.at' (x:TxAtZ prog w h a es ep t)(k:∀ o,h.get? a=some o->h'.get? a=some o):TxAtZ prog w h' a es ep t:=⟨k _ x.get,x.el,x.bd,x.fit,x.led,x.up⟩
theorem TxSetZ.at' (x:TxSetZ prog w h a ss)(k:∀ o,h.get? a=some o->h'.get? a=some o):TxSetZ prog w h' a ss:=let ⟨es,ep,t,y,r⟩:=x;⟨es,ep,t,y.at' k,r⟩
theorem uU {l:List (Int×Value)}(h:ElemsOf (PySem.intKind prog w) l){e:Int×Value}(O:e∈l):∃ tk,e=(hashInt (numOf e.2),.int (numOf e.2) tk):=by
 obtain⟨⟨k,S,z⟩,_⟩:=h e O;obtain⟨tk,J⟩:=aj4 S;obtain⟨U,v⟩:=e;simp only at J z;subst J;exact⟨tk,by rw[z];rfl⟩
theorem qG {k:Int}{v:Value}{x:Int}{tk:Tok}(e:v=.int x tk):(PySem.intKind prog w).is k v=true↔k=x:=by
 subst e;constructor
 .intro h;have h':Value.isInt k (.int x tk)=true:=h;obtain⟨u,e⟩:=aj4 h';injection e with e
  exact e.symm
 .intro h;subst h;show Value.isInt k (.int k tk)=true;simp[Value.isInt]
theorem acZ {l:List (Int×Value)}(h:ElemsOf (PySem.intKind prog w) l)(k:Int):k∈l.map (λe=>numOf e.2)↔∃ e∈l,(PySem.intKind prog w).is k e.2=true:=by
 rw[afL];constructor
 .rintro⟨e,z,rfl⟩;obtain⟨tk,J⟩:=uU h z;exact⟨e,z,(qG (by rw[J];rfl)).mpr rfl⟩
 .rintro⟨e,z,O⟩;obtain⟨tk,J⟩:=uU h z;exact⟨e,z,((qG (x:=numOf e.2) (tk:=tk) (by rw[J];rfl)).mp O).symm⟩
section
variable {A:Around}{E:Value->Shared->Prop}{s:Shared}
theorem iM {g:Bool->Sem Unit}(hg:∀ (b:Bool) (s₁:Shared) (Q':Unit->Shared->Prop),Q' () s₁->wpAny (model prog w) A (g b) Q' E s₁)
 (ho:s.heap.get? a=some { cls:=.type "set",dict:=none,data:=.set es ep t,slots:=#[] })
 {z:Array (Int×Value)}{O:SetTable}(Y:ElemsOf (PySem.intKind prog w) z.toList)
 (aa:z.size < scanBound)(aj:O.fits z.size=true)(ag:O.led=!w.params.followText "set-order")(ak:UpP O.place){S:Bool}{R:Option Bool->Shared->Prop}
 (h:∀ h' J al t',Heap.SameBut a s.heap h'->TxAtZ prog w h' a J al t'->J.toList.Perm z.toList->R (some true) { s with heap:=h' }) :
 wpAny (model prog w) A (do
  storeSet a z O
  if (!S && O.tooFull)=true then do
   g (relayAll O z (SetTable.grown z.size)).2.2
   storeSet a (relayAll O z (SetTable.grown z.size)).1 (relayAll O z (SetTable.grown z.size)).2.1
   pure (some true)
   else pure (some true)) R E s:=by
 refine afy (ai8 ho rfl ?_ (ah1 aa));have up:∀ {h0:Heap} {es0:Array (Int×Value)} {ep0:Nat} {t0:SetTable} (J:Array (Int×Value)) (t':SetTable),h0.get? a=some { cls:=.type "set",dict:=none,data:=.set es0 ep0 t0,slots:=#[] }->(h0.update a (Obj.putSet J t')).get? a=some { cls:=.type "set",dict:=none,data:=.set J (ep0+1) t',slots:=#[] }:=λJ t' q=>by
  have:=ahg (Obj.putSet J t') q (by rw[putSet_of J t' rfl];rfl);rw[putSet_of J t' rfl] at this;exact this
 have ac:=up z O ho;have Z:=ahs s.heap a (Obj.putSet z O);split
 .have hp:=relayAll_perm O z (SetTable.grown z.size);have ad:=relayAll_fits O z (SetTable.grown z.size);have ae:=lC O z (SetTable.grown z.size);have af:=aaC (t:=O) (es:=z) (n:=SetTable.grown z.size);generalize hRl:relayAll O z (SetTable.grown z.size)=Rl at hp ad ae af ⊢;obtain⟨U,t3,am⟩:=Rl;dsimp only at hp ad ae af ⊢;have an:U.size=z.size:=by rw[← afO,hp.length_eq,afO]
  have ai:U.size < scanBound:=by rw[an];exact aa
  refine afy (hg _ _ _ ?_);refine afy (ai8 ac rfl ?_ (ah1 ai));exact afE (h _ U _ t3 (Z.trans (ahs _ a _)) ⟨up U t3 ac,Y.perm hp,ai,ad,ae.trans ag,af⟩ hp)
 .exact afE (h _ z _ O Z ⟨ac,Y,aa,aj,ag,ak⟩ .rfl)
theorem lZ {x:Int}{tk:Tok}{Q:Bool->Shared->Prop}(hS:TxSetZ prog w s.heap a ss)(ai:ss.length+1 < scanBound)
 (h:∀ h' aj,Heap.SameBut a s.heap h'->TxSetZ prog w h' a aj->((x∈ss/\aj=ss)\/(x ∉ ss/\aj.Perm (ss++[x])))->Q (!decide (x∈ss)) { s with heap:=h' }) :
 wpAny (model prog w) A (setAddHashed a (.int x tk) (hashInt x)) Q E s:=by
 obtain⟨es,ep,t,T,e,nd⟩:=hS;subst e;have ac:(PySem.intKind prog w).is x (.int x tk)=true:=(qG rfl).mpr rfl;have ak:(Value.int x tk).scannable=true:=rfl;have as:es.size+1 < scanBound:=by simpa [oB] using ai
 have ad:=acZ T.el x;unfold setAddHashed setAddHashedIn;refine agF (afy (ahI T.get rfl T.fit ?_));dsimp only;rw[byScan_of ak T.bd T.el];simp only[↓reduceIte];unfold setAddByScan;refine afy ?_;refine afy (ag9 ?_);refine afy (wpAny_setScan_of (knd:=PySem.intKind prog w) ac T.get rfl T.fit T.el ?_);cases hr:List.findIdx? (λe=>(PySem.intKind prog w).is x e.2) es.toList with
 | some j =>
  dsimp only;obtain⟨hj,au,_⟩:=aiX.mp hr;have hx:x∈oB es:=ad.mpr ⟨es.toList[j],agg hj,au⟩;refine afE (afE ?_);have q:=h s.heap (oB es) (akd a s.heap) ⟨es,ep,t,T,rfl,nd⟩ (.inl ⟨hx,rfl⟩);rw[afM hx] at q;exact q
 | none =>
  dsimp only;have hx:x ∉ oB es:=λhk=>by
   obtain⟨e,he,hp⟩:=ad.mp hk;have:=ajX.mp hr e he;rw[hp] at this;exact Bool.noConfusion this
  have av:∀ (b:Bool) {S:Shared} {Q':Unit->Shared->Prop},Q' () S->wpAny (model prog w) A (match b with | true=>rule "set.scan.the-table-gave-way" | false=>pure ()) Q' E S :=
   λb S Q' hq=>by cases b<;>first | exact afE hq | exact ag9 hq
  have z:=layNew_perm t es (hashInt x) (.int x tk);have O:=layNew_fits t es (hashInt x) (.int x tk);have Y:=pA t es (hashInt x) (.int x tk);have Z:UpP (layNew t es (hashInt x) (.int x tk)).2.1.place:=yz T.up;generalize hL:layNew t es ((PySem.intKind prog w).hash x) (.int x tk)=L;have aw:layNew t es (hashInt x) (.int x tk)=L:=hL;rw[aw] at z O Y Z ⊢;obtain⟨al,t1,ao,ax⟩:=L;dsimp only at z O Y Z ⊢;rw[aiz] at z;have af:ElemsOf (PySem.intKind prog w) al.toList:=(T.el.push ac ak).perm z;have ag:al.size < scanBound:=by rw[← afO,z.length_eq,afH,afO];simpa using as
  refine afy (av _ ?_);have ah:∀ h' J U t',Heap.SameBut a s.heap h'->TxAtZ prog w h' a J U t'->J.toList.Perm al.toList->Q true { s with heap:=h' }:=by
   intro h' J U t' aa T' p';have p2:(oB J).Perm (oB es++[x]):=by
    have:=(p'.trans z).map (λe=>numOf e.2);simpa [oB,numOf] using this
   have q:=h h' (oB J) aa ⟨J,U,t',T',rfl,iR nd hx p2⟩ (.inr ⟨hx,p2⟩);rw[afS hx] at q;exact q
  split
  .refine afy ?_;rw[hashByValue_scannable 8 ak];refine afE ?_;refine iM ?_ T.get af ag ?_ ?_ ?_ ?_
   .intro b S Q' hq;cases b<;>first | exact afE hq | exact ag9 hq
   .exact SetTable.fits_plain_off O
   .exact Y.trans T.led
   .first | exact Z | (split<;>exact Z)
   .intro h' J U t' aa T' p';dsimp only;exact afE (ah h' J U t' aa T' p')
  .rename_i hpl;refine afy (afE ?_);simp only[↓reduceIte];refine iM ?_ T.get af ag O (Y.trans T.led) Z ?_
   .intro b S Q' hq;cases b<;>first | exact afE hq | exact ag9 hq
   .intro h' J U t' aa T' p';dsimp only;exact afE (ah h' J U t' aa T' p')
end
end
theorem TxAtZ.sb {prog:Program}{w:World}{h:Heap}{a:Addr}{es:Array (Int×Value)}{ep:Nat}{t:SetTable}(x:TxAtZ prog w h a es ep t):SbAt w h a es ep t:=⟨x.get,x.bd,x.fit,x.led,λ_=>x.up⟩
section
variable {prog:Program}{w:World}{A:Around}{E:Value->Shared->Prop}{s:Shared}{a I T:Addr}{es:Array (Int×Value)}{ep:Nat}{t:SetTable}{ps:List Nat}{i:Nat}
theorem aaQ {l:List (Int×Value)}(h:ElemsOf (PySem.intKind prog w) l):IntsAre (l.map (·.2)) (l.map λe=>numOf e.2):=by
 have:=intsAre_map (l.map (·.2)) λv z=>by
  obtain⟨e,J,rfl⟩:=afL.mp z;obtain⟨tk,O⟩:=uU h J;exact⟨numOf e.2,tk,by rw[O];rfl⟩
 rw[af3] at this;exact this
theorem tZ {Q:Value->Shared->Prop}{ss:List Int}(hh:A.handled=none)(x:TxSetZ prog w s.heap a ss)(ae:ss.length < 64)
 (h:∀ (h':Heap) (d:Drawn) (tk:Nat) (l:Addr) (vs:List Value) (J:List Int) (e:Nat),(∀ b o,s.heap.get? b=some o->h'.get? b=some o)->s.heap.objs.size<=l->h'.get? l=some (seqObj "list" vs.toArray e)->IntsAre vs J->J.Perm ss->J.Pairwise (·<=·)->Q (.ref l) { s with heap:=h',drawn:=d,toks:=tk }) :
 wpAny (model prog w) A (call (.builtin "sorted") [.ref a]) Q E s:=by
 obtain⟨es,ep,t,T,e,nd⟩:=x;subst e;refine ahV kind_sorted plain_sorted entry_sorted (args_sorted1 _) ?_;unfold Builtin.«sorted»;refine afy (m:=checkCount "sorted" 1 1 _) (afE ?_);refine afy (kO (prog:=prog) (A:=A.in1) hh T.sb λh1 d tk z k1 U hp=>?_);have Y:=aaQ T.el;have hS:IntsAre z (z.map numOf):=intsAre_map z λv hv=>Y.all v (hp.mem_iff.mp hv);have S:(z.map numOf).Perm (oB es):=by
  have:=hp.map numOf;rw[af3] at this;exact this
 have hl:z.length < 64:=by
  have:=S.length_eq;rw[afz] at this;lia
 refine afy (ai0 ?_ (ahc (afW hl (by decide))));show wpAny _ _ _ _ _ { s with heap:=h1.push (seqObj "list" z.toArray 0),drawn:=d,toks:=tk };have O:(h1.push (seqObj "list" z.toArray 0)).get? h1.objs.size=some (seqObj "list" z.toArray 0):=afK _ rfl;refine afy (agF (ahn ajZ ⟨_,O,rfl⟩ ajC (list_sort_tree O hS hl λout J b1 b2 b3=>⟨_,rfl,?_⟩) (aj0 _)));obtain⟨e,he⟩:=sortedHeap_at (vs:=z) (out:=out) O;refine afE ⟨_,rfl,h _ d tk h1.objs.size out.toList J e (λb o q=>?_) U (by rw[ajr];exact he) b1 (b2.trans S) b3⟩;have Z:=k1 _ _ q;rw[sortedHeap_old (afU (afI Z)) (by rw[size_push'];exact agr (afI Z))];exact afB _ Z
end
def rC (ts ss:List Int):Prop:=ts.Nodup/\∀ x,x∈ts↔x∈ss
section
variable {prog:Program}{w:World}{A:Around}{R:Result->Shared->Prop}{I:Addr}{fp wr:List Addr}{G:Array GenState->Array GenState->Prop}{n:Nat}{P:Nat->Value->Prop}{St:Nat->Shared->Prop}
theorem TxSetZ.nd {h:Heap}{a:Addr}{ss:List Int}(x:TxSetZ prog w h a ss):ss.Nodup:=let ⟨_,_,_,_,_,n⟩:=x;n
theorem lH (W:WalksS prog w A.in1 I fp wr G n P St)(S:Addr)(ae:S ∉ fp)(val:Nat->Int)(af:∀ i v,P i v->∃ t,v=.int (val i) t)(hb:n+1 < scanBound) :
 ∀ (k i:Nat) (s:Shared) (U:List Int),n - i=k->i<=n->St i s->TxSetZ prog w s.heap S U->U.length<=i->(∀ x,x∈U↔∃ j,j < i/\val j=x) →
  (∀ s' J,Moved (S::wr) G s s'->TxSetZ prog w s'.heap S J->(∀ x,x∈J↔∃ j,j < n/\val j=x)->R (.ok (.ret .none)) s') →
  codeAny (model prog w) A (.builtin "set.update.loop" ⟨[.ref S,.ref I],[]⟩) R s:=by
 have ag:S ∉ wr:=λh=>ae (W.sub _ h);have Y:∀ b∈wr,b∈S::wr:=λb hb=>af6 _ hb;intro k
 induction k with
 | zero =>
  intro i s U hk hi Z hS hl hm hR;have aq:i=n:=by lia
  subst aq;refine ahN F.entry_set_update_loop ?_;rw[ahi ai3 _];show wpAny _ A.in1 (pyNext (.ref I) >>= _) _ _ s;refine afy (W.done s _ _ Z λs' O=>?_);show wpAny _ A.in1 (ret Value.none) _ _ s';exact afE (hR s' U (O.mono Y) (hS.at' λo e=>O.heap S _ ag e) hm)
 | succ k ih =>
  intro i s U hk hi Z hS hl hm hR;have ai:i < n:=by lia
  refine ahN F.entry_set_update_loop ?_;rw[ahi ai3 _];show wpAny _ A.in1 (pyNext (.ref I) >>= _) _ _ s;refine afy (W.item i s _ _ ai Z λv s' hP aj O=>?_);obtain⟨t,rfl⟩:=af i v hP;have ar:TxSetZ prog w s'.heap S U:=hS.at' λo e=>O.heap S _ ag e;show wpAny _ A.in1 (holding [Value.int (val i) t] (setAdd S (.int (val i) t)) >>= _) _ _ s';refine afy (agF ?_);unfold setAdd;refine agF ?_;refine afy ((PySem.intKind prog w).pyHash (k:=val i) ((qG rfl).mpr rfl) ?_);refine lZ (s:={ s' with toks:=s'.toks+1 }) ar (by lia) λh' J ak as aa=>?_;have au:J.length<=i+1:=by
   rcases aa with ⟨_,e⟩ | ⟨_,p⟩
   .rw[e];lia
   .rw[p.length_eq,afH];simp;lia
  have av:∀ x,x∈J↔∃ j,j < i+1/\val j=x:=λx=>by
   constructor
   .intro hx;have:x∈U\/x=val i:=by
     rcases aa with ⟨_,e⟩ | ⟨_,p⟩
     .rw[e] at hx;exact .inl hx
     .rcases afV.mp (p.mem_iff.mp hx) with z | z
      .exact .inl z
      .exact .inr (afD.mp z)
    rcases this with z | z
    .obtain⟨j,hj,e⟩:=(hm x).mp z;exact⟨j,by lia,e⟩
    .exact⟨i,by lia,z.symm⟩
   .rintro⟨j,hj,rfl⟩;rcases aa with ⟨q,e⟩ | ⟨_,p⟩
    .rw[e];by_cases ac:j=i
     .subst ac;exact q
     .exact (hm _).mpr ⟨j,by lia,rfl⟩
    .refine p.mem_iff.mpr (afV.mpr ?_);by_cases ac:j=i
     .subst ac;exact .inr (afD.mpr rfl)
     .exact .inl ((hm _).mpr ⟨j,by lia,rfl⟩)
  refine afE ⟨aiA ai3 _,ih (i+1) _ J (by lia) ai (W.frame _ s' _ _ aj (agV _) λb hb o e=>?_) as au av λax al am an q=>?_⟩
  .rw[ak.2 b (λh:b=S=>ae (by rw[← h];exact hb))];exact e
  .refine hR ax al (Moved.trans W.gtrans ((O.mono Y).then_heap (agV _) λb o hb e=>?_) am) an q;rw[ak.2 b (λh:b=S=>hb (by rw[h];exact afX))];exact e
end
section
variable {prog:Program}{w:World}{A:Around}{E:Value->Shared->Prop}{s:Shared}
theorem zD (prog:Program)(w:World)(h:Heap):TxSetZ prog w (h.push { cls:=.type "set",dict:=none,data:=.set #[] 0 (.fresh 0 0 (!w.params.followText "set-order")) }) h.objs.size [] :=
 ⟨#[],0,_,⟨afK _ rfl,λe z=>by simp at z,by decide,rfl,rfl,λi j a b=>absurd b (ahM _)⟩,rfl,aj1⟩
theorem oR {l:Addr}{z:Array Value}{ss:List Int}{Q:Value->Shared->Prop}
 (hh:A.handled=none)(hl:s.heap.IsList l z)(hi:IntsAre z.toList ss)(hb:z.size+1 < scanBound)
 (h:∀ (h':Heap) (tk:Nat) (S:List Int),TxSetZ prog w h' s.heap.objs.size S->rC S ss →
  (∀ b o,b < s.heap.objs.size->s.heap.get? b=some o->h'.get? b=some o)->Q (.ref s.heap.objs.size) { s with heap:=h',toks:=tk }) :
 wpAny (model prog w) A (call (.type "set") [.ref l]) Q E s:=by
 obtain⟨c,tl,aF⟩:=aiy.mro;have as:=aiy.made;have aG:=aiy.sub;refine wpAny_call (ajD ?_);show wpAny _ _ (callAny (.type "set") _) _ _ _;refine afE ⟨Code.quiet_builtin _ (by decide +kernel),ahN F.entry_type_call ?_⟩;rw[Around.under_plain (weight_type_call_type "set" [.ref l] []) rfl];have h1:=aiy.notType;have h2:=aiy.canCreate;have aN:=F.typeCall_set_1 (.ref l)
 repeat (any_goals (first | assumption | wp_step))
 refine air (m5 (.ref l) (E:=E) (Q₁:=λaf Z=>af=.ref s.heap.objs.size/\Z={ s with heap:=s.heap.push { cls:=.type "set",dict:=none,data:=.set #[] 0 (.fresh 0 0 (!w.params.followText "set-order")) } }) ⟨rfl,rfl⟩) λr Z hr=>?_;cases r with
 | error e=>exact hr
 | ok fl =>
  cases fl with
  | ret af =>
   obtain⟨rfl,rfl⟩:=hr;generalize hled:(!w.params.followText "set-order")=J at *;have hS0:TxSetZ prog w (s.heap.push { cls:=.type "set",dict:=none,data:=.set #[] 0 (.fresh 0 0 J) }) s.heap.objs.size []:=by rw[← hled];exact zD prog w s.heap
   have hS:(s.heap.push { cls:=.type "set",dict:=none,data:=.set #[] 0 (.fresh 0 0 J) }).get? s.heap.objs.size=some { cls:=.type "set",dict:=none,data:=.set #[] 0 (.fresh 0 0 J) }:=afK _ rfl;have hT:Shared.TypeIs { s with heap:=s.heap.push { cls:=.type "set",dict:=none,data:=.set #[] 0 (.fresh 0 0 J) } } (.ref s.heap.objs.size) "set" := ⟨_,hS,rfl⟩;have aR:=aiy.init.lookup;have aS:=aiy.init.bind (.ref s.heap.objs.size)
   repeat (any_goals (first | assumption | wp_step))
   refine air (codeAny_call_builtin (R:=wants (λr aa=>r=.none/\∃ h' tk S,aa={ s with heap:=h',toks:=tk }/\TxSetZ prog w h' s.heap.objs.size S/\rC S ss ∧
    (∀ b o,b < s.heap.objs.size->s.heap.get? b=some o->h'.get? b=some o)) E) aiy.init.plain F.entry_set_init (check_set_init_1 hT ?_)) λag aa O=>?_
   .obtain⟨ol,ah,ai,nl,aj⟩:=hl;obtain⟨aH,ad,av,U⟩:=ol;simp only at ai aj;subst ai;subst aj;have ak:(s.heap.push { cls:=.type "set",dict:=none,data:=.set #[] 0 (.fresh 0 0 J) }).get? l=some { cls:=.type "list",dict:=ad,data:=.seq z nl,slots:=U }:=afB _ ah;have aI:=F.sub_list_set;have aJ:=F.sub_list_frozenset;have aU:(Value.type "list" == Value.type "dict")=false:=by decide
    have al:(s.heap.push { cls:=.type "set",dict:=none,data:=.set #[] 0 (.fresh 0 0 J) }).IsList l z:=⟨_,ak,rfl,nl,rfl⟩;unfold Builtin.«set.__init__» noKeywords Builtin.Frozenset.updateFrom;generalize hPI:pyIter=PI
    wp_walk
    subst hPI;refine ahZ al ?_;refine afy (wpAny_runValue ?_);have am:l < s.heap.objs.size:=afI ah;have aw:A.in1.in1.in1.handled=none:=by simp[hh]
    have an:l≠(s.heap.push { cls:=.type "set",dict:=none,data:=.set #[] 0 (.fresh 0 0 J) }).objs.size:=by
     rw[agw];exact afU (agr am)
    have ax:s.heap.objs.size ∉ [(s.heap.push { cls:=.type "set",dict:=none,data:=.set #[] 0 (.fresh 0 0 J) }).objs.size,l]:=by
     rw[agw];simp only[afZ,afD,agA,aju,not_or];exact⟨afU (ahk _),ah6 am⟩
    have ay:z.toList.length=ss.length:=by
     have:=agS List.length hi.nums
     rwa [afz] at this
    have ao:∀ (i:Nat) (v:Value),z[i]? = some v->∃ t,v=.int ((λi=>ss.getD i 0) i) t:=λi v hv=>by
     have ap:z.toList[i]? = some v:=by rw[agG];exact hv
     obtain⟨x,t,e⟩:=hi.all v (afP ap);refine⟨t,?_⟩;have e2:ss[i]? = some (numOf v):=by rw[← hi.nums,afF,ap];rfl
     rw[e];simp only[afJ,e2,e]
     rfl
    refine lH ((akY aw _ l an z).toS) s.heap.objs.size
     ax (λi=>ss.getD i 0) ao hb (z.size - 0) 0 _ [] (by lia) (af5 _)
     ⟨⟨_,afK _ rfl,rfl,rfl⟩,(al.push _)⟩ ?hS0 (afG _) (λx=>?hM) ?hR
    case hS0=>exact hS0.at' λo e=>afB _ e
    case hM=>exact⟨(λh=>nomatch h),λ⟨j,hj,_⟩=>absurd hj (ahM j)⟩
    case hR =>
     intro s' S hm Y hq;obtain⟨h',g',d',az,aA⟩:=s';have eg:g'=s.gens:=hm.gens;have ed:d'=s.drawn:=hm.drawn;have eo:aA=s.os:=hm.os;subst eg;subst ed;subst eo;show wpAny _ _ _ _ _ _;refine afE ?_;show wpAny _ _ (ret Value.none) _ _ _;refine afE ⟨rfl,h',az,S,rfl,Y,⟨Y.nd,λx=>(hq x).trans ?_⟩,λb o hb e=>?_⟩
     .have hz:z.size=ss.length:=by rw[← ay,afO]
      constructor
      .rintro⟨j,hj,e⟩;rw[hz] at hj;rw[← e,afJ,afx hj];exact agg hj
      .intro hx;obtain⟨j,hj,e⟩:=aiE.mp hx;refine⟨j,by rw[hz];exact hj,?_⟩;rw[afJ,afx hj];exact e
     .have aB:b≠s.heap.objs.size:=afU hb;have aC:b≠(s.heap.push { cls:=.type "set",dict:=none,data:=.set #[] 0 (.fresh 0 0 J) }).objs.size:=by
       rw[agw];exact afU (agr hb)
      exact hm.heap b o (by simp only[afZ,afD,agA,aju,not_or];exact⟨aB,aC⟩) (afB _ (afB _ e))
   .cases ag with
    | error e=>exact O
    | ok ae =>
     cases ae with
     | ret r =>
      obtain⟨rfl,h',tk,S,rfl,Y,aD,aE⟩:=O
      repeat (any_goals (first | assumption | wp_step))
      exact h _ _ S Y aD aE
     | _=>exact O.elim
  | _=>exact hr.elim
end
def p7 (P:Program)(w:World)(a:Addr)(ss:List Int):HO:=.ext λh=>TxSetZ P w h a ss
theorem acj {P:Program}{w:World}{H:Hp}{h:Heap}{a:Addr}{ss:List Int}(x:TxSetZ P w h a ss):ObjOk P w H h a (p7 P w a ss) :=
 ⟨x,(let ⟨_,_,_,T,_⟩:=x;⟨_,T.get⟩),λ_ _ y k=>y.at' k⟩
theorem acy {P:Program}{w:World}{H:Hp}{h:Heap}{a:Addr}{ss:List Int}(ok:HOk P w H h)(e:H a=some (p7 P w a ss)):TxSetZ P w h a ss:=(ok a _ e).1
section
variable {X:Cx}
theorem lJ (U:X.calm=true):eG X (.builtin "sorted") (λxs H Q=>∃ (a:Addr) (ss:List Int),xs=[.ref a]/\H a=some (p7 X.prog X.w a ss)/\ss.length < 64/\∀ (l:Addr) (z:List Int),H l=none->z.Perm ss->z.Pairwise (·<=·)->Q (.ref l) (upd H l (.lst (z.map V.int)))):=by
 intro pins s σ H xs us Q I r h;obtain⟨a,ss,rfl,e,J,q⟩:=h;obtain⟨u,rfl,Y⟩:=gz r;cases Y;refine tZ (I.ok.hd U) (acy I.hok e) J λh' d tk l vs z ep k O Z hS S hs=>?_;refine⟨.ref l,_,((I.laid (t':=tk) (o:=.lst (z.map V.int)) k O ⟨?_,vs,ep,jI hS,Z⟩).drawn' d),rfl,q l z (I.hok.fresh O) S hs⟩;rw[afz,S.length_eq];exact ahc (afW J (by decide))
theorem rX (S:X.calm=true):eG X (.type "set") (λxs H Q=>∃ (p:Addr) (ss:List Int),xs=[.ref p]/\SqL X.K H p (ss.map V.int)/\ss.length+1 < scanBound/\∀ (a:Addr) (J:List Int),H a=none->rC J ss->Q (.ref a) (upd H a (p7 X.prog X.w a J))):=by
 intro pins s σ H xs us Q I r h;obtain⟨p,ss,rfl,U,Y,q⟩:=h;obtain⟨u,rfl,Z⟩:=gz r;cases Z;obtain⟨its,O,pl,hz⟩:=I.list U;have z:=O.length;rw[afz] at z;refine oR (I.ok.hd S) pl.isList (by simpa using oV O) (by simpa [← z] using Y) λh' tk J hS hi k=>?_;exact⟨.ref s.heap.objs.size,_,I.laid (t':=tk) (o:=p7 X.prog X.w s.heap.objs.size J) (λb o e=>k b o (afI e) e) (afG _) (acj hS),rfl,q _ J I.fresh hi⟩
end
section
variable {P:Program}{w:World}{K:PySem.W.Frag}{X:Cx}
theorem ql (J:X.prog=P)(hw:X.w=w)(O:X.K=K)(S:X.calm=true):eG X (.type "set") (λxs H Q=>∃ (p:Addr) (ss:List Int),xs=[.ref p]/\SqL K H p (ss.map V.int)/\ss.length+1 < scanBound/\∀ (a:Addr) (z:List Int),H a=none->rC z ss->Q (.ref a) (upd H a (p7 P w a z))):=by
 subst J hw O;exact rX S
theorem kL (J:X.prog=P)(hw:X.w=w)(O:X.calm=true):eG X (.builtin "sorted") (λxs H Q=>∃ (a:Addr) (ss:List Int),xs=[.ref a]/\H a=some (p7 P w a ss)/\ss.length < 64/\∀ (l:Addr) (z:List Int),H l=none->z.Perm ss->z.Pairwise (·<=·)->Q (.ref l) (upd H l (.lst (z.map V.int)))):=by
 subst J hw;exact lJ O
end
end L2
namespace K7
open PySem L2 PyProof.Rows
abbrev dv (ns:List Int):List PyData:=ns.map PyData.int
theorem ie:∀ z:List Int,PyData.canLayAll0 (dv z)=true
 | []=>rfl
 | n::z=>by rw[dv,af0];simp only[PyData.canLayAll0,PyData.canLay0,ahw];exact ie z
theorem ju:∀ z:List Int,PyData.depthAll (dv z)=0
 | []=>rfl
 | n::z=>by
  rw[dv,af0];have:=ju z;unfold dv at this;simp only[PyData.depthAll,PyData.depth,this]
  rfl
theorem iO:∀ a b:List Int,PyData.eqvAll (dv a) (dv b)=true↔a=b
 | [],[]=>by simp[PyData.eqvAll]
 | [],y::b=>by simp[PyData.eqvAll]
 | x::a,[]=>by simp[PyData.eqvAll]
 | x::a,y::b=>by
  have:=iO a b;unfold dv at this ⊢;simp only[af0,PyData.eqvAll,PyData.eqv,agf,this,akW,aga]
theorem gu {H:Hp}:∀ z:List Int,SeesAll H (z.map V.int) (dv z)
 | []=>.nil
 | n::z=>.cons (.int _) (gu z)
theorem tJ (z:List Int):(PyData.list (dv z)).depth<=1:=by simp only[PyData.depth,ju];decide
theorem rW {A:Around}{neg:Bool}{H:Hp}{x y:Addr}{a b:List Int}{Q:VK}(z:H x=some (.lst (a.map V.int)))(J:H y=some (.lst (b.map V.int)))(O:A.units+1 < cLine)(q:Q (.bl (if neg then !decide (a=b) else decide (a=b))) H):adj A neg (.ref x) (.ref y) H Q:=by
 refine⟨.list (dv a),.list (dv b),.lst z (gu a),.lst J (gu b),by simp only[PyData.canLay0,ie],by simp only[PyData.canLay0,ie],agc (agu (afR (aiw _ _) (tJ a)) _) O,?_⟩;have e:PyData.eqv (.list (dv a)) (.list (dv b))=decide (a=b):=by
  simp only[PyData.eqv];rw[ag3,af9];exact iO a b
 rw[e];exact q
theorem iq {H:Hp}{vs:List V}{z:List (List Int)}(o:OrdsZ H vs z):SeesAll H vs (z.map λl=>.list (dv l)):=by
 obtain⟨e,h⟩:=o
 revert e h
 induction vs generalizing z with
 | nil=>intro e h;cases z with
  | nil=>exact .nil
  | cons l z=>cases e
 | cons v vs J=>intro e h;cases z with
  | nil=>cases e
  | cons l z =>
   obtain⟨a,rfl,O⟩:=h 0 v l rfl rfl;exact .cons (.lst O (gu l)) (J (by simpa using e) λi S U p q=>h (i+1) S U p q)
theorem gQ:∀ ls:List (List Int),PyData.canLayAll0 (ls.map λl=>.list (dv l))=true
 | []=>rfl
 | l::ls=>by rw[af0];simp only[PyData.canLayAll0,PyData.canLay0,ie,ahw];exact gQ ls
theorem gH:∀ ls:List (List Int),PyData.depthAll (ls.map λl=>.list (dv l))<=1
 | []=>by simp only[ajh,PyData.depthAll];decide
 | l::ls=>by
  have:=gH ls;rw[af0];simp only[PyData.depthAll,PyData.depth,ju];lia
theorem nZ:∀ ls us:List (List Int),PyData.eqvAll (ls.map λl=>.list (dv l)) (us.map λl=>.list (dv l))=true↔ls=us
 | [],[]=>by simp[PyData.eqvAll]
 | [],y::b=>by simp[PyData.eqvAll]
 | x::a,[]=>by simp[PyData.eqvAll]
 | x::a,y::b=>by
  have:=nZ a b;simp only[af0,PyData.eqvAll,PyData.eqv,agf,this,akW,iO]
theorem kg {A:Around}{neg:Bool}{H:Hp}{x y:Addr}{vs us:List V}{z ms:List (List Int)}{Q:VK}(J:H x=some (.lst vs))(O:H y=some (.lst us))(a:OrdsZ H vs z)(b:OrdsZ H us ms)(S:A.units+2 < cLine)(q:Q (.bl (if neg then !decide (z=ms) else decide (z=ms))) H):adj A neg (.ref x) (.ref y) H Q:=by
 have d:(PyData.list (z.map λl=>.list (dv l))).depth<=2:=by have:=gH z;simp only[PyData.depth];lia
 refine⟨_,_,.lst J (iq a),.lst O (iq b),by simp only[PyData.canLay0,gQ],by simp only[PyData.canLay0,gQ],agc (agu (afR (aiw _ _) d) _) S,?_⟩;have e:PyData.eqv (.list (z.map λl=>.list (dv l))) (.list (ms.map λl=>.list (dv l)))=decide (z=ms):=by
  simp only[PyData.eqv];rw[ag3,af9];exact nZ z ms
 rw[e];exact q
theorem mW {A:Around}{neg:Bool}{H:Hp}{x y:Addr}{q:List Int}{us:List V}{J:List (List Int)}{Q:VK}(O:H x=some (.lst (q.map V.int)))(S:H y=some (.lst us))(U:OrdsZ H us J)(Y:A.units+3 < cLine)(k:Q (.bl (if neg then !decide (q∈J) else decide (q∈J))) H):aek A neg (.ref x) (.ref y) H Q:=by
 refine⟨J.map λl=>.list (dv l),.list (dv q),.lst S (iq U),.lst O (gu q),gQ J,by simp only[PyData.canLay0,ie],?_,?_⟩
 .have h1:=gH J;refine agc ?_ Y;rw[ai1];exact agu (afR (agu (afR (aiw _ _) h1) 1) (by decide:1+1<=3)) _
 .have e:((J.map λl=>PyData.list (dv l)).any λz=>z.eqv (.list (dv q)))=decide (q∈J):=by
   rw[ag3,ajk,aho,af9];constructor
   .rintro⟨l,Z,e⟩;have e:PyData.eqv (.list (dv l)) (.list (dv q))=true:=e;simp only[PyData.eqv] at e;rw[← (iO l q).mp e];exact Z
   .intro hq;refine⟨q,hq,?_⟩;show PyData.eqv (.list (dv q)) (.list (dv q))=true;simp only[PyData.eqv];exact (iO q q).mpr rfl
  rw[e];exact k
theorem acW {α:Type}[LT α](z:∀ a b:α,¬ a < b->¬ b < a->a=b){l J:List α}(a:l.Pairwise λa b=>¬ b < a)(b:J.Pairwise λa b=>¬ b < a)(p:l.Perm J):l=J :=
 p.eq_of_pairwise (λx y _ _ h1 h2=>(z y x h1 h2).symm) a b
theorem abU (a b:List Int)(h:¬ a < b)(h':¬ b < a):a=b:=by
 exact aiJ (ahU.mp h') (ahU.mp h)
theorem up_iff {l:List (List Int)}:l.Pairwise (· < ·)↔(l.Pairwise λa b=>¬ b < a)/\l.Nodup:=by
 constructor
 .intro u;exact⟨u.imp λx y=>absurd (akq x y) (ajf _),u.imp λx e=>by rw[e] at x;exact absurd x (ajf _)⟩
 .rintro⟨u,n⟩;exact u.imp₂ (λa b x y=>Decidable.byContradiction λz=>y (abU a b z x)) n
theorem adv {l z J:List Int}(O:rC J l)(p:z.Perm J)(u:z.Pairwise (·<=·)):l=z↔l.Pairwise (· < ·):=by
 have nd:z.Nodup:=p.nodup_iff.mpr O.1;have S:z.Pairwise (· < ·):=u.imp₂ (λa b x y=>by lia) nd;constructor
 .intro e;rw[e];exact S
 .intro U;exact yO (λa=>Int.lt_irrefl a) (λa b c=>Int.lt_trans) U S λx=>((O.2 x).symm.trans p.mem_iff.symm)
def zV:Sp:=λvs H Q _=>∃ (v:V) (h:Hs) (b:Addr) (o:List Nat) (k:Str),vs=[v,.ref b,.str k]/\HouseAt H v h/\H b=some (.lst (cO o))/\(∀ i∈o,i < h.2.length)/\o.length<=1000000/\∀ H',Same H H'->Q (.int (gy h o k)) H'
def vG:Sp:=λvs H Q _=>∃ (v:V) (h:Hs) (a:Addr) (ws:List Int) (p:Addr) (ys:List V) (ls:List (List Int)) (wt:Int),vs=[v,.ref a,.ref p,.int wt]/\HouseAt H v h/\dz h/\h.2.length<=12/\H a=some (.lst (ws.map V.int))/\ws.length=h.2.length/\H p=some (.lst ys)/\OrdsZ H ys ls/\ls.length<=1000000/\(∀ l∈ls,l.length<=60) ∧
 ∀ (b:Bool) H',Same H H'->(b=true↔ShowsP h ws ls wt)->Q (.bl b) H'
theorem zZ (h:Hs)(k:Str):gy h [] k=((h.1.count k:Nat):Int):=by
 unfold gy;show _+(0:Int)=_;rw[al0]
theorem w8 (h:Hs)(o:List Nat)(i:Nat)(k:Str):gy h (o++[i]) k=gy h o k+(((rmD h.2 i).2.count k:Nat):Int) - (((rmD h.2 i).1.count k:Nat):Int):=by
 unfold gy;rw[afY,ajF];have z:(List.map (λi=>vz (rmD h.2 i) k) [i]).sum=vz (rmD h.2 i) k:=by simp
 have J:vz (rmD h.2 i) k=(((rmD h.2 i).2.count k:Nat):Int) - (((rmD h.2 i).1.count k:Nat):Int):=rfl;rw[z,J];lia
theorem zN {rs:List Rm}{i:Nat}(hi:i < rs.length):rs[i]=rmD rs i:=by
 show _=(rs[i]?).getD ([],[]);rw[afx hi]
 rfl
inductive LhI (v:V)(b:Addr)(k:Str)(h:Hs)(o:List Nat)(H:Hp)(i:Nat)(σ:L2.St)(H':Hp):Prop
 | mk (x4 x5 x6:Option V):σ=[some v,some (.ref b),some (.str k),some (.int (gy h (o.take i) k)),x4,x5,x6]->Same H H'->LhI v b k h o H i σ H'
theorem OrdsZ.nums {H:Hp}{ys:List V}{z:List (List Int)}(a:OrdsZ H ys z):ys.map (L2.numsOf H)=z:=by
 apply ahu;intro j;rw[afF];cases e:ys[j]? with
 | none=>rw[agZ (by have:=aiF.mp e;rw[← a.1];exact this)];rfl
 | some y =>
  obtain⟨l,b,J,rfl,O⟩:=a.get e;rw[J];show some (L2.numsOf H (.ref b))=_;rw[L2.numsOf_at O]
theorem OrdsZ.all {H:Hp}{ys:List V}{z:List (List Int)}(a:OrdsZ H ys z):∀ v∈ys,∃ (b:Addr) (J:List Int),v=.ref b/\H b=some (.lst (J.map V.int)):=λv O=>by
 obtain⟨j,S⟩:=agp O;obtain⟨l,b,Y,rfl,U⟩:=a.get S;exact⟨b,l,rfl,U⟩
theorem OrdsZ.of {H:Hp}{ys:List V}(a:∀ v∈ys,∃ (b:Addr) (J:List Int),v=.ref b/\H b=some (.lst (J.map V.int))):OrdsZ H ys (ys.map (L2.numsOf H)):=⟨by rw[afz],λj y l O z=>by
 obtain⟨b,J,rfl,S⟩:=a y (afP O);rw[afF,O] at z;injection z with z
 rw[L2.numsOf_at S] at z;exact⟨b,rfl,by rw[← z];exact S⟩⟩
theorem OrdsZ.take {H:Hp}{ys:List V}{O:List (List Int)}(a:OrdsZ H ys O)(n:Nat):OrdsZ H (ys.take n) (O.take n):=⟨by rw[af7,af7,a.1],λj y l z J=>by
 rw[ahT] at z J;split at z
 .rename_i h;rw[if_pos h] at J;exact a.2 j y l z J
 .cases z⟩
structure RowZ (h:Hs)(ws:List Int)(ls:List (List Int))(wt:Int)(i:Nat)(l:List Int):Prop where
 once:l ∉ ls.take i
 set:SetZ h.2.length l
 sum:∀ o:List Nat,zs o=l->eV ws o<=wt
 more:∀ o:List Nat,zs o=l->∀ k,k < h.2.length->k ∉ o->xu h o k->zs (bL (aO (o++[k])))∈ls
theorem xb {α:Type}:∀ {l:List α},(∀ j x,l[j]? = some x->x ∉ l.take j)->l.Nodup:=fun {l} h=>by
 rw[agI,ag5];intro i j hi z J e;refine h j l[j] (afx z) ?_;rw[← e];exact afP (i:=i) (by rw[ahT,if_pos J,afx hi])
theorem RowZ.shows {h:Hs}{ws:List Int}{z:List (List Int)}{wt:Int}(n:[]∈z)(u:z.Pairwise λa b=>¬ b < a)(r:∀ j l,j < z.length->z[j]? = some l->RowZ h ws z wt j l):ShowsP h ws z wt:=by
 have at_:∀ {l},l∈z->∃ j,j < z.length/\z[j]? = some l:=fun {l} m=>by
  obtain⟨j,e⟩:=agp m;exact⟨j,(afA.mp e).1,e⟩
 refine⟨n,up_iff.mpr ⟨u,xb λj x e=>(r j x (afA.mp e).1 e).once⟩,λl m=>?_,λo m=>?_,λo m=>?_⟩
 .obtain⟨j,J,e⟩:=at_ m;exact (r j l J e).set
 .obtain⟨j,J,e⟩:=at_ m;exact (r j _ J e).sum o rfl
 .obtain⟨j,J,e⟩:=at_ m;exact (r j _ J e).more o rfl
theorem ShowsP.once {h:Hs}{ws:List Int}{J:List (List Int)}{wt:Int}(s:ShowsP h ws J wt){j:Nat}{l:List Int}(e:J[j]? = some l):l ∉ J.take j:=λm=>by
 have nd:=(up_iff.mp s.up).2;obtain⟨i,z⟩:=agp m;rw[ahT] at z;split at z
 .rename_i hij;have:=(ajb (afA.mp z).1 nd).mp (z.trans e.symm);lia
 .cases z
def t8 (h:Hs)(o:List Nat)(r:Rm)(k:Str):Bool:=decide (gy h o k < ((r.1.count k:Nat):Int))
theorem abn {h:Hs}{o:List Nat}{i:Nat}:((rmD h.2 i).1.filter (t8 h o (rmD h.2 i))).isEmpty=true↔xu h o i:=by
 rw[List.isEmpty_iff,ai6];unfold t8 xu;simp only[af9,Int.not_lt]
inductive LsI (v:V)(a p:Addr)(wt:Int)(h:Hs)(ws:List Int)(ls:List (List Int))(H:Hp)(i:Nat)(σ:L2.St)(H':Hp):Prop
 | mk (x4 x5 x6 x7 x8 x9 x10 x11:Option V):σ=[some v,some (.ref a),some (.ref p),some (.int wt),x4,x5,x6,x7,x8,x9,x10,x11]->Same H H'->(∀ j l,j < i->ls[j]? = some l->RowZ h ws ls wt j l)->LsI v a p wt h ws ls H i σ H'
inductive LkI (v:V)(a p:Addr)(wt:Int)(x4:Option V)(b:Addr)(x6:Option V)(h:Hs)(ls:List (List Int))(o:List Nat)(H:Hp)(i:Nat)(σ:L2.St)(H':Hp):Prop
 | mk (x7 x8 x9 x10 x11:Option V):σ=[some v,some (.ref a),some (.ref p),some (.int wt),x4,some (.ref b),x6,x7,x8,x9,x10,x11]->Same H H'->(∀ k,k < i->k ∉ o->xu h o k->zs (bL (aO (o++[k])))∈ls)->LkI v a p wt x4 b x6 h ls o H i σ H'
inductive LmI (v:V)(a p:Addr)(wt:Int)(x4:Option V)(b:Addr)(x6 x7:Option V)(la D:Addr)(h:Hs)(o:List Nat)(r:Rm)(H:Hp)(i:Nat)(σ:L2.St)(H':Hp):Prop
 | mk (x10 x11:Option V):σ=[some v,some (.ref a),some (.ref p),some (.int wt),x4,some (.ref b),x6,x7,some (.ref la),some (.ref D),x10,x11]->H' D=some (.lst (((r.1.take i).filter (t8 h o r)).map V.str))->H D=none->Same H H'->LmI v a p wt x4 b x6 x7 la D h o r H i σ H'
section
variable {P:Program}{w:World}{K:PySem.W.Frag}{mg:Str->Option Value}{base:Heap}{f:Addr}{fd:FuncData}
theorem dr:aA ["house","rooms","kind","found","k","locks","within"] ["house","rooms","kind"] (ai iG):=scM rfl rfl rfl rfl (by decide +kernel)
theorem aaY (F:Fun K "_law_hand" "_law_hand" iG f fd):FnOk P w K mg base CX0 1 f fd ["house","rooms","kind"] zV:=by
 refine F.ok dr (λvs H Q E h=>?_) (λap A outer s H vs Q E hr h=>?_)
 .obtain⟨v,h,b,o,k,rfl,_⟩:=h
  rfl
 .have hu:=du hr;obtain⟨v,h,b,o,k,rfl,hh,hb,lt,ol,q⟩:=h;refine⟨_,(ah (az (i:=3) dr.nd rfl (.inl rfl) (jN agb ag1 ag2 gc (bR il (pv 0) ar (λ_ _=>rfl)) (ae (pv 2) ag)))
   (ah (bp (d9 agx rfl (aL (pv 1)) (av (i:=4) dr.nd rfl (.inl rfl))
    (ah (lj (bR bq (bR il (pv 0) ar (λ_ _=>rfl)) (pv 4) (λ_ _=>rfl)) (mR rfl (aI (av (i:=5) dr.nd rfl (.inl rfl)) (aI (av (i:=6) dr.nd rfl (.inl rfl)) dB))))
    (aq (az (i:=3) dr.nd rfl (.inl rfl) (bN u9 (bN gA (pv 3) (jN agb ag1 ag2 gc (pv 6) (ae (pv 2) ag))) (jN agb ag1 ag2 gc (pv 5) (ae (pv 2) ag))))))))
   (aq (aD (pv 3))))),?_⟩
  obtain⟨U,a1,rr,us,rfl,O,S,Y,Z⟩:=id hh;refine⟨_,rfl,U,_,0,.ref a1,rfl,rfl,aAB O,rfl,.inl ⟨rfl,_,aAA S⟩,_,rfl,a1,h.1,k,rfl,rfl,S,?_⟩;refine⟨λσ H'=>LhI (.ref U) b k h o H o.length σ H',?_,?_⟩
  .rintro σ H' ⟨x4,x5,x6,rfl,s'⟩;rw[agm];exact⟨_,rfl,q H' s'⟩
  .refine⟨_,rfl,b,rfl,⟨_,aAA hb⟩,?_⟩;refine gS (xs:=cO o) (λi ac H'=>LhI (.ref U) b k h o H i ac H') (.mk none none none (by rw[ail,zZ];rfl) (Same.refl H)) (λi σ H' _ ⟨_,_,_,_,s⟩=>aAA (s _ _ hb)) ?_ (λσ H' z=>by rw[afz] at z;exact z);rintro i x σ H1 hx ⟨x4,x5,x6,rfl,J⟩;obtain⟨n,en,rfl,tk⟩:=uR hx;have hn:=lt n (afP en);obtain⟨t2,aa,bb,eu,q1,q2,q3⟩:=vq Z hn;rw[zN hn] at q2 q3;refine⟨_,rfl,U,_,1,.ref rr,rfl,rfl,aAB (J _ _ O),rfl,_,rfl,rr,us,_,.ref t2,rfl,rfl,aAA (J _ _ Y),bU eu,?_⟩;refine⟨t2,_,rfl,aAB (J _ _ q1),rfl,?_⟩;refine⟨_,_,rfl,_,_,rfl,rfl,?_⟩;refine⟨_,rfl,_,rfl,.inl ⟨rfl,_,aAA (J _ _ q3)⟩,_,rfl,bb,_,k,rfl,rfl,J _ _ q3,_,_,rfl,rfl,?_⟩;refine⟨_,rfl,.inl ⟨rfl,_,aAA (J _ _ q2)⟩,_,rfl,aa,_,k,rfl,rfl,J _ _ q2,_,_,rfl,rfl,?_⟩;refine .mk (some (.int ((n:Nat):Int))) (some (.ref aa)) (some (.ref bb)) ?_ J;rw[tk,w8]
   rfl
theorem br:aA ["house","worths","paper","worth","at","rooms","none","k","locks","lacks","kind","more"] ["house","worths","paper","worth"] (ai cF):=scM rfl rfl rfl rfl (by decide +kernel)
theorem iP:(["k","worths"]:List Str).Nodup:=by decide +kernel
theorem yN (F:Fun K "_law_shows" "_law_shows" cF f fd){O:Addr}{J:FuncData}(ub:FnOk P w K mg base CX0 1 O J ["house","rooms","kind"] zV)(jo:Cal K mg "_law_hand" ["house","rooms","kind"] O J)(aY:mg "enumerate" = none)(bX:mg "set" = none)(aZ:mg "sorted" = none)(cg:mg "len" = none)(qI:mg "sum" = none)(bf:mg "range" = none):FnOk P w K mg base CX0 2 f fd ["house","worths","paper","worth"] vG:=by
 refine F.ok br (λvs H Q E h=>?_) (λbZ A outer s H vs Q E hr h=>?_)
 .obtain⟨v,h,a,ws,p,ys,ls,wt,rfl,_⟩:=h
  rfl
 .have hu:=du hr;have U:∀ {n:Nat},n<=12->(A.deeper (envOfC "_law_shows" (ai cF) s.heap.objs.size f bZ)).units+(n+1) < cLine:=fun {n} h=>agc (agu (afR (aif h) (by decide:13<=64)) _) hr.units;obtain⟨v,h,a,ws,p,ys,ls,wt,rfl,hh,ok,b1,ha,lw,hp,oz,ll,b4,q⟩:=h;have c6:1000000 < sizeLine:=by decide
  refine⟨_,(ah (cj (PW.pt (mM (aE mL oo (pv 2) rfl) (j0 (aE rk (pv 2) (au dE rfl aZ ahW (ae (pv 2) ag)) (aP _)))))
   (aq (aD fM)) aF)
   (ah (bp (d9 agx rfl (t4 rfl aY (ae (pv 2) ag)) (mR rfl (aI (av (i:=4) br.nd rfl (.inl rfl)) (aI (av (i:=5) br.nd rfl (.inl rfl)) dB)))
    (ah (cj (PW.pt (mM (aE ad5 (pv 5) (vO aad (pv 2) yK (zt (pv 4))) rfl) (j0 (aE rk (pv 5) (au (kL (P:=P) (w:=w) rfl rfl rfl) rfl aZ ahW (ae (aV (ql (P:=P) (w:=w) (K:=K) rfl rfl rfl rfl) rfl bX (by decide +kernel) (ae (pv 5) ag)) ag)) (aP _)))))
     (aq (aD fM)) aF)
    (ah (iH (i:=6) (tg:=.Name "k" _) (outer:=ai (cF)) (N:=["house","worths","paper","worth","at","rooms","none","k","locks","lacks","kind","more"]) (N':=["k","worths"]) (nl:=1) (ix:=[1]) br.nd rfl (.inl rfl) rfl rfl rfl (aL (pv 5))
    (λ_ _ _ _=>(av (i:=0) iP rfl (.inl rfl) (.inr rfl))) (λ_ _ _ _=>(iF (PW.pt (mM (aE wK (pv 0) ar (aP _)) (j0 (aE aaM (pv 0) (au (jU (K:=K) rfl) rfl cg agH (ae (pv 1) ag)) (aP _)))))))
    (λ_ _ _ _=>(pv 0)))
    (ah (cj (aE rk (pv 6) oo (aP _))
     (aq (aD fM)) aF)
    (ah (cj (aE wY (au (m9 rfl) rfl qI (by decide +kernel) (ae (gm (tg:=.Name "k" _) (outer:=ai (cF)) (N:=["house","worths","paper","worth","at","rooms","none","k","locks","lacks","kind","more"]) (N':=["k","worths"]) (nl:=1) (ix:=[1]) rfl rfl rfl (aL (pv 5))
    (λ_ _ _ _=>(av (i:=0) iP rfl (.inl rfl) (.inr rfl))) (λ_ _ _ _=>aT)
    (λ_ _ _ _=>(bR (jG (K:=K) rfl) (pv 1) (pv 0) (λ_ _=>rfl)))) ag)) (pv 3) (aP _))
     (aq (aD fM)) aF)
    (aq (bp (d9 agx rfl (cy rfl bf (ae (au aQ rfl cg agH (ae (pv 1) ag)) ag)) (av (i:=7) br.nd rfl (.inl rfl))
     (ah (az (i:=8) br.nd rfl (.inl rfl) (bR il (bR bq (bR il (pv 0) ar (λ_ _=>rfl)) (pv 7) (λ_ _=>rfl)) ar (λ_ _=>rfl)))
     (ah (az (i:=9) br.nd rfl (.inl rfl) oo)
     (ah (bp (d9 agx rfl (aL (pv 8)) (av (i:=10) br.nd rfl (.inl rfl))
      (aq (bp (cj (aE wK (pcl ub jo hr rfl (ae (pv 0) (ae (pv 5) (ae (pv 10) ag)))) (jN agb ag1 ag2 gc (pv 8) (ae (pv 10) ag)) (aP _))
       (aq (dg (jN agb agW agX cx (pv 9) (ae (pv 10) ag)))) aF)))))
     (ah (az (i:=11) br.nd rfl (.inl rfl) (au hZ rfl aZ ahW (ae (bN pq (pv 5) (cJ (ae (pv 7) ag))) ag)))
     (aq (cj (PW.pt (m8 (aE lq (pv 7) (pv 5) rfl) (m8 (aE yk (pv 9) oo (aP _)) (kN (aE mL (pv 11) (pv 2) rfl)))))
      (aq (aD fM)) aF)))))))))))))))
   (aq (aD fM)))),?_⟩
  obtain⟨tt,a1,rr,us,rfl,b5,c8,b6,b7⟩:=id hh;refine⟨af5 _,λe0 n0=>?_⟩;have st:Same H (upd H e0 (.lst [])):=ak n0;refine⟨_,rfl,mW (neg:=true) (q:=[]) af (st _ _ hp) (oz.same st) (U (by decide:2<=12)) ⟨_,rfl,?_⟩⟩;generalize upd H e0 (.lst [])=H1 at *;rw[if_pos rfl];by_cases aj:[]∈ls
  case neg =>
   rw[afS aj];exact dt (q false H1 st ⟨λz=>(by cases z),λz=>absurd z.nil aj⟩)
  rw[afM aj];refine cu ?_;refine⟨_,rfl,_,rfl,p,ys,rfl,aAA (st _ _ hp),by rw[oz.1];lia,U (by decide:3<=12),(oz.same st).all,λL an nL pm up=>?_⟩;have bz:=oz.same st;have s2:Same H1 (upd H1 L (.lst an)):=ak nL;have b9:OrdsZ H1 an (an.map (L2.numsOf H1)):=OrdsZ.of λv hv=>bz.all v (pm.mem_iff.mp hv);have ca:(an.map (L2.numsOf H1)).Perm ls:=by
   have:=pm.map (L2.numsOf H1)
   rwa [bz.nums] at this
  have aR:=st.trans s2;refine kg (neg:=true) (s2 _ _ (st _ _ hp)) af (oz.same aR) (b9.same s2) (U (by decide:1<=12)) ⟨_,rfl,?_⟩;rw[if_pos rfl];generalize upd H1 L (.lst an)=H2 at *;by_cases aS:ls=an.map (L2.numsOf H1)
  case neg =>
   rw[afS aS];refine dt (q false H2 aR ⟨λz=>(by cases z),λz=>?_⟩);exact absurd (acW abU (up_iff.mp z.up).1 up ca.symm) aS
  rw[afM aS];refine cu ?_;have cb:ls.Pairwise λa b=>¬ b < a:=by rw[aS];exact up
  dsimp only [kF];refine⟨λσ H'=>LsI (.ref tt) a p wt h ws ls H ys.length σ H',?_,?_⟩
  .rintro σ H' ⟨x4,x5,x6,x7,x8,x9,be,bg,rfl,s',al⟩;rw[oz.1] at al;exact q true H' s' ⟨λ_=>RowZ.shows aj cb al,λ_=>rfl⟩
  .refine⟨_,rfl,p,rfl,⟨_,aAA (aR _ _ hp)⟩,?_⟩;refine abb (xs:=ys) (λi aw H'=>LsI (.ref tt) a p wt h ws ls H i aw H') (.mk none none none none none none none none rfl aR λj l z=>absurd z (ahM j)) (λi σ H' _ ⟨_,_,_,_,_,_,_,_,_,s,_⟩=>aAA (s _ _ hp)) ?_ (λσ H' z=>z);rintro i x σ H3 T Z ⟨x4,x5,x6,x7,x8,x9,be,bg,rfl,s3,al⟩ nT;obtain⟨l,b,el,rfl,hb⟩:=oz.get Z;have dk:=(afA.mp el).1;have lm:=afP el;have l0:=b4 l lm;have s4:Same H3 (upd H3 T (.tup [.int (i:Int),.ref b])):=ak nT;refine⟨T,_,rfl,aAB af,rfl,?_⟩;generalize upd H3 T (.tup [.int (i:Int),.ref b])=H4 at *;have bB:=s3.trans s4;refine⟨_,_,rfl,_,_,rfl,rfl,?_⟩;refine⟨_,rfl,_,rfl,_,rfl,_,rfl,p,_,rfl,aAA (bB _ _ hp),λC nC=>?_⟩;have s5:Same H4 (upd H4 C (.lst (t6 ys none (some (i:Int))))):=ak nC;have e5:(upd H4 C (.lst (t6 ys none (some (i:Int))))) C=some (.lst (ys.take i)):=by
    rw[af,adQ (by rw[oz.1];lia)]
   generalize upd H4 C (.lst (t6 ys none (some (i:Int))))=H5 at *;have ax:=bB.trans s5;refine mW (neg:=false) (ax _ _ hb) e5 ((oz.same ax).take i) (U (by decide:2<=12)) ⟨_,rfl,?_⟩;rw[if_neg (by decide)];by_cases ac:l∈ls.take i
   .rw[afM ac];exact dt (q false H5 ax ⟨λz=>(by cases z),λz=>absurd ac (z.once el)⟩)
   rw[afS ac];refine cu ?_;refine⟨_,rfl,_,rfl,b,l,rfl,aAA (ax _ _ hb),agc (aif l0) (by decide),λS ts nS si=>?_⟩;have s6:Same H5 (upd H5 S (p7 P w S ts)):=ak nS;have tl:ts.length<=60:=afR (eU si.1 λx Z=>(si.2 x).mp Z) l0;refine⟨S,ts,rfl,af,by lia,λM aU nM cl cm=>?_⟩;generalize upd H5 S (p7 P w S ts)=H6 at *;have s7:Same H6 (upd H6 M (.lst (aU.map V.int))):=ak nM;have ao:=(ax.trans s6).trans s7;refine rW (neg:=true) (a:=l) (b:=aU) (ao _ _ hb) af (U (af5 _)) ⟨_,rfl,?_⟩;rw[if_pos rfl];generalize upd H6 M (.lst (aU.map V.int))=H7 at *;have su:=adv si cl cm;by_cases aW:l=aU
   case neg =>
    rw[afS aW];exact dt (q false H7 ao ⟨λz=>(by cases z),λz=>absurd (su.mpr (z.set l lm).1) aW⟩)
   rw[afM aW];refine cu ?_;have ul:=su.mp aW;dsimp only [kF,tK,qR,bu];refine aB _ _ _ _ _ _ _ _ _ ?_;refine⟨_,rfl,b,rfl,⟨_,aAA (ao _ _ hb)⟩,λN nN=>?_⟩;refine rj (pb:=λx=>match x with | .int z=>decide (z < 0) || decide (((h.2.length:Nat):Int)<=z) | _=>false) (ao _ _ hb) nN (by rw[afz];lia) (λx=>rfl) (λG x R Z sG r=>?_) (λG x R r=>⟨_,rfl,r⟩) (λG sG eN=>?_)
   .obtain⟨z,hz,rfl⟩:=afL.mp Z;have r:R (decide (z < 0) || decide (((h.2.length:Nat):Int)<=z)) G:=r G (Same.refl G);refine⟨_,rfl,_,_,rfl,rfl,⟨_,rfl,?_⟩⟩;cases e:decide (z < 0) with
    | true =>
     rw[e,akF] at r;exact dt r
    | false =>
     rw[e,akk] at r;refine cu ⟨_,rfl,_,rfl,a,_,rfl,.inl (aAA (sG _ _ (ao _ _ ha))),_,_,rfl,rfl,⟨_,rfl,?_⟩⟩;rw[afz,lw];exact r
   rw[akV] at eN;have co:=ao.trans sG;refine⟨_,rfl,af5 _,λe1 n1=>?_⟩;have s8:Same G (upd G e1 (.lst [])):=ak n1;refine rW (neg:=true) (a:=l.filter λz=>decide (z < 0) || decide (((h.2.length:Nat):Int)<=z)) (b:=[]) (s8 _ _ eN) af (U (af5 _)) ⟨_,rfl,?_⟩;rw[if_pos rfl];have ay:=co.trans s8;generalize upd G e1 (.lst [])=H8 at *;by_cases aX:(l.filter λz=>decide (z < 0) || decide (((h.2.length:Nat):Int)<=z))=[]
   case neg =>
    rw[afS aX];refine dt (q false H8 ay ⟨λz=>(by cases z),λz=>absurd ?_ aX⟩);rw[ai6];intro x Z;have:=(z.set l lm).2 x Z;simp only[ahL,af9];lia
   rw[afM aX];refine cu ?_;have a6:SetZ h.2.length l:=⟨ul,λx Z=>by
    have:=ai6.mp aX x Z;simp only[ahL,af9] at this;lia⟩
   obtain⟨o,rfl,nd,uo,lt⟩:=a6.nat
   have aA:H b=some (.lst (cO o)):=by rw[hb,af3];rfl
   rw[afz] at l0;dsimp only [kF,tK,aen,ada,tOp,tCB,fb,lV];refine aB _ _ _ _ _ _ _ _ _ ?_;refine⟨_,rfl,b,rfl,⟨_,aAA (ay _ _ aA)⟩,λD nD=>?_⟩;refine dD (F:=λx=>match x with | .int n=>.int (ws.getD n.toNat 0) | v=>v) (ay _ _ aA) nD (by rw[afz];lia) (λx=>rfl) (λG x R Z sG r=>?_) (λG' cq hD=>?_)
   .obtain⟨n,hn,rfl⟩:=afL.mp Z;refine⟨_,rfl,_,rfl,a,_,_,_,rfl,rfl,aAA (sG _ _ (ay _ _ ha)),bU (j:=n) ?_,r G (Same.refl G)⟩;rw[afF];show Option.map V.int ws[n]? = some (.int (ws.getD (Int.toNat ((n:Nat):Int)) 0));rw[agk,afJ,afx (by rw[lw];exact lt n hn)]
    rfl
   refine⟨D,o.map λi=>ws.getD i 0,rfl,aAA (by rw[hD,af3,af3];rfl),_,rfl,_,_,rfl,rfl,⟨_,rfl,?_⟩⟩;have bh:=ay.trans cq;by_cases a7:wt < (o.map λi=>ws.getD i 0).sum
   .rw[afM a7];refine dt (q false G' bh ⟨λz=>(by cases z),λz=>?_⟩);have:=z.sum o lm;unfold eV at this;lia
   rw[afS a7];refine cu ?_;have bi:eV ws o<=wt:=by unfold eV;lia
   refine⟨λσ H'=>LkI (.ref tt) a p wt (some (.int (i:Int))) b (some (.ref N)) h ls o H h.2.length σ H',?_,?_⟩
   .rintro σ H' ⟨x7,x8,x9,be,bg,rfl,s',mo⟩;refine .mk _ _ _ _ _ _ _ _ rfl s' λj l' hj e=>?_;by_cases cr:j=i
    .subst cr;rw[el] at e;cases e;exact⟨ac,a6,λo' e=>by rw[vf e];exact bi,λo' e=>by rw[vf e];exact mo⟩
    .exact al j l' (by lia) e
   .refine⟨_,rfl,a,_,rfl,.inl (aAA (bh _ _ ha)),h.2.length,by rw[afz,lw],by lia,by lia,?_⟩;refine fP (λk aw H'=>LkI (.ref tt) a p wt (some (.int (i:Int))) b (some (.ref N)) h ls o H k aw H') (.mk x7 x8 x9 be bg rfl bh λk z=>absurd z (ahM k)) ?_ (λσ H' z=>z);rintro k σ a0 hk ⟨y7,y8,y9,cs,ct,rfl,aC,mo⟩;have k0:(0:Int)+((k:Nat):Int)=((k:Nat):Int):=alZ _;obtain⟨t2,aa,bb,eu,q1,q2,q3⟩:=vq b7 hk;rw[zN hk] at q2 q3;have bG:yT (rmD h.2 k):=by rw[← zN hk];exact ok.rs _ (agg hk)
    refine⟨_,rfl,tt,_,1,.ref rr,rfl,rfl,aAB (aC _ _ b5),rfl,_,rfl,rr,us,_,.ref t2,rfl,rfl,aAA (aC _ _ b6),by rw[k0];exact bU eu,t2,_,0,.ref aa,rfl,rfl,aAB (aC _ _ q1),rfl,?_⟩;refine⟨af5 _,λD2 bH=>?_⟩;have cv:Same a0 (upd a0 D2 (.lst [])):=ak bH;have cw:(upd a0 D2 (.lst [])) D2=some (.lst []):=af;generalize upd a0 D2 (.lst [])=dP at *;have a9:=aC.trans cv;refine⟨λσ H'=>LmI (.ref tt) a p wt (some (.int (i:Int))) b (some (.ref N)) (some (.int (0+((k:Nat):Int)))) aa D2 h o (rmD h.2 k) H (rmD h.2 k).1.length σ H',?_,?_⟩
    .rintro σ ad ⟨cz,cA,rfl,eD,a2,Y⟩;rw[agm] at eD;have ol:o.length<=12:=afR (fe nd lt) b1;refine⟨_,rfl,_,rfl,by show 1<=sizeLine;decide,λl1 m1=>?_⟩;have g1:Same ad (upd ad l1 (.lst [.int (0+((k:Nat):Int))])):=ak m1;refine⟨b,l1,_,_,rfl,rfl,g1 _ _ (Y _ _ aA),af,by rw[afz,af1];lia,λp1 np=>?_⟩;have g2:Same ad (upd (upd ad l1 (.lst [.int (0+((k:Nat):Int))])) p1 (.lst (cO o++[.int (0+((k:Nat):Int))]))):=g1.trans (ak np);have ep:(upd (upd ad l1 (.lst [.int (0+((k:Nat):Int))])) p1 (.lst (cO o++[.int (0+((k:Nat):Int))]))) p1=some (.lst ((zs (o++[k])).map V.int)):=by
      rw[af,k0,zs,afY,afY,af3]
      rfl
     generalize upd (upd ad l1 (.lst [.int (0+((k:Nat):Int))])) p1 (.lst (cO o++[.int (0+((k:Nat):Int))]))=a3 at *;refine⟨p1,zs (o++[k]),rfl,aAA ep,by rw[afz,afH,af1];lia,λM2 ap cB cC cD=>?_⟩;have g3:Same ad (upd a3 M2 (.lst (ap.map V.int))):=g2.trans (ak cB);have eM:(upd a3 M2 (.lst (ap.map V.int))) M2=some (.lst (ap.map V.int)):=af;generalize upd a3 M2 (.lst (ap.map V.int))=bk at *;have bn:=Y.trans g3;refine⟨_,rfl,_,rfl,b,_,rfl,.inl (aAA (bn _ _ aA)),rfl,by rw[ahG,agt];exact λ_ _=>rfl,_,rfl,?_⟩;rw[k0];rw[show inV (.int ((k:Nat):Int)) (cO o)=decide (k∈o) from acn k o];by_cases aG:k∈o
     .rw[afM aG];refine cu (cu (.mk _ _ _ _ _ rfl bn λk' bK nk=>?_));by_cases e:k'=k
      .rw[e] at nk;exact absurd aG nk
      .exact mo k' (by lia) nk
     rw[afS aG];have cE:(o++[k]).Nodup:=by
      rw[aht];exact⟨nd,by simp,λx Z y hy e=>aG (by rw[← afD.mp hy,← e];exact Z)⟩
     have bM:ap=zs (bL (aO (o++[k]))):=iJ cD (by
      rw[zs,aha];exact (qu _).imp λx=>by lia) (cC.trans ((bj cE).symm.map _))
     refine dt ⟨_,rfl,af5 _,λl2 m2=>?_⟩;have g4:Same bk (upd bk l2 (.lst [])):=ak m2;refine sH (g4 _ _ (g3 _ _ eD)) af (λkd cH=>bG.lk kd (agi.mp cH).1) (U (af5 _)) ⟨_,rfl,?_⟩;generalize upd bk l2 (.lst [])=cI at *;have aH:=bn.trans g4;have bt:=abn (h:=h) (o:=o) (i:=k);cases hm:((rmD h.2 k).1.filter (t8 h o (rmD h.2 k))).isEmpty with
     | false =>
      rw[hm] at bt;refine cu (cu (.mk _ _ _ _ _ rfl aH λk' bK nk my=>?_));by_cases e:k'=k
      .rw[e] at my;cases bt.mpr my
      .exact mo k' (by lia) nk my
     | true =>
      have my:=bt.mp hm;refine dt ⟨_,rfl,_,rfl,mW (neg:=true) (g4 _ _ eM) (aH _ _ hp) (oz.same aH) (U (by decide:2<=12)) ⟨_,rfl,?_⟩⟩;rw[if_pos rfl];by_cases a4:ap∈ls
      .rw[afM a4];refine cu (.mk _ _ _ _ _ rfl aH λk' bK nk cK=>?_);by_cases e:k'=k
       .rw[e,← bM];exact a4
       .exact mo k' (by lia) nk cK
      .rw[afS a4];refine dt (q false cI aH ⟨λz=>(by cases z),λz=>?_⟩);have:=z.more o lm k hk aG my;rw[← bM] at this;exact absurd this a4
    .refine⟨_,rfl,aa,rfl,⟨_,aAA (a9 _ _ q2)⟩,?_⟩;refine gS (xs:=(rmD h.2 k).1.map V.str) (λj aw H'=>LmI (.ref tt) a p wt (some (.int (i:Int))) b (some (.ref N)) (some (.int (0+((k:Nat):Int)))) aa D2 h o (rmD h.2 k) H j aw H') (.mk cs ct rfl (by simpa using cw) (aC.free bH) a9) (λj σ H _ ⟨_,_,_,_,_,s⟩=>aAA (s _ _ q2)) ?_ (λσ H' z=>by rw[afz] at z;exact z);rintro j x σ ad Z ⟨cz,cA,rfl,eD,a2,Y⟩;have hj:=(afA.mp Z).1;rw[afz] at hj;rw[afF,afx hj] at Z;injection Z with Z
     have tk:(rmD h.2 k).1.take (j+1)=(rmD h.2 k).1.take j++[(rmD h.2 k).1[j]]:=by rw[agh,afx hj];rfl
     generalize (rmD h.2 k).1[j]=kd at *;subst Z;refine⟨λσ H'=>LmI (.ref tt) a p wt (some (.int (i:Int))) b (some (.ref N)) (some (.int (0+((k:Nat):Int)))) aa D2 h o (rmD h.2 k) H (j+1) σ H',λ_ _ z=>z,?_⟩;refine⟨_,rfl,_,rfl,_,rfl,.ref tt,h,b,o,kd,rfl,hh.same Y,Y _ _ aA,lt,by lia,λa3 a5=>?_⟩;have am:=Y.trans a5;refine⟨_,rfl,.inl ⟨rfl,_,aAA (am _ _ q2)⟩,_,rfl,aa,_,kd,rfl,rfl,am _ _ q2,_,_,rfl,rfl,⟨_,rfl,?_⟩⟩;cases e:decide (gy h o kd < (((rmD h.2 k).1.count kd:Nat):Int)) with
     | true =>
      have e':t8 h o (rmD h.2 k) kd=true:=e;refine dt ⟨_,rfl,.inl ⟨rfl,_,aAA (a5 _ _ eD)⟩,_,rfl,D2,_,_,rfl,rfl,a5 _ _ eD,?_,.mk _ _ rfl ?_ a2 (de am a2)⟩
      .rw[afz];have h1:=agv (t8 h o (rmD h.2 k)) ((rmD h.2 k).1.take j);have h2:=bG.l4;rw[af7] at h1;lia
      .rw[af,tk,agd,agM,e',if_pos rfl,afY]
       rfl
     | false =>
      have e':t8 h o (rmD h.2 k) kd=false:=e;refine cu (.mk _ _ rfl ?_ a2 am);rw[tk,agd,agM,e',if_neg (by decide),aix,agl];exact a5 _ _ eD
end
def ab7:Sp:=λvs H Q _=>∃ (p pa:Addr) (many M N:Nat) (ys:List V) (ls:List (List Int)),vs=[.ref p,.ref pa,.int ((many:Nat):Int)]/\PoolD H p/\many<=12/\12<=M/\M<=40/\N<=100000/\H pa=some (.lst ys)/\OrdsZ H ys ls/\ls≠[]/\ls.length<=N/\(∀ l∈ls,l.length<=M) ∧
 ∀ (Fd:Addr) (us:List V) (ms:List (List Int)) H',H Fd=none->Fd≠p->H' Fd=some (.lst us)->OrdsZ H' us ms->ms.length<=N+8->(∀ l∈ms,l.length<=M+8)->(∀ y∈us,∃ b:Addr,y=.ref b/\b≠p)->PoolD H' p->But p H H'->Q (.ref Fd) H'
def InZ (Fd p:Addr)(k:Nat)(H:Hp)(y:V):Prop:=∃ (b:Addr) (ns:List Int),y=.ref b/\H b=some (.lst (ns.map V.int))/\b≠Fd/\b≠p/\ns.length<=k
theorem InZ.le {Fd p:Addr}{k z:Nat}{H:Hp}{y:V}(a:InZ Fd p k H y)(l:k<=z):InZ Fd p z H y:=let ⟨b,ns,e,h,n1,n2,l1⟩:=a;⟨b,ns,e,h,n1,n2,afR l1 l⟩
theorem InZ.off {Fd p:Addr}{k:Nat}{H:Hp}{y:V}{o:HO}(a:InZ Fd p k H y):InZ Fd p k (upd H Fd o) y:=let ⟨b,ns,e,h,n1,n2,l1⟩:=a;⟨b,ns,e,by rw[ao n1];exact h,n1,n2,l1⟩
theorem InZ.same {Fd p:Addr}{k:Nat}{H H':Hp}{y:V}(a:InZ Fd p k H y)(s:Same H H'):InZ Fd p k H' y:=let ⟨b,ns,e,h,n1,n2,l1⟩:=a;⟨b,ns,e,s _ _ h,n1,n2,l1⟩
theorem InZ.but {Fd p:Addr}{k:Nat}{H H':Hp}{y:V}(a:InZ Fd p k H y)(s:But p H H'):InZ Fd p k H' y:=let ⟨b,ns,e,h,n1,n2,l1⟩:=a;⟨b,ns,e,s _ _ n2 h,n1,n2,l1⟩
theorem InZ.new {Fd L p:Addr}{k:Nat}{H:Hp}{y:V}{o:HO}(a:InZ Fd p k H y)(n:H L=none):InZ L p k (upd H L o) y:=let ⟨b,ns,e,h,n1,n2,l1⟩:=a;⟨b,ns,e,by rw[ao (aj h n)];exact h,aj h n,n2,l1⟩
theorem InZ.at_ {Fd p:Addr}{k m:Nat}{H:Hp}{ys:List V}(a:∀ y∈ys,InZ Fd p k H y)(h:m < ys.length):∃ (b:Addr) (z:List Int),ys[m]? = some (.ref b)/\H b=some (.lst (z.map V.int))/\b≠Fd/\b≠p/\z.length<=k:=by
 obtain⟨b,z,e,r⟩:=a _ (agg h);exact⟨b,z,by rw[afx h,e],r⟩
theorem PoolD.off {H:Hp}{p Fd:Addr}{o:HO}(d:PoolD H p)(n:Fd≠p):PoolD (upd H Fd o) p:=let ⟨a,f,c,e⟩:=d;⟨a,f,c,by rw[ao (ahf n)];exact e⟩
theorem ab6 (a b:Int):decide (V.int a=V.int b)=decide (a=b):=agL.mpr ⟨λz=>by injection z,λz=>by rw[z]⟩
theorem uH {n m:Nat}(h:m < n):ixN n ((m:Nat):Int)=some m:=by
 unfold ixN;rw[if_pos (ajN m),if_pos (by lia)]
 rfl
theorem InZ.ords {Fd p:Addr}{k:Nat}{H:Hp}{ys:List V}(a:∀ y∈ys,InZ Fd p k H y):∃ ms,OrdsZ H ys ms/\∀ l∈ms,l.length<=k:=by
 refine⟨ys.map (L2.numsOf H),OrdsZ.of λy z=>let ⟨b,J,e,h,_⟩:=a y z;⟨b,J,e,h⟩,λl O=>?_⟩;obtain⟨y,z,rfl⟩:=afL.mp O;obtain⟨b,J,rfl,h,_,_,S⟩:=a y z;rw[L2.numsOf_at h];exact S
inductive BeI (p pa:Addr)(many M N:Nat)(H0:Hp)(m:Nat)(way:Int)(j:Nat)(σ:L2.St)(H':Hp):Prop
 | mk (Fd:Addr) (ys:List V):σ=[some (.ref p),some (.ref pa),some (.int ((many:Nat):Int)),some (.ref Fd),some (.int ((m:Nat):Int)),some (.int way)]->H0 Fd=none->Fd≠p->H' Fd=some (.lst ys)->ys.length<=N+j->(∀ y∈ys,InZ Fd p (M+j) H' y)->PoolD H' p->But p H0 H'->(way≠0->m < ys.length)->BeI p pa many M N H0 m way j σ H'
section
variable {P:Program}{w:World}{K:PySem.W.Frag}{mg:Str->Option Value}{base:Heap}{f:Addr}{fd:FuncData}
theorem bT:aA ["pool","paper","many","found","at","way"] ["pool","paper","many"] (ai dj):=scM rfl rfl rfl rfl (by decide +kernel)
theorem oQ:(["rooms"]:List Str).Nodup:=by decide +kernel
theorem oS:(["k","pool","many"]:List Str).Nodup:=by decide +kernel
theorem acJ (F:Fun K "_law_bent" "_law_bent" dj f fd){ap:Addr}{am:FuncData}(ay:FnOk P w K mg base CX0 1 ap am ["pool","many"] pf)(aw:Cal K mg "_law_draw" ["pool","many"] ap am)(aJ:mg "list" = none)(cg:mg "len" = none)(aZ:mg "sorted" = none)(bf:mg "range" = none):FnOk P w K mg base CX0 2 f fd ["pool","paper","many"] ab7:=by
 refine F.ok bT (λvs H Q E h=>?_) (λbS A outer s H vs Q E hr h=>?_)
 .obtain⟨p,pa,J,M,N,ys,ls,rfl,_⟩:=h
  rfl
 .have hu:=du hr;have a1:∀ {n:Nat},n<=12->(A.deeper (envOfC "_law_bent" (ai dj) s.heap.objs.size f bS)).units+(n+1) < cLine:=fun {n} h=>agc (agu (afR (aif h) (by decide:13<=64)) _) hr.units;obtain⟨p,pa,J,M,N,cw,ls,rfl,bk,cz,cA,cB,N1,bC,oz,bV,lN,lM,q⟩:=h;have cD:1000000 < sizeLine:=by decide
  refine⟨_,(ah (iH (i:=3) (tg:=.Name "rooms" _) (outer:=ai (dj)) (N:=["pool","paper","many","found","at","way"]) (N':=["rooms"]) (nl:=1) (ix:=[]) bT.nd rfl (.inl rfl) rfl rfl rfl (aL (pv 1))
   (λ_ _ _ _=>(av (i:=0) oQ rfl (.inl rfl) (.inr rfl))) (λ_ _ _ _=>aT)
   (λ_ _ _ _=>(aV (iW (K:=K) rfl) rfl aJ (by decide +kernel) (ae (pv 0) ag))))
   (ah (az (i:=4) bT.nd rfl (.inl rfl) (pcl ay aw hr rfl (ae (pv 0) (ae (au aQ rfl cg agH (ae (pv 3) ag)) ag))))
   (ah (az (i:=5) bT.nd rfl (.inl rfl) (pcl ay aw hr rfl (ae (pv 0) (ae ar ag))))
   (ah (bp (cj (aE jt (pv 5) ar (aP _))
    (aq (dg (jN agb PySem.F.slot_list_pop PySem.F.type_list_pop abj (pv 3) (ae (pv 4) ag)))) aF))
   (ah (bp (cj (aE jt (pv 5) ar (aP _))
    (ah (dg (jN agb agW agX cx (pv 3) (ae (aV bO rfl aJ (by decide +kernel) (ae (bR bq (pv 3) (pv 4) (λ_ _=>rfl)) ag)) ag)))
    (aq (az (i:=3) bT.nd rfl (.inl rfl) (au dE rfl aZ ahW (ae (pv 3) ag))))) aF))
   (ah (bp (cj (PW.pt (m8 (aE jt (pv 5) ar (aP _)) (kN (aE wY (pv 2) ar (aP _)))))
    (aq (az (i:=3) bT.nd rfl (.inl rfl) (au dE rfl aZ ahW (ae (bN pq (pv 3) (cJ (ae (au hZ rfl aZ ahW (ae (gm (tg:=.Name "k" _) (outer:=ai (dj)) (N:=["pool","paper","many","found","at","way"]) (N':=["k","pool","many"]) (nl:=1) (ix:=[0,2]) rfl rfl rfl (cy rfl bf (ae (bN gA ar (pcl ay aw hr rfl (ae (pv 0) (ae (pv 2) ag)))) ag))
    (λ_ _ _ _=>(av (i:=0) oS rfl (.inl rfl) (.inr rfl))) (λ_ _ _ _=>aT)
    (λ_ _ _ _=>(pcl ay aw hr rfl (ae (pv 1) (ae (pv 2) ag))))) ag)) ag))) ag)))) aF))
   (ah (bp (cj (aE jt (pv 5) ar (aP _))
    (aq (az (i:=3) bT.nd rfl (.inl rfl) (zQ (pv 3) (abL vt ar)))) aF))
   (ah (bp (cj (aE jt (pv 5) ar (aP _))
    (aq (lj (bN pq (bR bq (pv 3) (pv 4) (λ_ _=>rfl)) (cJ (ae (bN gA (pv 2) (pcl ay aw hr rfl (ae (pv 0) (ae ar ag)))) ag))) (qS (pv 3) (pv 4) iY))) aF))
   (ah (bp (cj (aE jt (pv 5) ar (aP _))
    (aq (lj (bN pq (cJ (ae (abL vt ar) ag)) (bR bq (pv 3) (pv 4) (λ_ _=>rfl))) (qS (pv 3) (pv 4) iY))) aF))
   (ah (bp (cj (aE jt (pv 5) ar (aP _))
    (aq (lj (zQ (bR bq (pv 3) (pv 4) (λ_ _=>rfl)) (abL vt ar)) (qS (pv 3) (pv 4) iY))) aF))
   (ah (bp (cj (PW.pt (m8 (aE jt (pv 5) ar (aP _)) (kN (aE wY (pv 2) ar (aP _)))))
    (ah (dg (jN agb agW agX cx (pv 3) (ae (tG rfl aJ rfl bf rfl (ae (pv 2) ag)) ag)))
    (aq (az (i:=3) bT.nd rfl (.inl rfl) (au dE rfl aZ ahW (ae (pv 3) ag))))) aF))
   (aq (aD (pv 3)))))))))))))),?_⟩
  dsimp only [tK,qR,bu];refine aB _ _ _ _ _ _ _ _ _ ?_;refine⟨_,rfl,pa,rfl,⟨_,aAA bC⟩,λD nD=>?_⟩;have bW:=oz.1;refine i7 (ks:=ls) (pb:=λ_=>true) (F:=λl=>l.map V.int) bC nD (by lia) bW (λx=>rfl) (λG j x k R _ _ sG r=>r G (Same.refl G)) (λG j x l R ex el _ sG r=>?_) λus G sG eD rl=>?_
  .obtain⟨b,rfl,hb⟩:=oz.2 j x l ex el;exact⟨_,rfl,b,_,rfl,.inl (aAA (sG _ _ hb)),λY n1=>r Y _ (ak n1) n1 af⟩
  rw[aie.mpr (λ_ _=>rfl)] at rl;have ul:us.length=ls.length:=rl.len;have ci:=aiP.mpr bV;refine⟨_,rfl,_,rfl,D,us,rfl,.inl (aAA eD),p,((us.length:Nat):Int),rfl,bk.same sG,by lia,by lia,λr H2 r0 r1 bY b2=>?_⟩;obtain⟨m,rfl⟩:∃ m:Nat,r=(m:Int):=⟨r.toNat,by lia⟩;have a2:D≠p:=bk.ne nD;refine⟨_,rfl,p,9,rfl,bY,by decide,by decide,λad H3 w0 w1 aS b3=>?_⟩;have bE:But p H H3:=((aH sG).trans b2).trans b3;have aX:=b3 _ _ a2 (b2 _ _ a2 eD);have bF:∀ y∈us,InZ D p (M+0) H3 y:=λy O=>by
   obtain⟨j,hj⟩:=agp O;have h1:=(afA.mp hj).1;have ek:=afx (show j < ls.length by lia);obtain⟨b,e,hb,nb,b0⟩:=rl.at_ j y _ hj ek;have aO:b≠p:=bk.ne b0;exact⟨b,_,e,b3 _ _ aO (b2 _ _ aO hb),nb,aO,lM _ (agg _)⟩
  have bG:m < us.length:=by lia
  refine⟨λσ H'=>BeI p pa J M N H m ad 1 σ H',?_,?_⟩;rotate_left
  .clear q;refine⟨_,rfl,rfl,⟨_,rfl,?_⟩⟩;rw[ab6];by_cases hw:ad=0
   .rw[afM hw];refine dt ⟨_,rfl,.inl ⟨rfl,_,aAA aX⟩,_,rfl,D,us,((m:Nat):Int),m,us[m],rfl,rfl,aX,by lia,by lia,(PySem.StrLaws.seqIndex_nonneg (ajN m) (by lia)).trans (by simp),afx bG,?_⟩;refine .mk D _ rfl nD a2 af ?_ (λy O=>((bF y (List.mem_of_mem_eraseIdx O)).le (by lia)).off) (aS.off a2) (bE.new nD) (λz=>absurd hw z);have:=List.length_eraseIdx_le us m;lia
   .rw[afS hw];exact cu (.mk D us rfl nD a2 aX (by lia) (λy O=>(bF y O).le (by lia)) aS bE λ_=>bG)
  rintro σ H2 ⟨Fd,ys,rfl,nF,U,eF,yl,al,dk,b1,Z⟩;refine⟨λσ H'=>BeI p pa J M N H m ad 2 σ H',?_,?_⟩;rotate_left
  .clear q;refine⟨_,rfl,rfl,⟨_,rfl,?_⟩⟩;rw[ab6];by_cases hw:ad=1
   case neg =>
    rw[afS hw];exact cu (.mk Fd ys rfl nF U eF (by lia) (λy O=>(al y O).le (by lia)) dk b1 Z)
   have hm:=Z (by lia);obtain⟨b,ns,O,hb,bh,aO,nl⟩:=InZ.at_ al hm;rw[afM hw];refine dt ⟨_,rfl,.inl ⟨rfl,_,aAA eF⟩,_,rfl,_,rfl,Fd,_,_,.ref b,rfl,rfl,aAA eF,bU O,b,_,rfl,.inl (aAA hb),λY n1=>?_⟩;have g1:Same H2 (upd H2 Y (.lst (ns.map V.int))):=ak n1;have e1:(upd H2 Y (.lst (ns.map V.int))) Y=some (.lst (ns.map V.int)):=af;have bo:Y≠Fd:=ahf (aj eF n1);have br:Y≠p:=dk.ne n1;generalize upd H2 Y (.lst (ns.map V.int))=H3 at *;refine⟨Fd,ys,_,rfl,rfl,g1 _ _ eF,by lia,?_⟩;have a3:∀ y∈ys++[V.ref Y],InZ Fd p (M+2) (upd H3 Fd (.lst (ys++[.ref Y]))) y:=λy O=>by
    rcases afV.mp O with z | z
    .exact (((al y z).same g1).le (by lia)).off
    .rw[afD.mp z];exact InZ.off ⟨Y,ns,rfl,e1,bo,br,by lia⟩
   have b4:But p H (upd H3 Fd (.lst (ys++[.ref Y]))):=(b1.trans (aH g1)).new nF;have aA:PoolD (upd H3 Fd (.lst (ys++[.ref Y]))) p:=(dk.same g1).off U;have a5:(upd H3 Fd (.lst (ys++[.ref Y]))) Fd=some (.lst (ys++[.ref Y])):=af;generalize upd H3 Fd (.lst (ys++[.ref Y]))=H4 at *;refine⟨_,rfl,Fd,_,rfl,aAA a5,by rw[afH,af1];lia,a1 (by decide:3<=12),λy O=>let ⟨b,ns,e,h,_⟩:=a3 y O;⟨b,ns,e,h⟩,λL a6 nL pm _=>?_⟩;have pl:=pm.length_eq;rw[afH,af1] at pl;exact .mk L a6 rfl (b4.free (aA.ne nL) nL) (aA.ne nL) af (by lia) (λy O=>(a3 y (pm.mem_iff.mp O)).new nL) (aA.same (ak nL)) (b4.trans (aH (ak nL))) (λ_=>by lia)
  rintro σ H2 ⟨Fd,ys,rfl,nF,U,eF,yl,al,dk,b1,Z⟩;refine⟨λσ H'=>BeI p pa J M N H m ad 3 σ H',?_,?_⟩;rotate_left
  .clear q;refine⟨_,rfl,rfl,⟨_,rfl,?_⟩⟩;rw[ab6];by_cases hw:ad=2
   case neg =>
    rw[afS hw];exact cu (cu (.mk Fd ys rfl nF U eF (by lia) (λy O=>(al y O).le (by lia)) dk b1 Z))
   have hm:=Z (by lia);rw[afM hw];refine dt ⟨_,rfl,_,_,rfl,rfl,⟨_,rfl,?_⟩⟩;by_cases aM:(0:Int) < ((J:Nat):Int)
   case neg =>
    rw[afS aM];exact cu (.mk Fd ys rfl nF U eF (by lia) (λy O=>(al y O).le (by lia)) dk b1 Z)
   rw[afM aM];refine dt ?_;dsimp only [qR,tCB,fb,lV,tOp,aeO,bu];refine⟨_,rfl,?_⟩;refine aB _ _ _ _ _ _ _ _ _ ?_;refine⟨_,rfl,_,rfl,p,((J:Nat):Int),rfl,dk,by lia,by lia,λr H3 r0 r1 aS b3=>⟨_,_,rfl,rfl,1+r,rfl,by lia,by lia,λD nD=>?_⟩⟩;obtain⟨n,en⟩:∃ n:Nat,1+r=(n:Int):=⟨(1+r).toNat,by lia⟩;rw[en,agk];have bI:=aS.ne nD;have s0:Same H3 (upd H3 D (.lst [])):=ak nD;refine i6 (n:=n) (λi zs H'=>∃ ws:List Int,zs=ws.map V.int/\ws.length=i/\H' D=some (.lst zs)/\PoolD H' p/\But p H3 H') ⟨[],rfl,rfl,af,aS.same s0,aH s0⟩ (λi ys H' ⟨_,_,_,h,_⟩=>h) ?_ ?_
   .rintro i zs H4 hi ⟨ws,rfl,wl,hD,aA,b4⟩;refine dy rfl ?_;refine⟨_,rfl,_,rfl,p,((J:Nat):Int),rfl,aA,by lia,by lia,λr' H5 cI cK b8 b5=>?_⟩;exact⟨b5 _ _ bI hD,by rw[afz];lia,nx hi ⟨ws++[r'],by rw[afY];rfl,by rw[afH,wl];rfl,af,b8.off bI,(b4.trans b5).new nD⟩⟩
   rintro zs H4 ⟨ws,rfl,wl,hD,aA,b4⟩;have b9:=b1.trans (b3.trans b4);have a5:=(b3.trans b4) _ _ U eF;refine⟨D,ws,rfl,aAA hD,by lia,λS a8 nS ca _=>⟨by show 1<=sizeLine;decide,λY n1=>?_⟩⟩;have g1:Same H4 (upd H4 S (.lst (a8.map V.int))):=ak nS;have e1:(upd H4 S (.lst (a8.map V.int))) S=some (.lst (a8.map V.int)):=af;have cb:S≠p:=aA.ne nS;generalize upd H4 S (.lst (a8.map V.int))=H5 at *;have g2:Same H5 (upd H5 Y (.lst [.ref S])):=ak n1;have e2:(upd H5 Y (.lst [.ref S])) Y=some (.lst [.ref S]):=af;generalize upd H5 Y (.lst [.ref S])=H6 at *;have aa:=g1.trans g2;refine⟨Fd,Y,ys,_,rfl,rfl,aa _ _ a5,e2,by rw[af1];lia,λC nC=>?_⟩;have cL:=ca.length_eq;have cM:C≠p:=(aA.same aa).ne nC;have bK:∀ y∈ys++[V.ref S],InZ C p (M+3) (upd H6 C (.lst (ys++[.ref S]))) y:=λy O=>by
    rcases afV.mp O with z | z
    .exact ((((al y z).but (b3.trans b4)).same aa).le (by lia)).new nC
    .rw[afD.mp z];exact⟨S,a8,rfl,(ak nC) _ _ (g2 _ _ e1),aj (g2 _ _ e1) nC,cb,by lia⟩
   have bw:PoolD (upd H6 C (.lst (ys++[.ref S]))) p:=(aA.same aa).same (ak nC);have b6:But p H (upd H6 C (.lst (ys++[.ref S]))):=(b9.trans (aH aa)).trans (aH (ak nC));have eC:(upd H6 C (.lst (ys++[.ref S]))) C=some (.lst (ys++[.ref S])):=af;generalize upd H6 C (.lst (ys++[.ref S]))=H7 at *;refine⟨C,_,rfl,aAA eC,by rw[afH,af1];lia,a1 (by decide:3<=12),λy O=>let ⟨b,ns,e,h,_⟩:=bK y O;⟨b,ns,e,h⟩,λL a6 nL pm _=>?_⟩;have pl:=pm.length_eq;rw[afH,af1] at pl;exact .mk L a6 rfl (b6.free (bw.ne nL) nL) (bw.ne nL) af (by lia) (λy O=>(bK y (pm.mem_iff.mp O)).new nL) (bw.same (ak nL)) (b6.trans (aH (ak nL))) (λ_=>by lia)
  rintro σ H2 ⟨Fd,ys,rfl,nF,U,eF,yl,al,dk,b1,Z⟩;refine⟨λσ H'=>BeI p pa J M N H m ad 4 σ H',?_,?_⟩;rotate_left
  .clear q;refine⟨_,rfl,rfl,⟨_,rfl,?_⟩⟩;rw[ab6];by_cases hw:ad=3
   case neg =>
    rw[afS hw];exact cu (.mk Fd ys rfl nF U eF (by lia) (λy O=>(al y O).le (by lia)) dk b1 Z)
   have hm:=Z (by lia);obtain⟨b,ns,O,hb,bh,aO,nl⟩:=InZ.at_ al hm;rw[afM hw];refine dt ⟨_,rfl,1,rfl,rfl,Fd,ys,rfl,aAA eF,λL nL=>?_⟩;exact .mk L _ rfl (b1.free (dk.ne nL) nL) (dk.ne nL) af (by rw[aiN];lia) (λy O=>((al y (List.mem_reverse.mp O)).le (by lia)).new nL) (dk.same (ak nL)) (b1.trans (aH (ak nL))) (λ_=>by rw[aiN];exact hm)
  rintro σ H2 ⟨Fd,ys,rfl,nF,U,eF,yl,al,dk,b1,Z⟩;refine⟨λσ H'=>BeI p pa J M N H m ad 5 σ H',?_,?_⟩;rotate_left
  .clear q;refine⟨_,rfl,rfl,⟨_,rfl,?_⟩⟩;rw[ab6];by_cases hw:ad=4
   case neg =>
    rw[afS hw];exact cu (.mk Fd ys rfl nF U eF (by lia) (λy O=>(al y O).le (by lia)) dk b1 Z)
   have hm:=Z (by lia);obtain⟨b,ns,O,hb,bh,aO,nl⟩:=InZ.at_ al hm;rw[afM hw];refine dt ⟨_,rfl,_,rfl,Fd,_,_,.ref b,rfl,rfl,aAA eF,bU O,_,rfl,_,rfl,p,5,rfl,dk,by decide,by decide,λr H3 r0 r1 aS b3=>⟨_,_,rfl,rfl,by show 1<=sizeLine;decide,λY n1=>?_⟩⟩;have cc:=b3 _ _ aO hb;have aX:=b3 _ _ U eF;have g1:Same H3 (upd H3 Y (.lst [.int (((J:Nat):Int)+r)])):=ak n1;have e1:(upd H3 Y (.lst [.int (((J:Nat):Int)+r)])) Y=some (.lst [.int (((J:Nat):Int)+r)]):=af;generalize upd H3 Y (.lst [.int (((J:Nat):Int)+r)])=H4 at *;refine⟨b,Y,_,_,rfl,rfl,g1 _ _ cc,e1,by rw[afz,af1];lia,λp1 np=>?_⟩;have g2:Same H4 (upd H4 p1 (.lst (ns.map V.int++[.int (((J:Nat):Int)+r)]))):=ak np;have e2:(upd H4 p1 (.lst (ns.map V.int++[.int (((J:Nat):Int)+r)]))) p1=some (.lst ((ns++[((J:Nat):Int)+r]).map V.int)):=by rw[af,afY];rfl
   have ba:p1≠Fd:=ahf (aj (g1 _ _ aX) np);have bb:p1≠p:=(aS.same g1).ne np;generalize upd H4 p1 (.lst (ns.map V.int++[.int (((J:Nat):Int)+r)]))=H5 at *;have aa:=g1.trans g2;refine⟨_,rfl,_,rfl,Fd,ys,_,m,rfl,rfl,aa _ _ aX,uH hm,?_⟩;have y1:∀ y∈ys.set m (.ref p1),InZ Fd p (M+5) (upd H5 Fd (.lst (ys.set m (.ref p1)))) y:=λy O=>by
    rcases aiH O with z | z
    .exact ((((al y z).but b3).same aa).le (by lia)).off
    .rw[z];exact InZ.off ⟨p1,_,rfl,e2,ba,bb,by rw[afH,af1];lia⟩
   exact .mk Fd _ rfl nF U af (by rw[ahK];lia) y1 ((aS.same aa).off U) (((b1.trans b3).trans (aH aa)).new nF) (λz=>by rw[ahK];exact hm)
  rintro σ H2 ⟨Fd,ys,rfl,nF,U,eF,yl,al,dk,b1,Z⟩;refine⟨λσ H'=>BeI p pa J M N H m ad 6 σ H',?_,?_⟩;rotate_left
  .clear q;refine⟨_,rfl,rfl,⟨_,rfl,?_⟩⟩;rw[ab6];by_cases hw:ad=5
   case neg =>
    rw[afS hw];exact cu (.mk Fd ys rfl nF U eF (by lia) (λy O=>(al y O).le (by lia)) dk b1 Z)
   have hm:=Z (by lia);obtain⟨b,ns,O,hb,bh,aO,nl⟩:=InZ.at_ al hm;rw[afM hw];refine dt ⟨1,rfl,by show 1<=sizeLine;decide,λY n1=>?_⟩;have g1:Same H2 (upd H2 Y (.lst [.int (-1)])):=ak n1;have e1:(upd H2 Y (.lst [.int (-1)])) Y=some (.lst [.int (-1)]):=af;generalize upd H2 Y (.lst [.int (-1)])=H4 at *;refine⟨_,rfl,_,rfl,Fd,_,_,.ref b,rfl,rfl,aAA (g1 _ _ eF),bU O,Y,b,_,_,rfl,rfl,e1,g1 _ _ hb,by rw[afz,af1];lia,λp1 np=>?_⟩;have g2:Same H4 (upd H4 p1 (.lst ([.int (-1)]++ns.map V.int))):=ak np;have e2:(upd H4 p1 (.lst ([.int (-1)]++ns.map V.int))) p1=some (.lst ((-1::ns).map V.int)):=by rw[af];rfl
   have ba:p1≠Fd:=ahf (aj (g1 _ _ eF) np);have bb:p1≠p:=(dk.same g1).ne np;generalize upd H4 p1 (.lst ([.int (-1)]++ns.map V.int))=H5 at *;have aa:=g1.trans g2;refine⟨_,rfl,_,rfl,Fd,ys,_,m,rfl,rfl,aa _ _ eF,uH hm,?_⟩;have y1:∀ y∈ys.set m (.ref p1),InZ Fd p (M+6) (upd H5 Fd (.lst (ys.set m (.ref p1)))) y:=λy O=>by
    rcases aiH O with z | z
    .exact (((al y z).same aa).le (by lia)).off
    .rw[z];exact InZ.off ⟨p1,_,rfl,e2,ba,bb,by rw[age];lia⟩
   exact .mk Fd _ rfl nF U af (by rw[ahK];lia) y1 ((dk.same aa).off U) ((b1.trans (aH aa)).new nF) (λz=>by rw[ahK];exact hm)
  rintro σ H2 ⟨Fd,ys,rfl,nF,U,eF,yl,al,dk,b1,Z⟩;refine⟨λσ H'=>BeI p pa J M N H m ad 7 σ H',?_,?_⟩;rotate_left
  .clear q;refine⟨_,rfl,rfl,⟨_,rfl,?_⟩⟩;rw[ab6];by_cases hw:ad=6
   case neg =>
    rw[afS hw];exact cu (.mk Fd ys rfl nF U eF (by lia) (λy O=>(al y O).le (by lia)) dk b1 Z)
   have hm:=Z (by lia);obtain⟨b,ns,O,hb,bh,aO,nl⟩:=InZ.at_ al hm;rw[afM hw];refine dt ⟨_,rfl,_,rfl,Fd,_,_,.ref b,rfl,rfl,aAA eF,bU O,1,rfl,rfl,b,_,rfl,aAA hb,λp1 np=>?_⟩;have aa:Same H2 (upd H2 p1 (.lst (ns.map V.int).reverse)):=ak np;have e2:(upd H2 p1 (.lst (ns.map V.int).reverse)) p1=some (.lst (ns.reverse.map V.int)):=by rw[af,List.map_reverse]
   have ba:p1≠Fd:=ahf (aj eF np);have bb:p1≠p:=dk.ne np;generalize upd H2 p1 (.lst (ns.map V.int).reverse)=H5 at *;refine⟨_,rfl,_,rfl,Fd,ys,_,m,rfl,rfl,aa _ _ eF,uH hm,?_⟩;have y1:∀ y∈ys.set m (.ref p1),InZ Fd p (M+7) (upd H5 Fd (.lst (ys.set m (.ref p1)))) y:=λy O=>by
    rcases aiH O with z | z
    .exact (((al y z).same aa).le (by lia)).off
    .rw[z];exact InZ.off ⟨p1,_,rfl,e2,ba,bb,by rw[aiN];lia⟩
   exact .mk Fd _ rfl nF U af (by rw[ahK];lia) y1 ((dk.same aa).off U) ((b1.trans (aH aa)).new nF) (λz=>by rw[ahK];exact hm)
  rintro σ H2 ⟨Fd,ys,rfl,nF,U,eF,yl,al,dk,b1,Z⟩;refine⟨λσ H'=>BeI p pa J M N H m ad 8 σ H',?_,?_⟩;rotate_left
  .clear q;refine⟨_,rfl,rfl,⟨_,rfl,?_⟩⟩;rw[ab6];by_cases hw:ad=7
   case neg =>
    rw[afS hw];exact cu (cu (.mk Fd ys rfl nF U eF (by lia) (λy O=>(al y O).le (by lia)) dk b1 Z))
   have hm:=Z (by lia);rw[afM hw];refine dt ⟨_,rfl,_,_,rfl,rfl,⟨_,rfl,?_⟩⟩;by_cases aM:(0:Int) < ((J:Nat):Int)
   case neg =>
    rw[afS aM];exact cu (.mk Fd ys rfl nF U eF (by lia) (λy O=>(al y O).le (by lia)) dk b1 Z)
   rw[afM aM];refine dt ⟨_,rfl,.inl ⟨rfl,_,aAA eF⟩,_,rfl,J,rfl,by lia,λY n1=>?_⟩;have g1:Same H2 (upd H2 Y (.lst ((List.range J).map λi=>V.int (i:Nat)))):=ak n1;have e1:(upd H2 Y (.lst ((List.range J).map λi=>V.int (i:Nat)))) Y=some (.lst ((zs (List.range J)).map V.int)):=by rw[af,zs,af3];rfl
   have bo:Y≠Fd:=ahf (aj eF n1);have br:Y≠p:=dk.ne n1;generalize upd H2 Y (.lst ((List.range J).map λi=>V.int (i:Nat)))=H3 at *;refine⟨Fd,ys,_,rfl,rfl,g1 _ _ eF,by lia,?_⟩;have a3:∀ y∈ys++[V.ref Y],InZ Fd p (M+8) (upd H3 Fd (.lst (ys++[.ref Y]))) y:=λy O=>by
    rcases afV.mp O with z | z
    .exact (((al y z).same g1).le (by lia)).off
    .rw[afD.mp z];exact InZ.off ⟨Y,_,rfl,e1,bo,br,by rw[afz,agK];lia⟩
   have b4:But p H (upd H3 Fd (.lst (ys++[.ref Y]))):=(b1.trans (aH g1)).new nF;have aA:PoolD (upd H3 Fd (.lst (ys++[.ref Y]))) p:=(dk.same g1).off U;have a5:(upd H3 Fd (.lst (ys++[.ref Y]))) Fd=some (.lst (ys++[.ref Y])):=af;generalize upd H3 Fd (.lst (ys++[.ref Y]))=H4 at *;refine⟨_,rfl,Fd,_,rfl,aAA a5,by rw[afH,af1];lia,a1 (by decide:3<=12),λy O=>let ⟨b,ns,e,h,_⟩:=a3 y O;⟨b,ns,e,h⟩,λL a6 nL pm _=>?_⟩;have pl:=pm.length_eq;rw[afH,af1] at pl;exact .mk L a6 rfl (b4.free (aA.ne nL) nL) (aA.ne nL) af (by lia) (λy O=>(a3 y (pm.mem_iff.mp O)).new nL) (aA.same (ak nL)) (b4.trans (aH (ak nL))) (λ_=>by lia)
  rintro σ H2 ⟨Fd,ys,rfl,nF,U,eF,yl,al,dk,b1,Z⟩;obtain⟨ms,om,ml⟩:=InZ.ords al;exact⟨_,rfl,q Fd ys ms H2 nF U eF om (by have:=om.1;lia) ml (λy O=>let ⟨b,_,e,_,_,n2,_⟩:=al y O;⟨b,e,n2⟩) dk b1⟩
end
theorem zR {h:Hs}(l:h.2.length<=12)(O:∀ r∈h.2,r.1.length<=4):aaX h:=λL nd S=>by
 have e:(h.2.flatMap (·.1)).length<=4 * h.2.length:=by
  have:∀ z:List Rm,(∀ r∈z,r.1.length<=4)->(z.flatMap (·.1)).length<=4 * z.length:=λz=>by
   induction z with
   | nil=>intro _;exact af5 _
   | cons r z Y =>
    intro q;rw[List.flatMap_cons,afH,age];have a:=q r afX;have b:=Y λx J=>q x (af6 _ J);lia
  exact this _ O
 have:=eU nd (U:=h.2.flatMap (·.1)) λx J=>by
  obtain⟨r,Z,J⟩:=S x J;exact List.mem_flatMap.mpr ⟨r,Z,J⟩
 lia
theorem HsU.ok {U:List Str}{n:Nat}{h:Hs}(x:HsU U n h)(l:n<=12):dz h:=by
 refine⟨λk z=>x.kk k (x.bg k z),by have:=x.bl;lia,λr J=>?_,by have:=x.rl;lia⟩;have y:=x.rm r J;exact⟨λk z=>x.kk k (y.lk k z),y.l1,y.l4,y.so,λk z=>x.kk k (y.wi k z),by have:=y.w6;lia⟩
theorem HouseAt.pool {H H':Hp}{p:Addr}{v:V}{h:Hs}(x:HouseAt H v h)(d:PoolD H p)(b:But p H H'):HouseAt H' v h:=by
 obtain⟨t,a,r,S,rfl,h1,h2,J,O⟩:=x;have U:=d;obtain⟨i,j,k,e⟩:=d;refine⟨t,a,r,S,rfl,b _ _ (λz=>?_) h1,b _ _ (λz=>?_) h2,b _ _ (λz=>?_) J,RoomsAt.pool O U b⟩
 .rw[z,e] at h1;cases h1
 .rw[z,e] at h2;injection h2 with h2;injection h2 with h2;exact tU h2.symm
 .rw[z,e] at J;injection J with J
  injection J with J
  subst J;have l:=O.1;obtain⟨Z,_,_,Y,_⟩:=O.2 0 (.int i) (h.2[0]'(by rw[← l];show 0 < 3;decide)) rfl (afx _);cases Y
theorem nz:∀ z:List Int,PyData.canLayAll0 (z.map PyData.int)=true
 | []=>rfl
 | n::z=>by rw[af0];simp only[PyData.canLayAll0,PyData.canLay0,ahw];exact nz z
theorem sC:∀ z:List Int,PyData.eqvAll (z.map PyData.int) (z.map PyData.int)=true
 | []=>rfl
 | n::z=>by rw[af0];simp only[PyData.eqvAll,PyData.eqv,ahm,ahw];exact sC z
theorem mY:∀ z:List Int,PyData.depthAll (z.map PyData.int)=0
 | []=>rfl
 | n::z=>by
  have:=mY z;rw[af0];simp only[PyData.depthAll,PyData.depth,this];decide
theorem wL {A:Around}{neg:Bool}{H:Hp}{x y a b:Addr}{u v:V}{h:Hs}{ws:List Int}{Q:VK}(J:H x=some (.lst [u,.ref a]))(O:H y=some (.lst [v,.ref b]))(z:HouseAt H u h)(S:HouseAt H v h)(ok:dz h)(U:H a=some (.lst (ws.map V.int)))(Y:H b=some (.lst (ws.map V.int)))(Z:A.units+5 < cLine)(q:Q (.bl (if neg then false else true)) H):adj A neg (.ref x) (.ref y) H Q:=by
 have d:(PyData.list [aN h,.list (ws.map PyData.int)]).depth<=5:=by
  have h1:=ur h;have h2:=mY ws;simp only[PyData.depth,PyData.depthAll,h2];lia
 refine⟨.list [aN h,.list (ws.map PyData.int)],.list [aN h,.list (ws.map PyData.int)],.lst J (.cons (gw z) (.cons (.lst U (SeesAll.ints ws)) .nil)),.lst O (.cons (gw S) (.cons (.lst Y (SeesAll.ints ws)) .nil)),?_,?_,agc (agu (afR (aiw _ _) d) _) Z,?_⟩
 .simp only[PyData.canLay0,PyData.canLayAll0,nz,tE ok,ai2]
 .simp only[PyData.canLay0,PyData.canLayAll0,nz,tE ok,ai2]
 .have e:PyData.eqv (.list [aN h,.list (ws.map PyData.int)]) (.list [aN h,.list (ws.map PyData.int)])=true:=by
   simp only[PyData.eqv,PyData.eqvAll,sC,xU,ai2]
  rw[e];cases neg<;>exact q
theorem aed {xs:List Int}{r:Int}(J:0<=r)(h1:r < xs.length):∃ m∈xs,atI (xs.map V.int) r=some (.int m):=by
 obtain⟨j,rfl⟩:∃ j:Nat,r=(j:Int):=⟨r.toNat,by lia⟩;have z:j < xs.length:=by lia
 exact⟨xs[j],agg z,bU (by rw[afF,afx z];rfl)⟩
inductive ClI (v:V)(a d W:Addr)(h:Hs)(ps:List (List Nat))(H:Hp)(i:Nat)(σ:L2.St)(H':Hp):Prop
 | mk (x4 x5 x6:Option V):σ=[some v,some (.ref a),some (.ref d),some (.ref W),x4,x5,x6]->(∀ o∈ps.take i,∀ k,k < h.2.length->k ∉ o->xu h o k->aO (o++[k])∈ps.map aO)->Same H H'->ClI v a d W h ps H i σ H'
section
variable {P:Program}{w:World}{K:PySem.W.Frag}{mg:Str->Option Value}{base:Heap}{f:Addr}{fd:FuncData}
theorem dn:aA ["house","paper","doors","there","numbers","opened","further"] ["house","paper"] (ai dW):=scM rfl rfl rfl rfl (by decide +kernel)
theorem oq:(["numbers"]:List Str).Nodup:=by decide +kernel
theorem oM:(["number","there","opened"]:List Str).Nodup:=by decide +kernel
theorem ya (F:Fun K "is_closed" "is_closed" dW f fd){O:Addr}{J:FuncData}(bV:FnOk P w K mg base CX0 1 O J ["opened","number"] qV)(aS:Cal K mg "with_room" ["opened","number"] O J){U:Addr}{S:FuncData}(vF:FnOk P w K mg base CX0 2 U S ["numbers"] zO)(lO:Cal K mg "set_of" ["numbers"] U S){C:Addr}{fI fN fO:Addr}{ao ap ar:FuncData}(DC:jR K C)(C_Doors:Cls K C)(M_Doors:Mk K C fI)(Y:mg "Doors" = some (.ref C))(iS:FnOk P w K mg base CX0 1 fI ao ["self","house"] (zr C))(iC:Binds K ao ["self","house"] [])(df:ace K C "next_behind" fN)(c0:FnOk P w K mg base CX0 2 fN ap ["self","opened","hand"] (zz C))(dc:Binds K ap ["self","opened","hand"] [])(mj:ace K C "hand_of" fO)(mD:FnOk P w K mg base CX0 2 fO ar ["self","numbers"] (wc C))(m7:Binds K ar ["self","numbers"] [])(fz:mg "all" = none):FnOk P w K mg base CX0 4 f fd ["house","paper"] vw:=by
 refine F.ok dn (λvs H Q E h=>?_) (λbr A outer s H vs Q E hr h=>?_)
 .obtain⟨v,h,a,ys,ps,rfl,_⟩:=h
  rfl
 .have hu:=du hr;have bv:1000000 < sizeLine:=by decide
  obtain⟨v,h,a,ys,ps,rfl,hh,ok,aU,bx,ha,oa,pl,lt,q⟩:=h;refine⟨_,(ah (az (i:=2) dn.nd rfl (.inl rfl) (zJ M_Doors iS (hr.mono (by decide:2<=3)) rfl Y iC .nil jd (ae (pv 0) ag)))
   (ah (az (i:=3) dn.nd rfl (.inr rfl) (adf (tg:=.Name "numbers" _) (outer:=ai (dW)) (N:=["house","paper","doors","there","numbers","opened","further"]) (N':=["numbers"]) (nl:=1) (ix:=[]) rfl rfl rfl (aL (pv 1))
    (λ_ _ _ _=>(av (i:=0) oq rfl (.inl rfl) (.inr rfl))) (λ_ _ _ _=>aT)
    (λ_ _ _ _=>(pcl vF lO (hr.mono (by decide:2<=3)) rfl (ae (pv 0) ag))) (λ_ _ _ _=>fM)))
   (ah (bp (d9 agx rfl (aL (pv 1)) (av (i:=4) dn.nd rfl (.inl rfl))
    (ah (az (i:=5) dn.nd rfl (.inr rfl) (pcl vF lO (hr.mono (by decide:2<=3)) rfl (ae (pv 4) ag)))
    (ah (az (i:=6) dn.nd rfl (.inl rfl) (mf (pv 2) C_Doors df c0 (hr.mono (by decide:2<=3)) dc .nil jd (ae (pv 5) (ae (mf (pv 2) C_Doors mj mD (hr.mono (by decide:2<=3)) m7 .nil jd (ae (pv 4) ag)) ag))))
    (aq (cj (gd (cT (au (fh rfl) rfl fz (by decide +kernel) (ae (gm (tg:=.Name "number" _) (outer:=ai (dW)) (N:=["house","paper","doors","there","numbers","opened","further"]) (N':=["number","there","opened"]) (nl:=1) (ix:=[3,5]) rfl rfl rfl (aL (pv 6))
    (λ_ _ _ _=>(av (i:=0) oM rfl (.inl rfl) (.inr rfl))) (λ_ _ _ _=>aT)
    (λ_ _ _ _=>(abT (ab1 hu (pcl bV aS (hr.mono (by decide:1<=3)) rfl (ae (pv 2) (ae (pv 0) ag))) (pv 1))))) ag))))
     (aq (aD fM)) aF))))))
   (aq (aD fM))))),?_⟩
  refine⟨_,rfl,λd dx nd aV ne=>?_⟩;have sM:Same H (upd (upd H dx (.own d)) d (.ins C dx [])):=de (ak aV) nd;have dM:(upd (upd H dx (.own d)) d (.ins C dx [])) d=some (.ins C dx []):=af;generalize upd (upd H dx (.own d)) d (.ins C dx [])=HM at *;refine⟨d,dx,v,h,rfl,hh.same sM,ok,aU,dM,λks H1 KO b1 DA=>⟨rfl,?_⟩⟩;have s1:Same H H1:=λb u e=>b1 b u (aj e nd) (sM _ _ e);have as:=DA;obtain⟨aw,l,_,_,fs,h1,h2,_,_,h5,h6,h7,_,_,h0⟩:=DA;have ax:=oa.same s1;have bl:∀ o∈ps,∀ i∈o,i<=1000:=λo m i hi=>by have:=lt o m i hi;lia
  dsimp only [bu,tK,qR,tCB,fb,lV];refine qJ _ _ _ _ _ _ _ _ _ _ ?_;refine⟨_,rfl,a,rfl,⟨_,aAA (s1 _ _ ha)⟩,λW nW=>?_⟩;refine pP (xs:=ys) (λi es H'=>(∀ o,(gG es (kB o)).isSome=true↔aO o∈(ps.take i).map aO)/\es.length<=i/\H' W=some (.dK es)/\Same H1 H') ⟨λo=>by simp[gG],af5 _,af,ak nW⟩ (λi es H' ⟨_,_,e,_⟩=>e) (λi es H' ⟨_,_,_,s⟩=>aAA (s _ _ (s1 _ _ ha))) ?_ ?_
  .rintro i es H2 x hx ⟨iff,el,eW,s2⟩;obtain⟨o,b,eo,rfl,hb⟩:=ax.get hx;have hi:=(afA.mp hx).1;have yl:=oa.1;have tk:ps.take (i+1)=ps.take i++[o]:=by rw[agh,eo];rfl
   refine o4 rfl ?_;refine⟨_,rfl,b,o,rfl,s2 _ _ hb,bl o (afP eo),λH3 s3=>⟨kB o,rfl,s3 _ _ eW,by lia,nx hi ⟨λo'=>?_,?_,af,de (s2.trans s3) nW⟩⟩⟩
   .rw[vM,tk,afY,afV];show _↔_\/aO o'∈[aO o];rw[afD];by_cases e:kB o'=kB o
    .rw[if_pos e];exact⟨λ_=>.inr (rF e),λ_=>rfl⟩
    .rw[if_neg e,iff o'];exact⟨.inl,λz=>z.elim id λz=>absurd (by unfold kB;rw[z]) e⟩
   .have:=fT es (kB o) (.bl true);lia
  rintro es H2 ⟨iff,_,eW,s2⟩;rw[oa.1,agm] at iff;have aa:=s1.trans s2;refine⟨λσ H'=>ClI v a d W h ps H2 ps.length σ H',?_,?_⟩
  .rintro σ H3 ⟨x4,x5,x6,rfl,al,s3⟩;rw[agm] at al;exact q true H3 (aa.trans s3) ⟨λ_=>al,λ_=>rfl⟩
  .refine⟨_,rfl,a,rfl,⟨_,aAA (aa _ _ ha)⟩,?_⟩;refine gS (xs:=ys) (λi aY H'=>ClI v a d W h ps H2 i aY H') ⟨none,none,none,rfl,λo z=>by simp at z,Same.refl H2⟩ (λi σ H' _ ⟨_,_,_,_,_,s⟩=>aAA (s _ _ (aa _ _ ha))) ?_ (λσ H' z=>by rw[oa.1] at z;exact z);rintro i x σ H3 hx ⟨x4,x5,x6,rfl,al,s3⟩;obtain⟨o,b,eo,rfl,hb⟩:=ax.get hx;have om:=afP eo;have tk:ps.take (i+1)=ps.take i++[o]:=by rw[agh,eo];rfl
   have aC:=s2.trans s3;refine⟨_,rfl,b,o,rfl,aC _ _ hb,bl o om,λH4 s4=>?_⟩;have Z:=aC.trans s4;refine⟨_,rfl,d,aw,fs,rfl,Z _ _ h1,h6,_,rfl,_,rfl,d,aw,fs,rfl,Z _ _ h1,h0,_,rfl,d,b,h,ks,o,rfl,as.same Z,KO.few,by lia,Z _ _ hb,lt o om,λhv H5 s5 bH a0=>?_⟩;have a1:=Z.trans s5;refine⟨d,hv,o,h,ks,hvG h ks o,rfl,as.same a1,KO,a0,xS h ks o,by lia,λfu H6 s6 bK aE=>?_⟩;have am:=(s3.trans s4).trans (s5.trans s6);dsimp only [bu,tK,aen,ae3,tB,tCB,fb,lV];refine aB _ _ _ _ _ _ _ _ _ ?_;refine⟨_,rfl,fu,rfl,⟨_,aAA aE⟩,λD nD=>?_⟩;refine dD (F:=λx=>match x with | .int z=>.bl (decide (aO (o++[z.toNat])∈ps.map aO)) | v=>v) aE nD (by rw[afz];exact afR (agv _ _) (by rw[agK];lia)) (λx=>rfl) (λG x R hx sG r=>?_) (λG sG hD=>?_)
   .obtain⟨n,hn,rfl⟩:=afL.mp hx;have bO:=agP.mp (agi.mp hn).1;refine⟨_,rfl,_,rfl,aO o,n,rfl,by lia,λG2 aG=>?_⟩;rw[← dZ];refine⟨_,rfl,W,_,rfl,.k (k:=kB (o++[n])) (aG _ _ (sG _ _ (am _ _ eW))),?_⟩;have r:R (V.bl (decide (aO (o++[n])∈ps.map aO))) G2:=r G2 aG;rw[show (gG es (kB (o++[n]))).isSome=decide (aO (o++[n])∈ps.map aO) from ag3.mpr ((iff _).trans af9.symm)];exact r
   .refine⟨D,((List.range h.2.length).filter (nbB h ks (hvG h ks o) o)).map λn=>decide (aO (o++[n])∈ps.map aO),rfl,aAA (by rw[hD,af3,af3];rfl),_,rfl,?_⟩;have ia:(((List.range h.2.length).filter (nbB h ks (hvG h ks o) o)).map λn=>decide (aO (o++[n])∈ps.map aO)).all id=true↔∀ k,k < h.2.length->k ∉ o->xu h o k->aO (o++[k])∈ps.map aO:=by
     rw[ahG,agt];constructor
     .intro z k hk nk my;exact agz (z k (agi.mpr ⟨agP.mpr hk,by
       unfold nbB;rw[agf];exact⟨by simpa using nk,(tI hk KO).mpr my⟩⟩))
     .intro z k hk;obtain⟨m1,m2⟩:=agi.mp hk;have aH:=agP.mp m1;unfold nbB at m2;rw[agf] at m2;exact afM (z k aH (by simpa using m2.1) ((tI aH KO).mp m2.2))
    cases e2:(((List.range h.2.length).filter (nbB h ks (hvG h ks o) o)).map λn=>decide (aO (o++[n])∈ps.map aO)).all id with
    | true =>
     have:=ia.mp e2;refine cu ⟨_,_,_,rfl,λo' m'=>?_,am.trans sG⟩;rw[tk] at m';rcases afV.mp m' with z | z
     .exact al o' z
     .rw[afD.mp z];exact this
    | false =>
     refine dt (q false G (aa.trans (am.trans sG)) ⟨λz=>(by cases z),λz=>?_⟩);have:=ia.mpr (z o om);rw[e2] at this;cases this
end
def aa8 (K:PySem.W.Frag):Sp:=λvs H Q _=>∃ (a:Addr) (ns:List Int),vs=[.ref a]/\SqL K H a (ns.map V.int)/\∀ H',Q (.bl true) H'
structure PerA (p:Addr)(v:V)(h:Hs)(W:Addr)(ws:List Int)(H0 H:Hp):Prop where
 hh:HouseAt H v h
 eW:H W=some (.lst (ws.map V.int))
 nW:W≠p
 dk:PoolD H p
 b:But p H0 H
theorem PerA.same {p W:Addr}{v:V}{h:Hs}{ws:List Int}{z H H':Hp}(x:PerA p v h W ws z H)(s:Same H H'):PerA p v h W ws z H':=⟨x.hh.same s,s _ _ x.eW,x.nW,x.dk.same s,x.b.trans (aH s)⟩
theorem PerA.but {p W:Addr}{v:V}{h:Hs}{ws:List Int}{z H H':Hp}(x:PerA p v h W ws z H)(d:PoolD H' p)(s:But p H H'):PerA p v h W ws z H':=⟨x.hh.pool x.dk s,s _ _ x.nW x.eW,x.nW,d,x.b.trans s⟩
structure KepI (p Kp:Addr)(kys:List V)(ss:List (List Nat))(H:Hp):Prop where
 eK:H Kp=some (.lst kys)
 nK:Kp≠p
 o:OrdsZ H kys (ss.map zs)
 np:∀ y∈kys,∃ b:Addr,y=.ref b/\b≠p
theorem OrdsZ.but {p:Addr}{H H':Hp}{ys:List V}{J:List (List Int)}(o:OrdsZ H ys J)(S:∀ y∈ys,∃ b:Addr,y=.ref b/\b≠p)(s:But p H H'):OrdsZ H' ys J:=⟨o.1,λj y l O U=>by
 obtain⟨b,e,Y⟩:=o.2 j y l O U;obtain⟨Z,z,n⟩:=S y (afP O);rw[e] at z;injection z with z
 rw[← z] at n;exact⟨b,e,s _ _ n Y⟩⟩
theorem KepI.same {p Kp:Addr}{z:List V}{ss:List (List Nat)}{H H':Hp}(x:KepI p Kp z ss H)(s:Same H H'):KepI p Kp z ss H':=⟨s _ _ x.eK,x.nK,x.o.same s,x.np⟩
theorem KepI.but {p Kp:Addr}{z:List V}{ss:List (List Nat)}{H H':Hp}(x:KepI p Kp z ss H)(s:But p H H'):KepI p Kp z ss H':=⟨s _ _ x.nK x.eK,x.nK,x.o.but x.np s,x.np⟩
theorem PaperR.small {h:Hs}{ss:List (List Nat)}(p:PaperR h ss):ss≠[]/\∀ s∈ss,s.length<=h.2.length:=⟨List.ne_nil_of_mem ((p.mem []).mpr ⟨[],iN _ _,rfl⟩),λs z=>by
 obtain⟨o,g,rfl⟩:=(p.mem s).mp z;rw[(bj (aG o g)).length_eq];exact i8 g⟩
inductive ZaI (a:Addr)(H:Hp)(σ:L2.St)(H':Hp):Prop
 | mk (x1 x2 x3 x4 x5 x6 x7 x8 x9 x10 x11 x12 x13 x14 x15:Option V):σ=[some (.ref a),x1,x2,x3,x4,x5,x6,x7,x8,x9,x10,x11,x12,x13,x14,x15]->Same H H'->ZaI a H σ H'
inductive ZbI (a:Addr)(x1:Option V)(p:Addr)(v:V)(h:Hs)(x4:Option V)(W:Addr)(ws:List Int)(m:Int)(H0:Hp)(i:Nat)(σ:L2.St)(H':Hp):Prop
 | mk (x7 x8 x9 x10 x11 x12 x13 x14 x15:Option V):σ=[some (.ref a),x1,some (.ref p),some v,x4,some (.ref W),some (.int m),x7,x8,x9,x10,x11,x12,x13,x14,x15]->PerA p v h W ws H0 H'->(0 < i->∃ Kp kys ss,x9=some (.ref Kp)/\KepI p Kp kys ss H'/\PaperR h ss/\ss.length<=128)->ZbI a x1 p v h x4 W ws m H0 i σ H'
inductive ZcI (a:Addr)(x1:Option V)(p:Addr)(v:V)(h:Hs)(x4:Option V)(W:Addr)(ws:List Int)(m:Int)(x7 x8:Option V)(Kp:Addr)(kys:List V)(ss:List (List Nat))(H0:Hp)(σ:L2.St)(H':Hp):Prop
 | mk (x10 x11 x12 x13 x14 x15:Option V):σ=[some (.ref a),x1,some (.ref p),some v,x4,some (.ref W),some (.int m),x7,x8,some (.ref Kp),x10,x11,x12,x13,x14,x15]->PerA p v h W ws H0 H'->KepI p Kp kys ss H'->ZcI a x1 p v h x4 W ws m x7 x8 Kp kys ss H0 σ H'
inductive ZdI (a:Addr)(x1:Option V)(p:Addr)(v:V)(h:Hs)(x4:Option V)(W:Addr)(ws:List Int)(m:Int)(x7 x8:Option V)(Kp:Addr)(kys:List V)(ss:List (List Nat))(x10:Option V)(H0:Hp)(σ:L2.St)(H':Hp):Prop
 | mk (Sd:Addr) (us:List V) (ms:List (List Int)) (x12 x13 x14 x15:Option V):σ=[some (.ref a),x1,some (.ref p),some v,x4,some (.ref W),some (.int m),x7,x8,some (.ref Kp),x10,some (.ref Sd),x12,x13,x14,x15]->PerA p v h W ws H0 H'->KepI p Kp kys ss H'->H' Sd=some (.lst us)->Sd≠p->OrdsZ H' us ms->ms.length<=200->(∀ l∈ms,l.length<=40)->(∀ y∈us,∃ b:Addr,y=.ref b/\b≠p)->ZdI a x1 p v h x4 W ws m x7 x8 Kp kys ss x10 H0 σ H'
section
variable {P:Program}{w:World}{K:PySem.W.Frag}{mg:Str->Option Value}{base:Heap}{f:Addr}{fd:FuncData}
theorem dH:aA ["script","k","pool","house","many","worths","most","again","paper","kept","turn","some","number","handed","kind","found"] ["script"] (ai sW):=scM rfl rfl rfl rfl (by decide +kernel)
theorem aa6:(["room","pool"]:List Str).Nodup:=by decide +kernel
theorem qj:(["rooms"]:List Str).Nodup:=by decide +kernel
theorem adH (F:Fun K "law" "law" aeD f fd){aG:Addr}{ad:FuncData}(uV:FnOk P w K mg base CX0 1 aG ad ["script","k"] (yj K))(jv:Cal K mg "_law_pool" ["script","k"] aG ad){aI:Addr}{am:FuncData}(ay:FnOk P w K mg base CX0 1 aI am ["pool","many"] pf)(aw:Cal K mg "_law_draw" ["pool","many"] aI am){an:Addr}{S:FuncData}(sd:FnOk P w K mg base CX0 3 an S ["pool","many"] vQ)(ip:Cal K mg "_law_house" ["pool","many"] an S){ap:Addr}{Y:FuncData}(rz:FnOk P w K mg base CX0 9 ap Y ["house","worths"] aah)(iI:Cal K mg "most_worth" ["house","worths"] ap Y){aK:Addr}{as:FuncData}(dR:FnOk P w K mg base CX0 5 aK as ["thing"] (aei 4))(aX:Cal K mg "_law_copy" ["thing"] aK as){Z:Addr}{J:FuncData}(jM:FnOk P w K mg base CX0 9 Z J ["house","worths"] yA)(fj:Cal K mg "worth_paper" ["house","worths"] Z J){aA:Addr}{aa:FuncData}(lA:FnOk P w K mg base CX0 2 aA aa ["house","worths","paper","worth"] vG)(gg:Cal K mg "_law_shows" ["house","worths","paper","worth"] aA aa){ac:Addr}{O:FuncData}(gW:FnOk P w K mg base CX0 9 ac O ["house","worths","paper","worth"] xP)(dA:Cal K mg "worth_shows" ["house","worths","paper","worth"] ac O){aM:Addr}{aC:FuncData}(nP:FnOk P w K mg base CX0 2 aM aC ["pool","paper","many"] ab7)(gR:Cal K mg "_law_bent" ["pool","paper","many"] aM aC)(bf:mg "range" = none)(uM:mg "max" = none)(qd:mg "min" = none)(cg:mg "len" = none)(ox:mg "int" = none)(aJ:mg "list" = none)(ax:mg "isinstance" = none)(pd:mg "bool" = none)(qI:mg "sum" = none):FnOk P w K mg base CX0 11 f fd ["script"] (aa8 K):=by
 refine F.ok dH (λvs H Q E h=>?_) (λe6 A outer s H vs Q E hr h=>?_)
 .obtain⟨a,ns,rfl,_⟩:=h
  rfl
 .obtain⟨a,ns,rfl,hS,k⟩:=h;have hu:=du hr;have gB:1000000 < sizeLine:=by decide
  have bG:∀ {n:Nat},n<=12->(A.deeper (envOfC "law" (ai aeD) s.heap.objs.size f e6)).units+(n+1) < cLine:=fun {n} h=>agc (agu (afR (aif h) (by decide:13<=64)) _) hr.units;refine⟨_,(ah (bp (d9 agx rfl (cy rfl bf (ae (au (rY rfl) rfl uM (by decide +kernel) (ae ar (ae (au (xN rfl) rfl qd (by decide +kernel) (ae ar (ae (au aQ rfl cg agH (ae (pv 0) ag)) ag))) ag))) ag)) (av (i:=1) dH.nd rfl (.inl rfl))
   (ah (az (i:=2) dH.nd rfl (.inr rfl) (pcl uV jv (hr.mono (by decide:1<=10)) rfl (ae (pv 0) (ae (pv 1) ag))))
   (ah (az (i:=3) dH.nd rfl (.inl rfl) (pcl sd ip (hr.mono (by decide:3<=10)) rfl (ae (pv 2) (ae (bR bq (cJ (ae (pcl ay aw (hr.mono (by decide:1<=10)) rfl (ae (pv 2) (ae ar ag))) (ae (bN gA ar (pcl ay aw (hr.mono (by decide:1<=10)) rfl (ae (pv 2) (ae ar ag)))) ag))) (aV mE rfl ox (by decide +kernel) (ae (fQ jt (pcl ay aw (hr.mono (by decide:1<=10)) rfl (ae (pv 2) (ae ar ag))) ar (aP _)) ag)) (λ_ _=>rfl)) ag))))
   (ah (az (i:=4) dH.nd rfl (.inl rfl) (au aQ rfl cg agH (ae (bR il (pv 3) ar (λ_ _=>rfl)) ag)))
   (ah (iH (i:=5) (tg:=.Name "room" _) (outer:=ai (sW)) (N:=["script","k","pool","house","many","worths","most","again","paper","kept","turn","some","number","handed","kind","found"]) (N':=["room","pool"]) (nl:=1) (ix:=[2]) dH.nd rfl (.inl rfl) rfl rfl rfl (cy rfl bf (ae (pv 4) ag))
   (λ_ _ _ _=>(av (i:=0) aa6 rfl (.inl rfl) (.inr rfl))) (λ_ _ _ _=>aT)
   (λ_ _ _ _=>(bR (jG (K:=K) rfl) (cJ (ae ar (ae (pcl ay aw (hr.mono (by decide:1<=10)) rfl (ae (pv 1) (ae ar ag))) (ae (pcl ay aw (hr.mono (by decide:1<=10)) rfl (ae (pv 1) (ae (bN acd ar ar) ag))) ag)))) (pcl ay aw (hr.mono (by decide:1<=10)) rfl (ae (pv 1) (ae ar ag))) (λ_ _=>rfl))))
   (ah (az (i:=6) dH.nd rfl (.inl rfl) (bR il (pcl rz iI (hr.mono (by decide:9<=10)) rfl (ae (pv 3) (ae (aV bO rfl aJ (by decide +kernel) (ae (pv 5) ag)) ag))) ar (λ_ _=>rfl)))
   (ah (bp (d9 agx rfl (cy rfl bf (ae ar ag)) (av (i:=7) dH.nd rfl (.inl rfl))
    (ah (az (i:=8) dH.nd rfl (.inl rfl) (pcl jM fj (hr.mono (by decide:9<=10)) rfl (ae (pv 3) (ae (aV bO rfl aJ (by decide +kernel) (ae (pv 5) ag)) ag))))
    (ah (cj (gd (cT (pcl lA gg (hr.mono (by decide:2<=10)) rfl (ae (pv 3) (ae (pv 5) (ae (pv 8) (ae (pv 6) ag)))))))
     (aq (aD fM)) aF)
    (ah (iH (i:=9) (tg:=.Name "rooms" _) (outer:=ai (sW)) (N:=["script","k","pool","house","many","worths","most","again","paper","kept","turn","some","number","handed","kind","found"]) (N':=["rooms"]) (nl:=1) (ix:=[]) dH.nd rfl (.inl rfl) rfl rfl rfl (aL (pv 8))
   (λ_ _ _ _=>(av (i:=0) qj rfl (.inl rfl) (.inr rfl))) (λ_ _ _ _=>aT)
   (λ_ _ _ _=>(aV (iW (K:=K) rfl) rfl aJ (by decide +kernel) (ae (pv 0) ag))))
    (ah (cj (gd (cT (pcl gW dA (hr.mono (by decide:9<=10)) rfl (ae (pcl dR aX (hr.mono (by decide:5<=10)) rfl (ae (pv 3) ag)) (ae (aV bO rfl aJ (by decide +kernel) (ae (pv 5) ag)) (ae (pv 8) (ae (pv 6) ag)))))))
     (aq (aD fM)) aF)
    (ah (dg (jN agb agW agX cx (bR bq (pv 8) ar (λ_ _=>rfl)) (ae ar ag)))
    (aq (dg (jN agb agW agX cx (pv 8) (ae (cJ (ae ar ag)) ag)))))))))))
   (ah (iH (i:=7) (tg:=.Name "rooms" _) (outer:=ai (sW)) (N:=["script","k","pool","house","many","worths","most","again","paper","kept","turn","some","number","handed","kind","found"]) (N':=["rooms"]) (nl:=1) (ix:=[]) dH.nd rfl (.inl rfl) rfl rfl rfl (aL (pv 9))
   (λ_ _ _ _=>(av (i:=0) qj rfl (.inl rfl) (.inr rfl))) (λ_ _ _ _=>aT)
   (λ_ _ _ _=>(aV (iW (K:=K) rfl) rfl aJ (by decide +kernel) (ae (pv 0) ag))))
   (ah (bp (cj (PW.pt (m8 (aE wY (pv 6) ar (aP _)) (kN (cT (pcl gW dA (hr.mono (by decide:9<=10)) rfl (ae (pcl dR aX (hr.mono (by decide:5<=10)) rfl (ae (pv 3) ag)) (ae (aV bO rfl aJ (by decide +kernel) (ae (pv 5) ag)) (ae (pv 7) (ae (bN u9 (pv 6) ar) ag)))))))))
    (aq (aD fM)) aF))
   (aq (bp (d9 agx rfl (cy rfl bf (ae ar ag)) (av (i:=10) dH.nd rfl (.inl rfl))
    (ah (az (i:=11) dH.nd rfl (.inl rfl) (pcl nP gR (hr.mono (by decide:2<=10)) rfl (ae (pv 2) (ae (pv 9) (ae (pv 4) ag)))))
    (ah (bp (cj (aE jt (pcl ay aw (hr.mono (by decide:1<=10)) rfl (ae (pv 2) (ae ar ag))) ar (aP _))
     (aq (az (i:=11) dH.nd rfl (.inl rfl) (pcl nP gR (hr.mono (by decide:2<=10)) rfl (ae (pv 2) (ae (bN pq (pv 11) (bN adE (cJ (ae oo ag)) (aV mE rfl ox (by decide +kernel) (ae (fQ yk (pv 11) oo (aP _)) ag)))) (ae (pv 4) ag)))))) aF))
    (ah (az (i:=12) dH.nd rfl (.inl rfl) (bR bq (cJ (ae (pv 6) (ae (pv 6) (ae (bN gA (pv 6) ar) (ae (au (m9 rfl) rfl qI (by decide +kernel) (ae (pv 5) ag)) (ae (au (rY rfl) rfl uM (by decide +kernel) (ae ar (ae (bN u9 (pv 6) ar) ag))) (ae (abL vt ar) ag))))))) (pcl ay aw (hr.mono (by decide:1<=10)) rfl (ae (pv 2) (ae ar ag))) (λ_ _=>rfl)))
    (ah (iH (i:=13) (tg:=.Name "rooms" _) (outer:=ai (sW)) (N:=["script","k","pool","house","many","worths","most","again","paper","kept","turn","some","number","handed","kind","found"]) (N':=["rooms"]) (nl:=1) (ix:=[]) dH.nd rfl (.inl rfl) rfl rfl rfl (aL (pv 11))
   (λ_ _ _ _=>(av (i:=0) qj rfl (.inl rfl) (.inr rfl))) (λ_ _ _ _=>aT)
   (λ_ _ _ _=>(aV (iW (K:=K) rfl) rfl aJ (by decide +kernel) (ae (pv 0) ag))))
    (ah (az (i:=14) dH.nd rfl (.inl rfl) (cJ (ae (pcl dR aX (hr.mono (by decide:5<=10)) rfl (ae (pv 3) ag)) (ae (aV bO rfl aJ (by decide +kernel) (ae (pv 5) ag)) ag))))
    (ah (az (i:=15) dH.nd rfl (.inl rfl) (pcl gW dA (hr.mono (by decide:9<=10)) rfl (ae (bR bq (pv 14) ar (λ_ _=>rfl)) (ae (bR bq (pv 14) ar (λ_ _=>rfl)) (ae (pv 13) (ae (pv 12) ag))))))
    (ah (cj (PW.pt (mM (gd (cT (au aW rfl ax (by decide +kernel) (ae (pv 15) (ae (dO (v:=.ty "bool") (u:=.type "bool") rfl pd (by decide +kernel) rfl) ag))))) (mM (aE acU (pv 15) (pcl lA gg (hr.mono (by decide:2<=10)) rfl (ae (pv 3) (ae (pv 5) (ae (pv 11) (ae (pv 12) ag))))) (aP _)) (j0 (aE rk (pv 13) (pv 11) (aP _))))))
     (aq (aD fM)) aF)
    (ah (dg (pcl jM fj (hr.mono (by decide:9<=10)) rfl (ae (bR bq (pv 14) ar (λ_ _=>rfl)) (ae (bR bq (pv 14) ar (λ_ _=>rfl)) ag))))
    (ah (cj (aE rk (pv 14) (cJ (ae (pv 3) (ae (pv 5) ag))) (aP _))
     (aq (aD fM)) aF)
    (aq (cj (PW.pt (m8 (cT (pv 15)) (kN (aE wK (pv 12) (pv 6) (aP _)))))
     (aq (aD fM)) aF))))))))))))))))))))))))
   (aq (aD fM))),?_⟩
  refine⟨λσ H'=>ZaI a H σ H',?_,?_⟩
  .rintro σ H' ⟨x1,x2,x3,x4,x5,x6,x7,x8,x9,cM,cN,cb,cc,ce,cf,rfl,_⟩;exact k H'
  refine⟨_,rfl,a,_,rfl,.inl hS,4,_,rfl,1,_,rfl,_,rfl,?_,?_,?_⟩
  .split<;>split<;>lia
  .split<;>split<;>lia
  refine fP (λi σ H'=>ZaI a H σ H') ⟨none,none,none,none,none,none,none,none,none,none,none,none,none,none,none,rfl,Same.refl H⟩ ?_ (λσ H' z=>z);rintro i σ H1 hi ⟨x1,x2,x3,x4,x5,x6,x7,x8,x9,cM,cN,cb,cc,ce,cf,rfl,s1⟩;have i0:(0:Int)+((i:Nat):Int)=((i:Nat):Int):=alZ _;refine⟨_,rfl,_,rfl,a,i,ns,agS (λz=>[V.ref a,V.int z]) i0,s1.seq hS,λp H2 np s2 ch=>?_⟩;refine⟨_,rfl,_,rfl,p,6,rfl,ch,by decide,by decide,λr6 H3 cP cQ ci b3=>⟨_,rfl,p,2,rfl,ci,by decide,by decide,λr2 H4 e9 fa bi b4=>⟨_,_,rfl,rfl,by show 2<=sizeLine;decide,λl2 n2=>?_⟩⟩⟩;have s3:Same H4 (upd H4 l2 (.lst [.int r6,.int (6+r2)])):=ak n2;have e3:(upd H4 l2 (.lst [.int r6,.int (6+r2)])) l2=some (.lst [.int r6,.int (6+r2)]):=af;have dE:l2≠p:=bi.ne n2;generalize upd H4 l2 (.lst [.int r6,.int (6+r2)])=H5 at *;refine⟨_,rfl,p,8,rfl,bi.same s3,by decide,by decide,λr8 H6 fb fc a7 b6=>⟨rfl,.inr ⟨_,rfl,?_⟩⟩⟩;obtain⟨n,gK,en⟩:∃ n:Nat,n<=7/\atI [V.int r6,V.int (6+r2)] (if decide (V.int r8=V.int 1)=true then 1 else 0)=some (.int ((n:Nat):Int)):=by
   by_cases e:decide (V.int r8=V.int 1)=true
   .rw[if_pos e];refine⟨(6+r2).toNat,by lia,?_⟩;rw[show (((6+r2).toNat:Nat):Int)=6+r2 by lia];exact bU (j:=1) rfl
   .rw[if_neg e];refine⟨r6.toNat,by lia,?_⟩;rw[show ((r6.toNat:Nat):Int)=r6 by lia];exact bU (j:=0) rfl
  refine⟨l2,_,_,_,rfl,rfl,aAA (b6 _ _ dE e3),en,?_⟩;refine⟨p,n,rfl,a7,by lia,λv h U H7 hh hs a8 b7=>?_⟩;have dG:But p H1 H7:=λb u nb e=>b7 _ _ nb (b6 _ _ nb (s3 _ _ (b4 _ _ nb (b3 _ _ nb (s2 _ _ e)))));have ok:=hs.ok (show n<=12 by lia);have rl:=hs.rl;have l7:h.2.length<=7:=by lia
  have a0:h.2.length<=12:=by lia
  have bj:aaX h:=zR a0 λr hr=>(ok.rs r hr).l4;have cU:Cpy 4 (aN h):=.house (by have:=hs.bl;lia) (by lia) (λr hr=>by
   have y:=hs.rm r hr;have:=y.l4;have:=y.w6;exact⟨by lia,by lia⟩)
  obtain⟨tt,a1,rr,dI,ev,dJ,_,dL,dM⟩:=id hh;have ul:dI.length=h.2.length:=dM.1;refine⟨_,rfl,tt,_,1,.ref rr,ev,rfl,aAB dJ,rfl,rr,dI,rfl,.inl (aAA dL),?_⟩;rw[ul];clear s2 b3 b4 s3 e3 b6 dJ dL dM ul ch ci bi a7 n2 dE cP cQ fb fc e9 fa en;dsimp only [bu,tK,qR];refine aB _ _ _ _ _ _ _ _ _ ?_;refine⟨_,rfl,((h.2.length:Nat):Int),rfl,by lia,by lia,λW nW=>?_⟩;rw[agk];have bk:=a8.ne nW;have s0:Same H7 (upd H7 W (.lst [])):=ak nW;refine i6 (n:=h.2.length) (λi ys H'=>∃ ws:List Int,ys=ws.map V.int/\ws.length=i/\(∀ x∈ws,0<=x)/\H' W=some (.lst ys)/\PoolD H' p/\But p H7 H') ⟨[],rfl,rfl,λ_ h=>(nomatch h),af,a8.same s0,aH s0⟩ (λi ys H' ⟨_,_,_,_,h,_⟩=>h) ?_ ?_
  .rintro i ys H2 hi ⟨ws,rfl,wl,nn,hD,ch,b2⟩;refine dy rfl ?_;refine⟨_,rfl,p,4,rfl,ch,by decide,by decide,λr4 H3 gP gQ ci b3=>?_⟩;refine⟨_,rfl,10,28,rfl,rfl,⟨by decide,by decide,by decide⟩,p,10000000000000000000000000000,rfl,ci,by decide,by decide,λbI H4 f3 f4 bi b4=>⟨by show 3<=sizeLine;decide,λl nl=>?_⟩⟩;have ff:=b4 _ _ bk (b3 _ _ bk hD);have sl:Same H4 (upd H4 l (.lst [.int 1,.int r4,.int bI])):=ak nl;have el:(upd H4 l (.lst [.int 1,.int r4,.int bI])) l=some (.lst ([1,r4,bI].map V.int)):=af;have cl:l≠p:=bi.ne nl;generalize upd H4 l (.lst [.int 1,.int r4,.int bI])=H5 at *;refine⟨_,rfl,p,3,rfl,bi.same sl,by decide,by decide,λr H6 r0 r1 a7 b6=>?_⟩;obtain⟨m,hm,em⟩:=aed (xs:=[1,r4,bI]) r0 r1;have m0:0<=m:=by
    simp only[afZ,agA,aju] at hm;lia
   refine⟨l,_,r,_,rfl,rfl,aAA (b6 _ _ cl el),em,b6 _ _ bk (sl _ _ ff),by rw[afz];lia,nx hi ⟨ws++[m],by rw[afY];rfl,by rw[afH,wl];rfl,λx hx=>?_,af,a7.off bk,((((b2.trans b3).trans b4).trans (aH sl)).trans b6).new nW⟩⟩;rcases afV.mp hx with z | z
   .exact nn x z
   .rw[afD.mp z];exact m0
  rintro ys H8 ⟨ws,rfl,wl,nn,eW,bJ,b8⟩;have a9:PerA p v h W ws H1 H8:=⟨hh.pool a8 b8,eW,bk,bJ,dG.trans b8⟩;clear hh a8 b7 b8 bJ eW s0 nW bk dG;refine⟨_,rfl,_,rfl,W,_,rfl,.inl (aAA a9.eW),λW1 cm=>?_⟩;have s9:Same H8 (upd H8 W1 (.lst (ws.map V.int))):=ak cm;have cn:(upd H8 W1 (.lst (ws.map V.int))) W1=some (.lst (ws.map V.int)):=af;generalize upd H8 W1 (.lst (ws.map V.int))=H9 at *;refine⟨v,h,W1,ws,rfl,a9.hh.same s9,ok,bj,a0,cn,wl,nn,λT D m fw r aS aZ nT nD ne eT eD mr=>?_⟩;obtain⟨rg,rh,rm,_,_⟩:=mr;refine⟨T,_,0,_,rfl,rfl,aAB eT,rfl,?_⟩;have ba:=a9.same (s9.trans aZ);clear a9 s9 aZ cm cn eT eD nT nD ne;refine⟨λσ H'=>ZbI a (some (.int (0+((i:Nat):Int)))) p v h (some (.int ((h.2.length:Nat):Int))) W ws m H1 2 σ H',?_,?_⟩;rotate_left
  .refine⟨2,rfl,by decide,by decide,?_⟩;refine fP (λi2 σ H'=>ZbI a (some (.int (0+((i:Nat):Int)))) p v h (some (.int ((h.2.length:Nat):Int))) W ws m H1 i2 σ H') ⟨_,_,_,_,_,_,_,_,_,rfl,ba,λz=>absurd z (agB 0)⟩ ?_ (λσ H' z=>z);rintro i2 σ H2 g6 ⟨x7,x8,x9,cM,cN,cb,cc,ce,cf,rfl,pe,_⟩;refine⟨_,rfl,_,rfl,W,_,rfl,.inl (aAA pe.eW),λW1 cm=>?_⟩;have s3:Same H2 (upd H2 W1 (.lst (ws.map V.int))):=ak cm;have cn:(upd H2 W1 (.lst (ws.map V.int))) W1=some (.lst (ws.map V.int)):=af;generalize upd H2 W1 (.lst (ws.map V.int))=H3 at *;refine⟨v,h,W1,ws,rfl,pe.hh.same s3,ok,bj,a0,cn,wl,nn,λL ys ss H4 s4 nL eL cY el pr pl=>?_⟩;obtain⟨cZ,co⟩:=pr.small;have be:ss.length<=128:=afR pl (ahE (by decide) l7);have oL:OrdsAt H4 ys ss:=⟨cY.symm,λj y o e1 e2=>let ⟨b,e,hb,_⟩:=el j y o e1 e2;⟨b,e,hb⟩⟩;have br:=s3.trans s4;have lz:∀ l∈ss.map zs,l.length<=60:=λl hl=>by
    obtain⟨s,c0,rfl⟩:=afL.mp hl;have:=co s c0;rw[afz];lia
   refine⟨_,rfl,_,rfl,_,rfl,_,rfl,v,h,W,ws,L,ys,ss.map zs,m,rfl,pe.hh.same br,ok,a0,br _ _ pe.eW,wl,eL,oL.z,by rw[afz];lia,lz,λb1 H5 s5 i1=>⟨b1,rfl,?_⟩⟩;have sh:=pr.shows (ws:=ws) (wt:=m) λo g=>rm o g;obtain rfl:b1=true:=i1.mpr sh;refine cu ?_;dsimp only [kF,bu,tK,qR];refine aB _ _ _ _ _ _ _ _ _ ?_;refine⟨_,rfl,L,rfl,⟨_,aAA (s5 _ _ eL)⟩,λD nD=>?_⟩;refine i7 (ks:=ss) (pb:=λ_=>true) (F:=λs=>cO s) (s5 _ _ eL) nD (by lia) cY.symm (λx=>rfl) (λG j x s R _ _ sG r=>r G (Same.refl G)) (λG j x s R ex es _ sG r=>?_) λbg H6 s6 eD rl=>?_
   .obtain⟨b,rfl,hb⟩:=oL.2 j x s ex es;exact⟨_,rfl,b,_,rfl,.inl (aAA (sG _ _ (s5 _ _ hb))),λl1 n1=>r l1 _ (ak n1) n1 af⟩
   rw[aie.mpr (λ_ _=>rfl)] at rl;have fh:=(br.trans s5).trans s6;have bL:=pe.same fh;refine⟨_,rfl,v,aN h,rfl,gw bL.hh,cU,λu H7 s7 su=>?_⟩;have fi:HouseAt H7 u h:=kD (Sees.same lW su);have cq:=bL.same s7;refine⟨_,rfl,W,_,rfl,.inl (aAA cq.eW),λW2 bt=>?_⟩;have s8:Same H7 (upd H7 W2 (.lst (ws.map V.int))):=ak bt;have bv:(upd H7 W2 (.lst (ws.map V.int))) W2=some (.lst (ws.map V.int)):=af;generalize upd H7 W2 (.lst (ws.map V.int))=H8 at *;have dU:=s7.trans s8;have c2:=(s5.trans s6).trans dU;refine⟨_,rfl,_,rfl,u,h,W2,ws,L,ys,ss.map zs,m,rfl,fi.same s8,ok,bj,a0,bv,wl,nn,c2 _ _ eL,oL.z.same c2,by rw[afz];lia,λl hl=>afR (lz l hl) (by decide),λb2 H9 s9 fk=>⟨b2,rfl,?_⟩⟩;obtain rfl:b2=true:=fk.mpr sh;refine cu ?_;have bM:=c2.trans s9;have dV:=dU.trans s9;have fl:=br.trans bM;have yl:0 < ys.length:=by rw[← cY];exact aiP.mpr cZ
   obtain⟨s0,b0,dW,dX,c3⟩:=oL.get (afx yl);have dY:H3 b0=none/\b0≠L:=by
    obtain⟨b,e,_,n,nl⟩:=el 0 _ s0 (afx yl) dW;rw[dX] at e;cases e;exact⟨n,nl⟩
   have g9:=co s0 (afP dW);dsimp only [kF];refine⟨_,rfl,L,_,0,.ref b0,rfl,rfl,aAA (bM _ _ eL),bU (j:=0) (by rw[afx yl,dX]),.inl ⟨rfl,_,aAA (bM _ _ c3)⟩,b0,_,_,rfl,rfl,bM _ _ c3,by rw[afz];lia,?_⟩;have k1:∀ c u,c≠b0->H9 c=some u->(upd H9 b0 (.lst (cO s0++[.int 9]))) c=some u:=λc u n e=>by rw[ao n];exact e
   have t1:Same H2 (upd H9 b0 (.lst (cO s0++[.int 9]))):=de fl (s3.free dY.1);generalize upd H9 b0 (.lst (cO s0++[.int 9]))=X1 at *;have dZ:=k1 _ _ (ahf dY.2) (bM _ _ eL);refine⟨_,rfl,.inl ⟨rfl,_,aAA dZ⟩,by show 1<=sizeLine;decide,λl9 n9=>?_⟩;have aZ:Same X1 (upd X1 l9 (.lst [.int 9])):=ak n9;generalize upd X1 l9 (.lst [.int 9])=X2 at *;refine⟨L,ys,_,rfl,rfl,aZ _ _ dZ,by lia,?_⟩;have k2:∀ c u,c≠b0->c≠L->H9 c=some u->(upd X2 L (.lst (ys++[.ref l9]))) c=some u:=λc u n n' e=>by rw[ao n'];exact aZ _ _ (k1 _ _ n e)
   have t2:Same H2 (upd X2 L (.lst (ys++[.ref l9]))):=de (t1.trans aZ) (s3.free nL);generalize upd X2 L (.lst (ys++[.ref l9]))=X3 at *;have fr:∀ c,H5 c=none->c≠b0/\c≠L:=λc e=>⟨λz=>(by rw[z,s5 _ _ c3] at e;cases e),λz=>(by rw[z,s5 _ _ eL] at e;cases e)⟩;refine .mk _ _ _ _ _ _ _ _ _ rfl (pe.same t2) λ_=>⟨D,bg,ss,rfl,⟨k2 _ _ (fr D nD).1 (fr D nD).2 (dV _ _ eD),(pe.dk.same (br.trans s5)).ne nD,⟨by rw[afz];exact rl.len,λj y l e1 e2=>?_⟩,λy hy=>?_⟩,pr,be⟩
   .rw[afF] at e2;obtain⟨s,es,rfl⟩:=agQ.mp e2;obtain⟨b,e,hb,_,n0⟩:=rl.at_ j y s e1 es;refine⟨b,e,?_⟩;rw[k2 _ _ (fr b n0).1 (fr b n0).2 (dV _ _ hb),zs,af3]
    rfl
   .obtain⟨j,hj⟩:=agp hy;have h1:=(afA.mp hj).1;obtain⟨b,e,hb,_,n0⟩:=rl.at_ j y _ hj (afx (show j < ss.length by have:=rl.len;lia));exact⟨b,e,(pe.dk.same (br.trans s5)).ne n0⟩
  rintro σ H2 ⟨x7,x8,x9,cM,cN,cb,cc,ce,cf,rfl,pe,ke⟩;obtain⟨Kp,bg,ss,rfl,kp,pr,be⟩:=ke (by decide);obtain⟨cZ,co⟩:=pr.small;clear ba ke;have zl:(ss.map zs).length<=128:=by rw[afz];exact be
  have d1:∀ l∈ss.map zs,l.length<=12:=λl hl=>by
   obtain⟨s,c0,rfl⟩:=afL.mp hl;have:=co s c0;rw[afz];lia
  have fu:ss.map zs≠[]:=λz=>cZ (List.map_eq_nil_iff.mp z);have kl:=kp.o.1;dsimp only [bu,tK,qR];refine aB _ _ _ _ _ _ _ _ _ ?_;refine⟨_,rfl,Kp,rfl,⟨_,aAA kp.eK⟩,λAg d2=>?_⟩;refine i7 (ks:=ss.map zs) (pb:=λ_=>true) (F:=λl=>l.map V.int) kp.eK d2 (by lia) kl (λx=>rfl) (λG j x s R _ _ sG r=>r G (Same.refl G)) (λG j x l R ex el _ sG r=>?_) λd3 H3 s3 d4 cr=>?_
  .obtain⟨b,rfl,hb⟩:=kp.o.2 j x l ex el;exact⟨_,rfl,b,_,rfl,.inl (aAA (sG _ _ hb)),λl1 n1=>r l1 _ (ak n1) n1 af⟩
  rw[aie.mpr (λ_ _=>rfl)] at cr;have oA:OrdsZ H3 d3 (ss.map zs):=⟨cr.len,λj y l e1 e2=>let ⟨b,e,hb,_⟩:=cr.at_ j y l e1 e2;⟨b,e,hb⟩⟩;have bP:=pe.same s3;have c7:=kp.same s3;refine⟨λσ H'=>ZcI a (some (.int (0+((i:Nat):Int)))) p v h (some (.int ((h.2.length:Nat):Int))) W ws m (some (.ref Ag)) x8 Kp bg ss H1 σ H',?_,?_⟩;rotate_left
  .refine⟨_,rfl,_,_,rfl,rfl,⟨_,rfl,?_⟩⟩;by_cases hm:0 < m
   case neg =>
    rw[afS hm];exact cu (cu (.mk _ _ _ _ _ _ rfl bP c7))
   rw[afM hm];refine dt ⟨_,rfl,v,aN h,rfl,gw bP.hh,cU,λu H4 s4 su=>?_⟩;have fv:HouseAt H4 u h:=kD (Sees.same lW su);have c8:=bP.same s4;refine⟨_,rfl,W,_,rfl,.inl (aAA c8.eW),λW2 bt=>?_⟩;have s5:Same H4 (upd H4 W2 (.lst (ws.map V.int))):=ak bt;have bv:(upd H4 W2 (.lst (ws.map V.int))) W2=some (.lst (ws.map V.int)):=af;generalize upd H4 W2 (.lst (ws.map V.int))=H5 at *;have cs:=s4.trans s5;refine⟨_,rfl,_,rfl,_,_,rfl,rfl,u,h,W2,ws,Ag,d3,ss.map zs,m - 1,rfl,fv.same s5,ok,bj,a0,bv,wl,nn,cs _ _ d4,oA.same cs,by lia,λl hl=>afR (d1 l hl) (by decide),λb1 H6 s6 i1=>⟨b1,rfl,?_⟩⟩;cases b1 with
   | true =>
    have:=(i1.mp rfl).most rg;have rh:eV ws r=m:=rh;lia
   | false=>exact cu (.mk _ _ _ _ _ _ rfl (bP.same (cs.trans s6)) (c7.same (cs.trans s6)))
  clear pe kp bP c7 s3 d4 cr oA d2;rintro σ H4 ⟨d5,d6,d7,d8,ea,eb,rfl,c8,fx⟩;refine⟨λσ H'=>ZcI a (some (.int (0+((i:Nat):Int)))) p v h (some (.int ((h.2.length:Nat):Int))) W ws m (some (.ref Ag)) x8 Kp bg ss H1 σ H',?_,?_⟩
  .rintro σ H' ⟨d5,d6,d7,d8,ea,eb,rfl,pe,kp⟩;exact .mk _ _ _ _ _ _ _ _ _ _ _ _ _ _ _ rfl (s1.trans λb u e=>pe.b _ _ (aj e np) e)
  refine⟨12,rfl,by decide,by decide,?_⟩;refine fP (λi2 σ H'=>ZcI a (some (.int (0+((i:Nat):Int)))) p v h (some (.int ((h.2.length:Nat):Int))) W ws m (some (.ref Ag)) x8 Kp bg ss H1 σ H') ⟨_,_,_,_,_,_,rfl,c8,fx⟩ ?_ (λσ H' z=>z);rintro i3 σ H5 hg ⟨d5,d6,d7,d8,ea,eb,rfl,pe,kp⟩;refine⟨_,rfl,_,rfl,_,rfl,p,Kp,h.2.length,12,128,bg,ss.map zs,rfl,pe.dk,by lia,by decide,by decide,by decide,kp.eK,kp.o,fu,zl,d1,λFd us ms H6 nF ed eF oz ml bx bz a7 b6=>?_⟩;have bL:=pe.but a7 b6;have ee:=kp.but b6;refine⟨λσ H'=>ZdI a (some (.int (0+((i:Nat):Int)))) p v h (some (.int ((h.2.length:Nat):Int))) W ws m (some (.ref Ag)) x8 Kp bg ss (some (.int (0+((i3:Nat):Int)))) H1 σ H',?_,?_⟩;rotate_left
  .refine⟨_,rfl,p,3,rfl,a7,by decide,by decide,λr3 H7 hn ho a8 b7=>⟨rfl,⟨_,rfl,?_⟩⟩⟩;have cq:=bL.but a8 b7;have ef:=ee.but b7;have da:=b7 _ _ ed eF;have db:=oz.but bz b7;by_cases hd:decide (V.int r3=V.int 0)=true
   case neg =>
    rw[ai9.mpr hd];exact cu (.mk Fd us ms _ _ _ _ rfl cq ef da ed db (by lia) (λl hl=>afR (bx l hl) (by decide)) bz)
   rw[hd];refine dt ⟨_,rfl,_,rfl,af5 _,λe0 n0=>⟨by show 1<=sizeLine;decide,λe1 n1=>?_⟩⟩;have g0:Same H7 (upd H7 e0 (.lst [])):=ak n0;have h0:(upd H7 e0 (.lst [])) e0=some (.lst (([]:List Int).map V.int)):=af;have fy:e0≠p:=a8.ne n0;generalize upd H7 e0 (.lst [])=H8 at *;have g1:Same H8 (upd H8 e1 (.lst [.ref e0])):=ak n1;have h1:(upd H8 e1 (.lst [.ref e0])) e1=some (.lst [.ref e0]):=af;generalize upd H8 e1 (.lst [.ref e0])=H9 at *;refine⟨_,rfl,af5 _,λe2 n2=>?_⟩;have g2:Same H9 (upd H9 e2 (.lst [])):=ak n2;have h2:(upd H9 e2 (.lst [])) e2=some (.lst []):=af;generalize upd H9 e2 (.lst [])=aS at *;have dc:=(g0.trans g1).trans g2;refine kg (neg:=false) (ms:=[]) (dc _ _ da) h2 (db.same dc) ⟨rfl,λj y l e=>nomatch e⟩ (bG (by decide:1<=12)) (.inr ⟨_,rfl,?_⟩);rw[if_neg afC];obtain⟨c,ec,c1,fA⟩:∃ c:Nat,(if decide (ms=[])=true then (1:Int) else 0)=((c:Nat):Int)/\c<=1/\(ms=[]->c=1):=by
    by_cases bA:ms=[]
    .exact⟨1,by rw[afM bA];rfl,afG _,λ_=>rfl⟩
    .exact⟨0,by rw[afS bA];rfl,by lia,λz=>absurd z bA⟩
   rw[ec];refine⟨e1,((c:Nat):Int),_,rfl,rfl,g2 _ _ h1,by lia,by lia,by rw[agk,af1];lia,λe3 n3=>?_⟩;rw[agk] at *;have g3:Same aS (upd aS e3 (.lst (List.replicate c [V.ref e0]).flatten)):=ak n3;have h3:(upd aS e3 (.lst (List.replicate c [V.ref e0]).flatten)) e3=some (.lst (List.replicate c [V.ref e0]).flatten):=af;generalize upd aS e3 (.lst (List.replicate c [V.ref e0]).flatten)=a2 at *;have eg:=dc.trans g3;have l3:(List.replicate c [V.ref e0]).flatten.length=c:=by rw[xM,af1,Nat.mul_one]
   have eh:=oz.1;refine⟨Fd,e3,us,_,rfl,rfl,eg _ _ da,h3,by rw[l3];lia,λe4 n4=>?_⟩;have g4:Same a2 (upd a2 e4 (.lst (us++(List.replicate c [V.ref e0]).flatten))):=ak n4;have h4:(upd a2 e4 (.lst (us++(List.replicate c [V.ref e0]).flatten))) e4=some (.lst (us++(List.replicate c [V.ref e0]).flatten)):=af;generalize upd a2 e4 (.lst (us++(List.replicate c [V.ref e0]).flatten))=df at *;have dh:=eg.trans g4;have al:∀ y∈us++(List.replicate c [V.ref e0]).flatten,∃ (b:Addr) (ns:List Int),y=.ref b/\df b=some (.lst (ns.map V.int))/\b≠p/\ns.length<=20:=λy hy=>by
    rcases afV.mp hy with z | z
    .obtain⟨j,hj⟩:=agp z;obtain⟨l,b,el,rfl,hb⟩:=db.get hj;obtain⟨b',e',n'⟩:=bz _ z;cases e';exact⟨b,l,rfl,dh _ _ hb,n',bx l (afP el)⟩
    .obtain⟨t,ht,ej⟩:=List.mem_flatten.mp z;rw[List.eq_of_mem_replicate ht] at ej;rw[afD.mp ej];exact⟨e0,[],rfl,(((g1.trans g2).trans g3).trans g4) _ _ h0,fy,af5 _⟩
   have ek:OrdsZ df (us++(List.replicate c [V.ref e0]).flatten) ((us++(List.replicate c [V.ref e0]).flatten).map (L2.numsOf df)):=OrdsZ.of λy hy=>let ⟨b,ns,e,h,_⟩:=al y hy;⟨b,ns,e,h⟩;refine⟨_,rfl,p,e4,h.2.length,20,150,_,_,rfl,a8.same dh,by lia,by decide,by decide,by decide,h4,ek,λz=>?_,?_,λl hl=>?_,λFd2 fD fE hF hG eo fF fG hH eq er et fH=>?_⟩
   .have:=agS List.length z;rw[afz,afH,l3] at this;have t0:us.length+c=0:=this;by_cases bA:ms=[]
    .have:=fA bA;lia
    .have:=aiP.mpr bA;lia
   .rw[afz,afH,l3];lia
   .obtain⟨y,hy,rfl⟩:=afL.mp hl;obtain⟨b,ns,rfl,hb,_,nl⟩:=al y hy;rw[L2.numsOf_at hb];exact nl
   have b0:=(aH (p:=p) dh).trans fH;exact .mk Fd2 fD fE _ _ _ _ rfl (cq.but et b0) (ef.but b0) fF eo fG (by lia) (λl hl=>afR (eq l hl) (by decide)) er
  clear bL ee eF oz bz a7 b6 pe kp ml bx;rintro σ H6 ⟨Sd,us,ms,cb,cc,ce,cf,rfl,pe,kp,eS,nS,oz,ml,bx,bz⟩;have eh:=oz.1;refine⟨_,rfl,_,rfl,_,rfl,_,_,rfl,rfl,_,rfl,W,ws,rfl,aAA pe.eW,_,rfl,_,_,rfl,rfl,_,_,rfl,1,rfl,by show 6<=sizeLine;decide,λl nl=>?_⟩;have g1:=ak (o:=.lst [V.int m,V.int m,V.int (m+1),V.int ws.sum,V.int (if m - 1 > 0 then m - 1 else 0),V.int (-1)]) nl;have e1:(upd H6 l (.lst [V.int m,V.int m,V.int (m+1),V.int ws.sum,V.int (if m - 1 > 0 then m - 1 else 0),V.int (-1)])) l=some (.lst ([m,m,m+1,ws.sum,(if m - 1 > 0 then m - 1 else 0),-1].map V.int)):=af;have cl:l≠p:=pe.dk.ne nl;generalize upd H6 l (.lst [V.int m,V.int m,V.int (m+1),V.int ws.sum,V.int (if m - 1 > 0 then m - 1 else 0),V.int (-1)])=H7 at *;refine⟨_,rfl,p,6,rfl,pe.dk.same g1,by decide,by decide,λr6 H8 cP cQ bJ b8=>?_⟩;obtain⟨nu,_,em⟩:=aed (xs:=[m,m,m+1,ws.sum,(if m - 1 > 0 then m - 1 else 0),-1]) cP cQ;refine⟨l,_,r6,_,rfl,rfl,aAA (b8 _ _ cl e1),em,?_⟩;have bQ:=(aH (p:=p) g1).trans b8;have a9:=pe.but bJ bQ;have eu:=kp.but bQ;have ct:=bQ _ _ nS eS;have di:=oz.but bz bQ;clear pe kp eS oz bQ b8 bJ g1 e1 nl cl em;dsimp only [bu,tK,qR];refine aB _ _ _ _ _ _ _ _ _ ?_;refine⟨_,rfl,Sd,rfl,⟨_,aAA ct⟩,λHd ew=>?_⟩;refine i7 (ks:=ms) (pb:=λ_=>true) (F:=λl=>l.map V.int) ct ew (by lia) eh (λx=>rfl) (λG j x s R _ _ sG r=>r G (Same.refl G)) (λG j x l R ex el _ sG r=>?_) λey H9 s9 ez cv=>?_
  .obtain⟨b,rfl,hb⟩:=di.2 j x l ex el;exact⟨_,rfl,b,_,rfl,.inl (aAA (sG _ _ hb)),λl1 n1=>r l1 _ (ak n1) n1 af⟩
  rw[aie.mpr (λ_ _=>rfl)] at cv;have oH:OrdsZ H9 ey ms:=⟨cv.len,λj y l e1 e2=>let ⟨b,e,hb,_⟩:=cv.at_ j y l e1 e2;⟨b,e,hb⟩⟩;have dj:=a9.same s9;refine⟨_,rfl,v,aN h,rfl,gw dj.hh,cU,λu aS aZ su=>?_⟩;have cI:HouseAt aS u h:=kD (Sees.same lW su);have ba:=dj.same aZ;refine⟨_,rfl,W,_,rfl,.inl (aAA ba.eW),λW2 bt=>⟨by show 2<=sizeLine;decide,λKd eA=>?_⟩⟩;have eB:Same aS (upd aS W2 (.lst (ws.map V.int))):=ak bt;have bv:(upd aS W2 (.lst (ws.map V.int))) W2=some (.lst (ws.map V.int)):=af;generalize upd aS W2 (.lst (ws.map V.int))=a2 at *;have dl:Same a2 (upd a2 Kd (.lst [u,.ref W2])):=ak eA;have bS:(upd a2 Kd (.lst [u,.ref W2])) Kd=some (.lst [u,.ref W2]):=af;have bT:=dl _ _ bv;generalize upd a2 Kd (.lst [u,.ref W2])=G at *;have bV:=eB.trans dl;have cw:=aZ.trans bV;have bW:=s9.trans cw;have dm:=cI.same bV;have cK:=cw _ _ ez;have eC:=oH.same cw;have eE:=bW _ _ ct;have eG:=di.same bW;have bB:=a9.same bW;have eH:=eu.same bW;clear a9 eu ct di s9 ez cv oH dj aZ su cI ba bt eA eB bv dl bV cw bW ew;refine⟨_,rfl,Kd,_,0,u,rfl,rfl,aAA bS,rfl,_,rfl,Kd,_,1,.ref W2,rfl,rfl,aAA bS,rfl,_,rfl,_,rfl,u,h,W2,ws,Hd,ey,ms,nu,rfl,dm,ok,bj,a0,bT,wl,nn,cK,eC,by lia,λl hl=>afR (bx l hl) (by decide),λb1 G1 t1 i1=>?_⟩;refine⟨_,rfl,_,_,_,true,rfl,.bl b1,cV K _,true,rfl,cu ?_⟩;refine⟨_,rfl,_,rfl,_,rfl,_,rfl,_,rfl,v,h,W,ws,Sd,us,ms,nu,rfl,bB.hh.same t1,ok,a0,t1 _ _ bB.eW,wl,t1 _ _ eE,eG.same t1,by lia,λl hl=>afR (bx l hl) (by decide),λb2 G2 t2 i2=>⟨rfl,⟨_,rfl,?_⟩⟩⟩;obtain rfl:b2=b1:=vB i2 i1;rw[show (!decide (V.bl b2=V.bl b2))=false by simp];refine cu ?_;have a3:=t1.trans t2;refine⟨_,rfl,_,rfl,kg (neg:=true) (a3 _ _ cK) (a3 _ _ eE) (eC.same a3) (eG.same a3) (bG (by decide:1<=12)) ⟨_,rfl,?_⟩⟩;rw[if_pos rfl,afM rfl];refine cu ?_;dsimp only [kF];refine⟨_,rfl,Kd,_,0,u,rfl,rfl,aAA (a3 _ _ bS),rfl,_,rfl,Kd,_,1,.ref W2,rfl,rfl,aAA (a3 _ _ bS),rfl,u,h,W2,ws,rfl,dm.same a3,ok,bj,a0,a3 _ _ bT,wl,nn,λL3 hJ hK G3 t3 _ _ _ _ _ _=>?_⟩;have fJ:=a3.trans t3;refine⟨_,rfl,_,rfl,_,rfl,by show 2<=sizeLine;decide,λl4 n4=>?_⟩;have a4:=fJ.trans (ak (o:=.lst [v,.ref W]) n4);refine wL (neg:=true) (a4 _ _ bS) af (dm.same a4) (bB.hh.same a4) ok (a4 _ _ bT) (a4 _ _ bB.eW) (bG (by decide:4<=12)) ⟨_,rfl,cu ?_⟩;refine⟨_,rfl,b2,rfl,?_⟩;cases b2 with
  | false=>exact cu (cu (.mk _ _ _ _ _ _ rfl (bB.same a4) (eH.same a4)))
  | true =>
   have le:=(i1.mp rfl).most rg;have rh:eV ws r=m:=rh;refine dt ⟨_,rfl,_,rfl,_,_,rfl,rfl,⟨_,rfl,?_⟩⟩;rw[afS (by lia)];exact cu (.mk _ _ _ _ _ _ rfl (bB.same a4) (eH.same a4))
end
structure Has (K:PySem.W.Frag)(x:Str)(st:Stmt)(f:Addr)(fd:FuncData):Prop where
 a:nsIn K mainGlobals x=some (some (.ref f))
 F:Fun K x x st f fd
theorem Has.c1 {K:PySem.W.Frag}{h:Heap}{mg:Str->Option Value}{n:Str}{st:Stmt}{f:Addr}{fd:FuncData}{p0:Str}(H:Has K n st f fd)(X:K.In h)(G:h.Ns mainGlobals mg)(b:∀ (kV z O:Value) (S:Option Addr) (J ct x:Value),bindArgs (fnOf n n (fX st) (bY st) (ai st) .none kV z O S J ct) ⟨[x],[]⟩=pure [(p0,x)]):Cal K mg n [p0] f fd :=
 ⟨ahx X G H.a,H.F.kp,H.F.binds λkV z O S J ct us U=>match us,U with | [x],_=>b kV z O S J ct x⟩
theorem Has.c2 {K:PySem.W.Frag}{h:Heap}{mg:Str->Option Value}{n:Str}{st:Stmt}{f:Addr}{fd:FuncData}{p0 p1:Str}(H:Has K n st f fd)(X:K.In h)(G:h.Ns mainGlobals mg)(b:∀ (kV z O:Value) (S:Option Addr) (J ct x y:Value),bindArgs (fnOf n n (fX st) (bY st) (ai st) .none kV z O S J ct) ⟨[x,y],[]⟩=pure [(p0,x),(p1,y)]):Cal K mg n [p0,p1] f fd :=
 ⟨ahx X G H.a,H.F.kp,H.F.binds λkV z O S J ct us U=>match us,U with | [x,y],_=>b kV z O S J ct x y⟩
theorem Has.c3 {K:PySem.W.Frag}{h:Heap}{mg:Str->Option Value}{n:Str}{st:Stmt}{f:Addr}{fd:FuncData}{p0 p1 p2:Str}(H:Has K n st f fd)(X:K.In h)(G:h.Ns mainGlobals mg)(b:∀ (kV J S:Value) (U:Option Addr) (O ct x y z:Value),bindArgs (fnOf n n (fX st) (bY st) (ai st) .none kV J S U O ct) ⟨[x,y,z],[]⟩=pure [(p0,x),(p1,y),(p2,z)]):Cal K mg n [p0,p1,p2] f fd :=
 ⟨ahx X G H.a,H.F.kp,H.F.binds λkV J S U O ct us Y=>match us,Y with | [x,y,z],_=>b kV J S U O ct x y z⟩
theorem Has.c4 {K:PySem.W.Frag}{h:Heap}{mg:Str->Option Value}{n:Str}{st:Stmt}{f:Addr}{fd:FuncData}{p0 p1 p2 p3:Str}(H:Has K n st f fd)(X:K.In h)(G:h.Ns mainGlobals mg)(b:∀ (kV J S:Value) (U:Option Addr) (O ct x y z t:Value),bindArgs (fnOf n n (fX st) (bY st) (ai st) .none kV J S U O ct) ⟨[x,y,z,t],[]⟩=pure [(p0,x),(p1,y),(p2,z),(p3,t)]):Cal K mg n [p0,p1,p2,p3] f fd :=
 ⟨ahx X G H.a,H.F.kp,H.F.binds λkV J S U O ct us Y=>match us,Y with | [x,y,z,t],_=>b kV J S U O ct x y z t⟩
set_option autoImplicit true in
theorem all_mk {l:PySem.W.OpenLaw}{w:World}{K:PySem.W.Frag}{h:Heap}{mg:Str->Option Value}{fa:Addr}(X:K.In h)(G:h.Ns mainGlobals mg)(a1:mg "law" = some (.ref fa))
 (pG:Has K "is_whole" jA f_is_whole d_is_whole)
 (sJ:Has K "is_kind" sP f_is_kind d_is_kind)
 (mQ:Has K "are_kinds" mB f_are_kinds d_are_kinds)
 (m3:Has K "are_locks" yd f_are_locks d_are_locks)
 (se:Has K "is_room" aci f_is_room d_is_room)
 (pO:Has K "is_house" mK f_is_house d_is_house)
 (iB:Has K "require_house" aeB f_require_house d_require_house)
 (mZ:Has K "with_room" iV f_with_room d_with_room)
 (pL:Has K "has_room" jx f_has_room d_has_room)
 (vj:Has K "set_of" nX f_set_of d_set_of)
 (pC:Has K "rooms_of" gT f_rooms_of d_rooms_of)
 (px:Has K "steps_of" jz f_steps_of d_steps_of)
 (kT:Has K "are_worths" eX f_are_worths d_are_worths)
 (g9:Has K "require_worths" dP f_require_worths d_require_worths)
 (oX:Has K "worth_of" gZ f_worth_of d_worth_of)
 (oY:Has K "first_to" fA f_first_to d_first_to)
 (ly:Has K "most_worth" bW f_most_worth d_most_worth)
 (jL:Has K "worth_paper" cP f_worth_paper d_worth_paper)
 (nQ:Has K "is_rising" cz f_is_rising d_is_rising)
 (vU:Has K "is_set" jT f_is_set d_is_set)
 (pD:Has K "are_sets" gX f_are_sets d_are_sets)
 (m6:Has K "is_closed" dW f_is_closed d_is_closed)
 (jP:Has K "worth_shows" cS f_worth_shows d_worth_shows)
 (mO:Has K "_law_pool" ir f__law_pool d__law_pool)
 (ni:Has K "_law_draw" iw f__law_draw d__law_draw)
 (kP:Has K "_law_kinds" fk f__law_kinds d__law_kinds)
 (kX:Has K "_law_words" gL f__law_words d__law_words)
 (kR:Has K "_law_house" g6 f__law_house d__law_house)
 (nq:Has K "_law_copy" dh f__law_copy d__law_copy)
 (mv:Has K "_law_hand" iG f__law_hand d__law_hand)
 (kW:Has K "_law_shows" cF f__law_shows d__law_shows)
 (me:Has K "_law_bent" dj f__law_bent d__law_bent)
 (aC:nsIn K mainGlobals "Doors" = some (some (.ref C)))
 (an:findIn K (.ref C) "__init__" = some (some (.ref finit)))(ao:isFn K (.ref finit)=true)(Finit:Fun K "__init__" "Doors.__init__" aR finit dinit)
 (S:findIn K (.ref C) "hand_with" = some (some (.ref fhand_with)))(U:isFn K (.ref fhand_with)=true)(Fhand_with:Fun K "hand_with" "Doors.hand_with" cm fhand_with dhand_with)
 (z:findIn K (.ref C) "next_behind" = some (some (.ref fnext_behind)))(J:isFn K (.ref fnext_behind)=true)(Fnext_behind:Fun K "next_behind" "Doors.next_behind" aK fnext_behind dnext_behind)
 (ah:findIn K (.ref C) "hand_of" = some (some (.ref fhand_of)))(ai:isFn K (.ref fhand_of)=true)(Fhand_of:Fun K "hand_of" "Doors.hand_of" eQ fhand_of dhand_of)
 (pg:plainGet K C Str.empty=true)(hd:hasDictIn K C=true)(po:plainOver K C=true)(sa:findIn K (.ref C) "__setattr__" = some (some (.builtin "object.__setattr__")))(mk:makesIn K C=true)(kc:keepIn K (.ref C)=true)
 (n1:findIn K (.ref C) "at_first" = some none)(n2:findIn K (.ref C) "wants" = some none)(n3:findIn K (.ref C) "changes" = some none)
 (as:nsIn K mainGlobals "require_small" = some (some (.ref fs9)))(Fs:FunD K "require_small" "require_small" cU Ts9 fs9 ds9)(ts:K.lookup Ts9=some ⟨ots9,ods9,.seq #[.int 12 tk9] ns9,sls9⟩)
 (al:nsIn K mainGlobals "law" = some (some (.ref fl9)))(Fl:Fun K "law" "law" aeD fl9 dl9)(bl:∀ (s:Shared) (v:Value),BindsTo s dl9 ⟨[v],[]⟩ [("script",v)])
 (af:nsIn K mainGlobals "LETTERS" = some (some (.str lettersS t_LETTERS)))
 (Z:nsIn K mainGlobals "MOST_LETTERS" = some (some (.int 4 t_MOST_LETTERS)))
 (aa:nsIn K mainGlobals "MOST_LOCKS" = some (some (.int 4 t_MOST_LOCKS)))
 (ac:nsIn K mainGlobals "isinstance" = some none)
 (aB:nsIn K mainGlobals "str" = some none)
 (aD:nsIn K mainGlobals "len" = some none)
 (aE:nsIn K mainGlobals "all" = some none)
 (aF:nsIn K mainGlobals "any" = some none)
 (au:nsIn K mainGlobals "list" = some none)
 (ap:nsIn K mainGlobals "tuple" = some none)
 (aj:nsIn K mainGlobals "sorted" = some none)
 (aq:nsIn K mainGlobals "range" = some none)
 (aG:nsIn K mainGlobals "int" = some none)
 (ad:nsIn K mainGlobals "enumerate" = some none)
 (av:nsIn K mainGlobals "bool" = some none)
 (ae:nsIn K mainGlobals "reversed" = some none)
 (aH:nsIn K mainGlobals "sum" = some none)
 (aI:nsIn K mainGlobals "min" = some none)
 (aL:nsIn K mainGlobals "max" = some none)
 (aN:nsIn K mainGlobals "zip" = some none)
 (aO:nsIn K mainGlobals "set" = some none)
 : ∃ fd:FuncData,(∀ (s:Shared) (v:Value),BindsTo s fd ⟨[v],[]⟩ [("script",v)])/\∀ base:Heap,K.In base->base.Ns mainGlobals mg->FnOk l.prog w K mg base CX0 11 fa fd ["script"] (aa8 K):=by
 have e:=a1.symm.trans (ahx X G al);cases e;have cG:=pG.c1 (p0 := "thing") X G λ_ _ _ _ _ _ _=>rfl;have yW:=sJ.c1 (p0 := "thing") X G λ_ _ _ _ _ _ _=>rfl;have js:=mQ.c1 (p0 := "thing") X G λ_ _ _ _ _ _ _=>rfl;have tS:=m3.c1 (p0 := "thing") X G λ_ _ _ _ _ _ _=>rfl;have zf:=se.c1 (p0 := "thing") X G λ_ _ _ _ _ _ _=>rfl;have xw:=pO.c1 (p0 := "thing") X G λ_ _ _ _ _ _ _=>rfl;have fY:=iB.c1 (p0 := "thing") X G λ_ _ _ _ _ _ _=>rfl;have aS:=mZ.c2 (p0 := "opened") (p1 := "number") X G λ_ _ _ _ _ _ _ _=>rfl;have cI:=pL.c2 (p0 := "opened") (p1 := "number") X G λ_ _ _ _ _ _ _ _=>rfl;have lO:=vj.c1 (p0 := "numbers") X G λ_ _ _ _ _ _ _=>rfl;have dq:=pC.c1 (p0 := "opened") X G λ_ _ _ _ _ _ _=>rfl;have fq:=px.c1 (p0 := "house") X G λ_ _ _ _ _ _ _=>rfl;have iD:=kT.c2 (p0 := "thing") (p1 := "many") X G λ_ _ _ _ _ _ _ _=>rfl;have aM:=g9.c2 (p0 := "house") (p1 := "worths") X G λ_ _ _ _ _ _ _ _=>rfl;have ft:=oX.c2 (p0 := "worths") (p1 := "numbers") X G λ_ _ _ _ _ _ _ _=>rfl;have kE:=oY.c2 (p0 := "steps") (p1 := "wanted") X G λ_ _ _ _ _ _ _ _=>rfl;have iI:=ly.c2 (p0 := "house") (p1 := "worths") X G λ_ _ _ _ _ _ _ _=>rfl;have fj:=jL.c2 (p0 := "house") (p1 := "worths") X G λ_ _ _ _ _ _ _ _=>rfl;have dU:=nQ.c1 (p0 := "things") X G λ_ _ _ _ _ _ _=>rfl;have qK:=vU.c2 (p0 := "thing") (p1 := "many") X G λ_ _ _ _ _ _ _ _=>rfl;have ko:=pD.c2 (p0 := "thing") (p1 := "many") X G λ_ _ _ _ _ _ _ _=>rfl;have jn:=m6.c2 (p0 := "house") (p1 := "paper") X G λ_ _ _ _ _ _ _ _=>rfl;have dA:=jP.c4 (p0 := "house") (p1 := "worths") (p2 := "paper") (p3 := "worth") X G λ_ _ _ _ _ _ _ _ _ _=>rfl;have jv:=mO.c2 (p0 := "script") (p1 := "k") X G λ_ _ _ _ _ _ _ _=>rfl;have aw:=ni.c2 (p0 := "pool") (p1 := "many") X G λ_ _ _ _ _ _ _ _=>rfl;have eA:=kP.c3 (p0 := "pool") (p1 := "many") (p2 := "kinds") X G λ_ _ _ _ _ _ _ _ _=>rfl;have iy:=kX.c1 (p0 := "pool") X G λ_ _ _ _ _ _ _=>rfl;have ip:=kR.c2 (p0 := "pool") (p1 := "many") X G λ_ _ _ _ _ _ _ _=>rfl;have aX:=nq.c1 (p0 := "thing") X G λ_ _ _ _ _ _ _=>rfl;have jo:=mv.c3 (p0 := "house") (p1 := "rooms") (p2 := "kind") X G λ_ _ _ _ _ _ _ _ _=>rfl;have gg:=kW.c4 (p0 := "house") (p1 := "worths") (p2 := "paper") (p3 := "worth") X G λ_ _ _ _ _ _ _ _ _ _=>rfl;have gR:=me.c3 (p0 := "pool") (p1 := "paper") (p2 := "many") X G λ_ _ _ _ _ _ _ _ _=>rfl;have ar:=Finit.binds (ps:=["self","house"]) λ_ _ _ _ _ _ us hl=>match us,hl with | [_,_],_=>rfl
 have Y:=Fhand_with.binds (ps:=["self","hand","number"]) λ_ _ _ _ _ _ us hl=>match us,hl with | [_,_,_],_=>rfl
 have O:=Fnext_behind.binds (ps:=["self","opened","hand"]) λ_ _ _ _ _ _ us hl=>match us,hl with | [_,_,_],_=>rfl
 have ak:=Fhand_of.binds (ps:=["self","numbers"]) λ_ _ _ _ _ _ us hl=>match us,hl with | [_,_],_=>rfl
 have xj:=ahx X G af;have nU:=ahx X G Z;have pR:=ahx X G aa;have ax:=agn X G ac;have ba:=agn X G aB;have cg:=agn X G aD;have fz:=agn X G aE;have wA:=agn X G aF;have aJ:=agn X G au;have gj:=agn X G ap;have aZ:=agn X G aj;have bf:=agn X G aq;have ox:=agn X G aG;have aY:=agn X G ad;have pd:=agn X G av;have kj:=agn X G ae;have qI:=agn X G aH;have qd:=agn X G aI;have uM:=agn X G aL;have bg:=agn X G aN;have bh:=agn X G aO;have bS:=wD Fs ts;have mS:=ahx X G as;refine⟨dl9,bl,λbase _ _=>?_⟩;have DC:jR K C:=⟨⟨pg,hd,po,sa⟩,n1,n2,n3⟩;have Gl:Glb mg:=⟨ax,ba,cg,fz,⟨_,xj⟩,⟨_,nU⟩⟩;have GK:=aav (P:=l.prog) (w:=w) (base:=base) mQ.F sJ.F yW Gl aJ;have GL:=aa1 m3.F GK js cg aZ ⟨_,pR⟩;have GR:=acQ se.F GL tS GK js ax cg gj;have GH:=abh pO.F GR zf GK js ax cg gj aJ fz;have GQ:=aef iB.F GH xw;have GS:=aaO Fs GQ fY cg;have Gw:=acg (P:=l.prog) (w:=w) (mg:=mg) (base:=base) mZ.F;have Gh:=adS (P:=l.prog) (w:=w) (mg:=mg) (base:=base) pL.F;have D1:=aaE (P:=l.prog) (w:=w) (mg:=mg) (base:=base) Finit DC aZ aY;have D2:=aaJ (P:=l.prog) (w:=w) (mg:=mg) (base:=base) Fhand_with DC aJ;have D3:=abw Fnext_behind DC Gh cI aY fz;have GT:=aaZ px.F DC ⟨pg,hd,po,sa⟩ ⟨mk,an,ao,kc⟩ (ahx X G aC) D1 ar ⟨z,J,Fnext_behind.kp⟩ D3 O ⟨S,U,Fhand_with.kp⟩ D2 Y Gw aS;have W1:=abm (P:=l.prog) (w:=w) (mg:=mg) (base:=base) pG.F pd ox ax;have R0:=abA pC.F Gh cI bf;have R1:=abG oY.F Gw aS aJ kj wA qd;have A1:=acR kT.F W1 cG ax aJ cg fz;have A2:=acm g9.F GS mS Fs.kp bS A1 iD cg;have A3:=wN (P:=l.prog) (w:=w) (mg:=mg) (base:=base) oX.F qI;have M3:=aaB ly.F A2 aM GT fq R0 dq R1 kE A3 ft cg uM qd;have L1:=aay (P:=l.prog) (w:=w) (mg:=mg) (base:=base) mO.F cg ox;have L2:=ac9 (P:=l.prog) (w:=w) (mg:=mg) (base:=base) ni.F;have L3:=zm kP.F L2 aw cg bf;have L4:=yv kX.F L2 aw bf;have L5:=zP kR.F L2 aw L3 eA L4 iy bf aZ;have L8:=yr (P:=l.prog) (w:=w) (mg:=mg) (base:=base) nq.F aX gj ax aJ 4;have V2:=u7 (P:=l.prog) (w:=w) (mg:=mg) (base:=base) Fhand_with DC aJ;have V3:=wj Fnext_behind DC Gh cI aY fz;have CL:Cls K C:=⟨pg,hd,po,sa⟩;have N1:=aaG vj.F Gw aS;have N2:=z6 Fhand_of CL DC ⟨S,U,Fhand_with.kp⟩ V2 Y aJ;have N3:=abC jL.F A2 aM GT fq R0 dq aZ;have N4:=acI (P:=l.prog) (w:=w) (mg:=mg) (base:=base) nQ.F fz bg;have N5:=aaI vU.F W1 cG N4 dU fz ax aJ;have N6:=wQ pD.F N5 qK N4 dU fz ax aJ;have N7:=ya m6.F Gw aS N1 lO DC CL ⟨mk,an,ao,kc⟩ (ahx X G aC) D1 ar ⟨z,J,Fnext_behind.kp⟩ V3 O ⟨ah,ai,Fhand_of.kp⟩ N2 ak fz;have N8:=abd jP.F A2 aM W1 cG N6 ko A3 ft N7 jn wA cg;have Q1:=aaY (P:=l.prog) (w:=w) (mg:=mg) (base:=base) mv.F;have Q2:=yN kW.F Q1 jo aY bh aZ cg qI bf;have Q3:=acJ me.F L2 aw aJ cg aZ bf;exact adH Fl L1 jv L2 aw L5 ip M3 iI L8 aX N3 fj Q2 gg N8 dA Q3 gR bf uM qd cg ox aJ ax pd qI
theorem walk {l:PySem.W.OpenLaw}{q:Program}{J:List Str}{Y:(Str->Option Value)->Heap->Prop}{S:World->Heap->Prop}{d:DefRec}{K:Params->PySem.W.Frag}(Z:l.most=some 63)(O:d.params.defaults=[])
 (hY:∀ (w:World) (h:Heap),S w h->(K w.params).In h)
 (F:∀ (w:World) (mg:Str->Option Value) (U:Addr) (h:Heap),(K w.params).In h->h.Ns mainGlobals mg->mg d.name=some (.ref U) →
  ∃ fd:FuncData,(∀ (s:Shared) (u:Value),BindsTo s fd ⟨[u],[]⟩ [("script",u)])/\∀ base:Heap,(K w.params).In base->base.Ns mainGlobals mg->FnOk l.prog w (K w.params) mg base CX0 11 U fd ["script"] (aa8 (K w.params))) :
 PySem.W.WalkO q J Y S l.row.toRowW d [] (λf vs=>PySem.call f vs) :=
 L2.walk_of (n:=63) (k:=11) (x := "script") (CX:=λ_=>CX0) (sp:=λw=>aa8 (K w.params)) Z (by decide) O ⟨rfl,by decide,by decide⟩ hY F (λ_ _ a ns hl _ hS=>⟨a,ns,rfl,hS,λ_=>rfl⟩) λ_ _ _ _ _ z=>z
end K7
namespace PySem.W.Fast
def tw10340389697821405295:=0
def tw10344783513688401946:=0
def tw10579509756267428131:=0
def tw10902492567405746044:=0
def tw11030782731442436736:=0
def tw11466065868105153775:=0
def tw11573331873022346299:=0
def tw11612753003317897643:=0
def tw119661924551743339:=0
def tw12025611667792666552:=0
def tw12029046119001043649:=0
def tw12051682744159545518:=0
def tw12492266024060970463:=0
def tw12577260560517587352:=0
def tw12596165265318142830:=0
def tw12795760082989332910:=0
def tw13081359742741836556:=0
def tw13271826339391321867:=0
def tw13552216871162784515:=0
def tw13621255068009756451:=0
def tw13670510477674967942:=0
def tw13926181454227588641:=0
def tw13947144300613357363:=0
def tw13985095356779610287:=0
def tw14135605634629125586:=0
def tw14282434612074413704:=0
def tw14565379802087446353:=0
def tw15135358583593896695:=0
def tw15427720794751243672:=0
def tw15526216893732923063:=0
def tw15618316421588168514:=0
def tw16100856773288567015:=0
def tw1618958518406276722:=0
def tw164080831834481798:=0
def tw16746348324132212879:=0
def tw16763927770119173370:=0
def tw17471479964011728461:=0
def tw175141289251670845:=0
def tw17610410149835970842:=0
def tw17655940800487155251:=0
def tw17674698622786461684:=0
def tw17749199803164487849:=0
def tw17881946453603350217:=0
def tw18188557162280232366:=0
def tw18312458142628656756:=0
def tw2300573238280568362:=0
def tw2550426631053003371:=0
def tw2595919978208883924:=0
def tw262295519860759782:=0
def tw2800583669356895668:=0
def tw3094397468751550281:=0
def tw3300053064563182570:=0
def tw3349430162273989050:=0
def tw3361510329114686053:=0
def tw3397136504644183802:=0
def tw3698261609594196171:=0
def tw377324712198598850:=0
def tw4088889671301887972:=0
def tw4367577435996972052:=0
def tw4414251270544655467:=0
def tw4583874764118885768:=0
def tw5188218289041824595:=0
def tw5290900051749970658:=0
def tw5415837878654337431:=0
def tw5697083457985223900:=0
def tw6266383002747202765:=0
def tw6504007066151590888:=0
def tw6668904805105256629:=0
def tw6702470474420367843:=0
def tw6900437380206836411:=0
def tw6972126405980930881:=0
def tw7113863359221416541:=0
def tw7184090856034847163:=0
def tw7320273576979887668:=0
def tw7520037574506565811:=0
def tw7580827942839507090:=0
def tw7606862114852940856:=0
def tw8083141643869801754:=0
def tw8515282870324402363:=0
def tw8645525281287217611:=0
def tw8867654679079598328:=0
def tw9012170140200083502:=0
def tw9165155927334710160:=0
def tw9243183105604302900:=0
def tw9286360168416328277:=0
def tw9444454770366329374:=0
def tw9481076180198821213:=0
end PySem.W.Fast
open PySem PySem.W PyProof.Rows
set_option maxRecDepth 100000 in
set_option maxHeartbeats 0 in
theorem PySem.Challenge.cw_keyrooms_k31_papers_of_worth_holds : PySem.Challenge.rw_keyrooms_k31_papers_of_worth.Holds := by
  w_on; o_law; k_head; (case hw => w_witness2)
  k_fill
  refine K7.walk (l := PySem.Challenge.rw_keyrooms_k31_papers_of_worth) rfl rfl (fun w h Y => PySem.W.kIn_of Y) ?F
  case F =>
    intro w mg fa h KX G hmg
    refine' K7.all_mk KX G hmg ⟨_,L2.fun_mk _ _ _⟩ ⟨_,L2.fun_mk _ _ _⟩ ⟨_,L2.fun_mk _ _ _⟩ ⟨_,L2.fun_mk _ _ _⟩ ⟨_,L2.fun_mk _ _ _⟩ ⟨_,L2.fun_mk _ _ _⟩ ⟨_,L2.fun_mk _ _ _⟩ ⟨_,L2.fun_mk _ _ _⟩ ⟨_,L2.fun_mk _ _ _⟩ ⟨_,L2.fun_mk _ _ _⟩ ⟨_,L2.fun_mk _ _ _⟩ ⟨_,L2.fun_mk _ _ _⟩ ⟨_,L2.fun_mk _ _ _⟩ ⟨_,L2.fun_mk _ _ _⟩ ⟨_,L2.fun_mk _ _ _⟩ ⟨_,L2.fun_mk _ _ _⟩ ⟨_,L2.fun_mk _ _ _⟩ ⟨_,L2.fun_mk _ _ _⟩ ⟨_,L2.fun_mk _ _ _⟩ ⟨_,L2.fun_mk _ _ _⟩ ⟨_,L2.fun_mk _ _ _⟩ ⟨_,L2.fun_mk _ _ _⟩ ⟨_,L2.fun_mk _ _ _⟩ ⟨_,L2.fun_mk _ _ _⟩ ⟨_,L2.fun_mk _ _ _⟩ ⟨_,L2.fun_mk _ _ _⟩ ⟨_,L2.fun_mk _ _ _⟩ ⟨_,L2.fun_mk _ _ _⟩ ⟨_,L2.fun_mk _ _ _⟩ ⟨_,L2.fun_mk _ _ _⟩ ⟨_,L2.fun_mk _ _ _⟩ ⟨_,L2.fun_mk _ _ _⟩ _ _ _ (L2.fun_mk _ _ _) _ _ (L2.fun_mk _ _ _) _ _ (L2.fun_mk _ _ _) _ _ (L2.fun_mk _ _ _) _ _ _ _ _ _ _ _ _ _ (K7.fund_mk _ _ _) _ _ (L2.fun_mk _ _ _) ?bl _ _ _ _ _ _ _ _ _ _ _ _ _ _ _ _ _ _ _ _ _
    (case bl => exact fun s v => .of_eq rfl)
    any_goals k_is
