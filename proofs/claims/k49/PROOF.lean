import PyProof.Rows.All
import Wide.All
import OpenK.AllK
import Wide.FinOn
import Lean
import PyProof.EqAt
import PyProof.EqKinds
import PyProof.TupleCall
import PyProof.Rows.SetFrom
import PyProof.SetRoads
import KE.KDictSum
import PyProof.DictCompW
import KE.KEqDict
import KE.KxText
import KE.KNest
import KE.KSortAsk
import PyProof.NeKinds
import KE.KIsAll
import PyProof.WalksEnum
import PyProof.EnumMake
import PyProof.DictItems
import PyProof.DictValues
import PyProof.DictWalks
import KE.KDictOf
import PyProof.Rows.SortStr
import KE.KDictLaws
import PyProof.ReprBulk
import KE.KRevSl
import PyProof.AttrMissHeap
import PyProof.ZipIter
import PyProof.ListRange
import PyProof.FString5
import KE.KUnpackStar
import PyProof.Rows.StrNews2
import PyProof.Rows.StrItems
import PyProof.P3In
import PyProof.StationsW
import PyProof.ExcClass3
import PyProof.RulesTry
import PyProof.RulesAs
import PyProof.NsDelKeeps
import PyProof.ExcArgsOwn
import KE.BitLaws
import PySem.Challenge.RW_keyrooms_k49_whole_names_and_orders
set_option Elab.async false
set_option linter.all false
set_option maxRecDepth 100000
set_option maxHeartbeats 4000000
open PySem.W (instObj lookIn plainGet hasDictIn findIn handedIn isFn plainOver takerIn makesIn emptyDict keepIn kitOne kitx_list kitx_dict fnOf codeIn fnMade CodeHd envX fnX tabObj nsIn tabIn)
def q:=@rfl
def ahU:=@List.getElem?_eq_getElem
def ahV:=@PySem.wpAny_bind
def ahW:=@List.getElem?_eq_some_iff
def ahX:=@PySem.Heap.get?_push_of_some
def ahY:=@List.length_map
def ahZ:=@List.length_append
def ah0:=@PySem.wpAny_pure
def ah1:=@List.getElem?_map
def ah2:=@List.mem_append_right
def ah3:=@PySem.Heap.lt_size
def ah4:=@Nat.le_refl
def ah5:=@List.mem_singleton
def ah6:=@Nat.ne_of_lt
def ah7:=@List.mem_of_getElem?
def ah8:=@List.mem_map
def ah9:=@Nat.lt_of_lt_of_le
def aia:=@List.map_append
def aib:=@PySem.Heap.get?_push_size
def aic:=@List.mem_append
def aid:=@List.mem_cons_self
def aie:=@Bool.false_ne_true
def aif:=@List.length_take
def aih:=@List.mem_cons_of_mem
def aii:=@PyProof.Rows.wpS_bind
def aij:=@Nat.le_trans
def aik:=@List.getElem?_append_left
def ail:=@Nat.zero_le
def aim:=@List.append_assoc
def ain:=@List.mem_cons
def aio:=@List.getElem?_append_right
def aip:=@PyProof.Rows.wpS_pure
def aiq:=@List.getElem_mem
def air:=@List.map_cons
def ais:=@List.take_add_one
def ait:=@beq_iff_eq
def aiu:=@PySem.wpAny_mono
def aiv:=@decide_eq_true
def aiw:=@Array.length_toList
def aix:=@PySem.wpAny_holding
def aiy:=@PySem.F.plainAttrs_list
def aiz:=@List.take_length
def aiA:=@Nat.lt_of_le_of_lt
def aiB:=@Nat.lt_succ_of_lt
def aiC:=@decide_eq_false
def aiD:=@List.length_replicate
def aiE:=@PySem.W.mg_none_of
def aiF:=@Nat.le_of_lt
def aiG:=@List.map_map
def aiH:=@List.mem_map_of_mem
def aiI:=@List.take_append_drop
def aiJ:=@List.length_cons
def aiK:=@Bool.and_eq_true
def aiL:=@List.pairwise_iff_getElem
def aiM:=@List.mem_flatMap
def aiN:=@PySem.PassesOwn.never
def aiO:=@congrArg
def aiP:=@PySem.Heap.size_push
def aiQ:=@List.size_toArray
def aiR:=@Int.toNat_natCast
def aiS:=@List.take_of_length_le
def aiT:=@List.not_mem_nil
def aiU:=@List.mem_filter
def aiV:=@List.append_nil
def aiW:=@List.getElem?_of_mem
def aiX:=@Nat.ne_of_gt
def aiY:=@List.flatMap_cons
def aiZ:=@List.all_eq_true
def ai0:=@Option.some.inj
def ai1:=@List.pairwise_append
def ai2:=@Ne.symm
def ai3:=@PySem.wpAny_standAt
def ai4:=@PySem.wpAny_loadPart'
def ai5:=@List.filter_append
def ai6:=@List.length_singleton
def ai7:=@Option.map_eq_some_iff
def ai8:=@Nat.lt_irrefl
def ai9:=@List.mem_of_mem_take
def aja:=@PyProof.Rows.callWith_type1
def ajb:=@PySem.wpAny_comprehension_free
def ajc:=@PySem.wpAny_newObj_type
def ajd:=@PyProof.Rows.wpS_forRange
def aje:=@List.length_filter_le
def ajf:=@Nat.le_succ
def ajg:=@Bool.eq_iff_iff
def ajh:=@PySem.wpAny_call_entry
def aji:=@List.take_append_of_le_length
def ajj:=@PySem.wpAny_truthy_bool
def ajk:=@List.count_append
def ajl:=@Bool.false_eq_true
def ajm:=@List.nodup_cons
def ajn:=@Nat.add_le_add_left
def ajo:=@Array.getElem?_toList
def ajp:=@PySem.codeAny_builtin
def ajq:=@PySem.boot_len
def ajr:=@decide_eq_true_eq
def ajs:=@Array.perm_iff_toList_perm
def ajt:=@List.perm_ext_iff_of_nodup
def aju:=@List.mem_of_mem_drop
def ajv:=@PySem.W.kia_one
def ajw:=@Array.getElem?_eq_getElem
def ajx:=@decide_eq_decide
def ajy:=@PySem.F.slot_list_append
def ajz:=@PySem.F.type_list_append
def ajA:=@PySem.F.slot_list_count
def ajB:=@PySem.F.type_list_count
def ajC:=@PySem.wpAny_newFunctionEnv
def ajD:=@List.getD_eq_getElem?_getD
def ajE:=@PySem.Heap.get?_update_other
def ajF:=@PySem.mem_of_lookup
def ajG:=@List.nodup_append
def ajH:=@PySem.wpAny_rule
def ajI:=@PySem.Heap.get?_push_ne
def ajJ:=@List.getElem_of_mem
def ajK:=@List.flatMap_append
def ajL:=@List.mem_range
def ajM:=@PySem.Calls.call_function_entry
def ajN:=@PySem.W.mg_of
def ajO:=@PySem.Heap.get?_update_self
def ajP:=@List.range_succ
def ajQ:=@List.pairwise_cons
def ajR:=@List.Pairwise.imp_of_mem
def ajS:=@List.length_drop
def ajT:=@List.count_eq_zero_of_not_mem
def ajU:=@List.mem_append_left
def ajV:=@List.mem_iff_getElem
def ajW:=@Nat.pow_le_pow_right
def ajX:=@List.count_le_length
def ajY:=@PySem.F.slot_dict_setdefault
def ajZ:=@PySem.codeAny_mono
def aj0:=@bne_self_eq_false
def aj1:=@List.ext_getElem?
def aj2:=@List.pairwise_map
def aj3:=@List.filter_congr
def aj4:=@List.map_congr_left
def aj5:=@List.idxOf_lt_length_of_mem
def aj6:=@PyProof.Rows.boot_sorted
def aj7:=@List.getElem?_set_self
def aj8:=@List.drop_of_length_le
def aj9:=@List.Perm.append_right
def aka:=@List.flatten_singleton
def akb:=@Nat.lt_succ_self
def akc:=@PySem.wpAny_askSetting
def akd:=@Nat.sub_self
def ake:=@PySem.plainId_quiet
def akf:=@PyProof.Rows.wpS_mono
def akg:=@List.Perm.append_left
def akh:=@decide_eq_true_iff
def aki:=@List.getElem?_set_ne
def akj:=@PySem.wpAny_passesOwn
def akk:=@List.getElem?_take_of_lt
def akl:=@List.length_range
def akm:=@Nat.min_eq_left
def akn:=@PySem.wpAny_setState_of
def ako:=@PyProof.Rows.KeyOrd.kle_refl
def akp:=@of_decide_eq_true
def akq:=@List.cons.injEq
def akr:=@PySem.wpAny_getItem_str_slice
def aks:=@PySem.Heap.SameBut.update
def akt:=@PySem.wpAny_newList
def aku:=@PySem.wpAny_dictSet_pairs
def akv:=@PySem.F.plainAttrs_dict
def akw:=@List.flatten_append
def akx:=@PyProof.Rows.KeyOrd.kle_trans
def aky:=@List.filter_cons
def akz:=@PySem.codeAny_compStart_list
def akA:=@PySem.wpAny_nextOf_list_item
def akB:=@PySem.wpAny_Call_Name_kw
def akC:=@PySem.F.type_dict_setdefault
def akD:=@Option.toList_some
def akE:=@List.of_mem_zip
def akF:=@PySem.F.called_set
def akG:=@List.perm_append_comm
def akH:=@List.not_lt_nil
def akI:=@List.cons_lt_cons_iff
def akJ:=@List.not_lt
def akK:=@List.getElem?_eq_none
def akL:=@PyProof.Rows.KeyOrd.kle_of_klt
def akM:=@List.getElem_take
def akN:=@List.getElem?_inj
def akO:=@List.nodup_iff_pairwise_ne
def akP:=@List.getElem?_append
def akQ:=@List.drop_zero
def akR:=@List.nodup_nil
def akS:=@List.drop_eq_getElem_cons
def akT:=@List.extract_eq_take_drop
def akU:=@List.drop_drop
def akV:=@Classical.byContradiction
def akW:=@List.lookup_cons
def akX:=@List.le_antisymm
def akY:=@PySem.F.slot_dict_itemiterator_iter
def akZ:=@PySem.Heap.get?_update_ne
def ak0:=@PySem.wpAny_field
def ak1:=@PyProof.Rows.wpS_modify
def ak2:=@PySem.F.slot_list_extend
def ak3:=@PySem.F.type_list_extend
def ak4:=@if_false
def ak5:=@PySem.tupleKind_room_in1
def ak6:=@List.forIn_cons
def ak7:=@PySem.wpAny_tests_nil
def ak8:=@List.getElem?_drop
def ak9:=@Bool.or_eq_true
def ala:=@List.length_eq_zero_iff
def alb:=@PySem.Obj.data_mapFields
def alc:=@Nat.not_lt_zero
def ald:=@PyProof.Rows.entry_list_sort
def ale:=@PySem.codeAny_of_tree
def alf:=@PyProof.Rows.listUpdate_at
def alg:=@List.eraseIdx_cons_succ
def alh:=@PySem.F.slot_zip_getattribute
def ali:=@List.count_eq_zero
def alj:=@List.append_cancel_left
def alk:=@PySem.Calls.callWith_builtin
def alm:=@PySem.codeAny_compStart_dict
def aln:=@PySem.wpAny_pyIter_list
def alo:=@Array.toList_push
def alp:=@PySem.fits_of_scanBound
def alq:=@PySem.wpAny_seqItems
def alr:=@PyProof.Rows.slot_list_sort
def als:=@PyProof.Rows.args_list_sort
def alu:=@PySem.wpAny_newTuple
def alv:=@List.take_take
def alw:=@PySem.codeAny_loop
def alx:=@PyProof.Rows.listItems_at
def aly:=@Nat.zero_add
def alz:=@List.eq_nil_or_concat
def alA:=@PySem.wpAny_isInstance
def alB:=@List.drop_append_of_le_length
def alC:=@PySem.Heap.size_update
def alD:=@Array.toList_zip
def alE:=@Array.toList_map
def alF:=@List.getElem_map
def alG:=@List.nodup_range
def alH:=@List.eq_nil_of_length_eq_zero
def alI:=@List.map_reverse
def alJ:=@List.mem_erase_of_ne
def alK:=@PySem.Around.under_plainId
def alL:=@Array.toList_extract
def alM:=@List.replicate_succ'
def alN:=@PySem.wpAny_AugAssign_SubscriptAny
def alO:=@List.all_cons
def alP:=@List.any_cons
def alQ:=@List.lt_trans
def alR:=@PySem.Value.isStrOf_shape
def alS:=@PySem.wpAny_execs_nil
def alT:=@PySem.sizeLine_eq
def alU:=@PySem.W.plainGet_of
def alV:=@PySem.wpAny_noted
def alW:=@List.count_cons
def alX:=@PySem.post_val_or_str
def alY:=@Array.toList_append
def alZ:=@PyProof.Rows.seqEpoch_at
def al0:=@List.drop_length_add_append
def al1:=@PySem.F.slot_zip_next
def al3:=@List.perm_iff_count
def al5:=@Nat.testBit_two_pow_sub_one
def al6:=@List.filter_map
def al8:=@Int.fdiv_eq_ediv_of_nonneg
def al9:=@Array.getElem?_eq_some_iff
def ama:=@List.getElem?_take_eq_none
def amb:=@PySem.W.callWith_K
def amc:=@Nat.lt_trans
def amd:=@List.all_map
def ame:=@PyProof.Rows.plain_sorted
def amf:=@PyProof.Rows.entry_sorted
def amg:=@PyProof.Rows.args_sorted1
def amh:=@or_false
def ami:=@of_decide_eq_false
def amj:=@PySem.wpAny_setField_rec
def amk:=@List.forIn_toArray
def aml:=@List.take_zero
def amm:=@PySem.entryFor_alias
def amn:=@PyProof.Rows.wpS_get
def amo:=@List.lt_irrefl
def amq:=@Nat.add_le_add
def amr:=@PySem.wpAny_assign_Name
def ams:=@PySem.wpAny_load
def amt:=@Option.isSome_iff_exists
def amu:=@PySem.slot_list_getitem
def amw:=@Option.isSome_map
def amx:=@Bool.not_eq_true'
def amy:=@List.length_erase_of_mem
def amz:=@Option.some.injEq
def amA:=@PySem.Heap.SameBut.refl
def amB:=@PySem.wpAny_pyIter_slot
def amC:=@Bool.eq_false_iff
def amD:=@List.getElem_drop
def amE:=@List.flatten_cons
def amF:=@List.foldl_append
def amG:=@PySem.Paired.length
def amH:=@List.getElem?_replicate
def amJ:=@Option.bind_eq_some_iff
def amK:=@PySem.wpAny_attempt
def amL:=@PySem.F.plain_list_iadd
def amM:=@PyProof.Rows.kind_sorted
def amO:=@List.getElem?_cons_succ
def amP:=@PySem.F.slot_dict_items
def amQ:=@Nat.add_assoc
def amR:=@List.pairwise_singleton
def amS:=@List.map_id
def amT:=@Int.le_refl
def amU:=@Nat.min_le_right
def amV:=@List.nil_lt_cons
def amW:=@PySem.wpAny_pyIter_zip
def amX:=@List.any_eq_true
def amY:=@beq_self_eq_true
def amZ:=@PySem.W.cellsFrom_some
def am1:=@List.length_pos_of_mem
def am2:=@Array.getElem?_eq_none
def am4:=@PySem.W.methodCall_KW
def am5:=@Option.map_some
def am6:=@PySem.Txt.slice_le
def am8:=@PySem.wpAny_typeOf
def ana:=@List.Pairwise.sublist
def anb:=@List.singleton_append
def anc:=@List.foldl_cons
def ane:=@Array.Perm.refl
def ang:=@Classical.choose_spec
def ank:=@List.concat_eq_append
def anz:=@List.Perm.refl
def anA:=@List.drop_left
def anB:=@List.forIn_nil
def anC:=@List.take_succ
def anE:=@if_true
def anI:=@PySem.wpAny_of_eq
def anK:=@PySem.wpAny_alloc
namespace L2
open PySem PySem.Spec PyProof.Rows
abbrev Key:=Sum Int Str
def yX:Key->Value->Bool
 |.inl k,v=>Value.isInt k v
 |.inr x,v=>Value.isStrOf x v
def ahA(w:World):Key->Int
 |.inl k=>hashInt k
 |.inr x=>hashStr w x
theorem bQ:∀{k} {v},yX k v=true->(∃i t,k=Sum.inl i/\v=Value.int i t)\/(∃x t,k=Sum.inr x/\v=Value.str x t)
 |.inl i,v,h=>by
  obtain⟨t,e⟩:=Value.isInt_shape   h;exact .inl ⟨i,t,rfl,e⟩
 |.inr x,v,h=>by
  obtain⟨t,e⟩:=alR   h;exact .inr ⟨x,t,rfl,e⟩
theorem abK i t:yX (.inl i) (.int i t)=true:=by simp[yX,Value.isInt]
theorem zN x t:yX (.inr x) (.str x t)=true:=by simp[yX,Value.isStrOf]
theorem agh a b:decide ((Sum.inl a:Key)=Sum.inl b)=(a==b):=by
 grind
theorem afR a b:decide ((Sum.inr a:Key)=Sum.inr b)=decide (a=b):=by
 grind
theorem ago a b:decide ((Sum.inl a:Key)=Sum.inr b)=false:=by grind
theorem afM a b:decide ((Sum.inr a:Key)=Sum.inl b)=false:=by grind
def bj(prog:Program)(w:World):PySem.KeyKind prog w Key where
 is:=yX
 hash:=ahA w
 inj:=λv a b ha hb=>by
  rcases bQ ha with ⟨i,t,rfl,rfl⟩|⟨x,t,rfl,rfl⟩
  .rcases bQ hb with ⟨j,u,rfl,e⟩|⟨y,u,rfl,e⟩
   .injection e with e1 _;rw[e1]
   .exact nomatch e
  .rcases bQ hb with ⟨j,u,rfl,e⟩|⟨y,u,rfl,e⟩
   .exact nomatch e
   .injection e with e1 _;rw[e1]
 byValue:=λk v h=>by
  rcases bQ h with ⟨i,t,rfl,rfl⟩|⟨x,t,rfl,rfl⟩<;>rfl
 pyHash:=λhv h=>by
  rcases bQ hv with ⟨i,t,rfl,rfl⟩|⟨x,t,rfl,rfl⟩
  .exact wpAny_pyHash_int h
  .exact wpAny_pyHash_str h
 eqBool:=λhu hv h=>by
  rcases bQ hu with ⟨i,t,rfl,rfl⟩|⟨x,t,rfl,rfl⟩
  .rcases bQ hv with ⟨j,u,rfl,rfl⟩|⟨y,u,rfl,rfl⟩
   .rw[agh]at h;exact wpAny_eqBool_int h
   .rw[ago]at h;exact SeqAt.EqAt.int_str i t y u _ _ _ _ h
  .rcases bQ hv with ⟨j,u,rfl,rfl⟩|⟨y,u,rfl,rfl⟩
   .rw[afM]at h;exact SeqAt.EqAt.str_int x t j u _ _ _ _ h
   .rw[afR]at h;exact wpAny_eqBool_str h
 «strs»:=λk x t v h=>by
  rcases bQ h with ⟨i,u,rfl,e⟩|⟨y,u,rfl,e⟩
  .exact nomatch e
  .injection e with e1 _
   subst e1;cases v<;>rfl
theorem vZ prog w i t:(bj prog w).is (.inl i) (.int i t)=true:=abK i t
theorem oJ prog w x t:(bj prog w).is (.inr x) (.str x t)=true:=zN x t
inductive V where
 |non|bl (b:Bool) | int (i:Int) | str (x:Str) | byt (b:Array UInt8) | flt (b:UInt64) | ref (a:Addr) | ty (n:String)
 deriving DecidableEq
def RelV:V->Value->Prop
 |.non,u=>u=Value.none
 |.bl b,u=>u=Value.bool b
 |.int i,u=>∃t,u=Value.int i t
 |.str x,u=>∃t,u=Value.str x t
 |.byt b,u=>∃t,u=Value.bytes b t
 |.flt b,u=>∃t,u=Value.float b t
 |.ref a,u=>u=Value.ref a
 |.ty n,u=>u=Value.type n
abbrev Vals:List V->List Value->Prop:=Paired RelV
theorem Vals.length{xs z}(r:Vals xs z):xs.length=z.length:=amG r
theorem Vals.get:∀{xs} {z} {i:Nat} {x},Vals xs z->xs[i]?=some x->∃u,z[i]?=some u/\RelV x u
 |_,_,_,_,.nil,e=>by simp at e
 |_,_,0,_,.cons r _,e=>by simp_all
 |_,_,i+1,x,.cons _ t,e=>by
  obtain⟨u,h1,h2⟩:=Vals.get   t (by simpa using e);simp_all
theorem Vals.set{x u}(r:RelV x u):∀{xs} {z} i,Vals xs z->Vals (xs.set i x) (z.set i u)
 |_,_,_,.nil=>.nil
 |_,_,0,.cons _ t=>.cons r t
 |_,_,i+1,.cons q t=>.cons q (Vals.set r i t)
theorem Vals.append:∀{xs ys} {z B},Vals xs z->Vals ys B->Vals (xs++ys) (z++B)
 |_,_,_,_,.nil,s=>s
 |_,_,_,_,.cons r t,s=>.cons r (Vals.append t s)
theorem Vals.take:∀{xs} {z} n,Vals xs z->Vals (xs.take n) (z.take n)
 |_,_,0,_=>.nil
 |_,_,_+1,.nil=>.nil
 |_,_,n+1,.cons r t=>.cons r (Vals.take n t)
theorem Vals.drop:∀{xs} {z} n,Vals xs z->Vals (xs.drop n) (z.drop n)
 |_,_,0,r=>r
 |_,_,_+1,.nil=>.nil
 |_,_,n+1,.cons _ t=>Vals.drop n t
def RelO:Option V->Option Value->Prop
 |some v,some u=>RelV v u
 |none,none=>True
 |_,_=>False
def KV{κ:Type}:List (κ×V)->List (κ×Value)->Prop:=Paired λ(p:κ×V) (q:κ×Value)=>p.1=q.1/\RelV p.2 q.2
def kV:Key->V
 |.inl i=>.int i
 |.inr x=>.str x
inductive HO where
 |lst (xs:List V)
 |tup (xs:List V)
 |dK (kvs:List (Key×V)) | dT (kvs:List (List Key×V))
 |set (S:Int->Bool) (n:Nat)
 |ins (C dx:Addr) (fs:List (Str×V))
 |own (x:Addr)
 |xd (fs:List (Str×V))
 |met (f x:Addr)
 |rng (lo hi:Int)
 |frz (o:Obj) (u:HO)
 |tbl (ps:Array Value)
 |ext (φ:Heap->Prop)
abbrev Hp:=Addr->Option HO
def upd(H:Hp)(a:Addr)(o:HO):Hp:=λb=>if b=a then some o else H b
theorem af{H a o}:upd H a o a=some o:=by unfold upd;rw[if_pos rfl]
theorem ai{H a b o}(h:b≠a):upd H a o b=H b:=by unfold upd;rw[if_neg h]
theorem rL{H:Hp}{a b o u}(h:H a=some o)(h':H b=some u)(d:o≠u):a≠b:=by
 grind
theorem ag{H:Hp}{a b o}(h:H a=some o)(h':H b=none):a≠b:=by
 grind
section
variable (P:Program)(w:World)
def ObjOk(H:Hp)(h:Heap)(a:Addr):HO->Prop
 |.lst xs=>xs.length<=sizeLine/\∃(its:List Value) (n:Nat),Vals xs its/\h.get? a=some {cls:=.type "list",data:=.seq its.toArray n}
 |.tup xs=>xs.length<=sizeLine/\∃its:List Value,Vals xs its/\IsTup h a its.toArray
 |.dK kvs=>kvs.length<=sizeLine/\(a==sysModules)=false/\∃vs,KV kvs vs/\h.DictOf (bj P w) a vs
 |.dT kvs=>kvs.length<=sizeLine/\(a==sysModules)=false/\∃xs:List (List Key×Addr×Value),
  Paired (λ(p:List Key×V) (q:List Key×Addr×Value)=>p.1=q.1/\H q.2.1=some (.tup (p.1.map kV))/\RelV p.2 q.2.2) kvs xs ∧
  ∃o es ep,h.get? a=some o/\o.ExactDict/\o.data=.dict es ep/\es.toList=xs.map (entryOfKey (tupleKind (bj P w)))/\(xs.map (·.1)).Nodup
 |.set S n=>h.SetOf (intKind P w) a S n
 |.ins C dx fs=>H dx=some (.own a)/\fs.length<=1000/\dx≠a/\h.get? a=some (instObj C dx)∧
  ∃mA,h.Ns1 dx mA/\(∀f,RelO (fs.lookup f) (mA f))/\PySem.Within mA (fs.map (·.1))
 |.own _=>∃o,h.get? a=some o
 |.xd fs=>∃mA,h.Ns1 a mA/\∀f,RelO (fs.lookup f) (mA f)
 |.rng lo hi=>∃t u v,h.get? a=some {cls:=.type "range",data:=.fields #[.int lo t,.int hi u,.int 1 v] }
 |.frz o u=>h.get? a=some o/\ObjOk H h a u
 |.tbl ps=>h.get? a=some {cls:=.none,data:=.fields ps}
 |.met f x=>h.get? a=some (PySem.W.methodObj (.ref f) (.ref x))
 |.ext φ=>φ h/\(∃o,h.get? a=some o)/\∀h1 h2:Heap,φ h1->(∀o,h1.get? a=some o->h2.get? a=some o)->φ h2
def HOk(H:Hp)(h:Heap):Prop:=∀a o,H a=some o->ObjOk P w H h a o
end
section
variable {P:Program}{w:World}{H H':Hp}{h h':Heap}{a:Addr}{o:HO}
theorem ObjOk.lt(x:ObjOk P w H h a o):a<h.objs.size:=by
 cases o with
 |lst xs=>obtain⟨_,_,_,_,e⟩:=x;exact ah3 e
 |tup xs=>obtain⟨_,_,_,p⟩:=x;exact p.lt
 |dK kvs=>obtain⟨_,_,_,_,o,_,_,e,_⟩:=x;exact ah3 e
 |dT kvs=>obtain⟨_,_,_,_,o,_,_,e,_⟩:=x;exact ah3 e
 |set S n=>obtain⟨o,_,_,_,e,_⟩:=x;exact ah3 e
 |ins C dx fs=>obtain⟨_,_,_,e,_⟩:=x;exact ah3 e
 |own y=>obtain⟨_,e⟩:=x;exact ah3 e
 |xd fs=>obtain⟨_,⟨_,_,_,e,_⟩,_⟩:=x;exact ah3 e
 |rng lo hi=>obtain⟨_,_,_,e⟩:=x;exact ah3 e
 |frz z u=>obtain⟨e,_⟩:=x;exact ah3 e
 |tbl ps=>exact ah3 (x)
 |met f y=>exact ah3 (x)
 |ext B=>obtain⟨_,⟨_,e⟩,_⟩:=x;exact ah3 e
theorem Paired.mapP{α B F G}:∀{z:List α} {l₂:List B},Paired F z l₂->(∀a b,F a b->G a b)->Paired G z l₂
 |_,_,.nil,_=>.nil
 |_,_,.cons r t,f=>.cons (f _ _ r) (Paired.mapP t f)
theorem ObjOk.stay(x:ObjOk P w H h a o)(k:∀b u,(b=a\/H b=some (.own a))->h.get? b=some u->h'.get? b=some u)
 (L:∀b,H b=some (.own a)->H' b=some (.own a))(O:∀b xs,H b=some (.tup xs)->H' b=some (.tup xs)):ObjOk P w H' h' a o:=by
 induction o with
 |lst xs=>obtain⟨z,its,n,r,e⟩:=x;exact⟨z,its,n,r,k _ _ (.inl rfl) e⟩
 |tup xs=>obtain⟨z,its,r,B,e,c⟩:=x;exact⟨z,its,r,B,k _ _ (.inl rfl) e,c⟩
 |dK kvs=>obtain⟨z,y,Y,r,B,es,ep,e,c⟩:=x;exact⟨z,y,Y,r,B,es,ep,k _ _ (.inl rfl) e,c⟩
 |dT kvs=>
  obtain⟨z,y,xs,r,B,es,ep,e,c⟩:=x;exact⟨z,y,xs,Paired.mapP r λp q z=>⟨z.1,O _ _ z.2.1,z.2.2⟩,B,es,ep,k _ _ (.inl rfl) e,c⟩
 |set S n=>obtain⟨B,es,ep,t,e,c⟩:=x;exact⟨B,es,ep,t,k _ _ (.inl rfl) e,c⟩
 |ins C dx fs=>
  obtain⟨d,z,ne,e,mA,⟨J,es,ep,Z,c⟩,r⟩:=x;exact⟨L _ d,z,ne,k _ _ (.inl rfl) e,mA,⟨J,es,ep,k _ _ (.inr d) Z,c⟩,r⟩
 |own y=>obtain⟨B,e⟩:=x;exact⟨B,k _ _ (.inl rfl) e⟩
 |xd fs=>obtain⟨mA,⟨J,es,ep,e,c⟩,r⟩:=x;exact⟨mA,⟨J,es,ep,k _ _ (.inl rfl) e,c⟩,r⟩
 |rng lo hi=>obtain⟨t,u,v,e⟩:=x;exact⟨t,u,v,k _ _ (.inl rfl) e⟩
 |frz B u ih=>obtain⟨e,q⟩:=x;exact⟨k _ _ (.inl rfl) e,ih q⟩
 |tbl ps=>
  have e:=x;exact k a _ (.inl rfl) e
 |met f y=>
  have e:=x;exact k a _ (.inl rfl) e
 |ext φ=>obtain⟨p,⟨o,e⟩,st⟩:=x;exact⟨st _ _ p λo=>k _ _ (.inl rfl),⟨o,k _ _ (.inl rfl) e⟩,st⟩
theorem HOk.lt(x:HOk P w H h)(e:H a=some o):a<h.objs.size:=(x a o e).lt
theorem HOk.fresh(x:HOk P w H h)(e:h.objs.size<=a):H a=none:=by
 cases q:H a with
 |none=>rfl
 |some u=>exact absurd (ah9 (x.lt q) e) (ai8 _)
theorem HOk.kept(x:HOk P w H h)(k:∀b u,h.get? b=some u->h'.get? b=some u):HOk P w H h':=λa o e=>
 (x a o e).stay (λb u _=>k b u) (λ_ q=>q) λ_ _ q=>q
theorem HOk.laid(x:HOk P w H h)(k:∀b u,h.get? b=some u->h'.get? b=some u)(J:h.objs.size<=a)(new:ObjOk P w (upd H a o) h' a o):HOk P w (upd H a o) h':=λb u e=>by
 have z:=x.fresh J;by_cases B:b=a
 .subst B;rw[af]at e;grind
 .rw[ai B]at e;exact (x b u e).stay (λc v _=>k c v) (λc q=>by rw[ai (ag q z)];exact q) λc xs q=>by rw[ai (ag q z)];exact q
end
def Rd(H:Hp)(a:Addr)(u:HO):Prop:=H a=some u\/∃o,H a=some (.frz o u)
theorem Rd.ok{P w H h a u}(r:Rd H a u)(x:HOk P w H h):ObjOk P w H h a u:=by
 rcases r with r|⟨o,r⟩
 .exact x a u r
 .obtain⟨_,q⟩:=x a _ r;exact q
def Mut:Option HO->Prop
 |some (.lst _)=>True
 |some (.dK _)=>True
 |some (.dT _)=>True
 |some (.set _ _)=>True
 |some (.ins _ _ _)=>True
 |some (.ext _)=>True
 |_=>False
section
variable {P:Program}{w:World}{H:Hp}{h h':Heap}{x e:Addr}{o':HO}
theorem HOk.write(ok:HOk P w H h)(L:Mut (H x))(he:e=x\/H e=some (.own x))(k:∀b u,b≠e->h.get? b=some u->h'.get? b=some u)(O:∃u,h'.get? e=some u)
 (new:ObjOk P w (upd H x o') h' x o'):HOk P w (upd H x o') h':=λb u q=>by
 have B:∀c y,H c=some (.own y)->c≠x:=λc y r z=>by subst z;rw[r]at L;exact L
 have J:∀c xs,H c=some (.tup xs)->c≠x:=λc xs r z=>by subst z;rw[r]at L;exact L
 by_cases S:b=x
 .subst S;rw[af]at q;grind
 .rw[ai S]at q;by_cases Z:b=e
  .have Y:H b=some (.own x):=by
    grind
   rw[q]at Y;cases Y;obtain⟨v,hv⟩:=O;exact⟨v,by simp_all⟩
  .refine (ok b u q).stay (λc v hc=>k c v ?_) (λc r=>by rw[ai (B c b r)];exact r) λc xs r=>by rw[ai (J c xs r)];exact r
   grind
end
structure Un(fs ex:List Addr)(H H':Hp)(h h':Heap):Prop where
 keep:∀b o,h.get? b=some o->H b=none->b∉fs->b∉ex->h'.get? b=some o
 slot:∀b o,h.get? b=some o->H b=none->b∈fs->b∉ex->∃sl,h'.get? b=some {o with slots:=sl}
 free:∀b o,h.get? b=some o->H b=none->b∉ex->H' b=none
 there:∀b o,h.get? b=some o->b∉ex->∃o',h'.get? b=some o'
 tups:∀b xs,H b=some (.tup xs)->H' b=some (.tup xs)
 frzs:∀b o u,H b=some (.frz o u)->H' b=some (.frz o u)
 tbls:∀b ps,H b=some (.tbl ps)->∃more,H' b=some (.tbl (ps++more))
section
variable {fs fs' ex ex':List Addr}{H H1 H2:Hp}{h h1 h2 h':Heap}{a x e:Addr}{o:HO}
theorem Un.any(u:Un fs ex H H1 h h1){b z}(q:h.get? b=some z)(n:H b=none)(B:b∉ex):∃sl,h1.get? b=some {z with slots:=sl}:=by
 by_cases J:b∈fs
 .exact u.slot b z q n J B
 .exact⟨z.slots,u.keep b z q n J B⟩
theorem Un.kept(k:∀b u,h.get? b=some u->h'.get? b=some u):Un fs ex H H h h':=
 ⟨λb z q _ _ _=>k b z q,λb z q _ _ _=>⟨z.slots,k b z q⟩,λ_ _ _ n _=>n,λb z q _=>⟨z,k b z q⟩,λ_ _ q=>q,λ_ _ _ q=>q,λ_ ps q=>⟨#[],by rw[q];simp⟩⟩
theorem Un.refl:Un fs ex H H h h:=Un.kept λ_ _ q=>q
theorem Un.laid(k:∀b u,h.get? b=some u->h'.get? b=some u)(B:h.objs.size<=a)(z:H a=none):Un fs ex H (upd H a o) h h' where
 keep:=λb u q _ _ _=>k b u q
 slot:=λb u q _ _ _=>⟨u.slots,k b u q⟩
 free:=λb u q n _=>by rw[ai (ah6 (ah9 (ah3 q) B))];exact n
 there:=λb u q _=>⟨u,k b u q⟩
 tups:=λb xs q=>by rw[ai (ag q z)];exact q
 frzs:=λb u xs q=>by rw[ai (ag q z)];exact q
 tbls:=λb ps q=>⟨#[],by rw[ai (ag q z),q];simp⟩
theorem Un.write(J:Mut (H x))(Z:e=x\/H e=some (.own x))(k:∀b u,b≠e->h.get? b=some u->h'.get? b=some u)(L:∃u,h'.get? e=some u):Un fs ex H (upd H x o) h h':=by
 have S:∀b,H b=none->b≠x:=λb n z=>by subst z;rw[n]at J;exact J
 have Y:∀b,H b=none->b≠e:=λb n z=>by
  subst z;rcases Z with r|r
  .exact S b n r
  .rw[n]at r;cases r
 have O:∀b u,H b=some u->¬ Mut (some u)->b≠x:=λb u q nm z=>by subst z;rw[q]at J;exact nm J
 refine⟨λb u q n _ _=>k b u (Y b n) q,λb u q n _ _=>⟨u.slots,k b u (Y b n) q⟩,λb u q n _=>by rw[ai (S b n)];exact n,λb u q _=>?_,
  λb xs q=>by rw[ai (O b _ q λz=>z)];exact q,λb u xs q=>by rw[ai (O b _ q λz=>z)];exact q,λb ps q=>⟨#[],by rw[ai (O b _ q λz=>z),q];simp⟩⟩
 by_cases B:b=e
 .subst B;exact L
 .exact⟨u,k b u B q⟩
end
def trk(h:Heap)(H:Hp):List Addr:=(List.range h.objs.size).filter λa=>(H a).isSome
def adz(h:Heap)(H:Hp):Heap:=PySem.W.hideAll h (trk h H)
theorem z5 h H:(adz h H).objs.size=h.objs.size:=PySem.W.hideAll_size _ _
theorem aco{h H b o}(e:h.get? b=some o)(n:H b=none):(adz h H).get? b=some o:=
 PySem.W.hideAll_get _ e λz=>by
  have q:=(aiU.mp z).2;simp_all
theorem aeO{h H b o}(e:(adz h H).get? b=some o):h.get? b=some o/\H b=none:=by
 have B:=PySem.W.of_hideAll _ e;refine⟨B,?_⟩;cases q:H b with
 |none=>rfl
 |some x=>
  have J:b∈trk h H:=aiU.mpr ⟨ajL.mpr (ah3 B),by simp[q]⟩;have z:(adz h H).get? b=none:=PySem.W.hideAll_none _ J;grind
def aes(g h:Heap)(L:Addr):List (Addr×Obj):=(List.range h.objs.size).filterMap λa=>if a=L\/(g.get? a).isSome=true then none else (h.get? a).map λo=>(a,o)
def rest(g h:Heap)(L d:Addr):List (Addr×Obj):=(aes g h L).filter λp=>decide (p.1≠d)
structure Mod(K:PySem.W.Frag)(mg:Str->Option Value)(base:Heap):Prop where
 kin:K.In base
 glob:base.Ns mainGlobals mg
 blt:∃mb,base.Ns builtinsNs mb/\∀x:Str,x≠"__name__" → mb x=bootBuiltins x
 nolimit:base.NoLimit
structure Cx where
 prog:Program
 w:World
 K:PySem.W.Frag
 mg:Str->Option Value
 base:Heap
 A:Around
 N:List Str
 s₀:Shared
 H₀:Hp
 env:Env
 outer:List Env
 stack:List Env
 ex:List Addr
 fn:Str->Bool
 calm:Bool
 pn:List (Addr×Obj)
 xe:Value->Shared->Prop
def frs(l:List Env):List Addr:=l.filterMap (·.frame)
abbrev Cx.fs(X:Cx):List Addr:=frs X.outer
def Vis(sc:Scope)(x:Str):Prop:=sc.names.lookup x=some .local\/sc.names.lookup x=some .cell\/sc.names.lookup x=some .free
def Loc(sc:Scope)(x:Str):Prop:=sc.names.lookup x=some .local\/sc.names.lookup x=some .cell
def ahQ(env:Env)(h:Heap)(m:Str->Option Value)(x:Str)(u:Value):Prop:=
 (env.kindOf x=some .local/\m x=some u)\/((env.kindOf x=some .cell\/env.kindOf x=some .free)/\∃c,env.cells.lookup x=some c/\h.IsCell c (some u))
structure Cx.Ok(X:Cx):Prop where
 mod:Mod X.K X.mg X.base
 kind:X.env.scope.kind=.function
 glob:X.env.globals=mainGlobals
 blt:X.env.builtins=builtinsNs
 above:X.s₀.heap.objs.size<=X.env.locals
 inj:∀x y c,X.env.cells.lookup x=some c->X.env.cells.lookup y=some c->x=y
 has:∀x,(X.env.kindOf x=some .cell\/X.env.kindOf x=some .free)->∃c,X.env.cells.lookup x=some c
 cab:∀x c,X.fn x=true->X.env.cells.lookup x=some c->X.s₀.heap.objs.size<=c
 hd:X.calm=true->X.A.handled=none
 frames:X.A.frames=some X.stack
 stk:X.stack=X.outer\/(X.stack=X.env::X.outer/\X.env.frame=some X.env.locals)
 exf:∀b∈X.ex,b≠X.env.locals/\∀x c,X.env.cells.lookup x=some c->c≠b
 bs:∀b o,X.base.get? b=some o->X.s₀.heap.get? b=some o/\X.H₀ b=none
 bsz:X.base.objs.size<=X.s₀.heap.objs.size
 noex:∀b o,X.base.get? b=some o->b∉X.ex
 exfs:∀b∈X.ex,b∉X.fs
 funs:X.s₀.heap.FunFrames X.base X.outer
 frf:∀b∈X.fs,X.H₀ b=none
structure Inv(X:Cx)(pins:List (Addr×Obj))(σ:List (Option V))(H:Hp)(s:Shared):Prop where
 ok:X.Ok
 os:s.os=X.s₀.os
 bare:AllBare s.gens
 base:Un X.fs X.ex X.H₀ H X.s₀.heap s.heap
 loc:∃m,s.heap.Ns X.env.locals m/\∀(i:Nat) (x:Str) (v:V),X.N[i]?=some x->σ[i]?=some (some v)->Vis X.env.scope x->∃u,RelV v u/\ahQ X.env s.heap m x u
 cell:∀x c,X.env.cells.lookup x=some c->∃v,s.heap.IsCell c v
 free:H X.env.locals=none
 freeC:∀x c,X.env.cells.lookup x=some c->H c=none
 pin:∀p∈X.pn++pins,s.heap.get? p.1=some p.2/\H p.1=none/\p.1≠X.env.locals/\p.1∉X.fs/\∀v,p.2.data≠.cell v
 hok:HOk X.prog X.w H s.heap
 len:σ.length=X.N.length
section
variable {X:Cx}{pins:List (Addr×Obj)}{σ:List (Option V)}{H H':Hp}{s:Shared}{h':Heap}
theorem Cx.Ok.nofr(ok:X.Ok){b o}(e:X.base.get? b=some o):b∉X.fs:=λz=>by
 have:=(ok.funs.mem z).1;grind
theorem Inv.bs(I:Inv X pins σ H s):∀b o,X.base.get? b=some o->s.heap.get? b=some o/\H b=none:=λb o e=>
 ⟨I.base.keep b o (I.ok.bs b o e).1 (I.ok.bs b o e).2 (I.ok.nofr e) (I.ok.noex b o e),I.base.free b o (I.ok.bs b o e).1 (I.ok.bs b o e).2 (I.ok.noex b o e)⟩
theorem Inv.bk(I:Inv X pins σ H s):∀b o,X.base.get? b=some o->s.heap.get? b=some o:=λb o e=>(I.bs b o e).1
theorem Inv.mod(I:Inv X pins σ H s):Mod X.K X.mg X.base:=I.ok.mod
theorem Inv.kIn(I:Inv X pins σ H s):X.K.In s.heap:=I.ok.mod.kin.keeps I.bk
theorem Inv.fr(I:Inv X pins σ H s):∃m,Fr X.base X.env.locals s.heap m:=
 let ⟨m,z,_⟩:=I.loc
 ⟨m,z,I.bk,aij I.ok.bsz I.ok.above⟩
theorem Inv.lt(I:Inv X pins σ H s):X.env.locals<s.heap.objs.size:=let ⟨_,z,_⟩:=I.loc;z.lt
theorem Inv.sz(I:Inv X pins σ H s):X.s₀.heap.objs.size<=s.heap.objs.size:=aij I.ok.above (aiF I.lt)
theorem Inv.nofs(I:Inv X pins σ H s){a:Addr}(h:s.heap.objs.size<=a):a∉X.fs:=λz=>by
 obtain⟨_,o,B,_⟩:=I.ok.funs.mem z;exact absurd (ah9 (ah3 B) (aij I.sz h)) (ai8 _)
theorem Inv.cne(I:Inv X pins σ H s):∀x c,X.env.cells.lookup x=some c->c≠X.env.locals:=λx c e z=>by
 obtain⟨v,o,L,O⟩:=I.cell x c e;obtain⟨m,⟨o',es,ep,B,J,_⟩,_⟩:=I.loc;grind
theorem Inv.funs(I:Inv X pins σ H s):s.heap.FunFrames X.base X.outer:=by
 have all:∀l,(∀b∈frs l,b∈X.fs)->X.s₀.heap.FunFrames X.base l->s.heap.FunFrames X.base l:=by
  intro l
  induction l with
  |nil=>intro _ _;trivial
  |cons Y r Z=>
   intro O hl;obtain⟨hk,⟨L,o,S,hn,ho,hd⟩,hr⟩:=hl;have B:=O L (by unfold frs;simp_all);obtain⟨sl,e⟩:=I.base.slot L o ho (I.ok.frf L B) B λz=>I.ok.exfs L z B;exact⟨hk,⟨L,_,S,hn,e,hd⟩,Z (λb J=>O b (by unfold frs;rw[List.filterMap_cons,S];exact aih _ J)) hr⟩
 exact all _ (λ_ J=>J) I.ok.funs
theorem Inv.stack(I:Inv X pins σ H s):s.heap.FunFrames X.base X.stack:=by
 rcases I.ok.stk with e|⟨e,hf⟩
 .rw[e];exact I.funs
 .rw[e]
  let ⟨m,z,_⟩:=I.loc
  exact .cons (by rw[I.ok.kind];decide) hf z (Heap.get?_none_of_le (aij I.ok.bsz I.ok.above)) I.funs
theorem Inv.stkSub(I:Inv X pins σ H s):∀b∈frs X.stack,b∈X.env.locals::X.fs:=λb hb=>by
 rcases I.ok.stk with e|⟨e,hf⟩
 .simp_all
 .rw[e]at hb;unfold frs at hb;rw[List.filterMap_cons,hf]at hb;exact hb
theorem Inv.stkFree(I:Inv X pins σ H s):∀b∈frs X.stack,H b=none:=λb hb=>by
 rcases ain.mp (I.stkSub b hb) with e|hb
 .rw[e];exact I.free
 .obtain⟨_,o,B,_⟩:=I.ok.funs.mem hb;exact I.base.free b o B (I.ok.frf b hb) λz=>I.ok.exfs b z hb
theorem Inv.step{g' t' d'}{ch:List _}(I:Inv X pins σ H s)
 (J:∀b∈ch,(b∈X.ex\/X.s₀.heap.objs.size<=b)/\b≠X.env.locals/\(∀x c,X.env.cells.lookup x=some c->c≠b)/\∀p∈X.pn++pins,p.1≠b)
 (keep:∀b o,b≠X.env.locals->b∉X.fs->b∉ch->s.heap.get? b=some o->H b=none->h'.get? b=some o)
 (Y:∀b o,b≠X.env.locals->b∈X.fs->b∉ch->s.heap.get? b=some o->H b=none->∃sl,h'.get? b=some {o with slots:=sl})(free:∀b o,b∉ch->s.heap.get? b=some o->H b=none->H' b=none)
 (aa:∀b o,b∉ch->s.heap.get? b=some o->∃o',h'.get? b=some o')
 (ad:∀b xs,H b=some (.tup xs)->H' b=some (.tup xs))(ae:∀b o u,H b=some (.frz o u)->H' b=some (.frz o u))(al:∀b ps,H b=some (.tbl ps)->∃more,H' b=some (.tbl (ps++more)))
 (ns:∀m,s.heap.Ns X.env.locals m->h'.Ns X.env.locals m)(ag:HOk X.prog X.w H' h')(hg:AllBare g'):
 Inv X pins σ H' {s with heap:=h',gens:=g',drawn:=d',toks:=t' }:=by
 have af:∀b o,X.s₀.heap.get? b=some o->b≠X.env.locals:=λb o e=>ah6 (ah9 (ah3 e) I.ok.above);have S:∀b o,X.s₀.heap.get? b=some o->b∉X.ex->b∉ch:=λb o e B hb=>by
  rcases (J b hb).1 with z|z
  .exact B z
  .exact absurd (ah9 (ah3 e) z) (ai8 _)
 have L:∀x c,X.env.cells.lookup x=some c->∀v,s.heap.IsCell c v->h'.IsCell c v:=λx c e v ⟨o,ho,hd⟩=>by
  have O:=λz=>(J c z).2.2.1 x c e rfl;by_cases hc:c∈X.fs
  .obtain⟨sl,q⟩:=Y c o (I.cne x c e) hc O ho (I.freeC x c e);exact⟨_,q,hd⟩
  .exact⟨o,keep c o (I.cne x c e) hc O ho (I.freeC x c e),hd⟩
 refine⟨I.ok,I.os,hg,⟨λb o e n hb B=>?_,λb o e n hb B=>?_,λb o e n B=>?_,λb o e B=>?_,λb xs e=>ad b xs (I.base.tups b xs e),λb o xs e=>ae b o xs (I.base.frzs b o xs e),λb ps e=>?_⟩,?_,λx c e=>?_,?_,λx c e=>?_,λp hp=>?_,ag,I.len⟩
 .exact keep b o (af b o e) hb (S b o e B) (I.base.keep b o e n hb B) (I.base.free b o e n B)
 .obtain⟨sl,Z⟩:=I.base.slot b o e n hb B;obtain⟨ai,e2⟩:=Y b _ (af b o e) hb (S b o e B) Z (I.base.free b o e n B);exact⟨ai,e2⟩
 .obtain⟨o',Z⟩:=I.base.there b o e B;exact free b o' (S b o e B) Z (I.base.free b o e n B)
 .obtain⟨o',Z⟩:=I.base.there b o e B;exact aa b o' (S b o e B) Z
 .obtain⟨m1,Z⟩:=I.base.tbls b ps e;grind
 .let ⟨m,hn,hl⟩:=I.loc
  refine⟨m,ns m hn,λi x v Z e2 e3=>?_⟩;obtain⟨u,r,l⟩:=hl i x v Z e2 e3;refine⟨u,r,?_⟩;rcases l with l|⟨k,c,e,z⟩
  .exact .inl l
  .exact .inr ⟨k,c,e,L x c e _ z⟩
 .obtain⟨v,z⟩:=I.cell x c e;exact⟨v,L x c e v z⟩
 .obtain⟨m,⟨o,_,_,ho,_⟩,_⟩:=I.loc;exact free _ o (λz=>(J _ z).2.1 rfl) ho I.free
 .obtain⟨v,o,ho,hd⟩:=I.cell x c e;exact free c o (λz=>(J c z).2.2.1 x c e rfl) ho (I.freeC x c e)
 .obtain⟨e,n,ne,nf,d⟩:=I.pin p hp;have O:=λz=>(J p.1 z).2.2.2 p hp rfl;exact⟨keep p.1 p.2 ne nf O e n,free p.1 p.2 O e n,ne,nf,d⟩
theorem Inv.un{t'}(I:Inv X pins σ H s)(u:Un X.fs [] H H' s.heap h')(J:HOk X.prog X.w H' h'):Inv X pins σ H' {s with heap:=h',toks:=t' }:=by
 obtain⟨m,⟨o,es,ep,Y,r⟩,_⟩:=id I.loc;obtain⟨sl,Z⟩:=u.any Y I.free (by simp);exact I.step   (ch:=[]) (λ_ z=>nomatch z) (λb o _ L _ e n=>u.keep b o e n L (by simp)) (λb o _ L _ e n=>u.slot b o e n L (by simp)) (λb o _ e n=>u.free b o e n (by simp)) (λb o _ e=>u.there b o e (by simp)) u.tups u.frzs u.tbls (λm' hm=>by
  obtain⟨o',O,S,B,r'⟩:=hm;rw[Y]at B;cases B;exact⟨_,O,S,Z,r'⟩) J I.bare
theorem Inv.call{g' t' d' ch}(I:Inv X pins σ H s)(u:Un (frs X.stack) ch H H' s.heap h')(O:HOk X.prog X.w H' h')(hg:AllBare g')
 (J:∀b∈ch,(b∈X.ex\/X.s₀.heap.objs.size<=b)/\b≠X.env.locals/\(∀x c,X.env.cells.lookup x=some c->c≠b)/\∀p∈X.pn++pins,p.1≠b):
 Inv X pins σ H' {s with heap:=h',gens:=g',drawn:=d',toks:=t' }:=by
 obtain⟨m,⟨o,es,ep,ho,r⟩,_⟩:=id I.loc;obtain⟨sl,S⟩:=u.any ho I.free λz=>(J _ z).2.1 rfl;exact I.step  J (λb o S hb B e n=>u.keep b o e n (λz=>(ain.mp (I.stkSub b z)).elim S hb) B) (λb o _ _ B e n=>u.any e n B) (λb o B e n=>u.free b o e n B) (λb o B e=>u.there b o e B) u.tups u.frzs u.tbls (λm' hm=>by
  obtain⟨o',Y,Z,L,r'⟩:=hm;rw[ho]at L;cases L;exact⟨_,Y,Z,S,r'⟩) O hg
theorem Inv.turned{t' it}(I:Inv X pins σ H s)(k:∀b o,b≠it->s.heap.get? b=some o->h'.get? b=some o)(hn:H it=none)(J:it≠X.env.locals)
 (h1:it∈X.ex\/X.s₀.heap.objs.size<=it)(h2:∀x c,X.env.cells.lookup x=some c->c≠it)(L:∀p∈X.pn++pins,p.1≠it):Inv X pins σ H {s with heap:=h',toks:=t' }:=by
 have O:∀b u,H b=some u->b≠it:=λb u e z=>by grind
 refine I.step   (ch:=[it]) (λb S=>?_) (λb o _ _ B e _=>k b o (λz=>B (by simp[z])) e) (λb o _ _ B e _=>⟨o.slots,k b o (λz=>B (by simp[z])) e⟩) (λ_ _ _ _ n=>n)
  (λb o B e=>⟨o,k b o (λz=>B (by simp[z])) e⟩) (λ_ _ e=>e) (λ_ _ _ e=>e) (λb ps e=>⟨#[],by rw[e];simp⟩) (λm Y=>?_) (λb u e=>?_) I.bare
 .have e:=by simpa using S
  subst e;exact⟨h1,J,h2,L⟩
 .obtain⟨o,es,ep,Z,r⟩:=Y;exact⟨o,es,ep,k _ o (ai2 J) Z,r⟩
 .refine (I.hok b u e).stay (λc v B=>k c v ?_) (λ_ q=>q) λ_ _ q=>q;rcases B with z|z<;>simp_all
theorem Inv.tok(I:Inv X pins σ H s) t:Inv X pins σ H {s with toks:=t}:=I.un   Un.refl I.hok
theorem Inv.kept{t'}(I:Inv X pins σ H s)(k:∀b u,s.heap.get? b=some u->h'.get? b=some u):Inv X pins σ H {s with heap:=h',toks:=t' }:=I.un (Un.kept k) (I.hok.kept k)
theorem Inv.laid{a:Addr}{o t' }(I:Inv X pins σ H s)(k:∀b u,s.heap.get? b=some u->h'.get? b=some u)(z:s.heap.objs.size<=a)(new:ObjOk X.prog X.w (upd H a o) h' a o):
 Inv X pins σ (upd H a o) {s with heap:=h',toks:=t' }:=I.un (Un.laid k z (I.hok.fresh z)) (I.hok.laid k z new)
theorem Inv.write{x e o t'}(I:Inv X pins σ H s)(B:Mut (H x))(J:e=x\/H e=some (.own x))(k:∀b u,b≠e->s.heap.get? b=some u->h'.get? b=some u)(z:∃u,h'.get? e=some u)
 (new:ObjOk X.prog X.w (upd H x o) h' x o):Inv X pins σ (upd H x o) {s with heap:=h',toks:=t' }:=I.un (Un.write B J k z) (I.hok.write B J k z new)
theorem Inv.weak{z}(I:Inv X pins σ H s)(J:z.length=σ.length)(w:∀(i:Nat) v,z[i]?=some (some v)->σ[i]?=some (some v)):Inv X pins z H s:=
 ⟨I.ok,I.os,I.bare,I.base,let ⟨m,L,B⟩:=I.loc;⟨m,L,λi x v O S=>B i x v O (w i v S)⟩,I.cell,I.free,I.freeC,I.pin,I.hok,J.trans I.len⟩
theorem Inv.pins_of{pins'}(I:Inv X pins σ H s)(h:∀p∈pins',s.heap.get? p.1=some p.2/\H p.1=none/\p.1≠X.env.locals/\p.1∉X.fs/\∀v,p.2.data≠.cell v):Inv X pins' σ H s:=
 ⟨I.ok,I.os,I.bare,I.base,I.loc,I.cell,I.free,I.freeC,λp B=>(aic.mp B).elim (λz=>I.pin p (ajU _ z)) (h p),I.hok,I.len⟩
theorem xT{N:List Str}(z:N.Nodup){i j:Nat}{x}(a:N[i]?=some x)(b:N[j]?=some x):i=j:=by
 obtain⟨h1,B⟩:=ahW.mp a;obtain⟨h2,J⟩:=ahW.mp b;exact (List.getElem_inj z).mp (B.trans J.symm)
theorem oK{M:Model}{A:Around}{E:Value->Shared->Prop}{i:Nat}{x:Str}{v:V}{u:Value}{Q:Unit->Shared->Prop}(I:Inv X pins σ H s)(hN:X.N.Nodup)(hi:X.N[i]?=some x)(O:Loc X.env.scope x)(r:RelV v u)
 (h:∀s',Inv X pins (σ.set i (some v)) H s'->(∃a,Heap.SameBut a s.heap s'.heap/\(a=X.env.locals\/X.env.cells.lookup x=some a))->Q () s')(hf:X.fn x=true\/X.env.scope.names.lookup x=some .local:=by first|exact .inl rfl|exact .inr rfl|assumption):wpAny M A (storeName X.env x u) Q E s:=by
 obtain⟨m,hn,hl⟩:=id I.loc;have ad:(X.env.scope.kind == .class||(X.env.scope.kind == .module&&X.env.locals !=X.env.globals))=false:=by rw[I.ok.kind];rfl
 have Z:i<σ.length:=by rw[I.len];exact (ahW.mp hi).1
 have cne:=I.cne;have J:∀{a} {h' },(∃o,s.heap.get? a=some o/\H a=none)->Heap.SameBut a _ h'->HOk _ _ H h':=fun {a h'} ha B b ob e=>by
  refine (I.hok b ob e).stay (λc w' S q=>(B.2 c ?_).trans q) (λ_ q=>q) λ_ _ q=>q;grind
 rcases O with hk|hk
 .refine wpAny_storeName_local hk hn (λh' ai B=>?_) ad;obtain⟨oL,_,_,aj,_⟩:=id hn;refine h _ ⟨I.ok,I.os,I.bare,⟨λb o e n hb O=>?_,λb o e n hb O=>?_,I.base.free,λb o e O=>?_,I.base.tups,I.base.frzs,I.base.tbls⟩,⟨_,ai,λj y v' L Y e3=>?_⟩,λy c e=>?_,I.free,I.freeC,λp hp=>?_,J ⟨oL,aj,I.free⟩ B,by simpa using I.len⟩ ⟨_,B,.inl rfl⟩
  .exact (B.2 b (ah6 (ah9 (ah3 e) I.ok.above))).trans (I.base.keep b o e n hb O)
  .obtain⟨sl,L⟩:=I.base.slot b o e n hb O;exact⟨sl,(B.2 b (ah6 (ah9 (ah3 e) I.ok.above))).trans L⟩
  .obtain⟨o',L⟩:=I.base.there b o e O;exact⟨o',(B.2 b (ah6 (ah9 (ah3 e) I.ok.above))).trans L⟩
  .by_cases hj:j=i
   .subst hj;rw[hi]at L;cases L;rw[aj7 Z]at Y;cases Y;exact⟨u,r,.inl ⟨hk,by simp⟩⟩
   .rw[aki (ai2 hj)]at Y;obtain⟨u',r',q⟩:=hl j y v' L Y e3;refine⟨u',r',?_⟩;rcases q with ⟨k,e⟩|⟨k,c,e,z⟩
    .refine .inl ⟨k,?_⟩;have:y≠x:=λe=>hj (xT hN L (e▸hi));simp_all
    .exact .inr ⟨k,c,e,z.sameBut B (cne y c e)⟩
  .obtain⟨w',z⟩:=I.cell y c e;exact⟨w',z.sameBut B (cne y c e)⟩
  .obtain⟨e,n,ne,nf,d⟩:=I.pin p hp;exact⟨(B.2 _ ne).trans e,n,ne,nf,d⟩
 .have ac:X.fn x=true:=by
   grind
  obtain⟨c,S⟩:=I.ok.has x (.inl hk);obtain⟨w',z⟩:=I.cell x c S;refine wpAny_storeName_cell I.ok.kind hk S z (λh' ae B=>?_);obtain⟨oc,aq,au⟩:=id z;refine h {s with heap:=h' } ⟨I.ok,I.os,I.bare,⟨λb o e n hb O=>?_,λb o e n hb O=>?_,I.base.free,λb o e O=>?_,I.base.tups,I.base.frzs,I.base.tbls⟩,⟨m,hn.sameBut B (ai2 (cne x c S)),λj y v' L Y e3=>?_⟩,λy c' e=>?_,I.free,I.freeC,λp hp=>?_,J ⟨oc,aq,I.freeC x c S⟩ B,by simpa using I.len⟩ ⟨c,B,.inr S⟩
  .exact (B.2 b (ah6 (ah9 (ah3 e) (I.ok.cab x c ac S)))).trans (I.base.keep b o e n hb O)
  .obtain⟨sl,L⟩:=I.base.slot b o e n hb O;exact⟨sl,(B.2 b (ah6 (ah9 (ah3 e) (I.ok.cab x c ac S)))).trans L⟩
  .obtain⟨o',L⟩:=I.base.there b o e O;exact⟨o',(B.2 b (ah6 (ah9 (ah3 e) (I.ok.cab x c ac S)))).trans L⟩
  .by_cases hj:j=i
   .subst hj;rw[hi]at L;cases L;rw[aj7 Z]at Y;cases Y;exact⟨u,r,.inr ⟨.inl hk,c,S,ae⟩⟩
   .rw[aki (ai2 hj)]at Y;obtain⟨u',r',q⟩:=hl j y v' L Y e3;refine⟨u',r',?_⟩;rcases q with q|⟨k,c',e,z'⟩
    .exact .inl q
    .refine .inr ⟨k,c',e,z'.sameBut B ?_⟩;rintro rfl;exact hj (xT hN L (I.ok.inj _ _ _ e S▸hi))
  .by_cases af:c'=c
   .subst af;exact⟨_,ae⟩
   .obtain⟨w2,z2⟩:=I.cell y c' e;exact⟨w2,z2.sameBut B af⟩
  .obtain⟨e,n,ne,nf,d⟩:=I.pin p hp;refine⟨(B.2 _ ?_).trans e,n,ne,nf,d⟩;intro q;simp_all
theorem ny{M A E i x v u Q}(I:Inv X pins σ H s)(z:X.N.Nodup)(hi:X.N[i]?=some x)(B:Loc X.env.scope x)(r:RelV v u)
 (h:∀s',Inv X pins (σ.set i (some v)) H s'->Q () s')(J:X.fn x=true\/X.env.scope.names.lookup x=some .local:=by first|exact .inl rfl|exact .inr rfl|assumption):wpAny M A (storeName X.env x u) Q E s:=
 oK I z hi B r (λs' L _=>h s' L) J
theorem Inv.call'{s' ch}(I:Inv X pins σ H s)(J:s'.os=s.os)(u:Un (frs X.stack) ch H H' s.heap s'.heap)(z:HOk X.prog X.w H' s'.heap)(L:AllBare s'.gens)
 (B:∀b∈ch,(b∈X.ex\/X.s₀.heap.objs.size<=b)/\b≠X.env.locals/\(∀x c,X.env.cells.lookup x=some c->c≠b)/\∀p∈X.pn++pins,p.1≠b):Inv X pins σ H' s':=by
 obtain⟨h',O,S,Y,o'⟩:=s';have e:=J;subst e;exact I.call    u z L B
end
abbrev XK:=Value->Option Addr->Hp->Prop
abbrev St:=List (Option V)
abbrev VK:=V->Hp->Prop
abbrev TE:=St->Hp->VK->Prop
abbrev TT:=St->Hp->(Bool->Hp->Prop)->Prop
abbrev TA:=St->Hp->(List V->Hp->Prop)->Prop
structure xQ where
 nx:St->Hp->Prop
 rt:VK
 bk:St->Hp->Prop:=λ_ _=>False
 ct:St->Hp->Prop:=λ_ _=>False
abbrev TS:=xQ->St->Hp->Prop
def EP(X:Cx)(pins:List (Addr×Obj))(σ:St)(Q:VK)(u:Value)(s':Shared):Prop:=∃v H',Inv X pins σ H' s'/\RelV v u/\Q v H'
def TP(X:Cx)(pins:List (Addr×Obj))(σ:St)(Q:Bool->Hp->Prop)(b:Bool)(s':Shared):Prop:=∃H',Inv X pins σ H' s'/\Q b H'
def AP(X:Cx)(pins:List (Addr×Obj))(σ:St)(Q:List V->Hp->Prop)(us:List Value)(s':Shared):Prop:=∃vs H',Inv X pins σ H' s'/\Vals vs us/\Q vs H'
def SP(X:Cx)(pins:List (Addr×Obj))(D:xQ)(f:Flow)(s':Shared):Prop:=
 match f with
 |.next=>∃σ' H',Inv X pins σ' H' s'/\D.nx σ' H'
 |.brk=>∃σ' H',Inv X pins σ' H' s'/\D.bk σ' H'
 |.cont=>∃σ' H',Inv X pins σ' H' s'/\D.ct σ' H'
 |.ret u=>∃v σ' H',Inv X pins σ' H' s'/\RelV v u/\D.rt v H'
def PE(X:Cx)(e:Expr)(t:TE):Prop:=
 ∀(pins:List (Addr×Obj)) (s:Shared) (σ:St) (H:Hp) (Q:VK),Inv X pins σ H s->t σ H Q->wpAny (model X.prog X.w) X.A (eval e X.env) (EP X pins σ Q) X.xe s
def PT(X:Cx)(e:Expr)(t:TT):Prop:=
 ∀(pins:List (Addr×Obj)) (s:Shared) (σ:St) (H:Hp) (Q:Bool->Hp->Prop),Inv X pins σ H s->t σ H Q->wpAny (model X.prog X.w) X.A (isTrue e X.env (eval e X.env)) (TP X pins σ Q) X.xe s
def PW(X:Cx)(e:Expr)(t:TT):Prop:=
 ∀(whole:Sem Value) (pins:List (Addr×Obj)) (s:Shared) (σ:St) (H:Hp) (Q:Bool->Hp->Prop),Inv X pins σ H s->t σ H Q->wpAny (model X.prog X.w) X.A (isTrue e X.env whole) (TP X pins σ Q) X.xe s
theorem PW.pt{X e t}(h:PW X e t):PT X e t:=h _
def PA(X:Cx)(es:List Expr)(t:TA):Prop:=
 ∀(pos:Pos) (pins:List (Addr×Obj)) (s:Shared) (σ:St) (H:Hp) (Q:List V->Hp->Prop),Inv X pins σ H s->t σ H Q->wpAny (model X.prog X.w) X.A (spliced (backTo pos (starEach es X.env))) (AP X pins σ Q) X.xe s
def PS(X:Cx)(st:Stmt)(t:TS):Prop:=
 ∀(pins:List (Addr×Obj)) (s:Shared) (σ:St) (H:Hp) (D:xQ),Inv X pins σ H s->t D σ H->wpAny (model X.prog X.w) X.A (exec st X.env) (SP X pins D) X.xe s
def PSs(X:Cx)(st:List Stmt)(t:TS):Prop:=
 ∀(pins:List (Addr×Obj)) (s:Shared) (σ:St) (H:Hp) (D:xQ),Inv X pins σ H s->t D σ H->wpAny (model X.prog X.w) X.A (execs st X.env) (SP X pins D) X.xe s
theorem thn{α}{t:Sem α}{Q z M A E s}(h:wpAny M A t Q E s)(B:∀a s,Q a s->z a s):wpAny M A t z E s:=aiu h B λ_ _ x=>x
section
variable {X:Cx}
theorem bin{a b:Expr}{ta tb:TE}(L:PE X a ta)(O:PE X b tb){pins:List (Addr×Obj)}{s:Shared}{σ:St}{H:Hp}{R:V->V->Hp->Prop}(I:Inv X pins σ H s)(h:ta σ H λx H1=>tb σ H1 λy H2=>R x y H2)
 {α:Type}{Q:α->Shared->Prop}{f:Value->Value->Sem α}
 (S:∀v u J x y H2,Inv X pins σ H2 J->RelV x v->RelV y u->R x y H2->wpAny (model X.prog X.w) X.A (f v u) Q X.xe J):
 wpAny (model X.prog X.w) X.A (eval a X.env) (λv z=>wpAny (model X.prog X.w) X.A (eval b X.env) (λu B=>wpAny (model X.prog X.w) X.A (f v u) Q X.xe B) X.xe z) X.xe s:=by
 refine thn (L pins s σ H _ I h) λv Y ⟨x,H1,Z,r1,q1⟩=>?_;refine thn (O pins Y σ H1 _ Z q1) λu J ⟨y,H2,I2,r2,q2⟩=>?_;exact S v u J x y H2 I2 r1 r2 q2
def dq(i:Nat):TE:=λσ H Q=>∃v,σ[i]?=some (some v)/\Q v H
def tC(v:V):TE:=λ_ H Q=>Q v H
theorem adA{i x pos}(S:X.N[i]?=some x)(Y:Vis X.env.scope x)(J:(x == "__debug__")=false:=by decide)(L:(x == "__classdict__")=false:=by decide):PE X (.Name x pos) (dq i):=by
 intro pins s σ H Q I h;obtain⟨v,e,h⟩:=h;obtain⟨m,Z,hl⟩:=I.loc;obtain⟨u,r,l⟩:=hl i x v S e Y;have B:EP X _ σ Q u s:=⟨v,H,I,r,h⟩;rcases l with ⟨hk,hm⟩|⟨hk,c,O,z⟩
 .exact wpAny_Name (wpAny_loadName_local I.ok.kind hk Z hm B) J
 .rcases hk with hk|hk
  .exact wpAny_Name (wpAny_loadName_cell I.ok.kind hk O z B) J
  .exact wpAny_Name (wpAny_loadName_free I.ok.kind hk O z B L) J
theorem ar{i j pos}:PE X (.Constant (.int i) j pos) (tC (.int i)):=λ_ _ _ H _ I h=>wpAny_Constant_int ⟨.int i,H,I.tok _,⟨_,rfl⟩,h⟩
theorem oE{b j pos}:PE X (.Constant (.bool b) j pos) (tC (.bl b)):=λ_ _ _ H _ I h=>Constant_bool ⟨.bl b,H,I,rfl,h⟩
theorem mY{j pos}:PE X (.Constant .none j pos) (tC .non):=λ_ _ _ H _ I h=>Constant_none ⟨.non,H,I,rfl,h⟩
theorem abM{x j pos}:PE X (.Constant (.str x) j pos) (tC (.str x)):=λ_ _ _ H _ I h=>Calls.Constant_str ⟨.str x,H,I.tok _,⟨_,rfl⟩,h⟩
def Gl(X:Cx)(x:Str):Prop:=X.env.kindOf x=some .globalImplicit
theorem wR{E pins s}{σ:St}{H x u pos Q}(I:Inv X pins σ H s)(z:Gl X x)(B:X.mg x=some u)(h:Q u s)
 (J:(x == "__debug__")=false:=by decide):wpAny (model X.prog X.w) X.A (eval (.Name x pos) X.env) Q E s:=
 Calls.Name_function_global I.ok.kind z (Calls.loadGlobal_global (by rw[I.ok.glob];exact I.mod.glob.keeps I.bk) B h) J
theorem kX{E pins s}{σ:St}{H x u pos Q}(I:Inv X pins σ H s)(z:Gl X x)(B:X.mg x=none)(J:bootBuiltins x=some u)(h:Q u s)
 (L:x≠"__name__" := by decide)(O:(x == "__debug__")=false:=by decide):wpAny (model X.prog X.w) X.A (eval (.Name x pos) X.env) Q E s:=by
 obtain⟨S,h1,h2⟩:=I.mod.blt;exact Calls.Name_function_global I.ok.kind z (Calls.loadGlobal_builtin (by rw[I.ok.glob];exact I.mod.glob.keeps I.bk) B (by rw[I.ok.blt];exact h1.keeps I.bk) ((h2 x L).trans J) h) O
theorem qZ{x v u pos}(z:Gl X x)(B:X.mg x=some u)(r:RelV v u)(J:(x == "__debug__")=false:=by decide):PE X (.Name x pos) (tC v):=
 λ_ _ _ H _ I h=>wR I z B ⟨v,H,I,r,h⟩ J
theorem oj{x v u pos}(z:Gl X x)(B:X.mg x=none)(J:bootBuiltins x=some u)(r:RelV v u)(L:x≠"__name__" := by decide)(O:(x == "__debug__")=false:=by decide):PE X (.Name x pos) (tC v):=
 λ_ _ _ H _ I h=>kX I z B J ⟨v,H,I,r,h⟩ L O
variable {a b:Expr}{ta tb:TE}{pos:Pos}
def PC(X:Cx)(op:CmpOp)(a b:Expr)(t:TE):Prop:=
 ∀(pins:List (Addr×Obj)) (s:Shared) (σ:St) (H:Hp) (Q:VK),Inv X pins σ H s->t σ H Q →
  wpAny (model X.prog X.w) X.A (eval a X.env) (λv s₁=>wpAny (model X.prog X.w) X.A (eval b X.env) (λu s₂=>wpAny (model X.prog X.w) X.A (compareOp op v u) (EP X pins σ Q) X.xe s₂) X.xe s₁) X.xe s
def tB(t:TE):TT:=λσ H Q=>t σ H λx H1=>∃c,x=.bl c/\Q c H1
theorem tI{z t}(h:PC X z a b t)(h1:behindInMarks z b=false:=by first|exact nobehind _ (by decide) (by decide) | rfl):PT X (.Compare a [z] [b] pos) (tB t):=by
 intro pins s σ H Q I hw;refine wpAny_isTrue_Compare1 (thn (h _ s σ H _ I hw) λv O h1=>thn h1 λu S h2=>thn h2 λc Y ⟨x,H1,B,J,L⟩=>?_) h1;obtain⟨d,rfl,q⟩:=L;cases J;exact ajj ⟨H1,B,q⟩
theorem mV{e t}(h:PE X e t)(B:∀z,isTrue e X.env z=(do let v ←z;standAt e.pos;holding [v] (truthy v)):=by intro _;rfl):PT X e (tB t):=by
 intro pins s σ H Q I hw;refine isTrue_plain (thn (h _ s σ H _ I hw) λv S ⟨x,H1,J,L,O⟩=>?_) (B _);obtain⟨d,rfl,q⟩:=O;cases L;exact ajj ⟨H1,J,q⟩
variable {tA tB':TT}{rest:List Expr}
def ahl(t u:TT):TT:=λσ H Q=>t σ H λc H1=>if c=true then u σ H1 Q else Q false H1
def tOr(t u:TT):TT:=λσ H Q=>t σ H λc H1=>if c=true then Q true H1 else u σ H1 Q
def ahw(t:TT):TT:=λσ H Q=>t σ H λc H1=>Q (!c) H1
theorem su(z:PT X a tA):PW X (.BoolOp .And [a] pos) tA:=by
 intro B pins s σ H Q I h;refine isTrue_and (thn (z _ s σ H Q I h) λc J e=>?_);cases c with
 |true=>exact isTrue_and_nil e
 |false=>exact e
theorem mF(z:PT X a tA):PW X (.BoolOp .Or [a] pos) tA:=by
 intro B pins s σ H Q I h;refine isTrue_or (thn (z _ s σ H Q I h) λc J e=>?_);cases c with
 |false=>exact isTrue_or_nil e
 |true=>exact e
theorem xY(J:PT X a tA)(L:PW X (.BoolOp .And (b::rest) pos) tB'):PW X (.BoolOp .And (a::b::rest) pos) (ahl tA tB'):=by
 intro O pins s σ H Q I h;refine isTrue_and (thn (J _ s σ H _ I h) λc S ⟨H1,z,B⟩=>?_);cases c with
 |true=>exact L O _ S σ H1 Q z B
 |false=>exact⟨H1,z,B⟩
theorem pV(J:PT X a tA)(L:PW X (.BoolOp .Or (b::rest) pos) tB'):PW X (.BoolOp .Or (a::b::rest) pos) (tOr tA tB'):=by
 intro O pins s σ H Q I h;refine isTrue_or (thn (J _ s σ H _ I h) λc S ⟨H1,z,B⟩=>?_);cases c with
 |true=>exact⟨H1,z,B⟩
 |false=>exact L O _ S σ H1 Q z B
theorem k9(z:PT X a tA):PT X (.UnaryOp .Not a pos) (ahw tA):=by
 intro pins s σ H Q I h;exact isTrue_not (z _ s σ H _ I h)
def agF(ta tb:TE):TE:=λσ H Q=>ta σ H λx H1=>∃c,x=.bl c/\if c=true then tb σ H1 Q else Q (.bl false) H1
theorem xn{z t}(h:PE X a t):PE X (.BoolOp z [a] pos) t:=λpins s σ H Q I hw=>BoolOp_one (h _ s σ H Q I hw)
theorem mK(J:PE X a ta)(L:PE X (.BoolOp .And (b::rest) pos) tb):PE X (.BoolOp .And (a::b::rest) pos) (agF ta tb):=by
 intro pins s σ H Q I h;refine BoolOp_and (thn (J _ s σ H _ I h) λv O ⟨x,H1,B,S,z⟩=>?_);obtain⟨c,rfl,z⟩:=z;cases S;refine ajj ?_;cases c with
 |true=>exact L _ O σ H1 Q B z
 |false=>exact⟨.bl _,H1,B,rfl,z⟩
def tIf(t:TT)(ta tb:TE):TE:=λσ H Q=>t σ H λc H1=>if c=true then ta σ H1 Q else tb σ H1 Q
theorem aci{c}(L:PT X c tA)(O:PE X a ta)(S:PE X b tb):PE X (.IfExp c a b pos) (tIf tA ta tb):=by
 intro pins s σ H Q I h;refine wpAny_IfExp (thn (L _ s σ H _ I h) λd z ⟨H1,B,J⟩=>?_);cases d with
 |true=>exact O _ z σ H1 Q B J
 |false=>exact S _ z σ H1 Q B J
end
def SqL(K:PySem.W.Frag)(H:Hp)(a:Addr)(xs:List V):Prop:=
 Rd H a (.lst xs) ∨
  ∃(o:Obj) (its:Array Value) (n:Nat),K.lookup a=some o/\o.cls=.type "list" ∧ o.dict=none/\o.data=.seq its n/\its.size<=sizeLine/\Vals xs its.toList
def SqT(K:PySem.W.Frag)(H:Hp)(a:Addr)(xs:List V):Prop:=
 Rd H a (.tup xs) ∨
  ∃(o:Obj) (its:Array Value) (n:Nat),K.lookup a=some o/\o.cls=.type "tuple" ∧ o.data=.seq its n/\its.size<=sizeLine/\Vals xs its.toList
def ahv:Value->Option V
 |.none=>some .non
 |.bool b=>some (.bl b)
 |.int i _=>some (.int i)
 |.str x _=>some (.str x)
 |.bytes b _=>some (.byt b)
 |.float b _=>some (.flt b)
 |.ref a=>some (.ref a)
 |.type n=>some (.ty n)
 |_=>none
theorem RelV.abs{x u}(r:RelV x u):ahv u=some x:=by
 cases x with
 |non=>cases r;rfl
 |bl _=>cases r;rfl
 |int _=>obtain⟨t,rfl⟩:=r;rfl
 |str _=>obtain⟨t,rfl⟩:=r;rfl
 |byt _=>obtain⟨t,rfl⟩:=r;rfl
 |flt _=>obtain⟨t,rfl⟩:=r;rfl
 |ref _=>cases r;rfl
 |ty _=>cases r;rfl
theorem RelV.inj{x y u}(r:RelV x u)(q:RelV y u):x=y:=ai0 (r.abs.symm.trans q.abs)
theorem Vals.inj:∀{xs ys} {z},Vals xs z->Vals ys z->xs=ys
 |_,_,_,.nil,.nil=>rfl
 |_,_,_,.cons r t,.cons r' t'=>by rw[r.inj r',Vals.inj t t']
section
variable {X:Cx}{pins:List (Addr×Obj)}{σ:St}{H:Hp}{s:Shared}{a:Addr}{xs ys:List V}
theorem SqL.of{K}(h:H a=some (.lst xs)):SqL K H a xs:=.inl (.inl h)
def aAA:=@SqL.of
theorem SqT.of{K}(h:H a=some (.tup xs)):SqT K H a xs:=.inl (.inl h)
def aAB:=@SqT.of
theorem Inv.list(I:Inv X pins σ H s)(h:SqL X.K H a xs):∃its ,Vals xs its/\PlainL s.heap a its.toArray/\xs.length<=sizeLine:=by
 rcases h with h|⟨o,its,n,hk,hc,hd,hs,hz,r⟩
 .obtain⟨z,its,n,r,e⟩:=h.ok I.hok;exact⟨its,r,⟨_,n,e,rfl,rfl,rfl⟩,z⟩
 .refine⟨its.toList,r,⟨o,n,I.kIn a o hk,hc,hd,by simpa using hs⟩,?_⟩;have e:=r.length;grind
theorem Inv.tuple(I:Inv X pins σ H s)(h:SqT X.K H a xs):∃its ,Vals xs its/\IsTup s.heap a its.toArray/\xs.length<=sizeLine:=by
 rcases h with h|⟨o,its,n,hk,hc,hs,hz,r⟩
 .obtain⟨z,its,r,p⟩:=h.ok I.hok;exact⟨its,r,p,z⟩
 .refine⟨its.toList,r,⟨o,I.kIn a o hk,hc,n,by simpa using hs⟩,?_⟩;have e:=r.length;simp_all
theorem Inv.list_inj(I:Inv X pins σ H s)(h:SqL X.K H a xs)(h':SqL X.K H a ys):xs=ys:=by
 obtain⟨its,r,⟨o,n,e,_,_,d⟩,_⟩:=I.list h;obtain⟨z,L,⟨o',O,B,_,_,J⟩,_⟩:=I.list h';rw[e]at B;cases B;rw[d]at J;injection J with d1 _
 have:its=z:=by simp_all
 subst this;exact r.inj L
end
abbrev Cx.wish(X:Cx)(E:Value->Shared->Prop):Cx:={X with xe:=E}
abbrev Cx.nox(X:Cx):Cx:=X.wish λ_ _=>False
theorem Cx.Ok.wish{X:Cx}(ok:X.Ok) E:(X.wish E).Ok:=
 ⟨ok.mod,ok.kind,ok.glob,ok.blt,ok.above,ok.inj,ok.has,ok.cab,ok.hd,ok.frames,ok.stk,ok.exf,ok.bs,ok.bsz,ok.noex,ok.exfs,ok.funs,ok.frf⟩
theorem Cx.Ok.unwish{X:Cx}{E}(ok:(X.wish E).Ok):X.Ok:=
 ⟨ok.mod,ok.kind,ok.glob,ok.blt,ok.above,ok.inj,ok.has,ok.cab,ok.hd,ok.frames,ok.stk,ok.exf,ok.bs,ok.bsz,ok.noex,ok.exfs,ok.funs,ok.frf⟩
section
variable {X:Cx}{pins:List (Addr×Obj)}{σ:St}{H:Hp}{s:Shared}{E:Value->Shared->Prop}
theorem Inv.wish(I:Inv X pins σ H s) E:Inv (X.wish E) pins σ H s:=⟨I.ok.wish E,I.os,I.bare,I.base,I.loc,I.cell,I.free,I.freeC,I.pin,I.hok,I.len⟩
theorem Inv.unwish(I:Inv (X.wish E) pins σ H s):Inv X pins σ H s:=⟨I.ok.unwish,I.os,I.bare,I.base,I.loc,I.cell,I.free,I.freeC,I.pin,I.hok,I.len⟩
theorem SP.unwish{D f s'}(h:SP (X.wish E) pins D f s'):SP X pins D f s':=by
 cases f with
 |next=>obtain⟨z,H',I,q⟩:=h;exact⟨z,H',I.unwish,q⟩
 |brk=>obtain⟨z,H',I,q⟩:=h;exact⟨z,H',I.unwish,q⟩
 |cont=>obtain⟨z,H',I,q⟩:=h;exact⟨z,H',I.unwish,q⟩
 |ret u=>obtain⟨v,z,H',I,r,q⟩:=h;exact⟨v,z,H',I.unwish,r,q⟩
theorem PSs.nox{st t}(h:PSs X.nox st t):PSs X st t:=λpins s σ H D I hw=>
 aiu (h _ s σ H D (I.wish _) hw) (λ_ _ q=>q.unwish) λ_ _=>False.elim
end
section
variable {X:Cx}{st:Stmt}{rest:List Stmt}{t u:TS}{e:Expr}{te:TE}{pos:Pos}
def wU:TS:=λD σ H=>D.nx σ H
def sI(t u:TS):TS:=λD σ H=>t {D with nx:=u D} σ H
theorem bD:PSs X [] wU:=λ_ _ σ H _ I h=>alS ⟨σ,H,I,h⟩
theorem ao(h1:PS X st t)(h2:PSs X rest u):PSs X (st::rest) (sI t u):=by
 intro pins s σ H D I h;refine wpAny_execs_cons (thn (h1 _ s σ H _ I h) λf z q=>?_);cases f with
 |next=>
  obtain⟨B,H',J,q⟩:=q;exact h2 _ z _ H' D J q
 |ret v=>exact q
 |brk=>exact q
 |cont=>exact q
theorem av(h1:PS X st t):PSs X [st] t:=by
 intro pins s σ H D I h;refine wpAny_execs_cons (thn (h1 _ s σ H D I h) λf z q=>?_);cases f with
 |next=>exact alS q
 |ret v=>exact q
 |brk=>exact q
 |cont=>exact q
theorem Inv.quiet{pins}{σ:St}{H s}(I:Inv X pins σ H s):interactive X.env=false:=by simp[interactive,I.ok.kind]
def aa0(te:TE):TS:=λD σ H=>te σ H λ_ H1=>D.nx σ H1
theorem bX(z:PE X e te)(B:swapsWith e none pos.line X.env=pure false:=by rfl):PS X (.Expr e pos) (aa0 te):=by
 intro pins s σ H D I h;exact wpAny_Expr_any (thn (z _ s σ H _ I h) λv O ⟨x,H1,J,S,L⟩=>⟨σ,H1,J,L⟩) I.quiet B
def zT(te:TE):TS:=λD σ H=>te σ H D.rt
theorem aM(z:PE X e te):PS X (.Return (some e) pos) (zT te):=by
 intro pins s σ H D I h;exact wpAny_Return_some (thn (z _ s σ H _ I h) λv O ⟨x,H1,B,J,L⟩=>⟨x,σ,H1,B,J,L⟩)
def afH(c:TT)(t u:TS):TS:=λD σ H=>c σ H λb H1=>if b=true then t D σ H1 else u D σ H1
theorem fm{c a b tc}(L:PT X c tc)(O:PSs X a t)(S:PSs X b u):PS X (.If c a b pos) (afH tc t u):=by
 intro pins s σ H D I h;refine wpAny_If (thn (L _ s σ H _ I h) λd z ⟨H1,B,J⟩=>?_);cases d with
 |true=>exact O _ z σ H1 D B J
 |false=>exact S _ z σ H1 D B J
def afE:TS:=λ_ _ _=>False
theorem kR{z}:PSs X z afE:=λ_ _ _ _ _ _ h=>h.elim
end
abbrev TG:=V->St->Hp->(St->Hp->Prop)->Prop
abbrev TGs:=List V->St->Hp->(St->Hp->Prop)->Prop
def PG(X:Cx)(target:Expr)(t:TG):Prop:=
 ∀(pins:List (Addr×Obj)) (s:Shared) (σ:St) (H:Hp) (v:V) (u:Value) (Q:St->Hp->Prop),Inv X pins σ H s->RelV v u->t v σ H Q →
  wpAny (model X.prog X.w) X.A (assign target X.env u) (λ_ s'=>∃σ' H',Inv X pins σ' H' s'/\Q σ' H') X.xe s
def PGs(X:Cx)(ts:List Expr)(t:TGs):Prop:=
 ∀(pins:List (Addr×Obj)) (s:Shared) (σ:St) (H:Hp) (vs:List V) (us:List Value) (Q:St->Hp->Prop),Inv X pins σ H s->Vals vs us->t vs σ H Q →
  wpAny (model X.prog X.w) X.A (assignInOrder ((assignEach ts X.env).map (·.2)) us) (λ_ s'=>∃σ' H',Inv X pins σ' H' s'/\Q σ' H') X.xe s
abbrev agV:=V->V->V->Hp->(Hp->Prop)->Prop
def ahc(X:Cx)(t:agV):Prop:=
 ∀(pins:List (Addr×Obj)) (s:Shared) (σ:St) (H:Hp) (o i v:V) (ov iv u:Value) (Q:Hp->Prop),Inv X pins σ H s->RelV o ov->RelV i iv->RelV v u->t o i v H Q →
  wpAny (model X.prog X.w) X.A (setItem ov iv u) (λ_ s'=>∃H',Inv X pins σ H' s'/\Q H') X.xe s
abbrev TIp:=V->V->Hp->VK->Prop
def PIp(X:Cx)(op:Operator)(t:TIp):Prop:=
 ∀(pins:List (Addr×Obj)) (s:Shared) (σ:St) (H:Hp) (x y:V) (v u:Value) (Q:VK),Inv X pins σ H s->RelV x v->RelV y u->t x y H Q →
  wpAny (model X.prog X.w) X.A (inplaceOp op v u) (EP X pins σ Q) X.xe s
section
variable {X:Cx}{pos:Pos}
def aR(i:Nat):TG:=λv σ H Q=>Q (σ.set i (some v)) H
theorem aq{i x}(z:X.N.Nodup)(hi:X.N[i]?=some x)(B:Loc X.env.scope x)(J:X.fn x=true\/X.env.scope.names.lookup x=some .local:=by first|exact .inl rfl|exact .inr rfl|assumption):PG X (.Name x pos) (aR i):=by
 intro pins s σ H v u Q I r h;exact amr (ny I z hi B r (λs' L=>⟨_,H,L,h⟩) J)
def vj:TGs:=λvs σ H Q=>vs=[]/\Q σ H
def dr(t:TG)(u:TGs):TGs:=λvs σ H Q=>∃v r,vs=v::r/\t v σ H λσ' H'=>u r σ' H' Q
theorem aO:PGs X [] vj:=by
 intro pins s σ H z B Q I r h;obtain⟨e,h⟩:=h;subst e;exact assignInOrder_nil ⟨σ,H,I,h⟩
theorem au{e es t u}(h1:PG X e t)(h2:PGs X es u)
 (z:(assignEach (e::es) X.env).map (·.2)=assign e X.env::(assignEach es X.env).map (·.2):=by rfl):PGs X (e::es) (dr t u):=by
 intro pins s σ H Z us Q I r h;obtain⟨v,vr,B,h⟩:=h;subst B;cases r with
 |cons r J=>
  rw[z];exact assignInOrder_cons (thn (h1 _ s σ H _ _ _ I r h) λ_ L ⟨O,H1,S,Y⟩=>h2 _ L _ H1 _ _ Q S J Y)
def vh(K:PySem.W.Frag)(n:Nat)(t:TGs):TG:=λv σ H Q=>∃a xs,v=.ref a/\SqT K H a xs/\xs.length=n/\t xs σ H Q
theorem gb{es k t n}(J:X.calm=true)(h:PGs X es t)
 (L:(assignEach es X.env).length=n:=by rfl)(z:(assignEach es X.env).findIdx? (·.1)=none:=by rfl):PG X (.Tuple es k pos) (vh X.K n t):=by
 intro pins s σ H v u Q I r hw;obtain⟨a,xs,O,S,Y,hw⟩:=hw;subst O;cases r;obtain⟨its,B,Z,hz⟩:=I.tuple S;refine assign_Tuple_tuple (I.ok.hd J) Z (by simp[L,←Y,B.length]) z λh' hx=>?_;have I1:=I.kept (t':=s.toks) λb o e=>hx b o (ah6 (ah3 e)) e;exact h _ _ σ H xs _ Q I1 (by simpa using B) hw
def ahx(to ti:TE)(t:agV):TG:=λv σ H Q=>to σ H λo H1=>ti σ H1 λi H2=>t o i v H2 λH3=>Q σ H3
theorem adK{o i to J t}(L:PE X o to)(hi:PE X i J)(O:ahc X t)
 (ha:∀v,assign (.Subscript o i pos) X.env v=(do
  let z ←holding [v] (eval o X.env)
  let B ←holding [v,z] (eval i X.env)
  standAt pos
  holding [v,z,B] (setItem z B v)
  release [v,z,B] []):=by intro _;rfl):PG X (.Subscript o i pos) (ahx to J t):=by
 intro pins s σ H v u Q I r h;exact ahV (aix (thn (L _ s σ H _ I h) λz S ⟨x,H1,Y,Z,q1⟩=>ahV (aix (thn (hi _ S σ H1 _ Y q1) λB s2 ⟨y,H2,I2,r2,q2⟩=>ahV (ai3 (ahV (aix (thn (O _ s2 σ H2 x y v z B u _ I2 Z r2 r q2) λ_ s3 ⟨H3,I3,q3⟩=>wpAny_release ⟨σ,H3,I3,q3⟩))))))))
def qC(te:TE)(g:TG):TS:=λD σ H=>te σ H λx H1=>g x σ H1 D.nx
theorem oR{tg e te g}(z:PE X e te)(B:PG X tg g)(J:swapsWithSole [tg] e pos.line X.env=pure false:=by rfl)(hw:swappedStores [tg] e X.env=pure none:=by rfl)
 (h1:(assignEach [tg] X.env).map (·.2)=[assign tg X.env]:=by rfl):PS X (.Assign [tg] e pos) (qC te g):=by
 intro pins s σ H D I h;refine wpAny_Assign_stores (thn (z _ s σ H _ I h) λv L ⟨x,H1,O,S,Y⟩=>?_) J hw;rw[h1];exact thn (B _ L σ H1 x v _ O S Y) λ_ Z q=>q
theorem aB{i x e te pos'}(z:X.N.Nodup)(hi:X.N[i]?=some x)(B:Loc X.env.scope x)(J:PE X e te)(L:swapsWith e (some (.Name x pos')) pos.line X.env=pure false:=by rfl)(O:X.fn x=true\/X.env.scope.names.lookup x=some .local:=by first|exact .inl rfl|exact .inr rfl|assumption):
 PS X (.Assign [.Name x pos'] e pos) (qC te (aR i)):=by
 intro pins s σ H D I h;exact wpAny_Assign_Name (thn (J _ s σ H _ I h) λv s1 ⟨y,H1,S,Y,Z⟩=>ny S z hi B Y (λs2 I2=>⟨_,H1,I2,Z⟩) O) L
def agN(to ti te:TE)(tget:V->V->Hp->VK->Prop)(tip:TIp)(tset:agV):TS:=λD σ H=>to σ H λo H1=>ti σ H1 λi H2=>tget o i H2 λx H3=>te σ H3 λy H4=>tip x y H4 λz H5=>tset o i z H5 λH6=>D.nx σ H6
def ahs(X:Cx)(t:V->V->Hp->VK->Prop):Prop:=
 ∀(pins:List (Addr×Obj)) (s:Shared) (σ:St) (H:Hp) (o i:V) (ov iv:Value) (Q:VK),Inv X pins σ H s->RelV o ov->RelV i iv->t o i H Q →
  wpAny (model X.prog X.w) X.A (getItem ov iv) (EP X pins σ Q) X.xe s
theorem aeD{o i e to S te z O B Y tpos}(ho:PE X o to)(hi:PE X i S)(hg:ahs X z)(he:PE X e te)(hp:PIp X Y O)(hs:ahc X B)
 (ha:∀J L new,augStore i J L new=(do holding [new,J,L] (setItem J L new);release [new,J,L] [];pure .next):=by intros;rfl):PS X (.AugAssign (.Subscript o i tpos) Y e pos) (agN to S te z O B):=by
 intro pins s σ H D I h;exact alN (thn (ho _ s σ H _ I h) λJ s1 ⟨Z,H1,I1,r1,q1⟩=>thn (hi _ s1 σ H1 _ I1 q1) λL s2 ⟨x2,H2,I2,r2,q2⟩=>thn (hg _ s2 σ H2 Z x2 J L _ I2 r1 r2 q2) λold s3 ⟨x3,H3,I3,r3,q3⟩=>thn (he _ s3 σ H3 _ I3 q3) λv s4 ⟨x4,H4,I4,r4,q4⟩=>thn (hp _ s4 σ H4 x3 x4 _ v _ I4 r3 r4 q4) λnew s5 ⟨x5,H5,I5,r5,q5⟩=>thn (hs _ s5 σ H5 Z x2 x5 J L _ _ I5 r1 r2 r5 q5) λ_ s6 ⟨H6,I6,q6⟩=>⟨σ,H6,I6,q6⟩) ha
def ipI(f:Int->Int->Int):TIp:=λx y H Q=>∃i j,x=.int i/\y=.int j/\Q (.int (f i j)) H
theorem afX:PIp X .Add (ipI λi j=>i+j):=by
 intro pins s σ H x y v u Q I z B h;obtain⟨i,j,J,L,q⟩:=h;subst J;subst L;obtain⟨t,rfl⟩:=z;obtain⟨O,rfl⟩:=B;exact iadd_int ⟨.int _,H,I.tok _,⟨_,rfl⟩,q⟩
end
section
variable {X:Cx}{pos:Pos}
def afr(c:TT)(tb:TS):TS:=λD σ H=>∃W:Nat->St->Hp->Prop,(∃m,W m σ H)/\∀m σ H,W m σ H →
 c σ H λb H1=>if b=true then ∃N:St->Hp->Prop,(∀σ' H',N σ' H'->∃m',m'<m/\W m' σ' H')/\tb {D with nx:=N,ct:=N,bk:=D.nx} σ H1 else D.nx σ H1
theorem xm{c B tc tb}(hp:PassesOwn (model X.prog X.w) X.A X.env X.xe)(hc:PT X c tc)(hb:PSs X B tb):PS X (.While c B [] pos) (afr tc tb):=by
 intro pins s σ H D I h;obtain⟨W,⟨m0,w0⟩,J⟩:=h;refine wpAny_While (codeAny_whileLoop (λn s'=>∃L H',Inv X _ L H' s'/\W n L H') ?_ m0 ⟨σ,H,I,w0⟩);rintro n s1 ⟨Z,H1,I1,w1⟩;refine akj hp (thn (hc _ s1 _ H1 _ I1 (J n _ H1 w1)) λb s2 ⟨H2,I2,S⟩=>?_);cases b with
 |true=>
  obtain⟨N,hN,S⟩:=S;refine akj hp (thn (hb _ s2 _ H2 _ I2 S) λf s3 Y=>?_);cases f with
  |next=>
   obtain⟨z,O,I3,n3⟩:=Y;obtain⟨m',hm,w3⟩:=hN _ O n3;exact⟨m',hm,z,O,I3,w3⟩
  |cont=>
   obtain⟨z,O,I3,n3⟩:=Y;obtain⟨m',hm,w3⟩:=hN z O n3;exact⟨m',hm,z,O,I3,w3⟩
  |brk=>exact Y
  |ret v=>exact Y
 |false=>
  exact alS ⟨Z,H2,I2,S⟩
end
structure It where
 go:Nat->Hp->Prop
 yld:Nat->Hp->V->Hp->Prop
 stop:Nat->Hp->Prop
def gI(X:Cx)(pins:List (Addr×Obj))(H:Hp)(b:Addr):Prop:=
 H b=none/\b≠X.env.locals/\b∉X.fs/\(b∈X.ex\/X.s₀.heap.objs.size<=b)/\(∀x c,X.env.cells.lookup x=some c->c≠b)/\∀p∈X.pn++pins,p.1≠b
theorem Inv.fpOk{X pins}{σ:St}{H H'  s}{b:Addr}(I:Inv X pins σ H s)(B:s.heap.objs.size<=b)(J:H' b=none):gI X pins H' b:=by
 refine⟨J,aiX (ah9 I.lt B),I.nofs B,.inr (aij I.sz B),λx c e z=>?_,λp L z=>?_⟩
 .obtain⟨v,q⟩:=I.cell x c e;exact absurd (ah9 q.lt (by simp_all)) (ai8 _)
 .exact absurd (ah9 (ah3 (I.pin p L).1) (by simp_all)) (ai8 _)
structure ab5(P:Program)(w:World)(K:PySem.W.Frag)(tg:Expr)(J:It)(fp:List Addr)(it:Addr)(tn:Nat->Heap->Prop):Prop where
 mem:it∈fp
 obj:∀i h,tn i h->∀b∈fp,∃o,h.get? b=some o/\∀v,o.data≠.cell v
 keep:∀i h h',tn i h->(∀b∈fp,∀o,h.get? b=some o->h'.get? b=some o)->tn i h'
 item:∀(X:Cx),X.prog=P->X.w=w->X.K=K->X.calm=true->∀(i:Nat) (pins:List (Addr×Obj)) (s:Shared) (σ:St) (H:Hp) (E:Value->Shared->Prop),Inv X pins σ H s->(∀b∈fp,gI X pins H b)->tn i s.heap->J.go i H →
  wpAny (model P w) X.A (pyNext (.ref it)) (λr s1=>∃u,r=some u ∧
   wpAny (model P w) X.A (letOwnedTupleGo tg (.ref it) u) (λ_ s2=>∃x H',Inv X pins σ H' s2/\RelV x u/\J.yld i H x H'/\tn (i+1) s2.heap/\∀b∈fp,H' b=none) E s1) E s
 done:∀(X:Cx),X.prog=P->X.w=w->X.K=K->X.calm=true->∀(i:Nat) (pins:List (Addr×Obj)) (s:Shared) (σ:St) (H:Hp) (E:Value->Shared->Prop),Inv X pins σ H s->(∀b∈fp,gI X pins H b)->tn i s.heap->J.stop i H →
  wpAny (model P w) X.A (pyNext (.ref it)) (λr s1=>r=none/\Inv X pins σ H s1) E s
 self:∀(A:Around) (i:Nat) (s:Shared) (Q:Value->Shared->Prop) (E:Value->Shared->Prop),tn i s.heap->Q (.ref it) s->wpAny (model P w) A (pyIter (.ref it)) Q E s
abbrev TI:=St->Hp->(It->Hp->Prop)->Prop
def PIE(X:Cx)(pins:List (Addr×Obj))(σ:St)(tg:Expr)(R:It->Hp->Prop)(itv:Value)(s2:Shared):Prop:=
 ∃(it:Addr) (fp:List Addr) (tn:Nat->Heap->Prop) (J:It) (H':Hp),itv=.ref it/\Inv X pins σ H' s2/\ab5 X.prog X.w X.K tg J fp it tn/\tn 0 s2.heap/\(∀b∈fp,gI X pins H' b)/\R J H'
def PI(X:Cx)(tg iter:Expr)(wi:TI):Prop:=
 ∀(pins:List (Addr×Obj)) (s:Shared) (σ:St) (H:Hp) (R:It->Hp->Prop),Inv X pins σ H s->wi σ H R →
  wpAny (model X.prog X.w) X.A (eval iter X.env) (λv s1=>wpAny (model X.prog X.w) X.A (pyIter v) (PIE X pins σ tg R) X.xe s1) X.xe s
theorem acH{M:Model}{A:Around}{E:Value->Shared->Prop}{s:Shared}{tg:Expr}{it:Addr}{u:Value}{o:Obj}{n:String}{vs:Array Value}{Q:Unit->Shared->Prop}(B:s.heap.get? it=some o)(J:o.cls=.type n)(L:o.data=.fields vs)
 (O:["enumerate","zip","dict_itemiterator","dict_reverseitemiterator","odict_iterator","itertools.zip_longest","itertools.pairwise"].contains n=false)(z:Q () s):wpAny M A (letOwnedTupleGo tg (.ref it) u) Q E s:=by
 unfold letOwnedTupleGo;cases tg<;>first
  |exact ah0 z
  | (cases u<;>first
   |exact ah0 z
   | (refine ahV (ams B ?_);rw[J,L];show wpAny M A (if (["enumerate","zip","dict_itemiterator","dict_reverseitemiterator","odict_iterator","itertools.zip_longest","itertools.pairwise"].contains n&&vs[0]?==some (rawInt _))=true then _ else _) Q E s;rw[if_neg (by intro h;rw[O,Bool.false_and]at h;cases h)];exact ah0 z))
def Itl(K:PySem.W.Frag)(a:Addr):It:=
 ⟨λi H=>∃xs x,SqL K H a xs/\xs[i]?=some x,λi H x H'=>H'=H/\∀xs,SqL K H a xs->xs[i]?=some x,λi H=>∃xs,SqL K H a xs/\xs.length<=i⟩
def Itr(lo:Int)(n:Nat):It:=⟨λi _=>i<n,λi H x H'=>H'=H/\x=.int (lo+i),λi _=>n<=i⟩
theorem aao{P w K tg} a it:ab5 P w K tg (Itl K a) [it] it (λi h=>h.IsListIter it a i) where
 mem:=by simp
 obj:=λi h st b B=>by
  obtain⟨o,e,c,d⟩:=st;simp_all
 keep:=λi h h' st k=>st.at λo=>k it (by simp) o
 item:=by
  intro X O hw S hc i pins s σ H E I J st Y;subst O hw S;obtain⟨xs,x,L,Z⟩:=Y;obtain⟨its,rv,p,hz⟩:=I.list L;obtain⟨u,hu,ru⟩:=rv.get Z;obtain⟨f0,f1,f2,f3,f4,f5⟩:=J it (by simp);refine wpAny_pyNext_list_item st p.isList  (by simpa using hu) λh' z sb=>?_;have I1:=I.turned (t':=s.toks) (λb o B=>(sb.2 b B).trans) f0 f1 f3 f4 f5;obtain⟨o,e,c,d⟩:=id z;exact⟨u,rfl,acH  e c d (rfl) ⟨x,H,I1,ru,⟨rfl,λys hy=>by rw[I.list_inj hy L];exact Z⟩,z,λb B=>(J b B).1⟩⟩
 done:=by
  intro X O hw S hc i pins s σ H E I J st Y;subst O hw S;obtain⟨xs,L,Z⟩:=Y;obtain⟨its,rv,p,hz⟩:=I.list L;obtain⟨f0,f1,f2,f3,f4,f5⟩:=J it (by simp);have hl:=rv.length;exact wpAny_pyNext_list_end (I.ok.hd hc) st p.isList (by simp;lia) λh' eb=>⟨rfl,I.turned  (eb) f0 f1 f3 f4 f5⟩
 self:=λ_ _ _ _ _=>wpAny_pyIter_listiter
theorem yM{P w K tg} it lo n:ab5 P w K tg (Itr lo n) [it] it (λi h=>IsRangeIter h it (lo+i*1) (n-i) 1) where
 mem:=by simp
 obj:=λi h st b B=>by
  simp_all
 keep:=λi h h' st k=>k it (by simp) _ st
 item:=by
  intro X L hw O S i pins s σ H E I J st Y;subst L hw O;obtain⟨Z,f1,f2,f3,f4,f5⟩:=J it (by simp);have W:=Walks.range (prog:=X.prog) (w:=X.w) (I.ok.hd S) it lo 1 n;refine W.item i s _ _ Y st λv h' tk hv z kk=>?_;obtain⟨t,rfl⟩:=hv;have I1:Inv X _ σ H {s with heap:=h',toks:=tk}:=I.turned (λb o B=>kk b o (by simpa using B)) Z f1 f3 f4 f5;refine⟨_,rfl,acH   z rfl rfl (rfl) ⟨.int _,H,I1,⟨t,?_⟩,⟨rfl,rfl⟩,z,λb B=>(J b B).1⟩⟩;rw[Int.mul_one]
 done:=by
  intro X L hw O S i pins s σ H E I J st Y;subst L hw O;obtain⟨Z,f1,f2,f3,f4,f5⟩:=J it (by simp);exact wpAny_pyNext_range_end (I.ok.hd S) st (by have:n<=i:=Y;lia) λh' eb=>⟨rfl,I.turned  (eb) Z f1 f3 f4 f5⟩
 self:=λ_ _ _ _ _=>wpAny_pyIter_rangeiter
section
variable {X:Cx}{tg:Expr}
def rh(K:PySem.W.Frag)(tl:TE):TI:=λσ H R=>tl σ H λx H1=>∃a,x=.ref a/\(∃xs,SqL K H1 a xs)/\R (Itl K a) H1
theorem aV{l tl}(J:PE X l tl):PI X tg l (rh X.K tl):=by
 intro pins s σ H R I h;refine thn (J _ s σ H _ I h) λv B ⟨x,H1,z,L,O⟩=>?_;obtain⟨a,e,⟨xs,S⟩,q⟩:=O;subst e;cases L;obtain⟨its,Z,p,hz⟩:=z.list S;refine aln p.isList ⟨B.heap.objs.size,[B.heap.objs.size],_,_,H1,rfl,z.kept  λb o=>ahX _,aao a _,⟨_,aib _ rfl,rfl,rfl⟩,λb Y=>?_,q⟩;have e:=by simpa using Y
 subst e;exact z.fpOk (ah4 _) (z.hok.fresh (ah4 _))
theorem acQ{pins}{σ:St}{H s R E lo hi t u v tk}(I:Inv X pins σ H s)(h1:-(2^62)<=lo)(h2:lo<2^62)(B:-(2^62)<=hi)(J:hi<2^62)
 (q:R (Itr lo (hi-lo).toNat) H):wpAny (model X.prog X.w) X.A (pyIter (.ref s.heap.objs.size)) (PIE X pins σ tg R) E {s with heap:=s.heap.push {cls:=.type "range",data:=.fields #[.int lo t,.int hi u,.int 1 v] },toks:=tk}:=by
 refine wpAny_pyIter_range (IsRange.new ..) (small_one h1 h2 B J) ?_;have z:Inv X _ σ H {s with heap:=s.heap.push {cls:=.type "range",data:=.fields #[.int lo t,.int hi u,.int 1 v] },toks:=tk}:=I.kept λb o=>ahX _;refine⟨(s.heap.push _).objs.size,[(s.heap.push _).objs.size],_,_,H,rfl,
  z.kept  λb o=>ahX _,yM _ lo _,?_,λb L=>?_,q⟩
 .have O:lo+(0:Nat)*1=lo:=by simp
  have S:(hi-lo).toNat-(0:Nat)=Builtin.Range.rangeSize lo hi 1:=by rw[rangeSize_one];grind
  rw[O,S];exact aib _ rfl
 .have e:b=(s.heap.push {cls:=.type "range",data:=.fields #[.int lo t,.int hi u,.int 1 v] }).objs.size:=by simpa using L
  subst e;exact z.fpOk (ah4 _) (z.hok.fresh (ah4 _))
def afG(ta:TA):TI:=λσ H R=>ta σ H λvs H1=>∃j:Int,vs=[.int j]/\-(2^62)<=j/\j<2^62/\R (Itr 0 j.toNat) H1
theorem gJ{a ta p pos}(B:Gl X "range")(J:X.mg "range" = none)(L:PA X [a] ta)(O:starEach [a] X.env=[(false,eval a X.env)]:=by rfl):PI X tg (.Call (.Name "range" p) [a] [] pos) (afG ta):=by
 intro pins s σ H R I h;refine Call_ (kX I B J boot_range (aja (thn (L _ _ s σ H _ I h) λus s1 ⟨vs,H1,S,Y,z⟩=>?_) O rfl));obtain⟨j,e,z,Z,q⟩:=z;subst e;cases Y with
 |cons r rr=>
  cases rr;obtain⟨t,rfl⟩:=r;exact call_range_1 (acQ S (by lia) (by lia) z Z (by simpa using q))
def aht(wi:TI)(g:TG)(tb:TS):TS:=λD σ H=>wi σ H λJ H1=>∃W:Nat->Nat->St->Hp->Prop,(∃m,W 0 m σ H1)/\∀i m σ H,W i m σ H →
 (J.stop i H/\D.nx σ H)\/(J.go i H/\∃N:St->Hp->Prop,(∀σ' H',N σ' H'->∃m',m'<m/\W (i+1) m' σ' H')/\∀x H',J.yld i H x H'->g x σ H' λσ2 H2=>tb {D with nx:=N,ct:=N,bk:=D.nx} σ2 H2)
def tY(fp:List Addr)(h:Heap):List (Addr×Obj):=fp.filterMap λb=>(h.get? b).map λo=>(b,o)
theorem aF{fp h b o}(z:b∈fp)(e:h.get? b=some o):(b,o)∈tY fp h:=List.mem_filterMap.mpr ⟨b,z,by rw[e];rfl⟩
theorem abE{fp:List Addr}{h:Heap}{p:Addr×Obj}(z:p∈tY fp h):p.1∈fp/\h.get? p.1=some p.2:=by
 obtain⟨b,B,e⟩:=List.mem_filterMap.mp z;cases q:h.get? b with
 |none=>rw[q]at e;cases e
 |some o=>
  rw[q]at e;have J:(b,o)=p:=ai0 e;subst J;exact⟨B,q⟩
theorem Inv.pinned{pins}{σ:St}{H s fp}(I:Inv X pins σ H s)(J:∀b∈fp,gI X pins H b)(L:∀b∈fp,∃o,s.heap.get? b=some o/\∀v,o.data≠.cell v):Inv X (pins++tY fp s.heap) σ H s:=
 I.pins_of λp O=>(aic.mp O).elim (λz=>I.pin p (ah2 _ z)) λz=>by
  obtain⟨B,e⟩:=abE z;obtain⟨S,Y,Z,_⟩:=J _ B;obtain⟨o,e',d⟩:=L _ B;simp_all
theorem Inv.unpinned{pins pl}{σ:St}{H s}(I:Inv X (pins++pl) σ H s):Inv X pins σ H s:=I.pins_of λp z=>I.pin p (ah2 _ (ajU _ z))
theorem d9{iter ab}{wi:TI}{g:TG}{tb:TS}{pos}(hp:PassesOwn (model X.prog X.w) X.A X.env X.xe)(hc:X.calm=true)(hi:PI X tg iter wi)(hg:PG X tg g)(B:PSs X ab tb)
 (hs:∀x,foldedSetIterable iter X.env x=pure x:=by intro _;rfl):PS X (.For tg iter ab [] pos) (aht wi g tb):=by
 intro pins s σ H D I h;refine wpAny_For (thn (hi pins s σ H _ I h) λv s1 h1=>thn h1 λay s2 h2=>?_) hs;obtain⟨it,fp,tn,J,H2,e,I2,T,ak,f2,W,⟨m0,w0⟩,af⟩:=h2;subst e;have L:∀{H':Hp},(∀b∈fp,H' b=none)->∀b∈fp,gI X pins H' b:=λhn b B=>⟨hn b B,(f2 b B).2⟩;refine codeAny_forLoop_any (λn s'=>∃i O H',Inv X pins O H' s'/\tn i s'.heap/\(∀b∈fp,H' b=none)/\W i n O H') ?_ m0 ⟨0,σ,H2,I2,ak,λb B=>(f2 b B).1,w0⟩;rintro n s3 ⟨i,S,H3,I3,ag,ah,w3⟩;rcases af i n S H3 w3 with ⟨stop,qn⟩|⟨go,N,hN,step⟩
 .refine akj hp (thn (T.done X rfl rfl rfl hc i pins s3 S H3 X.xe I3 (L ah) ag stop) λr s4 ⟨hr,I4⟩=>?_);subst hr;exact alS ⟨S,H3,I4,qn⟩
 .refine akj hp (thn (T.item X rfl rfl rfl hc i pins s3 S H3 X.xe I3 (L ah) ag go) λr s4 ⟨u,hr,h4⟩=>?_);subst hr;refine akj hp (thn h4 λ_ s5 ⟨x,H5,I5,r5,y5,ad,al⟩=>?_);have am:=I5.pinned (L al) (T.obj _ _ ad);refine akj hp (thn (hg _ s5 S H5 x u _ am r5 (step x H5 y5)) λ_ s6 ⟨an,H6,I6,q6⟩=>akj hp (thn (B _ s6 an H6 _ I6 q6) λf s7 q7=>?_));have Y:∀{z:St} {Z:Hp},Inv X _ z Z s7->N z Z->∃m,m<n/\∃i O H',Inv X pins O H' s7/\tn i s7.heap/\(∀b∈fp,H' b=none)/\W i m O H':=fun {z Z} I7 n7=>by
   obtain⟨m',hm,w7⟩:=hN z Z n7;refine⟨m',hm,i+1,z,Z,I7.unpinned,T.keep _ _ _ ad λb B o e=>(I7.pin _ (ah2 _ (ah2 _ (aF B e)))).1,λb B=>?_,w7⟩;obtain⟨o,e,d⟩:=T.obj _ _ ad b B;exact (I7.pin _ (ah2 _ (ah2 _ (aF B e)))).2.1
  cases f with
  |next=>obtain⟨z,Z,I7,n7⟩:=q7;exact Y I7 n7
  |cont=>obtain⟨z,Z,I7,n7⟩:=q7;exact Y I7 n7
  |brk=>obtain⟨z,Z,I7,q7⟩:=q7;exact⟨z,Z,I7.unpinned,q7⟩
  |ret v=>obtain⟨x7,z,Z,I7,r7,q7⟩:=q7;exact⟨x7,z,Z,I7.unpinned,r7,q7⟩
end
theorem fh{K a xs}{g:TG}{tb:TS}{D:xQ}{σ}{H}(Pv:Nat->St->Hp->Prop)(O:Pv 0 σ H)(S:∀i σ H,i<=xs.length->Pv i σ H->SqL K H a xs)
 (Y:∀i x σ H,xs[i]?=some x->Pv i σ H->g x σ H λz H2=>tb {D with nx:=Pv (i+1),ct:=Pv (i+1),bk:=D.nx} z H2)(Z:∀σ H,Pv xs.length σ H->D.nx σ H):
 ∃W:Nat->Nat->St->Hp->Prop,(∃m,W 0 m σ H)/\∀i m σ H,W i m σ H →
  ((Itl K a).stop i H/\D.nx σ H)\/((Itl K a).go i H/\∃N ,(∀B H',N B H'->∃L,L<m/\W (i+1) L B H')/\∀x H',(Itl K a).yld i H x H'->g x σ H' λz H2=>tb {D with nx:=N,ct:=N,bk:=D.nx} z H2):=by
 refine⟨λi m σ H=>m=xs.length-i/\i<=xs.length/\Pv i σ H,⟨xs.length,rfl,ail _,O⟩,?_⟩;rintro i m σ H ⟨rfl,hi,p⟩;have q:=S i σ H hi p;by_cases J:i<xs.length
 .refine .inr ⟨⟨xs,xs[i],q,by simp ⟩,Pv _,λB H' p'=>⟨xs.length-(i+1),by lia,rfl,J,p'⟩,λx H' y=>?_⟩;obtain⟨e,y⟩:=y;subst e;exact Y i x σ _ (y xs q) p
 .have e:i=xs.length:=by lia
  subst e;exact .inl ⟨⟨xs,q,ah4 _⟩,Z σ H p⟩
theorem og{lo n}{g:TG}{tb:TS}{D:xQ}{σ}{H}(Pv:Nat->St->Hp->Prop)(O:Pv 0 σ H)
 (Z:∀i σ H,i<n->Pv i σ H->g (.int (lo+i)) σ H λz H2=>tb {D with nx:=Pv (i+1),ct:=Pv (i+1),bk:=D.nx} z H2)(S:∀σ H,Pv n σ H->D.nx σ H):
 ∃W:Nat->Nat->St->Hp->Prop,(∃m,W 0 m σ H)/\∀i m σ H,W i m σ H →
  ((Itr lo n).stop i H/\D.nx σ H)\/((Itr lo n).go i H/\∃N ,(∀B H',N B H'->∃L,L<m/\W (i+1) L B H')/\∀x H',(Itr lo n).yld i H x H'->g x σ H' λz H2=>tb {D with nx:=N,ct:=N,bk:=D.nx} z H2):=by
 refine⟨λi m σ H=>m=n-i/\i<=n/\Pv i σ H,⟨n,rfl,ail _,O⟩,?_⟩;rintro i m σ H ⟨rfl,hi,p⟩;by_cases J:i<n
 .refine .inr ⟨J,Pv _,λB H' Y=>⟨n-(i+1),by lia,rfl,J,Y⟩,λx H' y=>?_⟩;obtain⟨e,y⟩:=y;simp_all
 .have e:i=n:=by lia
  subst e;exact .inl ⟨ah4 _,S σ H p⟩
abbrev R2:=V->V->Hp->VK->Prop
def OpR(X:Cx)(f:Value->Value->Sem Value)(r:R2):Prop:=
 ∀(pins:List (Addr×Obj)) (s:Shared) (σ:St) (H:Hp) (x y:V) (v u:Value) (Q:VK),Inv X pins σ H s->RelV x v->RelV y u->r x y H Q →
  wpAny (model X.prog X.w) X.A (f v u) (EP X pins σ Q) X.xe s
def UnR(X:Cx)(f:Value->Sem Value)(r:V->Hp->VK->Prop):Prop:=
 ∀(pins:List (Addr×Obj)) (s:Shared) (σ:St) (H:Hp) (x:V) (v:Value) (Q:VK),Inv X pins σ H s->RelV x v->r x H Q →
  wpAny (model X.prog X.w) X.A (f v) (EP X pins σ Q) X.xe s
def gn(X:Cx)(f:Value)(r:List V->Hp->VK->Prop):Prop:=
 ∀(pins:List (Addr×Obj)) (s:Shared) (σ:St) (H:Hp) (xs:List V) (us:List Value) (Q:VK),Inv X pins σ H s->Vals xs us->r xs H Q →
  wpAny (model X.prog X.w) X.A (call f us) (EP X pins σ Q) X.xe s
def ahN(X:Cx)(r:V->Hp->(Bool->Hp->Prop)->Prop):Prop:=
 ∀(pins:List (Addr×Obj)) (s:Shared) (σ:St) (H:Hp) (x:V) (v:Value) (Q:Bool->Hp->Prop),Inv X pins σ H s->RelV x v->r x H Q →
  wpAny (model X.prog X.w) X.A (truthy v) (TP X pins σ Q) X.xe s
def tOp(r:R2)(ta tb:TE):TE:=λσ H Q=>ta σ H λx H1=>tb σ H1 λy H2=>r x y H2 Q
def tUn(r:V->Hp->VK->Prop)(ta:TE):TE:=λσ H Q=>ta σ H λx H1=>r x H1 Q
def rI(C:Int->Int->Prop)(g:Int->Int->V):R2:=λx y H Q=>∃i j,x=.int i/\y=.int j/\C i j/\Q (g i j) H
def rI0(g:Int->Int->V):R2:=λx y H Q=>∃i j,x=.int i/\y=.int j/\Q (g i j) H
def rU(g:Int->V):V->Hp->VK->Prop:=λx H Q=>∃i,x=.int i/\Q (g i) H
section
variable {X:Cx}{a b c:Expr}{ta tb tc:TE}{pos:Pos}
theorem agH(L:PE X a ta)(O:PE X b tb){pins s}{σ:St}{H}{R:V->V->Hp->Prop}(I:Inv X pins σ H s)
 (h:ta σ H λx H1=>tb σ H1 λy H2=>R x y H2){Q}{f:Value->Value->Sem Value}
 (S:∀v u J x y H2,Inv X pins σ H2 J->RelV x v->RelV y u->R x y H2->wpAny (model X.prog X.w) X.A (f v u) Q X.xe J):
 wpAny (model X.prog X.w) X.A (eval a X.env) (λv z=>wpAny (model X.prog X.w) X.A (eval b X.env) (λu B=>wpAny (model X.prog X.w) X.A (f v u) Q X.xe B) X.xe z) X.xe s:=thn (L _ s σ H _ I h) λv Y ⟨x,H1,Z,r1,q1⟩=>thn (O _ Y σ H1 _ Z q1) λu J ⟨y,H2,I2,r2,q2⟩=>S v u J x y H2 I2 r1 r2 q2
theorem bz{z r}(B:OpR X (binaryOp z) r)(J:PE X a ta)(L:PE X b tb):PE X (.BinOp a z b pos) (tOp r ta tb):=by
 intro pins s σ H Q I h;exact wpAny_BinOp (agH J L I h λv u O x y H2=>B _ O σ H2 x y v u Q)
theorem yH{z r}(B:UnR X (unaryOp z) r)(J:PE X a ta):PE X (.UnaryOp z a pos) (tUn r ta):=by
 intro pins s σ H Q I h;exact UnaryOp_ (thn (J _ s σ H _ I h) λv L ⟨x,H1,O,S,Y⟩=>B _ L σ H1 x v Q O S Y)
theorem opI{f C}{g:Int->Int->Int}
 (z:∀i j t u s Q E,C i j->Q (.int (g i j) s.toks) {s with toks:=s.toks+1}->wpAny (model X.prog X.w) X.A (f (.int i t) (.int j u)) Q E s):
 OpR X f (rI C λi j=>.int (g i j)):=by
 intro pins s σ H x y v u Q I B J h;obtain⟨i,j,rfl,rfl,L,q⟩:=h;obtain⟨t,rfl⟩:=B;obtain⟨O,rfl⟩:=J;exact z i j t O s _ _ L ⟨.int _,H,I.tok _,⟨_,rfl⟩,q⟩
theorem agx{f}{g:Int->Int->Int}
 (z:∀i j t u s Q E,Q (.int (g i j) s.toks) {s with toks:=s.toks+1}->wpAny (model X.prog X.w) X.A (f (.int i t) (.int j u)) Q E s):
 OpR X f (rI0 λi j=>.int (g i j)):=by
 intro pins s σ H x y v u Q I B J h;obtain⟨i,j,rfl,rfl,q⟩:=h;obtain⟨t,rfl⟩:=B;obtain⟨L,rfl⟩:=J;exact z i j t L s _ _ ⟨.int _,H,I.tok _,⟨_,rfl⟩,q⟩
theorem ags{f}{g:Int->Int->Bool}
 (z:∀i j t u s Q E,Q (.bool (g i j)) s->wpAny (model X.prog X.w) X.A (f (.int i t) (.int j u)) Q E s):
 OpR X f (rI0 λi j=>.bl (g i j)):=by
 intro pins s σ H x y v u Q I B J h;obtain⟨i,j,rfl,rfl,q⟩:=h;obtain⟨t,rfl⟩:=B;obtain⟨L,rfl⟩:=J;exact z i j t L s _ _ ⟨.bl _,H,I,rfl,q⟩
def ahT(i j:Int):Prop:=0<j/\j<1073741824
def ahr(i j:Int):Prop:=0<=j/\j<=1000000/\i.natAbs<2^64
def CMul(i j:Int):Prop:=(-(2^64)<i/\i<2^64)\/(-(2^64)<j/\j<2^64)
theorem CMul.ok{i j}(h:CMul i j):IntMulOk i j:=by
 rcases h with ⟨h1,h2⟩|⟨h1,h2⟩
 .exact .of_left (intBits_le_64 h1 h2)
 .exact .of_right (intBits_le_64 h1 h2)
theorem zh k:(0:Int)<=2^k:=Int.natCast_nonneg _
theorem gN:OpR X (binaryOp .Add) (rI0 λi j=>.int (i+j)):=agx λ_ _ _ _ _ _ _=>add_int
theorem aad:OpR X (binaryOp .Sub) (rI0 λi j=>.int (i-j)):=agx λ_ _ _ _ _ _ _=>sub_int
theorem kj:OpR X (binaryOp .Mult) (rI CMul λi j=>.int (i*j)):=opI λ_ _ _ _ _ _ _ z q=>mul_int q z.ok
theorem vH:OpR X (binaryOp .FloorDiv) (rI ahT λi j=>.int (i / j)):=opI λi j _ _ _ _ _ z q=>by
 have h1:=z.1;have h2:=z.2;exact floordiv_int (by lia) (by rw[al8 i (by lia)];exact q) (.inl (PyProof.noPylong_small (by lia)))
theorem qH:OpR X (binaryOp .Mod) (rI (λ_ j=>0<j) λi j=>.int (i%j)):=opI λi j _ _ _ _ _ z q=>mod_int' (by lia) (by rw[Int.fmod_eq_emod_of_nonneg i (by lia)];exact q)
theorem adN:OpR X (binaryOp .Pow) (rI ahr λi j=>.int (i^j.toNat)):=opI λ_ _ _ _ _ _ _ z=>pow_int_small z.1 z.2.1 z.2.2
theorem adX:OpR X (binaryOp .LShift) (rI ahr λi j=>.int (i*2^j.toNat)):=opI λ_ _ _ _ _ _ _ z=>lshift_int_small z.1 z.2.1 z.2.2
theorem afN:OpR X (binaryOp .RShift) (rI (λ_ j=>0<=j) λi j=>.int (i / 2^j.toNat)):=opI λi j _ _ _ _ _ z q=>
 rshift_int z (by rw[al8 i (zh _)];exact q)
theorem afJ:OpR X (binaryOp .BitAnd) (rI0 λi j=>.int (Builtin.bitAnd i j)):=agx λ_ _ _ _ _ _ _=>and_int
theorem agJ:OpR X (binaryOp .BitOr) (rI0 λi j=>.int (Builtin.bitOr i j)):=agx λ_ _ _ _ _ _ _=>or_int
theorem unI{f}{g:Int->Int}
 (z:∀i t s Q E,Q (.int (g i) s.toks) {s with toks:=s.toks+1}->wpAny (model X.prog X.w) X.A (f (.int i t)) Q E s):
 UnR X f (rU λi=>.int (g i)):=by
 intro pins s σ H x v Q I B h;obtain⟨i,rfl,q⟩:=h;obtain⟨t,rfl⟩:=B;exact z i t s _ _ ⟨.int _,H,I.tok _,⟨_,rfl⟩,q⟩
theorem qL:UnR X (unaryOp .USub) (rU λi=>.int (-i)):=unI λ_ _ _ _ _=>neg_int
end
def ahi:V->V->Bool
 |.non,.non=>true | .non,.int _=>true | .int _,.non=>true | .non,.bl _=>true | .bl _,.non=>true | .non,.str _=>true | .str _,.non=>true
 |.int _,.int _=>true | .bl _,.bl _=>true | .str _,.str _=>true | .byt _,.byt _=>true
 |.int _,.str _=>true | .str _,.int _=>true | .bl _,.str _=>true | .str _,.bl _=>true
 |_,_=>false
def rEq:R2:=λx y H Q=>ahi x y=true/\Q (.bl (decide (x=y))) H
def rNe:R2:=λx y H Q=>ahi x y=true/\Q (.bl (!decide (x=y))) H
theorem aaK{i j}:decide (V.int i=V.int j)=(i==j):=by
 rw[ajg];simp
theorem adO{i j}:decide (V.bl i=V.bl j)=(i==j):=by
 rw[ajg];simp
theorem aaZ{i j}:decide (V.str i=V.str j)=(i==j):=by
 rw[ajg];simp
theorem aa2{i j}:decide (V.byt i=V.byt j)=(i.toList==j.toList):=by
 rw[ajg];cases i;cases j;simp
section
variable {X:Cx}{a b c:Expr}{ta tb tc:TE}{pos:Pos}
theorem bH{pins}{σ:St}{H s Q k z}(I:Inv X pins σ H s)(q:Q (.bl k) H)(e:k=z):EP X pins σ Q (.bool z) s:=by
 subst e;exact⟨.bl k,H,I,rfl,q⟩
theorem lR:OpR X (compareOp .Eq) rEq:=by
 intro pins s σ H x y v u Q I L z h;obtain⟨J,q⟩:=h;cases x with
 |non=>
  cases L;cases y with
  |non=>cases z;exact PySem.EqNone.eq_none_none (bH I q (by simp))
  |bl j=>cases z;exact PySem.EqNone.eq_none_bool (bH I q (by simp))
  |int j=>obtain⟨B,rfl⟩:=z;exact PySem.EqNone.eq_none_int (bH I q (by simp))
  |str j=>obtain⟨B,rfl⟩:=z;exact PySem.EqNone.eq_none_str (bH I q (by simp))
  |_=>exact absurd (show false=true from J) aie
 |bl i=>
  cases L;cases y with
  |non=>cases z;exact PySem.EqNone.eq_bool_none (bH I q (by simp))
  |bl j=>cases z;exact eq_bool (bH I q adO)
  |str j=>obtain⟨B,rfl⟩:=z;exact PySem.EqMixed.eq_bool_str (bH I q (by simp))
  |_=>exact absurd (show false=true from J) aie
 |int i=>
  obtain⟨t,rfl⟩:=L;cases y with
  |non=>cases z;exact PySem.EqNone.eq_int_none (bH I q (by simp))
  |int j=>obtain⟨B,rfl⟩:=z;exact eq_int (bH I q aaK)
  |str j=>obtain⟨B,rfl⟩:=z;exact PySem.EqMixed.eq_int_str (bH I q (by simp))
  |_=>exact absurd (show false=true from J) aie
 |str i=>
  obtain⟨t,rfl⟩:=L;cases y with
  |non=>cases z;exact PySem.EqNone.eq_str_none (bH I q (by simp))
  |bl j=>cases z;exact PySem.EqMixed.eq_str_bool (bH I q (by simp))
  |int j=>obtain⟨B,rfl⟩:=z;exact PySem.EqMixed.eq_str_int (bH I q (by simp))
  |str j=>obtain⟨B,rfl⟩:=z;exact eq_str (bH I q aaZ)
  |_=>exact absurd (show false=true from J) aie
 |byt i=>
  obtain⟨t,rfl⟩:=L;cases y with
  |byt j=>obtain⟨B,rfl⟩:=z;exact PySem.W.eq_bytes (bH I q aa2)
  |_=>exact absurd (show false=true from J) aie
 |_=>cases y<;>exact absurd (show false=true from J) aie
theorem wJ:OpR X (compareOp .NotEq) rNe:=by
 intro pins s σ H x y v u Q I L z h;obtain⟨J,q⟩:=h;cases x with
 |non=>
  cases L;cases y with
  |non=>cases z;exact PySem.EqNone.ne_none_none (bH I q (by simp))
  |bl j=>cases z;exact PySem.EqNone.ne_none_bool (bH I q (by simp))
  |int j=>obtain⟨B,rfl⟩:=z;exact PySem.EqNone.ne_none_int (bH I q (by simp))
  |str j=>obtain⟨B,rfl⟩:=z;exact PySem.EqNone.ne_none_str (bH I q (by simp))
  |_=>exact absurd (show false=true from J) aie
 |bl i=>
  cases L;cases y with
  |non=>cases z;exact PySem.EqNone.ne_bool_none (bH I q (by simp))
  |bl j=>cases z;exact ne_bool (bH I q (aiO not adO))
  |str j=>obtain⟨B,rfl⟩:=z;exact PySem.EqMixed.ne_bool_str (bH I q (by simp))
  |_=>exact absurd (show false=true from J) aie
 |int i=>
  obtain⟨t,rfl⟩:=L;cases y with
  |non=>cases z;exact PySem.EqNone.ne_int_none (bH I q (by simp))
  |int j=>obtain⟨B,rfl⟩:=z;exact ne_int (bH I q (aiO not aaK))
  |str j=>obtain⟨B,rfl⟩:=z;exact PySem.EqMixed.ne_int_str (bH I q (by simp))
  |_=>exact absurd (show false=true from J) aie
 |str i=>
  obtain⟨t,rfl⟩:=L;cases y with
  |non=>cases z;exact PySem.EqNone.ne_str_none (bH I q (by simp))
  |bl j=>cases z;exact PySem.EqMixed.ne_str_bool (bH I q (by simp))
  |int j=>obtain⟨B,rfl⟩:=z;exact PySem.EqMixed.ne_str_int (bH I q (by simp))
  |str j=>obtain⟨B,rfl⟩:=z;exact ne_str (bH I q (aiO not aaZ))
  |_=>exact absurd (show false=true from J) aie
 |byt i=>
  obtain⟨t,rfl⟩:=L;cases y with
  |byt j=>obtain⟨B,rfl⟩:=z;exact PySem.W.ne_bytes (bH I q (aiO not aa2))
  |_=>exact absurd (show false=true from J) aie
 |_=>cases y<;>exact absurd (show false=true from J) aie
theorem agI:OpR X (compareOp .Lt) (rI0 λi j=>.bl (decide (i<j))):=ags λ_ _ _ _ _ _ _=>lt_int
theorem ac7:OpR X (compareOp .LtE) (rI0 λi j=>.bl (decide (i<=j))):=ags λ_ _ _ _ _ _ _=>le_int
theorem ag7:OpR X (compareOp .Gt) (rI0 λi j=>.bl (decide (j<i))):=ags λ_ _ _ _ _ _ _=>gt_int
theorem aft:OpR X (compareOp .GtE) (rI0 λi j=>.bl (decide (j<=i))):=ags λ_ _ _ _ _ _ _=>ge_int
theorem aaE:OpR X (compareOp .In) (λx y H Q=>∃i j,x=.str i/\y=.str j/\Q (.bl (!(Builtin.Str.occurrences j i 0 j.length 1).isEmpty)) H):=by
 intro pins s σ H x y v u Q I z B h;obtain⟨i,j,rfl,rfl,q⟩:=h;obtain⟨t,rfl⟩:=z;obtain⟨J,rfl⟩:=B;exact in_str (bH I q rfl)
theorem oQ:OpR X (compareOp .Is) (λx y H Q=>y=.non/\Q (.bl (decide (x=.non))) H):=by
 intro pins s σ H x y v u Q I z B h;obtain⟨rfl,q⟩:=h;cases B;refine is_none_gen (bH I q ?_);cases x<;>first
  |grind
  | (obtain⟨t,rfl⟩:=z;rfl)
theorem aZ b {z}(h:z≠.In:=by decide)(h2:z≠.NotIn:=by decide):behindInMarks z b=false:=by
 have B:(z==CmpOp.In)=false:=by grind
 have J:(z==CmpOp.NotIn)=false:=by grind
 cases b<;>simp[behindInMarks,B,J]
theorem gE{z r}(B:OpR X (compareOp z) r)(J:PE X a ta)(L:PE X b tb)(O:behindInMarks z b=false):PE X (.Compare a [z] [b] pos) (tOp r ta tb):=by
 intro pins s σ H Q I h;exact wpAny_Compare1 (agH J L I h λv u S x y H2=>B _ S σ H2 x y v u Q) O
def vc(t:TE):TT:=λσ H Q=>t σ H λx H'=>∃k,x=.bl k/\Q k H'
theorem aN{B r}(J:OpR X (compareOp B) r)(L:PE X a ta)(O:PE X b tb)(S:behindInMarks B b=false):PT X (.Compare a [B] [b] pos) (vc (tOp r ta tb)):=by
 intro pins s σ H Q I h;refine wpAny_isTrue_Compare1 (thn (L _ s σ H _ I h) λv Y ⟨x,H1,Z,r1,q1⟩=>thn (O _ Y σ H1 _ Z q1) λu s2 ⟨y,H2,I2,r2,q2⟩=>
  thn (J _ s2 σ H2 x y v u _ I2 r1 r2 q2) λc s3 ⟨z,H3,I3,r3,k,e,q3⟩=>?_) S
 subst e;cases r3;exact ajj ⟨H3,I3,q3⟩
def adQ(r r':R2)(ta tb tc:TE):TE:=λσ H Q=>ta σ H λx H1=>tb σ H1 λy H2=>r x y H2 λz H3=>∃k,z=.bl k ∧
 (if k=true then tc σ H3 λw' H4=>r' y w' H4 Q else Q (.bl false) H3)
theorem ac4{J B r O}(ho:OpR X (compareOp J) r)(L:OpR X (compareOp B) O)(ha:PE X a ta)(hb:PE X b tb)(hc:PE X c tc)
 (hm:lastMarks [J,B] [b,c]=false:=by with_unfolding_all rfl):PE X (.Compare a [J,B] [b,c] pos) (adQ r O ta tb tc):=by
 intro pins s σ H Q I h;refine Compare_chain (thn (ha _ s σ H _ I h) λv s1 ⟨x,H1,I1,r1,q1⟩=>chain_link (thn (hb _ s1 σ H1 _ I1 q1) λu s2 ⟨y,H2,I2,S,q2⟩=>
  thn (ho _ s2 σ H2 x y v u _ I2 r1 S q2) λd s3 ⟨z,Y,Z,r3,k,e,q3⟩=>?_)) hm
 subst e;cases r3;refine ajj ?_;cases k with
 |false=>exact ite_ff ⟨.bl _,Y,Z,rfl,q3⟩
 |true=>exact ite_tt (chain_last (thn (hc _ s3 σ Y _ Z q3) λw' s4 ⟨z',H4,I4,r4,q4⟩=>L _ s4 σ H4 y z' u w' Q I4 S r4 q4))
theorem abZ{J B r O}(ho:OpR X (compareOp J) r)(L:OpR X (compareOp B) O)(ha:PE X a ta)(hb:PE X b tb)(hc:PE X c tc)
 (hm:lastMarks [J,B] [b,c]=false:=by with_unfolding_all rfl):PT X (.Compare a [J,B] [b,c] pos) (vc (adQ r O ta tb tc)):=by
 intro pins s σ H Q I h;refine isTrue_chain (thn (ha _ s σ H _ I h) λv s1 ⟨x,H1,I1,r1,q1⟩=>test_link (thn (hb _ s1 σ H1 _ I1 q1) λu s2 ⟨y,H2,I2,S,q2⟩=>
  thn (ho _ s2 σ H2 x y v u _ I2 r1 S q2) λd s3 ⟨z,Y,Z,r3,k,e,q3⟩=>?_)) hm
 subst e;cases r3;refine ajj ?_;cases k with
 |false=>
  obtain⟨k',e',q'⟩:=q3;cases e';exact ite_ff ⟨Y,Z,q'⟩
 |true=>
  refine ite_tt (test_last (thn (hc _ s3 σ Y _ Z q3) λw' s4 ⟨z',H4,I4,r4,q4⟩=>thn (L _ s4 σ H4 y z' u w' _ I4 S r4 q4) λd' s5 ⟨z2,H5,I5,r5,k2,e2,q5⟩=>?_));subst e2;cases r5;exact ajj ⟨H5,I5,q5⟩
def agW(K:PySem.W.Frag)(x:V)(H:Hp)(k:Bool):Prop:=
 match x with
 |.non=>k=false
 |.bl b=>k=b
 |.int i=>k=(i !=0)
 |.str y=>y.length<=sizeLine/\k=((y.length:Int) !=0)
 |.byt y=>y.size<=sizeLine/\k=((y.size:Int) !=0)
 |.ref p=>(∃xs,SqL K H p xs/\k=!xs.isEmpty)\/(∃xs,SqT K H p xs/\k=!xs.isEmpty)\/∃kvs,H p=some (.dK kvs)/\k=!kvs.isEmpty
 |_=>False
theorem yi{κ}{kvs:List (κ×V)}{vs}(r:KV kvs vs):(!vs.isEmpty)=!kvs.isEmpty:=by
 cases r<;>rfl
theorem qB{xs its}(r:Vals xs its):(!its.toArray.isEmpty)=!xs.isEmpty:=by
 cases r<;>simp
theorem m4:sizeLine<2^63:=by decide
theorem af0:ahN X (λx H Q=>∃k,agW X.K x H k/\Q k H):=by
 intro pins s σ H x v Q I J h;obtain⟨k,e,q⟩:=h;have hl:=m4;have hs:sizeLine=16777216:=alT;cases x with
 |non=>
  cases J;have z:k=false:=e;subst z;exact truthy_none ⟨H,I,q⟩
 |bl b=>
  cases J;have z:k=b:=e;subst z;exact ajj ⟨H,I,q⟩
 |int i=>
  obtain⟨t,rfl⟩:=J;have z:k=(i !=0):=e;subst z;exact PySem.P.truthy_int ⟨H,I,q⟩
 |str y=>
  obtain⟨t,rfl⟩:=J;obtain⟨Z,z⟩:y.length<=sizeLine/\k=((y.length:Int) !=0):=e;subst z;exact PySem.P.truthy_str (by lia) ⟨H,I.tok _,q⟩
 |byt y=>
  obtain⟨t,rfl⟩:=J;obtain⟨Z,z⟩:y.size<=sizeLine/\k=((y.size:Int) !=0):=e;subst z;exact PySem.W.truthy_bytes (by lia) ⟨H,I.tok _,q⟩
 |ref p=>
  cases J;have z:=e;rcases z with ⟨xs,L,z⟩|⟨xs,L,z⟩|⟨kvs,L,z⟩
  .subst z;obtain⟨its,r,S,Y⟩:=I.list L;have B:=r.length;exact wpAny_truthy_list S.isList (by simp only[aiQ];lia) ⟨H,I.tok _,by rw[qB r];exact q⟩
  .subst z;obtain⟨its,r,S,Y⟩:=I.tuple L;have B:=r.length;exact truthy_tuple S (by simp only[aiQ];lia) ⟨H,I.tok _,by rw[qB r];exact q⟩
  .subst z;obtain⟨Y,hS,O,r,m⟩:kvs.length<=sizeLine/\(p==sysModules)=false/\∃O,KV kvs O/\s.heap.DictOf (bj X.prog X.w) p O:=I.hok p _ L;have B:kvs.length=O.length:=amG r;exact wpAny_truthy_dict hS m (by lia) ⟨H,I.tok _,by rw[yi r];exact q⟩
 |_=>exact (show False from e).elim
theorem xS(B:PE X a ta)(J:∀z,isTrue a X.env z=(do let v ←z;standAt a.pos;holding [v] (truthy v))):
 PT X a (λσ H Q=>ta σ H λx H'=>∃k,agW X.K x H' k/\Q k H'):=by
 intro pins s σ H Q I h;exact isTrue_plain (thn (B _ s σ H _ I h) λv L ⟨x,H1,O,S,Y⟩=>af0 _ L σ H1 x v Q O S Y) (J _)
theorem gW:OpR X (binaryOp .Add) (λx y H Q=>∃i j,x=.str i/\y=.str j/\i.length+j.length<=sizeLine/\Q (.str (i++j)) H):=by
 intro pins s σ H x y v u Q I z B h;obtain⟨i,j,rfl,rfl,J,q⟩:=h;obtain⟨t,rfl⟩:=z;obtain⟨L,rfl⟩:=B;exact add_str (λL tk=>⟨.str _,H,I.tok _,⟨_,rfl⟩,q⟩) J
theorem jK{x z}(r:Vals [x] z):∃u,z=[u]/\RelV x u:=by
 cases r with
 |cons J B=>cases B;simp_all
theorem adl{x y z}(r:Vals [x,y] z):∃u B,z=[u,B]/\RelV x u/\RelV y B:=by
 cases r with
 |cons J L=>
  cases L with
  |cons O S=>cases S;exact⟨_,_,rfl,J,O⟩
theorem aaU(B:X.calm=true):gn X (.builtin "max") (λxs H Q=>∃i j,xs=[.int i,.int j]/\Q (.int (if j>i then j else i)) H):=by
 intro pins s σ H xs J Q I r h;obtain⟨i,j,rfl,q⟩:=h;obtain⟨u,L,rfl,⟨t,rfl⟩,⟨O,rfl⟩⟩:=adl r;refine max_two_ints (I.ok.hd B) λh' tk k=>⟨_,H,I.kept k,?_,q⟩;by_cases z:j>i
 .rw[if_pos z,if_pos z];exact⟨_,rfl⟩
 .rw[if_neg z,if_neg z];exact⟨_,rfl⟩
theorem aaA(B:X.calm=true):gn X (.builtin "min") (λxs H Q=>∃i j,xs=[.int i,.int j]/\Q (.int (if j<i then j else i)) H):=by
 intro pins s σ H xs J Q I r h;obtain⟨i,j,rfl,q⟩:=h;obtain⟨u,L,rfl,⟨t,rfl⟩,⟨O,rfl⟩⟩:=adl r;refine min_two_ints (I.ok.hd B) λh' tk k=>⟨_,H,I.kept k,?_,q⟩;by_cases z:j<i
 .rw[if_pos z,if_pos z];exact⟨_,rfl⟩
 .rw[if_neg z,if_neg z];exact⟨_,rfl⟩
theorem aaF:gn X (.type "int") (λxs H Q=>(∃i,xs=[.int i]/\Q (.int i) H)\/∃k,xs=[.bl k]/\Q (.int (if k then 1 else 0)) H):=by
 intro pins s σ H xs B Q I r h;rcases h with ⟨i,rfl,q⟩|⟨k,rfl,q⟩
 .obtain⟨u,rfl,t,rfl⟩:=jK r;exact call_int_int ⟨.int i,H,I,⟨_,rfl⟩,q⟩
 .obtain⟨u,rfl,z⟩:=jK r;cases z;exact call_int_bool ⟨.int _,H,I.tok _,⟨_,rfl⟩,q⟩
end
structure ObjM(h:Heap)(x dx C:Addr)(mA:Str->Option Value):Prop where
 obj:h.get? x=some (instObj C dx)
 ns:h.Ns1 dx mA
 ne:dx≠x
theorem aaG{h:Heap}{dx mA}(n:h.Ns1 dx mA):∃J,h.get? dx=some J/\∀name,lookIn name J=some (mA name):=by
 obtain⟨o,es,ep,L,O,S,_,Y⟩:=n;refine⟨o,L,λname=>?_⟩;have e:=Y name;unfold nsFind findBy at e;rw[←Array.find?_toList]at e;unfold lookIn;rw[O];dsimp only;split
 .simp_all
 .rename_i q;rw[q]at e;have a:es.toList.any (·.refKey)=false:=by
   rw[List.any_eq_false];intro y Z;obtain⟨z,t,B⟩:=S y (Array.mem_toList_iff.mp Z);simp[DictEntry.refKey,B]
  grind
theorem ObjM.look{h x dx C mA}(I:ObjM h x dx C mA):∃z,PySem.W.InstAt h x (instObj C dx) C (some z)/\∀name,lookIn name z=some (mA name):=
 let ⟨z,B,J⟩:=aaG I.ns
 ⟨z,⟨I.obj,rfl,rfl,B⟩,J⟩
section
variable {prog:Program}{w:World}{A:Around}{E:Value->Shared->Prop}{s:Shared}{K:PySem.W.Frag}{x dx C f:Addr}{mA:Str->Option Value}{name:Str}{v:Value}
theorem aeV{z Q}(X:K.In s.heap)(I:ObjM s.heap x dx C mA)(L:plainGet K C name=true)(O:hasDictIn K C=true)
 (S:findIn K (.ref C) name=some none)(Y:mA name=some v)(B:handedIn v=true)(h:Q v {s with toks:=s.toks+1}):
 wpAny (model prog w) A (getAttr (.ref x) name z) Q E s:=by
 obtain⟨od,J,Z⟩:=I.look;exact PySem.W.get_value X J (alU L).1 (PySem.W.findObj_own O S rfl (by rw[Z,Y])) B h
theorem ado{pl Q}(X:K.In s.heap)(I:ObjM s.heap x dx C mA)(z:plainGet K C name=true)
 (B:findIn K (.ref C) name=some (some (.ref f)))(L:isFn K (.ref f)=true)(S:mA name=none)(h:Q (.ref f,[.ref x]) s):
 wpAny (model prog w) A (getMethod (.ref x) name pl) Q E s:=by
 obtain⟨O,J,Y⟩:=I.look;exact PySem.W.method_fn X J (alU z).1 (alU z).2 B (ait.mp L) (by show (lookIn _ O).map _=some _;simp_all) h
theorem aer{Y Q}(X:K.In s.heap)(I:ObjM s.heap x dx C mA)
 (Z:findIn K (.ref C) "__setattr__" = some (some (.builtin "object.__setattr__")))(hp:plainOver K C=true)(ht:takerIn K C name=some none)(hh:hasDictIn K C=true)
 (hw:PySem.Within mA Y)(hsz:Y.length<=sizeLine)
 (h:∀h',ObjM h' x dx C (λy=>if y=name then some v else mA y)->Heap.SameBut dx s.heap h'->Q () {s with heap:=h',toks:=s.toks+2}):
 wpAny (model prog w) A (setAttr (.ref x) name v) Q E s:=by
 obtain⟨od,J,hl⟩:=I.look;refine PySem.W.set_plain X J Z (PySem.W.osa_open   X J hp ht λb=>?_);obtain⟨cd,hc,L⟩:=PySem.W.any_some hh;have hx:=I.obj;refine ahV (ah0 (ahV (ahV (wpAny_loadPart hx (ahV (PySem.W.Looks.here  (PySem.W.looks_clsIn X hc) ?_))))));rw[L];refine ah0  (ahV (ah0 (ahV (wpAny_nsSet1  I.ns λh' z B=>?_))));obtain⟨oD,af,ag,O,S,ah⟩:=z.count (PySem.Within.cons _ v hw);exact ahV (wpAny_lookBehind O (by rw[S];exact pastItsLine_dict (by grind)) (ah0 (h _ ⟨(B.2 _ (ai2 I.ne)).trans I.obj,z,I.ne⟩ B)))
theorem ada{R vs z}(X:K.In s.heap)(J:makesIn K C=true)
 (hi:findIn K (.ref C) "__init__" = some (some (.ref f)))(L:PySem.W.typeIn K (.ref f)=some (.type "function"))
 (h:codeAny (model prog w) (A.under (.builtin "type.__call__" ⟨.ref C::vs,z⟩)) (.call (.ref f) ⟨.ref (s.heap.objs.size+1)::vs,z⟩) (PySem.W.InitBack (s.heap.objs.size+1) R)
  {s with heap:=(s.heap.push emptyDict).push (instObj C s.heap.objs.size) }):
 codeAny (model prog w) A (.call (.ref C) ⟨vs,z⟩) R s:=PySem.W.make_core (PySem.W.makes_of X J) (PySem.W.looks_findIn X hi) (λB=>PySem.W.bind_fn X _ L) (.inl rfl) h
end
def lF(f:Str)(v:V):List (Str×V)->List (Str×V)
 |[]=>[(f,v)]
 | (g,x)::r=>if g=f then (g,v)::r else (g,x)::lF f v r
theorem fJ f g v:∀fs:_,(lF f v fs).lookup g=if g=f then some v else fs.lookup g
 |[]=>by
  show List.lookup g [(f,v)]=_;grind
 | (k,x)::r=>by
  have z:=fJ f g v r;rw[show lF f v _=(if k=f then (k,v)::r else (k,x)::lF f v r) from rfl];grind
theorem nV(f:Str)(v:V):∀fs:List (Str×V),f∈(lF f v fs).map (·.1)/\∀g,g∈fs.map (·.1)->g∈(lF f v fs).map (·.1)
 |[]=>⟨by simp[lF],λg h=>by simp at h⟩
 | (k,x)::r=>by
  obtain⟨B,J⟩:=nV f v r;rw[show lF f v ((k,x)::r)=(if k=f then (k,v)::r else (k,x)::lF f v r) from rfl];by_cases z:k=f
  .rw[if_pos z];subst z;exact⟨by simp,λg h=>by simpa using h⟩
  .rw[if_neg z];refine⟨?_,λg h=>?_⟩
   .rw[air];exact aih _ B
   .rw[air]at h⊢;rcases ain.mp h with e|e
    .exact ain.mpr (.inl e)
    .exact aih _ (J g e)
theorem iL(f:Str)(v:V):∀fs:List (Str×V),(lF f v fs).length<=fs.length+1
 |[]=>by simp[lF]
 | (k,x)::r=>by
  have B:=iL f v r;rw[show lF f v ((k,x)::r)=(if k=f then (k,v)::r else (k,x)::lF f v r) from rfl];by_cases z:k=f
  .rw[if_pos z,aiJ,aiJ];lia
  .rw[if_neg z,aiJ,aiJ];lia
theorem RelO.some_of{v o}(r:RelO (some v) o):∃u,o=some u/\RelV v u:=by
 cases o with
 |none=>exact (r).elim
 |some u=>exact⟨u,rfl,r⟩
theorem RelO.none_of{o}(r:RelO none o):o=none:=by
 cases o with
 |none=>rfl
 |some u=>exact (r).elim
theorem aaN{v u}(r:RelV v u):handedIn u=true:=by
 cases v with
 |non=>cases (r);rfl
 |bl b=>cases (r);rfl
 |int i=>obtain⟨t,e⟩:=(r);cases e;rfl
 |str x=>obtain⟨t,e⟩:=(r);cases e;rfl
 |byt b=>obtain⟨t,e⟩:=(r);cases e;rfl
 |flt b=>obtain⟨t,e⟩:=(r);cases e;rfl
 |ref a=>cases (r);rfl
 |ty n=>cases (r);rfl
section
variable {P:Program}{w:World}{H H':Hp}{h h':Heap}{a C dx:Addr}{fs fs':List (Str×V)}
theorem rX(B:HOk P w H h)(e:H a=some (.ins C dx fs)):∃mA,ObjM h a dx C mA/\(∀f,RelO (fs.lookup f) (mA f))/\PySem.Within mA (fs.map (·.1))/\fs.length<=1000/\H dx=some (.own a):=by
 obtain⟨d,z,ne,J,mA,n,r,q⟩:=(B a _ e);exact⟨mA,⟨J,n,ne⟩,r,q,z,d⟩
end
structure Cls(K:PySem.W.Frag)(C:Addr):Prop where
 pg:plainGet K C Str.empty=true
 hd:hasDictIn K C=true
 po:plainOver K C=true
 sa:findIn K (.ref C) "__setattr__" = some (some (.builtin "object.__setattr__"))
theorem Cls.get{K C}(c:Cls K C) f:plainGet K C f=true:=c.pg
def NoAttr(K:PySem.W.Frag)(C:Addr)(f:Str):Prop:=findIn K (.ref C) f=some none
theorem NoAttr.taker{K C f}(n:NoAttr K C f):takerIn K C f=some none:=by
 unfold takerIn;rw[n]
 rfl
structure af2(K:PySem.W.Frag)(C:Addr)(m:Str)(f:Addr):Prop where
 at_:findIn K (.ref C) m=some (some (.ref f))
 fn:isFn K (.ref f)=true
 kp:keepIn K (.ref f)=true
section
variable {X:Cx}{pins:List (Addr×Obj)}{σ:St}{H:Hp}{s:Shared}{a C dx:Addr}{fs:List (Str×V)}{f:Str}{v:V}{A:Around}{E:Value->Shared->Prop}
theorem yP{b Q}(I:Inv X pins σ H s)(e:H a=some (.ins C dx fs))(c:Cls X.K C)(n:NoAttr X.K C f)(l:fs.lookup f=some v)
 (h:∀u s',Inv X pins σ H s'->RelV v u->Q u s'):wpAny (model X.prog X.w) A (getAttr (.ref a) f b) Q E s:=by
 obtain⟨mA,O,r,_,_,_⟩:=rX I.hok e;obtain⟨u,B,z⟩:=RelO.some_of   (by rw[←l];exact r f);exact aeV I.kIn O (c.get f) c.hd n B (aaN z) (h u _ (I.tok _) z)
theorem qi{m g pl Q}(I:Inv X pins σ H s)(e:H a=some (.ins C dx fs))(c:Cls X.K C)(k:af2 X.K C m g)(l:fs.lookup m=none)
 (h:Q (.ref g,[.ref a]) s):wpAny (model X.prog X.w) A (getMethod (.ref a) m pl) Q E s:=by
 obtain⟨mA,O,r,_,_,_⟩:=rX I.hok e;have z:=RelO.none_of (by rw[←l];exact r m);exact ado I.kIn O (c.get m) k.at_ k.fn z h
theorem ze{y u Q}(I:Inv X pins σ H s)(e:H a=some (.ins C dx fs))(c:Cls X.K C)(n:NoAttr X.K C f)(hl:fs.length<1000)(L:RelV y u)
 (h:∀s',Inv X pins σ (upd H a (.ins C dx (lF f y fs))) s'->Q () s'):wpAny (model X.prog X.w) A (setAttr (.ref a) f u) Q E s:=by
 obtain⟨mA,O,r,wi,_,J⟩:=rX I.hok e;have S:(fs.map (·.1)).length<=sizeLine:=by rw[ahY,alT];lia
 refine aer I.kIn O c.sa c.po n.taker c.hd wi S λh' B sb=>h _ ?_;have Y:∃o,h'.get? dx=some o:=let ⟨o,_,_,Z,_⟩:=B.ns;⟨o,Z⟩;refine I.write   (by rw[e];exact True.intro) (.inr J) (λb q hb=>(sb.2 b hb).trans) Y ⟨by rw[ai O.ne];exact J,?_,O.ne,B.obj,_,B.ns,λg=>?_,λg hg=>?_⟩
 .have:=iL f y fs;lia
 .rw[fJ];by_cases q:g=f
  .rw[if_pos q,if_pos q];exact L
  simp_all
 .by_cases q:g=f
  .rw[q];exact (nV f y fs).1
  .refine (nV f y fs).2 g (wi g λz=>hg ?_);grind
theorem Inv.made(I:Inv X pins σ H s):Inv X pins σ (upd (upd H s.heap.objs.size (.own (s.heap.objs.size+1))) (s.heap.objs.size+1) (.ins C s.heap.objs.size []))
 {s with heap:=(s.heap.push emptyDict).push (instObj C s.heap.objs.size) }:=by
 have z:(s.heap.push _).get? _=some emptyDict:=aib _ rfl;have B:=by
  have:=aib (s.heap.push emptyDict) (o:=instObj C s.heap.objs.size) rfl;rwa [aiP]at this
 have J:(s.heap.push _).Ns _ _:=⟨emptyDict,#[],_,z,rfl,(λe L=>absurd L (by simp)),λ_=>rfl⟩;have O:=I.laid  (o:=.own (s.heap.objs.size+1))  (t':=s.toks) (λb u=>ahX _) (ah4 _) ⟨_,z⟩;refine O.laid    (λb u=>ahX _) (Nat.le_of_eq (aiP _ _)) ?_;have ne:s.heap.objs.size≠s.heap.objs.size+1:=ah6 (akb _);refine⟨by rw[ai ne,af],ail _,ne,B,λ_=>none,(Heap.Ns1.of_empty J).at λo=>ahX _,λ_=>True.intro,λy=>absurd rfl⟩
theorem aeX{prog w env e f pos s Q}(B:attributeBase e f env (eval e env)=eval e env)
 (h:wpAny (model prog w) A (eval e env) (λo z=>wpAny (model prog w) A (getAttr o f true) Q E z) E s):wpAny (model prog w) A (eval (.Attribute e f pos) env) Q E s:=
 Attribute_any_ h (by rw[arm_eval_Attribute,B])
end
def ahS(K:PySem.W.Frag)(ta:TE)(f:Str):TE:=λσ H Q=>ta σ H λx H1=>∃a C dx fs v,x=.ref a/\H1 a=some (.ins C dx fs)/\Cls K C/\NoAttr K C f/\fs.lookup f=some v/\Q v H1
def ahn(K:PySem.W.Frag)(ta tv:TE)(f:Str):TS:=λD σ H=>tv σ H λy H1=>ta σ H1 λx H2=>∃a C dx fs,x=.ref a/\H2 a=some (.ins C dx fs)/\Cls K C/\NoAttr K C f/\fs.length<1000 ∧
 D.nx σ (upd H2 a (.ins C dx (lF f y fs)))
def ahm(X:Cx)(op:Operator)(rd:V->V->Hp->VK->Prop):Prop:=
 ∀(pins:List (Addr×Obj)) (s:Shared) (σ:St) (H:Hp) (x y:V) (u v:Value) (Q:VK),Inv X pins σ H s->RelV x u->RelV y v->rd x y H Q->wpAny (model X.prog X.w) X.A (inplaceOp op u v) (EP X pins σ Q) X.xe s
section
variable {X:Cx}{o e value:Expr}{f:Str}{pos pos' tpos:Pos}{ta tv:TE}
theorem aaS(z:PE X e ta)(B:attributeBase e f X.env (eval e X.env)=eval e X.env):PE X (.Attribute e f pos) (ahS X.K ta f):=by
 intro pins s σ H Q I h;refine aeX B (thn (z _ s σ H _ I h) λu Z ⟨x,H1,J,L,a,C,dx,fs,v,ex,O,c,n,l,q⟩=>?_);subst ex;obtain rfl:u=Value.ref a:=L;exact yP J O c n l λu' s2 S Y=>⟨v,H1,S,Y,q⟩
theorem abG(z:PE X o ta)(B:PE X value tv)(J:swapsWith value (some (.Attribute o f pos')) pos.line X.env=pure false):PS X (.Assign [.Attribute o f pos'] value pos) (ahn X.K ta tv f):=by
 intro pins s σ H D I h;refine plainObj_wpAny_Assign_Attribute (thn (B _ s σ H _ I h) λu L ⟨y,H1,O,S,q⟩=>thn (z _ L σ H1 _ O q) λY s2 ⟨x,H2,Z,rx,a,C,dx,fs,ex,ea,c,n,l,q2⟩=>?_) J;subst ex;obtain rfl:Y=Value.ref a:=rx;exact ze Z ea c n l S λs3 I3=>⟨σ,_,I3,q2⟩
def ahJ:V->V->Hp->VK->Prop:=λx y H Q=>∃i j,x=.int i/\y=.int j/\Q (.int (i+j)) H
theorem afQ:ahm X .Add ahJ:=by
 rintro pins s σ H x y u v Q I z B ⟨i,j,rfl,rfl,q⟩;obtain⟨t,rfl⟩:=(z);obtain⟨J,rfl⟩:=(B);exact PyProof.Rows.iadd_int ⟨.int _,H,I.tok _,⟨_,rfl⟩,q⟩
theorem aeT{pl:Sem Bool}{m:Str}{apos:Pos}{args:List Expr}{pins:List (Addr×Obj)}{s:Shared}{σ:St}{H:Hp}{Q:Value->Shared->Prop}{te:TE}(J:PE X e te)(I:Inv X pins σ H s)
 (h:te σ H λx H1=>∃a C dx fs g,x=.ref a/\H1 a=some (.ins C dx fs)/\Cls X.K C/\af2 X.K C m g/\fs.lookup m=none ∧
  ∀z,Inv X pins σ H1 z->wpAny (model X.prog X.w) X.A (callWith pos (.ref g) [.ref a] (backTo pos (starEach args X.env)) (backToKw pos (keywordEach [] X.env))) Q X.xe z)
 (L:eval (.Call (.Attribute e m apos) args [] pos) X.env=(do
  let ov ←eval e X.env
  standAt apos.atName
  let (f,first) ←holding [ov] (getMethod ov m pl)
  callWith pos f first (backTo pos (starEach args X.env)) (backToKw pos (keywordEach [] X.env)))):
 wpAny (model X.prog X.w) X.A (eval (.Call (.Attribute e m apos) args [] pos) X.env) Q X.xe s:=by
 refine am4 (pl:=pl) (thn (J pins s σ H _ I h) λu z ⟨x,H1,B,O,a,C,dx,fs,g,ex,S,c,k,l,q⟩=>?_) L;subst ex;obtain rfl:u=Value.ref a:=O;exact qi B S c k l (q z B)
end
section
variable {X:Cx}{pins:List (Addr×Obj)}{σ:St}{H:Hp}{s:Shared}{A:Around}{E:Value->Shared->Prop}{Q:Value->Shared->Prop}{c:Value}{b:Bool}
inductive yr(K:PySem.W.Frag)(H:Hp):V->Value->Prop where
 |non:yr K H .non (.type "NoneType")
 |bl (x:Bool):yr K H (.bl x) (.type "bool")
 |int (i:Int):yr K H (.int i) (.type "int")
 |str (x:Str):yr K H (.str x) (.type "str")
 |flt (x:UInt64):yr K H (.flt x) (.type "float")
 |lst {a:Addr} {xs:List V} (e:H a=some (.lst xs)):yr K H (.ref a) (.type "list")
 |frz {a:Addr} {o:Obj} {xs:List V} (e:H a=some (.frz o (.lst xs))):yr K H (.ref a) (.type "list")
 |tup {a:Addr} {xs:List V} (e:H a=some (.tup xs)):yr K H (.ref a) (.type "tuple")
 |dK {a:Addr} {kvs:List (Key×V)} (e:H a=some (.dK kvs)):yr K H (.ref a) (.type "dict")
 |dT {a:Addr} {kvs:List (List Key×V)} (e:H a=some (.dT kvs)):yr K H (.ref a) (.type "dict")
 |ins {a C dx:Addr} {fs:List (Str×V)} (e:H a=some (.ins C dx fs)) (cl:Cls K C) (ha:findIn K (.ref C) "__class__" = some (some (.builtin "object.__class__")))
  (hn:PySem.W.specialIn K (.builtin "object.__class__") "__get__" = some (some (.builtin "getset_descriptor.__get__"))) (htk:PySem.W.takesIn K (.builtin "object.__class__")=some true)
  (hm:PySem.W.mroIn K C (.type "object")=some true):yr K H (.ref a) (.ref C)
theorem abj{x u t}(I:Inv X pins σ H s)(B:RelV x u)(ty:yr X.K H x t)(e:kitOne X.K t c=some b)(h:∀tk,Q (.bool b) {s with toks:=tk}):
 wpAny (model X.prog X.w) A (call (.builtin "isinstance") [u,c]) Q E s:=by
 cases ty with
 |non=>cases (B);exact ajv PySem.W.kitx_none I.kIn True.intro e (λz=>nomatch z) h
 |bl y=>cases (B);exact ajv PySem.W.kitx_bool I.kIn True.intro e (λz=>nomatch z) h
 |int i=>obtain⟨t,q⟩:=(B);cases q;exact ajv PySem.W.kitx_int I.kIn True.intro e (λz=>nomatch z) h
 |str y=>obtain⟨t,q⟩:=(B);cases q;exact ajv PySem.W.kitx_str I.kIn True.intro e (λz=>nomatch z) h
 |flt y=>obtain⟨t,q⟩:=(B);cases q;exact ajv PySem.W.kitx_float I.kIn True.intro e (λz=>nomatch z) h
 |@lst a xs L=>
  cases (B);obtain⟨_,_,n,_,h1⟩:=(I.hok a _ L);exact ajv kitx_list I.kIn ⟨_,h1,rfl⟩ e (λz=>nomatch z) h
 |@frz a ob xs L=>
  cases (B);obtain⟨_,_,_,n,_,h1⟩:=(I.hok a _ L);exact ajv kitx_list I.kIn ⟨_,h1,rfl⟩ e (λz=>nomatch z) h
 |@tup a xs L=>
  cases (B);obtain⟨_,_,_,p⟩:=(I.hok a _ L);obtain⟨o,h1,h2,_⟩:=p;exact ajv PySem.W.kitx_tuple I.kIn ⟨o,h1,h2⟩ e (λz=>nomatch z) h
 |@dK a kvs L=>
  cases (B);obtain⟨_,_,vs,_,p⟩:=(I.hok a _ L);obtain⟨o,es,ep,h1,h2,_⟩:=p;exact ajv kitx_dict I.kIn ⟨o,h1,h2.1⟩ e (λz=>nomatch z) h
 |@dT a kvs L=>
  cases (B);obtain⟨_,_,xs,_,o,es,ep,h1,h2,_⟩:=(I.hok a _ L);exact ajv kitx_dict I.kIn ⟨o,h1,h2.1⟩ e (λz=>nomatch z) h
 |@ins a C dx fs L cl Y Z S hm=>
  cases (B);obtain⟨mA,O,_⟩:=rX I.hok L;obtain⟨od,J,_⟩:=O.look;exact ajv (PySem.W.kitx_own (cl.get _) cl.hd Y Z S hm) I.kIn J e (λz=>nomatch z) h
end
structure Room(k:Nat)(A:Around):Prop where
 hd:A.handled=none
 dp:A.depth+3*k+5<recursionLimit
 un:A.units+16*k+200<cLine
theorem Room.mono{j k A}(r:Room k A)(h:j<=k):Room j A:=⟨r.hd,by have:=r.dp;lia,by have:=r.un;lia⟩
theorem Room.deeper{k A}(r:Room (k+1) A) env:Room k (A.deeper env):=
 ⟨r.hd,by have:=r.dp;show A.depth+1+3*k+5<_;lia,by have:=r.un;show A.units+3+16*k+200<_;lia⟩
theorem yt{A:Around}{C z B}:(A.under (.builtin "type.__call__" ⟨.ref C::z,B⟩)).depth=A.depth+1:=by
 first|rfl|grind
theorem yG{A:Around}{C z B}:(A.under (.builtin "type.__call__" ⟨.ref C::z,B⟩)).units=A.units+1:=by
 first|rfl|grind
theorem Room.make{k A}(r:Room (k+1) A) C z B:Room k (A.under (.builtin "type.__call__" ⟨.ref C::z,B⟩)):=
 ⟨r.hd,by have:=r.dp;rw[yt];lia,by have:=r.un;rw[yG];lia⟩
theorem Room.depth{k A}(r:Room k A):A.depth<recursionLimit:=by have:=r.dp;lia
theorem Room.units{k A}(r:Room k A):A.units+64<cLine:=by have:=r.un;lia
def cS:TA:=λ_ H Q=>Q [] H
def ax(ta:TE)(tr:TA):TA:=λσ H Q=>ta σ H λx H1=>tr σ H1 λxs H2=>Q (x::xs) H2
section
variable {X:Cx}{e:Expr}{es:List Expr}{te:TE}{t:TA}{pos:Pos}
theorem aj:PA X [] cS:=λ_ _ _ _ H Q I h=>Calls.spliced_nil ⟨[],H,I,.nil,h⟩
theorem ae(z:PE X e te)(hr:PA X es t)(B:starEach (e::es) X.env=(false,eval e X.env)::starEach es X.env:=by rfl):PA X (e::es) (ax te t):=by
 intro pos pins s σ H Q I h;rw[B];exact Calls.spliced_cons (thn (z _ s σ H _ I h) λu J ⟨x,H1,L,O,S⟩=>thn (hr _ _ J σ H1 _ L S) λus s2 ⟨xs,H2,Y,Z,q2⟩=>⟨x::xs,H2,Y,.cons O Z,q2⟩)
def adq(t:TA):TE:=λσ H Q=>t σ H λxs H1=>xs.length<=sizeLine/\∀p,H1 p=none->Q (.ref p) (upd H1 p (.tup xs))
def aaO(t:TA):TE:=λσ H Q=>t σ H λxs H1=>xs.length<=sizeLine/\∀p,H1 p=none->Q (.ref p) (upd H1 p (.lst xs))
theorem gC{J}(h:PA X es t):PE X (.Tuple es J pos) (adq t):=by
 intro pins s σ H Q I L;refine wpAny_Tuple_spliced (thn (h _ _ s σ H _ I L) λO Y ⟨xs,H1,B,r,z,q⟩=>⟨by rw[←r.length];exact z,?_⟩);have S:=B.hok.fresh (ah4 _);refine⟨.ref _,upd H1 _ _,B.laid  (λb u=>ahX _) (ah4 _) ?_,rfl,q _ S⟩;exact⟨z,O,r,⟨_,aib _ rfl,rfl,_,rfl⟩⟩
theorem gX(h:PA X es t):PE X (.List es pos) (aaO t):=by
 intro pins s σ H Q I J;refine wpAny_List_spliced (thn (h _ _ s σ H _ I J) λL S ⟨xs,H1,B,r,z,q⟩=>⟨by rw[←r.length];exact z,?_⟩);have O:=B.hok.fresh (ah4 _);refine⟨.ref _,upd H1 _ _,B.laid  (λb u=>ahX _) (ah4 _) ?_,rfl,q _ O⟩;exact⟨z,L,0,r,aib _ rfl⟩
end
abbrev Sp:=List V->Hp->VK->XK->Prop
abbrev CXT:=List Env->Hp->Shared->XK->Value->Shared->Prop
structure Env0(P:Program)(w:World)(K:PySem.W.Frag)(mg:Str->Option Value)(base:Heap)(A:Around)(outer:List Env)(s:Shared)(H:Hp):Prop where
 frames:A.frames=some outer
 mod:Mod K mg base
 bs:∀b o,base.get? b=some o->s.heap.get? b=some o/\H b=none
 bsz:base.objs.size<=s.heap.objs.size
 funs:s.heap.FunFrames base outer
 frf:∀b∈frs outer,H b=none
 hok:HOk P w H s.heap
 bare:AllBare s.gens
def CE(outer:List Env)(P:Program)(w:World)(H:Hp)(s:Shared)(Q:VK)(u:Value)(s':Shared):Prop:=
 ∃v H',s'.os=s.os/\AllBare s'.gens/\Un (frs outer) [] H H' s.heap s'.heap/\HOk P w H' s'.heap/\RelV v u/\Q v H'
def CR(CX:CXT)(outer:List Env)(P:Program)(w:World)(H:Hp)(s:Shared)(Q:VK)(E:XK)(r:Result)(s':Shared):Prop:=
 match r with
 |.ok (.ret u)=>CE outer P w H s Q u s'
 |.ok _=>False
 |.error e=>CX outer H s E e s'
structure bx(P:Program)(w:World)(K:PySem.W.Frag)(mg:Str->Option Value)(base:Heap)(CX:CXT)(k:Nat)(f:Addr)(fd:FuncData)(ps:List Str)(sp:Sp):Prop where
 len:∀vs H Q E,sp vs H Q E->vs.length=ps.length
 run:∀(A:Around) (outer:List Env) (s:Shared) (H:Hp) (args:Args) (us:List Value) (vs:List V) (Q:VK) (E:XK),Room k A->Env0 P w K mg base A outer s H->BindsTo s fd args (ps.zip us)->Vals vs us->sp vs H Q E →
  codeAny (model P w) A (.call (.ref f) args) (CR CX outer P w H s Q E) s
theorem Env0.make{P w K mg base A outer s H}(e:Env0 P w K mg base A outer s H) C z B:
 Env0 P w K mg base (A.under (.builtin "type.__call__" ⟨.ref C::z,B⟩)) outer s H:=⟨by first|exact e.frames|grind,e.mod,e.bs,e.bsz,e.funs,e.frf,e.hok,e.bare⟩
section
variable {X:Cx}{pins:List (Addr×Obj)}{σ:St}{H:Hp}{s s':Shared}
theorem Inv.env0(I:Inv X pins σ H s):Env0 X.prog X.w X.K X.mg X.base X.A X.stack s H:=
 ⟨I.ok.frames,I.ok.mod,I.bs,aij I.ok.bsz I.sz,I.stack,I.stkFree,I.hok,I.bare⟩
theorem Inv.after{Q u}(I:Inv X pins σ H s)(h:CE X.stack X.prog X.w H s Q u s'):EP X pins σ Q u s':=by
 obtain⟨v,H',O,B,un,J,r,q⟩:=h;obtain⟨S,g,d,t,L⟩:=s';obtain rfl:L=s.os:=O;exact⟨v,H',I.call      un J B (λb z=>absurd z (by simp)),r,q⟩
end
def dO(sp:Sp)(dvs:List V)(E:XK)(t:TA):TE:=λσ H Q=>t σ H λvs H1=>sp (vs++dvs) H1 Q E
def ag5(C:Addr)(m:Str)(sp:Sp)(dvs:List V)(E:XK)(ta:TE)(t:TA):TE:=λσ H Q=>ta σ H λx H1=>∃a dx fs,x=.ref a/\H1 a=some (.ins C dx fs)/\fs.lookup m=none ∧
 t σ H1 λvs H2=>sp (x::(vs++dvs)) H2 Q E
def agQ(C:Addr)(sp:Sp)(dvs:List V)(E:XK)(t:TA):TE:=λσ H Q=>t σ H λvs H1=>∀x dx,H1 x=none->H1 dx=none->dx≠x →
 sp (.ref x::(vs++dvs)) (upd (upd H1 dx (.own x)) x (.ins C dx [])) (λv H2=>v=.non/\Q (.ref x) H2) E
def Binds(K:PySem.W.Frag)(fd:FuncData)(ps:List Str)(ds:List Value):Prop:=
 ∀(s:Shared) (us:List Value),K.In s.heap->(us++ds).length=ps.length->BindsTo s fd ⟨us,[]⟩ (ps.zip (us++ds))
theorem Binds.all{K fd ps}(h:∀z:_,z.length=ps.length->bindArgs fd ⟨z,[]⟩=pure (ps.zip z)):Binds K fd ps []:=λs z _ B=>by
 rw[aiV]at B⊢;exact .of_eq (h z B)
def qJ(CX:CXT)(X:Cx)(E:XK):Prop:=∀(pins:List (Addr×Obj)) (σ:St) (H:Hp) (s:Shared) (e:Value) (s':Shared),Inv X pins σ H s->CX X.stack H s E e s'->X.xe e s'
section
variable {X:Cx}{CX:CXT}{k:Nat}{f C:Addr}{fd:FuncData}{ps:List Str}{sp:Sp}{dvs:List V}{ds:List Value}{E:XK}{x m:Str}{p pos apos:Pos}{e o:Expr}{es:List Expr}{ta:TE}{t:TA}
theorem adI{pins}{σ:St}{H s Q B vs}(F:bx X.prog X.w X.K X.mg X.base CX k f fd ps sp)(hr:Room k X.A)(L:Binds X.K fd ps ds)(O:Vals dvs ds)(S:qJ CX X E)
 (I:Inv X pins σ H s)(r:Vals vs B)(h:sp (vs++dvs) H Q E):wpAny (model X.prog X.w) X.A (call (.ref f) B) (EP X pins σ Q) X.xe s:=by
 have J:=r.append O;have Y:(B++ds).length=ps.length:=by rw[←J.length];exact F.len _ _ _ _ h
 refine wpAny_call (ajZ (F.run _ _ s H _ _ _ Q E hr I.env0 (L s B I.kIn Y) J h) λr s' z=>?_);cases r with
 |error e=>exact S _ σ H s e s' I z
 |ok Z=>
  cases Z with
  |ret u=>exact I.after z
  |next=>exact False.elim z
  |brk=>exact False.elim z
  |cont=>exact False.elim z
theorem bM(F:bx X.prog X.w X.K X.mg X.base CX k f fd ps sp)(hr:Room k X.A)(L:Gl X x)(O:X.mg x=some (.ref f))(S:keepIn X.K (.ref f)=true)(Y:Binds X.K fd ps ds)(Z:Vals dvs ds)(hx:qJ CX X E)
 (ha:PA X (e::es) t)(z:(x == "__debug__")=false:=by decide)(he:starEach (e::es) X.env=(false,eval e X.env)::starEach es X.env:=by rfl)(B:(backTo pos (starEach es X.env)).any (·.1)=false:=by rfl):
 PE X (.Call (.Name x p) (e::es) [] pos) (dO sp dvs E t):=by
 intro pins s σ H Q I h;exact akB (wR I L O (amb  I.ok.mod.kin S (thn (ha _ _ s σ H _ I h) λus s1 ⟨vs,H1,J,r,q⟩=>⟨J.kIn,adI F hr Y Z hx J r q⟩) he B) z)
theorem aam{pl}(S:PE X o ta)(c:Cls X.K C)(J:af2 X.K C m f)(F:bx X.prog X.w X.K X.mg X.base CX k f fd ps sp)(hr:Room k X.A)(Y:Binds X.K fd ps ds)(Z:Vals dvs ds)(hx:qJ CX X E)(ha:PA X (e::es) t)
 (z:starEach (e::es) X.env=(false,eval e X.env)::starEach es X.env:=by rfl)(B:(backTo pos (starEach es X.env)).any (·.1)=false:=by rfl)
 (ht:eval (.Call (.Attribute o m apos) (e::es) [] pos) X.env=(do
  let ov ←eval o X.env
  standAt apos.atName
  let (f,first) ←holding [ov] (getMethod ov m pl)
  callWith pos f first (backTo pos (starEach (e::es) X.env)) (backToKw pos (keywordEach [] X.env))):=by rfl):
 PE X (.Call (.Attribute o m apos) (e::es) [] pos) (ag5 C m sp dvs E ta t):=by
 intro pins s σ H Q I h;refine am4  (thn (S _ s σ H _ I h) λu s1 ⟨x,H1,L,rx,a,dx,fs,ex,ea,l,q⟩=>?_) ht;subst ex;obtain rfl:u=Value.ref a:=rx;exact qi L ea c J l (amb   I.ok.mod.kin J.kp (thn (ha _ _ s1 σ H1 _ L q) λus s2 ⟨vs,H2,O,r,q2⟩=>⟨O.kIn,adI  (vs:=.ref a::vs) F hr Y Z hx O (.cons rfl r) q2⟩) z B)
structure Mk(K:PySem.W.Frag)(C f:Addr):Prop where
 makes:makesIn K C=true
 init:findIn K (.ref C) "__init__" = some (some (.ref f))
 fn:isFn K (.ref f)=true
 kp:keepIn K (.ref C)=true
theorem acv{pins}{σ:St}{H s Q B vs}(M:Mk X.K C f)(F:bx X.prog X.w X.K X.mg X.base CX k f fd ps sp)(hr:Room (k+1) X.A)(S:Binds X.K fd ps ds)(Y:Vals dvs ds)
 (Z:qJ CX X E)(I:Inv X pins σ H s)(r:Vals vs B)
 (h:∀x dx,H x=none->H dx=none->dx≠x->sp (.ref x::(vs++dvs)) (upd (upd H dx (.own x)) x (.ins C dx [])) (λv H2=>v=.non/\Q (.ref x) H2) E):
 wpAny (model X.prog X.w) X.A (call (.ref C) B) (EP X pins σ Q) X.xe s:=by
 have L:=h _ _ (I.hok.fresh (ajf _)) (I.hok.fresh (ah4 _)) (ah6 (akb _));have J:=Inv.made (C:=C) I;have O:Vals (V.ref (s.heap.objs.size+1)::(vs++dvs)) _:=.cons rfl (r.append Y);have hl:=by
  have e:=O.length;rw[F.len _ _ _ _ L]at e;exact e.symm
 refine wpAny_call (ada  I.kIn M.makes M.init (ait.mp M.fn) (ajZ (F.run _ _ _ _ _ _ _ _ E (hr.make C B [])
  (J.env0.make C B []) (S _ _ J.kIn hl) O L) λr s' z=>?_))
 cases r with
 |error e=>exact Z _ σ _ _ e s' J z
 |ok fl=>
  cases fl with
  |ret u=>
   obtain⟨v,H',I3,rv,ev,q3⟩:=J.after z;subst ev;exact⟨rv,⟨V.ref _,H',I3,rfl,q3⟩⟩
  |next=>exact False.elim z
  |brk=>exact False.elim z
  |cont=>exact False.elim z
theorem ad9(M:Mk X.K C f)(F:bx X.prog X.w X.K X.mg X.base CX k f fd ps sp)(hr:Room (k+1) X.A)(L:Gl X x)(O:X.mg x=some (.ref C))(S:Binds X.K fd ps ds)(Y:Vals dvs ds)(Z:qJ CX X E)
 (ha:PA X (e::es) t)(z:(x == "__debug__")=false:=by decide)(he:starEach (e::es) X.env=(false,eval e X.env)::starEach es X.env:=by rfl)(B:(backTo pos (starEach es X.env)).any (·.1)=false:=by rfl):
 PE X (.Call (.Name x p) (e::es) [] pos) (agQ C sp dvs E t):=by
 intro pins s σ H Q I h;exact akB (wR I L O (amb  I.ok.mod.kin M.kp (thn (ha _ _ s σ H _ I h) λus s1 ⟨vs,H1,J,r,q⟩=>⟨J.kIn,acv M F hr S Y Z J r q⟩) he B) z)
end
structure aA(N P:List Str)(sc:Scope):Prop where
 kind:sc.kind=.function
 co:sc.isCoroutine=false
 gen:sc.isGenerator=false
 nd:N.Nodup
 pre:N.take P.length=P
 par:∀x∈P,sc.names.lookup x=some .local\/sc.names.lookup x=some .cell
 nofree:∀y∈sc.names,y.2≠.free
theorem scM{N P:List Str}{sc:Scope}(a:sc.kind=.function)(b:sc.isCoroutine=false)(c:sc.isGenerator=false)(e:N.take P.length=P)(d:N.Nodup/\(∀x∈P,sc.names.lookup x=some .local\/sc.names.lookup x=some .cell)/\∀y∈sc.names,y.2≠.free):aA N P sc:=⟨a,b,c,d.1,e,d.2.1,d.2.2⟩
theorem t9{z:Str->Option NameKind}{x:Str}:∀{binds:List (Str×Value)} {m:Str->Option Value},(∀v,(x,v)∉binds)->bindL z binds m x=m x
 |[],_,_=>rfl
 | (n,v)::r,m,h=>by
  unfold bindL;rw[t9 λw hw=>h w (aih _ hw)];split
  .have:x≠n:=by rintro rfl;exact h v aid
   simp[this]
  .rfl
theorem sW{z x}:∀{binds} {m},(∀v,(x,v)∉binds)->bindC z binds m x=m x
 |[],_,_=>rfl
 | (n,v)::r,m,h=>by
  unfold bindC;rw[sW λw hw=>h w (aih _ hw)];split<;>grind
theorem t5{z x v}:∀{P:List _} {vs} {i:Nat} {m},P.Nodup->P[i]?=some x->vs[i]?=some v->z x=some .local →
 bindL z (P.zip vs) m x=some v
 |[],_,_,_,_,h,_,_=>by simp at h
 |_::_,[],_,_,_,_,h,_=>by simp at h
 |p::P,w::vs,0,m,nd,h1,h2,hk=>by
  simp at h1 h2;subst h1;subst h2;show bindL _ ((p,w)::P.zip vs) m p=_;unfold bindL;rw[t9 λv B=>(ajm.mp nd).1 (akE B).1,if_pos hk];simp
 |p::P,w::vs,i+1,m,nd,h1,h2,hk=>by
  unfold bindL;exact t5  (ajm.mp nd).2 (by simpa using h1) (by simpa using h2) hk
theorem tQ{z x v}:∀{P:List _} {vs} {i:Nat} {m},P.Nodup->P[i]?=some x->vs[i]?=some v->z x≠some .local →
 bindC z (P.zip vs) m x=some v
 |[],_,_,_,_,h,_,_=>by simp at h
 |_::_,[],_,_,_,_,h,_=>by simp at h
 |p::P,w::vs,0,m,nd,h1,h2,hk=>by
  simp at h1 h2;subst h1;subst h2;show bindC _ ((p,w)::P.zip vs) m p=_;unfold bindC;rw[sW λv B=>(ajm.mp nd).1 (akE B).1,if_neg hk];simp
 |p::P,w::vs,i+1,m,nd,h1,h2,hk=>by
  unfold bindC;exact tQ  (ajm.mp nd).2 (by simpa using h1) (by simpa using h2) hk
def start(N:List Str)(vs:List V):St:=vs.map some++List.replicate (N.length-vs.length) none
def ur(CX:CXT)(P:Program)(w:World)(K:PySem.W.Frag)(mg:Str->Option Value)(base:Heap)(N:List Str)(qual:Str)(scope:Scope)(f:Addr)(cd:Value)(A:Around)(outer:List Env)(s:Shared)(H:Hp)(E:XK):Cx where
 prog:=P
 w:=w
 K:=K
 mg:=mg
 base:=base
 A:=A.deeper (envOfC qual scope s.heap.objs.size f cd)
 N:=N
 s₀:=s
 H₀:=H
 env:=envOfC qual scope s.heap.objs.size f cd
 outer:=outer
 stack:=envOfC qual scope s.heap.objs.size f cd::outer
 ex:=[]
 calm:=true
 fn:=λ_=>true
 pn:=[]
 xe:=λe s'=>wpAny (model P w) (A.deeper (envOfC qual scope s.heap.objs.size f cd)) (leaving (envOfC qual scope s.heap.objs.size f cd) e) (λ_ s''=>CX outer H s E e s'') (λe' s''=>CX outer H s E e' s'') s'
theorem xH{sc:Scope}{n x}(h:sc.names.lookup x=some .cell):∃c,(cellsFrom n sc.names []).lookup x=some c:=by
 have q:=amZ _ n [] (.inl h);exact amt.mp q
theorem abF{CX P w K mg base N ps qual scope f cd A outer s Z}{H:Hp}{E:XK}{Y vs}
 (S:aA N ps scope)(hd:A.handled=none)(B:Env0 P w K mg base A outer s H)(hl:vs.length=ps.length)(r:Vals vs Y)
 (x:InCallC s s.heap.objs.size (bindL (envOfC qual scope s.heap.objs.size f cd).kindOf (ps.zip Y) λ_=>none) (cellsFrom (s.heap.objs.size+1) scope.names []) (bindC (envOfC qual scope s.heap.objs.size f cd).kindOf (ps.zip Y) λ_=>none) Z):
 Inv (ur CX P w K mg base N qual scope f cd A outer s H E) [] (start N vs) H Z:=by
 have ad:ps.length<=N.length:=by have:=aiO List.length S.pre;grind
 obtain⟨h1,tk,rfl,hk⟩:=x.done;have J:∀b ,b∉(ur CX P w K mg base N qual scope f cd A outer s H E).ex:=λb z=>absurd (show b∈[] from z) (by simp);refine⟨⟨B.mod,S.kind,rfl,rfl,ah4 _,λy z c h1 h2=>?_,λy hy=>?_,λy c _ h=>?_,λ_=>hd,Around.frames_deeper B.frames,.inr ⟨rfl,rfl⟩,λb z=>absurd z (J b),B.bs,B.bsz,λb _ _=>J b,λb z=>absurd z (J b),B.funs,B.frf⟩,
  rfl,B.bare,Un.kept hk,⟨_,x.toInCall.ns,λi y v h1 h2 h3=>?_⟩,λy c h=>⟨_,x.cell y c h⟩,B.hok.fresh (ah4 _),λy c h=>?_,λp L=>absurd (show p∈[] from L) (by simp),B.hok.kept hk,?_⟩
 .exact name_of_addr x.apart (ajF h1) (ajF h2)
 .rcases hy with hy|hy
  .exact xH hy
  .exact absurd rfl (S.nofree _ (ajF hy))
 .exact aiF (x.above y c (ajF h))
 .have hi:i<vs.length:=by
   unfold start at h2;by_cases hi:i<vs.length
   .exact hi
   .rw[aio (by simpa using hi),amH]at h2;simp_all
  have ha:vs[i]?=some v:=by
   unfold start at h2;rw[aik (by simpa using hi)]at h2;simp_all
  obtain⟨u,hu,rv⟩:=r.get ha;have L:ps[i]?=some y:=by
   rw[←S.pre,akk (by lia)];exact h1
  have O:ps.Nodup:=by rw[←S.pre];exact S.nd.sublist (List.take_sublist _ _)
  refine⟨u,rv,?_⟩;rcases S.par y (ah7 L) with k|k
  .exact .inl ⟨k,t5 O L hu k⟩
  .obtain⟨c,e⟩:=xH  k;refine .inr ⟨.inl k,c,e,?_⟩;have q:=x.cell y c e;rw[tQ O L hu (by show scope.names.lookup y≠_;rw[k];decide)]at q;exact q
 .exact B.hok.fresh (aiF (x.above y c (ajF h)))
 .unfold start;show _=N.length;grind
theorem ad4{CX P w K mg base k f name qual z L scope dV kV doc pm B ct oc an od ae N ps sp}(lk:K.lookup f=some ⟨oc,od,.func (fnOf name qual z L scope dV kV doc pm an B ct),ae⟩)(af:codeIn K B qual=true)(S:aA N ps scope)
 (len:∀vs H Q E,sp vs H Q E->vs.length=ps.length)
 (Y:∀A outer s H vs Q E,Room k (A.deeper (envOfC qual scope s.heap.objs.size f B))->sp vs H Q E →
  ∃t,PSs (ur CX P w K mg base N qual scope f B A outer s H E) L t/\t {nx:=λ_ H'=>Q .non H',rt:=Q} (start N vs) H):
 bx P w K mg base CX (k+1) f (fnOf name qual z L scope dV kV doc pm an B ct) ps sp:=by
 refine⟨len,λA outer s H ak us vs Q E hr e0 hb r ac=>?_⟩;have hl:=len _ _ _ _ ac;have KX:=e0.mod.kin.keeps λb o e=>(e0.bs b o e).1;have ag:=e0.mod.nolimit.keeps λb o e=>(e0.bs b o e).1;have Z:∀y∈ps.zip us,scope.names.lookup y.1=some _\/(scope.names.lookup y.1=some _/\((cellsFrom (s.heap.objs.size+1) _ []).lookup y.1).isSome=true):=λ⟨n,v⟩ hy=>by
  rcases S.par n (akE hy).1 with q|q
  .exact .inl q
  .exact .inr ⟨q,amZ _ _ _ (.inl q)⟩
 refine codeAny_call_function hr.depth (KX _ _ lk) rfl S.co S.gen rfl (PySem.W.codeRec_of KX af) (hb _ _ _ _ (wpAny_newFunctionEnv_cells S.kind Z λaw he s1 x=>?_));subst he;refine⟨ag.keeps x.toInCall.keep,codeAny_func ?_⟩;obtain⟨t,ht,hq⟩:=Y A _ s H vs Q E (hr.deeper _) ac;have I:Inv (ur CX P w K mg _ N _ _ f _ A _ s H E) [] _ H s1:=abF S hr.hd e0 hl r x;refine aiu (ht [] s1 _ H _ I hq) (λfl s' hs=>?_) λe s' hs=>hs;have ad:∀{O} {H' } {v} {u},Inv (ur CX P w K mg base N qual scope f B A outer s H E) [] O H' s'->RelV v u->Q v H'->CE _ P w H s Q u s':=
  fun {O H' v u} J rv q=>⟨v,H',J.os,J.bare,J.base,J.hok,rv,q⟩
 cases fl with
 |ret u=>
  obtain⟨v,O,H',J,rv,q⟩:=hs;exact ad J rv q
 |next=>
  obtain⟨O,H',J,q⟩:=hs;exact ad (v:=V.non)  J rfl q
 |brk=>
  obtain⟨_,_,_,q⟩:=hs;exact False.elim q
 |cont=>
  obtain⟨_,_,_,q⟩:=hs;exact False.elim q
section
variable {X:Cx}{x:Str}{p pos:Pos}{e:Expr}{es:List Expr}{t:TA}{id T:String}{r:List V->Hp->VK->Prop}
def tCB(r:List V->Hp->VK->Prop)(t:TA):TE:=λσ H Q=>t σ H λvs H1=>r vs H1 Q
theorem ay(J:gn X (.builtin id) r)(L:Gl X x)(O:X.mg x=none)(S:bootBuiltins x=some (.builtin id))(Y:PA X (e::es) t)(Z:x≠"__name__" := by decide)(z:(x == "__debug__")=false:=by decide)
 (he:starEach (e::es) X.env=(false,eval e X.env)::starEach es X.env:=by rfl)(B:(backTo pos (starEach es X.env)).any (·.1)=false:=by rfl):PE X (.Call (.Name x p) (e::es) [] pos) (tCB r t):=by
 intro pins s σ H Q I h;exact akB (kX I L O S (PyProof.Rows.callWith_builtin1 (thn (Y _ _ s σ H _ I h) λus s1 ⟨vs,H1,I1,r1,q1⟩=>J _ s1 σ H1 vs us Q I1 r1 q1) he B) Z z)
theorem eF(J:gn X (.type T) r)(L:Gl X x)(O:X.mg x=none)(S:bootBuiltins x=some (.type T))(Y:PA X (e::es) t)(Z:x≠"__name__" := by decide)(z:(x == "__debug__")=false:=by decide)
 (he:starEach (e::es) X.env=(false,eval e X.env)::starEach es X.env:=by rfl)(B:(backTo pos (starEach es X.env)).any (·.1)=false:=by rfl):PE X (.Call (.Name x p) (e::es) [] pos) (tCB r t):=by
 intro pins s σ H Q I h;exact akB (kX I L O S (aja (thn (Y _ _ s σ H _ I h) λus s1 ⟨vs,H1,I1,r1,q1⟩=>J _ s1 σ H1 vs us Q I1 r1 q1) he B) Z z)
end
end L2
namespace HT
open PySem PyProof.Rows
section
open PySem.SeqAt
open PySem.AutoSeq1 (wpAny_loadPart')
open PySem.MeetsSeq PySem.MeetsSeq2 PySem.MeetsSeq3
end
section
variable {prog:Program}{w:World}{A:Around}{E:Value->Shared->Prop}{s:Shared}
def sIx(n d:Nat):Option Int->Nat
 |none=>d
 |some v=>if v<0 then (v+(n:Int)).toNat else min v.toNat n
end
end HT
namespace L2
open PySem PySem.Spec PyProof.Rows
abbrev TO:=St->Hp->(Option Int->Hp->Prop)->Prop
def PO(X:Cx)(e:Option Expr)(t:TO):Prop:=
 ∀(pins:List (Addr×Obj)) (s:Shared) (σ:St) (H:Hp) (Q:Option Int->Hp->Prop),Inv X pins σ H s->t σ H Q →
  wpAny (model X.prog X.w) X.A (evalPart e X.env) (λu s'=>∃o H',Inv X pins σ H' s'/\IsPart u o/\Q o H') X.xe s
def abw:TO:=λ_ H Q=>Q none H
def afZ(t:TE):TO:=λσ H Q=>t σ H λx H1=>∃i,x=.int i/\Q (some i) H1
section
variable {X:Cx}{e:Expr}{te:TE}{lo hi:Option Expr}{tl th:TO}{pos p2:Pos}
theorem nZ:PO X none abw:=by
 intro pins s σ H Q I h;exact ah0 ⟨none,H,I,.none,h⟩
theorem ou(h:PE X e te):PO X (some e) (afZ te):=by
 intro pins s σ H Q I hw;refine thn (h _ s σ H _ I hw) λu L ⟨x,H1,z,B,J⟩=>?_;obtain⟨i,rfl,q⟩:=J;obtain⟨t,rfl⟩:=B;exact⟨some i,H1,z,.int i t,q⟩
def SlR(X:Cx)(r:V->Option Int->Option Int->Hp->VK->Prop):Prop:=
 ∀(pins:List (Addr×Obj)) (s:Shared) (σ:St) (H:Hp) (x:V) (v vl vu:Value) (lo hi:Option Int) (sl:Addr) (Q:VK),Inv X pins σ H s->RelV x v->s.heap.IsSliceOf sl vl vu .none->IsPart vl lo->IsPart vu hi->r x lo hi H Q →
  ∃T id,typeLookup (.type T) "__getitem__" = pure (some (.builtin id))/\s.TypeIs v T/\wpAny (model X.prog X.w) X.A (getItem v (.ref sl)) (EP X pins σ Q) X.xe s
def tSl(r:V->Option Int->Option Int->Hp->VK->Prop)(te:TE)(tl th:TO):TE:=λσ H Q=>te σ H λx H1=>tl σ H1 λl H2=>th σ H2 λu H3=>r x l u H3 Q
theorem kG{r}(hr:SlR X r)(O:PE X e te)(S:PO X lo tl)(Y:PO X hi th):PE X (.Subscript e (.Slice lo hi none p2) pos) (tSl r te tl th):=by
 intro pins s σ H Q I h;refine Subscript_ (thn (O _ s σ H _ I h) λv Z ⟨x,H1,I1,r1,q1⟩=>wpAny_Slice (thn (S _ Z σ H1 _ I1 q1) λz s2 ⟨l,H2,I2,pl,q2⟩=>thn (Y _ s2 σ H2 _ I2 q2) λB J ⟨u,L,I3,pu,q3⟩=>ah0 ?_));have I4:Inv X _ σ L {J with heap:=J.heap.push {cls:=.type "slice",data:=.fields #[z,B,.none] }}:=I3.kept  λb ob=>ahX _;obtain⟨T,id,hT,ht,hg⟩:=hr _ _ σ L x v z B l u _ Q I4 r1 (Heap.IsSliceOf.new ..) pl pu q3;exact tail_any  ht hT hg (rfl)
def ad8(xs:List V)(lo hi:Option Int):List V:=(xs.drop (HT.sIx xs.length 0 lo)).take (HT.sIx xs.length xs.length hi-HT.sIx xs.length 0 lo)
theorem wX xs lo hi:(ad8 xs lo hi).length<=xs.length:=by
 unfold ad8;rw[aif,ajS];lia
end
def ixN(n:Nat)(i:Int):Option Nat:=if 0<=i then (if i<n then some i.toNat else none) else if -(n:Int)<=i then some (i+n).toNat else none
def atI{α:Type}(xs:List α)(i:Int):Option α:=(ixN xs.length i).bind λj=>xs[j]?
theorem zB{n i j}(h:ixN n i=some j):seqIndex? i n=some j/\j<n/\-n<=i/\i<n:=by
 unfold ixN at h;by_cases z:0<=i
 .rw[if_pos z]at h;by_cases h1:i<n
  .rw[if_pos h1]at h;have e:=ai0 h;exact⟨by rw[seqIndex_of z h1,e],by lia,by lia,h1⟩
  simp_all
 .rw[if_neg z]at h;by_cases h1:-n<=i
  .rw[if_pos h1]at h;have e:=ai0 h;exact⟨by rw[seqIndex_neg (by lia) h1,e],by lia,h1,by lia⟩
  simp_all
theorem vm{α xs i}{v:α}(h:atI xs i=some v):∃j,seqIndex? i xs.length=some j/\xs[j]?=some v/\j<xs.length/\-xs.length<=i/\i<xs.length:=by
 unfold atI at h;cases e:ixN xs.length i with
 |none=>simp_all
 |some j=>
  rw[e]at h;obtain⟨h1,h2,z,B⟩:=zB e;exact⟨j,h1,h,h2,z,B⟩
theorem ir{α xs}{j:Nat}{v:α}(h:xs[j]?=some v):atI xs j=some v:=by
 have z:=(ahW.mp h).1;have e:ixN xs.length j=some j:=by
  unfold ixN;simp_all
 unfold atI;rw[e];exact h
theorem acM{α} xs (v:α):atI (xs++[v]) (-1)=some v:=by
 have z:(xs++[v]).length=xs.length+1:=by simp
 have e:ixN (xs++[v]).length (-1)=some xs.length:=by
  unfold ixN;rw[z,if_neg (by decide),if_pos (by lia)];congr 1;lia
 unfold atI;simp_all
def ae8(b:Expr):Prop:=∀o i,subscripted b false o i=operate [o,i] (getItem o i)
def IxR(X:Cx)(r:R2):Prop:=
 ∀(value slice:Expr) (pins:List (Addr×Obj)) (s:Shared) (σ:St) (H:Hp) (x y:V) (v u:Value) (Q:VK),Inv X pins σ H s->RelV x v->RelV y u->r x y H Q →
  subscripted slice false v u=operate [v,u] (getItem v u)->wpAny (model X.prog X.w) X.A (subscriptTail value slice v u) (EP X pins σ Q) X.xe s
def MtR(X:Cx)(id:String)(r:V->List V->Hp->VK->Prop):Prop:=
 ∀(pins:List (Addr×Obj)) (s:Shared) (σ:St) (H:Hp) (x:V) (xs:List V) (v:Value) (us:List Value) (Q:VK),Inv X pins σ H s->RelV x v->Vals xs us->r x xs H Q →
  wpAny (model X.prog X.w) X.A (call (.builtin id) (v::us)) (EP X pins σ Q) X.xe s
section
variable {X:Cx}{a b:Expr}{ta tb:TE}{pos:Pos}
theorem bY{r}(hr:IxR X r)(z:PE X a ta)(B:PE X b tb)(J:ae8 b):PE X (.Subscript a b pos) (tOp r ta tb):=by
 intro pins s σ H Q I h;exact Subscript_ (agH z B I h λv u L x y H2 O S Y q=>hr a b _ L σ H2 x y v u Q O S Y q (J _ _))
def zo(K:PySem.W.Frag):R2:=λx y H Q=>∃p xs i v,x=.ref p/\y=.int i/\SqL K H p xs/\atI xs i=some v/\Q v H
def ahg(K:PySem.W.Frag):R2:=λx y H Q=>∃p xs i v,x=.ref p/\y=.int i/\SqT K H p xs/\atI xs i=some v/\Q v H
def ahP:R2:=λx y H Q=>∃z i c,x=.str z/\y=.int i/\z.length<=sizeLine/\atI z.cps.toList i=some c/\Q (.str ⟨#[c]⟩) H
theorem cf:IxR X (zo X.K):=by
 intro value J pins s σ H x y v u Q I rx ry h Y;obtain⟨p,xs,i,z,rfl,rfl,hq,he,q⟩:=h;cases rx;obtain⟨t,rfl⟩:=ry;obtain⟨its,r,L,hz⟩:=I.list hq;obtain⟨j,h1,h2,h3,h4,h5⟩:=vm he;obtain⟨w,Z,O⟩:=r.get h2;have hl:=r.length;have hn:=m4;have B:EP X _ σ Q w s:=⟨z,H,I,O,q⟩;by_cases h0:0<=i
 .have S:=by
   rw[seqIndex_of h0 h5]at h1;exact ai0 h1
  exact item_listR L.isList h0 (by lia) (by rw[S];simpa using Z) B Y
 .have S:(i+its.toArray.size).toNat=j:=by
   rw[seqIndex_neg (by lia) h4]at h1;simp_all
  exact subscriptTail_builtinR  L.isList.typeIs amu.lookup
   (wpAny_getItem_list_neg  L.isList (by lia) (by simp_all) (by lia) (by rw[S];simpa using Z) ⟨rfl,B⟩) Y
theorem iM:IxR X (ahg X.K):=by
 intro value B pins s σ H x y v u Q I S Y h Z;obtain⟨p,xs,i,z,rfl,rfl,hq,he,q⟩:=h;cases S;obtain⟨t,rfl⟩:=Y;obtain⟨its,r,O,hz⟩:=I.tuple hq;obtain⟨j,h1,h2,h3,h4,h5⟩:=vm he;obtain⟨w,ew,J⟩:=r.get h2;have hl:=r.length;have hn:=m4;have L:EP X _ σ Q w s:=⟨z,H,I,J,q⟩;exact subscriptTail_builtinR  O.typeIs slot_tuple_getitem.lookup
  (getItem_tuple (j:=j)  O (by lia) (by lia) (by simp_all) (by simpa using ew) ⟨rfl,L⟩) Z
theorem uZ:IxR X ahP:=by
 intro value B pins s σ H x y v u Q I J L h O;obtain⟨z,i,c,rfl,rfl,hz,S,q⟩:=h;obtain⟨t,rfl⟩:=J;obtain⟨t',rfl⟩:=L;obtain⟨j,h1,h2,h3,Y,Z⟩:=vm S;have hl:z.cps.toList.length=z.length:=rfl;rw[hl]at h1 Y Z;have hn:=m4;exact tail_any (typeIs_str s z t) slot_str_getitem.lookup (getItem_str  (by
  grind) (by rw[h1];simpa using h2) ⟨.str _,H,I.tok _,⟨_,rfl⟩,q⟩) O
theorem yI(its:List _) n j u:Obj.mapSeq (·.setIfInBounds j u) {cls:=.type "list",data:=.seq its.toArray n}={cls:=.type "list",data:=.seq (its.set j u).toArray n}:=by
 simp[Obj.mapSeq]
theorem Inv.lst{pins}{σ:St}{H s p xs}(I:Inv X pins σ H s)(h:H p=some (.lst xs)):
 ∃its n,Vals xs its/\s.heap.get? p=some {cls:=.type "list",data:=.seq its.toArray n}/\xs.length<=sizeLine:=by
 obtain⟨z,its,n,r,e⟩:=I.hok p _ h;exact⟨its,n,r,e,z⟩
theorem Inv.lstUpd{pins}{σ:St}{H s p xs ys}{its z:List _}{n B f}(I:Inv X pins σ H s)(h:H p=some (.lst xs))
 (L:s.heap.get? p=some {cls:=.type "list",data:=.seq its.toArray n})(J:f {cls:=.type "list",data:=.seq its.toArray n}={cls:=.type "list",data:=.seq z.toArray B})(r:Vals ys z)(O:ys.length<=sizeLine) t:
 Inv X pins σ (upd H p (.lst ys)) {s with heap:=s.heap.update p f,toks:=t}:=by
 have e:(s.heap.update p f).get? p=some {cls:=.type "list",data:=.seq z.toArray B}:=by
  rw[ajO f L (by rw[J]<;>rfl),J]
 refine I.write   (by rw[h];trivial) (.inl rfl) (λb u S=>(ajE _ _ (ai2 S)).trans) ⟨_,e⟩ ?_;exact⟨O,z,B,r,e⟩
def ag6:V->V->V->Hp->(Hp->Prop)->Prop:=λo i v H Q=>∃p xs k j,o=.ref p/\i=.int k/\H p=some (.lst xs)/\ixN xs.length k=some j/\Q (upd H p (.lst (xs.set j v)))
theorem rK:ahc X ag6:=by
 intro pins s σ H o i v ov iv u Q I S Y Z h;obtain⟨p,xs,k,j,rfl,rfl,J,hj,q⟩:=h;cases S;obtain⟨t,rfl⟩:=Y;obtain⟨its,n,r,z,hz⟩:=I.lst J;obtain⟨h1,h2,h3,h4⟩:=zB hj;have hl:=r.length;have hn:=m4;have L  :=
  I.lstUpd J z (yI _ n j u) (r.set Z j) (by simp_all) s.toks
 by_cases O:0<=k
 .have B:=by
   rw[seqIndex_of O h4]at h1;exact ai0 h1
  exact PySem.W.ki_setAt z O (by lia) (by simp_all) (by rw[B];exact⟨_,L,q⟩)
 .have B:(k+its.toArray.size).toNat=j:=by
   rw[seqIndex_neg (by lia) h3]at h1;simp_all
  exact PySem.W.ki_setBack z (by lia) (by simp_all) (by lia) (by rw[B];exact⟨_,L,q⟩)
theorem sJ lo hi n:(sliceBounds lo hi none n).1=HT.sIx n 0 lo/\(sliceBounds lo hi none n).2.1=HT.sIx n n hi/\(sliceBounds lo hi none n).2.2=1:=by
 refine⟨?_,?_,rfl⟩
 .cases lo with
  |none=>simp[sliceBounds,HT.sIx]
  |some i=>
   simp only[sliceBounds,HT.sIx,Option.getD_none,show (1:Int)>0 by decide,anE];by_cases h:i<0
   .simp only[h,anE]<;>lia
   .simp only[h,ak4]<;>lia
 .cases hi with
  |none=>simp[sliceBounds,HT.sIx]
  |some i=>
   simp only[sliceBounds,HT.sIx,Option.getD_none,show (1:Int)>0 by decide,anE];by_cases h:i<0
   .simp only[h,anE]<;>lia
   .simp only[h,ak4]<;>lia
theorem sy(its:List _) lo hi:slicePick its.toArray lo hi none=((its.drop (HT.sIx its.length 0 lo)).take (HT.sIx its.length its.length hi-HT.sIx its.length 0 lo)).toArray:=by
 obtain⟨h1,h2,z⟩:=sJ lo hi _;unfold slicePick;rw[h1,h2,z];simp only[sliceRange_one,pick_run]<;>rfl
def ahh(K:PySem.W.Frag):V->Option Int->Option Int->Hp->VK->Prop:=λx lo hi H Q=>∃a xs,x=.ref a/\SqL K H a xs/\∀p,H p=none->Q (.ref p) (upd H p (.lst (ad8 xs lo hi)))
theorem aaR:SlR X (ahh X.K):=by
 intro pins s σ H x v vl vu lo hi sl Q I J L O S h;obtain⟨a,xs,rfl,Y,q⟩:=h;cases J;obtain⟨its,r,B,Z⟩:=I.list Y;have z:=r.length;refine⟨"list",_,amu.lookup,B.isList.typeIs,wpAny_getItem_list_slice B.isList L O S .none (by simp) ?_ (by grind)⟩;rw[sy,←z];refine⟨.ref _,_,I.laid   (λb ob=>ahX _) (ah4 _) ?_,rfl,q _ (I.hok.fresh (ah4 _))⟩;exact⟨aij (wX xs lo hi) Z,_,0,(r.drop _).take _,aib _ rfl⟩
def p5:V->Bool
 |.non=>true
 |.bl _=>true
 |.int _=>true
 |.str _=>true
 |_=>false
def eqV:V->V->Bool
 |.non,.non=>true
 |.bl a,.bl b=>a==b
 |.bl a,.int b=>(if a then 1 else 0)==b
 |.int a,.bl b=>a==(if b then 1 else 0)
 |.int a,.int b=>a==b
 |.str a,.str b=>a==b
 |_,_=>false
theorem afq{A:Around}{s:Shared}{y x:V}{u v:Value}(J:RelV y u)(z:RelV x v)(O:p5 y=true)(L:p5 x=true):SeqAt.EqAt A s u v (eqV y x):=by
 cases y with
 |non=>
  cases J;cases x with
  |non=>cases z;exact SeqAt.EqAt.same _
  |bl b=>cases z;exact SeqAt.EqAt.none_bool b
  |int b=>obtain⟨t,rfl⟩:=z;exact SeqAt.EqAt.none_int b t
  |str b=>obtain⟨t,rfl⟩:=z;exact SeqAt.EqAt.none_str b t
  |_=>exact absurd (show false=true from L) aie
 |bl a=>
  cases J;cases x with
  |non=>cases z;exact SeqAt.EqAt.bool_none a
  |bl b=>cases z;exact SeqAt.EqAt.bool_bool a b
  |int b=>obtain⟨t,rfl⟩:=z;exact SeqAt.EqAt.bool_int a b t
  |str b=>obtain⟨t,rfl⟩:=z;exact SeqAt.EqAt.bool_str a b t
  |_=>exact absurd (show false=true from L) aie
 |int a=>
  obtain⟨B,rfl⟩:=J;cases x with
  |non=>cases z;exact SeqAt.EqAt.int_none a B
  |bl b=>cases z;exact SeqAt.EqAt.int_bool a B b
  |int b=>obtain⟨t,rfl⟩:=z;exact SeqAt.EqAt.int_int a B b t
  |str b=>obtain⟨t,rfl⟩:=z;exact SeqAt.EqAt.int_str a B b t
  |_=>exact absurd (show false=true from L) aie
 |str a=>
  obtain⟨B,rfl⟩:=J;cases x with
  |non=>cases z;exact SeqAt.EqAt.str_none a B
  |bl b=>cases z;exact SeqAt.EqAt.str_bool a B b
  |int b=>obtain⟨t,rfl⟩:=z;exact SeqAt.EqAt.str_int a B b t
  |str b=>obtain⟨t,rfl⟩:=z;exact SeqAt.EqAt.str_str a B b t
  |_=>exact absurd (show false=true from L) aie
 |_=>exact absurd (show false=true from O) aie
def eqU(x:V)(u:Value):Bool:=match u with
 |.none=>eqV .non x
 |.bool b=>eqV (.bl b) x
 |.int i _=>eqV (.int i) x
 |.str z _=>eqV (.str z) x
 |_=>false
theorem ady{x y u}(r:RelV y u)(f:p5 y=true):eqU x u=eqV y x:=by
 cases y with
 |non=>cases r;rfl
 |bl b=>cases r;rfl
 |int i=>obtain⟨t,rfl⟩:=r;rfl
 |str z=>obtain⟨t,rfl⟩:=r;rfl
 |_=>exact absurd (f) aie
theorem vz{x}:∀{xs} {z},Vals xs z->xs.all p5=true->z.any (eqU x)=xs.any λy=>eqV y x
 |_,_,.nil,_=>rfl
 |y::xs,u::z,.cons r t,f=>by
  rw[alO,aiK]at f;rw[alP,alP,ady r f.1,vz t f.2]
theorem rP{A s x v}(B:RelV x v)(J:p5 x=true):∀{xs} {z},Vals xs z->xs.all p5=true->∀u∈z,SeqAt.EqAt A s u v (eqU x u)
 |_,_,.nil,_=>λu hu=>by cases hu
 |y::xs,u::z,.cons r t,f=>λL hu=>by
  rw[alO,aiK]at f;rcases ain.mp hu with rfl|hu
  .rw[ady r f.1];exact afq r B f.1 J
  .exact rP B J t f.2 L hu
def inV(x:V)(xs:List V):Bool:=xs.any λy=>eqV y x
def rIn(K:PySem.W.Frag)(neg:Bool):R2:=λx y H Q=>∃p xs,y=.ref p/\(SqL K H p xs\/SqT K H p xs)/\p5 x=true/\xs.all p5=true/\Q (.bl (if neg then !inV x xs else inV x xs)) H
theorem uP:OpR X (compareOp .In) (rIn X.K false):=by
 intro pins s σ H x y v u Q I B L h;obtain⟨p,xs,rfl,hq,J,fs,q⟩:=h;cases L;rcases hq with hq|hq
 .obtain⟨its,r,z,O⟩:=I.list hq;refine SeqAt.in_listAt _ z.isList (λw hw=>rP B J r fs w (by simpa using hw)) ⟨.bl _,H,I,rfl,?_⟩;rw[show its.toArray.any _=its.any (eqU x) by simp,vz r fs];exact q
 .obtain⟨its,r,z,O⟩:=I.tuple hq;refine SeqAt.in_tupleAt _ z (λw hw=>rP B J r fs w (by simpa using hw)) ⟨.bl _,H,I,rfl,?_⟩;rw[show its.toArray.any (eqU x)=its.any (eqU x) by simp,vz r fs];exact q
theorem bE:gn X (.builtin "len") (λxs H Q=>∃p ys,xs=[.ref p]/\(SqL X.K H p ys\/SqT X.K H p ys)/\Q (.int ys.length) H):=by
 intro pins s σ H xs S Q I r h;obtain⟨p,ys,rfl,hq,q⟩:=h;obtain⟨u,rfl,L⟩:=jK r;cases L;have Y:=m4;rcases hq with hq|hq
 .obtain⟨its,B,J,O⟩:=I.list hq;have z:=B.length;exact Calls.call_len_list J.isList (by simp only[aiQ]<;>lia) ⟨.int _,H,I.tok _,⟨s.toks+1,by rw[aiQ,z]⟩,q⟩
 .obtain⟨its,B,J,O⟩:=I.tuple hq;have z:=B.length;exact len_tuple J (by simp only[aiQ]<;>lia) ⟨.int ys.length,H,I.tok _,⟨s.toks+1,by rw[aiQ,z]⟩,q⟩
theorem mE:gn X (.builtin "len") (λxs H Q=>∃z,xs=[.str z]/\z.length<=sizeLine/\Q (.int z.length) H):=by
 intro pins s σ H xs B Q I r h;obtain⟨z,rfl,J,q⟩:=h;obtain⟨u,rfl,t,rfl⟩:=jK r;have L:=m4;exact len_str (by lia) ⟨.int _,H,I.tok _,⟨_,rfl⟩,q⟩
theorem gB:gn X (.type "list") (λxs H Q=>∃p ys,xs=[.ref p]/\(SqL X.K H p ys\/SqT X.K H p ys)/\∀l,H l=none->Q (.ref l) (upd H l (.lst ys))):=by
 intro pins s σ H xs us Q I r h;obtain⟨p,ys,rfl,hq,q⟩:=h;obtain⟨u,rfl,rx⟩:=jK r;cases rx;have B:∀its,Vals ys _->ys.length<=sizeLine->∀(h':Heap) c',(∀b o',s.heap.get? b=some o'->h'.get? b=some o') →
  h'.get? _=some _->EP X _ σ Q _ _:=λits z J h' c' kp e=>
  ⟨.ref _,_,I.laid (t':=s.toks) kp (ah4 _) (show ObjOk _ _ _ h' _ (.lst ys) from ⟨J,its,c',z,e⟩),rfl,q _ (I.hok.fresh (ah4 _))⟩
 rcases hq with hq|hq
 .obtain⟨its,z,O,J⟩:=I.list hq;have L:=z.length;obtain⟨o,S,Y,n,Z⟩:=O.isList;exact call_list_seq p (.inl rfl) S Y Z (B _ z J) (by simp_all)
 .obtain⟨its,z,O,J⟩:=I.tuple hq;have L:=z.length;obtain⟨o,S,Y,n,Z⟩:=O;exact call_list_seq p (.inr rfl) S Y Z (B _ z J) (by simp_all)
def tyV(K:PySem.W.Frag)(T:String)(x:V)(H:Hp):Prop:=match x with
 |.str _=>T = "str"
 |.int _=>T = "int"
 |.ref p=>(T = "list" ∧ ∃xs,SqL K H p xs)\/(T = "tuple" ∧ ∃o,K.lookup p=some o/\o.cls=.type "tuple" ∧ o.dict=none) ∨
  (T = "dict" ∧ ((∃kvs,H p=some (.dK kvs))\/∃kvs,H p=some (.dT kvs)))\/(T = "set" ∧ ∃S n,H p=some (.set S n))
 |_=>False
theorem aai{pins}{σ:St}{H s T x v}(I:Inv X pins σ H s)(r:RelV x v)(ty:tyV X.K T x H):
 s.TypeIs v T/\∀a,v=.ref a->∃O,s.heap.get? a=some O/\O.dict=none:=by
 cases x with
 |str z=>
  obtain⟨t,rfl⟩:=r;cases (ty);exact⟨typeIs_str s z t,by grind⟩
 |int i=>
  obtain⟨t,rfl⟩:=r;cases (ty);exact⟨typeIs_int s i t,by grind⟩
 |ref p=>
  cases r;rcases ty with ⟨rfl,xs,Z⟩|⟨rfl,o,B,hc,J⟩|⟨rfl,B⟩|⟨rfl,S,n,B⟩
  .obtain⟨its,_,Y,_⟩:=I.list Z;refine⟨Y.isList.typeIs,λa e=>?_⟩;cases e;obtain⟨o,n,e,c,J,_⟩:=Y;exact⟨o,e,J⟩
  .refine⟨⟨o,I.kIn p o B,hc⟩,λa e=>?_⟩;cases e;exact⟨o,I.kIn _ o B,J⟩
  .have z:∃o,s.heap.get? p=some o/\o.ExactDict:=by
    rcases B with ⟨kvs,B⟩|⟨kvs,B⟩
    .obtain⟨_,_,_,_,o,_,_,e,ex,_⟩:=I.hok p _ B;exact⟨o,e,ex⟩
    .obtain⟨_,_,_,_,o,_,_,e,ex,_⟩:=I.hok p _ B;exact⟨o,e,ex⟩
   obtain⟨o,e,ex⟩:=z;refine⟨⟨o,e,ex.1⟩,λa L=>?_⟩;cases L;exact⟨o,e,ex.2.1⟩
  .obtain⟨o,_,_,_,e,ex,_⟩:=I.hok p _ B;refine⟨⟨o,e,ex.1⟩,λa L=>?_⟩;cases L;exact⟨o,e,ex.2.1⟩
 |_=>exact False.elim ty
def ahB(K:PySem.W.Frag)(T:String)(r:V->List V->Hp->VK->Prop)(to:TE):TE:=λσ H Q=>to σ H λx H1=>tyV K T x H1/\r x [] H1 Q
def tBM(K:PySem.W.Frag)(T:String)(r:V->List V->Hp->VK->Prop)(to:TE)(t:TA):TE:=λσ H Q=>to σ H λx H1=>tyV K T x H1/\t σ H1 λxs H2=>r x xs H2 Q
variable {o e:Expr}{es:List Expr}{to:TE}{t:TA}{name:Str}{apos cpos:Pos}{T id:String}{r:V->List V->Hp->VK->Prop}
theorem afI(Y:PlainAttrs T)(J:Slot T name id)(L:typeOf (.builtin id)=pure (.type "method_descriptor"))(Z:MtR X id r)(ho:PE X o to)
 (z:attributeBase o name X.env (eval o X.env)=eval o X.env:=by rfl)(B:(apos.endLine==cpos.line)=true:=by rfl):PE X (.Call (.Attribute o name apos) [] [] cpos) (ahB X.K T r to):=by
 intro pins s σ H Q I h;refine wpAny_Call_method0_late z B (thn (ho _ s σ H _ I h) λv s1 ⟨x,H1,O,S,ty,q1⟩=>?_);obtain⟨h1,h2⟩:=aai O S ty;exact⟨T,id,Y,J,L,h1,h2,alk rfl (PySem.evalArgs_none (Z _ s1 σ H1 x [] v [] Q O S .nil q1))⟩
theorem kO(pa:PlainAttrs T)(L:Slot T name id)(S:typeOf (.builtin id)=pure (.type "method_descriptor"))(hm:MtR X id r)(ho:PE X o to)(ha:PA X (e::es) t)
 (B:attributeBase o name X.env (eval o X.env)=eval o X.env:=by rfl)
 (O:((backTo cpos (starEach (e::es) X.env)).all (λx=>!x.1)&&(backToKw cpos (keywordEach [] X.env)).all (λx=>x.1.isSome)
 &&decide ((e::es).length+([]:List Keyword).length+(if ([]:List Keyword).isEmpty then 0 else 1)<30))=true:=by rfl)
 (J:(apos.endLine==cpos.line)=true:=by rfl)(hs:starEach (e::es) X.env=(false,eval e X.env)::starEach es X.env:=by rfl)(z:(backTo cpos (starEach es X.env)).any (·.1)=false:=by rfl):
 PE X (.Call (.Attribute o name apos) (e::es) [] cpos) (tBM X.K T r to t):=by
 intro pins s σ H Q I h;refine wpAny_Call_method_late B O J rfl (thn (ho _ s σ H _ I h) λv s1 ⟨x,H1,Y,Z,ty,q1⟩=>?_);obtain⟨h1,h2⟩:=aai Y Z ty;refine⟨T,id,pa,L,S,h1,h2,?_⟩;have hA:=ha cpos _ s1 σ H1 _ Y q1;rw[hs]at hA⊢;exact alk (by show (false||(backTo _ _).any _)=false;rw[z]<;>rfl) (Calls.evalArgs_plain (thn hA λus s2 ⟨vs,H2,I2,r2,q2⟩=>hm _ s2 σ H2 x vs v us Q I2 Z r2 q2))
end
def MtM(X:Cx)(id:String)(r:V->List V->Hp->VK->Prop):Prop:=
 ∀(pins:List (Addr×Obj)) (s:Shared) (σ:St) (H:Hp) (x:V) (xs:List V) (v:Value) (us:List Value) (Q:VK),Inv X pins σ H s->RelV x v->Vals xs us->r x xs H Q →
  wpAny (model X.prog X.w) X.A (call (.builtin id) (v::us)) (EP X pins σ Q) X.xe s
theorem Vals.one:∀{x} {z},Vals [x] z->∃u,z=[u]/\RelV x u
 |_,_,.cons r .nil=>⟨_,rfl,r⟩
theorem Vals.two:∀{x y} {z},Vals [x,y] z->∃u v,z=[u,v]/\RelV x u/\RelV y v
 |_,_,_,.cons r (.cons q .nil)=>⟨_,_,rfl,r,q⟩
section
variable {X:Cx}{pins:List (Addr×Obj)}{σ:St}{H:Hp}{s:Shared}{l b:Addr}{xs ys zs:List V}
theorem Inv.lset{its z:List _}{n f t' }(I:Inv X pins σ H s)(B:H l=some (.lst xs))
 (e:s.heap.get? l=some {cls:=.type "list",data:=.seq its.toArray n})(J:f its.toArray=z.toArray)(L:Vals ys z)(O:ys.length<=sizeLine):
 Inv X pins σ (upd H l (.lst ys)) {s with heap:=s.heap.update l (Obj.mapSeq f),toks:=t' }:=by
 have q:=PySem.IsL.update e f;rw[J]at q;refine I.write   (by rw[B];exact trivial) (.inl rfl) (λY u S=>(ajE _ _ (ai2 S)).trans) ⟨_,q⟩ ?_;exact⟨O,z,_,L,q⟩
theorem Inv.lnew{its t'}(I:Inv X pins σ H s)(z:Vals ys its)(B:ys.length<=sizeLine):
 Inv X pins σ (upd H s.heap.objs.size (.lst ys)) {s with heap:=s.heap.push {cls:=.type "list",data:=.seq its.toArray},toks:=t' }:=
 I.laid (λ_ _=>ahX _) (ah4 _) ⟨B,its,0,z,aib _ rfl⟩
theorem Inv.fresh(I:Inv X pins σ H s):H s.heap.objs.size=none:=I.hok.fresh (ah4 _)
theorem Inv.lstM(I:Inv X pins σ H s)(B:H l=some (.lst xs)):xs.length<=sizeLine/\∃its n,Vals xs its/\xs.length=its.length/\s.heap.get? l=some {cls:=.type "list",data:=.seq its.toArray n}:=by
 obtain⟨z,its,n,r,e⟩:=I.hok l _ B;exact⟨z,its,n,r,r.length,e⟩
theorem ab4{n}(h:n<=sizeLine):Builtin.List.listTooLong n=false:=by
 unfold Builtin.List.listTooLong;grind
end
section
variable {X:Cx}
def vO:V->List V->Hp->VK->Prop:=λx vs H Q=>∃l xs y,x=.ref l/\vs=[y]/\H l=some (.lst xs)/\xs.length<sizeLine/\Q .non (upd H l (.lst (xs++[y])))
theorem cV:MtM X "list.append" vO:=by
 intro pins s σ H x S v Y Q I J L h;obtain⟨l,xs,y,rfl,rfl,B,Z,q⟩:=h;cases J;obtain⟨u,rfl,O⟩:=L.one;obtain⟨z,its,n,r,hl,e⟩:=I.lstM B;refine call_meets F.slot_list_append ⟨_,e,rfl⟩ F.entry_list_append (F.args_list_append_2 _ _) (PySem.list_append l _ n u (by grind)) ⟨e,⟨.non,_,I.lset  B e (by simp) (r.append (.cons O .nil)) ?_,rfl,q⟩⟩;grind
def zV:V->List V->Hp->VK->Prop:=λx vs H Q=>∃l b xs zs,x=.ref l/\vs=[.ref b]/\H l=some (.lst xs)/\H b=some (.lst zs)/\xs.length+zs.length<=sizeLine/\Q .non (upd H l (.lst (xs++zs)))
theorem px:MtM X "list.extend" zV:=by
 intro pins s σ H x vs v us Q I S Y h;obtain⟨l,b,xs,zs,rfl,rfl,O,Z,hz,q⟩:=h;cases S;obtain⟨u,rfl,ru⟩:=Y.one;cases ru;obtain⟨z,its,n,r,hl,e⟩:=I.lstM O;obtain⟨z2,B,n2,r2,ad,e2⟩:=I.lstM Z;have L:its.toArray.size+B.toArray.size<=sizeLine:=by grind
 have J:¬ (!its.toArray.isEmpty&&Builtin.List.listTooLong (its.toArray.size+B.toArray.size))=true:=by
  rw[ab4 L,Bool.and_false];exact aie
 refine call_meets F.slot_list_extend ⟨_,e,rfl⟩ F.entry_list_extend (F.args_list_extend_2 _ _)
  (AutoSeq1.list_extend_list_list_0 l _ n b _ n2 J (by grind) (by lia)) ⟨e,e2,⟨.non,_,I.lset  O e (by simp) (r.append r2) ?_,rfl,q⟩⟩
 rw[ahZ];lia
def agS:R2:=λx y H Q=>∃l b xs zs,x=.ref l/\y=.ref b/\H l=some (.lst xs)/\H b=some (.lst zs)/\xs.length+zs.length<=sizeLine/\∀p,H p=none->Q (.ref p) (upd H p (.lst (xs++zs)))
theorem uD:OpR X (binaryOp .Add) agS:=by
 intro pins s σ H x y v u Q I J L h;obtain⟨l,b,xs,zs,rfl,rfl,O,S,hz,q⟩:=h;cases J;cases L;obtain⟨z,its,n,r,hl,e⟩:=I.lstM O;obtain⟨z2,B,n2,Y,Z,e2⟩:=I.lstM S;refine PySem.P.add_list e e2 ?_ (by simp_all);have ea:its.toArray++B.toArray=(its++B).toArray:=by simp
 rw[ea];exact⟨.ref _,_,I.lnew  (r.append Y) (by rw[ahZ];lia),rfl,q _ I.fresh⟩
end
end L2
namespace Att
open PySem PySem.W PySem.Calls PyProof.Rows
theorem oF{P h}:∀z vs,WellAll P h vs (z.map WData.int)->IntsAre vs z:=by
 intro z
 induction z with
 |nil=>
  intro vs w;cases w;exact .nil
 |cons n z B=>
  intro vs w;cases w with
  |cons a b=>
   cases a;exact .cons _ _ (B _ b)
theorem abB{l:OpenLaw}{n}(Z:l.most=some n){P h args vals}
 (z:l.row.toRowW.claim.pre args=true)(S:WellAll P h vals args):
 ∃a vs B,vals=[Value.ref a]/\args=[WData.list (B.map WData.int)]/\h.get? a=some {cls:=.type "list",data:=.seq vs.toArray}/\IntsAre vs B/\B.length<=n:=by
 have Y:=(pre_splitW z).1;have hc:=(pre_splitW z).2;obtain⟨d,r,rfl,h1,h2⟩:=hasAllW_cons Y;obtain rfl:=hasAllW_nil h2;obtain⟨xs,rfl,h3⟩:=hasW_list h1;obtain⟨B,rfl⟩:=items_int h3;have J:B.length<=n:=by
  have O:=by
   have O:=(holds_andW hc).1;rw[Z]at O;exact O
  have h5:=condW_of O (w_not (w_lt w_lit (w_len_list (w_arg rfl))));grind
 cases S with
 |cons w1 w2=>
  cases w2;cases w1 with
  |list ho L=>exact⟨_,_,B,rfl,rfl,ho,oF B _ L,J⟩
theorem aae(l:OpenLaw) args:l.row.toRowW.claim.post args (.bool true) args=true:=
 postW_of
  (by first|rfl|decide|grind)
  (w_eq_bool (w_res rfl) w_lit) rfl
theorem attach_call{l:OpenLaw}{n q B XP YP d}
 (hn:l.most=some n)(ab:d.params.defaults=[])
 (call:∀w s₀ z mg mb L o pm cd doc a vs ns,
  Ground q B [] XP w s₀ mg mb z.heap->YP w z.heap →
  z.heap.get? L=some o->o.data=.func (docDef d.name d.params d.body d.scope pm cd doc)->z.heap.CodeRec cd d.name->mg d.name=some (.ref L) →
  z.heap.get? a=some {cls:=.type "list",data:=.seq vs.toArray}->IntsAre vs ns->ns.length<=n->z.gens=#[] →
  codeAny (model l.prog w) callerA (.call (.ref L) ⟨[.ref a],[]⟩) (λr s'=>r=.ok (.ret (.bool true))/\OldK z.heap s'.heap/\s'.os=z.os/\AllBare s'.gens) z):
 WalkO q B XP YP l.row.toRowW d [] (λf vs=>PySem.call f vs):=by
 intro w s₀ z mg mb G Y L o pm cd doc dV kV ho hd ad hD ae hg aj vals as O ak aq af ar;obtain rfl:dV=.none:=Dflts.none hD ab;obtain rfl:kV=.none:=Dflts.noKw hD;obtain⟨a,vs,ns,rfl,rfl,S,J,Z⟩:=abB hn O af;refine enter_call (ajZ (call w _ _ mg mb L o pm cd _ a vs ns G Y ho (fd_plain hd) ad ae S J Z hg) λr s' hq=>?_);obtain⟨rfl,h2,h3,h4⟩:=hq;exact⟨.inl ⟨.bool _,.bool _,[],rfl,λ_=>rfl,.bool _,aae l _,λ_=>⟨List.Pairwise.nil,λ_ hm=>(nomatch hm)⟩⟩,h2,h3,h4⟩
end Att
namespace L2
open PySem PySem.Spec PyProof.Rows
theorem u5:∀{vs} {z},IntsAre vs z->Vals (z.map V.int) vs
 |_,_,.nil=>.nil
 |_,_,.cons n t h=>.cons ⟨t,rfl⟩ (u5 h)
def eO(s:Stmt):Arguments:=match s with
 |.FunctionDef _ a _ _ _ _ _ _ _ _=>a
 |_=>{posonlyargs:=[],args:=[],vararg:=none,kwonlyargs:=[],kw_defaults:=[],kwarg:=none,defaults:=[] }
def bq(s:Stmt):List Stmt:=match s with
 |.FunctionDef _ _ b _ _ _ _ _ _ _=>b
 |_=>[]
def ak(s:Stmt):Scope:=match s with
 |.FunctionDef _ _ _ _ _ _ sc _ _ _=>sc
 |_=>{kind:=.function,names:=[],isGenerator:=false,isCoroutine:=false}
abbrev CX0:CXT:=λ_ _ _ _ _ _=>False
abbrev E0:XK:=λ_ _ _=>False
theorem eJ{X}:qJ CX0 X E0:=λ_ _ _ _ _ _ _ h=>h.elim
structure Fun(K:PySem.W.Frag)(x qual:Str)(st:Stmt)(f:Addr)(fd:FuncData):Prop where
 ex:∃(oc:Value) (od:Option Addr) (kV doc pm:Value) (an:Option Addr) (cdv ct:Value) (osl:Array (Option Value)),
  fd=fnOf x qual (eO st) (bq st) (ak st) .none kV doc pm an cdv ct/\K.lookup f=some ⟨oc,od,.func fd,osl⟩/\codeIn K cdv qual=true
 kp:keepIn K (.ref f)=true
section
variable {P:Program}{w:World}{K:PySem.W.Frag}{mg:Str->Option Value}{base:Heap}
theorem Fun.ok{x qual st f fd N ps k sp}(F:Fun K x qual st f fd)(S:aA N ps (ak st))(len:∀vs H Q E,sp vs H Q E->vs.length=ps.length)
 (z:∀B A outer s H vs Q E,Room k (A.deeper (envOfC qual (ak st) s.heap.objs.size f B))->sp vs H Q E →
  ∃t,PSs (ur CX0 P w K mg base N qual (ak st) f B A outer s H E).nox (bq st) t/\t {nx:=λ_ H'=>Q .non H',rt:=Q} (start N vs) H):bx P w K mg base CX0 (k+1) f fd ps sp:=by
 obtain⟨oc,od,kV,O,pm,an,B,ct,Y,rfl,Z,J⟩:=F.ex;refine ad4 Z J S len λA outer s H vs Q E hr L=>?_;obtain⟨t,h,q⟩:=z _ A _ s H vs Q E hr L;exact⟨t,h.nox,q⟩
theorem Fun.binds{x qual st f fd ps}(F:Fun K x qual st f fd)
 (h:∀kV doc pm B z ct J,J.length=ps.length->bindArgs (fnOf x qual (eO st) (bq st) (ak st) .none kV doc pm B z ct) ⟨J,[]⟩=pure (ps.zip J)):Binds K fd ps []:=by
 obtain⟨S,Y,kV,doc,pm,B,z,ct,L,rfl,Z,O⟩:=F.ex;exact .all (h kV _ pm B _ ct)
theorem fun_mk{x qual st f L O J B kV doc pm z ct}(l:K.lookup f=some ⟨L,O,.func (fnOf x qual (eO st) (bq st) (ak st) .none kV doc pm J z ct),B⟩)
 (c:codeIn K z qual=true)(k:keepIn K (.ref f)=true):Fun K x qual st f (fnOf x qual (eO st) (bq st) (ak st) .none kV doc pm J z ct):=⟨⟨L,O,kV,doc,pm,J,z,ct,B,rfl,l,c⟩,k⟩
end
theorem gm{A k}(hr:Room k A):A.units+1<cLine:=aiA (ajn (by decide) _) hr.units
theorem aU{n}(h:n<=1000):n<sizeLine:=aiA h (by decide)
section
variable {X:Cx}
theorem pv i {x pos}(B:X.N[i]?=some x:=by rfl)(J:Vis X.env.scope x:=by first|exact Or.inl rfl|exact Or.inr (.inl rfl) | exact Or.inr (.inr rfl))(L:(x == "__debug__")=false:=by decide)
 (z:(x == "__classdict__")=false:=by decide):PE X (.Name x pos) (dq i):=adA B J L z
end
theorem iR{A B:Prop}(h:B):if false=true then A else B:=by
 grind
theorem mZ{A B:Prop}(h:A):if true=true then A else B:=by
 grind
theorem abX{c A B:Prop}[Decidable c](h1:c->A)(h2:¬ c->B):if c then A else B:=by
 grind
def Same(H H':Hp):Prop:=∀b o,H b=some o->H' b=some o
theorem Same.refl H:Same H H:=λ_ _ h=>h
theorem Same.trans{H H1 H2}(a:Same H H1)(b:Same H1 H2):Same H H2:=λc o h=>b c o (a c o h)
theorem Same.free{H H'}(e:Same H H'){l}(h:H' l=Option.none):H l=Option.none:=by
 cases q:H l with
 |none=>rfl
 |some o=>
  rw[e l o q]at h;cases h
theorem Same.seq{K H H' a xs}(e:Same H H')(h:SqL K H a xs):SqL K H' a xs:=by
 rcases h with (h|⟨o,h⟩) | h
 .exact .inl (.inl (e _ _ h))
 .exact .inl (.inr ⟨o,e _ _ h⟩)
 .exact .inr h
section
variable {κ:Type}[DecidableEq κ]
def cD(kvs:List (κ×V))(k:κ):Option V:=(kvs.find? λkv=>decide (kv.1=k)).map (·.2)
def eG(kvs:List (κ×V))(k:κ)(v:V):List (κ×V):=
 if (kvs.any λkv=>decide (kv.1=k))=true then kvs.map (λkv=>if kv.1=k then (kv.1,v) else kv) else kvs++[(k,v)]
theorem bW{p r}{k:κ}(e:p.1=k):cD (p::r) k=some p.2:=by simp[cD,e]
theorem bV{p r}{k:κ}(e:¬ p.1=k):cD (p::r) k=cD r k:=by simp[cD,e]
theorem iK(k:κ):∀kvs:_,(kvs.any λz=>decide (z.1=k))=(cD kvs k).isSome
 |[]=>rfl
 |p::r=>by
  rw[alP];by_cases e:p.1=k
  .simp only[bW e,aiv e,Bool.true_or,Option.isSome_some]
  .rw[bV e,aiC e];exact iK k r
theorem xD(k j:κ) y:∀kvs:_,cD (kvs.map λB=>if B.1=k then (B.1,y) else B) j=(cD kvs j).map λx=>if j=k then y else x
 |[]=>rfl
 |p::r=>by
  have J:=xD k j y r;rw[air];by_cases h:p.1=k
  .rw[if_pos h];by_cases e:p.1=j
   .rw[bW (p:=(p.1,y)) e,bW e,am5,if_pos (e.symm.trans h)]
   .rw[bV (p:=(p.1,y)) e,bV e,J]
  .rw[if_neg h];by_cases e:p.1=j
   .rw[bW  e,bW e,am5,if_neg (λz=>h (e.trans z))]
   .rw[bV  e,bV e,J]
theorem uM(k j:κ) y:∀kvs:_,cD kvs k=none->cD (kvs++[(k,y)]) j=if j=k then some y else cD kvs j
 |[],_=>by
  by_cases e:k=j
  .rw[if_pos e.symm];exact bW  e
  .rw[if_neg (λz=>e z.symm)];exact bV  e
 |p::r,hn=>by
  rw[List.cons_append];have B:¬ p.1=k:=λz=>by rw[bW z]at hn;cases hn
  rw[bV B]at hn;have J:=uM k j y r hn;by_cases e:p.1=j
  .rw[bW e,bW e,if_neg (λz=>B (e.trans z))]
  .rw[bV e,bV e,J]
theorem dm kvs (k j:κ) y:cD (eG kvs k y) j=if j=k then some y else cD kvs j:=by
 unfold eG;by_cases a:(kvs.any λz=>decide (z.1=k))=true
 .rw[if_pos a,xD];rw[iK]at a;by_cases e:j=k
  .obtain⟨x,B⟩:=amt.mp a;simp_all
  simp_all
 .rw[if_neg a];refine uM k j y _ ?_;rw[iK]at a;simp_all
theorem cg kvs (k:κ) v:(eG kvs k v).length<=kvs.length+1:=by
 unfold eG;split<;>simp_all
theorem jh{kvs}{k:κ} v (h:cD kvs k=none):eG kvs k v=kvs++[(k,v)]:=by
 unfold eG;rw[iK];simp_all
theorem RelO.isSome_eq{o u}(r:RelO o u):o.isSome=u.isSome:=by
 cases o with
 |none=>cases u with
  |none=>rfl
  |some _=>exact (r).elim
 |some _=>cases u with
  |none=>exact (r).elim
  |some _=>rfl
theorem KV.val{kvs vs}(r:KV kvs vs)(k:κ):RelO (cD kvs k) (valueAt vs k):=by
 induction r with
 |nil=>exact True.intro
 |@cons p q ps B h t L=>
  obtain⟨h1,h2⟩:=h;by_cases e:p.1=k
  .have J:=h1.symm.trans e;have b:valueAt (q::B) k=some q.2:=by simp[valueAt,J]
   rw[bW e,b];exact h2
  .have J:¬ q.1=k:=λz=>e (h1.trans z);have b:valueAt (q::B) k=valueAt B k:=by simp[valueAt,J]
   rw[bV e,b];exact L
theorem KV.any{kvs vs}(r:KV kvs vs)(k:κ):(kvs.any λz=>decide (z.1=k))=vs.any λz=>decide (z.1=k):=by
 induction r<;>simp_all
theorem KV.repl{kvs vs}(r:KV kvs vs)(k:κ){y u}(J:RelV y u):
 KV (kvs.map λz=>if z.1=k then (z.1,y) else z) (vs.map λz=>if z.1=k then (z.1,u) else z):=by
 induction r with
 |nil=>exact .nil
 |@cons p q ps L h t B=>
  refine .cons ?_ B;grind
theorem KV.put{kvs vs}(r:KV kvs vs)(k:κ){y u}(z:RelV y u):KV (eG kvs k y) (stored vs k u):=by
 unfold eG stored;rw[r.any k];by_cases e:(vs.any λB=>decide (B.1=k))=true
 .rw[if_pos e,if_pos e];exact r.repl k z
 .rw[if_neg e,if_neg e];exact Paired.snoc r ⟨rfl,z⟩
theorem KV.keys{kvs:List (κ×V)}{vs}(r:KV kvs vs):kvs.map (·.1)=vs.map (·.1):=by
 induction r<;>simp_all
theorem KV.length{kvs:List (κ×V)}{vs}(r:KV kvs vs):kvs.length=vs.length:=amG r
end
theorem qa{P w k u}(r:RelV (kV k) u):(bj P w).is k u=true:=by
 cases k with
 |inl i=>obtain⟨t,e⟩:=(r);subst e;exact vZ P w i t
 |inr x=>obtain⟨t,e⟩:=(r);subst e;exact oJ P w x t
theorem uQ{P w}:∀{ks} {z},Vals (ks.map kV) z->ItemsAre (bj P w) ks z
 |[],_,r=>by cases r;exact .nil
 |k::ks,_,r=>by
  cases r with
  |cons h t=>exact .cons (qa h) (uQ t)
abbrev KT(H:Hp):List (List Key×V)->List (List Key×Addr×Value)->Prop:=Paired λp q=>p.1=q.1/\H q.2.1=some (.tup (p.1.map kV))/\RelV p.2 q.2.2
theorem KT.val{H kvs xs}(r:KT H kvs xs) k:RelO (cD kvs k) ((atKey xs k).map (·.2)):=by
 induction r with
 |nil=>exact True.intro
 |@cons p q ps B h t L=>
  obtain⟨h1,_,h2⟩:=h;by_cases e:p.1=k
  .have J:=h1.symm.trans e;have b:atKey (q::B) k=some q.2:=by simp[atKey,J]
   rw[bW e,b];exact h2
  .have J:¬ q.1=k:=λz=>e (h1.trans z);have b:atKey (q::B) k=atKey B k:=by simp[atKey,J]
   rw[bV e,b];exact L
theorem KT.repl{H kvs xs}(r:KT H kvs xs) k {y u}(J:RelV y u):
 KT H (kvs.map λz=>if z.1=k then (z.1,y) else z) (xs.map (putAt k u)):=by
 induction r with
 |nil=>exact .nil
 |@cons p q ps L h t B=>
  refine .cons ?_ B;unfold putAt;by_cases e:p.1=k<;>simp_all
theorem KT.put{H kvs xs}(r:KT H kvs xs) k {b y u}(B:H b=some (.tup (k.map kV)))(z:RelV y u):
 KT H (eG kvs k y) (storedH xs k b u):=by
 have e:(kvs.any λJ=>decide (J.1=k))=(atKey xs k).isSome:=by
  rw[iK,(r.val k).isSome_eq,amw]
 unfold eG storedH;rw[e];by_cases q:(atKey xs k).isSome=true
 .rw[if_pos q,if_pos q];exact r.repl k z
 .rw[if_neg q,if_neg q];exact Paired.snoc r ⟨rfl,B,z⟩
theorem KT.keeps{H H' kvs xs}(r:KT H kvs xs)(B:∀b ys,H b=some (.tup ys)->H' b=some (.tup ys)):KT H' kvs xs:=
 Paired.mapP r λ_ _ z=>⟨z.1,B _ _ z.2.1,z.2.2⟩
section
variable {P:Program}{w:World}{H:Hp}{h:Heap}{a:Addr}
theorem afS{u}(ok:HOk P w H h)(e:Rd H a u):ObjOk P w H h a u:=e.ok ok
theorem abl{kvs}(ok:HOk P w H h)(e:Rd H a (.dK kvs)):kvs.length<=sizeLine/\(a==sysModules)=false/\∃vs,KV kvs vs/\h.DictOf (bj P w) a vs:=
 afS ok e
theorem m7{kvs}(ok:HOk P w H h)(e:H a=some (.dK kvs)):kvs.length<=sizeLine/\(a==sysModules)=false/\∃vs,KV kvs vs/\h.DictOf (bj P w) a vs:=abl ok (.inl e)
theorem uH{ks}(ok:HOk P w H h)(e:H a=some (.tup (ks.map kV))):(tupleKind (bj P w)).is h ks a:=by
 obtain⟨_,its,r,o,h1,h2,n,z⟩:=(ok a _ e);exact⟨o,its.toArray,n,h1,h2,z,by simpa using uQ r⟩
theorem abP{kvs}(ok:HOk P w H h)(e:Rd H a (.dT kvs)):kvs.length<=sizeLine/\(a==sysModules)=false ∧
 ∃xs,KT H kvs xs/\h.DictOfH (tupleKind (bj P w)) a xs:=by
 obtain⟨z,y,xs,r,o,es,ep,h1,h2,B,J,L⟩:=(afS ok e);refine⟨z,y,xs,r,o,es,ep,h1,h2,B,J,λx hx=>?_,L⟩;have all:∀{l} {m},KT H l m->∀x∈m,(tupleKind (bj P w)).is h x.1 x.2.1:=by
  intro l m q
  induction q with
  |nil=>grind
  |@cons p q ps S Y t O=>
   intro x hx;rcases ain.mp hx with e|hx
   .exact uH ok (by simp_all)
   .exact O x hx
 exact all r x hx
theorem agT{kvs}(ok:HOk P w H h)(e:H a=some (.dT kvs)):kvs.length<=sizeLine/\(a==sysModules)=false ∧
 ∃xs,KT H kvs xs/\h.DictOfH (tupleKind (bj P w)) a xs:=abP ok (.inl e)
end
def DGet(H:Hp)(a:Addr)(y:V)(r:Option V):Prop:=
 (∃kvs k,Rd H a (.dK kvs)/\y=kV k/\r=cD kvs k)\/∃kvs k b,Rd H a (.dT kvs)/\y=.ref b/\H b=some (.tup (k.map kV))/\r=cD kvs k
def DPut(H:Hp)(a:Addr)(y v:V)(H':Hp):Prop:=
 (∃kvs k,H a=some (.dK kvs)/\y=kV k/\kvs.length<sizeLine/\H'=upd H a (.dK (eG kvs k v))) ∨
 ∃kvs k b,H a=some (.dT kvs)/\y=.ref b/\H b=some (.tup (k.map kV))/\kvs.length<sizeLine/\H'=upd H a (.dT (eG kvs k v))
theorem DGet.k{H a kvs k}(e:H a=some (.dK kvs)):DGet H a (kV k) (cD kvs k):=.inl ⟨kvs,k,.inl e,rfl,rfl⟩
theorem DPut.k{H a kvs k v}(e:H a=some (.dK kvs))(z:kvs.length<sizeLine):DPut H a (kV k) v (upd H a (.dK (eG kvs k v))):=.inl ⟨kvs,k,e,rfl,z,rfl⟩
section
variable {X:Cx}{pins:List (Addr×Obj)}{σ:St}{H:Hp}{s:Shared}{a:Addr}{y v:V}{u r:Value}{o:Option V}{A:Around}{E:Value->Shared->Prop}
theorem Inv.big(I:Inv X pins σ H s):sysModules<s.heap.objs.size:=by
 have h:=(I.mod.glob.keeps I.bk).lt;exact amc (by decide) h
theorem tN{Q}(Z:A.units+1<cLine)(I:Inv X pins σ H s)(g:DGet H a y (some v))(Y:RelV y u)(h:∀L s',Inv X pins σ H s'->RelV v L->Q L s'):
 wpAny (model X.prog X.w) A (getItem (.ref a) u) Q E s:=by
 rcases g with ⟨kvs,k,e,O,l⟩|⟨kvs,k,b,e,O,eb,l⟩
 .subst O;obtain⟨z,hd,vs,B,dd⟩:=abl I.hok e;obtain⟨L,hw,J⟩:=RelO.some_of   (by rw[l];exact B.val k);exact wpAny_getItem_of (qa Y) dd.mapOf hw (h L _ (I.tok _) J)
 .subst O;cases (Y);obtain⟨z,hd,xs,B,dd⟩:=abP I.hok e;obtain⟨L,hw,J⟩:=RelO.some_of (v:=v)  (by rw[l];exact B.val k);obtain⟨p,hp,S⟩:=ai7.mp hw;refine wpAny_getItem_heap (ak5 Z) (uH I.hok eb) dd hp ?_;rw[S];exact h L _ (I.tok _) J
theorem ahy{Q}(S:A.units+1<cLine)(I:Inv X pins σ H s)(g:DGet H a y o)(O:RelV y u)(h:∀s',Inv X pins σ H s'->Q (.bool o.isSome) s'):
 wpAny (model X.prog X.w) A (compareOp .In u (.ref a)) Q E s:=by
 rcases g with ⟨kvs,k,e,J,l⟩|⟨kvs,k,b,e,J,Y,l⟩
 .subst J;obtain⟨z,L,Z,B,dd⟩:=abl I.hok e;refine wpAny_in_of (qa O) L dd.mapOf ?_;rw[← (B.val k).isSome_eq,←l];exact h _ (I.tok _)
 .subst J;cases (O);obtain⟨z,L,xs,B,dd⟩:=abP I.hok e;refine wpAny_in_heap (ak5 S) (uH I.hok Y) L dd ?_;have q:=(B.val k).isSome_eq;rw[amw]at q;rw[←q,←l];exact h _ (I.tok _)
theorem aeh{Q}(S:A.units+1<cLine)(I:Inv X pins σ H s)(g:DGet H a y o)(O:RelV y u)(h:∀s',Inv X pins σ H s'->Q (.bool (!o.isSome)) s'):
 wpAny (model X.prog X.w) A (compareOp .NotIn u (.ref a)) Q E s:=by
 rcases g with ⟨kvs,k,e,J,l⟩|⟨kvs,k,b,e,J,Y,l⟩
 .subst J;obtain⟨z,L,Z,B,dd⟩:=abl I.hok e;refine wpAny_notIn_of (qa O) L dd.mapOf ?_;rw[← (B.val k).isSome_eq,←l];exact h _ (I.tok _)
 .subst J;cases (O);obtain⟨z,L,xs,B,dd⟩:=abP I.hok e;refine wpAny_notIn_heap (ak5 S) (uH I.hok Y) L dd ?_;have q:=(B.val k).isSome_eq;rw[amw]at q;rw[←q,←l];exact h _ (I.tok _)
theorem jc{h' t' z}(I:Inv X pins σ H s)(B:Mut (H a))(J:Heap.SameBut a s.heap h')(L:∃q,h'.get? a=some q)(new:ObjOk X.prog X.w (upd H a z) h' a z):
 Inv X pins σ (upd H a z) {s with heap:=h',toks:=t' }:=
 I.write   B (.inl rfl) (λb q O=>(J.2 b O).trans) L new
theorem pI{P w H' h' kvs vs}(z:kvs.length<=sizeLine)(J:(a==sysModules)=false)(B:KV kvs vs)(dd:h'.DictOf (bj P w) a vs):
 ObjOk P w H' h' a (.dK kvs):=⟨z,J,vs,B,dd⟩
theorem uI{H' Q}(hu:A.units+1<cLine)(I:Inv X pins σ H s)(g:DPut H a y v H')(ry:RelV y u)(rv:RelV v r)(h:∀s',Inv X pins σ H' s'->Q () s'):
 wpAny (model X.prog X.w) A (setItem (.ref a) u r) Q E s:=by
 rcases g with ⟨kvs,k,e,O,l,S⟩|⟨kvs,k,b,e,O,eb,l,S⟩
 .subst O S;obtain⟨z,Y,vs,B,dd⟩:=m7 I.hok e;have hz:vs.length<=sizeLine:=by rw[←B.length];exact z
  have Z:(eG kvs k v).length<=sizeLine:=by have:=cg kvs k v;lia
  refine wpAny_setItem_pairs  (qa ry) dd λh' J hs=>h _ ?_;have he:∃q,h'.get? a=some q:=let ⟨q,_,_,L,_⟩:=J;⟨q,L⟩;exact jc I (by rw[e];exact True.intro) hs he (pI Z Y (B.put k rv) J)
 .subst O S;cases (ry);obtain⟨z,Y,xs,B,dd⟩:=agT I.hok e;have hz:xs.length<=sizeLine:=by rw[←amG B];exact z
  have Z:(eG kvs k v).length<=sizeLine:=by have:=cg kvs k v;lia
  refine wpAny_setItem_heap (hsz:=hz) (ak5 hu) (uH I.hok eb) dd λh' J hs=>h _ ?_;obtain⟨q,es,ep,L,h2,h3,h4,_,h5⟩:=J;refine jc I (by rw[e];exact True.intro) hs ⟨q,L⟩ ⟨Z,Y,_,(B.put k eb rv).keeps λc ys ec=>?_,q,es,ep,L,h2,h3,h4,h5⟩;rw[ai (by grind)];exact ec
end
def ahf(i:Expr):Prop:=∀ov iv,subscripted i false ov iv=operate [ov,iv] (getItem ov iv)
theorem ad6{prog w A E s env value z pos T id Q}
 (hl:typeLookup (.type T) "__getitem__" = pure (some (.builtin id)))(hs:ahf z)
 (h:wpAny (model prog w) A (eval value env) (λo L=>wpAny (model prog w) A (eval z env) (λi B=>B.TypeIs o T/\wpAny (model prog w) A (getItem o i) Q E B) E L) E s):
 wpAny (model prog w) A (eval (.Subscript value z pos) env) Q E s:=by
 refine Subscript_ (aiu h (λo L O=>aiu O (λi B J=>?_) λ_ _ x=>x) λ_ _ x=>x);obtain⟨hT,J⟩:=J;refine ahV (ahV (wpAny_specialOf hT hl ?_));have Y:wpAny (model prog w) A (subscripted z false o i) (λr=>wpAny (model prog w) A (letTemporaryGo value o r >>= λ_=>pure r) Q E) E B:=by
  rw[hs o i];exact wpAny_operating (aiu J (λr Z S=>ahV (wpAny_letTemporaryGo (ah0 S))) λ_ _ x=>x)
 first
  |exact ah0 (ahV Y)
  |grind
  |grind
theorem wb{X pins}{σ:St}{H s a y o}(I:Inv X pins σ H s)(g:DGet H a y o):s.TypeIs (.ref a) "dict" := by
 rcases g with ⟨kvs,k,e,_,_⟩|⟨kvs,k,b,e,_,_,_⟩
 .obtain⟨_,_,z,_,dd⟩:=abl I.hok e;exact dd.typeIs
 .obtain⟨_,_,xs,_,dd⟩:=abP I.hok e;exact dd.typeIs
def ahd(td ty:TE):TE:=λσ H Q=>td σ H λx H1=>ty σ H1 λy H2=>∃a v,x=.ref a/\DGet H2 a y (some v)/\Q v H2
def ahH(ty td:TE):TE:=λσ H Q=>ty σ H λy H1=>td σ H1 λx H2=>∃a o,x=.ref a/\DGet H2 a y o/\Q (.bl o.isSome) H2
def aeg(ty td:TE):TE:=λσ H Q=>ty σ H λy H1=>td σ H1 λx H2=>∃a o,x=.ref a/\DGet H2 a y o/\Q (.bl (!o.isSome)) H2
def agp(td ty tv:TE):TS:=λD σ H=>tv σ H λv H1=>td σ H1 λx H2=>ty σ H2 λy H3=>∃a H4,x=.ref a/\DPut H3 a y v H4/\D.nx σ H4
def agK(td ty tv:TE)(rd:V->V->Hp->VK->Prop):TS:=λD σ H=>td σ H λx H1=>ty σ H1 λy H2=>∃a v,x=.ref a/\DGet H2 a y (some v)∧
 tv σ H2 λy2 H3=>rd v y2 H3 λz H4=>∃H5,DPut H4 a y z H5/\D.nx σ H5
section
variable {X:Cx}{o i e value:Expr}{pos pos' tpos:Pos}{td ty tv:TE}
theorem eN(J:X.A.units+1<cLine)(L:PE X o td)(hi:PE X i ty)(O:ahf i):PE X (.Subscript o i pos) (ahd td ty):=by
 intro pins s σ H Q I h;refine ad6 PySem.F.slot_dict_getitem.lookup O (thn (L _ s σ H _ I h) λu S ⟨x,H1,Y,Z,q1⟩=>thn (hi _ S σ H1 _ Y q1) λiv s2 ⟨y,H2,B,ry,a,v,ex,g,q2⟩=>?_);subst ex;obtain rfl:u=Value.ref a:=Z;exact⟨wb B g,tN J B g ry λw' s3 I3 z=>⟨v,H2,I3,z,q2⟩⟩
theorem adB(z:X.A.units+1<cLine)(hi:PE X i ty)(B:PE X o td):PC X .In i o (ahH ty td):=by
 intro pins s σ H Q I h;refine thn (hi _ s σ H _ I h) λiv J ⟨y,H1,L,O,S⟩=>thn (B _ J σ H1 _ L S) λu s2 ⟨x,H2,Y,Z,a,ov,ex,g,q2⟩=>?_;subst ex;obtain rfl:u=Value.ref a:=Z;exact ahy z Y g O λs3 I3=>⟨.bl _,H2,I3,rfl,q2⟩
theorem pP(z:X.A.units+1<cLine)(hi:PE X i ty)(B:PE X o td):PC X .NotIn i o (aeg ty td):=by
 intro pins s σ H Q I h;refine thn (hi _ s σ H _ I h) λiv J ⟨y,H1,L,O,S⟩=>thn (B _ J σ H1 _ L S) λu s2 ⟨x,H2,Y,Z,a,ov,ex,g,q2⟩=>?_;subst ex;obtain rfl:u=Value.ref a:=Z;exact aeh z Y g O λs3 I3=>⟨.bl _,H2,I3,rfl,q2⟩
theorem nU(z:X.A.units+1<cLine)(B:PE X o td)(hi:PE X i ty)(J:PE X value tv)(L:swapsWith value (some (.Subscript o i pos')) pos.line X.env=pure false):
 PS X (.Assign [.Subscript o i pos'] value pos) (agp td ty tv):=by
 intro pins s σ H D I h;refine wpAny_Assign_Subscript (thn (J _ s σ H _ I h) λr O ⟨v,H1,S,Y,Z⟩=>thn (B _ O σ H1 _ S Z) λu s2 ⟨x,H2,I2,rx,q2⟩=>thn (hi _ s2 σ H2 _ I2 q2) λiv s3 ⟨y,H3,I3,ry,a,H4,ex,g,q3⟩=>?_) L;subst ex;obtain rfl:u=Value.ref a:=rx;exact uI z I3 g ry Y λs4 I4=>⟨σ,H4,I4,q3⟩
theorem aeE{Y Z}(hu:X.A.units+1<cLine)(ho:PE X o td)(hi:PE X i ty)(hv:PE X value tv)(L:ahm X Y Z)
 (ha:∀J B new,augStore i J B new=(do holding [new,J,B] (setItem J B new);release [new,J,B] [];pure .next)):PS X (.AugAssign (.Subscript o i tpos) Y value pos) (agK td ty tv Z):=by
 intro pins s σ H D I h;refine alN (thn (ho _ s σ H _ I h) λu s1 ⟨x,H1,I1,rx,q1⟩=>thn (hi _ s1 σ H1 _ I1 q1) λB s2 ⟨y,H2,I2,ry,a,v,ex,g,q2⟩=>?_) ha;subst ex;obtain rfl:u=Value.ref a:=rx;exact tN hu I2 g ry λw' s3 I3 O=>thn (hv _ s3 σ H2 _ I3 q2) λw2 s4 ⟨y2,H3,I4,S,q3⟩=>thn (L _ s4 σ H3 v y2 w' w2 _ I4 O S q3) λw3 s5 ⟨z,H4,I5,rz,H5,g5,q4⟩=>uI hu I5 g5 ry rz λs6 I6=>⟨σ,H5,I6,q4⟩
end
theorem lu{P w H}(h:Heap)(z:sysModules<h.objs.size):ObjOk P w H (h.push {cls:=.type "dict",data:=.dict #[] }) h.objs.size (.dK []):=
 ⟨ail _,beq_eq_false_iff_ne.mpr (ai2 (ah6 z)),[],.nil,Heap.DictOf.new h⟩
def afv:TE:=λ_ H Q=>∀p,H p=none->Q (.ref p) (upd H p (.dK []))
section
variable {X:Cx}{pos:Pos}
theorem nJ:PE X (.Dict [] [] pos) afv:=λpins s σ H Q I h=>
 wpAny_Dict_empty ⟨.ref _,_,I.laid    (λ_ _=>ahX _) (ah4 _) (lu _ I.big),rfl,h _ (I.hok.fresh (ah4 _))⟩
end
def adF:List (TE×TE)->St->Hp->(List (V×V)->Hp->Prop)->Prop
 |[],_,H,Q=>Q [] H
 | (tk,tv)::r,σ,H,Q=>tk σ H λx H1=>tv σ H1 λy H2=>adF r σ H2 λps H3=>Q ((x,y)::ps) H3
abbrev VV:List (V×V)->List (Value×Value)->Prop:=Paired λp q=>RelV p.1 q.1/\RelV p.2 q.2
def PPs(X:Cx)(pos:Pos)(keys:List (Option Expr))(values:List Expr)(trs:List (TE×TE)):Prop:=
 ∀(pins:List (Addr×Obj)) (s:Shared) (σ:St) (H:Hp) (Q:List (V×V)->Hp->Prop),Inv X pins σ H s->adF trs σ H Q →
  wpAny (model X.prog X.w) X.A (evalPairs (pairTrees keys values X.env pos)) (λvs s'=>∃ps H',Inv X pins σ H' s'/\VV ps vs/\Q ps H') X.xe s
theorem aey{X pos}:PPs X pos [] [] []:=λpins s σ H Q I h=>pairTrees_nil_walk ⟨[],H,I,.nil,h⟩
theorem ab6{X pos k v ks vs tk tv z}(J:PE X k tk)(L:PE X v tv)(hr:PPs X pos ks vs z):
 PPs X pos (some k::ks) (v::vs) ((tk,tv)::z):=λpins s σ H Q I h=>
 pairTrees_cons_walk (thn (J _ s σ H _ I h) λu O ⟨x,H1,S,Y,Z⟩=>thn (L _ O σ H1 _ S Z) λw2 s2 ⟨y,H2,I2,ry,q2⟩=>
  thn (hr _ s2 σ H2 _ I2 q2) λws s3 ⟨ps,H3,I3,B,q3⟩=>⟨(x,y)::ps,H3,I3,.cons ⟨Y,ry⟩ B,q3⟩)
structure M1(X:Cx)(o:Expr)(m:Str)(apos:Pos)(e:Expr)(cpos:Pos):Prop where
 base:attributeBase o m X.env (eval o X.env)=eval o X.env
 few:((backTo cpos (starEach [e] X.env)).all (λx=>!x.1)&&(backToKw cpos (keywordEach [] X.env)).all (λx=>x.1.isSome)
 &&decide (([e]:List Expr).length+([]:List Keyword).length+(if ([]:List Keyword).isEmpty then 0 else 1)<30))=true
 line:(apos.endLine==cpos.line)=true
 trees:backTo cpos (starEach [e] X.env)=[(false,eval e X.env)]
structure M2(X:Cx)(o:Expr)(m:Str)(apos:Pos)(e f:Expr)(cpos:Pos):Prop where
 base:attributeBase o m X.env (eval o X.env)=eval o X.env
 few:((backTo cpos (starEach [e,f] X.env)).all (λx=>!x.1)&&(backToKw cpos (keywordEach [] X.env)).all (λx=>x.1.isSome)
 &&decide (([e,f]:List Expr).length+([]:List Keyword).length+(if ([]:List Keyword).isEmpty then 0 else 1)<30))=true
 line:(apos.endLine==cpos.line)=true
 trees:backTo cpos (starEach [e,f] X.env)=[(false,eval e X.env),(false,eval f X.env)]
def jJ(env:Env):List (Str×NameKind)->List (Str×Addr)->List (Str×Addr)
 |[],cs=>cs
 | (n,k)::r,cs=>jJ env r (if k=.free then (n,(env.cells.lookup n).getD 0)::cs else cs)
theorem aax{env}:∀B z,(∀x∈B,x.2=.free->∃c,env.cells.lookup x.1=some c) →
 (forIn (m:=Sem) B z λx r=>(if (x.2 == .free)=true then (do let a ←cellOf env x.1;pure (ForInStep.yield ((x.1,a)::r))) else pure (ForInStep.yield r)))=pure (jJ env B z)
 |[],z,_=>by simp[jJ]
 | (n,k)::r,z,h=>by
  have L:=λz=>aax r z λx Y=>h x (aih _ Y);rw[ak6];by_cases J:k=.free
  .subst J;obtain⟨c,O⟩:=h _ aid rfl;have Z:cellOf env n=pure c:=by unfold cellOf;rw[O]
   have S:(NameKind.free==NameKind.free)=true:=rfl;simp only[Z,jJ,O];exact L _
  .have S:(k==NameKind.free)=false:=by simpa using J
   simp only[S,jJ,if_neg J];exact L _
theorem ju{env}:∀B z x c,(∀x∈B,x.2=.free->∃c,env.cells.lookup x.1=some c)->(jJ env B z).lookup x=some c->z.lookup x=some c\/env.cells.lookup x=some c
 |[],z,x,c,_,e=>.inl e
 | (n,k)::r,z,x,c,h,e=>by
  have ih:=ju r _ x c (λx J=>h x (aih _ J)) e;rcases ih with ih|ih
  .by_cases L:k=.free
   .subst L;obtain⟨d,O⟩:=h _ aid rfl;grind
   simp_all
  simp_all
theorem uz{env}:∀B z x,(∃c,z.lookup x=some c)->∃c,(jJ env B z).lookup x=some c
 |[],_,_,h=>h
 | (n,k)::r,z,x,h=>by
  refine uz r _ x ?_;split
  .rw[akW];split<;>simp_all
  .exact h
theorem gr{env}:∀z B x,(x,NameKind.free)∈z->∃c,(jJ env z B).lookup x=some c
 |[],_,_,h=>nomatch h
 | (n,k)::r,B,x,h=>by
  rcases ain.mp h with e|h
  .refine uz r _ _ ⟨(env.cells.lookup n).getD 0,?_⟩;simp_all
  .exact gr r _ x h
theorem cM{scope env}(h:∀x∈scope.names,x.2=.free->∃c,env.cells.lookup x.1=some c):closureFor scope env=pure (jJ env scope.names []):=by
 have e:=aax _ [] h;unfold closureFor;simp_all
theorem dH{scope:Scope}{env:Env}{x:Str}{k:NameKind}:(relabel scope env).names.lookup x=some k->∃z,(x,z)∈scope.names/\(k=z\/(z=.free/\k=.cell)):=by
 intro h;have all:∀(B:List (Str×NameKind)),(B.map λ(n,k)=>if (k==NameKind.free&&env.scope.kind == .function&&env.kindOf n==some .cell) then (n,NameKind.cell) else (n,k)).lookup x=some k->∃z,(x,z)∈B/\(k=z\/(z=.free/\k=.cell)):=by
  intro B
  induction B with
  |nil=>intro h;simp at h
  |cons y r O=>
   obtain⟨n,z⟩:=y;intro h;rw[air,akW]at h;by_cases J:(z==NameKind.free&&env.scope.kind == .function&&env.kindOf n==some .cell)=true
   .simp only[J,anE]at h;cases hx:x==n with
    |true=>
     rw[hx]at h;have e:x=n:=by simpa using hx
     subst e;have S:z=.free:=by
      simp only[aiK]at J;simpa using J.1.1
     exact⟨z,aid,.inr ⟨S,(ai0 h).symm⟩⟩
    |false=>
     rw[hx]at h;obtain⟨L,h1,h2⟩:=O h;exact⟨L,aih _ h1,h2⟩
   .simp only[J,ajl,ak4]at h;cases hx:x==n with
    |true=>
     rw[hx]at h;have e:x=n:=by simpa using hx
     subst e;exact⟨z,aid,.inl (ai0 h).symm⟩
    |false=>
     rw[hx]at h;obtain⟨L,h1,h2⟩:=O h;exact⟨L,aih _ h1,h2⟩
 exact all scope.names h
def Cx.comp(X:Cx)(scope:Scope)(N':List Str)(C:Addr)(fp:List Addr)(s₀:Shared)(H₀:Hp):Cx:=
 {X with N:=N',s₀:=s₀,H₀:=H₀,env:=compEnvC scope (jJ X.env scope.names []) C X.env,outer:=X.stack,stack:=X.stack,ex:=fp,fn:=λ_=>false,pn:=[],xe:=λ_ _=>False}
structure CompScope(X:Cx)(scope:Scope):Prop where
 kind:scope.kind=.function
 nocell:∀x∈scope.names,x.2≠.cell
 loc:∀x∈scope.names,x.2=.local->scope.names.lookup x.1=some .local
 free:∀x∈scope.names,x.2=.free->X.env.kindOf x.1=some .cell
section
variable {X:Cx}{pins:List (Addr×Obj)}{σ:St}{H:Hp}{s:Shared}{scope:Scope}{N':List Str}{fp:List Addr}
theorem CompScope.cells(S:CompScope X scope)(ok:X.Ok):∀x∈scope.names,x.2=.free->∃c,X.env.cells.lookup x.1=some c:=λx z B=>ok.has _ (.inl (S.free x z B))
theorem CompScope.sub(S:CompScope X scope)(ok:X.Ok){x c}(e:(jJ X.env scope.names []).lookup x=some c):X.env.cells.lookup x=some c:=by
 rcases ju _ [] x c (S.cells ok) e with h|h<;>simp_all
theorem CompScope.ok(S:CompScope X scope)(I:Inv X pins σ H s)(B:∀b∈fp,gI X pins H b)(L:∀b∈fp,b<s.heap.objs.size):(X.comp scope N' s.heap.objs.size fp s H).Ok where
 mod:=I.ok.mod
 kind:=S.kind
 glob:=I.ok.glob
 blt:=I.ok.blt
 above:=ah4 _
 inj:=λx y c O Y=>I.ok.inj x y c (S.sub I.ok O) (S.sub I.ok Y)
 has:=λx Z=>by
  have J:=Z;have fr:(x,NameKind.free)∈scope.names:=by
   rcases J with h|h
   .obtain⟨k',h1,h2⟩:=dH h;rcases h2 with h2|⟨h2,_⟩
    .subst h2;exact absurd rfl (S.nocell _ h1)
    simp_all
   .obtain⟨k',h1,h2⟩:=dH h;grind
  exact gr _ [] x fr
 cab:=λx c h _=>by cases h
 hd:=I.ok.hd
 frames:=I.ok.frames
 stk:=.inl rfl
 exf:=λb z=>⟨ah6 (L b z),λx c e=>(B b z).2.2.2.2.1 x c (S.sub I.ok e)⟩
 bs:=I.bs
 bsz:=aij I.ok.bsz I.sz
 noex:=λb o e z=>by
  rcases (B b z).2.2.2.1 with h|h
  .exact I.ok.noex b o e h
  .exact absurd (ah9 (ah3 e) (aij I.ok.bsz h)) (ai8 _)
 exfs:=λb z hs=>by
  rcases ain.mp (I.stkSub b hs) with h|h
  .exact (B b z).2.1 h
  .exact (B b z).2.2.1 h
 funs:=I.stack
 frf:=I.stkFree
def cC(nl:Nat)(ix:List Nat)(σ:St):St:=List.replicate nl none++ix.map λj=>(σ[j]?).join
structure abf(X:Cx)(scope:Scope)(N':List Str)(nl:Nat)(ix:List Nat):Prop where
 len:N'.length=nl+ix.length
 at':∀(k j:Nat),ix[k]?=some j->∃x,X.N[j]?=some x/\N'[nl+k]?=some x/\X.env.kindOf x=some .cell/\(relabel scope X.env).names.lookup x=some .cell/\(x,NameKind.free)∈scope.names
theorem jy{nl ix h1 tk}(S:CompScope X scope)(Cp:abf X scope N' nl ix)(I:Inv X pins σ H s)(hf:∀b∈fp,gI X pins H b)(ho:∀b∈fp,b<s.heap.objs.size)
 (hn:h1.Ns s.heap.objs.size (λ_=>none))(Z:∀b o,s.heap.get? b=some o->h1.get? b=some o):Inv (X.comp scope N' s.heap.objs.size fp s H) [] (cC nl ix σ) H {s with heap:=h1,toks:=tk}:=by
 have ok:=S.ok (N':=N') I hf ho;refine⟨ok,rfl,I.bare,Un.kept Z,⟨_,hn,λi x v e1 e2 e3=>?_⟩,λx c e=>?_,I.hok.fresh (ah4 _),λx c e=>I.freeC x c (S.sub I.ok e),λp hp=>by simp[Cx.comp]at hp,I.hok.kept Z,?_⟩
 .unfold cC at e2;rw[akP]at e2;split at e2
  .simp_all
  .rename_i hi;rw[aiD]at hi e2;rw[ah1]at e2;cases ej:ix[i-nl]? with
   |none=>simp_all
   |some j=>
    have J:σ[j]?=some (some v):=by
     cases q:σ[j]?<;>simp_all
    obtain⟨x',a1,a2,a3,a4,a5⟩:=Cp.at' _ _ ej;have aa:nl+(i-nl)=i:=by lia
    rw[aa]at a2;have L:N'[i]?=some x:=e1;rw[a2]at L;cases L;obtain⟨m,hm,hl⟩:=I.loc;obtain⟨u,r,l⟩:=hl j x v a1 J (.inr (.inl a3));refine⟨u,r,?_⟩;rcases l with ⟨k,_⟩|⟨_,c,ec,z⟩
    .simp_all
    .obtain⟨c',O⟩:=gr  _ [] x a5;have Y:=S.sub I.ok O;rw[ec]at Y;cases Y;obtain⟨o,B,hd⟩:=z;exact .inr ⟨.inl a4,c,O,o,Z _ _ B,hd⟩
 .obtain⟨v,o,B,hd⟩:=I.cell x c (S.sub I.ok e);exact⟨v,o,Z _ _ B,hd⟩
 .show (cC nl ix σ).length=N'.length;unfold cC;rw[ahZ,aiD,ahY,Cp.len]
theorem gY{H'}{Y:St}{pins'  s'  h' }(I:Inv X pins σ H s)(O:∀b∈fp,gI X pins H b)
 (J:Inv (X.comp scope N' s.heap.objs.size fp s H) pins' Y H' s')(S:Heap.SameBut s.heap.objs.size s'.heap h'):Inv X pins σ H' {s' with heap:=h' }:=by
 have lo:∀b o,s.heap.get? b=some o->b≠s.heap.objs.size:=λb o e=>ah6 (ah3 e);have B:=J.base;refine I.call'  (J.os) ⟨λb o e n z L=>?_,λb o e n z L=>?_,B.free,λb o e L=>?_,B.tups,B.frzs,B.tbls⟩ (λb u e=>?_) J.bare λb z=>⟨(O b z).2.2.2.1,(O b z).2.1,(O b z).2.2.2.2.1,(O b z).2.2.2.2.2⟩
 .exact (S.2 b (lo b o e)).trans (B.keep b o e n z L)
 .obtain⟨sl,q⟩:=B.slot b o e n z L;exact⟨sl,(S.2 b (lo b o e)).trans q⟩
 .obtain⟨o',q⟩:=B.there b o e L;exact⟨o',(S.2 b (lo b o e)).trans q⟩
 .have nl:H' s.heap.objs.size=none:=J.free;refine (J.hok b u e).stay (λc v Z=>(S.2 c ?_).trans) (λ_ q=>q) λ_ _ q=>q;grind
end
def PIf(X:Cx)(ifs:List Expr)(t:TT):Prop:=
 ∀(pins:List (Addr×Obj)) (s:Shared) (σ:St) (H:Hp) (Q:Bool->Hp->Prop),Inv X pins σ H s->t σ H Q →
  wpAny (model X.prog X.w) X.A (forIn ifs true λc r=>if r=true then do let ok ←isTrue c X.env (eval c X.env);pure (ForInStep.yield ok) else pure (ForInStep.yield r)) (TP X pins σ Q) X.xe s
def nh:TT:=λ_ H Q=>Q true H
theorem bt{X}:PIf X [] nh:=λ_ _ _ H _ I h=>ak7 ⟨H,I,h⟩
theorem iF{X c t}(h:PT X c t):PIf X [c] t:=λpins s σ H Q I hw=>wpAny_tests_one (h _ s σ H Q I hw)
section
variable {prog:Program}{w:World}{A:Around}{R:Result->Shared->Prop}{s:Shared}
theorem jv{ad B iter ifs scope pos it ae env}(I:Nat->Shared->Prop)
 (af:∀n s,I n s->wpAny (model prog w) A (pyNext it) (λr J=>match r with
  |none=>R (.ok .next) J
  |some v=>wpAny (model prog w) A (letOwnedTupleGo B it v) (λ_ L=>wpAny (model prog w) A (assign B env v) (λ_ S=>
   wpAny (model prog w) A (forIn ifs true λc r=>if r=true then do let ok ←isTrue c env (eval c env);pure (ForInStep.yield ok) else pure (ForInStep.yield r)) (λok O=>
    if ok=true then wpAny (model prog w) A (eval ad env) (λx Y=>
     wpAny (model prog w) A (call (.builtin "list.append") [ae,x]) (λ_ Z=>∃m,m<n/\I m Z) (λ_ _=>False) Y) (λ_ _=>False) O
    else ∃m,m<n/\I m O) (λ_ _=>False) S) (λ_ _=>False) L) (λ_ _=>False) J) (λ_ _=>False) s)
 n (h:I n s):
 codeAny (model prog w) A (.compLoop (.ListComp ad [⟨B,iter,ifs,0⟩] scope pos) 0 it ae env) R s:=by
 have no:∀{E:Value->Shared->Prop} x s,False->E x s:=λ_ _ z=>z.elim;refine alw rfl I (λn s hI=>alV ?_) n h;rw[compTurn_list];refine ahV (ai3 (ahV (aiu (af n s hI) (λr J aa=>?_) no)));cases r with
 |none=>exact ah0 aa
 |some v=>
  refine ahV (aiu aa (λ_ L ac=>ahV (aiu ac (λ_ S ag=>ahV (aiu ag (λok O ab=>?_) no)) no)) no);cases ok with
  |false=>exact ah0 ⟨rfl,ab⟩
  |true=>
   exact ahV (ahV (aiu ab (λx Y ah=>ahV (aiu ah (λ_ Z ai=>ah0 (ah0 ⟨rfl,ai⟩)) no)) no))
end
def iO(nl:Nat)(ix:List Nat)(wi:TI)(g:TG)(tf:TT)(te:TE):TE:=λσ H Q=>wi σ H λJ H1=>∀D,H1 D=none->∃W:Nat->Nat->List V->Hp->Prop,(∃m,W 0 m [] (upd H1 D (.lst [])))∧
 ∀i m ys H2,W i m ys H2->H2 D=some (.lst ys)/\((J.stop i H2/\Q (.ref D) H2)\/(J.go i H2/\∀x H3,J.yld i H2 x H3->g x (cC nl ix σ) H3 λσ4 H4=>(σ4.length=(cC nl ix σ).length/\σ4.drop nl=ix.map λj=>(σ[j]?).join)/\tf σ4 H4 λb H5=>
  if b=true then te σ4 H5 λy H6=>H6 D=some (.lst ys)/\ys.length<sizeLine/\∃m',m'<m/\W (i+1) m' (ys++[y]) (upd H6 D (.lst (ys++[y]))) else ∃m',m'<m/\W (i+1) m' ys H5))
theorem eC{X:Cx}{pins:List (Addr×Obj)}{σ z:St}{H:Hp}{s:Shared}{nl:Nat}{ix:List Nat}(I:Inv X pins z H s)(J:z.length=(cC nl ix σ).length)(L:z.drop nl=ix.map λj=>(σ[j]?).join):Inv X pins (cC nl ix σ) H s:=by
 refine I.weak J.symm λi v e=>?_;unfold cC at e;rw[akP]at e;split at e
 .rw[amH]at e;split at e<;>simp at e
 .rename_i hi;rw[aiD]at hi e;rw[←L,ak8]at e;have B:nl+(i-nl)=i:=by lia
  rw[B]at e;exact e
section
variable {X:Cx}
theorem jz{ak tg iter:Expr}{ifs:List Expr}{scope:Scope}{pos:Pos}{N':List Str}{nl:Nat}{ix:List Nat}{wi:TI}{g:TG}{tf:TT}{te:TE}(hc:X.calm=true)(S:CompScope X scope)(Cp:abf X scope N' nl ix)(hi:PI X tg iter wi)
 (hg:∀C fp s₀ H₀,PG (X.comp scope N' C fp s₀ H₀) tg g)(hf:∀C fp s₀ H₀,PIf (X.comp scope N' C fp s₀ H₀) ifs tf)(he:∀C fp s₀ H₀,PE (X.comp scope N' C fp s₀ H₀) ak te)
 (hs:∀x,foldedSetIterable iter X.env x=pure x:=by intro _;rfl):PE X (.ListComp ak [⟨tg,iter,ifs,0⟩] scope pos) (iO nl ix wi g tf te):=by
 intro pins s σ H Q I h;refine ajb   rfl hs (cM (S.cells I.ok)) S.kind S.loc ?_;refine thn (hi pins s σ H _ I h) λv s1 h1=>thn h1 λbf z h2=>?_;obtain⟨it,fp,tn,J,H2,rfl,I2,T,al,f2,h2⟩:=h2;obtain⟨W,⟨m0,w0⟩,aq⟩:=h2 z.heap.objs.size I2.fresh;refine ajc (ajC S.nocell (by simp_all) (λar O Y=>?_) S.kind);have as:∀b∈fp,b<z.heap.objs.size:=λb B=>by
  obtain⟨o,e,_⟩:=T.obj 0 _ al b B;exact ah3 e
 have I3:Inv X _ σ _ {z with heap:=z.heap.push _,toks:=z.toks}:=I2.lnew .nil (ail _);have f3:∀b∈fp,gI X _ (upd H2 _ (.lst [])) b:=λb B=>by
  refine⟨?_,(f2 b B).2⟩;rw[ai (ah6 (as b B))];exact (f2 b B).1
 generalize hS3:z.heap.push _=Z at O Y I3⊢;have aM:Z.objs.size=z.heap.objs.size+1:=by rw[←hS3,aiP]
 have aj:=λb B=>by
  show b<Z.objs.size;rw[aM];exact aiB (as b B)
 have old:=λb o e=>Y.extBut b o (ah6 (ah3 e)) (ahX _ e);have I4:=jy (tk:=z.toks+([]:List (Str×Value)).length) S Cp I3 f3 aj O old;generalize hX:X.comp scope N' Z.objs.size fp {z with heap:=Z,toks:=z.toks} (upd H2 z.heap.objs.size (.lst []))=L at *;have aa:L.prog=X.prog:=by rw[←hX];rfl
 have ab:L.w=X.w:=by rw[←hX];rfl
 have au:L.K=X.K:=by rw[←hX];rfl
 have aN:L.A=X.A:=by rw[←hX];rfl
 have av:L.calm=true:=by rw[←hX];exact hc
 have ag:L.xe=λ_ _=>False:=by rw[←hX];rfl
 have bj:L.ex=fp:=by rw[←hX];rfl
 have bk:L.pn=[]:=by rw[←hX];rfl
 have aw:L.env.locals=Z.objs.size:=by rw[←hX];rfl
 have aO:L.env=compEnvC scope (jJ X.env scope.names []) Z.objs.size X.env:=by rw[←hX];rfl
 have ax:=hg Z.objs.size fp {z with heap:=Z,toks:=z.toks} (upd H2 z.heap.objs.size (.lst []));have ay:=hf Z.objs.size fp {z with heap:=Z,toks:=z.toks} (upd H2 z.heap.objs.size (.lst []));have az:=he Z.objs.size fp {z with heap:=Z,toks:=z.toks} (upd H2 z.heap.objs.size (.lst []));rw[hX]at ax ay az;have am:=I4;have aA:∀{H' } {aP:St} {pins' } {s' } {h' },Inv L pins' aP H' s'->Heap.SameBut Z.objs.size s'.heap h'->Inv X _ σ H' {s' with heap:=h' }:=λI' sb=>by
  subst hX;exact gY I3 f3 I' sb
 have ac:∀{H' },(∀b∈fp,H' b=none)->∀b∈fp,gI L [] H' b:=λhn b B=>by
  refine⟨hn b B,?_,?_,.inl (by simp_all),?_,λp hp=>by simp_all⟩
  .rw[aw];exact ah6 (aj b B)
  .exact am.ok.exfs b (by simp_all)
  .exact (am.ok.exf b (by simp_all)).2
 have ad:codeAny (model X.prog X.w) X.A (.compLoop (.ListComp ak [⟨tg,iter,ifs,0⟩] scope pos) 0 (.ref it) (.ref z.heap.objs.size) L.env)
  (compPost (model X.prog X.w) X.A X.xe none (EP X pins σ Q) (.ref z.heap.objs.size) Z.objs.size) {z with heap:=ar,toks:=z.toks+([]:List (Str×Value)).length}:=by
  rw[←aa,←ab,←aN];refine jv (λn s'=>∃i ys H',Inv L [] _ H' s'/\tn i s'.heap/\(∀b∈fp,H' b=none)/\W i n ys H') ?_ m0
   ⟨0,[],_,am,T.keep _ _ _ al (λb B o e=>old b o (by rw[←hS3];exact ahX _ e)),λb B=>(f3 b B).1,w0⟩
  rintro n s5 ⟨i,ys,H5,I5,aB,aC,w5⟩;obtain⟨bo,aQ⟩:=aq i n ys H5 w5;rcases aQ with ⟨stop,qn⟩|⟨go,step⟩
  .rw[aa,ab];refine thn (T.done L aa ab au av i [] s5 _ H5 _ I5 (ac aC) aB stop) λr s6 ⟨hr,I6⟩=>?_;subst hr;obtain⟨m,hn,_⟩:=I6.loc;rw[aw]at hn;exact⟨m,hn,λh' sb=>⟨.ref _,H5,aA I6 sb,rfl,qn⟩⟩
  .have aD:=T.item L aa ab au av i [] s5 _ H5 (λ_ _=>False) I5 (ac aC) aB go;rw[←aa,←ab]at aD;refine thn aD λr s6 ⟨u,hr,h6⟩=>?_;subst hr;refine thn h6 λ_ s7 ⟨x,H7,I7,r7,y7,an,aR⟩=>?_;have aS:=I7.pinned (ac aR) (T.obj _ _ an);have g7:=ax _ s7 _ H7 x u _ aS r7 (step x H7 y7);rw[ag]at g7;refine thn g7 λ_ s8 ⟨bz,H8,I8,⟨aT,aU⟩,q8⟩=>?_;have f8:=ay _ s8 _ H8 _ I8 q8;rw[ag]at f8;refine thn f8 λok s9 ⟨H9,I9,q9⟩=>?_;have ae:∀{ah} {ao} {ap},Inv L ..->(∃m',m'<n/\W (i+1) m' ap ah)->∃m,m<n/\∃i ys H',Inv L [] _ H' ao/\tn i _/\(∀b∈fp,H' b=none)/\W i m ys H':=fun {ah ao ap} af ⟨m',hm,w'⟩=>by
    refine⟨m',hm,i+1,ap,ah,eC af.unpinned aT aU,T.keep _ _ _ an λb B o e=>(af.pin (b,o) (ah2 _ (ah2 _ (aF B e)))).1,λb B=>?_,w'⟩;obtain⟨o,e,d⟩:=T.obj _ _ an b B;exact (af.pin _ (ah2 _ (ah2 _ (aF B e)))).2.1
   cases ok with
   |false=>
    exact ae I9 q9
   |true=>
    have e9:=az _ s9 _ H9 _ I9 q9;rw[ag]at e9;refine thn e9 λxv ao ⟨y,ah,af,aV,aE,hz,mw⟩=>?_;have aG:=cV  _ _ _ _ (.ref _) _ _ _ (λ_ H'=>H'=upd _ _ _) af rfl (.cons aV .nil) ⟨_,ys,y,rfl,rfl,aE,hz,rfl⟩;rw[ag]at aG;refine thn aG λ_ bJ ⟨_,bK,aW,_,aX⟩=>?_;subst aX;exact ae aW mw
 rw[aO]at ad;exact akz ad (T.self _ 0 _ _ _ (T.keep _ _ _ al (λb B o e=>old b o (by rw[←hS3];exact ahX _ e))) ad)
theorem gQ:∀{ss} {z},Vals (ss.map V.str) z->StrsAre z ss
 |[],_,.nil=>.nil
 |_::_,_,.cons r t=>by
  obtain⟨k,rfl⟩:=r;exact .cons _ k (gQ t)
theorem jq:∀{ss} {z},StrsAre z ss->Vals (ss.map V.str) z
 |_,_,.nil=>.nil
 |_,_,.cons y t h=>.cons ⟨t,rfl⟩ (jq h)
theorem xR:∀bs:List _,(List.range bs.length).all (λi=>bs.getD i false)=bs.all id
 |[]=>rfl
 |b::r=>by
  rw[aiJ,List.range_succ_eq_map,alO,amd,alO,←xR r]
  rfl
theorem kE(hc:X.calm=true):gn X (.builtin "all") (λxs H Q=>∃(p:Addr) (bs:List _),xs=[.ref p]/\SqL X.K H p (bs.map V.bl)/\Q (.bl (bs.all id)) H):=by
 intro pins s σ H xs us Q I r h;obtain⟨p,bs,rfl,hq,q⟩:=h;obtain⟨u,rfl,rx⟩:=jK r;cases rx;obtain⟨its,Z,L,hz⟩:=I.list hq;have hh:X.A.in1.handled=none:=I.ok.hd hc;have O:p<s.heap.objs.size:=by obtain⟨o,e,_⟩:=L.isList;exact ah3 e
 have B:=Z.length;rw[ahY]at B;refine call_all_walk (aln L.isList ⟨s.heap.objs.size,_,_,_,_,_,λi=>bs.getD i false,rfl,Walks.list hh _ p (ah6 O) _,⟨⟨_,aib _ rfl,rfl,rfl⟩,L.isList.push _⟩,λi v s' Q' E' hv S=>?_,λh' tk hk=>?_⟩)
 .have J:=by simpa using hv
  have hi:=(ahW.mp J).1;have Y:bs[i]?=some (bs.getD i false):=by
   simp_all
  obtain⟨u,hu,ru⟩:=Z.get   (by rw[ah1,Y];rfl);rw[J]at hu;cases hu;cases ru;exact ajj S
 .have e:(List.range its.toArray.size).all (λi=>bs.getD i false)=bs.all id:=by
   rw[aiQ,←B,xR]
  rw[e];refine⟨.bl _,H,(I.kept   λb o=>ahX _).turned    (λb o Y=>hk b o (by simpa using Y)) I.fresh (aiX I.lt) (.inr I.sz) (λx c e z=>?_) λp' hp z=>?_,rfl,q⟩
  .obtain⟨v,q⟩:=I.cell x c e;exact absurd (z▸q.lt) (ai8 _)
  .exact absurd (z▸ah3 (I.pin p' hp).1) (ai8 _)
theorem iG:gn X (.builtin "sorted") (λxs H Q=>∃p ss,xs=[.ref p]/\SqL X.K H p (ss.map V.str)/\ss.length<64/\∀l z,H l=none->z.Perm ss->sortedS z=true->Q (.ref l) (upd H l (.lst (z.map V.str)))):=by
 intro pins s σ H xs us Q I r h;obtain⟨p,ss,rfl,S,hl,q⟩:=h;obtain⟨u,rfl,Y⟩:=jK r;cases Y;obtain⟨its,L,Z,hz⟩:=I.list S;have B:=L.length;rw[ahY]at B;refine sorted_strs Z.isList (gQ L) (by lia) λout z a1 O a3=>?_;obtain⟨e,he⟩:=sortedAll_at s.heap its out;have J:=O.length_eq;refine⟨.ref _,_,I.laid  (o:=.lst _) (λb o=>sortedAll_old) (ajf _) ⟨?_,out.toList,e,jq a1,?_⟩,rfl,q _ _ (I.hok.fresh (ajf _)) O a3⟩<;>simp_all
def agf:V->List V->Hp->VK->Prop:=λx vs H Q=>∃(l:Addr) (ss:List Str) (k:Str),x=.ref l/\vs=[.str k]/\H l=some (.lst (ss.map V.str))/\Q (.int (ss.count k)) H
theorem wZ k:∀ss:List _,countIn (.str k) (ss.map PyData.str)=ss.count k:=by
 intro ss
 induction ss with
 |nil=>rfl
 |cons y r z=>
  rw[air,countIn,z,alW];by_cases e:y=k
  .subst e;have B:same _ (.str y)=true:=same_refl _;grind
  .have B:¬ same (.str y) (.str k)=true:=by simpa [same]using e
   simp_all
theorem jl:MtM X "list.count" agf:=by
 intro pins s σ H x O v S Q I z B h;obtain⟨l,ss,k,rfl,rfl,J,q⟩:=h;cases z;obtain⟨u,rfl,t,rfl⟩:=B.one;obtain⟨its,r,L,Y⟩:=I.list (aAA J);refine count_list_strs L.isList (gQ r) ⟨.int _,H,I.tok _,⟨s.toks,?_⟩,q⟩;rw[wZ]
def agL:V->List V->Hp->VK->Prop:=λx vs H Q=>∃(z:Str) (l:Addr) (ss:List Str),x=.str z/\vs=[.ref l]/\SqL X.K H l (ss.map V.str)/\(ss.map (·.length)).sum+ss.length*z.length<=16777216/\Q (.str (Txt.join z ss)) H
theorem aei:MtM X "str.join" (agL (X:=X)):=by
 intro pins s σ H x vs v us Q I B J h;obtain⟨z,l,ss,rfl,rfl,L,O,q⟩:=h;obtain⟨t,rfl⟩:=B;obtain⟨u,rfl,S⟩:=J.one;cases S;obtain⟨its,r,Y,_⟩:=I.list L;exact join_list Y.isList (by simpa using gQ r) O λZ k=>⟨.str _,H,I.tok _,⟨Z,rfl⟩,q⟩
end
mutual
inductive Sees(H:Hp):V->PyData->Prop
 |non:Sees H .non .none
 |bl (b:Bool):Sees H (.bl b) (.bool b)
 |int (i:Int):Sees H (.int i) (.int i)
 |str (x:Str):Sees H (.str x) (.str x)
 |lst {a:Addr} {vs:List V} {ds:List PyData}:H a=some (.lst vs)->SeesAll H vs ds->Sees H (.ref a) (.list ds)
 |tup {a:Addr} {vs:List V} {ds:List PyData}:H a=some (.tup vs)->SeesAll H vs ds->Sees H (.ref a) (.tuple ds)
inductive SeesAll(H:Hp):List V->List PyData->Prop
 |nil:SeesAll H [] []
 |cons {v:V} {vs:List V} {d:PyData} {ds:List PyData}:Sees H v d->SeesAll H vs ds->SeesAll H (v::vs) (d::ds)
end
mutual
theorem Sees.reads{P:Program}{w:World}{H:Hp}{h:Heap}(ok:HOk P w H h):∀{d:PyData} {v:V} {u:Value},Sees H v d->RelV v u->∃z,Reads h u d z
 |_,_,_,.non,r=>by cases r;exact⟨_,.none⟩
 |_,_,_,.bl b,r=>by cases r;exact⟨_,.bool b⟩
 |_,_,_,.int i,r=>by obtain⟨t,rfl⟩:=r;exact⟨_,.int i t⟩
 |_,_,_,.str x,r=>by obtain⟨t,rfl⟩:=r;exact⟨_,.str x t⟩
 |_,_,_,.lst e q,r=>by
  cases r;obtain⟨_,its,n,B,g⟩:=ok _ _ e;obtain⟨z,J⟩:=SeesAll.reads ok q B;exact⟨_,.list g rfl rfl (by simpa using J)⟩
 |_,_,_,.tup e q,r=>by
  cases r;obtain⟨_,its,B,o,g,L,n,O⟩:=ok _ _ e;obtain⟨z,J⟩:=SeesAll.reads ok q B;exact⟨_,.tuple g L O (by simpa using J)⟩
theorem SeesAll.reads{P:Program}{w:World}{H:Hp}{h:Heap}(ok:HOk P w H h):∀{ds:List PyData} {vs:List V} {us:List Value},SeesAll H vs ds->Vals vs us->∃z,ReadsAll h us ds z
 |_,_,_,.nil,r=>by cases r;exact⟨_,.nil⟩
 |_,_,_,.cons a b,r=>by
  cases r with
  |cons B J=>
   obtain⟨_,x⟩:=Sees.reads ok a B;obtain⟨_,y⟩:=SeesAll.reads ok b J;exact⟨_,.cons x y⟩
end
theorem SeesAll.strs{H}:∀ss:List _,SeesAll H (ss.map V.str) (ss.map PyData.str)
 |[]=>.nil
 |s::r=>.cons (.str s) (SeesAll.strs r)
section
variable {X:Cx}
def agz(A:Around)(neg:Bool):R2:=λx y H Q=>∃da db,Sees H x da/\Sees H y db/\da.canLay0=true/\db.canLay0=true/\A.units+min da.depth db.depth<cLine/\Q (.bl (if neg then !PyData.eqv da db else PyData.eqv da db)) H
theorem afC:OpR X (compareOp .Eq) (agz X.A false):=by
 intro pins s σ H x y v u Q I z B h;obtain⟨da,db,J,sb,L,O,S,q⟩:=h;obtain⟨_,Y⟩:=J.reads I.hok z;obtain⟨_,Z⟩:=sb.reads I.hok B;exact SeqAt.rcAt_reads Y Z L O S _ _ _ _ ⟨.bl _,H,I,rfl,q⟩
theorem uf:OpR X (compareOp .NotEq) (agz X.A true):=by
 intro pins s σ H x y v u Q I z B h;obtain⟨da,db,J,sb,L,O,S,q⟩:=h;obtain⟨_,Y⟩:=J.reads I.hok z;obtain⟨_,Z⟩:=sb.reads I.hok B;exact SeqAt.compareNe_reads Y Z L O S ⟨.bl _,H,I,rfl,q⟩
def Itn(n:Nat)(val:Nat->V->Prop):It:=⟨λi _=>i<n,λi H x H'=>H'=H/\val i x,λi _=>i=n⟩
theorem qQ{P w K x p I n Pv St val}
 (W:∀A':_,A'.handled=none->Walks P w A' I [I] [I] n Pv St)(ho:∀i h,St i h->∃o,h.get? I=some o/\∀v,o.data≠.cell v)(hv:∀i u,Pv i u->∃v,RelV v u/\val i v)
 (z:∀A i s Q E,St i s.heap->Q (.ref I) s->wpAny (model P w) A (pyIter (.ref I)) Q E s):
 ab5 P w K (.Name x p) (Itn n val) [I] I St where
 mem:=by simp
 obj:=λi h st b B=>by
  have e:=by simpa using B
  subst e;exact ho i h st
 keep:=(W {handled:=none,depth:=0,frames:=none,guards:=none,units:=0} rfl).frame
 item:=by
  intro X hP hw hK O i pins s σ H E J L st S;obtain⟨Y,Z,f2,f3,f4,f5⟩:=L I (by simp);refine (W _ (J.ok.hd O)).item i s _ _ S st λv h' tk ad ae kk=>?_;obtain⟨y,ry,vy⟩:=hv i v ad;have J1:Inv X _ σ H {s with heap:=h',toks:=tk}:=J.turned (λb o B e=>kk b o (by simpa using B) e) Y Z f3 f4 f5;exact⟨v,rfl,ah0 ⟨y,H,J1,ry,⟨rfl,vy⟩,ae,λb B=>(L b B).1⟩⟩
 done:=by
  intro X hP hw hK O i pins s σ H E J L st S;subst hP hw hK;obtain⟨Y,Z,f2,f3,f4,f5⟩:=L I (by simp);have e:=S;subst e;exact (W _ (J.ok.hd O)).done s _ _ st λh' tk kk=>⟨rfl,J.turned (λb o B e=>kk b o (by simpa using B) e) Y Z f3 f4 f5⟩
 self:=z
theorem pQ{h:Heap}{I n x t i}(st:h.IsStrIter I n x t i):∃o,h.get? I=some o/\∀v,o.data≠.cell v:=by
 obtain⟨o,e,_,d⟩:=st;simp_all
def ItS(z:Str):It:=Itn z.cps.size λi v=>∃c,z.cps[i]?=some c/\v=.str ⟨#[c]⟩
def ahG(tl:TE):TI:=λσ H R=>tl σ H λx H1=>∃z,x=.str z/\R (ItS z) H1
theorem xf{z} i u (h:SignAt z i u):∃v,RelV v u/\∃c,z.cps[i]?=some c/\v=.str ⟨#[c]⟩:=by
 obtain⟨c,t,e,rfl⟩:=h;exact⟨.str _,⟨t,rfl⟩,c,e,rfl⟩
theorem agq{l tl x p}(Y:PE X l tl):PI X (.Name x p) l (ahG tl):=by
 intro pins s σ H R I h;refine thn (Y _ s σ H _ I h) λv B ⟨y,H1,L,Z,q1⟩=>?_;obtain⟨z,rfl,q⟩:=q1;obtain⟨t,rfl⟩:=Z;have J:∀o,Inv X _ σ H1 {B with heap:=B.heap.push o}:=λo=>L.kept  λb o=>ahX _;have S:∀b∈[B.heap.objs.size],gI X _ H1 b:=λb hb=>by
  have e:=by simpa using hb
  subst e;exact L.fpOk (ah4 _) L.fresh
 cases ha:z.cps.all _
 .refine wpAny_pyIter_wide ha ⟨B.heap.objs.size,[B.heap.objs.size],_,ItS z,H1,rfl,J _,qQ (λA' O=>Walks.strWide O _ z t) (λi h=>pQ) xf (λA i s Q E=>wpAny_pyIter_striter_wide),⟨_,aib _ rfl,rfl,rfl⟩,S,q⟩
 .refine wpAny_pyIter_ascii ha ⟨B.heap.objs.size,[B.heap.objs.size],_,ItS z,H1,rfl,J _,qQ (λA' O=>Walks.strAscii O _ z t) (λi h=>pQ) xf (λA i s Q E=>wpAny_pyIter_striter_ascii),⟨_,aib _ rfl,rfl,rfl⟩,S,q⟩
def ahL:V->Option Int->Option Int->Hp->VK->Prop:=λx lo hi H Q=>∃z:Str,x=.str z/\z.length<=sizeLine/\Q (.str (Txt.slice z lo hi)) H
theorem abn:SlR X ahL:=by
 intro pins s σ H x v vl vu lo hi sl Q I rx hs pl pu h;obtain⟨z,rfl,L,q⟩:=h;obtain⟨t,rfl⟩:=rx;refine⟨"str",_,PySem.F.slot_str_getitem.lookup,typeIs_str _ _ _,?_⟩;obtain⟨o,O,S,Y⟩:=hs;have J:∀B k,EP X pins σ Q _ {s with toks:=k}:=λB k=>⟨.str _,H,I.tok _,⟨B,rfl⟩,q⟩;cases pl with
 |none=>
  cases pu with
  |none=>exact akr (l:=none) (u:=none) (st:=none) ⟨o,O,S,Y⟩ rfl (alX ⟨aij (am6 z _ _) L,λB=>J B⟩)
  |int j Z=>exact akr (l:=none) (u:=some (j,Z)) (st:=none) ⟨o,O,S,Y⟩ rfl (alX ⟨aij (am6 z _ _) L,λB k=>J B k⟩)
 |int i ti=>
  cases pu with
  |none=>exact akr (l:=some (i,ti)) (u:=none) (st:=none) ⟨o,O,S,Y⟩ rfl (alX ⟨aij (am6 z _ _) L,λB k=>J B k⟩)
  |int j Z=>exact akr (l:=some (i,ti)) (u:=some (j,Z)) (st:=none) ⟨o,O,S,Y⟩ rfl (alX ⟨aij (am6 z _ _) L,λB k=>J B k⟩)
end
open PySem.Builtin PySem.Builtin.Str in
theorem nY z (a b:Nat)(B:a<=b)(J:b<=z.length):(Txt.slice z (some a) (some b)).cps.toList=(z.cps.toList.drop a).take (b-a):=by
 unfold Txt.slice;have e:=StrLaws.sliced_plain z B J;split
 .rename_i h;rw[StrLaws.strSliceIndices_plain B J]at h;simp only[ahY,akl,aiK,ait]at h;have L:a=0:=by lia
  have O:z.cps.toList.length=z.length:=rfl;grind
 .rw[e]
def iH(scope outer:Scope):List (Str×NameKind):=
 scope.names.map λ(n,k)=>if (k == .free&&outer.kind == .function&&outer.names.lookup n==some .cell) then (n,.cell) else (n,k)
def gx(outer scope:Scope)(N N':List Str)(nl:Nat)(ix:List Nat):Bool:=
 (scope.kind == .function&&scope.names.all λx=>x.2 !=.cell&&(x.2 !=.local||scope.names.lookup x.1==some .local)&&(x.2 !=.free||outer.names.lookup x.1==some .cell)) &&
 (N'.length==nl+ix.length&&(List.range ix.length).all λk=>match ix[k]? with
  |none=>false
  |some j=>match N[j]? with
   |none=>false
   |some x=>N'[nl+k]?==some x&&outer.names.lookup x==some .cell&&(iH scope outer).lookup x==some .cell&&decide ((x,NameKind.free)∈scope.names))
theorem eQ{X:Cx}{outer scope:Scope}{N N':List Str}{nl:Nat}{ix:List Nat}(h1:X.env.scope=outer)(h2:X.N=N)(h:gx outer scope N N' nl ix=true):CompScope X scope/\abf X scope N' nl ix:=by
 unfold gx at h;simp only[aiK,aiZ,ait,bne_iff_ne,ak9,ne_eq,ajL]at h;obtain⟨⟨O,J⟩,S,Y⟩:=h;have kd:∀x,X.env.kindOf x=outer.names.lookup x:=λx=>by rw[←h1];rfl
 refine⟨⟨O,λx B=>(J x B).1.1,λx B e=>?_,λx B e=>?_⟩,⟨S,λk j e=>?_⟩⟩
 .rcases (J x B).1.2 with z|z<;>simp_all
 .rcases (J x B).2 with z|z<;>simp_all
 .have L:k<ix.length:=(ahW.mp e).1;have q:=Y k L;rw[e]at q;simp only at q;cases ex:N[j]? with
  |none=>simp_all
  |some x=>
   rw[ex]at q;simp only[aiK,ait,ajr]at q;obtain⟨⟨⟨Z,q2⟩,q3⟩,q4⟩:=q;refine⟨x,by rw[h2];exact ex,Z,by rw[kd];exact q2,?_,q4⟩;have er:(relabel scope X.env).names=iH scope outer:=by rw[←h1];rfl
   simp_all
def Nx(n i:Nat)(p:Prop):Prop:=∃m',m'<n-i/\m'=n-(i+1)/\i+1<=n/\p
theorem nx{n i p}(h:i<n)(q:p):Nx n i p:=⟨n-(i+1),by lia,rfl,h,q⟩
def cq(nl:Nat)(ix:List Nat)(g:TG)(tf:TT)(te:TE)(σ:St)(D:Addr)(ys:List V)(H:Hp)(x:V)(nxt:List V->Hp->Prop):Prop:=
 g x (cC nl ix σ) H λσ4 H4=>(σ4.length=(cC nl ix σ).length/\σ4.drop nl=ix.map λj=>(σ[j]?).join)/\tf σ4 H4 λb H5=>
  if b=true then te σ4 H5 λy H6=>H6 D=some (.lst ys)/\ys.length<sizeLine/\nxt (ys++[y]) (upd H6 D (.lst (ys++[y]))) else nxt ys H5
def gK(nl:Nat)(ix:List Nat)(g:TG)(tf:TT)(te:TE)(σ:St)(J:It)(H1:Hp)(D:Addr)(Q:VK):Prop:=
 ∃W:Nat->Nat->List V->Hp->Prop,(∃m,W 0 m [] (upd H1 D (.lst [])))∧
 ∀i m ys H2,W i m ys H2->H2 D=some (.lst ys)/\((J.stop i H2/\Q (.ref D) H2)\/(J.go i H2/\∀x H3,J.yld i H2 x H3->cq nl ix g tf te σ D ys H3 x λys' H'=>∃m',m'<m/\W (i+1) m' ys' H'))
theorem aH nl ix wi g tf te σ H Q (h:wi σ H λJ H1=>∀D,H1 D=none->gK nl ix g tf te σ J H1 D Q):iO nl ix wi g tf te σ H Q:=h
section
variable {nl:Nat}{ix:List Nat}{g:TG}{tf:TT}{te:TE}{σ:St}{H1:Hp}{D:Addr}{Q:VK}(Pv:Nat->List V->Hp->Prop)
theorem qg{J:It}{n:Nat}(L:Pv 0 [] (upd H1 D (.lst [])))(O:∀i ys H,Pv i ys H->H D=some (.lst ys))(S:∀i ys H,i<n->Pv i ys H->J.go i H)(stop:∀ys H,Pv n ys H->J.stop n H)
 (Y:∀i ys H x H',i<n->Pv i ys H->J.yld i H x H'->cq nl ix g tf te σ D ys H' x λB H'=>Nx n i (Pv (i+1) B H'))
 (Z:∀ys H,Pv n ys H->Q (.ref D) H):gK nl ix g tf te σ J H1 D Q:=by
 refine⟨λi m ys H=>m=n-i/\i<=n/\Pv i ys H,⟨n,by simp,ail _,L⟩,?_⟩;rintro i m ys H ⟨rfl,hi,p⟩;refine⟨O i ys H p,?_⟩;by_cases z:i<n
 .exact .inr ⟨S i ys H z p,λx H' y=>Y i ys H x H' z p y⟩
 .have e:i=n:=by lia
  subst e;exact .inl ⟨stop ys H p,Z ys H p⟩
theorem lQ{lo n}(B:Pv 0 [] (upd H1 D (.lst [])))(J:∀i ys H,Pv i ys H->H D=some (.lst ys))
 (O:∀i ys H,i<n->Pv i ys H->cq nl ix g tf te σ D ys H (.int (lo+i)) λz H'=>Nx n i (Pv (i+1) z H'))(L:∀ys H,Pv n ys H->Q (.ref D) H):gK nl ix g tf te σ (Itr lo n) H1 D Q:=by
 refine qg  Pv B J (λ_ _ _ hi _=>hi) (λ_ _ _=>ah4 _) (λi ys H x H' hi p y=>?_) L;obtain⟨e,y⟩:=y;simp_all
theorem bB{K a xs}(J:Pv 0 [] (upd H1 D (.lst [])))(L:∀i ys H,Pv i ys H->H D=some (.lst ys))(z:∀i ys H,Pv i ys H->SqL K H a xs)
 (O:∀i ys H x,xs[i]?=some x->Pv i ys H->cq nl ix g tf te σ D ys H x λB H'=>Nx xs.length i (Pv (i+1) B H'))(S:∀ys H,Pv xs.length ys H->Q (.ref D) H):gK nl ix g tf te σ (Itl K a) H1 D Q:=by
 refine qg  Pv J L (λi ys H hi p=>⟨xs,xs[i],z i ys H p,by simp ⟩) (λys H p=>⟨xs,z _ ys H p,ah4 _⟩) (λi ys H x H' hi p y=>?_) S;obtain⟨e,y⟩:=y;subst e;exact O i ys H' x (y xs (z i ys H' p)) p
theorem ab1{z}(J:Pv 0 [] (upd H1 D (.lst [])))(L:∀i ys H,Pv i ys H->H D=some (.lst ys))
 (S:∀i ys H c,z.cps[i]?=some c->Pv i ys H->cq nl ix g tf te σ D ys H (.str ⟨#[c]⟩) λB H'=>Nx z.cps.size i (Pv (i+1) B H'))(O:∀ys H,Pv z.cps.size ys H->Q (.ref D) H):gK nl ix g tf te σ (ItS z) H1 D Q:=by
 refine qg  Pv J L (λ_ _ _ hi _=>hi) (λ_ _ _=>rfl) (λi ys H x H' hi p y=>?_) O;obtain⟨e,c,Y,ex⟩:=y;simp_all
end
section
variable {X:Cx}{K:PySem.W.Frag}
theorem jH(z:X.K=K):IxR X (zo K):=by subst z;exact cf
theorem t4(z:X.K=K):gn X (.builtin "len") (λxs H Q=>∃p ys,xs=[.ref p]/\(SqL K H p ys\/SqT K H p ys)/\Q (.int ys.length) H):=by subst z;exact bE
theorem yd(z:X.K=K):gn X (.type "list") (λxs H Q=>∃p ys,xs=[.ref p]/\(SqL K H p ys\/SqT K H p ys)/\∀l,H l=none->Q (.ref l) (upd H l (.lst ys))):=by subst z;exact gB
theorem bZ{pos es k t n}(B:X.K=K)(J:X.calm=true)(h:PGs X es t)(L:(assignEach es X.env).length=n:=by rfl)(z:(assignEach es X.env).findIdx? (·.1)=none:=by rfl):PG X (.Tuple es k pos) (vh K n t):=by
 subst B;exact gb J h L z
end
theorem dy{nl ix te σ D ys H x nxt i}(h1:((cC nl ix σ).set i (some x)).drop nl=ix.map λj=>(σ[j]?).join)
 (h:te ((cC nl ix σ).set i (some x)) H λy z=>z D=some (.lst ys)/\ys.length<sizeLine/\nxt (ys++[y]) (upd z D (.lst (ys++[y])))):cq nl ix (aR i) nh te σ D ys H x nxt:=by
 unfold cq aR nh;simp_all
section
variable {X:Cx}
theorem fG:gn X (.builtin "isinstance") (λxs H Q=>∃x T t b,xs=[x,.ty T]/\yr X.K H x t/\kitOne X.K t (.type T)=some b/\Q (.bl b) H):=by
 intro pins s σ H xs J Q I r h;obtain⟨x,T,t,b,rfl,ty,e,q⟩:=h;obtain⟨u,v,rfl,z,B⟩:=adl r;cases B;exact abj I z ty e λtk=>⟨.bl b,H,I.tok _,rfl,q⟩
theorem kF K n:kitOne K (.type n) (.type n)=some true:=by
 unfold kitOne;simp_all
end
def leS(a b:Str):Prop:=ltCps b.cps.toList a.cps.toList=false
theorem leS_iff{a b}:leS a b↔a.cps.toList<=b.cps.toList:=by
 unfold leS;rw[ltCps_eq];simp_all
theorem tD{a b}(h1:leS a b)(h2:leS b a):a=b:=by
 have e:=akX (leS_iff.mp h1) (leS_iff.mp h2);cases a;simp_all
theorem u0{a b c}(h1:leS a b)(h2:leS b c):leS a c:=leS_iff.mpr (List.le_trans (leS_iff.mp h1) (leS_iff.mp h2))
theorem pL:∀{l} {p},risingS p l=true->(∀x∈l,leS p x)/\l.Pairwise leS
 |[],p,_=>⟨by grind,List.Pairwise.nil⟩
 |y::r,p,h=>by
  have h':(!ltCps _ _&&risingS y r)=true:=h;rw[aiK,amx]at h';obtain⟨z,J⟩:=pL h'.2;have B:=h'.1;refine⟨λx hx=>?_,List.Pairwise.cons z J⟩;rcases ain.mp hx with rfl|hx
  .exact B
  .exact u0 B (z x hx)
theorem eU:∀{l},sortedS l=true->l.Pairwise leS
 |[],_=>List.Pairwise.nil
 |_::_,h=>let ⟨a,b⟩:=pL h;List.Pairwise.cons a b
theorem lK:∀{B z:List _},B.Pairwise leS->z.Pairwise leS->B.Perm z->B=z
 |[],z,_,_,p=>(List.nil_perm.mp p).symm▸rfl
 |a::r,[],_,_,p=>absurd p.length_eq (by simp)
 |a::r,b::t,h1,h2,p=>by
  have J:leS a b:=by
   rcases ain.mp (p.mem_iff.mpr aid) with e|hb
   .subst e;exact leS_iff.mpr (List.le_refl _)
   simp_all
  have L:leS b a:=by
   rcases ain.mp (p.mem_iff.mp aid) with e|ha<;>simp_all
  have e:=tD J L;subst e;rw[lK (ajQ.mp h1).2 (ajQ.mp h2).2 p.cons_inv]
theorem xu{K nl ix te σ D ys H x nxt i j} a B z (L:x=.ref a)(O:SqT K H a [B,z])
 (h1:(((cC nl ix σ).set i (some B)).set j (some z)).drop nl=ix.map λj=>(σ[j]?).join)
 (h:te (((cC nl ix σ).set i (some B)).set j (some z)) H λy J=>J D=some (.lst ys)/\ys.length<sizeLine/\nxt (ys++[y]) (upd J D (.lst (ys++[y])))):
 cq nl ix (vh K 2 (dr (aR i) (dr (aR j) vj))) nh te σ D ys H x nxt:=by
 subst L;unfold cq vh dr aR vj nh;dsimp only;exact⟨a,[B,z],rfl,O,rfl,B,[z],rfl,z,[],rfl,rfl,⟨by simp,h1⟩,h⟩
open PySem.Builtin PySem.Builtin.Str in
theorem afT(j n:Nat):strSliceIndices none (some j) 1 n=strSliceIndices (some (0:Nat)) (some (min j n:Nat)) 1 n:=by
 unfold strSliceIndices;grind
open PySem.Builtin PySem.Builtin.Str in
theorem acD(i n:Nat):strSliceIndices (some (i:Int)) none 1 n=strSliceIndices (some ((min i n:Nat):Int)) (some ((n:Nat):Int)) 1 n:=by
 unfold strSliceIndices;have h1:¬ ((i:Int)<0):=by lia
 have h2:¬ (((min i n:Nat):Int)<0):=by lia
 have z:¬ (((n:Nat):Int)<0):=by lia
 simp only[h1,h2,z,ak4,show ((1:Int)>0)=True from by simp,anE];congr 1<;>lia
theorem xJ z (j:Nat):(Txt.slice z none (some j)).cps.toList=z.cps.toList.take j:=by
 have e:Txt.slice z none (some j)=Txt.slice z (some (0:Nat)) (some (min j z.length:Nat)):=by
  unfold Txt.slice;rw[afT]
 rw[e,nY z 0 _ (ail _) (amU _ _),akQ,Nat.sub_zero];have B:z.cps.toList.length=z.length:=rfl;grind
theorem y3(z:Str)(i:Nat):(Txt.slice z (some (i:Int)) none).cps.toList=z.cps.toList.drop i:=by
 have e:Txt.slice z (some (i:Int)) none=Txt.slice z (some ((min i z.length:Nat):Int)) (some ((z.length:Nat):Int)):=by
  unfold Txt.slice;rw[acD]
 have B:z.cps.toList.length=z.length:=by simp[Str.length]
 rw[e,nY z (min i z.length) z.length (amU _ _) (ah4 _)];by_cases h:i<=z.length
 .rw[akm h,aiS (by rw[ajS];lia)]
 .rw[Nat.min_eq_right (by lia),akd,aml,aj8 (by lia)]
theorem adx{α:Type}[DecidableEq α]:∀(n:Nat) (g:Nat->α) (l:List α),(∀i j,i<n->j<n->g i=g j->i=j)->(∀i,i<n->g i∈l)->n<=l.length
 |0,_,_,_,_=>ail _
 |n+1,g,l,inj,mem=>by
  have z:=mem n (akb n);have B:=adx n g (l.erase (g n)) (λi j hi J e=>inj i j (by lia) (by lia) e) λi hi=>by
   have ne:g i≠g n:=λe=>by have:=inj i n (by lia) (by lia) e;lia
   exact (alJ ne).mpr (mem i (by lia))
  have L:=amy z;have O:0<l.length:=am1 z;lia
section
variable {M:Model}{A:Around}{E:Value->Shared->Prop}{s:Shared}
theorem rF{z n Q}(B:n≠0)(h:∀i,i<n->Q i {s with drawn:=s.drawn.bump z}):wpAny M A (choose z n) Q E s:=λ_ _ _=>
 ⟨B,h _ (Nat.mod_lt _ (Nat.pos_of_ne_zero B))⟩
theorem iq{α:Type}:∀xs i (x:α),xs[i]?=some x->(x::xs.eraseIdx i).Perm xs
 |[],_,_,h=>by simp at h
 |y::r,0,x,h=>by simp_all
 |y::r,i+1,x,h=>by
  have h':=by simpa using h
  exact (List.Perm.swap y x _).trans ((iq r i x h').cons y)
theorem iU{α}:∀n (xs:List α) s Q,xs.length=n->(∀ys d,ys.Perm xs->Q ys {s with drawn:=d})->wpAny M A (drawOrder n xs) Q E s
 |0,xs,s,Q,hl,h=>by
  have e:=ala.mp hl;subst e;exact ah0 (h [] _ .rfl)
 |n+1,[],s,Q,hl,h=>by simp at hl
 |n+1,y::r,s,Q,hl,h=>by
  refine ahV (rF (by simp) λi hi=>?_);have z:=ahU hi;rw[z];exact ahV (iU n _ _ _ (by rw[List.length_eraseIdx_of_lt hi];simpa using hl) λys d p=>ah0 (h _ d ((p.cons _).trans (iq _ i _ z))))
theorem oI{α} next:∀fuel k left (out:Array α),left.length=fuel->(pickOrder.go next fuel k left out).toList.Perm (out.toList++left)
 |0,k,left,out,h=>by
  have e:=ala.mp h;subst e;unfold pickOrder.go;simp
 |fuel+1,k,left,out,h=>by
  unfold pickOrder.go;have z:0<left.length:=by lia
  have hi:next k%left.length<left.length:=Nat.mod_lt _ z
  rw[ahU hi];refine (oI _ _ _ _ _ (by grind)).trans ?_;rw[alo,aim];exact (iq _ _ _ (ahU hi)).append_left _
theorem jP{α} next (xs:Array α):(pickOrder next xs).toList.Perm xs.toList:=by
 unfold pickOrder;simpa using oI _ _ 0 xs.toList #[] (rfl)
end
theorem yp t es h x:(layNew t es h x).2.1.led=t.led:=by
 unfold layNew;split
 .dsimp only;unfold SetTable.orStandIn;split<;>rfl
 .rfl
theorem tO t es n:(relayAll t es n).2.1.led=t.led:=by
 unfold relayAll;split
 .rename_i t' order e;have z:t'.led=t.led:=by
   unfold SetTable.relaid SetTable.laid at e;simp only[Option.bind_eq_bind,amJ]at e;obtain⟨B,_,e⟩:=e;simp only[Option.pure_def,amz,Prod.mk.injEq]at e;rw[←e.1]
  dsimp only;split
  .exact z
  .rfl
 .rfl
theorem pW t es n (h:t.plain=false):(relayAll t es n).2.1.plain=false:=by
 unfold relayAll;split
 .rename_i t' order e;have z:t'.plain=t.plain:=by
   unfold SetTable.relaid SetTable.laid at e;simp only[Option.bind_eq_bind,amJ]at e;obtain⟨B,_,e⟩:=e;simp only[Option.pure_def,amz,Prod.mk.injEq]at e;rw[←e.1]
  dsimp only;split
  .simp_all
  .rfl
 .rfl
structure TxAt(prog:Program)(w:World)(h:Heap)(a:Addr)(es:Array (Int×Value))(ep:Nat)(t:SetTable):Prop where
 get:h.get? a=some {cls:=.type "set",dict:=none,data:=.set es ep t,slots:=#[] }
 el:ElemsOf (PySem.strKind prog w) es.toList
 bd:es.size<scanBound
 fit:t.fits es.size=true
 led:t.led=!w.params.followText "set-order"
 pl:t.plain=false\/es=#[]
def acd(es:Array (Int×Value)):List Str:=es.toList.map λe=>strOf e.2
def TxSet(prog:Program)(w:World)(h:Heap)(a:Addr)(ss:List Str):Prop:=∃es ep t,TxAt prog w h a es ep t/\acd es=ss/\ss.Nodup
section
variable {prog:Program}{w:World}{h h':Heap}{a:Addr}{es:Array (Int×Value)}{ep:Nat}{t:SetTable}{ss:List Str}
theorem TxAt.at'(x:TxAt prog w h a es ep t)(k:∀o,h.get? a=some o->h'.get? a=some o):TxAt prog w h' a es ep t:=⟨k _ x.get,x.el,x.bd,x.fit,x.led,x.pl⟩
theorem TxSet.at'(x:TxSet prog w h a ss)(k:∀o,h.get? a=some o->h'.get? a=some o):TxSet prog w h' a ss:=let ⟨es,ep,t,y,r⟩:=x;⟨es,ep,t,y.at' k,r⟩
theorem abN{l}(h:ElemsOf (PySem.strKind prog w) l){e}(J:e∈l):∃tk,e=(hashStr w (strOf e.2),.str (strOf e.2) tk):=by
 obtain⟨⟨k,L,z⟩,_⟩:=h e J;obtain⟨tk,B⟩:=alR L;obtain⟨O,v⟩:=e;simp only at B z;subst B;exact⟨tk,by rw[z];rfl⟩
theorem sV{k v x tk}(e:v=.str x tk):(PySem.strKind prog w).is k v=true↔k=x:=by
 subst e;constructor
 .intro h;have h':Value.isStrOf k (.str x tk)=true:=h;obtain⟨u,e⟩:=alR h';grind
 .intro h;subst h;show Value.isStrOf k (.str k tk)=true;simp[Value.isStrOf]
theorem adZ{l}(h:ElemsOf (PySem.strKind prog w) l) k:k∈l.map (λe=>strOf e.2)↔∃e∈l,(PySem.strKind prog w).is k e.2=true:=by
 rw[ah8];constructor
 .rintro⟨e,z,rfl⟩;obtain⟨tk,B⟩:=abN h z;exact⟨e,z,(sV (by rw[B];rfl)).mpr rfl⟩
 .rintro⟨e,z,J⟩;obtain⟨tk,B⟩:=abN h z;exact⟨e,z,((sV   (by rw[B];rfl)).mp J).symm⟩
theorem TxSet.setOf(x:TxSet prog w h a ss):h.SetOf (PySem.strKind prog w) a (λk=>decide (k∈ss)) ss.length:=by
 obtain⟨es,ep,t,y,e,n⟩:=x;subst e;refine⟨_,es,ep,t,y.get,⟨rfl,rfl,rfl⟩,rfl,y.el,λk=>?_,y.bd,y.fit,by simp[acd]⟩;rw[ajr];exact adZ y.el k
section
variable {A:Around}{E:Value->Shared->Prop}{s:Shared}
theorem jM{g:Bool->Sem _}(hg:∀b O Q',Q' () O->wpAny (model prog w) A (g b) Q' E O)
 (ho:s.heap.get? a=some {cls:=.type "set",dict:=none,data:=.set es ep t,slots:=#[] })
 {z B}(S:ElemsOf (PySem.strKind prog w) z.toList)
 (aa:z.size<scanBound)(aj:B.fits z.size=true)(ab:B.led=!w.params.followText "set-order")(ac:B.plain=false){J R}
 (h:∀h' L ak t',Heap.SameBut a s.heap h'->TxAt prog w h' a L ak t'->L.toList.Perm z.toList->R (some true) {s with heap:=h' }):
 wpAny (model prog w) A (do
  storeSet a z B
  if (!J&&B.tooFull)=true then do
   g (relayAll B z (SetTable.grown z.size)).2.2
   storeSet a (relayAll B z (SetTable.grown z.size)).1 (relayAll B z (SetTable.grown z.size)).2.1
   pure (some true)
   else pure (some true)) R E s:=by
 refine ahV (wpAny_storeSet_of ho rfl ?_ (alp aa));have up:∀{h0:Heap} {es0} {ep0} {t0} L t',h0.get? a=some {cls:=.type "set",dict:=none,data:=.set es0 ep0 t0,slots:=#[] }->(h0.update a _).get? a=some _:=λL t' q=>by
  have:=ajO (Obj.putSet L t') q (rfl);exact this
 have Z:=up z B ho;have Y:=aks s.heap a (Obj.putSet z B);split
 .have hp:=relayAll_perm B z (SetTable.grown z.size);have ad:=relayAll_fits B z (SetTable.grown z.size);have ae:=tO B z (SetTable.grown z.size);have af:=pW B z (SetTable.grown z.size) ac;generalize hRl:relayAll B _ _=Rl at hp ad ae af⊢;obtain⟨ag,t3,al⟩:=Rl;have as:ag.size=z.size:=by rw[←aiw,hp.length_eq,aiw]
  have ah:ag.size<scanBound:=by simp_all
  exact ahV (hg _ _ _ (ahV (wpAny_storeSet_of Z rfl (ah0 (h _ _ _ t3 (Y.trans (aks _ a _)) ⟨up _ t3 Z,S.perm hp,ah,ad,ae.trans ab,.inl af⟩ hp)) (alp ah))))
 .exact ah0 (h _ _ _ B Y ⟨Z,S,aa,aj,ab,.inl ac⟩ .rfl)
theorem f7{α:Type}{l:List α}{x:α}{z:List α}(B:l.Nodup)(J:x∉l)(p:z.Perm (l++[x])):z.Nodup:=by
 refine p.nodup_iff.mpr ?_;rw[ajG];refine⟨B,by simp,λa L b O e=>?_⟩;rw[ah5.mp O]at e;exact J (e▸L)
theorem jQ{x:Str}{tk:Tok}{Q:Bool->Shared->Prop}(hS:TxSet prog w s.heap a ss)(ag:ss.length+1<scanBound)
 (h:∀h' ah,Heap.SameBut a s.heap h'->TxSet prog w h' a ah->((x∈ss/\ah=ss)\/(x∉ss/\ah.Perm (ss++[x])))->Q (!decide (x∈ss)) {s with heap:=h' }):
 wpAny (model prog w) A (setAddHashed a (.str x tk) (hashStr w x)) Q E s:=by
 obtain⟨es,ep,t,T,e,nd⟩:=hS;subst e;have aa:(PySem.strKind prog w).is x (.str x tk)=true:=(sV rfl).mpr rfl;have ai:(Value.str x tk).scannable=true:=rfl;have aq:es.size+1<scanBound:=by simpa [acd]using ag
 have ab:=adZ T.el x;unfold setAddHashed setAddHashedIn;refine aix (ahV (akn T.get rfl T.fit ?_));dsimp only;rw[byScan_of ai T.bd T.el];simp only[↓reduceIte];unfold setAddByScan;refine ahV ?_;refine ahV (ajH ?_);refine ahV (wpAny_setScan_of (knd:=PySem.strKind prog w) aa T.get rfl T.fit T.el ?_);cases hr:List.findIdx? _ es.toList with
 |some j=>
  dsimp only;obtain⟨hj,ar,_⟩:=List.findIdx?_eq_some_iff_getElem.mp hr;have hx:x∈acd es:=ab.mpr ⟨es.toList[j],aiq hj,ar⟩;refine ah0 (ah0 ?_);have q:=h s.heap (acd es) (amA a s.heap) ⟨es,ep,t,T,rfl,nd⟩ (.inl ⟨hx,rfl⟩);rw[aiv hx]at q;exact q
 |none=>
  dsimp only;have hx:x∉acd es:=λhk=>by
   obtain⟨e,he,hp⟩:=ab.mp hk;have:=List.findIdx?_eq_none_iff.mp hr e he;grind
  have as:∀(b:Bool) {O:Shared} {Q':Unit->Shared->Prop},Q' () O->wpAny (model prog w) A (match b with|true=>rule "set.scan.the-table-gave-way" |false=>pure ()) Q' E O:=
   λb O Q' hq=>by cases b<;>first|exact ah0 hq|exact ajH hq
  have z:=layNew_perm t es (hashStr w x) (.str x tk);have B:=layNew_fits t es (hashStr w x) (.str x tk);have Y:=yp t es (hashStr w x) (.str x tk);generalize hL:layNew t es ((PySem.strKind prog w).hash x) (.str x tk)=L;have au:layNew t es (hashStr w x) (.str x tk)=L:=hL;rw[au]at z B Y⊢;obtain⟨aj,t1,am,av⟩:=L;dsimp only at z B Y⊢;rw[alo]at z;have ad:ElemsOf (PySem.strKind prog w) aj.toList:=(T.el.push aa ai).perm z;have ae:aj.size<scanBound:=by rw[←aiw,z.length_eq,ahZ,aiw];simpa using aq
  refine ahV (as _ ?_);have af:∀h' J S t',Heap.SameBut a s.heap h'->TxAt prog w h' a J S t'->J.toList.Perm aj.toList->Q true {s with heap:=h' }:=by
   intro h' J S t' Z T' p';have p2:=by
    have:=(p'.trans z).map (λe=>strOf e.2);simpa [acd,strOf]using this
   have q:=h h' (acd J) Z ⟨J,S,t',T',rfl,f7 nd hx p2⟩ (.inr ⟨hx,p2⟩);rw[aiC hx]at q;exact q
  split
  .refine ahV ?_;rw[hashByValue_scannable 8 ai];refine ah0 ?_;refine jM ?_ T.get ad ae ?_ ?_ ?_ ?_
   .intro b O Q' hq;cases b<;>first|exact ah0 hq|exact ajH hq
   .exact SetTable.fits_plain_off B
   .exact Y.trans T.led
   .rfl
   .intro h' J S t' Z T' p';dsimp only;exact ah0 (af h' J S t' Z T' p')
  .rename_i hpl;refine ahV (ah0 ?_);simp only[↓reduceIte];refine jM ?_ T.get ad ae B (Y.trans T.led) (by simpa using hpl) ?_
   .intro b O Q' hq;cases b<;>first|exact ah0 hq|exact ajH hq
   .intro h' J S t' Z T' p';dsimp only;exact ah0 (af h' J S t' Z T' p')
end
end
theorem pZ:entryFor table "set.__iter__" = some Builtin.«frozenset.__iter__» :=
 amm (id' := "frozenset.__iter__") (by kernel_rfl) rfl (by decide +kernel) (by kernel_rfl)
theorem slot_si_next:Slot "set_iterator" "__next__" "set_iterator.__next__" :=
 .of (owner := "set_iterator") (n := "__next__") (by kernel_rfl) (by decide +kernel) (by decide +kernel) (by decide +kernel)
  (by first|exact .inl (rfl) | grind) (by kernel_rfl)
theorem rV:entryFor table "set_iterator.__next__" = some Builtin.«set_iterator.__next__»:=entryFor_of_tree (by kernel_rfl)
theorem agu:Manifest.owners.lookup (String.ofList ['r','o','t','a','r','e','t','i','_','t','e','s'].reverse)=some Manifest.sig_set_iterator:=by kernel_rfl
theorem tE a:argsOk "set_iterator.__next__" ⟨[a],[]⟩:=by
 kernel_rfl
theorem mO:Slot "set_iterator" "__iter__" "set_iterator.__iter__" :=
 .of (owner := "set_iterator") (n := "__iter__") (by kernel_rfl) (by decide +kernel) (by decide +kernel) (by decide +kernel)
  (by first|exact .inl (rfl) | grind) (by kernel_rfl)
theorem rC:entryFor table "set_iterator.__iter__" = some Builtin.«dict_keyiterator.__iter__» :=
 amm (id' := "dict_keyiterator.__iter__") (by kernel_rfl) rfl (by decide +kernel) (by kernel_rfl)
theorem uo a:argsOk "set_iterator.__iter__" ⟨[a],[]⟩:=by
 kernel_rfl
def SIter(h:Heap)(it a:Addr)(first:Value)(i n ep:Nat):Prop:=
 ∃o,h.get? it=some o/\o.cls=.type "set_iterator" ∧ o.data=.fields #[first,.int i 0,.ref a,.int n 0,.int ep 0]
theorem SIter.typeIs{s:Shared}{it a first i n ep}(x:SIter s.heap it a first i n ep):s.TypeIs (.ref it) "set_iterator" := let ⟨o,z,B,_⟩:=x;⟨o,z,B⟩
theorem SIter.at'{h h' it a first i n ep}(x:SIter h it a first i n ep)(k:∀o,h.get? it=some o->h'.get? it=some o):SIter h' it a first i n ep:=let ⟨o,z,r⟩:=x;⟨o,k _ z,r⟩
section
variable {prog:Program}{w:World}{A:Around}{E:Value->Shared->Prop}{s:Shared}{a I:Addr}{es:Array (Int×Value)}{ep:Nat}{t:SetTable}
theorem lC(es:Array (Int×Value)){ps:List _}(h:ps.Perm (List.range es.size)):(ps.filterMap λp=>es[p]?).Perm es.toList:=by
 have:=h.filterMap λp=>es[p]?;rwa [filterMap_getElem?_range]at this
theorem mn(es:Array (Int×Value)):∀(ps:List _),(∀p∈ps,p<es.size)->∀i:Nat,(ps.filterMap λp=>es[p]?)[i]?=(ps[i]?).bind λp=>es[p]?
 |[],_,i=>by simp
 |p::r,h,i=>by
  have B:=h p aid;rw[List.filterMap_cons_some (b:=es[p]) (by simp )];cases i with
  |zero=>simp
  |succ i=>
   exact mn es r (λq z=>h q (aih _ z)) i
theorem acL{Q}{z:Shared}(J:A.handled=none)(L:∀h',(∀b o,z.heap.get? b=some o->h'.get? b=some o)->Q none {z with heap:=h' }):
 wpAny (model prog w) A.in1 (do raiseNew (←newExc (.type "StopIteration") [])) (λB s'=>∃r,B=Fin.done (.ret r)/\wpAny (model prog w) A (match Except.ok  (some r) with | .ok (some v)=>pure (some v) | .ok none=>unsupported "x" |.error e=>throw e) Q E s')
  (λe s'=>wpAny (model prog w) A (do if ←isInstance e (.type "StopIteration") then pure none else throw e) Q E s') z:=by
 refine ahV ?_;refine ahV (m:=firstArgMember _ _) (anI  (rfl) ?_);refine ajc ?_ (by size_fits);refine ahV (wpAny_handled ?_);rw[J];refine ahV (ah0 (wpAny_throw ?_));refine ahV (alA   ⟨_,aib _ rfl,rfl⟩ isSubtype_stop ?_);exact ah0 (L _ λb o e=>ahX _ (ahX _ e))
end
def l0(es:Array (Int×Value))(t:SetTable)(slot:Nat):Option (Value×Nat):=
 match es[SetTable.below t.place slot]?,t.place[SetTable.below t.place slot]? with
  |some (_,x),some j=>some (x,j+1)
  |_,_=>none
def afO(b:Bool):Sem Unit:=do
 if b then unsupported "set:maker-not-led"
theorem aeR a:setDrawn a=(do
 let (es,_,t) ←setState a
 let byText ←setsByText
 return !byText&&(!t.plain&&decide (es.size>1))):=rfl
theorem afd a:setWalk a=(do
 let (es,epoch,t) ←setState a
 if ←setsByText then return pickOrder ((←ask).params.setOrder a epoch) es
 if (!t.plain&&decide (es.size>1)) then return (←drawOrder es.size es.toList).toArray
 afO (!t.led&&decide (es.size>1)) >>= λ_=>pure es):=rfl
theorem qF a B J z:setNext a B J z=(do
 let (es,epoch,t) ←setState a
 if ←setsByText then
  if epoch !=z then unsupported "set_iterator.__next__:elements-changed"
  return ((←setWalk a)[J]?).map λe=>(e.2,B)
 if (!t.plain&&decide (es.size>1)) then unsupported "set_iterator.__next__:the-table-is-plain-no-more"
 afO (!t.led&&!es.isEmpty) >>= λ_=>pure (l0 es t B)):=rfl
section
variable {prog:Program}{w:World}{A:Around}{E:Value->Shared->Prop}{s:Shared}{a I T:Addr}{es:Array (Int×Value)}{ep:Nat}{t:SetTable}{ps:List Nat}
theorem df{Q}(h:Q (w.params.followText "set-order") s):wpAny (model prog w) A setsByText Q E s:=ahV (akc (ah0 h))
end
section
variable {prog:Program}{w:World}{A:Around}{E:Value->Shared->Prop}{s:Shared}{a I T:Addr}{es:Array (Int×Value)}{ep:Nat}{t:SetTable}{ps:List Nat}{i:Nat}
theorem wD{f x n Q}(z:SIter s.heap I a f i n ep)(h:∀h',SIter h' I a x i n ep->Heap.SameBut I s.heap h'->Q () {s with heap:=h' }):wpAny (model prog w) A (setField (.ref I) 0 x) Q E s:=by
 obtain⟨o,J,L,B⟩:=z;refine wpAny_setField J B (by simp) (h _ ⟨_,ajO _ J (Obj.isFreed_of_fields (alb B _)),(Obj.cls_mapFields ..).trans L,by rw[alb B];simp⟩ (aks ..))
theorem abu{f n Q}(z:SIter s.heap I a f i n ep)(h:∀h',SIter h' I a f (i+1) n ep->Heap.SameBut I s.heap h'->Q () {s with heap:=h' }):wpAny (model prog w) A (setField (.ref I) 1 (rawInt (i+1))) Q E s:=by
 obtain⟨o,J,L,B⟩:=z;refine wpAny_setField J B (by simp) (h _ ⟨_,ajO _ J (Obj.isFreed_of_fields (alb B _)),(Obj.cls_mapFields ..).trans L,by rw[alb B];simp[rawInt]⟩ (aks ..))
theorem wt{f n Q}(z:SIter s.heap I a f i n ep)(h:∀h',Heap.SameBut I s.heap h'->Q () {s with heap:=h' }):wpAny (model prog w) A (setField (.ref I) 2 .none) Q E s:=by
 obtain⟨o,B,L,J⟩:=z;exact wpAny_setField B J (by simp) (h _ (aks ..))
theorem pq{h h'}(x:Heap.SameBut I h h'):∀b o,b≠I->h.get? b=some o->h'.get? b=some o:=λb o z=>(x.2 b z).trans
theorem aef{Q f n}(z:SIter s.heap I a f i n ep)(h:Q (.ref I) s):wpAny (model prog w) A (pyIter (.ref I)) Q E s:=amB z.typeIs mO (ajh mO z.typeIs rC (ah0 ⟨_,rfl,"set_iterator",_,z.typeIs,slot_si_next.lookup,h⟩) (uo _))
end
def UpP(xs:Array Nat):Prop:=∀i j:Nat,i<j->j<xs.size->xs.getD i 0<xs.getD j 0
theorem adn xs j (u:UpP xs):∀z lo hi,hi-lo<=z->lo<=hi->hi<=xs.size->(∀k,k<lo->xs.getD k 0<j)->(∀k,hi<=k->k<xs.size->j<=xs.getD k 0) →
 SetTable.below.go xs j z lo hi<=xs.size/\(∀k,k<SetTable.below.go xs j z lo hi->xs.getD k 0<j)/\(∀k,SetTable.below.go xs j z lo hi<=k->k<xs.size->j<=xs.getD k 0):=by
 intro z
 induction z with
 |zero=>
  intro lo hi h1 h2 B J L;have:lo=hi:=by lia
  subst this;exact⟨B,J,L⟩
 |succ z S=>
  intro lo hi h1 h2 B J L;unfold SetTable.below.go;by_cases Y:lo<hi
  .rw[if_pos Y];dsimp only;rw[show xs.getD _ j=xs.getD _ 0 by simp only[Array.getD_eq_getD_getElem?];rw[ajw (by lia)];rfl];by_cases O:xs.getD ((lo+hi) / 2) 0<j
   .rw[if_pos O];refine S _ _ (by lia) (by lia) B (λk Z=>?_) L;by_cases e:k=(lo+hi) / 2
    .simp_all
    .exact amc (u k _ (by lia) (by lia)) O
   .rw[if_neg O];refine S _ _ (by lia) (by lia) (by lia) J (λk Z hs=>?_);by_cases e:k=(lo+hi) / 2
    .rw[e];lia
    .have:=u ((lo+hi) / 2) k (by lia) hs;lia
  .rw[if_neg Y];have:lo=hi:=by lia
   subst this;exact⟨B,J,L⟩
theorem xK{xs}(u:UpP xs) j:SetTable.below xs j<=xs.size/\(∀k,k<SetTable.below xs j->xs.getD k 0<j)/\(∀k,SetTable.below xs j<=k->k<xs.size->j<=xs.getD k 0):=
 adn xs j u _ _ _ (by lia) (ail _) (ah4 _) (λk h=>absurd h (alc k)) (by grind)
theorem yq{xs}(u:UpP xs):SetTable.below xs 0=0:=by
 obtain⟨h1,h2,z⟩:=xK u 0;by_cases e:SetTable.below xs 0=0
 .exact e
 .exact absurd (h2 0 (by lia)) (by lia)
theorem zf{xs}(u:UpP xs){i}(hi:i<xs.size):SetTable.below xs (xs.getD i 0+1)=i+1:=by
 obtain⟨h1,h2,z⟩:=xK u (xs.getD i 0+1);by_cases a:i<SetTable.below xs (xs.getD i 0+1)
 .by_cases b:SetTable.below xs (xs.getD i 0+1)<=i+1
  .lia
  .have q:=h2 (i+1) (by lia);have:=u i (i+1) (by lia) (by lia);lia
 .have:=z i (by lia) hi;lia
end L2
namespace L2
open PySem PySem.Spec PyProof.Rows PySem.W
structure SbAt(w:World)(h:Heap)(a:Addr)(es:Array (Int×Value))(ep:Nat)(t:SetTable):Prop where
 get:h.get? a=some {cls:=.type "set",dict:=none,data:=.set es ep t,slots:=#[] }
 bd:es.size<scanBound
 fit:t.fits es.size=true
 led:t.led=!w.params.followText "set-order"
 up:¬ ((!t.plain&&decide (es.size>1))=true)->UpP t.place
theorem SbAt.at'{w h h' a es ep t}(x:SbAt w h a es ep t)(k:∀o,h.get? a=some o->h'.get? a=some o):SbAt w h' a es ep t:=⟨k _ x.get,x.bd,x.fit,x.led,x.up⟩
theorem TxAt.sb{prog:Program}{w:World}{h:Heap}{a:Addr}{es:Array (Int×Value)}{ep:Nat}{t:SetTable}(x:TxAt prog w h a es ep t):SbAt w h a es ep t:=⟨x.get,x.bd,x.fit,x.led,λn i j J z=>by
 have B:t.place.size=es.size:=by
  have:=x.fit;simp only[SetTable.fits,aiK,ait]at this;exact this.1
 refine absurd ?_ n;rcases x.pl with q|q
 .rw[q,aiv (show es.size>1 by lia)];rfl
 .subst q;rw[B]at z;exact absurd z (alc j)⟩
def j0(t:SetTable)(i:Nat):Nat:=if i=0 then 0 else t.place.getD (i-1) 0+1
section
variable {prog:Program}{w:World}{A:Around}{E:Value->Shared->Prop}{s:Shared}{a I:Addr}{es:Array (Int×Value)}{ep:Nat}{t:SetTable}
def bN(w:World)(es:Array (Int×Value))(t:SetTable)(T:Addr)(i:Nat):Value:=
 if w.params.followText "set-order" = true then .int 0 0 else if (!t.plain&&decide (es.size>1))=true then .ref T else .int ((j0 t i:Nat):Int) 0
def dU(w:World)(a:Addr)(es:Array (Int×Value))(ep:Nat)(t:SetTable)(ps:List Nat):List (Int×Value):=
 if w.params.followText "set-order" = true then (pickOrder (w.params.setOrder a ep) es).toList else if (!t.plain&&decide (es.size>1))=true then ps.filterMap λp=>es[p]? else es.toList
theorem jZ{ps}(z:ps.Perm (List.range es.size)):(dU w a es ep t ps).Perm es.toList:=by
 unfold dU;split
 .exact jP _ _
 .split
  .exact lC es z
  simp_all
structure SStY(prog:Program)(w:World)(a I T:Addr)(es:Array (Int×Value))(ep:Nat)(t:SetTable)(ps:List Nat)(i:Nat)(h:Heap):Prop where
 set:SbAt w h a es ep t
 it:SIter h I a (bN w es t T i) i es.size ep
 tup:w.params.followText "set-order" = false->(!t.plain&&decide (es.size>1))=true->IsTup h T (ps.map λ(p:Nat)=>Value.int p 0).toArray
end
section
variable {prog:Program}{w:World}{A:Around}{E:Value->Shared->Prop}{s:Shared}{a I T:Addr}{es:Array (Int×Value)}{ep:Nat}{t:SetTable}{ps:List Nat}
theorem tS{Q}(x:SbAt w s.heap a es ep t)(h:Q (!w.params.followText "set-order"&&(!t.plain&&decide (es.size>1))) s):wpAny (model prog w) A (setDrawn a) Q E s:=ahV (akn x.get rfl x.fit (ahV (df (ah0 h))))
theorem rR{Q}(x:SbAt w s.heap a es ep t)(z:w.params.followText "set-order" = true)(h:Q (pickOrder (w.params.setOrder a ep) es) s):wpAny (model prog w) A (setWalk a) Q E s:=by
 refine ahV (akn x.get rfl x.fit (ahV (df ?_)));rw[z];exact ahV (akc (ah0 h))
theorem kY{Q z}(x:SbAt w s.heap a es ep t)(B:w.params.followText "set-order" = true)(h:Q (((pickOrder (w.params.setOrder a ep) es)[z]?).map λe=>(e.2,0)) s):
 wpAny (model prog w) A (setNext a 0 z ep) Q E s:=by
 rw[qF];refine ahV (akn x.get rfl x.fit (ahV (df ?_)));rw[B];simp only[aj0];refine ahV (rR x B (ah0 h))
theorem mz{Q z B}(x:SbAt w s.heap a es ep t)(J:w.params.followText "set-order" = false)(L:¬ ((!t.plain&&decide (es.size>1))=true))
 (h:Q (l0 es t z) s):
 wpAny (model prog w) A (setNext a z B ep) Q E s:=by
 rw[qF];refine ahV (akn x.get rfl x.fit (ahV (df ?_)));have O:t.led=true:=by rw[x.led,J];rfl
 rw[J];simp only[amC.mpr L,O];exact ahV (ah0 (ah0 h))
theorem zE(x:SbAt w s.heap a es ep t):t.place.size=es.size:=by
 have:=x.fit;simp only[SetTable.fits,aiK,ait]at this;exact this.1
theorem oG(x:SbAt w s.heap a es ep t)(z:¬ ((!t.plain&&decide (es.size>1))=true)){i}(hi:i<=es.size):SetTable.below t.place (j0 t i)=i:=by
 have B:=zE x;cases i with
 |zero=>exact yq (x.up z)
 |succ i=>exact zf (x.up z) (by lia)
theorem sf(x:SbAt w s.heap a es ep t)(z:¬ ((!t.plain&&decide (es.size>1))=true)){i} hi:l0 es t (j0 t i)=some (es[i].2,j0 t (i+1)):=by
 have B:=zE x;unfold l0;rw[oG x z (aiF hi)];unfold j0;simp_all
theorem uJ(x:SbAt w s.heap a es ep t)(z:¬ ((!t.plain&&decide (es.size>1))=true)):l0 es t (j0 t es.size)=none:=by
 unfold l0;rw[oG x z (ah4 _),am2 (ah4 _)]
end
section
variable {prog:Program}{w:World}{A:Around}{E:Value->Shared->Prop}{s:Shared}{a I T:Addr}{es:Array (Int×Value)}{ep:Nat}{t:SetTable}{ps:List Nat}{i:Nat}
theorem SStY.next{s'}(z:SStY prog w a I T es ep t ps i s')(J:a≠I)(L:T≠I) B {h' }(O:SIter h' I a (bN w es t T B) B es.size ep)(k:∀b o,b≠I->s'.get? b=some o->h'.get? b=some o):SStY prog w a I T es ep t ps B h':=
 ⟨z.set.at' λo=>k a o J,O,λh1 h2=>by
  obtain⟨o,e,c⟩:=z.tup h1 h2;exact⟨o,k T o L e,c⟩⟩
theorem qy{Q}(z:SStY prog w a I T es ep t ps i s.heap)
 (h:wpAny (model prog w) A.in1 (match bN w es t T i with
 |Value.int slot _=>do
  match ←setNext a slot.toNat (i:Int).toNat (ep:Int).toNat with
   |some (x,next)=>do
    setField (Value.ref I) 0 (rawInt next)
    setField (Value.ref I) 1 (rawInt (i+1))
    ret x
   |none=>do
    setField (Value.ref I) 2 Value.none
    raiseNew (←newExc (Value.type "StopIteration") [])
 |_=>do
  let some places ←seqItems? (bN w es t T i) | unsupported "internal:set_iterator"
  match places[(i:Int).toNat]? with
   |some (Value.int place _)=>do
    let x ←setNextDrawn a place.toNat (ep:Int).toNat
    setField (Value.ref I) 1 (rawInt ((i:Int)+1))
    ret x
   |some _=>unsupported "internal:set_iterator"
   |none=>do
    setField (Value.ref I) 0 (rawInt 0)
    setField (Value.ref I) 2 Value.none
    raiseNew (←newExc (Value.type "StopIteration") []))
 (λJ s'=>∃v,J=Fin.done (Flow.ret v)/\wpAny (model prog w) A (pure (some v)) Q E s')
 (λe s'=>
  wpAny (model prog w) A
   (do
    if ←isInstance e (Value.type "StopIteration") then pure none else throw e)
   Q E s')
 s):wpAny (model prog w) A (pyNext (.ref I)) Q E s:=by
 obtain⟨o,S,Y,Z⟩:=id z.it;obtain⟨oc,L,O,B⟩:=o;subst Y Z;refine ahV (amK (wpAny_callSpecial?_slot  z.it.typeIs slot_si_next
  (ajh slot_si_next z.it.typeIs rV ?_ (tE _))))
 refine ahV (ah0 (ahV (wpAny_fieldsOf S rfl (ahV (wpAny_setEntries_of z.set.get rfl z.set.fit ?_)))));simp only[aj0];exact h
theorem ni{Q p e}(x:SbAt w s.heap a es ep t)(z:es[p]?=some e)(h:Q e.2 s):wpAny (model prog w) A (setNextDrawn a p ep) Q E s:=by
 refine ahV (akn x.get rfl x.fit ?_);simp only[aj0,z];exact ah0 h
theorem pS{Q}(z:SStY prog w a I T es ep t ps i s.heap)(S:ps.Perm (List.range es.size))(hI:a≠I)(hT:T≠I)(hi:i<es.size)
 (hQ:∀v h' tk,(dU w a es ep t ps)[i]?.map (·.2)=some v->SStY prog w a I T es ep t ps (i+1) h'->(∀b o,b≠I->s.heap.get? b=some o->h'.get? b=some o)->Q (some v) {s with heap:=h',toks:=tk}):
 wpAny (model prog w) A (pyNext (.ref I)) Q E s:=by
 refine qy z ?_;have ol:(dU w a es ep t ps).length=es.size:=by rw[(jZ (w:=w) (a:=a) (ep:=ep) (t:=t) S).length_eq,aiw]
 obtain⟨e,he⟩:∃e,(dU w a es ep t ps)[i]?=some e:=⟨_,ahU (by lia)⟩;have B:=z.it;rw[aiR,aiR];cases hb:w.params.followText "set-order" with
 |true=>
  have O:∀j,bN w es t T j=.int 0 0:=λj=>by unfold bN;rw[if_pos hb]
  rw[O i]at B⊢;dsimp only;rw[Int.toNat_zero];refine ahV (kY z.set hb ?_);have e2:=by
   unfold dU at he;rw[if_pos hb,ajo]at he;exact he
  rw[e2];dsimp only [Option.map];refine ahV (wD (x:=.int 0 0) B λh1 Y k1=>?_);refine ahV (abu Y λh2 J Z=>?_);have L:=(k1.trans Z);exact ah0 ⟨_,rfl,ah0 (hQ e.2 h2 s.toks (by rw[he];rfl) (z.next hI hT (i+1) (by rw[O];exact J) (pq L)) (pq L))⟩
 |false=>
  by_cases hs:(!t.plain&&decide (es.size>1))=true
  .have O:∀j,bN w es t T j=.ref T:=λj=>by unfold bN;simp_all
   rw[O i]at B⊢;dsimp only;obtain⟨oT,ah,aj,nT,ai⟩:=z.tup hb hs;have ac:i<ps.length:=by rw[S.length_eq,akl];exact hi
   refine ahV (alq ah ai ?_);dsimp only;have e1:(ps.map λ(p:Nat)=>Value.int p 0).toArray[i]?=some (.int ps[i] 0):=by simp[ac]
   rw[e1];dsimp only;rw[aiR];have pl:∀p∈ps,p<es.size:=λp hp=>ajL.mp (S.mem_iff.mp hp);have e2:es[ps[i]]?=some e:=by
    unfold dU at he;rw[if_neg (by rw[hb];exact aie),if_pos hs,mn es ps pl i,ahU ac]at he;exact he
   refine ahV (ni z.set e2 ?_);refine ahV (abu B λh2 J Z=>?_);exact ah0 ⟨_,rfl,ah0 (hQ e.2 h2 s.toks (by rw[he];rfl) (z.next hI hT (i+1) (by rw[O];exact J) (pq Z)) (pq Z))⟩
  .have O:∀j,bN w es t T j=.int ((j0 t j:Nat):Int) 0:=λj=>by unfold bN;rw[if_neg (by rw[hb];exact aie),if_neg hs]
   rw[O]at B⊢;dsimp only;rw[aiR];refine ahV (mz z.set hb hs ?_);have e2:e=es[i]:=by
    unfold dU at he;rw[if_neg (by rw[hb];exact aie),if_neg hs,ajo,ajw hi]at he;simp_all
   rw[sf z.set hs hi];dsimp only;refine ahV (wD  B λh1 Y k1=>?_);refine ahV (abu Y λh2 J Z=>?_);have L:=(k1.trans Z);exact ah0 ⟨_,rfl,ah0 (hQ es[i].2 h2 s.toks (by rw[he,e2];rfl) (z.next hI hT (i+1) (by rw[O];exact J) (pq L)) (pq L))⟩
theorem p6{Q}(hh:A.handled=none)(z:SStY prog w a I T es ep t ps es.size s.heap)(Z:ps.Perm (List.range es.size))
 (hQ:∀h' tk,(∀b o,b≠I->s.heap.get? b=some o->h'.get? b=some o)->Q none {s with heap:=h',toks:=tk}):
 wpAny (model prog w) A (pyNext (.ref I)) Q E s:=by
 refine qy z ?_;have B:=z.it;have J:∀{h1:Heap},Heap.SameBut I s.heap h1->wpAny (model prog w) A.in1 _ (λJ s'=>∃v,J=Fin.done (Flow.ret v)/\wpAny (model prog w) A (pure (some v)) Q E s')
  _ {s with heap:=h1}:=fun {h1} L=>
  acL  hh λh' k=>hQ h' s.toks λb o O e=>k b o (pq L b o O e)
 rw[aiR,aiR];cases O:w.params.followText "set-order" with
 |true=>
  have S:∀j,bN w es t T j=.int 0 0:=λj=>by unfold bN;rw[if_pos O]
  rw[S]at B⊢;dsimp only;rw[Int.toNat_zero];refine ahV (kY z.set O ?_);have e2:(pickOrder (w.params.setOrder a ep) es)[es.size]?=none:=by
   have:=(jP (w.params.setOrder a ep) es).length_eq;grind
  rw[e2];exact ahV (wt B λh1 L=>J L)
 |false=>
  by_cases Y:(!t.plain&&decide (es.size>1))=true
  .have S:∀j,bN w es t T j=.ref T:=λj=>by unfold bN;simp_all
   rw[S]at B⊢;dsimp only;obtain⟨oT,aa,ag,nT,ab⟩:=z.tup O Y;refine ahV (alq aa ab ?_);dsimp only;have e1:(ps.map λ(p:Nat)=>Value.int p 0).toArray[es.size]?=none:=by
    have:=Z.length_eq;simp_all
   rw[e1];dsimp only;refine ahV (wD (x:=.int 0 0) B λh1 ac L=>?_);exact ahV (wt ac λh2 k2=>J (L.trans k2))
  .have S:∀j,bN w es t T j=.int _ 0:=λj=>by unfold bN;rw[if_neg (by rw[O];exact aie),if_neg Y]
   rw[S]at B⊢;dsimp only;rw[aiR];refine ahV (mz z.set O Y ?_);rw[uJ z.set Y];dsimp only;exact ahV (wt B λh1 L=>J L)
theorem Walks.setY(Y:A.handled=none)(Z:a≠I)(hT:T≠I)(B:ps.Perm (List.range es.size)):
 Walks prog w A I [I,a,T] [I] es.size (λi v=>(dU w a es ep t ps)[i]?.map (·.2)=some v) (λi h=>SStY prog w a I T es ep t ps i h) where
 sub:=λb J=>by simp_all
 frame:=λi h h' st L=>⟨st.set.at' λo=>L a (by simp) o,st.it.at' λo=>L I (by simp) o,λh1 h2=>let ⟨o,e,c⟩:=st.tup h1 h2;⟨o,L T (by simp) o e,c⟩⟩
 item:=λi s Q E hi st O=>pS st B Z hT hi λv h' tk e S k=>O v h' tk e S λb o J=>k b o (λz=>J (by simp[z]))
 done:=λs Q E st O=>p6 Y st B λh' tk k=>O h' tk λb o J=>k b o (λz=>J (by simp[z]))
 self:=λi s Q E st=>aef st.it
theorem wd{Q:Value->Shared->Prop}(x:SbAt w s.heap a es ep t)
 (h:∀(I T:Addr) (ps:List Nat) (h':Heap) (d:Drawn),ps.Perm (List.range es.size)->a≠I->T≠I->s.heap.objs.size<=I->(T=a\/s.heap.objs.size<=T)->I<h'.objs.size->T<h'.objs.size->SStY prog w a I T es ep t ps 0 h'->(∀b o,s.heap.get? b=some o->h'.get? b=some o)->Q (.ref I) {s with heap:=h',drawn:=d}):
 wpAny (model prog w) A (pyIter (.ref a)) Q E s:=by
 have hT:s.TypeIs (.ref a) _:=⟨_,x.get,rfl⟩;have L:=ah3 x.get;refine amB hT F.slot_set_iter (ajh F.slot_set_iter hT pZ ?_ (F.args_set_iter_1 _));unfold Builtin.«frozenset.__iter__» Builtin.Frozenset.slot0 slotArgs;simp only[List.isEmpty_nil,Bool.not_true,ajl,↓reduceIte,bind_assoc,List.length_nil,aj0];refine ahV (ah0 (ahV (ah0 (ahV (ahV (wpAny_setEntries_of x.get rfl x.fit (ah0 (ahV (tS x ?_)))))))));have B:∀T (ps:List _) h1 d,ps.Perm _->(T=a\/s.heap.objs.size<=T)->T<h1.objs.size->(∀b o,s.heap.get? b=some o->h1.get? b=some o)->s.heap.objs.size<=h1.objs.size →
  (w.params.followText _=false->(!t.plain&&decide _)=true->IsTup h1 T _) →
  wpAny (model prog w) A.in1 (do
   let r ←newFields _ [bN w es t T 0,rawInt 0,Value.ref a,rawInt _,rawInt _]
   ret r) (λB s'=>∃v,B=Fin.done (Flow.ret v)/\∃T' r,s'.TypeIs v T'/\typeLookup (Value.type T') _=pure (some r)/\Q v s') E {s with heap:=h1,drawn:=d}:=λT ps h1 d S Y O k hz hp=>by
  refine ahV (ajc (ah0 ⟨_,rfl,"set_iterator",_,⟨_,aib _ rfl,rfl⟩,slot_si_next.lookup,?_⟩));have Z:∀b o,h1.get? b=some o->(h1.push {cls:=.type "set_iterator",data:=.fields #[bN w es t T 0,rawInt 0,Value.ref a,rawInt es.size,rawInt ep] }).get? b=some o:=λb o=>ahX _;refine h _ T ps _ d S (ah6 (ah9 L hz)) (ah6 O) hz Y (by simp_all) (by rw[aiP];exact aiB O) ⟨x.at' λo e=>Z _ _ (k _ _ e),⟨_,aib _ rfl,rfl,rfl⟩,λh1 h2=>?_⟩ λb o e=>Z _ _ (k _ _ e);obtain⟨o,e,c⟩:=hp h1 h2;exact⟨o,Z _ _ e,c⟩
 by_cases J:w.params.followText "set-order" = false/\(!t.plain&&decide (es.size>1))=true
 .have e1:(!w.params.followText "set-order"&&(!t.plain&&decide (es.size>1)))=true:=by rw[J.1,J.2];rfl
  rw[e1];refine ahV (iU _ _ _ _ (by simp) λys d p=>?_);have ab:ys.length<=sizeLine:=by rw[p.length_eq,akl];exact alp x.bd
  refine ahV (ajc (ahV (wpAny_setEpoch_of (ahX _ x.get) rfl x.fit ?_)) (by show (List.map _ ys).toArray.size<=sizeLine;simpa using ab));have ef:bN w es t s.heap.objs.size 0=.ref s.heap.objs.size:=by unfold bN;rw[if_neg (by rw[J.1];exact aie),if_pos J.2]
  have q:=B _ ys (s.heap.push {cls:=.type _,data:=.seq _}) d p (.inr (ah4 _)) (by rw[aiP];exact akb _) (λb o=>ahX _) (by rw[aiP];exact ajf _) (λ_ _=>⟨_,aib _ rfl,rfl,_,rfl⟩);rw[ef]at q;exact q
 .have e1:(!w.params.followText "set-order"&&(!t.plain&&decide (es.size>1)))=false:=by
   rw[amC];intro z;rw[aiK,amx]at z;exact J z
  rw[e1];refine ahV (ah0 (ahV (wpAny_setEpoch_of x.get rfl x.fit ?_)));have ef:bN w es t a 0=rawInt 0:=by
   unfold bN;split
   .rfl
   .split
    .simp_all
    .rfl
  have q:=B a _ _ s.drawn .rfl (.inl rfl) L (λ_ _ e=>e) (ah4 _) (λh1 h2=>absurd ⟨h1,h2⟩ J);rw[ef]at q;exact q
end
section
variable {prog:Program}{w:World}{A:Around}{E:Value->Shared->Prop}{s:Shared}{a I T:Addr}{es:Array (Int×Value)}{ep:Nat}{t:SetTable}{ps:List Nat}{i:Nat}
theorem acZ{Q}(z:s.TypeIs (.ref a) "set")(h:Q false s):wpAny (model prog w) A (Builtin.List.listLengthHint (.ref a)) Q E s:=by
 refine ahV (wpAny_specialOf z PySem.F.slot_set_len.lookup ?_);generalize hid: "set.__len__" = B;subst hid;exact ahV (alA  (b:=true) z (by kernel_rfl) (ahV (am8 z (ah0 h))))
theorem wo{R:Result->Shared->Prop}(hh:A.handled=none)(x:SbAt w s.heap a es ep t)(S:Addr)(af:S≠a)(O:Value)(aa:Nat)(hS:s.heap.get? S=some {cls:=.type "list",data:=.seq #[] aa})
 (hR:∀h' d tk B c' ps,ps.Perm (List.range es.size)->(∀b o,b≠S->s.heap.get? b=some o->h'.get? b=some o)->h'.get? S=some {cls:=.type "list",dict:=none,data:=.seq B c',slots:=#[] }->ItemsOf (λi v=>(dU w a es ep t ps)[i]?.map (·.2)=some v) B es.size->R (.ok (.ret O)) {s with heap:=h',drawn:=d,toks:=tk}):
 wpAny (model prog w) A.in1 (Builtin.List.listExtendWith (.ref S) (.ref a) O)
  (λag s'=>match ag with | .done f=>R (.ok f) s' | .again c'=>c'.quiet=true/\codeAny (model prog w) A c' R s') (λe s'=>R (.error e) s') s:=by
 have hn:=alp x.bd;have ap:=ah3 hS;refine ahV (am8  ⟨_,x.get,rfl⟩ ?_);have h1:Builtin.List.listSameRef (.ref S) (.ref a)=false:=by simp[Builtin.List.listSameRef,af]
 have h2:(Value.type "set" == Value.type "list")=false:=by decide
 have h3:(Value.type "set" == Value.type "tuple")=false:=by decide
 simp only[h1,h2,h3,Bool.or_false,ajl,ak4];refine ahV (wd x λI T ps h1 d ab ah ai aj aw ax ay st k1=>?_);have ac:S∉[I,a,T]:=by grind
 have W:Walks _ w A.in1 I _ _ _ _ (λi h=>SStY prog w a I T es ep t ps i h):=Walks.setY hh ah ai ab;have al:∀h J tk,SStY prog w a I T es ep t ps 0 h->(∀b o,b≠S->s.heap.get? b=some o->h.get? b=some o) →
  h.get? S=some {cls:=.type "list",data:=.seq #[] J}->codeAny (model prog w) A (.builtin "list.extend.loop" ⟨[.ref S,.ref I,O],[]⟩) R {s with heap:=h,drawn:=d,toks:=tk}:=by
  intro h J tk am hk z;refine codeAny_extend_loopS W.toS hn S ac O es.size 0 _ #[] J rfl (ail _) am z (ItemsOf.nil _) λs' B c' hm an ad=>?_;rw[Moved.eq_with hm];refine hR s'.heap _ s'.toks B c' ps ab (λb o Y e=>hm.heap b o (λhmem=>?_) (hk b o Y e)) an ad;rcases ain.mp hmem with e'|hmem
  .exact Y e'
  .rw[ah5.mp hmem]at e;exact absurd (ah9 (ah3 e) aj) (ai8 _)
 have z:=k1 _ _ hS;refine ahV (aix (acZ ⟨_,k1 _ _ x.get,rfl⟩ (ahV (ajH (ahV (ahV (wpAny_updateSeq z rfl ?_)))))));have L:=ajO (Obj.mapSeq (·.push Value.none)) z rfl;refine wpAny_updateSeq  L rfl ?_;have Z:=ajO (Obj.mapSeq (·.pop)) L rfl;refine ah0 ⟨ake PySem.F.plain_extend_loop _,al _ _ _ ?_ (λb o Y e=>?_) Z⟩
 .refine W.frame 0 _ _ st λb Y o e=>?_;have ae:b≠S:=λh=>ac (h▸Y);exact (ajE _ _ (ai2 ae)).trans ((ajE _ _ (ai2 ae)).trans e)
 .exact (ajE _ _ (ai2 Y)).trans ((ajE _ _ (ai2 Y)).trans (k1 _ _ e))
theorem t6{R}(hh:A.handled=none)(x:SbAt w s.heap a es ep t)
 (h:∀(h':Heap) (d:Drawn) (tk:Nat) (B:List Value),(∀b o,s.heap.get? b=some o->h'.get? b=some o)->s.heap.objs.size<=h'.objs.size->B.Perm (es.toList.map (·.2))->R B {s with heap:=h',drawn:=d,toks:=tk}):
 wpAny (model prog w) A (collect (.ref a)) R E s:=by
 have aa:=ah3 x.get;have S:∀B ps,ps.Perm (List.range es.size)->ItemsOf (λi v=>(dU w a es ep t ps)[i]?.map _=some v) B es.size->B.toList.Perm (es.toList.map _):=λB ps O ha=>by
  have e:B.toList=(dU w a es ep t ps).map (·.2):=by
   apply aj1;intro i;rw[ah1];cases q:B.toList[i]? with
   |some v=>exact (ha.2 i v (by simp_all)).symm
   |none=>
    have:=List.getElem?_eq_none_iff.mp q;rw[aiw,ha.1]at this;have ol:(dU w a es ep t ps).length=es.size:=by rw[(jZ     O).length_eq,aiw]
    simp_all
  rw[e];exact (jZ O).map _
 refine ahV (wpAny_runValue (ajp entry_proto_collect' (ahV (ajc (ah0 ⟨ake amL _,ajp entry_list_iadd' ?_⟩)))));have Y:(s.heap.push _).get? _=some {cls:=.type "list",data:=.seq #[] }:=aib _ rfl;have ab:=wo (prog:=prog)  (s:={s with heap:=s.heap.push _})
  (R:=λq s'=>∃h' d tk z c',q=.ok _/\s'={s with heap:=h',drawn:=d,toks:=tk} ∧
   (∀b o,s.heap.get? b=some o->h'.get? b=some o)/\h'.get? _=some {cls:=.type _,dict:=none,data:=.seq z c',slots:=#[] }/\z.toList.Perm _)
  hh (x.at' λo=>ahX _) _ (aiX aa) (.ref s.heap.objs.size) 0 Y
  (λh' d tk z c' ps O Z L J=>⟨h',d,tk,z,c',rfl,rfl,λb o e=>Z b o (ah6 (ah3 e)) (ahX _ e),L,S _ _ O J⟩)
 refine aiu ab (λS s' x=>?_) λe s' x=>?_
 .cases S with
  |done f=>
   obtain⟨h',d,tk,z,c',e,rfl,Z,L,J⟩:=x;cases e;exact ahV (ams L (ah0 (h h' d tk _ Z (aiF (ah3 L)) J)))
  |again ad=>
   refine⟨x.1,ajZ x.2 λq ae y=>?_⟩;obtain⟨h',d,tk,z,c',rfl,rfl,Z,L,J⟩:=y;exact ahV (ams L (ah0 (h h' d tk _ Z (aiF (ah3 L)) J)))
 .grind
end
section
variable {prog:Program}{w:World}{A:Around}{E:Value->Shared->Prop}{s:Shared}{a I T:Addr}{es:Array (Int×Value)}{ep:Nat}{t:SetTable}{ps:List Nat}{i:Nat}
theorem aew{l}(h:ElemsOf (PySem.strKind prog w) l):StrsAre (l.map (·.2)) (l.map λe=>strOf e.2):=by
 have:=strsAre_map (l.map (·.2)) λv z=>by
  obtain⟨e,B,rfl⟩:=ah8.mp z;obtain⟨tk,J⟩:=abN h B;grind
 rw[aiG]at this;exact this
theorem yL{Q ss}(hh:A.handled=none)(x:TxSet prog w s.heap a ss)(af:ss.length<64)
 (h:∀h' d tk (l:Addr) vs z e,(∀b o,s.heap.get? b=some o->h'.get? b=some o)->s.heap.objs.size<=l->h'.get? l=some (seqObj "list" vs.toArray e)->StrsAre vs z->z.Perm ss->sortedS z=true->Q (.ref l) {s with heap:=h',drawn:=d,toks:=tk}):
 wpAny (model prog w) A (call (.builtin "sorted") [.ref a]) Q E s:=by
 obtain⟨es,ep,t,T,e,nd⟩:=x;subst e;refine ajM amM ame amf (amg _) (ahV  (ah0 (ahV (t6   hh T.sb λh1 d tk B k1 O hp=>?_))));have S:=aew T.el;have Y:=strsAre_map _ λv hv=>S.all v (hp.mem_iff.mp hv);have L:(B.map strOf).Perm (acd es):=by
  have:=hp.map strOf;rw[aiG]at this;exact this
 have hl:B.length<64:=by
  have:=L.length_eq;grind
 refine ahV (akt ?_ (aiF (ah9 hl (by decide))));have J:(h1.push _).get? _=some (seqObj "list" B.toArray 0):=aib _ rfl;refine ahV (aix (ajh alr ⟨_,J,rfl⟩ ald (list_sort_treeK strKind_oneLt J Y.keysOf (λac ad rest e=>keyKind_strs (by rw[←e];exact Y)) hl λai a1 a2=>⟨_,rfl,?_⟩) (als _)));obtain⟨z,b1,b2,b3⟩:=sorted_out_str Y a1 a2;obtain⟨e,he⟩:=sortedHeap_at   J;refine ah0 ⟨_,rfl,h _ d tk _ _ _ e (λb o q=>?_) O (he) b1 (b2.trans L) b3⟩;have Z:=k1 _ _ q;rw[sortedHeap_old (ah6 (ah3 Z)) (by rw[size_push'];exact aiB (ah3 Z))];exact ahX _ Z
end
end L2
namespace L2
open PySem PySem.Spec PyProof.Rows
def aeb(ts ss:List Str):Prop:=ts.Nodup/\∀x,x∈ts↔x∈ss
section
variable {prog:Program}{w:World}{A:Around}{R:Result->Shared->Prop}{I:Addr}{fp wr:List Addr}{G:Array GenState->Array GenState->Prop}{n:Nat}{P:Nat->Value->Prop}{St:Nat->Shared->Prop}
theorem TxSet.nd{h a ss}(x:TxSet prog w h a ss):ss.Nodup:=let ⟨_,_,_,_,_,n⟩:=x;n
theorem pD(W:WalksS prog w A.in1 I fp wr G n P St)(S:Addr)(ag:S∉fp)(val:Nat->Str)(Y:∀i v,P i v->∃t,v=.str (val i) t)(hb:n+1<scanBound):
 ∀(k i:Nat) (s:Shared) (O:List Str),n-i=k->i<=n->St i s->TxSet prog w s.heap S O->O.length<=i->(∀x,x∈O↔∃j,j<i/\val j=x) →
  (∀s' z,Moved (S::wr) G s s'->TxSet prog w s'.heap S z->(∀x,x∈z↔∃j,j<n/\val j=x)->R (.ok (.ret .none)) s') →
  codeAny (model prog w) A (.builtin "set.update.loop" ⟨[.ref S,.ref I],[]⟩) R s:=by
 have Z:S∉wr:=λh=>ag (W.sub _ h);have J:∀b∈wr,b∈S::wr:=λb=>aih _;intro k
 induction k with
 |zero=>
  intro i s O hk hi L hS hl hm hR;have aj:i=n:=by lia
  subst aj;refine ajp F.entry_set_update_loop ?_;exact ahV (W.done s _ _ L λs' B=>ah0 (hR s' O (B.mono J) (hS.at' λo=>B.heap S _ Z) hm))
 |succ k ih=>
  intro i s O hk hi L hS hl hm hR;have aa:i<n:=by lia
  refine ajp F.entry_set_update_loop ?_;refine ahV (W.item i s _ _ aa L λv s' hP ab B=>?_);obtain⟨t,rfl⟩:=Y i v hP;have ak:=hS.at' λo=>B.heap S _ Z;refine ahV (aix (ahV ((PySem.strKind _ w).pyHash  ((sV rfl).mpr rfl) ?_)));refine jQ (s:={s' with toks:=s'.toks+1}) ak (by lia) λh' z ac al am=>?_;have an:z.length<=i+1:=by
   rcases am with ⟨_,e⟩|⟨_,p⟩
   .rw[e];lia
   .rw[p.length_eq,ahZ];simp;lia
  have ao:∀x,x∈z↔∃j,j<i+1/\val j=x:=λx=>by
   grind
  refine ah0 ⟨ake F.plain_set_update_loop _,ih (i+1) _ z (by lia) aa (W.frame _ s' _ _ ab (ajf _) λb hb o e=>?_) al an ao λap ad ae af q=>?_⟩
  .rw[ac.2 b (by grind)];exact e
  .refine hR ap ad (Moved.trans W.gtrans ((B.mono J).then_heap (ajf _) λb o hb e=>?_) ae) af q;rw[ac.2 b (by grind)];exact e
end
section
variable {prog:Program}{w:World}{A:Around}{E:Value->Shared->Prop}{s:Shared}
theorem pE(a:Value){Q₁}
 (h:Q₁ (.ref s.heap.objs.size) {s with heap:=s.heap.push {cls:=.type "set",dict:=none,data:=.set #[] 0 (.fresh 0 0 (!w.params.followText "set-order")) }}):
 codeAny (model prog w) A (.call (.builtin "set.__new__") ⟨[.type "set",a],[]⟩) (wants Q₁ E) s:=by
 refine ale ?_;refine ahV (anI (F.newCall_set_1 a) (ah0 ⟨ake F.plain_set_new _,ajp F.entry_set_new ?_⟩));unfold Builtin.«set.__new__» Builtin.Frozenset.newClass;have z:=sub_set_self
 wp_walk
 refine akc (ah0 ?_);refine ahV (anK (ah0 ?_));exact ah0 h
theorem xw prog w (h:Heap):TxSet prog w (h.push {cls:=.type "set",dict:=none,data:=.set #[] 0 (.fresh 0 0 (!w.params.followText "set-order")) }) h.objs.size []:=
 ⟨#[],0,_,⟨aib _ rfl,λe z=>by simp at z,by decide,rfl,rfl,.inr rfl⟩,rfl,akR⟩
theorem rM{l:Addr}{z:Array Value}{ss:List Str}{Q:Value->Shared->Prop}
 (hh:A.handled=none)(hl:s.heap.IsList l z)(hi:StrsAre z.toList ss)(hb:z.size+1<scanBound)
 (h:∀(h':Heap) (tk:Nat) (L:List Str),TxSet prog w h' s.heap.objs.size L->aeb L ss →
  (∀b o,b<s.heap.objs.size->s.heap.get? b=some o->h'.get? b=some o)->Q (.ref s.heap.objs.size) {s with heap:=h',toks:=tk}):
 wpAny (model prog w) A (call (.type "set") [.ref l]) Q E s:=by
 obtain⟨c,tl,az⟩:=akF.mro;have ap:=akF.made;have aA:=akF.sub;refine wpAny_call (ale ?_);show wpAny _ _ (callAny (.type _) _) ..;refine ah0 ⟨Code.quiet_builtin _ (by decide +kernel),ajp F.entry_type_call ?_⟩;rw[Around.under_plain (weight_type_call_type _ _ []) rfl];have h1:=akF.notType;have h2:=akF.canCreate;have aG:=F.typeCall_set_1 (.ref l)
 repeat (any_goals (first|assumption|wp_step))
 refine ajZ (pE (.ref l) (E:=E) (Q₁:=λaa S=>aa=.ref s.heap.objs.size/\S={s with heap:=s.heap.push {cls:=.type "set",dict:=none,data:=.set #[] 0 (.fresh 0 0 (!w.params.followText "set-order")) }}) ⟨rfl,rfl⟩) λr S hr=>?_;cases r with
 |error e=>exact hr
 |ok fl=>
  cases fl with
  |ret aa=>
   obtain⟨rfl,rfl⟩:=hr;generalize hled:(!w.params.followText "set-order")=J at *;have hS0:TxSet prog w (s.heap.push {cls:=.type "set",dict:=none,data:=.set #[] 0 (.fresh 0 0 J) }) s.heap.objs.size []:=by rw[←hled];exact xw _ w _
   have hS:(s.heap.push _).get? _=some {cls:=.type "set",dict:=none,data:=.set #[] 0 (.fresh 0 0 J) }:=aib _ rfl;have hT:Shared.TypeIs {s with heap:=s.heap.push _} (.ref _) _:=⟨_,hS,rfl⟩;have aK:=akF.init.lookup;have aL:=akF.init.bind (.ref s.heap.objs.size)
   repeat (any_goals (first|assumption|wp_step))
   refine ajZ (codeAny_call_builtin (R:=wants (λr Y=>r=.none/\∃h' tk L,Y={s with heap:=h',toks:=tk}/\TxSet prog w h' s.heap.objs.size L/\aeb L ss ∧
    (∀b o,b<s.heap.objs.size->s.heap.get? b=some o->h'.get? b=some o)) E) akF.init.plain F.entry_set_init (check_set_init_1 hT ?_)) λab Y B=>?_
   .obtain⟨ol,ac,ad,nl,ae⟩:=hl;obtain⟨aB,aq,ar,al⟩:=ol;simp only at ad ae;subst ad;subst ae;have af:(s.heap.push {cls:=.type "set",dict:=none,data:=.set #[] 0 (.fresh 0 0 J) }).get? l=some _:=ahX _ ac;have aC:=F.sub_list_set;have aD:=F.sub_list_frozenset;have aN:(Value.type "list" == Value.type "dict")=false:=by decide
    have ag:(s.heap.push _).IsList l _:=⟨_,af,rfl,nl,rfl⟩;unfold Builtin.«set.__init__» noKeywords Builtin.Frozenset.updateFrom;generalize hPI:pyIter=PI
    wp_walk
    subst hPI;refine aln ag ?_;refine ahV (wpAny_runValue ?_);have ah:=ah3 ac;have as:A.in1.in1.in1.handled=none:=by simp[hh]
    have ai:l≠(s.heap.push {cls:=.type "set",dict:=none,data:=.set #[] 0 (.fresh 0 0 J) }).objs.size:=by
     rw[aiP];exact ah6 (aiB ah)
    have au:s.heap.objs.size∉[(s.heap.push {cls:=.type "set",dict:=none,data:=.set #[] 0 (.fresh 0 0 J) }).objs.size,l]:=by
     rw[aiP];simp only[ain,aiT,amh,not_or];exact⟨ah6 (akb _),aiX ah⟩
    have aO:=by
     have:=aiO List.length hi.strs;rwa [ahY]at this
    have aj:∀i (v:Value),z[i]?=some v->∃t,v=.str ((λi=>ss.getD i ⟨#[]⟩) i) t:=λi v hv=>by
     have ak:z.toList[i]?=some v:=by simp_all
     obtain⟨x,t,e⟩:=hi.all v (ah7 ak);refine⟨t,?_⟩;have e2:ss[i]?=some (strOf v):=by rw[←hi.strs,ah1,ak];rfl
     simp only[ajD,e2,e]
     rfl
    refine pD ((Walks.list as _ l ai z).toS) s.heap.objs.size
     au (λi=>ss.getD i ⟨#[]⟩) aj hb (z.size-0) 0 _ [] (by lia) (ail _)
     ⟨⟨_,aib _ rfl,rfl,rfl⟩,(ag.push _)⟩ ?hS0 (ah4 _) (λx=>?hM) ?hR
    case hS0=>exact hS0.at' λo=>ahX _
    case hM=>grind
    case hR=>
     intro s' L hm O hq;obtain⟨h',g',d',av,aw⟩:=s';have eg:g'=s.gens:=hm.gens;have ed:d'=s.drawn:=hm.drawn;have eo:aw=s.os:=hm.os;subst eg;subst ed;subst eo;refine ah0 ?_;refine ah0 ⟨rfl,h',av,L,rfl,O,⟨O.nd,λx=>(hq x).trans ?_⟩,λb o hb e=>?_⟩
     .have hz:z.size=ss.length:=by grind
      constructor
      .rintro⟨j,hj,e⟩;rw[hz]at hj;rw[←e,ajD,ahU hj];exact aiq hj
      .intro hx;obtain⟨j,hj,e⟩:=ajV.mp hx;refine⟨j,by simp_all,?_⟩;simp_all
     .have aY:b≠(s.heap.push {cls:=.type "set",dict:=none,data:=.set #[] 0 (.fresh 0 0 J) }).objs.size:=by
       rw[aiP];exact ah6 (aiB hb)
      exact hm.heap b o (by grind) (ahX _ (ahX _ e))
   .cases ab with
    |error e=>exact B
    |ok Z=>
     cases Z with
     |ret r=>
      obtain⟨rfl,h',tk,L,rfl,O,ax,ay⟩:=B
      repeat (any_goals (first|assumption|wp_step))
      exact h _ _ L O ax ay
     |_=>exact B.elim
  |_=>exact hr.elim
end
theorem Inv.drawn'{X pins}{σ:St}{H s}(I:Inv X pins σ H s) d:Inv X pins σ H {s with drawn:=d}:=⟨I.ok,I.os,I.bare,I.base,I.loc,I.cell,I.free,I.freeC,I.pin,I.hok,I.len⟩
def mX(P:Program)(w:World)(a:Addr)(ss:List Str):HO:=.ext λh=>TxSet P w h a ss
theorem aaJ{P w H h a ss}(x:TxSet P w h a ss):ObjOk P w H h a (mX P w a ss):=
 ⟨x,(let ⟨_,_,_,T,_⟩:=x;⟨_,T.get⟩),λ_ _ y=>y.at'⟩
theorem adM{P w H h a ss}(ok:HOk P w H h)(e:H a=some (mX P w a ss)):TxSet P w h a ss:=(ok a _ e).1
section
variable {X:Cx}
theorem gf(O:X.calm=true):gn X (.builtin "sorted") (λxs H Q=>∃a ss,xs=[.ref a]/\H a=some (mX X.prog X.w a ss)/\ss.length<64/\∀l z,H l=none->z.Perm ss->sortedS z=true->Q (.ref l) (upd H l (.lst (z.map V.str)))):=by
 intro pins s σ H xs us Q I r h;obtain⟨a,ss,rfl,e,B,q⟩:=h;obtain⟨u,rfl,S⟩:=jK r;cases S;refine yL (I.ok.hd O) (adM I.hok e) B λh' d tk l Y z ep k J Z hS L hs=>⟨.ref l,_,((I.laid  (o:=.lst _) k J ⟨?_,Y,ep,jq hS,Z⟩).drawn' d),rfl,q l _ (I.hok.fresh J) L hs⟩;rw[ahY,L.length_eq];exact aiF (ah9 B (by decide))
theorem pN(L:X.calm=true):gn X (.type "set") (λxs H Q=>∃p ss,xs=[.ref p]/\SqL X.K H p (ss.map V.str)/\ss.length+1<scanBound/\∀a z,H a=none->aeb z ss->Q (.ref a) (upd H a (mX X.prog X.w a z))):=by
 intro pins s σ H xs us Q I r h;obtain⟨p,ss,rfl,O,hb,q⟩:=h;obtain⟨u,rfl,S⟩:=jK r;cases S;obtain⟨its,B,Y,hz⟩:=I.list O;have J:=B.length;exact rM (I.ok.hd L) Y.isList (by simpa using gQ B) (by simp_all) λh' tk z Z hi k=>⟨.ref _,_,I.laid   (λb o e=>k b o (ah3 e) e) (ah4 _) (aaJ Z),rfl,q _ z I.fresh hi⟩
end
section
variable {prog:Program}{w:World}{A:Around}{R:Result->Shared->Prop}{s:Shared}
theorem qk{kx vx B iter ifs scope pos it D env}(I:Nat->Shared->Prop)
 (ae:∀n s,I n s->wpAny (model prog w) A (pyNext it) (λr J=>match r with
  |none=>R (.ok .next) J
  |some v=>wpAny (model prog w) A (letOwnedTupleGo B it v) (λ_ L=>wpAny (model prog w) A (assign B env v) (λ_ S=>
   wpAny (model prog w) A (forIn ifs true λc r=>if r=true then do let ok ←isTrue c env (eval c env);pure (ForInStep.yield ok) else pure (ForInStep.yield r)) (λok O=>
    if ok=true then wpAny (model prog w) A (eval kx env) (λkv Y=>wpAny (model prog w) A (eval vx env) (λvv Z=>
     wpAny (model prog w) A (dictSet D kv vv) (λ_ aa=>∃m,m<n/\I m aa) (λ_ _=>False) Z) (λ_ _=>False) Y) (λ_ _=>False) O
    else ∃m,m<n/\I m O) (λ_ _=>False) S) (λ_ _=>False) L) (λ_ _=>False) J) (λ_ _=>False) s)
 n (h:I n s):
 codeAny (model prog w) A (.compLoop (.DictComp kx vx [⟨B,iter,ifs,0⟩] scope pos) 0 it (.ref D) env) R s:=by
 have no:∀{E:Value->Shared->Prop} x s,False->E x s:=λ_ _ z=>z.elim;refine alw rfl I (λn s hI=>alV ?_) n h;rw[compTurn_dict];refine ahV (ai3 (ahV (aiu (ae n s hI) (λr J ab=>?_) no)));cases r with
 |none=>exact ah0 ab
 |some v=>
  refine ahV (aiu ab (λ_ L ad=>ahV (aiu ad (λ_ S af=>ahV (aiu af (λok O ac=>?_) no)) no)) no);cases ok with
  |false=>exact ah0 ⟨rfl,ac⟩
  |true=>
   exact ahV (ahV (aiu ac (λkv Y ag=>ahV (aix (aiu ag (λvv Z ah=>ahV (ai3 (aix (aiu ah (λ_ aa ai=>ah0 ⟨rfl,ai⟩) no)))) no))) no))
end
def tV(nl:Nat)(ix:List Nat)(wi:TI)(g:TG)(tf:TT)(tk tv:TE):TE:=λσ H Q=>wi σ H λJ H1=>∀D,H1 D=none->∃W:Nat->Nat->List (Key×V)->Hp->Prop,(∃m,W 0 m [] (upd H1 D (.dK [])))∧
 ∀i m ys H2,W i m ys H2->H2 D=some (.dK ys)/\((J.stop i H2/\Q (.ref D) H2)\/(J.go i H2/\∀x H3,J.yld i H2 x H3->g x (cC nl ix σ) H3 λσ4 H4=>(σ4.length=(cC nl ix σ).length/\σ4.drop nl=ix.map λj=>(σ[j]?).join)/\tf σ4 H4 λb H5=>
  if b=true then tk σ4 H5 λz H6=>tv σ4 H6 λy H7=>∃k:Key,z=kV k/\H7 D=some (.dK ys)/\ys.length<sizeLine/\∃m',m'<m/\W (i+1) m' (eG ys k y) (upd H7 D (.dK (eG ys k y))) else ∃m',m'<m/\W (i+1) m' ys H5))
section
variable {X:Cx}
theorem xj{kx vx tg iter:Expr}{ifs:List Expr}{scope:Scope}{pos:Pos}{N':List Str}{nl:Nat}{ix:List Nat}{wi:TI}{g:TG}{tf:TT}{tk tv:TE}(hc:X.calm=true)(S:CompScope X scope)(Cp:abf X scope N' nl ix)(hi:PI X tg iter wi)
 (hg:∀C fp s₀ H₀,PG (X.comp scope N' C fp s₀ H₀) tg g)(hf:∀C fp s₀ H₀,PIf (X.comp scope N' C fp s₀ H₀) ifs tf)(hk:∀C fp s₀ H₀,PE (X.comp scope N' C fp s₀ H₀) kx tk)(hv:∀C fp s₀ H₀,PE (X.comp scope N' C fp s₀ H₀) vx tv)
 (hs:∀x,foldedSetIterable iter X.env x=pure x:=by intro _;rfl):PE X (.DictComp kx vx [⟨tg,iter,ifs,0⟩] scope pos) (tV nl ix wi g tf tk tv):=by
 intro pins s σ H Q I h;rw[arm_eval_DictComp];refine ajb   rfl hs (cM (S.cells I.ok)) S.kind S.loc ?_;refine thn (hi pins s σ H _ I h) λv s1 h1=>thn h1 λbo B h2=>?_;obtain⟨it,fp,tn,J,H2,rfl,I2,T,am,f2,h2⟩:=h2;obtain⟨W,⟨m0,w0⟩,ar⟩:=h2 B.heap.objs.size I2.fresh;refine ajc (ajC S.nocell (by simp_all) (λas Z aa=>?_) S.kind);have au:∀b∈fp,b<B.heap.objs.size:=λb L=>by
  obtain⟨o,e,_⟩:=T.obj 0 _ am b L;exact ah3 e
 have I3:=I2.laid   (t':=B.toks) (λ_ _=>ahX _) (ah4 _) (lu _ I2.big);have f3:∀b∈fp,gI X _ (upd H2 _ (.dK [])) b:=λb L=>by
  refine⟨?_,(f2 b L).2⟩;rw[ai (ah6 (au b L))];exact (f2 b L).1
 generalize hS3:B.heap.push {cls:=.type "dict",dict:=none,data:=.dict #[] }=Y at Z aa I3⊢;have aU:Y.objs.size=B.heap.objs.size+1:=by rw[←hS3,aiP]
 have ak:∀b∈fp,b < {B with heap:=Y,toks:=B.toks}.heap.objs.size:=λb L=>by
  rw[aU];exact aiB (au b L)
 have old:=λb o e=>aa.extBut b o (ah6 (ah3 e)) (ahX _ e);have I4:=jy (tk:=B.toks+([]:List (Str×Value)).length) S Cp I3 f3 ak Z old;generalize hX:X.comp scope N' Y.objs.size fp {B with heap:=Y,toks:=B.toks} (upd H2 B.heap.objs.size (.dK []))=O at *;have ab:O.prog=X.prog:=by rw[←hX];rfl
 have ac:O.w=X.w:=by rw[←hX];rfl
 have av:O.K=X.K:=by rw[←hX];rfl
 have aV:O.A=X.A:=by rw[←hX];rfl
 have aw:O.calm=true:=by rw[←hX];exact hc
 have ah:O.xe=λ_ _=>False:=by rw[←hX];rfl
 have bs:O.ex=fp:=by rw[←hX];rfl
 have bt:O.pn=[]:=by rw[←hX];rfl
 have ax:O.env.locals=Y.objs.size:=by rw[←hX];rfl
 have aW:O.env=compEnvC scope (jJ X.env scope.names []) Y.objs.size X.env:=by rw[←hX];rfl
 have ay:=hg Y.objs.size fp {B with heap:=Y,toks:=B.toks} (upd H2 B.heap.objs.size (.dK []));have az:=hf Y.objs.size fp {B with heap:=Y,toks:=B.toks} (upd H2 B.heap.objs.size (.dK []));have aA:=hk Y.objs.size fp {B with heap:=Y,toks:=B.toks} (upd H2 B.heap.objs.size (.dK []));have aB:=hv Y.objs.size fp {B with heap:=Y,toks:=B.toks} (upd H2 B.heap.objs.size (.dK []));rw[hX]at ay az aA aB;have an:=I4;have aC:∀{H' } {aX:St} {pins' } {s' } {h' },Inv O pins' aX H' s'->Heap.SameBut Y.objs.size s'.heap h'->Inv X _ σ H' {s' with heap:=h' }:=λI' sb=>by
  subst hX;exact gY I3 f3 I' sb
 have ad:∀{H' },(∀b∈fp,H' b=none)->∀b∈fp,gI O [] H' b:=λhn b L=>by
  refine⟨hn b L,?_,?_,.inl (by simp_all),?_,λp hp=>by simp_all⟩
  .rw[ax];exact ah6 (ak b L)
  .exact an.ok.exfs b (by simp_all)
  .exact (an.ok.exf b (by simp_all)).2
 have ae:codeAny (model X.prog X.w) X.A (.compLoop (.DictComp kx vx [⟨tg,iter,ifs,0⟩] scope pos) 0 (.ref it) (.ref B.heap.objs.size) O.env)
  (compPost (model X.prog X.w) X.A X.xe none (EP X pins σ Q) (.ref B.heap.objs.size) Y.objs.size) {B with heap:=as,toks:=B.toks+([]:List (Str×Value)).length}:=by
  rw[←ab,←ac,←aV];refine qk (λn s'=>∃i ys H',Inv O [] _ H' s'/\tn i s'.heap/\(∀b∈fp,H' b=none)/\W i n ys H') ?_ m0
   ⟨0,[],_,an,T.keep _ _ _ am (λb L o e=>old b o (by rw[←hS3];exact ahX _ e)),λb L=>(f3 b L).1,w0⟩
  rintro n s5 ⟨i,ys,H5,I5,aD,aE,w5⟩;obtain⟨bw,aY⟩:=ar i n ys H5 w5;rcases aY with ⟨stop,qn⟩|⟨go,step⟩
  .rw[ab,ac];refine thn (T.done O ab ac av aw i [] s5 _ H5 _ I5 (ad aE) aD stop) λr s6 ⟨hr,I6⟩=>?_;subst hr;obtain⟨m,hn,_⟩:=I6.loc;rw[ax]at hn;exact⟨m,hn,λh' sb=>⟨.ref _,H5,aC I6 sb,rfl,qn⟩⟩
  .have aG:=T.item O ab ac av aw i [] s5 _ H5 (λ_ _=>False) I5 (ad aE) aD go;rw[←ab,←ac]at aG;refine thn aG λr s6 ⟨u,hr,h6⟩=>?_;subst hr;refine thn h6 λ_ s7 ⟨x,H7,I7,r7,y7,ao,aZ⟩=>?_;have a0:=I7.pinned (ad aZ) (T.obj _ _ ao);have g7:=ay _ s7 _ H7 x u _ a0 r7 (step x H7 y7);rw[ah]at g7;refine thn g7 λ_ s8 ⟨bH,H8,I8,⟨a1,a2⟩,q8⟩=>?_;have f8:=az _ s8 _ H8 _ I8 q8;rw[ah]at f8;refine thn f8 λok s9 ⟨H9,I9,q9⟩=>?_;have af:∀{aj} {ap} {aq},Inv O ..->(∃m',m'<n/\W (i+1) m' aq aj)->∃m,m<n/\∃i ys H',Inv O [] _ H' ap/\tn i _/\(∀b∈fp,H' b=none)/\W i m ys H':=fun {aj ap aq} ag ⟨m',hm,w'⟩=>by
    refine⟨m',hm,i+1,aq,aj,eC ag.unpinned a1 a2,T.keep _ _ _ ao λb L o e=>(ag.pin (b,o) (ah2 _ (ah2 _ (aF L e)))).1,λb L=>?_,w'⟩;obtain⟨o,e,d⟩:=T.obj _ _ ao b L;exact (ag.pin _ (ah2 _ (ah2 _ (aF L e)))).2.1
   cases ok with
   |false=>
    exact af I9 q9
   |true=>
    have e9:=aA _ s9 _ H9 _ I9 q9;rw[ah]at e9;refine thn e9 λzv ap ⟨z,aj,ag,a3,a4⟩=>?_;have aH:=aB _ _ _ _ _ ag a4;rw[ah]at aH;refine thn aH λxv bP ⟨y,bQ,aI,a5,k,ez,al,hz,mw⟩=>?_;subst ez;obtain⟨z1,hd,vs,aJ,dd⟩:=m7 aI.hok al;refine aku (qa a3) dd (hsz:=by rw[←aJ.length];exact z1) λh' aK hs=>?_;have a6:∃q,h'.get? _=some q:=let ⟨q,_,_,hq,_⟩:=aK;⟨q,hq⟩;have hl:(eG ys k y).length<=sizeLine:=by have:=cg ys k y;lia
    exact af (jc aI (by rw[al];exact True.intro) hs a6 (pI hl hd (aJ.put k a5) aK)) mw
 rw[aW]at ae;exact alm ae (T.self _ 0 _ _ _ (T.keep _ _ _ am (λb L o e=>old b o (by rw[←hS3];exact ahX _ e))) ae)
end
end L2
namespace L2
open PySem PySem.Spec PyProof.Rows PySem.W
section
variable {X:Cx}{pins:List (Addr×Obj)}{σ:St}{H:Hp}{s:Shared}{a:Addr}{o:Obj}{kvs:List (Key×V)}
theorem Inv.freeze(I:Inv X pins σ H s)(e:H a=some (.dK kvs))(B:s.heap.get? a=some o):Inv X pins σ (upd H a (.frz o (.dK kvs))) s:=by
 have q:=I.hok a _ e;exact I.write      (by rw[e];exact True.intro) (.inl rfl) (λb u _ z=>z) ⟨o,B⟩ ⟨B,q.stay (λ_ _ _ z=>z) (λb z=>by rw[ai (by grind)];exact z) λb xs z=>by rw[ai (by grind)];exact z⟩
theorem Inv.notFrz(I:Inv X pins σ H s)(e:H a=some (.dK kvs)):∀o u,X.H₀ a≠some (.frz o u):=λo u z=>by
 have:=I.base.frzs a o u z;grind
theorem Inv.thaw(I:Inv X pins σ H s)(e:H a=some (.frz o (.dK kvs)))(L:∀o u,X.H₀ a≠some (.frz o u)):Inv X pins σ (upd H a (.dK kvs)) s:=by
 have nt:∀xs,X.H₀ a≠some (.tup xs):=λxs z=>by have:=I.base.tups a xs z;rw[e]at this;cases this
 have nb:∀ps,X.H₀ a≠some (.tbl ps):=λps z=>by obtain⟨_,q⟩:=I.base.tbls a ps z;rw[e]at q;cases q
 have ne:∀{b},H b=none->b≠a:=λh z=>by subst z;rw[e]at h;cases h
 refine⟨I.ok,I.os,I.bare,⟨I.base.keep,I.base.slot,λb B q n O=>?_,I.base.there,λb xs z=>?_,λb B u z=>?_,λb ps z=>?_⟩,I.loc,I.cell,?_,λx c z=>?_,λp S=>?_,λb u z=>?_,I.len⟩
 .have:=I.base.free b B q n O;rw[ai (ne this)];exact this
 .rw[ai (show b≠a from λw=>by subst w;exact nt xs z)];exact I.base.tups b xs z
 .rw[ai (show b≠a from λw=>by subst w;exact L B u z)];exact I.base.frzs b B u z
 .rw[ai (show b≠a from λw=>by subst w;exact nb ps z)];exact I.base.tbls b ps z
 .rw[ai (ne I.free)];exact I.free
 .rw[ai (ne (I.freeC x c z))];exact I.freeC x c z
 .obtain⟨Y,p2,Z⟩:=I.pin p S;exact⟨Y,by rw[ai (ne p2)];exact p2,Z⟩
 .have st:∀{c w},ObjOk X.prog X.w H s.heap c w->ObjOk X.prog X.w (upd H a (.dK kvs)) s.heap c w:=fun {c w} q=>
   q.stay (λ_ _ _ z=>z) (λb z=>by rw[ai (rL z e (λz=>nomatch z))];exact z) λb xs z=>by rw[ai (rL z e (λz=>nomatch z))];exact z
  by_cases J:b=a
  .subst J;rw[af]at z;cases z;exact st (I.hok _ _ e).2
  .rw[ai J]at z;exact st (I.hok b u z)
end
def ItK(a:Addr)(o:Obj)(kvs:List (Key×V)):It:=
 ⟨λi H=>i<kvs.length/\H a=some (.frz o (.dK kvs)),λi H x H'=>H'=H/\∃k v,kvs[i]?=some (k,v)/\x=kV k,λi H=>i=kvs.length/\H a=some (.frz o (.dK kvs))⟩
theorem nG{P w k u}(h:(bj P w).is k u=true):RelV (kV k) u:=by
 rcases bQ h with ⟨i,t,rfl,rfl⟩|⟨x,t,rfl,rfl⟩
 .exact⟨t,rfl⟩
 .exact⟨t,rfl⟩
theorem aah{P:Program}{w:World}{K:PySem.W.Frag}{tg:Expr}(a it:Addr)(o:Obj) kvs (ep:Nat)(S:∃es,o.data=.dict es ep):ab5 P w K tg (ItK a o kvs) [it] it (λi h=>h.IsKeyIter it a i kvs.length ep) where
 mem:=by simp
 obj:=λi h st b J=>by
  have e:b=it:=by simpa using J
  subst e;obtain⟨o,e,c,d⟩:=st;simp_all
 keep:=λi h h' st k=>st.at λo e=>k it (by simp) o e
 item:=by
  intro X hP hw hK hc i pins s σ H E I hf st hg;subst hP hw hK;obtain⟨hi,hH⟩:=hg;obtain⟨ho,_,_,vs,B,dd⟩:=I.hok a _ hH;obtain⟨L,Y⟩:=dd.dictAt;have ee:L=ep:=by
   obtain⟨es,h1⟩:=S;obtain⟨o',ah,h2,_,h3,_⟩:=id Y;grind
  subst ee;have O:=B.length;obtain⟨⟨k,v⟩,hx⟩:∃p,vs[i]?=some p:=⟨vs[i],by simp[←O,hi]⟩;obtain⟨f0,f1,f2,f3,f4,f5⟩:=hf it (by simp);refine wpAny_pyNext_dict_item  (by rw[←O];exact st) Y hx λan h' Z z ao=>?_;rw[←O]at z;have I1:=I.turned (t':=s.toks) (λb o J e=>(ao.2 b J).trans e) f0 f1 f3 f4 f5;have hk:∃v',kvs[i]?=some (k,v'):=by
   have e1:(kvs.map (·.1))[i]?=some k:=by rw[B.keys,ah1,hx];rfl
   rw[ah1]at e1;cases q:kvs[i]? with
   |none=>simp_all
   |some p=>rw[q]at e1;cases e1;exact⟨p.2,rfl⟩
  obtain⟨v',ar⟩:=hk;obtain⟨oi,e,c,d⟩:=id z;exact⟨an,rfl,acH  e c d (by decide) ⟨kV k,H,I1,nG Z,⟨rfl,k,v',ar,rfl⟩,z,λb J=>(hf b J).1⟩⟩
 done:=by
  intro X hP hw hK hc i pins s σ H E I hf st hg;subst hP hw hK;obtain⟨hi,hH⟩:=hg;obtain⟨ho,_,_,vs,B,dd⟩:=I.hok a _ hH;obtain⟨L,Y⟩:=dd.dictAt;have ee:L=ep:=by
   obtain⟨es,h1⟩:=S;obtain⟨o',ah,h2,_,h3,_⟩:=id Y;simp_all
  subst ee;have O:=B.length;obtain⟨f0,f1,f2,f3,f4,f5⟩:=hf it (by simp);exact wpAny_pyNext_dict_end  (I.ok.hd hc) (by rw[←O];exact st) Y (by rw[hi,O];simp) λh' eb=>⟨rfl,I.turned (t':=s.toks) (λb o J e=>eb b o J e) f0 f1 f3 f4 f5⟩
 self:=λ_ _ _ _ _ st h=>wpAny_pyIter_keyiter st h
def agM(H₀:Hp)(td:TE):TI:=λσ H R=>td σ H λx H1=>∃a kvs,x=.ref a/\H1 a=some (.dK kvs)/\∀o,(∀o' u,H₀ a≠some (.frz o' u))->R (ItK a o kvs) (upd H1 a (.frz o (.dK kvs)))
section
variable {X:Cx}{tg:Expr}
theorem wW{l tl H₀}(Y:X.H₀=H₀)(Z:PE X l tl):PI X tg l (agM H₀ tl):=by
 subst Y;intro pins s σ H R I h;refine thn (Z _ s σ H _ I h) λv B ⟨y,H1,J,r1,q1⟩=>?_;obtain⟨a,kvs,rfl,e,q⟩:=q1;cases r1;obtain⟨z,hd,vs,L,dd⟩:=m7 J.hok e;obtain⟨ep,S⟩:=dd.dictAt;refine wpAny_pyIter_dict  hd S ?_;obtain⟨o,es,ho,_,O,_⟩:=id S;have I2:=(J.freeze e ho).kept (t':=B.toks) (h':=B.heap.push {cls:=.type "dict_keyiterator",data:=.fields #[.ref a,.int 0 0,.int vs.length 0,.int ep 0] }) λb o=>ahX _;have hn:(upd H1 a (.frz o (.dK kvs))) B.heap.objs.size=none:=by
  have:=J.fresh;rw[ai (by grind)];exact this
 refine⟨B.heap.objs.size,[B.heap.objs.size],_,ItK a o _,upd H1 a _,rfl,I2,aah a _ o _ ep ⟨es,O⟩,⟨_,aib _ rfl,rfl,by rw[L.length];rfl⟩,λb hb=>?_,q o (J.notFrz e)⟩;have e:=by simpa using hb
 subst e;exact J.fpOk (ah4 _) hn
def ag0(H₀:Hp)(t:TS):TS:=λD σ H=>∃a o kvs,H a=some (.frz o (.dK kvs))/\(∀o' u,H₀ a≠some (.frz o' u))/\t D σ (upd H a (.dK kvs))
theorem xC{z t H₀}(B:X.H₀=H₀)(h:PSs X z t):PSs X z (ag0 H₀ t):=by
 subst B;intro pins s σ H D I hw;obtain⟨a,o,kvs,e,J,q⟩:=hw;exact h _ s σ _ D (I.thaw e J) q
end
end L2
namespace L2
open PySem PySem.Spec PyProof.Rows
def gi(nl:Nat)(ix:List Nat)(g:TG)(tf:TT)(tk tv:TE)(σ:St)(D:Addr)(ys:List (Key×V))(H:Hp)(x:V)(nxt:List (Key×V)->Hp->Prop):Prop:=
 g x (cC nl ix σ) H λσ4 H4=>(σ4.length=(cC nl ix σ).length/\σ4.drop nl=ix.map λj=>(σ[j]?).join)/\tf σ4 H4 λb H5=>
  if b=true then tk σ4 H5 λz H6=>tv σ4 H6 λy H7=>∃k:Key,z=kV k/\H7 D=some (.dK ys)/\ys.length<sizeLine/\nxt (eG ys k y) (upd H7 D (.dK (eG ys k y))) else nxt ys H5
def qS(nl:Nat)(ix:List Nat)(g:TG)(tf:TT)(tk tv:TE)(σ:St)(J:It)(H1:Hp)(D:Addr)(Q:VK):Prop:=
 ∃W:Nat->Nat->List (Key×V)->Hp->Prop,(∃m,W 0 m [] (upd H1 D (.dK [])))∧
 ∀i m ys H2,W i m ys H2->H2 D=some (.dK ys)/\((J.stop i H2/\Q (.ref D) H2)\/(J.go i H2/\∀x H3,J.yld i H2 x H3->gi nl ix g tf tk tv σ D ys H3 x λys' H'=>∃m',m'<m/\W (i+1) m' ys' H'))
theorem xk nl ix wi g tf tk tv σ H Q (h:wi σ H λJ H1=>∀D,H1 D=none->qS nl ix g tf tk tv σ J H1 D Q):tV nl ix wi g tf tk tv σ H Q:=h
section
variable {nl:Nat}{ix:List Nat}{g:TG}{tf:TT}{tk tv:TE}{σ:St}{H1:Hp}{D:Addr}{Q:VK}(Pv:Nat->List (Key×V)->Hp->Prop)
theorem wF{J:It}{n:Nat}(L:Pv 0 [] (upd H1 D (.dK [])))(O:∀i ys H,Pv i ys H->H D=some (.dK ys))(S:∀i ys H,i<n->Pv i ys H->J.go i H)(stop:∀ys H,Pv n ys H->J.stop n H)
 (Y:∀i ys H x H',i<n->Pv i ys H->J.yld i H x H'->gi nl ix g tf tk tv σ D ys H' x λB H'=>Nx n i (Pv (i+1) B H'))
 (Z:∀ys H,Pv n ys H->Q (.ref D) H):qS nl ix g tf tk tv σ J H1 D Q:=by
 refine⟨λi m ys H=>m=n-i/\i<=n/\Pv i ys H,⟨n,by simp,ail _,L⟩,?_⟩;rintro i m ys H ⟨rfl,hi,p⟩;refine⟨O i ys H p,?_⟩;by_cases z:i<n
 .exact .inr ⟨S i ys H z p,λx H' y=>Y i ys H x H' z p y⟩
 .have e:i=n:=by lia
  subst e;exact .inl ⟨stop ys H p,Z ys H p⟩
theorem zd{K a xs}(J:Pv 0 [] (upd H1 D (.dK [])))(L:∀i ys H,Pv i ys H->H D=some (.dK ys))(z:∀i ys H,Pv i ys H->SqL K H a xs)
 (O:∀i ys H x,xs[i]?=some x->Pv i ys H->gi nl ix g tf tk tv σ D ys H x λB H'=>Nx xs.length i (Pv (i+1) B H'))(S:∀ys H,Pv xs.length ys H->Q (.ref D) H):qS nl ix g tf tk tv σ (Itl K a) H1 D Q:=by
 refine wF  Pv J L (λi ys H hi p=>⟨xs,xs[i],z i ys H p,by simp ⟩) (λys H p=>⟨xs,z _ ys H p,ah4 _⟩) (λi ys H x H' hi p y=>?_) S;obtain⟨e,y⟩:=y;subst e;exact O i ys H' x (y xs (z i ys H' p)) p
end
theorem qR{nl ix tk tv σ D ys H x nxt i}(h1:((cC nl ix σ).set i (some x)).drop nl=ix.map λj=>(σ[j]?).join)
 (h:tk ((cC nl ix σ).set i (some x)) H λz J=>tv ((cC nl ix σ).set i (some x)) J λy B=>∃k ,z=kV k/\B D=some (.dK ys)/\ys.length<sizeLine/\nxt (eG ys k y) (upd B D (.dK (eG ys k y)))):gi nl ix (aR i) nh tk tv σ D ys H x nxt:=by
 unfold gi aR nh;simp_all
theorem kN{nl ix te tf σ D ys H x nxt i}(h1:((cC nl ix σ).set i (some x)).drop nl=ix.map λj=>(σ[j]?).join)
 (h:tf ((cC nl ix σ).set i (some x)) H λb z=>if b=true then te ((cC nl ix σ).set i (some x)) z λy B=>B D=some (.lst ys)/\ys.length<sizeLine/\nxt (ys++[y]) (upd B D (.lst (ys++[y]))) else nxt ys z):cq nl ix (aR i) tf te σ D ys H x nxt:=by
 unfold cq aR;simp_all
structure ads(H:Hp)(kvs:List (Key×V))(ks ls:List Str):Prop where
 nd:(kvs.map (·.1)).Nodup
 mem:∀q,q∈kvs.map (·.1)↔∃x,q=Sum.inr x/\(x∈ks\/x∈ls)
 val:∀x v,(Sum.inr x,v)∈kvs->∃t:Addr,v=.ref t/\H t=some (.tup [.int ((ks.count x:Nat):Int),.int ((ls.count x:Nat):Int)])
theorem iE{kvs}{k:Key}{v}(h:cD kvs k=some v):(k,v)∈kvs:=by
 unfold cD at h;cases e:kvs.find? λz=>decide (z.1=k)<;>grind
theorem tW{kvs}{k:Key}(h:cD kvs k=none):k∉kvs.map (·.1):=by
 intro z;obtain⟨p,B,e⟩:=ah8.mp z;unfold cD at h;rw[Option.map_eq_none_iff]at h;have:=List.find?_eq_none.mp h p B;simp_all
theorem acf(kvs:List (Key×V))(k:Key)(v:V):((eG kvs k v).map (·.1)=kvs.map (·.1)/\k∈kvs.map (·.1))\/((eG kvs k v).map (·.1)=kvs.map (·.1)++[k]/\k∉kvs.map (·.1)):=by
 cases e:cD kvs k with
 |none=>
  rw[jh v e];exact .inr ⟨by simp,tW e⟩
 |some y=>
  have z:=iE e;have B:k∈kvs.map (·.1):=ah8.mpr ⟨_,z,rfl⟩;refine .inl ⟨?_,B⟩;unfold eG;have J:(kvs.any λL=>decide (L.1=k))=true:=by rw[iK,e];rfl
  rw[if_pos J,aiG];apply aj4;intro p _;show (if p.1=k then (p.1,v) else p).1=p.1;split<;>rfl
def afg(t:TS):TS:=λD σ H=>∃N:St->Hp->Prop,(∀σ' H',N σ' H'->D.nx σ' H')/\t {D with nx:=N} σ H
theorem cy{X st t}(h:PS X st t):PS X st (afg t):=by
 intro pins s σ H D I hw;obtain⟨N,J,q⟩:=hw;refine thn (h _ s σ H _ I q) λf O z=>?_;cases f with
 |next=>obtain⟨B,H',L,n⟩:=z;exact⟨B,H',L,J _ _ n⟩
 |brk=>exact z
 |cont=>exact z
 |ret u=>exact z
theorem gd(a b:Str):(a++b).cps.toList=a.cps.toList++b.cps.toList:=by
 show (a.cps++b.cps).toList=_;simp
theorem lX:∀ss:_,(Txt.join (Str.ofString "") ss).cps.toList=(ss.map (·.cps.toList)).flatten:=by
 intro ss;show (Builtin.Str.glued _ ss).cps.toList=_;rw[StrLaws.glued_eq_join];have z:(Str.ofString "").cps.toList=[]:=rfl
 induction ss with
 |nil=>rfl
 |cons a r B=>
  cases r with
  |nil=>simp[Str.join]
  |cons b J=>
   have:Str.join _ (a::b::J)=a++Str.ofString "" ++ Str.join _ _:=rfl;rw[this,gd,gd,z,B];simp
section
variable {X:Cx}{outer scope:Scope}{N N':List Str}{nl:Nat}{ix:List Nat}{tg iter:Expr}{ifs:List Expr}{pos:Pos}{wi:TI}{g:TG}{tf:TT}
theorem gH{z te}(h1:X.env.scope=outer)(h2:X.N=N)(J:X.calm=true)(hi:PI X tg iter wi)
 (L:∀C fp s₀ H₀,PG (X.comp scope N' C fp s₀ H₀) tg g)(O:∀C fp s₀ H₀,PIf (X.comp scope N' C fp s₀ H₀) ifs tf)(Y:∀C fp s₀ H₀,PE (X.comp scope N' C fp s₀ H₀) z te)
 (B:gx outer scope N N' nl ix=true:=by decide +kernel)(Z:∀x,foldedSetIterable iter X.env x=pure x:=by intro _;rfl):PE X (.ListComp z [⟨tg,iter,ifs,0⟩] scope pos) (iO nl ix wi g tf te):=
 let ⟨S,Cp⟩:=eQ h1 h2 B
 jz J S Cp hi L O Y Z
theorem agB{B J tk tv}(h1:X.env.scope=outer)(h2:X.N=N)(L:X.calm=true)(hi:PI X tg iter wi)
 (O:∀C fp s₀ H₀,PG (X.comp scope N' C fp s₀ H₀) tg g)(Y:∀C fp s₀ H₀,PIf (X.comp scope N' C fp s₀ H₀) ifs tf)(Z:∀C fp s₀ H₀,PE (X.comp scope N' C fp s₀ H₀) B tk)(hv:∀C fp s₀ H₀,PE (X.comp scope N' C fp s₀ H₀) J tv)
 (z:gx outer scope N N' nl ix=true:=by decide +kernel)(hs:∀x,foldedSetIterable iter X.env x=pure x:=by intro _;rfl):PE X (.DictComp B J [⟨tg,iter,ifs,0⟩] scope pos) (tV nl ix wi g tf tk tv):=
 let ⟨S,Cp⟩:=eQ h1 h2 z
 xj L S Cp hi O Y Z hv hs
end
structure CompScopeF(X:Cx)(scope:Scope):Prop where
 kind:scope.kind=.function
 nocell:∀x∈scope.names,x.2≠.cell
 loc:∀x∈scope.names,x.2=.local->scope.names.lookup x.1=some .local
 free:∀x∈scope.names,x.2=.free->X.env.kindOf x.1=some .cell\/X.env.kindOf x.1=some .free
section
variable {X:Cx}{pins:List (Addr×Obj)}{σ:St}{H:Hp}{s:Shared}{scope:Scope}{N':List Str}{fp:List Addr}
theorem CompScopeF.cells(S:CompScopeF X scope)(ok:X.Ok):∀x∈scope.names,x.2=.free->∃c,X.env.cells.lookup x.1=some c:=λx z B=>ok.has _ (S.free x z B)
theorem CompScopeF.sub(S:CompScopeF X scope)(ok:X.Ok){x c}(e:(jJ X.env scope.names []).lookup x=some c):X.env.cells.lookup x=some c:=by
 rcases ju _ [] x c (S.cells ok) e with h|h<;>simp_all
theorem CompScopeF.ok(S:CompScopeF X scope)(I:Inv X pins σ H s)(B:∀b∈fp,gI X pins H b)(L:∀b∈fp,b<s.heap.objs.size):(X.comp scope N' s.heap.objs.size fp s H).Ok where
 mod:=I.ok.mod
 kind:=S.kind
 glob:=I.ok.glob
 blt:=I.ok.blt
 above:=ah4 _
 inj:=λx y c O Y=>I.ok.inj x y c (S.sub I.ok O) (S.sub I.ok Y)
 has:=λx Z=>by
  have J:=Z;have fr:(x,NameKind.free)∈scope.names:=by
   rcases J with h|h
   .obtain⟨k',h1,h2⟩:=dH h;rcases h2 with h2|⟨h2,_⟩
    .subst h2;exact absurd rfl (S.nocell _ h1)
    simp_all
   .obtain⟨k',h1,h2⟩:=dH h;grind
  exact gr _ [] x fr
 cab:=λx c h _=>by cases h
 hd:=I.ok.hd
 frames:=I.ok.frames
 stk:=.inl rfl
 exf:=λb z=>⟨ah6 (L b z),λx c e=>(B b z).2.2.2.2.1 x c (S.sub I.ok e)⟩
 bs:=I.bs
 bsz:=aij I.ok.bsz I.sz
 noex:=λb o e z=>by
  rcases (B b z).2.2.2.1 with h|h
  .exact I.ok.noex b o e h
  .exact absurd (ah9 (ah3 e) (aij I.ok.bsz h)) (ai8 _)
 exfs:=λb z hs=>by
  rcases ain.mp (I.stkSub b hs) with h|h
  .exact (B b z).2.1 h
  .exact (B b z).2.2.1 h
 funs:=I.stack
 frf:=I.stkFree
structure aea(X:Cx)(scope:Scope)(N':List Str)(nl:Nat)(ix:List Nat):Prop where
 len:N'.length=nl+ix.length
 at':∀(k j:Nat),ix[k]?=some j->∃x,X.N[j]?=some x/\N'[nl+k]?=some x/\(X.env.kindOf x=some .cell\/X.env.kindOf x=some .free)/\((relabel scope X.env).names.lookup x=some .cell\/(relabel scope X.env).names.lookup x=some .free)/\(x,NameKind.free)∈scope.names
theorem aaT{nl ix h1 tk}(S:CompScopeF X scope)(Cp:aea X scope N' nl ix)(I:Inv X pins σ H s)(hf:∀b∈fp,gI X pins H b)(ho:∀b∈fp,b<s.heap.objs.size)
 (hn:h1.Ns s.heap.objs.size (λ_=>none))(Z:∀b o,s.heap.get? b=some o->h1.get? b=some o):Inv (X.comp scope N' s.heap.objs.size fp s H) [] (cC nl ix σ) H {s with heap:=h1,toks:=tk}:=by
 have ok:=S.ok (N':=N') I hf ho;refine⟨ok,rfl,I.bare,Un.kept Z,⟨_,hn,λi x v e1 e2 e3=>?_⟩,λx c e=>?_,I.hok.fresh (ah4 _),λx c e=>I.freeC x c (S.sub I.ok e),λp hp=>by simp[Cx.comp]at hp,I.hok.kept Z,?_⟩
 .unfold cC at e2;rw[akP]at e2;split at e2
  .simp_all
  .rename_i hi;rw[aiD]at hi e2;rw[ah1]at e2;cases ej:ix[i-nl]? with
   |none=>simp_all
   |some j=>
    have J:σ[j]?=some (some v):=by
     cases q:σ[j]?<;>simp_all
    obtain⟨x',a1,a2,a3,a4,a5⟩:=Cp.at' _ _ ej;have aa:nl+(i-nl)=i:=by lia
    rw[aa]at a2;have L:N'[i]?=some x:=e1;rw[a2]at L;cases L;obtain⟨m,hm,hl⟩:=I.loc;obtain⟨u,r,l⟩:=hl j x v a1 J (.inr a3);refine⟨u,r,?_⟩;rcases l with ⟨k,_⟩|⟨_,c,ec,z⟩
    .simp_all
    .obtain⟨c',O⟩:=gr  _ [] x a5;have Y:=S.sub I.ok O;rw[ec]at Y;cases Y;obtain⟨o,B,hd⟩:=z;exact .inr ⟨a4,c,O,o,Z _ _ B,hd⟩
 .obtain⟨v,o,B,hd⟩:=I.cell x c (S.sub I.ok e);exact⟨v,o,Z _ _ B,hd⟩
 .show (cC nl ix σ).length=N'.length;unfold cC;rw[ahZ,aiD,ahY,Cp.len]
theorem yE{H'}{Y:St}{pins'  s'  h' }(I:Inv X pins σ H s)(O:∀b∈fp,gI X pins H b)
 (J:Inv (X.comp scope N' s.heap.objs.size fp s H) pins' Y H' s')(S:Heap.SameBut s.heap.objs.size s'.heap h'):Inv X pins σ H' {s' with heap:=h' }:=by
 have lo:∀b o,s.heap.get? b=some o->b≠s.heap.objs.size:=λb o e=>ah6 (ah3 e);have B:=J.base;refine I.call'  (J.os) ⟨λb o e n z L=>?_,λb o e n z L=>?_,B.free,λb o e L=>?_,B.tups,B.frzs,B.tbls⟩ (λb u e=>?_) J.bare λb z=>⟨(O b z).2.2.2.1,(O b z).2.1,(O b z).2.2.2.2.1,(O b z).2.2.2.2.2⟩
 .exact (S.2 b (lo b o e)).trans (B.keep b o e n z L)
 .obtain⟨sl,q⟩:=B.slot b o e n z L;exact⟨sl,(S.2 b (lo b o e)).trans q⟩
 .obtain⟨o',q⟩:=B.there b o e L;exact⟨o',(S.2 b (lo b o e)).trans q⟩
 .have nl:H' s.heap.objs.size=none:=J.free;refine (J.hok b u e).stay (λc v Z=>(S.2 c ?_).trans) (λ_ q=>q) λ_ _ q=>q;grind
end
section
variable {X:Cx}
theorem zC{ak tg iter:Expr}{ifs:List Expr}{scope:Scope}{pos:Pos}{N':List Str}{nl:Nat}{ix:List Nat}{wi:TI}{g:TG}{tf:TT}{te:St->TE}(hc:X.calm=true)(S:CompScopeF X scope)(Cp:aea X scope N' nl ix)(hi:PI X tg iter wi)
 (hg:∀C fp s₀ H₀,PG (X.comp scope N' C fp s₀ H₀) tg g)(hf:∀C fp s₀ H₀,PIf (X.comp scope N' C fp s₀ H₀) ifs tf)(he:∀pins σ C fp s₀ H₀,Inv X pins σ H₀ s₀->(∀b∈fp,gI X pins H₀ b)->(∀b∈fp,b<s₀.heap.objs.size)->C=s₀.heap.objs.size->PE (X.comp scope N' C fp s₀ H₀) ak (te σ))
 (hs:∀x,foldedSetIterable iter X.env x=pure x:=by intro _;rfl):PE X (.ListComp ak [⟨tg,iter,ifs,0⟩] scope pos) (λσ H Q=>iO nl ix wi g tf (te σ) σ H Q):=by
 intro pins s σ H Q I h;refine ajb   rfl hs (cM (S.cells I.ok)) S.kind S.loc ?_;refine thn (hi pins s σ H _ I h) λv s1 h1=>thn h1 λbf z h2=>?_;obtain⟨it,fp,tn,J,H2,rfl,I2,T,al,f2,h2⟩:=h2;obtain⟨W,⟨m0,w0⟩,aq⟩:=h2 z.heap.objs.size I2.fresh;refine ajc (ajC S.nocell (by simp_all) (λar O Y=>?_) S.kind);have as:∀b∈fp,b<z.heap.objs.size:=λb B=>by
  obtain⟨o,e,_⟩:=T.obj 0 _ al b B;exact ah3 e
 have I3:Inv X _ σ _ {z with heap:=z.heap.push _,toks:=z.toks}:=I2.lnew .nil (ail _);have f3:∀b∈fp,gI X _ (upd H2 _ (.lst [])) b:=λb B=>by
  refine⟨?_,(f2 b B).2⟩;rw[ai (ah6 (as b B))];exact (f2 b B).1
 generalize hS3:z.heap.push _=Z at O Y I3⊢;have aM:Z.objs.size=z.heap.objs.size+1:=by rw[←hS3,aiP]
 have aa:=λb B=>by
  show b<Z.objs.size;rw[aM];exact aiB (as b B)
 have old:=λb o e=>Y.extBut b o (ah6 (ah3 e)) (ahX _ e);have I4:=aaT (tk:=z.toks+([]:List (Str×Value)).length) S Cp I3 f3 aa O old;generalize hX:X.comp scope N' Z.objs.size fp {z with heap:=Z,toks:=z.toks} (upd H2 z.heap.objs.size (.lst []))=L at *;have ab:L.prog=X.prog:=by rw[←hX];rfl
 have ac:L.w=X.w:=by rw[←hX];rfl
 have au:L.K=X.K:=by rw[←hX];rfl
 have aN:L.A=X.A:=by rw[←hX];rfl
 have av:L.calm=true:=by rw[←hX];exact hc
 have ah:L.xe=λ_ _=>False:=by rw[←hX];rfl
 have bj:L.ex=fp:=by rw[←hX];rfl
 have bk:L.pn=[]:=by rw[←hX];rfl
 have aw:L.env.locals=Z.objs.size:=by rw[←hX];rfl
 have aO:L.env=compEnvC scope (jJ X.env scope.names []) Z.objs.size X.env:=by rw[←hX];rfl
 have ax:=hg Z.objs.size fp {z with heap:=Z,toks:=z.toks} (upd H2 z.heap.objs.size (.lst []));have ay:=hf Z.objs.size fp {z with heap:=Z,toks:=z.toks} (upd H2 z.heap.objs.size (.lst []));have az:=he _ σ Z.objs.size fp _ _ I3 f3 aa rfl;rw[hX]at ax ay az;have am:=I4;have aA:∀{H' } {aP:St} {pins' } {s' } {h' },Inv L pins' aP H' s'->Heap.SameBut Z.objs.size s'.heap h'->Inv X _ σ H' {s' with heap:=h' }:=λI' sb=>by
  subst hX;exact yE I3 f3 I' sb
 have ad:∀{H' },(∀b∈fp,H' b=none)->∀b∈fp,gI L [] H' b:=λhn b B=>by
  refine⟨hn b B,?_,?_,.inl (by simp_all),?_,λp hp=>by simp_all⟩
  .rw[aw];exact ah6 (aa b B)
  .exact am.ok.exfs b (by simp_all)
  .exact (am.ok.exf b (by simp_all)).2
 have ae:codeAny (model X.prog X.w) X.A (.compLoop (.ListComp ak [⟨tg,iter,ifs,0⟩] scope pos) 0 (.ref it) (.ref z.heap.objs.size) L.env)
  (compPost (model X.prog X.w) X.A X.xe none (EP X pins σ Q) (.ref z.heap.objs.size) Z.objs.size) {z with heap:=ar,toks:=z.toks+([]:List (Str×Value)).length}:=by
  rw[←ab,←ac,←aN];refine jv (λn s'=>∃i ys H',Inv L [] _ H' s'/\tn i s'.heap/\(∀b∈fp,H' b=none)/\W i n ys H') ?_ m0
   ⟨0,[],_,am,T.keep _ _ _ al (λb B o e=>old b o (by rw[←hS3];exact ahX _ e)),λb B=>(f3 b B).1,w0⟩
  rintro n s5 ⟨i,ys,H5,I5,aB,aC,w5⟩;obtain⟨bo,aQ⟩:=aq i n ys H5 w5;rcases aQ with ⟨stop,qn⟩|⟨go,step⟩
  .rw[ab,ac];refine thn (T.done L ab ac au av i [] s5 _ H5 _ I5 (ad aC) aB stop) λr s6 ⟨hr,I6⟩=>?_;subst hr;obtain⟨m,hn,_⟩:=I6.loc;rw[aw]at hn;exact⟨m,hn,λh' sb=>⟨.ref _,H5,aA I6 sb,rfl,qn⟩⟩
  .have aD:=T.item L ab ac au av i [] s5 _ H5 (λ_ _=>False) I5 (ad aC) aB go;rw[←ab,←ac]at aD;refine thn aD λr s6 ⟨u,hr,h6⟩=>?_;subst hr;refine thn h6 λ_ s7 ⟨x,H7,I7,r7,y7,an,aR⟩=>?_;have aS:=I7.pinned (ad aR) (T.obj _ _ an);have g7:=ax _ s7 _ H7 x u _ aS r7 (step x H7 y7);rw[ah]at g7;refine thn g7 λ_ s8 ⟨bz,H8,I8,⟨aT,aU⟩,q8⟩=>?_;have f8:=ay _ s8 _ H8 _ I8 q8;rw[ah]at f8;refine thn f8 λok s9 ⟨H9,I9,q9⟩=>?_;have af:∀{aj} {ao} {ap},Inv L ..->(∃m',m'<n/\W (i+1) m' ap aj)->∃m,m<n/\∃i ys H',Inv L [] _ H' ao/\tn i _/\(∀b∈fp,H' b=none)/\W i m ys H':=fun {aj ao ap} ag ⟨m',hm,w'⟩=>by
    refine⟨m',hm,i+1,ap,aj,eC ag.unpinned aT aU,T.keep _ _ _ an λb B o e=>(ag.pin (b,o) (ah2 _ (ah2 _ (aF B e)))).1,λb B=>?_,w'⟩;obtain⟨o,e,d⟩:=T.obj _ _ an b B;exact (ag.pin _ (ah2 _ (ah2 _ (aF B e)))).2.1
   cases ok with
   |false=>
    exact af I9 q9
   |true=>
    have e9:=az _ s9 _ H9 _ I9 q9;rw[ah]at e9;refine thn e9 λxv ao ⟨y,aj,ag,aV,aE,hz,mw⟩=>?_;have aG:=cV  _ _ _ _ (.ref _) _ _ _ (λ_ H'=>H'=upd _ _ _) ag rfl (.cons aV .nil) ⟨_,ys,y,rfl,rfl,aE,hz,rfl⟩;rw[ah]at aG;refine thn aG λ_ bJ ⟨_,bK,aW,_,aX⟩=>?_;subst aX;exact af aW mw
 rw[aO]at ae;exact akz ae (T.self _ 0 _ _ _ (T.keep _ _ _ al (λb B o e=>old b o (by rw[←hS3];exact ahX _ e))) ae)
end
def ic(o:Option NameKind):Bool:=o==some .cell||o==some .free
theorem jL{o}:ic o=true↔o=some .cell\/o=some .free:=by unfold ic;simp_all
def vP(outer scope:Scope)(N N':List Str)(nl:Nat)(ix:List Nat):Bool:=
 (scope.kind == .function&&scope.names.all λx=>x.2 !=.cell&&(x.2 !=.local||scope.names.lookup x.1==some .local)&&(x.2 !=.free||ic (outer.names.lookup x.1))) &&
 (N'.length==nl+ix.length&&(List.range ix.length).all λk=>match ix[k]? with
  |none=>false
  |some j=>match N[j]? with
   |none=>false
   |some x=>N'[nl+k]?==some x&&ic (outer.names.lookup x)&&ic ((iH scope outer).lookup x)&&decide ((x,NameKind.free)∈scope.names))
theorem aca{X:Cx}{outer scope:Scope}{N N':List Str}{nl:Nat}{ix:List Nat}(h1:X.env.scope=outer)(h2:X.N=N)(h:vP outer scope N N' nl ix=true):CompScopeF X scope/\aea X scope N' nl ix:=by
 unfold vP at h;simp only[aiK,aiZ,ait,bne_iff_ne,ak9,ne_eq,ajL,jL]at h;obtain⟨⟨O,J⟩,S,Y⟩:=h;have kd:∀x,X.env.kindOf x=outer.names.lookup x:=λx=>by rw[←h1];rfl
 refine⟨⟨O,λx B=>(J x B).1.1,λx B e=>?_,λx B e=>?_⟩,⟨S,λk j e=>?_⟩⟩
 .rcases (J x B).1.2 with z|z<;>simp_all
 .rcases (J x B).2 with z|z<;>simp_all
 .have L:k<ix.length:=(ahW.mp e).1;have q:=Y k L;rw[e]at q;simp only at q;cases ex:N[j]? with
  |none=>simp_all
  |some x=>
   rw[ex]at q;simp only[aiK,ait,ajr,jL]at q;obtain⟨⟨⟨Z,q2⟩,q3⟩,q4⟩:=q;refine⟨x,by rw[h2];exact ex,Z,by rw[kd];exact q2,?_,q4⟩;have er:(relabel scope X.env).names=iH scope outer:=by rw[←h1];rfl
   simp_all
section
variable {X:Cx}{outer scope:Scope}{N N':List Str}{nl:Nat}{ix:List Nat}{tg iter:Expr}{ifs:List Expr}{pos:Pos}{wi:TI}{g:TG}{tf:TT}
theorem adu{z}{te:St->TE}(h1:X.env.scope=outer)(h2:X.N=N)(J:X.calm=true)(hi:PI X tg iter wi)
 (L:∀C fp s₀ H₀,PG (X.comp scope N' C fp s₀ H₀) tg g)(O:∀C fp s₀ H₀,PIf (X.comp scope N' C fp s₀ H₀) ifs tf)(Y:∀pins σ C fp s₀ H₀,Inv X pins σ H₀ s₀->(∀b∈fp,gI X pins H₀ b)->(∀b∈fp,b<s₀.heap.objs.size)->C=s₀.heap.objs.size->PE (X.comp scope N' C fp s₀ H₀) z (te σ))
 (B:vP outer scope N N' nl ix=true:=by decide +kernel)(Z:∀x,foldedSetIterable iter X.env x=pure x:=by intro _;rfl):PE X (.ListComp z [⟨tg,iter,ifs,0⟩] scope pos) (λσ H Q=>iO nl ix wi g tf (te σ) σ H Q):=
 let ⟨S,Cp⟩:=aca h1 h2 B
 zC J S Cp hi L O Y Z
end
structure ab8 where
 nm:Str
 ql:Str
 pr:Arguments
 bd:List Stmt
 sc:Scope
def fnO(N:ab8)(cl:List (Str×Addr))(f c':Addr):HO:=.ext λh=>∃doc pm ctv,h.get? f=some (fnMade N.nm N.ql N.pr N.bd N.sc cl doc pm c' ctv)
def cdO(ql:Str)(c':Addr):HO:=.ext λh=>h.CodeRec (.ref c') ql
theorem aab{ql c'}{h h':Heap}(x:h.CodeRec (.ref c') ql)(k:∀o,h.get? c'=some o->h'.get? c'=some o):h'.CodeRec (.ref c') ql:=by
 obtain⟨c,o,z,t,e,B,J,L⟩:=x;cases e;exact⟨c',o,z,t,rfl,k o B,J,L⟩
theorem agg{P w H h ql c'}(x:h.CodeRec (.ref c') ql):ObjOk P w H h c' (cdO ql c'):=by
 refine⟨x,?_,λh1 h2=>aab⟩;obtain⟨c,o,z,t,e,B,J,L⟩:=x;simp_all
theorem adT{P w H h N cl f c' doc pm ctv}(x:h.get? f=some (fnMade N.nm N.ql N.pr N.bd N.sc cl doc pm c' ctv)):ObjOk P w H h f (fnO N cl f c'):=
 ⟨⟨doc,pm,ctv,x⟩,⟨_,x⟩,by grind⟩
inductive TabAt(Pt:Addr)(pos:Pos)(ql:Str)(H:Hp):Prop
 |no (ps:Array Value):H Pt=some (.tbl ps)->TriplesOk ps.toList->codeAmong pos ps.toList=none->TabAt Pt pos ql H
 |yes (ps:Array Value) (c':Addr):H Pt=some (.tbl ps)->TriplesOk ps.toList->codeAmong pos ps.toList=some (.ref c')->H c'=some (cdO ql c')->TabAt Pt pos ql H
theorem mT{a b:Nat}{c}:∀{l},TriplesOk l->TriplesOk (l++[rawInt a,rawInt b,c])
 |[],_=>by simp[TriplesOk,rawInt]
 |[x],h=>by cases x<;>exact absurd h (by simp[TriplesOk])
 |[x,y],h=>by cases x<;>cases y<;>exact absurd h (by simp[TriplesOk])
 |x::y::z::r,h=>by
  cases x<;>cases y<;>first
   |exact mT (l:=r) h
   |exact absurd h (by simp[TriplesOk])
section
variable {X:Cx}{pins:List (Addr×Obj)}{σ:St}{H:Hp}{s:Shared}{Pt c' f:Addr}{ps more:Array Value}{N:ab8}{cl:List (Str×Addr)}
theorem Inv.nest{hF:Heap}{t':Nat}{doc pm ctv:Value}(I:Inv X pins σ H s)(J:H Pt=some (.tbl ps))(k:∀b o,b≠Pt->s.heap.get? b=some o->hF.get? b=some o)(O:hF.get? Pt=some {cls:=.none,data:=.fields (ps++more) })
 (L:s.heap.objs.size<=c')(Z:c'<f)(oc:hF.CodeRec (.ref c') N.ql)(of:hF.get? f=some (fnMade N.nm N.ql N.pr N.bd N.sc cl doc pm c' ctv)):
 Inv X pins σ (upd (upd (upd H Pt (.tbl (ps++more))) c' (cdO N.ql c')) f (fnO N cl f c')) {s with heap:=hF,toks:=t' }:=by
 have nP:Pt<s.heap.objs.size:=I.hok.lt J;have nC:H c'=none:=I.hok.fresh L;have nF:H f=none:=I.hok.fresh (aiF (aiA L Z));have old:∀b o,s.heap.get? b=some o->b≠c'/\b≠f:=λb o e=>by
  have l:=ah3 e;exact⟨ah6 (ah9 l L),ah6 (amc (ah9 l L) Z)⟩
 have at':∀b,b≠Pt->b≠c'->b≠f->(upd (upd (upd H Pt (.tbl (ps++more))) c' (cdO N.ql c')) f (fnO N cl f c')) b=H b:=λb h1 h2 Y=>by rw[ai Y,ai h2,ai h1]
 have aa:(upd (upd (upd H Pt (.tbl (ps++more))) c' (cdO N.ql c')) f (fnO N cl f c')) Pt=some (.tbl (ps++more)):=by rw[ai (ah6 (amc (ah9 nP L) Z)),ai (ah6 (ah9 nP L)),af]
 have B:∀b u,H b=some u->b≠Pt->(upd (upd (upd H Pt (.tbl (ps++more))) c' (cdO N.ql c')) f (fnO N cl f c')) b=some u:=λb u e h=>by
  rw[at' b h (ag e nC) (ag e nF),e]
 refine I.un ⟨λb o e n _ _=>k b o (λz=>by rw[z,J]at n;cases n) e,λb o e n _ _=>⟨o.slots,k b o (λz=>by rw[z,J]at n;cases n) e⟩,λb o e n _=>?_,λb o e _=>?_,λb xs e=>?_,λb o u e=>?_,λb qs e=>?_⟩ λb u e=>?_
 .rw[at' b (λz=>by rw[z,J]at n;cases n) (old b o e).1 (old b o e).2,n]
 .by_cases S:b=Pt
  .exact⟨_,S▸O⟩
  .exact⟨o,k b o S e⟩
 .exact B b _ e (λz=>by rw[z,J]at e;cases e)
 .exact B b _ e (λz=>by rw[z,J]at e;cases e)
 .by_cases S:b=Pt
  .subst S;rw[J]at e;cases e;exact⟨more,aa⟩
  .exact⟨#[],by rw[B b _ e S,Array.append_empty]⟩
 .by_cases Y:b=f
  .subst Y;rw[af]at e;cases e;exact adT of
  .rw[ai Y]at e;by_cases h2:b=c'
   .subst h2;rw[af]at e;cases e;exact agg oc
   .rw[ai h2]at e;by_cases h1:b=Pt
    .subst h1;rw[af]at e;cases e;exact O
    .rw[ai h1]at e;refine (I.hok b u e).stay (λc v hc q=>k c v ?_ q) (λc q=>B c _ q λz=>by rw[z,J]at q;cases q) λc xs q=>B c _ q λz=>by rw[z,J]at q;cases q
     rcases hc with z|z
     .rw[z];exact h1
     .intro y;rw[y,J]at z;cases z
inductive agX(Pt:Addr)(pos:Pos)(N:ab8)(cl:List (Str×Addr))(H:Hp)(f c':Addr)(H':Hp):Prop
 |mk:(∀b u,b≠Pt->H b=some u->H' b=some u)->TabAt Pt pos N.ql H'->H' c'=some (cdO N.ql c')->H' f=some (fnO N cl f c')->H f=none->agX Pt pos N cl H f c' H'
def ahI(X:Cx)(i:Nat)(Pt:Addr)(pos:Pos)(N:ab8):TS:=λD σ H=>TabAt Pt pos N.ql H/\∀f c' H',agX Pt pos N (jJ X.env N.sc.names []) H f c' H'->D.nx (σ.set i (some (.ref f))) H'
theorem aga{i pos nm pr Y sc c}(hN:X.N.Nodup)(hi:X.N[i]?=some nm)(hx:Loc X.env.scope nm)(al:pr.defaults=[])(am:pr.kw_defaults=[])(ha:annTrees pr none X.env=[])
 (an:∀x∈sc.names,x.2=.free->X.env.kindOf x.1=some .cell\/X.env.kindOf x.1=some .free)(O:X.env.code=.ref c)(C:CodeHd X.base c Pt)(B:X.base.BuiltinsAt X.mg Pt)
 {ql}(hq:qualnameIn X.env nm nm=ql)(hf:X.fn nm=true\/X.env.scope.names.lookup nm=some .local:=by first|exact .inl rfl|exact .inr rfl|assumption):
 PS X (.FunctionDef nm pr Y [] none [] sc none nm pos) (ahI X i Pt pos ⟨nm,ql,pr,Y,sc⟩):=by
 subst hq;intro pins s σ H D I ⟨hT,h⟩;refine PySem.W.nestDef_K al am ha ?_;have ab:=cM   λx hx e=>I.ok.has x.1 (an x hx e);have hg:=I.mod.glob.keeps I.bk;have C':=C.keeps I.bk;have B':=B.keeps I.bk;cases hT with
 |no ps Z ht ac=>
  have S:=I.hok Pt _ Z;have ao:mainGlobals≠Pt:=λz=>by
   obtain⟨o,es,ep,e,_⟩:=I.mod.glob;have:=(I.bs _ _ e).2;grind
  refine PySem.W.makeFunction_K ab I.ok.glob hg O C' S ht ac ao B' λc' ctv doc h' tk ap J L ad aq=>?_;have I2:=I.nest (N:=⟨nm,qualnameIn X.env nm nm,pr,Y,sc⟩)  (hF:=h'.push (fnMade nm _ pr Y sc (jJ X.env sc.names []) doc ((X.mg "__name__").getD .none) c' ctv)) (t':=tk) Z (λb o hb e=>ahX _ (ap b o hb e)) (ahX _ aq) J L (aab ad λo e=>ahX _ e) (aib _ rfl);refine ny I2 hN hi hx (v:=.ref h'.objs.size) rfl (λs2 I3=>⟨_,_,I3,h _ c' _ (.mk (λb u hb e=>?_) ?_ ?_ af ?_)⟩) hf
  .rw[ai (ag e (I.hok.fresh (aij J (aiF L)))),ai (ag e (I.hok.fresh J)),ai hb,e]
  .have nP:=I.hok.lt Z;refine .yes (ps++#[rawInt pos.line,rawInt pos.col,.ref c']) c' ?_ ?_ ?_ ?_
   .rw[ai (ah6 (amc (ah9 nP J) L)),ai (ah6 (ah9 nP J)),af]
   .rw[alY];exact mT ht
   .rw[alY];exact codeAmong_snoc _ ht ac
   .rw[ai (ah6 L),af]
  .rw[ai (ah6 L),af]
  .exact I.hok.fresh (aij J (aiF L))
 |yes ps c' Z ht ae hC=>
  have S:=I.hok Pt _ Z;refine PySem.W.makeFunction_hit ab I.ok.glob hg O C' S ht ae B' λctv doc h' tk hk ah=>?_;have nF:=I.hok.fresh ah;have I2:Inv X pins σ (upd H h'.objs.size (fnO ⟨nm,qualnameIn X.env nm nm,pr,Y,sc⟩ (jJ X.env sc.names []) h'.objs.size c')) {s with heap:=h'.push _,toks:=tk}:=
   I.laid (λb u e=>ahX _ (hk b u e)) ah (adT (doc:=doc) (pm:=(X.mg "__name__").getD .none) (ctv:=ctv) (aib _ rfl))
  have sm:∀b u,H b=some u->upd H h'.objs.size (fnO ⟨nm,qualnameIn X.env nm nm,pr,Y,sc⟩ (jJ X.env sc.names []) h'.objs.size c') b=some u:=λb u e=>by rw[ai (ag e nF),e]
  exact ny I2 hN hi hx (v:=.ref h'.objs.size) rfl (λs2 I3=>⟨_,_,I3,h _ c' _ (.mk (λb u _ e=>sm b u e) (.yes ps c' (sm _ _ Z) ht ae (sm _ _ hC)) (sm _ _ hC) af nF)⟩) hf
end
structure xO(p:Str)(fr:List Str)(sc:Scope):Prop where
 kind:sc.kind=.function
 co:sc.isCoroutine=false
 gen:sc.isGenerator=false
 nd:(p::fr).Nodup
 par:sc.names.lookup p=some .local
 free:∀x∈fr,sc.names.lookup x=some .free
 only:∀y∈sc.names,y.2≠.cell
 all:∀y∈sc.names,y.2=.free->y.1∈fr
structure lJ(h:Heap)(H:Hp)(cl:List (Str×Addr))(fr:List Str)(vals:Str->Option V):Prop where
 off:∀x c,cl.lookup x=some c->H c=none
 cell:∀x c,cl.lookup x=some c->∃v,h.IsCell c v
 has:∀x∈fr,∃c v u,cl.lookup x=some c/\vals x=some v/\RelV v u/\h.IsCell c (some u)
 inj:∀x y c,cl.lookup x=some c->cl.lookup y=some c->x=y
def cxN(P:Program)(w:World)(K:PySem.W.Frag)(mg:Str->Option Value)(base:Heap)(N:List Str)(qual:Str)(scope:Scope)(f:Addr)(cd:Value)(cl:List (Str×Addr))(A:Around)(outer:List Env)(s:Shared)(H:Hp):Cx where
 prog:=P
 w:=w
 K:=K
 mg:=mg
 base:=base
 A:=A.deeper (envX qual scope s.heap.objs.size f cd cl)
 N:=N
 s₀:=s
 H₀:=H
 env:=envX qual scope s.heap.objs.size f cd cl
 outer:=outer
 stack:=envX qual scope s.heap.objs.size f cd cl::outer
 ex:=[]
 calm:=true
 fn:=λ_=>false
 pn:=[]
 xe:=λ_ _=>False
section
variable {P:Program}{w:World}{K:PySem.W.Frag}{mg:Str->Option Value}{base:Heap}{qual:Str}{f c':Addr}{cd:Value}{cl:List (Str×Addr)}{A:Around}{outer:List Env}{s:Shared}{H:Hp}{p:Str}{fr:List Str}{N:ab8}{vals:Str->Option V}
theorem adi{h1 tk v u scope}(S:xO p fr scope)(Y:A.handled=none)(J:Env0 P w K mg base A outer s H)(r:RelV v u)(O:lJ s.heap H cl fr vals)
 (Z:h1.Ns s.heap.objs.size (λx=>[(p,u)].reverse.lookup x))(hk:∀b o,s.heap.get? b=some o->h1.get? b=some o):
 Inv (cxN P w K mg base (p::fr) qual scope f cd cl A outer s H) [] (some v::fr.map vals) H {s with heap:=h1,toks:=tk}:=by
 have L:∀b ,b∉(cxN P w K mg base (p::fr) qual scope f cd cl A outer s H).ex:=λb z=>absurd (show b∈[] from z) (by simp);have ck:∀{c} {x},s.heap.IsCell c x->h1.IsCell c x:=λ⟨o,ho,Y⟩=>⟨o,hk _ _ ho,Y⟩;refine⟨⟨J.mod,S.kind,rfl,rfl,ah4 _,O.inj,λy hy=>?_,λy c z _=>?_,λ_=>Y,Around.frames_deeper J.frames,.inr ⟨rfl,rfl⟩,λb z=>absurd z (L b),J.bs,J.bsz,λb _ _=>L b,λb z=>absurd z (L b),J.funs,J.frf⟩,
  rfl,J.bare,Un.kept hk,⟨_,Z,λi y x h1 h2 h3=>?_⟩,λy c h=>?_,J.hok.fresh (ah4 _),O.off,λq hq=>absurd (show q∈[] from hq) (by simp),J.hok.kept hk,?_⟩
 .rcases hy with hy|hy
  .exact absurd rfl (S.only _ (ajF hy))
  .obtain⟨c,_,_,e,_⟩:=O.has y (S.all _ (ajF hy) rfl);exact⟨c,e⟩
 .exact absurd (show false=true from z) (by decide)
 .have B:(p::fr)[i]?=some y:=h1;cases i with
  |zero=>
   simp only[List.getElem?_cons_zero,amz]at B h2;subst B;subst h2;refine⟨u,r,.inl ⟨S.par,?_⟩⟩;simp_all
  |succ i=>
   rw[amO]at B h2;rw[ah1,B]at h2;have ab:=ai0 h2;obtain⟨c,v',u',e,e2,r',z⟩:=O.has y (ah7 B);rw[ab]at e2;cases e2;exact⟨u',r',.inr ⟨.inr (S.free y (ah7 B)),c,e,ck z⟩⟩
 .obtain⟨x,z⟩:=O.cell y c h;exact⟨x,ck z⟩
 .show (some v::fr.map _).length=(p::fr).length;simp_all
abbrev SpN:=(Str->Option V)->V->Hp->VK->Prop
def zP(P:Program)(w:World)(K:PySem.W.Frag)(mg:Str->Option Value)(base:Heap)(k:Nat)(N:ab8)(p:Str)(fr:List Str)(sp:SpN):Prop:=
 ∀(f:Addr) (cd:Value) (cl:List (Str×Addr)) (A:Around) (outer:List Env) (s:Shared) (H:Hp) (vals:Str->Option V) (v:V) (Q:VK),Room k (A.deeper (envX N.ql N.sc s.heap.objs.size f cd cl))->sp vals v H Q →
  ∃t,PSs (cxN P w K mg base (p::fr) N.ql N.sc f cd cl A outer s H) N.bd t/\t {nx:=λ_ H'=>Q .non H',rt:=Q} (some v::fr.map vals) H
theorem zA{k sp v u doc pm ctv Q E}(S:xO p fr N.sc)(B:zP P w K mg base k N p fr sp)(hr:Room (k+1) A)(Y:Env0 P w K mg base A outer s H)(ho:s.heap.get? f=some (fnMade N.nm N.ql N.pr N.bd N.sc cl doc pm c' ctv))
 (Z:s.heap.CodeRec (.ref c') N.ql)(CA:lJ s.heap H cl fr vals)(hb:bindArgs (fnX N.nm N.ql N.pr N.bd N.sc cl .none .none doc pm none (.ref c') ctv) ⟨[u],[]⟩=pure [(p,u)])(r:RelV v u)(h:sp vals v H Q):
 codeAny (model P w) A (.call (.ref f) ⟨[u],[]⟩) (CR CX0 outer P w H s Q E) s:=by
 have aa:=Y.mod.nolimit.keeps λb o e=>(Y.bs b o e).1;refine codeAny_call_def    hr.depth ho rfl aa Z rfl (.of_eq hb) S.only (λx hx=>?_) (λh1 ab hk=>?_) S.co S.gen S.kind
 .rw[ah5]at hx;subst hx;exact S.par
 .obtain⟨t,ht,hq⟩:=B f (.ref c') cl A _ s H _ v Q (hr.deeper _) h;have I:=adi (tk:=s.toks + [(p,u)].length) (qual:=N.ql) (f:=f) (cd:=.ref c') S hr.hd Y r CA ab hk;refine aiu (ht [] _ _ H _ I hq) (λfl s' L=>?_) λe s' L=>L.elim;have O:∀{z} {H' } {v} {u},Inv (cxN P w K mg base (p::fr) N.ql N.sc f (.ref c') cl A _ s H) [] z H' s'->RelV v u->Q v H'->CE outer P w H s Q u s':=
   fun {z H' v u} J rv q=>⟨v,H',J.os,J.bare,J.base,J.hok,rv,q⟩
  cases fl with
  |ret u=>
   obtain⟨v,z,H',J,rv,q⟩:=L;exact O J rv q
  |next=>
   obtain⟨z,H',J,q⟩:=L;exact O (v:=V.non)  J rfl q
  |brk=>
   obtain⟨_,_,_,q⟩:=L;exact False.elim q
  |cont=>
   obtain⟨_,_,_,q⟩:=L;exact False.elim q
end
def agO(N:ab8)(cl:List (Str×Addr))(i:Nat)(G:St->Prop)(vals:St->Str->Option V)(sp:SpN)(t:TA):TE:=λσ H Q=>∃f c',σ[i]?=some (some (.ref f))/\H f=some (fnO N cl f c')∧
 t σ H λus H1=>G σ/\H1 f=some (fnO N cl f c')/\H1 c'=some (cdO N.ql c')/\∃v,us=[v]/\sp (vals σ) v H1 Q
section
variable {X:Cx}{N:ab8}{cl:List (Str×Addr)}{i k:Nat}{G:St->Prop}{vals:St->Str->Option V}{sp:SpN}{t:TA}{p x:Str}{fr:List Str}{e:Expr}{es:List Expr}{q pos:Pos}
theorem vS(S:xO p fr N.sc)(B:zP X.prog X.w X.K X.mg X.base k N p fr sp)(hr:Room (k+1) X.A)(aa:∀pins σ H s,Inv X pins σ H s->G σ->lJ s.heap H cl fr (vals σ))(hN:X.N[i]?=some x)(hv:Vis X.env.scope x)
 (hb:∀doc pm c' ctv u,bindArgs (fnX N.nm N.ql N.pr N.bd N.sc cl .none .none doc pm none c' ctv) ⟨[u],[]⟩=pure [(p,u)])(ha:PA X (e::es) t)
 (hd:(x == "__debug__")=false:=by decide)(ab:(x == "__classdict__")=false:=by decide)
 (he:starEach (e::es) X.env=(false,eval e X.env)::starEach es X.env:=by rfl)(ac:(backTo pos (starEach es X.env)).any (·.1)=false:=by rfl):
 PE X (.Call (.Name x q) (e::es) [] pos) (agO N cl i G vals sp t):=by
 intro pins s σ H Q I h;obtain⟨f,c',e1,e2,h⟩:=h;refine akB (thn (adA hN hv hd ab _ s σ H (λv H'=>v=.ref f/\H'=H) I ⟨_,e1,rfl,rfl⟩) λfv s1 ⟨v,H1,I1,r1,ev,eH⟩=>?_);subst ev;subst eH;obtain rfl:fv=Value.ref f:=r1;have L:∀{s} {H},Inv X pins σ H s->H f=some (fnO N cl f c')->∃doc pm ctv,s.heap.get? f=some _:=λJ z=>(J.hok f _ z).1;obtain⟨doc,pm,ctv,Z⟩:=L I1 e2;refine PySem.W.callWith_F ⟨_,_,_,_,Z⟩ (thn (ha _ _ s1 σ _ _ I1 h) λus s2 ⟨vs,H2,O,r,g,e3,e4,v,ev,q⟩=>?_) he ac;subst ev;obtain⟨doc,pm,ctv,Z⟩:=L O e3;refine⟨⟨_,_,_,_,Z⟩,?_⟩;cases r with
 |cons r0 r1=>
  cases r1;refine wpAny_call (ajZ (zA (E:=E0) S B hr O.env0 Z (O.hok c' _ e4).1 (aa _ σ H2 s2 O g) (hb ..) r0 q) λr s' Y=>?_);cases r with
  |error e=>exact False.elim Y
  |ok fl=>
   cases fl with
   |ret u=>exact O.after Y
   |next=>exact False.elim Y
   |brk=>exact False.elim Y
   |cont=>exact False.elim Y
end
section
variable {X:Cx}{sc:Scope}{fr:List Str}
theorem um{pins}{σ:St}{H s}(I:Inv X pins σ H s)(z:∀x∈sc.names,x.2=.free->X.env.kindOf x.1=some .cell):∀x c,(jJ X.env sc.names []).lookup x=some c->X.env.cells.lookup x=some c:=λx c e=>by
 rcases ju _ [] x c (λx B e=>I.ok.has _ (.inl (z x B e))) e with h|h<;>simp_all
theorem yv{vals:St->Str->Option V}{G:St->Prop}(B:∀x∈sc.names,x.2=.free->X.env.kindOf x.1=some .cell)(J:∀x∈fr,(x,NameKind.free)∈sc.names)(hs:∀σ,G σ->∀x∈fr,∃(j:Nat) (v:V),X.N[j]?=some x/\σ[j]?=some (some v)/\vals σ x=some v):
 ∀pins σ H s,Inv X pins σ H s->G σ->lJ s.heap H (jJ X.env sc.names []) fr (vals σ):=by
 intro pins σ H s I g;have hc:=λx L e=>I.ok.has _ (.inl (B x L e));have sub:∀{x} {c},(jJ _ _ []).lookup x=some c->X.env.cells.lookup x=some c:=fun {x c} e=>by
  rcases ju _ [] x c hc e with h|h
  .cases h
  .exact h
 refine⟨λx c e=>I.freeC x c (sub e),λx c e=>I.cell x c (sub e),λx L=>?_,λx y c O S=>I.ok.inj x y c (sub O) (sub S)⟩;obtain⟨j,v,O,S,e3⟩:=hs σ g x L;obtain⟨c,Z⟩:=gr  _ [] x (J x L);have kx:=B _ (J x L) rfl;obtain⟨m,_,hl⟩:=I.loc;obtain⟨u,r,l⟩:=hl j x v O S (.inr (.inl kx));rcases l with ⟨k,_⟩|⟨_,c2,Y,z⟩
 .simp_all
 .have:=sub Z;rw[Y]at this;cases this;exact⟨_,v,u,Z,e3,r,z⟩
theorem qU{scope N' C fp s₀ H₀ B cl vals}(J:lJ s₀.heap H₀ cl fr vals)(L:∀x c,cl.lookup x=some c->X.env.cells.lookup x=some c)
 (Y:∀b∈fp,gI X B H₀ b):∀pins σ H s,Inv (X.comp scope N' C fp s₀ H₀) pins σ H s->True->lJ s.heap H cl fr vals:=by
 intro pins σ H s I _;have nx:=fun {x c} e z=>(Y c z).2.2.2.2.1 x c (L x c e) rfl;have S:∀{x} {c} {v},cl.lookup x=some c->s₀.heap.IsCell c v->s.heap.IsCell c v:=fun {x c v} e ⟨o,O,Z⟩=>by
  obtain⟨sl,q⟩:=I.base.any O (J.off x c e) (nx e);exact⟨_,q,Z⟩
 refine⟨λx c e=>?_,λx c e=>?_,λx hx=>?_,J.inj⟩
 .obtain⟨v,o,O,_⟩:=J.cell x c e;exact I.base.free c o O (J.off x c e) (nx e)
 .obtain⟨v,z⟩:=J.cell x c e;exact⟨v,S e z⟩
 .obtain⟨c,v,u,e,e2,r,z⟩:=J.has x hx;exact⟨c,v,u,e,e2,r,S e z⟩
end
def ae0(Pt:Addr)(H:Hp):Prop:=H Pt=some (.tbl #[])/\∀b,b≠Pt->H b=none\/∃o xs,H b=some (.frz o (.lst xs))
theorem aak{P:Program}{w:World}{K:PySem.W.Frag}{mg mb:Str->Option Value}{CX:CXT}{k:Nat}{fa a c Pt:Addr}{fd:FuncData}{x:Str}{sp:Sp}{B:Shared}{vs:List Value}{ns:List Int}
 (KX:K.In B.heap)(ac:B.heap.Ns mainGlobals mg)(L:B.heap.Ns builtinsNs mb)(ao:∀x:Str,x≠"__name__" → mb x=bootBuiltins x)(ad:B.heap.NoLimit)(hg:B.gens=#[])
 (hC:CodeHd B.heap c Pt)(hP:B.heap.get? Pt=some (tabObj #[]))(aG:K.lookup Pt=none)(hB:B.heap.BuiltinsAt mg Pt)
 (ha:B.heap.get? a=some {cls:=.type "list",data:=.seq vs.toArray})(hi:IntsAre vs ns)(hl:ns.length<=sizeLine)(hr:Room k callerA)
 (F:∀base:Heap,K.In base->base.Ns mainGlobals mg->CodeHd base c Pt->base.BuiltinsAt mg Pt->bx P w K mg base CX k fa fd [x] sp)(Z:∀(s:Shared) (u:Value),BindsTo s fd ⟨[u],[]⟩ [(x,u)])
 (aq:∀H:Hp,ae0 Pt H->SqL K H a (ns.map V.int)->sp [.ref a] H (λv _=>v=.bl true) λ_ _ _=>False)
 (ar:∀H e s',CX [] H B (λ_ _ _=>False) e s'->False):
 codeAny (model P w) callerA (.call (.ref fa) ⟨[.ref a],[]⟩) (λr s'=>r=.ok (.ret (.bool true))/\OldK B.heap s'.heap/\s'.os=B.os/\AllBare s'.gens) B:=by
 have rv:=u5 hi;have aD:=hi.length;have aP:a≠Pt:=λz=>by grind
 have S:∀H ,ae0 Pt H->SqL K H a (ns.map V.int)->HOk P w H B.heap->(∀b,H b≠none->b=a\/b=Pt)->(H a≠none->K.lookup a=none) →
  codeAny (model P w) callerA (.call (.ref fa) ⟨[.ref a],[]⟩) (λr s'=>r=.ok (.ret (.bool true))/\OldK B.heap s'.heap/\s'.os=B.os/\AllBare s'.gens) B:=by
  intro H hO hS ae hA hK;have J:∀{b} {o},B.heap.get? b=some o->H b=none->(adz _ H).get? b=some o:=aco;have af:∀{b} {o},B.heap.get? b=some o->o≠tabObj #[]->o≠{cls:=.type "list",data:=.seq vs.toArray}->H b=none:=fun {b o} e d1 d2=>by
   grind
  have O:∀{b} {m},B.heap.Ns b m->(adz _ H).Ns b m:=fun {b m} ⟨o,es,ep,e,d,r⟩=>⟨o,es,ep,J e (af e (by grind) λz=>by simp_all),d,r⟩;have ag:K.In _:=λb o e=>J (KX b o e) (by
   grind)
  have hM:Mod K mg _:=⟨ag,O ac,⟨mb,O L,ao⟩,let ⟨mc,h1,h2⟩:=ad;⟨mc,O h1,h2⟩⟩;have au:CodeHd (adz B.heap H) c Pt:=by
   obtain⟨o,av,ah,tf,aa,tg,aw,ai,tt,e1,e2,r⟩:=hC;exact⟨o,av,ah,tf,aa,tg,aw,ai,tt,J e1 (af e1 (λz=>by simp_all) λz=>by simp_all),e2,r⟩
  have ay:(adz B.heap H).BuiltinsAt mg Pt:=by
   obtain⟨bm,o,b1,b2,b3,b4,b5,b6,r⟩:=hB;exact⟨bm,o,b1,b2,b3,b4,by grind,b6,r⟩
  have e0:Env0 P w K mg _ callerA [] _ H:=⟨rfl,hM,λb o=>aeO,Nat.le_of_eq (z5 _ _),True.intro,λb L=>absurd (show b∈[] from L) (by simp),ae,.of_eq hg⟩;refine ajZ ((F _ ag (O ac) au ay).run callerA [] B H ⟨[.ref a],[]⟩ [.ref a] [.ref a] _ _ hr e0 (Z B (.ref a)) (.cons rfl .nil) (aq H hO hS)) λr s' h=>?_;cases r with
  |error e=>exact (ar H e s' h).elim
  |ok fl=>
   cases fl with
   |next=>exact False.elim h
   |brk=>exact False.elim h
   |cont=>exact False.elim h
   |ret u=>
    obtain⟨v,H',os,aj,un,Y,r',q⟩:=h;have q':=q;subst q';obtain rfl:u=Value.bool _:=r';have keep:=λb o nb e=>by
     cases q:H b with
     |none=>exact un.keep b o e q (λz=>absurd (show b∈[] from z) (by simp)) (by simp)
     |some u=>
      rcases hO.2 b nb with z|⟨ob,xs,z⟩
      .grind
      .have z2:=un.frzs b ob _ z
       let ⟨e1,_⟩:=ae b _ z
       let ⟨e2,_⟩:=Y b _ z2
       grind
    obtain⟨more,eT⟩:=un.tbls Pt #[] hO.1;have gT:s'.heap.get? Pt=some (tabObj more):=by
     have:=Y Pt _ eT;rw[Array.empty_append]at this;exact this
    refine⟨rfl,⟨λb o e=>?_,λb o e=>?_⟩,os,aj⟩
    .by_cases nb:b=Pt
     .subst nb;rw[hP]at e;cases e;exact .inr (.inl ⟨(hC.tab hP).isCodeTable,rfl,#[],more,rfl,by simp_all⟩)
     .exact .inl (keep b o nb e)
    .grind
 cases hk:K.lookup a with
 |some o=>
  have e:=KX a o hk;rw[ha]at e;cases e;refine S (λb=>if b=Pt then some (.tbl #[]) else none) ⟨if_pos rfl,λb nb=>.inl (if_neg nb)⟩ (.inr ⟨_,vs.toArray,_,hk,rfl,rfl,rfl,by simp_all,by simpa using rv⟩) (λb u z=>?_) (λb z=>?_) λz=>absurd (if_neg aP) z
  .by_cases L:b=Pt
   .have z':=(if_pos L).symm.trans z;cases z';subst L;exact hP
   .simp_all
  .grind
 |none=>
  refine S (λb=>if b=Pt then some (.tbl #[]) else if b=a then some (.frz {cls:=.type "list",data:=.seq vs.toArray} (.lst (ns.map V.int))) else none) ⟨if_pos rfl,λb nb=>?_⟩ (.inl (.inr ⟨{cls:=.type "list",data:=.seq vs.toArray},by simp_all⟩)) (λb u z=>?_) (λb z=>?_) λ_=>hk
  .dsimp only;rw[if_neg nb];by_cases L:b=a
   .exact .inr ⟨_,_,if_pos L⟩
   .exact .inl (if_neg L)
  .by_cases hp:b=Pt
   .have z':=(if_pos hp).symm.trans z;cases z';subst hp;exact hP
   .have z1:=(if_neg hp).symm.trans z;by_cases L:b=a
    .have z':=(if_pos L).symm.trans z1;cases z';subst L;exact⟨ha,by simp_all,vs,_,rv,ha⟩
    .simp_all
  grind
theorem afU{K x f c Pt L z O B fd vs sl J}(a:nsIn K mainGlobals x=some (some (.ref f)))(l:K.lookup f=some ⟨L,O,.func fd,sl⟩)(S:fd.code=.ref c)(Y:K.lookup c=some ⟨z,B,.fields vs,J⟩)(Z:vs[11]?=some (.ref Pt)):tabIn K x=some (c,Pt):=by
 unfold tabIn;simp_all
theorem walk_ofN{l:PySem.W.OpenLaw}{n k q J XP YP d dN}{K:Params->PySem.W.Frag}{CX}{sp:PySem.W.Frag->Addr->Sp}{x xN}
 (hn:l.most=some n)(ac:n<=sizeLine)(ad:d.params.defaults=[])(hr:Room k callerA)
 (hY:∀w h,YP w h->(K w.params).In h)
 (O:(recsOf q).find? (λe=>e.name==xN)=some dN)
 (F:∀w mg fa h,(K w.params).In h->h.Ns mainGlobals mg->mg d.name=some (.ref fa) →
  ∃c Pt fd,tabIn (K w.params) xN=some (c,Pt)/\(K w.params).lookup Pt=none/\(∀s u,BindsTo s fd ⟨[u],[]⟩ [(x,u)])∧
   ∀base:_,(K w.params).In base->base.Ns mainGlobals mg->CodeHd base c Pt->base.BuiltinsAt mg Pt->bx l.prog w (K w.params) mg base CX k fa fd [x] (sp (K w.params) Pt))
 (ae:∀K Pt H a (ns:List _),ns.length<=n->ae0 Pt H->SqL K H a (ns.map V.int)->sp K Pt [.ref a] H (λv _=>v=.bl true) λ_ _ _=>False)
 (af:∀H s e s',CX [] H s (λ_ _ _=>False) e s'->False):
 PySem.W.WalkO q J XP YP l.row.toRowW d [] (λf vs=>PySem.call f vs):=by
 refine Att.attach_call hn ad λw ak S mg mb fa o pm cd ap a vs ns G Y ho hd ar ag Z L B hg=>?_;have KX:=hY w _ Y;obtain⟨c,Pt,fd,ht,ai,hb,hF⟩:=F w mg fa _ KX G.T.g ag;obtain⟨hC,hP⟩:=PySem.W.tab_of G.T KX O ht;have hB:S.heap.BuiltinsAt mg Pt:=by
  obtain⟨bm,ob,b1,b2,b3,b4,b5,b6⟩:=G.T.bmain;refine⟨bm,ob,b1,b2,λz=>?_,λz=>?_,b3,b4,b5,b6⟩
  .obtain⟨o,es,ep,e,hd,_⟩:=G.T.g;grind
  grind
 exact aak KX G.T.g G.T.b G.T.builtins G.T.nolimit hg hC hP ai hB Z L (aij B ac) hr hF hb (λH=>ae _ Pt H a ns B) λH=>af H _
end L2
namespace LL
open PySem PySem.SeqAt PySem.W PyProof.Rows
open AutoSeq1 (wpAny_loadPart')
open MeetsSeq MeetsSeq2 MeetsSeq3
def abp(A:Around)(s:Shared)(y x:Value)(b:Bool):Prop:=
 ∀(prog:Program) (w:World) (E:Value->Shared->Prop) (Q:Value->Shared->Prop),Q (.bool b) s->wpAny (model prog w) A (richCompare .Lt y x) Q E s
def yf(m n:Nat)(e f:Nat->Bool):Nat->Nat->Bool
 |0,_=>decide (m<n)
 |k+1,i=>if e i=true then yf m n e f k (i+1) else f i
theorem zY(l b:Addr)(J B:Array Value)(n n2:Nat)(dd ab:Option Addr)(sl ac:Array (Option Value))(e f:Nat->Bool)(k:Nat):
 ∀i:Nat,min J.size B.size-i=k->Meets (Builtin.«list.__eq__.loop» ⟨[.ref l,.ref b,rawInt i,rawInt 0],[]⟩)
  (λA R s=>s.heap.get? l=some {cls:=.type "list",dict:=dd,data:=.seq J n,slots:=sl}/\s.heap.get? b=some {cls:=.type "list",dict:=ab,data:=.seq B n2,slots:=ac} ∧
   (∀j (h1:j<J.size) (h2:j<B.size),EqAt A.in1 s J[j] B[j] (e j))/\(∀j (h1:j<J.size) (h2:j<B.size),e j=false->abp A.in1 s J[j] B[j] (f j))∧
   R (.ok (.ret (.bool (yf J.size B.size e f k i)))) s):=by
 induction k with
 |zero=>
  intro i hk prog w A R s h;obtain⟨hp,g,d,tk,os⟩:=s;obtain⟨O,S,he,hf,h⟩:=h
  wp_walk using ai4 O,ai4 S
  have hz:J[((i:Nat):Int).toNat]?=none\/B[((i:Nat):Int).toNat]?=none:=by
   rcases Nat.lt_or_ge i J.size with h1|h1
   .right;simp;lia
   .left;simp;lia
  have go:R (.ok (.ret (.bool (decide (J.size<B.size))))) ⟨hp,g,d,tk,os⟩:=h;cases e1:J[((i:Nat):Int).toNat]? with
  |none=>
   wp_walk using ai4 O,ai4 S
   exact go
  |some x=>
   cases e2:B[((i:Nat):Int).toNat]? with
   |none=>
    wp_walk using ai4 O,ai4 S
    exact go
   |some y=>
    rcases hz with z|z
    .rw[e1]at z;cases z
    .rw[e2]at z;cases z
 |succ k ih=>
  intro i hk prog w A R s h;obtain⟨hp,g,d,tk,os⟩:=s;obtain⟨O,S,he,hf,h⟩:=h
  wp_walk using ai4 O,ai4 S
  have Y:i<J.size:=by lia
  have L:i<B.size:=by lia
  have Z:J[((i:Nat):Int).toNat]?=some J[i]:=by simp[Y]
  have aa:B[((i:Nat):Int).toNat]?=some B[i]:=by simp[L]
  have hc:((i:Int)+1)=((i+1:Nat):Int):=by push_cast;rfl
  rw[Z,aa];refine ahV (he i Y L prog w _ _ ?_);unfold yf at h;cases hb':e i with
  |true=>
   rw[hb',if_pos rfl]at h
   wp_walk
   rw[hc];exact⟨ake plain_eq_loop _,ajp entry_eq_loop (by
    rw[alK plain_eq_loop _];exact ih (i+1) (by lia) prog w A R _ ⟨O,S,he,hf,h⟩)⟩
  |false=>
   rw[hb',if_neg aie]at h
   wp_walk using ai4 O,ai4 S
   rw[Z,aa];refine ahV (hf i Y L hb' prog w _ _ ?_)
   wp_walk
   exact h
theorem abI(l b:Addr)(B z:Array Value)(n O:Nat)(dd J:Option Addr)(sl L:Array (Option Value))(e f:Nat->Bool):
 Meets (Builtin.«list.__lt__» ⟨[.ref l,.ref b],[]⟩)
  (λA R s=>s.heap.get? l=some {cls:=.type "list",dict:=dd,data:=.seq B n,slots:=sl}/\s.heap.get? b=some {cls:=.type "list",dict:=J,data:=.seq z O,slots:=L} ∧
   (∀j (h1:j<B.size) (h2:j<z.size),EqAt A.in1 s B[j] z[j] (e j))/\(∀j (h1:j<B.size) (h2:j<z.size),e j=false->abp A.in1 s B[j] z[j] (f j))∧
   R (.ok (.ret (.bool (yf B.size z.size e f (min B.size z.size) 0)))) s):=by
 intro prog w A R s h;obtain⟨hp,g,d,tk,os⟩:=s;obtain⟨S,Y,Z,hf,h⟩:=h;have f3:=AutoSeq1.sub_list_list
 wp_walk using ai4 S,ai4 Y
 exact⟨ake plain_eq_loop _,ajp entry_eq_loop (by
  rw[alK plain_eq_loop _];exact zY l b B z n O dd J sl L e f _ 0 (by lia) prog w A R _ ⟨S,Y,Z,hf,h⟩)⟩
section
variable {prog:Program}{w:World}{A:Around}{E:Value->Shared->Prop}{s:Shared}
theorem wu{l b B z e f Q}(hl:s.heap.IsList l B)(hb:s.heap.IsList b z)(hu:A.units<cLine)
 (he:∀j h1 (h2:j<z.size),EqAt A.in1 s B[j] z[j] (e j))(hf:∀j h1 (h2:j<z.size),e j=false->abp A.in1 s B[j] z[j] (f j))
 (h:Q (yf B.size z.size e f (min B.size z.size) 0) s):wpAny (model prog w) A (keyLt' oneType' (.ref l) (.ref b)) Q E s:=by
 obtain⟨⟨ag,dd,Z,sl⟩,J,hc,n,hd⟩:=id hl;obtain⟨⟨aa,aj,L,ak⟩,O,S,n2,Y⟩:=id hb;subst hc hd S Y;refine ahV (wpAny_cRoomFor hu (ahV (wpAny_callSpecialIfBound?_slot ⟨_,J,rfl⟩ F.slot_list_lt (call_meets F.slot_list_lt ⟨_,J,rfl⟩ F.entry_list_lt (F.args_list_lt_2 _ _) (abI l b _ _ n n2 dd _ sl _ e f) ⟨J,O,he,hf,?_⟩))));exact ajj h
end
end LL
namespace L2
open PySem PySem.Spec PyProof.Rows
section
variable {X:Cx}{pins:List (Addr×Obj)}{σ:St}{H:Hp}{s:Shared}{h':Heap}
theorem Inv.turnedL{t'}{fp:List _}(I:Inv X pins σ H s)(k:∀b o,b∉fp->s.heap.get? b=some o->h'.get? b=some o)(J:∀b∈fp,gI X pins H b):Inv X pins σ H {s with heap:=h',toks:=t' }:=by
 have L:∀b u,H b=some u->b∉fp:=λb u e z=>by have:=(J b z).1;grind
 refine I.step    (λb O=>?_) (λb o _ _ B e _=>k b o B e) (λb o _ _ B e _=>⟨o.slots,k b o B e⟩) (λ_ _ _ _ n=>n)
  (λb o B e=>⟨o,k b o B e⟩) (λ_ _ e=>e) (λ_ _ _ e=>e) (λb ps e=>⟨#[],by rw[e];simp⟩) (λm S=>?_) (λb u e=>?_) I.bare
 .obtain⟨f0,Y,f2,Z,f4,f5⟩:=J b O;exact⟨Z,Y,f4,f5⟩
 .obtain⟨o,es,ep,ho,r⟩:=S;exact⟨o,es,ep,k _ o (λz=>(J _ z).2.1 rfl) ho,r⟩
 .refine (I.hok b u e).stay (λc v B=>k c v ?_) (λ_ q=>q) λ_ _ q=>q;rcases B with z|z<;>simp_all
theorem Inv.turnedNew{t'}{fp:List _}{a:Addr}{o}(I:Inv X pins σ H s)(k:∀b o,b∉fp->s.heap.get? b=some o->h'.get? b=some o)(O:∀b∈fp,gI X pins H b)(S:s.heap.objs.size<=a)(new:ObjOk X.prog X.w (upd H a o) h' a o):
 Inv X pins σ (upd H a o) {s with heap:=h',toks:=t' }:=by
 have Y:=I.hok.fresh S;have Z:∀b u,H b=some u->b∉fp:=λb u e z=>by have:=(O b z).1;grind
 have J:∀{b u},H b=some u->upd H a o b=some u:=fun {b u} e=>by rw[ai (ag e Y)];exact e
 refine I.step    (λb L=>?_) (λb o _ _ B e _=>k b o B e) (λb o _ _ B e _=>⟨o.slots,k b o B e⟩) (λb ob _ e n=>?_)
  (λb o B e=>⟨o,k b o B e⟩) (λ_ _=>J) (λ_ _ _=>J) (λb ps e=>⟨#[],by simp_all⟩) (λm hm=>?_) (λb u e=>?_) I.bare
 .obtain⟨f0,f1,f2,f3,f4,f5⟩:=O b L;exact⟨f3,f1,f4,f5⟩
 .rw[ai (ah6 (ah9 (ah3 e) S))];exact n
 .obtain⟨o,es,ep,ho,r⟩:=hm;exact⟨o,es,ep,k _ o (λz=>(O _ z).2.1 rfl) ho,r⟩
 .by_cases L:b=a
  .subst L;rw[af]at e;grind
  .rw[ai L]at e;refine (I.hok b u e).stay (λc v B=>k c v ?_) (λ_=>J) λ_ _=>J;grind
end
def ItE(K:PySem.W.Frag)(a:Addr):It:=
 ⟨λi H=>∃xs x,SqL K H a xs/\xs[i]?=some x,λi H x H'=>∃T v,x=.ref T/\H T=none/\H'=upd H T (.tup [.int (i:Int),v])/\∀xs,SqL K H a xs->xs[i]?=some v,λi H=>∃xs,SqL K H a xs/\xs.length<=i⟩
theorem abm{P:Program}{w:World}{K:PySem.W.Frag}{es}{kk:Nat}{tp:Pos} a e it (O:e≠it):ab5 P w K (.Tuple es kk tp) (ItE K a) [e,it] e (λi h=>(∃old,IsEnum h e it i old)/\h.IsListIter it a i) where
 mem:=by simp
 obj:=λi h st b hb=>by
  obtain⟨⟨old,B⟩,hi⟩:=st;rcases ain.mp hb with z|hb
  .simp_all
  .obtain⟨o,e,c,d⟩:=hi;simp_all
 keep:=λi h h' st k=>⟨let ⟨old,B⟩:=st.1;⟨old,k e (by simp) _ B⟩,st.2.at λo e=>k it (by simp) o e⟩
 item:=by
  intro X hP hw hK hc i pins s σ H E I Y st hg;subst hP hw hK;obtain⟨xs,x,Z,hx⟩:=hg;obtain⟨its,rv,p,hz⟩:=I.list Z;obtain⟨u,hu,ru⟩:=rv.get hx;obtain⟨⟨old,B⟩,J⟩:=st;refine wpAny_pyNext_enum_item B J p.isList  (by simpa using hu) O λh' ho S hT ar k=>?_;have hh:∀b o,b∉[e,it]->s.heap.get? b=some o->h'.get? b=some o:=λb o hb q=>k b o (λz=>hb (by simp[z])) (λz=>hb (by simp[z])) q;refine⟨_,rfl,wpAny_letOwnedTupleGo_enum ho λh2 af L=>?_⟩;have eT:=aiX (ah3 B);have ag:=(L.2 _ eT).trans hT;have ah:=λb o hb q=>(L.2 b (λz=>hb (by simp[z]))).trans (hh b o hb q);have I2:=I.turnedNew (t':=s.toks+1)  (o:=.tup [.int _,x]) ah Y (ah4 _) ⟨by show 2<=sizeLine;decide,[.int i s.toks,u],.cons ⟨_,rfl⟩ (.cons ru .nil),_,ag,rfl,_,rfl⟩;have fr:=I.fresh;refine⟨.ref s.heap.objs.size,_,I2,rfl,⟨_,x,rfl,fr,rfl,λys hy=>by rw[I.list_inj hy Z];exact hx⟩,⟨⟨_,by simpa using af⟩,S.at λo q=>(L.2 it (ai2 O)).trans q⟩,λb hb=>?_⟩;have aj:b<s.heap.objs.size:=by
   rcases ain.mp hb with z|hb
   .rw[z];exact ah3 B
   .rw[ah5.mp hb];obtain⟨o,q,_⟩:=J;exact ah3 q
  rw[ai (ah6 aj)];exact (Y b hb).1
 done:=by
  intro X hP hw hK hc i pins s σ H E I Y st hg;subst hP hw hK;obtain⟨xs,Z,hx⟩:=hg;obtain⟨its,rv,p,hz⟩:=I.list Z;obtain⟨⟨old,B⟩,J⟩:=st;have hl:=rv.length;exact wpAny_pyNext_enum_end (I.ok.hd hc) B J p.isList (by simp;lia) λh' eb=>⟨rfl,I.turnedL  (λb o hb q=>eb b o (λz=>hb (by simp[z])) q) Y⟩
 self:=λ_ _ _ _ _ st h=>let ⟨⟨_,B⟩,_⟩:=st;wpAny_pyIter_enum B h
def afL(K:PySem.W.Frag)(ta:TA):TI:=λσ H R=>ta σ H λvs H1=>∃a,vs=[.ref a]/\(∃xs,SqL K H1 a xs)/\R (ItE K a) H1
section
variable {X:Cx}
theorem p4:bootBuiltins "enumerate" = some (.type "enumerate"):=by decide +kernel
theorem wk{a ta p pos es kk O}(S:Gl X "enumerate")(Y:X.mg "enumerate" = none)(Z:PA X [a] ta)(hs:starEach [a] X.env=[(false,eval a X.env)]:=by rfl):PI X (.Tuple es kk O) (.Call (.Name "enumerate" p) [a] [] pos) (afL X.K ta):=by
 intro pins s σ H R I h;refine Call_ (kX I S Y p4 (aja (thn (Z _ _ s σ H _ I h) λus J ⟨vs,H1,B,r1,q1⟩=>?_) hs rfl));obtain⟨a,e,⟨xs,hq⟩,q⟩:=q1;subst e;obtain⟨u,rfl,ru⟩:=jK r1;cases ru;obtain⟨its,rv,p,hz⟩:=B.list hq;refine call_enumerate_list p.isList λh' L hi af k=>?_;have I2:=B.kept (t':=J.toks) k;refine wpAny_pyIter_enum L ⟨J.heap.objs.size+1,[J.heap.objs.size+1,J.heap.objs.size],_,ItE _ a,H1,rfl,I2,abm a _ _ (Nat.succ_ne_self _),⟨⟨_,L⟩,hi⟩,λb hb=>?_,q⟩;rcases ain.mp hb with z|hb
 .rw[z];exact B.fpOk (ajf _) (B.hok.fresh (ajf _))
 .rw[ah5.mp hb];exact B.fpOk (ah4 _) B.fresh
end
theorem acs{K a xs}{g:TG}{tb:TS}{D:xQ}{σ}{H}(Pv:Nat->St->Hp->Prop)(O:Pv 0 σ H)(S:∀i σ H,i<=xs.length->Pv i σ H->SqL K H a xs)
 (Y:∀i x σ H T,xs[i]?=some x->Pv i σ H->H T=none->g (.ref T) σ (upd H T (.tup [.int i,x])) λz H2=>tb {D with nx:=Pv (i+1),ct:=Pv (i+1),bk:=D.nx} z H2)(Z:∀σ H,Pv xs.length σ H->D.nx σ H):
 ∃W:Nat->Nat->St->Hp->Prop,(∃m,W 0 m σ H)/\∀i m σ H,W i m σ H →
  ((ItE K a).stop i H/\D.nx σ H)\/((ItE K a).go i H/\∃N ,(∀B H',N B H'->∃L,L<m/\W (i+1) L B H')/\∀x H',(ItE K a).yld i H x H'->g x σ H' λz H2=>tb {D with nx:=N,ct:=N,bk:=D.nx} z H2):=by
 refine⟨λi m σ H=>m=xs.length-i/\i<=xs.length/\Pv i σ H,⟨xs.length,rfl,ail _,O⟩,?_⟩;rintro i m σ H ⟨rfl,hi,p⟩;have q:=S i σ H hi p;by_cases J:i<xs.length
 .refine .inr ⟨⟨xs,xs[i],q,by simp ⟩,Pv _,λB H' p'=>⟨xs.length-(i+1),by lia,rfl,J,p'⟩,λx H' y=>?_⟩;obtain⟨T,v,ex,hT,eH,hv⟩:=y;subst ex eH;exact Y i v σ H T (hv xs q) p hT
 .have e:i=xs.length:=by lia
  subst e;exact .inl ⟨⟨xs,q,ah4 _⟩,Z σ H p⟩
theorem ve{nl ix g tf te σ H1 D Q}(Pv:Nat->List V->Hp->Prop){K a xs}(J:Pv 0 [] (upd H1 D (.lst [])))(L:∀i ys H,Pv i ys H->H D=some (.lst ys))(z:∀i ys H,Pv i ys H->SqL K H a xs)
 (O:∀i ys H x T,xs[i]?=some x->Pv i ys H->H T=none->cq nl ix g tf te σ D ys (upd H T (.tup [.int i,x])) (.ref T) λB H'=>Nx xs.length i (Pv (i+1) B H'))(S:∀ys H,Pv xs.length ys H->Q (.ref D) H):gK nl ix g tf te σ (ItE K a) H1 D Q:=by
 refine qg  Pv J L (λi ys H hi p=>⟨xs,xs[i],z i ys H p,by simp ⟩) (λys H p=>⟨xs,z _ ys H p,ah4 _⟩) (λi ys H x H' hi p y=>?_) S;obtain⟨T,v,ex,Y,Z,hv⟩:=y;subst ex Z;exact O i ys H v T (hv xs (z i ys H p)) p Y
end L2
namespace L2
open PySem PySem.Spec PyProof.Rows PySem.W
theorem KV.at'{kvs vs}(r:KV kvs vs):∀{i:Nat} {k:Key} {u},vs[i]?=some (k,u)->∃v,kvs[i]?=some (k,v)/\RelV v u:=by
 induction r with
 |nil=>intro i k u e;simp at e
 |cons h t z=>
  intro i k u e;cases i with
  |zero=>
   cases e;obtain⟨h1,h2⟩:=h;exact⟨_,aiO some (Prod.ext h1 rfl),h2⟩
  |succ i=>simp_all
theorem pX:entryFor table "dict_itemiterator.__iter__" = some Builtin.«dict_keyiterator.__iter__» :=
 amm (id' := "dict_keyiterator.__iter__") (by kernel_rfl) (by first|rfl|decide +kernel) (by decide +kernel) (by kernel_rfl)
theorem rE{prog w A E s it d i n ep ok J Q}(z:IsItemIter s.heap it d i n ep ok J)(h:Q (.ref it) s):wpAny (model prog w) A (pyIter (.ref it)) Q E s:=by
 have B:s.TypeIs (.ref it) _:=⟨_,z,rfl⟩;exact amB B akY (ajh akY B pX (ah0 ⟨_,rfl,"dict_itemiterator",_,B,PySem.F.slot_dict_itemiterator_next.lookup,h⟩) (PySem.F.args_dict_itemiterator_iter_1 _))
def ItI(a:Addr)(o:Obj)(kvs:List (Key×V)):It:=
 ⟨λi H=>i<kvs.length/\H a=some (.frz o (.dK kvs)),λi H x H'=>∃T k v,x=.ref T/\H T=none/\H'=upd H T (.tup [kV k,v])/\kvs[i]?=some (k,v),λi H=>i=kvs.length/\H a=some (.frz o (.dK kvs))⟩
theorem yD{P:Program}{w:World}{K:PySem.W.Frag}{es:List Expr}{kk:Nat}{tp:Pos}(a it:Addr)(o:Obj) kvs (ep:Nat)(Y:∃es,o.data=.dict es ep):ab5 P w K (.Tuple es kk tp) (ItI a o kvs) [it] it (λi h=>∃ok Z,IsItemIter h it a i kvs.length ep ok Z) where
 mem:=by simp
 obj:=λi h st b L=>by
  grind
 keep:=λi h h' st k=>let ⟨ok,Z,e⟩:=st;⟨ok,Z,k it (by simp) _ e⟩
 item:=by
  intro X hP hw hK hc i pins s σ H E I hf st hg;subst hP hw hK;obtain⟨hi,hH⟩:=hg;obtain⟨ho,_,_,vs,J,dd⟩:=I.hok a _ hH;obtain⟨O,da⟩:=dd.dictAt;have ee:O=ep:=by
   obtain⟨es,h1⟩:=Y;obtain⟨o',ap,h2,_,h3,_⟩:=id da;rw[ho]at h2;grind
  subst ee;have S:=J.length;obtain⟨⟨k,u⟩,hx⟩:∃p,vs[i]?=some p:=⟨vs[i],by simp[←S,hi]⟩;obtain⟨v,hv,rv⟩:=J.at' hx;obtain⟨ok,Z,B⟩:=st;rw[S]at B;refine wpAny_pyNext_items_item  B da hx λab h' ac ad hT aA kp=>?_;refine⟨_,rfl,wpAny_letOwnedTupleGo_items ad λh2 ae af=>?_⟩;have lt:it<s.heap.objs.size:=ah3 B;have aq:=(af.2 _ (aiX lt)).trans hT;have ar:∀b o,b∉[it]->s.heap.get? b=some o->h2.get? b=some o:=λb o L q=>(af.2 b (λz=>L (by simp[z]))).trans (kp b o (λz=>L (by simp[z])) q);have I2:=I.turnedNew (t':=s.toks) (h':=h2) (o:=.tup [kV k,v]) ar hf (ah4 _) ⟨by show 2<=sizeLine;decide,[ab,u],.cons (nG ac) (.cons rv .nil),_,aq,rfl,_,rfl⟩;refine⟨.ref s.heap.objs.size,_,I2,rfl,⟨_,k,v,rfl,I.fresh,rfl,hv⟩,⟨ab,u,by rw[S];exact ae⟩,λb L=>?_⟩;have e:b=it:=by simpa using L
  subst e;rw[ai (ah6 lt)];exact (hf b L).1
 done:=by
  intro X hP hw hK hc i pins s σ H E I hf st hg;subst hP hw hK;obtain⟨hi,hH⟩:=hg;obtain⟨ho,_,_,vs,J,dd⟩:=I.hok a _ hH;obtain⟨O,da⟩:=dd.dictAt;have ee:O=ep:=by
   obtain⟨es,h1⟩:=Y;obtain⟨o',ap,h2,_,h3,_⟩:=id da;rw[ho]at h2;simp_all
  subst ee;have S:=J.length;obtain⟨ok,Z,B⟩:=st;rw[S]at B;obtain⟨f0,f1,f2,f3,f4,f5⟩:=hf it (by simp);exact wpAny_pyNext_items_end  (I.ok.hd hc) B da (by rw[hi,S];simp) λh' eb=>⟨rfl,I.turned (t':=s.toks) (λb o L e=>eb b o L e) f0 f1 f3 f4 f5⟩
 self:=λ_ s _ _ _ st h=>let ⟨_,_,B⟩:=st;rE B h
def agl(H₀:Hp)(td:TE):TI:=λσ H R=>td σ H λx H1=>∃a kvs,x=.ref a/\H1 a=some (.dK kvs)/\∀o,(∀o' u,H₀ a≠some (.frz o' u))->R (ItI a o kvs) (upd H1 a (.frz o (.dK kvs)))
section
variable {X:Cx}
theorem nB{l:Expr}{tl:TE}{H₀:Hp}{apos cpos tp:Pos}{es:List Expr}{kk:Nat}(hH:X.H₀=H₀)(hl:PE X l tl)(J:attributeBase l "items" X.env (eval l X.env)=eval l X.env:=by rfl)(L:(apos.endLine==cpos.line)=true:=by rfl):PI X (.Tuple es kk tp) (.Call (.Attribute l "items" apos) [] [] cpos) (agl H₀ tl):=by
 subst hH;intro pins s σ H R I h;refine wpAny_Call_method0_late J L (thn (hl pins s σ H _ I h) λv B ⟨y,H1,O,r1,q1⟩=>?_);obtain⟨a,kvs,rfl,e,q⟩:=q1;cases r1;obtain⟨z,hd,S,Y,dd⟩:=m7 O.hok e;obtain⟨ep,da⟩:=dd.dictAt;obtain⟨o,Z,ho,hc,aa,_⟩:=id da;obtain⟨h1,h2⟩:=aai (T := "dict") O (show RelV (.ref a) (.ref a) from rfl) (.inr (.inr (.inl ⟨rfl,.inl ⟨kvs,e⟩⟩)));refine⟨"dict","dict.items",akv,amP,PySem.F.type_dict_items,h1,h2,alk rfl (PySem.evalArgs_none ?_)⟩;refine call_meetsIn amP h1 PySem.F.entry_dict_items (PySem.F.args_dict_items_1 _) (meets_dict_items (bj X.prog X.w) a hd) ⟨⟨S,dd⟩,?_⟩;have ab:(B.heap.push {cls:=.type "dict_items",data:=.fields #[.ref a] }).DictAt (bj X.prog X.w) a S ep:=da.at' λo e=>ahX _ e;refine wpAny_pyIter_items  (knd:=bj X.prog X.w) ⟨_,aib _ rfl,rfl,rfl⟩ ab ?_;have sz:(B.heap.push {cls:=.type "dict_items",data:=.fields #[.ref a] }).objs.size=B.heap.objs.size+1:=aiP ..;have I2:=(O.freeze e ho).kept (t':=B.toks) (h':=(B.heap.push {cls:=.type "dict_items",data:=.fields #[.ref a] }).push {cls:=.type "dict_itemiterator",data:=.fields #[.none,.bool false,.ref a,.int 0 0,.int S.length 0,.int ep 0,.none,.none] }) λb o e=>ahX _ (ahX _ e);have ge:B.heap.objs.size<=(B.heap.push {cls:=.type "dict_items",data:=.fields #[.ref a] }).objs.size:=by rw[sz];exact ajf _
 have hn:(upd H1 a (.frz o (.dK kvs))) (B.heap.push {cls:=.type "dict_items",data:=.fields #[.ref a] }).objs.size=none:=by
  have:=O.hok.fresh ge;rw[ai (λz=>by rw[z,e]at this;cases this)];exact this
 refine⟨_,[(B.heap.push {cls:=.type "dict_items",data:=.fields #[.ref a] }).objs.size],_,ItI a o kvs,upd H1 a (.frz o (.dK kvs)),rfl,I2,yD a _ o kvs ep ⟨Z,aa⟩,⟨.none,.none,by rw[Y.length];exact aib _ rfl⟩,λb hb=>?_,q o (O.notFrz e)⟩;have eb:b=(B.heap.push {cls:=.type "dict_items",data:=.fields #[.ref a] }).objs.size:=by simpa using hb
 subst eb;exact O.fpOk ge hn
def aap(H₀:Hp)(t:TE):TE:=λσ H Q=>t σ H λv H1=>∃a o kvs,H1 a=some (.frz o (.dK kvs))/\(∀o' u,H₀ a≠some (.frz o' u))/\Q v (upd H1 a (.dK kvs))
theorem aaB{e t H₀}(z:X.H₀=H₀)(h:PE X e t):PE X e (aap H₀ t):=by
 subst z;intro pins s σ H Q I hw;exact thn (h _ s σ H _ I hw) λv O ⟨y,H1,B,J,a,o,kvs,e,L,q⟩=>⟨y,_,B.thaw e L,J,q⟩
end
theorem zi{nl ix g tf te σ H1 D Q}(Pv:Nat->List V->Hp->Prop){a o kvs}(J:Pv 0 [] (upd H1 D (.lst [])))(L:∀i ys H,Pv i ys H->H D=some (.lst ys))(B:∀i ys H,Pv i ys H->H a=some (.frz o (.dK kvs)))
 (S:∀i ys H T k v,kvs[i]?=some (k,v)->Pv i ys H->H T=none->cq nl ix g tf te σ D ys (upd H T (.tup [kV k,v])) (.ref T) λz H'=>Nx kvs.length i (Pv (i+1) z H'))(O:∀ys H,Pv kvs.length ys H->Q (.ref D) H):gK nl ix g tf te σ (ItI a o kvs) H1 D Q:=by
 refine qg  Pv J L (λi ys H hi p=>⟨hi,B i ys H p⟩) (λys H p=>⟨rfl,B _ ys H p⟩) (λi ys H x H' hi p y=>?_) O;obtain⟨T,k,v,ex,Y,Z,hu⟩:=y;simp_all
end L2
namespace LL
open PySem PySem.SeqAt PySem.W PyProof.Rows
open AutoSeq1 (wpAny_loadPart')
open MeetsSeq MeetsSeq2 MeetsSeq3
section
variable {prog:Program}{w:World}{A:Around}{E:Value->Shared->Prop}{s:Shared}
theorem acE{a vs n R}(L:s.heap.get? a=some (seqObj "list" vs.toArray n))(h2:vs.length<2)
 (h:R (.done (.ret .none)) {s with heap:=sortedHeap s.heap a vs vs.toArray}):wpAny (model prog w) A (Builtin.«list.sort» ⟨[.ref a],[]⟩) R E s:=by
 have O:vs.toArray.size=vs.length:=aiQ ..;obtain⟨S,z⟩:∃e,(s.heap.update a (Obj.mapSeq λ_=>#[])).get? a=some _:=⟨_,get?_update_seq L _⟩;have B:(((s.heap.update a _).push (seqObj "tuple" vs.toArray 0)).push (seqObj "list" #[] 0)).get? a=some _:=ahX _ (ahX _ z);rw[list_sort_plain];refine ahV (alx L rfl (ahV (alf L rfl (ahV (alZ z rfl (ahV (alu (ahV (akt (aix ?_) (ail _))) (by show vs.length<=_;rw[alT];lia))))) (by rw[O,alT];lia) (ail _))));have nb:vs.toArray.size<2:=by lia
 dsimp only;rw[if_pos nb,if_pos nb];refine ahV (ah0 (ahV (ah0 ?_)));have J:=by
  show (vs.toArray.zip vs.toArray).map (·.2)=vs.toArray;apply Array.ext_getElem?;intro i;by_cases hi:i<vs.length<;>simp_all
 rw[J];refine ahV (alZ B rfl (ahV (alf B rfl ?_ (ail _) (by grind))));simp only[aj0];exact ah0 h
theorem qK{l vs Q}(J:s.heap.IsList l vs.toArray)(h2:vs.length<2)
 (h:Q (.ref (s.heap.objs.size+1)) {s with heap:=sortedAll s.heap vs vs.toArray}):wpAny (model prog w) A (call (.builtin "sorted") [.ref l]) Q E s:=by
 refine ajM amM ame amf (amg _) ?_;have z:((s.heap.push (seqObj "list" #[] 0)).update s.heap.objs.size (Obj.mapSeq (·++vs.toArray))).objs.size=s.heap.objs.size+1:=by
  simp_all
 have B:(((s.heap.push (seqObj "list" #[] 0)).update s.heap.objs.size (Obj.mapSeq (·++vs.toArray))).push (seqObj "list" vs.toArray 0)).get? (s.heap.objs.size+1)=some (seqObj "list" vs.toArray 0):=by
  rw[←z];exact aib _ rfl
 refine ahV  (ah0 (ahV (collect_list J (ahV (akt ?_ (by rw[alT];lia))) (by rw[alT];lia))));rw[z];exact ahV (aix (ajh alr ⟨_,B,rfl⟩ ald (acE B h2 ⟨_,rfl,ah0 ⟨_,rfl,h⟩⟩) (als _)))
end
end LL
namespace TS
open PySem PyProof.Rows
def z4:Bool->Keyed->Array Keyed->Nat->Nat->Nat->StateT SortSt Sem (Option Nat):=sortPriv% PySem.Builtin.gallop
def kk(κ:KeyKind)(p:Keyed):κ.α:=(κ.keyOf p.1).getD κ.dflt
def Va(κ:KeyKind)(p:Keyed):Prop:=∃a,κ.keyOf p.1=some a
theorem sx{κ xs i p}(h:xs[i]?=some p):KK κ xs i=kk κ p:=by
 unfold KK kk;rw[h]
def LtAt(prog:Program)(w:World)(A:Around)(s:Shared)(κ:KeyKind)(kd:SortKind):Prop:=∀(E:Value->Shared->Prop) (x y:Value) (a b:κ.α) {Q:Bool->Shared->Prop},κ.keyOf x=some a->κ.keyOf y=some b->Q (κ.blt a b) s->wpAny (model prog w) A (keyLt' kd x y) Q E s
section
variable {prog:Program}{w:World}{A:Around}{E:Value->Shared->Prop}{s:Shared}{κ:KeyKind}{kd:SortKind}
theorem afu(J:LtAt prog w A s κ kd){st x y Q}(L:kindOf st=kd)(O:Va κ x)(S:Va κ y)(h:Q (some (κ.blt (kk κ x) (kk κ y))) st):wpS (model prog w) A E s (lt' x y) Q st:=by
 obtain⟨a,z⟩:=O;obtain⟨b,B⟩:=S;have Y:kk κ x=a:=by unfold kk;rw[z];rfl
 have Z:kk κ y=b:=by unfold kk;rw[B];rfl
 rw[Y,Z]at h;rw[lt'_eq];refine aii (amn ?_);rw[L];exact aii (wpS_lift (amK (J _ _ _ a b z B ⟨rfl,aip h⟩)))
theorem cE{arr i p st Q}(h:arr[i]?=some p)(q:Q p st):wpS (model prog w) A E s (elem' arr i) Q st:=by
 rw[elem'_eq,h];exact aip q
def bey(κ:KeyKind)(left:Bool)(key:Keyed)(arr:Array Keyed)(base i:Nat):Bool:=if left=true then κ.blt (KK κ arr (base+i)) (kk κ key) else !κ.blt (kk κ key) (KK κ arr (base+i))
theorem acw(B:LtAt prog w A s κ kd){left key arr base i st Q}(J:kindOf st=kd)(z:Va κ key)(S:∃p,arr[base+i]?=some p/\Va κ p)(h:Q (some (bey κ left key arr base i)) st):
 wpS (model prog w) A E s (elem' arr (base+i) >>= λx=>if left=true then lt' x key else lt' key x >>= λl=>pure (l.map λb=>!b)) Q st:=by
 obtain⟨p,L,O⟩:=S;unfold bey at h;rw[sx L]at h;refine aii (cE L ?_);cases left with
 |true=>
  exact afu B J O z h
 |false=>
  exact aii (afu B J z O (aip h))
theorem yz(hO:LtAt prog w A s κ kd){left:Bool}{key:Keyed}{arr:Array Keyed}{base n hint:Nat}{st:SortSt}{Q:Option Nat->SortSt->Prop}(hk:kindOf st=kd)(Y:Va κ key)(hv:∀i,i<n->∃p,arr[base+i]?=some p/\Va κ p)(hn:hint<n)
 (mono:∀i j,i<=j->j<n->bey κ left key arr base j=true->bey κ left key arr base i=true)
 (h:∀k,k<=n->(∀i,i<k->bey κ left key arr base i=true)->(∀i,k<=i->i<n->bey κ left key arr base i=false)->Q (some k) st):
 wpS (model prog w) A E s (z4 left key arr base n hint) Q st:=by
 have aa:∀i j,i<=j->j<n->bey κ left key arr base i=false->bey κ left key arr base j=false:=λi j ai hj e=>by
  cases q:bey κ left key arr base j with
  |false=>rfl
  |true=>rw[mono i j ai hj q]at e;cases e
 refine aii (acw hO hk Y (hv hint hn) ?_);dsimp -zeta -zetaHave only
 lift_lets
 extract_lets jp
 have ac:∀S ad lo hi,lo<=hi->hi<=n->(∀i,i<lo->bey κ left key arr base i=true)->(∀i,hi<=i->i<n->bey κ left key arr base i=false)->wpS (model prog w) A E s (jp () S ad lo hi) Q st:=by
  intro S ad lo hi h1 h2 h3 h4;refine aii (akf (ajd (I:=λx c z=>z=st/\∃l r,c=(none,l,r)/\l<=r/\r<=n/\r-l<=n-x/\(∀i,i<l->bey κ left key arr base i=true)/\(∀i,r<=i->i<n->bey κ left key arr base i=false))
   (Q:=λc z=>z=st/\∃l r,c=(none,l,r)/\r<=n/\(∀i,i<r->bey κ left key arr base i=true)/\(∀i,r<=i->i<n->bey κ left key arr base i=false)) ?_ ?_ ⟨rfl,lo,hi,rfl,h1,h2,by lia,h3,h4⟩) ?_)
  .rintro x c z _ hx ⟨rfl,l,r,rfl,g1,O,Z,L,g5⟩;dsimp only;by_cases J:l ≥ r
   .rw[if_pos J];have e:l=r:=by lia
    subst e;exact aip ⟨rfl,l,l,rfl,O,L,g5⟩
   .rw[if_neg J];refine aii (acw hO hk Y (hv _ (by lia)) ?_);dsimp only;cases q:bey κ left key arr base (l+(r-l) / 2) with
    |true=>
     rw[if_pos rfl];exact aip ⟨rfl,_,r,rfl,by lia,O,by lia,λi hi=>mono i _ (by lia) (by lia) q,g5⟩
    |false=>
     rw[if_neg aie];exact aip ⟨rfl,l,_,rfl,by lia,by lia,by lia,L,λi hi ab=>aa _ i hi ab q⟩
  .rintro c z ⟨rfl,l,r,rfl,g1,O,Z,L,g5⟩;have e:l=r:=by lia
   subst e;exact⟨rfl,l,l,rfl,O,L,g5⟩
  .rintro c z ⟨rfl,l,r,rfl,O,L,g5⟩;exact aip (h r O L g5)
 clear_value jp
 cases q0:bey κ left key arr base hint with
 |true=>
  rw[if_pos rfl];refine aii (akf (ajd (I:=λx c z=>z=st/\∃B of,c=(none,B,of)/\x+1<=of/\B<of/\hint+B<n/\bey κ left key arr base (hint+B)=true)
   (Q:=λc z=>z=st/\∃B of,c=(none,B,of)/\B<of/\hint+B<n/\bey κ left key arr base (hint+B)=true/\(n-hint<=of\/bey κ left key arr base (hint+of)=false)) ?_ ?_ ⟨rfl,0,1,rfl,by lia,by lia,by lia,q0⟩) ?_)
  .rintro x c z _ hx ⟨rfl,B,of,rfl,g1,O,Z,L⟩;dsimp only;by_cases J:of ≥ n-hint
   .rw[if_pos J];exact aip ⟨rfl,B,of,rfl,O,Z,L,.inl J⟩
   .rw[if_neg J];refine aii (acw hO hk Y (hv _ (by lia)) ?_);dsimp only;cases q:bey κ left key arr base (hint+of) with
    |true=>
     rw[if_neg (by simp)];exact aip ⟨rfl,of,_,rfl,by lia,by lia,by lia,q⟩
    |false=>
     rw[if_pos (show (!false)=true from rfl)];exact aip ⟨rfl,B,of,rfl,O,Z,L,.inr q⟩
  .rintro c z ⟨rfl,B,of,rfl,g1,O,Z,L⟩;exact⟨rfl,B,of,rfl,O,Z,L,.inl (by lia)⟩
  .rintro c z ⟨rfl,B,of,rfl,O,Z,L,g5⟩;dsimp only;refine ac _ _ _ _ (by lia) (by lia) (λi hi=>mono i (hint+B) (by lia) Z L) (λi hi ab=>?_);rcases g5 with g5|g5
   .lia
   .exact aa (hint+of) i (by lia) ab g5
 |false=>
  rw[if_neg aie];refine aii (akf (ajd (I:=λx c z=>z=st/\∃B of,c=(none,B,of)/\x+1<=of/\B<of/\B<=hint/\bey κ left key arr base (hint-B)=false)
   (Q:=λc z=>z=st/\∃B of,c=(none,B,of)/\B<of/\B<=hint/\bey κ left key arr base (hint-B)=false/\(hint+1<=of\/bey κ left key arr base (hint-of)=true)) ?_ ?_ ⟨rfl,0,1,rfl,by lia,by lia,by lia,q0⟩) ?_)
  .rintro x c z _ hx ⟨rfl,B,of,rfl,g1,O,Z,L⟩;dsimp only;by_cases J:of ≥ hint+1
   .rw[if_pos J];exact aip ⟨rfl,B,of,rfl,O,Z,L,.inl J⟩
   .rw[if_neg J];refine aii (acw hO hk Y (hv _ (by lia)) ?_);dsimp only;cases q:bey κ left key arr base (hint-of) with
    |true=>
     rw[if_pos rfl];exact aip ⟨rfl,B,of,rfl,O,Z,L,.inr q⟩
    |false=>
     rw[if_neg aie];exact aip ⟨rfl,of,_,rfl,by lia,by lia,by lia,q⟩
  .rintro c z ⟨rfl,B,of,rfl,g1,O,Z,L⟩;exact⟨rfl,B,of,rfl,O,Z,L,.inl (by lia)⟩
  .rintro c z ⟨rfl,B,of,rfl,O,Z,L,g5⟩;dsimp only;refine ac _ _ _ _ (by lia) (by lia) (λi hi=>?_) (λi hi ab=>aa (hint-B) i (by lia) ab L);rcases g5 with g5|g5
   .lia
   .exact mono i (hint-of) (by lia) (by lia) g5
end
def acA:Array Keyed->Array Keyed->StateT SortSt Sem (Array Keyed):=sortPriv% PySem.Builtin.mergeLo
def acO:Array Keyed->Array Keyed->StateT SortSt Sem (Array Keyed):=sortPriv% PySem.Builtin.mergeHi
def le(κ:KeyKind)(x y:Keyed):Prop:=κ.kle (kk κ x) (kk κ y)
def lt(κ:KeyKind)(x y:Keyed):Prop:=κ.klt (kk κ x) (kk κ y)
def SL(κ:KeyKind)(l:List Keyed):Prop:=l.Pairwise (le κ)
section
variable {κ:KeyKind}
theorem le_trans{x y z}(a:le κ x y)(b:le κ y z):le κ x z:=akx a b
theorem le_of_lt{x y}(a:lt κ x y):le κ x y:=akL a
theorem le_refl x:le κ x x:=ako _
structure Mg(κ:KeyKind)(LL o A B:List Keyed):Prop where
 perm:(o++(A++B)).Perm LL
 sa:SL κ (o++A)
 sb:SL κ (o++B)
def pT(κ:KeyKind)(LL m:List Keyed):Prop:=m.Perm LL/\SL κ m
theorem Mg.a{LL o c A B}(h:Mg κ LL o (c++A) B)(z:∀x∈c,∀y∈B,le κ x y):Mg κ LL (o++c) A B:=by
 refine⟨?_,?_,?_⟩
 .have:=h.perm;simp_all
 .rw[aim];exact h.sa
 .have J:=h.sa;have L:=h.sb;unfold SL at *;grind
theorem Mg.b{LL o c A B:List Keyed}(h:Mg κ LL o A (c++B))(O:∀y∈c,∀x∈A,le κ y x):Mg κ LL (o++c) A B:=by
 refine⟨?_,?_,?_⟩
 .refine List.Perm.trans ?_ h.perm;rw[aim];refine akg o ?_;rw[←aim,←aim];exact aj9 B akG
 .have z:=h.sa;have J:=h.sb;unfold SL at *;rw[←aim]at J;rw[ai1]at z J⊢;refine⟨J.1,z.2.1,λx hx y L=>?_⟩;rcases aic.mp hx with hx|hx
  .exact z.2.2 x hx y L
  .exact O x hx y L
 .rw[aim];exact h.sb
theorem Mg.endA{LL o A}(h:Mg κ LL o A []):pT κ LL (o++A):=⟨by have:=h.perm;simp_all,h.sa⟩
theorem Mg.endB{LL o B}(h:Mg κ LL o [] B):pT κ LL (o++B):=⟨h.perm,h.sb⟩
theorem Mg.last{LL o B z}(h:Mg κ LL o [z] B)(S:∀y∈B,le κ y z):pT κ LL (o++B++[z]):=by
 refine⟨?_,?_⟩
 .refine List.Perm.trans ?_ h.perm;rw[aim];exact akg o akG
 .have J:=h.sa;have L:=h.sb;unfold SL at *;rw[ai1]at J⊢;refine⟨L,J.2.1,λx hx y O=>?_⟩;rcases aic.mp hx with hx|hx
  .exact J.2.2 x hx y O
  simp_all
theorem SL.at{l}(h:SL κ l){i j:Nat}{x y}(z:i<=j)(J:l[i]?=some x)(L:l[j]?=some y):le κ x y:=by
 obtain⟨hi,ex⟩:=ahW.mp J;obtain⟨O,B⟩:=ahW.mp L;rcases Nat.lt_or_eq_of_le z with q|q
 .rw[←ex,←B];exact aiL.mp h i j hi O q
 .subst q;rw[←ex,←B];exact le_refl _
theorem SL.head{l x}(h:SL κ (x::l)):∀y∈x::l,le κ x y:=λy z=>by
 rcases ain.mp z with e|e
 .rw[e];exact le_refl _
 .exact (ajQ.mp h).1 y e
theorem SL.drop{l}(h:SL κ l) n:SL κ (l.drop n):=ana (List.drop_sublist _ _) h
theorem SL.take{l}(h:SL κ l) n:SL κ (l.take n):=ana (List.take_sublist _ _) h
end
section
variable {prog:Program}{w:World}{A:Around}{E:Value->Shared->Prop}{s:Shared}{κ:KeyKind}{kd:SortKind}
theorem fu(hO:LtAt prog w A s κ kd){left:Bool}{key:Keyed}{arr:Array Keyed}{base n hint:Nat}{st:SortSt}{Q:Option Nat->SortSt->Prop}(hk:kindOf st=kd)(J:Va κ key)(hb:base+n<=arr.size)(va:∀p∈(arr.toList.drop base).take n,Va κ p)(so:SL κ ((arr.toList.drop base).take n))(hn:hint<n)
 (h:∀k,k<=n->(∀x∈((arr.toList.drop base).take n).take k,if left=true then lt κ x key else le κ x key)->(∀x∈((arr.toList.drop base).take n).drop k,if left=true then le κ key x else lt κ key x)->Q (some k) st):
 wpS (model prog w) A E s (z4 left key arr base n hint) Q st:=by
 have at_:∀i,i<n->∃p,arr[base+i]?=some p/\((arr.toList.drop base).take n)[i]?=some p:=λi hi=>by
  refine⟨arr[base+i],getElem?_pos _ _ (by lia),?_⟩;rw[akk hi,ak8];simp
 have len:((arr.toList.drop base).take n).length=n:=by
  rw[aif,ajS,aiw];lia
 generalize (arr.toList.drop base).take n=S at va so h at_ len;refine yz hO hk J (λi hi=>?_) hn (λi j O hj e=>?_) λk Y h1 h2=>h k Y (λx Z=>?_) (λx Z=>?_)
 .obtain⟨p,B,z⟩:=at_ i hi;exact⟨p,B,va p (ah7 z)⟩
 .obtain⟨p,B,z⟩:=at_ i (by lia);obtain⟨q,e3,e4⟩:=at_ j hj;have L:=so.at O z e4;unfold bey at e⊢;rw[sx B];rw[sx e3]at e;cases left with
  |true=>
   rw[if_pos rfl]at e⊢;exact KeyOrd.klt_of_kle_of_klt L e
  |false=>
   rw[if_neg aie]at e⊢;have e':κ.blt (kk κ key) (kk κ q)=false:=by simpa using e
   have this:κ.blt (kk κ key) (kk κ p)=false:=akx L e';rw[this]
   rfl
 .obtain⟨i,hi,ex⟩:=ajV.mp Z;rw[aif]at hi;rw[akM]at ex;obtain⟨p,B,z⟩:=at_ i (by lia);have q:=h1 i (by lia);rw[ahU (by lia)]at z;rw[ex]at z;cases z;unfold bey at q;rw[sx B]at q;cases left with
  |true=>exact q
  |false=>
   rw[if_neg aie]at q⊢;show κ.blt (kk κ key) (kk κ x)=false;simpa using q
 .obtain⟨i,hi,ex⟩:=ajV.mp Z;rw[ajS]at hi;rw[amD]at ex;obtain⟨p,B,z⟩:=at_ (k+i) (by lia);have q:=h2 (k+i) (by lia) (by lia);rw[ahU (by lia)]at z;rw[ex]at z;cases z;unfold bey at q;rw[sx B]at q;cases left with
  |true=>exact q
  |false=>
   rw[if_neg aie]at q⊢;show κ.blt (kk κ key) (kk κ x)=true;simpa using q
end
def Eqv(st st':SortSt):Prop:=kindOf st'=kindOf st/\arrOf st'=arrOf st/\pendingOf st'=pendingOf st/\failedOf st'=failedOf st
theorem Eqv.refl st:Eqv st st:=⟨rfl,rfl,rfl,rfl⟩
def agR:Nat->StateT SortSt Sem Unit:=sortPriv% PySem.Builtin.setMinGallop
theorem xx{prog w A E s g z st Q}(e:Eqv z st)(h:∀B,Eqv z B->Q () B):wpS (model prog w) A E s (agR g) Q st:=
 ak1 (h _ e)
theorem bI{a:Array Keyed}{i x}(h:a[i]?=some x):a.toList.drop i=[x]++a.toList.drop (i+1):=by
 obtain⟨hi,e⟩:=al9.mp h;rw[akS (by simpa using hi)];simp[e]
theorem kI(o:Array Keyed) x:(o.push x).toList=o.toList++[x]:=by simp
theorem xg(o a:Array Keyed) i k:(o++a.extract i (i+k)).toList=o.toList++(a.toList.drop i).take k:=by
 simp_all
theorem jn(o a:Array Keyed) i:(o++a.extract i a.size).toList=o.toList++a.toList.drop i:=by
 simp only[alY,alL,akT];rw[aiS (by simp)]
section
variable {κ:KeyKind}{LL:List Keyed}{a b out:Array Keyed}{ia ib:Nat}
theorem acU(M:Mg κ LL out.toList (a.toList.drop ia) (b.toList.drop ib))(c:ib=b.size):pT κ LL (out++a.extract ia a.size++b.extract ib b.size).toList:=by
 rw[jn,jn];have e:b.toList.drop ib=[]:=aj8 (by grind);rw[e]at M⊢;rw[aiV];exact M.endA
theorem ag8(M:Mg κ LL out.toList (a.toList.drop ia) (b.toList.drop ib))(c:ia=a.size):pT κ LL (out++a.extract ia a.size++b.extract ib b.size).toList:=by
 rw[jn,jn];have e:a.toList.drop ia=[]:=aj8 (by simp_all);rw[e]at M⊢;rw[aiV];exact M.endB
theorem ac3(M:Mg κ LL out.toList (a.toList.drop ia) (b.toList.drop ib))(c:ia+1=a.size)(B:∀y∈b.toList,∀z∈a.toList.drop (a.size-1),le κ y z):pT κ LL (out++b.extract ib b.size++a.extract ia a.size).toList:=by
 rw[jn,jn];have J:a[ia]?=some a[ia]:=getElem?_pos ..;have e:a.toList.drop ia=[a[ia]]:=by
  rw[bI J,aj8 (by grind),aiV]
 rw[e]at M⊢;refine M.last λy L=>B y (aju L) _ ?_;rw[show a.size-1=ia by lia,e];exact ah5.mpr rfl
theorem jo(x:Array Keyed) i:(x.toList.drop i).take (x.size-i)=x.toList.drop i:=aiS (by grind)
theorem ub(x:Array Keyed) i k:x.toList.drop i=(x.toList.drop i).take k++x.toList.drop (i+k):=by
 have:=(aiI k (x.toList.drop i)).symm;rwa [akU]at this
theorem fV{x:Array Keyed}{i}(h:i<x.size):∃p,x[i]?=some p/\p∈x.toList:=⟨x[i],getElem?_pos x i h,by simp⟩
end
section
variable {prog:Program}{w:World}{A:Around}{E:Value->Shared->Prop}{s:Shared}{κ:KeyKind}{kd:SortKind}
theorem ifp{M σ α c}[Decidable c]{z B:StateT σ _ α}{Q st}(J:c)(h:wpS M A E s z Q st):wpS M A E s (if c then z else B) Q st:=by
 simp_all
theorem ifn{M σ α c}[Decidable c]{B z:StateT σ _ α}{Q st}(J:¬ c)(h:wpS M A E s z Q st):wpS M A E s (if c then B else z) Q st:=by
 simp_all
theorem ifs{M σ α c}[Decidable c]{z B:StateT σ _ α}{Q st}(h1:c->wpS M A E s z Q st)(h2:¬ c->wpS M A E s B Q st):wpS M A E s (if c then z else B) Q st:=by
 by_cases J:c<;>simp_all
theorem acp{M}{σ α z B:Type}{jp:Unit->z->B->StateT σ _ α}{m Q st}(R:z->B->Prop)(h1:∀x y,R x y->wpS M A E s (jp () x y) Q st)(h2:(∀x y,R x y->wpS M A E s (jp () x y) Q st)->wpS M A E s m Q st):wpS M A E s m Q st:=h2 h1
theorem ifj{M}{σ α z:Type}{c}[Decidable c]{jp:Unit->z->StateT σ _ α}{x y Q st}(h:∀g,wpS M A E s (jp () g) Q st):wpS M A E s (if c then jp () x else jp () y) Q st:=ifs (λ_=>h x) (λ_=>h y)
theorem vJ(hO:LtAt prog w A s κ kd){a b:Array Keyed}{st:SortSt}{Q:Array Keyed->SortSt->Prop}(hk:kindOf st=kd)(va:∀p∈a.toList,Va κ p)(vb:∀p∈b.toList,Va κ p)(ha:1<=a.size)(hb:1<=b.size)(sa:SL κ a.toList)(sb:SL κ b.toList)
 (P1:∀y∈b.toList.take 1,∀x∈a.toList,le κ y x)(P2:∀y∈b.toList,∀z∈a.toList.drop (a.size-1),le κ y z)
 (h:∀m ag,Eqv st ag->pT κ (a.toList++b.toList) m.toList->Q m ag):wpS (model prog w) A E s (acA a b) Q st:=by
 have hL:∃LL,LL=a.toList++b.toList:=⟨_,rfl⟩;obtain⟨LL,eL⟩:=hL;rw[←eL]at h;obtain⟨b0,az,bq⟩:=fV (x:=b) (i:=0) (by lia);have M0:Mg κ LL [] a.toList b.toList:=⟨by simp_all,sa,sb⟩;have M1:Mg κ LL #[b0].toList (a.toList.drop 0) (b.toList.drop 1):=by
  have e:b.toList=[b0]++b.toList.drop 1:=by
   have:=bI az;rwa [akQ]at this
  have aA:=M0;rw[e]at aA;refine Mg.b aA λy hy x hx=>P1 y ?_ x hx;rw[e,ah5.mp hy];simp
 refine aii (wpS_lift (ajH ⟨rfl,aii (cE az ?_)⟩));by_cases c1:1=b.size
 .rw[if_pos (by simpa using c1)];exact aip (h _ _ (Eqv.refl _) (acU M1 c1))
 rw[if_neg (by simpa using c1)];by_cases c2:0+1=a.size
 .rw[if_pos (by simpa using c2)];exact aip (h _ _ (Eqv.refl _) (ac3 M1 c2 P2))
 rw[if_neg (by simpa using c2)];refine aii (amn (aii (akf (ajd (I:=λx c ag=>Eqv st ag/\∃out ia ib mg,c=(none,out,ia,ib,mg)/\Mg κ LL out.toList (a.toList.drop ia) (b.toList.drop ib)/\ia+1<a.size/\ib<b.size/\x+1<=ia+ib)
  (Q:=λc ag=>Eqv st ag/\∃m r,c=(some m,r)/\pT κ LL m.toList) ?_ ?_ ⟨Eqv.refl _,_,_,_,_,rfl,M1,by lia,by lia,by lia⟩) ?_)))
 rotate_left
 .lia
 .rintro c ag ⟨ev,m,r,rfl,g⟩;exact aip (h _ _ ev g)
 rintro x c bt _ hx ⟨aU,out,ia,ib,mg,rfl,M,aV,aW,bu⟩;refine aii (akf (ajd (I:=λy c ak=>Eqv st ak/\∃L B J ac bc,c=(none,L,B,J,ac,bc)/\Mg κ LL L.toList (a.toList.drop B) (b.toList.drop J)/\B+1<a.size/\J<b.size/\ia+ib+y<=B+J)
  (Q:=λc ak=>Eqv st ak/\((∃m r,c=(some m,r)/\pT κ LL m.toList)\/∃L B J ac bc,c=(none,L,B,J,ac,bc)/\Mg κ LL L.toList (a.toList.drop B) (b.toList.drop J)/\B+1<a.size/\J<b.size/\ia+ib+1<=B+J)) ?_ ?_ ⟨aU,out,ia,ib,_,_,rfl,M,aV,aW,ah4 _⟩) ?_)
 .rintro y c ak _ hy ⟨Z,L,B,J,ac,bc,rfl,M',Y,aa,an⟩;obtain⟨q,hq,mq⟩:=fV aa;obtain⟨p,hp,mp⟩:=fV (x:=a) (i:=B) (by lia);have sB:=sb.drop J;have sA:=sa.drop B;rw[bI hq]at sB;rw[bI hp]at sA;refine aii (cE hq (aii (cE hp (aii (afu hO (Z.1.trans hk) (vb q mq) (va p mp) ?_)))));cases hw:κ.blt _ _ with
  |true=>
   refine aii (cE hq ?_);have M2:Mg κ LL (L.push q).toList (a.toList.drop B) (b.toList.drop (J+1)):=by
    rw[kI];refine Mg.b (by rw[←bI hq];exact M') λy hy x hx=>?_;rw[ah5.mp hy];rw[bI hp]at hx;exact le_trans (le_of_lt hw) (sA.head x hx)
   by_cases c:J+1=b.size
   .exact ifp (ait.mpr c) (aip ⟨Z,.inl ⟨_,_,rfl,acU M2 c⟩⟩)
   refine ifn (λz=>c (ait.mp z)) (ifs (λ_=>?_) (λ_=>?_))
   .exact aip ⟨Z,.inr ⟨_,B,J+1,_,_,rfl,M2,Y,by lia,by lia⟩⟩
   .exact aip ⟨Z,_,B,J+1,_,_,rfl,M2,Y,by lia,by lia⟩
  |false=>
   refine aii (cE hp ?_);have M2:Mg κ LL (L.push p).toList (a.toList.drop (B+1)) (b.toList.drop J):=by
    rw[kI];refine Mg.a (by rw[←bI hp];exact M') λy hy x hx=>?_;rw[ah5.mp hy];rw[bI hq]at hx;exact le_trans (hw) (sB.head x hx)
   by_cases c:B+1+1=a.size
   .exact ifp (ait.mpr c) (aip ⟨Z,.inl ⟨_,_,rfl,ac3 M2 c P2⟩⟩)
   refine ifn (λz=>c (ait.mp z)) (ifs (λ_=>?_) (λ_=>?_))
   .exact aip ⟨Z,.inr ⟨_,B+1,J,_,_,rfl,M2,by lia,by lia,by lia⟩⟩
   .exact aip ⟨Z,_,B+1,J,_,_,rfl,M2,by lia,by lia,by lia⟩
 .rintro c ak ⟨Z,L,B,J,ac,bc,rfl,M',Y,aa,an⟩;exact⟨Z,.inr ⟨_,_,_,_,_,rfl,M',Y,aa,by lia⟩⟩
 rintro c ak ⟨Z,hc⟩;rcases hc with ⟨m,r,rfl,g⟩|⟨aD,aw,ax,a0,a1,rfl,N1,aE,aF,bg⟩
 .exact aip ⟨Z,m,_,rfl,g⟩
 refine aii (wpS_lift (ajH ⟨rfl,aii (akf (ajd (I:=λy c al=>Eqv st al/\∃L B J au ac bc,c=(none,L,B,J,au,ac,bc)/\Mg κ LL L.toList (a.toList.drop B) (b.toList.drop J)/\B+1<a.size/\J<b.size/\aw+ax<=B+J)
  (Q:=λc al=>Eqv st al/\((∃m r,c=(some m,r)/\pT κ LL m.toList)\/∃L B J au ac bc,c=(none,L,B,J,au,ac,bc)/\Mg κ LL L.toList (a.toList.drop B) (b.toList.drop J)/\B+1<a.size/\J<b.size/\aw+ax<=B+J)) ?_ ?_ ⟨Z,aD,aw,ax,_,a0,a1,rfl,N1,aE,aF,ah4 _⟩) ?_)⟩))
 rotate_left
 .rintro c al ⟨am,L,B,J,au,ac,bc,rfl,M',Y,aa,an⟩;exact⟨am,.inr ⟨_,_,_,_,_,_,rfl,M',Y,aa,by lia⟩⟩
 .rintro c al ⟨am,hc⟩;rcases hc with ⟨m,r,rfl,g⟩|⟨av,ab,O,a2,a3,a4,rfl,N2,aG,aH,bh⟩
  .exact aip ⟨am,m,_,rfl,g⟩
  exact aii (xx am λa5 ad=>aip ⟨ad,_,ab,O,_,rfl,N2,aG,aH,by lia⟩)
 rintro y c al _ hy ⟨am,av,ab,O,a2,a3,a4,rfl,M',Y,aa,an⟩;obtain⟨q,hq,mq⟩:=fV aa;have sB:=sb.drop O;rw[bI hq]at sB
 lift_lets
 extract_lets s1 v1 s2 v2 s3 v3 s4 v4 s5 v5 v6 v7 jp
 refine ifj (jp:=jp) (λg=>?_)
 .refine aii (xx am λa5 ad=>?_);refine aii (cE hq (aii (fu (left:=false) (key:=q) (arr:=a) (base:=ab) (n:=a.size-ab) (hint:=0) hO (ad.1.trans hk) (vb q mq) (by lia) (by rw[jo];exact λp hp=>va p (aju hp)) (by rw[jo];exact sa.drop _) (by lia) λk bx g1 g2=>?_)));rw[jo]at g1 g2;rw[akU]at g2;dsimp -zeta -zetaHave only
  extract_lets w1 jp2
  refine acp (jp:=jp2) (λ(aj:Array Keyed) (S:Nat)=>Mg κ LL aj.toList (a.toList.drop S) (b.toList.drop O)/\S+1<a.size/\ab<=S/\∀x∈a.toList.drop S,le κ q x) (λaj S hR=>?_) (λhj=>?_)
  .obtain⟨M3,bz,bA,hA⟩:=hR;refine aii (cE hq ?_);have M4:Mg κ LL (aj.push q).toList (a.toList.drop S) (b.toList.drop (O+1)):=by
    rw[kI];refine Mg.b (by rw[←bI hq];exact M3) λy hy x hx=>?_;rw[ah5.mp hy];exact hA x hx
   by_cases c4:O+1=b.size
   .exact ifp (ait.mpr c4) (aip ⟨ad,.inl ⟨_,_,rfl,acU M4 c4⟩⟩)
   refine ifn (λz=>c4 (ait.mp z)) ?_;obtain⟨p,hp,mp⟩:=fV (x:=a) (i:=S) (by lia);refine aii (cE hp (aii (fu (left:=true) (key:=p) (arr:=b) (base:=O+1) (n:=b.size-(O+1)) (hint:=0) hO (ad.1.trans hk) (va p mp) (by lia) (by rw[jo];exact λp hp=>vb p (aju hp)) (by rw[jo];exact sb.drop _) (by lia) λk2 bk g3 g4=>?_)));rw[jo]at g3 g4;rw[akU]at g4;dsimp -zeta -zetaHave only
   extract_lets w3 jp3
   refine acp (jp:=jp3) (λ(ap:Array Keyed) (af:Nat)=>Mg κ LL ap.toList (a.toList.drop S) (b.toList.drop af)/\af<b.size/\O+1<=af/\∀y∈b.toList.drop af,le κ p y) (λap af hR=>?_) (λaK=>?_)
   .obtain⟨M5,bC,bD,hB⟩:=hR;refine aii (cE hp ?_);have M6:Mg κ LL (ap.push p).toList (a.toList.drop (S+1)) (b.toList.drop af):=by
     rw[kI];refine Mg.a (by rw[←bI hp];exact M5) λy hy x hx=>?_;rw[ah5.mp hy];exact hB x hx
    by_cases c7:S+1+1=a.size
    .exact ifp (ait.mpr c7) (aip ⟨ad,.inl ⟨_,_,rfl,ac3 M6 c7 P2⟩⟩)
    refine ifn (λz=>c7 (ait.mp z)) (ifs (λ_=>?_) (λ_=>?_))
    .exact aip ⟨ad,.inr ⟨_,S+1,af,_,_,_,rfl,M6,by lia,by lia,by lia⟩⟩
    .exact aip ⟨ad,_,S+1,af,_,_,_,rfl,M6,by lia,by lia,by lia⟩
   by_cases bb:k2=0
   .subst bb;exact ifn (by lia) (aK _ (O+1) ⟨M4,by lia,ah4 _,g4⟩)
   .refine ifp (by lia) ?_;have M5:Mg κ LL ((aj.push q)++b.extract (O+1) (O+1+k2)).toList (a.toList.drop S) (b.toList.drop (O+1+k2)):=by
     rw[xg];refine Mg.b (by rw[←ub];exact M4) λy hy x hx=>?_;have sA:=sa.drop S;rw[bI hp]at sA;rw[bI hp]at hx;exact le_trans (le_of_lt (g3 y hy)) (sA.head x hx)
    by_cases c5:O+1+k2=b.size
    .exact ifp (ait.mpr c5) (aip ⟨ad,.inl ⟨_,_,rfl,acU M5 c5⟩⟩)
    exact ifn (λz=>c5 (ait.mp z)) (aK _ (O+1+k2) ⟨M5,by lia,by lia,g4⟩)
  by_cases be:k=0
  .subst be;exact ifn (by lia) (hj _ _ ⟨M',Y,ah4 _,λx hx=>le_of_lt (g2 x hx)⟩)
  .refine ifp (by lia) ?_;have M3:Mg κ LL (av++a.extract ab (ab+k)).toList (a.toList.drop (ab+k)) (b.toList.drop O):=by
    rw[xg];refine Mg.a (by rw[←ub];exact M') λy hy x hx=>?_;rw[bI hq]at hx;exact le_trans (g1 y hy) (sB.head x hx)
   by_cases ay:ab+k+1=a.size
   .exact ifp (ait.mpr ay) (aip ⟨ad,.inl ⟨_,_,rfl,ac3 M3 ay P2⟩⟩)
   refine ifn (λz=>ay (ait.mp z)) ?_;by_cases c3:ab+k=a.size
   .exact ifp (ait.mpr c3) (aip ⟨ad,.inl ⟨_,_,rfl,ag8 M3 c3⟩⟩)
   exact ifn (λz=>c3 (ait.mp z)) (hj _ (ab+k) ⟨M3,by lia,by lia,λx hx=>le_of_lt (g2 x hx)⟩)
end
section
variable {κ:KeyKind}
structure MgH(κ:KeyKind)(LL o A B:List Keyed):Prop where
 perm:(A++(B++o)).Perm LL
 sa:SL κ (A++o)
 sb:SL κ (B++o)
theorem MgH.a{LL o c A B:List Keyed}(h:MgH κ LL o (A++c) B)(O:∀x∈c,∀y∈B,le κ y x):MgH κ LL (c++o) A B:=by
 refine⟨?_,?_,?_⟩
 .refine List.Perm.trans ?_ h.perm;rw[aim];refine akg A ?_;rw[←aim,←aim];exact aj9 o akG
 .rw[←aim];exact h.sa
 .have J:=h.sa;have z:=h.sb;unfold SL at *;rw[aim,ai1]at J;rw[ai1]at z⊢;refine⟨z.1,J.2.1,λx L y hy=>?_⟩;rcases aic.mp hy with hy|hy
  .exact O y hy x L
  .exact z.2.2 x L y hy
theorem MgH.b{LL o c A B:List Keyed}(h:MgH κ LL o A (B++c))(O:∀y∈c,∀x∈A,le κ x y):MgH κ LL (c++o) A B:=by
 refine⟨?_,?_,?_⟩
 .have:=h.perm;rw[aim]at this;exact this
 .have z:=h.sa;have J:=h.sb;unfold SL at *;rw[aim,ai1]at J;rw[ai1]at z⊢;refine⟨z.1,J.2.1,λx L y hy=>?_⟩;rcases aic.mp hy with hy|hy
  .exact O y hy x L
  .exact z.2.2 x L y hy
 .rw[←aim];exact h.sb
theorem MgH.endA{LL o A}(h:MgH κ LL o A []):pT κ LL (A++o):=⟨h.perm,h.sa⟩
theorem MgH.endB{LL o B}(h:MgH κ LL o [] B):pT κ LL (B++o):=⟨h.perm,h.sb⟩
theorem MgH.first{LL o A:List Keyed}{z:Keyed}(h:MgH κ LL o A [z])(J:∀x∈A,le κ z x):pT κ LL ([z]++A++o):=by
 refine⟨?_,?_⟩
 .refine List.Perm.trans ?_ h.perm;rw[←aim];exact aj9 o akG
 .have L:=h.sa;have B:=h.sb;unfold SL at *;rw[aim,anb,ajQ];rw[anb,ajQ]at B;refine⟨λy hy=>?_,L⟩;rcases aic.mp hy with hy|hy
  .exact J y hy
  .exact B.1 y hy
theorem gU{a:Array Keyed}{n x}(h:a[n]?=some x):a.toList.take (n+1)=a.toList.take n++[x]:=by
 rw[ais];have:a.toList[n]?=some x:=by simpa using h
 rw[this]
 rfl
theorem nK(o:Array Keyed) x:(o.push x).toList.reverse=[x]++o.toList.reverse:=by simp
theorem aaa(o a:Array Keyed) i n:(o++(a.extract i n).reverse).toList.reverse=(a.toList.take n).drop i++o.toList.reverse:=by
 simp[List.drop_take]
theorem xy(a:Array Keyed){i n}(h:i<=n):a.toList.take n=a.toList.take i++(a.toList.take n).drop i:=by
 have:=(aiI i (a.toList.take n)).symm;rwa [alv,akm h]at this
theorem rY(o a b:Array Keyed) na nb:(a.extract 0 na++b.extract 0 nb++o.reverse).toList=a.toList.take na++b.toList.take nb++o.toList.reverse:=by
 simp_all
theorem SL.lastOf{l x}(h:SL κ (l++[x])):∀y∈l++[x],le κ y x:=λy z=>by
 rcases aic.mp z with e|e
 .exact (ai1.mp h).2.2 y e x (ah5.mpr rfl)
 .rw[ah5.mp e];exact le_refl _
end
section
variable {κ:KeyKind}{LL:List Keyed}{a b out:Array Keyed}{na nb:Nat}
theorem agt(M:MgH κ LL out.toList.reverse (a.toList.take na) (b.toList.take nb))(c:na=0):pT κ LL (a.extract 0 na++b.extract 0 nb++out.reverse).toList:=by
 subst c;rw[rY];exact M.endB
theorem ahu(M:MgH κ LL out.toList.reverse (a.toList.take na) (b.toList.take nb))(c:nb=0):pT κ LL (a.extract 0 na++b.extract 0 nb++out.reverse).toList:=by
 subst c;rw[rY,aml,aiV];exact M.endA
theorem agv(M:MgH κ LL out.toList.reverse (a.toList.take na) (b.toList.take nb))(c:nb=1)(L:1<=b.size)(z:∀y∈b.toList.take 1,∀x∈a.toList,le κ y x):pT κ LL (b.extract 0 nb++a.extract 0 na++out.reverse).toList:=by
 subst c;rw[rY];have B:b[0]?=some b[0]:=getElem?_pos ..;have e:b.toList.take 1=[b[0]]:=by rw[gU B,aml,List.nil_append]
 rw[e]at M z⊢;exact M.first λx J=>z _ (ah5.mpr rfl) x (ai9 J)
end
section
variable {prog:Program}{w:World}{A:Around}{E:Value->Shared->Prop}{s:Shared}{κ:KeyKind}{kd:SortKind}
theorem vM(hO:LtAt prog w A s κ kd){a b:Array Keyed}{st:SortSt}{Q:Array Keyed->SortSt->Prop}(hk:kindOf st=kd)(va:∀p∈a.toList,Va κ p)(vb:∀p∈b.toList,Va κ p)(ha:1<=a.size)(hb:1<=b.size)(sa:SL κ a.toList)(sb:SL κ b.toList)
 (P1:∀y∈b.toList.take 1,∀x∈a.toList,le κ y x)(P2:∀y∈b.toList,∀z∈a.toList.drop (a.size-1),le κ y z)
 (h:∀m af,Eqv st af->pT κ (a.toList++b.toList) m.toList->Q m af):wpS (model prog w) A E s (acO a b) Q st:=by
 have hL:∃LL,LL=a.toList++b.toList:=⟨_,rfl⟩;obtain⟨LL,eL⟩:=hL;rw[←eL]at h;obtain⟨a0,aw,bz⟩:=fV (x:=a) (i:=a.size-1) (by lia);have M1:MgH κ LL #[a0].toList.reverse (a.toList.take (a.size-1)) (b.toList.take b.size):=by
  have e:=by
   have:=gU aw;rwa [aiS (by simp_all)]at this
  have M0:MgH κ LL [] (a.toList.take (a.size-1)++[a0]) b.toList:=by
   refine⟨?_,?_,?_⟩
   .rw[←e,aiV,eL]
   .rw[←e,aiV];exact sa
   .rw[aiV];exact sb
  rw[aiS (l:=b.toList) (by exact ah4 _)];refine MgH.a M0 λx hx y hy=>P2 y hy x ?_;rw[bI aw,ah5.mp hx];simp
 refine aii (wpS_lift (ajH ⟨rfl,?_⟩));refine aii (cE aw ?_);by_cases c1:a.size-1=0
 .exact ifp (ait.mpr c1) (aip (h _ _ (Eqv.refl _) (agt M1 c1)))
 refine ifn (λz=>c1 (ait.mp z)) ?_;by_cases c2:b.size=1
 .exact ifp (ait.mpr c2) (aip (h _ _ (Eqv.refl _) (agv M1 c2 hb P1)))
 refine ifn (λz=>c2 (ait.mp z)) ?_;refine aii (amn ?_);refine aii (akf (ajd (I:=λx c af=>Eqv st af/\∃na nb out mg,c=(none,na,nb,out,mg)/\MgH κ LL out.toList.reverse (a.toList.take na) (b.toList.take nb)/\1<=na/\na<=a.size/\2<=nb/\nb<=b.size/\na+nb+x+1<=a.size+b.size)
  (Q:=λc af=>Eqv st af/\∃m r,c=(some m,r)/\pT κ LL m.toList) ?_ ?_ ⟨Eqv.refl _,a.size-1,b.size,_,_,rfl,M1,by lia,by lia,by lia,by lia,by lia⟩) ?_)
 rotate_left
 .lia
 .rintro c af ⟨ev,m,r,rfl,g⟩;exact aip (h _ _ ev g)
 rintro x c bC _ hx ⟨aU,na,nb,out,mg,rfl,M,aV,aD,aW,aE,bD⟩;refine aii (akf (ajd (I:=λy c ah=>Eqv st ah/\∃B J L ac bc,c=(none,B,J,L,ac,bc)/\MgH κ LL L.toList.reverse (a.toList.take B) (b.toList.take J)/\1<=B/\B<=a.size/\2<=J/\J<=b.size/\B+J+y<=na+nb)
  (Q:=λc ah=>Eqv st ah/\((∃m r,c=(some m,r)/\pT κ LL m.toList)\/∃B J L ac bc,c=(none,B,J,L,ac,bc)/\MgH κ LL L.toList.reverse (a.toList.take B) (b.toList.take J)/\1<=B/\B<=a.size/\2<=J/\J<=b.size/\B+J+1<=na+nb)) ?_ ?_ ⟨aU,na,nb,out,_,_,rfl,M,aV,aD,aW,aE,ah4 _⟩) ?_)
 .rintro y c ah _ hy ⟨Y,B,J,L,ac,bc,rfl,M',bo,aX,bp,aY,as⟩;obtain⟨q,hq,mq⟩:=fV (x:=b) (i:=J-1) (by lia);obtain⟨p,hp,mp⟩:=fV (x:=a) (i:=B-1) (by lia);have tq:=gU hq;have tp:=gU hp;rw[show J-1+1=J by lia]at tq;rw[show B-1+1=B by lia]at tp;have sB:=sb.take J;have sA:=sa.take B;rw[tq]at sB;rw[tp]at sA;refine aii (cE hq (aii (cE hp (aii (afu hO (Y.1.trans hk) (vb q mq) (va p mp) ?_)))));cases hw:κ.blt _ _ with
  |true=>
   refine aii (cE hp ?_);have M2:MgH κ LL (L.push p).toList.reverse (a.toList.take (B-1)) (b.toList.take J):=by
    rw[nK];refine MgH.a (by rw[←tp];exact M') λx hx y hy=>?_;rw[ah5.mp hx];rw[tq]at hy;exact le_trans (sB.lastOf y hy) (le_of_lt hw)
   by_cases c:B-1=0
   .exact ifp (ait.mpr c) (aip ⟨Y,.inl ⟨_,_,rfl,agt M2 c⟩⟩)
   refine ifn (λz=>c (ait.mp z)) (ifs (λ_=>?_) (λ_=>?_))
   .exact aip ⟨Y,.inr ⟨B-1,J,_,_,_,rfl,M2,by lia,by lia,by lia,by lia,by lia⟩⟩
   .exact aip ⟨Y,B-1,J,_,_,_,rfl,M2,by lia,by lia,by lia,by lia,by lia⟩
  |false=>
   refine aii (cE hq ?_);have M2:MgH κ LL (L.push q).toList.reverse (a.toList.take B) (b.toList.take (J-1)):=by
    rw[nK];refine MgH.b (by rw[←tq];exact M') λy hy x hx=>?_;rw[ah5.mp hy];rw[tp]at hx;exact le_trans (sA.lastOf x hx) (hw)
   by_cases c:J-1=1
   .exact ifp (ait.mpr c) (aip ⟨Y,.inl ⟨_,_,rfl,agv M2 c hb P1⟩⟩)
   refine ifn (λz=>c (ait.mp z)) (ifs (λ_=>?_) (λ_=>?_))
   .exact aip ⟨Y,.inr ⟨B,J-1,_,_,_,rfl,M2,by lia,by lia,by lia,by lia,by lia⟩⟩
   .exact aip ⟨Y,B,J-1,_,_,_,rfl,M2,by lia,by lia,by lia,by lia,by lia⟩
 .rintro c ah ⟨Y,B,J,L,ac,bc,rfl,M',g1,g2,g3,g4,as⟩;exact⟨Y,.inr ⟨_,_,_,_,_,rfl,M',g1,g2,g3,g4,by lia⟩⟩
 rintro c ah ⟨Y,hc⟩;rcases hc with ⟨m,r,rfl,g⟩|⟨az,aA,aJ,a4,a5,rfl,N1,i1,i2,i3,i4,bq⟩
 .exact aip ⟨Y,m,_,rfl,g⟩
 refine aii (wpS_lift (ajH ⟨rfl,?_⟩));refine aii (akf (ajd (I:=λy c ai=>Eqv st ai/\∃B J L ar ac bc,c=(none,B,J,L,ar,ac,bc)/\MgH κ LL L.toList.reverse (a.toList.take B) (b.toList.take J)/\1<=B/\B<=a.size/\2<=J/\J<=b.size/\B+J<=az+aA)
  (Q:=λc ai=>Eqv st ai/\((∃m r,c=(some m,r)/\pT κ LL m.toList)\/∃B J L ar ac bc,c=(none,B,J,L,ar,ac,bc)/\MgH κ LL L.toList.reverse (a.toList.take B) (b.toList.take J)/\1<=B/\B<=a.size/\2<=J/\J<=b.size/\B+J<=az+aA)) ?_ ?_ ⟨Y,az,aA,aJ,_,a4,a5,rfl,N1,i1,i2,i3,i4,ah4 _⟩) ?_)
 rotate_left
 .rintro c ai ⟨aj,B,J,L,ar,ac,bc,rfl,M',g⟩;exact⟨aj,.inr ⟨_,_,_,_,_,_,rfl,M',g⟩⟩
 .rintro c ai ⟨aj,hc⟩;rcases hc with ⟨m,r,rfl,g⟩|⟨ad,O,au,a6,a7,a8,rfl,N2,j1,j2,j3,j4,bu⟩
  .exact aip ⟨aj,m,_,rfl,g⟩
  exact aii (xx aj λba Z=>aip ⟨Z,ad,O,_,_,rfl,N2,j1,j2,j3,j4,by lia⟩)
 rintro y c ai _ hy ⟨aj,ad,O,au,a6,a7,a8,rfl,M',j1,j2,j3,j4,as⟩;obtain⟨q,hq,mq⟩:=fV (x:=b) (i:=O-1) (by lia);have tq:=gU hq;rw[show O-1+1=O by lia]at tq;have sB:=sb.take O;rw[tq]at sB;dsimp -zeta -zetaHave only
 lift_lets
 extract_lets s1 v1 s2 v2 s3 v3 s4 v4 s5 v5 v6 v7 jp
 refine ifj (jp:=jp) (λg=>?_)
 .refine aii (xx aj λba Z=>?_);refine aii (cE hq (aii (fu (left:=false) (key:=q) (arr:=a) (base:=0) (n:=ad) (hint:=ad-1) hO (Z.1.trans hk) (vb q mq) (by lia) (by exact λp hp=>va p (ai9 hp)) (by exact sa.take _) (by lia) λk aB g1 g2=>?_)));rw[akQ]at g1 g2;rw[alv,akm aB]at g1;simp only[ajl,ak4]at g1 g2;dsimp -zeta -zetaHave only
  lift_lets
  extract_lets w1 w2 jp2
  refine acp (jp:=jp2) (λ(S:Nat) (ag:Array Keyed)=>MgH κ LL ag.toList.reverse (a.toList.take S) (b.toList.take O)/\1<=S/\S<=ad/\∀x∈a.toList.take S,le κ x q) (λS ag hR=>?_) (λhj=>?_)
  .obtain⟨M3,bL,bM,hA⟩:=hR;refine aii (cE hq ?_);have M4:MgH κ LL (ag.push q).toList.reverse (a.toList.take S) (b.toList.take (O-1)):=by
    rw[nK];refine MgH.b (by rw[←tq];exact M3) λy hy x hx=>?_;rw[ah5.mp hy];exact hA x hx
   by_cases c4:O-1=1
   .exact ifp (ait.mpr c4) (aip ⟨Z,.inl ⟨_,_,rfl,agv M4 c4 hb P1⟩⟩)
   refine ifn (λz=>c4 (ait.mp z)) ?_;obtain⟨p,hp,mp⟩:=fV (x:=a) (i:=S-1) (by lia);have tp:=gU hp;rw[show S-1+1=S by lia]at tp;refine aii (cE hp (aii (fu (left:=true) (key:=p) (arr:=b) (base:=0) (n:=O-1) (hint:=O-1-1) hO (Z.1.trans hk) (va p mp) (by lia) (by exact λp hp=>vb p (ai9 hp)) (by exact sb.take _) (by lia) λk2 av g3 g4=>?_)));rw[alv,akm av]at g3;dsimp -zeta -zetaHave only
   extract_lets w3 w4 jp3
   refine acp (jp:=jp3) (λ(ae:Nat) (al:Array Keyed)=>MgH κ LL al.toList.reverse (a.toList.take S) (b.toList.take ae)/\2<=ae/\ae<=O-1/\∀y∈b.toList.take ae,le κ y p) (λae al hR=>?_) (λaK=>?_)
   .obtain⟨M5,bO,bP,hB⟩:=hR;refine aii (cE hp ?_);have M6:MgH κ LL (al.push p).toList.reverse (a.toList.take (S-1)) (b.toList.take ae):=by
     rw[nK];refine MgH.a (by rw[←tp];exact M5) λx hx y hy=>?_;rw[ah5.mp hx];exact hB y hy
    by_cases c7:S-1=0
    .exact ifp (ait.mpr c7) (aip ⟨Z,.inl ⟨_,_,rfl,agt M6 c7⟩⟩)
    refine ifn (λz=>c7 (ait.mp z)) (ifs (λ_=>?_) (λ_=>?_))
    .exact aip ⟨Z,.inr ⟨S-1,ae,_,_,_,_,rfl,M6,by lia,by lia,by lia,by lia,by lia⟩⟩
    .exact aip ⟨Z,S-1,ae,_,_,_,_,rfl,M6,by lia,by lia,by lia,by lia,by lia⟩
   by_cases bh:k2=O-1
   .subst bh;refine ifn (show ¬ (O-1-(O-1)>0) by lia) (aK (O-1) _ ⟨M4,by lia,ah4 _,λy hy=>le_of_lt (g3 y hy)⟩)
   .refine ifp (show O-1-k2>0 by lia) ?_;have M5:MgH κ LL ((ag.push q)++(b.extract k2 (O-1)).reverse).toList.reverse (a.toList.take S) (b.toList.take k2):=by
     rw[aaa];refine MgH.b (by rw[←xy b av];exact M4) λy hy x hx=>?_;have sA:=sa.take S;rw[tp]at sA;rw[tp]at hx;exact le_trans (sA.lastOf x hx) (g4 y hy)
    by_cases c5:k2=1
    .exact ifp (ait.mpr c5) (aip ⟨Z,.inl ⟨_,_,rfl,agv M5 c5 hb P1⟩⟩)
    refine ifn (λz=>c5 (ait.mp z)) ?_;by_cases c6:k2=0
    .exact ifp (ait.mpr c6) (aip ⟨Z,.inl ⟨_,_,rfl,ahu M5 c6⟩⟩)
    exact ifn (λz=>c6 (ait.mp z)) (aK k2 _ ⟨M5,by lia,by lia,λy hy=>le_of_lt (g3 y hy)⟩)
  by_cases bk:k=ad
  .subst bk;exact ifn (show ¬ (k-k>0) by lia) (hj k _ ⟨M',j1,ah4 _,g1⟩)
  .refine ifp (show ad-k>0 by lia) ?_;have M3:MgH κ LL (au++(a.extract k ad).reverse).toList.reverse (a.toList.take k) (b.toList.take O):=by
    rw[aaa];refine MgH.a (by rw[←xy a aB];exact M') λx hx y hy=>?_;rw[tq]at hy;exact le_trans (sB.lastOf y hy) (le_of_lt (g2 x hx))
   by_cases c3:k=0
   .refine ifp (ait.mpr c3) ?_;exact aip ⟨Z,.inl ⟨_,_,rfl,agt M3 c3⟩⟩
   exact ifn (λz=>c3 (ait.mp z)) (hj k _ ⟨M3,by lia,aB,λx hx=>g1 x hx⟩)
end
theorem yc s:∀m off (arr:Array Keyed),s+off+m.length<=arr.size →
 ((m.zipIdx off).foldl (λa x=>a.setIfInBounds (s+x.2) x.1) arr).toList=arr.toList.take (s+off)++(m++arr.toList.drop (s+off+m.length))
 |[],off,arr,h=>by simp
 |x::m,off,arr,h=>by
  rw[List.zipIdx_cons,anc];rw[aiJ]at h;rw[yc s m _ _ (by grind)];have e:(arr.setIfInBounds (s+off) x).toList=arr.toList.set (s+off) x:=by simp
  have z:s+off<arr.toList.length:=by grind
  have B:(arr.toList.set (s+off) x).take (s+(off+1))=arr.toList.take (s+off)++[x]:=by
   rw[show s+(off+1)=s+off+1 by lia,ais,List.take_set_of_le (ah4 _),aj7 z]
   rfl
  have J:(arr.toList.set (s+off) x).drop (s+(off+1)+m.length)=arr.toList.drop (s+off+(m.length+1)):=by
   rw[List.drop_set_of_lt (by lia)];congr 1;lia
  simp_all
section
variable {prog:Program}{w:World}{A:Around}{E:Value->Shared->Prop}{s:Shared}{κ:KeyKind}{kd:SortKind}
theorem rZ{X Y}(z:SL κ X)(B:SL κ Y)(h:∀x∈X,∀y∈Y,le κ x y):SL κ (X++Y):=ai1.mpr ⟨z,B,h⟩
theorem vE(hO:LtAt prog w A s κ kd){i:Nat}{st:SortSt}{P X Y R:List Keyed}{pw ao:Nat}{Q:Bool->SortSt->Prop}(hk:kindOf st=kd)(hf:failedOf st=none)
 (aG:(pendingOf st)[i]?=some (P.length,X.length,pw))(aH:(pendingOf st)[i+1]?=some (P.length+X.length,Y.length,ao))(ea:(arrOf st).toList=P++(X++(Y++R)))
 (vX:∀p∈X,Va κ p)(vY:∀p∈Y,Va κ p)(sX:SL κ X)(sY:SL κ Y)(hX:1<=X.length)(hY:1<=Y.length)
 (h:∀M S,M.Perm (X++Y)->SL κ M->kindOf S=kd->failedOf S=none->(arrOf S).toList=P++(M++R)->pendingOf S=((pendingOf st).setIfInBounds i (P.length,X.length+Y.length,pw)).eraseIdxIfInBounds (i+1)->Q true S):
 wpS (model prog w) A E s (mergeAt' i) Q st:=by
 have a0:=by
  have:=aiO List.length ea;simpa using this
 have dX:((arrOf st).toList.drop P.length).take X.length=X:=by rw[ea];simp
 have dY:((arrOf st).toList.drop (P.length+X.length)).take Y.length=Y:=by
  simp_all
 obtain⟨y0,Y',eY⟩:∃y0 Y',Y=y0::Y':=by
  cases Y<;>simp_all
 have aL:y0∈Y:=by rw[eY];exact aid
 have aM:=by
  have:(arrOf st).toList[P.length+X.length]?=some y0:=by
   simp_all
  simpa using this
 have ap:∀y∈Y,le κ y0 y:=by
  rw[eY]at sY⊢;exact sY.head
 refine aii (amn ?_);have ac:((pendingOf st)[i]?,(pendingOf st)[i+1]?)=(some (P.length,X.length,pw),some (P.length+X.length,Y.length,ao)):=by rw[aG,aH]
 rw[ac];refine aii (ak1 ?_);have k1:kindOf (SortSt.mk' (kindOf st) (arrOf st) (((pendingOf st).setIfInBounds i (P.length,X.length+Y.length,pw)).eraseIdxIfInBounds (i+1)) (gallopOf st) (failedOf st))=kd:=hk;have f1:failedOf (SortSt.mk' (kindOf st) (arrOf st) (((pendingOf st).setIfInBounds i (P.length,X.length+Y.length,pw)).eraseIdxIfInBounds (i+1)) (gallopOf st) (failedOf st))=none:=hf;have a1:arrOf (SortSt.mk' (kindOf st) (arrOf st) (((pendingOf st).setIfInBounds i (P.length,X.length+Y.length,pw)).eraseIdxIfInBounds (i+1)) (gallopOf st) (failedOf st))=arrOf st:=rfl;have p1:pendingOf (SortSt.mk' (kindOf st) (arrOf st) (((pendingOf st).setIfInBounds i _).eraseIdxIfInBounds _) (gallopOf st) (failedOf st))=((pendingOf st).setIfInBounds i (P.length,X.length+Y.length,pw)).eraseIdxIfInBounds (i+1):=rfl;show wpS _ _ _ _ _ _ (SortSt.mk' (kindOf st) (arrOf st) (((pendingOf st).setIfInBounds i _).eraseIdxIfInBounds _) (gallopOf st) (failedOf st));generalize SortSt.mk' (kindOf st) (arrOf st) (((pendingOf st).setIfInBounds i (P.length,X.length+Y.length,pw)).eraseIdxIfInBounds (i+1)) (gallopOf st) (failedOf st)=aO at k1 f1 a1 p1⊢;have same:=λso=>h _ _ (anz _) so k1 f1 (by rw[a1,ea,aim]) p1;refine aii (cE aM (aii (fu (left:=false) (key:=y0) (arr:=arrOf st) (base:=P.length) (n:=X.length) (hint:=0) hO k1 (vY y0 aL) (by lia) (by rw[dX];exact vX) (by rw[dX];exact sX) (by lia) λk ar g1 g2=>?_)));rw[dX]at g1 g2;simp only[ajl,ak4]at g1 g2;have sp:=aiI k X;have l2:(X.drop k).length=X.length-k:=ajS;have l1:(X.take k).length=k:=by rw[aif];lia
 have al:=λx L y O=>le_trans (g1 x L) (ap y O);by_cases c1:X.length-k=0
 .refine ifp (ait.mpr c1) ?_;refine aip (same (rZ sX sY λx L y O=>al x ?_ y O));rw[aiS (by lia)];exact L
 refine ifn (λz=>c1 (ait.mp z)) ?_;obtain⟨xl,ad⟩:∃xl,X[X.length-1]?=some xl:=⟨_,ahU (by lia)⟩;have aR:=ah7 ad;have aS:=by
  have:(arrOf st).toList[P.length+k+(X.length-k)-1]?=some xl:=by
   rw[ea,show P.length+k+(X.length-k)-1=P.length+(X.length-1) by lia,aio (by lia),Nat.add_sub_cancel_left,aik (by lia)];exact ad
  simpa using this
 have as:∀x∈X,le κ x xl:=λx L=>by
  obtain⟨j,hj,ej⟩:=ajV.mp L;exact sX.at (i:=j)  (by lia) (by simp_all) ad
 refine aii (cE aS (aii (fu (left:=true) (key:=xl) (arr:=arrOf st) (base:=P.length+X.length) (n:=Y.length) (hint:=Y.length-1) hO k1 (vX xl aR) (by lia) (by rw[dY];exact vY) (by rw[dY];exact sY) (by lia) λJ ah g3 g4=>?_)));rw[dY]at g3 g4;simp only[anE]at g3 g4;by_cases c2:J=0
 .refine ifp (ait.mpr c2) ?_;refine aip (same (rZ sX sY λx L y O=>le_trans (as x L) (g4 y ?_)));rw[c2,akQ];exact O
 refine ifn (λz=>c2 (ait.mp z)) ?_;have l3:(Y.take J).length=J:=by rw[aif];lia
 have ex:((arrOf st).extract (P.length+k) (P.length+X.length)).toList=X.drop k:=by
  rw[alL,akT,ea,←akU,anA,alB ar,show P.length+X.length-(P.length+k)=(X.drop k).length by lia,List.take_left]
 have Z:((arrOf st).extract (P.length+X.length) (P.length+X.length+J)).toList=Y.take J:=by
  rw[alL,akT,ea,←akU,anA,anA,show P.length+X.length+J-(P.length+X.length)=J by lia,aji ah]
 have au:∀(m:Array _) B,Eqv aO B->pT κ (X.drop k++Y.take J) m.toList->Q true (SortSt.mk' (kindOf B) ((m.toList.zipIdx).foldl (λa x=>a.setIfInBounds (P.length+k+x.2) x.1) (arrOf B)) (pendingOf B) (gallopOf B) (failedOf B)):=by
  intro m B ev g;have ml:m.toList.length=X.length-k+J:=by rw[g.1.length_eq,ahZ,l2,l3]
  refine h (X.take k++(m.toList++Y.drop J)) _ ?_ ?_ (ev.1.trans k1) (ev.2.2.2.trans f1) ?_ (ev.2.2.1.trans p1)
  .refine List.Perm.trans (akg _ (aj9 _ g.1)) ?_;rw[aim,aiI,←aim,aiI]
  .have av:∀z∈m.toList,z∈X.drop k\/z∈Y.take J:=λz hz=>aic.mp (g.1.mem_iff.mp hz);have aw:=sX;rw[←sp]at aw;have cX:=(ai1.mp aw).2.2;have ax:=sY;rw[←aiI J Y]at ax;have cY:=(ai1.mp ax).2.2;refine rZ (sX.take k) (rZ g.2 (sY.drop J) λz hz y O=>?_) λx L z hz=>?_
   .rcases av z hz with q|q
    .exact le_trans (as z (aju q)) (g4 y O)
    .exact cY z q y O
   .rcases aic.mp hz with hz|hz
    .rcases av z hz with q|q
     .exact cX x L z q
     .exact al x L z (ai9 q)
    .exact al x L z (aju hz)
  .have aX:(arrOf B).size=(arrOf st).size:=by rw[ev.2.1,a1]
   rw[yc _ _ 0 _ (by lia),ev.2.1,a1,ea];have t1:(P++(X++(Y++R))).take (P.length+k+0)=P++X.take k:=by
    rw[Nat.add_zero,List.take_length_add_append,aji ar]
   have t2:(P++(X++(Y++R))).drop (P.length+k+0+m.toList.length)=Y.drop J++R:=by
    rw[show P.length+k+0+m.toList.length=P.length+(X.length+J) by lia,al0,al0,alB ah]
   rw[t1,t2];simp only[aim]
 have ay:∀y∈(Y.take J).take 1,∀x∈X.drop k,le κ y x:=λy O x L=>by
  rw[alv,akm (by lia),eY]at O;have:=by simpa using O
  rw[this];exact le_of_lt (g2 x L)
 have az:∀y∈Y.take J,∀z∈(X.drop k).drop _,le κ y z:=λy O z hz=>by
  rw[akU,show k+(X.length-k-1)=X.length-1 by lia]at hz;have ez:X.drop (X.length-1)=[xl]:=by
   obtain⟨hl,e⟩:=ahW.mp ad;rw[akS hl,e,aj8 (by lia)]
  rw[ez]at hz;rw[ah5.mp hz];exact le_of_lt (g3 y O)
 have ae:((arrOf st).extract (P.length+k) (P.length+X.length)).size=X.length-k:=by rw[←aiw,ex,l2]
 have aA:((arrOf st).extract (P.length+X.length) (P.length+X.length+J)).size=J:=by rw[←aiw,Z,l3]
 refine ifs (λ_=>?_) (λ_=>?_)
 .refine aii (vJ hO k1 (by rw[ex];exact λp hp=>vX p (aju hp)) (by rw[Z];exact λp hp=>vY p (ai9 hp)) (by rw[ae];lia) (by rw[aA];lia) (by rw[ex];exact sX.drop k) (by rw[Z];exact sY.take J) (by rw[ex,Z];exact ay) (by rw[ex,Z,ae];exact az) λm B ev g=>?_);rw[ex,Z]at g;have:=au m _ ev g;have e:(failedOf B).isNone=true:=by rw[ev.2.2.2,f1];rfl
  refine aip ?_;rw[e];exact this
 .refine aii (vM hO k1 (by rw[ex];exact λp hp=>vX p (aju hp)) (by rw[Z];exact λp hp=>vY p (ai9 hp)) (by rw[ae];lia) (by rw[aA];lia) (by rw[ex];exact sX.drop k) (by rw[Z];exact sY.take J) (by rw[ex,Z];exact ay) (by rw[ex,Z,ae];exact az) λm B ev g=>?_);rw[ex,Z]at g;have:=au m _ ev g;have e:(failedOf B).isNone=true:=by rw[ev.2.2.2,f1];rfl
  refine aip ?_;rw[e];exact this
end
structure Rl(kd:SortKind)(lo:Nat)(st0 st:SortSt):Prop where
 kind:kindOf st=kd
 failed:failedOf st=none
 pend:pendingOf st=pendingOf st0
 perm:(arrOf st).Perm (arrOf st0)
 pre:∀i,i<lo->(arrOf st)[i]?=(arrOf st0)[i]?
theorem Rl.size{kd lo z st}(R:Rl kd lo z st):(arrOf st).size=(arrOf z).size:=R.perm.size_eq
theorem Rl.mir{kd lo i j z st}(R:Rl kd lo z st)(hi:lo<=i)(B:j<=(arrOf z).size):Rl kd lo z (setArr st (mirror (arrOf st) i j ((j-i) / 2))):=
 ⟨R.kind,R.failed,R.pend,(mirror_perm ..).trans R.perm,λk J=>by
  rw[getElem?_mirror_all (by rw[R.size];exact B),if_neg (by lia)];exact R.pre k J⟩
theorem Rl.bub{lo z d B st}(R:Rl kd lo B st)(hi:lo<=z-d)(J:d<=z)(L:z<(arrOf B).size):Rl kd lo B (setArr st (bubble (arrOf st) z d)):=
 ⟨R.kind,R.failed,R.pend,(bubble_perm ..).trans R.perm,λk O=>by
  rw[getElem?_bubble (by rw[R.size];exact L) d J,if_neg (by lia),if_neg (by lia)];exact R.pre k O⟩
def UpK(κ:KeyKind)(xs:Array Keyed)(lo n:Nat):Prop:=∀i j,i<=j->j<n->κ.kle (KK κ xs (lo+i)) (KK κ xs (lo+j))
def DnK(κ:KeyKind)(xs:Array Keyed)(lo n:Nat):Prop:=∀i j,i<=j->j<n->κ.kle (KK κ xs (lo+j)) (KK κ xs (lo+i))
section
variable {κ:KeyKind}
theorem UpK.one xs lo n (B:n<=1):UpK κ xs lo n:=λi j z J=>by
 have e:i=j:=by lia
 subst e;exact ako _
theorem UpK.more{xs lo x}(h:UpK κ xs lo x)(L:1<=x)(q:κ.kle (KK κ xs (lo+(x-1))) (KK κ xs (lo+x))):UpK κ xs lo (x+1):=λi j z O=>by
 by_cases B:j<x
 .exact h i j z B
 .have e:j=x:=by lia
  subst e;by_cases J:i=j
  .subst J;exact ako _
  .exact akx (h i _ (by lia) (by lia)) q
theorem DnK.more{xs lo x}(h:DnK κ xs lo x)(L:1<=x)(q:κ.kle (KK κ xs (lo+x)) (KK κ xs (lo+(x-1)))):DnK κ xs lo (x+1):=λi j z O=>by
 by_cases B:j<x
 .exact h i j z B
 .have e:j=x:=by lia
  subst e;by_cases J:i=j
  .subst J;exact ako _
  .exact akx q (h i _ (by lia) (by lia))
theorem DnK.congr{xs ys lo n}(h:DnK κ xs lo n)(e:∀k,KK κ ys k=KK κ xs k):DnK κ ys lo n:=λi j z B=>by
 rw[e,e];exact h i j z B
end
section
variable {prog:Program}{w:World}{A:Around}{E:Value->Shared->Prop}{s:Shared}{κ:KeyKind}{kd:SortKind}
theorem qj(S:LtAt prog w A s κ kd){lo i j z st Q}(R:Rl kd lo z st)(Y:∀p∈(arrOf z).toList,Va κ p)(hi:i<(arrOf z).size)(Z:j<(arrOf z).size)
 (h:Q (some (κ.blt (KK κ (arrOf st) i) (KK κ (arrOf st) j))) st):wpS (model prog w) A E s (ltAt' i j) Q st:=by
 have get:∀k,k<(arrOf _).size->∃p,(arrOf st)[k]?=some p/\Va κ p:=λk hk=>by
  obtain⟨p,e,m⟩:=fV   (by rw[R.size];exact hk);exact⟨p,e,Y p ((ajs.mp R.perm).mem_iff.mp m)⟩
 obtain⟨p,L,a,B⟩:=get i hi;obtain⟨q,O,b,J⟩:=get j Z;have ka:KK κ (arrOf st) i=a:=by rw[sx L];unfold kk;rw[B];rfl
 have kb:KK κ (arrOf st) j=b:=by rw[sx O];unfold kk;rw[J];rfl
 refine aii (amn (aii (cE L (aii (cE O (afu S R.kind ⟨a,B⟩ ⟨b,J⟩ ?_))))));have kp:kk κ p=a:=by unfold kk;rw[B];rfl
 have kq:kk κ q=b:=by unfold kk;rw[J];rfl
 simp_all
theorem yh(hO:LtAt prog w A s κ kd){lo n ok:Nat}{O st:SortSt}{Q:Bool->SortSt->Prop}(R:Rl kd lo O st)(va:∀p∈(arrOf O).toList,Va κ p)(hn:lo+n<=(arrOf O).size)(h1:1<=ok)(ao:ok<=n)(hs:UpK κ (arrOf st) lo ok)
 (h:∀J,Rl kd lo O J->UpK κ (arrOf J) lo n->Q true J):wpS (model prog w) A E s (binarySort' lo n ok) Q st:=by
 rw[binarySort'_eq];refine aii (akf (ajd (I:=λk c J=>c=(none,())/\Rl kd lo O J/\UpK κ (arrOf J) lo k) (Q:=λc J=>c=(none,())/\Rl kd lo O J/\UpK κ (arrOf J) lo n) ?_ ?_ ⟨rfl,R,by rw[Nat.max_eq_left h1];exact hs⟩) ?_);rotate_left
 .rintro c J ⟨rfl,R',S⟩;rw[show max (max ok 1) n=n by lia]at S;exact⟨rfl,R',S⟩
 .rintro c J ⟨rfl,R',S⟩;exact aip (h J R' S)
 rintro k c L aq ar ⟨rfl,R1,s1⟩;have as:1<=k:=by lia
 refine aii (akf (ajd (I:=λx c B=>B=L/\∃l r,c=(none,l,r)/\l<=r/\r<=k/\r-l<=k-x/\(∀i,i<l->κ.kle (KK κ (arrOf L) (lo+i)) (KK κ (arrOf L) (lo+k)))/\∀i,r<=i->i<k->κ.klt (KK κ (arrOf L) (lo+k)) (KK κ (arrOf L) (lo+i)))
  (Q:=λc B=>B=L/\∃l r,c=(none,l,r)/\l<=k/\(∀i,i<l->κ.kle (KK κ (arrOf L) (lo+i)) (KK κ (arrOf L) (lo+k)))/\∀i,l<=i->i<k->κ.klt (KK κ (arrOf L) (lo+k)) (KK κ (arrOf L) (lo+i))) ?_ ?_ ⟨rfl,0,k,rfl,ail _,ah4 _,by lia,λi hi=>absurd hi (by lia),λi a b=>absurd b (by lia)⟩) ?_)
 .rintro x c B _ hx ⟨rfl,l,r,rfl,g1,g2,g3,Z,g5⟩;by_cases ac:l ≥ r
  .refine ifp ac ?_;have e:l=r:=by lia
   subst e;exact aip ⟨rfl,l,l,rfl,g2,Z,g5⟩
  .refine ifn ac ?_;refine aii (qj hO R1 va (by show lo+k<_;lia) (by show lo+(l+r) / 2<_;lia) ?_);show wpS _ _ _ _ (if κ.blt (KK κ (arrOf B) (lo+k)) (KK κ (arrOf B) (lo+(l+r) / 2))=true then _ else _) _ _;cases q:κ.blt (KK κ (arrOf B) (lo+k)) (KK κ (arrOf B) (lo+(l+r) / 2)) with
   |true=>
    refine ifp rfl ?_;exact aip ⟨rfl,l,(l+r) / 2,rfl,by lia,by lia,by lia,Z,λi a b=>KeyOrd.klt_of_klt_of_kle q (s1 _ _ a b)⟩
   |false=>
    refine ifn aie ?_;exact aip ⟨rfl,(l+r) / 2+1,r,rfl,by lia,by lia,by lia,λi a=>akx (s1 i ((l+r) / 2) (by lia) (by lia)) (show κ.kle _ _ from q),g5⟩
 .rintro c B ⟨rfl,l,r,rfl,g1,g2,g3,Z,g5⟩;have e:l=r:=by lia
  subst e;exact⟨rfl,l,l,rfl,g2,Z,g5⟩
 .rintro c B ⟨rfl,l,r,rfl,g2,Z,g5⟩;show wpS _ _ _ _ (moveDown' (lo+k) (lo+l) >>= λ_=>pure (ForInStep.yield (none,()))) _ _;rw[moveDown'_eq];have ad:lo+k<(arrOf B).size:=by rw[R1.size];lia
  refine aii (ak1 (aip ⟨rfl,R1.bub (by lia) (by lia) (by lia),?_⟩));intro i j ah hj;show κ.kle (KK κ (bubble (arrOf B) (lo+k) (lo+k-(lo+l))) (lo+i)) (KK κ (bubble (arrOf B) (lo+k) (lo+k-(lo+l))) (lo+j));rw[KK_bubble ad (by lia),KK_bubble ad (by lia)];have e1:∀{z:Nat},l<z->z<=k->lo+z-1=lo+(z-1):=fun {z} a b=>by lia
  by_cases ai:j=l
  .subst ai;rw[if_pos (show lo+j=lo+k-(lo+k-(lo+j)) by lia)];by_cases Y:i=j
   .rw[Y,if_pos (show lo+j=lo+k-(lo+k-(lo+j)) by lia)];exact ako _
   .rw[if_neg (by lia),if_neg (by lia)];exact Z i (by lia)
  .by_cases aj:l<j
   .rw[if_neg (show ¬ (lo+j=lo+k-(lo+k-(lo+l))) by lia),if_pos (show lo+k-(lo+k-(lo+l))<lo+j/\lo+j<=lo+k by lia),e1 aj (by lia)];by_cases Y:i=l
    .rw[Y,if_pos (show lo+l=lo+k-(lo+k-(lo+l)) by lia)];exact akL (g5 (j-1) (by lia) (by lia))
    .by_cases ak:l<i
     .rw[if_neg (show ¬ (lo+i=lo+k-(lo+k-(lo+l))) by lia),if_pos (show lo+k-(lo+k-(lo+l))<lo+i/\lo+i<=lo+k by lia),e1 ak (by lia)];exact s1 _ _ (by lia) (by lia)
     .rw[if_neg (by lia),if_neg (by lia)];exact s1 _ _ (by lia) (by lia)
   .rw[if_neg (show ¬ (lo+j=lo+k-(lo+k-(lo+l))) by lia),if_neg (show ¬ (lo+k-(lo+k-(lo+l))<lo+j/\lo+j<=lo+k) by lia),if_neg (by lia),if_neg (by lia)];exact s1 _ _ ah (by lia)
end
section
variable {prog:Program}{w:World}{A:Around}{E:Value->Shared->Prop}{s:Shared}{κ:KeyKind}{kd:SortKind}
theorem abz(hO:LtAt prog w A s κ kd){lo nrem:Nat}{O:SortSt}{Q:Option Nat->SortSt->Prop}(hk:kindOf O=kd)(hf:failedOf O=none)(va:∀p∈(arrOf O).toList,Va κ p)(hn:lo+nrem<=(arrOf O).size)(h1:1<=nrem)
 (h:∀m J,Rl kd lo O J->1<=m->m<=nrem->UpK κ (arrOf J) lo m->Q (some m) J):wpS (model prog w) A E s (countRun' lo nrem) Q O:=by
 rw[countRun'_eq];have R0:Rl kd lo _ _:=⟨hk,hf,rfl,ane _,λ_ _=>rfl⟩;refine aii (akf (ajd (I:=λx c J=>J=O/\c=(none,x)/\UpK κ (arrOf O) lo x) (Q:=λc J=>J=O/\∃n,c=(none,n)/\1<=n/\n<=nrem/\UpK κ (arrOf O) lo n/\(n=nrem\/κ.klt (KK κ (arrOf O) (lo+n)) (KK κ (arrOf O) (lo+(n-1))))) ?_ ?_ ⟨rfl,rfl,UpK.one _ _ _ (ah4 _)⟩) ?_)
 .rintro x c J ae hx ⟨rfl,rfl,s1⟩;refine aii (qj hO R0 va (by lia) (by lia) ?_);rw[show lo+x-1=lo+(x-1) by lia];cases q:κ.blt _ _ with
  |true=>
   exact aip ⟨rfl,x,rfl,ae,by lia,s1,.inr q⟩
  |false=>
   exact aip ⟨rfl,rfl,s1.more ae q⟩
 .simp_all
 rintro c J ⟨rfl,n,rfl,g1,g2,s1,au⟩;by_cases ag:n=nrem
 .exact ifp (ait.mpr ag) (aip (h n _ R0 g1 g2 s1))
 refine ifn (λz=>ag (ait.mp z)) ?_;have al:=au.resolve_left ag
 extract_lets n0 q0 jp
 have am:∀aa,Rl kd lo J aa->DnK κ (arrOf aa) lo (n+1)->wpS (model prog w) A E s (jp ()) Q aa:=by
  intro aa R1 d1;refine aii (wpS_lift (ajH ⟨rfl,aii (akf (ajd (a:=n+1)  (I:=λx c L=>Rl kd lo _ L/\∃B,c=(none,x,B)/\DnK κ (arrOf L) lo x/\B+1<=x/\∀i,x-(B+1)<=i->i<x->KK κ (arrOf L) (lo+i)=KK κ (arrOf L) (lo+(x-1)))
   (Q:=λc L=>Rl kd lo J L/\∃x B,c=(none,x,B)/\1<=x/\x<=nrem/\DnK κ (arrOf L) lo x/\B+1<=x/\∀i,x-(B+1)<=i->i<x->KK κ (arrOf L) (lo+i)=KK κ (arrOf L) (lo+(x-1))) ?_ ?_ ⟨R1,0,rfl,d1,by lia,λi a b=>by congr 1;lia⟩) ?_)⟩))
  .rintro x c L ae hx ⟨R2,B,rfl,d2,q1,q2⟩;have S:lo+x<=(arrOf L).size:=by rw[R2.size];lia
   refine aii (qj hO R2 va (by show lo+x<_;lia) (by show lo+x-1<_;lia) ?_);rw[show lo+x-1=lo+(x-1) by lia];cases q:κ.blt _ _ with
   |true=>
    refine ifp rfl ?_;have d3:=d2.more (by lia) (akL q);refine ifs (λhq=>?_) (λhq=>?_)
    .refine aii (wpS_reverse (i:=lo+x-(B+1)) (j:=lo+x) (aip ⟨R2.mir (by lia) (by lia),0,rfl,?_,by lia,λi a b=>by congr 1;lia⟩));refine d3.congr λk=>KK_mirror_equal S (λk a b=>?_) k;have e:=q2 (k-lo) (by lia) (by lia);rw[show lo+(k-lo)=k by lia]at e;rw[e];congr 1;lia
    .exact aip ⟨R2,0,rfl,d3,by lia,λi a b=>by congr 1;lia⟩
   |false=>
    refine aii (qj hO R2 va (by lia) (by show lo+x<_;lia) ?_);cases p:κ.blt _ _ with
    |true=>
     exact aip ⟨R2,x,B,rfl,by lia,by lia,d2,q1,q2⟩
    |false=>
     have e:=KeyOrd.kle_antisymm p q;refine aip ⟨R2,B+1,rfl,d2.more (by lia) (show κ.kle _ _ from p),by lia,λi a b=>?_⟩;rw[show x+1-1=x by lia];by_cases aw:i=x
     .rw[aw]
     .rw[e];exact q2 i (by lia) (by lia)
  .rintro c L ⟨R2,B,rfl,d2,q1,q2⟩;rw[show max _ _=nrem by lia]at d2 q1 q2⊢;exact⟨R2,nrem,B,rfl,h1,ah4 _,d2,q1,q2⟩
  rintro c L ⟨R2,x,B,rfl,x1,x2,d2,q1,q2⟩
  extract_lets r5 s5 n5 q5 jp2
  have ad:∀Y,Rl kd lo J Y->DnK κ (arrOf Y) lo x->wpS (model prog w) A E s (jp2 ()) Q Y:=by
   intro Y R3 d3;have S:lo+x<=(arrOf Y).size:=by rw[R3.size];lia
   refine aii (wpS_reverse  (j:=lo+x) ?_);have R4:=R3.mir  (j:=lo+x) (ah4 _) (by lia);have u4:UpK κ (arrOf (setArr Y (mirror _ lo _ _))) lo x:=λi j ap hj=>by
    rw[KK_mirror S,KK_mirror S,if_pos (by lia),if_pos (by lia),show lo+(lo+x)-1-(lo+i)=lo+(x-1-i) by lia,show lo+(lo+x)-1-(lo+j)=lo+(x-1-j) by lia];exact d3 _ _ (by lia) (by lia)
   generalize setArr Y (mirror (arrOf Y) lo (lo+x) ((lo+x-lo) / 2))=ah at R4 u4⊢;refine aii (akf (ajd (a:=x)  (I:=λy c Z=>Z=ah/\c=(none,y)/\UpK κ _ lo y) (Q:=λc Z=>Z=ah/\∃m,c=(none,m)/\1<=m/\m<=nrem/\UpK κ (arrOf ah) lo m) ?_ ?_ ⟨rfl,rfl,u4⟩) ?_)
   .rintro y c Z aI hy ⟨rfl,rfl,s5⟩;refine aii (qj hO R4 va (by lia) (by lia) ?_);rw[show lo+y-1=lo+(y-1) by lia];cases q:κ.blt _ _ with
    |true=>
     exact aip ⟨rfl,y,rfl,by lia,by lia,s5⟩
    |false=>
     exact aip ⟨rfl,rfl,s5.more (by lia) q⟩
   .simp_all
   .rintro c Z ⟨rfl,m,rfl,m1,m2,s5⟩;exact aip (h m _ R4 m1 m2 s5)
  refine ifs (λhq=>?_) (λhq=>ad _ R2 d2);have S:lo+x<=(arrOf L).size:=by rw[R2.size];lia
  refine aii (wpS_reverse (i:=lo+x-(B+1)) (j:=lo+x) (ad _ (R2.mir (by lia) (by lia)) ?_));refine d2.congr λk=>KK_mirror_equal S (λk a b=>?_) k;have e:=q2 (k-lo) (by lia) (by lia);rw[show lo+(k-lo)=k by lia]at e;rw[e];congr 1;lia
 have S:lo+n<=(arrOf J).size:=by lia
 refine ifs (λaz=>?_) (λaz=>?_)
 .refine aii (qj hO R0 va (by lia) (by lia) ?_);cases q:κ.blt _ _ with
  |true=>
   exact aip (h n _ R0 g1 g2 s1)
  |false=>
   have all:=λk hk=>by
    have a1:=s1 0 k (by lia) hk;have a2:=s1 k (n-1) (by lia) (by lia);rw[show lo+n-1=lo+(n-1) by lia]at q;exact KeyOrd.kle_antisymm a2 (akx q a1)
   refine aii (wpS_reverse  (j:=lo+n) (am _ (R0.mir (ah4 _) (by lia)) ?_));have d0:DnK κ _ lo n:=λi j ap hj=>by rw[all i (by lia),all j hj];exact ako _
   refine (d0.more g1 (akL al)).congr λk=>KK_mirror_equal S (λk a b=>?_) k;have e:=all (k-lo) (by lia);rw[show lo+(k-lo)=k by lia]at e;rw[e,show lo+n-1=lo+(n-1) by lia]
 .have e1:n=1:=by lia
  subst e1;have d0:DnK κ (arrOf J) lo 1:=λi j ap hj=>by
   have e:i=j:=by lia
   subst e;exact ako _
  exact am _ R0 (d0.more (ah4 _) (akL al))
end
def ko:Nat->List (List Keyed)->List (Nat×Nat)
 |_,[]=>[]
 |s,g::gs=>(s,g.length)::ko (s+g.length) gs
theorem eA:∀A B s,ko s (A++B)=ko s A++ko (s+A.flatten.length) B
 |[],B,s=>by simp[ko]
 |g::A,B,s=>by
  simp only[ko,amE,ahZ,List.cons_append];rw[eA A B,amQ]
theorem i9:∀A s,(ko s A).length=A.length
 |[],s=>rfl
 |g::A,s=>by simp only[ko,aiJ,i9 A]
def two(p:Nat×Nat×Nat):Nat×Nat:=(p.1,p.2.1)
structure Runs(κ:KeyKind)(kd:SortKind)(a₀:Array Keyed)(segs:List (List Keyed))(rest:List Keyed)(st:SortSt):Prop where
 kind:kindOf st=kd
 failed:failedOf st=none
 perm:(arrOf st).Perm a₀
 arr:(arrOf st).toList=segs.flatten++rest
 pend:(pendingOf st).toList.map two=ko 0 segs
 sl:∀g∈segs,SL κ g/\1<=g.length
theorem Runs.psize{κ z segs rest st}(r:Runs κ kd z segs rest st):(pendingOf st).size=segs.length:=by
 have:=aiO List.length r.pend;rw[ahY,i9]at this;exact this
theorem Runs.total{κ z segs rest st}(r:Runs κ kd z segs rest st):segs.flatten.length+rest.length=z.size:=by
 have:=aiO List.length r.arr;rw[ahZ,aiw,r.perm.size_eq]at this;exact this.symm
theorem aa7:∀{segs:List (List Keyed)},(∀g∈segs,1<=g.length)->segs.length<=segs.flatten.length
 |[],_=>ah4 _
 |g::gs,h=>by
  have a:=h g aid;have b:=aa7  λq z=>h q (aih _ z);grind
theorem t7:∀{segs:List (List Keyed)} {i},i+1<segs.length->∃z X Y B,segs=z++(X::Y::B)/\z.length=i
 |[],i,h=>absurd h (by simp)
 |[g],i,h=>absurd h (by simp)
 |g::g'::gs,0,h=>⟨[],g,g',gs,rfl,rfl⟩
 |g::g'::gs,i+1,h=>by
  obtain⟨z,X,Y,B,e,l⟩:=t7 (segs:=g'::gs)  (by simpa using h);exact⟨g::z,X,Y,B,by rw[e];rfl,by simp[l]⟩
theorem uw{α z:Type}(f:α->z):∀(l:List α) n,(l.eraseIdx n).map f=(l.map f).eraseIdx n
 |[],n=>by simp
 |x::l,0=>by simp
 |x::l,n+1=>by
  rw[alg,air,air,alg,uw f l n]
theorem Runs.after{κ B segs rest st z}(r:Runs κ kd B segs rest st)(R:Rl kd segs.flatten.length st z):Runs κ kd B segs ((arrOf z).toList.drop segs.flatten.length) z:=by
 refine⟨R.kind,R.failed,R.perm.trans r.perm,?_,by rw[R.pend];exact r.pend,r.sl⟩;have e:(arrOf z).toList.take segs.flatten.length=segs.flatten:=by
  have L:(arrOf st).toList.take segs.flatten.length=segs.flatten:=by rw[r.arr,List.take_left]
  rw[←L];refine aj1 λi=>?_;have J:(List.take segs.flatten.length (arrOf st).toList).length=segs.flatten.length:=by
   rw[L]
  rw[J];by_cases hi:i<segs.flatten.length
  .rw[akk hi,akk hi,ajo,ajo];exact R.pre i hi
  .rw[ama (by lia),ama (by lia)]
 have:=(aiI segs.flatten.length (arrOf z).toList).symm;rwa [e]at this
theorem UpK.sl{κ xs lo n}(h:UpK κ xs lo n):SL κ ((xs.toList.drop lo).take n):=by
 refine aiL.mpr λi j hi J z=>?_;have B:j<n/\j<xs.size-lo:=by
  grind
 have q:=h i j (aiF z) B.1;rw[sx  (getElem?_pos xs _ _),sx  (getElem?_pos xs _ _)]at q;rw[akM,amD,akM,amD];exact q
theorem agn{c}[Decidable c]{a b n}(h1:a+1<n)(h2:b+1<n):(if c then a else b)+1<n:=by
 split<;>assumption
theorem zL(f:Nat×Nat×Nat->Nat×Nat×Nat)(z:∀x,two (f x)=two x)(p:Array (Nat×Nat×Nat))(i:Nat):(p.modify i f).toList.map two=p.toList.map two:=by
 refine aj1 λj=>?_;rw[ah1,ah1,ajo,ajo,Array.getElem?_modify];cases p[j]? with
 |none=>split<;>rfl
 |some v=>
  split
  .show some (two (f v))=some (two v);rw[z]
  .rfl
section
variable {prog:Program}{w:World}{A:Around}{E:Value->Shared->Prop}{s:Shared}{κ:KeyKind}{kd:SortKind}
theorem ig(hO:LtAt prog w A s κ kd){J:Array Keyed}{segs:List (List Keyed)}{rest:List Keyed}{i:Nat}{st:SortSt}{Q}(va:∀p∈J.toList,Va κ p)(r:Runs κ kd J segs rest st)(hi:i+1<segs.length)
 (h:∀B L,Runs κ kd J B rest L->B.length+1=segs.length->B.flatten.length=segs.flatten.length->Q true L):wpS (model prog w) A E s (mergeAt' i) Q st:=by
 obtain⟨S,X,Y,S2,rfl,l1⟩:=t7 hi;have pe:=r.pend;rw[eA]at pe;simp only[ko,aly]at pe;have Z:(ko 0 S).length=i:=by rw[i9];exact l1
 have at1:((pendingOf st).toList.map two)[i]?=some (S.flatten.length,X.length):=by
  simp_all
 have ab:((pendingOf st).toList.map two)[i+1]?=some (S.flatten.length+X.length,Y.length):=by
  simp_all
 have get:∀{k a b:Nat},((pendingOf st).toList.map two)[k]?=some _->∃c,(pendingOf st)[k]?=some (a,b,c):=fun {k a b} e=>by
  rw[ah1,ajo]at e;cases q:(pendingOf st)[k]? with
  |none=>simp_all
  |some v=>
   rw[q]at e;obtain⟨x,y,z⟩:=v;have e':(x,y)=(a,b):=ai0 e;simp_all
 obtain⟨pw,ac⟩:=get at1;obtain⟨ao,ad⟩:=get ab;have ea:(arrOf st).toList=S.flatten++(X++(Y++(S2.flatten++rest))):=by
  rw[r.arr];simp
 have O:=λp hp=>va p ((ajs.mp r.perm).mem_iff.mp hp);have sX:=r.sl X (by simp);have sY:=r.sl Y (by simp);refine vE hO r.kind r.failed ac ad ea (λp hp=>O p (by simp_all)) (λp hp=>O p (by simp_all)) sX.1 sY.1 sX.2 sY.2 λM L pM sM k' f' a' p'=>?_;have lM:M.length=X.length+Y.length:=by rw[pM.length_eq,ahZ]
 refine h (S++M::S2) L ⟨k',f',?_,?_,?_,λg hg=>?_⟩ (by simp only[ahZ,aiJ];lia) (by simp only[akw,amE,ahZ];lia)
 .refine Array.Perm.trans (ajs.mpr ?_) r.perm;rw[a',ea];refine akg _ ?_;rw[←aim X];exact aj9 _ pM
 .rw[a'];simp
 .rw[p',Array.toList_eraseIdxIfInBounds,Array.toList_setIfInBounds,eA];simp only[ko,aly];rw[uw,List.map_set,pe,show two _=(S.flatten.length,X.length+Y.length) from rfl,List.set_append_right _ _ (by lia),Z,akd,List.set_cons_zero,List.eraseIdx_append_of_length_le (by lia),Z,show i+1-i=1 by lia];simp only[alg,List.eraseIdx_cons_zero];rw[lM,amQ]
 .rcases aic.mp hg with hg|hg
  .exact r.sl g (by simp[hg])
  .rcases ain.mp hg with hg|hg
   .grind
   .exact r.sl g (by simp[hg])
theorem wpS_sortAll(hO:LtAt prog w A s κ kd){Z:Array Keyed}{st:SortSt}{Q:Unit->SortSt->Prop}(va:∀p∈Z.toList,Va κ p)(hk:kindOf st=kd)(hf:failedOf st=none)(hp:(arrOf st).Perm Z)(ax:pendingOf st=#[])
 (h:∀aa,(arrOf aa).Perm Z->failedOf aa=none->SL κ (arrOf aa).toList->Q () aa):wpS (model prog w) A E s sortRuns' Q st:=by
 have hN:=hp.size_eq;have ab:∀{J} {rest} {aa},Runs κ kd Z J rest aa->(arrOf st).size<=J.flatten.length->Runs κ kd Z J [] aa:=fun {J rest aa} r hl=>by
  have t:=r.total;have e:rest=[]:=ala.mp (by lia);simp_all
 refine aii (amn (aii (akf (ajd  (b:=(arrOf st).size) (I:=λx c aa=>∃J rest,c=(none,J.flatten.length)/\Runs κ kd _ J rest aa/\x<=J.flatten.length)
  (Q:=λc aa=>∃J lo,c=(none,lo)/\Runs κ kd Z J [] aa) ?_ ?_ ⟨[],(arrOf st).toList,rfl,⟨hk,hf,hp,rfl,by rw[ax];rfl,λg hg=>nomatch hg⟩,ah4 _⟩) ?_)))
 .rintro x c an _ hx ⟨J,rest,rfl,r,ao⟩;by_cases ak:J.flatten.length ≥ (arrOf st).size
  .exact ifp ak (aip ⟨J,_,rfl,ab r ak⟩)
  refine ifn ak ?_;have aO:=r.perm.size_eq;have ai:=λp hp=>va p ((ajs.mp r.perm).mem_iff.mp hp);refine aii (abz (lo:=J.flatten.length) (nrem:=(arrOf st).size-J.flatten.length) hO r.kind r.failed ai (by lia) (by lia) λm ac R2 m1 m2 u2=>?_);have r2:=r.after R2;have t2:=r2.total;refine ifs (λap=>?_) (λap=>?_)
  .refine aii (wpS_lift (ajH ⟨rfl,?_⟩));have ay:m<=min ((arrOf st).size-J.flatten.length) (minRun' (arrOf st).size (arrOf st).size 0):=by
    have aI:m<minRun' (arrOf st).size (arrOf st).size 0:=ap;lia
   refine aii (yh (lo:=J.flatten.length) (n:=min ((arrOf st).size-J.flatten.length) (minRun' (arrOf st).size (arrOf st).size 0)) (ok:=m) hO R2 ai (by lia) m1 ay u2 λaz R3 u3=>?_);have r3:=r.after R3;have t3:=r3.total;have sN:=u3.sl;generalize (arrOf az).toList.drop J.flatten.length=S at r3 sN t3;have ad:∀B L,Runs κ kd _ B _ L->B.flatten.length=J.flatten.length->∃O af,((none,J.flatten.length+min _ _):Option Unit×Nat)=(none,O.flatten.length)/\Runs κ kd Z O af (setPending _ ((pendingOf _).push (J.flatten.length,min _ _,0)))/\x+1<=O.flatten.length:=λB L Y e4=>by
    have lN:(S.take (min ((arrOf st).size-J.flatten.length) (minRun' (arrOf st).size (arrOf st).size 0))).length=min ((arrOf st).size-J.flatten.length) (minRun' (arrOf st).size (arrOf st).size 0):=by rw[aif];lia
    have lf:(B++[S.take (min ((arrOf st).size-J.flatten.length) (minRun' (arrOf st).size (arrOf st).size 0))]).flatten.length=J.flatten.length+min ((arrOf st).size-J.flatten.length) (minRun' (arrOf st).size (arrOf st).size 0):=by
     rw[akw,ahZ,aka,lN,e4]
    refine⟨B++[S.take (min ((arrOf st).size-J.flatten.length) (minRun' (arrOf st).size (arrOf st).size 0))],S.drop (min ((arrOf st).size-J.flatten.length) (minRun' (arrOf st).size (arrOf st).size 0)),by rw[lf],⟨Y.kind,Y.failed,Y.perm,?_,?_,λg hg=>?_⟩,by lia⟩
    .rw[Y.arr,akw,aka,aim,aiI]
    .rw[alo,aia,Y.pend,eA,e4];simp only[ko,aly,lN]
     rfl
    .rcases aic.mp hg with hg|hg
     .exact Y.sl g hg
     .rw[ah5.mp hg];exact⟨sN,by lia⟩
   refine aii (amn ?_);cases hb:(pendingOf _).back? with
   |none=>exact aii (ak1 (aip (ad _ _ r3 rfl)))
   |some v=>
    refine aii (akf (ajd  (b:=(arrOf st).size) (I:=λy c L=>c=(none,())/\∃B,Runs κ kd _ B _ L/\B.flatten.length=J.flatten.length)  ?_ (λ_ _ h=>h) ⟨rfl,J,r3,rfl⟩) ?_)
    .rintro y c L _ hy ⟨rfl,B,Y,e4⟩;refine aii (amn ?_);have ps:=Y.psize;by_cases ae:(pendingOf L).size>1
     .obtain⟨v,hv⟩:∃v,(pendingOf L)[(pendingOf L).size-2]?=some v:=⟨_,getElem?_pos _ _ (by lia)⟩;obtain⟨q1,q2,q3⟩:=v;have em:(if (pendingOf L).size>1 then (pendingOf L)[(pendingOf L).size-2]? else none)=some (q1,q2,q3):=by rw[if_pos ae,hv]
      dsimp only;rw[em];refine ifs (λho=>aip ⟨rfl,B,Y,e4⟩) (λho=>?_);exact aii (ig (i:=(pendingOf L).size-2) hO va Y (by lia) λO as r5 l5 e5=>ifn (by simp) (aip ⟨rfl,O,r5,by lia⟩))
     .have em:(if (pendingOf _).size>1 then (pendingOf L)[(pendingOf L).size-2]? else none)=none:=if_neg ae;dsimp only;rw[em];exact aip ⟨rfl,B,Y,e4⟩
    .rintro c L ⟨rfl,B,Y,e4⟩;refine aii (ak1 (aii (ak1 (aip (ad _ _ ⟨Y.kind,Y.failed,Y.perm,Y.arr,(zL _ ?_ _ _).trans Y.pend,Y.sl⟩ e4)))));intro z
     rfl
  .have sN:=u2.sl;have r3:=r2;have t3:=t2;generalize (arrOf ac).toList.drop J.flatten.length=S at r3 sN t3;have ad:∀B L,Runs κ kd _ B _ L->B.flatten.length=J.flatten.length->∃O af,((none,J.flatten.length+m):Option Unit×Nat)=(none,O.flatten.length)/\Runs κ kd Z O af (setPending _ ((pendingOf _).push (J.flatten.length,m,0)))/\x+1<=O.flatten.length:=λB L Y e4=>by
    have lN:(S.take (m)).length=m:=by rw[aif];lia
    have lf:(B++[S.take (m)]).flatten.length=J.flatten.length+m:=by
     rw[akw,ahZ,aka,lN,e4]
    refine⟨B++[S.take (m)],S.drop (m),by rw[lf],⟨Y.kind,Y.failed,Y.perm,?_,?_,λg hg=>?_⟩,by lia⟩
    .rw[Y.arr,akw,aka,aim,aiI]
    .rw[alo,aia,Y.pend,eA,e4];simp only[ko,aly,lN]
     rfl
    .rcases aic.mp hg with hg|hg
     .exact Y.sl g hg
     .rw[ah5.mp hg];exact⟨sN,by lia⟩
   refine aii (amn ?_);cases hb:(pendingOf _).back? with
   |none=>exact aii (ak1 (aip (ad _ _ r3 rfl)))
   |some v=>
    refine aii (akf (ajd  (b:=(arrOf st).size) (I:=λy c L=>c=(none,())/\∃B,Runs κ kd _ B _ L/\B.flatten.length=J.flatten.length)  ?_ (λ_ _ h=>h) ⟨rfl,J,r3,rfl⟩) ?_)
    .rintro y c L _ hy ⟨rfl,B,Y,e4⟩;refine aii (amn ?_);have ps:=Y.psize;by_cases ae:(pendingOf L).size>1
     .obtain⟨v,hv⟩:∃v,(pendingOf L)[(pendingOf L).size-2]?=some v:=⟨_,getElem?_pos _ _ (by lia)⟩;obtain⟨q1,q2,q3⟩:=v;have em:(if (pendingOf L).size>1 then (pendingOf L)[(pendingOf L).size-2]? else none)=some (q1,q2,q3):=by rw[if_pos ae,hv]
      dsimp only;rw[em];refine ifs (λho=>aip ⟨rfl,B,Y,e4⟩) (λho=>?_);exact aii (ig (i:=(pendingOf L).size-2) hO va Y (by lia) λO as r5 l5 e5=>ifn (by simp) (aip ⟨rfl,O,r5,by lia⟩))
     .have em:(if (pendingOf _).size>1 then (pendingOf L)[(pendingOf L).size-2]? else none)=none:=if_neg ae;dsimp only;rw[em];exact aip ⟨rfl,B,Y,e4⟩
    .rintro c L ⟨rfl,B,Y,e4⟩;refine aii (ak1 (aii (ak1 (aip (ad _ _ ⟨Y.kind,Y.failed,Y.perm,Y.arr,(zL _ ?_ _ _).trans Y.pend,Y.sl⟩ e4)))));intro z
     rfl
 .rintro c an ⟨J,rest,rfl,r,ao⟩;exact⟨J,_,rfl,ab r ao⟩
 .rintro c an ⟨J,lo,rfl,r⟩;have tt:=r.total;have fg:=aa7 λg hg=>(r.sl g hg).2;refine aii (akf (ajd  (b:=(arrOf st).size) (I:=λy c ac=>c=(none,())/\∃B,Runs κ kd _ B [] ac/\(B.length+y<=Z.size\/B.length<=1)) (Q:=λc ac=>c=(none,())/\∃B,Runs κ kd Z B [] ac/\B.length<=1) ?_ ?_ ⟨rfl,J,r,.inl (by lia)⟩) ?_)
  .rintro y c ac _ hy ⟨rfl,B,r2,aT⟩;refine aii (amn ?_);have ps:=r2.psize;by_cases ae:(pendingOf ac).size<=1
   .exact ifp ae (aip ⟨rfl,B,r2,by lia⟩)
   refine ifn ae ?_;refine aii (ig hO va r2 ?_ λO as r5 l5 e5=>?_)
   .exact agn (show (pendingOf _).size-2-1+1<_ by lia) (show (pendingOf _).size-2+1<_ by lia)
   .exact ifn (by simp) (aip ⟨rfl,O,r5,.inl (by lia)⟩)
  .grind
  .rintro c ac ⟨rfl,B,r2,l2⟩;refine aip (h _ r2.perm r2.failed ?_);rw[r2.arr,aiV]
   match B,l2,r2 with
   |[],_,_=>exact List.Pairwise.nil
   |[g],_,r2=>rw[aka];exact (r2.sl g aid).1
end
end TS
namespace LL
open PySem PySem.SeqAt PySem.W PyProof.Rows
theorem aau{m n:Nat}{e f:Nat->Bool}:∀(l B:List Int) (i:Nat),(∀(j:Nat) (x y:Int),l[j]?=some x->B[j]?=some y->e (i+j)=decide (x=y))->(∀(j:Nat) (x y:Int),l[j]?=some x->B[j]?=some y->f (i+j)=decide (x<y))->(m<n↔l.length<B.length)->yf m n e f (min l.length B.length) i=decide (l<B)
 |[],[],i,_,_,h=>by
  show yf m n e f 0 i=_;unfold yf;exact ajx.mpr ⟨λz=>absurd (h.mp z) (ai8 _),λz=>absurd z (akH _)⟩
 |[],y::ys,i,_,_,h=>by
  show yf m n e f (min 0 _) i=_;rw[Nat.zero_min];unfold yf;exact ajx.mpr ⟨λ_=>amV _ _,λ_=>h.mpr (Nat.succ_pos _)⟩
 |x::xs,[],i,_,_,h=>by
  show yf m n e f (min _ 0) i=_;rw[Nat.min_zero];unfold yf;exact ajx.mpr ⟨λz=>absurd (h.mp z) (alc _),λz=>absurd z (akH _)⟩
 |x::xs,y::ys,i,he,hf,h=>by
  rw[show min (x::xs).length (y::ys).length=min xs.length ys.length+1 by simp only[aiJ];lia];unfold yf;have O:e i=decide (x=y):=he 0 x y rfl rfl;have S:f i=decide (x<y):=hf 0 x y rfl rfl;by_cases q:x=y
  .subst q;rw[O,aiv rfl,if_pos rfl,aau xs ys (i+1) (λj a b J L=>by rw[Nat.add_right_comm,amQ];exact he (j+1) a b J L) (λj a b J L=>by rw[Nat.add_right_comm,amQ];exact hf (j+1) a b J L) (by rw[h];simp only[aiJ];lia)];exact ajx.mpr (by rw[akI];exact⟨λz=>.inr ⟨rfl,z⟩,λz=>z.elim (λz=>absurd z (Int.lt_irrefl _)) (·.2)⟩)
  .rw[O,aiC q,if_neg aie,S];exact ajx.mpr (by rw[akI];exact⟨λz=>.inl z,λz=>z.elim id (λz=>absurd z.1 q)⟩)
def NumsAt(h:Heap)(v:Value)(l:List Int):Prop:=∃(b:Addr) (os:List Value),v=.ref b/\h.IsList b os.toArray/\os.length=l.length/\∀(j:Nat) z,l[j]?=some z->∃tk,os[j]?=some (.int z tk)
theorem NumsAt.one{h v l J}(a:NumsAt h v l)(b:NumsAt h v J):l=J:=by
 obtain⟨a1,L,rfl,⟨o,O,hc,n,hd⟩,hl,hx⟩:=a;obtain⟨b1,z,e,⟨o',B,S,n',Y⟩,Z,aa⟩:=b;cases e;rw[O]at B;have eo:L=z:=by
  grind
 subst eo;apply aj1;grind
theorem adh(a b c:List Int)(x:decide (a<c)=true):decide (a<b)=true\/decide (b<c)=true:=by
 grind
noncomputable abbrev jg (h:Heap):KeyKind:={α:=List Int,blt:=λa b=>decide (a<b),irrefl:=λa=>aiC (amo a),trans:=λa b c x y=>aiv (alQ (akp x) (akp y)),negTrans:=adh,total:=λa b x y=>akX (akJ.mp (ami y)) (akJ.mp (ami x)),keyOf:=λv=>@dite _ (∃l,NumsAt h v l) (Classical.propDecidable _) (λq=>some (Classical.choose q)) λ_=>none,dflt:=[] }
theorem fZ{h v l}(a:NumsAt h v l):(jg h).keyOf v=some l:=by
 have q:∃l,NumsAt h v l:=⟨l,a⟩;show @dite _ _ (Classical.propDecidable _) _ _=_;rw[dif_pos q,(ang q).one a]
theorem oH{h v}{l:List _}(e:(jg h).keyOf v=some l):NumsAt h v l:=by
 by_cases q:∃l,NumsAt h v l<;>grind
theorem oC{prog:Program}{w:World}{A:Around}{s:Shared}(hu:A.units<cLine):TS.LtAt prog w A s (jg s.heap) oneType':=by
 intro E x y a b Q hx hy q;obtain⟨p,J,rfl,hl,nl,hz⟩:=oH hx;obtain⟨p',ac,rfl,ad,S,Y⟩:=oH hy;have B:∀{l:List Int} {J:List Value},J.length=l.length->(∀(j:Nat) z,l[j]?=some z->∃tk,J[j]?=some (.int z tk))->∀j (hj:j<J.toArray.size),∃(z:Int) (tk:Tok),l[j]?=some z/\J.toArray[j]=.int z tk:=fun {l J} nl hz j hj=>by
  have ae:j<J.length:=by simpa using hj
  obtain⟨tk,e⟩:=hz j l[j] (ahU _);refine⟨l[j],tk,ahU _,?_⟩;rw[ahU ae]at e;simpa using e
 have sz:J.toArray.size=a.length:=by simp;lia
 have af:ac.toArray.size=b.length:=by simp;lia
 refine wu (e:=λj=>decide (a[j]?=b[j]?)) (f:=λj=>decide ((a[j]?).getD 0<(b[j]?).getD 0)) hl ad hu (λj h1 h2=>?_) (λj h1 h2 _=>?_) ?_
 .obtain⟨z,tk,q1,q2⟩:=B nl hz j h1;obtain⟨Z,aa,L,O⟩:=B S Y j h2;rw[q2,O];have:=SeqAt.EqAt.int_int (A:=A.in1) (s:=s) z tk Z aa;simp only[q1,L];rw[show decide (some z=some Z)=(z==Z) by
   by_cases y:z=Z<;>simp[y]]
  exact this
 .obtain⟨z,tk,q1,q2⟩:=B nl hz j h1;obtain⟨Z,aa,L,O⟩:=B S Y j h2;rw[q2,O];intro prog w E Q hq;simp only[q1,L,Option.getD_some]at hq;exact lt_int hq
 .rw[sz,af,aau a b 0 (λj x y e1 e2=>by
   rw[aly];simp only[e1,e2];exact ajx.mpr ⟨λz=>by cases z;rfl,λz=>by rw[z]⟩) (λj x y e1 e2=>by rw[aly];simp only[e1,e2,Option.getD_some]) Iff.rfl]
  exact q
section
variable {prog:Program}{w:World}{A:Around}{E:Value->Shared->Prop}{s:Shared}
theorem aba{a:Addr}{vs:List Value}{n:Nat}{R}(L:s.heap.get? a=some (seqObj "list" vs.toArray n))(h2:2<=vs.length)(hz:vs.length<=sizeLine)(hu:A.units<cLine)
 (hT:∀v∈vs,(∃b,v=.ref b/\b≠a)/\∃l,NumsAt s.heap v l)
 (h:∀(h':Heap) (O:List Value),(∀v∈vs,∀l,NumsAt s.heap v l->NumsAt h' v l)->O.Perm vs->O.Pairwise (λx y=>∀l l',NumsAt s.heap x l->NumsAt s.heap y l'->¬ l'<l)->R (.done (.ret .none)) {s with heap:=sortedHeap s.heap a vs O.toArray}):wpAny (model prog w) A (Builtin.«list.sort» ⟨[.ref a],[]⟩) R E s:=by
 have la:a<s.heap.objs.size:=ah3 L;have sv:vs.toArray.size=vs.length:=aiQ ..;obtain⟨e1,S⟩:∃e,(s.heap.update a (Obj.mapSeq λ_=>#[])).get? a=some _:=⟨_,get?_update_seq L (λ_=>#[])⟩;have Y:(((s.heap.update a (Obj.mapSeq λ_=>#[])).push (seqObj "tuple" vs.toArray 0)).push (seqObj "list" #[] 0)).get? a=some (seqObj "list" #[] e1):=by
  rw[ajI _ _ _ (by rw[size_push',alC];exact ah6 (ah9 la (ajf _))),ajI _ _ _ (by rw[alC];exact ah6 la)];exact S
 have keep:∀b o,b≠a->s.heap.get? b=some o->(((s.heap.update a (Obj.mapSeq λ_=>#[])).push (seqObj "tuple" vs.toArray 0)).push (seqObj "list" #[] 0)).get? b=some o:=λb o nb e=>by
  refine ahX _ (ahX _ ?_);rw[akZ _ _ _ _ nb];exact e
 have Z:∀v∈vs,∀l,NumsAt s.heap v l->NumsAt _ v l:=λv hv l q=>by
  obtain⟨⟨b,rfl,nb⟩,_⟩:=hT v hv;obtain⟨b',os,e,⟨o,L,hc,n,hd⟩,x1,x2⟩:=q;cases e;exact⟨b,os,rfl,⟨o,keep _ _ nb L,hc,n,hd⟩,x1,x2⟩
 rw[list_sort_plain];refine ahV (alx L rfl (ahV (alf L rfl ?_ (by rw[sv];exact hz) (ail _))));refine ahV (alZ S rfl (ahV (alu (ahV (akt (aix ?_) (ail _))) (by exact hz))));have nb:¬ vs.toArray.size<2:=by rw[sv];lia
 dsimp only;rw[if_neg nb,if_neg nb];refine ahV (kas_kind h2 (T:=.type "list") (λv hv=>?_) (by decide +kernel) (by decide +kernel) ?_)
 .obtain⟨⟨b,rfl,nb⟩,l,b',os,e,⟨o,L,hc,_⟩,_⟩:=hT v hv;cases e;exact kitAt_ty _ _ ⟨o,keep _ _ nb L,hc⟩
 generalize hs1:(((s.heap.update a _).push _).push _)=h1 at *;have J:∀p∈(pairsOf vs).toList,p.1=p.2/\p.2∈vs:=λp hp=>by
  unfold pairsOf at hp;rw[alD]at hp;have e:p.1=p.2:=by
   obtain⟨i,hi,rfl⟩:=ajJ hp;rw[List.getElem_zip]
  exact⟨e,(akE (a:=p.1) (b:=p.2) hp).2⟩
 have go:wpAny (model prog w) A (sortRuns'.run (SortSt.mk' oneType' (vs.toArray.zip vs.toArray) #[] 7 none))
  _ E _:=
  TS.wpS_sortAll (κ:=jg h1) (oC (s:={s with heap:=h1}) hu)  (Q:=λ_ B=>(arrOf B).Perm (pairsOf vs)/\failedOf B=none/\TS.SL (jg h1) (arrOf B).toList) (λp hp=>by
   obtain⟨e,m⟩:=J p hp;obtain⟨_,l,q⟩:=hT _ m;exact⟨l,by rw[e];exact fZ (Z _ m l q)⟩) rfl rfl (ane _) rfl λB b1 b2 b3=>⟨b1,b2,b3⟩
 refine ahV (aiu go ?_ λ_ _ e=>e);rintro⟨⟨⟩,B⟩ s' ⟨rfl,b1,b2,b3⟩;have sz:=b1.size_eq.trans (pairsOf_size _);refine ahV (alZ Y rfl (ahV (alf Y rfl ?_ (ail _) (by rw[Array.size_map,sz];lia))));dsimp only;rw[b2];simp only[aj0,ajl,ak4];have pm:=ajs.mp b1;have e2:((pairsOf vs).toList.map (·.2))=vs:=by
  unfold pairsOf;rw[alD];exact List.map_snd_zip (by simp)
 have:=h h1 (((arrOf B).map (·.2)).toList) Z (by
  rw[alE];exact e2▸pm.map (·.2)) (by
  rw[alE,aj2];refine ajR (fun {p q} hp hq z l l' n1 n2=>?_) b3;obtain⟨x1,y1⟩:=J p (pm.mem_iff.mp hp);obtain⟨x2,y2⟩:=J q (pm.mem_iff.mp hq);have z:(jg h1).blt (TS.kk _ q) (TS.kk _ p)=false:=z;unfold TS.kk at z;rw[x1,x2,fZ (Z _ y1 _ n1),fZ (Z _ y2 _ n2)]at z;exact ami z)
 subst hs1;exact ah0 this
theorem sorted_nums{l vs Q}(hl:s.heap.IsList l vs.toArray)(O:vs.length<=sizeLine)(hu:A.units+2<cLine)
 (hT:∀v∈vs,∃l,NumsAt s.heap v l)
 (h:∀B:List _,B.Perm vs->B.Pairwise (λx y=>∀l L,NumsAt s.heap x l->NumsAt s.heap y L->¬ L<l)->Q (.ref (s.heap.objs.size+1)) {s with heap:=sortedAll s.heap vs B.toArray}):wpAny (model prog w) A (call (.builtin "sorted") [.ref l]) Q E s:=by
 by_cases h2:2<=vs.length
 .refine ajM amM ame amf (amg _) ?_;have S:((s.heap.push (seqObj "list" #[] 0)).update s.heap.objs.size (Obj.mapSeq (·++vs.toArray))).objs.size=s.heap.objs.size+1:=by
   simp_all
  have g1:(((s.heap.push (seqObj "list" #[] 0)).update s.heap.objs.size (Obj.mapSeq (·++vs.toArray))).push (seqObj "list" vs.toArray 0)).get? (s.heap.objs.size+1)=some (seqObj "list" vs.toArray 0):=by
   rw[←S];exact aib _ rfl
  have keep:∀b o,s.heap.get? b=some o->(((s.heap.push _).update _ _).push (seqObj "list" vs.toArray 0)).get? b=some o:=λb o q=>by
   have J:=ah3 q;rw[ajI _ _ _ (by rw[S];exact ah6 (aiB J)),akZ _ _ _ _ (ah6 J),ajI _ _ _ (ah6 J)];exact q
  have Y:∀v l,NumsAt _ v l->NumsAt _ v l:=λv l ⟨b,os,e,⟨o,Z,x⟩,y⟩=>⟨b,os,e,⟨o,keep _ _ Z,x⟩,y⟩;refine ahV  (ah0 (ahV (collect_list hl (ahV (akt ?_ O)) O)));rw[S];refine ahV (aix (ajh alr ⟨_,g1,rfl⟩ ald (aba g1 h2 O (hu) (λv hv=>?_) (λ_ B _ p1 p2=>⟨_,rfl,ah0 ⟨_,rfl,h _ p1 (p2.imp fun {x y} z l L a b=>z l L (Y _ _ a) (Y _ _ b))⟩⟩)) (als _)));obtain⟨L,q⟩:=hT v hv;have q0:=q
  let ⟨b,os,e,⟨o,Z,_⟩,_⟩:=q
  exact⟨⟨b,e,ah6 (aiB (ah3 Z))⟩,L,Y _ _ q0⟩
 .refine qK hl (by lia) (h vs (.refl _) ?_)
  match vs,h2 with
  |[],_=>exact .nil
  |[v],_=>exact amR _ _
  |_::_::_,h2=>simp_all
end
end LL
namespace L2
open PySem PySem.Spec PyProof.Rows
def numsOf(H:Hp):V->List Int
 |.ref a=>match H a with
  |some (.lst xs)=>xs.map λx=>match x with | .int z=>z|_=>0
  |_=>[]
 |_=>[]
theorem numsOf_at{H a z}(e:H a=some (.lst (z.map V.int))):numsOf H (.ref a)=z:=by
 unfold numsOf;dsimp only;rw[e];show (z.map _).map _=z;rw[aiG];exact amS _
theorem Vals.perm':∀{J z} {vs},J.Perm z->Vals vs J->∃B,B.Perm vs/\Vals B z:=by
 intro J z vs p
 induction p generalizing vs with
 |nil=>exact λr=>⟨vs,.refl _,r⟩
 |cons x _ L=>
  rintro (_|⟨r,t⟩);obtain⟨B,a,b⟩:=L t;exact⟨_,a.cons _,.cons r b⟩
 |swap x y l=>
  rintro (_|⟨r,_|⟨q,t⟩⟩);exact⟨_,.swap ..,.cons q (.cons r t)⟩
 |trans _ _ O S=>
  intro r;obtain⟨v1,Y,Z⟩:=O r;obtain⟨v2,a2,b2⟩:=S Z;exact⟨v2,a2.trans Y,b2⟩
section
variable {X:Cx}
theorem rG:gn X (.builtin "sorted") (λxs H Q=>∃p vs,xs=[.ref p]/\SqL X.K H p vs/\vs.length<=sizeLine/\X.A.units+4<cLine/\(∀v∈vs,∃(a:Addr) (ns:List _),v=.ref a/\H a=some (.lst (ns.map V.int)))/\∀l B,H l=none->B.Perm vs->(B.map (numsOf H)).Pairwise (λa b=>¬ b<a)->Q (.ref l) (upd H l (.lst B))):=by
 intro pins s σ H xs us Q I r h;obtain⟨p,vs,rfl,hq,al,L,Z,q⟩:=h;obtain⟨u,rfl,rx⟩:=jK r;cases rx;obtain⟨its,O,pl,hz⟩:=I.list hq;have nl:=O.length;have J:∀{v u},RelV v u->v∈vs->LL.NumsAt _ u (numsOf H v):=fun {v u} O hv=>by
  obtain⟨a,ns,rfl,ha⟩:=Z v hv;cases O;rw[numsOf_at ha];obtain⟨os,ro,po,_⟩:=I.list (aAA ha);have S:=ro.length;rw[ahY]at S;refine⟨a,os,rfl,po.isList,S.symm,λj z e=>?_⟩;obtain⟨u,L,tk,rfl⟩:=ro.get   (by rw[ah1,e];rfl);exact⟨tk,L⟩
 refine LL.sorted_nums pl.isList (by lia) (by lia) (λv hv=>?_) λB p1 p2=>?_
 .obtain⟨i,hi,ei⟩:=ajJ hv;obtain⟨u,L,ru⟩:=O.get (ahU (show i<vs.length by lia));rw[ahU hi,ei]at L;cases L;exact⟨_,J ru (aiq _)⟩
 obtain⟨e,he⟩:=sortedAll_at ..;obtain⟨ws,Y,w2⟩:=Vals.perm' p1.symm O;have wl:=Y.length_eq;refine⟨.ref _,_,I.laid  (o:=.lst ws) (λb o=>sortedAll_old) (ajf _) ⟨by lia,B,e,w2,by simpa using he⟩,rfl,q _ ws (I.hok.fresh (ajf _)) Y ?_⟩;rw[aiL];intro i j hi hj ac;rw[ahY]at hi hj;obtain⟨u1,g1,r1⟩:=w2.get (ahU hi);obtain⟨u2,g2,r2⟩:=w2.get (ahU hj);obtain⟨k1,g1⟩:=ahW.mp g1;obtain⟨k2,g2⟩:=ahW.mp g2;rw[alF,alF];have:=aiL.mp p2 i j k1 k2 ac;rw[g1,g2]at this;exact this _ _ (J r1 (Y.mem_iff.mp (aiq _))) (J r2 (Y.mem_iff.mp (aiq _)))
end
end L2
namespace LL
open PySem PySem.SeqAt PySem.W PyProof.Rows
theorem lj{h}:∀os (l:List _),os.length=l.length->(∀(j:Nat) z,l[j]?=some z->∃tk,os[j]?=some (.int z tk))->ReadsAll h os (l.map PyData.int) []
 |[],[],_,_=>.nil
 |[],_::_,e,_=>absurd e (by simp)
 |_::_,[],e,_=>absurd e (by simp)
 |o::os,z::l,e,hx=>by
  obtain⟨tk,B⟩:=hx 0 z rfl;cases B;exact .cons   (.int z tk) (lj os l (by simpa using e) λj=>hx (j+1))
theorem NumsAt.reads{h v l}(a:NumsAt h v l):∃z,Reads h v (.list (l.map PyData.int)) z:=by
 obtain⟨b,B,rfl,⟨o,J,L,n,O⟩,nl,S⟩:=a;exact⟨_,.list J L O (lj B l nl S)⟩
def lexP(a b:List Int×Str):Bool:=if a.1=b.1 then decide (a.2.cps.toList<b.2.cps.toList) else decide (a.1<b.1)
def PairAt(h:Heap)(v:Value)(p:List Int×Str):Prop:=∃(b:Addr) (x:Value) (tk:Tok),v=.ref b/\h.IsTuple b #[x,.str p.2 tk]/\NumsAt h x p.1
theorem PairAt.one{h v p q}(a:PairAt h v p)(b:PairAt h v q):p=q:=by
 obtain⟨b1,x,tk,rfl,⟨o,S,hc,n,Y⟩,Z⟩:=a;obtain⟨b2,x',aa,e,⟨o',z,ab,n',B⟩,J⟩:=b;cases e;rw[S]at z;cases z;rw[Y]at B;injection B with e1 e2
 have O:=aiO Array.toList e1;simp only[akq,and_true]at O;obtain⟨e4,L⟩:=O;injection L with L _
 subst e4;exact Prod.ext (Z.one J) L
theorem acy a:lexP a a=false:=by
 unfold lexP;simp_all
theorem lexP_lt{a b:List Int×Str}:lexP a b=true↔a.1<b.1\/a.1=b.1/\a.2.cps.toList<b.2.cps.toList:=by
 unfold lexP;split
 .rename_i e;rw[akh,e];exact⟨λh=>.inr ⟨rfl,h⟩,λh=>h.elim (λz=>absurd z (amo _)) (·.2)⟩
 .rename_i e;rw[akh];exact⟨.inl,λh=>h.elim id λz=>absurd z.1 e⟩
theorem yU a b c (x:lexP a b=true)(y:lexP b c=true):lexP a c=true:=by
 rw[lexP_lt]at x y⊢;rcases x with x|⟨x,x'⟩<;>rcases y with y|⟨y,y'⟩
 .exact .inl (alQ x y)
 .simp_all
 .simp_all
 .exact .inr ⟨x.trans y,alQ x' y'⟩
theorem ab3 a b c (x:lexP a c=true):lexP a b=true\/lexP b c=true:=by
 rw[lexP_lt,lexP_lt];rw[lexP_lt]at x;by_cases h1:a.1<b.1
 .simp_all
 by_cases h2:b.1<a.1
 .refine .inr (.inl ?_);rcases x with x|⟨x,_⟩
  .exact alQ h2 x
  simp_all
 have e:=akX (akJ.mp h2) (akJ.mp h1);rcases x with x|⟨x,x'⟩
 .simp_all
 .by_cases q:a.2.cps.toList<b.2.cps.toList
  .exact .inl (.inr ⟨e,q⟩)
  .exact .inr (.inr ⟨e▸x,List.lt_of_le_of_lt (akJ.mp q) x'⟩)
theorem lexP_tot a b (x:lexP a b=false)(y:lexP b a=false):a=b:=by
 have x:¬ lexP a b=true:=by simp_all
 have y:¬ lexP b a=true:=by simp_all
 rw[lexP_lt]at x y;have e:=akX (akJ.mp λh=>y (.inl h)) (akJ.mp λh=>x (.inl h));have z:=akX (akJ.mp λh=>y (.inr ⟨e.symm,h⟩)) (akJ.mp λh=>x (.inr ⟨e,h⟩));refine Prod.ext e ?_;cases ha:a.2<;>simp_all
noncomputable abbrev jx (h:Heap):KeyKind:={α:=List Int×Str,blt:=lexP,irrefl:=acy,trans:=yU,negTrans:=ab3,total:=lexP_tot,keyOf:=λv=>@dite _ (∃l,PairAt h v l) (Classical.propDecidable _) (λq=>some (Classical.choose q)) λ_=>none,dflt:=([],"") }
theorem jW{h v l}(a:PairAt h v l):(jx h).keyOf v=some l:=by
 have q:∃l,PairAt h v l:=⟨l,a⟩;show @dite _ _ (Classical.propDecidable _) _ _=_;rw[dif_pos q,(ang q).one a]
theorem n9{h v}{l:List _×Str}(e:(jx h).keyOf v=some l):PairAt h v l:=by
 by_cases q:∃l,PairAt h v l<;>grind
theorem acI b x y:keyLt' (tuples' b) x y=(do
 let xs ←Builtin.List.listItems x;let ys ←Builtin.List.listItems y
 for ((p,q),i) in (xs.toList.zip ys.toList).zipIdx do
  if !(←eqBool p q) then return ←oneLt' (b&&i==0) p q
 return xs.size<ys.size):=rfl
theorem wc{prog:Program}{w:World}{A:Around}{s:Shared}(hu:A.units+1<cLine):TS.LtAt prog w A s (jx s.heap) (tuples' true):=by
 intro E x y a b Q hx hy q;obtain⟨p,u,tk,rfl,⟨o,ho,hc,n,hd⟩,nu⟩:=n9 hx;obtain⟨p',u',ah,rfl,⟨o',O,ai,n',S⟩,B⟩:=n9 hy;refine ahV (alx ho hd (ahV (alx O S ?_)));obtain⟨as,ra⟩:=nu.reads;obtain⟨bs,rb⟩:=B.reads;have J:∀l:List _,PyData.canLayAll0 (l.map PyData.int)=true:=λl=>by
  induction l with
  |nil=>rfl
  |cons z l L=>exact L
 have Y:∀l:List _,PyData.depthAll (l.map PyData.int)=0:=λl=>by
  induction l with
  |nil=>rfl
  |cons z l L=>rw[air];simp only[PyData.depthAll,PyData.depth,L];rfl
 have Z:∀l m:List _,PyData.eqvAll (l.map PyData.int) (m.map PyData.int)=decide (l=m):=λl=>by
  induction l with
  |nil=>intro m;cases m<;>simp[PyData.eqvAll]
  |cons z l L=>intro m;cases m with
   |nil=>simp[PyData.eqvAll]
   |cons y m=>
    simp only[air,PyData.eqvAll,PyData.eqv,L,akq];grind
 refine ahV (ahV (ahV (eqAt_reads _ _ A s u u' as bs ra rb (by simp only[PyData.canLay0,J]) (by simp only[PyData.canLay0,J]) ?_ _ w _ _ ?_)))
 .have d:(PyData.list (a.1.map PyData.int)).depth<=1:=by simp only[PyData.depth,Y];decide
  exact aiA (ajn (aij (Nat.min_le_left _ _) d) _) hu
 simp only[PyData.eqv,Z];by_cases e:a.1=b.1
 .have q:=by
   have q:Q (lexP a b) s:=q;unfold lexP at q;rwa [if_pos e]at q
  rw[aiv e];refine ah0 (ahV (ahV (SeqAt.EqAt.str_str _ tk _ _ _ w _ _ ?_)));by_cases e2:a.2=b.2
  .rw[show (a.2==b.2)=true by simp_all];refine ah0 (ah0 (ah0 ?_));rw[e2,aiC (amo _)]at q;exact q
  .rw[show (a.2==b.2)=false by simp_all];exact ahV (ahV (lt_str (ajj (ah0 (ah0 (ah0 q))))))
 .have q:Q (decide (a.1<b.1)) s:=by
   have q:Q (lexP a b) s:=q;unfold lexP at q;simp_all
  rw[aiC e];exact ahV (oC (Nat.lt_of_succ_lt hu) _ u u' _ _ (fZ nu) (fZ B) (ah0 (ah0 (ah0 q))))
def aeL(a:Addr)(h:Heap)(v:Value)(l:List Int×Str):Prop:=∃(b:Addr) (x:Value) (tk:Tok) (c:Addr),v=.ref b/\b≠a/\x=.ref c/\c≠a/\h.IsTuple b #[x,.str l.2 tk]/\NumsAt h x l.1
section
variable {prog:Program}{w:World}{A:Around}{E:Value->Shared->Prop}{s:Shared}
theorem wV{M}{α B:Type}{f}{g:α->B}:∀(l:List α) {Q},(∀v∈l,∀z,z (g v) s->wpAny M A (f v) z E s)->Q (l.map g) s->wpAny M A (l.mapM f) Q E s
 |[],_,_,h=>ah0 h
 |x::l,Q,hf,h=>by
  rw[List.mapM_cons];exact ahV (hf x (.head _) _ (ahV (wV l  (λv J=>hf v (.tail _ J)) (ah0 h))))
def si(h:Heap):Value->Value
 |.ref b=>match h.get? b with
  |some o=>match o.data with
   |.seq xs _=>xs[0]?.getD .none
   |_=>.none
  |none=>.none
 |_=>.none
theorem aa5{M}{vs:List Value}{Q}(h2:2<=vs.length)(hT:∀v∈vs,∃l,PairAt s.heap v l)(h:Q (tuples' true) s):wpAny M A (keyKind' vs.toArray) Q E s:=by
 rw[keyKind'_eq,List.mapM_toArray];refine ahV (ahV (wV (g:=λv=>some (si s.heap v)) _ (λv L Q' hq=>?_) (ah0 ?_)))
 .obtain⟨l,b,x,tk,rfl,⟨o,B,hc,n,O⟩,_⟩:=hT v L;refine ahV ((kitAt_ty  M s.heap ⟨o,B,hc⟩).here (ahV (alx B O (ah0 ?_))));have:si s.heap (.ref b)=x:=by
   unfold si;simp_all
  simp_all
 .rw[if_pos (by simp)];refine ahV (ajH ?_);rw[oneTypeOnly'_eq];have e1:Array.filterMap id (List.map (λv=>some (si s.heap v)) vs).toArray=(vs.map (si s.heap)).toArray:=by simp
  rw[e1,List.mapM_toArray,map_eq_pure_bind];refine ahV (ahV (ahV (wV (g:=λ_=>Value.type "list") _ (λv L Q' hq=>?_) (ah0 ?_))))
  .obtain⟨v',S,rfl⟩:=ah8.mp L;obtain⟨l,b,x,tk,rfl,⟨o,B,hc,n,O⟩,⟨c,os,e2,⟨o2,Y,Z,_⟩,_⟩⟩:=hT v' S;have:si s.heap (.ref b)=x:=by
    unfold si;simp only[B,O]
    rfl
   rw[this,e2];exact (kitAt_ty  M s.heap ⟨o2,Y,Z⟩).here hq
  .obtain⟨J,rest,rfl⟩:∃J rest,vs=J::rest:=by
    cases vs<;>simp_all
   have z:((List.map (λ_=>Value.type "list") (List.map (si s.heap) (J::rest))).toArray.all λx=>x==Value.type "list")=true:=by
    simp_all
   have h0:(List.map (λ_=>Value.type "list") (List.map (si s.heap) (J::rest))).toArray[0]?=some (Value.type "list"):=by simp
   rw[h0];simp only[z,anE];exact ah0 (ah0 h)
theorem yQ{a:Addr}{vs:List Value}{n:Nat}{R}(O:s.heap.get? a=some (seqObj "list" vs.toArray n))(h2:2<=vs.length)(hz:vs.length<=sizeLine)(hu:A.units+1<cLine)
 (hT:∀v∈vs,(∃l,PairAt s.heap v l)/\∀l,PairAt s.heap v l->aeL a s.heap v l)
 (h:∀(h':Heap) (L:List Value),(∀v∈vs,∀l,PairAt s.heap v l->PairAt h' v l)->L.Perm vs->L.Pairwise (λx y=>∀l l',PairAt s.heap x l->PairAt s.heap y l'->lexP l' l=false)->R (.done (.ret .none)) {s with heap:=sortedHeap s.heap a vs L.toArray}):wpAny (model prog w) A (Builtin.«list.sort» ⟨[.ref a],[]⟩) R E s:=by
 have la:a<s.heap.objs.size:=ah3 O;have sv:vs.toArray.size=vs.length:=aiQ ..;obtain⟨e1,S⟩:∃e,(s.heap.update a (Obj.mapSeq λ_=>#[])).get? a=some _:=⟨_,get?_update_seq O (λ_=>#[])⟩;have Y:(((s.heap.update a (Obj.mapSeq λ_=>#[])).push (seqObj "tuple" vs.toArray 0)).push (seqObj "list" #[] 0)).get? a=some (seqObj "list" #[] e1):=by
  rw[ajI _ _ _ (by rw[size_push',alC];exact ah6 (ah9 la (ajf _))),ajI _ _ _ (by rw[alC];exact ah6 la)];exact S
 have keep:∀b o,b≠a->s.heap.get? b=some o->(((s.heap.update a (Obj.mapSeq λ_=>#[])).push (seqObj "tuple" vs.toArray 0)).push (seqObj "list" #[] 0)).get? b=some o:=λb o nb e=>by
  refine ahX _ (ahX _ ?_);rw[akZ _ _ _ _ nb];exact e
 have Z:∀v∈vs,∀l,PairAt s.heap v l->PairAt _ v l:=λv hv l q=>by
  obtain⟨b,x,tk,c,rfl,nb,rfl,nc,⟨o,O,hc,n,hd⟩,⟨c',os,e,⟨o2,ae,x1⟩,x2⟩⟩:=(hT v hv).2 l q;cases e;exact⟨b,.ref c,tk,rfl,⟨o,keep _ _ nb O,hc,n,hd⟩,⟨c,os,rfl,⟨o2,keep _ _ nc ae,x1⟩,x2⟩⟩
 rw[list_sort_plain];refine ahV (alx O rfl (ahV (alf O rfl ?_ (by rw[sv];exact hz) (ail _))));refine ahV (alZ S rfl (ahV (alu (ahV (akt (aix ?_) (ail _))) (by exact hz))));have nb:¬ vs.toArray.size<2:=by rw[sv];lia
 dsimp only;rw[if_neg nb,if_neg nb];refine ahV (aa5 h2 (λv hv=>?_) ?_)
 .obtain⟨l,q⟩:=(hT v hv).1;exact⟨l,Z v hv l q⟩
 generalize hs1:(((s.heap.update a _).push (seqObj "tuple" vs.toArray 0)).push (seqObj "list" #[] 0))=h1 at *;have J:∀p∈(pairsOf vs).toList,p.1=p.2/\p.2∈vs:=λp hp=>by
  unfold pairsOf at hp;rw[alD]at hp;have e:p.1=p.2:=by
   obtain⟨i,hi,rfl⟩:=ajJ hp;rw[List.getElem_zip]
  exact⟨e,(akE (a:=p.1) (b:=p.2) hp).2⟩
 have go:wpAny (model prog w) A (sortRuns'.run (SortSt.mk' (tuples' true) (vs.toArray.zip vs.toArray) #[] 7 none))
  _ E _:=
  TS.wpS_sortAll (κ:=jx h1) (wc (s:={s with heap:=h1}) hu)  (Q:=λ_ B=>(arrOf B).Perm (pairsOf vs)/\failedOf B=none/\TS.SL (jx h1) (arrOf B).toList) (λp hp=>by
   obtain⟨e,m⟩:=J p hp;obtain⟨l,q⟩:=(hT _ m).1;exact⟨l,by rw[e];exact jW (Z _ m l q)⟩) rfl rfl (ane _) rfl λB b1 b2 b3=>⟨b1,b2,b3⟩
 refine ahV (aiu go ?_ λ_ _ e=>e);rintro⟨⟨⟩,B⟩ s' ⟨rfl,b1,b2,b3⟩;have sz:=b1.size_eq.trans (pairsOf_size _);refine ahV (alZ Y rfl (ahV (alf Y rfl ?_ (ail _) (by rw[Array.size_map,sz];lia))));dsimp only;rw[b2];simp only[aj0,ajl,ak4];have pm:=ajs.mp b1;have e2:((pairsOf vs).toList.map (·.2))=vs:=by
  unfold pairsOf;rw[alD];exact List.map_snd_zip (by simp)
 have:=h h1 (((arrOf B).map (·.2)).toList) Z (by
  rw[alE];exact e2▸pm.map (·.2)) (by
  rw[alE,aj2];refine ajR (fun {p q} hp hq z l l' n1 n2=>?_) b3;obtain⟨x1,y1⟩:=J p (pm.mem_iff.mp hp);obtain⟨x2,y2⟩:=J q (pm.mem_iff.mp hq);have z:(jx h1).blt (TS.kk _ q) (TS.kk _ p)=false:=z;unfold TS.kk at z;rw[x1,x2,jW (Z _ y1 _ n1),jW (Z _ y2 _ n2)]at z;exact z)
 subst hs1;exact ah0 this
theorem sorted_pairs{l vs Q}(hl:s.heap.IsList l vs.toArray)(hz:vs.length<=sizeLine)(hu:A.units+3<cLine)
 (hT:∀v∈vs,∃l,PairAt s.heap v l)
 (h:∀B:List _,B.Perm vs->B.Pairwise (λx y=>∀l O,PairAt s.heap x l->PairAt s.heap y O->lexP O l=false)->Q (.ref (s.heap.objs.size+1)) {s with heap:=sortedAll s.heap vs B.toArray}):wpAny (model prog w) A (call (.builtin "sorted") [.ref l]) Q E s:=by
 by_cases h2:2<=vs.length
 .refine ajM amM ame amf (amg _) ?_;have s1:((s.heap.push (seqObj "list" #[] 0)).update s.heap.objs.size (Obj.mapSeq (·++vs.toArray))).objs.size=s.heap.objs.size+1:=by
   simp_all
  have g1:(((s.heap.push (seqObj "list" #[] 0)).update s.heap.objs.size (Obj.mapSeq (·++vs.toArray))).push (seqObj "list" vs.toArray 0)).get? (s.heap.objs.size+1)=some (seqObj "list" vs.toArray 0):=by
   rw[←s1];exact aib _ rfl
  have keep:∀b o,s.heap.get? b=some o->(((s.heap.push _).update _ _).push (seqObj "list" vs.toArray 0)).get? b=some o:=λb o q=>by
   have L:=ah3 q;rw[ajI _ _ _ (by rw[s1];exact ah6 (aiB L)),akZ _ _ _ _ (ah6 L),ajI _ _ _ (ah6 L)];exact q
  have S:∀v l,PairAt _ v l->PairAt _ v l:=λv l ⟨b,x,tk,e,⟨o,Y,y⟩,⟨c,os,Z,⟨o2,J,y2⟩,z⟩⟩=>⟨b,x,tk,e,⟨o,keep _ _ Y,y⟩,⟨c,os,Z,⟨o2,keep _ _ J,y2⟩,z⟩⟩;refine ahV  (ah0 (ahV (collect_list hl (ahV (akt ?_ hz)) hz)));rw[s1];refine ahV (aix (ajh alr ⟨_,g1,rfl⟩ ald (yQ g1 h2 hz (hu) (λv hv=>?_) (λ_ B _ p1 p2=>⟨_,rfl,ah0 ⟨_,rfl,h B p1 (p2.imp fun {x y} z l O a b=>z l O (S _ _ a) (S _ _ b))⟩⟩)) (als _)));obtain⟨O,q⟩:=hT v hv;refine⟨⟨O,S _ _ q⟩,λl2 q2=>?_⟩;have e:=(S _ _ q).one q2;subst e
  let ⟨b,x,tk,e,⟨o,Y,y⟩,⟨c,os,Z,⟨o2,J,y2⟩,z⟩⟩:=q
  exact⟨b,x,tk,c,e,ah6 (aiB (ah3 Y)),Z,ah6 (aiB (ah3 J)),⟨o,keep _ _ Y,y⟩,⟨c,os,Z,⟨o2,keep _ _ J,y2⟩,z⟩⟩
 .refine qK hl (by lia) (h vs (.refl _) ?_)
  match vs,h2 with
  |[],_=>exact .nil
  |[v],_=>exact amR _ _
  |_::_::_,h2=>simp_all
end
end LL
namespace L2
open PySem PySem.Spec PyProof.Rows
def mC(H:Hp):V->List Int×Str
 |.ref T=>match H T with
  |some (.tup [a,.str k])=>(numsOf H a,k)
  |_=>([],"")
 |_=>([],"")
theorem om{H T a z k}(e:H T=some (.tup [.ref a,.str k]))(B:H a=some (.lst (z.map V.int))):mC H (.ref T)=(z,k):=by
 unfold mC;simp only[e];rw[numsOf_at B]
section
variable {X:Cx}
theorem kH:gn X (.builtin "sorted") (λxs H Q=>∃p vs,xs=[.ref p]/\SqL X.K H p vs/\vs.length<=sizeLine/\X.A.units+5<cLine/\(∀v∈vs,∃(T a:Addr) (ns:List _) (k:Str),v=.ref T/\H T=some (.tup [.ref a,.str k])/\H a=some (.lst (ns.map V.int)))/\∀l B,H l=none->B.Perm vs->(B.map (mC H)).Pairwise (λa b=>LL.lexP b a=false)->Q (.ref l) (upd H l (.lst B))):=by
 intro pins s σ H xs us Q I r h;obtain⟨p,vs,rfl,hq,ao,L,Z,q⟩:=h;obtain⟨u,rfl,rx⟩:=jK r;cases rx;obtain⟨its,O,pl,hz⟩:=I.list hq;have nl:=O.length;have J:∀{v u},RelV v u->v∈vs->LL.PairAt _ u (mC H v):=fun {v u} O hv=>by
  obtain⟨T,a,ns,k,rfl,hT,ha⟩:=Z v hv;cases O;rw[om hT ha];obtain⟨os,ro,po,_⟩:=I.list (aAA ha);have S:=ro.length;rw[ahY]at S;obtain⟨ts,rt,pt,_⟩:=I.tuple (aAB hT);cases rt with
  |cons r1 r2=>
  cases r2 with
  |cons r3 r4=>
  cases r4;cases r1;obtain⟨tk,rfl⟩:=r3;exact⟨T,.ref a,tk,rfl,pt,a,os,rfl,po.isList,S.symm,λj z e=>by
   obtain⟨u,L,tk,rfl⟩:=ro.get   (by rw[ah1,e];rfl);exact⟨tk,L⟩⟩
 refine LL.sorted_pairs pl.isList (by lia) (by lia) (λv hv=>?_) λB p1 p2=>?_
 .obtain⟨i,hi,ei⟩:=ajJ hv;obtain⟨u,L,ru⟩:=O.get (ahU (show i<vs.length by lia));rw[ahU hi,ei]at L;cases L;exact⟨_,J ru (aiq _)⟩
 obtain⟨e,he⟩:=sortedAll_at ..;obtain⟨ws,Y,w2⟩:=Vals.perm' p1.symm O;have wl:=Y.length_eq;refine⟨.ref _,_,I.laid  (o:=.lst ws) (λb o=>sortedAll_old) (ajf _) ⟨by lia,B,e,w2,by simpa using he⟩,rfl,q _ ws (I.hok.fresh (ajf _)) Y ?_⟩;rw[aiL];intro i j hi hj ae;rw[ahY]at hi hj;obtain⟨u1,g1,r1⟩:=w2.get (ahU hi);obtain⟨u2,g2,r2⟩:=w2.get (ahU hj);obtain⟨k1,g1⟩:=ahW.mp g1;obtain⟨k2,g2⟩:=ahW.mp g2;rw[alF,alF];have:=aiL.mp p2 i j k1 k2 ae;rw[g1,g2]at this;exact this _ _ (J r1 (Y.mem_iff.mp (aiq _))) (J r2 (Y.mem_iff.mp (aiq _)))
end
end L2
namespace L2
open PySem PySem.Spec PySem.Calls PyProof.Rows PySem.W
theorem qD{P w}:∀{acc} {kvs:List (Key×Value)} {ss:List _},kvs.map (·.1)=ss.map Sum.inr->acc.length=kvs.length->(∀(j:Nat) v,acc[j]?=some v->∃k x,kvs[j]?=some (k,x)/\(bj P w).is k v=true)->StrsAre acc ss
 |[],[],[],_,_,_=>.nil
 |[],[],_::_,h,_,_=>by simp at h
 |_::_,[],_,_,h,_=>by simp at h
 |[],_::_,_,_,h,_=>by simp at h
 |_::_,_::_,[],h,_,_=>by simp at h
 |v::acc,(k,x)::kvs,s::ss,h,hl,hp=>by
  injection h with h1 h2
  obtain⟨J,L,e,B⟩:=hp 0 v rfl;cases e;have z:=h1;subst z;have:=qD   h2 (by simpa using hl) λj=>hp (j+1);obtain⟨t,rfl⟩:∃t,v=.str s t:=nG B;exact .cons _ t this
section
variable {prog:Program}{w:World}{A:Around}{E:Value->Shared->Prop}{s:Shared}{a:Addr}
theorem uW{R kvs}{ep:Nat}(hh:A.handled=none)(lo:(a==sysModules)=false)(x:s.heap.DictAt (bj prog w) a kvs ep)(hn:kvs.length<=sizeLine)
 (h:∀(h':Heap) (tk:Nat) (O:Array Value),(∀b o,s.heap.get? b=some o->h'.get? b=some o)->s.heap.objs.size<=h'.objs.size->ItemsOf (λi v=>∃k x,kvs[i]?=some (k,x)/\(bj prog w).is k v=true) O kvs.length->R O.toList {s with heap:=h',toks:=tk}):
 wpAny (model prog w) A (collect (.ref a)) R E s:=by
 have S:=x.lt_size;refine ahV (wpAny_runValue (ajp entry_proto_collect' (ahV (ajc (ah0 ⟨ake amL _,ajp entry_list_iadd' ?_⟩)))));have L:(s.heap.push _).get? _=some {cls:=.type "list",data:=.seq #[] }:=aib _ rfl;have Z:=kdl_extend  (s:={s with heap:=s.heap.push _})
  (R:=λq s'=>∃h' tk z c',q=.ok _/\s'={s with heap:=h',toks:=tk} ∧
   (∀b o,s.heap.get? b=some o->h'.get? b=some o)/\h'.get? _=some {cls:=.type _,dict:=none,data:=.seq z c',slots:=#[] }/\ItemsOf _ z _)
  (kdl_dict    lo) hh (x.at' λo=>ahX _) _ (aiX S) (aiX S) (.ref s.heap.objs.size) 0 L
  (λh' tk z c' Y J B=>⟨h',tk,z,c',rfl,rfl,λb o e=>Y b o (ah6 (ah3 e)) (ahX _ e),J,B⟩) hn
 refine aiu Z (λaa s' x=>?_) λe s' x=>?_
 .cases aa with
  |done f=>
   obtain⟨h',tk,z,c',e,rfl,Y,J,B⟩:=x;cases e;exact ahV (ams J (ah0 (h h' tk _ Y (aiF (ah3 J)) B)))
  |again ab=>
   refine⟨x.1,ajZ x.2 λq ac y=>?_⟩;obtain⟨h',tk,z,c',rfl,rfl,Y,J,B⟩:=y;exact ahV (ams J (ah0 (h h' tk _ Y (aiF (ah3 J)) B)))
 .obtain⟨_,_,_,_,e',_⟩:=x;cases e'
theorem vR{Q kvs ep}{ss:List Str}(hh:A.handled=none)(lo:(a==sysModules)=false)(x:s.heap.DictAt (bj prog w) a kvs ep)(hs:kvs.map (·.1)=ss.map Sum.inr)(af:ss.length<64)
 (h:∀h' tk (l:Addr) vs z e,(∀b o,s.heap.get? b=some o->h'.get? b=some o)->s.heap.objs.size<=l->h'.get? l=some (seqObj "list" vs.toArray e)->StrsAre vs z->z.Perm ss->sortedS z=true->Q (.ref l) {s with heap:=h',toks:=tk}):
 wpAny (model prog w) A (call (.builtin "sorted") [.ref a]) Q E s:=by
 refine ajM amM ame amf (amg _) (ahV  (ah0 ?_));have kl:=by simpa using aiO List.length hs
 refine ahV (uW  hh lo x (aiF (ah9 (by lia:kvs.length<64) (by decide))) λh1 tk J k1 O B=>?_);have S:J.toList.length=kvs.length:=B.1;have Y:=qD hs S λj v e=>B.2 j v (by simp_all);have hl:J.toList.length<64:=by lia
 refine ahV (akt ?_ (aiF (ah9 hl (by decide))));have L:(h1.push _).get? _=some (seqObj "list" J.toList.toArray 0):=aib _ rfl;refine ahV (aix (ajh alr ⟨_,L,rfl⟩ ald (list_sort_treeK strKind_oneLt L Y.keysOf (λac ad rest e=>keyKind_strs (by rw[←e];exact Y)) hl λah a1 a2=>⟨_,rfl,?_⟩) (als _)));obtain⟨z,b1,b2,b3⟩:=sorted_out_str Y a1 a2;obtain⟨e,he⟩:=sortedHeap_at   L;refine ah0 ⟨_,rfl,h _ tk h1.objs.size _ z e (λb o q=>?_) O (he) b1 b2 b3⟩;have Z:=k1 _ _ q;rw[sortedHeap_old (ah6 (ah3 Z)) (by rw[size_push'];exact aiB (ah3 Z))];exact ahX _ Z
end
section
variable {X:Cx}
theorem m9(hc:X.calm=true):gn X (.builtin "sorted") (λxs H Q=>∃(a:Addr) (kvs:List _) (ss:List _),xs=[.ref a]/\H a=some (.dK kvs)/\kvs.map (·.1)=ss.map Sum.inr/\ss.length<64/\∀l B,H l=none->B.Perm ss->sortedS B=true->Q (.ref l) (upd H l (.lst (B.map V.str)))):=by
 intro pins s σ H xs us Q I r h;obtain⟨a,kvs,ss,rfl,e,hs,Y,q⟩:=h;obtain⟨u,rfl,rx⟩:=jK r;cases rx;obtain⟨z,hd,J,L,dd⟩:=m7 I.hok e;obtain⟨ep,da⟩:=dd.dictAt;have O:J.map (·.1)=ss.map Sum.inr:=by rw[←L.keys];exact hs
 refine vR (I.ok.hd hc) hd da O Y λh' tk l J B ep k Z hg hS hp S=>⟨.ref l,_,I.laid  (o:=.lst _) k Z ⟨?_,J,ep,jq hS,hg⟩,rfl,q l _ (I.hok.fresh Z) hp S⟩;rw[ahY,hp.length_eq];exact aiF (ah9 Y (by decide))
end
end L2
namespace L2
open PySem PySem.Spec PyProof.Rows
section
variable {X:Cx}
variable {o e:Expr}{es:List Expr}{to:TE}{t:TA}{name:Str}{apos cpos:Pos}{T id:String}{r:V->List V->Hp->VK->Prop}{ty:V->Hp->Prop}
def aej(P:Program)(w:World):V->List V->Hp->VK->Prop:=λx vs H Q=>∃a ss z,x=.ref a/\vs=[.str z]/\H a=some (mX P w a ss)/\ss.length+1<scanBound/\∀ss',((z∈ss/\ss'=ss)\/(z∉ss/\ss'.Perm (ss++[z])))->ss'.Nodup->Q .non (upd H a (mX P w a ss'))
theorem zg:MtM X "set.add" (aej X.prog X.w):=by
 intro pins s σ H x Z v us Q I S Y h;obtain⟨a,ss,z,rfl,rfl,e,hr,q⟩:=h;cases S;obtain⟨u,rfl,t,rfl⟩:=Y.one;have tx:=adM I.hok e;refine ajh F.slot_set_add tx.setOf.typeIs F.entry_set_add ?_ (F.args_set_add_2 _ _);unfold Builtin.«set.add» Builtin.Frozenset.oneOther;simp only[List.isEmpty_nil,bind_assoc];refine ahV (ah0 (ahV (ah0 (ahV (ahV ((PySem.strKind X.prog X.w).pyHash (k:=z) ((sV rfl).mpr rfl) ?_))))));refine jQ  tx hr λh' J L B O=>ah0 ⟨_,rfl,.non,_,jc  (I.tok (s.toks+1)) (by rw[e];exact True.intro) L ?_ (aaJ B),rfl,q J O B.nd⟩;obtain⟨_,_,_,T,_⟩:=B;exact⟨_,T.get⟩
def aa9:V->List V->Hp->VK->Prop:=λx vs H Q=>∃a kvs k y,x=.ref a/\vs=[kV k,y]/\H a=some (.dK kvs)/\kvs.length<sizeLine/\(∀v,cD kvs k=some v->Q v H)/\(cD kvs k=none->Q y (upd H a (.dK (eG kvs k y))))
theorem iJ:MtM X "dict.setdefault" aa9:=by
 intro pins s σ H x vs v us Q I rx rv h;obtain⟨a,kvs,k,y,rfl,rfl,e,hl,q1,q2⟩:=h;cases rx;obtain⟨u,r,rfl,ru,Z⟩:=rv.two;obtain⟨z,hd,ws,B,dd⟩:=m7 I.hok e;refine call_meetsIn ajY dd.typeIs PySem.F.entry_dict_setdefault (PySem.F.args_dict_setdefault_3 ..) (kt_meets_setdefault _ a (qa ru) hd r) ⟨ws,dd,by rw[←B.length];exact z,λv' O=>?_,λhn h' L hs=>?_⟩
 .have J:=B.val k;rw[O]at J;cases q:cD _ k with
  |none=>rw[q]at J;exact J.elim
  |some S=>
   rw[q]at J;exact⟨S,H,I.tok _,J,q1 S q⟩
 .have J:=B.val k;rw[hn]at J;cases q:cD kvs k with
  |some S=>rw[q]at J;exact J.elim
  |none=>
   have he:∃q,h'.get? a=some q:=let ⟨q,_,_,hq,_⟩:=L;⟨q,hq⟩;have Y:(eG kvs k y).length<=sizeLine:=by have:=cg kvs k y;lia
   exact⟨y,_,jc I (by rw[e];exact True.intro) hs he (pI Y hd (B.put k Z) L),Z,q2 q⟩
theorem ab0:ahs X (λx y H Q=>∃p xs i v,x=.ref p/\y=.int (i:Nat)/\SqL X.K H p xs/\xs[i]?=some v/\Q v H):=by
 intro pins s σ H x y v u Q I L O h;obtain⟨p,xs,i,z,rfl,rfl,S,J,q⟩:=h;cases L;obtain⟨t,rfl⟩:=O;obtain⟨its,r,Y,hz⟩:=I.list S;obtain⟨w,Z,B⟩:=r.get J;have hi:=(ahW.mp J).1;have hn:=m4;exact wpAny_getItem_list Y.isList (by lia) (by lia) (by simpa using Z) ⟨z,H,I,B,q⟩
end
section
variable {X:Cx}{K:PySem.W.Frag}{P:Program}{w:World}
theorem lB(z:X.K=K):OpR X (compareOp .In) (rIn K false):=by subst z;exact uP
end
section
variable {X:Cx}
theorem acm{i:Nat}{x:Str}{pos' am:Pos}{aj tg iter:Expr}{ifs:List Expr}{scope:Scope}{pos:Pos}{N':List Str}{nl:Nat}{ix:List Nat}{wi:TI}{g:TG}{tf:TT}{te:TE}(hN:X.N.Nodup)(aP:X.N[i]?=some x)(hx:Loc X.env.scope x)
 (hc:X.calm=true)(S:CompScope X scope)(Cp:abf X scope N' nl ix)(hi:PI X tg iter wi)
 (hg:∀C fp s₀ H₀,PG (X.comp scope N' C fp s₀ H₀) tg g)(hf:∀C fp s₀ H₀,PIf (X.comp scope N' C fp s₀ H₀) ifs tf)(he:∀C fp s₀ H₀,PE (X.comp scope N' C fp s₀ H₀) aj te)
 (aQ:swapsWith (.ListComp aj [⟨tg,iter,ifs,0⟩] scope pos) (some (.Name x pos')) am.line X.env=pure true)
 (hs:∀x,foldedSetIterable iter X.env x=pure x)(aS:X.fn x=true\/X.env.scope.names.lookup x=some .local):PS X (.Assign [.Name x pos'] (.ListComp aj [⟨tg,iter,ifs,0⟩] scope pos) am) (qC (iO nl ix wi g tf te) (aR i)):=by
 intro pins s σ H D I h;rw[exec_Assign_Name_used _ _ _ _ aQ];refine ahV (ai3 (ahV (ahV (aiu (ajb   (Q:=λ_ s'=>∃ab H',Inv X _ ab H' s'/\D.nx _ H') rfl hs (cM (S.cells I.ok)) S.kind S.loc ?_) (λ_ s' hq=>ah0 (ah0 hq)) λ_ _ e=>e))));refine thn (hi pins s σ H _ I h) λv s1 h1=>thn h1 λbD B h2=>?_;obtain⟨it,fp,tn,J,H2,rfl,I2,T,ao,f2,h2⟩:=h2;obtain⟨W,⟨m0,w0⟩,ax⟩:=h2 B.heap.objs.size I2.fresh;refine ajc (ajC S.nocell (by intro y hy;simp at hy) (λay O Y=>?_) S.kind);dsimp only at O Y⊢;have az:∀b∈fp,b<B.heap.objs.size:=λb L=>by
  obtain⟨o,e,_⟩:=T.obj 0 _ ao b L;exact ah3 e
 have I3:Inv X _ σ _ {B with heap:=B.heap.push _,toks:=B.toks}:=I2.lnew .nil (ail _);have f3:∀b∈fp,gI X _ (upd H2 _ (.lst [])) b:=λb L=>by
  refine⟨?_,(f2 b L).2⟩;rw[ai (ah6 (az b L))];exact (f2 b L).1
 generalize hS3:B.heap.push {cls:=.type "list",dict:=none,data:=.seq ([]:List Value).toArray}=g3 at O Y I3⊢;have aU:g3.objs.size=B.heap.objs.size+1:=by rw[←hS3,aiP]
 have an:∀b∈fp,b < {B with heap:=g3,toks:=B.toks}.heap.objs.size:=λb L=>by
  rw[aU];exact aiB (az b L)
 have old:=λb o e=>Y.extBut b o (ah6 (ah3 e)) (ahX _ e);have I4:=jy (tk:=B.toks+([]:List (Str×Value)).length) S Cp I3 f3 an O old;generalize hX:X.comp scope N' g3.objs.size fp {B with heap:=g3,toks:=B.toks} (upd H2 B.heap.objs.size (.lst []))=Z at *;have ac:Z.prog=X.prog:=by rw[←hX];rfl
 have ad:Z.w=X.w:=by rw[←hX];rfl
 have aA:Z.K=X.K:=by rw[←hX];rfl
 have aV:Z.A=X.A:=by rw[←hX];rfl
 have aB:Z.calm=true:=by rw[←hX];exact hc
 have ak:Z.xe=λ_ _=>False:=by rw[←hX];rfl
 have ap:Z.ex=fp:=by rw[←hX];rfl
 have aW:Z.pn=[]:=by rw[←hX];rfl
 have aq:Z.env.locals=g3.objs.size:=by rw[←hX];rfl
 have aX:Z.env=compEnvC scope (jJ X.env scope.names []) g3.objs.size X.env:=by rw[←hX];rfl
 have aC:=hg g3.objs.size fp {B with heap:=g3,toks:=B.toks} (upd H2 B.heap.objs.size (.lst []));have aD:=hf g3.objs.size fp {B with heap:=g3,toks:=B.toks} (upd H2 B.heap.objs.size (.lst []));have aE:=he g3.objs.size fp {B with heap:=g3,toks:=B.toks} (upd H2 B.heap.objs.size (.lst []));rw[hX]at aC aD aE;have ar:=I4;have aG:∀{H' } {ab:St} {pins' } {s' } {h' },Inv Z pins' ab H' s'->Heap.SameBut g3.objs.size s'.heap h'->Inv X _ σ H' {s' with heap:=h' }:=λI' sb=>by
  subst hX;exact gY I3 f3 I' sb
 have ae:∀{H' },(∀b∈fp,H' b=none)->∀b∈fp,gI Z [] H' b:=λhn b L=>by
  refine⟨hn b L,?_,?_,.inl (by rw[ap];exact L),?_,λp hp=>by rw[aW]at hp;cases hp⟩
  .rw[aq];exact ah6 (an b L)
  .exact ar.ok.exfs b (by rw[ap];exact L)
  .exact (ar.ok.exf b (by rw[ap];exact L)).2
 have af:codeAny (model X.prog X.w) X.A (.compLoop (.ListComp aj [⟨tg,iter,ifs,0⟩] scope pos) 0 (.ref it) (.ref B.heap.objs.size) Z.env)
  (compPost (model X.prog X.w) X.A X.xe (some (assign (.Name x pos') X.env)) (λ_ s'=>∃ab H',Inv X pins ab H' s'/\D.nx ab H') (.ref B.heap.objs.size) g3.objs.size) {B with heap:=ay,toks:=B.toks+([]:List (Str×Value)).length}:=by
  rw[←ac,←ad,←aV];refine jv (λn s'=>∃i ys H',Inv Z [] _ H' s'/\tn i s'.heap/\(∀b∈fp,H' b=none)/\W i n ys H') ?_ m0
   ⟨0,[],_,ar,T.keep _ _ _ ao (λb L o e=>old b o (by rw[←hS3];exact ahX _ e)),λb L=>(f3 b L).1,w0⟩
  rintro n s5 ⟨i,ys,H5,I5,aH,aI,w5⟩;obtain⟨bK,aY⟩:=ax i n ys H5 w5;rcases aY with ⟨stop,qn⟩|⟨go,step⟩
  .rw[ac,ad];refine thn (T.done Z ac ad aA aB i [] s5 _ H5 _ I5 (ae aI) aH stop) λr s6 ⟨hr,I6⟩=>?_;subst hr;obtain⟨m,hn,_⟩:=I6.loc;rw[aq]at hn;have I7:Inv X _ σ H5 s6:=aG I6 (amA _ _);have nC:=by
    have:=I6.free;rw[aq]at this;exact this
   have fC:gI X _ H5 g3.objs.size:=I3.fpOk (ah4 _) nC;refine amr (oK I7 hN aP hx (v:=.ref B.heap.objs.size) rfl (λs8 I8 ⟨a8,a3,a4⟩=>?_) aS);have a5:g3.objs.size≠a8:=by
    rcases a4 with z|z
    .rw[z];exact fC.2.1
    .exact λq=>fC.2.2.2.2.1 x a8 z q.symm
   exact⟨m,hn.sameBut a3 a5,λh' sb=>⟨_,H5,I8.turnedL   (λb o L=>(sb.2 b (λz=>L (by rw[z];exact ah5.mpr rfl))).trans) (λb L=>by rw[ah5.mp L];exact fC),qn⟩⟩
  .have aJ:=T.item Z ac ad aA aB i [] s5 _ H5 (λ_ _=>False) I5 (ae aI) aH go;rw[←ac,←ad]at aJ;refine thn aJ λr s6 ⟨u,hr,h6⟩=>?_;subst hr;refine thn h6 λ_ s7 ⟨x,H7,I7,r7,y7,as,a6⟩=>?_;have a7:=I7.pinned (ae a6) (T.obj _ _ as);have g7:=aC _ s7 _ H7 x u _ a7 r7 (step x H7 y7);rw[ak]at g7;refine thn g7 λ_ s8 ⟨bS,H8,I8,⟨a9,ba⟩,q8⟩=>?_;have f8:=aD _ s8 _ H8 _ I8 q8;rw[ak]at f8;refine thn f8 λok s9 ⟨H9,I9,q9⟩=>?_;have ag:∀{al} {au} {av},Inv Z ..->(∃m',m'<n/\W (i+1) m' av al)->∃m,m<n/\∃i ys H',Inv Z [] _ H' au/\tn i _/\(∀b∈fp,H' b=none)/\W i m ys H':=fun {al au av} ah ⟨m',hm,w'⟩=>by
    refine⟨m',hm,i+1,av,al,eC ah.unpinned a9 ba,T.keep _ _ _ as λb L o e=>(ah.pin (b,o) (ah2 _ (ah2 _ (aF L e)))).1,λb L=>?_,w'⟩;obtain⟨o,e,d⟩:=T.obj _ _ as b L;exact (ah.pin _ (ah2 _ (ah2 _ (aF L e)))).2.1
   cases ok with
   |false=>
    exact ag I9 q9
   |true=>
    have e9:=aE _ s9 _ H9 _ I9 q9;rw[ak]at e9;refine thn e9 λxv au ⟨y,al,ah,bb,aK,hz,mw⟩=>?_;have aL:=cV  _ _ _ _ (.ref _) _ _ _ (λ_ H'=>H'=upd _ _ _) ah rfl (.cons bb .nil) ⟨_,ys,y,rfl,rfl,aK,hz,rfl⟩;rw[ak]at aL;refine thn aL λ_ b1 ⟨_,b2,bc,_,bd⟩=>?_;subst bd;exact ag bc mw
 rw[aX]at af;exact akz af (T.self _ 0 _ _ _ (T.keep _ _ _ ao (λb L o e=>old b o (by rw[←hS3];exact ahX _ e))) af)
theorem aaw{i x pos' z B tg iter ifs outer scope pos N N' nl ix wi g tf te}(Z:X.N.Nodup)(J:X.N[i]?=some x)(hx:Loc X.env.scope x)
 (h1:X.env.scope=outer)(h2:X.N=N)(hc:X.calm=true)(hi:PI X tg iter wi)
 (hg:∀C fp s₀ H₀,PG (X.comp scope N' C fp s₀ H₀) tg g)(hf:∀C fp s₀ H₀,PIf (X.comp scope N' C fp s₀ H₀) ifs tf)(he:∀C fp s₀ H₀,PE (X.comp scope N' C fp s₀ H₀) B te)
 (L:swapsWith (.ListComp B [⟨tg,iter,ifs,0⟩] scope pos) (some (.Name x pos')) z.line X.env=pure true:=by rfl)
 (O:gx outer scope N N' nl ix=true:=by decide +kernel)(hs:∀x,foldedSetIterable iter X.env x=pure x:=by intro _;rfl)(Y:X.fn x=true\/X.env.scope.names.lookup x=some .local:=by first|exact .inl rfl|exact .inr rfl|assumption):
 PS X (.Assign [.Name x pos'] (.ListComp B [⟨tg,iter,ifs,0⟩] scope pos) z) (qC (iO nl ix wi g tf te) (aR i)):=
 let ⟨S,Cp⟩:=eQ h1 h2 O
 acm Z J hx hc S Cp hi hg hf he L hs Y
end
end L2
namespace L2
open PySem PySem.Spec PyProof.Rows
section
variable {X:Cx}
def agU(K:PySem.W.Frag)(te tk:TE):TE:=λσ H Q=>te σ H λx H1=>tk σ H1 λy H2=>y=.int (-1)/\∃a xs,x=.ref a/\SqL K H2 a xs/\∀p,H2 p=none->Q (.ref p) (upd H2 p (.lst xs.reverse))
theorem Vals.rev:∀{xs} {z},Vals xs z->Vals xs.reverse z.reverse
 |_,_,.nil=>.nil
 |_,_,.cons a b=>by
  rw[List.reverse_cons,List.reverse_cons];exact (Vals.rev b).append (.cons a .nil)
theorem yB{pos}:PE X (.List [] pos) (aaO cS):=gX aj
def adJ:Expr->Bool
 |.Starred .. => false
 |_=>true
theorem vI e es env (h:adJ e=true):starEach (e::es) env=(false,eval e env)::starEach es env:=by
 cases e<;>first|rfl|exact absurd h aie
theorem uL{e es te t}(z:PE X e te)(hr:PA X es t)(h:adJ e=true):PA X (e::es) (ax te t):=ae z hr (vI e es _ h)
theorem abO{e k te tk p2 pos}(S:PE X e te)(Y:PE X k tk)(z:∀v i:_,subscripted (.Slice none none (some k) p2) false v i=operate [v,i] (getItem v i):=by intro _ _;with_unfolding_all rfl):PE X (.Subscript e (.Slice none none (some k) p2) pos) (agU X.K te tk):=by
 intro pins s σ H Q I h;refine Subscript_ (thn (S _ s σ H _ I h) λv Z ⟨x,H1,I1,r1,q1⟩=>wpAny_Slice (ah0 (ah0 (thn (Y _ Z σ H1 _ I1 q1) λvk J ⟨y,H3,I3,r3,q3⟩=>?_))));obtain⟨rfl,a,xs,rfl,hx,q⟩:=q3;obtain⟨tk,rfl⟩:=r3;cases r1;have B:Inv X _ σ H3 {J with heap:=J.heap.push {cls:=.type "slice",data:=.fields #[.none,.none,.int (-1) tk] }}:=I3.kept  λb ob=>ahX _;obtain⟨its,r,L,hz⟩:=B.list hx;have O:=r.length;refine tail_any  L.isList.typeIs amu.lookup (wpAny_getItem_list_slice L.isList (Heap.IsSliceOf.new ..) .none .none (.int _ tk) (by simp) ?_ (by grind)) (z _ _);rw[PySem.W.krv_pick];refine⟨.ref _,_,B.laid   (λb ob=>ahX _) (ah4 _) ?_,rfl,q _ (B.hok.fresh (ah4 _))⟩;exact⟨by simp_all,_,0,by simpa using r.rev,aib _ rfl⟩
end
section
variable {prog:Program}{w:World}{A:Around}{E:Value->Shared->Prop}{s:Shared}
theorem xB{a o Q}(h:s.heap.get? a=some o)(q:Q (some o) s):wpAny (model prog w) A (loadIfAlive a) Q E s:=by
 intro Γ p _;unfold loadIfAlive;simp_all
def pr:Nat->List Value->List (Key×Value)
 |_,[]=>[]
 |k,v::r=>(.inl (k:Int),v)::pr (k+1) r
end
theorem oY:plainId "dict.update.loop" = true:=by decide +kernel
theorem uK:entryFor table "dict.update.loop" = some Builtin.«dict.update.loop»:=entryFor_of_tree (by kernel_rfl)
section
variable {X:Cx}
theorem yC:bootBuiltins "dict" = some (.type "dict"):=by decide +kernel
end
def afy(h:Heap)(z TI TO i1 i2:Addr):Prop:=∃(T:Addr) (b:Bool) (oT:Obj),h.get? z=some {cls:=.type "zip",dict:=none,data:=.fields #[rawInt T,.bool b,.bool false,.ref TI,.ref TO],slots:=#[] }/\h.get? T=some oT/\T≠z/\T≠TO/\T≠i1/\T≠i2
section
variable {prog:Program}{w:World}{A:Around}{E:Value->Shared->Prop}{s:Shared}
theorem wz{z TI TO i1 i2 l1 l2:Addr}{k1 k2:Nat}{xs ys:Array Value}{x y:Value}{Q:Option Value->Shared->Prop}(D:ZipApart z TI TO i1 i2 l1 l2)
 (hz:afy s.heap z TI TO i1 i2)(au:IsPair s.heap TI (.ref i1) (.ref i2))
 (h1:s.heap.IsListIter i1 l1 k1)(h2:s.heap.IsListIter i2 l2 k2)(al:s.heap.IsList l1 xs)(am:s.heap.IsList l2 ys)(hx:xs[k1]?=some x)(hy:ys[k2]?=some y)
 (hQ:∀h',afy h' z TI TO i1 i2->h'.IsListIter i1 l1 (k1+1)->h'.IsListIter i2 l2 (k2+1)->IsPair h' s.heap.objs.size x y →
  (∀c o,c≠z->c≠TO->c≠i1->c≠i2->s.heap.get? c=some o->h'.get? c=some o)->Q (some (.ref s.heap.objs.size)) {s with heap:=h' }):
 wpAny (model prog w) A (pyNext (.ref z)) Q E s:=by
 obtain⟨T,b,oT,hz,ah,ae,an,af,ag⟩:=hz;have hT:s.TypeIs (.ref z) "zip" := ⟨_,hz,rfl⟩;unfold pyNext;refine ahV (amK (wpAny_callSpecial?_slot (name:=Str.ofString "__next__") hT al1 (ajh al1 hT F.entry_zip_next ?_ (F.args_zip_next_1 _))));show wpAny _ _ (field (.ref z) 2 >>= _) _ _ _;refine ahV (ak0 hz rfl (x:=.bool false) rfl ?_);show wpAny _ _ (field (.ref z) 3 >>= _) _ _ _;refine ahV (ak0 hz rfl (x:=.ref TI) rfl (ahV (alq au rfl ?_)));show wpAny _ _ (Builtin.SmallTypes.ownedTupleIsFree (.ref z) >>= _) _ _ _;refine ahV ?_;unfold Builtin.SmallTypes.ownedTupleIsFree;refine ahV (ak0 hz rfl (x:=rawInt T) rfl ?_);show wpAny _ _ (loadIfAlive T >>= _) _ _ s;refine ahV (xB ah ?_);show wpAny _ _ (field (.ref z) 1 >>= _) _ _ s;refine ahV (ak0 hz rfl (x:=.bool b) rfl ?_);cases b
 .refine ahV (amj hz (by simp) λaB S B=>?_);refine ah0 ?_;simp only[ajl,ak4,amk,ak6,anB];refine ahV (ahV (ahV (aix ?_)));show wpAny _ _ (Builtin.SmallTypes.nextOf (.ref i1) >>= _) _ _ _;refine ahV (akA (h1.extBut B.extBut D.i1z) (al.extBut B.extBut D.l1z) hx λao Y J=>ah0 (ah0 (ahV (ahV (aix ?_)))));show wpAny _ _ (Builtin.SmallTypes.nextOf (.ref i2) >>= _) _ _ _;refine ahV (akA ((h2.extBut B.extBut D.i2z).extBut J.extBut D.i12.symm) ((am.extBut B.extBut D.l2z).extBut J.extBut D.l2i1) hy λO Z L=>ah0 (ah0 (ah0 ?_)));show wpAny _ _ (newTuple [x,y] >>= _) _ _ _;refine ahV (alu (ah0 ⟨_,rfl,ah0 ?_⟩));have sz:O.objs.size=s.heap.objs.size:=by rw[L.1,J.1,B.1]
  have kp:∀c o,c≠z->c≠i1->c≠i2->s.heap.get? c=some o->O.get? c=some o:=λc o a1 a2 a3 e=>L.extBut _ _ a3 (J.extBut _ _ a2 (B.extBut _ _ a1 e));have ac:=hQ (O.push {cls:=.type "tuple",data:=.seq #[x,y] }) ⟨T,true,oT,ahX _ (L.extBut _ _ D.i2z.symm (J.extBut _ _ D.i1z.symm S)),ahX _ (kp T oT ae af ag ah),ae,an,af,ag⟩
   (by obtain⟨o,ho,r⟩:=Y.extBut L.extBut D.i12;exact⟨o,ahX _ ho,r⟩) (by obtain⟨o,ho,r⟩:=Z;exact⟨o,ahX _ ho,r⟩)
   (by rw[←sz];exact aib _ rfl) λc o a1 _ a3 a4 e=>ahX _ (kp c o a1 a3 a4 e)
  rw[←sz]at ac;exact ac
 .have B:Heap.SameBut z s.heap s.heap:=⟨rfl,λ_ _=>rfl⟩;have S:=hz;refine ah0 ?_;simp only[ajl,ak4,amk,ak6,anB];refine ahV (ahV (ahV (aix ?_)));show wpAny _ _ (Builtin.SmallTypes.nextOf (.ref i1) >>= _) _ _ _;refine ahV (akA (h1.extBut B.extBut D.i1z) (al.extBut B.extBut D.l1z) hx λao Y J=>ah0 (ah0 (ahV (ahV (aix ?_)))));show wpAny _ _ (Builtin.SmallTypes.nextOf (.ref i2) >>= _) _ _ _;refine ahV (akA ((h2.extBut B.extBut D.i2z).extBut J.extBut D.i12.symm) ((am.extBut B.extBut D.l2z).extBut J.extBut D.l2i1) hy λO Z L=>ah0 (ah0 (ah0 ?_)));show wpAny _ _ (newTuple [x,y] >>= _) _ _ _;refine ahV (alu (ah0 ⟨_,rfl,ah0 ?_⟩));have sz:O.objs.size=s.heap.objs.size:=by rw[L.1,J.1,B.1]
  have kp:∀c o,c≠z->c≠i1->c≠i2->s.heap.get? c=some o->O.get? c=some o:=λc o a1 a2 a3 e=>L.extBut _ _ a3 (J.extBut _ _ a2 (B.extBut _ _ a1 e));have ac:=hQ (O.push {cls:=.type "tuple",data:=.seq #[x,y] }) ⟨T,true,oT,ahX _ (L.extBut _ _ D.i2z.symm (J.extBut _ _ D.i1z.symm S)),ahX _ (kp T oT ae af ag ah),ae,an,af,ag⟩
   (by obtain⟨o,ho,r⟩:=Y.extBut L.extBut D.i12;exact⟨o,ahX _ ho,r⟩) (by obtain⟨o,ho,r⟩:=Z;exact⟨o,ahX _ ho,r⟩)
   (by show (O.push {cls:=.type "tuple",data:=.seq #[x,y] }).get? s.heap.objs.size=_;rw[←sz];exact aib _ rfl) λc o a1 _ a3 a4 e=>ahX _ (kp c o a1 a3 a4 e)
  rw[←sz]at ac;exact ac
theorem yw{z TI TO S i2 l1 l2:Addr}{k1 k2:Nat}{xs ys:Array Value}{Q}(hh:A.handled=none)(D:ZipApart z TI TO S i2 l1 l2)
 (L:afy s.heap z TI TO S i2)(ac:IsPair s.heap TI (.ref S) (.ref i2))(h1:s.heap.IsListIter S l1 k1)(Y:s.heap.IsList l1 xs)(O:xs[k1]?=none)
 (hQ:∀h',(∀c o,c≠z->c≠TO->c≠S->c≠i2->s.heap.get? c=some o->h'.get? c=some o)->Q none {s with heap:=h' }):wpAny (model prog w) A (pyNext (.ref z)) Q E s:=by
 obtain⟨T,b,oT,L,ad,ap,aq,ar,as⟩:=L;have hT:s.TypeIs (.ref z) "zip" := ⟨_,L,rfl⟩;unfold pyNext;refine ahV (amK (wpAny_callSpecial?_slot (name:=Str.ofString "__next__") hT al1 (ajh al1 hT F.entry_zip_next ?_ (F.args_zip_next_1 _))));show wpAny _ _ (field (.ref z) 2 >>= _) _ _ _;refine ahV (ak0 L rfl (x:=.bool false) rfl ?_);refine ahV (ak0 L rfl (x:=.ref TI) rfl (ahV (alq ac rfl ?_)));refine ahV ?_;unfold Builtin.SmallTypes.ownedTupleIsFree;refine ahV (ak0 L rfl (x:=rawInt T) rfl ?_);refine ahV (xB ad ?_);refine ahV (ak0 L rfl (x:=.bool b) rfl ?_);cases b
 .refine ahV (amj L (by simp) λam ae B=>?_);refine ah0 ?_;refine ahV (ahV (ahV (aix ?_)));refine ahV (wpAny_nextOf_list_end (by simp[hh]) (h1.extBut B.extBut D.i1z) (Y.extBut B.extBut D.l1z) O λZ e J he=>?_);obtain⟨o,ho,hc⟩:=he;exact ahV (alA (T := "StopIteration") (b:=true) ⟨o,ho,hc⟩ isSubtype_stop (ah0 (hQ _ λc o a1 _ a3 _ x=>J _ _ a3 (B.extBut _ _ a1 x))))
 .refine ah0 ?_;simp only[ajl,ak4,amk,ak6,anB];refine ahV (ahV (ahV (aix ?_)));show wpAny _ _ (Builtin.SmallTypes.nextOf (.ref S) >>= _) _ _ _;refine ahV (wpAny_nextOf_list_end (by simp[hh]) h1 Y O λZ e J he=>?_);obtain⟨o,ho,hc⟩:=he;exact ahV (alA (T := "StopIteration") (b:=true) ⟨o,ho,hc⟩ isSubtype_stop (ah0 (hQ _ λc o a1 _ a3 _ x=>J _ _ a3 x)))
theorem adm:typeLookup (.type "zip") "__getattr__" = pure none:=by kernel_rfl
theorem aag:typeLookup (.type "zip") "keys" = pure none:=by kernel_rfl
theorem afY:entryFor table "zip.__getattribute__" = some Builtin.«object.__getattribute__»:=amm (id' := "object.__getattribute__") (by kernel_rfl) (by decide +kernel) (by decide +kernel) (by kernel_rfl)
theorem aeN(a:Addr)(fs:Array Value)(u:Tok):
 Meets (Builtin.«object.__getattribute__» ⟨[.ref a,.str "keys" u],[]⟩) (λA R s=>s.heap.get? a=some {cls:=.type "zip",dict:=none,data:=.fields fs,slots:=#[] }/\raisesAttr (.ref a) "keys" A R s):=
 Meets.of_wp λprog w A R s z=>by
  obtain⟨J,g,d,tk,L⟩:=s;obtain⟨O,z⟩:=z;have S:(⟨J,g,d,tk,L⟩:Shared).TypeIs (.ref a) "zip" := ⟨_,O,rfl⟩;have B:=aag;unfold Builtin.«object.__getattribute__»
  repeat (any_goals (first|done|assumption|wp_step))
  exact wpAny_raiseAttrError z.1 z.2 (attrMsg_fits (by decide +kernel) (by decide +kernel))
theorem yF{P:Program}{w:World}{A:Around}{E:Value->Shared->Prop}{s:Shared}{a:Addr}{fs:Array Value}{Q:Option Value->Shared->Prop}
 (J:s.heap.get? a=some {cls:=.type "zip",dict:=none,data:=.fields fs,slots:=#[] })(O:A.handled=none)
 (h:∀h' tk,(∀b o,s.heap.get? b=some o->h'.get? b=some o)->Q none {s with heap:=h',toks:=tk}):wpAny (model P w) A (getAttr? (.ref a) "keys") Q E s:=by
 obtain⟨S,g,d,tk,Y⟩:=s;have L:∀z,(⟨S,g,d,z,Y⟩:Shared).TypeIs (.ref a) "zip" := λ_=>⟨_,J,rfl⟩;have Z:=sub_AttributeError;have f3:=alh.lookup;have f4:=alh.bind (.ref a);have f5:=adm;unfold getAttr? getAttrBy? getAttrBy
 repeat (any_goals (first|assumption|exact L _ | ((with_reducible show wpAny _ _ (call (Value.builtin "zip.__getattribute__") _ _) _ _ _);refine call_meets alh (L _) afY (F.args_zip_getattribute_2 _ _) (aeN a fs _) ⟨J,O,λh' z e B=>?_⟩) | wp_step))
 obtain⟨t',u',he⟩:=B.there;show wpAny _ _ (getattributeRaised _ _ _ _ _ _ _) _ _ _;unfold getattributeRaised
 repeat (any_goals (first|done|assumption|wp_step))
 exact h _ _ B.of.keeps
def prz(ks:List Str)(us:List Value):List (Key×Value):=(ks.zip us).map λp=>(.inr p.1,p.2)
theorem aec ks z:(prz ks z).length<=ks.length:=by
 unfold prz;grind
theorem ab2{ks:List Str}{B:List Value}{i:Nat}{x:Str}{v:Value}(nd:ks.Nodup)(J:ks[i]?=some x)(O:B[i]?=some v):stored (prz (ks.take i) (B.take i)) (Sum.inr x) v=prz (ks.take (i+1)) (B.take (i+1)):=by
 have hi:i<ks.length:=(ahW.mp J).1;have hj:i<B.length:=(ahW.mp O).1;have S:x∉ks.take i:=λq=>by
  obtain⟨j,Y,e⟩:=List.mem_take_iff_getElem.mp q;have L:=(ahW.mp J).2;have:=(List.getElem_inj nd).mp (e.trans L.symm);lia
 have h:(prz (ks.take i) (B.take i)).any (λZ=>decide (Z.1=(Sum.inr x:Key)))=false:=by
  rw[List.any_eq_false];intro p hp;unfold prz at hp;obtain⟨q,hq,rfl⟩:=ah8.mp hp;simp only[ajr];intro z;have z2:=Sum.inr.inj z;exact S (z2▸(akE hq).1)
 unfold stored;rw[if_neg (by rw[h];exact aie)];unfold prz;rw[anC,anC,J,O,List.zip_append (by rw[aif,aif];lia),aia]
 rfl
def agy(h:Heap)(z TI TO i1 i2:Addr):Prop:=(IsZip h z TI TO .none/\∃a b,IsPair h TO a b)\/afy h z TI TO i1 i2
theorem aee{z TI TO B J Z l2 k1 k2 xs ys x y Q}(D:ZipApart z TI TO B J Z l2)
 (hz:agy s.heap z TI TO B J)(L:IsPair s.heap TI (.ref B) (.ref J))
 (h1:s.heap.IsListIter B Z k1)(h2:s.heap.IsListIter J l2 k2)(O:s.heap.IsList Z xs)(S:s.heap.IsList l2 ys)(hx:xs[k1]?=some x)(hy:ys[k2]?=some y)
 (hQ:∀h',afy h' z TI TO B J->h'.IsListIter B Z (k1+1)->h'.IsListIter J l2 (k2+1)->IsPair h' s.heap.objs.size x y →
  (∀c o,c≠z->c≠TO->c≠B->c≠J->s.heap.get? c=some o->h'.get? c=some o)->Q (some (.ref s.heap.objs.size)) {s with heap:=h' }):
 wpAny (model prog w) A (pyNext (.ref z)) Q E s:=by
 rcases hz with ⟨hz,a,b,Y⟩|hz
 .have e1:=ah3 hz;have e2:=ah3 Y;have e3:B<s.heap.objs.size:=by obtain⟨_,q,_⟩:=h1;exact ah3 q
  have e4:J<s.heap.objs.size:=by obtain⟨_,q,_⟩:=h2;exact ah3 q
  exact wpAny_pyNext_zip_item D hz L Y h1 h2 O S hx hy λh' a1 _ a3 a4 a5 _=>hQ h' ⟨s.heap.objs.size,false,_,a1,a5,aiX e1,aiX e2,aiX e3,aiX e4⟩ a3 a4 a5
 .exact wz D hz L h1 h2 O S hx hy hQ
theorem afK{z TI TO J L Y Z k1 k2 xs ys Q}(hh:A.handled=none)(D:ZipApart z TI TO J L Y Z)
 (hz:agy s.heap z TI TO J L)(O:IsPair s.heap TI (.ref J) (.ref L))(h1:s.heap.IsListIter J Y k1)(h2:s.heap.IsListIter L Z k2)(S:s.heap.IsList Y xs)(aa:s.heap.IsList Z ys)(B:xs[k1]?=none)
 (hQ:∀h',(∀c o,c≠z->c≠TO->c≠J->c≠L->s.heap.get? c=some o->h'.get? c=some o)->Q none {s with heap:=h' }):wpAny (model prog w) A (pyNext (.ref z)) Q E s:=by
 rcases hz with ⟨hz,a,b,ab⟩|hz
 .exact wpAny_pyNext_zip_end hh D hz O ab h1 h2 S aa (.inl B) hQ
 .exact yw (k2:=k2) (ys:=ys) hh D hz O h1 S B hQ
end
section
variable {prog:Program}{w:World}{A:Around}{R:Result->Shared->Prop}
theorem adb{D z TI TO Y i2 l1 l2:Addr}{xs ys:Array Value}{ks:List Str}(hh:A.handled=none)(Z:ZipApart z TI TO Y i2 l1 l2)(hD:D≠z/\D≠TO/\D≠Y/\D≠i2/\D≠TI/\D≠l1/\D≠l2)(hsz:xs.size=ys.size)(ao:∀(i:Nat) (v:Value),xs[i]?=some v->∃(x:Str) (t:Tok),v=Value.str x t/\ks[i]?=some x)(aF:ks.length=xs.size)(nd:ks.Nodup)(hz:xs.size<=sizeLine):
 ∀(k i:Nat) (s:Shared) (tk:Tok),xs.size-i=k->i<=xs.size->agy s.heap z TI TO Y i2->IsPair s.heap TI (.ref Y) (.ref i2)->s.heap.IsListIter Y l1 i->s.heap.IsListIter i2 l2 i->s.heap.IsList l1 xs->s.heap.IsList l2 ys->s.heap.DictOf (bj prog w) D (prz (ks.take i) (ys.toList.take i)) →
  (∀h' tk,h'.DictOf (bj prog w) D (prz ks ys.toList)->(∀b o,b≠D->b≠z->b≠TO->b≠Y->b≠i2->s.heap.get? b=some o->h'.get? b=some o)->R (.ok (.ret .none)) {s with heap:=h',toks:=tk}) →
  codeAny (model prog w) A (.builtin "dict.update.loop" ⟨[.ref D,.ref z,.int i tk,.none],[]⟩) R s:=by
 obtain⟨d1,d2,d3,d4,d5,d6,d7⟩:=hD;intro k
 induction k with
 |zero=>
  intro i s tk hk hi he J h1 h2 L O hd hR;refine ajp uK ?_;rw[alK oY _];refine ahV (afK (by simp[hh]) Z he J h1 h2 L O (am2 (by lia)) λh' x=>?_);refine ahV (ah0 (ah0 (hR h' _ ?_ λb o _=>x b o)));rw[aiS (by lia),aiS (by rw[aiw];lia)]at hd;obtain⟨o,es,ep,B,r⟩:=hd;exact⟨o,es,ep,x _ _ d1 d2 d3 d4 B,r⟩
 |succ k ih=>
  intro i s tk hk hi he J h1 h2 L O hd hR;have ab:i<xs.size:=by lia
  have ae:i<ys.size:=by lia
  obtain⟨kx,kt,ek,au⟩:=ao i xs[i] (ajw ab);refine ajp uK ?_;refine ahV (aee Z he J h1 h2 L O (ajw ab) (ajw ae) λS a1 b1 b2 c1 k1=>?_);have av:S.DictOf (bj prog w) D (prz (ks.take i) (ys.toList.take i)):=by
   obtain⟨o,es,ep,B,r⟩:=hd;exact⟨o,es,ep,k1 _ _ d1 d2 d3 d4 B,r⟩
  have ag:S.IsList l1 xs:=by
   obtain⟨o,B,r⟩:=L;exact⟨o,k1 _ _ Z.l1z Z.l1TO Z.l1i1 Z.l1i2 B,r⟩
  have ah:S.IsList l2 ys:=by
   obtain⟨o,B,r⟩:=O;exact⟨o,k1 _ _ Z.l2z Z.l2TO Z.l2i1 Z.l2i2 B,r⟩
  have ai:IsPair _ TI _ _:=k1 _ _ Z.TIz Z.TITO Z.TIi1 Z.TIi2 J;refine ahV (aix (ahV (wpAny_tryCatch (ahV (am8  ⟨_,c1,rfl⟩ (ahV (alq c1 rfl (ah0 ?_))))))));rw[ek];refine aix (aku (k:=Sum.inr kx) (oJ prog w _ _) av (λaj ak s2=>?_) (aij (aec _ _) (by rw[aif];lia)));have e2:=ab2  (v:=ys[i]) nd au (by rw[ajo];exact ajw _);have kk:∀b o,b≠D->S.get? b=some o->aj.get? b=some o:=λb o nb=>(s2.2 b nb).trans;have a2:agy aj z TI TO Y i2:=by
   obtain⟨T,b,oT,q,r,z1⟩:=a1;by_cases al:T=D
   .obtain⟨o,es,ep,B,_⟩:=ak;exact .inr ⟨T,b,o,kk _ _ (ai2 d1) q,by rw[al];exact B,z1⟩
   .exact .inr ⟨T,b,oT,kk _ _ (ai2 d1) q,kk _ _ al r,z1⟩
  refine ah0 ⟨ake oY _,ih (i+1) _ _ (by lia) ab a2 (kk _ _ (ai2 d5) ai) ?_ ?_ ?_ ?_ (by rw[←e2];exact ak) λh' aU d' k'=>?_⟩
  .obtain⟨o,B,r⟩:=b1;exact⟨o,kk _ _ (ai2 d3) B,r⟩
  .obtain⟨o,B,r⟩:=b2;exact⟨o,kk _ _ (ai2 d4) B,r⟩
  .obtain⟨o,B,r⟩:=ag;exact⟨o,kk _ _ (ai2 d6) B,r⟩
  .obtain⟨o,B,r⟩:=ah;exact⟨o,kk _ _ (ai2 d7) B,r⟩
  .exact hR h' _ d' λb o n1 n2 n3 n4 n5 q=>k' b o n1 n2 n3 n4 n5 (kk b o n1 (k1 b o n2 n3 n4 n5 q))
end
section
variable {prog:Program}{w:World}{A:Around}{E:Value->Shared->Prop}{s:Shared}
theorem sC{z TI TO O S l1 l2:Addr}{xs ys:Array Value}{ks:List Str}{Q}(hh:A.handled=none)(Z:ZipApart z TI TO O S l1 l2)(hz:IsZip s.heap z TI TO .none)(Y:IsPair s.heap TI (.ref O) (.ref S))(aa:∃a b,IsPair s.heap TO a b)
 (h1:s.heap.IsListIter O l1 0)(h2:s.heap.IsListIter S l2 0)(ab:s.heap.IsList l1 xs)(ac:s.heap.IsList l2 ys)(hsz:xs.size=ys.size)(aj:∀(i:Nat) (v:Value),xs[i]?=some v->∃x t,v=Value.str x t/\ks[i]?=some x)(ak:ks.length=xs.size)(nd:ks.Nodup)(al:xs.size<=sizeLine)
 (h:∀h' tk,h'.DictOf (bj prog w) s.heap.objs.size (prz ks ys.toList)->(∀b o,b≠z->b≠TO->b≠O->b≠S->s.heap.get? b=some o->h'.get? b=some o)->Q (.ref s.heap.objs.size) {s with heap:=h',toks:=tk}):
 wpAny (model prog w) A (call (.type "dict") [.ref z]) Q E s:=by
 refine callType_codes (Q₁:=λad J=>ad=.ref s.heap.objs.size/\J={s with heap:=s.heap.push _}) F.kt_called_dict (F.kt_typeCall_dict_1 _) F.entry_dict_init (kt_code_dict_new _ ⟨rfl,rfl⟩) ?_;rintro ad J ⟨rfl,rfl⟩;have dn:(s.heap.push _).DictOf (bj prog w) s.heap.objs.size []:=Heap.DictOf.new s.heap;have e1:z<s.heap.objs.size:=ah3 hz;have e2:TO<s.heap.objs.size:=by obtain⟨_,_,q⟩:=aa;exact ah3 q
 have e3:O<s.heap.objs.size:=by obtain⟨_,q,_⟩:=h1;exact ah3 q
 have e4:S<s.heap.objs.size:=by obtain⟨_,q,_⟩:=h2;exact ah3 q
 have e5:TI<s.heap.objs.size:=ah3 Y;have e6:l1<s.heap.objs.size:=by obtain⟨_,q,_⟩:=ab;exact ah3 q
 have e7:l2<s.heap.objs.size:=by obtain⟨_,q,_⟩:=ac;exact ah3 q
 have ae:(s.heap.push {cls:=.type "dict",data:=.dict #[] }).get? z=_:=ahX _ hz;refine⟨dn.typeIs,F.args_dict_init_2 _ _,?_⟩;refine ahV ?_;unfold Builtin.Dict.selfAndRest;refine ahV (wpAny_notOrdered_dict dn.typeIs ?_);refine ah0 ?_;show wpAny _ _ (Builtin.Dict.updateFrom "dict.__init__" s.heap.objs.size (.ref z) [] .none) _ _ _;unfold Builtin.Dict.updateFrom;refine ahV (am8 (T := "zip") ⟨_,ae,rfl⟩ ?_);refine ahV (yF ae (by simp[hh]) λg1 tk k1=>?_);have L:=λb o q=>k1 b o (ahX _ q);have af:=L _ _ hz;refine ahV (ajH ?_);refine ahV (amW af ?_);refine ah0 ⟨ake oY _,adb (by simp[hh]) Z ⟨aiX e1,aiX e2,aiX e3,aiX e4,aiX e5,aiX e6,aiX e7⟩ hsz aj ak nd al (xs.size-0) 0 _ _ rfl (ail _) (.inl ⟨af,let ⟨a,b,q⟩:=aa;⟨a,b,L _ _ q⟩⟩) (L _ _ Y) ?_ ?_ ?_ ?_ ?_ λh' an d' k'=>?_⟩
 .obtain⟨o,B,r⟩:=h1;exact⟨o,L _ _ B,r⟩
 .obtain⟨o,B,r⟩:=h2;exact⟨o,L _ _ B,r⟩
 .obtain⟨o,B,r⟩:=ab;exact⟨o,L _ _ B,r⟩
 .obtain⟨o,B,r⟩:=ac;exact⟨o,L _ _ B,r⟩
 .obtain⟨o,es,ep,B,r⟩:=dn;exact⟨o,es,ep,k1 _ _ B,r⟩
 .exact⟨rfl,h h' an d' λb o n2 n3 n4 n5 q=>k' b o (ah6 (ah3 q)) n2 n3 n4 n5 (L b o q)⟩
end
theorem adP:∀{ks vs:List _} {us},Vals (vs.map V.str) us->KV ((ks.zip vs).map λp=>(Sum.inr p.1,V.str p.2)) (prz ks us)
 |[],_,_,_=>.nil
 |_::_,[],_,r=>by cases r;exact .nil
 |k::ks,v::vs,_,r=>by
  cases r with
  |cons a b=>exact .cons ⟨rfl,a⟩ (adP b)
theorem wq{n a b:Nat}(z:a<n)(B:b<n):ZipApart (n+4) (n+2) (n+3) n (n+1) a b:=by
 constructor<;>first|grind|grind
def ac8(K:PySem.W.Frag)(ta:TA):TE:=λσ H Q=>ta σ H λxs H1=>∃(a b:Addr) (ks vs:List Str),xs=[.ref a,.ref b]/\SqL K H1 a (ks.map V.str)/\SqL K H1 b (vs.map V.str)/\ks.Nodup/\ks.length=vs.length ∧
 ∀d,H1 d=none->Q (.ref d) (upd H1 d (.dK ((ks.zip vs).map λp=>((Sum.inr p.1:Key),V.str p.2))))
section
variable {X:Cx}
theorem xa:bootBuiltins "zip" = some (.type "zip"):=by decide +kernel
theorem yN{a b:Expr}{ta:TA}{p p2 pos B:Pos}(hg:Gl X "dict")(hm:X.mg "dict" = none)(ac:Gl X "zip")(ad:X.mg "zip" = none)(hc:X.calm=true)(ha:PA X [a,b] ta)(ae:starEach [a,b] X.env=[(false,eval a X.env),(false,eval b X.env)]:=by rfl)(S:starEach [b] X.env=[(false,eval b X.env)]:=by rfl)
 (hs:starEach [.Call (.Name "zip" p2) [a,b] [] B] X.env=[(false,eval (.Call (.Name "zip" p2) [a,b] [] B) X.env)]:=by rfl):PE X (.Call (.Name "dict" p) [.Call (.Name "zip" p2) [a,b] [] B] [] pos) (ac8 X.K ta):=by
 intro pins s σ H Q I h;refine Call_ (kX I hg hm yC (aja ?_ hs rfl));rw[hs];show wpAny _ _ (spliced [(false,eval _ X.env)]) _ _ s;refine Calls.spliced_cons ?_;refine Call_ (kX I ac ad xa (aja (thn (ha B pins s σ H _ I h) λus J ⟨vs,H1,O,r1,q1⟩=>?_) (by rw[ae,S]) (by rw[S];rfl)));obtain⟨a,b,ks,aw,e,af,ag,nd,hl,q⟩:=q1;subst e;obtain⟨u,v,rfl,ru,rv⟩:=adl r1;cases ru;cases rv;obtain⟨its,rv,pl,hz⟩:=O.list af;obtain⟨Y,Z,L,ay⟩:=O.list ag;have la:a<J.heap.objs.size:=by obtain⟨_,q,_⟩:=pl.isList;exact ah3 q
 have lb:b<J.heap.objs.size:=by obtain⟨_,q,_⟩:=L.isList;exact ah3 q
 refine call_zip_2 pl.isList L.isList λh' a1 a2 a3 a4 a5 a6 k=>?_;have I2:=O.kept (t':=J.toks) k;refine Calls.spliced_nil ?_;have ak:h'.IsList a its.toArray:=by
  obtain⟨o,ho,r⟩:=pl.isList;exact⟨o,k _ _ ho,r⟩
 have am:h'.IsList b Y.toArray:=by
  obtain⟨o,ho,r⟩:=L.isList;exact⟨o,k _ _ ho,r⟩
 have n1:=rv.length;have n2:=Z.length;rw[ahY]at n1 n2 hz;have ZA:=wq la lb;refine sC  (ks:=ks) (O.ok.hd hc) ZA a1 a2 ⟨_,_,a3⟩ a4 a5 ak am (by rw[aiQ,aiQ];lia) (λi v e=>?_) (by rw[aiQ];lia) nd (by rw[aiQ];lia) λh2 tk d2 k2=>?_
 .have e':its[i]?=some v:=by simpa using e
  have hi:i<ks.length:=by rw[n1];exact (ahW.mp e').1
  obtain⟨u,hu,ru⟩:=rv.get (i:=i) (x:=V.str ks[i]) (by rw[ah1,ahU hi];rfl);obtain⟨t,rfl⟩:=ru;rw[e']at hu;simp_all
 have fp:∀c∈[J.heap.objs.size+4,J.heap.objs.size+3,J.heap.objs.size,J.heap.objs.size+1],gI X pins H1 c:=λc hc=>by
  simp only[ain,aiT,amh]at hc;rcases hc with z|z|z|z<;>rw[z]<;>exact O.fpOk (by lia) (O.hok.fresh (by lia))
 refine⟨.ref h'.objs.size,_,I2.turnedNew (t':=tk)   (by grind) fp (ah4 _) ?_,rfl,q _ (I2.hok.fresh (ah4 _))⟩;refine pI ?_ ?_ (adP Z) (by simpa using d2)
 .rw[ahY,List.length_zip];lia
 .exact beq_eq_false_iff_ne.mpr (aiX I2.big)
theorem acu{K nl ix te σ H1 D a Q xs F}(B:H1 a=some (.lst xs))(nD:H1 D=none)(Y:xs.length<=1000000)
 (J:∀x,((cC nl ix σ).set 0 (some x)).drop nl=ix.map λj=>(σ[j]?).join)
 (L:∀H x R,x∈xs->Same H1 H->R (F x) H->te ((cC nl ix σ).set 0 (some x)) H R)
 (Z:∀H,Same H1 H->H D=some (.lst (xs.map F))->Q (.ref D) H):gK nl ix (aR 0) nh te σ (Itl K a) H1 D Q:=by
 have O:1000000<sizeLine:=by decide
 refine bB  (λi ys H=>ys=(xs.take i).map F/\H D=some (.lst ys)/\Same H1 H) ⟨rfl,af,λb u e=>by rw[ai (ag e nD)];exact e⟩ (λi ys H ⟨_,h,_⟩=>h) (λi ys H ⟨_,_,s⟩=>aAA (s a _ B)) ?_ ?_
 .rintro i ys H x z ⟨rfl,S,s⟩;have hi:=(ahW.mp z).1;refine dy (J x) (L H x _ (ah7 z) s ⟨S,by grind,nx hi ⟨?_,af,λb u e=>?_⟩⟩)
  .rw[ais,z,aia]
   rfl
  .rw[ai (ag e nD)];exact s b u e
 grind
def bO(ks vs:List Str)(x:Str):Str:=(vs[ks.idxOf x]?).getD x
theorem gP{ks vs x}(z:x∈ks)(B:ks.length=vs.length):vs[ks.idxOf x]?=some (bO ks vs x):=by
 unfold bO;have h:ks.idxOf x<vs.length:=by rw[←B];exact aj5 z
 simp_all
theorem lL{ks vs}(z:ks.length=vs.length)(J:vs.Nodup):∀x∈ks,∀y∈ks,bO ks vs x=bO ks vs y->x=y:=by
 intro x B y L e;have O:=gP B z;have S:=gP L z;have h:ks.idxOf x<vs.length:=by rw[←z];exact aj5 B
 have Y:ks.idxOf x=ks.idxOf y:=(akN h J).mp (by simp_all);have Z:=List.getElem_idxOf (aj5 B);simp_all
theorem qc{ks vs}(z:ks.length=vs.length){x}(B:x∈ks):bO ks vs x∈vs:=ah7 (gP B z)
abbrev jY(ks vs:List Str):List (Key×V):=(ks.zip vs).map λp=>((Sum.inr p.1:Key),V.str p.2)
theorem rj:∀{ks vs} {x},x∈ks->ks.length=vs.length->cD (jY ks vs) (.inr x)=some (.str (bO ks vs x))
 |[],_,_,h,_=>by cases h
 |_::_,[],_,_,h=>by cases h
 |k::ks,v::vs,x,hx,hl=>by
  show cD ((Sum.inr k,V.str v)::jY ks vs) _=_;by_cases e:k=x
  .subst e;rw[bW rfl];simp[bO]
  .have z:x∈ks:=by
    grind
   rw[bV (by simpa using e),rj z (by simpa using hl)];have B:(k==x)=false:=by simpa using e
   simp[bO,List.idxOf_cons,B]
theorem we{K nl ix tf te σ H1 D a Q xs pb}(J:H1 a=some (.lst xs))(nD:H1 D=none)(Z:xs.length<=1000000)
 (L:∀x,((cC nl ix σ).set 0 (some x)).drop nl=ix.map λj=>(σ[j]?).join)
 (O:∀H x R,x∈xs->Same H1 H->R (pb x) H->tf ((cC nl ix σ).set 0 (some x)) H R)
 (S:∀H x R,R x H->te ((cC nl ix σ).set 0 (some x)) H R)
 (hd:∀H,Same H1 H->H D=some (.lst (xs.filter pb))->Q (.ref D) H):gK nl ix (aR 0) tf te σ (Itl K a) H1 D Q:=by
 have Y:1000000<sizeLine:=by decide
 refine bB  (λi ys H=>ys=(xs.take i).filter pb/\H D=some (.lst ys)/\Same H1 H) ⟨rfl,af,λb u e=>by rw[ai (ag e nD)];exact e⟩ (λi ys H ⟨_,h,_⟩=>h) (λi ys H ⟨_,_,s⟩=>aAA (s a _ J)) ?_ ?_
 .rintro i ys H x z ⟨rfl,B,s⟩;have hi:=(ahW.mp z).1;have lf:((xs.take i).filter pb).length<=i:=aij (aje _ _) (by grind);refine⟨⟨by simp,L x⟩,O H x _ (ah7 z) s ?_⟩;cases e:pb x with
  |true=>
   refine S H x _ ⟨B,by lia,nx hi ⟨?_,af,λb u e=>?_⟩⟩
   .rw[ais,z];simp[e]
   .rw[ai (ag e nD)];exact s b u e
  |false=>
   refine nx hi ⟨?_,B,s⟩;rw[ais,z,ai5];simp[e]
 grind
end
end L2
namespace L2
open PySem PySem.Spec PyProof.Rows
theorem sQ{nl ix}{tf:TT}{te:TE}{σ:St}{H1:Hp}{D}{Q:VK}{n:Nat}{pb}(nD:H1 D=none)(Z:n<=1000000)
 (J:∀x,((cC nl ix σ).set 0 (some x)).drop nl=ix.map λj=>(σ[j]?).join)
 (L:∀H i R,i<n->(∀b u,H1 b=some u->H b=some u)->(∀H',(∀b u,H b=some u->H' b=some u)->R (pb i) H')->tf ((cC nl ix σ).set 0 (some (.int i))) H R)
 (O:∀H x R,R x H->te ((cC nl ix σ).set 0 (some x)) H R)
 (hd:∀H,(∀b u,H1 b=some u->H b=some u)->H D=some (.lst (((List.range n).filter pb).map λ(i:Nat)=>V.int i))->Q (.ref D) H):gK nl ix (aR 0) tf te σ (Itr 0 n) H1 D Q:=by
 have S:1000000<sizeLine:=by decide
 refine lQ (λi ys H=>ys=((List.range i).filter pb).map (λ(i:Nat)=>V.int i)/\H D=some (.lst ys)/\∀b u,H1 b=some u->H b=some u) ⟨rfl,af,λb u e=>by rw[ai (ag e nD)];exact e⟩ (by grind) ?_ ?_
 .rintro i ys H hi ⟨rfl,Y,s⟩;have lf:(((List.range i).filter pb).map λ(i:Nat)=>V.int (i:Int)).length<=i:=by
   grind
  rw[Int.zero_add];refine⟨⟨by simp,J _⟩,L H i _ hi s λH' s'=>?_⟩;have z:=s' _ _ Y;have B:=λb u e=>s' _ _ (s b u e);cases e:pb i with
  |true=>
   refine O H' _ _ ⟨z,by lia,nx hi ⟨?_,af,λb u e=>?_⟩⟩
   .rw[ajP,ai5];simp[e]
   .rw[ai (ag e nD)];exact B b u e
  |false=>
   refine nx hi ⟨?_,z,B⟩;rw[ajP,ai5,aia];simp[e]
 simp_all
end L2
namespace L2
open PySem PySem.Spec PyProof.Rows PySem.W
theorem sP{a o kvs}{g:TG}{tb:TS}{D:xQ}{σ}{H}(Pv:Nat->St->Hp->Prop)(S:Pv 0 σ H)(Y:∀i σ H,i<=kvs.length->Pv i σ H->H a=some (.frz o (.dK kvs)))
 (hs:∀i k v σ H T,kvs[i]?=some (k,v)->Pv i σ H->H T=none->g (.ref T) σ (upd H T (.tup [kV k,v])) λz H2=>tb {D with nx:=Pv (i+1),ct:=Pv (i+1),bk:=D.nx} z H2)(Z:∀σ H,Pv kvs.length σ H->D.nx σ H):
 ∃W:Nat->Nat->St->Hp->Prop,(∃m,W 0 m σ H)/\∀i m σ H,W i m σ H →
  ((ItI a o kvs).stop i H/\D.nx σ H)\/((ItI a o kvs).go i H/\∃N ,(∀B H',N B H'->∃L,L<m/\W (i+1) L B H')/\∀x H',(ItI a o kvs).yld i H x H'->g x σ H' λz H2=>tb {D with nx:=N,ct:=N,bk:=D.nx} z H2):=by
 refine⟨λi m σ H=>m=kvs.length-i/\i<=kvs.length/\Pv i σ H,⟨kvs.length,rfl,ail _,S⟩,?_⟩;rintro i m σ H ⟨rfl,hi,p⟩;have O:=Y i σ H hi p;by_cases J:i<kvs.length
 .refine .inr ⟨⟨J,O⟩,Pv _,λB H' p'=>⟨kvs.length-(i+1),by lia,rfl,J,p'⟩,λx H' y=>?_⟩;obtain⟨T,k,v,ex,hT,eH,hu⟩:=y;simp_all
 .have e:i=kvs.length:=by lia
  subst e;exact .inl ⟨⟨rfl,O⟩,Z σ H p⟩
end L2
namespace L2
open PySem PySem.Spec PyProof.Rows
section
variable {X:Cx}
theorem aaj{prog w A E s B L pos}{z TI TO T:Addr}{Q}(J:IsZip s.heap z TI TO (rawInt T))
 (O:∀h',IsZip h' z TI TO .none->Heap.SameBut z s.heap h'->Q () {s with heap:=h' }):wpAny (model prog w) A (letOwnedTupleGo (.Tuple B L pos) (.ref z) (.ref T)) Q E s:=by
 refine ahV (ams J ?_);dsimp only;rw[if_pos (by simp)];exact amj J (by simp) O
def ItZ(K:PySem.W.Frag)(a b:Addr):It:=
 ⟨λi H=>∃xs ys x y,SqL K H a xs/\SqL K H b ys/\xs[i]?=some x/\ys[i]?=some y,λi H x H'=>∃T u v,x=.ref T/\H T=none/\H'=upd H T (.tup [u,v])/\(∀xs,SqL K H a xs->xs[i]?=some u)/\∀ys,SqL K H b ys->ys[i]?=some v,λi H=>∃xs ys,SqL K H a xs/\SqL K H b ys/\(xs.length<=i\/ys.length<=i)⟩
theorem acN{P:Program}{w:World}{K:PySem.W.Frag}{es:List Expr}{kk:Nat}{tp:Pos}{z TI TO Z i2 a b:Addr}(D:ZipApart z TI TO Z i2 a b):ab5 P w K (.Tuple es kk tp) (ItZ K a b) [z,TO,Z,i2,TI] z (λi h=>IsZip h z TI TO .none/\IsPair h TI (.ref Z) (.ref i2)/\(∃u v,IsPair h TO u v)/\h.IsListIter Z a i/\h.IsListIter i2 b i) where
 mem:=by simp
 obj:=λi h st c B=>by
  obtain⟨O,J,⟨u,v,L⟩,h1,h2⟩:=st;simp only[ain,aiT,amh]at B;rcases B with rfl|rfl|rfl|rfl|rfl
  .exact⟨_,O,λv z=>by cases z⟩
  .exact⟨_,L,λv z=>by cases z⟩
  .obtain⟨o,e,_,d⟩:=h1;exact⟨o,e,λv z=>by rw[d]at z;cases z⟩
  .obtain⟨o,e,_,d⟩:=h2;exact⟨o,e,λv z=>by rw[d]at z;cases z⟩
  .exact⟨_,J,λv z=>by cases z⟩
 keep:=λi h h' st k=>by
  obtain⟨O,J,⟨u,v,L⟩,h1,h2⟩:=st;exact⟨k _ (by simp) _ O,k _ (by simp) _ J,⟨u,v,k _ (by simp) _ L⟩,h1.at λo e=>k _ (by simp) o e,h2.at λo e=>k _ (by simp) o e⟩
 item:=by
  intro X hP hw hK hc i pins s σ H E I hf st hg;subst hP hw hK;obtain⟨xs,ys,x,y,S,Y,hx,hy⟩:=hg;obtain⟨af,ab,p1,_⟩:=I.list S;obtain⟨ag,ac,p2,_⟩:=I.list Y;obtain⟨u1,ap,aq⟩:=ab.get hx;obtain⟨u2,as,au⟩:=ac.get hy;obtain⟨O,J,⟨u,v,L⟩,h1,h2⟩:=st;have lt:∀c∈[z,TO,Z,i2,TI],c<s.heap.objs.size:=λc B=>by
   simp only[ain,aiT,amh]at B;rcases B with rfl|rfl|rfl|rfl|rfl
   .exact ah3 O
   .exact ah3 L
   .obtain⟨o,e,_⟩:=h1;exact ah3 e
   .obtain⟨o,e,_⟩:=h2;exact ah3 e
   .exact ah3 J
  refine wpAny_pyNext_zip_item D O J L h1 h2 p1.isList p2.isList (x:=u1) (y:=u2) (by simpa using ap) (by simpa using as) λh' z1 av l1 l2 pr sz k=>?_;refine⟨_,rfl,aaj z1 λh3 z3 s3=>?_⟩;have ne:∀c∈[z,TO,Z,i2,TI],s.heap.objs.size≠c:=λc hc=>aiX (lt c hc);have ax:IsPair h3 s.heap.objs.size u1 u2:=(s3.2 _ (ne _ (by simp))).trans pr;have old:∀c o,c∉[z,TO,Z,i2,TI]->s.heap.get? c=some o->h3.get? c=some o:=λc o B q=>(s3.2 c (λe=>B (by simp[e]))).trans (k c o (λe=>B (by simp[e])) (λe=>B (by simp[e])) (λe=>B (by simp[e])) (λe=>B (by simp[e])) q);have I2:=I.turnedNew (t':=s.toks) (h':=h3) (o:=.tup [x,y]) old hf (ah4 _) ⟨by show 2<=sizeLine;decide,[u1,u2],.cons aq (.cons au .nil),_,ax,rfl,_,rfl⟩;have fr:H s.heap.objs.size=none:=I.fresh;refine⟨.ref s.heap.objs.size,_,I2,rfl,⟨_,x,y,rfl,fr,rfl,λzs O=>by rw[I.list_inj O S];exact hx,λzs O=>by rw[I.list_inj O Y];exact hy⟩,⟨z3,(s3.2 _ D.TIz).trans (k _ _ D.TIz D.TITO D.TIi1 D.TIi2 J),⟨_,_,(s3.2 _ D.TOz).trans av⟩,l1.at λo q=>(s3.2 _ D.i1z).trans q,l2.at λo q=>(s3.2 _ D.i2z).trans q⟩,λc B=>?_⟩;rw[ai (ah6 (lt c B))];exact (hf c B).1
 done:=by
  intro X hP hw hK hc i pins s σ H E I hf st hg;subst hP hw hK;obtain⟨xs,ys,S,Y,hx⟩:=hg;obtain⟨af,ab,p1,_⟩:=I.list S;obtain⟨ag,ac,p2,_⟩:=I.list Y;obtain⟨O,J,⟨u,v,L⟩,h1,h2⟩:=st;have hl:=ab.length;have aF:=ac.length;exact wpAny_pyNext_zip_end (I.ok.hd hc) D O J L h1 h2 p1.isList p2.isList (hx.elim (λhx=>.inl (by simp;lia)) λhx=>.inr (by simp;lia)) λh' eb=>⟨rfl,I.turnedL (t':=s.toks) (λc o B q=>eb c o (λe=>B (by simp[e])) (λe=>B (by simp[e])) (λe=>B (by simp[e])) (λe=>B (by simp[e])) q) hf⟩
 self:=λ_ _ _ _ _ st h=>amW st.1 h
theorem aa4{n a b:Nat}(z:a<n)(B:b<n):ZipApart (n+4) (n+2) (n+3) n (n+1) a b:=by
 refine⟨?_,?_,?_,?_,?_,?_,?_,?_,?_,?_,?_,?_,?_,?_,?_,?_,?_,?_⟩<;>exact λh=>by revert h;exact (λ(h:@Eq Nat _ _)=>by lia)
def ahz(K:PySem.W.Frag)(ta:TA):TI:=λσ H R=>ta σ H λvs H1=>∃a b,vs=[.ref a,.ref b]/\(∃xs,SqL K H1 a xs)/\(∃ys,SqL K H1 b ys)/\R (ItZ K a b) H1
theorem adR{L B ta p pos es kk tp}(hg:Gl X "zip")(hm:X.mg "zip" = none)(ha:PA X [L,B] ta)(hs:starEach [L,B] X.env=(false,eval L X.env)::starEach [B] X.env:=by rfl)(O:(backTo pos (starEach [B] X.env)).any (·.1)=false:=by rfl):PI X (.Tuple es kk tp) (.Call (.Name "zip" p) [L,B] [] pos) (ahz X.K ta):=by
 intro pins s σ H R I h;refine Call_ (kX I hg hm xa (aja (thn (ha _ _ s σ H _ I h) λus z ⟨vs,H1,J,r1,q1⟩=>?_) hs O));obtain⟨a,b,e,⟨xs,S⟩,⟨ys,Y⟩,q⟩:=q1;subst e;cases r1 with
 |cons ru rr=>
  cases rr with
  |cons rw rn=>
   cases rn;cases ru;cases rw;obtain⟨ab,ar,p1,_⟩:=J.list S;obtain⟨ad,as,p2,_⟩:=J.list Y;have la:a<z.heap.objs.size:=by obtain⟨o,e,_⟩:=p1.isList;exact ah3 e
   have lb:b<z.heap.objs.size:=by obtain⟨o,e,_⟩:=p2.isList;exact ah3 e
   refine call_zip_2 p1.isList p2.isList λh' hz Z aa h1 h2 sz k=>?_;have I2:=J.kept (t':=z.toks) k;have D:=aa4 la lb;refine amW hz ⟨_,[z.heap.objs.size+4,z.heap.objs.size+3,z.heap.objs.size,z.heap.objs.size+1,z.heap.objs.size+2],_,ItZ _ a b,H1,rfl,I2,acN D,⟨hz,Z,⟨_,_,aa⟩,h1,h2⟩,λc hb=>?_,q⟩;have hc:z.heap.objs.size<=c:=by
    simp only[ain,aiT,amh]at hb;rcases hb with h|h|h|h|h<;>rw[h]<;>first|exact Nat.le_add_right _ _|exact ah4 _
   exact J.fpOk hc (J.hok.fresh hc)
end
end L2
namespace L2
open PySem PySem.Spec PyProof.Rows
def afw(K:PySem.W.Frag)(a:Addr)(n:Nat):It:=
 ⟨λi H=>∃xs x,SqL K H a xs/\i<n/\xs[n-1-i]?=some x,λi H x H'=>H'=H/\∀xs,SqL K H a xs->xs[n-1-i]?=some x,λi H=>i=n⟩
theorem acP{P:Program}{w:World}{K:PySem.W.Frag}{tg:Expr} a it n:ab5 P w K tg (afw K a n) [it] it (λi h=>h.IsRevIter it a (n-1-i)) where
 mem:=by simp
 obj:=λi h st b z=>by
  have e:b=it:=by simpa using z
  obtain⟨o,e,c,d⟩:=st;simp_all
 keep:=λi h h' st k=>st.at λo e=>k it (by simp) o e
 item:=by
  intro X L hw O hc i pins s σ H E I J st S;subst L hw O;obtain⟨xs,x,hq,hi,hx⟩:=S;obtain⟨its,rv,p,hz⟩:=I.list hq;obtain⟨u,hu,ru⟩:=rv.get hx;obtain⟨Y,Z,f2,f3,f4,f5⟩:=J it (by simp);rw[show (n-1-i)=((n-1-i:Nat):Int) by lia]at st;refine wpAny_pyNext_rev_item st p.isList  (by simpa using hu) λh' B sb=>?_;have I1:=I.turned (t':=s.toks) (λb o z e=>(sb.2 b z).trans e) Y Z f3 f4 f5;rw[show (((n-1-i:Nat):Int)-1)=((n:Int)-1-((i+1:Nat):Int)) by lia]at B;obtain⟨o,e,c,d⟩:=id B;exact⟨u,rfl,acH  e c d (by decide) ⟨x,H,I1,ru,⟨rfl,λys hy=>by rw[I.list_inj hy hq];exact hx⟩,B,λb z=>(J b z).1⟩⟩
 done:=by
  intro X L hw O hc i pins s σ H E I J st S;subst L hw O;have ad:i=n:=S;subst ad;obtain⟨Y,Z,f2,f3,f4,f5⟩:=J it (by simp);rw[show ((i:Int)-1-i)=-1 by lia]at st;exact wpAny_pyNext_rev_end (I.ok.hd hc) st λh' eb=>⟨rfl,I.turned  (λb o z e=>eb b o z e) Y Z f3 f4 f5⟩
 self:=λ_ _ _ _ _ st h=>wpAny_pyIter_revIter st h
def ahD(K:PySem.W.Frag)(ta:TA):TI:=λσ H R=>ta σ H λvs H1=>∃a xs,vs=[.ref a]/\SqL K H1 a xs/\R (afw K a xs.length) H1
theorem afP{X tg z ta p pos}(O:Gl X "reversed")(S:X.mg "reversed" = none)(Y:PA X [z] ta)(Z:starEach [z] X.env=(false,eval z X.env)::starEach [] X.env:=by rfl)(J:(backTo pos (starEach [] X.env)).any (·.1)=false:=by rfl):PI X tg (.Call (.Name "reversed" p) [z] [] pos) (ahD X.K ta):=by
 intro pins s σ H R I h;refine Call_ (kX I O S Boot.reversed (aja (thn (Y _ _ s σ H _ I h) λus L ⟨vs,H1,B,r1,q1⟩=>?_) Z J));obtain⟨a,xs,e,hq,q⟩:=q1;subst e;obtain⟨u,rfl,ru⟩:=jK r1;cases ru;obtain⟨its,rv,p1,_⟩:=B.list hq;refine call_reversed_list p1.isList (wpAny_pyIter_revIter  ⟨_,aib _ rfl,rfl,rfl⟩ ?_);refine⟨L.heap.objs.size,[L.heap.objs.size],_,_,H1,rfl,B.kept  λb o=>ahX _,acP a _ _,⟨_,aib _ rfl,rfl,?_⟩,λb hb=>?_,q⟩
 .have:=rv.length;show Data.fields _=Data.fields _;simp_all
 .have e:=by simpa using hb
  subst e;exact B.fpOk (ah4 _) (B.hok.fresh (ah4 _))
theorem aeu{K a xs}{g:TG}{tb:TS}{D:xQ}{σ}{H}(Pv:Nat->St->Hp->Prop)(O:Pv 0 σ H)(S:∀i σ H,i<=xs.length->Pv i σ H->SqL K H a xs)
 (hs:∀i x σ H,xs[xs.length-1-i]?=some x->i<xs.length->Pv i σ H->g x σ H λz H2=>tb {D with nx:=Pv (i+1),ct:=Pv (i+1),bk:=D.nx} z H2)(Y:∀σ H,Pv xs.length σ H->D.nx σ H):
 ∃W:Nat->Nat->St->Hp->Prop,(∃m,W 0 m σ H)/\∀i m σ H,W i m σ H →
  ((afw K a xs.length).stop i H/\D.nx σ H)\/((afw K a xs.length).go i H/\∃N ,(∀B H',N B H'->∃L,L<m/\W (i+1) L B H')/\∀x H',(afw K a xs.length).yld i H x H'->g x σ H' λz H2=>tb {D with nx:=N,ct:=N,bk:=D.nx} z H2):=by
 refine⟨λi m σ H=>m=xs.length-i/\i<=xs.length/\Pv i σ H,⟨xs.length,rfl,ail _,O⟩,?_⟩;rintro i m σ H ⟨rfl,hi,p⟩;have q:=S i σ H hi p;by_cases J:i<xs.length
 .refine .inr ⟨⟨xs,_,q,J,ahU (by lia)⟩,Pv _,λB H' Z=>⟨xs.length-(i+1),by lia,rfl,J,Z⟩,λx H' y=>?_⟩;obtain⟨e,y⟩:=y;simp_all
 .have e:i=xs.length:=by lia
  subst e;exact .inl ⟨rfl,Y σ H p⟩
end L2
namespace L2
open PySem PySem.Spec PyProof.Rows PySem.W
section
variable {X:Cx}
theorem u7(hc:X.calm=true):gn X (.builtin "sum") (λxs H Q=>∃(p:Addr) (B:List Int),xs=[.ref p]/\SqL X.K H p (B.map V.int)/\Q (.int B.sum) H):=by
 intro pins s σ H xs us Q I r h;obtain⟨p,B,rfl,hq,q⟩:=h;obtain⟨u,rfl,rx⟩:=jK r;cases rx;obtain⟨its,Y,S,hz⟩:=I.list hq;have hh:X.A.in1.handled=none:=I.ok.hd hc;have L:p<s.heap.objs.size:=by obtain⟨o,e,_⟩:=S.isList;exact ah3 e
 have J:=Y.length;rw[ahY]at J;refine call_sum_walkG (aln S.isList ⟨s.heap.objs.size,_,_,_,_,_,λi=>B.getD i 0,rfl,Walks.list hh s.heap.objs.size p (ah6 L) its.toArray,⟨⟨_,aib _ rfl,rfl,rfl⟩,S.isList.push _⟩,λb hb=>?_,λi v hv=>?_,λh' tk t' Z=>?_⟩)
 .rw[aiP];rcases ain.mp hb with rfl|hb
  .exact akb _
  .rw[ah5.mp hb];exact aiB L
 .have O:=by simpa using hv
  have hi:i<its.length:=(ahW.mp O).1;have hb:B[i]?=some (B.getD i 0):=by
   simp_all
  obtain⟨u,hu,ru⟩:=Y.get (i:=i)  (by rw[ah1,hb];rfl);rw[O]at hu;cases hu;exact ru
 .have e:preSum (λi=>B.getD i 0) its.toArray.size=B.sum:=by
   have all:∀(k:Nat) (l:List Int),k<=l.length->preSum (λi=>l.getD i 0) k=(l.take k).sum:=λk=>by
    induction k with
    |zero=>simp[preSum]
    |succ k ih=>
     intro l Z;rw[preSum,ih l (by lia),ais,List.sum_append,ajD,ahU (by lia)];simp
   rw[aiQ,←J,all _ B (ah4 _),aiz]
  rw[e];refine⟨.int _,H,(I.kept   λb o e=>ahX _ e).turned  (t':=tk) (h':=h') (λb o hb e=>Z b o (by simpa using hb) e) I.fresh (aiX I.lt) (.inr I.sz) (λx c e z=>?_) λp' hp z=>?_,⟨_,rfl⟩,q⟩
  .obtain⟨v,q⟩:=I.cell x c e;exact absurd (z▸q.lt) (ai8 _)
  .exact absurd (z▸ah3 (I.pin p' hp).1) (ai8 _)
theorem qx{P w}:∀{acc} {kvs:List (Key×Value)},acc.length=kvs.length->(∀(j:Nat) v,acc[j]?=some v->∃k x,kvs[j]?=some (k,x)/\(bj P w).is k v=true)->Vals (kvs.map λp=>kV p.1) acc
 |[],[],_,_=>.nil
 |_::_,[],h,_=>by simp at h
 |[],_::_,h,_=>by simp at h
 |v::acc,(k,x)::kvs,hl,hp=>by
  obtain⟨B,J,e,z⟩:=hp 0 v rfl;cases e;exact .cons (nG z) (qx   (by simpa using hl) λj=>hp (j+1))
theorem pU(Z:X.calm=true):gn X (.type "list") (λxs H Q=>∃a kvs,xs=[.ref a]/\H a=some (.dK kvs)/\kvs.length<=sizeLine/\∀l:_,H l=none->Q (.ref l) (upd H l (.lst (kvs.map λp=>kV p.1)))):=by
 intro pins s σ H xs us Q I r h;obtain⟨a,kvs,rfl,e,hl,q⟩:=h;obtain⟨u,rfl,rx⟩:=jK r;cases rx;obtain⟨z,hd,Y,O,dd⟩:=m7 I.hok e;obtain⟨ep,da⟩:=dd.dictAt;have kk:=O.keys.symm;have kl:=by simpa using aiO List.length kk
 refine kdl_call (kdl_dict    hd) (I.ok.hd Z) da (by lia) λh' tk J c hk hS B=>?_;have S:J.toList.length=Y.length:=B.1;have L:=qx S λj v e=>B.2 j v (by simp_all);have ek:(Y.map λp=>kV p.1)=kvs.map λp=>kV p.1:=by
  have:=aiO (List.map kV) kk;rwa [aiG,aiG]at this
 rw[ek]at L;exact⟨.ref _,_,I.laid  (o:=.lst _) hk (ah4 _) ⟨by simp_all,J.toList,c,L,hS⟩,rfl,q _ (I.hok.fresh (ah4 _))⟩
end
theorem tJ{nl ix g tf te σ H1 D Q}(Pv:Nat->List V->Hp->Prop){a o kvs}(J:Pv 0 [] (upd H1 D (.lst [])))(L:∀i ys H,Pv i ys H->H D=some (.lst ys))(B:∀i ys H,Pv i ys H->H a=some (.frz o (.dK kvs)))
 (O:∀i ys H k v,kvs[i]?=some (k,v)->Pv i ys H->cq nl ix g tf te σ D ys H (kV k) λz H'=>Nx kvs.length i (Pv (i+1) z H'))(S:∀ys H,Pv kvs.length ys H->Q (.ref D) H):gK nl ix g tf te σ (ItK a o kvs) H1 D Q:=by
 refine qg  Pv J L (λi ys H hi p=>⟨hi,B i ys H p⟩) (λys H p=>⟨rfl,B _ ys H p⟩) (λi ys H x H' hi p y=>?_) S;obtain⟨e,k,v,y,ex⟩:=y;subst e ex;exact O i ys _ k v y p
end L2
namespace L2
open PySem PySem.Spec PyProof.Rows
theorem kC{K nl ix te σ H1 D a Q xs F}(B:H1 a=some (.lst xs))(nD:H1 D=none)(Y:xs.length<=1000000)
 (J:∀x,((cC nl ix σ).set 0 (some x)).drop nl=ix.map λj=>(σ[j]?).join)
 (L:∀H x R,x∈xs->Same H1 H->(∀H',Same H H'->R (F x) H')->te ((cC nl ix σ).set 0 (some x)) H R)
 (Z:∀H,Same H1 H->H D=some (.lst (xs.map F))->Q (.ref D) H):gK nl ix (aR 0) nh te σ (Itl K a) H1 D Q:=by
 have O:1000000<sizeLine:=by decide
 refine bB  (λi ys H=>ys=(xs.take i).map F/\H D=some (.lst ys)/\Same H1 H) ⟨rfl,af,λb u e=>by rw[ai (ag e nD)];exact e⟩ (λi ys H ⟨_,h,_⟩=>h) (λi ys H ⟨_,_,s⟩=>aAA (s a _ B)) ?_ ?_
 .rintro i ys H x z ⟨rfl,S,s⟩;have hi:=(ahW.mp z).1;refine dy (J x) (L H x _ (ah7 z) s λH' s'=>⟨s' _ _ S,by grind,nx hi ⟨?_,af,λb u e=>?_⟩⟩)
  .rw[ais,z,aia]
   rfl
  .rw[ai (ag e nD)];exact s' _ _ (s b u e)
 grind
theorem tU{X K a ta}(B:X.K=K)(J:PE X a ta)(L:∀z,isTrue a X.env z=(do let v ←z;standAt a.pos;holding [v] (truthy v))):
 PT X a (λσ H Q=>ta σ H λx H'=>∃k,agW K x H' k/\Q k H'):=by
 subst B;exact xS J L
theorem ye{nl:Nat}{ix:List Nat}{tf:TT}{te:TE}{σ:St}{H1:Hp}{D a:Addr}{o:Obj}{kvs:List (Key×V)}{Q:VK}{F:Key->V}{pb:Key->Bool}(Y:H1 a=some (.frz o (.dK kvs)))(nD:H1 D=none)(hl:kvs.length<=1000000)
 (Z:∀x,((cC nl ix σ).set 0 (some x)).drop nl=ix.map λj=>(σ[j]?).join)
 (ht:∀(H:Hp) (k:Key) (R:Bool->Hp->Prop),k∈kvs.map (·.1)->Same H1 H->(∀H',Same H H'->R (pb k) H')->tf ((cC nl ix σ).set 0 (some (kV k))) H R)
 (he:∀(H:Hp) (k:Key) (R:VK),k∈kvs.map (·.1)->pb k=true->Same H1 H->(∀H',Same H H'->R (F k) H')->te ((cC nl ix σ).set 0 (some (kV k))) H R)
 (hd:∀H,Same H1 H->H D=some (.lst (((kvs.map (·.1)).filter pb).map F))->Q (.ref D) H):gK nl ix (aR 0) tf te σ (ItK a o kvs) H1 D Q:=by
 have B:1000000<sizeLine:=by decide
 refine tJ (λi ys H=>ys=(((kvs.map (·.1)).take i).filter pb).map F/\H D=some (.lst ys)/\Same H1 H) ⟨rfl,af,λb u e=>by rw[ai (ag e nD)];exact e⟩ (λi ys H ⟨_,h,_⟩=>h) (λi ys H ⟨_,_,s⟩=>s a _ Y) ?_ ?_
 .rintro i ys H k v J ⟨rfl,z,s⟩;have hi:=(ahW.mp J).1;have L:(kvs.map (·.1))[i]?=some k:=by rw[ah1,J];rfl
  have O:=ah7 L;refine kN (Z _) (ht H k _ O s λH' s'=>?_);have et:(kvs.map (·.1)).take (i+1)=(kvs.map (·.1)).take i++[k]:=by rw[ais,L];rfl
  cases hb:pb k with
  |true=>
   refine mZ (he H' k _ O hb (s.trans s') λH2 S=>⟨S _ _ (s' _ _ z),?_,nx hi ⟨?_,af,λb u e=>?_⟩⟩)
   .rw[ahY];exact aiA (aij (aje _ _) (by rw[aif,ahY];lia)) B
   .simp_all
   .rw[ai (ag e nD)];exact S _ _ (s' _ _ (s b u e))
  |false=>
   refine iR (nx hi ⟨?_,s' _ _ z,s.trans s'⟩);simp_all
 .rintro ys H ⟨rfl,z,s⟩;rw[aiS (by simp_all)]at z;exact hd H s z
theorem wg{nl:Nat}{ix}{tk tv:TE}{σ:St}{H1:Hp}{D a:Addr}{o:Obj}{kvs}{Q:VK}{F:Key->V}(L:H1 a=some (.frz o (.dK kvs)))(nd:(kvs.map (·.1)).Nodup)(nD:H1 D=none)(hl:kvs.length<=1000000)
 (Z:∀x,((cC nl ix σ).set 0 (some x)).drop nl=ix.map λj=>(σ[j]?).join)
 (hk:∀H k R,R (kV k) H->tk ((cC nl ix σ).set 0 (some (kV k))) H R)
 (hv:∀H k R,k∈kvs.map (·.1)->Same H1 H->(∀H',Same H H'->R (F k) H')->tv ((cC nl ix σ).set 0 (some (kV k))) H R)
 (hd:∀H,Same H1 H->H D=some (.dK (kvs.map λp=>(p.1,F p.1)))->Q (.ref D) H):qS nl ix (aR 0) nh tk tv σ (ItK a o kvs) H1 D Q:=by
 have ac:1000000<sizeLine:=by decide
 refine wF  (λi ys H=>ys=(kvs.take i).map (λp=>(p.1,F p.1))/\H D=some (.dK ys)/\Same H1 H) ⟨rfl,af,λb u e=>by rw[ai (ag e nD)];exact e⟩ (λi ys H ⟨_,h,_⟩=>h) (λi ys H hi ⟨_,_,s⟩=>⟨hi,s a _ L⟩) (λys H ⟨_,_,s⟩=>⟨rfl,s a _ L⟩) ?_ ?_
 .rintro i ys H x H' hi ⟨rfl,hD,s⟩ ⟨e,k,v,O,ex⟩;subst e ex;have B:(kvs.map (·.1))[i]?=some k:=by rw[ah1,O];rfl
  refine qR (Z _) (hk _ k _ (hv _ k _ (ah7 B) s λH2 S=>⟨k,rfl,S _ _ hD,by rw[ahY,aif];lia,nx hi ⟨?_,af,λb u e=>?_⟩⟩))
  .have no:cD ((kvs.take i).map λp=>(p.1,F p.1)) k=none:=by
    rw[←Option.not_isSome_iff_eq_none,←iK];intro z;obtain⟨q,hq,e⟩:=amX.mp z;obtain⟨r,hr,rfl⟩:=ah8.mp hq;obtain⟨j,Y⟩:=aiW hr;rw[List.getElem?_take]at Y;split at Y
    .have J:(kvs.map (·.1))[j]?=some k:=by simp_all
     have:=(akN (ahW.mp J).1 nd).mp (J.trans B.symm);lia
    grind
   rw[jh _ no,ais,O,aia]
   rfl
  .rw[ai (ag e nD)];exact S _ _ (s b u e)
 simp_all
section
variable {X:Cx}
theorem ac6{i:Nat}{x:Str}{pos' am:Pos}{kx vx tg iter:Expr}{ifs:List Expr}{scope:Scope}{pos:Pos}{N':List Str}{nl:Nat}{ix:List Nat}{wi:TI}{g:TG}{tf:TT}{tk tv:TE}(hN:X.N.Nodup)(aW:X.N[i]?=some x)(hx:Loc X.env.scope x)
 (hc:X.calm=true)(S:CompScope X scope)(Cp:abf X scope N' nl ix)(hi:PI X tg iter wi)
 (hg:∀C fp s₀ H₀,PG (X.comp scope N' C fp s₀ H₀) tg g)(hf:∀C fp s₀ H₀,PIf (X.comp scope N' C fp s₀ H₀) ifs tf)(hk:∀C fp s₀ H₀,PE (X.comp scope N' C fp s₀ H₀) kx tk)(hv:∀C fp s₀ H₀,PE (X.comp scope N' C fp s₀ H₀) vx tv)
 (aX:swapsWith (.DictComp kx vx [⟨tg,iter,ifs,0⟩] scope pos) (some (.Name x pos')) am.line X.env=pure true)
 (hs:∀x,foldedSetIterable iter X.env x=pure x)(aZ:X.fn x=true\/X.env.scope.names.lookup x=some .local):PS X (.Assign [.Name x pos'] (.DictComp kx vx [⟨tg,iter,ifs,0⟩] scope pos) am) (qC (tV nl ix wi g tf tk tv) (aR i)):=by
 intro pins s σ H D I h;rw[exec_Assign_Name_used _ _ _ _ aX];refine ahV (ai3 (ahV (ahV (aiu (ajb   (Q:=λ_ s'=>∃ab H',Inv X _ ab H' s'/\D.nx _ H') rfl hs (cM (S.cells I.ok)) S.kind S.loc ?_) (λ_ s' hq=>ah0 (ah0 hq)) λ_ _ e=>e))));refine thn (hi pins s σ H _ I h) λv s1 h1=>thn h1 λbL B h2=>?_;obtain⟨it,fp,tn,J,H2,rfl,I2,T,ap,f2,h2⟩:=h2;obtain⟨W,⟨m0,w0⟩,ay⟩:=h2 B.heap.objs.size I2.fresh;refine ajc (ajC S.nocell (by intro y hy;simp at hy) (λaz O Y=>?_) S.kind);dsimp only at O Y⊢;have aA:∀b∈fp,b<B.heap.objs.size:=λb L=>by
  obtain⟨o,e,_⟩:=T.obj 0 _ ap b L;exact ah3 e
 have I3:=I2.laid   (t':=B.toks) (λ_ _=>ahX _) (ah4 _) (lu _ I2.big);have hD:(upd H2 B.heap.objs.size _) _=some (.dK []):=af;have f3:∀b∈fp,gI X _ (upd H2 _ (.dK [])) b:=λb L=>by
  refine⟨?_,(f2 b L).2⟩;rw[ai (ah6 (aA b L))];exact (f2 b L).1
 generalize hS3:B.heap.push {cls:=.type "dict",dict:=none,data:=.dict #[] }=Z at O Y I3⊢;have a3:Z.objs.size=B.heap.objs.size+1:=by rw[←hS3,aiP]
 have an:∀b∈fp,b < {B with heap:=Z,toks:=B.toks}.heap.objs.size:=λb L=>by
  rw[a3];exact aiB (aA b L)
 have old:=λb o e=>Y.extBut b o (ah6 (ah3 e)) (ahX _ e);have I4:=jy (tk:=B.toks+([]:List (Str×Value)).length) S Cp I3 f3 an O old;generalize hX:X.comp scope N' Z.objs.size fp {B with heap:=Z,toks:=B.toks} (upd H2 B.heap.objs.size (.dK []))=X' at *;have ac:X'.prog=X.prog:=by rw[←hX];rfl
 have ad:X'.w=X.w:=by rw[←hX];rfl
 have aB:X'.K=X.K:=by rw[←hX];rfl
 have a4:X'.A=X.A:=by rw[←hX];rfl
 have aC:X'.calm=true:=by rw[←hX];exact hc
 have ak:X'.xe=λ_ _=>False:=by rw[←hX];rfl
 have aq:X'.ex=fp:=by rw[←hX];rfl
 have a5:X'.pn=[]:=by rw[←hX];rfl
 have ar:X'.env.locals=Z.objs.size:=by rw[←hX];rfl
 have a6:X'.env=compEnvC scope (jJ X.env scope.names []) Z.objs.size X.env:=by rw[←hX];rfl
 have aD:=hg Z.objs.size fp {B with heap:=Z,toks:=B.toks} (upd H2 B.heap.objs.size (.dK []));have aE:=hf Z.objs.size fp {B with heap:=Z,toks:=B.toks} (upd H2 B.heap.objs.size (.dK []));have aG:=hk Z.objs.size fp {B with heap:=Z,toks:=B.toks} (upd H2 B.heap.objs.size (.dK []));have aH:=hv Z.objs.size fp {B with heap:=Z,toks:=B.toks} (upd H2 B.heap.objs.size (.dK []));rw[hX]at aD aE aG aH;have as:=I4;have aI:∀{H' } {ab:St} {pins' } {s' } {h' },Inv X' pins' ab H' s'->Heap.SameBut Z.objs.size s'.heap h'->Inv X _ σ H' {s' with heap:=h' }:=λI' sb=>by
  subst hX;exact gY I3 f3 I' sb
 have ae:∀{H' },(∀b∈fp,H' b=none)->∀b∈fp,gI X' [] H' b:=λhn b L=>by
  refine⟨hn b L,?_,?_,.inl (by rw[aq];exact L),?_,λp hp=>by rw[a5]at hp;cases hp⟩
  .rw[ar];exact ah6 (an b L)
  .exact as.ok.exfs b (by rw[aq];exact L)
  .exact (as.ok.exf b (by rw[aq];exact L)).2
 have ag:codeAny (model X.prog X.w) X.A (.compLoop (.DictComp kx vx [⟨tg,iter,ifs,0⟩] scope pos) 0 (.ref it) (.ref B.heap.objs.size) X'.env)
  (compPost (model X.prog X.w) X.A X.xe (some (assign (.Name x pos') X.env)) (λ_ s'=>∃ab H',Inv X pins ab H' s'/\D.nx ab H') (.ref B.heap.objs.size) Z.objs.size) {B with heap:=az,toks:=B.toks+([]:List (Str×Value)).length}:=by
  rw[←ac,←ad,←a4];refine qk (λn s'=>∃i ys H',Inv X' [] _ H' s'/\tn i s'.heap/\(∀b∈fp,H' b=none)/\W i n ys H') ?_ m0
   ⟨0,[],_,as,T.keep _ _ _ ap (λb L o e=>old b o (by rw[←hS3];exact ahX _ e)),λb L=>(f3 b L).1,w0⟩
  rintro n s5 ⟨i,ys,H5,I5,aJ,aK,w5⟩;obtain⟨bS,a7⟩:=ay i n ys H5 w5;rcases a7 with ⟨stop,qn⟩|⟨go,step⟩
  .rw[ac,ad];refine thn (T.done X' ac ad aB aC i [] s5 _ H5 _ I5 (ae aK) aJ stop) λr s6 ⟨hr,I6⟩=>?_;subst hr;obtain⟨m,hn,_⟩:=I6.loc;rw[ar]at hn;have I7:Inv X _ σ H5 s6:=aI I6 (amA _ _);have nC:=by
    have:=I6.free;rw[ar]at this;exact this
   have fC:gI X _ H5 Z.objs.size:=I3.fpOk (ah4 _) nC;refine amr (oK I7 hN aW hx (v:=.ref B.heap.objs.size) rfl (λs8 I8 ⟨a8,bd,be⟩=>?_) aZ);have bf:Z.objs.size≠a8:=by
    rcases be with z|z
    .rw[z];exact fC.2.1
    .exact λq=>fC.2.2.2.2.1 x a8 z q.symm
   exact⟨m,hn.sameBut bd bf,λh' sb=>⟨_,H5,I8.turnedL   (λb o L=>(sb.2 b (λz=>L (by rw[z];exact ah5.mpr rfl))).trans) (λb L=>by rw[ah5.mp L];exact fC),qn⟩⟩
  .have aL:=T.item X' ac ad aB aC i [] s5 _ H5 (λ_ _=>False) I5 (ae aK) aJ go;rw[←ac,←ad]at aL;refine thn aL λr s6 ⟨u,hr,h6⟩=>?_;subst hr;refine thn h6 λ_ s7 ⟨x,H7,I7,r7,y7,au,bg⟩=>?_;have bh:=I7.pinned (ae bg) (T.obj _ _ au);have g7:=aD _ s7 _ H7 x u _ bh r7 (step x H7 y7);rw[ak]at g7;refine thn g7 λ_ s8 ⟨b0,H8,I8,⟨bi,bj⟩,q8⟩=>?_;have f8:=aE _ s8 _ H8 _ I8 q8;rw[ak]at f8;refine thn f8 λok s9 ⟨H9,I9,q9⟩=>?_;have ah:∀{al} {av} {aw},Inv X' ..->(∃m',m'<n/\W (i+1) m' aw al)->∃m,m<n/\∃i ys H',Inv X' [] _ H' av/\tn i _/\(∀b∈fp,H' b=none)/\W i m ys H':=fun {al av aw} aj ⟨m',hm,w'⟩=>by
    refine⟨m',hm,i+1,aw,al,eC aj.unpinned bi bj,T.keep _ _ _ au λb L o e=>(aj.pin (b,o) (ah2 _ (ah2 _ (aF L e)))).1,λb L=>?_,w'⟩;obtain⟨o,e,d⟩:=T.obj _ _ au b L;exact (aj.pin _ (ah2 _ (ah2 _ (aF L e)))).2.1
   cases ok with
   |false=>
    exact ah I9 q9
   |true=>
    have e9:=aG _ s9 _ H9 _ I9 q9;rw[ak]at e9;refine thn e9 λzv av ⟨z,al,aj,bk,bm⟩=>?_;have aM:=aH _ _ _ _ _ aj bm;rw[ak]at aM;refine thn aM λxv b7 ⟨y,b8,aN,bn,k,ez,ao,hz,mw⟩=>?_;subst ez;obtain⟨z1,hd,vs,aO,dd⟩:=m7 aN.hok ao;refine aku (qa bk) dd (hsz:=by rw[←aO.length];exact z1) λh' aP hs=>?_;have bo:∃q,h'.get? _=some q:=let ⟨q,_,_,hq,_⟩:=aP;⟨q,hq⟩;have hl:(eG ys k y).length<=sizeLine:=by have:=cg ys k y;lia
    exact ah (jc aN (by rw[ao];exact True.intro) hs bo (pI hl hd (aO.put k bn) aP)) mw
 rw[a6]at ag;exact alm ag (T.self _ 0 _ _ _ (T.keep _ _ _ ap (λb L o e=>old b o (by rw[←hS3];exact ahX _ e))) ag)
theorem abY{i x pos' z B J tg iter ifs outer scope pos N N' nl ix wi g tf tk tv}(hN:X.N.Nodup)(L:X.N[i]?=some x)(hx:Loc X.env.scope x)
 (h1:X.env.scope=outer)(h2:X.N=N)(hc:X.calm=true)(hi:PI X tg iter wi)
 (hg:∀C fp s₀ H₀,PG (X.comp scope N' C fp s₀ H₀) tg g)(hf:∀C fp s₀ H₀,PIf (X.comp scope N' C fp s₀ H₀) ifs tf)(hk:∀C fp s₀ H₀,PE (X.comp scope N' C fp s₀ H₀) B tk)(hv:∀C fp s₀ H₀,PE (X.comp scope N' C fp s₀ H₀) J tv)
 (O:swapsWith (.DictComp B J [⟨tg,iter,ifs,0⟩] scope pos) (some (.Name x pos')) z.line X.env=pure true:=by rfl)
 (Y:gx outer scope N N' nl ix=true:=by decide +kernel)(hs:∀x,foldedSetIterable iter X.env x=pure x:=by intro _;rfl)(Z:X.fn x=true\/X.env.scope.names.lookup x=some .local:=by first|exact .inl rfl|exact .inr rfl|assumption):
 PS X (.Assign [.Name x pos'] (.DictComp B J [⟨tg,iter,ifs,0⟩] scope pos) z) (qC (tV nl ix wi g tf tk tv) (aR i)):=
 let ⟨S,Cp⟩:=eQ h1 h2 Y
 ac6 hN L hx hc S Cp hi hg hf hk hv O hs Z
end
end L2
namespace L2
open PySem PySem.Spec PyProof.Rows
def uX(n:Nat):Nat:=Builtin.Int.intBits ((n:Nat):Int)
theorem acn n:n<2^uX n:=by
 unfold uX Builtin.Int.intBits;by_cases e:n=0
 .subst e;decide
 .rw[if_neg (by simpa using e)];exact Nat.lt_log2_self
theorem acC{n k}(h:n<2^k):uX n<=k:=by
 unfold uX Builtin.Int.intBits;by_cases e:n=0
 .simp_all
 .rw[if_neg (by simpa using e)];have:=Nat.log2_self_le e;exact (Nat.pow_lt_pow_iff_right (by decide)).mp (aiA this h)
section
variable {X:Cx}
theorem aay:MtR X "int.bit_length" (λx xs H Q=>∃n:Nat,x=.int n/\xs=[]/\Q (.int (uX n)) H):=by
 intro pins s σ H x xs v J Q I z B h;obtain⟨n,rfl,rfl,q⟩:=h;obtain⟨t,rfl⟩:=z;cases B;exact call_int_bit_length ⟨.int _,H,I.tok _,⟨_,rfl⟩,q⟩
end
structure RelL{α:Type}(F:α->List V)(H0 H:Hp)(D:Addr)(ys:List V)(ks:List α):Prop where
 len:ys.length=ks.length
 at_:∀(j:Nat) y k,ys[j]?=some y->ks[j]?=some k->∃b:Addr,y=.ref b/\H b=some (.lst (F k))/\b≠D/\H0 b=none
theorem RelL.nil{α F z H D}:RelL F z H D [] ([]:List α):=⟨rfl,λj y k e=>nomatch e⟩
theorem RelL.same{α F z H H' D ys}{ks:List α}(r:RelL F z H D ys ks)(s:∀b u,b≠D->H b=some u->H' b=some u):RelL F z H' D ys ks:=
 ⟨r.len,λj y k a b=>let ⟨c,e,h,n⟩:=r.at_ j y k a b;⟨c,e,s _ _ n.1 h,n⟩⟩
theorem RelL.snoc{α F z H D b ys ks}{k:α}(r:RelL F z H D ys ks)(h:H b=some (.lst (F k)))(n:b≠D/\z b=none):RelL F z H D (ys++[.ref b]) (ks++[k]):=by
 refine⟨by rw[ahZ,ahZ,r.len];rfl,λj y x a c=>?_⟩;have L:=r.len;by_cases B:j<ys.length
 .rw[aik B]at a;rw[aik (by lia)]at c;exact r.at_ j y x a c
 .have J:=(ahW.mp a).1;rw[ahZ,ai6]at J;rw[aio (by lia),show j-ys.length=0 by lia]at a;rw[aio (by lia),show j-ks.length=0 by lia]at c;cases a;simp_all
section
variable {nl:Nat}{ix:List Nat}{tf:TT}{te:TE}{σ:St}{H1:Hp}{D a:Addr}{Q:VK}
theorem zj{o:Obj}{kvs pb F}(ha:H1 a=some (.frz o (.dK kvs)))(nD:H1 D=none)(hl:kvs.length<=1000000)
 (hc:∀x,((cC nl ix σ).set 0 (some x)).drop nl=ix.map λj=>(σ[j]?).join)
 (ht:∀(H:Hp) (k:Key) R,k∈kvs.map (·.1)->Same H1 H->(∀H',Same H H'->R (pb k) H')->tf ((cC nl ix σ).set 0 (some (kV k))) H R)
 (he:∀(H:Hp) (k:Key) (R:VK),k∈kvs.map (·.1)->pb k=true->Same H1 H->(∀(b:Addr) H',Same H H'->H b=none->H' b=some (.lst (F k))->R (.ref b) H')->te ((cC nl ix σ).set 0 (some (kV k))) H R)
 (hd:∀ys H,Same H1 H->H D=some (.lst ys)->RelL F H1 H D ys ((kvs.map (·.1)).filter pb)->Q (.ref D) H):gK nl ix (aR 0) tf te σ (ItK a o kvs) H1 D Q:=by
 have O:1000000<sizeLine:=by decide
 refine tJ (λi ys H=>RelL F H1 H D ys (((kvs.map (·.1)).take i).filter pb)/\H D=some (.lst ys)/\Same H1 H) ⟨.nil,af,λb u e=>by rw[ai (ag e nD)];exact e⟩ (λi ys H ⟨_,h,_⟩=>h) (λi ys H ⟨_,_,s⟩=>s a _ ha) ?_ ?_
 .rintro i ys H k v Y ⟨B,L,s⟩;have hi:i<kvs.length:=(ahW.mp Y).1;have Z:(kvs.map (·.1))[i]?=some k:=by rw[ah1,Y];rfl
  have hm:=ah7 Z;have et:(kvs.map (·.1)).take (i+1)=(kvs.map (·.1)).take i++[k]:=by rw[ais,Z];rfl
  have yl:ys.length<=1000000:=by
   rw[B.len];exact aij (aje _ _) (by rw[aif,ahY];lia)
  refine kN (hc _) (ht H k _ hm s λH' s'=>?_);cases hb:pb k with
  |true=>
   refine mZ (he H' k _ hm hb (s.trans s') λb H2 S nb eb=>⟨S _ _ (s' _ _ L),aiA yl O,nx hi ⟨?_,af,λb u e=>?_⟩⟩)
   .rw[et,ai5,aky,if_pos hb];have J:b≠D:=λz=>by subst z;rw[s' _ _ L]at nb;cases nb
    exact RelL.snoc (k:=k) (B.same λc u n e=>by rw[ai n];exact S _ _ (s' _ _ e)) (by rw[ai J];exact eb) ⟨J,(s.trans s').free nb⟩
   .rw[ai (ag e nD)];exact S _ _ (s' _ _ (s b u e))
  |false=>
   refine iR (nx hi ⟨?_,s' _ _ L,s.trans s'⟩);rw[et,ai5,aky,if_neg (by grind),List.filter_nil,aiV];exact B.same λc u _ e=>s' _ _ e
 .rintro ys H ⟨B,L,s⟩;rw[aiS (by simp_all)]at B;simp_all
end
theorem acr{H G S B kvs}(J:H S=some (.dK kvs))(s:Same (upd H S (.frz B (.dK kvs))) G):Same H (upd G S (.dK kvs)):=λb u e=>by
 by_cases z:b=S
 .subst z;rw[J]at e;cases e;exact af
 .rw[ai z];exact s _ _ (by rw[ai z];exact e)
abbrev dc2(kx vx t1 i1 t2 i2:Expr)(scope:Scope)(pos:Pos):Expr:=.DictComp kx vx [⟨t1,i1,[],0⟩,⟨t2,i2,[],0⟩] scope pos
theorem pJ L O B J S z scope pos it D env:
 compTurn (dc2 L O B J S z scope pos) 0 it (.ref D) env=(do
  standAt J.pos
  match ←pyNext it with
  |none=>pure (.done .next)
  |some v=>
   letOwnedTupleGo B it v
   assign B env v
   let mut ok:=true
   for c in [] do
    if ok then ok ←isTrue c env (eval c env)
   if ok then
    let x ←eval z env
    standAt z.pos
    let x ←foldedSetIterable z env x
    let _ ←runOwn (.compStart (dc2 L O B J S z scope pos) 1 (←holding [x] (pyIter x)) (.ref D) env) env
   again (.compLoop (dc2 L O B J S z scope pos) 0 it (.ref D) env)):=by rfl
theorem oP B z O S J L scope pos it D env:
 compTurn (dc2 B z O S J L scope pos) 1 it (.ref D) env=(do
  standAt L.pos
  match ←pyNext it with
  |none=>pure (.done .next)
  |some v=>
   letOwnedTupleGo J it v
   assign J env v
   let mut ok:=true
   for c in [] do
    if ok then ok ←isTrue c env (eval c env)
   if ok then
    (do
     let kv ←eval B env
     let vv ←holding [kv] (eval z env)
     standAt {B.pos with endLine:=z.pos.endLine,endCol:=z.pos.endCol}
     holding [kv,vv] (dictSet D kv vv))
   again (.compLoop (dc2 B z O S J L scope pos) 1 it (.ref D) env)):=by rfl
section
variable {prog:Program}{w:World}{A:Around}{R:Result->Shared->Prop}{s:Shared}
theorem uU{kx vx t1 i1 t2 i2 scope pos it D env}(aj:∀x,foldedSetIterable i2 env x=pure x)(I:Nat->Shared->Prop)
 (ac:∀n s,I n s->wpAny (model prog w) A (pyNext it) (λr B=>match r with
  |none=>R (.ok .next) B
  |some v=>wpAny (model prog w) A (letOwnedTupleGo t1 it v) (λ_ J=>wpAny (model prog w) A (assign t1 env v) (λ_ L=>
   wpAny (model prog w) A (eval i2 env) (λx O=>wpAny (model prog w) A (pyIter x) (λad S=>
    codeAny (model prog w) A (.compStart (dc2 kx vx t1 i1 t2 i2 scope pos) 1 ad (.ref D) env) (λr Y=>match r with | .ok _=>∃m,m<n/\I m Y | .error _=>False) S) (λ_ _=>False) O) (λ_ _=>False) L) (λ_ _=>False) J) (λ_ _=>False) B) (λ_ _=>False) s)
 n (h:I n s):
 codeAny (model prog w) A (.compLoop (dc2 kx vx t1 i1 t2 i2 scope pos) 0 it (.ref D) env) R s:=by
 have no:∀{E:Value->Shared->Prop} x s,False->E x s:=λ_ _ z=>z.elim;refine alw rfl I (λn s hI=>alV ?_) n h;rw[pJ];refine ahV (ai3 (ahV (aiu (ac n s hI) (λr B Z=>?_) no)));cases r with
 |none=>exact ah0 Z
 |some v=>
  refine ahV (aiu Z (λ_ J ab=>ahV (aiu ab (λ_ L ae=>ahV (ak7 (ahV (aiu ae (λx O af=>ahV (ai3 (ahV (anI (aj x) (ahV (aix (aiu af (λad S ag=>ahV (wpAny_runOwn (ajZ ag λr Y aa=>?_))) no))))))) no)))) no)) no);cases r with
  |ok f=>exact ah0 ⟨rfl,aa⟩
  |error e=>exact aa.elim
theorem tP{kx vx t1 i1 t2 i2 scope pos it D env}(I:Nat->Shared->Prop)
 (ab:∀n s,I n s->wpAny (model prog w) A (pyNext it) (λr B=>match r with
  |none=>R (.ok .next) B
  |some v=>wpAny (model prog w) A (letOwnedTupleGo t2 it v) (λ_ J=>wpAny (model prog w) A (assign t2 env v) (λ_ L=>
   wpAny (model prog w) A (eval kx env) (λkv O=>wpAny (model prog w) A (eval vx env) (λvv S=>
    wpAny (model prog w) A (dictSet D kv vv) (λ_ Y=>∃m,m<n/\I m Y) (λ_ _=>False) S) (λ_ _=>False) O) (λ_ _=>False) L) (λ_ _=>False) J) (λ_ _=>False) B) (λ_ _=>False) s)
 n (h:I n s):
 codeAny (model prog w) A (.compLoop (dc2 kx vx t1 i1 t2 i2 scope pos) 1 it (.ref D) env) R s:=by
 have no:∀{E:Value->Shared->Prop} x s,False->E x s:=λ_ _ z=>z.elim;refine alw rfl I (λn s hI=>alV ?_) n h;rw[oP];refine ahV (ai3 (ahV (aiu (ab n s hI) (λr B Z=>?_) no)));cases r with
 |none=>exact ah0 Z
 |some v=>
  exact ahV (aiu Z (λ_ J aa=>ahV (aiu aa (λ_ L ac=>ahV (ak7 (ahV (ahV (aiu ac (λkv O ad=>ahV (aix (aiu ad (λvv S ae=>ahV (ai3 (aix (aiu ae (λ_ Y af=>ah0 ⟨rfl,af⟩) no)))) no))) no))))) no)) no)
theorem qX{J L O S Y Z scope pos it z env}
 (h0:codeAny (model prog w) A (.compLoop (dc2 J L O S Y Z scope pos) 1 it z env) R s)
 (h:wpAny (model prog w) A (pyIter it) (λB s'=>codeAny (model prog w) A (.compLoop (dc2 J L O S Y Z scope pos) 1 B z env) R s')
  (notedBy (model prog w) A env λx s'=>R (.error x) s') s):
 codeAny (model prog w) A (.compStart (dc2 J L O S Y Z scope pos) 1 it z env) R s:=by
 refine ale (wpAny_notedAt (ahV (akc (wpAny_ite ?_))));split
 .first
   |grind
   |exact ah0 (And.intro rfl h0)
 .first
   |exact ahV (ajH (ahV (ai3 (ahV (aiu h (λB s' h'=>ah0 (And.intro rfl h')) λ_ _ x=>x)))))
   |grind
end
def wx(nl:Nat)(ix:List Nat)(wi:TI)(g:TG)(wi2:TI)(g2:TG)(tk tv:TE):TE:=λσ H Q=>wi σ H λJ H1=>∀D,H1 D=none->∃W:Nat->Nat->List (Key×V)->Hp->Prop,(∃m,W 0 m [] (upd H1 D (.dK [])))∧
 ∀i m ys H2,W i m ys H2->H2 D=some (.dK ys)/\((J.stop i H2/\Q (.ref D) H2)\/(J.go i H2/\∀x H3,J.yld i H2 x H3->g x (cC nl ix σ) H3 λσ4 H4=>(σ4.length=(cC nl ix σ).length/\σ4.drop nl=ix.map λj=>(σ[j]?).join)∧
  wi2 σ4 H4 λJ2 H5=>∃W2:Nat->Nat->List (Key×V)->Hp->Prop,(∃m2,W2 0 m2 ys H5)∧
   ∀i2 m2 ys2 H6,W2 i2 m2 ys2 H6->H6 D=some (.dK ys2)/\((J2.stop i2 H6/\∃m',m'<m/\W (i+1) m' ys2 H6)\/(J2.go i2 H6/\∀x2 H7,J2.yld i2 H6 x2 H7->g2 x2 σ4 H7 λσ8 H8=>(σ8.length=σ4.length/\∀(j:Nat) (v:V),σ4[j]?=some (some v)->σ8[j]?=some (some v))∧
    tk σ8 H8 λz H9=>tv σ8 H9 λy H10=>∃k:Key,z=kV k/\H10 D=some (.dK ys2)/\ys2.length<sizeLine/\∃m',m'<m2/\W2 (i2+1) m' (eG ys2 k y) (upd H10 D (.dK (eG ys2 k y)))))))
section
variable {X:Cx}
theorem abt{kx vx tg iter tg2 Y:Expr}{scope:Scope}{pos:Pos}{N':List Str}{nl:Nat}{ix:List Nat}{wi aT:TI}{g g2:TG}{tk tv:TE}(hc:X.calm=true)(S:CompScope X scope)(Cp:abf X scope N' nl ix)(hi:PI X tg iter wi)
 (hg:∀C fp s₀ H₀,PG (X.comp scope N' C fp s₀ H₀) tg g)(bp:∀C fp s₀ H₀,PI (X.comp scope N' C fp s₀ H₀) tg2 Y aT)(bq:∀C fp s₀ H₀,PG (X.comp scope N' C fp s₀ H₀) tg2 g2)
 (hk:∀C fp s₀ H₀,PE (X.comp scope N' C fp s₀ H₀) kx tk)(hv:∀C fp s₀ H₀,PE (X.comp scope N' C fp s₀ H₀) vx tv)
 (hs:∀x,foldedSetIterable iter X.env x=pure x:=by intro _;rfl)(bs:∀C fp s₀ H₀ x,foldedSetIterable Y (X.comp scope N' C fp s₀ H₀).env x=pure x:=by intro _ _ _ _ _;rfl):PE X (dc2 kx vx tg iter tg2 Y scope pos) (wx nl ix wi g aT g2 tk tv):=by
 intro pins s σ H Q I h;rw[arm_eval_DictComp];refine ajb   rfl hs (cM (S.cells I.ok)) S.kind S.loc ?_;refine thn (hi pins s σ H _ I h) λv s1 h1=>thn h1 λcq B h2=>?_;obtain⟨it,fp,tn,J,H2,rfl,I2,T,aI,f2,h2⟩:=h2;obtain⟨W,⟨m0,w0⟩,aU⟩:=h2 B.heap.objs.size I2.fresh;refine ajc (ajC S.nocell (by simp_all) (λax aa ab=>?_) S.kind);dsimp only at aa ab⊢;have aV:∀b∈fp,b<B.heap.objs.size:=λb O=>by
  obtain⟨o,e,_⟩:=T.obj 0 _ aI b O;exact ah3 e
 have I3:=I2.laid   (t':=B.toks) (λ_ _=>ahX _) (ah4 _) (lu _ I2.big);have hD:(upd H2 B.heap.objs.size _) _=some (.dK []):=af;have f3:∀b∈fp,gI X _ (upd H2 _ (.dK [])) b:=λb O=>by
  refine⟨?_,(f2 b O).2⟩;rw[ai (ah6 (aV b O))];exact (f2 b O).1
 generalize hS3:B.heap.push {cls:=.type "dict",dict:=none,data:=.dict #[] }=Z at aa ab I3⊢;have bx:Z.objs.size=B.heap.objs.size+1:=by rw[←hS3,aiP]
 have ay:∀b∈fp,b < {B with heap:=Z,toks:=B.toks}.heap.objs.size:=λb O=>by
  rw[bx];exact aiB (aV b O)
 have old:=λb o e=>ab.extBut b o (ah6 (ah3 e)) (ahX _ e);have I4:=jy (tk:=B.toks+([]:List (Str×Value)).length) S Cp I3 f3 ay aa old;generalize hX:X.comp scope N' Z.objs.size fp {B with heap:=Z,toks:=B.toks} (upd H2 B.heap.objs.size (.dK []))=L at *;have ag:L.prog=X.prog:=by rw[←hX];rfl
 have ah:L.w=X.w:=by rw[←hX];rfl
 have aW:L.K=X.K:=by rw[←hX];rfl
 have bz:L.A=X.A:=by rw[←hX];rfl
 have ar:L.calm=true:=by rw[←hX];exact hc
 have aj:L.xe=λ_ _=>False:=by rw[←hX];rfl
 have cu:L.ex=fp:=by rw[←hX];rfl
 have cv:L.pn=[]:=by rw[←hX];rfl
 have aX:L.env.locals=Z.objs.size:=by rw[←hX];rfl
 have bA:L.env=compEnvC scope (jJ X.env scope.names []) Z.objs.size X.env:=by rw[←hX];rfl
 have aY:=hg Z.objs.size fp {B with heap:=Z,toks:=B.toks} (upd H2 B.heap.objs.size (.dK []));have az:=bp Z.objs.size fp {B with heap:=Z,toks:=B.toks} (upd H2 B.heap.objs.size (.dK []));have aA:=bq Z.objs.size fp {B with heap:=Z,toks:=B.toks} (upd H2 B.heap.objs.size (.dK []));have aZ:=hk Z.objs.size fp {B with heap:=Z,toks:=B.toks} (upd H2 B.heap.objs.size (.dK []));have a0:=hv Z.objs.size fp {B with heap:=Z,toks:=B.toks} (upd H2 B.heap.objs.size (.dK []));have aB:=bs Z.objs.size fp {B with heap:=Z,toks:=B.toks} (upd H2 B.heap.objs.size (.dK []));rw[hX]at aY az aA aZ a0 aB;have aJ:Inv L [] _ _ {B with heap:=ax,toks:=B.toks + [].length}:=I4;have a1:∀{H' } {bB:St} {pins' } {s' } {h' },Inv L pins' bB H' s'->Heap.SameBut Z.objs.size s'.heap h'->Inv X _ σ H' {s' with heap:=h' }:=λI' sb=>by
  subst hX;exact gY I3 f3 I' sb
 have ak:∀{H' },(∀b∈fp,H' b=none)->∀b∈fp,gI L [] H' b:=λhn b O=>by
  refine⟨hn b O,?_,?_,.inl (by simp_all),?_,λp hp=>by simp_all⟩
  .rw[aX];exact ah6 (ay b O)
  .exact aJ.ok.exfs b (by simp_all)
  .exact (aJ.ok.exf b (by simp_all)).2
 have al:codeAny (model X.prog X.w) X.A (.compLoop (dc2 kx vx tg iter tg2 Y scope pos) 0 (.ref it) (.ref B.heap.objs.size) L.env)
  (compPost (model X.prog X.w) X.A X.xe none (EP X pins σ Q) (.ref B.heap.objs.size) Z.objs.size) {B with heap:=ax,toks:=B.toks+([]:List (Str×Value)).length}:=by
  rw[←ag,←ah,←bz];refine uU aB (λn s'=>∃i ys H',Inv L [] _ H' s'/\tn i s'.heap/\(∀b∈fp,H' b=none)/\W i n ys H') ?_ m0
   ⟨0,[],_,aJ,T.keep _ _ _ aI (λb O o e=>old b o (by rw[←hS3];exact ahX _ e)),λb O=>(f3 b O).1,w0⟩
  rintro n s5 ⟨i,ys,H5,I5,a2,a3,w5⟩;obtain⟨cy,bC⟩:=aU i n ys H5 w5;rcases bC with ⟨stop,qn⟩|⟨go,step⟩
  .rw[ag,ah];refine thn (T.done L ag ah aW ar i [] s5 _ H5 _ I5 (ak a3) a2 stop) λr s6 ⟨hr,I6⟩=>?_;subst hr;obtain⟨m,hn,_⟩:=I6.loc;rw[aX]at hn;exact⟨m,hn,λh' sb=>⟨.ref _,H5,a1 I6 sb,rfl,qn⟩⟩
  .have a4:=T.item L ag ah aW ar i [] s5 _ H5 (λ_ _=>False) I5 (ak a3) a2 go;rw[←ag,←ah]at a4;refine thn a4 λr s6 ⟨u,hr,h6⟩=>?_;subst hr;refine thn h6 λ_ s7 ⟨x,H7,I7,r7,y7,aK,bD⟩=>?_;have bE:=I7.pinned (ak bD) (T.obj _ _ aK);have g7:=aY _ s7 _ H7 x u _ bE r7 (step x H7 y7);rw[aj]at g7;refine thn g7 λ_ s8 ⟨cI,H8,I8,⟨bF,bG⟩,q8⟩=>?_;have aL:∀{am} {as} {ac},Inv L ..->(∃m',m'<n/\W (i+1) m' ac am)->∃m,m<n/\∃i ys H',Inv L [] _ H' as/\tn i _/\(∀b∈fp,H' b=none)/\W i m ys H':=fun {am as ac} an ⟨m',hm,w'⟩=>by
    refine⟨m',hm,i+1,ac,am,eC an.unpinned bF bG,T.keep _ _ _ aK λb O o e=>(an.pin (b,o) (ah2 _ (ah2 _ (aF O e)))).1,λb O=>?_,w'⟩;obtain⟨o,e,d⟩:=T.obj _ _ aK b O;exact (an.pin _ (ah2 _ (ah2 _ (aF O e)))).2.1
   have p8:=az _ s8 _ H8 _ I8 q8;rw[aj]at p8;refine thn p8 λv2 s9 p9=>thn p9 λce as bJ=>?_;obtain⟨bK,av,a5,J2,am,rfl,an,T2,aC,a6,W2,⟨m2,w2⟩,aM⟩:=bJ;have ad:∀{H' },(∀b∈av,H' b=none)->∀b∈av,gI L _ H' b:=λhn b O=>⟨hn b O,(a6 b O).2⟩;have ao:codeAny (model L.prog L.w) L.A (.compLoop (dc2 kx vx tg iter tg2 Y scope pos) 1 (.ref bK) (.ref B.heap.objs.size) L.env)
    (λr aD=>match r with | .ok _=>∃m,m<n/\∃i ys H',Inv L [] (cC nl ix σ) H' aD/\tn i aD.heap/\(∀b∈fp,H' b=none)/\W i m ys H' | .error _=>False) as:=by
    refine tP (λn2 s'=>∃i2 ae H',Inv L _ _ H' s'/\a5 i2 s'.heap/\(∀b∈av,H' b=none)/\W2 i2 n2 ae H') ?_ m2 ⟨0,ys,am,an,aC,λb O=>(a6 b O).1,w2⟩;rintro n2 bM ⟨i2,ae,bN,a8,aE,aG,bO⟩;obtain⟨cf,a9⟩:=aM i2 n2 _ _ bO;rcases a9 with ⟨aN,bP⟩|⟨bQ,aO⟩
    .refine thn (T2.done L rfl rfl rfl ar i2 _ bM _ bN _ a8 (ad aG) aE aN) λr bR ⟨hr,bS⟩=>?_;subst hr;exact aL bS bP
    .have ba:=T2.item L rfl rfl rfl ar i2 _ _ _ _ (λ_ _=>False) a8 (ad aG) aE bQ;refine thn ba λr bR ⟨u2,hr,bT⟩=>?_;subst hr;refine thn bT λ_ cR ⟨x2,cS,bU,bV,bW,aq,bb⟩=>?_;have bc:=bU.pinned (ad bb) (T2.obj _ _ aq);have bd:=aA _ _ _ _ x2 u2 _ bc bV (aO x2 _ bW);rw[aj]at bd;refine thn bd λ_ cT ⟨ci,cU,bX,⟨be,bf⟩,bY⟩=>?_;have aw:∀{aP} {bg} {ac},Inv L ..->(∃m',m'<n2/\W2 (i2+1) m' ac aP)->∃m,m<n2/\∃i2 ae H',Inv L ([]++tY fp s7.heap) _ H' bg/\a5 i2 _/\(∀b∈av,H' b=none)/\W2 i2 m ae H':=fun {aP bg ac} aQ ⟨m',hm,w'⟩=>by
      refine⟨m',hm,i2+1,ac,aP,(aQ.unpinned).weak be.symm (λj v e=>bf j v e),T2.keep _ _ _ aq λb O o e=>(aQ.pin (b,o) (ah2 _ (ah2 _ (aF O e)))).1,λb O=>?_,w'⟩;obtain⟨o,e,d⟩:=T2.obj _ _ aq b O;exact (aQ.pin _ (ah2 _ (ah2 _ (aF O e)))).2.1
     have e9:=aZ _ _ _ _ _ bX bY;rw[aj]at e9;refine thn e9 λzv cV ⟨z,cW,bZ,b0,b1⟩=>?_;have bh:=a0 _ _ _ _ _ bZ b1;rw[aj]at bh;refine thn bh λxv cX ⟨y,cY,bi,b2,k,ez,aH,hz,mw⟩=>?_;subst ez;obtain⟨z1,hd,vs,bj,dd⟩:=m7 bi.hok aH;refine aku (qa b0) dd (hsz:=by rw[←bj.length];exact z1) λh' bk hs=>?_;have b3:∃q,h'.get? _=some q:=let ⟨q,_,_,hq,_⟩:=bk;⟨q,hq⟩;have hl:(eG ae k y).length<=sizeLine:=by have:=cg ae k y;lia
     exact aw (jc bi (by rw[aH];exact True.intro) hs b3 (pI hl hd (bj.put k b2) bk)) mw
   exact qX ao (T2.self _ 0 _ _ _ aC ao)
 rw[bA]at al;exact alm al (T.self _ 0 _ _ _ (T.keep _ _ _ aI (λb O o e=>old b o (by rw[←hS3];exact ahX _ e))) al)
theorem af4{Z vx tg iter tg2 z outer scope pos N N' nl ix wi B g g2 tk tv}(h1:X.env.scope=outer)(h2:X.N=N)(hc:X.calm=true)(hi:PI X tg iter wi)
 (hg:∀C fp s₀ H₀,PG (X.comp scope N' C fp s₀ H₀) tg g)(J:∀C fp s₀ H₀,PI (X.comp scope N' C fp s₀ H₀) tg2 z B)(L:∀C fp s₀ H₀,PG (X.comp scope N' C fp s₀ H₀) tg2 g2)
 (hk:∀C fp s₀ H₀,PE (X.comp scope N' C fp s₀ H₀) Z tk)(hv:∀C fp s₀ H₀,PE (X.comp scope N' C fp s₀ H₀) vx tv)
 (O:gx outer scope N N' nl ix=true:=by decide +kernel)(hs:∀x,foldedSetIterable iter X.env x=pure x:=by intro _;rfl)(Y:∀C fp s₀ H₀ x,foldedSetIterable z (X.comp scope N' C fp s₀ H₀).env x=pure x:=by intro _ _ _ _ _;rfl):
 PE X (.DictComp Z vx [⟨tg,iter,[],0⟩,⟨tg2,z,[],0⟩] scope pos) (wx nl ix wi g B g2 tk tv):=
 let ⟨S,Cp⟩:=eQ h1 h2 O
 abt hc S Cp hi hg J L hk hv hs Y
end
section
variable {X:Cx}{tg:Expr}
theorem ky{K l tl}(z:X.K=K)(B:PE X l tl):PI X tg l (rh K tl):=by
 subst z;exact aV B
def wK(sc outer:Scope):Scope:={sc with names:=iH sc outer}
theorem lS{outer sc N' C fp s₀ H₀}(h1:X.env.scope=outer):(X.comp sc N' C fp s₀ H₀).env.scope=wK sc outer:=by
 subst h1
 rfl
end
def adY(nl:Nat)(ix:List Nat)(g:TG)(wi2:TI)(g2:TG)(tk tv:TE)(σ:St)(D:Addr)(ys:List (Key×V))(H3:Hp)(x:V)(nxt:List (Key×V)->Hp->Prop):Prop:=
 g x (cC nl ix σ) H3 λσ4 H4=>(σ4.length=(cC nl ix σ).length/\σ4.drop nl=ix.map λj=>(σ[j]?).join)∧
  wi2 σ4 H4 λJ2 H5=>∃W2:Nat->Nat->List (Key×V)->Hp->Prop,(∃m2,W2 0 m2 ys H5)∧
   ∀i2 m2 ys2 H6,W2 i2 m2 ys2 H6->H6 D=some (.dK ys2)/\((J2.stop i2 H6/\nxt ys2 H6)\/(J2.go i2 H6/\∀x2 H7,J2.yld i2 H6 x2 H7->g2 x2 σ4 H7 λσ8 H8=>(σ8.length=σ4.length/\∀(j:Nat) (v:V),σ4[j]?=some (some v)->σ8[j]?=some (some v))∧
    tk σ8 H8 λz H9=>tv σ8 H9 λy H10=>∃k:Key,z=kV k/\H10 D=some (.dK ys2)/\ys2.length<sizeLine/\∃m',m'<m2/\W2 (i2+1) m' (eG ys2 k y) (upd H10 D (.dK (eG ys2 k y)))))
theorem vC{K nl ix tl g z L tk tv σ H Q}
 (h:tl σ H λx H1=>∃a xs,x=.ref a/\SqL K H1 a xs/\∀D,H1 D=none->∃Pv:Nat->List _->Hp->Prop,Pv 0 [] (upd H1 D (.dK []))/\(∀i ys H,Pv i ys H->H D=some (.dK ys))/\(∀i ys H,Pv i ys H->SqL K H a xs)∧
  (∀i ys H x,xs[i]?=some x->Pv i ys H->adY nl ix g z L tk tv σ D ys H x λB H'=>Nx xs.length i (Pv (i+1) B H'))/\∀ys H,Pv xs.length ys H->Q (.ref D) H)
 (S:∀{R O:V->Hp->Prop},(∀x H,R x H->O x H)->tl σ H R->tl σ H O):wx nl ix (rh K tl) g z L tk tv σ H Q:=by
 refine S (λx H1 h1=>?_) h;obtain⟨a,xs,rfl,Y,h1⟩:=h1;refine⟨a,rfl,⟨xs,Y⟩,λD nD=>?_⟩;obtain⟨Pv,Z,hD,J,hs,hd⟩:=h1 D nD;refine⟨λi m ys H=>m=xs.length-i/\i<=xs.length/\Pv i ys H,⟨xs.length,rfl,ail _,Z⟩,?_⟩;rintro i m ys H ⟨rfl,hi,p⟩;refine⟨hD i ys H p,?_⟩;by_cases ad:i<xs.length
 .refine .inr ⟨⟨xs,xs[i],J i ys H p,by simp ⟩,λx H' y=>?_⟩;obtain⟨e,y⟩:=y;subst e;exact hs i ys H' x (y xs (J i ys H' p)) p
 .have e:i=xs.length:=by lia
  subst e;exact .inl ⟨⟨xs,J _ ys H p,ah4 _⟩,hd ys H p⟩
theorem wI{K:PySem.W.Frag}{nl:Nat}{ix}{σ:St}{D:Addr}{H:Hp}{ys nxt}{tl:TE}{O:Nat}{tk tv:TE}{g:TG}{x:V}
 (h:g x (cC nl ix σ) H λB H4=>(B.length=(cC nl ix σ).length/\B.drop nl=ix.map λj=>(σ[j]?).join)/\tl B H4 λu Z=>∃a xs,u=.ref a/\SqL K Z a xs/\B[O]?=some none ∧
  ∃Pv:Nat->List _->Hp->Prop,Pv 0 ys Z/\(∀i ys H,Pv i ys H->H D=some (.dK ys))/\(∀i ys H,Pv i ys H->SqL K H a xs)∧
   (∀i ys H z,xs[i]?=some z->Pv i ys H->tk (B.set O (some z)) H λz' H9=>tv (B.set O (some z)) H9 λy L=>∃k:Key,z'=kV k/\L D=some (.dK ys)/\ys.length<sizeLine/\Pv (i+1) (eG ys k y) (upd L D (.dK (eG ys k y))))/\∀ys H,Pv xs.length ys H->nxt ys H)
 (hm:∀{σ H} {R J:V->Hp->Prop},(∀x H,R x H->J x H)->tl σ H R->tl σ H J)(hg:∀{x σ H} {R J},(∀σ H,R σ H->J σ H)->g x σ H R->g x σ H J)(hk:∀{σ H} {R J:V->Hp->Prop},(∀x H,R x H->J x H)->tk σ H R->tk σ H J)(hv:∀{σ H} {R J:V->Hp->Prop},(∀x H,R x H->J x H)->tv σ H R->tv σ H J):
 adY nl ix g (rh K tl) (aR O) tk tv σ D ys H x nxt:=by
 refine hg (λB H4 h4=>?_) h;obtain⟨S,h4⟩:=h4;refine⟨S,hm (λu Z h5=>?_) h4⟩;obtain⟨a,xs,rfl,hq,al,Pv,h0,hD,hl,hs,hd⟩:=h5;refine⟨a,rfl,⟨xs,hq⟩,λi m ys H=>m=xs.length-i/\i<=xs.length/\Pv i ys H,⟨xs.length,by simp,ail _,h0⟩,?_⟩;rintro i m ys H ⟨rfl,hi,p⟩;refine⟨hD i ys H p,?_⟩;by_cases Y:i<xs.length
 .refine .inr ⟨⟨xs,xs[i],hl i ys H p,by simp[Y]⟩,λz H' y=>?_⟩;obtain⟨e,y⟩:=y;subst e;refine⟨⟨by simp,λj v e=>?_⟩,?_⟩
  .by_cases hj:j=O
   .grind
   .rw[aki (ai2 hj)];exact e
  .have q:=hs i ys H' z (y xs (hl i ys H' p)) p;refine hk ?_ q;intro zz H9 q;refine hv ?_ q;rintro yy L ⟨k,e1,e2,e3,e4⟩;exact⟨k,e1,e2,e3,xs.length-(i+1),by lia,rfl,Y,e4⟩
 .have e:i=xs.length:=by lia
  subst e;exact .inl ⟨⟨xs,hl _ ys H p,ah4 _⟩,hd ys H p⟩
end L2
namespace L2
open PySem PySem.Spec PyProof.Rows
def afD(tk tv:TE):TE:=λσ H Q=>∀p,H p=none->tk σ (upd H p (.dK [])) λx H1=>tv σ H1 λy H2=>∃k:Key,x=kV k/\H2 p=some (.dK [])/\Q (.ref p) (upd H2 p (.dK [(k,y)]))
section
variable {X:Cx}{k v:Expr}{tk tv:TE}{pos:Pos}
theorem adk(Z:PE X k tk)(hv:PE X v tv):PE X (.Dict [some k] [v] pos) (afD tk tv):=by
 intro pins s σ H Q I h;have hn:=I.hok.fresh (ah4 s.heap.objs.size);have I1:=I.laid    (t':=s.toks) (λ_ _ q=>ahX _ q) (ah4 _) (lu s.heap I.big);rw[arm_eval_Dict,zip_pairTrees [some k] [v] X.env pos rfl rfl,dictDisplay_pairs _ (by intro z;have:=pairTrees_length [some k] [v] X.env pos rfl rfl;simp_all) (by show 1<17;decide)];refine ahV (ai3 (ahV (ahV (anK (ahV (aix ?_))))));refine ahV (thn ((ab6 Z hv (aey (X:=X))) pins _ σ _ (λps H2=>match ps with | [(x,y)]=>∃k:Key,x=kV k/\H2 s.heap.objs.size=some (.dK [])/\Q _ (upd H2 s.heap.objs.size (.dK [(k,y)])) | _=>False) I1 (h _ hn)) λws s2 ⟨ps,H2,S,L,B⟩=>?_);rcases L with _|⟨⟨r1,r2⟩,_|_⟩
 .exact B.elim
 rotate_left
 .exact B.elim
 rename_i pv pr _;obtain⟨x,y⟩:=pv;obtain⟨ke,ex,e,q⟩:=B;cases (ex);refine aix (ahV ?_);rw[ak6];obtain⟨z,hd,xs,Y,dd⟩:=m7 S.hok e;refine ahV (ahV (aku (qa r1) dd (hsz:=by rw[←Y.length];exact z) λh' J hs=>ah0 ?_));dsimp only;have O:∃q,h'.get? s.heap.objs.size=some q:=let ⟨q,_,_,B,_⟩:=J;⟨q,B⟩;exact ah0 (ah0 (ah0 (ah0 ⟨.ref s.heap.objs.size,_,jc S (by rw[e];exact True.intro) hs O (pI (by show 1<=sizeLine;decide) hd (Y.put ke r2) J),rfl,q⟩)))
end
end L2
namespace L2
open PySem PySem.Spec PyProof.Rows PySem.W
def adE(kb:List (Key×V))(e:V->V->Bool)(kv:Key×V):Bool:=match cD kb kv.1 with
 |none=>false
 |some y=>e kv.2 y
def ahF(A:Around):R2:=λx y H Q=>∃(a b:Addr) (ka kb:List (Key×V)) (e:V->V->Bool),x=.ref a/\y=.ref b/\H a=some (.dK ka)/\H b=some (.dK kb)/\A.units<cLine ∧
 (∀k v y,(k,v)∈ka->cD kb k=some y->∃da db,Sees H v da/\Sees H y db/\da.canLay0=true/\db.canLay0=true/\A.units+1+min da.depth db.depth<cLine/\PyData.eqv da db=e v y)/\Q (.bl (ka.length==kb.length&&ka.all (adE kb e))) H
section
variable {X:Cx}
theorem uG{A H s P w}(ok:HOk P w H s.heap){B Y}(rb:KV B Y){e}:∀{S} {Z},KV S Z →
 (∀k v y,(k,v)∈S->cD B k=some y->∃J L,Sees H v J/\Sees H y L/\J.canLay0=true/\L.canLay0=true/\A.units+min J.depth L.depth<cLine/\PyData.eqv J L=e v y)->KeqHits A s Y Z (S.all (adE B e)):=by
 intro S Z ra
 induction ra with
 |nil=>intro _;exact .nil
 |@cons p q ps qs r t ih=>
  intro h;obtain⟨k,v⟩:=p;obtain⟨k',u⟩:=q;obtain⟨e',ru⟩:=r;have aa:=e';subst aa;have O:=rb.val k;rw[alO];cases hy:cD B k with
  |none=>
   rw[hy]at O;have z:adE B e (k,v)=false:=by unfold adE;rw[hy]
   rw[z];exact .miss (by cases hv:valueAt Y k with
    |none=>rfl
    |some c=>rw[hv]at O;cases O)
  |some y=>
   rw[hy]at O;obtain⟨yu,ab,ry⟩:=RelO.some_of O;obtain⟨J,L,sa,sb,la,lb,hu,eq⟩:=h k v y aid hy;obtain⟨as,r1⟩:=sa.reads ok ru;obtain⟨bs,r2⟩:=sb.reads ok ry;have ea:=SeqAt.eqAt_reads J L A s u yu as bs r1 r2 la lb hu;rw[eq]at ea;have z:adE B e (k,v)=e v y:=by unfold adE;rw[hy]
   rw[z];exact KeqHits.hit ab ea (ih λk v y hm=>h k v y (aih _ hm))
theorem abT:OpR X (compareOp .Eq) (ahF X.A):=by
 intro pins s σ H x y v u Q I Y Z h;obtain⟨a,b,ka,kb,e,rfl,rfl,ea,eb,hu,hs,q⟩:=h;cases Y;cases Z;obtain⟨za,z,va,O,B⟩:=m7 I.hok ea;obtain⟨zb,J,vb,S,L⟩:=m7 I.hok eb;refine keq_eq  z J B L hu (λ_=>uG I.hok S O hs) ?_;rw[←O.length,←S.length];exact⟨.bl _,H,I,rfl,q⟩
end
end L2
namespace K7
open PySem L2 PyProof.Rows
def top(i:Nat):Stmt:=PySem.Challenge.pw_keyrooms_k49_whole_names_and_orders.main.body.getD i (.Pass ⟨0,0,0,0⟩)
abbrev ue:Stmt:=top 10
abbrev pC:Stmt:=top 11
abbrev zt:Stmt:=top 12
abbrev aeH:Stmt:=top 13
abbrev oM:Stmt:=top 14
abbrev ahb:Stmt:=top 15
abbrev iD:Stmt:=top 18
abbrev aen:Stmt:=top 44
abbrev acj:Stmt:=top 45
abbrev se:Stmt:=top 46
abbrev vB:Stmt:=top 47
abbrev ag1:Stmt:=top 52
abbrev iA:Stmt:=top 16
abbrev cv:Stmt:=top 21
abbrev i6:Stmt:=top 22
abbrev j8:Stmt:=top 23
abbrev iI:Stmt:=top 24
abbrev iy:Stmt:=top 25
abbrev kf:Stmt:=top 27
abbrev aL:Stmt:=top 30
abbrev cQ:Stmt:=top 31
abbrev aT:Stmt:=top 32
abbrev iB:Stmt:=top 33
abbrev dz:Stmt:=top 34
abbrev bF:Stmt:=top 35
abbrev fi:Stmt:=top 37
abbrev jk:Stmt:=top 39
abbrev jG:Stmt:=top 40
abbrev dt:Stmt:=top 41
abbrev cJ:Stmt:=top 42
abbrev dg:Stmt:=top 49
abbrev fB:Stmt:=top 50
abbrev iu:Stmt:=top 51
def xX(o:HO)(c:Int):Prop:=∃a f:Int,o=.lst [.int a,.int f,.int c]
def dF:Sp:=λvs H Q _=>∃(p:Addr) (n c:Int) (o:HO),vs=[.ref p,.int n]/\H p=some o/\xX o c/\0<n/\n<=1000000/\0<=c/\c<1000000 ∧
 ∀(r c':Int) (o':HO),0<=r->r<n->c<=c'->c'<=c+1->xX o' c'->Q (.int r) (upd H p o')
section
variable {P:Program}{w:World}{K:PySem.W.Frag}{mg:Str->Option Value}{base:Heap}
theorem scTake:aA ["pool","many","found","step","mark"] ["pool","many"] (ak acj):=scM rfl rfl rfl rfl (by decide +kernel)
theorem aaz{f:Addr}{fd:FuncData}(F:Fun K "_law_take" "_law_take" acj f fd):bx P w K mg base CX0 1 f fd ["pool","many"] dF:=by
 refine F.ok scTake (λS H Q E h=>?_) (λY A outer s H S Q E hr h=>?_)
 .obtain⟨p,n,c,o,rfl,_⟩:=h
  rfl
 .obtain⟨p,n,c,o,rfl,z,⟨a,L,rfl⟩,B,Z,hc,aa,k⟩:=h;refine⟨_,ao (fm (aN lR (bY cf (pv 0) ar (λ_ _=>rfl)) ar (aZ _))
   (ao (aB (i:=2) scTake.nd rfl (.inl rfl) (bz qH (bY cf (pv 0) ar (λ_ _=>rfl)) (pv 1)))
   (ao (oR (bz vH (bY cf (pv 0) ar (λ_ _=>rfl)) (pv 1)) (adK (pv 0) ar rK))
   (av (aM (pv 2))))) bD)
   (ao (oR (bz gN (bY cf (pv 0) ar (λ_ _=>rfl)) ar) (adK (pv 0) ar rK))
   (ao (aB (i:=3) scTake.nd rfl (.inl rfl) (bY cf (pv 0) ar (λ_ _=>rfl)))
   (ao (aB (i:=4) scTake.nd rfl (.inl rfl) (bz kj (bz gN (bz qH (bY cf (pv 0) ar (λ_ _=>rfl)) ar) ar) (bz gN (bz kj ar (pv 3)) ar)))
   (ao (aB (i:=4) scTake.nd rfl (.inl rfl) (bz gN (pv 4) (bz kj (bz kj ar (pv 3)) (pv 3))))
   (ao (aB (i:=4) scTake.nd rfl (.inl rfl) (bz qH (bz kj (pv 4) (pv 4)) ar))
   (av (aM (bz qH (bz vH (bz qH (bz kj (pv 4) (bz gN (pv 4) ar)) ar) ar) (pv 1))))))))),⟨_,rfl,p,_,1,.int L,rfl,rfl,aAA z,rfl,rfl,_,rfl,abX (λ_=>?_) (λ_=>?_)⟩⟩
  .exact⟨_,rfl,p,_,0,.int a,rfl,rfl,aAA z,rfl,_,rfl,a,n,rfl,rfl,B,⟨_,rfl,p,_,0,.int a,rfl,rfl,aAA z,rfl,_,rfl,a,n,rfl,rfl,⟨B,by lia⟩,⟨_,rfl,p,_,0,0,rfl,rfl,z,rfl,⟨_,rfl,k _ c _ (Int.emod_nonneg _ (by lia)) (Int.emod_lt_of_pos _ B) (amT _) (by lia) ⟨a / n,L,rfl⟩⟩⟩⟩⟩
  .refine⟨_,rfl,p,_,2,.int c,rfl,rfl,aAA z,rfl,c,1,rfl,rfl,⟨_,rfl,p,_,2,2,rfl,rfl,z,rfl,?_⟩⟩;have J:(upd H p _) p=some (.lst [V.int a,V.int L,V.int (c+1)]):=af;refine⟨_,rfl,p,_,2,.int _,rfl,rfl,aAA J,rfl,⟨_,rfl,p,_,0,.int a,rfl,rfl,aAA J,rfl,a,9999999551,rfl,rfl,(by grind),_,_,rfl,rfl,⟨_,rfl,43,c+1,rfl,rfl,.inl ⟨by decide,by decide⟩,_,73,rfl,rfl,_,_,rfl,rfl,.inl ⟨by lia,by lia⟩,⟨_,rfl,_,rfl,3581,c+1,rfl,rfl,.inl ⟨by decide,by decide⟩,_,rfl,_,c+1,rfl,rfl,.inl ⟨by lia,by lia⟩,_,_,rfl,rfl,?_⟩⟩⟩⟩;generalize hx:a%9999999551+1019=x at *;generalize hy:43*(c+1)+73=y at *;have x0:0<=x:=by lia
   have x1:x<=9999999551+1019:=by lia
   have O:0<=y:=by lia
   have y1:y<=43000100:=by lia
   have m0:=Int.mul_nonneg x0 O;have m1:=Int.mul_le_mul x1 y1 O (by decide);have z0:0<=3581*(c+1)*(c+1):=Int.mul_nonneg (by lia) (by lia);have z1:3581*(c+1)*(c+1)<=3581000000*1000000:=Int.mul_le_mul (by lia) (by lia) (by lia) (by decide);generalize hm:x*y+3581*(c+1)*(c+1)=m at *;refine⟨_,rfl,_,rfl,m,m,aiO _ hm,aiO _ hm,.inl ⟨by lia,by lia⟩,_,_,rfl,rfl,(by grind),?_⟩;generalize hq:m*m%99999999581=q at *;exact⟨_,rfl,_,rfl,q,59,aiO _ hq,rfl,q,_,aiO _ hq,rfl,.inl ⟨by lia,by lia⟩,_,_,rfl,rfl,(by grind),_,_,rfl,rfl,⟨by decide,by decide⟩,_,rfl,_,n,rfl,rfl,B,k _ _ _ (Int.emod_nonneg _ (by lia)) (Int.emod_lt_of_pos _ B) (by lia) (amT _) ⟨a,L,rfl⟩⟩
structure Cal(K:PySem.W.Frag)(mg:Str->Option Value)(x:Str)(ps:List Str)(f:Addr)(fd:FuncData):Prop where
 mg:mg x=some (.ref f)
 kp:keepIn K (.ref f)=true
 b:Binds K fd ps []
theorem pcl{X:Cx}{k:Nat}{f:Addr}{fd:FuncData}{ps:List Str}{sp:Sp}{x:Str}{e:Expr}{es:List Expr}{t:TA}{p pos:Pos}(F:bx X.prog X.w X.K X.mg X.base CX0 k f fd ps sp)(c:Cal X.K X.mg x ps f fd)(hr:Room k X.A)(J:Gl X x)(L:PA X (e::es) t)(z:(x==("__debug__" : Str))=false:=by decide)(O:starEach (e::es) X.env=(false,eval e X.env)::starEach es X.env:=by rfl)(B:(backTo pos (starEach es X.env)).any (·.1)=false:=by rfl):PE X (.Call (.Name x p) (e::es) [] pos) (dO sp [] E0 t):=bM F hr J c.mg c.kp c.b .nil eJ L z O B
def But(p:Addr)(H H':Hp):Prop:=∀b u,b≠p->H b=some u->H' b=some u
theorem But.refl p H:But p H H:=λ_ _ _ e=>e
theorem But.trans{p H H1 H2}(a:But p H H1)(b:But p H1 H2):But p H H2:=λc u n e=>b c u n (a c u n e)
theorem But.upd{p H o}:But p H (upd H p o):=λb u n e=>by rw[ai n];exact e
theorem But.new{p q H H1 o}(a:But p H H1)(n:H q=none):But p H (L2.upd H1 q o):=λb u z e=>by rw[ai (ag e n)];exact a b u z e
theorem But.free{p q H H'}(a:But p H H')(n:q≠p)(e:H' q=none):H q=none:=by
 cases h:H q with
 |none=>rfl
 |some u=>rw[a q u n h]at e;cases e
def PoolAt(H:Hp)(p:Addr)(c:Int):Prop:=∃o,H p=some o/\xX o c
def qP:Sp:=λvs H Q _=>∃(p q:Addr) (n:Nat) (c:Int) (ks:List Str),vs=[.ref p,.ref q,.int n]/\PoolAt H p c/\H q=some (.lst (ks.map V.str))/\ks≠[]/\ks.length<=1000/\n<=1000/\0<=c/\c+n<1000000 ∧
 ∀(l:Addr) (ss:List Str) (c':Int) (H':Hp),H l=none->ss.length=n->(∀x∈ss,x∈ks)->H' l=some (.lst (ss.map V.str))->PoolAt H' p c'->c<=c'->c'<=c+n->But p H H'->Q (.ref l) H'
theorem af9:aA ["pool","kinds","many"] ["pool","kinds","many"] (ak vB):=scM rfl rfl rfl rfl (by decide +kernel)
def cG(e:Expr):Scope:=match e with
 |.ListComp _ _ s _=>s
 |.DictComp _ _ _ s _=>s
 |_=>{kind:=.function,names:=[],isGenerator:=false,isCoroutine:=false}
def lG(s:Stmt):Expr:=match s with
 |.Return (some e) _=>e
 |_=>.Name "" ⟨0,0,0,0⟩
abbrev acW:Expr:=lG ((bq vB).getD 0 (.Pass ⟨0,0,0,0⟩))
theorem afB:gx (ak vB) (cG acW) ["pool","kinds","many"] ["k","kinds","pool"] 1 [1,0]=true:=by decide +kernel
theorem nd1:((["k","kinds","pool"]:List Str)).Nodup:=by decide +kernel
theorem aeY{f fT:Addr}{fd B:FuncData}(F:Fun K "_law_some" "_law_some" vB f fd)(FT:Fun K "_law_take" "_law_take" acj fT B)(cT:Cal K mg "_law_take" ["pool","many"] fT B)(mR:mg "range" = none)(mL:mg "len" = none):
 bx P w K mg base CX0 2 f fd ["pool","kinds","many"] qP:=by
 have GT:bx P w K mg base CX0 1 fT B ["pool","many"] dF:=aaz FT;refine F.ok af9 (λvs H Q E h=>?_) (λan A outer s H vs Q E hr h=>?_)
 .obtain⟨p,q,n,c,ks,rfl,_⟩:=h
  rfl
 .obtain⟨p,q,n,c,ks,rfl,⟨o,hp,Y⟩,hq,hk,aD,hn,hc,aE,k⟩:=h;obtain⟨S,Cp⟩:=eQ (X:=(ur CX0 P w K mg base ["pool","kinds","many"] "_law_some" (ak vB) f an A outer s H E).nox) (outer:=ak vB) (N:=["pool","kinds","many"]) rfl rfl afB;refine⟨_,av (aM (jz (tg:=.Name "k" _) rfl S Cp (gJ rfl mR (ae (pv 2) aj))
   (λ_ _ _ _=>aq (i:=0) nd1 rfl (.inl rfl) (.inr rfl)) (λ_ _ _ _=>bt)
   (λ_ _ _ _=>bY (jH (K:=K) rfl) (pv 1) (bM GT hr rfl cT.mg cT.kp cT.b .nil eJ (ae (pv 2) (ae (ay (t4 (K:=K) rfl) rfl mL ajq (ae (pv 1) aj)) aj))) (λ_ _=>rfl)))),?_⟩
  refine aH _ _ _ _ _ _ _ _ _ ?_;refine⟨_,rfl,(n:Int),rfl,by lia,by lia,?_⟩;intro D Z;have J:p≠D:=ag hp Z;have aF:q≠D:=ag hq Z;have aa:p≠q:=by
   obtain⟨a,f',rfl⟩:=Y;refine rL hp hq λe=>?_;injection e with e
   cases ks with
   |nil=>exact hk rfl
   |cons z r=>rw[air]at e;injection e with e1;cases e1
  rw[aiR];refine lQ (λi ys H2=>∃(ss:List Str) (c':Int),ys=ss.map V.str/\ss.length=i/\(∀x∈ss,x∈ks)/\H2 D=some (.lst ys)/\PoolAt H2 p c'/\c<=c'/\c'<=c+i/\But p H H2) ?_ (λi ys H2 ⟨_,_,_,_,_,z,_⟩=>z) ?_ ?_
  .refine⟨[],c,rfl,rfl,(λx hx=>nomatch hx),af,⟨o,by rw[ai J];exact hp,Y⟩,amT _,by lia,(But.refl p H).new Z⟩
  .rintro i ys H2 hi ⟨ss,c',rfl,hl,hm,L,⟨o2,O,ab⟩,h1,h2,hb⟩;have ac:=hb q _ (ai2 aa) hq;refine dy rfl ?_;refine⟨_,rfl,_,rfl,_,rfl,q,_,rfl,.inl (aAA ac),p,_,c',o2,rfl,O,ab,?_,?_,by lia,by lia,λr c2 o3 r0 r1 h3 h4 ad=>?_⟩
   .rw[ahY];cases ks with
    |nil=>exact absurd rfl hk
    |cons z r=>rw[aiJ];lia
   .rw[ahY];lia
   .rw[ahY]at r1;obtain⟨j,rfl⟩:∃j:Nat,r=(j:Int):=⟨r.toNat,by lia⟩;have hj:j<ks.length:=by lia
    refine⟨q,_,_,.str ks[j],rfl,rfl,aAA (by rw[ai (ai2 aa)];exact ac),ir (by rw[ah1,ahU hj];rfl),?_⟩;refine⟨by rw[ai (ai2 J)];exact L,by rw[ahY];exact aU (by lia),nx hi ?_⟩;refine⟨ss++[ks[j]],c2,by simp,by simp[hl],λx hx=>?_,af,⟨o3,by rw[ai J,af],ad⟩,by lia,by lia,?_⟩
    .rcases aic.mp hx with hx|hx
     .exact hm x hx
     .rw[ah5.mp hx];exact aiq hj
    .exact (hb.trans But.upd).new Z
  .rintro ys H2 ⟨ss,c',rfl,hl,hm,L,O,h1,h2,hb⟩;exact k D ss c' H2 Z hl hm L O h1 h2 hb
def adL(K:PySem.W.Frag):Sp:=λvs H Q _=>∃(a:Addr) (k:Nat) (ns:List Int),vs=[.ref a,.int k]/\SqL K H a (ns.map V.int)/\k<=100/\ns.length<=63 ∧
 ∀(l:Addr) (c:Int) (o:HO),H l=none->xX o c->0<=c->c<=5300->Q (.ref l) (upd H l o)
theorem scPool:aA ["script","k","cell"] ["script","k"] (ak aen):=scM rfl rfl rfl rfl (by decide +kernel)
theorem aeF{f:Addr}{fd:FuncData}(F:Fun K "_law_pool" "_law_pool" aen f fd)(Y:mg "len" = none):bx P w K mg base CX0 1 f fd ["script","k"] (adL K):=by
 refine F.ok scPool (λZ H Q E h=>?_) (λaa A outer s H Z Q E hr h=>?_)
 .obtain⟨a,k,L,rfl,_⟩:=h
  rfl
 .obtain⟨a,k,L,rfl,S,hk,hn,q⟩:=h;refine⟨_,ao (aB (i:=2) scPool.nd rfl (.inl rfl) ar)
   (ao (fm (aN agI (pv 1) (ay bE rfl Y ajq (ae (pv 0) aj)) (aZ _))
    (av (aB (i:=2) scPool.nd rfl (.inl rfl) (bY cf (pv 0) (pv 1) (λ_ _=>rfl)))) bD)
   (ao (fm (aN aft (pv 2) (bz adN ar ar) (aZ _))
    (av (aM (gX (ae (bz aad (pv 2) (bz adN ar ar)) (ae ar (ae ar aj)))))) bD)
   (av (aM (gX (ae (pv 2) (ae ar (ae (bz kj ar (pv 1)) aj)))))))),?_⟩
  refine⟨_,rfl,_,rfl,a,_,rfl,.inl S,_,_,rfl,rfl,_,rfl,?_⟩;refine abX (λO=>?_) (λ_=>?_)
  .have J:k<L.length:=by
    have z:=akp O;rw[ahY]at z;lia
   refine⟨_,rfl,_,rfl,a,_,_,.int L[k],rfl,rfl,S,ir (by rw[ah1,ahU J];rfl),?_⟩;refine⟨_,rfl,10,18,rfl,rfl,⟨by decide,by decide,by decide⟩,_,_,rfl,rfl,_,rfl,abX (λ_=>?_) (λ_=>?_)⟩
   .refine⟨_,rfl,10,18,rfl,rfl,⟨by decide,by decide,by decide⟩,_,_,rfl,rfl,(by show 3<=sizeLine;decide),λl B=>?_⟩;exact q l 0 _ B ⟨_,1,rfl⟩ (by decide) (by decide)
   .refine⟨_,rfl,_,rfl,53,k,rfl,rfl,.inl ⟨by decide,by decide⟩,(by show 3<=sizeLine;decide),λl B=>?_⟩;exact q l (53*k) _ B ⟨_,0,rfl⟩ (by lia) (by lia)
  .refine⟨_,rfl,10,18,rfl,rfl,⟨by decide,by decide,by decide⟩,_,_,rfl,rfl,_,rfl,abX (λ_=>?_) (λ_=>?_)⟩
   .refine⟨_,rfl,10,18,rfl,rfl,⟨by decide,by decide,by decide⟩,_,_,rfl,rfl,(by show 3<=sizeLine;decide),λl B=>?_⟩;exact q l 0 _ B ⟨_,1,rfl⟩ (by decide) (by decide)
   .refine⟨_,rfl,_,rfl,53,k,rfl,rfl,.inl ⟨by decide,by decide⟩,(by show 3<=sizeLine;decide),λl B=>?_⟩;exact q l (53*k) _ B ⟨_,0,rfl⟩ (by lia) (by lia)
def aW(z:Str):Prop:=1<=z.length/\z.length<=4/\∀c∈z.cps.toList,97<=c/\c<=122
def z6:Sp:=λvs H Q _=>∃z:Str,vs=[.str z]/\aW z/\∀H',Same H H'->Q (.bl true) H'
abbrev lettersS:Str := "abcdefghijklmnopqrstuvwxyz"
theorem yj c (h1:97<=c)(h2:c<=122):(!(Builtin.Str.occurrences lettersS ⟨#[c]⟩ 0 lettersS.length 1).isEmpty)=true:=by
 have all:∀k:_root_.Fin 26,(!(Builtin.Str.occurrences lettersS ⟨#[97+k.val]⟩ 0 lettersS.length 1).isEmpty)=true:=by decide +kernel
 have e:=all ⟨c-97,by lia⟩;grind
structure Glb(mg:Str->Option Value):Prop where
 isi:mg "isinstance" = none
 str:mg "str" = none
 len:mg "len" = none
 all:mg "all" = none
 letters:∃t,mg "LETTERS" = some (.str lettersS t)
 most:∃t,mg "MOST_LETTERS" = some (.int 4 t)
theorem afp:aA ["thing"] ["thing"] (ak ue):=scM rfl rfl rfl rfl (by decide +kernel)
def nH(e:Expr):Expr:=match e with
 |.Call _ (a::_) _ _=>a
 |e=>e
abbrev ac9:Expr:=nH (lG ((bq ue).getD 1 (.Pass ⟨0,0,0,0⟩)))
theorem agj:gx (ak ue) (cG ac9) ["thing"] ["sign"] 1 []=true:=by decide +kernel
theorem nd2:(["sign"]:List Str).Nodup:=by decide +kernel
theorem abh{f:Addr}{fd:FuncData}(F:Fun K "is_kind" "is_kind" ue f fd)(G:Glb mg):bx P w K mg base CX0 1 f fd ["thing"] z6:=by
 obtain⟨tl,hL⟩:=G.letters;obtain⟨tm,hM⟩:=G.most;refine F.ok afp (λvs H Q E h=>?_) (λJ A outer s H vs Q E hr h=>?_)
 .obtain⟨z,rfl,_⟩:=h
  rfl
 .obtain⟨z,rfl,⟨z1,z2,O⟩,k⟩:=h;obtain⟨S,Cp⟩:=eQ (X:=(ur CX0 P w K mg base ["thing"] "is_kind" (ak ue) f J A outer s H E).nox) (outer:=ak ue) (N:=["thing"]) rfl rfl agj;refine⟨_,ao (fm (PW.pt (pV (k9 (mV (ay fG rfl G.isi (by decide +kernel) (ae (pv 0) (ae (oj (v:=.ty "str") (u:=.type "str") rfl G.str (by decide +kernel) rfl) aj)))))
   (mF (k9 (abZ ac7 ac7 ar (ay mE rfl G.len ajq (ae (pv 0) aj)) (qZ (v:=.int 4) rfl hM ⟨tm,rfl⟩))))))
   (av (aM oE)) bD)
   (av (aM (ay (kE rfl) rfl G.all (by decide +kernel) (ae (jz (tg:=.Name "sign" _) rfl S Cp (agq (pv 0))
    (λ_ _ _ _=>aq (i:=0) nd2 rfl (.inl rfl) (.inr rfl)) (λ_ _ _ _=>bt)
    (λ_ _ _ _=>gE aaE (pv 0) (qZ (v:=.str lettersS) rfl hL ⟨tl,rfl⟩) (by with_unfolding_all rfl))) aj)))),?_⟩
  have zs:z.length<=sizeLine:=aiF (aU (by lia));refine⟨_,rfl,_,_,_,true,rfl,.str z,kF K _,true,rfl,?_⟩;refine iR ?_;refine⟨_,rfl,z,rfl,zs,1,_,rfl,rfl,true,aiO V.bl (aiv (by lia)),?_⟩;refine mZ ?_;refine⟨_,4,rfl,rfl,true,aiO V.bl (aiv (by lia)),?_⟩;refine iR ?_;dsimp only [wU,zT,tCB,ax,cS];refine aH _ _ _ _ _ _ _ _ _ ?_;refine⟨_,rfl,z,rfl,?_⟩;intro D Y;refine ab1 (λi ys H2=>ys=(List.replicate i true).map V.bl/\H2 D=some (.lst ys)/\Same H H2) ⟨rfl,af,λb u e=>by rw[ai (ag e Y)];exact e⟩ (λi ys H2 ⟨_,h,_⟩=>h) ?_ ?_
  .rintro i ys H2 c Z ⟨rfl,B,L⟩;have hi:i<z.cps.size:=(al9.mp Z).1;have hz:z.length=z.cps.size:=rfl;have hm:c∈z.cps.toList:=by
    have:=Array.mem_of_getElem? Z;simpa using this
   refine dy rfl ?_;refine⟨_,rfl,_,_,rfl,rfl,B,by rw[ahY,aiD];exact aU (by lia),nx hi ⟨?_,af,λb u e=>?_⟩⟩
   .rw[yj c (O c hm).1 (O c hm).2,alM,aia]
    rfl
   .rw[ai (ag e Y)];exact L b u e
  .rintro ys H2 ⟨rfl,B,L⟩;refine⟨D,List.replicate z.cps.size true,rfl,aAA B,?_⟩;have e:(List.replicate z.cps.size true).all id=true:=by simp
   rw[e];exact k H2 L
def sq:Sp:=λvs H Q _=>∃(a:Addr) (ks:List Str),vs=[.ref a]/\H a=some (.lst (ks.map V.str))/\(∀k∈ks,aW k)/\ks.length<=1000/\∀H',Same H H'->Q (.bl true) H'
def xG(e:Expr):Expr:=match e with
 |.BoolOp _ es _=>es.getLastD e
 |e=>e
theorem aeC:aA ["thing"] ["thing"] (ak pC):=scM rfl rfl rfl rfl (by decide +kernel)
abbrev aaf:Expr:=nH (xG (lG ((bq pC).getD 0 (.Pass ⟨0,0,0,0⟩))))
theorem aeB:gx (ak pC) (cG aaf) ["thing"] ["kind"] 1 []=true:=by decide +kernel
theorem nd3:(["kind"]:List Str).Nodup:=by decide +kernel
theorem acV{f Y:Addr}{fd z:FuncData}(F:Fun K "are_kinds" "are_kinds" pC f fd)(FK:Fun K "is_kind" "is_kind" ue Y z)(Z:Cal K mg "is_kind" ["thing"] Y z)(G:Glb mg)(aa:mg "list" = none):bx P w K mg base CX0 2 f fd ["thing"] sq:=by
 have GK:bx P w K mg base CX0 1 Y z ["thing"] z6:=abh FK G;refine F.ok aeC (λvs H Q E h=>?_) (λab A outer s H vs Q E hr h=>?_)
 .obtain⟨a,ks,rfl,_⟩:=h
  rfl
 .obtain⟨a,ks,rfl,ha,hk,hl,k⟩:=h;obtain⟨S,Cp⟩:=eQ (X:=(ur CX0 P w K mg base ["thing"] "are_kinds" (ak pC) f ab A outer s H E).nox) (outer:=ak pC) (N:=["thing"]) rfl rfl aeB;refine⟨_,av (aM (mK (ay fG rfl G.isi (by decide +kernel) (ae (pv 0) (ae (oj (v:=.ty "list") (u:=.type "list") rfl aa (by decide +kernel) rfl) aj)))
   (xn (ay (kE rfl) rfl G.all (by decide +kernel) (ae (jz (tg:=.Name "kind" _) rfl S Cp (aV (pv 0))
    (λ_ _ _ _=>aq (i:=0) nd3 rfl (.inl rfl) (.inr rfl)) (λ_ _ _ _=>bt)
    (λ_ _ _ _=>bM GK hr rfl Z.mg Z.kp Z.b .nil eJ (ae (pv 0) aj))) aj))))),?_⟩
  refine⟨_,rfl,_,_,_,true,rfl,.lst ha,kF K _,true,rfl,?_⟩;refine mZ ?_;dsimp only [wU,zT,tCB,ax,cS];refine aH _ _ _ _ _ _ _ _ _ ?_;refine⟨_,rfl,a,rfl,⟨_,aAA ha⟩,?_⟩;intro D hD;refine bB (xs:=ks.map V.str) (λi ys H2=>ys=(List.replicate i true).map V.bl/\i<=1000/\H2 D=some (.lst ys)/\Same H H2) ⟨rfl,by decide,af,λb u e=>by rw[ai (ag e hD)];exact e⟩ (λi ys H2 ⟨_,_,h,_⟩=>h) (λi ys H2 ⟨_,_,_,L⟩=>aAA (L a _ ha)) ?_ ?_
  .rintro i ys H2 x hx ⟨rfl,ap,B,L⟩;have hi:i<(ks.map V.str).length:=(ahW.mp hx).1;have J:=hi;rw[ahY]at J;rw[ah1,ahU J]at hx;cases hx;refine dy rfl ?_;refine⟨_,rfl,ks[i],rfl,hk _ (aiq J),λH3 O=>?_⟩;refine⟨O D _ B,by rw[ahY,aiD];exact aU (by lia),nx hi ⟨?_,by lia,af,λb u e=>?_⟩⟩
   .rw[alM,aia]
    rfl
   .rw[ai (ag e hD)];exact O b u (L b u e)
  .rintro ys H2 ⟨rfl,_,B,L⟩;refine⟨D,List.replicate (ks.map V.str).length true,rfl,aAA B,?_⟩;have e:(List.replicate (ks.map V.str).length true).all id=true:=by simp
   rw[e];exact k H2 L
def zR:Sp:=λvs H Q _=>∃(a:Addr) (ks:List Str),vs=[.ref a]/\H a=some (.lst (ks.map V.str))/\(∀k∈ks,aW k)/\1<=ks.length/\ks.length<=4/\ks.Pairwise leS/\∀H',Same H H'->Q (.bl true) H'
theorem jt{ks:List _}(h:∀k∈ks,aW k):PyData.canLayAll0 (ks.map PyData.str)=true:=by
 induction ks with
 |nil=>rfl
 |cons z r L=>
  have B:=h z aid;have O:PyData.strOk z=true:=by
   unfold PyData.strOk;rw[←Array.all_toList,aiZ];intro c J;exact aiv (by have:=B.2.2 c J;lia)
  rw[air];simp only[PyData.canLayAll0,PyData.canLay0];simp_all
theorem xb:∀ks:List _,PyData.eqvAll (ks.map PyData.str) (ks.map PyData.str)=true
 |[]=>rfl
 |z::r=>by
  rw[air];simp only[PyData.eqvAll,PyData.eqv,amY];exact xb r
theorem lY:∀ks:List _,PyData.depthAll (ks.map PyData.str)=0
 |[]=>rfl
 |z::r=>by
  rw[air];simp only[PyData.depthAll,lY r]
  rfl
theorem ae6:aA ["thing"] ["thing"] (ak zt):=scM rfl rfl rfl rfl (by decide +kernel)
theorem ab7{f fK:Addr}{fd B:FuncData}(F:Fun K "are_locks" "are_locks" zt f fd)(GK:bx P w K mg base CX0 2 fK B ["thing"] sq)(J:Cal K mg "are_kinds" ["thing"] fK B)(L:mg "len" = none)(O:mg "sorted" = none)(S:∃t,mg "MOST_LOCKS" = some (.int 4 t)):
 bx P w K mg base CX0 3 f fd ["thing"] zR:=by
 obtain⟨tm,S⟩:=S;refine F.ok ae6 (λvs H Q E h=>?_) (λam A outer s H vs Q E hr h=>?_)
 .obtain⟨a,ks,rfl,_⟩:=h
  rfl
 .obtain⟨a,ks,rfl,ha,Y,h1,h4,hs,k⟩:=h;have hu:=gm hr;refine⟨_,av (aM (mK (bM GK hr rfl J.mg J.kp J.b .nil eJ (ae (pv 0) aj))
   (mK (ac4 ac7 ac7 ar (ay bE rfl L ajq (ae (pv 0) aj)) (qZ (v:=.int 4) rfl S ⟨tm,rfl⟩))
   (xn (gE afC (pv 0) (ay iG rfl O aj6 (ae (pv 0) aj)) (aZ _)))))),?_⟩
  refine⟨_,rfl,a,ks,rfl,ha,Y,by lia,λH1 Z=>⟨true,rfl,?_⟩⟩;refine mZ ?_;have z:=Z a _ ha;refine⟨_,rfl,a,_,rfl,.inl (aAA z),1,_,rfl,rfl,true,aiO V.bl (aiv (by rw[ahY];lia)),?_⟩;refine mZ ?_;refine⟨_,4,rfl,rfl,true,aiO V.bl (aiv (by rw[ahY];lia)),?_⟩;refine mZ ?_;refine⟨_,rfl,_,rfl,a,ks,rfl,aAA z,by lia,λl ss hl hp aa=>?_⟩;have e:ss=ks:=lK (eU aa) hs hp;subst e;have ne:a≠l:=ag z hl;refine⟨.list (ss.map PyData.str),.list (ss.map PyData.str),.lst (by rw[ai ne];exact z) (SeesAll.strs ss),.lst af (SeesAll.strs ss),jt Y,jt Y,?_,?_⟩
  .show _+min (PyData.depthAll (ss.map PyData.str)+1) (PyData.depthAll (ss.map PyData.str)+1)<cLine;rw[lY];exact hu
  .have ee:PyData.eqv (.list (ss.map PyData.str)) (.list (ss.map PyData.str))=true:=xb ss;rw[ee];exact k _ λb u e=>by rw[ai (ag (Z b u e) hl)];exact Z b u e
abbrev Rm:=List Str×List Str
structure zM(r:Rm):Prop where
 lk:∀k∈r.1,aW k
 l1:1<=r.1.length
 l4:r.1.length<=4
 so:r.1.Pairwise leS
 kk:∀k∈r.2,aW k
 kl:r.2.length<=1000
def RoomAt(H:Hp)(v:V)(r:Rm):Prop:=∃t a b:Addr,v=.ref t/\H t=some (.tup [.ref a,.ref b])/\H a=some (.lst (r.1.map V.str))/\H b=some (.lst (r.2.map V.str))
theorem RoomAt.same{H H' v r}(s:Same H H')(h:RoomAt H v r):RoomAt H' v r:=by
 obtain⟨t,a,b,e,h1,h2,z⟩:=h;exact⟨t,a,b,e,s _ _ h1,s _ _ h2,s _ _ z⟩
def adC:Sp:=λvs H Q _=>∃(v:V) (r:Rm),vs=[v]/\RoomAt H v r/\zM r/\∀H',Same H H'->Q (.bl true) H'
theorem afl:aA ["thing"] ["thing"] (ak aeH):=scM rfl rfl rfl rfl (by decide +kernel)
theorem aeZ{f fL fK:Addr}{fd z B:FuncData}(F:Fun K "is_room" "is_room" aeH f fd)(GL:bx P w K mg base CX0 3 fL z ["thing"] zR)(L:Cal K mg "are_locks" ["thing"] fL z)
 (GK:bx P w K mg base CX0 2 fK B ["thing"] sq)(O:Cal K mg "are_kinds" ["thing"] fK B)(mI:mg "isinstance" = none)(S:mg "len" = none)(Y:mg "tuple" = none):bx P w K mg base CX0 4 f fd ["thing"] adC:=by
 refine F.ok afl (λvs H Q E h=>?_) (λah A outer s H vs Q E hr h=>?_)
 .obtain⟨v,r,rfl,_⟩:=h
  rfl
 .obtain⟨v,r,rfl,⟨t,a,b,rfl,J,ha,hb⟩,ok,k⟩:=h;refine⟨_,av (aM (mK (ay fG rfl mI (by decide +kernel) (ae (pv 0) (ae (oj (v:=.ty "tuple") (u:=.type "tuple") rfl Y (by decide +kernel) rfl) aj)))
   (mK (gE lR (ay bE rfl S ajq (ae (pv 0) aj)) ar (aZ _))
   (mK (bM GL hr rfl L.mg L.kp L.b .nil eJ (ae (bY iM (pv 0) ar (λ_ _=>rfl)) aj))
   (xn (bM GK (hr.mono (by decide)) rfl O.mg O.kp O.b .nil eJ (ae (bY iM (pv 0) ar (λ_ _=>rfl)) aj))))))),?_⟩
  refine⟨_,rfl,_,_,_,true,rfl,.tup J,kF K _,true,rfl,?_⟩;refine mZ ?_;refine⟨_,rfl,t,_,rfl,.inr (aAB J),rfl,true,rfl,?_⟩;refine mZ ?_;refine⟨_,rfl,t,_,0,.ref a,rfl,rfl,aAB J,rfl,a,r.1,rfl,ha,ok.lk,ok.l1,ok.l4,ok.so,λH1 Z=>⟨true,rfl,?_⟩⟩;refine mZ ?_;refine⟨_,rfl,t,_,1,.ref b,rfl,rfl,aAB (Z _ _ J),rfl,b,r.2,rfl,Z _ _ hb,ok.kk,ok.kl,λH2 s2=>?_⟩;exact k H2 (Z.trans s2)
abbrev Hs:=List Str×List Rm
def RoomsAt(H:Hp)(vs:List V)(rs:List Rm):Prop:=vs.length=rs.length/\∀(i:Nat) (v:V) (r:Rm),vs[i]?=some v->rs[i]?=some r->RoomAt H v r
theorem RoomsAt.same{H H' vs z}(s:Same H H')(h:RoomsAt H vs z):RoomsAt H' vs z:=⟨h.1,λi v r a b=>(h.2 i v r a b).same s⟩
def HouseAt(H:Hp)(v:V)(h:Hs):Prop:=∃(t a r:Addr) (vs:List V),v=.ref t/\H t=some (.tup [.ref a,.ref r])/\H a=some (.lst (h.1.map V.str))/\H r=some (.lst vs)/\RoomsAt H vs h.2
theorem HouseAt.same{H H' v h}(s:Same H H')(x:HouseAt H v h):HouseAt H' v h:=by
 obtain⟨t,a,r,z,e,h1,h2,B,J⟩:=x;exact⟨t,a,r,z,e,s _ _ h1,s _ _ h2,s _ _ B,J.same s⟩
structure aE(h:Hs):Prop where
 kk:∀k∈h.1,aW k
 kl:h.1.length<=1000
 rs:∀r∈h.2,zM r
 rl:h.2.length<=1000
def abL:Sp:=λvs H Q _=>∃(v:V) (h:Hs),vs=[v]/\HouseAt H v h/\aE h/\∀H',Same H H'->Q (.bl true) H'
def yA:Sp:=λvs H Q _=>∃(v:V) (h:Hs),vs=[v]/\HouseAt H v h/\aE h/\∀H',Same H H'->Q .non H'
theorem scHouse:aA ["thing","keys","rooms"] ["thing"] (ak oM):=scM rfl rfl rfl rfl (by decide +kernel)
abbrev abe:Expr:=nH (xG (lG ((bq oM).getD 2 (.Pass ⟨0,0,0,0⟩))))
theorem aeA:gx (ak oM) (cG abe) ["thing","keys","rooms"] ["room"] 1 []=true:=by decide +kernel
theorem nd4:(["room"]:List Str).Nodup:=by decide +kernel
theorem acg{f fR fK:Addr}{fd O Y:FuncData}(F:Fun K "is_house" "is_house" oM f fd)(GR:bx P w K mg base CX0 4 fR O ["thing"] adC)(cR:Cal K mg "is_room" ["thing"] fR O)
 (GK:bx P w K mg base CX0 2 fK Y ["thing"] sq)(cK:Cal K mg "are_kinds" ["thing"] fK Y)(mI:mg "isinstance" = none)(ah:mg "len" = none)(al:mg "tuple" = none)(am:mg "list" = none)(an:mg "all" = none):bx P w K mg base CX0 5 f fd ["thing"] abL:=by
 refine F.ok scHouse (λz H Q E h=>?_) (λap A outer s H z Q E hr h=>?_)
 .obtain⟨v,r,rfl,_⟩:=h
  rfl
 .obtain⟨v,hs,rfl,⟨t,a,r,z,rfl,ht,ha,B,hR⟩,ok,k⟩:=h;obtain⟨S,Cp⟩:=eQ (X:=(ur CX0 P w K mg base ["thing","keys","rooms"] "is_house" (ak oM) f ap A outer s H E).nox) (outer:=ak oM) (N:=["thing","keys","rooms"]) rfl rfl aeA;refine⟨_,ao (fm (PW.pt (pV (k9 (mV (ay fG rfl mI (by decide +kernel) (ae (pv 0) (ae (oj (v:=.ty "tuple") (u:=.type "tuple") rfl al (by decide +kernel) rfl) aj)))))
   (mF (aN wJ (ay bE rfl ah ajq (ae (pv 0) aj)) ar (aZ _)))))
   (av (aM oE)) bD)
   (ao (oR (pv 0) (gb rfl (au (aq (i:=1) scHouse.nd rfl (.inl rfl)) (au (aq (i:=2) scHouse.nd rfl (.inl rfl)) aO))))
   (av (aM (mK (bM GK (hr.mono (by decide)) rfl cK.mg cK.kp cK.b .nil eJ (ae (pv 1) aj))
    (mK (ay fG rfl mI (by decide +kernel) (ae (pv 2) (ae (oj (v:=.ty "list") (u:=.type "list") rfl am (by decide +kernel) rfl) aj)))
    (xn (ay (kE rfl) rfl an (by decide +kernel) (ae (jz (tg:=.Name "room" _) rfl S Cp (aV (pv 2))
     (λ_ _ _ _=>aq (i:=0) nd4 rfl (.inl rfl) (.inr rfl)) (λ_ _ _ _=>bt)
     (λ_ _ _ _=>bM GR hr rfl cR.mg cR.kp cR.b .nil eJ (ae (pv 0) aj))) aj)))))))),?_⟩
  refine⟨_,rfl,_,_,_,true,rfl,.tup ht,kF K _,true,rfl,?_⟩;refine iR ?_;refine⟨_,rfl,t,_,rfl,.inr (aAB ht),rfl,false,rfl,?_⟩;refine iR ?_;refine⟨_,rfl,t,_,rfl,aAB ht,rfl,_,_,rfl,_,_,rfl,rfl,?_⟩;refine⟨_,rfl,a,hs.1,rfl,ha,ok.kk,ok.kl,λH1 Z=>⟨true,rfl,?_⟩⟩;refine mZ ?_;refine⟨_,rfl,_,_,_,true,rfl,.lst (Z _ _ B),kF K _,true,rfl,?_⟩;refine mZ ?_;dsimp only [wU,zT,tCB,ax,cS];refine aH _ _ _ _ _ _ _ _ _ ?_;refine⟨_,rfl,r,rfl,⟨_,aAA (Z _ _ B)⟩,?_⟩;intro D hD;have hl:z.length<=1000:=by rw[hR.1];exact ok.rl
  refine bB (xs:=z) (λi ys H2=>ys=(List.replicate i true).map V.bl/\i<=1000/\H2 D=some (.lst ys)/\Same H1 H2) ⟨rfl,by decide,af,λb u e=>by rw[ai (ag e hD)];exact e⟩ (λi ys H2 ⟨_,_,h,_⟩=>h) (λi ys H2 ⟨_,_,_,L⟩=>aAA (L r _ (Z _ _ B))) ?_ ?_
  .rintro i ys H2 x hx ⟨rfl,aJ,J,L⟩;have hi:i<z.length:=(ahW.mp hx).1;have aa:i<hs.2.length:=by rw[←hR.1];exact hi
   refine dy rfl ?_;refine⟨_,rfl,x,hs.2[i],rfl,((hR.2 i x _ hx (ahU aa)).same Z).same L,ok.rs _ (aiq aa),λH3 ab=>?_⟩;refine⟨ab D _ J,by rw[ahY,aiD];exact aU (by lia),nx hi ⟨?_,by lia,af,λb u e=>?_⟩⟩
   .rw[alM,aia]
    rfl
   .rw[ai (ag e hD)];exact ab b u (L b u e)
  .rintro ys H2 ⟨rfl,_,J,L⟩;refine⟨D,List.replicate z.length true,rfl,aAA J,?_⟩;have e:(List.replicate z.length true).all id=true:=by simp
   rw[e];exact k H2 (Z.trans L)
theorem ag4:aA ["thing"] ["thing"] (ak ahb):=scM rfl rfl rfl rfl (by decide +kernel)
theorem af1{f J fd z}(F:Fun K "require_house" "require_house" ahb f fd)(L:bx P w K mg base CX0 5 J z ["thing"] abL)(B:Cal K mg "is_house" ["thing"] J z):bx P w K mg base CX0 6 f fd ["thing"] yA:=by
 refine F.ok ag4 (λO H Q E h=>?_) (λS A outer s H O Q E hr h=>?_)
 .obtain⟨v,r,rfl,_⟩:=h
  rfl
 .obtain⟨v,Y,rfl,Z,ok,k⟩:=h;exact⟨_,av (fm (k9 (mV (bM L hr rfl B.mg B.kp B.b .nil eJ (ae (pv 0) aj)))) kR bD),⟨_,rfl,v,Y,rfl,Z,ok,λH1 s1=>⟨true,rfl,k H1 s1⟩⟩⟩
end
def pd(hand locks:List Str):Bool:=locks.all λx=>decide (locks.count x<=hand.count x)
def lW(hand:List Str)(r:Rm):List Str:=r.1.foldl List.erase hand++r.2
theorem cI x:∀(l h:List Str),(l.foldl List.erase h).count x=h.count x-l.count x
 |[],h=>by simp
 |a::l,h=>by
  rw[anc,cI x l,List.count_erase,alW];grind
def dj(ks:List Str)(rs:List Rm)(order:List Nat):List Str:=order.foldl (λhd i=>lW hd ((rs[i]?).getD ([],[]))) ks
theorem ip ks B z i:dj ks B (z++[i])=lW (dj ks B z) ((B[i]?).getD ([],[])):=by
 unfold dj;rw[amF]
 rfl
def nextOf(rs:List Rm)(hand:List Str)(order:List Nat):List Nat:=(List.range rs.length).filter λi=>!decide (i∈order)&&pd hand ((rs[i]?).getD ([],[])).1
def dP(ks:List Str)(rs:List Rm)(order:List Nat):Prop:=∀j i,order[j]?=some i->i<rs.length/\i∉order.take j/\pd (dj ks rs (order.take j)) ((rs[i]?).getD ([],[])).1=true
def bG(o:List Nat):Nat:=o.foldl (λm i=>m ||| 2^i) 0
theorem hE o i:bG (o++[i])=bG o ||| 2^i:=by
 unfold bG;rw[amF]
 rfl
theorem fc(o:List Nat):∀i,(bG o).testBit i=decide (i∈o):=by
 have B:∀(l:List Nat) (m i:Nat),(l.foldl (λm i=>m ||| 2^i) m).testBit i=(m.testBit i||decide (i∈l)):=λl=>by
  induction l with
  |nil=>intro m i;simp
  |cons a l J=>
   intro m i;rw[anc,J,Nat.testBit_or,Nat.testBit_two_pow];by_cases h:a=i
   .subst h;simp
   .have h':i≠a:=λz=>h z.symm;simp[h,h']
 intro i;unfold bG;rw[B];simp
theorem ot{o o'}(p:o.Perm o'):bG o=bG o':=Nat.eq_of_testBit_eq λi=>by
 rw[fc,fc];exact ajx.mpr p.mem_iff
theorem dW{o o'}(n:o.Nodup)(z:o'.Nodup)(e:bG o=bG o'):o.Perm o':=(ajt n z).mpr λi=>by
 have h1:=fc o i;have h2:=fc o' i;simp_all
theorem sr{o:List Nat}{n:Nat}(h:∀i∈o,i<n):bG o<2^n:=Nat.lt_pow_two_of_testBit _ λi hi=>by
 rw[fc];exact aiC λz=>by have:=h i z;lia
theorem abH(a b:Nat):Builtin.bitOr a b=a ||| b:=by
 unfold Builtin.bitOr Builtin.bitAnd Builtin.bitNot;have h1:decide (0<=(-(a:Int)-1))=false:=aiC (by lia);have h2:decide (0<=(-(b:Int)-1))=false:=aiC (by lia);simp only[h1,h2];have z:(-(-a-1)-1)=(a:Int):=by lia
 have B:(-(-b-1)-1)=(b:Int):=by lia
 simp only[z,B,aiR];lia
theorem zH o (i:Nat):Builtin.bitAnd (bG o / 2^((i:Int)).toNat) 1=if i∈o then 1 else 0:=by
 rw[bitAnd_m1,aiR];have t:=fc o i;grind
structure agY(h:Hs)(ks:List Str):Prop where
 nd:ks.Nodup
 mem:∀k,k∈ks↔∃r∈h.2,k∈r.1
 few:ks.length<=63
def gD(ks hand:List Str):List Int:=ks.map λk=>((hand.count k:Nat):Int)
def kAt(ks:List Str)(p:Nat):Str:=(ks[p]?).getD ""
def eP(ks:List Str)(r:Rm):List (Nat×Int):=((List.range ks.length).filter λp=>decide (kAt ks p∈r.1)).map λp=>(p,((r.1.count (kAt ks p):Nat):Int))
def agE(r:Rm)(k:Str):Int:=((r.2.count k:Nat):Int)-((r.1.count k:Nat):Int)
def chB(ks:List Str)(r:Rm)(p:Nat):Bool:=decide (kAt ks p∈r.1)||decide (kAt ks p∈r.2)
def agA(ks:List Str)(r:Rm)(m:Nat):List (Nat×Int):=((List.range m).filter (chB ks r)).map λp=>(p,agE r (kAt ks p))
def lg(ks:List Str)(r:Rm):List (Nat×Int):=agA ks r ks.length
theorem aaH{ks p}(h:p<ks.length):ks[p]?=some (kAt ks p):=by
 unfold kAt;simp_all
theorem aeM{ks k}(h:k∈ks):∃p,p<ks.length/\kAt ks p=k:=by
 obtain⟨p,z,e⟩:=ajJ h;refine⟨p,z,?_⟩;unfold kAt;simp_all
theorem vW{ks hand p}(h:p<ks.length):(gD ks hand)[p]?=some (hand.count (kAt ks p):Int):=by
 unfold gD;rw[ah1,aaH h]
 rfl
theorem qW ks hand:(gD ks hand).length=ks.length:=by unfold gD;rw[ahY]
theorem abR{ks hand r}(s:∀k∈r.1,k∈ks):(∀c∈eP ks r,c.2<=hand.count (kAt ks c.1))↔pd hand r.1=true:=by
 unfold pd;rw[aiZ];constructor
 .intro h k B;obtain⟨p,z,e⟩:=aeM (s k B);have:=h _ (ah8.mpr ⟨p,aiU.mpr ⟨ajL.mpr z,aiv (by simp_all)⟩,rfl⟩);simp_all
 .intro h c J;obtain⟨p,z,rfl⟩:=ah8.mp J;simp_all
def aaP(v:List Int)(cs:List (Nat×Int)):List Int:=cs.foldl (λv c=>v.set c.1 (v.getD c.1 0+c.2)) v
theorem t8 v z c:aaP v (z++[c])=(aaP v z).set c.1 ((aaP v z).getD c.1 0+c.2):=by
 unfold aaP;rw[amF]
 rfl
theorem xZ v:∀z:_,(aaP v z).length=v.length:=by
 have B:∀(z:List (Nat×Int)) (v:List _),(z.foldl (λv c=>v.set c.1 (v.getD c.1 0+c.2)) v).length=v.length:=λz=>by
  induction z<;>simp_all
 exact λz=>B z v
theorem agm{ks r} v (L:v.length=ks.length):∀m,m<=ks.length->∀p:_,(aaP v (agA ks r m))[p]?=if p<m/\chB ks r p=true then (v[p]?).map (· + agE r (kAt ks p)) else v[p]?
 |0,_,p=>by rfl
 |m+1,hm,p=>by
  have ih:=agm (r:=r) v L m (by lia);unfold agA at ih⊢;rw[ajP,ai5,aia];cases hc:chB ks r m with
  |false=>
   have e:[m].filter (chB ks r)=[]:=by simp[hc]
   rw[e,List.map_nil,aiV,ih p];by_cases h1:p<m/\chB ks r p=true
   .rw[if_pos h1,if_pos ⟨by lia,h1.2⟩]
   .rw[if_neg h1,if_neg];grind
  |true=>
   have e:[m].filter (chB ks r)=[m]:=by simp[hc]
   rw[e,List.map_singleton,t8];have B:m<v.length:=by lia
   have J:=ih m;rw[if_neg (by lia)]at J;by_cases z:p=m
   .subst z;rw[aj7 (by rw[xZ];exact B),if_pos ⟨by lia,hc⟩,ajD,J,ahU B]
    rfl
   .rw[aki (λy=>z y.symm),ih p];by_cases h1:p<m/\chB ks r p=true
    .rw[if_pos h1,if_pos ⟨by lia,h1.2⟩]
    .rw[if_neg h1,if_neg];grind
theorem ace{ks hand r}(m:pd hand r.1=true):aaP (gD ks hand) (lg ks r)=gD ks (lW hand r):=by
 apply aj1;intro p;unfold lg;rw[agm _ (qW ks _) _ (ah4 _)];by_cases B:p<ks.length
 .rw[vW B,vW B];have J:(lW hand r).count (kAt ks p)=hand.count (kAt ks p)-r.1.count (kAt ks p)+r.2.count (kAt ks p):=by
   unfold lW;rw[ajk,cI]
  have le:r.1.count (kAt ks p)<=hand.count (kAt ks p):=by
   by_cases L:kAt ks p∈r.1
   .unfold pd at m;simp_all
   .rw[ajT L];exact ail _
  rw[J];by_cases hb:chB ks r p=true
  .rw[if_pos ⟨B,hb⟩];have e:(hand.count (kAt ks p)-r.1.count (kAt ks p)+r.2.count (kAt ks p):Nat)=hand.count (kAt ks p)+(r.2.count (kAt ks p)-(r.1.count (kAt ks p):Int)):=by lia
   rw[e]
   rfl
  .rw[if_neg (λz=>hb z.2)];unfold chB at hb;rw[ak9,ajr,ajr,not_or]at hb;rw[ajT hb.1,ajT hb.2];simp
 .rw[if_neg (λz=>B z.1),akK (by rw[qW];lia),akK (by rw[qW];lia)]
def aha(s:Stmt):Expr:=match s with
 |.Assign _ e _=>e
 |_=>.Name "" ⟨0,0,0,0⟩
abbrev rmD(rs:List Rm)(i:Nat):Rm:=(rs[i]?).getD ([],[])
theorem next_iffD{z hand o i}:i∈nextOf z hand o↔i<z.length/\i∉o/\pd hand (rmD z i).1=true:=by
 unfold nextOf;simp_all
theorem cU ks z:dP ks z []:=λj i e=>by simp at e
theorem bw{ks:List Str}{z:List Rm}{o:List Nat}{i:Nat}(g:dP ks z o)(hi:i∈nextOf z (dj ks z o) o):dP ks z (o++[i]):=by
 intro j k e;obtain⟨h1,h2,B⟩:=next_iffD.mp hi;by_cases J:j<o.length
 .rw[aik J]at e;rw[aji (by lia)];exact g j k e
 .rw[aio (by lia)]at e;have:j-o.length=0:=by
   have:=(ahW.mp e).1;simp at this;lia
  rw[this]at e;cases e;have L:j=o.length:=by lia
  subst L;rw[aji (ah4 _),aiz];exact⟨h1,h2,B⟩
theorem dQ{ks z o i}(g:dP ks z (o++[i])):dP ks z o/\i∈nextOf z (dj ks z o) o:=by
 constructor
 .intro j k e;have B:=(ahW.mp e).1;have:=g j k (by rw[aik B];exact e);rw[aji (by lia)]at this;exact this
 .have:=g o.length i (by simp);rw[aji (ah4 _),aiz]at this;exact next_iffD.mpr this
theorem gZ{p:List Nat->Prop}(B:p [])(J:∀o i,p o->p (o++[i])) o:p o:=by
 have L:∀n o,o.length=n->p o:=λn=>by
  induction n with
  |zero=>simp_all
  |succ n O=>
   intro o e;rcases alz o with z|⟨r,y,z⟩<;>simp_all
 simp_all
theorem br{ks J}:∀o,dP ks J o->o.Nodup:=by
 refine gZ (λ_=>.nil) λo i L g=>?_;obtain⟨O,S⟩:=dQ g;rw[ajG];refine⟨L O,by simp,λa Y b B=>?_⟩;rw[ah5]at B;subst B;exact λz=>(next_iffD.mp S).2.1 (z▸Y)
theorem jw{ks B}:∀o,dP ks B o->∀i∈o,i<B.length:=by
 refine gZ (λ_ i z=>nomatch z) λo i J g k L=>?_;obtain⟨O,S⟩:=dQ g;rcases aic.mp L with z|z
 .exact J O k z
 .rw[ah5]at z;subst z;exact (next_iffD.mp S).1
theorem iw:∀{n} {o:List _},o.Nodup->(∀i∈o,i<n)->o.length<=n
 |0,[],_,_=>ah4 _
 |0,a::_,_,lt=>absurd (lt a (aid ..)) (by lia)
 |n+1,o,nd,lt=>by
  have z:=iw (n:=n)  (nd.erase n) λi hi=>by
   grind
  grind
theorem sj{ks z o}(g:dP ks z o):o.length<=z.length:=iw (br o g) (jw o g)
theorem ae4{hand r}(m:pd hand r=true) k:r.count k<=hand.count k:=by
 by_cases z:k∈r
 .unfold pd at m;simp_all
 .rw[ajT z];exact ail _
theorem oe{ks z} k:∀o,dP ks z o->(dj ks z o).count k+(o.flatMap λi=>(rmD z i).1).count k=ks.count k+(o.flatMap λi=>(rmD z i).2).count k:=by
 refine gZ (λ_=>rfl) λo i J g=>?_;obtain⟨L,B⟩:=dQ g;have le:=ae4 (next_iffD.mp B).2.2 k;rw[ip,ajK,ajK,ajk,ajk];unfold lW;rw[ajk,cI];simp only[aiY,List.flatMap_nil,aiV];grind
theorem lP{ks:List Str}{z:List Rm}{o o':List Nat}(g:dP ks z o)(B:dP ks z o')(p:o.Perm o'):(dj ks z o).Perm (dj ks z o'):=by
 rw[al3];intro k;have a:=oe k o g;have b:=oe k o' B;have c:=(p.flatMap_right λi=>(rmD z i).1).count_eq k;have d:=(p.flatMap_right λi=>(rmD z i).2).count_eq k;lia
theorem lZ{J B z o o'}(p:B.Perm z)(q:o.Perm o'):nextOf J B o=nextOf J z o':=by
 apply aj3;intro i _;have L:decide (i∈o)=decide _:=ajx.mpr q.mem_iff;have O:∀l,pd B l=pd z l:=λl=>by
  unfold pd;congr 1;funext x;rw[p.count_eq]
 rw[L,O]
structure LevL(h:Hs)(n:Nat)(L:List (List Nat)):Prop where
 gone:∀o∈L,dP h.1 h.2 o
 len:∀o∈L,o.length=n
 nd:(L.map bG).Nodup
abbrev cn(h:Hs)(o:List Nat):List Nat:=nextOf h.2 (dj h.1 h.2 o) o
theorem LevL.nil h n:LevL h n []:=⟨λo z=>absurd z aiT,λo z=>absurd z aiT,akR⟩
theorem LevL.snoc{h n M}(l:LevL h (n+1) M){o i}(g:dP h.1 h.2 o)(e:o.length=n)(hi:i∈cn h o)(no:bG (o++[i])∉M.map bG):LevL h (n+1) (M++[o++[i]]):=by
 refine⟨λx B=>?_,λx B=>?_,?_⟩
 .rcases aic.mp B with z|z
  .exact l.gone x z
  .rw[ah5]at z;subst z;exact bw g hi
 .rcases aic.mp B with z|z
  .exact l.len x z
  simp_all
 .rw[aia,ajG];refine⟨l.nd,by simp,λa L b J=>?_⟩;rw[List.map_singleton,ah5]at J;subst J;exact λz=>no (z▸L)
def afe(h:Hs)(n:Nat)(L:List (List Nat)):Prop:=∀o,dP h.1 h.2 o->o.length=n->bG o∈L.map bG
theorem aas h:afe h 0 [[]]:=λo g e=>by
 simp_all
theorem zD{h n L M}(l:LevL h n L)(a:afe h n L)(k:∀o∈L,∀i∈cn h o,bG (o++[i])∈M.map bG):afe h (n+1) M:=λo' g e=>by
 rcases alz o' with z|⟨o,i,z⟩
 .simp_all
 .rw[ank]at z;subst z;obtain⟨J,Y⟩:=dQ g;obtain⟨B,O,S⟩:=ah8.mp (a o J (by simpa using e));have p:=dW (br B (l.gone B O)) (br o J) S;have Z:i∈cn h B:=by
   unfold cn;rw[lZ (lP (l.gone B O) J p) p];exact Y
  have:=k B O i Z;rw[hE,S,←hE]at this;exact this
theorem abk{h n L}(l:LevL h n L)(ne:L≠[]):n<=h.2.length:=by
 cases L with
 |nil=>simp_all
 |cons o r=>rw[←l.len o (aid ..)];exact sj (l.gone o (aid ..))
theorem aa3{h n L}(l:LevL h n L):L.length<=2^h.2.length:=by
 have:=iw l.nd λi hi=>by
  obtain⟨o,z,rfl⟩:=ah8.mp hi;exact sr (jw o (l.gone o z))
 simp_all
end K7
namespace L2
open PySem PySem.Spec PyProof.Rows
section
variable {X:Cx}{P:Program}{w:World}{K:PySem.W.Frag}
theorem aaW(z:X.K=K)(B:X.calm=true):gn X (.builtin "all") (λxs H Q=>∃(p:Addr) (bs:List _),xs=[.ref p]/\SqL K H p (bs.map V.bl)/\Q (.bl (bs.all id)) H):=by
 subst z;exact kE B
theorem xh{a ta p pos es kk z}(B:X.K=K)(J:Gl X "enumerate")(L:X.mg "enumerate" = none)(O:PA X [a] ta)(S:starEach [a] X.env=[(false,eval a X.env)]:=by rfl):PI X (.Tuple es kk z) (.Call (.Name "enumerate" p) [a] [] pos) (afL K ta):=by
 subst B;exact wk J L O S
theorem mN(B:X.K=K):gn X (.builtin "sorted") (λxs H Q=>∃p ss,xs=[.ref p]/\SqL K H p (ss.map V.str)/\ss.length<64/\∀l z,H l=none->z.Perm ss->sortedS z=true->Q (.ref l) (upd H l (.lst (z.map V.str)))):=by
 subst B;exact iG
end
end L2
namespace L2
open PySem PySem.Spec PyProof.Rows
section
variable {X:Cx}{o e:Expr}{es:List Expr}{to:TE}{t:TA}{name:Str}{apos cpos:Pos}{T id:String}{r:V->List V->Hp->VK->Prop}{K:PySem.W.Frag}
theorem qr(Y:X.K=K)(Z:PlainAttrs T)(L:Slot T name id)(S:typeOf (.builtin id)=pure (.type "method_descriptor"))(hm:MtR X id r)(ho:PE X o to)(ha:PA X (e::es) t)
 (B:attributeBase o name X.env (eval o X.env)=eval o X.env:=by rfl)
 (O:((backTo cpos (starEach (e::es) X.env)).all (λx=>!x.1)&&(backToKw cpos (keywordEach [] X.env)).all (λx=>x.1.isSome)
 &&decide ((e::es).length+([]:List Keyword).length+(if ([]:List Keyword).isEmpty then 0 else 1)<30))=true:=by rfl)
 (J:(apos.endLine==cpos.line)=true:=by rfl)(hs:starEach (e::es) X.env=(false,eval e X.env)::starEach es X.env:=by rfl)(z:(backTo cpos (starEach es X.env)).any (·.1)=false:=by rfl):
 PE X (.Call (.Attribute o name apos) (e::es) [] cpos) (tBM K T r to t):=by
 subst Y;exact kO Z L S hm ho ha B O J hs z
end
end L2
namespace K7
open PySem L2 PyProof.Rows
def aG(h:Hs):List Str:=h.1++h.2.flatMap (·.2)
def aw(h:Hs):List Str:=h.2.flatMap (·.1)
structure fe(h:Hs):Prop where
 few:∃U:List Str,U.length<61/\∀x,(x∈aG h\/x∈aw h)->x∈U
 nk:(aG h).length<=700
 nl:(aw h).length<=1000
def tF:Sp:=λvs H Q _=>∃(v:V) (h:Hs),vs=[v]/\HouseAt H v h/\aE h/\fe h/\∀(d:Addr) (kvs:List (Key×V)) (H':Hp),H d=none->Same H H'->H' d=some (.dK kvs)->ads H' kvs (aG h) (aw h)->Q (.ref d) H'
theorem bf{α:Type}[DecidableEq α]:∀{l U:List α},l.Nodup->(∀x∈l,x∈U)->l.length<=U.length
 |[],U,_,_=>ail _
 |a::r,U,hn,h=>by
  rw[ajm]at hn;have B:=h a aid;have L:=bf (U:=U.erase a) hn.2 λx J=>by
   have ne:x≠a:=λz=>hn.1 (z▸J);exact (alJ ne).mpr (h x (aih _ J))
  have O:=amy B;have S:0<U.length:=am1 B;rw[aiJ];lia
theorem uC{α z:Type}(f:α->List z)(l:List α)(i:Nat):((l.take i).flatMap f).length<=(l.flatMap f).length:=by
 have e:l.flatMap f=(l.take i).flatMap f++(l.drop i).flatMap f:=by rw[←ajK,aiI]
 rw[e,ahZ];lia
theorem iY{α z:Type}(f:α->List z)(l:List α) i hi:(l.take (i+1)).flatMap f=(l.take i).flatMap f++f l[i]:=by
 rw[ais,ahU hi,ajK];simp
end K7
namespace L2
open PySem PySem.Spec PyProof.Rows
section
variable {prog:Program}{w:World}{A:Around}{E:Value->Shared->Prop}{R:Result->Shared->Prop}{s:Shared}
theorem vN{ex z iter ifs rest scope pos it B env}
 (L:codeAny (model prog w) A (.compLoop (.SetComp ex (⟨z,iter,ifs,0⟩::rest) scope pos) 0 it B env) R s)
 (h:wpAny (model prog w) A (pyIter it) (λJ s'=>codeAny (model prog w) A (.compLoop (.SetComp ex (⟨z,iter,ifs,0⟩::rest) scope pos) 0 J B env) R s')
  (notedBy (model prog w) A env λx s'=>R (.error x) s') s):
 codeAny (model prog w) A (.compStart (.SetComp ex (⟨z,iter,ifs,0⟩::rest) scope pos) 0 it B env) R s:=by
 refine ale (wpAny_notedAt (ahV (akc (wpAny_ite ?_))));split
 .first
   |grind
   |exact ah0 (And.intro rfl L)
 .first
   |exact ahV (ajH (ahV (ai3 (ahV (aiu h (λJ s' h'=>ah0 (And.intro rfl h')) λ_ _ x=>x)))))
   |grind
theorem ae9{Q}(h:Q (.ref s.heap.objs.size) {s with heap:=s.heap.push {cls:=.type "set",dict:=none,data:=.set #[] 0 (.fresh 0 0 (!w.params.followText "set-order")) }}):
 wpAny (model prog w) A (newSet (.type "set")) Q E s:=ahV (ahV (akc (ah0 (ahV (anK (ah0 h))))))
end
abbrev sc2(ex t1 i1 t2 i2:Expr)(scope:Scope)(pos:Pos):Expr:=.SetComp ex [⟨t1,i1,[],0⟩,⟨t2,i2,[],0⟩] scope pos
theorem qb L B J O z scope pos it D env:
 compTurn (sc2 L B J O z scope pos) 0 it (.ref D) env=(do
  standAt J.pos
  match ←pyNext it with
  |none=>pure (.done .next)
  |some v=>
   letOwnedTupleGo B it v
   assign B env v
   let mut ok:=true
   for c in [] do
    if ok then ok ←isTrue c env (eval c env)
   if ok then
    let x ←eval z env
    standAt z.pos
    let x ←foldedSetIterable z env x
    let _ ←runOwn (.compStart (sc2 L B J O z scope pos) 1 (←holding [x] (pyIter x)) (.ref D) env) env
   again (.compLoop (sc2 L B J O z scope pos) 0 it (.ref D) env)):=by rfl
theorem pY z L O B J scope pos it D env:
 compTurn (sc2 z L O B J scope pos) 1 it (.ref D) env=(do
  standAt J.pos
  match ←pyNext it with
  |none=>pure (.done .next)
  |some v=>
   letOwnedTupleGo B it v
   assign B env v
   let mut ok:=true
   for c in [] do
    if ok then ok ←isTrue c env (eval c env)
   if ok then
    (do
     let v ←eval z env
     standAt z.pos
     let _ ←call (.builtin "set.add") [.ref D,v])
   again (.compLoop (sc2 z L O B J scope pos) 1 it (.ref D) env)):=by rfl
section
variable {prog:Program}{w:World}{A:Around}{R:Result->Shared->Prop}{s:Shared}
theorem tM{kx t1 i1 t2 i2 scope pos it D env}(aj:∀x,foldedSetIterable i2 env x=pure x)(I:Nat->Shared->Prop)
 (ac:∀n s,I n s->wpAny (model prog w) A (pyNext it) (λr B=>match r with
  |none=>R (.ok .next) B
  |some v=>wpAny (model prog w) A (letOwnedTupleGo t1 it v) (λ_ J=>wpAny (model prog w) A (assign t1 env v) (λ_ L=>
   wpAny (model prog w) A (eval i2 env) (λx O=>wpAny (model prog w) A (pyIter x) (λad S=>
    codeAny (model prog w) A (.compStart (sc2 kx t1 i1 t2 i2 scope pos) 1 ad (.ref D) env) (λr Y=>match r with | .ok _=>∃m,m<n/\I m Y | .error _=>False) S) (λ_ _=>False) O) (λ_ _=>False) L) (λ_ _=>False) J) (λ_ _=>False) B) (λ_ _=>False) s)
 n (h:I n s):
 codeAny (model prog w) A (.compLoop (sc2 kx t1 i1 t2 i2 scope pos) 0 it (.ref D) env) R s:=by
 have no:∀{E:Value->Shared->Prop} x s,False->E x s:=λ_ _ z=>z.elim;refine alw rfl I (λn s hI=>alV ?_) n h;rw[qb];refine ahV (ai3 (ahV (aiu (ac n s hI) (λr B Z=>?_) no)));cases r with
 |none=>exact ah0 Z
 |some v=>
  refine ahV (aiu Z (λ_ J ab=>ahV (aiu ab (λ_ L ae=>ahV (ak7 (ahV (aiu ae (λx O af=>ahV (ai3 (ahV (anI (aj x) (ahV (aix (aiu af (λad S ag=>ahV (wpAny_runOwn (ajZ ag λr Y aa=>?_))) no))))))) no)))) no)) no);cases r with
  |ok f=>exact ah0 ⟨rfl,aa⟩
  |error e=>exact aa.elim
theorem tH{kx t1 i1 t2 i2 scope pos it D env}(I:Nat->Shared->Prop)
 (aa:∀n s,I n s->wpAny (model prog w) A (pyNext it) (λr B=>match r with
  |none=>R (.ok .next) B
  |some v=>wpAny (model prog w) A (letOwnedTupleGo t2 it v) (λ_ J=>wpAny (model prog w) A (assign t2 env v) (λ_ L=>
   wpAny (model prog w) A (eval kx env) (λkv O=>
    wpAny (model prog w) A (call (.builtin "set.add") [.ref D,kv]) (λ_ S=>∃m,m<n/\I m S) (λ_ _=>False) O) (λ_ _=>False) L) (λ_ _=>False) J) (λ_ _=>False) B) (λ_ _=>False) s)
 n (h:I n s):
 codeAny (model prog w) A (.compLoop (sc2 kx t1 i1 t2 i2 scope pos) 1 it (.ref D) env) R s:=by
 have no:∀{E:Value->Shared->Prop} x s,False->E x s:=λ_ _ z=>z.elim;refine alw rfl I (λn s hI=>alV ?_) n h;rw[pY];refine ahV (ai3 (ahV (aiu (aa n s hI) (λr B Y=>?_) no)));cases r with
 |none=>exact ah0 Y
 |some v=>
  exact ahV (aiu Y (λ_ J Z=>ahV (aiu Z (λ_ L ab=>ahV (ak7 (ahV (ahV (aiu ab (λkv O ac=>ahV (ai3 (ahV (aiu ac (λ_ S ad=>ah0 (ah0 ⟨rfl,ad⟩)) no)))) no))))) no)) no)
theorem rB{J L O S Y scope pos it z env}
 (Z:codeAny (model prog w) A (.compLoop (sc2 J L O S Y scope pos) 1 it z env) R s)
 (h:wpAny (model prog w) A (pyIter it) (λB s'=>codeAny (model prog w) A (.compLoop (sc2 J L O S Y scope pos) 1 B z env) R s')
  (notedBy (model prog w) A env λx s'=>R (.error x) s') s):
 codeAny (model prog w) A (.compStart (sc2 J L O S Y scope pos) 1 it z env) R s:=by
 refine ale (wpAny_notedAt (ahV (akc (wpAny_ite ?_))));split
 .first
   |grind
   |exact ah0 (And.intro rfl Z)
 .first
   |exact ahV (ajH (ahV (ai3 (ahV (aiu h (λB s' h'=>ah0 (And.intro rfl h')) λ_ _ x=>x)))))
   |grind
end
def vK(P:Program)(w:World)(nl:Nat)(ix:List Nat)(wi:TI)(g:TG)(wi2:TI)(g2:TG)(tk:TE):TE:=λσ H Q=>wi σ H λJ H1=>∀D,H1 D=none->∃W:Nat->Nat->List Str->Hp->Prop,(∃m,W 0 m [] (upd H1 D (mX P w D [])))∧
 ∀i m ys H2,W i m ys H2->H2 D=some (mX P w D ys)/\((J.stop i H2/\Q (.ref D) H2)\/(J.go i H2/\∀x H3,J.yld i H2 x H3->g x (cC nl ix σ) H3 λσ4 H4=>(σ4.length=(cC nl ix σ).length/\σ4.drop nl=ix.map λj=>(σ[j]?).join)∧
  wi2 σ4 H4 λJ2 H5=>∃W2:Nat->Nat->List Str->Hp->Prop,(∃m2,W2 0 m2 ys H5)∧
   ∀i2 m2 ys2 H6,W2 i2 m2 ys2 H6->H6 D=some (mX P w D ys2)/\((J2.stop i2 H6/\∃m',m'<m/\W (i+1) m' ys2 H6)\/(J2.go i2 H6/\∀x2 H7,J2.yld i2 H6 x2 H7->g2 x2 σ4 H7 λσ8 H8=>(σ8.length=σ4.length/\∀(j:Nat) (v:V),σ4[j]?=some (some v)->σ8[j]?=some (some v))∧
    tk σ8 H8 λz H9=>∃k:Str,z=.str k/\H9 D=some (mX P w D ys2)/\ys2.length+1<scanBound/\∀ys',((k∈ys2/\ys'=ys2)\/(k∉ys2/\ys'.Perm (ys2++[k])))->ys'.Nodup->∃m',m'<m2/\W2 (i2+1) m' ys' (upd H9 D (mX P w D ys'))))))
section
variable {X:Cx}
theorem zU{P:Program}{w:World}{kx tg iter tg2 Y:Expr}{scope:Scope}{pos:Pos}{N':List Str}{nl:Nat}{ix:List Nat}{wi aY:TI}{g g2:TG}{tk:TE}(hP:X.prog=P)(hw:X.w=w)(hc:X.calm=true)(S:CompScope X scope)(Cp:abf X scope N' nl ix)(hi:PI X tg iter wi)
 (hg:∀C fp s₀ H₀,PG (X.comp scope N' C fp s₀ H₀) tg g)(br:∀C fp s₀ H₀,PI (X.comp scope N' C fp s₀ H₀) tg2 Y aY)(bs:∀C fp s₀ H₀,PG (X.comp scope N' C fp s₀ H₀) tg2 g2)
 (hk:∀C fp s₀ H₀,PE (X.comp scope N' C fp s₀ H₀) kx tk)
 (hs:∀x,foldedSetIterable iter X.env x=pure x:=by intro _;rfl)(bt:∀C fp s₀ H₀ x,foldedSetIterable Y (X.comp scope N' C fp s₀ H₀).env x=pure x:=by intro _ _ _ _ _;rfl):PE X (sc2 kx tg iter tg2 Y scope pos) (vK P w nl ix wi g aY g2 tk):=by
 subst hP hw;intro pins s σ H Q I h;rw[arm_eval_SetComp];refine ajb   rfl hs (cM (S.cells I.ok)) S.kind S.loc ?_;refine thn (hi pins s σ H _ I h) λv s1 h1=>thn h1 λcj B h2=>?_;obtain⟨it,fp,tn,J,H2,rfl,I2,T,aI,f2,h2⟩:=h2;obtain⟨W,⟨m0,w0⟩,aZ⟩:=h2 B.heap.objs.size I2.fresh;refine ae9 (ajC S.nocell (by simp_all) (λax aa ab=>?_) S.kind);dsimp only at aa ab⊢;have a0:∀b∈fp,b<B.heap.objs.size:=λb O=>by
  obtain⟨o,e,_⟩:=T.obj 0 _ aI b O;exact ah3 e
 have I3:=I2.laid   (t':=B.toks) (λ_ _=>ahX _) (ah4 _) (aaJ (xw ..));have hD:(upd H2 B.heap.objs.size _) _=some (mX X.prog X.w B.heap.objs.size []):=af;have f3:∀b∈fp,gI X _ (upd H2 _ (mX X.prog X.w B.heap.objs.size [])) b:=λb O=>by
  refine⟨?_,(f2 b O).2⟩;rw[ai (ah6 (a0 b O))];exact (f2 b O).1
 generalize hS3:B.heap.push {cls:=.type "set",dict:=none,data:=.set #[] 0 (.fresh 0 0 (!X.w.params.followText "set-order")) }=g3 at aa ab I3⊢;have bx:g3.objs.size=B.heap.objs.size+1:=by rw[←hS3,aiP]
 have ay:∀b∈fp,b < {B with heap:=g3,toks:=B.toks}.heap.objs.size:=λb O=>by
  rw[bx];exact aiB (a0 b O)
 have old:=λb o e=>ab.extBut b o (ah6 (ah3 e)) (ahX _ e);have I4:=jy (tk:=B.toks+([]:List (Str×Value)).length) S Cp I3 f3 ay aa old;generalize hX:X.comp scope N' g3.objs.size fp {B with heap:=g3,toks:=B.toks} (upd H2 B.heap.objs.size (mX X.prog X.w B.heap.objs.size []))=L at *;have ae:L.prog=X.prog:=by rw[←hX];rfl
 have ag:L.w=X.w:=by rw[←hX];rfl
 have a1:L.K=X.K:=by rw[←hX];rfl
 have bz:L.A=X.A:=by rw[←hX];rfl
 have as:L.calm=true:=by rw[←hX];exact hc
 have ak:L.xe=λ_ _=>False:=by rw[←hX];rfl
 have co:L.ex=fp:=by rw[←hX];rfl
 have cq:L.pn=[]:=by rw[←hX];rfl
 have a2:L.env.locals=g3.objs.size:=by rw[←hX];rfl
 have bA:L.env=compEnvC scope (jJ X.env scope.names []) g3.objs.size X.env:=by rw[←hX];rfl
 have a3:=hg g3.objs.size fp {B with heap:=g3,toks:=B.toks} (upd H2 B.heap.objs.size (mX X.prog X.w B.heap.objs.size []));have az:=br g3.objs.size fp {B with heap:=g3,toks:=B.toks} (upd H2 B.heap.objs.size (mX X.prog X.w B.heap.objs.size []));have aA:=bs g3.objs.size fp {B with heap:=g3,toks:=B.toks} (upd H2 B.heap.objs.size (mX X.prog X.w B.heap.objs.size []));have a4:=hk g3.objs.size fp {B with heap:=g3,toks:=B.toks} (upd H2 B.heap.objs.size (mX X.prog X.w B.heap.objs.size []));have aB:=bt g3.objs.size fp {B with heap:=g3,toks:=B.toks} (upd H2 B.heap.objs.size (mX X.prog X.w B.heap.objs.size []));rw[hX]at a3 az aA a4 aB;have aJ:Inv L [] _ _ {B with heap:=ax,toks:=B.toks + [].length}:=I4;have a5:∀{H' } {bB:St} {pins' } {s' } {h' },Inv L pins' bB H' s'->Heap.SameBut g3.objs.size s'.heap h'->Inv X _ σ H' {s' with heap:=h' }:=λI' sb=>by
  subst hX;exact gY I3 f3 I' sb
 have al:∀{H' },(∀b∈fp,H' b=none)->∀b∈fp,gI L [] H' b:=λhn b O=>by
  refine⟨hn b O,?_,?_,.inl (by simp_all),?_,λp hp=>by simp_all⟩
  .rw[a2];exact ah6 (ay b O)
  .exact aJ.ok.exfs b (by simp_all)
  .exact (aJ.ok.exf b (by simp_all)).2
 have am:codeAny (model X.prog X.w) X.A (.compLoop (sc2 kx tg iter tg2 Y scope pos) 0 (.ref it) (.ref B.heap.objs.size) L.env)
  (compPost (model X.prog X.w) X.A X.xe none (EP X pins σ Q) (.ref B.heap.objs.size) g3.objs.size) {B with heap:=ax,toks:=B.toks+([]:List (Str×Value)).length}:=by
  rw[←ae,←ag,←bz];refine tM aB (λn s'=>∃i ys H',Inv L [] _ H' s'/\tn i s'.heap/\(∀b∈fp,H' b=none)/\W i n ys H') ?_ m0
   ⟨0,[],_,aJ,T.keep _ _ _ aI (λb O o e=>old b o (by rw[←hS3];exact ahX _ e)),λb O=>(f3 b O).1,w0⟩
  rintro n s5 ⟨i,ys,H5,I5,a6,a7,w5⟩;obtain⟨ct,aK⟩:=aZ i n ys H5 w5;rcases aK with ⟨stop,qn⟩|⟨go,step⟩
  .rw[ae,ag];refine thn (T.done L ae ag a1 as i [] s5 _ H5 _ I5 (al a7) a6 stop) λr s6 ⟨hr,I6⟩=>?_;subst hr;obtain⟨m,hn,_⟩:=I6.loc;rw[a2]at hn;exact⟨m,hn,λh' sb=>⟨.ref _,H5,a5 I6 sb,rfl,qn⟩⟩
  .have a8:=T.item L ae ag a1 as i [] s5 _ H5 (λ_ _=>False) I5 (al a7) a6 go;rw[←ae,←ag]at a8;refine thn a8 λr s6 ⟨u,hr,h6⟩=>?_;subst hr;refine thn h6 λ_ s7 ⟨x,H7,I7,r7,y7,aL,bC⟩=>?_;have bD:=I7.pinned (al bC) (T.obj _ _ aL);have g7:=a3 _ s7 _ H7 x u _ bD r7 (step x H7 y7);rw[ak]at g7;refine thn g7 λ_ s8 ⟨cD,H8,I8,⟨bE,bF⟩,q8⟩=>?_;have aM:∀{an} {au} {Z},Inv L ..->(∃m',m'<n/\W (i+1) m' Z an)->∃m,m<n/\∃i ys H',Inv L [] _ H' au/\tn i _/\(∀b∈fp,H' b=none)/\W i m ys H':=fun {an au Z} ao ⟨m',hm,w'⟩=>by
    refine⟨m',hm,i+1,Z,an,eC ao.unpinned bE bF,T.keep _ _ _ aL λb O o e=>(ao.pin (b,o) (ah2 _ (ah2 _ (aF O e)))).1,λb O=>?_,w'⟩;obtain⟨o,e,d⟩:=T.obj _ _ aL b O;exact (ao.pin _ (ah2 _ (ah2 _ (aF O e)))).2.1
   have p8:=az _ s8 _ H8 _ I8 q8;rw[ak]at p8;refine thn p8 λv2 s9 p9=>thn p9 λb9 au bG=>?_;obtain⟨bH,av,a9,J2,an,rfl,ao,T2,aC,ba,W2,⟨m2,w2⟩,aP⟩:=bG;have ah:∀{H' },(∀b∈av,H' b=none)->∀b∈av,gI L _ H' b:=λhn b O=>⟨hn b O,(ba b O).2⟩;have ap:codeAny (model L.prog L.w) L.A (.compLoop (sc2 kx tg iter tg2 Y scope pos) 1 (.ref bH) (.ref B.heap.objs.size) L.env)
    (λr aD=>match r with | .ok _=>∃m,m<n/\∃i ys H',Inv L [] (cC nl ix σ) H' aD/\tn i aD.heap/\(∀b∈fp,H' b=none)/\W i m ys H' | .error _=>False) au:=by
    refine tH (λn2 s'=>∃i2 aq H',Inv L _ _ H' s'/\a9 i2 s'.heap/\(∀b∈av,H' b=none)/\W2 i2 n2 aq H') ?_ m2 ⟨0,ys,an,ao,aC,λb O=>(ba b O).1,w2⟩;rintro n2 bI ⟨i2,aq,aQ,bb,aE,aG,bJ⟩;obtain⟨ca,bc⟩:=aP i2 n2 _ _ bJ;rcases bc with ⟨aR,bK⟩|⟨bL,aS⟩
    .refine thn (T2.done L rfl rfl rfl as i2 _ bI _ aQ _ bb (ah aG) aE aR) λr bM ⟨hr,bN⟩=>?_;subst hr;exact aM bN bK
    .have bd:=T2.item L rfl rfl rfl as i2 _ _ _ _ (λ_ _=>False) bb (ah aG) aE bL;refine thn bd λr bM ⟨u2,hr,bO⟩=>?_;subst hr;refine thn bO λ_ cL ⟨x2,cN,bP,bQ,bR,ar,be⟩=>?_;have bf:=bP.pinned (ah be) (T2.obj _ _ ar);have bg:=aA _ _ _ _ x2 u2 _ bf bQ (aS x2 _ bR);rw[ak]at bg;refine thn bg λ_ cO ⟨bh,cP,bS,⟨bi,bj⟩,bT⟩=>?_;have aw:∀{aT} {bk} {Z},Inv L ..->(∃m',m'<n2/\W2 (i2+1) m' Z aT)->∃m,m<n2/\∃i2 aq H',Inv L ([]++tY fp s7.heap) _ H' bk/\a9 i2 _/\(∀b∈av,H' b=none)/\W2 i2 m aq H':=fun {aT bk Z} aU ⟨m',hm,w'⟩=>by
      refine⟨m',hm,i2+1,Z,aT,(aU.unpinned).weak bi.symm (λj v e=>bj j v e),T2.keep _ _ _ ar λb O o e=>(aU.pin (b,o) (ah2 _ (ah2 _ (aF O e)))).1,λb O=>?_,w'⟩;obtain⟨o,e,d⟩:=T2.obj _ _ ar b O;exact (aU.pin _ (ah2 _ (ah2 _ (aF O e)))).2.1
     have e9:=a4 _ _ _ _ _ bS bT;rw[ak]at e9;refine thn e9 λzv bU ⟨z,bV,bW,bX,k,ez,bm,hz,mw⟩=>?_;subst ez;have aH:=zg (X:=L) _ bU bh bV (.ref B.heap.objs.size) [.str k] (.ref B.heap.objs.size) [zv] (λ_ aQ=>∃m',m'<n2/\∃Z,W2 (i2+1) m' Z aQ) bW rfl (.cons bX .nil) ⟨_,aq,k,rfl,rfl,by rw[ae,ag];exact bm,hz,λbn aK nd=>by
      obtain⟨m',hm,w'⟩:=mw bn aK nd;exact⟨m',hm,bn,by rw[ae,ag];exact w'⟩⟩
     rw[ak]at aH;refine thn aH λ_ cU ⟨_,cV,bY,_,m',hm,Z,w'⟩=>?_;exact aw bY ⟨m',hm,w'⟩
   exact rB ap (T2.self _ 0 _ _ _ aC ap)
 rw[bA]at am;exact vN am (T.self _ 0 _ _ _ (T.keep _ _ _ aI (λb O o e=>old b o (by rw[←hS3];exact ahX _ e))) am)
theorem af5{P w Z tg iter tg2 z outer scope pos N N' nl ix wi B g g2 tk}(h1:X.env.scope=outer)(h2:X.N=N)(hc:X.calm=true)(hi:PI X tg iter wi)
 (hg:∀C fp s₀ H₀,PG (X.comp scope N' C fp s₀ H₀) tg g)(J:∀C fp s₀ H₀,PI (X.comp scope N' C fp s₀ H₀) tg2 z B)(L:∀C fp s₀ H₀,PG (X.comp scope N' C fp s₀ H₀) tg2 g2)
 (hk:∀C fp s₀ H₀,PE (X.comp scope N' C fp s₀ H₀) Z tk)(hP:X.prog=P:=by rfl)(hw:X.w=w:=by rfl)
 (O:gx outer scope N N' nl ix=true:=by decide +kernel)(hs:∀x,foldedSetIterable iter X.env x=pure x:=by intro _;rfl)(Y:∀C fp s₀ H₀ x,foldedSetIterable z (X.comp scope N' C fp s₀ H₀).env x=pure x:=by intro _ _ _ _ _;rfl):
 PE X (.SetComp Z [⟨tg,iter,[],0⟩,⟨tg2,z,[],0⟩] scope pos) (vK P w nl ix wi g B g2 tk):=
 let ⟨S,Cp⟩:=eQ h1 h2 O
 zU hP hw hc S Cp hi hg J L hk hs Y
end
end L2
namespace L2
open PySem PySem.Spec PyProof.Rows PySem.W
def ug:Nat->List Str->List (Str×Addr)->List (Str×Addr)
 |_,[],acc=>acc
 |n,x::xs,acc=>ug (n+1) xs ((x,n)::acc)
def zX(h:Heap):Nat->Heap
 |0=>h
 |k+1=>zX (h.push {cls:=.type "cell",data:=.cell none}) k
theorem jE:∀k {h} {b} {o},h.get? b=some o->(zX h k).get? b=some o
 |0,_,_,_,e=>e
 |k+1,_,_,_,e=>jE k (ahX _ e)
theorem kW{y:Str}{c:Addr}:∀{xs:List Str} {n:Nat} {acc:List (Str×Addr)},(ug n xs acc).lookup y=some c->(y∈xs/\n<=c)\/(y∉xs/\acc.lookup y=some c)
 |[],_,_,e=>.inr ⟨aiT,e⟩
 |x::xs,n,acc,e=>by
  rcases kW (xs:=xs) (n:=n+1) e with ⟨a,b⟩|⟨a,b⟩
  .exact .inl ⟨aih _ a,by lia⟩
  .rw[akW]at b;split at b
   .rename_i hb;injection b with b
    exact .inl ⟨by rw[show y=x by simpa using hb];exact aid,by lia⟩
   .rename_i hb;refine .inr ⟨λz=>?_,b⟩;rcases ain.mp z with z|z
    .rw[z]at hb;simp at hb
    .exact a z
theorem zS{y z c}:∀{xs} {n} {B},xs.Nodup->(ug n xs B).lookup y=some c->(ug n xs B).lookup z=some c->y∈xs->z∈xs->y=z
 |[],_,_,_,_,_,h,_=>nomatch h
 |x::xs,n,B,nd,e1,e2,h1,h2=>by
  rw[ajm]at nd;have at_:∀{y},(ug (n+1) xs ((x,n)::B)).lookup y=some c->y∈x::xs->(y∈xs/\n+1<=c)\/(y=x/\c=n):=fun {y} e h=>by
   rcases kW e with ⟨a,b⟩|⟨a,b⟩<;>simp_all
  rcases at_ e1 h1 with ⟨a,b⟩|⟨a,b⟩<;>rcases at_ e2 h2 with ⟨L,J⟩|⟨L,J⟩
  .exact zS nd.2 e1 e2 a L
  .rw[J]at b;exact absurd b (Nat.not_succ_le_self _)
  .rw[b]at J;exact absurd J (Nat.not_succ_le_self _)
  .rw[a,L]
theorem rH{y}:∀{xs} {n} {B},(y∈xs\/∃c,B.lookup y=some c)->∃c,(ug n xs B).lookup y=some c
 |[],_,_,h=>h.elim (λz=>nomatch z) id
 |x::xs,n,B,h=>by
  refine rH (xs:=xs) ?_;rcases h with h|⟨c,h⟩
  .rcases ain.mp h with h|h<;>simp_all
  .refine .inr ?_;rw[akW];split<;>simp_all
theorem xW{y c}:∀{xs} {h} {z},xs.Nodup->(ug h.objs.size xs z).lookup y=some c->y∈xs->(zX h xs.length).IsCell c none
 |[],_,_,_,_,m=>nomatch m
 |x::xs,h,z,nd,e,m=>by
  rw[ajm]at nd;have B:(ug (h.push {cls:=.type "cell",data:=.cell none}).objs.size xs ((x,h.objs.size)::z)).lookup y=some c:=by rw[aiP];exact e
  by_cases J:y∈xs
  .exact xW (xs:=xs)  nd.2 B J
  .have L:=(ain.mp m).resolve_right J;rcases kW B with ⟨a,_⟩|⟨_,b⟩
   .simp_all
   .rw[akW,L,amY]at b;injection b with b
    subst b;exact⟨{cls:=.type _,data:=.cell _},jE xs.length (aib _ rfl),rfl⟩
theorem me:∀names xs n z h,names.filter (λy=>y.2 == .cell)=xs.map (λx=>(x,NameKind.cell))->cellsFrom n names z=ug n xs z/\pushCells h names=zX h xs.length
 |[],[],_,_,_,_=>⟨rfl,rfl⟩
 |[],_::_,_,_,_,e=>by cases e
 | (a,k)::r,xs,n,z,h,e=>by
  cases hk:(k==NameKind.cell) with
  |true=>
   rw[aky,if_pos hk]at e;cases xs with
   |nil=>cases e
   |cons x xs=>
    injection e with e1 e2
    cases e1;exact me r xs _ _ _ e2
  |false=>
   rw[aky,if_neg (by simp_all)]at e;unfold cellsFrom pushCells;rw[hk];exact me r xs n _ h e
theorem vL{M A E s xs scope J z qual L O outer B Q}
 (h1:scope.names.filter (λy=>y.2 == .cell)=xs.map (λx=>(x,NameKind.cell)))(nd:xs.Nodup)
 (Z:∀h',h'.Ns s.heap.objs.size (λ_=>none)->(∀y c,(ug (s.heap.objs.size+1) xs z).lookup y=some c->y∈xs->h'.IsCell c none)->(∀b o,s.heap.get? b=some o->h'.get? b=some o)->Q (newEnv scope s.heap.objs.size J (ug (s.heap.objs.size+1) xs z) qual L O (some outer) B) {s with heap:=h' }):
 wpAny M A (newFunctionEnv scope J z [] qual L O (some outer) B) Q E s:=by
 refine ahV (anK (ahV (wpAny_layCells _ (λname S cells=>rfl) _ _ _ _ ?_)));obtain⟨e1,e2⟩:=me _ xs _ _ _ h1;rw[e1,e2];refine ahV (ah0 (ah0 ?_));have Y:∀y c,(ug _ xs z).lookup y=some c->y∈xs->(zX (s.heap.push {cls:=.type "dict",data:=.dict #[] }) _).IsCell c _:=λy c=>xW nd;rw[aiP]at Y⊢;exact Z _ ((Heap.Ns.new _ _).keeps λb o=>jE _) Y λb o e=>jE _ (ahX _ e)
def Cx.compCs(X:Cx)(scope:Scope)(xs:List Str)(N':List Str)(C:Addr)(fp:List Addr)(s₀:Shared)(H₀:Hp):Cx:=
 {X with N:=N',s₀:=s₀,H₀:=H₀,env:=compEnvC scope (ug (C+1) xs (jJ X.env scope.names [])) C X.env,outer:=X.stack,stack:=X.stack,ex:=fp,fn:=λy=>xs.elem y,pn:=[],xe:=λ_ _=>False}
structure CompScopeCs(X:Cx)(scope:Scope)(xs:List Str):Prop where
 kind:scope.kind=.function
 one:scope.names.filter (λy=>y.2 == .cell)=xs.map (λx=>(x,NameKind.cell))
 nd:xs.Nodup
 loc:∀y∈scope.names,y.2=.local->scope.names.lookup y.1=some .local
 free:∀y∈scope.names,y.2=.free->X.env.kindOf y.1=some .cell
 not:∀y∈scope.names,y.2=.free->y.1∉xs
section
variable {X:Cx}{pins:List (Addr×Obj)}{σ:St}{H:Hp}{s:Shared}{scope:Scope}{N':List Str}{fp:List Addr}{xs:List Str}
theorem CompScopeCs.cells(S:CompScopeCs X scope xs)(ok:X.Ok):∀y∈scope.names,y.2=.free->∃c,X.env.cells.lookup y.1=some c:=λy z B=>ok.has _ (.inl (S.free y z B))
theorem CompScopeCs.sub(S:CompScopeCs X scope xs)(ok:X.Ok){y c}(e:(jJ X.env scope.names []).lookup y=some c):X.env.cells.lookup y=some c:=by
 rcases ju _ [] y c (S.cells ok) e with h|h<;>simp_all
theorem CompScopeCs.its(S:CompScopeCs X scope xs){y}(h:(y,NameKind.cell)∈scope.names):y∈xs:=by
 have:(y,NameKind.cell)∈scope.names.filter (λy=>y.2 == .cell):=aiU.mpr ⟨h,amY _⟩;rw[S.one]at this;grind
theorem CompScopeCs.look(S:CompScopeCs X scope xs)(ok:X.Ok){n y c}(e:(ug n xs (jJ X.env scope.names [])).lookup y=some c):(y∈xs/\n<=c)\/(y∉xs/\X.env.cells.lookup y=some c):=(kW e).imp id λz=>⟨z.1,S.sub ok z.2⟩
theorem CompScopeCs.ok(S:CompScopeCs X scope xs)(I:Inv X pins σ H s)(J:∀b∈fp,gI X pins H b)(Y:∀b∈fp,b<s.heap.objs.size):(X.compCs scope xs N' s.heap.objs.size fp s H).Ok where
 mod:=I.ok.mod
 kind:=S.kind
 glob:=I.ok.glob
 blt:=I.ok.blt
 above:=ah4 _
 inj:=λy z c Z e2=>by
  have lt:=fun {y} e=>let ⟨v,q⟩:=I.cell y c e;q.lt;rcases S.look I.ok Z with ⟨a1,L⟩|⟨_,a⟩<;>rcases S.look I.ok e2 with ⟨b1,b2⟩|⟨_,b⟩
  .exact zS S.nd Z e2 a1 b1
  .exact absurd (ah9 (lt b) (aij (ajf _) L)) (ai8 _)
  .exact absurd (ah9 (lt a) (aij (ajf _) b2)) (ai8 _)
  .exact I.ok.inj y z c a b
 has:=λy hy=>by
  have O:=hy;have key:y∈xs\/(y,NameKind.free)∈scope.names:=by
   rcases O with h|h
   .obtain⟨k',h1,h2⟩:=dH h;rcases h2 with h2|⟨h2,_⟩
    .subst h2;exact .inl (S.its h1)
    simp_all
   .obtain⟨k',h1,h2⟩:=dH h;grind
  exact rH (key.imp id λz=>gr _ [] y z)
 cab:=λy c h e=>by
  have hy:=by simpa [Cx.compCs]using h
  rcases S.look I.ok (e) with ⟨_,a⟩|⟨a,_⟩
  .exact aij (ajf _) a
  simp_all
 hd:=I.ok.hd
 frames:=I.ok.frames
 stk:=.inl rfl
 exf:=λb B=>⟨ah6 (Y b B),λy c e=>by
  rcases S.look I.ok (e) with ⟨_,L⟩|⟨_,a⟩
  .intro z;subst z;exact absurd (ah9 (Y _ B) (aij (ajf _) L)) (ai8 _)
  .exact (J b B).2.2.2.2.1 y c a⟩
 bs:=I.bs
 bsz:=aij I.ok.bsz I.sz
 noex:=λb o e B=>by
  rcases (J b B).2.2.2.1 with h|h
  .exact I.ok.noex b o e h
  .exact absurd (ah9 (ah3 e) (aij I.ok.bsz h)) (ai8 _)
 exfs:=λb B hs=>by
  rcases ain.mp (I.stkSub b hs) with h|h
  .exact (J b B).2.1 h
  .exact (J b B).2.2.1 h
 funs:=I.stack
 frf:=I.stkFree
theorem zc{nl:Nat}{ix:List Nat}{h1:Heap}{tk:Nat}(S:CompScopeCs X scope xs)(Cp:abf X scope N' nl ix)(I:Inv X pins σ H s)(hf:∀b∈fp,gI X pins H b)(ho:∀b∈fp,b<s.heap.objs.size)
 (hn:h1.Ns s.heap.objs.size (λ_=>none))(aa:∀y c,(ug (s.heap.objs.size+1) xs (jJ X.env scope.names [])).lookup y=some c->y∈xs->h1.IsCell c none)(Z:∀b o,s.heap.get? b=some o->h1.get? b=some o):Inv (X.compCs scope xs N' s.heap.objs.size fp s H) [] (cC nl ix σ) H {s with heap:=h1,toks:=tk}:=by
 have ok:=S.ok (N':=N') I hf ho;refine⟨ok,rfl,I.bare,Un.kept Z,⟨_,hn,λi y v e1 e2 e3=>?_⟩,λy c e=>?_,I.hok.fresh (ah4 _),λy c e=>?_,λp hp=>by simp[Cx.compCs]at hp,I.hok.kept Z,?_⟩
 .unfold cC at e2;rw[akP]at e2;split at e2
  .simp_all
  .rename_i hi;rw[aiD]at hi e2;rw[ah1]at e2;cases ej:ix[i-nl]? with
   |none=>simp_all
   |some j=>
    rw[ej]at e2;have J:σ[j]?=some (some v):=by
     cases q:σ[j]?<;>simp_all
    obtain⟨x',a1,a2,a3,a4,a5⟩:=Cp.at' _ _ ej;have ac:nl+(i-nl)=i:=by lia
    rw[ac]at a2;have L:N'[i]?=some y:=e1;rw[a2]at L;cases L;obtain⟨m,hm,hl⟩:=I.loc;obtain⟨u,r,l⟩:=hl j y v a1 J (.inr (.inl a3));refine⟨u,r,?_⟩;rcases l with ⟨k,_⟩|⟨_,c,ec,z⟩
    .rw[k]at a3;cases a3
    .obtain⟨c',O⟩:=gr (env:=X.env) scope.names [] y a5;have Y:=S.sub I.ok O;rw[ec]at Y;cases Y;obtain⟨o,B,hd⟩:=z;have ae:(ug (s.heap.objs.size+1) xs (jJ X.env scope.names [])).lookup y=some c:=by
      obtain⟨c3,h3⟩:=rH (xs:=xs) (n:=s.heap.objs.size+1)  (y:=y) (.inr ⟨_,O⟩);rcases kW h3 with ⟨z,_⟩|⟨_,z⟩
      .exact absurd z (S.not _ a5 rfl)
      simp_all
     exact .inr ⟨.inl a4,c,ae,o,Z _ _ B,hd⟩
 .rcases S.look I.ok (e) with ⟨z,_⟩|⟨_,a⟩
  .exact⟨_,aa y c e z⟩
  .obtain⟨v,o,B,hd⟩:=I.cell y c a;exact⟨v,o,Z _ _ B,hd⟩
 .rcases S.look I.ok (show _ from e) with ⟨_,z⟩|⟨_,a⟩
  .exact I.hok.fresh (aij (ajf _) z)
  .exact I.freeC y c a
 .show (cC nl ix σ).length=N'.length;unfold cC;rw[ahZ,aiD,ahY,Cp.len]
theorem wO{H'}{Y:St}{pins'  s'  h' }(I:Inv X pins σ H s)(O:∀b∈fp,gI X pins H b)
 (J:Inv (X.compCs scope xs N' s.heap.objs.size fp s H) pins' Y H' s')(S:Heap.SameBut s.heap.objs.size s'.heap h'):Inv X pins σ H' {s' with heap:=h' }:=by
 have lo:∀b o,s.heap.get? b=some o->b≠s.heap.objs.size:=λb o e=>ah6 (ah3 e);have B:=J.base;refine I.call'  (J.os) ⟨λb o e n z L=>?_,λb o e n z L=>?_,B.free,λb o e L=>?_,B.tups,B.frzs,B.tbls⟩ (λb u e=>?_) J.bare λb z=>⟨(O b z).2.2.2.1,(O b z).2.1,(O b z).2.2.2.2.1,(O b z).2.2.2.2.2⟩
 .exact (S.2 b (lo b o e)).trans (B.keep b o e n z L)
 .obtain⟨sl,q⟩:=B.slot b o e n z L;exact⟨sl,(S.2 b (lo b o e)).trans q⟩
 .obtain⟨o',q⟩:=B.there b o e L;exact⟨o',(S.2 b (lo b o e)).trans q⟩
 .have nl:H' s.heap.objs.size=none:=J.free;refine (J.hok b u e).stay (λc v Z=>(S.2 c ?_).trans) (λ_ q=>q) λ_ _ q=>q;grind
end
section
variable {X:Cx}
theorem yO{xs:List Str}{al tg iter:Expr}{ifs:List Expr}{scope:Scope}{pos:Pos}{N':List Str}{nl:Nat}{ix:List Nat}{wi:TI}{g:TG}{tf:TT}{te:TE}(hc:X.calm=true)(S:CompScopeCs X scope xs)(Cp:abf X scope N' nl ix)(hi:PI X tg iter wi)
 (hg:∀C fp s₀ H₀,PG (X.compCs scope xs N' C fp s₀ H₀) tg g)(hf:∀C fp s₀ H₀,PIf (X.compCs scope xs N' C fp s₀ H₀) ifs tf)(he:∀C fp s₀ H₀,PE (X.compCs scope xs N' C fp s₀ H₀) al te)
 (hs:∀x,foldedSetIterable iter X.env x=pure x:=by intro _;rfl):PE X (.ListComp al [⟨tg,iter,ifs,0⟩] scope pos) (iO nl ix wi g tf te):=by
 intro pins s σ H Q I h;refine ajb   rfl hs (cM (S.cells I.ok)) S.kind S.loc ?_;refine thn (hi pins s σ H _ I h) λv s1 h1=>thn h1 λbg z h2=>?_;obtain⟨it,fp,tn,J,H2,rfl,I2,T,am,f2,h2⟩:=h2;obtain⟨W,⟨m0,w0⟩,ar⟩:=h2 z.heap.objs.size I2.fresh;refine ajc (vL S.one S.nd (λas Y Z aa=>?_));have au:∀b∈fp,b<z.heap.objs.size:=λb B=>by
  obtain⟨o,e,_⟩:=T.obj 0 _ am b B;exact ah3 e
 have I3:Inv X _ σ _ {z with heap:=z.heap.push _,toks:=z.toks}:=I2.lnew .nil (ail _);have f3:∀b∈fp,gI X _ (upd H2 _ (.lst [])) b:=λb B=>by
  refine⟨?_,(f2 b B).2⟩;rw[ai (ah6 (au b B))];exact (f2 b B).1
 generalize hS3:z.heap.push _=O at Y Z aa I3⊢;have aN:O.objs.size=z.heap.objs.size+1:=by rw[←hS3,aiP]
 have ak:∀b∈fp,b < {z with heap:=O,toks:=z.toks}.heap.objs.size:=λb B=>by
  rw[aN];exact aiB (au b B)
 have old:=aa;have I4:=zc (tk:=z.toks) S Cp I3 f3 ak Y Z old;generalize hX:X.compCs scope xs N' O.objs.size fp {z with heap:=O,toks:=z.toks} (upd H2 z.heap.objs.size (.lst []))=L at *;have ab:L.prog=X.prog:=by rw[←hX];rfl
 have ac:L.w=X.w:=by rw[←hX];rfl
 have av:L.K=X.K:=by rw[←hX];rfl
 have aO:L.A=X.A:=by rw[←hX];rfl
 have aw:L.calm=true:=by rw[←hX];exact hc
 have ah:L.xe=λ_ _=>False:=by rw[←hX];rfl
 have bk:L.ex=fp:=by rw[←hX];rfl
 have bm:L.pn=[]:=by rw[←hX];rfl
 have ax:L.env.locals=O.objs.size:=by rw[←hX];rfl
 have aP:L.env=compEnvC scope (ug (O.objs.size+1) xs (jJ X.env scope.names [])) O.objs.size X.env:=by rw[←hX];rfl
 have ay:=hg O.objs.size fp {z with heap:=O,toks:=z.toks} (upd H2 z.heap.objs.size (.lst []));have az:=hf O.objs.size fp {z with heap:=O,toks:=z.toks} (upd H2 z.heap.objs.size (.lst []));have aA:=he O.objs.size fp {z with heap:=O,toks:=z.toks} (upd H2 z.heap.objs.size (.lst []));rw[hX]at ay az aA;have an:=I4;have aB:∀{H' } {aQ:St} {pins' } {s' } {h' },Inv L pins' aQ H' s'->Heap.SameBut O.objs.size s'.heap h'->Inv X _ σ H' {s' with heap:=h' }:=λI' sb=>by
  subst hX;exact wO I3 f3 I' sb
 have ad:∀{H' },(∀b∈fp,H' b=none)->∀b∈fp,gI L [] H' b:=λhn b B=>by
  refine⟨hn b B,?_,?_,.inl (by simp_all),?_,λp hp=>by simp_all⟩
  .rw[ax];exact ah6 (ak b B)
  .exact an.ok.exfs b (by simp_all)
  .exact (an.ok.exf b (by simp_all)).2
 have ae:codeAny (model X.prog X.w) X.A (.compLoop (.ListComp al [⟨tg,iter,ifs,0⟩] scope pos) 0 (.ref it) (.ref z.heap.objs.size) L.env)
  (compPost (model X.prog X.w) X.A X.xe none (EP X pins σ Q) (.ref z.heap.objs.size) O.objs.size) {z with heap:=as,toks:=z.toks}:=by
  rw[←ab,←ac,←aO];refine jv (λn s'=>∃i ys H',Inv L [] _ H' s'/\tn i s'.heap/\(∀b∈fp,H' b=none)/\W i n ys H') ?_ m0
   ⟨0,[],_,an,T.keep _ _ _ am (λb B o e=>old b o (by rw[←hS3];exact ahX _ e)),λb B=>(f3 b B).1,w0⟩
  rintro n s5 ⟨i,ys,H5,I5,aC,aD,w5⟩;obtain⟨bp,aR⟩:=ar i n ys H5 w5;rcases aR with ⟨stop,qn⟩|⟨go,step⟩
  .rw[ab,ac];refine thn (T.done L ab ac av aw i [] s5 _ H5 _ I5 (ad aD) aC stop) λr s6 ⟨hr,I6⟩=>?_;subst hr;obtain⟨m,hn,_⟩:=I6.loc;rw[ax]at hn;exact⟨m,hn,λh' sb=>⟨.ref _,H5,aB I6 sb,rfl,qn⟩⟩
  .have aE:=T.item L ab ac av aw i [] s5 _ H5 (λ_ _=>False) I5 (ad aD) aC go;rw[←ab,←ac]at aE;refine thn aE λr s6 ⟨u,hr,h6⟩=>?_;subst hr;refine thn h6 λ_ s7 ⟨x,H7,I7,r7,y7,ao,aS⟩=>?_;have aT:=I7.pinned (ad aS) (T.obj _ _ ao);have g7:=ay _ s7 _ H7 x u _ aT r7 (step x H7 y7);rw[ah]at g7;refine thn g7 λ_ s8 ⟨bA,H8,I8,⟨aU,aV⟩,q8⟩=>?_;have f8:=az _ s8 _ H8 _ I8 q8;rw[ah]at f8;refine thn f8 λok s9 ⟨H9,I9,q9⟩=>?_;have af:∀{aj} {ap} {aq},Inv L ..->(∃m',m'<n/\W (i+1) m' aq aj)->∃m,m<n/\∃i ys H',Inv L [] _ H' ap/\tn i _/\(∀b∈fp,H' b=none)/\W i m ys H':=fun {aj ap aq} ag ⟨m',hm,w'⟩=>by
    refine⟨m',hm,i+1,aq,aj,eC ag.unpinned aU aV,T.keep _ _ _ ao λb B o e=>(ag.pin (b,o) (ah2 _ (ah2 _ (aF B e)))).1,λb B=>?_,w'⟩;obtain⟨o,e,d⟩:=T.obj _ _ ao b B;exact (ag.pin _ (ah2 _ (ah2 _ (aF B e)))).2.1
   cases ok with
   |false=>
    exact af I9 q9
   |true=>
    have e9:=aA _ s9 _ H9 _ I9 q9;rw[ah]at e9;refine thn e9 λxv ap ⟨y,aj,ag,aW,aG,hz,mw⟩=>?_;have aH:=cV  _ _ _ _ (.ref _) _ _ _ (λ_ H'=>H'=upd _ _ _) ag rfl (.cons aW .nil) ⟨_,ys,y,rfl,rfl,aG,hz,rfl⟩;rw[ah]at aH;refine thn aH λ_ bK ⟨_,bL,aX,_,aY⟩=>?_;subst aY;exact af aX mw
 rw[aP]at ae;exact akz ae (T.self _ 0 _ _ _ (T.keep _ _ _ am (λb B o e=>old b o (by rw[←hS3];exact ahX _ e))) ae)
end
def rN(outer scope:Scope)(xs:List Str)(N N':List Str)(nl:Nat)(ix:List Nat):Bool:=
 (scope.kind == .function&&decide (scope.names.filter (λy=>y.2 == .cell)=xs.map (λx=>(x,NameKind.cell)))&&decide xs.Nodup&&scope.names.all λy=>(y.2 !=.local||scope.names.lookup y.1==some .local)&&(y.2 !=.free||outer.names.lookup y.1==some .cell)&&(y.2 !=.free||!xs.elem y.1)) &&
 (N'.length==nl+ix.length&&(List.range ix.length).all λk=>match ix[k]? with
  |none=>false
  |some j=>match N[j]? with
   |none=>false
   |some x=>N'[nl+k]?==some x&&outer.names.lookup x==some .cell&&(iH scope outer).lookup x==some .cell&&decide ((x,NameKind.free)∈scope.names))
theorem aaq{X outer scope xs N N' nl ix}(h1:X.env.scope=outer)(h2:X.N=N)(h:rN outer scope xs N N' nl ix=true):CompScopeCs X scope xs/\abf X scope N' nl ix:=by
 unfold rN at h;simp only[aiK,aiZ,ait,bne_iff_ne,ak9,ajL,ajr]at h;obtain⟨⟨⟨⟨Y,J⟩,L⟩,O⟩,Z,hb⟩:=h;have kd:∀x,X.env.kindOf x=outer.names.lookup x:=λx=>by rw[←h1];rfl
 refine⟨⟨Y,J,L,λx B e=>?_,λx B e=>?_,λx B e=>?_⟩,⟨Z,λk j e=>?_⟩⟩
 .exact (O x B).1.1.resolve_left λz=>z e
 .rw[kd];exact (O x B).1.2.resolve_left λz=>z e
 .have:=(O x B).2.resolve_left λz=>z e;simp_all
 .have S:=(ahW.mp e).1;have q:=hb k S;rw[e]at q;simp only at q;cases ex:N[j]? with
  |none=>simp_all
  |some x=>
   rw[ex]at q;have er:(relabel scope X.env).names=iH scope outer:=by rw[←h1];rfl
   simp_all
section
variable {X:Cx}{outer scope:Scope}{N N':List Str}{nl:Nat}{ix:List Nat}{tg iter:Expr}{ifs:List Expr}{pos:Pos}{wi:TI}{g:TG}{tf:TT}
theorem abr{z te} xs (h1:X.env.scope=outer)(h2:X.N=N)(J:X.calm=true)(hi:PI X tg iter wi)
 (L:∀C fp s₀ H₀,PG (X.compCs scope xs N' C fp s₀ H₀) tg g)(O:∀C fp s₀ H₀,PIf (X.compCs scope xs N' C fp s₀ H₀) ifs tf)(Y:∀C fp s₀ H₀,PE (X.compCs scope xs N' C fp s₀ H₀) z te)
 (B:rN outer scope xs N N' nl ix=true:=by decide +kernel)(Z:∀x,foldedSetIterable iter X.env x=pure x:=by intro _;rfl):PE X (.ListComp z [⟨tg,iter,ifs,0⟩] scope pos) (iO nl ix wi g tf te):=
 let ⟨S,Cp⟩:=aaq h1 h2 B
 yO J S Cp hi L O Y Z
theorem mH{outer sc xs N' C fp s₀ H₀}(h1:X.env.scope=outer):(X.compCs sc xs N' C fp s₀ H₀).env.scope=wK sc outer:=by
 subst h1
 rfl
end
end L2
namespace K7
open PySem L2 PyProof.Rows
def vV(s:Stmt):List Stmt:=match s with
 |.ClassDef _ _ _ b _ _ _ _ _ _ _=>b
 |_=>[]
abbrev aX:Stmt:=(vV (top 26)).getD 0 (.Pass ⟨0,0,0,0⟩)
abbrev du:Stmt:=(vV (top 26)).getD 1 (.Pass ⟨0,0,0,0⟩)
abbrev aY:Stmt:=(vV (top 26)).getD 3 (.Pass ⟨0,0,0,0⟩)
theorem aK{H l o}(n:H l=none):Same H (upd H l o):=λb u e=>by rw[ai (ag e n)];exact e
structure tX(K:PySem.W.Frag)(C:Addr):Prop where
 cls:Cls K C
 n1:NoAttr K C "at_first"
 n2:NoAttr K C "wants"
 n3:NoAttr K C "changes"
def PairsAt(H:Hp)(v:V)(cs:List (Nat×Int)):Prop:=∃(a:Addr) (vs:List V),v=.ref a/\H a=some (.lst vs)/\vs.length=cs.length/\∀(i:Nat) (x:V) (c:Nat×Int),vs[i]?=some x->cs[i]?=some c->∃t:Addr,x=.ref t/\H t=some (.tup [.int ((c.1:Nat):Int),.int c.2])
theorem PairsAt.same{H H' v B}(s:Same H H')(p:PairsAt H v B):PairsAt H' v B:=by
 obtain⟨a,J,e,h,l,f⟩:=p;exact⟨a,J,e,s _ _ h,l,λi x c a b=>(f i x c a b).imp λt z=>⟨z.1,s _ _ z.2⟩⟩
def RowsP(H:Hp)(a:Addr)(cs:List (List (Nat×Int))):Prop:=∃vs:List V,H a=some (.lst vs)/\vs.length=cs.length/\∀(i:Nat) (x:V) (c:List (Nat×Int)),vs[i]?=some x->cs[i]?=some c->PairsAt H x c
theorem RowsP.same{H H' a z}(s:Same H H')(p:RowsP H a z):RowsP H' a z:=by
 obtain⟨B,h,l,f⟩:=p;exact⟨B,s _ _ h,l,λi x c a b=>(f i x c a b).same s⟩
inductive DoorsAt(C:Addr)(H:Hp)(d:Addr)(h:Hs)(ks:List Str):Prop
 |mk (dx l w c:Addr) (fs:List (Str×V)):H d=some (.ins C dx fs)->fs.lookup ("at_first" : Str)=some (.ref l)->fs.lookup ("wants" : Str)=some (.ref w)->fs.lookup ("changes" : Str)=some (.ref c)->fs.lookup ("hand_with" : Str)=none->fs.lookup ("next_behind" : Str)=none →
  H l=some (.lst ((gD ks h.1).map V.int))->RowsP H w (h.2.map (eP ks))->RowsP H c (h.2.map (lg ks))->DoorsAt C H d h ks
theorem DoorsAt.same{C H H' d h ks}(s:Same H H')(p:DoorsAt C H d h ks):DoorsAt C H' d h ks:=by
 obtain⟨dx,l,w,c,fs,h1,h2,z,B,J,L,O,S,Y⟩:=p;exact⟨dx,l,w,c,fs,s _ _ h1,h2,z,B,J,L,s _ _ O,S.same s,Y.same s⟩
def xt:Sp:=λvs H Q _=>∃(m i:Nat),vs=[.int (m:Int),.int (i:Int)]/\i<=1000/\∀H',Same H H'->Q (.int ((m ||| 2^i:Nat):Int)) H'
def aed:Sp:=λvs H Q _=>∃(o:List Nat) (i:Nat),vs=[.int ((bG o:Nat):Int),.int (i:Int)]/\∀H',Same H H'->Q (.bl (decide (i∈o))) H'
def zp(C:Addr):Sp:=λvs H Q _=>∃(d a:Addr) (i:Nat) (h:Hs) (ks hand:List Str) (r:Rm),vs=[.ref d,.ref a,.int (i:Int)]/\DoorsAt C H d h ks/\h.2[i]?=some r/\H a=some (.lst ((gD ks hand).map V.int))/\pd hand r.1=true/\h.2.length<=1000/\ks.length<=63/\∀b H',Same H H'->H b=none->H' b=some (.lst ((gD ks (lW hand r)).map V.int))->Q (.ref b) H'
inductive HwI(d a b:Addr)(i:Nat)(hand ks:List Str)(r:Rm)(H:Hp)(j:Nat)(σ:L2.St)(H':Hp):Prop
 |mk (x4 x5:Option V):σ=[some (.ref d),some (.ref a),some (.int (i:Int)),some (.ref b),x4,x5]->H' b=some (.lst ((aaP (gD ks hand) ((lg ks r).take j)).map V.int))->Same H H'->HwI d a b i hand ks r H j σ H'
section
variable {P:Program}{w:World}{K:PySem.W.Frag}{mg:Str->Option Value}{base:Heap}
theorem uT:aA ["opened","number"] ["opened","number"] (ak i6):=scM rfl rfl rfl rfl (by decide +kernel)
theorem ad3{f fd}(F:Fun K "with_room" "with_room" i6 f fd):bx P w K mg base CX0 1 f fd ["opened","number"] xt:=by
 refine F.ok uT (λz H Q E h=>?_) (λB A outer s H z Q E hr h=>?_)
 .obtain⟨m,i,rfl,_⟩:=h
  rfl
 .obtain⟨m,i,rfl,hi,q⟩:=h;refine⟨_,(av (aM (bz agJ (pv 0) (bz adX ar (pv 1))))),?_⟩;have e:(m ||| 2^i:Nat)=(Builtin.bitOr m (1*2^(i:Int).toNat)):=by
   rw[aiR,Int.one_mul,show (2^i)=((2^i:Nat):Int) by simp,abH]
  refine⟨_,rfl,_,rfl,1,i,rfl,rfl,⟨by lia,by lia,by decide⟩,m,_,rfl,rfl,?_⟩;have:=q H (Same.refl H);simp_all
theorem vU:aA ["opened","number"] ["opened","number"] (ak j8):=scM rfl rfl rfl rfl (by decide +kernel)
theorem afn{f fd}(F:Fun K "has_room" "has_room" j8 f fd):bx P w K mg base CX0 1 f fd ["opened","number"] aed:=by
 refine F.ok vU (λz H Q E h=>?_) (λB A outer s H z Q E hr h=>?_)
 .obtain⟨m,i,rfl,_⟩:=h
  rfl
 .obtain⟨o,i,rfl,q⟩:=h;refine⟨_,(av (aM (gE lR (bz afJ (bz afN (pv 0) (pv 1)) ar) ar (aZ _)))),⟨_,rfl,_,rfl,_,_,rfl,rfl,by lia,_,_,rfl,rfl,rfl,?_⟩⟩;have e:decide (V.int (Builtin.bitAnd (bG o / 2^((i:Int)).toNat) 1)=V.int 1)=decide (i∈o):=by
   by_cases hi:i∈o
   .rw[aiv hi,zH,if_pos hi];exact aiv rfl
   .rw[aiC hi,zH,if_neg hi];grind
  have:=q H (Same.refl H);simp_all
theorem cx:aA ["self","hand","number","behind","place","change"] ["self","hand","number"] (ak du):=scM rfl rfl rfl rfl (by decide +kernel)
theorem acJ{f:Addr}{fd:FuncData}{C:Addr}(F:Fun K "hand_with" "Doors.hand_with" du f fd)(DC:tX K C)(fD:mg "list" = none):bx P w K mg base CX0 1 f fd ["self","hand","number"] (zp C):=by
 refine F.ok cx (λL H Q E h=>?_) (λax A outer s H L Q E hr h=>?_)
 .obtain⟨d,a,i,h,ks,hand,r,rfl,_⟩:=h
  rfl
 .have hu:=gm hr;obtain⟨d,a,i,h,ks,hand,r,rfl,D,hi,ha,hm,hl,hk,q⟩:=h;refine⟨_,(ao (aB (i:=3) cx.nd rfl (.inl rfl) (eF gB rfl fD (by decide +kernel) (ae (pv 1) aj)))
   (ao (cy (d9 aiN rfl (aV (bY cf (aaS (pv 0) rfl) (pv 2) (λ_ _=>rfl))) (gb rfl (au (aq (i:=4) cx.nd rfl (.inl rfl)) (au (aq (i:=5) cx.nd rfl (.inl rfl)) aO)))
    (av (aeD (pv 3) (pv 4) ab0 (pv 5) afX rK))))
   (av (aM (pv 3))))),?_⟩
  refine⟨_,rfl,a,_,rfl,.inl (aAA ha),λb nb=>?_⟩;obtain⟨dx,l,w',c,fs,h1,h2,h3,h4,h5,h6,h7,h8,L,h9,aa,ab⟩:=D;have O:i<L.length:=by have:=(ahW.mp hi).1;rw[aa,ahY];exact this
  obtain⟨ca,us,ev,B,ul,ac⟩:=ab i L[i] (lg ks r) (ahU O) (by rw[ah1,hi];rfl);have Y:Same H (upd H b (.lst ((gD ks hand).map V.int))):=aK nb;have e1:(upd H b (.lst ((gD ks hand).map V.int))) b=some (.lst ((gD ks hand).map V.int)):=af;generalize upd H b (.lst ((gD ks hand).map V.int))=H1 at *;have cb:ca≠b:=ag B nb;refine⟨HwI d a b i hand ks r H us.length,?_,?_⟩
  .rintro σ H2 ⟨x4,x5,rfl,S,Z⟩;rw[ul,aiz,ace hm]at S;exact⟨_,rfl,q b H2 Z nb S⟩
  .refine⟨_,rfl,d,C,dx,fs,_,rfl,Y _ _ h1,DC.cls,DC.n3,h4,_,rfl,c,L,_,_,rfl,rfl,aAA (Y _ _ h9),ir (ahU O),ca,ev,⟨_,aAA (Y _ _ B)⟩,?_⟩;refine fh (xs:=us) (λj ad H'=>HwI d a b i hand ks r H j ad H') ⟨none,none,rfl,e1,Y⟩ (λj σ H' _ ⟨_,_,_,_,sm⟩=>aAA (sm _ _ B)) ?_ (λσ H' z=>z);rintro j x σ H2 hx ⟨x4,x5,rfl,S,Z⟩;have hj:j<(lg ks r).length:=by rw[←ul];exact (ahW.mp hx).1
   obtain⟨t,rfl,ht⟩:=ac j x _ hx (ahU hj);generalize ec:(lg ks r)[j]=J at *;have tk:(lg ks r).take (j+1)=(lg ks r).take j++[J]:=by rw[ais,ahU hj,ec];rfl
   have hp:J.1<ks.length:=by
    have:J∈lg ks r:=by rw[←ec];exact aiq hj
    obtain⟨p,hp,rfl⟩:=ah8.mp this;exact ajL.mp (aiU.mp hp).1
   have vl:(aaP (gD ks hand) ((lg ks r).take j)).length=ks.length:=by rw[xZ,qW]
   refine⟨t,_,rfl,aAB (Z _ _ ht),rfl,?_⟩;have hg:((aaP (gD ks hand) ((lg ks r).take j)).map V.int)[J.1]?=some (.int ((aaP (gD ks hand) ((lg ks r).take j)).getD J.1 0)):=by
    rw[ah1,ajD,ahU (by rw[vl];exact hp)]
    rfl
   refine⟨_,_,rfl,_,_,rfl,rfl,?_⟩;refine⟨_,rfl,_,rfl,b,_,J.1,_,rfl,rfl,aAA S,hg,_,rfl,_,_,rfl,rfl,b,_,_,J.1,rfl,rfl,S,?_,?_⟩
   .unfold ixN;rw[if_pos (by lia),if_pos (by rw[ahY,vl];lia)];simp
   .refine⟨_,_,rfl,?_,λz u e=>?_⟩
    .rw[af,tk,t8,List.map_set]
    .rw[ai (ag e nb)];exact Z _ _ e
def wM(h:Hs):Prop:=∀L:List Str,L.Nodup->(∀k∈L,∃r∈h.2,k∈r.1)->L.length<=63
def aeI(H H':Hp):Hp:=λb=>match H b with|some _=>none|none=>H' b
theorem oz{H H' b o}(n:H b=none)(e:H' b=some o):aeI H H' b=some o:=by unfold aeI;simp_all
inductive CpI(D:Addr)(pb:Nat->Bool)(gv:Nat->Int)(H:Hp)(i:Nat)(ys:List V)(H':Hp):Prop
 |mk:H' D=some (.lst ys)->Same H H'->ys.length=((List.range i).filter pb).length->(∀(j:Nat) (x:V) (c:Nat×Int),ys[j]?=some x->(((List.range i).filter pb).map λp=>(p,gv p))[j]?=some c->∃T:Addr,x=.ref T/\H T=none/\T≠D/\H' T=some (.tup [.int ((c.1:Nat):Int),.int c.2]))->CpI D pb gv H i ys H'
theorem qT{K:PySem.W.Frag}{nl:Nat}{ix:List Nat}{tf:TT}{te:TE}{σ:L2.St}{H1:Hp}{D a:Addr}{Q:VK}{ks:List Str}{pb:Nat->Bool}{gv:Nat->Int}(ha:H1 a=some (.lst (ks.map V.str)))(nD:H1 D=none)(few:ks.length<=63)
 (hc:∀x y,(((cC nl ix σ).set 0 (some x)).set 1 (some y)).drop nl=ix.map λj=>(σ[j]?).join)
 (ht:∀(H:Hp) (p:Nat) (R:Bool->Hp->Prop),p<ks.length->Same H1 H->R (pb p) H->tf (((cC nl ix σ).set 0 (some (.int ((p:Nat):Int)))).set 1 (some (.str (kAt ks p)))) H R)
 (he:∀(H:Hp) (p:Nat) (R:VK),p<ks.length->Same H1 H->(∀T,H T=none->R (.ref T) (upd H T (.tup [.int ((p:Nat):Int),.int (gv p)])))->te (((cC nl ix σ).set 0 (some (.int ((p:Nat):Int)))).set 1 (some (.str (kAt ks p)))) H R)
 (hd:∀H' x,Same H1 H'->PairsAt (aeI H1 H') x (((List.range ks.length).filter pb).map λp=>(p,gv p))->Q x H'):gK nl ix (vh K 2 (dr (aR 0) (dr (aR 1) vj))) tf te σ (ItE K a) H1 D Q:=by
 have av:1000000<sizeLine:=by decide
 refine ve  (CpI D pb gv H1) (.mk af (aK nD) rfl (λj x c e=>nomatch e)) (λi ys H' ⟨e,_,_,_⟩=>e) (λi ys H' ⟨_,s,_,_⟩=>aAA (s _ _ ha)) ?_ ?_
 .rintro i ys H x T hx ⟨hD,s,L,al⟩ nT;have Y:=(ahW.mp hx).1;have hi:i<ks.length:=by simp_all
  rw[ah1,aaH hi]at hx;cases hx;have J:Same H (upd H T (.tup [.int i,.str (kAt ks i)])):=aK nT;have Z:(upd H T _) T=some (.tup [.int i,.str (kAt ks i)]):=af;generalize upd H T (.tup [.int (i:Int),.str (kAt ks i)])=H2 at *;have lf:((List.range i).filter pb).length<=i:=aij (aje _ _) (by simp_all);refine⟨T,_,rfl,aAB Z,rfl,⟨_,_,rfl,_,_,rfl,rfl,⟨by simp,hc _ _⟩,ht H2 i _ hi (s.trans J) ?_⟩⟩;have aa:∀j (x:V) c,ys[j]?=some x->(((List.range i).filter pb).map _)[j]?=some c->∃T ,x=.ref T/\H1 T=none/\T≠D/\H2 T=some _:=λj x c e1 Z=>by
   obtain⟨T,e,n,nd,O⟩:=al j x c e1 Z;exact⟨T,e,n,nd,J _ _ O⟩
  cases eb:pb i with
  |true=>
   refine he H2 i _ hi (s.trans J) λT2 ab=>?_;have ak:=J _ _ hD;have ne:T2≠D:=λz=>by grind
   have n1:=(s.trans J).free ab;have B:(List.range (i+1)).filter pb=(List.range i).filter pb++[i]:=by rw[ajP,ai5];simp[eb]
   refine⟨by rw[ai (λz=>ne z.symm)];exact ak,by lia,nx Y (.mk af (λb u e=>?_) (by rw[B,ahZ,ahZ,L];rfl) λj x c ey S=>?_)⟩
   .rw[ai (ag e nD),ai (ag e n1)];exact J _ _ (s _ _ e)
   .rw[B,aia]at S;by_cases hj:j<ys.length
    .rw[aik hj]at ey;rw[aik (by rw[ahY,←L];exact hj)]at S;obtain⟨T,e,n,nd,O⟩:=aa j x c ey S;exact⟨T,e,n,nd,by rw[ai nd,ai (ag O ab)];exact O⟩
    .rw[aio (by lia)]at ey;rw[aio (by rw[ahY,←L];lia),ahY,←L]at S;have:j-ys.length=0:=by
      grind
     rw[this]at ey S;cases ey;cases S;exact⟨T2,rfl,n1,ne,by rw[ai ne,af]⟩
  |false=>
   have B:(List.range (i+1)).filter pb=(List.range i).filter pb:=by rw[ajP,ai5];simp[eb]
   exact nx Y (.mk (J _ _ hD) (s.trans J) (by rw[B];exact L) (by rw[B];exact aa))
 .rintro ys H ⟨hD,s,L,al⟩;rw[ahY]at L al;refine hd H (.ref D) s ⟨D,ys,rfl,oz nD hD,by simp_all,λj x c e1 Z=>?_⟩;obtain⟨T,e,n,nd,O⟩:=al j x c e1 Z;exact⟨T,e,oz n O⟩
def fb(D:Addr)(H:Hp):Hp:=λb=>if b=D then none else H b
theorem offD_all{D H}:Same (fb D H) H:=λb u e=>by
 unfold fb at e;simp_all
theorem nz{D H H' o}(s:Same H H'):Same (fb D H) (fb D (upd H' D o)):=λb u e=>by
 unfold fb at e⊢;split at e
 .cases e
 .rename_i hb;rw[if_neg hb,ai hb];exact s _ _ e
theorem w9{D H H' o o'}(h:H D=some o):Same (aeI H H') (fb D (upd H' D o')):=λb u e=>by
 unfold aeI at e;split at e
 .cases e
 .have nb:b≠D:=λz=>by grind
  unfold fb;rw[if_neg nb,ai nb];exact e
inductive CrI(D:Addr)(cs:List (List (Nat×Int)))(H:Hp)(i:Nat)(ys:List V)(H':Hp):Prop
 |mk:H' D=some (.lst ys)->Same H H'->ys.length=(cs.take i).length->(∀(j:Nat) (x:V) (c:List (Nat×Int)),ys[j]?=some x->cs[j]?=some c->PairsAt (fb D H') x c)->CrI D cs H i ys H'
theorem qm{K:PySem.W.Frag}{nl:Nat}{ix:List Nat}{te:TE}{σ:L2.St}{H1:Hp}{D a:Addr}{Q:VK}{vs:List V}{J:List Rm}{F:Rm->List (Nat×Int)}(ha:H1 a=some (.lst vs))(hR:RoomsAt H1 vs J)(nD:H1 D=none)(hl:J.length<=1000)
 (hc:∀x y,(((cC nl ix σ).set 0 (some x)).set 1 (some y)).drop nl=ix.map λj=>(σ[j]?).join)
 (he:∀(H:Hp) (r:Rm) (S Y:Addr) (R:VK),r∈J->H S=some (.lst (r.1.map V.str))->H Y=some (.lst (r.2.map V.str))->Same H1 H->(∀H' x,Same H H'->PairsAt (aeI H H') x (F r)->R x H')->te (((cC nl ix σ).set 0 (some (.ref S))).set 1 (some (.ref Y))) H R)
 (hd:∀H',Same H1 H'->RowsP H' D (J.map F)->Q (.ref D) H'):gK nl ix (vh K 2 (dr (aR 0) (dr (aR 1) vj))) nh te σ (Itl K a) H1 D Q:=by
 have ar:1000000<sizeLine:=by decide
 have vl:=hR.1;refine bB (xs:=vs) (CrI D (J.map F) H1) (.mk af (aK nD) rfl (λj x c e=>nomatch e)) (λi ys H' ⟨e,_,_,_⟩=>e) (λi ys H' ⟨_,s,_,_⟩=>aAA (s _ _ ha)) ?_ ?_
 .rintro i ys H x hx ⟨Z,s,yl,al⟩;have hi:i<vs.length:=(ahW.mp hx).1;have L:i<J.length:=by lia
  obtain⟨t,S,Y,rfl,ht,ac,ad⟩:=hR.2 i x _ hx (ahU L);have ae:ys.length=i:=by rw[yl,aif,ahY];lia
  refine⟨t,_,rfl,aAB (s _ _ ht),rfl,?_⟩;refine⟨_,_,rfl,_,_,rfl,rfl,⟨by simp,hc _ _⟩,?_⟩;unfold nh;dsimp only;refine mZ (B:=False) ?_;refine he H J[i] S Y _ (aiq L) (s _ _ ac) (s _ _ ad) s λH2 x s2 pa=>?_;refine⟨s2 _ _ Z,by lia,nx hi (.mk af (λb u e=>by rw[ai (ag e nD)];exact s2 _ _ (s _ _ e)) ?_ λj y c O ec=>?_)⟩
  .rw[ahZ,ae,aif,ahY];simp;lia
  .by_cases hj:j<ys.length
   .rw[aik hj]at O;exact (al j y c O ec).same (nz s2)
   .rw[aio (by lia)]at O;have z:j-ys.length=0:=by
     have:=(ahW.mp O).1;simp at this;lia
    have ji:j=i:=by lia
    rw[z]at O;cases O;subst ji;rw[ah1,ahU L]at ec;cases ec;exact pa.same (w9 Z)
 .rintro ys H ⟨Z,s,yl,al⟩;refine hd H s ⟨ys,Z,?_,λj x c e1 e2=>(al j x c e1 e2).same offD_all⟩;rw[yl,aif,ahY];lia
inductive SwI(P:Program)(w:World)(D:Addr)(rs:List Rm)(H:Hp)(i m:Nat)(ys:List Str)(H':Hp):Prop
 |mk:m=rs.length-i->i<=rs.length->H' D=some (mX P w D ys)->Same H H'->ys.Nodup->(∀k,k∈ys↔∃r∈rs.take i,k∈r.1)->SwI P w D rs H i m ys H'
inductive SvI(P:Program)(w:World)(D:Addr)(rs:List Rm)(H:Hp)(i:Nat)(r:Rm)(j m:Nat)(ys:List Str)(H':Hp):Prop
 |mk:m=r.1.length-j->j<=r.1.length->H' D=some (mX P w D ys)->Same H H'->ys.Nodup->(∀k,k∈ys↔(∃r∈rs.take i,k∈r.1)\/k∈r.1.take j)->SvI P w D rs H i r j m ys H'
theorem wH{P:Program}{w:World}{K K':PySem.W.Frag}{te:TE}{σ:L2.St}{H:Hp}{a:Addr}{Q:VK}{vs:List V}{h:Hs}(ht:∀R,R (.ref a) H->te σ H R)(ha:H a=some (.lst vs))(hR:RoomsAt H vs h.2)(few:wM h)
 (hd:∀D ss H',Same H H'->H D=none->H' D=some (mX P w D ss)->ss.Nodup->(∀k,k∈ss↔∃r∈h.2,k∈r.1)->Q (.ref D) H'):vK P w 3 [] (rh K te) (vh K' 2 (dr (aR 0) (dr (aR 1) vj))) (rh K' (dq 0)) (aR 2) (dq 2) σ H Q:=by
 have ao:70<scanBound:=by decide
 have vl:=hR.1;refine ht _ ⟨a,rfl,⟨_,aAA ha⟩,λD nD=>⟨SwI P w D h.2 H,⟨_,.mk rfl (ail _) af (aK nD) .nil (λk=>by simp)⟩,?_⟩⟩;rintro i m ys H2 ⟨rfl,hi,hD,s,nd,S⟩;refine⟨hD,?_⟩;by_cases L:i<h.2.length
 .refine .inr ⟨⟨vs,vs[i]'(by lia),aAA (s _ _ ha),by simp⟩,λx H3 y=>?_⟩;obtain⟨e,y⟩:=y;subst e;have hx:=y vs (aAA (s _ _ ha));obtain⟨t,la,lb,rfl,ad,J,ar⟩:=hR.2 i x _ hx (ahU L);refine⟨t,_,rfl,aAB (s _ _ ad),rfl,⟨_,_,rfl,_,_,rfl,rfl,⟨rfl,rfl⟩,⟨_,rfl,la,rfl,⟨_,aAA (s _ _ J)⟩,⟨SvI P w D h.2 H i h.2[i],⟨_,.mk rfl (ail _) hD s nd (λk=>by rw[S k];simp)⟩,?_⟩⟩⟩⟩;rintro j m2 ae H6 ⟨rfl,hj,O,Y,nd6,B⟩;refine⟨O,?_⟩;by_cases Z:j<(h.2[i]).1.length
  .refine .inr ⟨⟨_,.str ((h.2[i]).1[j]),aAA (Y _ _ J),by simp ⟩,λx2 H7 y2=>?_⟩;obtain⟨e,y2⟩:=y2;subst e;have aa:=y2 _ (aAA (Y _ _ J));rw[ah1,ahU Z]at aa;cases aa;have sub:∀k,k∈ae->∃r∈h.2,k∈r.1:=λk hk=>by
    rcases (B k).mp hk with ⟨r,hr,hk⟩|hk
    .exact⟨r,ai9 hr,hk⟩
    .exact⟨_,aiq _,ai9 hk⟩
   refine⟨⟨rfl,?_⟩,?_⟩
   .intro z v e
    match z,e with
    |0,e=>exact e
    |1,e=>exact e
    |2,e=>cases e
    |z+3,e=>cases e
   .refine⟨_,rfl,(h.2[i]).1[j],rfl,O,by have:=few _ nd6 sub;lia,λas hy aj=>⟨_,?_,.mk rfl Z af (λb u e=>by rw[ai (ag e nD)];exact Y _ _ e) aj λk=>?_⟩⟩
    .lia
    .have tk:(h.2[i]).1.take (j+1)=(h.2[i]).1.take j++[(h.2[i]).1[j]]:=by simp_all
     rw[tk,aic,←or_assoc,←B k,ah5];rcases hy with ⟨hk,rfl⟩|⟨hk,hp⟩
     .constructor
      .exact Or.inl
      .rintro (z|rfl)
       .exact z
       .exact hk
     .rw[hp.mem_iff,aic,ah5]
  .have ej:j=(h.2[i]).1.length:=by lia
   subst ej;refine .inl ⟨⟨_,aAA (Y _ _ J),by simp⟩,_,?_,.mk rfl L O Y nd6 λk=>?_⟩
   .lia
   .rw[B k,aiz,ais,ahU L];simp only[aic,Option.toList,ah5];simp_all
 .have ei:i=h.2.length:=by lia
  subst ei;refine .inl ⟨⟨vs,aAA (s _ _ ha),by lia⟩,hd D ys H2 s nD hD nd λk=>?_⟩;rw[S k,aiz]
def adV(C:Addr):Sp:=λvs H Q _=>∃(d dx:Addr) (v:V) (h:Hs),vs=[.ref d,v]/\HouseAt H v h/\aE h/\wM h/\H d=some (.ins C dx [])/\∀ks H',agY h ks->But d H H'->DoorsAt C H' d h ks->Q .non H'
theorem wN{d H o}:Same (fb d H) (upd H d o):=λb u e=>by
 unfold fb at e;split at e
 .cases e
 .rename_i hb;rw[ai hb];exact e
theorem lq{d H H'}(s:Same H H'):Same (fb d H) (fb d H'):=λb u e=>by
 unfold fb at e⊢;split at e
 .cases e
 .rename_i hb;rw[if_neg hb];exact s _ _ e
theorem gu{d b H o}(n:b≠d)(e:H b=some o):fb d H b=some o:=by
 unfold fb;simp_all
theorem aeq{d H H'}(s:Same (fb d H) H'):But d H H':=λb u n e=>s _ _ (gu n e)
theorem qo{d b C dx fs}{H:Hp}{o}(z:H d=some (.ins C dx fs))(e:H b=some o)(n:o≠.ins C dx fs):b≠d:=by grind
theorem PairsAt.off{d C dx fs H v z}(O:H d=some (.ins C dx fs))(p:PairsAt H v z):PairsAt (fb d H) v z:=by
 obtain⟨a,B,e,h,l,f⟩:=p;exact⟨a,B,e,gu (by grind) h,l,λi x c a b=>by
  obtain⟨t,J,L⟩:=f i x c a b;exact⟨t,J,gu (by grind) L⟩⟩
theorem RowsP.off{d C dx fs H a B}(J:H d=some (.ins C dx fs))(p:RowsP H a B):RowsP (fb d H) a B:=by
 obtain⟨L,h,l,f⟩:=p;exact⟨L,gu (qo J h (λz=>nomatch z)) h,l,λi x c a b=>(f i x c a b).off J⟩
theorem RoomsAt.off{d C dx fs H vs z}(J:H d=some (.ins C dx fs))(h:RoomsAt H vs z):RoomsAt (fb d H) vs z:=⟨h.1,λi v r a b=>by
 obtain⟨t,x,y,e,h1,h2,B⟩:=h.2 i v r a b;exact⟨t,x,y,e,gu (by grind) h1,gu (by grind) h2,gu (by grind) B⟩⟩
theorem rf z (ks:List _):inV (.str z) (ks.map V.str)=decide (z∈ks):=by
 unfold inV
 induction ks with
 |nil=>rfl
 |cons a r B=>
  rw[air,alP,B];show (a==z||decide _)=_;grind
theorem lT(ks:List _):(ks.map V.str).all p5=true:=by
 rw[amd,aiZ];intro _ _
 rfl
theorem fo{x y:V}:[x,y].length<=sizeLine:=show 2<=sizeLine by decide
def ahO(keys:List Str):V->V:=λv=>match v with
 |.str k=>.int ((keys.count k:Nat):Int)
 |v=>v
theorem fj:aA ["self","house","keys","rooms","kinds"] ["self","house"] (ak aX):=scM rfl rfl rfl rfl (by decide +kernel)
theorem gg:(["locks","within","kind"]:List Str).Nodup:=by decide +kernel
theorem nX:(["kind","keys"]:List Str).Nodup:=by decide +kernel
theorem dB:(["locks","within","kinds"]:List Str).Nodup:=by decide +kernel
theorem iT:(["place","kind","locks"]:List Str).Nodup:=by decide +kernel
theorem iS:(["place","kind","within","locks"]:List Str).Nodup:=by decide +kernel
theorem acF{f:Addr}{fd:FuncData}{C:Addr}(F:Fun K "__init__" "Doors.__init__" aX f fd)(DC:tX K C)(aI:mg "sorted" = none)(bU:mg "enumerate" = none):bx P w K mg base CX0 1 f fd ["self","house"] (adV C):=by
 refine F.ok fj (λvs H Q E h=>?_) (λbs A outer s H vs Q E hr h=>?_)
 .obtain⟨d,dx,v,h,rfl,_⟩:=h
  rfl
 .have hu:=gm hr;obtain⟨d,dx,v,h,rfl,⟨t,a,r,vs,rfl,ht,ha,aa,hR⟩,ok,few,hd,q⟩:=h;refine⟨_,(ao (oR (pv 1) (gb rfl (au (aq (i:=2) fj.nd rfl (.inr rfl)) (au (aq (i:=3) fj.nd rfl (.inl rfl)) aO))))
   (ao (aB (i:=4) fj.nd rfl (.inr rfl) (ay (gf rfl) rfl aI aj6 (ae (af5 (P:=P) (w:=w) (tg2:=.Name "kind" _) (outer:=ak (aX)) (N:=["self","house","keys","rooms","kinds"]) (N':=["locks","within","kind"]) (nl:=3) (ix:=[]) rfl rfl rfl (aV (pv 3))
    (λ_ _ _ _=>(bZ (K:=K) (n:=2) rfl rfl (au (aq (i:=0) gg rfl (.inl rfl) (.inr rfl)) (au (aq (i:=1) gg rfl (.inl rfl) (.inr rfl)) aO)))) (λ_ _ _ _=>(ky (K:=K) rfl (pv 0))) (λ_ _ _ _=>(aq (i:=2) gg rfl (.inl rfl) (.inr rfl)))
    (λ_ _ _ _=>(pv 2))) aj)))
   (ao (abG (pv 0) (gH (tg:=.Name "kind" _) (outer:=ak (aX)) (N:=["self","house","keys","rooms","kinds"]) (N':=["kind","keys"]) (nl:=1) (ix:=[2]) rfl rfl rfl (aV (pv 4))
    (λ_ _ _ _=>(aq (i:=0) nX rfl (.inl rfl) (.inr rfl))) (λ_ _ _ _=>bt)
    (λ_ _ _ _=>(qr (K:=K) rfl aiy ajA ajB jl (pv 1) (ae (pv 0) aj)))) rfl)
   (ao (abG (pv 0) (abr ["locks"] (outer:=ak (aX)) (N:=["self","house","keys","rooms","kinds"]) (N':=["locks","within","kinds"]) (nl:=2) (ix:=[4]) rfl rfl rfl (aV (pv 3))
    (λ_ _ _ _=>(bZ (K:=K) (n:=2) rfl rfl (au (aq (i:=0) dB rfl (.inr rfl) (.inl rfl)) (au (aq (i:=1) dB rfl (.inl rfl) (.inr rfl)) aO)))) (λ_ _ _ _=>bt)
    (λ_ _ _ _=>(gH (outer:=wK (cG (aha ((bq aX).getD 3 (.Pass ⟨0,0,0,0⟩)))) (ak (aX))) (N:=["locks","within","kinds"]) (N':=["place","kind","locks"]) (nl:=2) (ix:=[0]) (mH rfl) rfl rfl (xh (K:=K) rfl rfl bU (ae (pv 2) aj))
    (λ_ _ _ _=>(bZ (K:=K) (n:=2) rfl rfl (au (aq (i:=0) iT rfl (.inl rfl) (.inr rfl)) (au (aq (i:=1) iT rfl (.inl rfl) (.inr rfl)) aO)))) (λ_ _ _ _=>(iF (aN (lB (K:=K) rfl) (pv 1) (pv 2) rfl)))
    (λ_ _ _ _=>(gC (ae (pv 0) (ae (qr (K:=K) rfl aiy ajA ajB jl (pv 2) (ae (pv 1) aj)) aj))))))) rfl)
   (av (abG (pv 0) (abr ["locks","within"] (outer:=ak (aX)) (N:=["self","house","keys","rooms","kinds"]) (N':=["locks","within","kinds"]) (nl:=2) (ix:=[4]) rfl rfl rfl (aV (pv 3))
    (λ_ _ _ _=>(bZ (K:=K) (n:=2) rfl rfl (au (aq (i:=0) dB rfl (.inr rfl) (.inl rfl)) (au (aq (i:=1) dB rfl (.inr rfl) (.inl rfl)) aO)))) (λ_ _ _ _=>bt)
    (λ_ _ _ _=>(gH (outer:=wK (cG (aha ((bq aX).getD 4 (.Pass ⟨0,0,0,0⟩)))) (ak (aX))) (N:=["locks","within","kinds"]) (N':=["place","kind","within","locks"]) (nl:=2) (ix:=[1,0]) (mH rfl) rfl rfl (xh (K:=K) rfl rfl bU (ae (pv 2) aj))
    (λ_ _ _ _=>(bZ (K:=K) (n:=2) rfl rfl (au (aq (i:=0) iS rfl (.inl rfl) (.inr rfl)) (au (aq (i:=1) iS rfl (.inl rfl) (.inr rfl)) aO)))) (λ_ _ _ _=>(iF (PW.pt (pV (aN (lB (K:=K) rfl) (pv 1) (pv 3) rfl) (mF (aN (lB (K:=K) rfl) (pv 1) (pv 2) rfl))))))
    (λ_ _ _ _=>(gC (ae (pv 0) (ae (bz aad (qr (K:=K) rfl aiy ajA ajB jl (pv 2) (ae (pv 1) aj)) (qr (K:=K) rfl aiy ajA ajB jl (pv 3) (ae (pv 1) aj))) aj))))))) rfl)))))),⟨_,rfl,t,_,rfl,aAB ht,rfl,_,_,rfl,_,_,rfl,rfl,?_⟩⟩
  unfold sI qC tCB ax cS;dsimp only;refine wH (te:=dq 3) (h:=h) (vs:=vs) (λR e=>⟨_,rfl,e⟩) aa hR few λD1 ss H1 s1 bA aL nd1 Z=>?_;have l1:=few ss nd1 λk=>(Z k).mp;refine⟨D1,ss,rfl,aL,by lia,λl ks nl hp hs=>?_⟩;have s2:Same H1 (upd H1 l (.lst (ks.map V.str))):=aK nl;have e2:(upd H1 l _) l=some (.lst (ks.map V.str)):=af;generalize upd H1 l (.lst (ks.map V.str))=H2 at *;have KO:agY h ks:=⟨hp.nodup_iff.mpr nd1,λk=>by rw[hp.mem_iff];exact Z k,by rw[hp.length_eq];lia⟩;rw[show aR 4=λv σ H k=>k (σ.set 4 (some v)) H from rfl];unfold ahn;dsimp only;have d2:=s2 _ _ (s1 _ _ hd);have ai:=s1.trans s2;have G0:Same (fb d H) _:=lq ai;have r2:=G0 _ _ (gu (qo hd aa (λz=>nomatch z)) aa);have R2:=(RoomsAt.off hd hR).same G0;have k2:=gu (qo d2 e2 (λz=>nomatch z)) e2;refine aH _ _ _ _ _ _ _ _ _ ?_;refine⟨_,rfl,l,rfl,⟨_,aAA e2⟩,λD3 aP=>?_⟩;refine acu (F:=ahO h.1) e2 aP (by rw[ahY];have:=KO.few;lia) (λx=>rfl) (λH3 x R hx s3 aQ=>?_) (λH3 s3 aS=>?_)
  .obtain⟨k,_,rfl⟩:=ah8.mp hx;have a3:=s3 _ _ (ai _ _ ha);exact⟨_,rfl,.inl ⟨rfl,_,aAA a3⟩,_,rfl,a,_,k,rfl,rfl,a3,aQ⟩
  .have d3:=s3 _ _ d2;have am:H3 D3=some (.lst ((gD ks h.1).map V.int)):=by
    rw[aS];unfold gD;rw[aiG,aiG]
    rfl
   refine⟨_,rfl,d,C,dx,[],rfl,d3,DC.cls,DC.n1,by decide,?_⟩;have s4:Same _ (upd H3 d (.ins C dx (lF "at_first" (.ref D3) []))):=wN;have d4:(upd H3 d _) d=some (.ins C dx (lF "at_first" (.ref D3) [])):=af;generalize upd H3 d (.ins C dx (lF "at_first" (.ref D3) []))=H4 at *;have G4:=(lq s3).trans s4;have l4:=s4 _ _ (gu (qo d3 am (λz=>nomatch z)) am);have f4:(lF "at_first" (.ref D3) []).length<=1:=iL ..;generalize ef4:lF "at_first" (.ref D3) []=O at *;refine aH _ _ _ _ _ _ _ _ _ ?_;refine⟨_,rfl,r,rfl,⟨_,aAA (G4 _ _ r2)⟩,λD5 aT=>?_⟩;refine qm (F:=eP ks) (G4 _ _ r2) (R2.same G4) aT ok.rl (λx y=>rfl) (λH5 m la lb R hm B S s5 k5=>?_) (λH5 s5 RP=>?_)
   .have l5:=s5 _ _ (G4 _ _ k2);refine⟨_,rfl,l,rfl,⟨_,aAA l5⟩,λD6 aY=>?_⟩;refine qT (pb:=λp=>decide (kAt ks p∈m.1)) (gv:=λp=>((m.1.count (kAt ks p):Nat):Int)) l5 aY KO.few (λx y=>rfl) (λH6 p R hp Y k6=>?_) (λH6 p R hp Y k6=>?_) (λH6 x Y pa=>k5 H6 x Y pa)
    .refine⟨_,rfl,_,rfl,la,_,rfl,.inl (aAA (Y _ _ B)),rfl,lT _,_,rfl,?_⟩;have e:=rf (kAt ks p) m.1;simp_all
    .exact⟨_,rfl,_,rfl,.inl ⟨rfl,_,aAA (Y _ _ B)⟩,_,rfl,la,_,_,rfl,rfl,Y _ _ B,fo,k6⟩
   .have d5:=s5 _ _ d4;refine⟨_,rfl,d,C,dx,_,rfl,d5,DC.cls,DC.n2,by lia,?_⟩;have Y:Same _ (upd H5 d (.ins C dx (lF "wants" (.ref D5) O))):=wN;have d6:(upd H5 d _) d=some (.ins C dx (lF "wants" (.ref D5) O)):=af;have G6:=(lq s5).trans Y;have as:Same (fb d H2) (fb d H4):=λb u e=>by
     by_cases z:b=d
     .unfold fb at e;grind
     .exact gu z (G4 _ _ e)
    have L:=as.trans G6;have l6:=G6 _ _ (gu (qo d4 l4 (λz=>nomatch z)) l4);have W6:=(RP.off d5).same Y;have f6:(lF "wants" (.ref D5) O).length<=2:=aij (iL ..) (by lia);generalize ef6:lF "wants" (.ref D5) O=ad at *;refine aH _ _ _ _ _ _ _ _ _ ?_;refine⟨_,rfl,r,rfl,⟨_,aAA (L _ _ r2)⟩,λD7 a2=>?_⟩;refine qm (F:=lg ks) (L _ _ r2) (R2.same L) a2 ok.rl (λx y=>rfl) (λH7 m la lb R hm B S s7 k7=>?_) (λH7 s7 a4=>?_)
    .have l7:=s7 _ _ (L _ _ k2);refine⟨_,rfl,l,rfl,⟨_,aAA l7⟩,λD8 a5=>?_⟩;refine qT (pb:=chB ks m) (gv:=λp=>agE m (kAt ks p)) l7 a5 KO.few (λx y=>rfl) (λH8 p R hp J k8=>?_) (λH8 p R hp J k8=>?_) (λH8 x J pa=>k7 H8 x J pa)
     .refine⟨_,rfl,_,rfl,la,_,rfl,.inl (aAA (J _ _ B)),rfl,lT _,_,rfl,?_⟩;have e:=rf (kAt ks p) m.1;have e2:=rf (kAt ks p) m.2;unfold chB at k8;rw[e];by_cases z:kAt ks p∈m.1
      .simp_all
      .rw[aiC z]at k8⊢;refine⟨_,rfl,_,rfl,lb,_,rfl,.inl (aAA (J _ _ S)),rfl,lT _,_,rfl,?_⟩;simp_all
     .exact⟨_,rfl,_,rfl,.inl ⟨rfl,_,aAA (J _ _ S)⟩,_,rfl,lb,_,_,rfl,rfl,J _ _ S,_,rfl,.inl ⟨rfl,_,aAA (J _ _ B)⟩,_,rfl,la,_,_,rfl,rfl,J _ _ B,_,_,rfl,rfl,fo,k8⟩
    .have d7:=s7 _ _ d6;refine⟨_,rfl,d,C,dx,_,rfl,d7,DC.cls,DC.n3,by lia,?_⟩;have J:Same _ (upd H7 d (.ins C dx (lF "changes" (.ref D7) ad))):=wN;have d8:(upd H7 d _) d=some (.ins C dx (lF "changes" (.ref D7) ad)):=af;generalize upd H7 d (.ins C dx (lF "changes" (.ref D7) ad))=H8 at *;have G8:=(lq s7).trans J;have l8:=G8 _ _ (gu (qo d6 l6 (λz=>nomatch z)) l6);have W8:=(W6.off d6).same G8;have C8:=(a4.off d7).same J;refine q ks H8 KO (aeq ?_) ⟨dx,D3,D5,D7,_,d8,?_,?_,?_,?_,?_,l8,W8,C8⟩
     .refine G0.trans (Same.trans (λb u e=>?_) G8);by_cases z:b=d
      .unfold fb at e;grind
      .exact gu z (L _ _ e)
     all_goals subst ef6 ef4;rw[fJ,fJ,fJ];rfl
end
def afh:HO->Bool
 |.dK _=>false
 |.frz _ _=>false
 |_=>true
def ndH(H:Hp):Hp:=λb=>(H b).filter afh
theorem k4{H b u}(e:H b=some u)(n:afh u=true):ndH H b=some u:=by
 unfold ndH;simp_all
theorem mW{H}:Same (ndH H) H:=λb u e=>by
 unfold ndH at e;simp_all
theorem agZ{H b u}(e:ndH H b=some u):afh u=true:=by
 unfold ndH at e;simp_all
theorem w8{G H D x o}(s:Same (ndH G) H)(B:H D=some x)(n:afh x=false):Same (ndH G) (upd H D o):=λb u e=>by
 have:=s _ _ e;rw[ai (λz=>by subst z;rw[B]at this;cases this;rw[agZ e]at n;cases n)];exact this
theorem wC{H D x o}(z:H D=some x)(n:afh x=false):Same (ndH H) (upd H D o):=w8 mW z n
theorem DoorsAt.nd{C H d h ks}(p:DoorsAt C H d h ks):DoorsAt C (ndH H) d h ks:=by
 obtain⟨dx,l,w,c,fs,h1,h2,L,O,S,Y,Z,⟨v8,a8,b8,c8⟩,⟨v9,a9,b9,c9⟩⟩:=p;have B:∀{v J},PairsAt H v J->PairsAt _ v J:=λ⟨a,vs,e,x,y,z⟩=>⟨a,vs,e,k4 x rfl,y,λi x c a b=>let ⟨t,e1,e2⟩:=z i x c a b;⟨t,e1,k4 e2 rfl⟩⟩;exact⟨dx,l,w,c,fs,k4 h1 rfl,h2,L,O,S,Y,k4 Z rfl,⟨v8,k4 a8 rfl,b8,λi x c a b=>B (c8 i x c a b)⟩,⟨v9,k4 a9 rfl,b9,λi x c a b=>B (c9 i x c a b)⟩⟩
abbrev kB(o:List Nat):Key:=.inl ((bG o:Nat):Int)
structure DictL(F:List Nat->List V)(H:Hp)(kvs:List (Key×V))(os:List (List Nat)):Prop where
 keys:kvs.map (·.1)=os.map kB
 at_:∀(i:Nat) (kv:Key×V) (o:List Nat),kvs[i]?=some kv->os[i]?=some o->∃l:Addr,kv.2=.ref l/\H l=some (.lst (F o))
theorem DictL.nil{F H}:DictL F H [] []:=⟨rfl,λi z o e=>nomatch e⟩
theorem DictL.same{F H H' kvs z}(d:DictL F H kvs z)(s:Same (ndH H) H'):DictL F H' kvs z:=
 ⟨d.keys,λi B o a b=>let ⟨l,e,x⟩:=d.at_ i B o a b;⟨l,e,s _ _ (k4 x rfl)⟩⟩
theorem DictL.len{F H kvs z}(d:DictL F H kvs z):kvs.length=z.length:=by
 have:=aiO List.length d.keys;simp_all
theorem ku{o o'}(e:kB o=kB o'):bG o=bG o':=by
 grind
theorem uB{o}{z:List _}:kB o∈z.map kB↔bG o∈z.map bG:=by
 grind
theorem val_some{kvs}{k:Key}:(cD kvs k).isSome=true↔k∈kvs.map (·.1):=by
 induction kvs with
 |nil=>simp[cD]
 |cons p r z=>
  by_cases e:p.1=k
  .rw[bW e];simp[e]
  .rw[bV e,z];grind
theorem zq{kvs}{k:Key}{v}(n:k∉kvs.map (·.1)):eG kvs k v=kvs++[(k,v)]:=by
 unfold eG;grind
theorem DictL.snoc{F:List Nat->List V}{H H':Hp}{kvs:List (Key×V)}{B:List (List Nat)}{o:List Nat}{l:Addr}(d:DictL F H kvs B)(s:Same (ndH H) H')(J:H l=some (.lst (F o))):DictL F H' (kvs++[(kB o,.ref l)]) (B++[o]):=by
 refine⟨by rw[aia,aia,d.keys];rfl,λi L x a b=>?_⟩;have O:=d.len;by_cases hi:i<kvs.length
 .rw[aik hi]at a;rw[aik (by lia)]at b;exact (d.same s).at_ i L x a b
 .rw[aio (by lia)]at a;rw[aio (by lia),←O]at b;have z:i-kvs.length=0:=by
   have:=(ahW.mp a).1;simp at this;lia
  rw[z]at a b;cases a;cases b;exact⟨l,rfl,s _ _ (k4 J rfl)⟩
structure StepsM(h:Hs)(n:Nat)(os:List (List Nat)):Prop where
 gone:∀o∈os,dP h.1 h.2 o
 lt:∀o∈os,o.length<n
 nd:(os.map bG).Nodup
 all:∀o,dP h.1 h.2 o->o.length<n->bG o∈os.map bG
 up:os.Pairwise λa b=>a.length<=b.length
theorem StepsM.zero h:StepsM h 0 []:=⟨λo z=>absurd z aiT,λo z=>absurd z aiT,akR,λo _ z=>absurd z (alc _),.nil⟩
theorem oZ{h n B L}(s:StepsM h n B)(l:LevL h n L):∀x∈L,bG x∉B.map bG:=λx J z=>by
 obtain⟨y,O,e⟩:=ah8.mp z;have p:=dW (br y (s.gone y O)) (br x (l.gone x J)) e;have:=p.length_eq;have:=s.lt y O;have:=l.len x J;lia
theorem StepsM.next{h n S L}(s:StepsM h n S)(l:LevL h n L)(a:afe h n L):StepsM h (n+1) (S++L):=by
 refine⟨λo B=>?_,λo B=>?_,?_,λo g B=>?_,?_⟩
 .rcases aic.mp B with z|z
  .exact s.gone o z
  .exact l.gone o z
 .rcases aic.mp B with z|z
  .exact aiB (s.lt o z)
  .rw[l.len o z];exact akb n
 .rw[aia,ajG];refine⟨s.nd,l.nd,λx J y O e=>?_⟩;subst e;obtain⟨o,B,rfl⟩:=ah8.mp O;exact oZ s l o B J
 .rw[aia,aic];by_cases e:o.length=n
  .exact .inr (a o g e)
  .exact .inl (s.all o g (by lia))
 .rw[ai1];refine⟨s.up,?_,λx J y O=>?_⟩
  .rw[List.pairwise_iff_forall_sublist];intro x y sl;have Y:x∈L:=sl.subset (by simp);have Z:y∈L:=sl.subset (by simp);rw[l.len x Y,l.len y Z];exact ah4 _
  .have:=s.lt x J;have:=l.len y O;lia
structure cz(h:Hs)(os:List (List Nat)):Prop where
 gone:∀o∈os,dP h.1 h.2 o
 nd:(os.map bG).Nodup
 all:∀o,dP h.1 h.2 o->bG o∈os.map bG
 up:os.Pairwise λa b=>a.length<=b.length
theorem yn{ks:List Str}{z:List Rm}{o:List Nat}(g:dP ks z o)(n:Nat):dP ks z (o.take n):=λj i e=>by
 have B:j<n:=by
  have:=(ahW.mp e).1;rw[aif]at this;lia
 rw[List.getElem?_take,if_pos B]at e;have:=g j i e;rw[alv,akm (by lia)];exact this
theorem StepsM.done{h n z}(s:StepsM h n z)(a:afe h n []):cz h z:=by
 refine⟨s.gone,s.nd,λo g=>?_,s.up⟩;by_cases B:o.length<n
 .exact s.all o g B
 .have:=a _ (yn g n) (by grind);simp_all
theorem aaL{h n z}(s:StepsM h n z):z.length<=2^h.2.length:=by
 have:=iw s.nd λi hi=>by
  obtain⟨o,B,rfl⟩:=ah8.mp hi;exact sr (jw o (s.gone o B))
 simp_all
def hZ(l:List Nat):Nat:=l.foldr (· + ·) 0
theorem gR x l:hZ (x::l)=x+hZ l:=rfl
theorem ack a b:hZ (a++b)=hZ a+hZ b:=by
 induction a with
 |nil=>show hZ b=0+hZ b;lia
 |cons x a z=>show x+hZ (a++b)=x+hZ a+hZ b;lia
theorem lI{α:Type}{l:List α}{f g}(h:∀x∈l,f x=g x):hZ (l.map f)=hZ (l.map g):=by
 rw[aj4 h]
def endsF(h:Hs):Nat->List Nat->Nat
 |0,_=>1
 |n+1,o=>hZ ((cn h o).map λi=>endsF h n (o++[i]))
def EndsN(h:Hs)(o:List Nat):Nat:=endsF h (h.2.length-o.length) o
def stuckF(h:Hs):Nat->List Nat->Nat
 |0,_=>1
 |n+1,o=>if cn h o=[] then 1 else hZ ((cn h o).map λi=>stuckF h n (o++[i]))
def Stuck(h:Hs)(o:List Nat):Nat:=stuckF h (h.2.length-o.length) o
theorem af7{h o}(g:dP h.1 h.2 o){i}(hi:i∈cn h o):o.length<h.2.length:=by
 have:=sj (bw g hi);rw[ahZ,ai6]at this;lia
theorem EndsN.all{h o}(e:o.length=h.2.length):EndsN h o=1:=by
 unfold EndsN;rw[e,akd]
 rfl
theorem EndsN.step{h o}(l:o.length<h.2.length):EndsN h o=hZ ((cn h o).map λi=>EndsN h (o++[i])):=by
 unfold EndsN;obtain⟨n,e⟩:∃n,h.2.length-o.length=n+1:=⟨h.2.length-o.length-1,by lia⟩;rw[e];show hZ _=_;grind
theorem Stuck.end_{h o}(e:cn h o=[]):Stuck h o=1:=by
 unfold Stuck;cases h.2.length-o.length with
 |zero=>rfl
 |succ n=>show (if _ then _ else _)=_;rw[if_pos e]
theorem Stuck.step{h:Hs}{o:List Nat}(g:dP h.1 h.2 o)(ne:cn h o≠[]):Stuck h o=hZ ((cn h o).map λi=>Stuck h (o++[i])):=by
 have l:o.length<h.2.length:=by
  cases hn:cn h o with
  |nil=>exact absurd hn ne
  |cons i r=>exact af7 g (i:=i) (by rw[hn];exact aid)
 unfold Stuck;obtain⟨n,e⟩:∃n,h.2.length-o.length=n+1:=⟨h.2.length-o.length-1,by lia⟩;rw[e];show (if _ then _ else _)=_;rw[if_neg ne];refine lI λi _=>?_;rw[ahZ,ai6,show h.2.length-(o.length+1)=n by lia]
theorem iC{h o o'}(g:dP h.1 h.2 o)(z:dP h.1 h.2 o')(p:o.Perm o'):cn h o=cn h o':=lZ (lP g z p) p
theorem qE{h}:∀n o o',dP h.1 h.2 o->dP h.1 h.2 o'->o.Perm o'->endsF h n o=endsF h n o'
 |0,_,_,_,_,_=>rfl
 |n+1,o,o',g,g',p=>by
  show hZ _=hZ _;rw[iC g g' p];exact lI λi hi=>qE n _ _ (bw g (by rw[←iC g g' p]at hi;exact hi)) (bw g' hi) (p.append_right _)
theorem EndsN.perm{h o o'}(g:dP h.1 h.2 o)(z:dP h.1 h.2 o')(p:o.Perm o'):EndsN h o=EndsN h o':=by
 unfold EndsN;rw[p.length_eq];exact qE _ _ _ g z p
theorem oW{h}:∀n o o',dP h.1 h.2 o->dP h.1 h.2 o'->o.Perm o'->stuckF h n o=stuckF h n o'
 |0,_,_,_,_,_=>rfl
 |n+1,o,o',g,g',p=>by
  show (if _ then _ else _)=(if _ then _ else _);rw[iC g g' p];split
  .rfl
  .exact lI λi hi=>oW n _ _ (bw g (by rw[←iC g g' p]at hi;exact hi)) (bw g' hi) (p.append_right _)
theorem Stuck.perm{h o o'}(g:dP h.1 h.2 o)(z:dP h.1 h.2 o')(p:o.Perm o'):Stuck h o=Stuck h o':=by
 unfold Stuck;rw[p.length_eq];exact oW _ _ _ g z p
theorem afj h o:(cn h o).Nodup:=alG.filter _
theorem xA{h o i}(g:dP h.1 h.2 o):i∈cn h o↔dP h.1 h.2 (o++[i]):=⟨bw g,λx=>(dQ x).2⟩
theorem xP:∀{S T:List Nat},S.Pairwise (· < ·)->T.Pairwise (· < ·)->(∀i,i∈S↔i∈T)->S=T
 |[],[],_,_,_=>rfl
 |[],b::T,_,_,h=>absurd ((h b).mpr aid) (by simp)
 |a::S,[],_,_,h=>absurd ((h a).mp aid) (by simp)
 |a::S,b::T,hs,ht,h=>by
  rw[ajQ]at hs ht;have z:a=b:=by
   rcases ain.mp ((h a).mp aid) with e|e
   .exact e
   .rcases ain.mp ((h b).mpr aid) with e'|e'
    .exact e'.symm
    .have:=ht.1 a e;have:=hs.1 b e';lia
  subst z;congr 1;refine xP hs.2 ht.2 λi=>⟨λhi=>?_,λhi=>?_⟩
  .rcases ain.mp ((h i).mp (aih _ hi)) with e|e
   .have:=hs.1 i hi;lia
   .exact e
  .rcases ain.mp ((h i).mpr (aih _ hi)) with e|e
   .have:=ht.1 i hi;lia
   .exact e
theorem aaM h o:(cn h o).Pairwise (· < ·):=List.pairwise_lt_range.filter _
structure AlikeH(h h':Hs):Prop where
 len:h.2.length=h'.2.length
 gone:∀o,dP h.1 h.2 o↔dP h'.1 h'.2 o
theorem AlikeH.nxt{h h'}(a:AlikeH h h'){o}(g:dP h.1 h.2 o):cn h o=cn h' o:=
 xP (aaM _ _) (aaM _ _) λi=>by rw[xA g,xA ((a.gone o).mp g),a.gone]
theorem AlikeH.endsF{h h'}(a:AlikeH h h'):∀n o,dP h.1 h.2 o->endsF h n o=endsF h' n o
 |0,_,_=>rfl
 |n+1,o,g=>by
  show hZ _=hZ _;rw[a.nxt g];exact lI λi hi=>a.endsF n _ (by rw[←a.nxt g]at hi;exact bw g hi)
theorem AlikeH.ends{h h'}(a:AlikeH h h'){o}(g:dP h.1 h.2 o):EndsN h o=EndsN h' o:=by
 unfold EndsN;rw[a.len];exact a.endsF _ _ g
theorem AlikeH.stuckF{h h'}(a:AlikeH h h'):∀n o,dP h.1 h.2 o->stuckF h n o=stuckF h' n o
 |0,_,_=>rfl
 |n+1,o,g=>by
  show (if _ then _ else _)=(if _ then _ else _);rw[a.nxt g];split
  .rfl
  .exact lI λi hi=>a.stuckF n _ (by rw[←a.nxt g]at hi;exact bw g hi)
theorem AlikeH.stuck{h h'}(a:AlikeH h h'){o}(g:dP h.1 h.2 o):Stuck h o=Stuck h' o:=by
 unfold Stuck;rw[a.len];exact a.stuckF _ _ g
def upB(b c:Nat)(wf:List Nat->Nat):List Nat->Nat:=λx=>if bG x=b then wf x+c else wf x
theorem agb{x c z}:upB (bG x) c z x=z x+c:=if_pos rfl
theorem tT{x b c z}(h:bG x≠b):upB b c z x=z x:=if_neg h
theorem wY{c}{J g:List _->Nat}{x}:∀{B:List _},(B.map bG).Nodup->x∈B->hZ (B.map λy=>upB (bG x) c J y*g y)=hZ (B.map λy=>J y*g y)+c*g x
 |[],_,hx=>by cases hx
 |y::B,nd,hx=>by
  rw[air,ajm]at nd;rw[air,air,gR,gR];rcases ain.mp hx with e|e
  .subst e;rw[agb,lI   λz L=>by
    rw[tT λq=>nd.1 (by simp_all)],Nat.add_mul]
   lia
  .rw[wY nd.2 e,tT λq=>nd.1 (by rw[q];exact aiH e)];lia
def stop(h:Hs):List Nat->Bool:=λo=>(cn h o).isEmpty
def Tot(h:Hs)(os:List (List Nat))(i:Nat)(wf:List Nat->Nat):Nat:=hZ (((os.take i).filter (stop h)).map wf)+hZ ((os.drop i).map λo=>wf o*Stuck h o)
def adS(h:Hs)(os:List (List Nat))(i:Nat)(o:List Nat)(j:Nat)(wf:List Nat->Nat):Nat:=hZ (((os.take (i+1)).filter (stop h)).map wf)+wf o*hZ (((cn h o).drop j).map λn=>Stuck h (o++[n]))+hZ ((os.drop (i+1)).map λo=>wf o*Stuck h o)
theorem af6{h z i o B}(e:z[i]?=some o)(g:dP h.1 h.2 o):Tot h z i B=adS h z i o 0 B:=by
 unfold Tot adS;rw[ais,e,ai5,aia,ack,akQ];have d:z.drop i=o::z.drop (i+1):=by
  obtain⟨hi,rfl⟩:=ahW.mp e;simp_all
 rw[d,air,gR];by_cases J:cn h o=[]
 .rw[J,Stuck.end_ J,show (some o).toList.filter _=[o] from by
   show [o].filter _=_;rw[aky,if_pos (by unfold stop;rw[J];rfl)];rfl]
  show _+(B o*1+_)=_+(B o+0)+B o*0+_;lia
 .rw[Stuck.step g J,show (some o).toList.filter (stop h)=[] from by
   show [o].filter (stop h)=_;rw[aky,if_neg (by unfold stop;simp_all)];rfl]
  show _=_+0+_+_;lia
theorem ad2{h B i o z}:adS h B i o (cn h o).length z=Tot h B (i+1) z:=by
 unfold Tot adS;rw[List.drop_length];show _+z o*0+_=_;lia
theorem aeS{b c z}{l:List _}(h:∀y∈l,bG y≠b):l.map (upB b c z)=l.map z:=aj4 λy B=>tT (h y B)
theorem afV{h z i k j n o x J}(nd:(z.map bG).Nodup)(e:z[i]?=some o)(Y:z[k]?=some x)(lt:i<k)(Z:(cn h o)[j]?=some n)(eS:Stuck h x=Stuck h (o++[n])):adS h z i o (j+1) (upB (bG x) (J o) J)=adS h z i o j J:=by
 have B:=nd;rw[←aiI _ z,aia,ajG]at B;have S:x∈z.drop (i+1):=ah7 (i:=k-(i+1)) (by rw[ak8,←Y];congr 1;lia);have no:∀y∈z.take _,bG y≠bG x:=λy L=>B.2.2 _ (aiH L) _ (aiH S);have O:o∈z.take (i+1):=ah7 (i:=i) (by simp_all);unfold adS;rw[aeS λy L=>no y (aiU.mp L).1,tT (no o O),wY B.2.1 S,eS];have d:(cn h o).drop j=n::(cn h o).drop (j+1):=by
  obtain⟨hj,rfl⟩:=ahW.mp Z;exact akS hj
 rw[d,air,gR,Nat.mul_add];lia
theorem agP{h z}(s:cz h z):Tot h z 0 (upB 0 1 λ_=>0)=Stuck h []:=by
 obtain⟨x,B,ex⟩:=ah8.mp (s.all [] (cU _ _));have p:=dW (br x (s.gone x B)) .nil ex;show 0+_=_;rw[akQ,show 0=bG x from ex.symm,wY s.nd B,Stuck.perm (s.gone x B) (cU _ _) p,show hZ _=0 from ?_]
 .rw[show bG x=0 from ex];lia
 .rw[ex];have:∀l:List _,hZ (l.map λy=>0*Stuck h y)=0:=λl=>by
   induction l with
   |nil=>rfl
   |cons a l J=>rw[air,gR,J];lia
  exact this z
theorem afc{h z B}:Tot h z z.length B=hZ ((z.filter (stop h)).map B):=by
 unfold Tot;rw[aiz,List.drop_length]
 rfl
structure NamedH(f:Str->Str)(U:List Str)(h h':Hs):Prop where
 inj:∀x∈U,∀y∈U,f x=f y->x=y
 bg:∀x∈h.1,x∈U
 lk:∀r∈h.2,∀x∈r.1,x∈U
 wi:∀r∈h.2,∀x∈r.2,x∈U
 keys:h'.1.Perm (h.1.map f)
 len:h'.2.length=h.2.length
 rm:∀(i:Nat) r r',h.2[i]?=some r->h'.2[i]?=some r'->r'.1.Perm (r.1.map f)/\r'.2.Perm (r.2.map f)
section
variable {f:Str->Str}{U:List Str}
theorem fY(inj:∀x∈U,∀y∈U,f x=f y->x=y){x}(B:x∈U):∀{l:List _},(∀y∈l,y∈U)->(l.map f).count (f x)=l.count x
 |[],_=>rfl
 |a::l,h=>by
  rw[air,alW,fY inj B λy J=>h y (aih _ J)];by_cases e:a=x
  .simp_all
  .have:¬ f a=f x:=λz=>e (inj a (h a aid) x B z);simp_all
def Cnt(f:Str->Str)(U:List Str)(a b:List Str):Prop:=∀x∈U,b.count (f x)=a.count x
theorem rq(inj:∀x∈U,∀y∈U,f x=f y->x=y){a b}(p:b.Perm (a.map f))(h:∀y∈a,y∈U):Cnt f U a b:=λx z=>by rw[p.count_eq,fY inj z h]
theorem acx{a b r z}(c:Cnt f U a b)(c1:Cnt f U r.1 z.1)(c2:Cnt f U r.2 z.2):Cnt f U (lW a r) (lW b z):=λx B=>by
 unfold lW;rw[ajk,ajk,cI,cI,c x B,c1 x B,c2 x B]
theorem aem{a b}{r J:Rm}(c:Cnt f U a b)(c1:Cnt f U r.1 J.1)(p:J.1.Perm (r.1.map f))(h:∀y∈r.1,y∈U):pd b J.1=pd a r.1:=by
 unfold pd;rw[ajg,aiZ,aiZ];constructor
 .intro z x B;have:=z _ (p.mem_iff.mpr (aiH B));rw[c x (h x B),c1 x (h x B)]at this;exact this
 .intro z y L;obtain⟨x,B,rfl⟩:=ah8.mp (p.mem_iff.mp L);rw[c x (h x B),c1 x (h x B)];exact z x B
theorem NamedH.room{h h'}(n:NamedH f U h h')(i:Nat):(((h'.2[i]?).getD ([],[])).1.Perm (((h.2[i]?).getD ([],[])).1.map f)/\Cnt f U ((h.2[i]?).getD ([],[])).1 ((h'.2[i]?).getD ([],[])).1/\Cnt f U ((h.2[i]?).getD ([],[])).2 ((h'.2[i]?).getD ([],[])).2)/\∀y∈((h.2[i]?).getD ([],[])).1,y∈U:=by
 by_cases hi:i<h.2.length
 .have z:i<h'.2.length:=by rw[n.len];exact hi
  obtain⟨B,p2⟩:=n.rm i _ _ (ahU hi) (ahU _);rw[ahU hi,ahU z];have m:=aiq hi;exact⟨⟨B,rq n.inj B (n.lk _ m),rq n.inj p2 (n.wi _ m)⟩,n.lk _ m⟩
 .rw[show h.2[i]?=none from akK (by lia),akK (by rw[n.len];lia)];exact⟨⟨.nil,λ_ _=>rfl,λ_ _=>rfl⟩,λ_ h=>nomatch h⟩
theorem NamedH.hand{h h'}(n:NamedH f U h h'):∀o a b,Cnt f U a b->Cnt f U (dj a h.2 o) (dj b h'.2 o)
 |[],_,_,c=>c
 |i::o,a,b,c=>by
  obtain⟨⟨_,c1,c2⟩,_⟩:=n.room i;exact n.hand o _ _ (acx c c1 c2)
theorem NamedH.alike{h h'}(n:NamedH f U h h'):AlikeH h h':=by
 refine⟨n.len.symm,λo=>?_⟩;have B:=rq n.inj n.keys n.bg;have z:=λp i=>by
  obtain⟨⟨J,c1,_⟩,u⟩:=n.room i;exact aem (n.hand p _ _ B) c1 J u
 constructor
 .intro g j i e;obtain⟨a,b,c⟩:=g j i e;exact⟨by rw[n.len];exact a,b,by rw[z];exact c⟩
 .intro g j i e;obtain⟨a,b,c⟩:=g j i e;exact⟨by rw[←n.len];exact a,b,by rw[←z];exact c⟩
end
theorem zQ{h:Hs}(l:h.2.length<=12)(J:∀r∈h.2,r.1.length<=4):wM h:=λL nd O=>by
 have e:(h.2.flatMap (·.1)).length<=4*h.2.length:=by
  have:∀z:List Rm,(∀r∈z,r.1.length<=4)->(z.flatMap (·.1)).length<=4*z.length:=λz=>by
   induction z with
   |nil=>intro _;exact ail _
   |cons r z S=>
    intro q;rw[aiY,ahZ,aiJ];have a:=q r aid;have b:=S λx B=>q x (aih _ B);lia
  exact this _ J
 have:=bf nd (U:=h.2.flatMap (·.1)) λx B=>by
  obtain⟨r,hr,B⟩:=O x B;exact aiM.mpr ⟨r,hr,B⟩
 lia
end K7
namespace L2
theorem tvE{i σ H Q v}(h:σ[i]?=some (some v))(k:Q v H):dq i σ H Q:=⟨v,h,k⟩
end L2
namespace K7
open PySem L2 PyProof.Rows
def aez(s:Stmt):List Stmt:=match s with
 |.For _ _ b _ _=>b
 |_=>[]
theorem rO:lettersS.cps.toList=List.range' 97 26:=by decide +kernel
theorem hJ(r:Nat)(h:r<26):atI lettersS.cps.toList r=some (97+r):=ir (by rw[rO,List.getElem?_range' h];simp)
theorem fX:lettersS.length<=sizeLine:=by decide
def aa6(l:List Nat):Prop:=1<=l.length/\l.length<=4/\∀c∈l,97<=c/\c<=122
theorem wG{z}(h:aa6 z.cps.toList):aW z:=by
 obtain⟨h1,h2,B⟩:=h;have e:z.cps.toList.length=z.length:=aiw;exact⟨by grind,by simp_all,B⟩
theorem aaI{z}(h:aW z):aa6 z.cps.toList:=by
 obtain⟨h1,h2,B⟩:=h;have e:z.cps.toList.length=z.length:=aiw;exact⟨by grind,by simp_all,B⟩
def jN(t:Nat):Str:=⟨#[97+t / 26,97+t%26,122,122]⟩
theorem acS{s t}(h:jN s=jN t):s=t:=by
 unfold jN at h;grind
theorem ae3{t}(h:t<676):aW (jN t):=by
 refine⟨by show 1<=4;decide,by show 4<=4;decide,λc z=>?_⟩;have B:c∈[97+t / 26,97+t%26,122,122]:=z;grind
def xc:Sp:=λvs H Q _=>∃(p:Addr) (n:Nat) (c:Int),vs=[.ref p,.int n]/\PoolAt H p c/\n<=60/\0<=c/\c+540<1000000 ∧
 ∀(l:Addr) (ks:List Str) (c':Int) (H':Hp),H l=none->ks.length=n->(∀k∈ks,aW k)->ks.Nodup->H' l=some (.lst (ks.map V.str))->PoolAt H' p c'->c<=c'->c'<=c+540->But p H H'->Q (.ref l) H'
theorem qt:∀{ss:List Str},(∀x∈ss,∃c,x=⟨#[c]⟩/\97<=c/\c<=122)->((ss.map (·.cps.toList)).flatten).length=ss.length/\∀c∈(ss.map (·.cps.toList)).flatten,97<=c/\c<=122
 |[],_=>⟨rfl,(λc h=>by simp at h)⟩
 |a::r,h=>by
  obtain⟨c,rfl,h1,h2⟩:=h a aid;obtain⟨z,B⟩:=qt (ss:=r) λx J=>h x (aih _ J);rw[air,amE];refine⟨?_,λd hd=>?_⟩
  .rw[ahZ,z,aiJ];show 1+r.length=r.length+1
   lia
  .rcases aic.mp hd with hd|hd
   .have:d=c:=by simpa using hd
    lia
   .exact B d hd
theorem xI:∀{ss:List Str},(∀x∈ss,∃c,x=⟨#[c]⟩/\97<=c/\c<=122)->(ss.map (·.length)).sum=ss.length
 |[],_=>rfl
 |a::r,h=>by
  obtain⟨c,rfl,h1,h2⟩:=h a aid;rw[air,List.sum_cons,xI λx z=>h x (aih _ z)];show 1+r.length=r.length+1;grind
theorem abS z (ks:List _):inV (.str z) (ks.map V.str)=decide (z∈ks):=by
 unfold inV
 induction ks with
 |nil=>rfl
 |cons a r B=>
  rw[air,alP,B];show (a==z||decide _)=_;grind
theorem uu(ks:List _):(ks.map V.str).all p5=true:=by
 rw[amd,aiZ];intro _ _
 rfl
theorem pf{z}(h:aW z):z.length<=sizeLine:=aiF (aU (by have:=h.2.1;lia))
theorem zx{ks}(h:ks≠[]):∃y,y∈ks/\atI (ks.map V.str) (-1)=some (.str y):=by
 rcases alz ks with e|⟨r,y,e⟩
 .simp_all
 .rw[ank]at e;subst e;exact⟨y,by simp,by rw[aia];exact acM _ _⟩
theorem aaY(ks:List _):PyData.eqv (.list (ks.map PyData.str)) (.list [])=ks.isEmpty:=by
 cases ks with
 |nil=>rfl
 |cons a r=>rfl
def adH(s:Stmt):Expr:=match s with
 |.Assign _ e _=>e
 |_=>.Name "" ⟨0,0,0,0⟩
section
variable {P:Program}{w:World}{K:PySem.W.Frag}{mg:Str->Option Value}{base:Heap}
theorem scMade:aA ["pool","many","letters","found","k","kind","way","at","turn"] ["pool","many"] (ak se):=scM rfl rfl rfl rfl (by decide +kernel)
abbrev acz:Expr:=nH (adH ((aez ((bq se).getD 2 (.Pass ⟨0,0,0,0⟩))).getD 0 (.Pass ⟨0,0,0,0⟩)))
theorem afF:gx (ak se) (cG acz) ["pool","many","letters","found","k","kind","way","at","turn"] ["j","letters","pool"] 1 [2,0]=true:=by decide +kernel
theorem nd8:(["j","letters","pool"]:List Str).Nodup:=by decide +kernel
inductive ahj(p:Addr)(n:Nat)(l:Addr)(i:Nat)(c1:Int)(H2:Hp)(σ':L2.St)(H':Hp):Prop
 |mk (x6 x7 x8:Option V) (z:Str) (c':Int):(σ'=[some (.ref p),some (.int n),some (.str lettersS),some (.ref l),some (.int (0+i)),some (.str z),x6,x7,x8])->(aW z)->(PoolAt H' p c')->(c1<=c')->(c'<=c1+5)->(But p H2 H')->ahj p n l i c1 H2 σ' H'
inductive ahq(p:Addr)(n:Nat)(l:Addr)(i:Nat)(wy:Int)(c1:Int)(H2:Hp)(σ':L2.St)(H':Hp):Prop
 |mk (x7 x8:Option V) (z:Str) (c':Int):(σ'=[some (.ref p),some (.int n),some (.str lettersS),some (.ref l),some (.int (0+i)),some (.str z),some (.int wy),x7,x8])->(aW z)->(PoolAt H' p c')->(c1<=c')->(c'<=c1+7)->(But p H2 H')->ahq p n l i wy c1 H2 σ' H'
inductive ahk(p:Addr)(n:Nat)(l:Addr)(i:Nat)(wy:Int)(c1:Int)(H2:Hp)(σ':L2.St)(H':Hp):Prop
 |mk (x7 x8:Option V) (z:Str) (c':Int):(σ'=[some (.ref p),some (.int n),some (.str lettersS),some (.ref l),some (.int (0+i)),some (.str z),some (.int wy),x7,x8])->(aW z)->(PoolAt H' p c')->(c1<=c')->(c'<=c1+9)->(But p H2 H')->ahk p n l i wy c1 H2 σ' H'
inductive MdL(p l:Addr)(n:Nat)(c:Int)(H:Hp)(i:Nat)(σ:L2.St)(H2:Hp):Prop
 |mk (x4 x5 x6 x7 x8:Option V) (ks:List Str) (c':Int):σ=[some (.ref p),some (.int n),some (.str lettersS),some (.ref l),x4,x5,x6,x7,x8]->ks.length=i->(∀k∈ks,aW k)->ks.Nodup->H2 l=some (.lst (ks.map V.str))->PoolAt H2 p c'->c<=c'->c'<=c+9*i->But p H H2->MdL p l n c H i σ H2
theorem aep{f fT:Addr}{fd a8:FuncData}(F:Fun K "_law_kinds" "_law_kinds" se f fd)(GT:bx P w K mg base CX0 1 fT a8 ["pool","many"] dF)(Z:Cal K mg "_law_take" ["pool","many"] fT a8)(mR:mg "range" = none)(mL:mg "len" = none):
 bx P w K mg base CX0 2 f fd ["pool","many"] xc:=by
 refine F.ok scMade (λvs H Q E h=>?_) (λaL A outer s H vs Q E hr h=>?_)
 .obtain⟨p,n,c,rfl,_⟩:=h
  rfl
 .obtain⟨p,n,c,rfl,⟨o,hp,bs⟩,hn,hc,ca,k⟩:=h;have hu:=gm hr;obtain⟨S,Cp⟩:=eQ (X:=(ur CX0 P w K mg base ["pool","many","letters","found","k","kind","way","at","turn"] "_law_kinds" (ak se) f aL A outer s H E).nox) (outer:=ak se) (N:=["pool","many","letters","found","k","kind","way","at","turn"]) rfl rfl afF;have tk:∀{b:Expr} {t:TE},PE (ur CX0 P w K mg base ["pool","many","letters","found","k","kind","way","at","turn"] "_law_kinds" (ak se) f aL A outer s H E).nox b t->True:=λ_=>trivial;refine⟨_,ao (aB (i:=2) scMade.nd rfl (.inr rfl) abM)
   (ao (aB (i:=3) scMade.nd rfl (.inl rfl) (gX aj))
   (ao (d9 aiN rfl (gJ rfl mR (ae (pv 1) aj)) (aq (i:=4) scMade.nd rfl (.inl rfl))
    (ao (cy (aB (i:=5) scMade.nd rfl (.inl rfl) (kO PySem.F.plainAttrs_str PySem.F.slot_str_join PySem.F.type_str_join aei abM (ae (jz (tg:=.Name "j" _) rfl S Cp
     (gJ rfl mR (ae (bz gN ar (bM GT hr rfl Z.mg Z.kp Z.b .nil eJ (ae (pv 0) (ae ar aj)))) aj))
     (λ_ _ _ _=>aq (i:=0) nd8 rfl (.inl rfl) (.inr rfl)) (λ_ _ _ _=>bt)
     (λ_ _ _ _=>bY uZ (pv 1) (bM GT hr rfl Z.mg Z.kp Z.b .nil eJ (ae (pv 2) (ae ar aj))) (λ_ _=>rfl))) aj))))
    (ao (aB (i:=6) scMade.nd rfl (.inl rfl) (bM GT hr rfl Z.mg Z.kp Z.b .nil eJ (ae (pv 0) (ae ar aj))))
    (ao (cy (fm (PW.pt (xY (aN lR (pv 6) ar (aZ _)) (su (aN uf (pv 3) (gX aj) (aZ _)))))
     (av (aB (i:=5) scMade.nd rfl (.inl rfl) (kG abn (bz gW (bY cf (pv 3) (yH qL ar) (λ_ _=>rfl)) (bY uZ (pv 2) (bM GT hr rfl Z.mg Z.kp Z.b .nil eJ (ae (pv 0) (ae ar aj))) (λ_ _=>rfl))) nZ (ou ar)))) bD))
    (ao (cy (fm (PW.pt (xY (aN lR (pv 6) ar (aZ _)) (su (aN uf (pv 3) (gX aj) (aZ _)))))
     (ao (aB (i:=7) scMade.nd rfl (.inl rfl) (bM GT hr rfl Z.mg Z.kp Z.b .nil eJ (ae (pv 0) (ae (ay mE rfl mL ajq (ae (bY cf (pv 3) (yH qL ar) (λ_ _=>rfl)) aj)) aj))))
     (av (aB (i:=5) scMade.nd rfl (.inl rfl) (bz gW (bz gW (kG abn (bY cf (pv 3) (yH qL ar) (λ_ _=>rfl)) nZ (ou (pv 7)))
      (bY uZ (pv 2) (bM GT hr rfl Z.mg Z.kp Z.b .nil eJ (ae (pv 0) (ae ar aj))) (λ_ _=>rfl)))
      (kG abn (bY cf (pv 3) (yH qL ar) (λ_ _=>rfl)) (ou (bz gN (pv 7) ar)) nZ))))) bD))
    (ao (aB (i:=8) scMade.nd rfl (.inl rfl) ar)
    (ao (xm aiN (aN uP (pv 5) (pv 3) rfl)
     (ao (aB (i:=5) scMade.nd rfl (.inl rfl) (bz gW (bz gW (bY uZ (pv 2) (bz vH (pv 8) ar) (λ_ _=>rfl)) (bY uZ (pv 2) (bz qH (pv 8) ar) (λ_ _=>rfl))) abM))
     (av (aB (i:=8) scMade.nd rfl (.inl rfl) (bz gN (pv 8) ar)))))
    (av (bX (kO aiy ajy ajz cV (pv 3) (ae (pv 5) aj)))))))))))
   (av (aM (pv 3))))),?_⟩
  refine⟨ail _,λl hl=>?_⟩;have aA:p≠l:=ag hp hl
  first|refine tvE rfl ?_|refine⟨_,rfl,?_⟩
  refine⟨(n:Int),rfl,by lia,by lia,?_⟩;refine og (n:=n) (MdL p l n c H) ?_ ?_ ?_
  .exact⟨none,none,none,none,none,[],c,rfl,rfl,(λk h=>nomatch h),akR,af,⟨o,by rw[ai aA];exact hp,bs⟩,amT _,by lia,(But.refl p H).new hl⟩
  .rintro i σ H2 hi ⟨x4,x5,x6,x7,x8,ks,c1,rfl,aO,Y,aP,aC,⟨o2,aQ,a9⟩,ch,bR,hb⟩;have sk:ks.length<=60:=by lia
   have B:∀{H3:Hp},But p H2 H3->H3 l=some (.lst (ks.map V.str)):=λb=>b l _ (ai2 aA) aC;refine⟨ahj p n l i c1 H2,?_,?_⟩
   .rintro σ H3 ⟨x6,x7,x8,z,c2,rfl,hz,⟨o3,bv,al⟩,g1,g2,b3⟩
    first|refine tvE rfl ?_|refine⟨_,rfl,?_⟩
    refine⟨p,4,c2,o3,rfl,bv,al,by decide,by decide,by lia,by lia,λwy c3 o4 w0 w1 g3 g4 aa=>?_⟩;have b4:But p H2 (upd H3 p o4):=b3.trans But.upd;generalize hH4:upd H3 p o4=H4 at b4;have ab:H4 p=some o4:=by rw[←hH4];exact af
    have cm:=B b4;have am:∀{H':Hp},H' l=some (.lst (ks.map V.str))->Sees H' (.ref l) (.list (ks.map PyData.str)):=λe=>.lst e (SeesAll.strs ks);have aJ:(A.deeper (envOfC "_law_kinds" (ak se) s.heap.objs.size f aL)).units+min (PyData.depth (.list (ks.map PyData.str))) (PyData.depth (.list []))<cLine:=by
     show _+min (PyData.depthAll (ks.map PyData.str)+1) 1<cLine;rw[lY];exact hu
    refine⟨ahq p n l i wy c1 H2,?_,?_⟩
    .rintro σ H5 ⟨x7,x8,z,c4,rfl,hz,⟨o5,ac,O⟩,g5,g6,b5⟩;have aS:=B b5;refine⟨ahk p n l i wy c1 H2,?_,?_⟩
     .rintro σ H6 ⟨x7,x8,z,c5,rfl,hz,ap,g7,g8,b6⟩;have ad:=B b6;refine⟨λm as H'=>H'=H6/\∃(z:Str) (t:Nat),as=[some (.ref p),some (.int n),some (.str lettersS),some (.ref l),some (.int (0+i)),some (.str z),some (.int wy),x7,some (.int t)]/\m=100-t/\t<=61/\aW z/\(∀t',t=t'+1->z=jN t')/\∀j,j+1<t->jN j∈ks,⟨100,rfl,z,0,rfl,rfl,by decide,hz,(λt' e=>by lia),(λj h=>by lia)⟩,?_⟩;rintro m as H' ⟨rfl,z,t,rfl,rfl,ht,hz,bA,hw⟩;by_cases aG:z∈ks
      .first|refine tvE rfl ?_|refine⟨_,rfl,?_⟩
       first|refine tvE rfl ?_|refine⟨_,rfl,?_⟩
       refine⟨l,_,rfl,.inl (aAA ad),rfl,uu ks,true,aiO V.bl (by rw[if_neg aie,abS,aiv aG]),mZ ?_⟩;have all:∀j,j<t->jN j∈ks:=λj hj=>by
        by_cases e:j+1=t
        .have:=bA j e.symm;rw[←this];exact aG
        .exact hw j (by lia)
       have tl:t<=ks.length:=adx t jN ks (λa b _ _ e=>acS e) all;refine⟨λas bc=>bc=H'/\as=[some (.ref p),some (.int n),some (.str lettersS),some (.ref l),some (.int (0+i)),some (.str (jN t)),some (.int wy),x7,some (.int ((t+1:Nat):Int))],?_,?_⟩
       .rintro as bc ⟨rfl,rfl⟩;refine⟨100-(t+1),by lia,rfl,jN t,t+1,rfl,rfl,by lia,ae3 (by lia),λt' e=>?_,λj hj=>all j (by lia)⟩;have:t=t':=by lia
        rw[this]
       .first|refine tvE rfl ?_|refine⟨_,rfl,?_⟩
        first|refine tvE rfl ?_|refine⟨_,rfl,?_⟩
        refine⟨_,26,rfl,rfl,⟨by decide,by decide⟩,lettersS,_,97+t / 26,rfl,rfl,fX,?_,?_⟩
        .rw[show ((t:Int) / 26)=((t / 26:Nat):Int) from by lia];exact hJ _ (by lia)
        first|refine tvE rfl ?_|refine⟨_,rfl,?_⟩
        first|refine tvE rfl ?_|refine⟨_,rfl,?_⟩
        refine⟨_,26,rfl,rfl,(by show (0:Int)<26;decide),lettersS,_,97+t%26,rfl,rfl,fX,?_,?_⟩
        .rw[show ((t:Int)%26)=((t%26:Nat):Int) from by lia];exact hJ _ (by lia)
        refine⟨_,_,rfl,rfl,by show 1+1<=sizeLine;decide,_,_,rfl,rfl,by show 2+2<=sizeLine;decide,?_⟩
        first|refine tvE rfl ?_|refine⟨_,rfl,?_⟩
        refine⟨_,1,rfl,rfl,rfl,?_⟩
        rfl
      .first|refine tvE rfl ?_|refine⟨_,rfl,?_⟩
       first|refine tvE rfl ?_|refine⟨_,rfl,?_⟩
       refine⟨l,_,rfl,.inl (aAA ad),rfl,uu ks,false,aiO V.bl (by rw[if_neg aie,abS,aiC aG]),iR ?_⟩
       first|refine tvE rfl ?_|refine⟨_,rfl,?_⟩
       refine⟨.inl ⟨rfl,_,aAA ad⟩,_,rfl,l,_,_,rfl,rfl,ad,by rw[ahY];exact aU (by lia),?_⟩;refine⟨_,_,_,_,_,ks++[z],c5,rfl,by rw[ahZ,aO];rfl,λk hk=>?_,?_,by rw[af,aia];rfl,?_,by lia,by lia,λb u J e=>?_⟩
       .rcases aic.mp hk with hk|hk
        .exact Y k hk
        .rw[ah5.mp hk];exact hz
       .exact f7 aP aG (.refl _)
       .obtain⟨o6,q1,q2⟩:=ap;exact⟨o6,by rw[ai aA];exact q1,q2⟩
       .rw[ai (ag e hl)];exact b6 b u J (hb b u J e)
     .first|refine tvE rfl ?_|refine⟨_,rfl,?_⟩
      refine⟨rfl,_,rfl,?_⟩;refine abX (λ_=>?_) (λ_=>?_)
      .first|refine tvE rfl ?_|refine⟨_,rfl,?_⟩
       refine⟨ail _,λe ne=>?_⟩;have b6:But p H2 (upd H5 e (.lst [])):=λb u J q=>by rw[ai (ag (b5 b u J q) ne)];exact b5 b u J q
       have aX:p≠e:=ag ac ne;have ap:(upd H5 e (.lst [])) p=some o5:=by rw[ai aX];exact ac
       generalize hH6:upd H5 e (.lst [])=H6 at b6 ap;have ad:=B b6;refine⟨_,_,am ad,.lst (by rw[←hH6];exact af) .nil,jt Y,rfl,aJ,?_⟩;rw[aaY];cases hks:ks with
       |nil=>
        refine⟨false,rfl,?_⟩;refine iR ?_;exact⟨_,_,z,c4,rfl,hz,⟨o5,ap,O⟩,by lia,by lia,b6⟩
       |cons k0 kr=>
        refine⟨true,rfl,?_⟩;refine mZ ?_;obtain⟨y,hy,ha⟩:=zx (show ks≠[] by rw[hks];exact List.cons_ne_nil _ _);have yo:=aaI (Y y hy);have yk:=Y y hy;have yl:y.cps.toList.length=y.length:=aiw
        first|refine tvE rfl ?_|refine⟨_,rfl,?_⟩
        first|refine tvE rfl ?_|refine⟨_,rfl,?_⟩
        refine⟨1,rfl,l,_,_,_,rfl,rfl,aAA ad,ha,y,rfl,pf yk,?_⟩;refine⟨p,(y.length:Nat),c4,o5,rfl,ap,O,by have:=yk.1;lia,by have:=yk.2.1;lia,by lia,by lia,λa c5 o6 a0 a1 g7 g8 bg=>?_⟩;obtain⟨an,rfl⟩:∃an:Nat,a=(an:Int):=⟨a.toNat,by lia⟩;have b7:But p H2 (upd H6 p o6):=b6.trans But.upd;have bF:=B b7
        first|refine tvE rfl ?_|refine⟨_,rfl,?_⟩
        refine⟨1,rfl,l,_,_,_,rfl,rfl,aAA bF,ha,_,rfl,an,rfl,y,rfl,pf yk,?_⟩
        first|refine tvE rfl ?_|refine⟨_,rfl,?_⟩
        first|refine tvE rfl ?_|refine⟨_,rfl,?_⟩
        refine⟨p,26,c5,o6,rfl,af,bg,by decide,by decide,by lia,by lia,λq c6 o7 q0 q1 g9 cv bh=>?_⟩;obtain⟨L,rfl⟩:∃L:Nat,q=(L:Int):=⟨q.toNat,by lia⟩;refine⟨lettersS,_,97+L,rfl,rfl,fX,hJ L (by lia),?_⟩;have b8:But p H2 (upd (upd H6 p o6) p o7):=b7.trans But.upd;have bG:=B b8;have s1:=xJ y an;have s2:=y3 y (an+1);generalize Txt.slice y none (some (an:Int))=u1 at s1⊢;have l1:u1.length=min an y.length:=by
         have:u1.cps.toList.length=u1.length:=aiw;rw[←this,s1,aif,yl]
        have y4:=yk.2.1;have le:(((⟨#[97+L]⟩:Str)).cps.toList).length=1:=rfl;refine⟨u1,⟨#[97+L]⟩,rfl,rfl,aiF (aU (by show u1.length+1<=1000;lia)),?_⟩
        first|refine tvE rfl ?_|refine⟨_,rfl,?_⟩
        refine⟨1,rfl,l,_,_,_,rfl,rfl,aAA bG,ha,_,rfl,_,1,rfl,rfl,_,rfl,y,rfl,pf yk,?_⟩;rw[show ((an:Int)+1)=((an+1:Nat):Int) from by lia];generalize Txt.slice y (some ((an+1:Nat):Int)) none=u2 at s2⊢;have l2:u2.length=y.length-(an+1):=by
         have:u2.cps.toList.length=u2.length:=aiw;rw[←this,s2,ajS,yl]
        have l3:(u1++(⟨#[97+L]⟩:Str)).length=u1.length+1:=by
         have e1:(u1++(⟨#[97+L]⟩:Str)).cps.toList.length=(u1++(⟨#[97+L]⟩:Str)).length:=aiw;have e2:u1.cps.toList.length=u1.length:=aiw;rw[←e1,gd,ahZ,e2]
         rfl
        refine⟨_,u2,rfl,rfl,aiF (aU (by rw[l3];lia)),?_⟩;refine⟨_,_,_,c6,rfl,wG ?_,⟨o7,af,bh⟩,by lia,by lia,b8⟩;rw[gd,gd,s1,s2];refine⟨?_,?_,λc hc=>?_⟩
        .rw[ahZ,ahZ,le];lia
        .rw[ahZ,ahZ,le,aif,ajS,yl];lia
        .rcases aic.mp hc with hc|hc
         .rcases aic.mp hc with hc|hc
          .exact yo.2.2 c (ai9 hc)
          .have:c=97+L:=by simpa using hc
           lia
         .exact yo.2.2 c (aju hc)
      .refine iR ?_;exact⟨_,_,z,c4,rfl,hz,⟨o5,ac,O⟩,by lia,by lia,b5⟩
    .first|refine tvE rfl ?_|refine⟨_,rfl,?_⟩
     refine⟨rfl,_,rfl,?_⟩;refine abX (λ_=>?_) (λ_=>?_)
     .first|refine tvE rfl ?_|refine⟨_,rfl,?_⟩
      refine⟨ail _,λe ne=>?_⟩;have b5:But p H2 (upd H4 e (.lst [])):=λb u J q=>by rw[ai (ag (b4 b u J q) ne)];exact b4 b u J q
      have aX:p≠e:=ag ab ne;have ac:(upd H4 e (.lst [])) p=some o4:=by rw[ai aX];exact ab
      generalize hH5:upd H4 e (.lst [])=H5 at b5 ac;have aS:=B b5;refine⟨_,_,am aS,.lst (by rw[←hH5];exact af) .nil,jt Y,rfl,aJ,?_⟩;rw[aaY];cases hks:ks with
      |nil=>
       refine⟨false,rfl,?_⟩;refine iR ?_;exact⟨_,_,z,c3,rfl,hz,⟨o4,ac,aa⟩,by lia,by lia,b5⟩
      |cons k0 kr=>
       refine⟨true,rfl,?_⟩;refine mZ ?_;obtain⟨y,hy,ha⟩:=zx (show ks≠[] by rw[hks];exact List.cons_ne_nil _ _);have yo:=aaI (Y y hy)
       first|refine tvE rfl ?_|refine⟨_,rfl,?_⟩
       refine⟨1,rfl,l,_,_,_,rfl,rfl,aAA aS,ha,?_⟩
       first|refine tvE rfl ?_|refine⟨_,rfl,?_⟩
       first|refine tvE rfl ?_|refine⟨_,rfl,?_⟩
       refine⟨p,26,c3,o4,rfl,ac,aa,by decide,by decide,by lia,by lia,λq c4 o5 q0 q1 g5 g6 O=>?_⟩;obtain⟨L,rfl⟩:∃L:Nat,q=(L:Int):=⟨q.toNat,by lia⟩;refine⟨lettersS,_,97+L,rfl,rfl,fX,hJ L (by lia),?_⟩;have sz:(y++(⟨#[97+L]⟩:Str)).length<=5:=by
        have e1:(y++(⟨#[97+L]⟩:Str)).cps.toList.length=(y++(⟨#[97+L]⟩:Str)).length:=aiw;have e2:=aiO List.length (gd y ⟨#[97+L]⟩);rw[ahZ]at e2;have e3:((⟨#[97+L]⟩:Str).cps.toList).length=1:=rfl;have:=yo.2.1
        lia
       refine⟨y,⟨#[97+L]⟩,rfl,rfl,?_,?_⟩
       .have:=(Y y hy).2.1;exact aiF (aU (by show y.length+1<=1000;lia))
       refine⟨4,rfl,_,rfl,aiF (aU (by lia)),?_⟩;refine⟨_,_,_,c4,rfl,wG ?_,⟨o5,af,O⟩,by lia,by lia,b5.trans But.upd⟩;have e4:=xJ (y++(⟨#[97+L]⟩:Str)) 4;rw[gd]at e4;rw[show ((4:Nat):Int)=4 from rfl]at e4;rw[e4];refine⟨?_,?_,λc hc=>?_⟩
       .rw[aif,ahZ];have:=yo.1
        lia
       .rw[aif];lia
       .rcases aic.mp (ai9 hc) with hc|hc
        .exact yo.2.2 c hc
        .have:c=97+L:=by simpa using hc
         lia
     .refine iR ?_;exact⟨_,_,z,c3,rfl,hz,⟨o4,ab,aa⟩,by lia,by lia,b4⟩
   .refine⟨rfl,?_⟩;dsimp only [ax,cS];refine aH _ _ _ _ _ _ _ _ _ ?_
    first|refine tvE rfl ?_|refine⟨_,rfl,?_⟩
    refine⟨p,4,c1,o2,rfl,aQ,a9,by decide,by decide,by lia,by lia,λr c2 o3 r0 r1 h1 h2 al=>?_⟩;refine⟨1,r,rfl,rfl,1+r,rfl,by lia,by lia,?_⟩;intro D hD;have aY:p≠D:=ag (show (upd H2 p o3) p=some o3 from af) hD;have cx:l≠D:=ag (show (upd H2 p o3) l=some _ from (But.upd:But p H2 (upd H2 p o3)) l _ (ai2 aA) aC) hD;obtain⟨m,hm⟩:∃m:Nat,(1+r).toNat=m/\m<=4/\1<=m:=⟨_,rfl,by lia,by lia⟩;rw[hm.1];refine lQ (λj ys H3=>∃(ss:List Str) (c3:Int),ys=ss.map V.str/\ss.length=j/\(∀x∈ss,∃c,x=⟨#[c]⟩/\97<=c/\c<=122)/\H3 D=some (.lst ys)/\PoolAt H3 p c3/\c2<=c3/\c3<=c2+j/\But p H2 H3) ?_ (λj ys H3 ⟨_,_,_,_,_,z,_⟩=>z) ?_ ?_
    .exact⟨[],c2,rfl,rfl,(λx h=>nomatch h),af,⟨o3,by rw[ai aY];exact af,al⟩,amT _,by lia,λb u J e=>by rw[ai (ag ((But.upd:But p H2 (upd H2 p o3)) b u J e) hD)];exact (But.upd:But p H2 (upd H2 p o3)) b u J e⟩
    .rintro j ys H3 hj ⟨ss,c3,rfl,bi,aI,a2,⟨o4,ab,aa⟩,g1,g2,a3⟩;refine dy rfl ?_
     first|refine tvE rfl ?_|refine⟨_,rfl,?_⟩
     first|refine tvE rfl ?_|refine⟨_,rfl,?_⟩
     refine⟨p,26,c3,o4,rfl,ab,aa,by decide,by decide,by lia,by lia,λq c4 o5 q0 q1 g3 g4 O=>?_⟩;obtain⟨L,rfl⟩:∃L:Nat,q=(L:Int):=⟨q.toNat,by lia⟩;refine⟨lettersS,_,97+L,rfl,rfl,fX,hJ L (by lia),?_⟩;refine⟨by rw[ai (ai2 aY)];exact a2,by rw[ahY];exact aU (by lia),nx hj ?_⟩;refine⟨ss++[⟨#[97+L]⟩],c4,by simp,by simp[bi],λx hx=>?_,af,⟨o5,by rw[ai aY,af],O⟩,by lia,by lia,λb u J e=>?_⟩
     .rcases aic.mp hx with hx|hx
      .exact aI x hx
      .exact⟨97+L,ah5.mp hx,by lia,by lia⟩
     .have e3:=a3 b u J e;have bL:b≠D:=ag ((But.upd:But p H2 (upd H2 p o3)) b u J e) hD;rw[ai bL,ai J];exact e3
    .rintro ys H3 ⟨ss,c3,rfl,bi,aI,a2,ab,g1,g2,a3⟩;obtain⟨q1,q2⟩:=qt aI;refine⟨Str.ofString "",D,ss,rfl,rfl,aAA a2,?_,?_⟩
     .rw[xI aI];have:(Str.ofString "").length=0:=by decide
      rw[this]
      lia
     .exact⟨_,_,_,_,c3,rfl,wG ⟨by rw[lX,q1];lia,by rw[lX,q1];lia,by rw[lX];exact q2⟩,ab,by lia,by lia,a3⟩
  .rintro σ H2 ⟨x4,x5,x6,x7,x8,ks,c',rfl,aO,Y,aP,aC,aQ,h1,h2,hb⟩
   first|refine tvE rfl ?_|refine⟨_,rfl,?_⟩
   exact k l ks c' H2 hl aO Y aP aC aQ h1 (by lia) hb
def At(p:Addr)(H:Hp)(b:Addr)(o:HO):Prop:=H b=some o/\b≠p
theorem At.on{p b H H' o}(x:At p H b o)(h:But p H H'):At p H' b o:=⟨h b o x.2 x.1,x.2⟩
structure RoomsW(p:Addr)(H:Hp)(rA:Addr)(vs:List V)(rs:List Rm)(ws:List Addr):Prop where
 ls:At p H rA (.lst vs)
 l1:vs.length=rs.length
 l2:ws.length=rs.length
 nd:ws.Nodup
 off:rA∉ws
 item:∀(i:Nat) (r:Rm) (w:Addr),rs[i]?=some r->ws[i]?=some w->∃t d:Addr,vs[i]?=some (.ref t)/\At p H t (.tup [.ref d,.ref w])/\At p H d (.lst (r.1.map V.str))/\At p H w (.lst (r.2.map V.str))/\d∉ws/\d≠rA
theorem RoomsW.on{p z H H' vs B J}(x:RoomsW p H z vs B J)(h:But p H H'):RoomsW p H' z vs B J:=
 ⟨x.ls.on h,x.l1,x.l2,x.nd,x.off,λi r w L O=>let ⟨t,d,a,b,c,S,e⟩:=x.item i r w L O;⟨t,d,a,b.on h,c.on h,S.on h,e⟩⟩
theorem RoomsW.more{p B t d w:Addr}{S H:Hp}{vs:List V}{J:List Rm}{ws:List Addr}{r:Rm}(L:RoomsW p S B vs J ws)(Y:But p S H)(ht:At p H t (.tup [.ref d,.ref w]))(hd:At p H d (.lst (r.1.map V.str)))(hw:At p H w (.lst (r.2.map V.str)))
 (d0:S d=none)(w0:S w=none)(n3:d≠w):
 RoomsW p (upd H B (.lst (vs++[.ref t]))) B (vs++[.ref t]) (J++[r]) (ws++[w]):=by
 have x:=L.on Y;have tn:=rL ht.1 x.ls.1 (λz=>nomatch z);have O:∀{b o},b≠B->At p H b o->At p (upd H B (.lst (vs++[.ref t]))) b o:=λn h=>⟨by rw[ai n];exact h.1,h.2⟩;have n4:d≠B:=λz=>by have:=L.ls.1;grind
 have n5:w≠B:=λz=>by have:=L.ls.1;grind
 have ar:∀a∈ws,∃o,S a=some o:=λa ha=>by
  obtain⟨i,hi,e⟩:=ajV.mp ha;have ac:i<J.length:=by rw[←L.l2];exact hi
  obtain⟨_,_,_,_,_,h,_⟩:=L.item i J[i] a (ahU ac) (by simp_all);exact⟨_,h.1⟩
 have n1:w∉ws:=λz=>by grind
 refine⟨⟨af,x.ls.2⟩,by simp[x.l1],by simp[x.l2],f7 x.nd n1 (.refl _),λz=>?_,λi r' w' Z e2=>?_⟩
 .rcases aic.mp z with z|z
  .exact x.off z
  .exact n5 (ah5.mp z).symm
 .by_cases hi:i<J.length
  .rw[aik hi]at Z;rw[aik (by rw[x.l2];exact hi)]at e2;obtain⟨t',d',a1,a2,a3,a4,a5,a6⟩:=L.item i r' w' Z e2;have ad:w'≠B:=λz=>x.off (z▸ah7 e2);refine⟨t',d',by rw[aik (by rw[x.l1];exact hi)];exact a1,O (rL (a2.on Y).1 x.ls.1 (λz=>nomatch z)) (a2.on Y),O a6 (a3.on Y),O ad (a4.on Y),λz=>?_,a6⟩;rcases aic.mp z with z|z
   .exact a5 z
   .exact ag a3.1 w0 (ah5.mp z)
  .have hl:=(ahW.mp Z).1;rw[ahZ,ai6]at hl;have ei:i=J.length:=by lia
   subst ei;rw[aio (ah4 _),akd]at Z;rw[aio (by rw[x.l2];exact ah4 _),x.l2,akd]at e2;cases Z;cases e2;refine⟨t,d,by rw[aio (by rw[x.l1];exact ah4 _),x.l1,akd];rfl,O tn ht,O n4 hd,O n5 hw,λz=>?_,n4⟩;grind
theorem RoomsW.ext{p S w H vs Y Z r i ss}(x:RoomsW p H S vs Y Z)(e1:Y[i]?=some r)(B:Z[i]?=some w):
 RoomsW p (upd H w (.lst (r.2.map V.str++ss.map V.str))) S vs (Y.set i (r.1,r.2++ss)) Z:=by
 obtain⟨t,d,a1,a2,a3,a4,a5,a6⟩:=x.item i r w e1 B;have ab:S≠w:=λz=>x.off (by rw[z];exact ah7 B);have J:∀{b o},b≠w->At p H b o->At p (upd H w (.lst (r.2.map V.str++ss.map V.str))) b o:=λn h=>⟨by rw[ai n];exact h.1,h.2⟩;refine⟨J ab x.ls,by simp[x.l1],by simp[x.l2],x.nd,x.off,λj r' w' L O=>?_⟩;have hi:=(ahW.mp e1).1;by_cases hj:j=i
 .subst hj;rw[B]at O;cases O;rw[aj7 hi]at L;cases L;refine⟨t,d,a1,J (rL a2.1 a4.1 (λz=>nomatch z)) a2,J (λz=>a5 (z▸ah7 B)) a3,⟨by rw[af,aia],a4.2⟩,a5,a6⟩
 .rw[aki (ai2 hj)]at L;obtain⟨t',d',b1,b2,b3,b4,b5,b6⟩:=x.item j r' w' L O;have nw:w'≠w:=λz=>by
   subst z;have h1:=(ahW.mp B);have h2:=(ahW.mp O);rcases Nat.lt_or_gt_of_ne hj with l|l
   .exact (aiL.mp x.nd j i _ _ l) (h2.2.trans h1.2.symm)
   .exact (aiL.mp x.nd i j _ _ l) (h1.2.trans h2.2.symm)
  exact⟨t',d',b1,J (rL b2.1 a4.1 (λz=>nomatch z)) b2,J (λz=>b5 (z▸ah7 B)) b3,J nw b4,b5,b6⟩
theorem RoomsW.rooms{p S H vs B J}(x:RoomsW p H S vs B J):RoomsAt H vs B:=⟨x.l1,λi v r Y L=>by
 have hi:=(ahW.mp L).1;have z:i<J.length:=by rw[x.l2];exact hi
 obtain⟨t,d,O,Z,a3,a4,_⟩:=x.item i r _ L (ahU z);rw[Y]at O;cases O;exact⟨t,d,_,rfl,Z.1,a3.1,a4.1⟩⟩
theorem agw{xs:List _}{r:Int}(B:0<=r)(h1:r<xs.length):∃m∈xs,atI (xs.map V.int) r=some (.int m):=by
 obtain⟨j,rfl⟩:∃j:Nat,r=j:=⟨r.toNat,by lia⟩;have z:j<xs.length:=by lia
 exact⟨xs[j],aiq z,ir (by simp_all)⟩
def jF(r:Rm):PyData:=.tuple [.list (r.1.map PyData.str),.list (r.2.map PyData.str)]
theorem qM{H}:∀{vs} {z},RoomsAt H vs z->SeesAll H vs (z.map jF)
 |[],[],_=>.nil
 |[],_::_,h=>absurd h.1 (by simp)
 |_::_,[],h=>absurd h.1 (by simp)
 |v::vs,r::z,h=>by
  obtain⟨t,a,b,rfl,h1,h2,B⟩:=h.2 0 v r rfl rfl;refine .cons (.tup h1 (.cons (.lst h2 (SeesAll.strs _)) (.cons (.lst B (SeesAll.strs _)) .nil))) (qM ⟨by simpa using h.1,λi J L O S=>h.2 (i+1) J L (by simpa using O) (by simpa using S)⟩)
theorem uN:∀{z:List Rm},(∀r∈z,(∀k∈r.1,aW k)/\∀k∈r.2,aW k)->PyData.canLayAll0 (z.map jF)=true
 |[],_=>rfl
 |r::z,h=>by
  obtain⟨h1,h2⟩:=h r aid;have B:=jt h1;have J:=jt h2;have L:=uN λq O=>h q (aih _ O);rw[air];simp only[PyData.canLayAll0,PyData.canLay0,jF,B,J,L,Bool.and_self]
structure RoomsF(H:Hp)(vs:List V)(n:Nat)(T L:Nat->Addr)(C:Nat->List V):Prop where
 len:vs.length=n
 tu:∀i,i<n->vs[i]?=some (.ref (T i))/\H (T i)=some (.tup [.ref (L (2*i)),.ref (L (2*i+1))])
 ls:∀m,m<2*n->H (L m)=some (.lst (C m))
 inj:∀m k,m<2*n->k<2*n->L m=L k->m=k
theorem RoomsF.nil H T L C:RoomsF H [] 0 T L C:=⟨rfl,λi h=>absurd h (alc _),λm h=>absurd h (by lia),λm k h=>absurd h (by lia)⟩
theorem RoomsF.same{H H' vs n T L C}(x:RoomsF H vs n T L C)(s:Same H H'):RoomsF H' vs n T L C:=
 ⟨x.len,λi h=>⟨(x.tu i h).1,s _ _ (x.tu i h).2⟩,λm h=>s _ _ (x.ls m h),x.inj⟩
theorem RoomsF.off{H vs n T L C D q o}(x:RoomsF H vs n T L C)(B:H D=some (.lst q))(nD:∀m,m<2*n->L m≠D):RoomsF (upd H D o) vs n T L C:=
 ⟨x.len,λi h=>⟨(x.tu i h).1,by rw[ai (rL (x.tu i h).2 B (λz=>nomatch z))];exact (x.tu i h).2⟩,λm h=>by rw[ai (nD m h)];exact x.ls m h,x.inj⟩
theorem RoomsF.more{H H':Hp}{vs:List V}{n:Nat}{T L:Nat->Addr}{C:Nat->List V}{t d w:Addr}(x:RoomsF H vs n T L C)(s:Same H H')(ht:H' t=some (.tup [.ref d,.ref w]))(hd:H' d=some (.lst (C (2*n))))(hw:H' w=some (.lst (C (2*n+1))))
 (nd:H d=none)(nw:H w=none)(Y:d≠w):RoomsF H' (vs++[.ref t]) (n+1) (λi=>if i=n then t else T i) (λm=>if m=2*n then d else if m=2*n+1 then w else L m) C:=by
 have fd:∀m,m<2*n->L m≠d:=λm h z=>by have:=x.ls m h;rw[z,nd]at this;cases this
 have Z:∀m,m<2*n->L m≠w:=λm h z=>by have:=x.ls m h;rw[z,nw]at this;cases this
 refine⟨by simp[x.len],λi h=>?_,λm h=>?_,λm k hm hk e=>?_⟩
 .by_cases e:i=n
  .subst e;rw[if_pos rfl,if_pos rfl,if_neg (by lia),if_pos rfl];exact⟨by rw[aio (by rw[x.len];exact ah4 _),x.len,akd];rfl,ht⟩
  .have hi:i<n:=by lia
   rw[if_neg e,if_neg (by lia),if_neg (by lia),if_neg (by lia),if_neg (by lia)];exact⟨by rw[aik (by rw[x.len];exact hi)];exact (x.tu i hi).1,s _ _ (x.tu i hi).2⟩
 .by_cases O:m=2*n
  .subst O;rw[if_pos rfl];exact hd
  .rw[if_neg O];by_cases S:m=2*n+1
   .subst S;rw[if_pos rfl];exact hw
   .rw[if_neg S];exact s _ _ (x.ls m (by lia))
 .by_cases O:m=2*n
  .subst O;rw[if_pos rfl]at e;by_cases B:k=2*n
   .exact B.symm
   .rw[if_neg B]at e;by_cases J:k=2*n+1
    .rw[if_pos J]at e;exact absurd e Y
    .rw[if_neg J]at e;exact absurd e.symm (fd k (by lia))
  .rw[if_neg O]at e;by_cases S:m=2*n+1
   .rw[if_pos S]at e;by_cases B:k=2*n
    .rw[if_pos B]at e;exact absurd e.symm Y
    .rw[if_neg B]at e;by_cases J:k=2*n+1
     .lia
     .rw[if_neg J]at e;exact absurd e.symm (Z k (by lia))
   .rw[if_neg S]at e;by_cases B:k=2*n
    .rw[if_pos B]at e;exact absurd e (fd m (by lia))
    .rw[if_neg B]at e;by_cases J:k=2*n+1
     .rw[if_pos J]at e;exact absurd e (Z m (by lia))
     .rw[if_neg J]at e;exact x.inj m k (by lia) (by lia) e
def j7(h:Hs)(m:Nat):List Str:=if m%2=0 then ((h.2[m / 2]?).getD ([],[])).1 else ((h.2[m / 2]?).getD ([],[])).2
theorem qI{h i r}(e:h.2[i]?=some r):j7 h (2*i)=r.1:=by
 unfold j7;simp_all
theorem uk{h i r}(e:h.2[i]?=some r):j7 h (2*i+1)=r.2:=by
 unfold j7;rw[if_neg (by lia),show (2*i+1) / 2=i by lia,e]
 rfl
def HouseF(H0 H:Hp)(v:V)(h:Hs):Prop:=∃(t a r:Addr) (vs:List V) (T L:Nat->Addr),v=.ref t/\H t=some (.tup [.ref a,.ref r])/\H a=some (.lst (h.1.map V.str))/\H r=some (.lst vs)/\RoomsF H vs h.2.length T L (λm=>(j7 h m).map V.str)∧
 a≠r/\(∀m,m<2*h.2.length->a≠L m/\r≠L m)/\H0 a=none/\H0 r=none/\∀m,m<2*h.2.length->H0 (L m)=none
theorem RoomsF.at{H vs h T L}(x:RoomsF H vs h.2.length T L (λm=>(j7 h m).map V.str)):RoomsAt H vs h.2:=⟨x.len,λi v r S z=>by
 have hi:=(ahW.mp z).1;obtain⟨B,Y⟩:=x.tu i hi;rw[S]at B;cases B;have J:=x.ls (2*i) (by lia);have O:=x.ls (2*i+1) (by lia);rw[qI z]at J;rw[uk z]at O;exact⟨_,_,_,rfl,Y,J,O⟩⟩
theorem HouseF.at{z H v h}(x:HouseF z H v h):HouseAt H v h:=by
 obtain⟨t,a,r,B,T,L,e,h1,h2,J,O,rest⟩:=x;exact⟨t,a,r,B,e,h1,h2,J,O.at⟩
def keep(ls ks:List Str):List Str:=ks.filter λk=>decide (k∈ls)
def gz(h:Hs):Hs:=(keep (aw h) h.1,h.2.map λr=>(r.1,keep (aw h) r.2))
theorem js z ks:(keep z ks).length<=ks.length:=aje _ _
theorem kP z ks k:keep z (ks++[k])=keep z ks++if k∈z then [k] else []:=by
 unfold keep;grind
theorem jj h:(gz h).2.length=h.2.length:=by simp[gz]
theorem abV{h}{i:Nat}{r}(e:h.2[i]?=some r):(gz h).2[i]?=some (r.1,keep (aw h) r.2):=by simp[gz,e]
theorem z7{h}(ok:aE h):aE (gz h):=by
 refine⟨λk z=>ok.kk k ((aiU.mp z).1),aij (js _ _) ok.kl,λr hr=>?_,by rw[jj];exact ok.rl⟩;obtain⟨q,B,rfl⟩:=ah8.mp hr;have o:=ok.rs q B;exact⟨o.lk,o.l1,o.l4,o.so,λk z=>o.kk k ((aiU.mp z).1),aij (js _ _) o.kl⟩
def abW(C:Addr):Sp:=λvs H Q _=>∃(d a:Addr) (o:List Nat) (h:Hs) (ks hand:List Str),vs=[.ref d,.int ((bG o:Nat):Int),.ref a]/\DoorsAt C H d h ks/\agY h ks/\H a=some (.lst ((gD ks hand).map V.int))/\h.2.length<=1000 ∧
 ∀b H',Same H H'->H b=none->H' b=some (.lst ((nextOf h.2 hand o).map λi=>V.int ((i:Nat):Int)))->Q (.ref b) H'
def nbB(h:Hs)(hand:List Str)(o:List Nat)(i:Nat):Bool:=!decide (i∈o)&&pd hand ((h.2[i]?).getD ([],[])).1
inductive NbI(D:Addr)(h:Hs)(hand:List Str)(o:List Nat)(H:Hp)(i:Nat)(ys:List V)(H':Hp):Prop
 |mk:ys=((List.range i).filter (nbB h hand o)).map (λi=>V.int ((i:Nat):Int))->H' D=some (.lst ys)->Same H H'->NbI D h hand o H i ys H'
inductive NwI(D:Addr)(ks hand:List Str)(r:Rm)(H:Hp)(i:Nat)(ys:List V)(H':Hp):Prop
 |mk:ys=((eP ks r).take i).map (λc=>V.bl (decide (c.2<=((hand.count (kAt ks c.1):Nat):Int))))->H' D=some (.lst ys)->Same H H'->NwI D ks hand r H i ys H'
theorem jI:aA ["self","opened","hand"] ["self","opened","hand"] (ak aY):=scM rfl rfl rfl rfl (by decide +kernel)
theorem dC:(["number","wants","opened","hand"]:List Str).Nodup:=by decide +kernel
theorem dG:(["place","many","hand"]:List Str).Nodup:=by decide +kernel
theorem ac5{f fH:Addr}{fd aa:FuncData}{C:Addr}(F:Fun K "next_behind" "Doors.next_behind" aY f fd)(DC:tX K C)(lO:bx P w K mg base CX0 1 fH aa ["opened","number"] aed)(fz:Cal K mg "has_room" ["opened","number"] fH aa)(bU:mg "enumerate" = none)(uc:mg "all" = none):bx P w K mg base CX0 2 f fd ["self","opened","hand"] (abW C):=by
 refine F.ok jI (λvs H Q E h=>?_) (λaS A outer s H vs Q E hr h=>?_)
 .obtain⟨d,a,o,h,ks,hand,rfl,_⟩:=h
  rfl
 .have hu:=gm hr;obtain⟨d,a,o,h,ks,hand,rfl,D,ok,ha,hl,q⟩:=h;refine⟨_,(av (aM (gH (outer:=ak (aY)) (N:=["self","opened","hand"]) (N':=["number","wants","opened","hand"]) (nl:=2) (ix:=[1,2]) rfl rfl rfl (wk rfl bU (ae (aaS (pv 0) rfl) aj))
   (λ_ _ _ _=>(bZ (K:=K) (n:=2) rfl rfl (au (aq (i:=0) dC rfl (.inl rfl) (.inr rfl)) (au (aq (i:=1) dC rfl (.inl rfl) (.inr rfl)) aO)))) (λ_ _ _ _=>(iF (PW.pt (xY (k9 (mV (pcl lO fz hr rfl (ae (pv 2) (ae (pv 0) aj))))) (su (mV (ay (aaW (K:=K) rfl rfl) rfl uc (by decide +kernel) (ae (gH (outer:=wK (cG (lG ((bq aY).getD 0 (.Pass ⟨0,0,0,0⟩)))) (ak (aY))) (N:=["number","wants","opened","hand"]) (N':=["place","many","hand"]) (nl:=2) (ix:=[3]) (lS rfl) rfl rfl (ky (K:=K) rfl (pv 1))
   (λ_ _ _ _=>(bZ (K:=K) (n:=2) rfl rfl (au (aq (i:=0) dG rfl (.inl rfl) (.inr rfl)) (au (aq (i:=1) dG rfl (.inl rfl) (.inr rfl)) aO)))) (λ_ _ _ _=>bt)
   (λ_ _ _ _=>(gE aft (bY (jH (K:=K) rfl) (pv 2) (pv 0) (λ_ _=>rfl)) (pv 1) (aZ _)))) aj))))))))
   (λ_ _ _ _=>(pv 0))))),?_⟩
  obtain⟨dx,l,w',c,fs,h1,h2,h3,h4,h5,h6,h7,⟨vs,h8,ap,ar⟩,h9⟩:=D;have aW:1000000<sizeLine:=by decide
  refine aH _ _ _ _ _ _ _ _ _ ?_;refine⟨_,rfl,d,C,dx,fs,_,rfl,h1,DC.cls,DC.n2,h3,w',rfl,⟨_,aAA h8⟩,λD nD=>?_⟩;have vl:vs.length=h.2.length:=by rw[ap,ahY]
  refine ve (xs:=vs) (NbI D h hand o H) (.mk rfl af (aK nD)) (λi ys H' ⟨_,e,_⟩=>e) (λi ys H' ⟨_,_,s⟩=>aAA (s _ _ h8)) ?_ ?_
  .rintro i ys H1 x T hx ⟨rfl,Y,Z⟩ nT;have hi:i<vs.length:=(ahW.mp hx).1;have O:i<h.2.length:=by lia
   obtain⟨wa,us,rfl,ad,ul,aw⟩:=ar i x (eP ks h.2[i]) hx (by rw[ah1,ahU O];rfl);have s2:Same H1 (upd H1 T (.tup [.int (i:Int),.ref wa])):=aK nT;have e2:(upd H1 T (.tup [.int (i:Int),.ref wa])) T=some (.tup [.int (i:Int),.ref wa]):=af;generalize upd H1 T (.tup [.int (i:Int),.ref wa])=H2 at *;have lf:((List.range i).filter (nbB h hand o)).length<=i:=aij (aje _ _) (by rw[akl];exact ah4 _);have rb:nbB h hand o i=(!decide (i∈o)&&pd hand (h.2[i]).1):=by unfold nbB;rw[ahU O];rfl
   refine⟨T,_,rfl,aAB e2,rfl,?_⟩;refine⟨_,_,rfl,_,_,rfl,rfl,⟨rfl,rfl⟩,?_⟩;refine⟨_,rfl,_,rfl,o,i,rfl,λH3 s3=>⟨_,rfl,?_⟩⟩;have z:Same H1 H3:=s2.trans s3;by_cases ho:i∈o
   .rw[aiv ho]at rb⊢;refine iR ?_;refine iR ?_;refine nx hi (.mk ?_ (z _ _ Y) (Z.trans z));rw[ajP,ai5,aia];simp[rb]
   .rw[aiC ho]at rb⊢;refine mZ ?_;unfold tB tCB ax cS;refine aH _ _ _ _ _ _ _ _ _ ?_;have S:=Z.trans z;refine⟨_,rfl,wa,rfl,⟨_,aAA (S _ _ ad)⟩,λD2 ah=>?_⟩;refine bB (xs:=us) (NwI D2 ks hand (h.2[i]) H3) (.mk rfl af (aK ah)) (λj ys H' ⟨_,e,_⟩=>e) (λj ys H' ⟨_,_,s⟩=>aAA (s _ _ (S _ _ ad))) ?_ ?_
    .rintro j ys H4 y hy ⟨rfl,J,s4⟩;have hj:j<(eP ks h.2[i]).length:=by rw[←ul];exact (ahW.mp hy).1
     obtain⟨t,rfl,ht⟩:=aw j y _ hy (ahU hj);generalize ec:(eP ks h.2[i])[j]=cc at *;have hp:cc.1<ks.length/\(eP ks h.2[i]).length<=63:=by
      refine⟨?_,?_⟩
      .have:cc∈eP ks h.2[i]:=by rw[←ec];exact aiq hj
       obtain⟨p,hp,rfl⟩:=ah8.mp this;exact ajL.mp (aiU.mp hp).1
      .unfold eP;rw[ahY];refine aij (aje _ _) ?_;rw[akl];exact ok.few
     have al:=S.trans s4;refine⟨t,_,rfl,aAB (al _ _ ht),rfl,?_⟩;refine⟨_,_,rfl,_,_,rfl,rfl,⟨rfl,rfl⟩,?_⟩;unfold nh;dsimp only;refine mZ (B:=False) ?_;refine⟨_,rfl,_,rfl,a,_,_,_,rfl,rfl,aAA (al _ _ ha),ir (by rw[ah1,vW hp.1];rfl),_,rfl,_,_,rfl,rfl,J,?_,nx (by rw[ul];exact hj) (.mk ?_ af λb u e=>by rw[ai (ag e ah)];exact s4 _ _ e)⟩
     .rw[ahY,aif];lia
     .rw[ais,ahU hj,ec];simp
    .rintro ys H4 ⟨rfl,J,s4⟩;rw[ul,aiz]at J;refine⟨D2,(eP ks h.2[i]).map λc=>decide (c.2<=((hand.count (kAt ks c.1):Nat):Int)),rfl,aAA (by rw[J,aiG];rfl),_,rfl,?_⟩;have eb:((eP ks h.2[i]).map λc=>decide (c.2<=((hand.count (kAt ks c.1):Nat):Int))).all id=pd hand (h.2[i]).1:=by
      rw[ajg,←abR (λk hk=>(ok.mem k).mpr ⟨_,aiq O,hk⟩),amd,aiZ];simp
     rw[eb];have aA:nbB h hand o i=pd hand (h.2[i]).1:=by rw[rb];rfl
     rw[←aA];have L:=z.trans s4;cases eb2:nbB h hand o i with
     |true=>
      refine mZ ?_;refine⟨_,rfl,L _ _ Y,?_,nx hi (.mk ?_ af λb u e=>by rw[ai (ag e nD)];exact L _ _ (Z _ _ e))⟩
      .rw[ahY];lia
      .rw[ajP,ai5,aia];simp[eb2]
     |false=>
      refine iR ?_;refine nx hi (.mk ?_ (L _ _ Y) (Z.trans L));rw[ajP,ai5,aia];simp[eb2]
  .rintro ys H1 ⟨rfl,Y,Z⟩;rw[vl]at Y;exact q D H1 Z nD Y
abbrev nxV(h:Hs)(o:List Nat):List V:=(cn h o).map λi=>V.int ((i:Nat):Int)
abbrev hdV(h:Hs)(ks:List Str)(o:List Nat):List V:=(gD ks (dj h.1 h.2 o)).map V.int
def oy:Sp:=λvs H Q _=>∃(v:V) (h:Hs),vs=[v]/\HouseAt H v h/\aE h/\wM h/\h.2.length<=12/\∀S kvs os H',Same H H'->H S=none->H' S=some (.dK kvs)->DictL (nxV h) H' kvs os->cz h os->Q (.ref S) H'
inductive EnI(v:V)(d S:Addr)(h:Hs)(H0:Hp)(σ:L2.St)(H':Hp):Prop
 |mk (os:List (List Nat)) (kvs:List (Key×V)) (x3 x4 x5 x6 x7 x8 x9:Option V):σ=[some v,some (.ref d),some (.ref S),x3,x4,x5,x6,x7,x8,x9]->H' S=some (.dK kvs)->DictL (nxV h) H' kvs os->cz h os->Same H0 H'->EnI v d S h H0 σ H'
inductive WhI(v:V)(d S:Addr)(h:Hs)(ks:List Str)(H0 H1:Hp)(n:Nat)(σ:L2.St)(H':Hp):Prop
 |mk (os L:List (List Nat)) (kvsS kvsL:List (Key×V)) (Lv:Addr) (x4 x5 x6 x7 x8 x9:Option V):σ=[some v,some (.ref d),some (.ref S),some (.ref Lv),x4,x5,x6,x7,x8,x9]->H' S=some (.dK kvsS)->H' Lv=some (.dK kvsL)->S≠Lv->H0 Lv=none →
  Same H0 H'->Same (ndH H1) H'->DictL (nxV h) H' kvsS os->DictL (hdV h ks) H' kvsL L->LevL h n L->afe h n L->StepsM h n os->WhI v d S h ks H0 H1 n σ H'
inductive FoI(v:V)(d S Lv Fu:Addr)(h:Hs)(ks:List Str)(H0 H1:Hp)(kvsL:List (Key×V))(ob:Obj)(os L:List (List Nat))(n i:Nat)(σ:L2.St)(H':Hp):Prop
 |mk (kvsS:List (Key×V)) (M:List (List Nat)) (kvsM:List (Key×V)) (x5 x6 x7 x8 x9:Option V):σ=[some v,some (.ref d),some (.ref S),some (.ref Lv),some (.ref Fu),x5,x6,x7,x8,x9]->H' S=some (.dK kvsS)->H' Lv=some (.frz ob (.dK kvsL))->H' Fu=some (.dK kvsM) →
  Same H0 H'->Same (ndH H1) H'->DictL (nxV h) H' kvsS (os++L.take i)->DictL (hdV h ks) H' kvsL L->DictL (hdV h ks) H' kvsM M->LevL h (n+1) M->(∀o∈L.take i,∀k∈cn h o,bG (o++[k])∈M.map bG)->FoI v d S Lv Fu h ks H0 H1 kvsL ob os L n i σ H'
inductive InI(v:V)(d S Lv Fu:Addr)(h:Hs)(ks:List Str)(H0 H1:Hp)(kvsL kvsS:List (Key×V))(ob:Obj)(os L:List (List Nat))(n i:Nat)(o:List Nat)(lh ln:Addr)(j:Nat)(σ:L2.St)(H':Hp):Prop
 |mk (M:List (List Nat)) (kvsM:List (Key×V)) (x8 x9:Option V):σ=[some v,some (.ref d),some (.ref S),some (.ref Lv),some (.ref Fu),some (.int ((bG o:Nat):Int)),some (.ref lh),some (.ref ln),x8,x9]->H' S=some (.dK kvsS)->H' Lv=some (.frz ob (.dK kvsL))->H' Fu=some (.dK kvsM) →
  Same H0 H'->Same (ndH H1) H'->H' lh=some (.lst (hdV h ks o))->H' ln=some (.lst (nxV h o))->DictL (nxV h) H' kvsS (os++L.take (i+1))->DictL (hdV h ks) H' kvsL L->DictL (hdV h ks) H' kvsM M->LevL h (n+1) M->(∀o∈L.take i,∀k∈cn h o,bG (o++[k])∈M.map bG)->(∀k∈(cn h o).take j,bG (o++[k])∈M.map bG) →
  InI v d S Lv Fu h ks H0 H1 kvsL kvsS ob os L n i o lh ln j σ H'
theorem dv{H H' D o}(s:Same H H')(n:H D=none):Same H (upd H' D o):=λb u e=>by rw[ai (ag e n)];exact s _ _ e
theorem bL:aA ["house","doors","steps","level","further","opened","hand","numbers","number","behind"] ["house"] (ak kf):=scM rfl rfl rfl rfl (by decide +kernel)
theorem adf{f fI fN fH fW:Addr}{fd be bf bg bi:FuncData}{C:Addr}(F:Fun K "steps_of" "steps_of" kf f fd)(DC:tX K C)(C_Doors:Cls K C)(M_Doors:Mk K C fI)(an:mg "Doors" = some (.ref C))(vi:bx P w K mg base CX0 1 fI be ["self","house"] (adV C))(vg:Binds K be ["self","house"] [])
 (jR:af2 K C "next_behind" fN)(j5:bx P w K mg base CX0 2 fN bf ["self","opened","hand"] (abW C))(jT:Binds K bf ["self","opened","hand"] [])
 (l9:af2 K C "hand_with" fH)(mm:bx P w K mg base CX0 1 fH bg ["self","hand","number"] (zp C))(mi:Binds K bg ["self","hand","number"] [])
 (fU:bx P w K mg base CX0 1 fW bi ["opened","number"] xt)(cj:Cal K mg "with_room" ["opened","number"] fW bi):bx P w K mg base CX0 3 f fd ["house"] oy:=by
 refine F.ok bL (λvs H Q E h=>?_) (λda A outer s H vs Q E hr h=>?_)
 .obtain⟨v,h,rfl,_⟩:=h
  rfl
 .have hu:=gm hr;obtain⟨v,h,rfl,hh,ok,few,aN,q⟩:=h;refine⟨_,(ao (aB (i:=1) bL.nd rfl (.inl rfl) (ad9 M_Doors vi hr rfl an vg .nil eJ (ae (pv 0) aj)))
   (ao (aB (i:=2) bL.nd rfl (.inl rfl) nJ)
   (ao (aB (i:=3) bL.nd rfl (.inl rfl) (adk ar (aaS (pv 1) rfl)))
   (ao (cy (xm aiN (xS (pv 3) (by intro _;rfl))
    (ao (aB (i:=4) bL.nd rfl (.inl rfl) nJ)
    (ao (cy (d9 aiN rfl (nB (H₀:=H) rfl (pv 3)) (gb rfl (au (aq (i:=5) bL.nd rfl (.inl rfl)) (au (aq (i:=6) bL.nd rfl (.inl rfl)) aO)))
     (ao (aB (i:=7) bL.nd rfl (.inl rfl) (aam (pv 1) C_Doors jR j5 hr jT .nil eJ (ae (pv 5) (ae (pv 6) aj))))
     (ao (nU hu (pv 2) (pv 5) (pv 7) rfl)
     (av (cy (d9 aiN rfl (aV (pv 7)) (aq (i:=8) bL.nd rfl (.inl rfl))
      (ao (aB (i:=9) bL.nd rfl (.inl rfl) (pcl fU cj (hr.mono (by decide:1<=2)) rfl (ae (pv 5) (ae (pv 8) aj))))
      (av (cy (fm (tI (pP hu (pv 9) (pv 4)))
       (av (nU hu (pv 4) (pv 9) (aam (pv 1) C_Doors l9 mm (hr.mono (by decide:1<=2)) mi .nil eJ (ae (pv 6) (ae (pv 8) aj))) rfl)) bD)))))))))))
    (av (aB (i:=3) bL.nd rfl (.inl rfl) (pv 4)))))))
   (av (aM (pv 2))))))),?_⟩
  refine⟨_,rfl,λd dx nd b4 ne=>?_⟩;have sM:Same H (upd (upd H dx (.own d)) d (.ins C dx [])):=dv (aK b4) nd;have dM:(upd (upd H dx (.own d)) d _) d=some (.ins C dx []):=af;generalize upd (upd H dx (.own d)) d (.ins C dx [])=HM at *;refine⟨d,dx,v,h,rfl,hh.same sM,ok,few,dM,λks H1 KO b1 DA=>⟨rfl,?_⟩⟩;have s1:Same H H1:=λb u e=>b1 b u (ag e nd) (sM _ _ e);have bj:=DA.nd;obtain⟨aP,l,_,_,fs,h1,h2,_,_,h5,h6,h7,_,_⟩:=DA;intro S nS;intro Lv aQ;have aD:=(aK  nS).free aQ;have Z:S≠Lv:=λz=>by subst z;rw[af]at aQ;cases aQ
  have bk:=s1.free nS;have aR:=s1.free aD;have d2:(upd (upd H1 S (.dK [])) Lv (.dK [])) d=some _:=dv (aK nS) aD _ _ h1;refine⟨_,rfl,d,C,aP,fs,_,rfl,d2,DC.cls,DC.n1,h2,.inl 0,rfl,af,?_⟩;have s2:Same H1 (upd (upd (upd H1 S (.dK [])) Lv (.dK [])) Lv (.dK [(.inl 0,.ref l)])):=dv (dv (aK nS) aD) aD;have b7:(upd (upd (upd H1 S (.dK [])) Lv (.dK [])) Lv (.dK [(.inl 0,.ref l)])) S=some (.dK []):=by rw[ai Z,ai Z,af]
  have b8:(upd (upd (upd H1 S (.dK [])) Lv (.dK [])) Lv _) Lv=some (.dK [(.inl 0,.ref l)]):=af;generalize upd (upd (upd H1 S (.dK [])) Lv (.dK [])) Lv (.dK [(.inl 0,.ref l)])=H2 at *;have di:2^h.2.length<=4096:=aij (ajW (by decide) aN) (by decide);have dk:1000000<sizeLine:=by decide
  refine⟨EnI v d S h H,?_,?_⟩
  .rintro σ H3 ⟨os,kvs,x3,x4,x5,x6,x7,x8,x9,rfl,e3,d3,a3,s3⟩;exact⟨_,rfl,q S _ os H3 s3 bk e3 d3 a3⟩
  .refine⟨λm σ H'=>∃n,m=h.2.length+1-n/\n<=h.2.length+1/\WhI v d S h ks H H1 n σ H',⟨_,0,rfl,ail _,?_⟩,?_⟩
   .refine .mk [] [[]] [] [(.inl 0,.ref l)] Lv none none none none none none rfl b7 b8 Z aR (s1.trans s2) (mW.trans s2) .nil ⟨rfl,λi kv o a b=>?_⟩ ⟨λo ho=>?_,λo ho=>?_,by simp⟩ (aas h) (.zero h)
    .match i,a,b with
     |0,a,b=>
      cases a;cases b;exact⟨l,rfl,s2 _ _ h7⟩
    .rw[ah5]at ho;subst ho;exact cU _ _
    .simp_all
   .rintro m σ H3 ⟨n,rfl,hn,os,L,bo,B,Lv,x4,x5,x6,x7,x8,x9,rfl,eS,eL,Z,aR,s3,g3,dS,dL,aa,al,st⟩;refine⟨_,rfl,_,.inr (.inr ⟨B,eL,rfl⟩),?_⟩;cases hk:B with
    |nil=>
     subst hk;have:=alH dL.len.symm;subst this;exact iR ⟨os,bo,_,_,_,_,_,_,_,rfl,eS,dS,st.done al,s3⟩
    |cons p r=>
     refine mZ ?_;have ca:L≠[]:=λz=>by
      have:=dL.len;simp_all
     have dy:=abk aa ca;refine⟨λO H'=>WhI v d S h ks H H1 (n+1) O H',λO H' w=>⟨_,?_,n+1,rfl,by lia,w⟩,?_⟩
     .lia
     .intro Fu bq;have br:=s3.free bq;have as:S≠Fu:=λz=>by grind
      have aI:Lv≠Fu:=λz=>by grind
      have s4:Same H3 (upd H3 Fu (.dK [])):=aK bq;have cb:(upd H3 Fu _) Fu=some (.dK []):=af;generalize upd H3 Fu (.dK [])=H4 at *;have aS:=s4 _ _ eL;have cc:=s4 _ _ eS;refine⟨λO H'=>∃ob,FoI v d S Lv Fu h ks H H1 B ob os L n B.length O H',?_,?_⟩
      .rintro O H5 ⟨ob,kS,M,kM,y5,y6,y7,y8,y9,rfl,fS,fL,fF,s5,g5,ap,aF,aT,aw,ak⟩;rw[dL.len,aiz]at ap ak;exact⟨_,rfl,.mk _ M kS kM Fu _ _ _ _ _ _ rfl fS fF as br s5 g5 ap aT aw (zD aa al ak) (st.next aa al)⟩
      .refine⟨_,rfl,Lv,B,rfl,aS,λob nf=>?_⟩;have bu:Same _ (upd H4 Lv (.frz ob (.dK B))):=wC aS rfl;refine sP (FoI v d S Lv Fu h ks H H1 _ ob os L n) (.mk _ [] [] _ _ _ _ _ rfl (by rw[ai Z];exact cc) af (by rw[ai (λz=>aI z.symm)];exact cb) (dv (s3.trans s4) aR) (w8 (g3.trans s4) aS rfl) ?_ ((dL.same (mW.trans s4)).same bu) .nil (.nil h _) (λo ho=>absurd ho (by simp))) (λi σ H' _ ⟨_,_,_,_,_,_,_,_,_,_,e,_,_,_,_,_,_,_,_⟩=>e) ?_ (λσ H' z=>⟨ob,z⟩)
       .rw[aml,aiV];exact (dS.same (mW.trans s4)).same bu
       .rintro i k vv σ H5 T aU ⟨kS,M,kM,y5,y6,y7,y8,y9,rfl,fS,fL,fF,s5,g5,ap,aF,aT,aw,ak⟩ nT;have bv:i<L.length:=by rw[←dL.len];exact (ahW.mp aU).1
        have bw:=ahU bv;have aW:=aiq bv;obtain⟨lh,ev,bz⟩:=aF.at_ i (k,vv) L[i] aU bw;have cg:=by
         have a:(B.map (·.1))[i]?=some k:=by rw[ah1,aU];rfl
         rw[aF.keys,ah1,bw]at a;exact (ai0 a).symm
        dsimp only at ev;subst ev cg;have tk:L.take (i+1)=L.take i++[L[i]]:=by simp_all
        generalize eo:L[i]=o at *;have gO:=aa.gone o aW;have s6:Same H5 (upd H5 T (.tup [kV (kB o),.ref lh])):=aK nT;have e6:(upd H5 T _) T=some (.tup [kV (kB o),.ref lh]):=af;generalize upd H5 T (.tup [kV (kB o),.ref lh])=H6 at *;refine⟨T,_,rfl,aAB e6,rfl,?_⟩;refine⟨_,_,rfl,_,_,rfl,rfl,?_⟩;have ch:=bj.same (g5.trans s6);have ci:=(g5.trans s6) _ _ (k4 h1 rfl);refine⟨_,rfl,d,aP,fs,rfl,ci,h6,_,rfl,_,rfl,d,lh,o,h,ks,dj h.1 h.2 o,rfl,ch,KO,s6 _ _ bz,by lia,λln H7 s7 dN bA=>?_⟩;have ab:=s6.trans s7;have ck:kB o∉kS.map (·.1):=by
         rw[ap.keys,uB,aia,aic];rintro (z|z)
         .exact oZ st aa o aW z
         .have nd:=aa.nd;rw[←aiI (i+1) L,tk,aia,aia,ajG]at nd;exact (ajG.mp nd.1).2.2 _ z _ (by simp) rfl
        have bB:kS.length<sizeLine:=by
         rw[ap.len,ahZ,aif];have:=aaL st;have:=aa3 aa;lia
        refine⟨_,rfl,_,rfl,_,rfl,S,_,rfl,DPut.k  (ab _ _ fS) bB,?_⟩;rw[zq ck];have bC:=ab _ _ fS;have ax:Same _ (upd H7 S (.dK (kS++[(kB o,.ref ln)]))):=wC bC rfl;have bE:Lv≠S:=λz=>Z z.symm;have cm:=s5.trans ab;have g7:=g5.trans ab;have k7:=mW.trans ab;have s8:Same H (upd H7 S (.dK (kS++[(kB o,.ref ln)]))):=dv cm bk;have g8:Same _ (upd H7 S (.dK (kS++[(kB o,.ref ln)]))):=w8 g7 bC rfl;have cq:(upd H7 S _) S=some (.dK (kS++[(kB o,.ref ln)])):=af;have cr:(upd H7 S (.dK (kS++[(kB o,.ref ln)]))) Lv=some (.frz ob (.dK B)):=by rw[ai bE];exact ab _ _ fL
        have cs:(upd H7 S (.dK (kS++[(kB o,.ref ln)]))) Fu=some (.dK kM):=by rw[ai (λz=>as z.symm)];exact ab _ _ fF
        have ct:=ax _ _ (k4 (ab _ _ bz) rfl);have bF:=ax _ _ (k4 bA rfl);have cu:DictL (nxV h) (upd H7 S (.dK (kS++[(kB o,.ref ln)]))) (kS++[(kB o,.ref ln)]) (os++L.take (i+1)):=by
         rw[tk,←aim];exact (ap.same k7).snoc ax bA
        have cv:=(aF.same k7).same ax;have cw:=(aT.same k7).same ax;generalize upd H7 S (.dK (kS++[(kB o,.ref ln)]))=H8 at *;generalize kS++[(kB o,.ref ln)]=aX at *;refine⟨InI v d S Lv Fu h ks H H1 B aX ob os L n i o lh ln (cn h o).length,?_,?_⟩
        .rintro O H9 ⟨M',ac,z8,z9,rfl,a1,a2,a3,a4,a5,a6,a7,a8,a9,ad,ay,aG,aY⟩;refine .mk aX M' ac _ _ _ _ _ rfl a1 a2 a3 a4 a5 a8 a9 ad ay λx hx k hk=>?_;rw[tk,aic,ah5]at hx;rcases hx with hx|hx
         .exact aG x hx k hk
         .simp_all
        .refine⟨_,rfl,ln,rfl,⟨_,aAA bF⟩,?_⟩;refine fh  (λj O H'=>InI v d S Lv Fu h ks H H1 _ _ ob os L n i o lh ln j O H') (.mk M kM _ _ rfl cq cr cs s8 g8 ct bF cu cv cw aw ak (λk hk=>absurd hk (by simp))) (λj σ H' _ ⟨_,_,_,_,_,_,_,_,_,_,_,e,_,_,_,_,_,_⟩=>aAA e) ?_ (λσ H' z=>by rw[ahY]at z;exact z);rintro j x σ H9 hx ⟨M',ac,z8,z9,rfl,a1,a2,a3,a4,a5,a6,a7,a8,a9,ad,ay,aG,aY⟩;have hj:j<(cn h o).length:=by have:=(ahW.mp hx).1;simp_all
         rw[ah1,ahU hj]at hx;have bJ:(cn h o).take (j+1)=(cn h o).take j++[(cn h o)[j]]:=by simp_all
         have bK:(cn h o)[j]∈cn h o:=aiq hj;generalize (cn h o)[j]=nm at *;cases hx;obtain⟨cA,dV,bM⟩:=next_iffD.mp bK;refine⟨_,rfl,_,rfl,bG o,nm,rfl,by lia,λcB Y=>?_⟩;rw[←hE];have c3:=Y _ _ a3;refine⟨λO H'=>InI v d S Lv Fu h ks H H1 B aX ob os L n i o lh ln (j+1) O H',λO H' z=>z,?_⟩;refine⟨_,rfl,_,rfl,Fu,_,rfl,DGet.k (k:=kB (o++[nm])) c3,_,rfl,?_⟩;have aZ:Same (ndH H9) cB:=mW.trans Y;by_cases az:bG (o++[nm])∈M'.map bG
         .have e1:(cD ac (kB (o++[nm]))).isSome=true:=by rw[val_some,ad.keys,uB];exact az
          rw[e1];refine iR ?_;refine .mk M' ac _ _ rfl (Y _ _ a1) (Y _ _ a2) c3 (a4.trans Y) (a5.trans Y) (Y _ _ a6) (Y _ _ a7) (a8.same aZ) (a9.same aZ) (ad.same aZ) ay aG λk hk=>?_;rw[bJ,aic,ah5]at hk;rcases hk with hk|hk
          .exact aY k hk
          .subst hk;exact az
         .have e1:(cD ac (kB (o++[nm]))).isSome=false:=by
           rw[amC];intro z;rw[val_some,ad.keys,uB]at z;exact az z
          rw[e1];refine mZ ?_;have bN:=a5.trans Y;have bO:=bj.same bN;have bP:=bN _ _ (k4 h1 rfl);have rg:h.2[nm]?=some (rmD h.2 nm):=by
           unfold rmD;rw[ahU cA]
           rfl
          refine⟨_,rfl,d,aP,fs,rfl,bP,h5,_,rfl,_,rfl,d,lh,nm,h,ks,dj h.1 h.2 o,rmD h.2 nm,rfl,bO,rg,Y _ _ a6,bM,by lia,KO.few,λbh aH cE dX cF=>?_⟩;have J:=Y.trans cE;have a0:=J _ _ a3;have bQ:=ay.snoc gO (aa.len o aW) bK az;have bR:ac.length<sizeLine:=by
           rw[ad.len];have:=aa3 ay;lia
          have cG:kB (o++[nm])∉ac.map (·.1):=by
           rw[ad.keys,uB];exact az
          refine⟨_,rfl,_,rfl,Fu,_,rfl,DPut.k (k:=kB (o++[nm])) a0 bR,?_⟩;rw[zq cG];have aA:Same (ndH aH) (upd aH Fu (.dK (ac++[(kB (o++[nm]),.ref bh)]))):=wC a0 rfl;have ba:Same (ndH H9) aH:=mW.trans J;have cH:aH bh=some (.lst (hdV h ks (o++[nm]))):=by
           unfold hdV;rw[ip];exact cF
          refine .mk (M'++[o++[nm]]) _ _ _ rfl (by rw[ai as];exact J _ _ a1) (by rw[ai aI];exact J _ _ a2) af (dv (a4.trans J) br) (w8 (a5.trans J) a0 rfl) (aA _ _ (k4 (J _ _ a6) rfl)) (aA _ _ (k4 (J _ _ a7) rfl)) ((a8.same ba).same aA) ((a9.same ba).same aA) ((ad.same ba).snoc aA cH) bQ (λx hx k hk=>?_) λk hk=>?_
          .rw[aia,aic];exact .inl (aG x hx k hk)
          .rw[aia,aic];rw[bJ,aic,ah5]at hk;rcases hk with hk|hk
           .exact .inl (aY k hk)
           .subst hk;exact .inr (by simp)
theorem scCounted:aA ["house","keys","locks","room_locks","within"] ["house"] (ak iD):=scM rfl rfl rfl rfl (by decide +kernel)
abbrev zW:Expr:=lG ((bq iD).getD 4 (.Pass ⟨0,0,0,0⟩))
theorem aaD:gx (ak iD) (cG zW) ["house","keys","locks","room_locks","within"] ["kind","keys","locks"] 1 [1,2]=true:=by decide +kernel
theorem nd6:(["kind","keys","locks"]:List Str).Nodup:=by decide +kernel
theorem yZ{f fR:Addr}{fd aE:FuncData}(F:Fun K "kinds_counted" "kinds_counted" iD f fd)(GR:bx P w K mg base CX0 6 fR aE ["thing"] yA)(cR:Cal K mg "require_house" ["thing"] fR aE)
 (aW:mg "list" = none)(aX:mg "sorted" = none)(aY:mg "set" = none):bx P w K mg base CX0 7 f fd ["house"] tF:=by
 refine F.ok scCounted (λvs H Q E h=>?_) (λaZ A outer s H vs Q E hr h=>?_)
 .obtain⟨v,r,rfl,_⟩:=h
  rfl
 .obtain⟨v,B,rfl,hh,ok,⟨⟨U,hU,a0⟩,nk,nl⟩,k⟩:=h;obtain⟨S,Cp⟩:=eQ (X:=(ur CX0 P w K mg base ["house","keys","locks","room_locks","within"] "kinds_counted" (ak iD) f aZ A outer s H E).nox) (outer:=ak iD) (N:=["house","keys","locks","room_locks","within"]) rfl rfl aaD;refine⟨_,ao (bX (bM GR hr rfl cR.mg cR.kp cR.b .nil eJ (ae (pv 0) aj)))
   (ao (aB (i:=1) scCounted.nd rfl (.inr rfl) (eF gB rfl aW (by decide +kernel) (ae (bY iM (pv 0) ar (λ_ _=>rfl)) aj)))
   (ao (aB (i:=2) scCounted.nd rfl (.inr rfl) (gX aj))
   (ao (d9 aiN rfl (aV (bY iM (pv 0) ar (λ_ _=>rfl)))
    (gb rfl (au (aq (i:=3) scCounted.nd rfl (.inl rfl)) (au (aq (i:=4) scCounted.nd rfl (.inl rfl)) aO)))
    (ao (bX (kO aiy ak2 ak3 px (pv 2) (ae (pv 3) aj)))
    (av (bX (kO aiy ak2 ak3 px (pv 1) (ae (pv 4) aj))))))
   (av (aM (xj (tg:=.Name "kind" _) rfl S Cp (aV (ay (gf rfl) rfl aX aj6 (ae (eF (pN rfl) rfl aY (by decide +kernel) (ae (bz uD (pv 1) (pv 2)) aj)) aj)))
    (λ_ _ _ _=>aq (i:=0) nd6 rfl (.inl rfl) (.inr rfl)) (λ_ _ _ _=>bt) (λ_ _ _ _=>pv 0)
    (λ_ _ _ _=>gC (ae (qr (K:=K) rfl aiy ajA ajB jl (pv 1) (ae (pv 0) aj))
     (ae (qr (K:=K) rfl aiy ajA ajB jl (pv 2) (ae (pv 0) aj)) aj))))))))),?_⟩
  refine⟨_,rfl,v,B,rfl,hh,ok,λH1 s1=>?_⟩;obtain⟨t,a,r,vs,rfl,ht,ha,aF,hR⟩:=hh.same s1;refine⟨_,rfl,t,_,0,.ref a,rfl,rfl,aAB ht,rfl,a,_,rfl,.inl (aAA ha),λZ nA=>?_⟩;have m1:Same H1 (upd H1 Z (.lst (B.1.map V.str))):=λb u e=>by rw[ai (ag e nA)];exact e
  refine⟨ail _,λlA nL=>?_⟩;have ax:Z≠lA:=ag (show (upd H1 Z (.lst (B.1.map V.str))) Z=some _ from af) nL;have ad:H1 lA=none:=m1.free nL;have m2:Same H1 (upd (upd H1 Z (.lst (B.1.map V.str))) lA (.lst [])):=λb u e=>by rw[ai (ag e ad)];exact m1 b u e
  refine⟨_,rfl,t,_,1,.ref r,rfl,rfl,aAB (m2 _ _ ht),rfl,r,rfl,⟨_,aAA (m2 _ _ aF)⟩,?_⟩;have kl:∀i,(B.1++(B.2.take i).flatMap (·.2)).length<=1000:=λi=>by
   have:=uC (λx:Rm=>x.2) B.2 i;unfold aG at nk;rw[ahZ]at nk⊢;lia
  have ll:∀i,((B.2.take i).flatMap (·.1)).length<=1000:=λi=>aij (uC (λx:Rm=>x.1) B.2 i) nl;refine fh (xs:=vs) (λi σ H2=>∃x3 x4,σ=[some (.ref t),some (.ref Z),some (.ref lA),x3,x4]/\H2 Z=some (.lst ((B.1++(B.2.take i).flatMap (·.2)).map V.str))/\H2 lA=some (.lst (((B.2.take i).flatMap (·.1)).map V.str))/\Same H1 H2) ?_ (λi σ H2 _ ⟨_,_,_,_,_,sm⟩=>aAA (sm _ _ aF)) ?_ ?_
  .exact⟨none,none,rfl,by rw[ai ax,af];simp,by rw[af];rfl,m2⟩
  .rintro i x σ H2 O ⟨x3,x4,rfl,hk,Y,sm⟩;have hi:i<vs.length:=(ahW.mp O).1;have J:i<B.2.length:=by rw[←hR.1];exact hi
   obtain⟨tt,aa,bb,rfl,q1,q2,q3⟩:=hR.2 i x _ O (ahU J);have g1:=sm _ _ q1;have g2:=sm _ _ q2;have g3:=sm _ _ q3;have bI:aa≠lA:=ag q2 ad;have a8:bb≠lA:=ag q3 ad;have bJ:bb≠Z:=ag q3 nA;have l1:=ll (i+1);have k1:=kl (i+1);rw[iY _ _ _ J,ahZ]at l1;rw[iY _ _ _ J,←aim,ahZ]at k1;refine⟨tt,_,rfl,aAB g1,rfl,.ref aa,[.ref bb],rfl,.ref bb,[],rfl,rfl,?_⟩;refine⟨_,rfl,.inl ⟨rfl,_,aAA Y⟩,_,rfl,lA,aa,_,_,rfl,rfl,Y,g2,?_,?_⟩
   .rw[ahY,ahY];exact aiF (aU l1)
   .have al:(upd H2 lA (.lst (((B.2.take i).flatMap (·.1)).map V.str++(B.2[i]).1.map V.str))) Z=some (.lst ((B.1++(B.2.take i).flatMap (·.2)).map V.str)):=by rw[ai ax];exact hk
    have a9:(upd H2 lA (.lst (((B.2.take i).flatMap (·.1)).map V.str++(B.2[i]).1.map V.str))) bb=some (.lst ((B.2[i]).2.map V.str)):=by rw[ai a8];exact g3
    refine⟨_,rfl,.inl ⟨rfl,_,aAA al⟩,_,rfl,Z,bb,_,_,rfl,rfl,al,a9,?_,?_⟩
    .rw[ahY,ahY];exact aiF (aU k1)
    .refine⟨_,_,rfl,?_,?_,λb u e=>?_⟩
     .rw[af,iY _ _ _ J,←aim,aia (l₂:=(B.2[i]).2)]
     .rw[ai (ai2 ax),af,iY _ _ _ J,aia]
     .rw[ai (ag e nA),ai (ag e ad)];exact sm b u e
  .rintro σ H2 ⟨x3,x4,rfl,hk,Y,sm⟩;have ek:B.1++(B.2.take vs.length).flatMap (·.2)=aG B:=by rw[hR.1,aiz];rfl
   have el:(B.2.take vs.length).flatMap (·.1)=aw B:=by rw[hR.1,aiz];rfl
   rw[ek]at hk;rw[el]at Y;dsimp only [zT];refine xk _ _ _ _ _ _ _ _ _ _ ?_;refine⟨_,rfl,_,rfl,Z,lA,_,_,rfl,rfl,hk,Y,by rw[ahY,ahY];exact aij (amq nk nl) (by decide),λcA nC=>?_⟩;refine⟨cA,aG B++aw B,rfl,aAA (by rw[af,aia]),by rw[ahZ];exact aiA (Nat.add_le_add_right (amq nk nl) 1) (by decide),λsA ts nS am=>?_⟩;have tl:ts.length<64:=aiA (bf (U:=U) am.1 λx O=>a0 x (aic.mp ((am.2 x).mp O))) (ah9 hU (by decide));refine⟨sA,ts,rfl,af,tl,λoA ss nO hp bQ=>?_⟩;dsimp only [ur];generalize hH3:upd (upd (upd H2 cA (.lst ((aG B).map V.str++(aw B).map V.str))) sA (mX P w sA ts)) oA (.lst (ss.map V.str))=H3;have an:Same H2 H3:=λb u e=>by
    have n1:b≠cA:=ag e nC;have e1:(upd H2 cA (.lst ((aG B).map V.str++(aw B).map V.str))) b=some u:=by rw[ai n1];exact e
    have n2:b≠sA:=ag e1 nS;have e2:(upd (upd H2 cA (.lst ((aG B).map V.str++(aw B).map V.str))) sA (mX P w sA ts)) b=some u:=by rw[ai n2];exact e1
    rw[←hH3,ai (ag e2 nO)];exact e2
   have aJ:H3 oA=some (.lst (ss.map V.str)):=by rw[←hH3];exact af
   have al:=an _ _ hk;have be:=an _ _ Y;have ap:∀x,x∈ss↔(x∈aG B\/x∈aw B):=λx=>by rw[hp.mem_iff,am.2 x,aic]
   have aK:ss.Nodup:=hp.nodup_iff.mpr am.1;have sl:ss.length<64:=by rw[hp.length_eq];exact tl
   refine⟨oA,rfl,⟨_,aAA aJ⟩,?_⟩;intro D hD;refine zd (xs:=ss.map V.str) (λi ys H4=>ys.map (·.1)=(ss.take i).map Sum.inr/\i<=64/\(∀x v,(Sum.inr x,v)∈ys->∃t:Addr,v=.ref t/\H4 t=some (.tup [.int (((aG B).count x:Nat):Int),.int (((aw B).count x:Nat):Int)]))/\H4 D=some (.dK ys)/\Same H3 H4)
    ⟨rfl,by decide,(λx v h=>nomatch h),af,λb u e=>by rw[ai (ag e hD)];exact e⟩ (λi ys H4 ⟨_,_,_,h,_⟩=>h) (λi ys H4 ⟨_,_,_,_,L⟩=>aAA (L _ _ aJ)) ?_ ?_
   .rintro i ys H4 x O ⟨hy,bT,hv,ac,L⟩;have hi:i<(ss.map V.str).length:=(ahW.mp O).1;have J:=hi;rw[ahY]at J;rw[ah1,ahU J]at O;cases O;have aL:=L _ _ al;have aN:=L _ _ be;refine qR rfl ?_;refine⟨_,rfl,?_⟩;refine⟨_,rfl,.inl ⟨rfl,_,aAA aL⟩,_,rfl,Z,aG B,ss[i],rfl,rfl,aL,?_⟩;refine⟨_,rfl,.inl ⟨rfl,_,aAA aN⟩,_,rfl,lA,aw B,ss[i],rfl,rfl,aN,?_⟩;refine⟨by show 2<=sizeLine;decide,λtA nT=>?_⟩;have nD:D≠tA:=ag ac nT;have yl:ys.length=i:=by
     have:=aiO List.length hy;rw[ahY,ahY,aif]at this;lia
    have aP:(Sum.inr ss[i]:Key)∉ys.map (·.1):=by
     rw[hy];intro z;obtain⟨x,O,e⟩:=ah8.mp z;cases e;obtain⟨j,hj,e⟩:=ajV.mp O;rw[akM]at e;rw[aif]at hj;have hd:=aiL.mp aK j i (by lia) J (by lia);exact hd e
    have aQ:cD ys (Sum.inr ss[i])=none:=by
     cases q:cD ys (Sum.inr ss[i]) with
     |none=>rfl
     |some v=>exact absurd (ah8.mpr ⟨_,iE q,rfl⟩) aP
    refine⟨Sum.inr ss[i],rfl,by rw[ai nD];exact ac,by rw[yl];exact aU (by lia),nx hi ⟨?_,by lia,?_,af,λb u e=>?_⟩⟩
    .rw[jh _ aQ,aia,hy,ais,ahU J,aia]
     rfl
    .intro x v h;rw[jh _ aQ]at h;rcases aic.mp h with h|h
     .obtain⟨t',e,q⟩:=hv x v h;exact⟨t',e,by rw[ai (rL q ac (λz=>nomatch z)),ai (ag q nT)];exact q⟩
     .have h':=ah5.mp h;cases h';exact⟨tA,rfl,by rw[ai (ai2 nD),af]⟩
    .rw[ai (ag e hD)];have:=L b u e;rw[ai (ag this nT)];exact this
   .rintro ys H4 ⟨hy,_,hv,ac,L⟩;rw[ahY,aiz]at hy;refine k D ys H4 ((s1.trans (sm.trans an)).free hD) (s1.trans (sm.trans (an.trans L))) ac ⟨?_,λq=>?_,hv⟩
    .rw[hy];exact List.Pairwise.map _ (λa b h z=>h (by cases z;rfl)) aK
    .rw[hy,ah8];exact⟨λ⟨x,O,e⟩=>⟨x,e.symm,(ap x).mp O⟩,λ⟨x,e,O⟩=>⟨x,(ap x).mpr O,e.symm⟩⟩
end
end K7
namespace L2
open PySem PySem.Spec PyProof.Rows
theorem TabAt.same{Pt pos ql H H'}(x:TabAt Pt pos ql H)(s:Same H H'):TabAt Pt pos ql H':=by
 cases x with
 |no ps a b c=>exact .no ps (s _ _ a) b c
 |yes ps c' a b c d=>exact .yes ps c' (s _ _ a) b c (s _ _ d)
theorem TabAt.at_{Pt pos ql H}(x:TabAt Pt pos ql H):∃ps,H Pt=some (.tbl ps):=by
 cases x<;>grind
theorem Fun.okC{P w K mg base x qual st f c fd N ps k sp}(F:Fun K x qual st f fd)(O:fd.code=.ref c)(S:aA N ps (ak st))(len:∀vs H Q E,sp vs H Q E->vs.length=ps.length)
 (z:∀A outer s H vs Q E,Room k (A.deeper (envOfC qual (ak st) s.heap.objs.size f (.ref c)))->sp vs H Q E →
  ∃t,PSs (ur CX0 P w K mg base N qual (ak st) f (.ref c) A outer s H E).nox (bq st) t/\t {nx:=λ_ H'=>Q .non H',rt:=Q} (start N vs) H):bx P w K mg base CX0 (k+1) f fd ps sp:=by
 obtain⟨oc,od,kV,Y,pm,an,B,ct,Z,rfl,lk,J⟩:=F.ex;obtain rfl:B=.ref c:=O;refine ad4 lk J S len λA outer s H vs Q E hr L=>?_;obtain⟨t,h,q⟩:=z A _ s H vs Q E hr L;exact⟨t,h.nox,q⟩
end L2
namespace K7
open PySem L2 PyProof.Rows
def ntH(H:Hp):Hp:=λb=>match H b with
 |some (.tbl _)=>none
 |u=>u
theorem jb{H b u}(e:H b=some u)(n:∀ps,u≠.tbl ps):ntH H b=some u:=by
 unfold ntH;rw[e];cases u<;>simp_all
theorem tK{H b u}(e:ntH H b=some u):H b=some u/\∀ps,u≠.tbl ps:=by
 unfold ntH at e;grind
theorem nt_all{H}:Same (ntH H) H:=λb u e=>(tK e).1
theorem kJ{H H1 H2}(a:Same (ntH H) H1)(b:Same (ntH H1) H2):Same (ntH H) H2:=λc u e=>b c u (jb (a c u e) (tK e).2)
theorem wm{H H1}(s:Same H H1):Same (ntH H) H1:=nt_all.trans s
theorem RoomAt.nt{H v r}(x:RoomAt H v r):RoomAt (ntH H) v r:=by
 obtain⟨t,a,b,e,h1,h2,z⟩:=x;exact⟨t,a,b,e,jb h1 (by grind),jb h2 (by grind),jb z (by grind)⟩
theorem HouseAt.nt{H:Hp}{v:V}{h:Hs}(x:HouseAt H v h):HouseAt (ntH H) v h:=by
 obtain⟨t,a,r,J,e,h1,h2,L,B⟩:=x;exact⟨t,a,r,J,e,jb h1 (λ_ z=>nomatch z),jb h2 (λ_ z=>nomatch z),jb L (λ_ z=>nomatch z),B.1,λi v r a b=>(B.2 i v r a b).nt⟩
theorem HouseAt.sameT{H H' v h}(s:Same (ntH H) H')(x:HouseAt H v h):HouseAt H' v h:=x.nt.same s
theorem ad7{Pt pos N cl H H' f c'}(x:agX Pt pos N cl H f c' H')(t:TabAt Pt pos N.ql H):Same (ntH H) H':=by
 obtain⟨k,_,_,_,_⟩:=x;obtain⟨ps,e⟩:=t.at_;refine λb u z=>k b u ?_ (tK z).1;rintro rfl;have:=(tK z).1;rw[e]at this;cases this;exact (tK z).2 ps rfl
structure FunD(K:PySem.W.Frag)(x qual:Str)(st:Stmt)(T f:Addr)(fd:FuncData):Prop where
 ex:∃(oc:Value) (od:Option Addr) (kV doc pm:Value) (an:Option Addr) (cdv ct:Value) (osl:Array (Option Value)),
  fd=fnOf x qual (eO st) (bq st) (ak st) (.ref T) kV doc pm an cdv ct/\K.lookup f=some ⟨oc,od,.func fd,osl⟩/\codeIn K cdv qual=true
 kp:keepIn K (.ref f)=true
theorem FunD.ok{P w K mg base x qual st T f fd N ps k sp}(F:FunD K x qual st T f fd)(S:aA N ps (ak st))(len:∀vs H Q E,sp vs H Q E->vs.length=ps.length)
 (z:∀B A outer s H vs Q E,Room k (A.deeper (envOfC qual (ak st) s.heap.objs.size f B))->sp vs H Q E →
  ∃t,PSs (ur CX0 P w K mg base N qual (ak st) f B A outer s H E).nox (bq st) t/\t {nx:=λ_ H'=>Q .non H',rt:=Q} (start N vs) H):bx P w K mg base CX0 (k+1) f fd ps sp:=by
 obtain⟨oc,od,kV,O,pm,an,B,ct,Y,rfl,Z,J⟩:=F.ex;refine ad4 Z J S len λA outer s H vs Q E hr L=>?_;obtain⟨t,h,q⟩:=z _ A _ s H vs Q E hr L;exact⟨t,h.nox,q⟩
theorem fund_mk{K x qual st T f L O J B kV doc pm z ct}(l:K.lookup f=some ⟨L,O,.func (fnOf x qual (eO st) (bq st) (ak st) (.ref T) kV doc pm J z ct),B⟩)
 (c:codeIn K z qual=true)(k:keepIn K (.ref f)=true):FunD K x qual st T f (fnOf x qual (eO st) (bq st) (ak st) (.ref T) kV doc pm J z ct):=⟨⟨L,O,kV,doc,pm,J,z,ct,B,rfl,l,c⟩,k⟩
def oq:Sp:=λvs H Q _=>∃(v:V) (h:Hs) (m:Nat),vs=[v,.int (m:Int)]/\HouseAt H v h/\aE h/\h.2.length<=m/\∀H',Same H H'->Q .non H'
def agi:Sp:=λvs H Q _=>∃(v:V) (h:Hs) (a b:Str),vs=[v,.str a,.str b]/\HouseAt H v h/\aE h/\fe h/\aW a/\aW b/\a≠b/\(a∈aG h\/a∈aw h)/\(b∈aG h\/b∈aw h)/\∀H',Same H H'->Q .non H'
section
variable {P:Program}{w:World}{K:PySem.W.Frag}{mg:Str->Option Value}{base:Heap}
theorem ng:aA ["thing","most"] ["thing","most"] (ak cv):=scM rfl rfl rfl rfl (by decide +kernel)
theorem vq{T f fd z d B n sl}(F:FunD K "require_small" "require_small" cv T f fd)(J:K.lookup T=some ⟨z,B,.seq #[d] n,sl⟩):Binds K fd ["thing","most"] []:=by
 obtain⟨_,_,kV,L,pm,an,O,ct,S,rfl,lk,Y⟩:=F.ex;intro s Z KX hl
 match Z,hl with
 |[x,y],_=>
  exact BindsTo.of_defaults rfl (KX _ _ J) rfl rfl rfl
theorem adg{T f J fd z}(F:FunD K "require_small" "require_small" cv T f fd)(S:bx P w K mg base CX0 6 J z ["thing"] yA)(Y:Cal K mg "require_house" ["thing"] J z)(Z:mg "len" = none):bx P w K mg base CX0 7 f fd ["thing","most"] oq:=by
 refine F.ok ng (λL H Q E h=>?_) (λaa A outer s H L Q E hr h=>?_)
 .obtain⟨v,h,m,rfl,_⟩:=h
  rfl
 .obtain⟨v,h,m,rfl,O,ok,le,q⟩:=h;refine⟨_,(ao (bX (pcl S Y hr rfl (ae (pv 0) aj)))
   (av (fm (aN ag7 (ay bE rfl Z ajq (ae (bY iM (pv 0) ar (λ_ _=>rfl)) aj)) (pv 1) (aZ _))
    kR bD))),⟨_,rfl,v,h,rfl,O,ok,λH1 B=>?_⟩⟩
  obtain⟨t,a,r,L,rfl,h1,h2,h3,h4⟩:=O;refine⟨_,rfl,t,_,_,_,rfl,rfl,aAB (B _ _ h1),rfl,r,_,rfl,.inl (aAA (B _ _ h3)),_,rfl,_,_,rfl,rfl,_,rfl,?_⟩;rw[aiC (by have:=h4.1;lia)];exact iR (q H1 B)
theorem eZ:aA ["house","first","other","counts"] ["house","first","other"] (ak cQ):=scM rfl rfl rfl rfl (by decide +kernel)
theorem afs{f O S:Addr}{fd B J:FuncData}(F:Fun K "require_two_kinds" "require_two_kinds" cQ f fd)(Y:bx P w K mg base CX0 1 O B ["thing"] z6)(Z:Cal K mg "is_kind" ["thing"] O B)(pj:bx P w K mg base CX0 7 S J ["house"] tF)(f9:Cal K mg "kinds_counted" ["house"] S J):bx P w K mg base CX0 8 f fd ["house","first","other"] agi:=by
 refine F.ok eZ (λvs H Q E h=>?_) (λah A outer s H vs Q E hr h=>?_)
 .obtain⟨v,h,a,b,rfl,_⟩:=h
  rfl
 .have hu:=gm hr;obtain⟨v,h,a,b,rfl,hh,ok,few,ka,kb,ne,ma,mb,q⟩:=h;refine⟨_,(ao (fm (PW.pt (pV (k9 (mV (pcl Y Z (hr.mono (by decide:1<=7)) rfl (ae (pv 1) aj)))) (pV (k9 (mV (pcl Y Z (hr.mono (by decide:1<=7)) rfl (ae (pv 2) aj)))) (mF (aN lR (pv 1) (pv 2) (aZ _))))))
   kR bD)
   (ao (aB (i:=3) eZ.nd rfl (.inl rfl) (pcl pj f9 hr rfl (ae (pv 0) aj)))
   (av (fm (PW.pt (pV (tI (pP hu (pv 1) (pv 3))) (mF (tI (pP hu (pv 2) (pv 3))))))
    kR bD)))),?_⟩
  refine⟨_,rfl,a,rfl,ka,λH1 s1=>⟨true,rfl,?_⟩⟩;refine iR ?_;refine⟨_,rfl,b,rfl,kb,λH2 s2=>⟨true,rfl,?_⟩⟩;refine iR ?_;refine⟨_,rfl,_,rfl,rfl,false,?_,?_⟩
  .exact aiO V.bl (aiC λz=>ne (V.str.inj z))
  .refine iR ?_;have L:=s1.trans s2;refine⟨_,rfl,v,h,rfl,hh.same L,ok,few,λd kvs H3 nd s3 e3 cm=>?_⟩;have ia:(cD kvs (.inr a)).isSome=true:=val_some.mpr ((cm.mem _).mpr ⟨a,rfl,ma⟩);have ib:(cD kvs (.inr b)).isSome=true:=val_some.mpr ((cm.mem _).mpr ⟨b,rfl,mb⟩);refine⟨_,rfl,_,rfl,d,_,rfl,DGet.k (k:=.inr a) e3,false,by rw[ia];rfl,?_⟩;refine iR ?_;refine⟨_,rfl,_,rfl,d,_,rfl,DGet.k (k:=.inr b) e3,false,by rw[ib];rfl,?_⟩;exact iR (q H3 (L.trans s3))
def nmF(a b k:Str):Str:=if k=b then a else k
inductive NmI(D:Addr)(ks:List Str)(a b:Str)(H:Hp)(i:Nat)(ys:List V)(H':Hp):Prop
 |mk:ys=((ks.take i).map (nmF a b)).map V.str->H' D=some (.lst ys)->Same H H'->NmI D ks a b H i ys H'
abbrev stN:Stmt:=(bq aT).getD 1 (.Pass ⟨0,0,0,0⟩)
def ag2:Stmt->Pos
 |.FunctionDef _ _ _ _ _ _ _ _ _ p=>p
 |_=>⟨0,0,0,0⟩
abbrev qlN:Str := "house_of_one.<locals>.named"
abbrev nD:ab8:=⟨"named",qlN,eO stN,bq stN,ak stN⟩
theorem scN:xO "kinds" ["first","other"] nD.sc:=⟨rfl,rfl,rfl,by decide +kernel,by decide +kernel,by decide +kernel,by decide +kernel,by decide +kernel⟩
theorem ndN:(["kind","first","other"]:List Str).Nodup:=by decide +kernel
def ahE:SpN:=λvals v H Q=>∃(l:Addr) (ks:List Str) (a b:Str),v=.ref l/\vals "first" = some (.str a)/\vals "other" = some (.str b)/\H l=some (.lst (ks.map V.str))/\ks.length<=1000/\∀D H',Same H H'->H D=none->H' D=some (.lst ((ks.map (nmF a b)).map V.str))->Q (.ref D) H'
theorem aex{k:Nat}:zP P w K mg base k nD "kinds" ["first","other"] ahE:=by
 intro f cd cl A outer s H vals v Q hr h;have hu:=gm hr;obtain⟨l,ks,a,b,rfl,va,vb,Y,ln,q⟩:=h;refine⟨_,(av (aM (adu (te:=λ_=>_) (tg:=.Name "kind" _) (outer:=nD.sc) (N:=["kinds","first","other"]) (N':=["kind","first","other"]) (nl:=1) (ix:=[1,2]) rfl rfl rfl (aV (pv 0))
  (λ_ _ _ _=>(aq (i:=0) ndN rfl (.inl rfl) (.inr rfl))) (λ_ _ _ _=>bt)
  (λ_ _ C fp Z H₀ _ _ _ _=>(aci (aN lR (pv 0) (pv 2) (aZ _)) (pv 1) (pv 0)))))),?_⟩
 refine aH _ _ _ _ _ _ _ _ _ ?_;refine⟨_,rfl,l,rfl,⟨_,aAA Y⟩,λD nD=>?_⟩;have ac:1000000<sizeLine:=by decide
 refine bB (xs:=ks.map V.str) (NmI D ks a b H) (.mk rfl af (aK nD)) (λi ys H' ⟨_,e,_⟩=>e) (λi ys H' ⟨_,_,s⟩=>aAA (s _ _ Y)) ?_ ?_
 .rintro i ys H1 x O ⟨rfl,L,S⟩;have B:i<(ks.map V.str).length:=(ahW.mp O).1;have hi:i<ks.length:=by rwa [ahY]at B
  rw[ah1,ahU hi]at O;have tk:ks.take (i+1)=ks.take i++[ks[i]]:=by rw[ais,ahU hi];rfl
  generalize ks[i]=k at *;cases O;have J:∀v,v=V.str (nmF a b k)->H1 D=some _/\(((ks.take i).map (nmF a b)).map V.str).length<sizeLine/\Nx (ks.map V.str).length i (NmI D ks a b H (i+1) (((ks.take i).map (nmF a b)).map V.str++[v]) (upd H1 D (.lst (((ks.take i).map (nmF a b)).map V.str++[v])))):=λv ev=>by
   subst ev;refine⟨L,?_,nx B (.mk ?_ af (dv S nD))⟩
   .rw[ahY,ahY,aif];lia
   .rw[tk,aia,aia]
    rfl
  refine dy rfl ?_;refine⟨_,rfl,.str b,aiO some vb,?_⟩;refine⟨rfl,_,rfl,?_⟩;by_cases e:k=b
  .rw[aiv (aiO V.str e)];exact mZ ⟨.str a,aiO some va,J _ (by unfold nmF;rw[if_pos e])⟩
  .rw[aiC (λz=>e (V.str.inj z))];exact iR ⟨.str k,rfl,J _ (by unfold nmF;rw[if_neg e])⟩
 .rintro ys H1 ⟨rfl,L,S⟩;rw[ahY,aiz]at L;exact q D H1 S nD L
theorem aev{J z l L}(p:J.Perm z)(q:l.Perm L):pd J l=pd z L:=by
 rw[ajg];unfold pd;rw[aiZ,aiZ];constructor
 .intro h x B;have:=akp (h x (q.mem_iff.mpr B));rw[p.count_eq,q.count_eq]at this;exact aiv this
 .intro h x B;have:=akp (h x (q.mem_iff.mp B));rw[←p.count_eq,←q.count_eq]at this;exact aiv this
theorem vQ{J z r B}(p:J.Perm z)(L:r.1.Perm B.1)(O:r.2.Perm B.2):(lW J r).Perm (lW z B):=by
 rw[al3];intro k;unfold lW;rw[ajk,ajk,cI,cI,p.count_eq,L.count_eq,O.count_eq]
structure Alk(h h':Hs):Prop where
 k:h.1.Perm h'.1
 l:h.2.length=h'.2.length
 a:∀i,(rmD h.2 i).1.Perm (rmD h'.2 i).1
 b:∀i,(rmD h.2 i).2.Perm (rmD h'.2 i).2
theorem Alk.hand{h h'}(x:Alk h h'):∀o,(dj h.1 h.2 o).Perm (dj h'.1 h'.2 o):=by
 refine gZ x.k λo i z=>?_;rw[ip,ip];exact vQ z (x.a i) (x.b i)
theorem Alk.next{h h'}(x:Alk h h') o:cn h o=cn h' o:=by
 unfold cn nextOf;rw[x.l];apply aj3;intro i _;rw[aev (x.hand o) (x.a i)]
theorem tL{ks z o i}:dP ks z (o++[i])↔dP ks z o/\i∈nextOf z (dj ks z o) o:=⟨dQ,λh=>bw h.1 h.2⟩
def Two(h h':Hs):Prop:=∀o,dP h.1 h.2 o->cn h o=cn h' o
theorem aeU{h h' z}(x:Alk h' z):Two h h'↔Two h z:=by
 constructor
 .intro t o g;rw[t o g,x.next o]
 .intro t o g;rw[t o g,x.next o]
theorem Two.gone{h h'}(t:Two h h'):∀o,dP h.1 h.2 o↔dP h'.1 h'.2 o:=by
 refine gZ ⟨λ_=>cU _ _,λ_=>cU _ _⟩ λo i z=>?_;rw[tL,tL,←z];constructor
 .rintro⟨g,m⟩;refine⟨g,?_⟩;have:=t o g;simp_all
 .rintro⟨g,m⟩;refine⟨g,?_⟩;have:=t o g;simp_all
theorem oN{h o o'}(g:dP h.1 h.2 o)(z:dP h.1 h.2 o')(e:bG o=bG o'):cn h o=cn h o':=by
 have p:=dW (br o g) (br o' z) e;exact lZ (lP g z p) p
theorem afA{h h':Hs}{L B:List (List Nat)}(s:cz h L)(s':cz h' B)(x:∀o∈L,∃o'∈B,bG o'=bG o/\cn h' o'=cn h o):Two h h':=by
 have z:∀o,dP h.1 h.2 o->dP h'.1 h'.2 o->cn h o=cn h' o:=λo g g'=>by
  obtain⟨O,S,Y⟩:=ah8.mp (s.all o g);obtain⟨o2,m2,e2,n2⟩:=x O S;rw[←oN (s.gone O S) g Y,←n2];exact oN (s'.gone o2 m2) g' (e2.trans Y)
 have go:∀o,dP h.1 h.2 o->dP h'.1 h'.2 o:=by
  refine gZ (λ_=>cU _ _) λo i Z g=>?_;obtain⟨J,g2⟩:=dQ g;refine bw (Z J) ?_;have:nextOf h.2 (dj h.1 h.2 o) o=nextOf h'.2 (dj h'.1 h'.2 o) o:=z o J (Z J);rw[←this];exact g2
 exact λo g=>z o g (go o g)
theorem agk{h h' J z}(s:cz h J)(s':cz h' z)(t:Two h h'):J.length=z.length/\∀o∈J,∃o'∈z,bG o'=bG o/\cn h' o'=cn h o:=by
 constructor
 .have p:=(ajt s.nd s'.nd).mpr λb=>by
   constructor
   .intro m;obtain⟨o,B,rfl⟩:=ah8.mp m;exact s'.all o ((t.gone o).mp (s.gone o B))
   .intro m;obtain⟨o,B,rfl⟩:=ah8.mp m;exact s.all o ((t.gone o).mpr (s'.gone o B))
  have:=p.length_eq;simp_all
 .intro o B;have g:=s.gone o B;have L:=(t.gone o).mp g;obtain⟨o',O,S⟩:=ah8.mp (s'.all o L);exact⟨o',O,S,by rw[oN (s'.gone o' O) L S,t o g]⟩
inductive CmI(D:Addr)(qs:List Rm)(H:Hp)(i:Nat)(ys:List V)(H':Hp):Prop
 |mk:H' D=some (.lst ys)->Same H H'->ys.length=(qs.take i).length->(∀(j:Nat) (x:V) (r:Rm),ys[j]?=some x->qs[j]?=some r->RoomAt (fb D H') x r)->CmI D qs H i ys H'
theorem vt{K:PySem.W.Frag}{nl:Nat}{ix:List Nat}{te:TE}{σ:L2.St}{H1:Hp}{D a:Addr}{Q:VK}{vs:List V}{J:List Rm}{F:Rm->Rm}(ha:H1 a=some (.lst vs))(hR:RoomsAt H1 vs J)(nD:H1 D=none)(hl:J.length<=1000)
 (hc:∀x y,(((cC nl ix σ).set 0 (some x)).set 1 (some y)).drop nl=ix.map λj=>(σ[j]?).join)
 (he:∀(H:Hp) (r:Rm) (Y Z:Addr) (R:VK),r∈J->H Y=some (.lst (r.1.map V.str))->H Z=some (.lst (r.2.map V.str))->Same H1 H->(∀H' x,Same H H'->RoomAt (aeI H H') x (F r)->R x H')->te (((cC nl ix σ).set 0 (some (.ref Y))).set 1 (some (.ref Z))) H R)
 (hd:∀H' S,Same H1 H'->H' D=some (.lst S)->RoomsAt H' S (J.map F)->Q (.ref D) H'):gK nl ix (vh K 2 (dr (aR 0) (dr (aR 1) vj))) nh te σ (Itl K a) H1 D Q:=by
 have as:1000000<sizeLine:=by decide
 have vl:=hR.1;refine bB (xs:=vs) (CmI D (J.map F) H1) (.mk af (aK nD) rfl (λj x c e=>nomatch e)) (λi ys H' ⟨e,_,_,_⟩=>e) (λi ys H' ⟨_,s,_,_⟩=>aAA (s _ _ ha)) ?_ ?_
 .rintro i ys H x hx ⟨hD,s,yl,al⟩;have hi:i<vs.length:=(ahW.mp hx).1;have L:i<J.length:=by lia
  obtain⟨t,Y,Z,rfl,ht,ad,ae⟩:=hR.2 i x _ hx (ahU L);have ah:ys.length=i:=by rw[yl,aif,ahY];lia
  refine⟨t,_,rfl,aAB (s _ _ ht),rfl,?_⟩;refine⟨_,_,rfl,_,_,rfl,rfl,⟨by simp,hc _ _⟩,?_⟩;unfold nh;dsimp only;refine mZ (B:=False) ?_;refine he H J[i] Y Z _ (aiq L) (s _ _ ad) (s _ _ ae) s λH2 x s2 pa=>?_;refine⟨s2 _ _ hD,by lia,nx hi (.mk af (λb u e=>by rw[ai (ag e nD)];exact s2 _ _ (s _ _ e)) ?_ λj y c O ec=>?_)⟩
  .rw[ahZ,ah,aif,ahY];simp;lia
  .by_cases hj:j<ys.length
   .rw[aik hj]at O;exact (al j y c O ec).same (nz s2)
   .rw[aio (by lia)]at O;have z:j-ys.length=0:=by
     have:=(ahW.mp O).1;simp at this;lia
    have ji:j=i:=by lia
    rw[z]at O;cases O;subst ji;rw[ah1,ahU L]at ec;cases ec;exact pa.same (w9 hD)
 .rintro ys H ⟨hD,s,yl,al⟩;refine hd H ys s hD ⟨?_,λj x c e1 e2=>(al j x c e1 e2).same offD_all⟩;rw[yl,aif,ahY];lia
def nmH(h:Hs)(a b:Str):Hs:=(h.1.map (nmF a b),h.2.map λr=>(r.1.map (nmF a b),r.2.map (nmF a b)))
structure aek(h:Hs)(a b:Str)(h':Hs):Prop where
 al:Alk (nmH h a b) h'
 ok:aE h'
 few:wM h'
abbrev ahM:Pos:=ag2 stN
abbrev Tb(Pt:Addr)(H:Hp):Prop:=TabAt Pt ahM qlN H
def age(Pt:Addr):Sp:=λvs H Q _=>∃(v:V) (h:Hs) (a b:Str),vs=[v,.str a,.str b]/\HouseAt H v h/\aE h/\h.2.length<=12/\aW a/\Tb Pt H/\∀u h' H',Same (ntH H) H'->Tb Pt H'->HouseAt H' u h'->aek h a b h'->Q u H'
theorem scO:aA ["house","first","other","keys","rooms","named"] ["house","first","other"] (ak aT):=scM rfl rfl rfl rfl (by decide +kernel)
theorem ndO:(["locks","within","named"]:List Str).Nodup:=by decide +kernel
theorem frO:∀x∈nD.sc.names,x.2=.free->(ak aT).names.lookup x.1=some .cell:=by decide +kernel
theorem inO:∀x∈(["first","other"]:List Str),(x,NameKind.free)∈nD.sc.names:=by decide +kernel
def acR(σ:L2.St):Prop:=∃a b,σ[1]?=some (some a)/\σ[2]?=some (some b)
def tR(σ:L2.St):Str->Option V:=λx=>if x = "first" then (σ[1]?).join else if x = "other" then (σ[2]?).join else none
theorem jr{σ a}(e:σ[1]?=some (some a)):tR σ "first" = some a:=by
 unfold tR;simp_all
theorem jA{σ a}(e:σ[2]?=some (some a)):tR σ "other" = some a:=by
 unfold tR;rw[e]
 rfl
theorem af3{N:List _}(h1:N[1]?=some ("first" : Str))(h2:N[2]?=some ("other" : Str)):∀σ,acR σ->∀x∈(["first","other"]:List Str),∃(j:Nat) (v:V),N[j]?=some x/\σ[j]?=some (some v)/\tR σ x=some v:=by
 rintro σ ⟨a,b,z,B⟩ x hx;rcases ain.mp hx with rfl|hx
 .exact⟨1,a,h1,z,jr z⟩
 .rw[ah5]at hx;subst hx;exact⟨2,b,h2,B,jA B⟩
def leB(a b:Str):Bool:=!Spec.ltCps b.cps.toList a.cps.toList
theorem leB_iff{a b}:leB a b=true↔leS a b:=by unfold leB leS;rw[amx]
def fq(l:List Str):List Str:=l.mergeSort leB
theorem jB l:(fq l).Perm l:=List.mergeSort_perm l _
theorem zy a b:leS a b\/leS b a:=by
 rcases List.le_total _ b.cps.toList with h|h
 .exact .inl (leS_iff.mpr h)
 .exact .inr (leS_iff.mpr h)
theorem nI l:(fq l).Pairwise leS:=by
 have h:=List.pairwise_mergeSort (le:=leB) (λa b c h1 h2=>leB_iff.mpr (u0 (leB_iff.mp h1) (leB_iff.mp h2))) (λa b=>by
  rw[ak9,leB_iff,leB_iff];exact zy a b) l
 exact h.imp leB_iff.mp
theorem wB{l z}(pm:z.Perm l)(B:sortedS z=true):z=fq l:=lK (eU B) (nI l) (pm.trans (jB l).symm)
theorem sortS_mem{l x}:x∈fq l↔x∈l:=(jB l).mem_iff
theorem dZ l:(fq l).length=l.length:=(jB l).length_eq
def nmR(a b:Str)(r:Rm):Rm:=(fq (r.1.map (nmF a b)),r.2.map (nmF a b))
def yT(h:Hs)(a b:Str):Hs:=(h.1.map (nmF a b),h.2.map (nmR a b))
theorem ael{a b k}(z:aW a)(kk:aW k):aW (nmF a b k):=by
 unfold nmF;split<;>grind
theorem rS{a b}{ks:List _}(B:aW a)(kk:∀k∈ks,aW k):∀k∈ks.map (nmF a b),aW k:=λk J=>by
 obtain⟨z,L,rfl⟩:=ah8.mp J;exact ael B (kk z L)
theorem agG{h a b}(ok:aE h)(B:aW a):aE (yT h a b):=by
 refine⟨rS B ok.kk,by unfold yT;rw[ahY];exact ok.kl,λr hr=>?_,by unfold yT;rw[ahY];exact ok.rl⟩;obtain⟨z,J,rfl⟩:=ah8.mp hr;have o:=ok.rs z J;unfold nmR;refine⟨λk L=>rS B o.lk k (sortS_mem.mp L),?_,?_,nI _,rS B o.kk,?_⟩
 .rw[dZ,ahY];exact o.l1
 .rw[dZ,ahY];exact o.l4
 .rw[ahY];exact o.kl
theorem afx{h a b}:Alk (nmH h a b) (yT h a b):=by
 have at1:∀i,rmD (nmH h a b).2 i=((rmD h.2 i).1.map _,(rmD h.2 i).2.map _):=λi=>by
  unfold nmH rmD;rw[ah1];cases h.2[i]?<;>rfl
 have z:∀i,rmD (yT h a b).2 i=nmR a b (rmD h.2 i):=λi=>by
  unfold yT rmD;rw[ah1];cases h.2[i]? with
  |some r=>rfl
  |none=>
   show ([],[])=(fq [],[]);rw[alH (dZ [])]
 refine⟨anz _,by unfold nmH yT;simp_all,λi=>?_,λi=>?_⟩
 .rw[at1,z];exact (jB _).symm
 .rw[at1,z];exact anz _
theorem oo{α:Type}[DecidableEq α]:∀{L M:List α},L.Nodup->(∀k∈L,k∈M)->L.length<=M.length
 |[],_,_,_=>ail _
 |x::L,M,nd,h=>by
  have z:=ajm.mp nd;have J:=h x aid;have:=oo  (M:=M.erase x) z.2 λk B=>(alJ (by grind)).mpr (h k (aih _ B));grind
theorem afm{h a b}(l:h.2.length<=12)(ok:aE h):wM (yT h a b):=by
 intro L nd O;have:L.length<=((yT h a b).2.flatMap (·.1)).length:=by
  refine oo nd λk S=>?_;grind
 have z:∀B:List Rm,(∀r∈B,r.1.length<=4)->(B.flatMap (·.1)).length<=4*B.length:=λB=>by
  induction B<;>grind
 have h2:=z (yT h a b).2 λr hr=>by
  obtain⟨y,J,rfl⟩:=ah8.mp hr;show (fq _).length<=4;rw[dZ,ahY];exact (ok.rs y J).l4
 have Y:(yT h a b).2.length=h.2.length:=by unfold yT;rw[ahY]
 lia
theorem agc{f c Pt:Addr}{fd:FuncData}(F:Fun K "house_of_one" "house_of_one" aT f fd)(hc:fd.code=.ref c)(C:CodeHd base c Pt)(Bt:base.BuiltinsAt mg Pt)(aI:mg "sorted" = none):bx P w K mg base CX0 2 f fd ["house","first","other"] (age Pt):=by
 refine F.okC hc scO (λvs H Q E h=>?_) (λA outer s H vs Q E hr h=>?_)
 .obtain⟨v,h,a,b,rfl,_⟩:=h
  rfl
 .have hu:=gm hr;obtain⟨v,h,a,b,rfl,hh,ok,ap,ka,tb,q⟩:=h;have J:=yv (X:=(ur CX0 P w K mg base ["house","first","other","keys","rooms","named"] "house_of_one" (ak aT) f (.ref c) A outer s H E).nox) (sc:=nD.sc) (fr:=["first","other"]) (vals:=tR) (G:=acR) frO inO (af3 rfl rfl);refine⟨_,(ao (oR (pv 0) (gb rfl (au (aq (i:=3) scO.nd rfl (.inl rfl)) (au (aq (i:=4) scO.nd rfl (.inl rfl)) aO))))
   (ao (aga (i:=5) (c:=c) (Pt:=Pt) (ql:=qlN) scO.nd rfl (.inr rfl) rfl rfl rfl (by exact λx hx e=>.inl (frO x hx e)) rfl C Bt rfl)
   (av (aM (gC (ae (vS (N:=nD) (k:=0) scN aex hr J (i:=5) rfl (Or.inr (.inl rfl)) (λ_ _ _ _ _=>rfl) (ae (pv 3) aj))
    (ae (adu (outer:=ak aT) (N:=["house","first","other","keys","rooms","named"]) (N':=["locks","within","named"]) (nl:=2) (ix:=[5]) rfl rfl rfl (aV (pv 4))
     (λ_ _ _ _=>(bZ (K:=K) (n:=2) rfl rfl (au (aq (i:=0) ndO rfl (.inl rfl) (.inr rfl)) (au (aq (i:=1) ndO rfl (.inl rfl) (.inr rfl)) aO)))) (λ_ _ _ _=>bt)
     (λpins σ C fp L H₀ I0 hf _ _=>(gC (ae (ay (mN (K:=K) rfl) rfl aI aj6 (ae (vS (N:=nD) (k:=0) (G:=λ_=>acR σ) (vals:=λ_=>tR σ) scN aex hr (λpins' O H' s' I' g=>qU (J pins σ H₀ L I0 g) (um I0 frO) hf pins' O H' s' I' ⟨⟩) (i:=2) rfl (by first|exact Or.inr (.inl rfl) | exact Or.inr (.inr rfl)) (λ_ _ _ _ _=>rfl) (ae (pv 0) aj)) aj))
      (ae (vS (N:=nD) (k:=0) (G:=λ_=>acR σ) (vals:=λ_=>tR σ) scN aex hr (λpins' O H' s' I' g=>qU (J pins σ H₀ L I0 g) (um I0 frO) hf pins' O H' s' I' ⟨⟩) (i:=2) rfl (by first|exact Or.inr (.inl rfl) | exact Or.inr (.inr rfl)) (λ_ _ _ _ _=>rfl) (ae (pv 1) aj)) aj))))) aj))))))),?_⟩
  generalize hcl:jJ _ nD.sc.names []=cl at J⊢;have a3:=hh;obtain⟨t,kA,rA,vs,rfl,h1,h2,h3,h4⟩:=hh;refine⟨_,rfl,t,_,rfl,aAB h1,rfl,_,_,rfl,_,_,rfl,rfl,?_⟩;refine⟨tb,λfN c' H1 md=>?_⟩;have s1:=ad7 md tb;obtain⟨_,aw,ac,ad,a6⟩:=md;have k1:∀{z:Addr} {xs:List V},H z=some (.lst xs)->H1 z=some (.lst xs):=λe=>s1 _ _ (jb e λ_ z=>nomatch z);have a7:1000000<sizeLine:=by decide
  have S:H1 fN=some (fnO nD cl fN c'):=by rw[←hcl];exact ad
  clear ad;refine⟨fN,c',rfl,S,_,rfl,⟨_,_,rfl,rfl⟩,S,ac,_,rfl,kA,h.1,a,b,rfl,jr rfl,jA rfl,k1 h2,ok.kl,λD H2 Z a8 eD=>?_⟩;unfold ax;dsimp only;refine aH _ _ _ _ _ _ _ _ _ ?_;refine⟨_,rfl,rA,rfl,⟨_,aAA (Z _ _ (k1 h3))⟩,λD2 aA=>?_⟩;have hR:RoomsAt H2 vs h.2:=⟨h4.1,λi v r x y=>((h4.2 i v r x y).nt.same s1).same Z⟩;refine vt (F:=nmR a b) (Z _ _ (k1 h3)) hR aA ok.rl (λx y=>rfl) (λH3 r la lb R hr ha hb s3 aD=>?_) λH3 aE s3 aF aG=>?_
  .have o:=ok.rs r hr;have ag:=Z.trans s3;have f3:=ag _ _ S;have c3:=ag _ _ ac;refine⟨fN,c',rfl,f3,_,rfl,⟨_,_,rfl,rfl⟩,f3,c3,_,rfl,la,r.1,a,b,rfl,jr rfl,jA rfl,ha,by have:=o.l4;lia,λD3 H4 s4 n4 e4=>?_⟩;refine⟨D3,r.1.map (nmF a b),rfl,aAA e4,by rw[ahY];have:=o.l4;lia,λl bh nl hp hs=>?_⟩;have es:=wB hp hs;subst es;have s5:Same H4 (upd H4 l (.lst ((fq (r.1.map (nmF a b))).map V.str))):=aK nl;have e5:(upd H4 l (.lst ((fq (r.1.map (nmF a b))).map V.str))) l=some (.lst ((fq (r.1.map (nmF a b))).map V.str)):=af;generalize upd H4 l (.lst ((fq (r.1.map (nmF a b))).map V.str))=H5 at *;have B:=s4.trans s5;refine⟨fN,c',rfl,B _ _ f3,_,rfl,⟨_,_,rfl,rfl⟩,B _ _ f3,B _ _ c3,_,rfl,lb,r.2,a,b,rfl,jr rfl,jA rfl,B _ _ hb,o.kl,λD5 H6 s6 n6 e6=>?_⟩;refine⟨fo,λT nT=>?_⟩;have ah:=B.trans s6;have s7:Same H6 (upd H6 T (.tup [.ref l,.ref D5])):=aK nT;refine aD _ _ (ah.trans s7) ⟨T,l,D5,rfl,oz (ah.free nT) af,oz (s4.free nl) (s7 _ _ (s6 _ _ e5)),oz (B.free n6) (s7 _ _ e6)⟩
  .refine⟨fo,λp np=>?_⟩;have s4:Same H3 (upd H3 p (.tup [.ref D,.ref D2])):=aK np;have Y:=s3.trans s4;refine q _ (yT h a b) _ (kJ s1 (wm (Z.trans Y))) (aw.same (Z.trans Y)) ⟨p,D,D2,aE,rfl,af,Y _ _ eD,s4 _ _ aF,aG.same s4⟩ ⟨afx,agG ok ka,afm ap ok⟩
def xF(Pt:Addr):Sp:=λvs H Q _=>∃(v:V) (h:Hs) (a b:Str),vs=[v,.str a,.str b]/\HouseAt H v h/\aE h/\wM h/\fe h/\h.2.length<=8/\aW a/\aW b/\a≠b/\(a∈aG h\/a∈aw h)/\(b∈aG h\/b∈aw h)/\Tb Pt H/\∀(bb:Bool) H',(bb=true↔Two h (nmH h a b))->Same (ntH H) H'->Tb Pt H'->Q (.bl bb) H'
theorem DictL.getM{F H kvs z}(d:DictL F H kvs z){k v}(m:(k,v)∈kvs):∃o∈z,k=kB o/\∃l ,v=.ref l/\H l=some (.lst (F o)):=by
 obtain⟨i,hi,e⟩:=ajJ m;have J:i<z.length:=by rw[←d.len];exact hi
 have B:kvs[i]?=some (k,v):=by simp_all
 refine⟨z[i],aiq _,?_,d.at_ i _ _ B (ahU _)⟩;have a:(kvs.map (·.1))[i]?=some k:=by rw[ah1,B];rfl
 rw[d.keys]at a;simp_all
theorem DictL.has{F H kvs z}(d:DictL F H kvs z){o}(m:o∈z):∃v,(kB o,v)∈kvs:=by
 have:kB o∈kvs.map (·.1):=by rw[d.keys];exact ah8.mpr ⟨o,m,rfl⟩
 grind
def adj(H:Hp)(v:V):List V:=match v with
 |.ref l=>(match H l with
  |some (.lst xs)=>xs
  |_=>[])
 |_=>[]
theorem jD{H l xs}(e:H l=some (.lst xs)):adj H (.ref l)=xs:=by
 unfold adj;simp_all
theorem aan{h h' o o'}(e:nxV h o=nxV h' o'):cn h o=cn h' o':=by
 have inj:∀(a b:List _),(a.map λi=>V.int (i:Nat))=(b.map λi=>V.int (i:Nat))->a=b:=λa=>by
  induction a with
  |nil=>simp_all
  |cons x a z=>intro b e;cases b with
   |nil=>cases e
   |cons y b=>
    rw[air,air,akq]at e;have:=Int.ofNat.inj (V.int.inj e.1);rw[this,z b e.2]
 exact inj _ _ e
abbrev o8(ns:List Nat):List PyData:=ns.map λi=>PyData.int ((i:Nat):Int)
theorem pF:∀z:_,PyData.canLayAll0 (o8 z)=true
 |[]=>rfl
 |n::z=>pF z
theorem nQ:∀z:_,PyData.depthAll (o8 z)=0
 |[]=>rfl
 |n::z=>by
  rw[o8,air];have:=nQ z;simp only[PyData.depthAll,this]
  rfl
theorem sZ:∀a b:List Nat,PyData.eqvAll (o8 a) (o8 b)=true↔a=b
 |[],[]=>by simp[PyData.eqvAll]
 |[],y::b=>by simp[PyData.eqvAll]
 |x::a,[]=>by simp[PyData.eqvAll]
 |x::a,y::b=>by
  have:=sZ a b;unfold o8 at this⊢;simp only[air,PyData.eqvAll,PyData.eqv,aiK,this,akq,ait];constructor
  .rintro⟨p,q⟩;exact⟨Int.ofNat.inj p,q⟩
  .rintro⟨p,q⟩;exact⟨by rw[p],q⟩
theorem mf{H}:∀z:_,SeesAll H (z.map λi=>V.int (i:Nat)) (o8 z)
 |[]=>.nil
 |n::z=>.cons (.int _) (mf z)
theorem sF:aA ["house","first","other"] ["house","first","other"] (ak iB):=scM rfl rfl rfl rfl (by decide +kernel)
theorem aaV{Pt f fS fT fP fO:Addr}{fd ac ad af ag:FuncData}{dE:Nat}(F:Fun K "may_be_one" "may_be_one" iB f fd)(bJ:bx P w K mg base CX0 7 fS ac ["thing","most"] oq)(gc:Cal K mg "require_small" ["thing","most"] fS ac)
 (jS:bx P w K mg base CX0 8 fT ad ["house","first","other"] agi)(dh:Cal K mg "require_two_kinds" ["house","first","other"] fT ad)(dk:bx P w K mg base CX0 3 fP af ["house"] oy)(bp:Cal K mg "steps_of" ["house"] fP af)
 (p7:bx P w K mg base CX0 2 fO ag ["house","first","other"] (age Pt))(gF:Cal K mg "house_of_one" ["house","first","other"] fO ag)(cw:mg "MOST_ROOMS_COMPARED" = some (.int 8 dE)):bx P w K mg base CX0 9 f fd ["house","first","other"] (xF Pt):=by
 refine F.ok sF (λvs H Q E h=>?_) (λaY A outer s H vs Q E hr h=>?_)
 .obtain⟨v,h,a,b,rfl,_⟩:=h
  rfl
 .have hu:=gm hr;obtain⟨v,h,a,b,rfl,hh,ok,few,hf,l8,ka,kb,ne,ma,mb,tb,q⟩:=h;refine⟨_,(ao (bX (pcl bJ gc (hr.mono (by decide:7<=8)) rfl (ae (pv 0) (ae (qZ (v:=.int 8) rfl cw ⟨dE,rfl⟩) aj))))
   (ao (bX (pcl jS dh hr rfl (ae (pv 0) (ae (pv 1) (ae (pv 2) aj)))))
   (av (aM (gE abT (pcl dk bp (hr.mono (by decide:3<=8)) rfl (ae (pv 0) aj)) (pcl dk bp (hr.mono (by decide:3<=8)) rfl (ae (pcl p7 gF (hr.mono (by decide:2<=8)) rfl (ae (pv 0) (ae (pv 1) (ae (pv 2) aj)))) aj)) (aZ _)))))),?_⟩
  refine⟨_,rfl,v,h,8,rfl,hh,ok,l8,λH1 s1=>?_⟩;refine⟨_,rfl,_,rfl,_,rfl,v,h,a,b,rfl,hh.same s1,ok,hf,ka,kb,ne,ma,mb,λH2 s2=>?_⟩;have ah:=s1.trans s2;refine⟨_,rfl,v,h,rfl,hh.same ah,ok,few,by lia,λS kvs os H3 s3 nS eS dS aS=>?_⟩;have Z:=ah.trans s3;refine⟨_,rfl,_,rfl,_,rfl,v,h,a,b,rfl,hh.same Z,ok,by lia,ka,tb.same Z,λu h' H4 s4 aq ar nm=>?_⟩;have as:h'.2.length<=12:=by
   rw[←nm.al.l];unfold nmH;rw[ahY];lia
  refine⟨u,h',rfl,ar,nm.ok,nm.few,as,λS' B bd H5 s5 be au L Y=>?_⟩;have aa:Same (ntH H3) H5:=s4.trans s5;have O:DictL (nxV h) H5 kvs os:=⟨dS.keys,λi kv o x y=>let ⟨l,e,z⟩:=dS.at_ i kv o x y;⟨l,e,aa _ _ (jb z λ_ q=>nomatch q)⟩⟩;refine⟨S,S',kvs,B,λv y=>decide (adj H5 v=adj H5 y),rfl,rfl,aa _ _ (jb eS λ_ q=>nomatch q),au,Nat.lt_of_succ_lt hu,λk v y mv ey=>?_,?_⟩
  .obtain⟨o,_,_,l,rfl,el⟩:=O.getM mv;obtain⟨o',_,_,l',rfl,J⟩:=L.getM (iE ey);refine⟨.list (o8 (cn h o)),.list (o8 (cn h' o')),.lst el (mf _),.lst J (mf _),by simp only[PyData.canLay0,pF],by simp only[PyData.canLay0,pF],?_,?_⟩
   .simp only[PyData.depth,nQ];exact aiA (ajn (show 1+min (0+1) (0+1)<=64 by decide) _) hr.units
   .show PyData.eqvAll (o8 (cn h o)) (o8 (cn h' o'))=_;rw[ajg,sZ,ajr,jD el,jD J];exact⟨λz=>by unfold nxV;rw[z],aan⟩
  .refine q _ H5 ?_ (kJ (wm Z) aa) (aq.same s5);rw[aeU nm.al,aiK,ait,aiZ];constructor
   .rintro⟨_,al⟩;refine afA aS Y λo ho=>?_;obtain⟨x,mx⟩:=O.has ho;have hit:=al _ mx;unfold adE at hit;obtain⟨o1,m1,e1,l,rfl,el⟩:=O.getM mx;dsimp only at hit;cases hv:cD B (kB o) with
    |none=>rw[hv]at hit;cases hit
    |some y=>
     rw[hv]at hit;dsimp only at hit;obtain⟨o2,m2,e2,l',rfl,J⟩:=L.getM (iE hv);rw[ajr,jD el,jD J]at hit;refine⟨o2,m2,(ku e2).symm,?_⟩;rw[←aan hit];exact oN (aS.gone o1 m1) (aS.gone o ho) (ku e1).symm
   .intro t;obtain⟨ln,al⟩:=agk aS Y t;refine⟨by rw[O.len,L.len,ln],λ⟨k,x⟩ mx=>?_⟩;obtain⟨o,ho,rfl,l,rfl,el⟩:=O.getM mx;obtain⟨o',m',e',n'⟩:=al o ho;unfold adE;dsimp only;cases hv:cD B (kB o) with
    |none=>
     have:(cD B (kB o)).isSome=true:=val_some.mpr (by rw[L.keys,uB,←e'];exact ah8.mpr ⟨o',m',rfl⟩);rw[hv]at this;cases this
    |some y=>
     dsimp only;obtain⟨o2,m2,e2,l',rfl,J⟩:=L.getM (iE hv);rw[ajr,jD el,jD J];unfold nxV;rw[oN (Y.gone o2 m2) (Y.gone o' m') ((ku e2).symm.trans e'.symm),n']
structure LockMap(B H:Hp)(kvs:List (Key×V))(D:Str->List Nat):Prop where
 non:∀x,cD kvs (.inr x)=none->D x=[]
 som:∀x v,cD kvs (.inr x)=some v->∃a:Addr,v=.ref a/\B a=none/\H a=some (.lst ((D x).map λi=>V.int (i:Nat)))
 inj:∀x y a,cD kvs (.inr x)=some (.ref a)->cD kvs (.inr y)=some (.ref a)->x=y
theorem LockMap.congr{B H kvs D z}(h:LockMap B H kvs D)(e:∀x,D x=z x):LockMap B H kvs z:=by
 have:=funext e;simp_all
theorem LockMap.keep{B H H' kvs D}(h:LockMap B H kvs D)(s:∀a xs,B a=none->H a=some (.lst xs)->H' a=some (.lst xs)):LockMap B H' kvs D:=
 ⟨h.non,λx v e=>let ⟨a,J,z,L⟩:=h.som x v e;⟨a,J,z,s _ _ z L⟩,h.inj⟩
theorem LockMap.more{B H kvs D}(h:LockMap B H kvs D){z a i}(e:cD kvs (.inr z)=some (.ref a)):
 LockMap B (upd H a (.lst ((D z++[i]).map λi=>V.int (i:Nat)))) kvs (λx=>if x=z then D x++[i] else D x):=by
 refine⟨λx J=>?_,λx v J=>?_,h.inj⟩
 .have:x≠z:=λw=>by grind
  rw[if_neg this];exact h.non x J
 .obtain⟨b,rfl,h1,h2⟩:=h.som x v J;refine⟨b,rfl,h1,?_⟩;by_cases w:x=z
  .subst w;rw[e]at J;cases J;rw[af,if_pos rfl]
  .have:b≠a:=λq=>by subst q;exact w (h.inj x z b J e)
   rw[ai this,if_neg w];exact h2
theorem LockMap.fresh{B H kvs D}(h:LockMap B H kvs D){z l i}(e:cD kvs (.inr z)=none)(S:H l=none)(bl:B l=none):
 LockMap B (upd H l (.lst ([i].map λi=>V.int (i:Nat)))) (eG kvs (.inr z) (.ref l)) (λx=>if x=z then D x++[i] else D x):=by
 refine⟨λx J=>?_,λx v J=>?_,λx y a J L=>?_⟩
 .rw[dm]at J;by_cases w:x=z
  .simp_all
  .rw[if_neg (by grind)]at J;rw[if_neg w];exact h.non x J
 .rw[dm]at J;by_cases w:x=z
  .subst w;rw[if_pos rfl]at J;cases J;refine⟨l,rfl,bl,?_⟩;rw[af,if_pos rfl,h.non x e];rfl
  .rw[if_neg (by grind)]at J;obtain⟨b,rfl,h1,h2⟩:=h.som x v J;refine⟨b,rfl,h1,?_⟩;rw[ai (ag h2 S),if_neg w];exact h2
 .rw[dm]at J L;by_cases w:x=z<;>by_cases O:y=z
  .rw[w,O]
  .subst w;rw[if_pos rfl]at J;cases J;rw[if_neg (by grind)]at L;obtain⟨b,q,_,h2⟩:=h.som y _ L;simp_all
  .subst O;rw[if_pos rfl]at L;cases L;rw[if_neg (by grind)]at J;obtain⟨b,q,_,h2⟩:=h.som x _ J;cases q;grind
  .rw[if_neg (by grind)]at J;rw[if_neg (by grind)]at L;exact h.inj x y a J L
def pR(k:Str):Nat->List Rm->List Nat
 |_,[]=>[]
 |i,r::rs=>List.replicate (r.1.count k) (2*i+1)++(List.replicate (r.2.count k) (2*i+2)++pR k (i+1) rs)
def plc(h:Hs)(k:Str):List Nat:=List.replicate (h.1.count k) 0++pR k 0 h.2
def zG(k:Str):List Rm->List Int
 |[]=>[]
 |r::rs=>((r.1.count k:Nat):Int)::((r.2.count k:Nat):Int)::zG k rs
def row(h:Hs)(k:Str):List Int:=((h.1.count k:Nat):Int)::zG k h.2
def plF:Nat->List Int->List Nat
 |i,a::b::rest=>List.replicate a.toNat (2*i+1)++(List.replicate b.toNat (2*i+2)++plF (i+1) rest)
 |_,_=>[]
theorem ae1(k:Str):∀(z:List Rm) (i:Nat),plF i (zG k z)=pR k i z
 |[],_=>rfl
 |r::z,i=>by
  show List.replicate _ _++(List.replicate _ _++plF (i+1) (zG k z))=_;rw[ae1 k z (i+1),aiR,aiR]
  rfl
theorem oV k r:∀z i,pR k i (z++[r])=pR k i z++(List.replicate (r.1.count k) (2*(i+z.length)+1)++List.replicate (r.2.count k) (2*(i+z.length)+2))
 |[],i=>by
  show List.replicate _ _++(List.replicate _ _++[])=[]++_;simp_all
 |q::z,i=>by
  show List.replicate _ _++(List.replicate _ _++pR k _ (z++[r]))=(List.replicate _ _++(List.replicate _ _++pR k (i+1) z))++_;rw[oV k r z _,aim,aim,show i+1+z.length=i+(q::z).length by grind]
theorem sg{k v}:∀{z} {i},v∈pR k i z->2*i+1<=v/\v<=2*(i+z.length)
 |[],_,h=>by cases h
 |r::z,i,h=>by
  simp only[pR,aic,List.mem_replicate]at h;simp only[aiJ];rcases h with ⟨_,h⟩|⟨_,h⟩|h
  .lia
  .lia
  .have:=sg h;lia
theorem aaX(n a b:Nat):(List.replicate n a).count b=if a=b then n else 0:=by
 grind
theorem qN{k m}:∀{B J} {i},B.length=J.length->pR k i B=pR m i J->zG k B=zG m J
 |[],[],_,_,_=>rfl
 |[],_::_,_,e,_=>absurd e (by simp)
 |_::_,[],_,e,_=>absurd e (by simp)
 |r::B,q::J,i,e,h=>by
  have L:∀x O v,v<=2*i+2->(pR x (i+1) O).count v=0:=λx O v hv=>ali.mpr λz=>by
   have:=sg z;lia
  have c1:=aiO (·.count (2*i+1)) h;have c2:=aiO (·.count (2*i+2)) h;simp only[pR,ajk,aaX,L _ _ _ (show 2*i+1<=2*i+2 by lia),L _ _ _ (ah4 _)]at c1 c2;have S:=by simpa using c1
  have Y:=by simpa using c2
  simp only[pR,S,Y]at h;have Z:=alj (alj h);show _::_::zG k B=_::_::zG m J;rw[S,Y,qN (by simpa using e) Z]
theorem agr{h g k m}(l:h.2.length=g.2.length)(e:plc h k=plc g m):row h k=row g m:=by
 have z:∀x B,(pR x 0 B).count 0=0:=λx B=>ali.mpr λw=>by
  have:=sg w;lia
 have c:=aiO (·.count 0) e;unfold plc at c e;simp only[ajk,z]at c;have J:=by simpa using c
 rw[J]at e;unfold row;rw[J,qN l (alj e)]
theorem afW{k:Str}:∀{B:List Rm} {r:Rm} {i:Nat},B.getLast?=some r->k∈r.1->2*(i+B.length)-1∈pR k i B:=by
 intro B r i e J;obtain⟨ys,rfl⟩:=List.getLast?_eq_some_iff.mp e;rw[oV,ahZ,ai6];refine ah2 _ (ajU _ ?_);rw[List.mem_replicate];exact⟨λz=>by have:=List.count_pos_iff.mpr J;lia,by lia⟩
structure iW(h:Hs)(ks:List Str):Prop where
 nd:ks.Nodup
 mem:∀x,x∈ks↔x∈aG h\/x∈aw h
theorem xo{h g}(ok:aE g){k1 k2:List _}(L2:iW g k2)(e:∀m∈k2,∃k∈k1,plc h k=plc g m):g.2.length<=h.2.length:=by
 cases hl:g.2.getLast? with
 |none=>simp_all
 |some r=>
  have hr:=List.mem_of_getLast? hl;have L:=(ok.rs r hr).l1;obtain⟨m,J⟩:=List.exists_mem_of_length_pos L;have t:=afW (i:=0) hl J;have B:=(L2.mem m).mpr (.inr (aiM.mpr ⟨r,hr,J⟩));obtain⟨k,_,O⟩:=e m B;have:2*(0+g.2.length)-1∈plc h k:=by rw[O];exact ah2 _ t
  rcases aic.mp this with z|z
  .grind
  .have:=sg z;lia
theorem abb{a b:List _}(e:(a.map λi=>((i:Nat):Int))=b.map λi=>((i:Nat):Int)):a=b:=List.map_inj_right (by grind) |>.mp e
abbrev zI(o:List Nat):List Int:=o.map λi=>((i:Nat):Int)
abbrev prs(h:Hs)(ks:List Str):List (List Int×Str):=ks.map λk=>(zI (plc h k),k)
theorem adt{A:List _}(s:A.Pairwise λa b=>LL.lexP b a=false):(A.map (·.1)).Pairwise λa b=>¬ b<a:=by
 rw[aj2];refine s.imp fun {a b} z w=>?_;have:=LL.lexP_lt.mpr (.inl w);grind
theorem ae2{l z:List (List Int)}(a:l.Pairwise λa b=>¬ b<a)(b:z.Pairwise λa b=>¬ b<a)(p:l.Perm z):l=z:=
 p.eq_of_pairwise (by grind) a b
theorem nj{h ks}{A:List _}(p:A.Perm (prs h ks)):(A.map (·.1)).Perm (ks.map λk=>zI (plc h k)):=by
 have:=p.map (·.1);rwa [aiG]at this
theorem ym{h g}(z:aE h)(B:aE g){k1 k2}(O:iW h k1)(L2:iW g k2)(p:(k1.map λk=>zI (plc h k)).Perm (k2.map λk=>zI (plc g k))):h.2.length=g.2.length:=by
 refine Nat.le_antisymm (xo  (k1:=k2) z O λm J=>?_) (xo (k1:=k1) B L2 λm J=>?_)
 .obtain⟨k,L,e⟩:=ah8.mp (p.mem_iff.mp (aiH J));exact⟨k,L,abb e⟩
 .obtain⟨k,L,e⟩:=ah8.mp (p.symm.mem_iff.mp (aiH J));exact⟨k,L,abb e⟩
structure abv(φ:Str->Str)(h g:Hs):Prop where
 rooms:h.2.length=g.2.length
 beg:(h.1.map φ).Perm g.1
 lk:∀(i:Nat) r r',h.2[i]?=some r->g.2[i]?=some r'->(r.1.map φ).Perm r'.1/\(r.2.map φ).Perm r'.2
theorem sd{B}{k1 k2:List Str}(inj:∀x∈k1,∀y∈k1,B x=B y->x=y)(S:∀x∈k1,B x∈k2)(J:∀m∈k2,∃x∈k1,B x=m){l O:List Str}(sub:∀x∈l,x∈k1)(L:∀x∈O,x∈k2)(c:∀x∈k1,l.count x=O.count (B x)):(l.map B).Perm O:=by
 rw[al3];intro m;by_cases Y:m∈k2
 .obtain⟨x,Z,rfl⟩:=J m Y;rw[←c x Z];clear c
  induction l with
  |nil=>rfl
  |cons a l ih=>
   rw[air,alW,ih λy hy=>sub y (aih _ hy)];by_cases e:a=x
   .simp_all
   .have:B a≠B x:=λz=>e (inj _ (sub a aid) _ Z z);simp_all
 .rw[ali.mpr _,ali.mpr λz=>Y (L m z)];grind
theorem adU{h g:Hs}{k m:Str}:∀{z B:List Rm},zG k z=zG m B->∀(i:Nat) r q,z[i]?=some r->B[i]?=some q->r.1.count k=q.1.count m/\r.2.count k=q.2.count m
 |[],_,_,i,r,q,e,_=>by simp at e
 |_::_,[],_,i,r,q,_,e=>by simp at e
 |a::z,b::B,e,i,r,q,e1,e2=>by
  simp only[zG,akq]at e;obtain⟨c1,c2,c3⟩:=e;cases i with
  |zero=>cases e1;cases e2;exact⟨by lia,by lia⟩
  |succ i=>exact adU (h:=h) (g:=g) c3 i r q e1 e2
theorem acb{h g:Hs}(ai:aE h)(aj:aE g){k1 k2:List Str}(Y:iW h k1)(L2:iW g k2){A B:List (List Int×Str)}(pa:A.Perm (prs h k1))(pb:B.Perm (prs g k2))(e:A.map (·.1)=B.map (·.1)):
 (A.map (·.2)).Perm k1/\(B.map (·.2)).Perm k2/\(A.map (·.2)).length=(B.map (·.2)).length/\abv (bO (A.map (·.2)) (B.map (·.2))) h g:=by
 have e1:∀(x:Hs) (ks:List Str),(prs x ks).map (·.2)=ks:=λx ks=>by rw[aiG];exact amS _
 have p1:(A.map (·.2)).Perm k1:=e1 h k1▸pa.map (·.2);have p2:(B.map (·.2)).Perm k2:=e1 g k2▸pb.map (·.2);have ll:A.length=B.length:=by have:=aiO List.length e;simpa using this
 have Z:(A.map (·.2)).length=(B.map (·.2)).length:=by rw[ahY,ahY,ll]
 refine⟨p1,p2,Z,?_⟩;have p:=(nj pa).symm.trans (e▸nj pb);have l:=ym ai aj Y L2 p;have al:=p1.nodup_iff.mpr Y.nd;have am:=p2.nodup_iff.mpr L2.nd;have L:∀x∈k1,x∈A.map (·.2):=λx J=>p1.mem_iff.mpr J;have aa:∀x∈k1,row h x=row g (bO (A.map (·.2)) (B.map (·.2)) x):=λx J=>by
  have g1:=gP (L x J) Z;rw[ah1]at g1;obtain⟨b,eb,ac⟩:=ai7.mp g1;have hi:=(ahW.mp eb).1;obtain⟨a,ea⟩:∃a,A[(A.map (·.2)).idxOf x]?=some a:=⟨_,ahU (by lia)⟩;have ad:a.2=x:=by
   have t:=List.getElem_idxOf (aj5 (L x J));have t2:=ahW.mpr ⟨_,t⟩;rw[ah1,ea]at t2;exact ai0 t2
  have ef:a.1=b.1:=by
   have:=aiO (·[(A.map (·.2)).idxOf x]?) e;simp only[ah1,ea,eb,am5]at this;exact ai0 this
  obtain⟨u,_,hu⟩:=ah8.mp (pa.mem_iff.mp (ah7 ea));obtain⟨v,_,hv⟩:=ah8.mp (pb.mem_iff.mp (ah7 eb));rw[←hu]at ef ad;rw[←hv]at ef ac;subst ad;rw[←ac];exact agr l (abb ef)
 have inj:=λx J y hy z=>lL Z am x (L x J) y (L y hy) z;have O:=λx J=>p2.mem_iff.mp (qc Z (L x J));have S:∀m∈k2,∃x∈k1,bO (A.map (·.2)) (B.map (·.2)) x=m:=λm hm=>by
  obtain⟨j,hj⟩:=aiW (p2.mem_iff.mpr hm);have h1:=(ahW.mp hj).1;obtain⟨x,ex⟩:∃x,(A.map (·.2))[j]?=some x:=⟨_,ahU (by lia)⟩;have J:=ah7 ex;refine⟨x,p1.mem_iff.mp J,?_⟩;have g1:=gP J Z;have ei:(A.map (·.2)).idxOf x=j:=by
   obtain⟨aq,ar⟩:=ahW.mp ex;rw[←ar];exact al.idxOf_getElem j aq
  rw[ei,hj]at g1;exact (ai0 g1).symm
 refine⟨l,sd inj O S (λx J=>(Y.mem x).mpr (.inl (ajU _ J))) (λx J=>(L2.mem x).mpr (.inl (ajU _ J))) λx J=>?_,λi r r' er af=>?_⟩
 .have:=aa x J;unfold row at this;grind
 .have hr:=ah7 er;have ag:=ah7 af;have c:∀x∈k1,r.1.count x=r'.1.count _/\r.2.count x=r'.2.count _:=λx J=>by
   have:=aa x J;unfold row at this;injection this with _ t
   exact adU (h:=h) (g:=g) t i r r' er af
  exact⟨sd inj O S (λx J=>(Y.mem x).mpr (.inr (aiM.mpr ⟨r,hr,J⟩))) (λx J=>(L2.mem x).mpr (.inr (aiM.mpr ⟨r',ag,J⟩))) λx J=>(c x J).1,sd inj O S (λx J=>(Y.mem x).mpr (.inl (ah2 _ (aiM.mpr ⟨r,hr,J⟩)))) (λx J=>(L2.mem x).mpr (.inl (ah2 _ (aiM.mpr ⟨r',ag,J⟩)))) λx J=>(c x J).2⟩
def oO(h:Hs)(i:Nat):List Str:=h.1++(h.2.take i).flatMap λr=>r.1++r.2
theorem uv h:oO h 0=h.1:=by simp[oO]
theorem kT{h i r}(e:h.2[i]?=some r):oO h (i+1)=oO h i++r.1++r.2:=by
 unfold oO;rw[ais,e];simp
theorem rD(z:List Rm):(z.flatMap λr=>r.1++r.2).length=(z.flatMap (·.2)).length+(z.flatMap (·.1)).length:=by
 induction z with
 |nil=>rfl
 |cons r z B=>simp only[aiY,ahZ,B];lia
theorem xV h:(oO h h.2.length).length=(aG h).length+(aw h).length:=by
 unfold oO aG aw;rw[aiz,ahZ,ahZ,rD];lia
theorem abU{h i}:(oO h i).length<=(aG h).length+(aw h).length:=by
 rw[←xV];unfold oO;rw[ahZ,ahZ,aiz,rD,rD];have a:∀(g:Rm->List Str),((h.2.take i).flatMap g).length<=(h.2.flatMap g).length:=λg=>by
  rw[show h.2.flatMap g=(h.2.take i).flatMap g++(h.2.drop i).flatMap g by rw[←ajK,aiI],ahZ];lia
 grind
theorem said_mem{h:Hs}{x:Str}:x∈oO h h.2.length↔x∈aG h\/x∈aw h:=by
 unfold oO aG aw;rw[aiz];simp only[aic,aiM];constructor
 .rintro (q|⟨r,hr,q|q⟩)
  .exact .inl (.inl q)
  .exact .inr ⟨r,hr,q⟩
  .exact .inl (.inr ⟨r,hr,q⟩)
 .rintro ((q|⟨r,hr,q⟩) | ⟨r,hr,q⟩)
  .exact .inl q
  .exact .inr ⟨r,hr,.inr q⟩
  .exact .inr ⟨r,hr,.inl q⟩
theorem aQ{H l o}(n:H l=none):Same H (upd H l o):=λb u e=>by rw[ai (ag e n)];exact e
def KeysAre(kvs:List (Key×V))(xs:List Str):Prop:=∃ks:List Str,kvs.map (·.1)=ks.map Sum.inr/\ks.Nodup/\∀x,x∈ks↔x∈xs
theorem KeysAre.len{kvs xs}(k:KeysAre kvs xs):kvs.length<=xs.length:=by
 obtain⟨ks,e,nd,m⟩:=k;have:=aiO List.length e;rw[ahY,ahY]at this;rw[this];exact bf nd λx=>(m x).mp
theorem mem_inr{ks:List _}{z}:(Sum.inr z:Key)∈ks.map Sum.inr↔z∈ks:=by
 grind
theorem KeysAre.old{kvs:List (Key×V)}{xs:List Str}(k:KeysAre kvs xs){z:Str}{v:V}(e:cD kvs (.inr z)=some v):KeysAre kvs (xs++[z]):=by
 obtain⟨ks,B,nd,m⟩:=k;refine⟨ks,B,nd,λx=>?_⟩;have J:z∈ks:=by
  have:=aiH (f:=(·.1)) (iE e);rw[B]at this;exact mem_inr.mp this
 rw[aic,ah5,←m x];exact⟨.inl,λh=>h.elim id λh=>h▸J⟩
theorem KeysAre.new{kvs xs}(k:KeysAre kvs xs){z v}(e:cD kvs (.inr z)=none):KeysAre (eG kvs (.inr z) v) (xs++[z]):=by
 obtain⟨ks,B,nd,m⟩:=k;have J:z∉ks:=λh=>tW e (by simp_all);refine⟨ks++[z],by rw[jh v e,aia,aia,B];rfl,ajG.mpr ⟨nd,by simp,λa L b O w=>?_⟩,λx=>?_⟩<;>simp_all
theorem lU{K:PySem.W.Frag}{t:TE}{σ:L2.St}{D:xQ}{H G:Hp}{d:Addr}{kvs}{z:Str}{n:Nat}{Dm}{xs:List Str}(e3:σ[3]?=some (some (V.ref d)))(e4:σ[4]?=some (some (V.str z)))(ht:∀(O:Hp) (R:VK),R (.int ((n:Nat):Int)) O->t σ O R)(Z:G d=some (.dK kvs))(nd:H d=none)(s:Same H G)(lm:LockMap H G kvs Dm)(ka:KeysAre kvs xs)(xl:xs.length<=1000)(dl:(Dm z).length<=2000)
 (k:∀B O,Same H O->O d=some (.dK B)->LockMap H O B (λx=>if x=z then Dm x++[n] else Dm x)->KeysAre B (xs++[z])->D.nx σ O):aa0 (tBM K "list" vO (tBM K "dict" aa9 (dq 3) (ax (dq 4) (ax (aaO cS) cS))) (ax t cS)) D σ G:=by
 have al:1001<sizeLine:=by decide
 have kl:=ka.len;refine⟨_,e3,.inr (.inr (.inl ⟨rfl,.inl ⟨_,Z⟩⟩)),_,e4,ail _,λl nl=>?_⟩;have Y:H l=none:=s.free nl;have J:d≠l:=ag Z nl;have sl:Same G (upd G l (.lst [])):=λb u e=>by rw[ai (ag e nl)];exact e
 refine⟨d,kvs,Sum.inr z,.ref l,rfl,rfl,by rw[ai J];exact Z,by lia,λv S=>?_,λS=>?_⟩
 .obtain⟨a,rfl,ac,ad⟩:=lm.som _ v S;have L:=sl _ _ ad;refine⟨.inl ⟨rfl,_,aAA L⟩,ht _ _ ⟨a,_,_,rfl,rfl,L,aiA (by rw[ahY];exact dl) (by decide:2000<sizeLine),?_⟩⟩;have e1:(List.map (λi=>V.int ((i:Nat):Int)) (Dm z)++[V.int ((n:Nat):Int)])=List.map (λi=>V.int ((i:Nat):Int)) (Dm z++[n]):=by rw[aia];rfl
  rw[e1];refine k kvs _ (λb u e=>?_) ?_ ((lm.keep λa xs _ e=>sl a _ e).more (i:=n) S) (ka.old S)
  .rw[ai (ag e ac)];exact sl _ _ (s _ _ e)
  .rw[ai (by grind),ai J];exact Z
 .refine⟨.inl ⟨rfl,[],aAA ?_⟩,ht _ _ ⟨l,[],_,rfl,rfl,?_,ah9 (by decide:0<1) (by decide),?_⟩⟩
  .rw[ai (ai2 J),af]
  .rw[ai (ai2 J),af]
  refine k _ _ (λb u e=>?_) ?_ ((lm.fresh (i:=n) S nl Y).keep λb xs _ e=>?_) (ka.new  S)
  .rw[ai (ag e Y),ai (ag e nd)];exact sl _ _ (s _ _ e)
  .rw[ai J,af]
  .by_cases w:b=l
   .subst w;rw[af]at e⊢;exact e
   .rw[ai w]at e⊢;rw[ai (by grind),ai w];exact e
def xp:Sp:=λvs H Q _=>∃(v:V) (h:Hs),vs=[v]/\HouseAt H v h/\aE h/\(aG h).length<=700/\h.2.length<=60/\∀(d:Addr) (kvs:List (Key×V)) (H':Hp),H d=none->Same H H'->H' d=some (.dK kvs)->LockMap H H' kvs (plc h)->KeysAre kvs (oO h h.2.length)->Q (.ref d) H'
def m6(h:Hs)(i:Nat)(ls ws:List Str)(k:Str):List Nat:=List.replicate (h.1.count k) 0++(pR k 0 (h.2.take i)++(List.replicate (ls.count k) (2*i+1)++List.replicate (ws.count k) (2*i+2)))
theorem zJ h k:m6 h h.2.length [] [] k=plc h k:=by
 unfold m6 plc;simp
theorem yV{h i r}(e:h.2[i]?=some r) k:m6 h i r.1 r.2 k=m6 h (i+1) [] [] k:=by
 have hi:=(ahW.mp e).1;unfold m6;rw[ais,e,Option.toList,oV,aif,akm (aiF hi)];simp
theorem r8{l}{x k:Str}{a:Nat}:List.replicate ((l++[x]).count k) a=List.replicate (l.count k) a++if k=x then [a] else []:=by
 rw[ajk];by_cases e:k=x
 .subst e;rw[if_pos rfl,List.count_singleton_self,←List.replicate_append_replicate]
  rfl
 .rw[if_neg e,List.count_singleton,if_neg (by simpa using λz=>e z.symm),Nat.add_zero,aiV]
inductive PaI(t a r d:Addr)(h:Hs)(H:Hp)(j:Nat)(σ:L2.St)(H':Hp):Prop
 |mk (x4:Option V) (kvs:List (Key×V)):σ=[some (.ref t),some (.ref a),some (.ref r),some (.ref d),x4,none,none,none]->H' d=some (.dK kvs)->Same H H'->LockMap H H' kvs (λx=>List.replicate ((h.1.take j).count x) 0)->KeysAre kvs (h.1.take j)->PaI t a r d h H j σ H'
inductive PbI(t a r d:Addr)(h:Hs)(H:Hp)(i:Nat)(σ:L2.St)(H':Hp):Prop
 |mk (x4 x5 x6 x7:Option V) (kvs:List (Key×V)):σ=[some (.ref t),some (.ref a),some (.ref r),some (.ref d),x4,x5,x6,x7]->H' d=some (.dK kvs)->Same H H'->LockMap H H' kvs (m6 h i [] [])->KeysAre kvs (oO h i)->PbI t a r d h H i σ H'
inductive PcI(t a r d aa bb:Addr)(h:Hs)(H:Hp)(i:Nat)(ls ws:List Str)(σ:L2.St)(H':Hp):Prop
 |mk (x4:Option V) (kvs:List (Key×V)):σ=[some (.ref t),some (.ref a),some (.ref r),some (.ref d),x4,some (.int ((i:Nat):Int)),some (.ref aa),some (.ref bb)]->H' d=some (.dK kvs)->Same H H'->LockMap H H' kvs (m6 h i ls ws)->KeysAre kvs (oO h i++ls++ws)->PcI t a r d aa bb h H i ls ws σ H'
theorem aD:aA ["house","keys","rooms","places","kind","number","locks","within"] ["house"] (ak dz):=scM rfl rfl rfl rfl (by decide +kernel)
theorem zw{f:Addr}{fd:FuncData}(F:Fun K "places_of_kinds" "places_of_kinds" dz f fd)(bU:mg "enumerate" = none):bx P w K mg base CX0 1 f fd ["house"] xp:=by
 refine F.ok aD (λvs H Q E h=>?_) (λa1 A outer s H vs Q E hr h=>?_)
 .obtain⟨v,h,rfl,_⟩:=h
  rfl
 .have hu:=gm hr;obtain⟨v,h,rfl,⟨t,a,r,us,rfl,ht,ha,ak,hR⟩,ok,nk,a3,q⟩:=h;refine⟨_,(ao (oR (pv 0) (gb rfl (au (aq (i:=1) aD.nd rfl (.inl rfl)) (au (aq (i:=2) aD.nd rfl (.inl rfl)) aO))))
   (ao (aB (i:=3) aD.nd rfl (.inl rfl) nJ)
   (ao (cy (d9 aiN rfl (aV (pv 1)) (aq (i:=4) aD.nd rfl (.inl rfl))
    (av (bX (kO aiy ajy ajz cV (kO akv ajY akC iJ (pv 3) (ae (pv 4) (ae yB aj))) (ae ar aj))))))
   (ao (cy (d9 aiN rfl (wk rfl bU (ae (pv 2) aj)) (gb rfl (au (aq (i:=5) aD.nd rfl (.inl rfl)) (au (gb rfl (au (aq (i:=6) aD.nd rfl (.inl rfl)) (au (aq (i:=7) aD.nd rfl (.inl rfl)) aO))) aO)))
    (ao (cy (d9 aiN rfl (aV (pv 6)) (aq (i:=4) aD.nd rfl (.inl rfl))
     (av (bX (kO aiy ajy ajz cV (kO akv ajY akC iJ (pv 3) (ae (pv 4) (ae yB aj))) (ae (bz gN (bz kj ar (pv 5)) ar) aj))))))
    (av (cy (d9 aiN rfl (aV (pv 7)) (aq (i:=4) aD.nd rfl (.inl rfl))
     (av (bX (kO aiy ajy ajz cV (kO akv ajY akC iJ (pv 3) (ae (pv 4) (ae yB aj))) (ae (bz gN (bz kj ar (pv 5)) ar) aj))))))))))
   (av (aM (pv 3))))))),?_⟩
  have ul:=hR.1;have al:=λr hr=>(ok.rs r hr).l4;have nl:(aw h).length<=240:=by
   have:∀Z:List Rm,(∀r∈Z,r.1.length<=4)->(Z.flatMap (·.1)).length<=4*Z.length:=λZ=>by
    induction Z with
    |nil=>exact λ_=>ail _
    |cons r Z ih=>
     intro q;rw[aiY,ahZ,aiJ];have a:=q r aid;have b:=ih λx J=>q x (aih _ J);lia
   have:=this _ al;unfold aw;lia
  have kl:h.1.length<=700:=by
   have:h.1.length<=(aG h).length:=by unfold aG;rw[ahZ];lia
   lia
  have sl:∀i,(oO h i).length<=940:=λi=>aij abU (by lia);have pl:∀i ls ws k,i<=h.2.length->ls.length<=4->ws.length<=700->(m6 h i ls ws k).length<=2000:=λi ls ws k hi h1 h2=>by
   unfold m6;rw[ahZ,ahZ,ahZ,aiD,aiD,aiD];have c1:h.1.count k<=h.1.length:=ajX;have c2:ls.count k<=ls.length:=ajX;have c3:ws.count k<=ws.length:=ajX;have c4:∀Z j,(pR k j Z).length<=(Z.flatMap (·.1)).length+(Z.flatMap (·.2)).length:=λZ=>by
    induction Z with
    |nil=>exact λ_=>ail _
    |cons r Z ih=>
     intro j;have:=ih (j+1);have d1:r.1.count k<=r.1.length:=ajX;have d2:r.2.count k<=r.2.length:=ajX;simp only[pR,ahZ,aiD,aiY];lia
   have c5:=c4 (h.2.take i) 0;have c6:∀g:Rm->List Str,((h.2.take i).flatMap g).length<=(h.2.flatMap g).length:=λg=>by
    rw[show h.2.flatMap g=(h.2.take i).flatMap g++(h.2.drop i).flatMap g by rw[←ajK,aiI],ahZ];lia
   have c7:=c6 (·.1);have c8:=c6 (·.2);unfold aw at nl;unfold aG at nk;rw[ahZ]at nk;lia
  refine⟨_,rfl,t,_,rfl,aAB ht,rfl,?_⟩;refine⟨_,_,rfl,_,_,rfl,rfl,?_⟩;refine λd nd=>?_;have s1:Same H (upd H d (.dK [])):=aQ nd;have e1:(upd H d _) d=some (.dK []):=af;generalize upd H d (.dK [])=H1 at *;refine⟨λσ H'=>PaI t a r d h H h.1.length σ H',?_,?_⟩
  .rintro σ H2 ⟨x4,kvs,rfl,O,s2,L,S⟩;rw[aiz]at L S;refine⟨λσ H'=>PbI t a r d h H h.2.length σ H',?_,?_⟩
   .rintro σ H3 ⟨aF,x5,x6,x7,kvs,rfl,O,s3,L,S⟩;exact⟨_,rfl,q d _ H3 nd s3 O (L.congr (zJ h)) S⟩
   .refine⟨_,rfl,r,rfl,⟨_,aAA (s2 _ _ ak)⟩,?_⟩;refine acs  (λi Y H'=>PbI t a r d h H i Y H') (.mk x4 _ _ _ _ rfl O s2 (L.congr λx=>by unfold m6;simp[pR]) (by rw[uv];exact S)) (λi σ H' _ ⟨_,_,_,_,_,_,_,s,_,_⟩=>aAA (s _ _ ak)) ?_ (λσ H' z=>by simp_all);rintro i x σ H3 T J ⟨aF,x5,x6,x7,kvs,rfl,O,s3,L,S⟩ nT;have hi:i<h.2.length:=by rw[←ul];exact (ahW.mp J).1
    have er:=ahU hi;obtain⟨tt,aa,bb,rfl,q1,q2,q3⟩:=hR.2 i x _ J er;have ay:=aiq hi;have r4:=al _ ay;have wl:h.2[i].2.length<=700:=by
     have:h.2[i].2.length<=(h.2.flatMap (·.2)).length:=by
      obtain⟨l1,l2,e⟩:=List.append_of_mem ay;generalize h.2[i]=rm at *;rw[e,ajK,aiY,ahZ,ahZ];lia
     unfold aG at nk;rw[ahZ]at nk;lia
    have sT:Same H3 (upd H3 T (.tup [.int i,.ref tt])):=aQ nT;refine⟨T,_,rfl,aAB af,rfl,?_⟩;generalize upd H3 T (.tup [.int (i:Int),.ref tt])=H4 at *;have s4:=s3.trans sT;refine⟨_,_,rfl,_,_,rfl,tt,_,rfl,aAB (s4 _ _ q1),rfl,_,_,rfl,_,_,rfl,rfl,rfl,?_⟩;refine⟨λσ H'=>PcI t a r d aa bb h H i h.2[i].1 [] σ H',?_,?_⟩
    .rintro σ H5 ⟨x4,kvs,rfl,O,s5,L,S⟩;refine⟨λσ H'=>PcI t a r d aa bb h H i h.2[i].1 h.2[i].2 σ H',?_,?_⟩
     .rintro σ H6 ⟨x4,kvs,rfl,O,s6,L,S⟩;exact .mk _ _ _ _ _ rfl O s6 (L.congr λx=>yV er x) (by rw[kT er];exact S)
     .refine⟨_,rfl,bb,rfl,⟨_,aAA (s5 _ _ q3)⟩,fh  (λj Y H'=>PcI t a r d aa bb h H i _ (h.2[i].2.take j) Y H') (.mk x4 _ rfl O s5 L S) (λj σ H' _ ⟨_,_,_,_,s,_,_⟩=>aAA (s _ _ q3)) ?_ (λσ H' z=>by simp_all)⟩;rintro j x σ H6 J ⟨x4,kvs,rfl,O,s6,L,S⟩;have hj:=(ahW.mp J).1;rw[ahY]at hj;rw[ah1,ahU hj]at J;cases J;have tk:h.2[i].2.take (j+1)=h.2[i].2.take j++[h.2[i].2[j]]:=by simp_all
      have tl:(h.2[i].2.take j).length<=700:=by rw[aif];lia
      refine lU (n:=2*i+2) rfl rfl (λG' R w=>⟨_,rfl,2,((i:Nat):Int),rfl,rfl,.inl ⟨by decide,by decide⟩,_,_,rfl,rfl,by grind⟩) O nd s6 L S (by have t1:=sl (i+1);rw[kT (ahU hi),ahZ,ahZ]at t1;rw[ahZ,ahZ,aif];lia) (pl i _ _ _ (aiF hi) r4 tl) λB G' s7 ac ad ab=>?_;refine .mk _ B rfl ac s7 (ad.congr λx=>?_) (by rw[tk,←aim];exact ab);rw[tk];unfold m6;rw[r8];split<;>simp
    .refine⟨_,rfl,aa,rfl,⟨_,aAA (s4 _ _ q2)⟩,?_⟩;refine fh  (λj Y H'=>PcI t a r d aa bb h H i (h.2[i].1.take j) [] Y H') (.mk _ _ rfl (sT _ _ O) s4 (L.keep λa xs _=>sT a _) (by simp_all)) (λj σ H' _ ⟨_,_,_,_,s,_,_⟩=>aAA (s _ _ q2)) ?_ (λσ H' z=>by simp_all);rintro j x σ H6 J ⟨x4,kvs,rfl,O,s6,L,S⟩;have hj:=(ahW.mp J).1;rw[ahY]at hj;rw[ah1,ahU hj]at J;cases J;have tk:h.2[i].1.take (j+1)=h.2[i].1.take j++[h.2[i].1[j]]:=by simp_all
     have tl:(h.2[i].1.take j).length<=4:=by rw[aif];lia
     refine lU (n:=2*i+1) rfl rfl (λG' R w=>⟨_,rfl,2,((i:Nat):Int),rfl,rfl,.inl ⟨by decide,by decide⟩,_,_,rfl,rfl,by show R (V.int (2*((i:Nat):Int)+1)) G';rw[show (2:Int)*((i:Nat):Int)+1=((2*i+1:Nat):Int) by lia];exact w⟩) O nd s6 L S (by rw[ahZ,ahZ];have:=sl i;show _+_+0<=_;lia) (pl i _ _ _ (aiF hi) tl (by show 0<=_;lia)) λB G' s7 ac ad ab=>?_;refine .mk _ B rfl ac s7 (ad.congr λx=>?_) (by rw[tk,←aim];rw[aiV]at ab⊢;exact ab);rw[tk];unfold m6;rw[r8];split<;>simp
  .refine⟨_,rfl,a,rfl,⟨_,aAA (s1 _ _ ha)⟩,?_⟩;refine fh (xs:=h.1.map V.str) (λj Y H'=>PaI t a r d h H j Y H') (.mk none [] rfl e1 s1 ⟨λx _=>by simp,(λx v h=>nomatch h),(λx y a h=>nomatch h)⟩ ⟨[],rfl,akR,λx=>by simp⟩) (λj σ H' _ ⟨_,_,_,_,s,_,_⟩=>aAA (s _ _ ha)) ?_ (λσ H' z=>by rw[ahY]at z;exact z);rintro j x σ H2 J ⟨x4,kvs,rfl,O,s2,L,S⟩;have hj:=(ahW.mp J).1;rw[ahY]at hj;rw[ah1,ahU hj]at J;cases J;have tk:h.1.take (j+1)=h.1.take j++[h.1[j]]:=by rw[ais,ahU hj];rfl
   have tl:(h.1.take j).length<=700:=by rw[aif];lia
   refine lU (n:=0) rfl rfl (λG' R w=>w) O nd s2 L S (by lia) (by
    rw[aiD];have:(h.1.take j).count h.1[j]<=(h.1.take j).length:=ajX;lia) λB G' s7 ac ad ab=>.mk _ B rfl ac s7 (ad.congr λx=>?_) (by rw[tk];exact ab)
   rw[tk,r8];split<;>simp
end
end K7
namespace L2
open PySem PyProof.Rows
theorem tG{K nl ix tf te σ D ys H x nxt i j} a B z (O:x=.ref a)(S:SqT K H a [B,z])
 (Y:(((cC nl ix σ).set i (some B)).set j (some z)).drop nl=ix.map λj=>(σ[j]?).join)
 (h:tf (((cC nl ix σ).set i (some B)).set j (some z)) H λb J=>if b=true then te (((cC nl ix σ).set i (some B)).set j (some z)) J λy L=>L D=some (.lst ys)/\ys.length<sizeLine/\nxt (ys++[y]) (upd L D (.lst (ys++[y]))) else nxt ys J):
 cq nl ix (vh K 2 (dr (aR i) (dr (aR j) vj))) tf te σ D ys H x nxt:=by
 subst O;exact⟨a,_,rfl,S,rfl,B,[z],rfl,z,[],rfl,rfl,⟨by simp,Y⟩,h⟩
end L2
namespace K7
open PySem L2 PyProof.Rows
def dd:List Str->List Str
 |[]=>[]
 |a::r=>if a∈dd r then dd r else a::dd r
def ag9(l:List Str)(C:List Str):Nat:=(l.filter λx=>decide (x∉C)).length
def agD(r:Rm)(C:List Str):Nat:=ag9 (dd r.1) C
def pend:List Nat->List Rm->Nat
 |m::ws,r::rs=>(if m=0 then 0 else r.2.length)+pend ws rs
 |_,_=>0
def ahp(rs:List Rm)(C:List Str):List Nat:=(List.range rs.length).filter λi=>decide (agD ((rs[i]?).getD ([],[])) C=0)
end K7
namespace L2
open PySem PySem.Spec PyProof.Rows
theorem abD{nl ix g tf tk tv σ H1 D Q}(Pv:Nat->List _->Hp->Prop){K a b xs ys}(O:xs.length=ys.length)(S:Pv 0 [] (upd H1 D (.dK [])))(Y:∀i zs H,Pv i zs H->H D=some (.dK zs))(J:∀i zs H,Pv i zs H->SqL K H a xs/\SqL K H b ys)
 (Z:∀i zs H x y T,xs[i]?=some x->ys[i]?=some y->Pv i zs H->H T=none->gi nl ix g tf tk tv σ D zs (upd H T (.tup [x,y])) (.ref T) λL H'=>Nx xs.length i (Pv (i+1) L H'))(hd:∀zs H,Pv xs.length zs H->Q (.ref D) H):qS nl ix g tf tk tv σ (ItZ K a b) H1 D Q:=by
 refine wF  Pv S Y (λi zs H hi p=>?_) (λzs H p=>?_) (λi zs H x H' hi p y=>?_) hd
 .obtain⟨z,B⟩:=J i zs H p;exact⟨xs,ys,xs[i],ys[i]'(by lia),z,B,ahU _,ahU _⟩
 .obtain⟨z,B⟩:=J _ zs H p;exact⟨xs,ys,z,B,.inl (ah4 _)⟩
 .obtain⟨T,u,v,ex,hT,eH,hu,hv⟩:=y;subst ex eH;obtain⟨z,B⟩:=J i zs H p;exact Z i zs H u v T (hu xs z) (hv ys B) p hT
end L2
namespace K7
open PySem L2 PyProof.Rows
theorem iz{D b H}(n:b≠D):fb D H b=H b:=if_neg n
def PrsAt(H:Hp)(ys:List V)(ps:List (List Int×Str)):Prop:=ys.length=ps.length/\∀(j:Nat) y p,ys[j]?=some y->ps[j]?=some p->∃T a:Addr,y=.ref T/\H T=some (.tup [.ref a,.str p.2])/\H a=some (.lst (p.1.map V.int))
theorem PrsAt.same{H H' ys ps}(a:PrsAt H ys ps)(s:Same H H'):PrsAt H' ys ps:=⟨a.1,λj y p z B=>let ⟨T,b,e,h1,h2⟩:=a.2 j y p z B;⟨T,b,e,s _ _ h1,s _ _ h2⟩⟩
theorem PrsAt.of{H vs}(h:∀v∈vs,∃(T a:Addr) (z:List _) (k:Str),v=.ref T/\H T=some (.tup [.ref a,.str k])/\H a=some (.lst (z.map V.int))):PrsAt H vs (vs.map (mC H)):=⟨(ahY _).symm,λj y p B J=>by
 rw[ah1,B]at J;cases J;obtain⟨T,a,z,k,rfl,h1,h2⟩:=h y (ah7 B);rw[om h1 h2];exact⟨T,a,rfl,h1,h2⟩⟩
theorem PrsAt.get{H ys ps}(a:PrsAt H ys ps){j:Nat}{y}(e:ys[j]?=some y):∃p T b,ps[j]?=some p/\y=.ref T/\H T=some (.tup [.ref b,.str p.2])/\H b=some (.lst (p.1.map V.int)):=by
 have B:=(ahW.mp e).1;have l:=a.1;have z:=ahU (show j<ps.length by lia);obtain⟨T,b,h⟩:=a.2 j y _ e z;exact⟨_,T,b,z,h⟩
theorem uh{K:PySem.W.Frag}{σ:L2.St}{H1:Hp}{d D:Addr}{o:Obj}{kvs}{Q:VK}(hd:H1 d=some (.dK kvs))(nD:(upd H1 d (.frz o (.dK kvs))) D=none)(kl:kvs.length<=1000)
 (k:∀ys G,G D=some (.lst ys)->Same (fb d H1) G->ys.length=kvs.length->(∀(j:Nat) y,ys[j]?=some y->∃T k v,y=.ref T/\kvs[j]?=some (k,v)/\G T=some (.tup [v,kV k]))->Q (.ref D) G):gK 2 [] (vh K 2 (dr (aR 0) (dr (aR 1) vj))) nh (adq (ax (dq 1) (ax (dq 0) cS))) σ (ItI d o kvs) (upd H1 d (.frz o (.dK kvs))) D Q:=by
 have O:D≠d:=λz=>by rw[z,af]at nD;cases nD
 have J:=by rw[ai O]at nD;exact nD
 have ah:1001<sizeLine:=by decide
 refine zi  (λi ys G=>ys.length=i/\i<=kvs.length/\G D=some (.lst ys)/\G d=some _/\Same _ G/\∀(j:Nat) y,ys[j]?=some y->∃(T:Addr) (k:Key) (v:V),y=.ref T/\kvs[j]?=some (k,v)/\G T=some (.tup [v,kV k]))
  ⟨rfl,ail _,af,by rw[ai (ai2 O),af],λb u e=>?_,λj y e=>by simp at e⟩ (λi ys G z=>z.2.2.1) (λi ys G z=>z.2.2.2.1) ?_ λys G z=>k ys G z.2.2.1 z.2.2.2.2.1 z.1 z.2.2.2.2.2
 .unfold fb at e;split at e
  .cases e
  .rename_i nb;rw[ai (ag e J),ai nb];exact e
 rintro i ys G T k u hx ⟨yl,il,S,Y,sG,at_⟩ nT;have hi:=(ahW.mp hx).1;have sT:Same G (upd G T (.tup [kV k,u])):=aQ nT;refine tG T _ _ rfl (aAB af) rfl ?_;generalize upd G T _=Z at *;unfold nh;refine⟨_,rfl,_,rfl,by show 2<=sizeLine;decide,λL aa=>?_⟩;have s2:Same Z (upd Z L (.tup [u,kV k])):=aQ aa;have e2:(upd Z L _) L=some (.tup [u,kV k]):=af;have B:=sT.trans s2;have ab:=B _ _ S;have ac:L≠D:=λz=>by grind
 refine⟨ab,by lia,nx hi ⟨by simp_all,hi,af,?_,λb v e=>?_,λj y e=>?_⟩⟩
 .rw[ai (ai2 O)];exact B _ _ Y
 .have nb:b≠D:=λz=>by
   subst z;rw[offD_all _ _ e]at J;cases J
  rw[ai nb];exact B _ _ (sG _ _ e)
 .by_cases hj:j<ys.length
  .rw[aik hj]at e;obtain⟨T3,k3,v3,e1,e3,e4⟩:=at_ j y e;exact⟨T3,k3,v3,e1,e3,by rw[ai (by grind)];exact B _ _ e4⟩
  .have ad:=(ahW.mp e).1;rw[ahZ,ai6]at ad;have ej:j=ys.length:=by lia
   subst ej;rw[aio (ah4 _),akd]at e;cases e;exact⟨L,k,u,rfl,by rw[yl];exact hx,by rw[ai ac];exact e2⟩
theorem abC:∀{kvs:List (Key×V)} {ks:List _},kvs.map (·.1)=ks.map Sum.inr->ks.Nodup->∀{j:Nat} {x} {v},kvs[j]?=some (.inr x,v)->cD kvs (.inr x)=some v
 |[],_,_,_,j,x,v,e=>by simp at e
 |p::r,[],ek,_,_,_,_,_=>by cases ek
 |p::r,k::ks,ek,nd,j,x,v,e=>by
  injection ek with ek1 ek2
  have B:=ajm.mp nd;cases j with
  |zero=>cases e;exact bW rfl
  |succ j=>
   rw[amO]at e;have z:=aiH (f:=(·.1)) (ah7 e);rw[ek2]at z;have J:=mem_inr.mp z;rw[bV _]
   .exact abC ek2 B.2 e
   grind
theorem qO{B H G h kvs xs}{ys:List V}(Z:LockMap B H kvs (plc h))(ka:KeysAre kvs xs)(s:∀a O,H a=some (.lst O)->G a=some (.lst O))(yl:ys.length=kvs.length)(at_:∀(j:Nat) y,ys[j]?=some y->∃T k v,y=.ref T/\kvs[j]?=some (k,v)/\G T=some (.tup [v,kV k])):
 ∃ks ,ks.Nodup/\(∀x,x∈ks↔x∈xs)/\(∀v∈ys,∃(T a:Addr) (ns:List _) (k:Str),v=.ref T/\G T=some (.tup [.ref a,.str k])/\G a=some (.lst (ns.map V.int)))/\ys.map (mC G)=prs h ks:=by
 obtain⟨ks,L,nd,m⟩:=ka;have z:∀(j:Nat) y,ys[j]?=some y->∃T a k,ks[j]?=some k/\y=.ref T/\G T=some (.tup [.ref a,.str k])/\G a=some (.lst ((zI (plc h k)).map _)):=λj y e=>by
  obtain⟨T,k,v,rfl,S,e2⟩:=at_ j y e;have Y:(kvs.map (·.1))[j]?=some k:=by rw[ah1,S];rfl
  rw[L,ah1]at Y;obtain⟨x,e4,e5⟩:=ai7.mp Y;subst e5;have e6:=abC L nd S;obtain⟨a,e7,_,e8⟩:=Z.som x v e6;subst e7;refine⟨T,a,x,e4,rfl,e2,?_⟩;rw[s _ _ e8,aiG]
  rfl
 have kl:=by have:=aiO List.length L;simpa using this.symm
 refine⟨ks,nd,m,λv hv=>?_,?_⟩
 .obtain⟨j,J⟩:=aiW hv;obtain⟨T,a,k,_,e,h1,h2⟩:=z j v J;exact⟨T,a,_,k,e,h1,h2⟩
 .refine aj1 λj=>?_;rw[ah1,ah1];by_cases J:j<ys.length
  .obtain⟨T,a,k,e0,e,h1,h2⟩:=z j _ (ahU J);rw[ahU J,e0,e];show some _=some _;rw[om h1 h2]
  grind
def OrdsZ(H:Hp)(ys:List V)(ls:List (List Int)):Prop:=ys.length=ls.length/\∀(j:Nat) y l,ys[j]?=some y->ls[j]?=some l->∃b:Addr,y=.ref b/\H b=some (.lst (l.map V.int))
theorem OrdsZ.same{H H' ys z}(a:OrdsZ H ys z)(s:Same H H'):OrdsZ H' ys z:=⟨a.1,λj y o B J=>let ⟨b,e,h⟩:=a.2 j y o B J;⟨b,e,s _ _ h⟩⟩
abbrev kZ(ns:List Int):List PyData:=ns.map PyData.int
theorem uS:∀z:_,PyData.canLayAll0 (kZ z)=true
 |[]=>rfl
 |n::z=>uS z
theorem o9:∀z:_,PyData.depthAll (kZ z)=0
 |[]=>rfl
 |n::z=>by
  rw[kZ,air];have:=o9 z;simp only[PyData.depthAll,this]
  rfl
theorem vd:∀a b:_,PyData.eqvAll (kZ a) (kZ b)=true↔a=b
 |[],[]=>by simp[PyData.eqvAll]
 |[],y::b=>by simp[PyData.eqvAll]
 |x::a,[]=>by simp[PyData.eqvAll]
 |x::a,y::b=>by
  have:=vd a b;simp only[air,PyData.eqvAll,PyData.eqv,aiK,this,akq,ait]
theorem qA{H}:∀z:_,SeesAll H (z.map V.int) (kZ z)
 |[]=>.nil
 |n::z=>.cons (.int _) (qA z)
theorem mB{H vs z}(o:OrdsZ H vs z):SeesAll H vs (z.map λl=>.list (kZ l)):=by
 obtain⟨e,h⟩:=o
 revert e h
 induction vs generalizing z with
 |nil=>intro e h;cases z with
  |nil=>exact .nil
  |cons l z=>cases e
 |cons v vs B=>intro e h;cases z with
  |nil=>cases e
  |cons l z=>
   obtain⟨a,rfl,J⟩:=h 0 v l rfl rfl;exact .cons (.lst J (qA l)) (B (by simpa using e) λi=>h (i+1))
theorem j6:∀z:List _,PyData.canLayAll0 (z.map λl=>.list (kZ l))=true
 |[]=>rfl
 |l::z=>by rw[air];simp only[PyData.canLayAll0,PyData.canLay0,uS];exact j6 z
theorem lz:∀z:List _,PyData.depthAll (z.map λl=>.list (kZ l))<=1
 |[]=>by decide
 |l::z=>by
  have:=lz z;rw[air];simp only[PyData.depthAll,PyData.depth,o9];lia
theorem ox:∀z B:List _,PyData.eqvAll (z.map λl=>.list (kZ l)) (B.map λl=>.list (kZ l))=true↔z=B
 |[],[]=>by simp[PyData.eqvAll]
 |[],y::b=>by simp[PyData.eqvAll]
 |x::a,[]=>by simp[PyData.eqvAll]
 |x::a,y::b=>by
  have:=ox a b;simp only[air,PyData.eqvAll,PyData.eqv,aiK,this,akq,vd]
theorem qf{A}{J:Bool}{H x y vs L z B Q}(O:H x=some (.lst vs))(S:H y=some (.lst L))(a:OrdsZ H vs z)(b:OrdsZ H L B)(Y:A.units+2<cLine)(q:Q (.bl (if J then !decide (z=B) else decide (z=B))) H):agz A J (.ref x) (.ref y) H Q:=by
 have d:(PyData.list (z.map λl=>.list (kZ l))).depth<=2:=by have:=lz z;simp only[PyData.depth];lia
 refine⟨_,_,.lst O (mB a),.lst S (mB b),by simp only[PyData.canLay0,j6],by simp only[PyData.canLay0,j6],aiA (ajn (aij (Nat.min_le_left _ _) d) _) Y,?_⟩;have e:PyData.eqv (.list (z.map λl=>.list (kZ l))) (.list (B.map λl=>.list (kZ l)))=decide (z=B):=by
  rw[ajg,akh];exact ox z B
 rw[e];exact q
theorem xq{K σ G M D vs A Q}(hM:G M=some (.lst vs))(O:PrsAt G vs A)(nD:G D=none)(vl:vs.length<=1000)
 (k:∀zs B,B D=some (.lst zs)->Same G B->OrdsZ B zs (A.map (·.1))->Q (.ref D) B):gK 2 [] (vh K 2 (dr (aR 0) (dr (aR 1) vj))) nh (dq 0) σ (Itl K M) G D Q:=by
 have ab:1001<sizeLine:=by decide
 have al:=O.1;refine bB  (λi ys H=>ys.length=i/\i<=vs.length/\H D=some (.lst ys)/\Same G H/\∀(j:Nat) y,ys[j]?=some y->∃p b,A[j]?=some p/\y=.ref b/\G b=some (.lst (p.1.map V.int)))
  ⟨rfl,ail _,af,aQ nD,λj y e=>by simp at e⟩ (λi ys H z=>z.2.2.1) (λi ys H z=>aAA (z.2.2.2.1 _ _ hM)) ?_ ?_
 .rintro i ys H x S ⟨yl,il,J,s,at_⟩;have hi:=(ahW.mp S).1;obtain⟨p,T,b,ep,rfl,hT,Y⟩:=O.get S;refine tG T _ _ rfl (aAB (s _ _ hT)) rfl ?_;unfold nh;refine⟨_,rfl,J,by lia,nx hi ⟨by simp_all,hi,af,λc u e=>?_,λj y e=>?_⟩⟩
  .rw[ai (ag e nD)];exact s _ _ e
  .by_cases hj:j<ys.length
   .rw[aik hj]at e;exact at_ j y e
   .have L:=(ahW.mp e).1;rw[ahZ,ai6]at L;have ej:j=ys.length:=by lia
    subst ej;rw[aio (ah4 _),akd]at e;cases e;simp_all
 .rintro ys H ⟨yl,_,J,s,at_⟩;refine k ys H J s ⟨by grind,λj y l e1 Z=>?_⟩;obtain⟨p,b,e3,rfl,Y⟩:=at_ j y e1;rw[ah1,e3]at Z;cases Z;exact⟨b,rfl,s _ _ Y⟩
theorem yW{kvs}{k:Key}(h:k∉kvs.map (·.1)):cD kvs k=none:=by
 cases e:cD _ k with
 |none=>rfl
 |some v=>exact absurd (aiH  (iE e)) h
theorem ade{K:PySem.W.Frag}{σ:L2.St}{G:Hp}{M N D:Addr}{vs L:List V}{A B}{Q:VK}(hM:G M=some (.lst vs))(hN:G N=some (.lst L))(pA:PrsAt G vs A)(pB:PrsAt G L B)(nD:G D=none)(vl:vs.length<=1000)(vw:vs.length=L.length)(nd:(A.map (·.2)).Nodup)
 (k:∀S,S D=some (.dK (jY (A.map (·.2)) (B.map (·.2))))->Same G S->Q (.ref D) S):qS 4 [] (vh K 2 (dr (vh K 2 (dr (aR 0) (dr (aR 1) vj))) (dr (vh K 2 (dr (aR 2) (dr (aR 3) vj))) vj))) nh (dq 1) (dq 3) σ (ItZ K M N) G D Q:=by
 have ao:1001<sizeLine:=by decide
 have al:=pA.1;have bl:=pB.1;have zl:(jY (A.map (·.2)) (B.map (·.2))).length=vs.length:=by
  grind
 refine abD (xs:=vs) (ys:=L) (λi kvs H=>kvs=(jY (A.map (·.2)) (B.map (·.2))).take i/\i<=vs.length/\H D=some (.dK kvs)/\Same G H) vw ⟨rfl,ail _,af,aQ nD⟩ (λi ys H z=>z.2.2.1) (λi ys H z=>⟨aAA (z.2.2.2 _ _ hM),aAA (z.2.2.2 _ _ hN)⟩) ?_ ?_
 .rintro i kvs H x y T hx hy ⟨rfl,il,eD,s⟩ nT;have hi:=(ahW.mp hx).1;obtain⟨p,O,b1,ep,rfl,Y,_⟩:=pA.get hx;obtain⟨q,J,b2,eq,rfl,Z,_⟩:=pB.get hy;have sT:Same H (upd H T (.tup [.ref O,.ref J])):=aQ nT;have eT:(upd H T _) T=some (.tup [.ref O,.ref J]):=af;have s1:=s.trans sT;unfold gi vh dr aR vj nh;refine⟨T,_,rfl,aAB eT,rfl,.ref O,[.ref J],rfl,O,_,rfl,aAB (s1 _ _ Y),rfl,_,_,rfl,_,_,rfl,rfl,.ref J,[],rfl,J,_,rfl,aAB (s1 _ _ Z),rfl,_,_,rfl,_,_,rfl,rfl,rfl,⟨rfl,rfl⟩,?_⟩;dsimp only;have ez:(jY (A.map (·.2)) (B.map (·.2)))[i]?=some (Sum.inr p.2,V.str q.2):=by
   simp_all
  have nv:cD ((jY (A.map (·.2)) (B.map (·.2))).take i) (.inr p.2)=none:=by
   refine yW λz=>?_;obtain⟨⟨k0,v0⟩,hm,e0⟩:=ah8.mp z;obtain⟨j,hj,ej⟩:=ajJ hm;rw[aif]at hj;rw[akM]at ej;have e1:(jY (A.map (·.2)) (B.map (·.2)))[j]?=some (k0,v0):=by rw[ahU (by lia),ej]
   rw[ah1]at e1;obtain⟨⟨a1,a2⟩,e2,e3⟩:=ai7.mp e1;have e4:=(List.getElem?_zip_eq_some.mp e2).1;have e5:a1=p.2:=by
    simp_all
   have e6:(A.map (·.2))[i]?=some p.2:=by rw[ah1,ep];rfl
   have:=(akN (by rw[ahY];lia) nd).mp (e4.trans (e5▸e6.symm));lia
  refine⟨_,rfl,_,rfl,.inr p.2,rfl,sT _ _ eD,by rw[aif];lia,nx hi ⟨?_,hi,af,λc u e=>?_⟩⟩
  .rw[jh _ nv,ais,ez]
   rfl
  .rw[ai (ag e nD)];exact s1 _ _ e
 grind
structure NK(h g:Hs)(A B:List (List Int×Str)):Prop where
 ex:∃k1 k2,iW h k1/\iW g k2/\A.Perm (prs h k1)/\B.Perm (prs g k2)
 sa:A.Pairwise λa b=>LL.lexP b a=false
 sb:B.Pairwise λa b=>LL.lexP b a=false
def xM:Sp:=λvs H Q _=>∃(v u:V) (h g:Hs),vs=[v,u]/\HouseAt H v h/\HouseAt H u g/\aE h/\aE g/\(aG h).length<=700/\(aG g).length<=700/\h.2.length<=60/\g.2.length<=60 ∧
 ∀A B,NK h g A B->(A.map (·.1)=B.map (·.1)->∀(d:Addr) (H':Hp),Same H H'->H d=none->H' d=some (.dK (jY (A.map (·.2)) (B.map (·.2))))->Q (.ref d) H')/\(A.map (·.1)≠B.map (·.1)->∀H',Same H H'->Q .non H')
section
variable {P:Program}{w:World}{K:PySem.W.Frag}{mg:Str->Option Value}{base:Heap}
theorem gG:aA ["one","other","mine","others"] ["one","other"] (ak bF):=scM rfl rfl rfl rfl (by decide +kernel)
theorem cZ:(["kind","places"]:List Str).Nodup:=by decide +kernel
theorem cW:(["places","kind"]:List Str).Nodup:=by decide +kernel
theorem de:(["places","kind","same","name"]:List Str).Nodup:=by decide +kernel
theorem aat{f:Addr}{fd:FuncData}(F:Fun K "named_kinds" "named_kinds" bF f fd){L:Addr}{J:FuncData}(bu:bx P w K mg base CX0 6 L J ["thing"] yA)(az:Cal K mg "require_house" ["thing"] L J)
 {B:Addr}{z:FuncData}(hV:bx P w K mg base CX0 1 B z ["house"] xp)(cN:Cal K mg "places_of_kinds" ["house"] B z)(aI:mg "sorted" = none)(rQ:mg "zip" = none):bx P w K mg base CX0 7 f fd ["one","other"] xM:=by
 refine F.ok gG (λvs H Q E h=>?_) (λbR A outer s H vs Q E hr h=>?_)
 .obtain⟨v,u,h,g,rfl,_⟩:=h
  rfl
 .have hu:=gm hr;have Z:=aiA (ajn (by decide:5<=64) _) hr.units;obtain⟨v,u,h,g,rfl,hv,hw,ag,ah,n1,n2,l1,l2,q⟩:=h;have bS:1001<sizeLine:=by decide
  refine⟨_,(ao (bX (pcl bu az hr rfl (ae (pv 0) aj)))
   (ao (bX (pcl bu az hr rfl (ae (pv 1) aj)))
   (ao (aB (i:=2) gG.nd rfl (.inl rfl) (ay kH rfl aI aj6 (ae (gH (outer:=ak (bF)) (N:=["one","other","mine","others"]) (N':=["kind","places"]) (nl:=2) (ix:=[]) rfl rfl rfl (nB (H₀:=H) rfl (pcl hV cN (hr.mono (by decide:1<=6)) rfl (ae (pv 0) aj)))
    (λ_ _ _ _=>(bZ (K:=K) (n:=2) rfl rfl (au (aq (i:=0) cZ rfl (.inl rfl) (.inr rfl)) (au (aq (i:=1) cZ rfl (.inl rfl) (.inr rfl)) aO)))) (λ_ _ _ _=>bt)
    (λ_ _ _ _=>(gC (ae (pv 1) (ae (pv 0) aj))))) aj)))
   (ao (aB (i:=3) gG.nd rfl (.inl rfl) (ay kH rfl aI aj6 (ae (gH (outer:=ak (bF)) (N:=["one","other","mine","others"]) (N':=["kind","places"]) (nl:=2) (ix:=[]) rfl rfl rfl (nB (H₀:=H) rfl (pcl hV cN (hr.mono (by decide:1<=6)) rfl (ae (pv 1) aj)))
    (λ_ _ _ _=>(bZ (K:=K) (n:=2) rfl rfl (au (aq (i:=0) cZ rfl (.inl rfl) (.inr rfl)) (au (aq (i:=1) cZ rfl (.inl rfl) (.inr rfl)) aO)))) (λ_ _ _ _=>bt)
    (λ_ _ _ _=>(gC (ae (pv 1) (ae (pv 0) aj))))) aj)))
   (ao (fm (aN uf (gH (outer:=ak (bF)) (N:=["one","other","mine","others"]) (N':=["places","kind"]) (nl:=2) (ix:=[]) rfl rfl rfl (aV (pv 2))
    (λ_ _ _ _=>(bZ (K:=K) (n:=2) rfl rfl (au (aq (i:=0) cW rfl (.inl rfl) (.inr rfl)) (au (aq (i:=1) cW rfl (.inl rfl) (.inr rfl)) aO)))) (λ_ _ _ _=>bt)
    (λ_ _ _ _=>(pv 0))) (gH (outer:=ak (bF)) (N:=["one","other","mine","others"]) (N':=["places","kind"]) (nl:=2) (ix:=[]) rfl rfl rfl (aV (pv 3))
    (λ_ _ _ _=>(bZ (K:=K) (n:=2) rfl rfl (au (aq (i:=0) cW rfl (.inl rfl) (.inr rfl)) (au (aq (i:=1) cW rfl (.inl rfl) (.inr rfl)) aO)))) (λ_ _ _ _=>bt)
    (λ_ _ _ _=>(pv 0))) (aZ _))
    (av (aM mY)) bD)
   (av (aM (agB (outer:=ak (bF)) (N:=["one","other","mine","others"]) (N':=["places","kind","same","name"]) (nl:=4) (ix:=[]) rfl rfl rfl (adR rfl rQ (ae (pv 2) (ae (pv 3) aj)))
    (λ_ _ _ _=>(bZ (K:=K) (n:=2) rfl rfl (au (bZ (K:=K) (n:=2) rfl rfl (au (aq (i:=0) de rfl (.inl rfl) (.inr rfl)) (au (aq (i:=1) de rfl (.inl rfl) (.inr rfl)) aO))) (au (bZ (K:=K) (n:=2) rfl rfl (au (aq (i:=2) de rfl (.inl rfl) (.inr rfl)) (au (aq (i:=3) de rfl (.inl rfl) (.inr rfl)) aO))) aO)))) (λ_ _ _ _=>bt)
    (λ_ _ _ _=>(pv 1)) (λ_ _ _ _=>(pv 3)))))))))),?_⟩
  refine⟨_,rfl,v,h,rfl,hv,ag,λH1 s1=>⟨_,rfl,u,g,rfl,hw.same s1,ah,λH2 s2=>?_⟩⟩;have ar:=s1.trans s2;have sl:∀{x},aE x->(aG x).length<=700->x.2.length<=60->(oO x _).length<=1000:=fun {x} ok n l=>by
   have:∀rs:List Rm,(∀r∈rs,r.1.length<=4)->(rs.flatMap (·.1)).length<=4*rs.length:=λrs=>by
    induction rs with
    |nil=>exact λ_=>ail _
    |cons r rs ih=>
     intro q;rw[aiY,ahZ,aiJ];have a:=q r aid;have b:=ih λx hx=>q x (aih _ hx);lia
   have:=this _ λr hr=>(ok.rs r hr).l4;rw[xV];unfold aw;lia
  dsimp only [aR,sI,qC,tCB,ax,cS];refine aH _ _ _ _ _ _ _ _ _ ?_;refine⟨_,rfl,v,h,rfl,hv.same ar,ag,n1,l1,λd kvs H3 nd s3 hd lm ka=>⟨d,kvs,rfl,hd,λo nf D nD=>?_⟩⟩;have ba:=ar.trans s3;have kl:=aij ka.len (sl ag n1 l1);refine uh hd nD kl λys G eD sG yl at_=>?_;have aa:∀a ls,H3 a=some (.lst ls)->G a=some _:=λa ls e=>sG _ _ (by rw[iz (by grind)];exact e);obtain⟨k1,nd1,m1,aS,bc⟩:=qO lm ka aa yl at_;have b3:=ar.free nd;have bd:Same H G:=λb y e=>sG _ _ (by rw[iz (by grind)];exact ba _ _ e);refine⟨D,ys,rfl,aAA eD,by lia,Z,aS,λM ai nM pm so=>?_⟩;have sM:Same G (upd G M (.lst ai)):=aQ nM;have eM:(upd G M _) M=some (.lst ai):=af;have pA:PrsAt G _ _:=.of λv hv=>aS v (pm.mem_iff.mp hv);have be:=pA.same sM;have O:=bc▸pm.map _;generalize hA:ai.map (mC G)=A1 at *;generalize upd G M (.lst ai)=G1 at *;have ap:=bd.trans sM;refine aH _ _ _ _ _ _ _ _ _ ?_;refine⟨_,rfl,u,g,rfl,hw.same ap,ah,n2,l2,λd2 aT H4 nd4 s4 aU lm ka=>⟨d2,aT,rfl,aU,λo2 cb D2 bg=>?_⟩⟩;have bh:=aij ka.len (sl ah n2 l2);refine uh aU bg bh λbi G2 bj aW bk bm=>?_;have aa:∀a ls,H4 a=some (.lst ls)->G2 a=some _:=λa ls e=>aW _ _ (by rw[iz (by grind)];exact e);obtain⟨k2,nd2,m2,aX,bn⟩:=qO lm ka aa bk bm;have ac:Same G1 G2:=λb y e=>aW _ _ (by rw[iz (by grind)];exact s4 _ _ e);refine⟨D2,bi,rfl,aAA bj,by lia,Z,aX,λM2 ws bo aY bp=>?_⟩;have am:Same G2 (upd G2 M2 (.lst ws)):=aQ bo;have an:(upd G2 M2 _) M2=some (.lst ws):=af;have pB:PrsAt G2 ws _:=.of λv hv=>aX v (aY.mem_iff.mp hv);have aA:=pB.same am;have ad:=bn▸aY.map _;generalize hB:ws.map (mC G2)=B1 at *;have aC:=(be.same ac).same am;have Y:=am _ _ (ac _ _ eM);have a0:=(ap.trans ac).trans am;have nk:NK h g A1 B1:=⟨⟨k1,k2,⟨nd1,λx=>by rw[m1,said_mem]⟩,⟨nd2,λx=>by rw[m2,said_mem]⟩,O,ad⟩,so,bp⟩;have q:=q A1 B1 nk;have vl:=aC.1;have wl:=aA.1;have al:A1.length<=1000:=by
   rw[O.length_eq,ahY];exact aij (bf nd1 λx=>(m1 x).mp) (sl ag n1 l1)
  have bl:B1.length<=1000:=by
   rw[ad.length_eq,ahY];exact aij (bf nd2 λx=>(m2 x).mp) (sl ah n2 l2)
  dsimp only [afH,vc,tOp];refine aH _ _ _ _ _ _ _ _ _ ?_;refine⟨_,rfl,M,rfl,⟨_,aAA Y⟩,λD3 bq=>?_⟩;refine xq Y aC bq (by lia) λza G4 br s4 oa=>aH _ _ _ _ _ _ _ _ _ ?_;refine⟨_,rfl,M2,rfl,⟨_,aAA (s4 _ _ an)⟩,λD4 bs=>?_⟩;refine xq (s4 _ _ an) (aA.same s4) bs (by lia) λzb G5 bv s5 ob=>?_;have S:=s4.trans s5;have aD:=a0.trans S;refine qf  (s5 _ _ br) bv (oa.same s5) ob (aiA (ajn (by decide) _) Z) ⟨_,rfl,?_⟩;by_cases e:A1.map (·.1)=B1.map (·.1)
  .rw[aiv e];have bz:=by
    have:=O.map (·.2);rw[aiG]at this;have e1:List.map ((·.2) ∘ λk=>(zI (plc h k),k)) k1=k1:=amS _;rw[e1]at this;exact this.nodup_iff.mpr nd1
   have ab:=by have:=aiO List.length e;simpa using this
   exact⟨_,rfl,_,rfl,M,M2,rfl,⟨_,aAA (S _ _ Y)⟩,⟨_,aAA (S _ _ an)⟩,λD5 a1=>ade (S _ _ Y) (S _ _ an) (aC.same S) (aA.same S) a1 (by lia) (by lia) bz λG6 bA s6=>q.1 e D5 G6 (aD.trans s6) (aD.free a1) bA⟩
  .rw[aiC e];exact mZ (q.2 e G5 aD)
end
end K7
namespace K7
open PySem L2 PyProof.Rows
def adW:Sp:=λvs H Q _=>∃(v:V) (h:Hs),vs=[v]/\HouseAt H v h/\h.2.length<=12/\∀H',Same H H'->Q (.int ((2^h.2.length-1:Nat):Int)) H'
theorem xr:∀n,bG (List.range n)=2^n-1
 |0=>rfl
 |n+1=>by
  rw[ajP,hE,xr n];apply Nat.eq_of_testBit_eq;intro i;rw[Nat.testBit_or,al5,Nat.testBit_two_pow,al5];by_cases h1:i<n
  .rw[aiv h1,aiv (show i<n+1 by lia)]
   rfl
  .rw[aiC h1,Bool.false_or];apply ajx.mpr;lia
def zm(F:List Nat->Nat)(es:List (Key×V))(o:List Nat):Prop:=cD es (kB o)=some (.int ((F o:Nat):Int))
theorem abd{n}{o:List _}(nd:o.Nodup)(lt:∀i∈o,i<n)(e:o.length=n):o.Perm (List.range n):=
 (ajt nd alG).mpr λi=>⟨λhi=>ajL.mpr (lt i hi),λhi=>akV λno=>by
  have:=iw (n:=n)  (ajm.mpr ⟨no,nd⟩) λj z=>by
   rcases ain.mp z with e|e<;>simp_all
  grind⟩
theorem uO{h:Hs}{o}(g:dP h.1 h.2 o):bG o=2^h.2.length-1↔o.length=h.2.length:=by
 rw[←xr];constructor
 .intro e;rw[(dW (br o g) alG e).length_eq,akl]
 .exact λe=>ot (abd (br o g) (jw o g) e)
theorem sD{h z}(s:cz h z):z.length<=2^h.2.length:=by
 have:=iw s.nd λi hi=>by
  obtain⟨o,B,rfl⟩:=ah8.mp hi;exact sr (jw o (s.gone o B))
 simp_all
theorem qY{α:Type} f:∀l:List α,(l.map λi=>(f i:Int)).sum=hZ (l.map f)
 |[]=>rfl
 |a::l=>by
  rw[air,List.sum_cons,qY f l,air,gR];lia
theorem adv:∀{kvs} {B:List _} {j:Nat} {kv} {o},kvs.map (·.1)=B.map kB->(B.map bG).Nodup->kvs[j]?=some kv->B[j]?=some o->cD kvs (kB o)=some kv.2
 |p::kvs,q::B,0,_,_,hk,_,e1,e2=>by
  cases e1;cases e2;injection hk with h1 _
  exact bW h1
 |p::kvs,q::B,j+1,kv,o,hk,nd,e1,e2=>by
  injection hk with h1 h2
  rw[air,ajm]at nd;rw[bV (λz=>nd.1 ?_)]
  .exact adv h2 nd.2 e1 e2
  .have:=h1.symm.trans z;rw[ku this];exact aiH (ah7 e2)
 |[],_,_,_,_,_,_,e1,_=>by simp at e1
 |_::_,[],_,_,_,hk,_,_,_=>by simp at hk
theorem DictL.get{F H kvs z}(d:DictL F H kvs z)(nd:(z.map bG).Nodup){j:Nat}{o}(e:z[j]?=some o):∃l ,cD kvs (kB o)=some (.ref l)/\H l=some (.lst (F o)):=by
 have B:j<kvs.length:=by rw[d.len];exact (ahW.mp e).1
 obtain⟨l,J,L⟩:=d.at_ j _ o (ahU B) e;exact⟨l,by rw[adv d.keys nd (ahU B) e,J],L⟩
theorem aff{h B}(s:cz h B){j:Nat}{o}(e:B[j]?=some o){i}(hi:i∈cn h o):∃k o',B[k]?=some o'/\j<k/\bG o'=bG (o++[i])/\o'.Perm (o++[i]):=by
 have Z:=ah7 e;have g:=bw (s.gone o Z) hi;obtain⟨o',z,S⟩:=ah8.mp (s.all _ g);have p:=dW (br o' (s.gone o' z)) (br _ g) S;obtain⟨k,Y⟩:=aiW z;refine⟨k,o',Y,?_,S,p⟩;have l:=p.length_eq;rw[ahZ,ai6]at l;refine akV λJ=>?_;rcases Nat.lt_or_eq_of_le (Nat.le_of_not_lt J) with lt|eq
 .obtain⟨L,ek⟩:=ahW.mp Y;obtain⟨O,ej⟩:=ahW.mp e;have:=aiL.mp s.up k j L O lt;grind
 grind
theorem pH{H a kvs k v}(e:H a=some (.dK kvs))(z:cD kvs k=some v):DGet H a (kV k) (some v):=by
 rw[←z];exact DGet.k e
inductive EdI(S E l:Addr)(h:Hs)(os:List (List Nat))(ks:List V)(H:Hp)(i:Nat)(σ:L2.St)(H':Hp):Prop
 |mk (x3:Option V) (es:List (Key×V)):σ=[some (.ref S),some (.int ((2^h.2.length-1:Nat):Int)),some (.ref E),x3]->H' E=some (.dK es)->H' l=some (.lst ks)->es.length<=2*i->(∀j o,os.length-i<=j->os[j]?=some o->zm (EndsN h) es o)->Same H H'->EdI S E l h os ks H i σ H'
def ahK(h:Hs)(o:List Nat):V->V
 |.int n=>.int ((EndsN h (o++[n.toNat]):Nat):Int)
 |v=>v
def ad0:Sp:=λvs H Q _=>∃(S:Addr) (kvs:List (Key×V)) (h:Hs) (os:List (List Nat)),vs=[.ref S,.int ((2^h.2.length-1:Nat):Int)]/\h.2.length<=12/\H S=some (.dK kvs)/\DictL (nxV h) H kvs os/\cz h os/\∀(E:Addr) (es:List (Key×V)) (H':Hp),Same H H'->H E=none->H' E=some (.dK es)->(∀o∈os,zm (EndsN h) es o)->Q (.ref E) H'
section
variable {P:Program}{w:World}{K:PySem.W.Frag}{mg:Str->Option Value}{base:Heap}
theorem yK{T f fd z d B n sl}(F:FunD K "require_small" "require_small" cv T f fd)(J:K.lookup T=some ⟨z,B,.seq #[d] n,sl⟩):Binds K fd ["thing","most"] [d]:=by
 obtain⟨_,_,kV,L,pm,an,O,ct,S,rfl,lk,Y⟩:=F.ex;intro s Z KX hl;have l1:=by simpa using hl
 match Z,l1 with
 |[x],_=>exact BindsTo.of_defaults rfl (KX _ _ J) rfl rfl rfl
theorem rW:aA ["house"] ["house"] (ak iI):=scM rfl rfl rfl rfl (by decide +kernel)
theorem aeG{f fd}(F:Fun K "set_of_all" "set_of_all" iI f fd)(J:mg "len" = none):bx P w K mg base CX0 1 f fd ["house"] adW:=by
 refine F.ok rW (λz H Q E h=>?_) (λL A outer s H z Q E hr h=>?_)
 .obtain⟨v,h,rfl,_⟩:=h
  rfl
 .obtain⟨v,h,rfl,⟨t,a,r,z,rfl,h1,h2,O,B⟩,S,q⟩:=h;refine⟨_,(av (aM (bz aad (bz adX ar (ay bE rfl J ajq (ae (bY iM (pv 0) ar (λ_ _=>rfl)) aj))) ar))),⟨_,rfl,t,_,1,.ref r,rfl,rfl,aAB h1,rfl,r,_,rfl,.inl (aAA O),⟨1,_,rfl,rfl,?_,_,1,rfl,rfl,?_⟩⟩⟩
  .have:=B.1;constructor<;>lia
  .rw[aiR,B.1,Int.one_mul];have e:(2^h.2.length-1)=((2^h.2.length-1:Nat):Int):=by
    have:=Nat.one_le_two_pow (n:=h.2.length);rw[Int.ofNat_sub this]
    rfl
   show Q (V.int _) H;rw[e];exact q H (Same.refl H)
theorem lE:aA ["steps","whole","ends","opened"] ["steps","whole"] (ak jk):=scM rfl rfl rfl rfl (by decide +kernel)
theorem ui:(["number","ends","opened"]:List Str).Nodup:=by decide +kernel
theorem aeJ{f fW:Addr}{fd ad:FuncData}(F:Fun K "ends_of" "ends_of" jk f fd)(fU:bx P w K mg base CX0 1 fW ad ["opened","number"] xt)(cj:Cal K mg "with_room" ["opened","number"] fW ad)(fD:mg "list" = none)(lV:mg "reversed" = none)(yJ:mg "sum" = none):bx P w K mg base CX0 2 f fd ["steps","whole"] ad0:=by
 refine F.ok lE (λvs H Q E h=>?_) (λa6 A outer s H vs Q E hr h=>?_)
 .obtain⟨S,kvs,h,B,rfl,_⟩:=h
  rfl
 .have hu:=gm hr;obtain⟨S,kvs,h,B,rfl,aA,hS,dl,sa,q⟩:=h;refine⟨_,(ao (aB (i:=2) lE.nd rfl (.inr rfl) nJ)
   (ao (cy (d9 aiN rfl (afP rfl lV (ae (eF (pU rfl) rfl fD (by decide +kernel) (ae (pv 0) aj)) aj)) (aq (i:=3) lE.nd rfl (.inr rfl))
    (ao (nU hu (pv 2) (pv 3) (ay (u7 rfl) rfl yJ (by decide +kernel) (ae (gH (tg:=.Name "number" _) (outer:=ak (jk)) (N:=["steps","whole","ends","opened"]) (N':=["number","ends","opened"]) (nl:=1) (ix:=[2,3]) rfl rfl rfl (aV (eN hu (pv 0) (pv 3) (λ_ _=>rfl)))
    (λ_ _ _ _=>(aq (i:=0) ui rfl (.inl rfl) (.inr rfl))) (λ_ _ _ _=>bt)
    (λ_ _ _ _=>(eN (by exact hu) (pv 1) (pcl fU cj hr rfl (ae (pv 2) (ae (pv 0) aj))) (λ_ _=>rfl)))) aj)) rfl)
    (av (cy (fm (aN lR (pv 3) (pv 1) (aZ _))
     (av (nU hu (pv 2) (pv 3) ar rfl)) bD))))))
   (av (aM (pv 2))))),?_⟩
  intro E nE;have s0:Same H (upd H E (.dK [])):=aK nE;have e0:(upd H E _) E=some (.dK []):=af;generalize upd H E (.dK [])=H0 at *;have few:=sD sa;have a9:2^h.2.length<=4096:=aij (ajW (by decide) aA) (by decide);have kl:=dl.len;have bb:1000000<sizeLine:=by decide
  refine⟨λσ H'=>∃l,EdI S E l h B (kvs.map λp=>kV p.1) H B.length σ H',?_,?_⟩
  .rintro σ H1 ⟨l,x3,es,rfl,eE,_,_,all,s1⟩;exact⟨_,rfl,q E es H1 s1 nE eE λo J=>by
    obtain⟨j,hj⟩:=aiW J;exact all j o (by lia) hj⟩
  .refine⟨_,rfl,S,kvs,rfl,s0 _ _ hS,by lia,λl nl=>?_⟩;have s1:Same H (upd H0 l (.lst (kvs.map λp=>kV p.1))):=s0.trans (aK nl);have el:E≠l:=λz=>by grind
   refine⟨l,_,rfl,aAA af,?_⟩;have ag:(kvs.map λp=>kV p.1).length=B.length:=by rw[ahY,kl]
   refine aeu (xs:=kvs.map λp=>kV p.1) (EdI S E l h B (kvs.map λp=>kV p.1) H) ⟨_,[],rfl,by rw[ai el];exact e0,af,ail _,λj o hj e=>?_,s1⟩ (λi σ H' _ ⟨_,_,_,_,hl,_,_,_⟩=>aAA hl) ?_ ?_
   .simp_all
   .rw[ag];rintro i x σ H2 L hi ⟨x3,es,rfl,eE,hl,len,all,s2⟩;have hj:B.length-1-i<B.length:=by lia
    obtain⟨o,J⟩:∃o,B[B.length-1-i]?=some o:=⟨_,ahU hj⟩;obtain⟨ln,vn,hn⟩:=dl.get sa.nd J;have aG:=ah7 J;have g:=sa.gone o aG;have ex:x=.int (bG o):=by
     have e1:(kvs.map (·.1))[B.length-1-i]?=some (kB o):=by rw[dl.keys,ah1,J];rfl
     rw[ah1]at e1 L;cases O:kvs[B.length-1-i]? with
     |none=>rw[O]at L;cases L
     |some kv=>
      rw[O]at e1 L;cases L;injection e1 with e1
      have Y:kv.1=kB o:=e1;show kV _=_;rw[Y]
      rfl
    subst ex;dsimp only [aR,sI,agp,tCB,ax,cS];refine aH _ _ _ _ _ _ _ _ _ ?_;refine⟨_,rfl,_,rfl,S,.ref ln,rfl,pH (s2 _ _ hS) vn,ln,rfl,⟨_,aAA (s2 _ _ hn)⟩,λD nD=>?_⟩;have lx:(nxV h o).length<=1000000:=by
     rw[ahY];have:=iw (afj h o) λi hi=>(next_iffD.mp hi).1;lia
    refine kC (F:=ahK h o) (s2 _ _ hn) nD lx (λx=>rfl) (λG x R L sG r=>?_) (λG sG hD=>?_)
    .obtain⟨n,Z,rfl⟩:=ah8.mp L;obtain⟨k2,o2,Y,bi,eb,pm⟩:=aff sa J Z;have nd2:=all k2 o2 (by lia) Y;refine⟨_,rfl,_,rfl,_,rfl,bG o,n,rfl,by have:=(next_iffD.mp Z).1;lia,λG' s'=>⟨E,_,rfl,pH (k:=.inl ((bG o ||| 2^n:Nat):Int)) (s' _ _ (sG _ _ eE)) (v:=.int ((EndsN h (o++[n]):Nat):Int)) ?_,r G' s'⟩⟩;rw[←hE,←eb,nd2,EndsN.perm (sa.gone o2 (ah7 Y)) (bw g Z) pm]
    .refine⟨D,(cn h o).map λn=>EndsN h (o++[n]),rfl,aAA (by rw[hD,aiG,aiG];rfl),_,rfl,_,rfl,E,_,rfl,.k (k:=kB o) (sG _ _ eE) (by lia),?_⟩;rw[qY _];have sE:Same H (upd G E (.dK (eG es (kB o) (.int (hZ ((cn h o).map λn=>EndsN h (o++[n]))))))):=dv (s2.trans sG) nE;have Y:(upd G E _) E=some (.dK (eG es (kB o) (.int (hZ ((cn h o).map λn=>EndsN h (o++[n])))))):=af;have l2:(upd G E (.dK (eG es (kB o) (.int (hZ ((cn h o).map λn=>EndsN h (o++[n]))))))) l=some (.lst (kvs.map λp=>kV p.1)):=by rw[ai (ai2 el)];exact sG _ _ hl
     have pl:∀v,(eG es (kB o) v).length<=es.length+1:=λv=>cg ..;have am:∀an (v:V),cD _ _=some _->(∀k,k≠kB o->cD _ k=cD es k)->∀j' o',B.length-(i+1)<=j'->B[j']?=some o'->zm _ an o':=λan v h1 h2 j' o' bm aa=>by
      by_cases ej:j'=B.length-1-i
      .subst ej;rw[J]at aa;cases aa;exact h1
      .unfold zm;rw[h2 _ λz=>ej ?_]
       .exact all j' o' (by lia) aa
       .have eb:=ku z;have ha:(B.map bG)[j']?=some (bG o'):=by simp_all
        have hb:(B.map bG)[B.length-1-i]?=some (bG o):=by rw[ah1,J];rfl
        exact (akN (ahW.mp ha).1 sa.nd).mp (by rw[ha,hb,eb])
     refine⟨EdI S E l h B _ H _,λσ H h=>h,⟨_,rfl,_,rfl,rfl,_,rfl,abX (λe=>?_) (λe=>?_)⟩⟩
     .have ew:=(uO g).mp (by
       have:=akp e;injection this with this
       lia)
      refine⟨_,rfl,_,rfl,E,_,rfl,.k (k:=kB o) Y (by have:=pl (.int (hZ ((cn h o).map λn=>EndsN h (o++[n]))));lia),?_⟩;refine⟨_,_,rfl,af,by rw[ai (ai2 el)];exact l2,?_,am _ .non ?_ λk O=>?_,dv sE nE⟩
      .have h1:=pl (.int (hZ ((cn h o).map λn=>EndsN h (o++[n]))));have h2:=cg (eG es (kB o) (.int (hZ ((cn h o).map λn=>EndsN h (o++[n]))))) (kB o) (.int 1);lia
      .rw[dm,if_pos rfl,EndsN.all ew];rfl
      .rw[dm,if_neg O,dm,if_neg O]
     .have lt:=by
       have h1:=sj g;refine Nat.lt_of_le_of_ne h1 λz=>e ?_;rw[(uO g).mpr z];exact aiv rfl
      refine⟨_,_,rfl,Y,l2,by have:=pl (.int (hZ ((cn h o).map λn=>EndsN h (o++[n]))));lia,am _ .non ?_ λk O=>?_,sE⟩
      .rw[dm,if_pos rfl,EndsN.step lt]
      .rw[dm,if_neg O]
   .rw[ag];exact λσ H' z=>⟨l,z⟩
abbrev abc(o:List Nat):List V:=o.map λn=>V.int ((n:Nat):Int)
abbrev zs(o:List Nat):List Int:=o.map λn=>((n:Nat):Int)
theorem afk:∀{a b:List Nat},zs a<zs b↔a<b
 |[],[]=>⟨λz=>absurd z (akH _),λz=>absurd z (akH _)⟩
 |[],y::b=>⟨λ_=>amV _ _,λ_=>amV _ _⟩
 |x::a,[]=>⟨λz=>absurd z (akH _),λz=>absurd z (akH _)⟩
 |x::a,y::b=>by
  show ((x:Nat):Int)::zs a<((y:Nat):Int)::zs b↔_;rw[akI,akI,afk (a:=a) (b:=b)];constructor
  .rintro (z|⟨z,u⟩)
   .exact .inl (by lia)
   .exact .inr ⟨by lia,u⟩
  .rintro (z|⟨z,u⟩)
   .exact .inl (by lia)
   .exact .inr ⟨by lia,u⟩
def iN(n:Nat):List Nat:=(List.range (uX n)).filter λi=>n.testBit i
theorem abJ{o i}:i∈iN (bG o)↔i∈o:=by
 unfold iN;rw[aiU,ajL,fc,akh];refine⟨(·.2),λm=>⟨akV λno=>?_,m⟩⟩;have h1:bG o<2^i:=ah9 (acn _) (ajW (by decide) (by lia));have h2:=Nat.testBit_lt_two_pow h1;rw[fc,decide_eq_false_iff_not]at h2;exact h2 m
theorem ac0 n:(iN n).Nodup:=alG.filter _
theorem qV{o}(nd:o.Nodup):(iN (bG o)).Perm o:=(ajt (ac0 _) nd).mpr λi=>abJ
theorem aaC{o o'}(nd:o.Nodup)(z:o'.Nodup)(e:iN (bG o)=iN (bG o')):bG o=bG o':=ot (((qV nd).symm.trans (.of_eq e)).trans (qV z))
theorem zK{α:Type}[LT α](B:∀a:α,¬ a<a)(L:∀a b c:α,a<b->b<c->a<c):∀{l J:List α},l.Pairwise (· < ·)->J.Pairwise (· < ·)->(∀x,x∈l↔x∈J)->l=J
 |[],[],_,_,_=>rfl
 |[],y::_,_,_,h=>absurd ((h y).mpr aid) aiT
 |x::_,[],_,_,h=>absurd ((h x).mp aid) aiT
 |x::l,y::J,p,q,h=>by
  rw[ajQ]at p q;have e:x=y:=by
   rcases ain.mp ((h x).mp aid) with e|e
   .exact e
   .rcases ain.mp ((h y).mpr aid) with e2|e2
    .exact e2.symm
    .exact absurd (L _ _ _ (q.1 x e) (p.1 y e2)) (B _)
  subst e;congr 1;refine zK B L p.2 q.2 λz=>⟨λm=>?_,λm=>?_⟩
  .rcases ain.mp ((h z).mp (aih _ m)) with e|e
   .exact absurd (p.1 z m) (by rw[e];exact B _)
   .exact e
  .rcases ain.mp ((h z).mpr (aih _ m)) with e|e
   .exact absurd (q.1 z m) (by rw[e];exact B _)
   .exact e
def zu:Sp:=λvs H Q _=>∃(o:List Nat),vs=[.int ((bG o:Nat):Int)]/\(∀i∈o,i<60)/\∀D H',Same H H'->H D=none->H' D=some (.lst (abc (iN (bG o))))->Q (.ref D) H'
theorem vT:aA ["opened"] ["opened"] (ak iy):=scM rfl rfl rfl rfl (by decide +kernel)
theorem r9:(["number","opened"]:List Str).Nodup:=by decide +kernel
theorem acq{f L:Addr}{fd B:FuncData}(F:Fun K "rooms_of" "rooms_of" iy f fd)(S:bx P w K mg base CX0 1 L B ["opened","number"] aed)(Y:Cal K mg "has_room" ["opened","number"] L B)(Z:mg "range" = none):bx P w K mg base CX0 2 f fd ["opened"] zu:=by
 refine F.ok vT (λvs H Q E h=>?_) (λab A outer s H vs Q E hr h=>?_)
 .obtain⟨o,rfl,_⟩:=h
  rfl
 .have hu:=gm hr;obtain⟨o,rfl,J,q⟩:=h;refine⟨_,(av (aM (gH (tg:=.Name "number" _) (outer:=ak (iy)) (N:=["opened"]) (N':=["number","opened"]) (nl:=1) (ix:=[0]) rfl rfl rfl (gJ rfl Z (ae (afI PySem.F.plainAttrs_int PyProof.Rows.slot_int_bit_length PyProof.Rows.type_int_bit_length aay (pv 0)) aj))
   (λ_ _ _ _=>(aq (i:=0) r9 rfl (.inl rfl) (.inr rfl))) (λ_ _ _ _=>(iF (mV (pcl S Y hr rfl (ae (pv 1) (ae (pv 0) aj))))))
   (λ_ _ _ _=>(pv 0))))),?_⟩
  have ac:uX (bG o)<=60:=acC (sr J);refine aH _ _ _ _ _ _ _ _ _ ?_;refine⟨_,rfl,rfl,bG o,rfl,rfl,((uX (bG o):Nat):Int),rfl,by lia,by lia,λD nD=>?_⟩;rw[aiR];refine sQ (pb:=λi=>decide (i∈o)) nD (by lia) (λx=>rfl) (λG i R hi O r=>?_) (λG x R r=>⟨_,rfl,r⟩) (λG O hD=>?_)
  .exact⟨_,rfl,_,rfl,o,i,rfl,λH' s'=>⟨_,rfl,r H' s'⟩⟩
  .refine q D G O nD ?_;rw[hD];unfold iN;refine aiO (λz=>some (HO.lst _)) (aj3 λi _=>?_);rw[fc]
end
structure abx(h:Hs)(ss:List (List Nat)):Prop where
 up:ss.Pairwise (· < ·)
 mem:∀s,s∈ss↔∃o,dP h.1 h.2 o/\cn h o=[]/\s=iN (bG o)
def xU:Sp:=λvs H Q _=>∃(v:V) (h:Hs),vs=[v]/\HouseAt H v h/\aE h/\wM h/\h.2.length<=12/\∀(L:Addr) (ys:List V) (ss:List (List Nat)) (H':Hp),Same H H'->H L=none->H' L=some (.lst ys)->ss.length=ys.length->(∀(j:Nat) y s,ys[j]?=some y->ss[j]?=some s->∃b:Addr,y=.ref b/\H' b=some (.lst (abc s))/\H b=none/\b≠L)->(∀(i j:Nat) b,ys[i]?=some (V.ref b)->ys[j]?=some (V.ref b)->i=j)->abx h ss->Q (.ref L) H'
def ahR:Key->List Nat
 |.inl n=>iN n.toNat
 |_=>[]
abbrev InH(h:Hs)(x:Str):Prop:=x∈aG h\/x∈aw h
theorem ph{h x}(m:x∈h.1):InH h x:=.inl (ajU _ m)
theorem lH{h r x}(hr:r∈h.2)(m:x∈r.1):InH h x:=.inr (aiM.mpr ⟨r,hr,m⟩)
theorem mj{h r x}(hr:r∈h.2)(m:x∈r.2):InH h x:=.inl (ah2 _ (aiM.mpr ⟨r,hr,m⟩))
theorem nq{h x}(m:InH h x):x∈h.1\/∃r∈h.2,x∈r.1\/x∈r.2:=by
 rcases m with m|m
 .rcases aic.mp m with m|m
  .exact .inl m
  .obtain⟨r,hr,m⟩:=aiM.mp m;exact .inr ⟨r,hr,.inr m⟩
 .obtain⟨r,hr,m⟩:=aiM.mp m;exact .inr ⟨r,hr,.inl m⟩
theorem NamedH.of{f U h g}(n:abv f h g)(inj:∀x∈U,∀y∈U,f x=f y->x=y)(sub:∀x,InH h x->x∈U):NamedH f U h g:=
 ⟨inj,λx m=>sub x (ph m),λr hr x m=>sub x (lH hr m),λr hr x m=>sub x (mj hr m),n.beg.symm,n.rooms.symm,λi r z e B=>⟨(n.lk i r z e B).1.symm,(n.lk i r z e B).2.symm⟩⟩
section
variable {f:Str->Str}{U:List Str}{h g:Hs}
theorem NamedH.sub(n:NamedH f U h g){x}(m:InH h x):x∈U:=by
 rcases nq m with m|⟨r,hr,m|m⟩
 .exact n.bg x m
 .exact n.lk r hr x m
 .exact n.wi r hr x m
theorem NamedH.rooms(n:NamedH f U h g){z}(hr:z∈g.2):∃r∈h.2,z.1.Perm (r.1.map f)/\z.2.Perm (r.2.map f):=by
 obtain⟨i,hi⟩:=aiW hr;have:=(ahW.mp hi).1;have l:=n.len;have e:=ahU (show i<h.2.length by lia);exact⟨_,aiq _,n.rm i _ _ e hi⟩
theorem NamedH.roomsR(n:NamedH f U h g){r}(hr:r∈h.2):∃z∈g.2,z.1.Perm (r.1.map f)/\z.2.Perm (r.2.map f):=by
 obtain⟨i,hi⟩:=aiW hr;have:=(ahW.mp hi).1;have l:=n.len;have e:=ahU (show i<g.2.length by lia);exact⟨_,aiq _,n.rm i _ _ hi e⟩
theorem NamedH.locks(n:NamedH f U h g){y}:y∈aw g↔∃x∈aw h,f x=y:=by
 constructor
 .intro m;obtain⟨B,hr,m⟩:=aiM.mp m;obtain⟨r,hr,p,_⟩:=n.rooms hr;obtain⟨x,J,e⟩:=ah8.mp (p.mem_iff.mp m);exact⟨x,aiM.mpr ⟨r,hr,J⟩,e⟩
 .rintro⟨x,m,rfl⟩;obtain⟨r,hr,m⟩:=aiM.mp m;obtain⟨B,z,p,_⟩:=n.roomsR hr;exact aiM.mpr ⟨B,z,p.mem_iff.mpr (aiH m)⟩
theorem NamedH.ins(n:NamedH f U h g){y}:InH g y↔∃x,InH h x/\f x=y:=by
 constructor
 .intro m;rcases nq m with m|⟨J,hr,m⟩
  .obtain⟨x,z,e⟩:=ah8.mp (n.keys.mem_iff.mp m);exact⟨x,ph z,e⟩
  .obtain⟨r,hr,p,q⟩:=n.rooms hr;rcases m with m|m
   .obtain⟨x,z,e⟩:=ah8.mp (p.mem_iff.mp m);exact⟨x,lH hr z,e⟩
   .obtain⟨x,z,e⟩:=ah8.mp (q.mem_iff.mp m);exact⟨x,mj hr z,e⟩
 .rintro⟨x,m,rfl⟩;rcases nq m with m|⟨r,hr,m⟩
  .exact ph (n.keys.mem_iff.mpr (aiH m))
  .obtain⟨J,B,p,q⟩:=n.roomsR hr;rcases m with m|m
   .exact lH B (p.mem_iff.mpr (aiH m))
   .exact mj B (q.mem_iff.mpr (aiH m))
theorem uV{x y}:∀{z B} {i},z.length=B.length->(∀(j:Nat) r q,z[j]?=some r->B[j]?=some q->r.1.count x=q.1.count y/\r.2.count x=q.2.count y)->pR x i z=pR y i B
 |[],[],_,_,_=>rfl
 |[],_::_,_,e,_=>absurd e (by simp)
 |_::_,[],_,e,_=>absurd e (by simp)
 |r::z,q::B,i,e,c=>by
  obtain⟨a,b⟩:=c 0 r q rfl rfl;show List.replicate _ _++(List.replicate _ _++_)=List.replicate _ _++(List.replicate _ _++_);rw[a,b,uV (by simpa using e) λj=>c (j+1)]
theorem NamedH.plc(n:NamedH f U h g){x}(m:x∈U):plc h x=plc g (f x):=by
 unfold K7.plc;rw[show g.1.count _=h.1.count x by rw[n.keys.count_eq,fY n.inj m n.bg],uV  n.len.symm λj r q z B=>?_];have hr:=ah7 z;obtain⟨J,p2⟩:=n.rm j r q z B;rw[J.count_eq,p2.count_eq,fY n.inj m (n.lk r hr),fY n.inj m (n.wi r hr)];simp_all
theorem NamedH.told(n:NamedH f U h g){X Y}(k:NK h g X Y):X.map (·.1)=Y.map (·.1):=by
 obtain⟨⟨J,k2,B,L2,L,p2⟩,O,sb⟩:=k;refine ae2 (adt O) (adt sb) ((nj L).trans (.trans ?_ (nj p2).symm));have e:(J.map λk=>zI (K7.plc h k))=(J.map f).map λk=>zI (K7.plc g k):=by
  rw[aiG];exact aj4 λx S=>by show zI _=zI _;rw[n.plc (n.sub ((B.mem x).mp S))]
 rw[e];refine List.Perm.map _ ((ajt ?_ L2.nd).mpr λy=>?_)
 .exact List.Pairwise.map _ (λx y z=>z) (ajR  (fun {a b} Z hb ne z=>ne (n.inj a (n.sub ((B.mem a).mp Z)) b (n.sub ((B.mem b).mp hb)) z)) B.nd)
 .rw[L2.mem,show (y∈aG g\/y∈aw g)↔_ from n.ins,ah8];exact⟨λ⟨x,m,e⟩=>⟨x,(B.mem x).mp m,e⟩,λ⟨x,m,e⟩=>⟨x,(B.mem x).mpr m,e⟩⟩
theorem qp(n:NamedH f U h g){l}(s:∀x∈l,x∈U):(keep (aw h) l).map f=keep (aw g) (l.map f):=by
 unfold keep;rw[al6];refine aiO _ (aj3 λx z=>?_);show decide _=decide _;rw[ajx,n.locks];exact⟨λm=>⟨x,m,rfl⟩,λ⟨y,m,e⟩=>by rw[←n.inj y (n.sub (.inr m)) x (s x z) e];exact m⟩
theorem ux{z a b}(p:a.Perm b):(keep z a).Perm (keep z b):=p.filter _
theorem NamedH.need(n:NamedH f U h g):NamedH f U (gz h) (gz g):=by
 refine⟨n.inj,λx m=>n.bg x (aiU.mp m).1,λr hr x m=>?_,λr hr x m=>?_,?_,?_,λi r O e S=>?_⟩
 .obtain⟨q,z,rfl⟩:=ah8.mp hr;exact n.lk q z x m
 .obtain⟨q,z,rfl⟩:=ah8.mp hr;exact n.wi q z x (aiU.mp m).1
 .show (keep _ _).Perm ((keep _ _).map f);rw[qp n n.bg];exact ux n.keys
 .rw[jj,jj,n.len]
 .have J:∀x r,(gz x).2[i]?=some r->∃q,x.2[i]?=some q/\r=(q.1,keep (aw x) q.2):=λx r e=>by
   unfold gz at e;rw[ah1]at e;obtain⟨q,B,L⟩:=ai7.mp e;simp_all
  obtain⟨q,B,rfl⟩:=J h r e;obtain⟨Y,L,rfl⟩:=J g O S;obtain⟨Z,p2⟩:=n.rm i q Y B L;refine⟨Z,?_⟩;rw[qp n (n.wi q (ah7 B))];exact ux p2
theorem rJ{a b:Str}(inj:∀x∈U,∀y∈U,f x=f y->x=y)(B:b∈U){l:List Str}(s:∀x∈l,x∈U):(l.map (nmF a b)).map f=(l.map f).map (nmF (f a) (f b)):=by
 rw[aiG,aiG];refine aj4 λx J=>?_;show f (if x=b then a else x)=if f x=f b then f a else f x
 by_cases e:x=b
 .rw[if_pos e,if_pos (by rw[e])]
 .rw[if_neg e,if_neg λz=>e (inj x (s x J) b B z)]
theorem NamedH.nm(n:NamedH f U h g){a b}(ha:a∈U)(B:b∈U):NamedH f U (nmH h a b) (nmH g (f a) (f b)):=by
 have z:∀{l:List _},(∀x∈l,x∈U)->∀y∈l.map (nmF a b),y∈U:=fun {l} s y Y=>by
  obtain⟨x,hx,rfl⟩:=ah8.mp Y;unfold nmF;split<;>simp_all
 refine⟨n.inj,z n.bg,λr hr=>?_,λr hr=>?_,?_,?_,λi r Z e e'=>?_⟩
 .obtain⟨q,J,rfl⟩:=ah8.mp hr;exact z (n.lk q J)
 .obtain⟨q,J,rfl⟩:=ah8.mp hr;exact z (n.wi q J)
 .show (g.1.map _).Perm ((h.1.map _).map f);rw[rJ n.inj B n.bg];exact n.keys.map _
 .show (g.2.map _).length=(h.2.map _).length;rw[ahY,ahY,n.len]
 .have O:∀x a b r,(nmH x a b).2[i]?=some r->∃q,x.2[i]?=some q/\r=(q.1.map (nmF a b),q.2.map (nmF a b)):=λx a b r e=>by
   unfold nmH at e;rw[ah1]at e;obtain⟨q,L,S⟩:=ai7.mp e;simp_all
  obtain⟨q,L,rfl⟩:=O h _ _ r e;obtain⟨q',S,rfl⟩:=O g _ _ Z e';obtain⟨p1,p2⟩:=n.rm i q q' L S;have m:=ah7 L;constructor
  .rw[rJ n.inj B (n.lk q m)];exact p1.map _
  .rw[rJ n.inj B (n.wi q m)];exact p2.map _
theorem uF{h g m k}(a:AlikeH h g)(b:AlikeH m k)(t:Two h m):Two g k:=λo B=>by
 have z:=(a.gone o).mpr B;rw[←a.nxt z,t o z,b.nxt ((t.gone o).mp z)]
theorem AlikeH.sym{h g}(a:AlikeH h g):AlikeH g h:=⟨a.len.symm,λo=>(a.gone o).symm⟩
theorem NamedH.two(n:NamedH f U h g){a b}(z:a∈U)(B:b∈U):Two h (nmH h a b)↔Two g (nmH g (f a) (f b)):=
 ⟨uF n.alike (n.nm z B).alike,uF n.alike.sym (n.nm z B).alike.sym⟩
theorem aar{h g}(a:AlikeH h g){s t}(x:abx h s)(y:abx g t):s=t:=by
 refine zK (amo) (λa b c=>alQ) x.up y.up λz=>?_;rw[x.mem,y.mem];constructor
 .rintro⟨o,B,e,r⟩;exact⟨o,(a.gone o).mp B,by rw[←a.nxt B];exact e,r⟩
 .rintro⟨o,B,e,r⟩;have J:=(a.gone o).mpr B;exact⟨o,J,by rw[a.nxt J];exact e,r⟩
theorem NamedH.plain(n:NamedH f U h g):(h.2.all λr=>decide (r.1.length=1))=g.2.all λr=>decide (r.1.length=1):=by
 rw[ajg,aiZ,aiZ];constructor
 .intro z J hr;obtain⟨r,hr,p,_⟩:=n.rooms hr;have:=z r hr;rw[p.length_eq,ahY];exact this
 .intro z r hr;obtain⟨J,B,p,_⟩:=n.roomsR hr;have:=z J B;rw[p.length_eq,ahY]at this;exact this
theorem NamedH.klen(n:NamedH f U h g):(aG g).length=(aG h).length:=by
 unfold aG;rw[ahZ,ahZ,n.keys.length_eq,ahY];congr 1;have z:∀{B J:List Rm},B.length=J.length->(∀(j:Nat) r q,B[j]?=some r->J[j]?=some q->q.2.length=r.2.length)->(J.flatMap (·.2)).length=(B.flatMap (·.2)).length:=by
  intro B
  induction B with
  |nil=>grind
  |cons r B L=>intro J e c;cases J with
   |nil=>cases e
   |cons q J=>
    rw[aiY,aiY,ahZ,ahZ,c 0 r q rfl rfl,L (by simpa using e) λj=>c (j+1)]
 exact z n.len.symm λj r q O S=>by rw[(n.rm j r q O S).2.length_eq,ahY]
theorem NamedH.few(n:NamedH f U h g)(u:U.length<61)(k:(aG h).length<=700)(ok:aE g)(O:g.2.length<=8):fe g/\wM g:=by
 refine⟨⟨⟨U.map f,by rw[ahY];exact u,λx m=>?_⟩,by rw[n.klen];exact k,?_⟩,zQ (by lia) λr hr=>(ok.rs r hr).l4⟩
 .obtain⟨y,B,e⟩:=n.ins.mp m;exact ah8.mpr ⟨y,n.sub B,e⟩
 .have:∀z:List Rm,(∀r∈z,r.1.length<=4)->(z.flatMap (·.1)).length<=4*z.length:=λz=>by
   induction z with
   |nil=>intro _;exact ail _
   |cons r z J=>
    intro q;rw[aiY,ahZ,aiJ];have a:=q r aid;have b:=J λx L=>q x (aih _ L);lia
  have:=this g.2 λr hr=>(ok.rs r hr).l4;show (g.2.flatMap (·.1)).length<=1000;lia
theorem NamedH.comp{z B k}(n:NamedH f U h g)(m:NamedH z B g k)(s:∀x∈U,f x∈B):NamedH (λx=>z (f x)) U h k:=by
 refine⟨λx J y L e=>n.inj x J y L (m.inj _ (s x J) _ (s y L) e),n.bg,n.lk,n.wi,?_,m.len.trans n.len,λi r r' e O=>?_⟩
 .have:=m.keys.trans (n.keys.map z);rwa [aiG]at this
 .have l:=m.len;have:=(ahW.mp O).1;have S:=ahU (show i<g.2.length by lia);obtain⟨Y,p2⟩:=n.rm i _ _ e S;obtain⟨Z,q2⟩:=m.rm i _ _ S O;have a:=Z.trans (Y.map z);have b:=q2.trans (p2.map z);rw[aiG]at a b;exact⟨a,b⟩
theorem NamedH.same{l}(s:∀x,InH h x->x∈l):NamedH id l h h:=
 ⟨λ_ _ _ _ e=>e,λx m=>s x (ph m),λr hr x m=>s x (lH hr m),λr hr x m=>s x (mj hr m),by rw[amS],rfl,λi r z e B=>by simp_all⟩
end
theorem zr{D H o}:fb D (upd H D o)=fb D H:=by
 funext b;unfold fb;split
 .rfl
 .rename_i hb;rw[ai hb]
theorem RoomsAt.snocD{H vs B v r}(x:RoomsAt H vs B)(y:RoomAt H v r):RoomsAt H (vs++[v]) (B++[r]):=by
 refine⟨by rw[ahZ,ahZ,x.1];rfl,λi L O z J=>?_⟩;have l:=x.1;by_cases hi:i<vs.length
 .rw[aik hi]at z;rw[aik (by lia)]at J;exact x.2 i L O z J
 .have S:=(ahW.mp z).1;simp_all
def nmW(f:Str->Str):V->V
 |.str x=>.str (f x)
 |v=>v
theorem vD f (l:List _):(l.map V.str).map (nmW f)=(l.map f).map V.str:=by
 rw[aiG,aiG]
 rfl
def aho:Sp:=λvs H Q _=>∃(v:V) (d:Addr) (h:Hs) (ks ms:List Str),vs=[v,.ref d]/\HouseAt H v h/\aE h/\H d=some (.dK (jY ks ms))/\(∀x,InH h x->x∈ks)/\ks.length=ms.length/\ms.Nodup/\(∀k∈ms,aW k)/\∀(u:V) (g:Hs) (H':Hp),Same H H'->HouseAt H' u g->aE g->NamedH (bO ks ms) ks h g->Q u H'
inductive ByI(v:V)(d lr:Addr)(ks ms:List Str)(h:Hs)(H:Hp)(i:Nat)(σ:L2.St)(H':Hp):Prop
 |mk (gv:List V) (rs:List Rm) (x3 x4:Option V):σ=[some v,some (.ref d),some (.ref lr),x3,x4]->H' lr=some (.lst gv)->RoomsAt (fb lr H') gv rs->rs.length=i->(∀(j:Nat) r q,h.2[j]?=some r->rs[j]?=some q->zM q/\q.1.Perm (r.1.map (bO ks ms))/\q.2.Perm (r.2.map (bO ks ms)))->Same H H'->ByI v d lr ks ms h H i σ H'
section
variable {P:Program}{w:World}{K:PySem.W.Frag}{mg:Str->Option Value}{base:Heap}
theorem jC:aA ["house","names","rooms","locks","keys"] ["house","names"] (ak fB):=scM rfl rfl rfl rfl (by decide +kernel)
theorem jd:(["kind","names"]:List Str).Nodup:=by decide +kernel
theorem ag3{f:Addr}{fd:FuncData}(F:Fun K "_law_by" "_law_by" fB f fd)(aI:mg "sorted" = none):bx P w K mg base CX0 1 f fd ["house","names"] aho:=by
 refine F.ok jC (λvs H Q E h=>?_) (λbF A outer s H vs Q E hr h=>?_)
 .obtain⟨v,d,h,ks,B,rfl,_⟩:=h
  rfl
 .have hu:=gm hr;obtain⟨v,d,h,ks,B,rfl,hh,ok,ed,sub,l2,nd,vk,q⟩:=h;refine⟨_,(ao (aB (i:=2) jC.nd rfl (.inl rfl) yB)
   (ao (cy (d9 aiN rfl (aV (bY iM (pv 0) ar (λ_ _=>rfl))) (gb rfl (au (aq (i:=3) jC.nd rfl (.inl rfl)) (au (aq (i:=4) jC.nd rfl (.inl rfl)) aO)))
    (av (bX (kO aiy ajy ajz cV (pv 2) (ae (gC (ae (ay iG rfl aI aj6 (ae (gH (tg:=.Name "kind" _) (outer:=ak (fB)) (N:=["house","names","rooms","locks","keys"]) (N':=["kind","names"]) (nl:=1) (ix:=[1]) rfl rfl rfl (aV (pv 3))
    (λ_ _ _ _=>(aq (i:=0) jd rfl (.inl rfl) (.inr rfl))) (λ_ _ _ _=>bt)
    (λ_ _ _ _=>(eN hu (pv 1) (pv 0) (λ_ _=>rfl)))) aj)) (ae (abO (gH (tg:=.Name "kind" _) (outer:=ak (fB)) (N:=["house","names","rooms","locks","keys"]) (N':=["kind","names"]) (nl:=1) (ix:=[1]) rfl rfl rfl (aV (pv 4))
    (λ_ _ _ _=>(aq (i:=0) jd rfl (.inl rfl) (.inr rfl))) (λ_ _ _ _=>bt)
    (λ_ _ _ _=>(eN hu (pv 1) (pv 0) (λ_ _=>rfl)))) (yH qL ar)) aj))) aj))))))
   (av (aM (gC (ae (abO (gH (tg:=.Name "kind" _) (outer:=ak (fB)) (N:=["house","names","rooms","locks","keys"]) (N':=["kind","names"]) (nl:=1) (ix:=[1]) rfl rfl rfl (aV (bY iM (pv 0) ar (λ_ _=>rfl)))
    (λ_ _ _ _=>(aq (i:=0) jd rfl (.inl rfl) (.inr rfl))) (λ_ _ _ _=>bt)
    (λ_ _ _ _=>(eN hu (pv 1) (pv 0) (λ_ _=>rfl)))) (yH qL ar)) (ae (pv 2) aj))))))),?_⟩
  obtain⟨t,a,r,us,rfl,ht,ha,aD,hR⟩:=hh;have ul:=hR.1;have bI:1000000<sizeLine:=by decide
  have a9:=ok.rl;have kl:=ok.kl;have vf:∀{x},x∈ks->cD (jY ks B) _=some _:=λO=>rj O l2;have nv:∀{x},x∈ks->bO ks B x∈B:=qc l2;refine⟨ail _,λZ aE=>?_⟩;have s1:Same H (upd H Z (.lst [])):=aQ aE;have e1:(upd H Z _) Z=some (.lst []):=af;refine⟨λσ H'=>ByI (.ref t) d Z ks B h H h.2.length σ H',?_,?_⟩
  .rintro σ H8 ⟨gv,rs,x3,x4,rfl,Y,hg,al,ac,S⟩;dsimp only [zT,adq,ax,cS,agU];refine aH _ _ _ _ _ _ _ _ _ ?_;refine⟨_,rfl,t,_,0,.ref a,rfl,rfl,aAB (S _ _ ht),rfl,a,rfl,⟨_,aAA (S _ _ ha)⟩,λD nD=>?_⟩;refine kC (F:=nmW (bO ks B)) (S _ _ ha) nD (by rw[ahY];lia) (λx=>rfl) (λG x R O sG r0=>?_) λH9 s9 aJ=>?_
   .obtain⟨z,J,rfl⟩:=ah8.mp O;exact⟨_,rfl,_,rfl,d,_,rfl,pH  (sG _ _ (S _ _ ed)) (vf (sub z (ph J))),r0 G (Same.refl G)⟩
   rw[vD]at aJ;refine⟨_,rfl,rfl,D,_,rfl,aAA aJ,λmA ab=>⟨_,rfl,by show 2<=sizeLine;decide,λT nT=>?_⟩⟩;rw[←alI];rw[←alI]at nT;have sM:Same H9 (upd H9 mA (.lst ((h.1.map (bO ks B)).reverse.map V.str))):=aQ ab;have eM:(upd H9 mA _) mA=some (.lst ((h.1.map (bO ks B)).reverse.map V.str)):=af;generalize upd H9 mA (.lst ((h.1.map (bO ks B)).reverse.map V.str))=HA at *;have sT:Same HA (upd HA T (.tup [.ref mA,.ref Z])):=aQ nT;have an:=(s9.trans sM).trans sT;have L:((h.1.map (bO ks B)).reverse).Perm _:=List.reverse_perm _;generalize (h.1.map (bO ks B)).reverse=mw at *;have kk:∀k∈mw,aW k:=λk hk=>by
    obtain⟨z,J,rfl⟩:=ah8.mp (L.mem_iff.mp hk);exact vk _ (nv (sub z (ph J)))
   have bf:=L.length_eq;refine q (.ref T) (mw,rs) _ (S.trans an) ⟨T,mA,Z,gv,rfl,af,sT _ _ eM,an _ _ Y,hg.same (offD_all.trans an)⟩ ⟨kk,by simp_all,λx O=>?_,by simp_all⟩ ⟨λx O y hy e=>lL l2 nd x O y hy e,λx m=>sub x (ph m),λr hr x m=>sub x (lH hr m),λr hr x m=>sub x (mj hr m),L,al,λi r r' e e'=>(ac i r r' e e').2⟩;obtain⟨j,hj⟩:=aiW O;have:j<rs.length:=(ahW.mp hj).1;exact (ac j _ x (ahU (by lia)) hj).1
  .refine⟨_,rfl,t,_,1,.ref r,rfl,rfl,aAB (s1 _ _ ht),rfl,r,rfl,⟨_,aAA (s1 _ _ aD)⟩,?_⟩;refine fh  (λi bg H'=>ByI _ d Z ks B h H i bg H') (.mk [] [] _ _ rfl e1 ⟨rfl,λi v r e=>by simp at e⟩ rfl (λj r q _ e=>by simp at e) s1) (λi σ H' _ ⟨_,_,_,_,_,_,_,_,_,s⟩=>aAA (s _ _ aD)) ?_ (λσ H' z=>by simp_all);rintro i x σ H8 O ⟨gv,rs,x3,x4,rfl,Y,hg,al,ac,S⟩;have hi:i<h.2.length:=by rw[←ul];exact (ahW.mp O).1
   have er:=ahU hi;obtain⟨tt,aa,bb,rfl,q1,q2,q3⟩:=hR.2 i x _ O er;have ap:=aiq hi;have ro:=ok.rs _ ap;have r4:=ro.l4;have bW:=ro.kl;have gl:=hg.1;refine⟨tt,_,rfl,aAB (S _ _ q1),rfl,?_⟩;refine⟨_,_,rfl,_,_,rfl,rfl,?_⟩;dsimp only [aa0,tBM,adq,ax,cS,tCB,agU];refine⟨_,rfl,.inl ⟨rfl,_,aAA Y⟩,?_⟩;refine aH _ _ _ _ _ _ _ _ _ ?_;refine⟨_,rfl,aa,rfl,⟨_,aAA (S _ _ q2)⟩,λD1 bi=>?_⟩;have ah:=fun {z} J=>sub z (lH ap J);have ai:=fun {z} J=>sub z (mj ap J);refine kC (F:=nmW (bO ks B)) (S _ _ q2) bi (by rw[ahY];lia) (λx=>rfl) (λG x R O sG r0=>?_) λG5 aN aP=>?_
   .obtain⟨z,J,rfl⟩:=ah8.mp O;exact⟨_,rfl,_,rfl,d,_,rfl,pH  (sG _ _ (S _ _ ed)) (vf (ah J)),r0 G (Same.refl G)⟩
   rw[vD]at aP;refine⟨D1,_,rfl,aAA aP,by rw[ahY];lia,λls ss as perm so=>?_⟩;have s6:Same G5 (upd G5 ls (.lst (ss.map V.str))):=aQ as;have e6:(upd G5 ls _) ls=some (.lst (ss.map V.str)):=af;generalize upd G5 ls (.lst (ss.map V.str))=G6 at *;have ag:=aN.trans s6;refine aH _ _ _ _ _ _ _ _ _ ?_;refine⟨_,rfl,bb,rfl,⟨_,aAA (ag _ _ (S _ _ q3))⟩,λD2 bj=>?_⟩;refine kC (F:=nmW (bO ks B)) (ag _ _ (S _ _ q3)) bj (by rw[ahY];lia) (λx=>rfl) (λG x R O sG r0=>?_) λG7 aR aS=>?_
   .obtain⟨z,J,rfl⟩:=ah8.mp O;exact⟨_,rfl,_,rfl,d,_,rfl,pH  (sG _ _ (ag _ _ (S _ _ ed))) (vf (ai J)),r0 G (Same.refl G)⟩
   rw[vD]at aS;have aT:=ag.trans aR;refine⟨_,rfl,rfl,D2,_,rfl,aAA aS,λmA ab=>⟨by show 2<=sizeLine;decide,λT nT=>?_⟩⟩;rw[←alI];rw[←alI]at nT;have sM:Same G7 (upd G7 mA (.lst ((h.2[i].2.map (bO ks B)).reverse.map V.str))):=aQ ab;have eM:(upd G7 mA _) mA=some (.lst ((h.2[i].2.map (bO ks B)).reverse.map V.str)):=af;generalize upd G7 mA (.lst ((h.2[i].2.map (bO ks B)).reverse.map V.str))=HA at *;have L:((h.2[i].2.map (bO ks B)).reverse).Perm _:=List.reverse_perm _;generalize (h.2[i].2.map (bO ks B)).reverse=mw at *;have bk:=aT.trans sM;have sT:Same HA (upd HA T (.tup [.ref ls,.ref mA])):=aQ nT;have eT:(upd HA T _) T=some (.tup [.ref ls,.ref mA]):=af;have bm:=sT _ _ (sM _ _ (aR _ _ e6));have bn:=sT _ _ eM;have aw:=bk.trans sT;have aU:=aw _ _ Y;generalize upd HA T (.tup [.ref ls,.ref mA])=HB at *;refine⟨Z,_,_,rfl,rfl,aU,ah9 (show gv.length<1001 by lia) (by decide),?_⟩;have bo:ls≠Z:=λz=>by rw[z,aN _ _ Y]at as;cases as
   have bp:mA≠Z:=λz=>by rw[z,aT _ _ Y]at ab;cases ab
   have Tn:T≠Z:=λz=>by grind
   have bq:RoomAt (fb Z HB) _ (ss,mw):=⟨T,ls,mA,rfl,by rw[iz Tn];exact eT,by rw[iz bo];exact bm,by rw[iz bp];exact bn⟩;have br:=hg.same (lq aw);have b6:=perm.length_eq;have bf:=L.length_eq;have l1:=ro.l1;refine .mk (gv++[.ref T]) (rs++[(ss,mw)]) _ _ rfl af (by rw[zr];exact br.snocD bq) (by simp_all) (λj x y ex ey=>?_) (dv (S.trans aw) aE);by_cases hj:j<rs.length
   .rw[aik hj]at ey;exact ac j x y ex ey
   .have bs:=(ahW.mp ey).1;rw[ahZ,ai6]at bs;have ei:j=rs.length:=by lia
    subst ei;rw[aio (ah4 _),akd]at ey;cases ey;rw[al,er]at ex;cases ex;have kl:∀k∈ss,aW k:=λk hk=>by
     obtain⟨z,J,rfl⟩:=ah8.mp (perm.mem_iff.mp hk);exact vk _ (nv (ah J))
    have kw:∀k∈mw,aW k:=λk hk=>by
     obtain⟨z,J,rfl⟩:=ah8.mp (L.mem_iff.mp hk);exact vk _ (nv (ai J))
    exact⟨⟨kl,by simp_all,by simp_all,eU so,kw,by simp_all⟩,perm,L⟩
theorem acB{x:V}:[x].length<=sizeLine:=show 1<=sizeLine by decide
theorem yg{x y z:V}:[x,y,z].length<=sizeLine:=show 3<=sizeLine by decide
theorem acY{t u D σ H}(h:t {D with nx:=u D} σ H):sI t u D σ H:=h
theorem af8{te i D σ H}(h:te σ H λx H1=>D.nx (σ.set i (some x)) H1):qC te (aR i) D σ H:=h
theorem dJ{p n c H Q}(J:PoolAt H p c)(L:0<n)(h1:n<=1000000)(O:0<=c)(z:c<1000000)(k:∀r c' H',0<=r->r<n->c<=c'->c'<=c+1->PoolAt H' p c'->But p H H'->Q (.int r) H'):dF [.ref p,.int n] H Q E0:=by
 obtain⟨o,e,S⟩:=J;exact⟨p,n,c,o,rfl,e,S,L,h1,O,z,λr c' o' Y Z g1 g2 B=>k r c' _ Y Z g1 g2 ⟨o',af,B⟩ But.upd⟩
theorem PoolAt.new{p c H l o}(z:PoolAt H p c)(n:H l=none):PoolAt (upd H l o) p c:=by
 obtain⟨x,e,B⟩:=z;exact⟨x,by rw[ai (ag e n)];exact e,B⟩
theorem PoolAt.ne{p l c H}(z:PoolAt H p c)(n:H l=none):l≠p:=by
 obtain⟨x,e,B⟩:=z;exact (ag e n).symm
theorem iV{p l H o}(n:H l=none):But p H (upd H l o):=λb u _ e=>by rw[ai (ag e n)];exact e
inductive RmK(ks:List Str)(m:Nat)(r:Rm):Prop
 |mk:(∀k∈r.1,k∈ks)->1<=r.1.length->r.1.length<=4->r.1.Pairwise leS->(∀k∈r.2,k∈ks)->r.2.length<=m->RmK ks m r
structure KsK(ks:List Str):Prop where
 ok:∀k∈ks,aW k
 l2:2<=ks.length
 l12:ks.length<=12
def vF(K:PySem.W.Frag):TS:=sI (qC (dO qP [] E0 (ax (dq 0) (ax (dq 2) (ax (tOp (rI0 λi j=>V.int (i+j)) (tC (V.int 1)) (dO dF [] E0 (ax (dq 0) (ax (tOp (zo K) (aaO (ax (tC (V.int 1)) (ax (tC (V.int 3)) (ax (tC (V.int 4)) cS)))) (dO dF [] E0 (ax (dq 0) (ax (tC (V.int 3)) cS)))) cS)))) cS)))) (aR 6)) (aa0 (tBM K "list" vO (dq 4) (ax (adq (ax (tCB (λxs H_1 Q=>∃p ss,xs=[V.ref p]/\SqL K H_1 p (List.map V.str ss)/\ss.length<64/\∀(l:Addr) (ss':List Str),H_1 l=none->ss'.Perm ss->sortedS ss'=true->Q (V.ref l) (upd H_1 l (HO.lst (List.map V.str ss')))) (ax (dq 6) cS)) (ax (dO qP [] E0 (ax (dq 0) (ax (dq 2) (ax (dO dF [] E0 (ax (dq 0) (ax (tOp (zo K) (aaO (ax (tC (V.int 4)) (ax (tC (V.int 4)) (ax (tC (V.int 4)) (ax (tC (V.int 10)) cS))))) (dO dF [] E0 (ax (dq 0) (ax (tC (V.int 4)) cS)))) cS))) cS)))) cS))) cS)))
inductive FwI(p:Addr)(most:Nat)(kA:Addr)(bs:Int)(rA:Addr)(ks:List Str)(c4:Int)(H4:Hp)(i:Nat)(σ':L2.St)(H':Hp):Prop
 |mk (x5 x6:Option V) (vs:List V) (rs:List Rm) (ws:List Addr) (c':Int):σ'=[some (.ref p),some (.int most),some (.ref kA),some (.int bs),some (.ref rA),x5,x6,none]->RoomsW p H' rA vs rs ws->(∀w∈ws,H4 w=none)->rs.length=i->(∀r∈rs,RmK ks 9 r)->PoolAt H' p c'->c4<=c'->c'<=c4+20*i->But p H4 H'->FwI p most kA bs rA ks c4 H4 i σ' H'
theorem zZ{K:PySem.W.Frag}{D:xQ}{p kA rA:Addr}{S:Nat}{bs:Int}{ks:List Str}{c4 c5:Int}{H4 H:Hp}{i:Nat}{x5 x6:Option V}{vs:List V}{rs:List Rm}{ws:List Addr}(kk:KsK ks)(hk:At p H4 kA (.lst (ks.map V.str)))(c0:0<=c4)(c1:c4+1000<1000000)(hi:i<8)(nR:H4 rA=none)
 (hW:RoomsW p H rA vs rs ws)(aS:∀w∈ws,H4 w=none)(aT:rs.length=i)(aV:∀r∈rs,RmK ks 9 r)(hp:PoolAt H p c5)(g1:c4<=c5)(g2:c5<=c4+20*i)(b5:But p H4 H)(hN:∀ar H',FwI p S kA bs rA ks c4 H4 (i+1) ar H'->D.nx ar H'):
 vF K D [some (.ref p),some (.int S),some (.ref kA),some (.int bs),some (.ref rA),x5,x6,none] H:=by
 have l2:=kk.l2;have bC:=kk.l12;have as:ks≠[]:=λz=>by rw[z]at l2;simp at l2
 unfold vF;refine acY (af8 ?_);refine⟨_,rfl,_,rfl,_,rfl,yg,λl1 n1=>⟨_,rfl,?_⟩⟩;have b6:But p H (upd H l1 (.lst [.int 1,.int 3,.int 4])):=iV n1;have e6:At p (upd H l1 (.lst [.int 1,.int 3,.int 4])) l1 (.lst [.int 1,.int 3,.int 4]):=⟨af,hp.ne n1⟩;have aY:=hp.new (o:=.lst [.int 1,.int 3,.int 4]) n1;dsimp only [ax,dO,tC,cS];refine dJ (n:=3) aY (by decide) (by decide) (by lia) (by lia) λr c7 H7 r0 r1 g3 g4 aZ b7=>?_;obtain⟨m,hm,ha⟩:=agw (xs:=[1,3,4]) r0 r1;have bJ:1<=m/\m<=4:=by simp only[ain,aiT,amh]at hm;lia
 refine⟨l1,_,r,.int m,rfl,rfl,aAA (e6.on b7).1,ha,?_⟩;dsimp only [ax,dO,tC,cS];refine dJ (n:=m) aZ (by lia) (by lia) (by lia) (by lia) λq c8 H8 q0 q1 g5 g6 au b8=>?_;obtain⟨n,rfl⟩:∃n:Nat,q=(n:Int):=⟨q.toNat,by lia⟩;refine⟨_,_,rfl,rfl,?_⟩;have av:=b6.trans (b7.trans b8);have aw:=(hk.on b5).on av;refine⟨p,kA,1+n,c8,ks,by simp,au,aw.1,as,by lia,by lia,by lia,by lia,λdA ds c9 H9 nd bM a0 a1 ae g7 g8 b9=>?_⟩;have bN:dA≠p:=au.ne nd;have J:=av.trans b9;refine⟨_,rfl,.inl ⟨rfl,_,aAA (hW.on J).ls.1⟩,_,rfl,dA,ds,rfl,aAA a1,by lia,λL bO ns a2 a3=>?_⟩;have es:=wB a2 a3;subst es;have az:But p H9 (upd H9 L (.lst ((fq ds).map V.str))):=iV ns;have aA:At p (upd H9 L (.lst ((fq ds).map V.str))) L (.lst ((fq ds).map V.str)):=⟨af,ae.ne ns⟩;have Y:=ae.new (o:=.lst ((fq ds).map V.str)) ns;have a4:L≠p:=ae.ne ns;have a5:H L=none:=J.free a4 ns;generalize upd H9 L (.lst ((fq ds).map V.str))=ah at *;refine⟨_,rfl,_,rfl,_,rfl,(show 4<=sizeLine by decide),λl2 n2=>⟨_,rfl,?_⟩⟩;have aj:But p ah (upd ah l2 (.lst [.int 4,.int 4,.int 4,.int 10])):=iV n2;have a7:At p (upd ah l2 (.lst [.int 4,.int 4,.int 4,.int 10])) l2 (.lst [.int 4,.int 4,.int 4,.int 10]):=⟨af,Y.ne n2⟩;have aB:=Y.new (o:=.lst [.int 4,.int 4,.int 4,.int 10]) n2;dsimp only [ax,dO,tC,cS];refine dJ (n:=4) aB (by decide) (by decide) (by lia) (by lia) λr2 bQ bR a8 a9 g9 bS aC O=>?_;obtain⟨m2,ba,bb⟩:=agw (xs:=[4,4,4,10]) a8 a9;have bt:4<=m2/\m2<=10:=by simp only[ain,aiT,amh]at ba;lia
 refine⟨l2,_,r2,.int m2,rfl,rfl,aAA (a7.on O).1,bb,?_⟩;dsimp only [ax,dO,tC,cS];refine dJ (n:=m2) aC (by lia) (by lia) (by lia) (by lia) λq2 bc bU bV bW bX bY Z ak=>?_;obtain⟨bd,rfl⟩:∃n:Nat,q2=(n:Int):=⟨q2.toNat,by lia⟩;have aa:=az.trans (aj.trans (O.trans ak));have aD:=(aw.on b9).on aa;refine⟨p,kA,bd,bc,ks,rfl,Z,aD.1,as,by lia,by lia,by lia,by lia,λwA ss be aF nw bZ bg ab ac b0 b1 bh=>?_⟩;have al:wA≠p:=Z.ne nw;refine⟨fo,λtA nT=>?_⟩;have aG:tA≠p:=ac.ne nT;have bT:But p aF (upd aF tA (.tup [.ref L,.ref wA])):=iV nT;have B:=aj.trans (O.trans (ak.trans bh));have am:=(J.trans (az.trans B)).trans bT;have aH:H wA=none:=(J.trans aa).free al nw;have bj:L≠wA:=ag (aA.on (aj.trans (O.trans ak))).1 nw;have bk:=hW.more (r:=(fq ds,ss)) am (t:=tA) (d:=L) (w:=wA) ⟨af,aG⟩ ((aA.on B).on bT) ⟨by rw[ai (ag ab nT)];exact ab,al⟩ a5 aH bj;have aI:=(hW.on am).ls;obtain⟨bm,aJ,aK⟩:=ac;refine⟨rA,vs,.ref tA,rfl,rfl,aI.1,by rw[hW.l1];exact aU (by lia),hN _ _ (.mk _ _ _ _ _ be rfl bk (λw hw=>?_) (by simp[aT]) (λr' hr'=>?_) ⟨bm,by rw[ai aI.2.symm,ai aG.symm];exact aJ,aK⟩ (by lia) (by lia) λb u hb e=>?_)⟩
 .rcases aic.mp hw with hw|hw
  .exact aS w hw
  .rw[ah5.mp hw];exact b5.free al aH
 .rcases aic.mp hr' with hr'|hr'
  .exact aV r' hr'
  .rw[ah5.mp hr'];exact⟨λk hk=>a0 k (sortS_mem.mp hk),by rw[dZ];lia,by rw[dZ];lia,nI _,bg,by show ss.length<=9;lia⟩
 .rw[ai (ag e nR)];exact am b u hb (b5 b u hb e)
def wQ(K:PySem.W.Frag)(A1:Around):TS:=afH (ahl (vc (tOp (agz A1 true) (dq 4) (aaO cS))) (vc (tOp rEq (dO dF [] E0 (ax (dq 0) (ax (tC (V.int 8)) cS))) (tC (V.int 0))))) (aa0 (tBM K "list" zV (tOp (ahg K) (tOp (zo K) (dq 4) (dO dF [] E0 (ax (dq 0) (ax (tCB (λxs H_1 Q=>∃p ys,xs=[V.ref p]/\(SqL K H_1 p ys\/SqT K H_1 p ys)/\Q (V.int ((ys.length:Nat):Int)) H_1) (ax (dq 4) cS)) cS)))) (tC (V.int 1))) (ax (dO qP [] E0 (ax (dq 0) (ax (dq 2) (ax (dO dF [] E0 (ax (dq 0) (ax (tC (V.int 60)) cS))) cS)))) cS))) wU
inductive FwX(p:Addr)(most:Nat)(kA:Addr)(bs:Int)(rA:Addr)(ks:List Str)(c4:Int)(H4:Hp)(σ':L2.St)(H':Hp):Prop
 |mk (x5 x6:Option V) (vs:List V) (rs:List Rm) (ws:List Addr) (c':Int):σ'=[some (.ref p),some (.int most),some (.ref kA),some (.int bs),some (.ref rA),x5,x6,none]->RoomsW p H' rA vs rs ws->rs.length<=8->(∀r∈rs,RmK ks 70 r)->PoolAt H' p c'->c4<=c'->c'<=c4+300->But p H4 H'->FwX p most kA bs rA ks c4 H4 σ' H'
theorem RmK.mono{ks m n r}(x:RmK ks m r)(h:m<=n):RmK ks n r:=by
 obtain⟨a,b,c,d,e,f⟩:=x;exact⟨a,b,c,d,e,aij f h⟩
theorem aav{K:PySem.W.Frag}{A1:Around}{D:xQ}{p kA rA:Addr}{ab:Nat}{bs:Int}{ks:List Str}{c4 c5:Int}{H4 H:Hp}{i:Nat}{x5 x6:Option V}{vs:List V}{B:List Rm}{ws:List Addr}(hu:A1.units+1<cLine)(kk:KsK ks)(hk:At p H4 kA (.lst (ks.map V.str)))(c0:0<=c4)(c1:c4+1000<1000000)(hi:i<=8)
 (hW:RoomsW p H rA vs B ws)(aD:∀w∈ws,H4 w=none)(bb:B.length=i)(ac:∀r∈B,RmK ks 9 r)(hp:PoolAt H p c5)(g1:c4<=c5)(g2:c5<=c4+20*i)(b5:But p H4 H)(hN:∀am H',FwX p ab kA bs rA ks c4 H4 am H'->D.nx am H'):
 wQ K A1 D [some (.ref p),some (.int ab),some (.ref kA),some (.int bs),some (.ref rA),x5,x6,none] H:=by
 have l2:=kk.l2;have be:=kk.l12;have aF:ks≠[]:=λz=>by rw[z]at l2;simp at l2
 have J:∀r∈B,RmK ks 70 r:=λr hr=>(ac r hr).mono (by decide);have rk:∀r∈B,(∀k∈r.1,aW k)/\∀k∈r.2,aW k:=λr hr=>by
  obtain⟨a,b,c,d,e,f⟩:=ac r hr;exact⟨λk hk=>kk.ok k (a k hk),λk hk=>kk.ok k (e k hk)⟩
 unfold wQ;refine⟨_,rfl,ail _,λe ne=>?_⟩;have aG:Same H (upd H e (.lst [])):=aK ne;have he:(upd H e (.lst [])) e=some (.lst []):=af;have an:=hp.new (o:=.lst []) ne;generalize upd H e (.lst [])=H7 at *;have b7:But p H H7:=λb u _ q=>aG b u q;have L:=hW.on b7;refine⟨.list (B.map jF),.list [],.lst L.ls.1 (qM L.rooms),.lst he .nil,uN rk,rfl,?_,?_⟩
 .exact aiA (ajn (amU _ _) _) hu
 by_cases O:B=[]
 .subst O;refine⟨false,rfl,iR (iR ?_)⟩;exact hN _ _ (.mk _ _ _ [] _ c5 rfl L (by simp) J an g1 (by lia) (b5.trans b7))
 .have aH:(if true=true then !PyData.eqv (.list (B.map jF)) (.list []) else PyData.eqv (.list (B.map jF)) (.list []))=true:=by
   cases B with
   |nil=>exact absurd rfl O
   |cons a t=>rfl
  refine⟨true,aiO V.bl aH,mZ ?_⟩;refine⟨_,rfl,?_⟩;dsimp only [ax,dO,tC,cS];refine dJ (n:=8) an (by decide) (by decide) (by lia) (by lia) λz c8 H8 z0 z1 g3 g4 ao b8=>?_;refine⟨rfl,_,rfl,abX (λ_=>?_) (λ_=>?_)⟩
  .have ad:=L.on b8;have bj:0<B.length:=List.length_pos_iff.mpr O;refine⟨_,rfl,_,rfl,_,rfl,rA,vs,rfl,.inl (aAA ad.ls.1),?_⟩;dsimp only [ax,dO,tC,cS];have vl:((vs.length:Nat):Int)=(B.length:Int):=by rw[ad.l1]
   refine dJ (n:=((vs.length:Nat):Int)) ao (by lia) (by lia) (by lia) (by lia) λii c9 H9 i0 i1 g5 g6 aI b9=>?_;obtain⟨ix,rfl⟩:∃n:Nat,ii=(n:Int):=⟨ii.toNat,by lia⟩;have Z:=ad.on b9;have aa:ix<B.length:=by lia
   have S:ix<ws.length:=by rw[Z.l2];exact aa
   obtain⟨t,d,a1,a2,a3,a4,a5,a6⟩:=Z.item ix B[ix] ws[ix] (ahU aa) (ahU S);refine⟨rA,vs,_,.ref t,rfl,rfl,aAA Z.ls.1,ir a1,t,_,1,.ref ws[ix],rfl,rfl,aAB a2.1,rfl,.inl ⟨rfl,_,aAA a4.1⟩,?_⟩;have ap:=b7.trans (b8.trans b9);have aL:=(hk.on b5).on ap;refine⟨_,rfl,_,rfl,_,rfl,?_⟩;dsimp only [ax,dO,tC,cS];refine dJ (n:=60) aI (by decide) (by decide) (by lia) (by lia) λmo aM bn m0 m1 g7 g8 aq ar=>?_;obtain⟨aN,rfl⟩:∃n:Nat,mo=(n:Int):=⟨mo.toNat,by lia⟩;refine⟨p,kA,aN,aM,ks,rfl,aq,(aL.on ar).1,aF,by lia,by lia,by lia,by lia,λl ss aO bo nl bp aP as au g9 bq aQ=>?_⟩;have Y:=ar.trans aQ;have av:=Z.on Y;obtain⟨r1,r2,r3,r4,r5,r6⟩:=ac B[ix] (aiq aa);refine⟨ws[ix],l,_,_,rfl,rfl,(a4.on Y).1,as,by rw[ahY,ahY];exact aiF (aU (by lia)),?_⟩;have aR:=av.ext (ss:=ss) (ahU aa) (ahU S);obtain⟨aS,ae,ah⟩:=au;refine hN _ _ (.mk _ _ _ _ _ aO rfl aR (by simp;lia) (λr hr'=>?_) ⟨aS,by rw[ai (ai2 a4.2)];exact ae,ah⟩ (by lia) (by lia) λb u hb e=>?_)
   .rcases List.mem_or_eq_of_mem_set hr' with hr'|hr'
    .exact J r hr'
    .rw[hr'];refine⟨r1,r2,r3,r4,λk hk=>?_,?_⟩
     .rcases aic.mp hk with hk|hk
      .exact r5 k hk
      .exact aP k hk
     .show (B[ix].2++ss).length<=70;rw[ahZ];lia
   .rw[ai (ag e (aD _ (aiq S)))];exact (ap.trans Y) b u hb (b5 b u hb e)
  .exact hN _ _ (.mk _ _ _ B _ c8 rfl (L.on b8) (by lia) J ao (by lia) (by lia) (b5.trans (b7.trans b8)))
theorem vo{K:PySem.W.Frag}{nl:Nat}{ix:List Nat}{te:TE}{σ:L2.St}{H1:Hp}{D a:Addr}{Q:VK}{vs:List V}{J:List Rm}{F:Rm->Rm}(ha:H1 a=some (.lst vs))(hR:RoomsAt H1 vs J)(nD:H1 D=none)(hl:J.length<=1000)
 (hc:∀x y,(((cC nl ix σ).set 0 (some x)).set 1 (some y)).drop nl=ix.map λj=>(σ[j]?).join)
 (he:∀(H:Hp) (r:Rm) (Y Z:Addr) (R:VK),r∈J->H1 Y=some (.lst (r.1.map V.str))->H1 Z=some (.lst (r.2.map V.str))->Same H1 H->(∃ys,H D=some (.lst ys))->(∀H' x,Same H H'->RoomAt (fb D H') x (F r)->R x H')->te (((cC nl ix σ).set 0 (some (.ref Y))).set 1 (some (.ref Z))) H R)
 (hd:∀H' S,Same H1 H'->H' D=some (.lst S)->RoomsAt H' S (J.map F)->Q (.ref D) H'):gK nl ix (vh K 2 (dr (aR 0) (dr (aR 1) vj))) nh te σ (Itl K a) H1 D Q:=by
 have au:1000000<sizeLine:=by decide
 have vl:=hR.1;refine bB (xs:=vs) (CmI D (J.map F) H1) (.mk af (aK nD) rfl (λj x c e=>nomatch e)) (λi ys H' ⟨e,_,_,_⟩=>e) (λi ys H' ⟨_,s,_,_⟩=>aAA (s _ _ ha)) ?_ ?_
 .rintro i ys H x hx ⟨hD,s,yl,al⟩;have hi:i<vs.length:=(ahW.mp hx).1;have L:i<J.length:=by lia
  obtain⟨t,Y,Z,rfl,ht,ad,ae⟩:=hR.2 i x _ hx (ahU L);have ah:ys.length=i:=by rw[yl,aif,ahY];lia
  refine⟨t,_,rfl,aAB (s _ _ ht),rfl,?_⟩;refine⟨_,_,rfl,_,_,rfl,rfl,⟨by simp,hc _ _⟩,?_⟩;unfold nh;dsimp only;refine mZ (B:=False) ?_;refine he H J[i] Y Z _ (aiq L) ad ae s ⟨_,hD⟩ λH2 x s2 pa=>?_;have ak:∀{o:HO},Same (fb D H2) (fb D (upd H2 D o)):=fun {o}=>nz (Same.refl H2);refine⟨s2 _ _ hD,by lia,nx hi (.mk af (λb u e=>by rw[ai (ag e nD)];exact s2 _ _ (s _ _ e)) ?_ λj y c O ec=>?_)⟩
  .rw[ahZ,ah,aif,ahY];simp;lia
  .by_cases hj:j<ys.length
   .rw[aik hj]at O;exact (al j y c O ec).same (nz s2)
   .rw[aio (by lia)]at O;have z:j-ys.length=0:=by
     have:=(ahW.mp O).1;simp at this;lia
    have ji:j=i:=by lia
    rw[z]at O;cases O;subst ji;rw[ah1,ahU L]at ec;cases ec;exact pa.same ak
 .rintro ys H ⟨hD,s,yl,al⟩;refine hd H ys s hD ⟨?_,λj x c e1 e2=>(al j x c e1 e2).same offD_all⟩;rw[yl,aif,ahY];lia
theorem wj{D H b u}(e:H b=some u)(n:b≠D):fb D H b=some u:=by
 unfold fb;simp_all
theorem afa{ks:List _}(h:2<=ks.length):ad8 (ks.map V.str) none (some 2)=(ks.take 2).map V.str:=by
 match ks,h with
 |a::b::t,_=>
  unfold ad8;have e:HT.sIx (List.map V.str (a::b::t)).length (List.map V.str (a::b::t)).length (some 2)=2:=rfl
  rfl
def acX(K:PySem.W.Frag):TE:=iO 2 [2] (rh K (dq 4)) (vh K 2 (dr (aR 0) (dr (aR 1) vj))) nh (adq (ax (tCB (λxs H Q=>∃p ss,xs=[V.ref p]/\SqL K H p (List.map V.str ss)/\ss.length<64/\∀(l:Addr) (ss':List Str),H l=none->ss'.Perm ss->sortedS ss'=true->Q (V.ref l) (upd H l (HO.lst (List.map V.str ss')))) (ax (iO 1 [2] (rh K (dq 0)) (aR 0) nh (tOp (zo K) (aaO (ax (dq 0) (ax (tOp (zo K) (dq 1) (tC (V.int 0))) cS))) (tCB (λxs H Q=>(∃i,xs=[V.int i]/\Q (V.int i) H)\/∃k,xs=[V.bl k]/\Q (V.int (if k=true then 1 else 0)) H) (ax (tOp rEq (dq 0) (tOp (zo K) (dq 1) (tC (V.int 1)))) cS)))) cS)) (ax (dq 1) cS)))
theorem at0{α}{x:α}{xs}(h:xs[0]?=some x):atI xs 0=some x:=ir  h
theorem at1{α}{x:α}{xs}(h:xs[1]?=some x):atI xs 1=some x:=ir  h
theorem aeP{K:PySem.W.Frag}{Q:VK}{p kA rA bA:Addr}{ab:Nat}{bs:Int}{ks:List Str}{B k1:Str}{H:Hp}{x5 x6:Option V}{vs:List V}{rs:List Rm}(e0:ks[0]?=some B)(e1:ks[1]?=some k1)(hk:H kA=some (.lst (ks.map V.str)))(hr:H rA=some (.lst vs))(hR:RoomsAt H vs rs)(hl:rs.length<=8)(aq:∀r∈rs,RmK ks 70 r)
 (q:∀D J H',Same H H'->H' D=some (.lst J)->RoomsAt H' J (rs.map λr=>(fq (r.1.map (nmF B k1)),r.2))->Q (.ref D) H'):
 acX K [some (.ref p),some (.int ab),some (.ref kA),some (.int bs),some (.ref rA),x5,x6,some (.ref bA)] H Q:=by
 have aJ:1000000<sizeLine:=by decide
 have f0:atI (ks.map V.str) 0=some (.str B):=at0 (by rw[ah1,e0];rfl);have f1:atI (ks.map V.str) 1=some (.str k1):=at1 (by rw[ah1,e1];rfl);unfold acX;refine aH _ _ _ _ _ _ _ _ _ ?_;refine⟨_,rfl,rA,rfl,⟨_,aAA hr⟩,λD nD=>?_⟩;refine vo (F:=λr=>(fq (r.1.map (nmF B k1)),r.2)) hr hR nD (by lia) (λx y=>rfl) (λH3 r la lb R ar ha hb Y hD as=>?_) λH3 J Y eR au=>q D J H3 Y eR au;obtain⟨r1,r2,r3,r4,r5,r6⟩:=aq r ar;obtain⟨aP,hD⟩:=hD;unfold adq ax tCB;dsimp only;refine aH _ _ _ _ _ _ _ _ _ ?_;refine⟨_,rfl,la,rfl,⟨_,aAA (Y _ _ ha)⟩,λD2 ad=>?_⟩;refine bB (xs:=r.1.map V.str) (NmI D2 r.1 B k1 H3) (.mk rfl af (aK ad)) (λi ys H' ⟨_,e,_⟩=>e) (λi ys H' ⟨_,_,s⟩=>aAA (s _ _ (Y _ _ ha))) ?_ ?_
 .rintro i ys L x hx ⟨rfl,O,s4⟩;have ae:i<(r.1.map V.str).length:=(ahW.mp hx).1;have hi:i<r.1.length:=by rwa [ahY]at ae
  rw[ah1,ahU hi]at hx;have tk:r.1.take (i+1)=r.1.take i++[r.1[i]]:=by rw[ais,ahU hi];rfl
  generalize r.1[i]=k at *;cases hx;refine dy rfl ?_;refine⟨_,rfl,_,rfl,kA,_,0,_,rfl,rfl,aAA (s4 _ _ (Y _ _ hk)),f0,fo,λT nT=>?_⟩;have s5:Same L (upd L T (.lst [.str k,.str B])):=aK nT;have e5:(upd L T (.lst [.str k,.str B])) T=some (.lst [.str k,.str B]):=af;generalize upd L T (.lst [.str k,.str B])=H5 at *;refine⟨_,rfl,_,rfl,kA,_,1,_,rfl,rfl,aAA (s5 _ _ (s4 _ _ (Y _ _ hk))),f1,rfl,.inr ⟨_,rfl,?_⟩⟩;have S:∀v,v=V.str (nmF B k1 k)->H5 D2=some (.lst (((r.1.take i).map (nmF B k1)).map V.str))/\(((r.1.take i).map (nmF B k1)).map V.str).length<sizeLine/\Nx (r.1.map V.str).length i (NmI D2 r.1 B k1 H3 (i+1) (((r.1.take i).map (nmF B k1)).map V.str++[v]) (upd H5 D2 (.lst (((r.1.take i).map (nmF B k1)).map V.str++[v])))):=λv ev=>by
   subst ev;refine⟨s5 _ _ O,?_,nx ae (.mk ?_ af (dv (s4.trans s5) ad))⟩
   .rw[ahY,ahY,aif];lia
   .rw[tk,aia,aia]
    rfl
  by_cases e:k=k1
  .rw[if_pos (aiv (aiO V.str e))];exact⟨T,_,1,.str B,rfl,rfl,aAA e5,rfl,S _ (by unfold nmF;rw[if_pos e])⟩
  .rw[if_neg (by rw[aiC (λz=>e (V.str.inj z))];decide)];exact⟨T,_,0,.str k,rfl,rfl,aAA e5,rfl,S _ (by unfold nmF;rw[if_neg e])⟩
 .rintro ys L ⟨rfl,O,s4⟩;rw[ahY,aiz]at O;refine⟨D2,r.1.map (nmF B k1),rfl,aAA O,by rw[ahY];lia,λl aR nl hp hs=>?_⟩;have es:=wB hp hs;subst es;have s5:Same L (upd L l (.lst ((fq (r.1.map (nmF B k1))).map V.str))):=aK nl;have e5:(upd L l (.lst ((fq (r.1.map (nmF B k1))).map V.str))) l=some (.lst ((fq (r.1.map (nmF B k1))).map V.str)):=af;have lD:l≠D:=(ag (s4 _ _ hD) nl).symm;generalize upd L l (.lst ((fq (r.1.map (nmF B k1))).map V.str))=H5 at *;refine⟨_,rfl,fo,λT nT=>?_⟩;have s6:Same H5 (upd H5 T (.tup [.ref l,.ref lb])):=aK nT;have Z:=s4.trans s5;exact as _ _ (Z.trans s6) ⟨T,l,lb,rfl,wj af (ag (Z _ _ hD) nT).symm,wj (s6 _ _ e5) lD,wj (s6 _ _ (Z _ _ (Y _ _ hb))) (ag hb nD)⟩
def abo:Sp:=λvs H Q _=>∃(p:Addr) (most:Nat) (c:Int),vs=[.ref p,.int most]/\PoolAt H p c/\most<=8/\0<=c/\c+2000<1000000 ∧
 ∀(v:V) (h:Hs) (c':Int) (H':Hp),HouseAt H' v h->aE h->fe h->wM h->h.2.length<=8->PoolAt H' p c'->c<=c'->c'<=c+1500->But p H H'->Q v H'
def afo(K:PySem.W.Frag):TS:=sI (qC (dO qP [] E0 (ax (dq 0) (ax (dq 2) (ax (dO dF [] E0 (ax (dq 0) (ax (tOp (zo K) (aaO (ax (tC (V.int 6)) (ax (tC (V.int 6)) (ax (tC (V.int 6)) (ax (tC (V.int 60)) cS))))) (dO dF [] E0 (ax (dq 0) (ax (tC (V.int 4)) cS)))) cS))) cS)))) (aR 7)) (sI (afg (afH (vc (tOp rEq (dq 3) (tC (V.int 0)))) (qC (tOp agS (dq 7) (tSl (ahh K) (dq 2) abw (afZ (tC (V.int 2))))) (aR 7)) wU)) (sI (afg (afH (vc (tOp rEq (dq 3) (tC (V.int 1)))) (sI (qC (tOp agS (iO 1 [2] (rh K (dq 7)) (aR 0) (vc (tOp rNe (dq 0) (tOp (zo K) (dq 1) (tC (V.int 1))))) (dq 0)) (aaO (ax (tOp (zo K) (dq 2) (tC (V.int 1))) cS))) (aR 7)) (qC (acX K) (aR 4))) wU)) (zT (adq (ax (dq 7) (ax (dq 4) cS))))))
def ahC(K:PySem.W.Frag)(A1:Around):TS:=sI (qC (dO xc [] E0 (ax (dq 0) (ax (tOp (rI0 λi j=>V.int (i+j)) (tC (V.int 2)) (dO dF [] E0 (ax (dq 0) (ax (tOp (zo K) (aaO (ax (tC (V.int 5)) (ax (tC (V.int 11)) cS))) (dO dF [] E0 (ax (dq 0) (ax (tC (V.int 2)) cS)))) cS)))) cS))) (aR 2)) (sI (qC (dO dF [] E0 (ax (dq 0) (ax (tC (V.int 3)) cS))) (aR 3)) (sI (qC (aaO cS) (aR 4)) (sI (afg (aht (afG (ax (dO dF [] E0 (ax (dq 0) (ax (tOp (rI0 λi j=>V.int (i+j)) (dq 1) (tC (V.int 1))) cS))) cS)) (aR 5) (vF K))) (sI (afg (wQ K A1)) (afo K)))))
theorem aa8{ks O:List Str}{z:List Rm}(kk:KsK ks)(S:∀k∈O,k∈ks)(bl:O.length<=62)(rl:z.length<=8)(B:∀r∈z,RmK ks 70 r):aE (O,z)/\fe (O,z)/\wM (O,z):=by
 have z1:∀z:List Rm,(∀r∈z,RmK ks 70 r)->(z.flatMap (·.1)).length<=4*z.length/\(z.flatMap (·.2)).length<=70*z.length:=λz=>by
  induction z with
  |nil=>intro _;simp
  |cons r z ih=>
   intro Y;obtain⟨_,_,h4,_,_,ac⟩:=Y r aid;have h2:=ih λx hx=>Y x (aih _ hx);rw[aiY,aiY,ahZ,ahZ,aiJ];lia
 have zz:=z1 z B;have ad:=kk.l12;have Z:∀x∈aw (O,z),x∈ks:=λx hx=>by
  obtain⟨r,hr,hx⟩:=aiM.mp hx;obtain⟨a,_⟩:=B r hr;exact a x hx
 refine⟨⟨λk J=>kk.ok k (S k J),by show O.length<=1000;lia,λr hr=>?_,by show z.length<=1000;lia⟩,⟨⟨ks,by lia,λx hx=>?_⟩,?_,?_⟩,λL nd hL=>?_⟩
 .obtain⟨a,b,c,d,e,f⟩:=B r hr;exact⟨λk J=>kk.ok k (a k J),b,c,d,λk J=>kk.ok k (e k J),by lia⟩
 .rcases hx with hx|hx
  .rcases aic.mp hx with hx|hx
   .exact S x hx
   .obtain⟨r,hr,hx⟩:=aiM.mp hx;obtain⟨_,_,_,_,e,_⟩:=B r hr;exact e x hx
  .exact Z x hx
 .show (O++z.flatMap (·.2)).length<=700;rw[ahZ];lia
 .show (z.flatMap (·.1)).length<=1000;lia
 .have:L.length<=ks.length:=oo nd λk J=>by
   obtain⟨r,hr,J⟩:=hL k J;exact Z k (aiM.mpr ⟨r,hr,J⟩)
  lia
inductive FwB(p:Addr)(most:Nat)(kA:Addr)(bs:Int)(rA:Addr)(ks:List Str)(H0:Hp)(x5 x6:Option V)(c0:Int)(σ':L2.St)(H':Hp):Prop
 |mk (bA:Addr) (bg:List Str):σ'=[some (.ref p),some (.int most),some (.ref kA),some (.int bs),some (.ref rA),x5,x6,some (.ref bA)]->H' bA=some (.lst (bg.map V.str))->(∀k∈bg,k∈ks)->bg.length<=61->PoolAt H' p c0->But p H0 H'->FwB p most kA bs rA ks H0 x5 x6 c0 σ' H'
inductive FwF(p:Addr)(most:Nat)(kA:Addr)(bs:Int)(ks:List Str)(H0:Hp)(x5 x6:Option V)(c0:Int)(σ':L2.St)(H':Hp):Prop
 |mk (bA rA:Addr) (vs:List V) (rs:List Rm) (bg:List Str):σ'=[some (.ref p),some (.int most),some (.ref kA),some (.int bs),some (.ref rA),x5,x6,some (.ref bA)]->H' bA=some (.lst (bg.map V.str))->(∀k∈bg,k∈ks)->bg.length<=62->H' rA=some (.lst vs)->RoomsAt H' vs rs->rs.length<=8->(∀r∈rs,RmK ks 70 r)->PoolAt H' p c0->But p H0 H'->FwF p most kA bs ks H0 x5 x6 c0 σ' H'
theorem ad5{K:PySem.W.Frag}{D:xQ}{p kA rA:Addr}{Y:Nat}{bs:Int}{ks:List Str}{c4 c5:Int}{H4 H:Hp}{x5 x6:Option V}{vs:List V}{rs:List Rm}{ws:List Addr}(kk:KsK ks)(hk:At p H4 kA (.lst (ks.map V.str)))(c0:0<=c4)(c1:c4+1000<1000000)
 (hW:RoomsW p H rA vs rs ws)(Z:rs.length<=8)(aa:∀r∈rs,RmK ks 70 r)(hp:PoolAt H p c5)(g1:c4<=c5)(g2:c5<=c4+300)(b5:But p H4 H)
 (q:∀(v:V) (h:Hs) (c':Int) (H':Hp),HouseAt H' v h->aE h->fe h->wM h->h.2.length<=8->PoolAt H' p c'->c4<=c'->c'<=c4+400->But p H4 H'->D.rt v H'):
 afo K D [some (.ref p),some (.int Y),some (.ref kA),some (.int bs),some (.ref rA),x5,x6,none] H:=by
 have l2:=kk.l2;have bp:=kk.l12;have aV:ks≠[]:=λz=>by simp_all
 obtain⟨k0,f0⟩:∃k,ks[0]?=some k:=⟨_,ahU (show 0<ks.length by lia)⟩;obtain⟨B,f1⟩:∃k,ks[1]?=some k:=⟨_,ahU (show 1<ks.length by lia)⟩;have m0:=ah7 f0;have a1:atI (ks.map V.str) 1=some (.str B):=at1 (by simp_all);have bt:1000000<sizeLine:=by decide
 refine⟨_,rfl,_,rfl,_,rfl,(show 4<=sizeLine by decide),λl1 n1=>⟨_,rfl,?_⟩⟩;have b6:But p H (upd H l1 (.lst [.int 6,.int 6,.int 6,.int 60])):=iV n1;have e6:At p (upd H l1 (.lst [.int 6,.int 6,.int 6,.int 60])) l1 _:=⟨af,hp.ne n1⟩;have aX:=hp.new (o:=.lst [.int 6,.int 6,.int 6,.int 60]) n1;dsimp only [ax,tC,cS];refine dJ (n:=4) aX (by decide) (by decide) (by lia) (by lia) λr c7 H7 r0 r1 g3 g4 aY b7=>?_;obtain⟨m,hm,ha⟩:=agw (xs:=[6,6,6,60]) r0 r1;have bB:6<=m/\m<=60:=by simp only[ain,aiT,amh]at hm;lia
 refine⟨l1,_,r,.int m,rfl,rfl,aAA (e6.on b7).1,ha,?_⟩;refine dJ (n:=m) aY (by lia) (by lia) (by lia) (by lia) λq1 c8 H8 q0 bD g5 g6 aZ b8=>?_;obtain⟨n,rfl⟩:∃n:Nat,q1=(n:Int):=⟨q1.toNat,by lia⟩;have aw:=b6.trans (b7.trans b8);refine⟨p,kA,n,c8,ks,rfl,aZ,((hk.on b5).on aw).1,aV,by lia,by lia,by lia,by lia,λbA O c9 H9 nb ao ab az aA g7 g8 b9=>?_⟩;have ap:=aw.trans b9;have a2:=hW.on ap;have aB:=(hk.on b5).on ap;have a3:=b5.trans ap;refine acY ⟨FwB p Y kA bs rA ks H9 x5 x6 c9,?_,?_⟩
 .rintro σ bG ⟨bA,O,rfl,ac,ab,ao,J,ag⟩;have ad:=aB.on ag;have L:=a2.on ag;refine acY ⟨FwF p Y kA bs ks H9 x5 x6 c9,?_,?_⟩
  .rintro σ aq ⟨bA,rA,vs,rs,O,rfl,aC,ab,ao,aD,hR,Z,aa,aF,a4⟩;refine⟨_,rfl,_,rfl,fo,λT nT=>?_⟩;have S:Same _ (upd _ T (.tup [.ref bA,.ref rA])):=aK nT
   let ⟨B,k2,k3⟩:=aa8 kk ab ao Z aa
   exact q _ _ c9 _ ⟨T,bA,rA,vs,rfl,af,S _ _ aC,S _ _ aD,hR.same S⟩ B k2 k3 Z (aF.new nT) (by lia) (by lia) ((a3.trans a4).trans (iV nT))
  .refine⟨_,rfl,rfl,_,rfl,abX (λ_=>?_) (λ_=>?_)⟩
   .refine acY (af8 (aH _ _ _ _ _ _ _ _ _ ?_));refine⟨_,rfl,bA,rfl,⟨_,aAA ac⟩,λD1 ah=>?_⟩;refine we (pb:=λv=>!decide (v=.str B)) ac ah (by rw[ahY];lia) (λx=>rfl) (λH' x R hx s' z=>?_) (λH' x R z=>⟨_,rfl,z⟩) λaq aG aI=>?_
    .obtain⟨k,hk,rfl⟩:=ah8.mp hx;exact⟨_,rfl,_,rfl,kA,_,1,_,rfl,rfl,aAA (s' _ _ ad.1),a1,rfl,_,rfl,z⟩
    .refine⟨_,rfl,kA,_,1,_,rfl,rfl,aAA (aG _ _ ad.1),a1,acB,λD2 ai=>?_⟩;have S:Same _ (upd _ D2 (.lst [.str B])):=aK ai;have a6:(upd aq D2 _) D2=some (.lst [.str B]):=af;have fl:(O.map V.str).filter (λv=>!decide (v=V.str B))=(O.filter λk=>!decide (k=B)).map V.str:=by
      rw[al6];congr 1;apply aj3;grind
     rw[fl]at aI;have bM:(O.filter λk=>!decide (k=B)).length<=O.length:=aje _ _;generalize upd aq D2 (.lst [.str B])=a7 at *;refine⟨D1,D2,_,_,rfl,rfl,S _ _ aI,a6,by rw[ahY];show _+1<=sizeLine;lia,λD3 a9=>?_⟩;rw[show (O.filter _).map _++[V.str B]=((O.filter _)++[B]).map _ by rw[aia];rfl];have aj:=(aG.trans S).trans (aK (o:=.lst (((O.filter λk=>!decide (k=B))++[B]).map V.str)) a9);have ba:(upd a7 D3 _) D3=some (.lst (((O.filter λk=>!decide (k=B))++[B]).map V.str)):=af;show qC (acX K) ..;refine aeP f0 f1 (aj _ _ ad.1) (aj _ _ L.ls.1) (L.rooms.same aj) Z aa λD4 bb bO aJ bc aL=>?_;have ae:=aj.trans aJ;obtain⟨bd,aM,aN⟩:=J;refine .mk D3 D4 bb _ _ rfl (aJ _ _ ba) (λk hk=>?_) (by rw[ahZ,ai6];lia) bc aL (by simp_all) (λr hr=>?_) ⟨bd,ae _ _ aM,aN⟩ (ag.trans λb u _ e=>ae b u e)
     .grind
     .obtain⟨z,hz,rfl⟩:=ah8.mp hr;obtain⟨r1,r2,r3,r4,r5,r6⟩:=aa z hz;refine⟨λk hk=>?_,by rw[dZ,ahY];exact r2,by rw[dZ,ahY];exact r3,nI _,r5,r6⟩;obtain⟨y,hy,rfl⟩:=ah8.mp (sortS_mem.mp hk);unfold nmF;split
      .exact m0
      simp_all
   .exact .mk bA rA vs rs O rfl ac ab (by lia) L.ls.1 L.rooms Z aa J ag
 .refine⟨_,rfl,rfl,_,rfl,abX (λ_=>?_) (λ_=>?_)⟩
  .refine⟨_,rfl,_,rfl,_,rfl,kA,_,rfl,aAA aB.1,λD1 ah=>?_⟩;rw[afa kk.l2];have aO:Same H9 (upd H9 D1 (.lst ((ks.take 2).map V.str))):=aK ah;have be:(upd H9 D1 _) D1=some (.lst ((ks.take 2).map V.str)):=af;have J:=aA.new (o:=.lst ((ks.take 2).map V.str)) ah;have t2:(ks.take 2).length<=2:=List.length_take_le _ _;refine⟨bA,D1,_,_,rfl,rfl,aO _ _ az,be,by rw[ahY,ahY];lia,λD2 ai=>?_⟩;rw[←aia];refine .mk D2 (O++ks.take 2) rfl af (λk hk=>?_) (by rw[ahZ];lia) (J.new ai) λb u _ e=>?_
   .grind
   .exact aK ai _ _ (aO _ _ e)
  .exact .mk bA O rfl az ab (by lia) aA (But.refl _ _)
theorem afi{K:PySem.W.Frag}{A1:Around}{Q:VK}{p:Addr}{B:Nat}{c:Int}{H:Hp}(hu:A1.units+1<cLine)(hp:PoolAt H p c)(m8:B<=8)(hc:0<=c)(aZ:c+2000<1000000)
 (q:∀(v:V) (h:Hs) (c':Int) (H':Hp),HouseAt H' v h->aE h->fe h->wM h->h.2.length<=8->PoolAt H' p c'->c<=c'->c'<=c+1500->But p H H'->Q v H'):
 ahC K A1 {nx:=λ_ H'=>Q .non H',rt:=Q} (L2.start ["pool","most","kinds","beside","rooms","room","doors","begin"] [.ref p,.int (B:Int)]) H:=by
 refine⟨_,rfl,_,rfl,fo,λl1 n1=>⟨_,rfl,?_⟩⟩;have b6:But p H (upd H l1 (.lst [.int 5,.int 11])):=iV n1;have e6:At p (upd H l1 (.lst [.int 5,.int 11])) l1 _:=⟨af,hp.ne n1⟩;have aC:=hp.new (o:=.lst [.int 5,.int 11]) n1;dsimp only [ax,tC,cS];refine dJ (n:=2) aC (by decide) (by decide) (by lia) (by lia) λr c7 H7 r0 r1 g3 g4 aD b7=>?_;obtain⟨m,hm,ha⟩:=agw (xs:=[5,11]) r0 r1;have a6:5<=m/\m<=11:=by simp only[ain,aiT,amh]at hm;lia
 refine⟨l1,_,r,.int m,rfl,rfl,aAA (e6.on b7).1,ha,?_⟩;refine dJ (n:=m) aD (by lia) (by lia) (by lia) (by lia) λq1 c8 H8 q0 a8 g5 g6 am b8=>?_;obtain⟨n,rfl⟩:∃n:Nat,q1=(n:Int):=⟨q1.toNat,by lia⟩;have aF:=b6.trans (b7.trans b8);refine⟨_,_,rfl,rfl,?_⟩;refine⟨p,2+n,c8,by simp,am,by lia,by lia,by lia,λkA ks c9 H9 nk bc aG bd aH aI g7 g8 b9=>?_⟩;have kk:KsK ks:=⟨aG,by lia,by lia⟩;have hk:At p H9 kA _:=⟨aH,am.ne nk⟩;have aJ:=aF.trans b9;refine⟨_,rfl,?_⟩;dsimp only [ax,tC,cS];refine dJ (n:=3) aI (by decide) (by decide) (by lia) (by lia) λbs Z aa bg bh g9 bi ae ao=>?_;refine⟨by decide,λrA nR=>?_⟩;have ap:=ae.new (o:=.lst []) nR;have aK:=ae.ne nR;have aL:But p _ (upd _ rA (.lst [])):=iV nR;have aM:RoomsW p (upd aa rA _) rA [] [] []:=⟨⟨af,aK⟩,rfl,rfl,akR,(λz=>nomatch z),λi r w e=>by simp at e⟩;have J:=hk.on ao;have aq:=aJ.trans ao;refine⟨λab H'=>∃n c4,n<=8/\Z<=c4/\c4<=Z+1/\FwI p B kA bs rA ks c4 aa n ab H',?_,?_⟩
 .rintro σ aN ⟨n,c4,n8,y1,y2,x5,x6,vs,rs,ws,ah,rfl,hW,ai,L,O,S,as,au,ad⟩;refine⟨FwX p B kA bs rA ks c4 aa,?_,?_⟩
  .rintro σ av ⟨x5,x6,vs,rs,ws,aO,rfl,hW,L,O,Y,aj,ak,al⟩;exact ad5   kk J (by lia) (by lia) hW L O Y aj ak al λv h c' H' x1 x2 x3 x4 x5 x6 x7 x8 x9=>q v h c' H' x1 x2 x3 x4 x5 x6 (by lia) (by lia) (aq.trans x9)
  .exact aav   hu kk J (by lia) (by lia) n8 hW ai L O S as au ad λab H' z=>z
 .refine⟨_,rfl,_,rfl,_,_,rfl,rfl,?_⟩;dsimp only [cS];refine dJ (n:=((B:Nat):Int)+1) ap (by lia) (by lia) (by lia) (by lia) λq2 ah aN bq br as au S ad=>?_;obtain⟨n2,rfl⟩:∃n:Nat,q2=(n:Int):=⟨q2.toNat,by lia⟩;refine⟨n2,rfl,by lia,by lia,og (D:={nx:=λab H'=>∃n c4,n<=8/\Z<=c4/\c4<=Z+1/\FwI p _ kA bs rA ks c4 _ n _ H',rt:=Q})  (FwI p B kA bs rA ks ah aa) ?_ ?_ ?_⟩
  .exact .mk _ _ [] [] [] _ rfl (aM.on ad) (λw hw=>nomatch hw) rfl (λr hr=>nomatch hr) S (by lia) (by lia) (aL.trans ad)
  .rintro i σ av hi ⟨x5,x6,vs,rs,ws,aO,rfl,hW,ai,L,O,Y,aj,ak,al⟩;exact zZ   kk J (by lia) (by lia) (by lia) nR hW ai L O Y aj ak al λab H' z=>z
  .rintro σ av z;exact⟨n2,ah,by lia,by lia,by lia,z⟩
def ifB(s:Stmt):List Stmt:=match s with
 |.If _ b _ _=>b
 |_=>[]
theorem bR:aA ["pool","most","kinds","beside","rooms","room","doors","begin"] ["pool","most"] (ak dg):=scM rfl rfl rfl rfl (by decide +kernel)
theorem kK:(["kind","kinds"]:List Str).Nodup:=by decide +kernel
theorem km:(["locks","keys","kinds"]:List Str).Nodup:=by decide +kernel
theorem adp{f fT fM fS:Addr}{fd J L O:FuncData}(F:Fun K "_law_few" "_law_few" dg f fd)(z:bx P w K mg base CX0 1 fT J ["pool","many"] dF)(B:Cal K mg "_law_take" ["pool","many"] fT J)
 (i8:bx P w K mg base CX0 2 fM L ["pool","many"] xc)(di:Cal K mg "_law_kinds" ["pool","many"] fM L)(Y:bx P w K mg base CX0 2 fS O ["pool","kinds","many"] qP)(Z:Cal K mg "_law_some" ["pool","kinds","many"] fS O)
 (aa:mg "int" = none)(gj:mg "range" = none)(eV:mg "len" = none)(aI:mg "sorted" = none):bx P w K mg base CX0 3 f fd ["pool","most"] abo:=by
 refine F.ok bR (λvs H Q E h=>?_) (λap A outer s H vs Q E hr h=>?_)
 .obtain⟨p,S,c,rfl,_⟩:=h
  rfl
 .have hu:=gm hr;obtain⟨p,S,c,rfl,hp,m8,hc,ab,q⟩:=h;exact⟨_,(ao (aB (i:=2) bR.nd rfl (.inr rfl) (pcl i8 di hr rfl (ae (pv 0) (ae (bz gN ar (pcl z B (hr.mono (by decide:1<=2)) rfl (ae (pv 0) (ae (bY cf (gX (ae ar (ae ar aj))) (pcl z B (hr.mono (by decide:1<=2)) rfl (ae (pv 0) (ae ar aj))) (λ_ _=>rfl)) aj)))) aj))))
   (ao (aB (i:=3) bR.nd rfl (.inl rfl) (pcl z B (hr.mono (by decide:1<=2)) rfl (ae (pv 0) (ae ar aj))))
   (ao (aB (i:=4) bR.nd rfl (.inl rfl) yB)
   (ao (cy (d9 aiN rfl (gJ rfl gj (ae (pcl z B (hr.mono (by decide:1<=2)) rfl (ae (pv 0) (ae (bz gN (pv 1) ar) aj))) aj)) (aq (i:=5) bR.nd rfl (.inl rfl))
    (ao (aB (i:=6) bR.nd rfl (.inl rfl) (pcl Y Z hr rfl (ae (pv 0) (ae (pv 2) (ae (bz gN ar (pcl z B (hr.mono (by decide:1<=2)) rfl (ae (pv 0) (ae (bY cf (gX (ae ar (ae ar (ae ar aj)))) (pcl z B (hr.mono (by decide:1<=2)) rfl (ae (pv 0) (ae ar aj))) (λ_ _=>rfl)) aj)))) aj)))))
    (av (bX (kO aiy ajy ajz cV (pv 4) (ae (gC (ae (ay iG rfl aI aj6 (ae (pv 6) aj)) (ae (pcl Y Z hr rfl (ae (pv 0) (ae (pv 2) (ae (pcl z B (hr.mono (by decide:1<=2)) rfl (ae (pv 0) (ae (@bY _ _ _ _ _ _ _ cf (@gX _ _ _ _ (@uL _ _ _ _ _ (@ar _ _ _ _) (@uL _ _ _ _ _ (@ar _ _ _ _) (@uL _ _ _ _ _ (@ar _ _ _ _) (@uL _ _ _ _ _ (@ar _ _ _ _) (@aj _) rfl) rfl) rfl) rfl)) (pcl z B (hr.mono (by decide:1<=2)) rfl (ae (pv 0) (ae ar aj))) (λ_ _=>rfl)) aj))) aj)))) aj))) aj)))))))
   (ao (cy (fm (PW.pt (xY (aN uf (pv 4) yB (aZ _)) (su (aN lR (pcl z B (hr.mono (by decide:1<=2)) rfl (ae (pv 0) (ae ar aj))) ar (aZ _)))))
    (av (bX (kO aiy ak2 ak3 px (bY iM (bY cf (pv 4) (pcl z B (hr.mono (by decide:1<=2)) rfl (ae (pv 0) (ae (ay bE rfl eV ajq (ae (pv 4) aj)) aj))) (λ_ _=>rfl)) ar (λ_ _=>rfl)) (ae (pcl Y Z hr rfl (ae (pv 0) (ae (pv 2) (ae (pcl z B (hr.mono (by decide:1<=2)) rfl (ae (pv 0) (ae ar aj))) aj)))) aj)))) bD))
   (ao (aB (i:=7) bR.nd rfl (.inl rfl) (pcl Y Z hr rfl (ae (pv 0) (ae (pv 2) (ae (pcl z B (hr.mono (by decide:1<=2)) rfl (ae (pv 0) (ae (@bY _ _ _ _ _ _ _ cf (@gX _ _ _ _ (@uL _ _ _ _ _ (@ar _ _ _ _) (@uL _ _ _ _ _ (@ar _ _ _ _) (@uL _ _ _ _ _ (@ar _ _ _ _) (@uL _ _ _ _ _ (@ar _ _ _ _) (@aj _) rfl) rfl) rfl) rfl)) (pcl z B (hr.mono (by decide:1<=2)) rfl (ae (pv 0) (ae ar aj))) (λ_ _=>rfl)) aj))) aj)))))
   (ao (cy (fm (aN lR (pv 3) ar (aZ _))
    (av (aB (i:=7) bR.nd rfl (.inl rfl) (bz uD (pv 7) (kG aaR (pv 2) nZ (ou ar))))) bD))
   (ao (cy (fm (aN lR (pv 3) ar (aZ _))
    (ao (aB (i:=7) bR.nd rfl (.inl rfl) (bz uD (gH (tg:=.Name "kind" _) (outer:=ak (dg)) (N:=["pool","most","kinds","beside","rooms","room","doors","begin"]) (N':=["kind","kinds"]) (nl:=1) (ix:=[2]) rfl rfl rfl (aV (pv 7))
    (λ_ _ _ _=>(aq (i:=0) kK rfl (.inl rfl) (.inr rfl))) (λ_ _ _ _=>(iF (aN wJ (pv 0) (bY (jH (K:=K) rfl) (pv 1) ar (λ_ _=>rfl)) (aZ _))))
    (λ_ _ _ _=>(pv 0))) (gX (ae (bY cf (pv 2) ar (λ_ _=>rfl)) aj))))
    (av (aaw (i:=4) (outer:=ak (dg)) (N:=["pool","most","kinds","beside","rooms","room","doors","begin"]) (N':=["locks","keys","kinds"]) (nl:=2) (ix:=[2]) bR.nd rfl (.inl rfl) rfl rfl rfl (aV (pv 4))
    (λ_ _ _ _=>(bZ (K:=K) (n:=2) rfl rfl (au (aq (i:=0) km rfl (.inl rfl) (.inr rfl)) (au (aq (i:=1) km rfl (.inl rfl) (.inr rfl)) aO)))) (λ_ _ _ _=>bt)
    (λ_ _ _ _=>(gC (ae (ay (mN (K:=K) rfl) rfl aI aj6 (ae (gH (tg:=.Name "kind" _) (outer:=wK (cG (aha ((ifB ((bq dg).getD 7 (.Pass ⟨0,0,0,0⟩))).getD 1 (.Pass ⟨0,0,0,0⟩)))) (ak (dg))) (N:=["locks","keys","kinds"]) (N':=["kind","kinds"]) (nl:=1) (ix:=[2]) (lS rfl) rfl rfl (ky (K:=K) rfl (pv 0))
    (λ_ _ _ _=>(aq (i:=0) kK rfl (.inl rfl) (.inr rfl))) (λ_ _ _ _=>bt)
    (λ_ _ _ _=>(bY (jH (K:=K) rfl) (gX (ae (pv 0) (ae (bY (jH (K:=K) rfl) (pv 1) ar (λ_ _=>rfl)) aj))) (eF aaF rfl aa (by decide +kernel) (ae (gE lR (pv 0) (bY (jH (K:=K) rfl) (pv 1) ar (λ_ _=>rfl)) (aZ _)) aj)) (λ_ _=>rfl)))) aj)) (ae (pv 1) aj))))))) bD))
   (av (aM (gC (ae (pv 7) (ae (pv 4) aj))))))))))))),afi hu hp m8 hc ab q⟩
def xi(h:Hs):Bool:=h.2.all λr=>decide (r.1.length=1)
def aac:Sp:=λvs H Q _=>∃(v:V) (h:Hs),vs=[v]/\HouseAt H v h/\aE h/\∀H',Same H H'->Q (.bl (xi h)) H'
theorem w6:aA ["house"] ["house"] (ak iA):=scM rfl rfl rfl rfl (by decide +kernel)
theorem kQ:(["locks","within"]:List Str).Nodup:=by decide +kernel
theorem acG{f Z:Addr}{fd L:FuncData}(F:Fun K "is_plain" "is_plain" iA f fd)(bu:bx P w K mg base CX0 6 Z L ["thing"] yA)(az:Cal K mg "require_house" ["thing"] Z L)(uc:mg "all" = none)(eV:mg "len" = none):bx P w K mg base CX0 7 f fd ["house"] aac:=by
 refine F.ok w6 (λS H Q E h=>?_) (λaB A outer s H S Q E hr h=>?_)
 .obtain⟨v,h,rfl,_⟩:=h
  rfl
 .obtain⟨v,h,rfl,hh,ok,k⟩:=h;refine⟨_,(ao (bX (pcl bu az hr rfl (ae (pv 0) aj)))
   (av (aM (ay (kE rfl) rfl uc (by decide +kernel) (ae (gH (outer:=ak (iA)) (N:=["house"])  (nl:=2) (ix:=[]) rfl rfl rfl (aV (bY iM (pv 0) ar (λ_ _=>rfl)))
    (λ_ _ _ _=>(bZ  (n:=2) rfl rfl (au (aq (i:=0) kQ rfl (.inl rfl) (.inr rfl)) (au (aq (i:=1) kQ rfl (.inl rfl) (.inr rfl)) aO)))) (λ_ _ _ _=>bt)
    (λ_ _ _ _=>(gE lR (ay (t4  rfl) rfl eV ajq (ae (pv 0) aj)) ar (aZ _)))) aj))))),?_⟩
  refine⟨_,rfl,v,h,rfl,hh,ok,λH1 s1=>?_⟩;obtain⟨t,a,r,S,rfl,ht,ha,O,hR⟩:=hh.same s1;dsimp only [zT,tCB,ax,cS];refine aH _ _ _ _ _ _ _ _ _ ⟨_,rfl,t,_,1,.ref r,rfl,rfl,aAB ht,rfl,r,rfl,⟨_,aAA O⟩,?_⟩;intro D hD;have hl:=hR.1;have rl:=ok.rl;refine bB  (λi ys H2=>ys=((h.2.take i).map λr=>decide (r.1.length=1)).map V.bl/\i<=h.2.length/\H2 D=some (.lst ys)/\Same H1 H2) ⟨rfl,ail _,af,λb u e=>by rw[ai (ag e hD)];exact e⟩ (λi ys H2 ⟨_,_,h,_⟩=>h) (λi ys H2 ⟨_,_,_,J⟩=>aAA (J r _ O)) ?_ ?_
  .rintro i ys H2 x hx ⟨rfl,aE,B,J⟩;have hi:=(ahW.mp hx).1;have Y:i<h.2.length:=by lia
   have er:=ahU Y;obtain⟨tt,aa,bb,rfl,g1,g2,g3⟩:=(hR.2 i x _ hx er).same J;refine xu tt _ _ rfl (aAB g1) rfl ?_;refine⟨_,rfl,aa,_,rfl,.inl (aAA g2),rfl,B,by rw[ahY,ahY,aif];exact aU (by lia),nx hi ⟨?_,by lia,af,λb u e=>?_⟩⟩
   .rw[anC,er,aia,aia];simp only[akD,air,List.map_nil,ahY];by_cases q:(h.2[i]).1.length=1
    .rw[q];rfl
    .rw[aiC q,aiC];intro z;injection z with z
     lia
   .rw[ai (ag e hD)];exact J b u e
  .rintro ys H2 ⟨rfl,_,B,J⟩;refine⟨D,_,rfl,aAA B,?_⟩;have z3:=k H2 (s1.trans J);have e3:xi h=(((h.2.take S.length).map λr=>decide (r.1.length=1)).all id):=by
    rw[hl,aiz,amd]
    rfl
   rw[e3]at z3;exact z3
def adw:Sp:=λvs H Q _=>∃(S:Addr) (kvs:List (Key×V)) (h:Hs) (os:List (List Nat)),vs=[.ref S]/\h.2.length<=12/\H S=some (.dK kvs)/\DictL (nxV h) H kvs os/\cz h os/\∀(E:Addr) (es:List (Key×V)) (wf:List Nat->Nat) (H':Hp),Same H H'->H E=none->H' E=some (.dK es)->(∀o∈os,zm wf es o)->hZ ((os.filter λo=>(cn h o).isEmpty).map wf)=Stuck h []->Q (.ref E) H'
theorem u6{h B}(J:cz h B):∃z∈B,kB z=.inl 0/\z.Perm []:=by
 obtain⟨z,L,O⟩:=ah8.mp (J.all [] (cU _ _));refine⟨z,L,?_,dW (br z (J.gone z L)) .nil O⟩;unfold kB;rw[O]
 rfl
def abg(h:Hs)(os:List (List Nat))(k:Key):Bool:=os.any λo=>decide (kB o=k)&&stop h o
theorem abA:∀(kvs:List (Key×V)) (k:Key),k∈kvs.map (·.1)->cD (kvs.map λp=>(p.1,V.int 0)) k=some (.int 0)
 |[],_,hk=>by cases hk
 |p::r,k,hk=>by
  show cD ((p.1,V.int 0)::r.map λp=>(p.1,V.int 0)) k=_;by_cases e:p.1=k
  .exact bW e
  .rw[bV (p:=(p.1,V.int 0)) e];refine abA r k ?_;rcases ain.mp hk with z|z
   .exact absurd z.symm e
   .exact z
inductive WaI(S W:Addr)(h:Hs)(os:List (List Nat))(kvs:List (Key×V))(ob:Obj)(H:Hp)(i:Nat)(σ:L2.St)(H':Hp):Prop
 |mk (es:List (Key×V)) (wf:List Nat->Nat) (x2 x3 x4:Option V):σ=[some (.ref S),some (.ref W),x2,x3,x4]->H' W=some (.dK es)->H' S=some (.frz ob (.dK kvs))->es.map (·.1)=os.map kB->(∀o∈os,zm wf es o)->Tot h os i wf=Stuck h []->Same (fb S H) H'->WaI S W h os kvs ob H i σ H'
inductive WbI(S W:Addr)(h:Hs)(os:List (List Nat))(kvs:List (Key×V))(ob:Obj)(H:Hp)(i:Nat)(o:List Nat)(ln:Addr)(j:Nat)(σ:L2.St)(H':Hp):Prop
 |mk (es:List (Key×V)) (wf:List Nat->Nat) (x4:Option V):σ=[some (.ref S),some (.ref W),some (.int ((bG o:Nat):Int)),some (.ref ln),x4]->H' W=some (.dK es)->H' S=some (.frz ob (.dK kvs))->es.map (·.1)=os.map kB->(∀o∈os,zm wf es o)->adS h os i o j wf=Stuck h []->Same (fb S H) H'->WbI S W h os kvs ob H i o ln j σ H'
theorem gL:aA ["steps","ways","opened","numbers","number"] ["steps"] (ak jG):=scM rfl rfl rfl rfl (by decide +kernel)
theorem tZ:(["opened"]:List Str).Nodup:=by decide +kernel
theorem ad1{f fW:Addr}{fd an:FuncData}(F:Fun K "ways_of" "ways_of" jG f fd)(fU:bx P w K mg base CX0 1 fW an ["opened","number"] xt)(cj:Cal K mg "with_room" ["opened","number"] fW an):bx P w K mg base CX0 2 f fd ["steps"] adw:=by
 refine F.ok gL (λvs H Q E h=>?_) (λbn A outer s H vs Q E hr h=>?_)
 .obtain⟨S,kvs,h,J,rfl,_⟩:=h
  rfl
 .have hu:=gm hr;obtain⟨S,kvs,h,J,rfl,aG,hS,dl,O,q⟩:=h;refine⟨_,(ao (abY (i:=1) (tg:=.Name "opened" _) (outer:=ak (jG)) (N:=["steps","ways","opened","numbers","number"]) (N':=["opened"]) (nl:=1) (ix:=[]) gL.nd rfl (.inl rfl) rfl rfl rfl (wW (H₀:=H) rfl (pv 0))
   (λ_ _ _ _=>(aq (i:=0) tZ rfl (.inl rfl) (.inr rfl))) (λ_ _ _ _=>bt)
   (λ_ _ _ _=>(pv 0)) (λ_ _ _ _=>ar))
   (xC (H₀:=H) rfl (ao (nU hu (pv 1) ar ar rfl)
   (ao (cy (d9 aiN rfl (nB (H₀:=H) rfl (pv 0)) (gb rfl (au (aq (i:=2) gL.nd rfl (.inl rfl)) (au (aq (i:=3) gL.nd rfl (.inl rfl)) aO)))
    (av (cy (d9 aiN rfl (aV (pv 3)) (aq (i:=4) gL.nd rfl (.inl rfl))
     (av (aeE hu (pv 1) (pcl fU cj hr rfl (ae (pv 2) (ae (pv 4) aj))) (eN hu (pv 1) (pv 2) (λ_ _=>rfl)) afQ (by intros;rfl))))))))
   (xC (H₀:=H) rfl (av (aM (pv 1)))))))),?_⟩
  have few:=sD O;have bo:2^h.2.length<=4096:=aij (ajW (by decide) aG) (by decide);have kl:=dl.len;have bq:1000000<sizeLine:=by decide
  have kn:(kvs.map (·.1)).Nodup:=by
   rw[dl.keys];have:=O.nd;rw[akO,aj2]at this⊢;exact this.imp λn z=>n (ku z)
  obtain⟨z0,aH,kz,pz⟩:=u6 O;have bz:=ot pz;dsimp only [sI];refine xk _ _ _ _ _ _ _ _ _ _ ?_;refine⟨_,rfl,S,kvs,rfl,hS,λob nf D nD=>?_⟩;have B:S≠D:=λz=>by subst z;rw[af]at nD;cases nD
  have aJ:=by rw[ai (ai2 B)]at nD;exact nD
  refine wg (F:=λ_=>.int 0) (a:=S) (o:=ob) (kvs:=kvs) af kn nD (by lia) (λx=>rfl) (λG k R r=>⟨_,rfl,r⟩) (λG k R hk sG r=>r G (Same.refl G)) λG sG hG=>?_;have sO:Same (fb S H) (upd H S (.frz ob (.dK kvs))):=λb u e=>by
   unfold fb at e;split at e
   .cases e
   .rename_i Y;rw[ai Y];exact e
  have ap:fb S H D=none:=by
   unfold fb;simp_all
  refine⟨S,ob,kvs,sG _ _ af,nf,?_⟩;have aN:(upd G S (.dK kvs)) D=some (.dK (kvs.map λp=>(p.1,V.int 0))):=by rw[ai (ai2 B)];exact hG
  have zk:=abA kvs;refine⟨_,rfl,D,_,rfl,.k (k:=.inl 0) aN (by rw[ahY];lia),?_⟩;have kp:∀es x v,x∈J->es.map (·.1)=J.map kB->(eG es _ v).map _=J.map kB:=λes x v hx he=>by
   rcases acf es (kB x) v with ⟨e,_⟩|⟨_,n⟩
   .rw[e,he]
   .exact absurd (aiH hx) (by rw[←he];exact n)
  have s1:Same (fb S H) (upd (upd G S (.dK kvs)) D (.dK (eG (kvs.map λp=>(p.1,V.int 0)) (.inl 0) (.int 1)))):=by
   refine dv (λb u e=>?_) ap;have e1:=sG _ _ (sO _ _ e);unfold fb at e;split at e
   .cases e
   .rename_i Y;rw[ai Y];exact e1
  have aP:(upd (upd G S (.dK kvs)) D (.dK (eG (kvs.map λp=>(p.1,V.int 0)) (.inl 0) (.int 1)))) S=some (.dK kvs):=by rw[ai B,af]
  have aQ:(upd (upd G S (.dK kvs)) D _) D=some (.dK (eG (kvs.map λp=>(p.1,V.int 0)) (.inl 0) (.int 1))):=af;generalize upd (upd G S (.dK kvs)) D (.dK (eG (kvs.map λp=>(p.1,V.int 0)) (.inl 0) (.int 1)))=G1 at *;have k1:(eG (kvs.map λp=>(p.1,V.int 0)) (.inl 0) (.int 1)).map (·.1)=J.map kB:=by
   rw[←kz];exact kp _ z0 _ aH (by rw[aiG,←dl.keys];rfl)
  have n1:∀o∈J,zm (upB 0 1 λ_=>0) (eG _ (.inl 0) (.int 1)) o:=λo Z=>by
   unfold zm upB;rw[dm];by_cases e:bG o=0
   .simp_all
   .rw[if_neg (λz=>e ?_),if_neg e]
    .exact zk _ (by rw[dl.keys];exact aiH Z)
    .simp_all
  generalize eG (kvs.map λp=>(p.1,V.int 0)) (.inl 0) (.int 1)=aR at *;refine⟨λσ H'=>∃o',WaI S D h J kvs o' H J.length σ H'/\∀aS u,H S≠some (.frz aS u),?_,?_⟩
  .rintro σ H3 ⟨o',⟨es,wf,x2,x3,x4,rfl,e1,e2,e3,e4,e5,e6⟩,aX⟩;refine⟨S,o',kvs,e2,aX,_,rfl,q D es wf _ (λb u e=>?_) aJ (by rw[ai (ai2 B)];exact e1) e4 ?_⟩
   .by_cases Y:b=S
    .subst Y;rw[hS]at e;cases e;exact af
    .rw[ai Y];exact e6 _ _ (by unfold fb;simp_all)
   .rw[afc]at e5;exact e5
  .refine⟨_,rfl,S,kvs,rfl,aP,λo' bJ=>?_⟩;refine sP (WaI S D h J kvs o' H) (.mk aR _ none none none rfl (by rw[ai (ai2 B)];exact aQ) af k1 n1 (agP O) (λb u e=>?_)) (λi σ H' _ ⟨_,_,_,_,_,_,_,e,_,_,_,_⟩=>e) ?_ (λσ H' z=>⟨o',by simp_all,nf⟩)
   .have e1:=s1 _ _ e;unfold fb at e;split at e
    .cases e
    .rename_i Y;rw[ai Y];exact e1
   .rintro i k vv σ H5 T ag ⟨es,wf,x2,x3,x4,rfl,e1,e2,e3,e4,e5,e6⟩ nT;have hi:i<J.length:=by rw[←kl];exact (ahW.mp ag).1
    obtain⟨o,Z⟩:∃o,J[i]?=some o:=⟨_,ahU hi⟩;have as:=ah7 Z;have g:=O.gone o as;obtain⟨ln,ev,bM⟩:=dl.at_ i (k,vv) o ag Z;have aY:=by
     have a:(kvs.map (·.1))[i]?=some k:=by rw[ah1,ag];rfl
     rw[dl.keys,ah1,Z]at a;exact (ai0 a).symm
    dsimp only at ev;subst ev aY;have s6:Same H5 (upd H5 T (.tup [kV (kB o),.ref ln])):=aK nT;have e7:(upd H5 T _) T=some (.tup [kV (kB o),.ref ln]):=af;generalize upd H5 T (.tup [kV (kB o),.ref ln])=H6 at *;refine⟨T,_,rfl,aAB e7,rfl,?_⟩;refine⟨_,_,rfl,_,_,rfl,rfl,?_⟩;have bO:ln≠S:=λz=>by grind
    have aw:∀{G},Same (fb S H) G->G ln=some (.lst (nxV h o)):=λs=>s _ _ (by unfold fb;simp_all);refine⟨WbI S D h J kvs o' H i o ln (cn h o).length,?_,?_⟩
    .rintro ax H9 ⟨es,wf,x4,rfl,a1,a2,a3,a4,a5,a6⟩;exact .mk es wf _ _ _ rfl a1 a2 a3 a4 (by rw[←ad2];exact a5) a6
    .refine⟨_,rfl,ln,rfl,⟨_,aAA (aw (e6.trans s6))⟩,?_⟩;refine fh  (λj ax H'=>WbI S D h J _ o' H i o ln j ax H') (.mk es wf _ rfl (s6 _ _ e1) (s6 _ _ e2) e3 e4 (by rw[←af6 Z g];exact e5) (e6.trans s6)) (λj σ H' _ ⟨_,_,_,_,_,_,_,_,_,s⟩=>aAA (aw s)) ?_ (λσ H' z=>by simp_all);rintro j x σ H9 hx ⟨es,wf,x4,rfl,a1,a2,a3,a4,a5,a6⟩;obtain⟨n,en,ex⟩:∃n,(cn h o)[j]?=some n/\x=.int ((n:Nat):Int):=by
      cases hq:(cn h o)[j]?<;>simp_all
     subst ex;have ah:=ah7 en;obtain⟨k2,y,ey,a8,eb,pm⟩:=aff O Z ah;have L:=ah7 ey;have ac:Sum.inl ((bG o ||| 2^n:Nat):Int)=kB y:=by
      unfold kB;rw[eb,hE]
     have ly:=by simpa using aiO List.length a3
     refine⟨_,rfl,_,rfl,_,rfl,bG o,n,rfl,by have:=(next_iffD.mp ah).1;lia,λG' s'=>⟨D,_,rfl,pH (k:=.inl ((bG o ||| 2^n:Nat):Int)) (s' _ _ a1) (by rw[ac];exact a4 y L),?_⟩⟩;refine⟨_,rfl,_,rfl,D,_,rfl,pH  (s' _ _ a1) (a4 o as),?_⟩;refine⟨_,_,rfl,rfl,_,.k (k:=.inl _) (s' _ _ a1) (by lia),?_⟩;rw[ac];refine .mk _ (upB (bG y) (wf o) wf) _ rfl af (by rw[ai B];exact s' _ _ a2) (kp _ y _ L a3) (λz hz=>?_) (by rw[afV O.nd Z ey a8 en (Stuck.perm (O.gone y L) (bw g ah) pm)];exact a5) (dv (a6.trans s') ap);have hz':=a4 z hz;have hy':=a4 y L;unfold zm at hz' hy'⊢;rw[dm];by_cases eq:bG z=bG y
     .have ek:kB z=kB y:=by unfold kB;rw[eq]
      rw[ek]at hz'⊢;rw[hy']at hz';injection hz' with hz'
      injection hz' with hz'
      rw[if_pos rfl];unfold upB;rw[if_pos eq];congr 2;lia
     .rw[if_neg (λq=>eq (ku q)),tT eq];exact hz'
def adG:Sp:=λvs H Q _=>∃(v:V) (h:Hs),vs=[v]/\HouseAt H v h/\aE h/\wM h/\h.2.length<=12/\∀H',Same H H'->Q (.int ((EndsN h []:Nat):Int)) H'
def aal:Sp:=λvs H Q _=>∃(v:V) (h:Hs),vs=[v]/\HouseAt H v h/\aE h/\wM h/\h.2.length<=12/\∀H',Same H H'->Q (.int ((Stuck h []:Nat):Int)) H'
theorem ki:aA ["house"] ["house"] (ak dt):=scM rfl rfl rfl rfl (by decide +kernel)
theorem ae5{f Z fT fE fA:Addr}{fd B J L O:FuncData}{tk:Nat}(F:Fun K "how_many_orders" "how_many_orders" dt f fd)(bJ:bx P w K mg base CX0 7 Z B ["thing","most"] oq)(mS:mg "require_small" = some (.ref Z))(kS:keepIn K (.ref Z)=true)(bS:Binds K B ["thing","most"] [.int 12 tk])
 (dk:bx P w K mg base CX0 3 fT J ["house"] oy)(bp:Cal K mg "steps_of" ["house"] fT J)(uY:bx P w K mg base CX0 1 fA O ["house"] adW)(eI:Cal K mg "set_of_all" ["house"] fA O)(ac:bx P w K mg base CX0 2 fE L ["steps","whole"] ad0)(i7:Cal K mg "ends_of" ["steps","whole"] fE L):bx P w K mg base CX0 8 f fd ["house"] adG:=by
 refine F.ok ki (λvs H Q E h=>?_) (λaB A outer s H vs Q E hr h=>?_)
 .obtain⟨v,h,rfl,_⟩:=h
  rfl
 .have hu:=gm hr;obtain⟨v,h,rfl,hh,ok,few,z,q⟩:=h;refine⟨_,(ao (bX (bM bJ hr rfl mS kS bS (dvs:=[.int 12]) (.cons ⟨tk,rfl⟩ .nil) eJ (ae (pv 0) aj)))
   (av (aM (eN hu (bM ac (hr.mono (by decide)) rfl i7.mg i7.kp i7.b .nil eJ (ae (bM dk (hr.mono (by decide)) rfl bp.mg bp.kp bp.b .nil eJ (ae (pv 0) aj)) (ae (bM uY (hr.mono (by decide)) rfl eI.mg eI.kp eI.b .nil eJ (ae (pv 0) aj)) aj))) ar (λ_ _=>rfl))))),⟨_,rfl,v,h,12,rfl,hh,ok,z,λH1 s1=>⟨_,rfl,v,h,rfl,hh.same s1,ok,few,z,λS kvs os H2 s2 nS eS dl sa=>?_⟩⟩⟩
  refine⟨_,rfl,v,h,rfl,(hh.same s1).same s2,z,λH3 s3=>?_⟩;refine⟨S,kvs,h,os,rfl,z,s3 _ _ eS,dl.same (mW.trans s3),sa,λE es H4 s4 nE eE all=>?_⟩;obtain⟨z0,Y,ak,ks⟩:=u6 sa;refine⟨E,_,rfl,pH (k:=.inl 0) eE (by rw[←ak];exact all z0 Y),?_⟩;rw[EndsN.perm (sa.gone z0 Y) (cU _ _) ks];exact q H4 (((s1.trans s2).trans s3).trans s4)
theorem dR:aA ["house","steps","ways"] ["house"] (ak cJ):=scM rfl rfl rfl rfl (by decide +kernel)
theorem jU:(["opened","ways","steps"]:List Str).Nodup:=by decide +kernel
theorem acT{f fS fT fW:Addr}{fd aa ab ac:FuncData}{tk:Nat}(F:Fun K "how_many_stuck" "how_many_stuck" cJ f fd)(bJ:bx P w K mg base CX0 7 fS aa ["thing","most"] oq)(mS:mg "require_small" = some (.ref fS))(kS:keepIn K (.ref fS)=true)(bS:Binds K aa ["thing","most"] [.int 12 tk])
 (dk:bx P w K mg base CX0 3 fT ab ["house"] oy)(bp:Cal K mg "steps_of" ["house"] fT ab)(ar:bx P w K mg base CX0 2 fW ac ["steps"] adw)(oX:Cal K mg "ways_of" ["steps"] fW ac)(yJ:mg "sum" = none):bx P w K mg base CX0 8 f fd ["house"] aal:=by
 refine F.ok dR (λvs H Q E h=>?_) (λaV A outer s H vs Q E hr h=>?_)
 .obtain⟨v,h,rfl,_⟩:=h
  rfl
 .have hu:=gm hr;obtain⟨v,h,rfl,hh,ok,few,J,q⟩:=h;refine⟨_,(ao (bX (bM bJ hr rfl mS kS bS (dvs:=[.int 12]) (.cons ⟨tk,rfl⟩ .nil) eJ (ae (pv 0) aj)))
   (ao (aB (i:=1) dR.nd rfl (.inr rfl) (pcl dk bp (hr.mono (by decide:3<=7)) rfl (ae (pv 0) aj)))
   (ao (aB (i:=2) dR.nd rfl (.inr rfl) (pcl ar oX (hr.mono (by decide:2<=7)) rfl (ae (pv 1) aj)))
   (av (aM (ay (u7 rfl) rfl yJ (by decide +kernel) (ae (aaB (H₀:=H) rfl (gH (tg:=.Name "opened" _) (outer:=ak (cJ)) (N:=["house","steps","ways"]) (N':=["opened","ways","steps"]) (nl:=1) (ix:=[2,1]) rfl rfl rfl (wW (H₀:=H) rfl (pv 1))
    (λ_ _ _ _=>(aq (i:=0) jU rfl (.inl rfl) (.inr rfl))) (λ_ _ _ _=>(iF (k9 (tU (K:=K) rfl (eN (by exact hu) (pv 2) (pv 0) (λ_ _=>rfl)) (by intro _;rfl)))))
    (λ_ _ _ _=>(eN (by exact hu) (pv 1) (pv 0) (λ_ _=>rfl))))) aj))))))),?_⟩
  refine⟨_,rfl,v,h,12,rfl,hh,ok,J,λH1 s1=>?_⟩;refine⟨_,rfl,v,h,rfl,hh.same s1,ok,few,J,λS kvs L H2 s2 nS eS Z O=>?_⟩;refine⟨_,rfl,S,kvs,h,L,rfl,J,eS,Z,O,λW es wf H3 s3 nW eW all aw=>?_⟩;have few:=sD O;have aY:2^h.2.length<=4096:=aij (ajW (by decide) J) (by decide);have kl:=Z.len;dsimp only [zT,tCB,ax,cS,aap,aR];refine aH _ _ _ _ _ _ _ _ _ ?_;refine⟨_,rfl,S,kvs,rfl,s3 _ _ eS,λob nf D nD=>?_⟩;have ad:S≠D:=λz=>by subst z;rw[af]at nD;cases nD
  have ag:S≠W:=λz=>by grind
  have pk:∀o∈L,abg h L _=stop h o:=λo B=>by
   unfold abg;rw[ajg,amX];constructor
   .rintro⟨o',ah,e⟩;rw[aiK,akh]at e;unfold stop;rw[←iC (O.gone o' ah) (O.gone o B) (dW (br o' (O.gone o' ah)) (br o (O.gone o B)) (ku e.1))];exact e.2
   .exact λe=>⟨o,B,by grind⟩
  refine ye (F:=λk=>(cD es k).getD .non) (pb:=abg h L) (a:=S) (o:=ob) (kvs:=kvs) af nD (by lia) (λx=>rfl) (λG k R hk Y r=>?_) (λG k R hk _ Y r=>?_) λG Y hG=>?_
  .rw[Z.keys]at hk;obtain⟨o,B,rfl⟩:=ah8.mp hk;obtain⟨j,hj⟩:=aiW B;obtain⟨l,e1,e2⟩:=Z.get O.nd hj;have am:l≠S:=λz=>by grind
   have el:=Y _ _ (by rw[ai am];exact s3 _ _ e2);refine⟨_,rfl,_,rfl,S,.ref l,rfl,.inl ⟨kvs,kB o,.inr ⟨ob,Y _ _ af⟩,rfl,e1.symm⟩,(!abg h L (kB o)),?_,?_⟩
   .rw[pk o B];refine .inl ⟨_,aAA el,?_⟩;show (!(cn h o).isEmpty)=!((cn h o).map _).isEmpty;rw[List.isEmpty_map]
   .show R _ G;rw[Bool.not_not];exact r G (Same.refl G)
  .rw[Z.keys]at hk;obtain⟨o,B,rfl⟩:=ah8.mp hk;have e:=all o B;unfold zm at e;refine⟨_,rfl,_,rfl,W,_,rfl,pH  (Y _ _ (by rw[ai (ai2 ag)];exact eW)) e,?_⟩;have:=r G (Same.refl G);simp_all
  .have aA:=Y _ _ af;refine⟨S,ob,kvs,aA,?_,?_⟩
   .exact nf
   .refine⟨D,(L.filter (stop h)).map λo=>wf o,rfl,aAA (by
     rw[ai (ai2 ad),hG,Z.keys,al6,aiG,aiG];congr 2;rw[aj3 λo B=>show (abg h L ∘ kB) o=stop h o from pk o B];refine aj4 λo B=>?_;have e:=all o (aiU.mp B).1;unfold zm at e;simp_all),?_⟩
    rw[qY wf];have ft:hZ ((L.filter (stop h)).map wf)=Stuck h []:=aw;rw[ft];refine q _ (((s1.trans s2).trans s3).trans λb u e=>?_);by_cases hb:b=S
    .subst hb;rw[s3 _ _ eS]at e;cases e;exact af
    .rw[ai hb];exact Y _ _ (by rw[ai hb];exact e)
end
section
variable {P:Program}{w:World}{K:PySem.W.Frag}{mg:Str->Option Value}{base:Heap}{f:Addr}{fd:FuncData}
def ud(h:Hs)(os:List (List Nat))(k:Key):Bool:=os.any λo=>decide (kB o=k)&&(cn h o).isEmpty
theorem uj{h J}(B:cz h J){o}(L:o∈J):ud h J (kB o)=(cn h o).isEmpty:=by
 unfold ud;rw[ajg,amX];constructor
 .rintro⟨o',z,e⟩;rw[aiK,akh]at e;rw[←iC (B.gone o' z) (B.gone o L) (dW (br o' (B.gone o' z)) (br o (B.gone o L)) (ku e.1))];exact e.2
 .exact λe=>⟨o,L,by simp_all⟩
theorem afb{α z:Type}{ys:List V}{ks:List α}{f:V->z}{g}(l:ys.length=ks.length)(h:∀(j:Nat) y k,ys[j]?=some y->ks[j]?=some k->f y=g k):ys.map f=ks.map g:=by
 apply aj1;intro j;rw[ah1,ah1];grind
def mU(H:Hp)(v:V):List Nat:=(L2.numsOf H v).map Int.toNat
theorem gM{H a o}(e:H a=some (.lst (abc o))):mU H (.ref a)=o/\L2.numsOf H (.ref a)=zs o:=by
 have z:H a=some (.lst ((zs o).map V.int)):=by rw[e,aiG];rfl
 have:=L2.numsOf_at z;refine⟨?_,this⟩;unfold mU;rw[this,aiG];exact amS _
theorem kU:aA ["house","steps"] ["house"] (ak fi):=scM rfl rfl rfl rfl (by decide +kernel)
theorem pK:(["opened","steps"]:List Str).Nodup:=by decide +kernel
theorem abq(F:Fun K "stuck_sets" "stuck_sets" fi f fd){fS:Addr}{aw:FuncData}{tk:Nat}(bJ:bx P w K mg base CX0 7 fS aw ["thing","most"] oq)(mS:mg "require_small" = some (.ref fS))(kS:keepIn K (.ref fS)=true)(bS:Binds K aw ["thing","most"] [.int 12 tk]){O:Addr}{B:FuncData}(dk:bx P w K mg base CX0 3 O B ["house"] oy)(bp:Cal K mg "steps_of" ["house"] O B){Y:Addr}{J:FuncData}(yS:bx P w K mg base CX0 2 Y J ["opened"] zu)(mh:Cal K mg "rooms_of" ["opened"] Y J)(aI:mg "sorted" = none):bx P w K mg base CX0 9 f fd ["house"] xU:=by
 refine F.ok kU (λvs H Q E h=>?_) (λbf A outer s H vs Q E hr h=>?_)
 .obtain⟨v,h,rfl,_⟩:=h
  rfl
 .have hu:=gm hr;obtain⟨v,h,rfl,hh,ok,few,an,q⟩:=h;have az:=aiA (ajn (by decide:4<=64) _) hr.units;refine⟨_,(ao (bX (bM bJ (hr.mono (by decide:7<=8)) rfl mS kS bS (dvs:=[.int 12]) (.cons ⟨tk,rfl⟩ .nil) eJ (ae (pv 0) aj)))
   (ao (aB (i:=1) kU.nd rfl (.inr rfl) (pcl dk bp (hr.mono (by decide:3<=8)) rfl (ae (pv 0) aj)))
   (av (aM (ay rG rfl aI aj6 (ae (aaB (H₀:=H) rfl (gH (tg:=.Name "opened" _) (outer:=ak (fi)) (N:=["house","steps"]) (N':=["opened","steps"]) (nl:=1) (ix:=[1]) rfl rfl rfl (wW (H₀:=H) rfl (pv 1))
    (λ_ _ _ _=>(aq (i:=0) pK rfl (.inl rfl) (.inr rfl))) (λ_ _ _ _=>(iF (k9 (tU (K:=K) rfl (eN (by exact hu) (pv 1) (pv 0) (λ_ _=>rfl)) (by intro _;rfl)))))
    (λ_ _ _ _=>(pcl yS mh (hr.mono (by decide:2<=8)) rfl (ae (pv 0) aj))))) aj)))))),?_⟩
  refine⟨_,rfl,v,h,12,rfl,hh,ok,an,λH1 s1=>?_⟩;refine⟨_,rfl,v,h,rfl,hh.same s1,ok,few,an,λS kvs os H2 s2 nS eS dl sa=>?_⟩;have aC:=s1.trans s2;have fw:=sD sa;have bi:2^h.2.length<=4096:=aij (ajW (by decide) an) (by decide);have kl:=dl.len;have aD:∀o∈os,∀i∈o,i<60:=λo ho i hi=>by have:=jw o (sa.gone o ho) i hi;lia
  dsimp only [zT,tCB,ax,cS,aap,aR];refine aH _ _ _ _ _ _ _ _ _ ?_;refine⟨_,rfl,S,kvs,rfl,eS,λob nf D nD=>?_⟩;have aE:S≠D:=λz=>by subst z;rw[af]at nD;cases nD
  refine zj (F:=λk=>abc (ahR k)) (pb:=ud h os) (a:=S) (o:=ob) (kvs:=kvs) af nD (by lia) (λx=>rfl) (λG k R hk sG r=>?_) (λG k R hk _ sG r=>?_) λys G sG hG rl=>?_
  .rw[dl.keys]at hk;obtain⟨o,ho,rfl⟩:=ah8.mp hk;obtain⟨j,hj⟩:=aiW ho;obtain⟨l,e1,e2⟩:=dl.get sa.nd hj;have aG:l≠S:=λz=>by grind
   have el:=sG _ _ (by rw[ai aG];exact e2);refine⟨_,rfl,_,rfl,S,.ref l,rfl,.inl ⟨kvs,kB o,.inr ⟨ob,sG _ _ af⟩,rfl,e1.symm⟩,(!ud h os (kB o)),?_,?_⟩
   .rw[uj sa ho];refine .inl ⟨_,aAA el,?_⟩;rw[List.isEmpty_map]
   .show R _ G;rw[Bool.not_not];exact r G (Same.refl G)
  .rw[dl.keys]at hk;obtain⟨o,ho,rfl⟩:=ah8.mp hk;exact⟨_,rfl,o,rfl,aD o ho,r⟩
  rw[dl.keys]at rl;refine⟨S,ob,kvs,sG _ _ af,nf,?_⟩;have s3:=acr eS sG;have ab:RelL _ _ (upd G S (.dK kvs)) D ys _:=⟨rl.len,λj y k a c=>by
   obtain⟨b,e,hb,n⟩:=rl.at_ j y k a c;have nb:b≠S:=λz=>by subst z;rw[sG _ _ af]at hb;cases hb
   exact⟨b,e,by rw[ai nb];exact hb,n⟩⟩
  have eD:(upd G S (.dK kvs)) D=some (.lst ys):=by rw[ai (ai2 aE)];exact hG
  generalize upd G S (.dK kvs)=H3 at *;refine⟨D,ys,rfl,aAA eD,?_,az,λy hy=>?_,λL ag nL pm so=>?_⟩
  .rw[ab.len];exact aij (aje _ _) (by rw[ahY];exact aij (show _<=4096 by lia) (by decide))
  .obtain⟨j,hj⟩:=aiW hy;obtain⟨b,e,hb,_⟩:=ab.at_ j y _ hj (ahU (by have:=(ahW.mp hj).1;rw[ab.len]at this;exact this));exact⟨b,zs _,e,by rw[hb,aiG];rfl⟩
  have Z:∀y∈ys,∃b r,y=.ref b/\H3 b=some (.lst _)/\H b=none:=λy hy=>by
   obtain⟨j,hj⟩:=aiW hy;obtain⟨b,e,hb,_,nb⟩:=ab.at_ j y _ hj (ahU (by have:=(ahW.mp hj).1;rw[ab.len]at this;exact this));have aT:b≠S:=λz=>by subst z;rw[af]at nb;cases nb
   rw[ai aT]at nb;exact⟨b,_,e,hb,aC.free nb⟩
  have em:ys.map (mU H3)=(os.filter λo=>(cn h o).isEmpty).map λo=>iN (bG o):=by
   rw[afb  ab.len λj y k e1 e2=>by
    obtain⟨b,rfl,hb,_⟩:=ab.at_ j y k e1 e2;exact (gM hb).1,al6,aiG,aj3 λo ho=>show (ud h os ∘ kB) o=(cn h o).isEmpty from uj sa ho]
   rfl
  have aU:((os.filter λo=>(cn h o).isEmpty).map λo=>iN (bG o)).Nodup:=by
   have n1:=sa.nd;rw[akO,aj2]at n1⊢;exact ajR (fun {a b} ha hb n e=>n (aaC (br a (sa.gone a (aiU.mp ha).1)) (br b (sa.gone b (aiU.mp hb).1)) e)) (n1.filter _)
  have aJ:=em▸pm.map _;have nd1:=aJ.nodup_iff.mpr aU;have aL:=aC.trans s3;have aN:∀b u,H3 b=some u->b≠L:=λb u e z=>by grind
  refine q L ag (ag.map (mU H3)) _ (aL.trans (aK nL)) (aL.free nL) af (by rw[ahY]) (λj y s e1 e2=>?_) (λi j b e1 e2=>?_) ⟨?_,λs=>?_⟩
  .rw[ah1,e1]at e2;cases e2;obtain⟨b,r,rfl,hb,nb⟩:=Z y (pm.mem_iff.mp (ah7 e1));rw[(gM hb).1];exact⟨b,rfl,by rw[ai (aN _ _ hb)];exact hb,nb,aN _ _ hb⟩
  .have h1:(ag.map (mU H3))[i]?=some (mU H3 (.ref b)):=by rw[ah1,e1];rfl
   have h2:(ag.map (mU H3))[j]?=some (mU H3 (.ref b)):=by rw[ah1,e2];rfl
   exact (akN (ahW.mp h1).1 nd1).mp (h1.trans h2.symm)
  .rw[aj2]at so⊢;rw[akO,aj2]at nd1;refine ajR (fun {a b} ha hb z=>?_) (so.and nd1);obtain⟨z1,z2⟩:=z;obtain⟨a',ra,rfl,ea,_⟩:=Z a (pm.mem_iff.mp ha);obtain⟨b',rb,rfl,eb,_⟩:=Z b (pm.mem_iff.mp hb);rw[(gM ea).2,(gM eb).2,afk]at z1;rw[(gM ea).1,(gM eb).1]at z2⊢;grind
  .rw[aJ.mem_iff,ah8];constructor
   .rintro⟨o,ho,e⟩;obtain⟨h1,h2⟩:=aiU.mp ho;exact⟨o,sa.gone o h1,List.isEmpty_iff.mp h2,e.symm⟩
   .rintro⟨o,g,e,rfl⟩;obtain⟨y,hy,ey⟩:=ah8.mp (sa.all _ g);have p:=dW (br y (sa.gone y hy)) (br _ g) ey;exact⟨y,aiU.mpr ⟨hy,List.isEmpty_iff.mpr (by rw[iC (sa.gone y hy) g p];exact e)⟩,by rw[ey]⟩
end
def uE:Sp:=λvs H Q _=>∃(v:V) (h:Hs),vs=[v]/\HouseAt H v h/\aE h/\(aw h).length<=1000/\∀(u:V) (H':Hp),Same H H'->HouseF H H' u (gz h)->Q u H'
def WantMap(kvs:List (Key×V))(ls:List Str):Prop:=∀x:Str,(cD kvs (Sum.inr x)).isSome=decide (x∈ls)
theorem WantMap.nil:WantMap [] []:=λx=>by simp[cD]
theorem WantMap.put{kvs B y v}(h:WantMap kvs B):WantMap (eG kvs (Sum.inr y) v) (B++[y]):=λx=>by
 rw[dm];by_cases e:x=y
 .subst e;simp
 .have ne:¬ (Sum.inr x:Key)=Sum.inr y:=λz=>e (Sum.inr.inj z);rw[if_neg ne,h x];simp[e]
section
variable {P:Program}{w:World}{K:PySem.W.Frag}{mg:Str->Option Value}{base:Heap}
theorem bK:aA ["house","keys","rooms","wanted","kept"] ["house"] (ak aL):=scM rfl rfl rfl rfl (by decide +kernel)
theorem cF:(["locks","within","kind"]:List Str).Nodup:=by decide +kernel
theorem eh:(["locks","within","wanted"]:List Str).Nodup:=by decide +kernel
theorem eu:(["kind","wanted"]:List Str).Nodup:=by decide +kernel
theorem yY{f fR:Addr}{fd aZ:FuncData}(F:Fun K "without_needless" "without_needless" aL f fd)(bu:bx P w K mg base CX0 6 fR aZ ["thing"] yA)(az:Cal K mg "require_house" ["thing"] fR aZ)(fD:mg "list" = none):
 bx P w K mg base CX0 7 f fd ["house"] uE:=by
 refine F.ok bK (λvs H Q E h=>?_) (λbI A outer s H vs Q E hr h=>?_)
 .obtain⟨v,r,rfl,_⟩:=h
  rfl
 .obtain⟨v,J,rfl,hh,ok,nl,k⟩:=h;have hu:=gm hr;refine⟨_,(ao (bX (pcl bu az hr rfl (ae (pv 0) aj)))
   (ao (oR (pv 0) (gb rfl (au (aq (i:=1) bK.nd rfl (.inl rfl)) (au (aq (i:=2) bK.nd rfl (.inl rfl)) aO))))
   (ao (aB (i:=3) bK.nd rfl (.inr rfl) (af4 (tg2:=.Name "kind" _) (outer:=ak (aL)) (N:=["house","keys","rooms","wanted","kept"]) (N':=["locks","within","kind"]) (nl:=3) (ix:=[]) rfl rfl rfl (aV (pv 2))
    (λ_ _ _ _=>(bZ (K:=K) (n:=2) rfl rfl (au (aq (i:=0) cF rfl (.inl rfl) (.inr rfl)) (au (aq (i:=1) cF rfl (.inl rfl) (.inr rfl)) aO)))) (λ_ _ _ _=>(ky (K:=K) rfl (pv 0))) (λ_ _ _ _=>(aq (i:=2) cF rfl (.inl rfl) (.inr rfl)))
    (λ_ _ _ _=>(pv 2)) (λ_ _ _ _=>oE)))
   (ao (aaw (i:=4) (outer:=ak (aL)) (N:=["house","keys","rooms","wanted","kept"]) (N':=["locks","within","wanted"]) (nl:=2) (ix:=[3]) bK.nd rfl (.inl rfl) rfl rfl rfl (aV (pv 2))
    (λ_ _ _ _=>(bZ (K:=K) (n:=2) rfl rfl (au (aq (i:=0) eh rfl (.inl rfl) (.inr rfl)) (au (aq (i:=1) eh rfl (.inl rfl) (.inr rfl)) aO)))) (λ_ _ _ _=>bt)
    (λ_ _ _ _=>(gC (ae (eF (yd (K:=K) rfl) rfl fD (by decide +kernel) (ae (pv 0) aj)) (ae (gH (tg:=.Name "kind" _) (outer:=wK (cG (adH ((bq aL).getD 3 (.Pass ⟨0,0,0,0⟩)))) (ak (aL))) (N:=["locks","within","wanted"]) (N':=["kind","wanted"]) (nl:=1) (ix:=[2]) (lS rfl) rfl rfl (ky (K:=K) rfl (pv 1))
    (λ_ _ _ _=>(aq (i:=0) eu rfl (.inl rfl) (.inr rfl))) (λ_ _ _ _=>(iF (tI (adB hu (pv 0) (pv 1)))))
    (λ_ _ _ _=>(pv 0))) aj)))))
   (av (aM (gC (ae (gH (tg:=.Name "kind" _) (outer:=ak (aL)) (N:=["house","keys","rooms","wanted","kept"]) (N':=["kind","wanted"]) (nl:=1) (ix:=[3]) rfl rfl rfl (aV (pv 1))
    (λ_ _ _ _=>(aq (i:=0) eu rfl (.inl rfl) (.inr rfl))) (λ_ _ _ _=>(iF (tI (adB hu (pv 0) (pv 1)))))
    (λ_ _ _ _=>(pv 0))) (ae (pv 4) aj))))))))),?_⟩
  refine⟨_,rfl,v,J,rfl,hh,ok,λH1 s1=>?_⟩;obtain⟨t,a,r,vs,rfl,ht,ha,as,hR⟩:=hh.same s1;refine⟨_,rfl,t,_,rfl,aAB ht,rfl,_,_,rfl,_,_,rfl,rfl,?_⟩;have hl:vs.length<=1000:=by rw[hR.1];exact ok.rl
  have big:∀{n},n<=4000->n<sizeLine:=λh=>aiA h (by decide);dsimp only [sI,qC];refine vC (K:=K)  ?_ (λh q=>let ⟨x,e,q⟩:=q;⟨x,e,h _ _ q⟩);refine⟨_,rfl,r,vs,rfl,aAA as,λD nD=>⟨λi ys H2=>WantMap ys ((J.2.take i).flatMap (·.1))/\ys.length<=4*i/\i<=1000/\H2 D=some (.dK ys)/\Same H1 H2,⟨WantMap.nil,ail _,ail _,af,λb u e=>by rw[ai (ag e nD)];exact e⟩,(λi ys H2 h=>h.2.2.2.1),(λi ys H2 h=>aAA (h.2.2.2.2 _ _ as)),?_,?_⟩⟩
  .rintro i ys H2 x hx ⟨hw,a0,bk,aI,sm⟩;have hi:=(ahW.mp hx).1;have al:i<J.2.length:=by rw[←hR.1];exact hi
   have er:=ahU al;obtain⟨tt,aa,bb,rfl,g1,g2,g3⟩:=(hR.2 i x _ hx er).same sm;have l4:=(ok.rs _ (aiq al)).l4;refine wI  ?_ (λh q=>let ⟨x,e,q⟩:=q;⟨x,e,h _ _ q⟩) (λh q=>let ⟨a,xs,e1,e2,e3,v1,r1,e4,v2,r2,e5,e6,q⟩:=q;⟨a,xs,e1,e2,e3,v1,r1,e4,v2,r2,e5,e6,h _ _ q⟩) (λh q=>let ⟨x,e,q⟩:=q;⟨x,e,h _ _ q⟩) (λh=>h _ _);refine⟨tt,_,rfl,aAB g1,rfl,_,_,rfl,_,_,rfl,rfl,⟨rfl,rfl⟩,_,rfl,aa,(J.2[i]).1.map V.str,rfl,aAA g2,rfl,λj ad Z=>WantMap ad ((J.2.take i).flatMap (·.1)++(J.2[i]).1.take j)/\ad.length<=4*i+j/\j<=(J.2[i]).1.length/\Z D=some (.dK ad)/\Same H1 Z,⟨by simp_all,a0,ail _,aI,sm⟩,(λj ad Z h=>h.2.2.2.1),(λj ad Z h=>?_),?_,?_⟩
   .obtain⟨bU,bV,bW,e,q1,q2,q3⟩:=(hR.2 i _ _ hx er).same h.2.2.2.2;cases e;have:Z tt=some (.tup [.ref aa,.ref bb]):=by
     obtain⟨t3,a3,b3,e3,w1,w2,w3⟩:=hR.2 i _ _ hx er;cases e3;rw[sm _ _ w1]at g1;cases g1;exact h.2.2.2.2 _ _ w1
    rw[q1]at this;cases this;exact aAA q2
   .rintro j ad Z z hz ⟨ah,a5,aK,Y,O⟩;have hj:j<(J.2[i]).1.length:=by have:=(ahW.mp hz).1;simp_all
    rw[ah1,ahU hj]at hz;cases hz;refine⟨_,rfl,Sum.inr (J.2[i]).1[j],rfl,Y,big (by lia),?_,?_,hj,af,λb u e=>?_⟩
    .rw[ais,ahU hj,←aim];exact ah.put
    .have:=cg ad (Sum.inr (J.2[i]).1[j]) (V.bl true);lia
    .rw[ai (ag e nD)];exact O b u e
   .rintro ad Z ⟨ah,a5,aK,Y,O⟩;rw[ahY,aiz]at ah;refine nx hi ⟨?_,by lia,by lia,Y,O⟩;rw[iY _ _ _ al];exact ah
  .rintro kvs H2 ⟨hw,a0,_,aI,sm⟩;rw[hR.1,aiz]at hw;have ah:∀x ,(cD _ _).isSome=decide (x∈aw J):=hw;have a6:=aI;dsimp only [aR,sI,qC];refine aH _ _ _ _ _ _ _ _ _ ⟨_,rfl,r,rfl,⟨_,aAA (sm _ _ as)⟩,?_⟩;intro D2 aN;refine bB  (λi ys Z=>i<=1000/\(∃T L,RoomsF Z ys i T L (λm=>(j7 (gz J) m).map V.str)/\∀m,m<2*i->H2 (L m)=none/\L m≠D2)/\Z D2=some (.lst ys)/\Same H2 Z)
    ⟨by decide,⟨λ_=>0,λ_=>0,RoomsF.nil ..,λm h=>absurd h (by lia)⟩,af,λb u e=>by rw[ai (ag e aN)];exact e⟩ (λi ys Z ⟨_,_,h,_⟩=>h) (λi ys Z ⟨_,_,_,O⟩=>aAA (O r _ (sm _ _ as))) ?_ ?_
   .rintro i ys Z x hx ⟨bk,⟨T,L,hF,an⟩,Y,O⟩;have hi:=(ahW.mp hx).1;have al:i<J.2.length:=by rw[←hR.1];exact hi
    have er:=ahU al;have rl:=(ok.rs _ (aiq al)).kl;obtain⟨tt,aa,bb,rfl,g1,g2,g3⟩:=((hR.2 i x _ hx er).same sm).same O;refine xu tt _ _ rfl (aAB g1) rfl ?_;refine⟨_,rfl,aa,_,rfl,.inl (aAA g2),λl1 n1=>?_⟩;have m1:Same Z (upd Z l1 (.lst ((J.2[i]).1.map V.str))):=λb u e=>by rw[ai (ag e n1)];exact e
    have e1:(upd Z l1 _) l1=some (.lst ((J.2[i]).1.map V.str)):=af;generalize upd Z l1 (.lst ((J.2[i]).1.map V.str))=H4 at m1 e1⊢;have a7:=m1 _ _ (O _ _ a6);refine aH _ _ _ _ _ _ _ _ _ ⟨_,rfl,bb,rfl,⟨_,aAA (m1 _ _ g3)⟩,?_⟩;intro E2 ab;refine bB  (λj zs H5=>zs=(keep (aw J) ((J.2[i]).2.take j)).map V.str/\j<=1000/\H5 E2=some (.lst zs)/\Same H4 H5)
     ⟨by rfl,by decide,af,λb u e=>by rw[ai (ag e ab)];exact e⟩ (λj zs H5 ⟨_,_,h,_⟩=>h) (λj zs H5 ⟨_,_,_,B⟩=>aAA (B bb _ (m1 _ _ g3))) ?_ ?_
    .rintro j zs H5 y hy ⟨rfl,aK,S,B⟩;have hj:j<(J.2[i]).2.length:=by have:=(ahW.mp hy).1;simp_all
     have ap:=(ahW.mp hy).1;rw[ah1,ahU hj]at hy;cases hy;have zl:((keep (aw J) ((J.2[i]).2.take j)).map V.str).length<sizeLine:=by
      rw[ahY];refine aU (aij (js _ _) ?_);have:=List.length_take_le' j (J.2[i]).2;lia
     refine kN rfl ⟨_,rfl,_,rfl,D,_,rfl,DGet.k (k:=Sum.inr _) (B _ _ a7),_,rfl,?_⟩;rw[ah];by_cases hk:(J.2[i]).2[j]∈aw J
     .rw[aiv hk];refine⟨_,rfl,S,zl,nx ap ⟨?_,by lia,af,λb u e=>?_⟩⟩
      .rw[ais,ahU hj,akD,kP,if_pos hk,aia]
       rfl
      .rw[ai (ag e ab)];exact B b u e
     .rw[aiC hk];refine nx ap ⟨?_,by lia,S,B⟩;rw[ais,ahU hj,akD,kP,if_neg hk,aiV]
    .rintro zs H5 ⟨rfl,_,S,B⟩;rw[ahY,aiz]at S;refine⟨by show 2<=sizeLine;decide,λtn n3=>?_⟩;have m3:Same H5 (upd H5 tn (.tup [.ref l1,.ref E2])):=λb u e=>by rw[ai (ag e n3)];exact e
     have e3:(upd H5 tn _) tn=some (.tup [.ref l1,.ref E2]):=af;have aQ:=(m1.trans B).trans m3;have a8:=aQ D2 _ Y;have bs:=ag e1 ab;have aS:=m1.free ab;have F6:=hF.more    aQ e3 (by rw[qI (abV er)];exact (B.trans m3) _ _ e1) (by rw[uk (abV er)];exact m3 _ _ S) n1 aS bs;have d1:=ag Y n1;have d2:=ag Y aS;have nL:∀m,m<2*(i+1)->H2 ((λm=>if m=2*i then l1 else if m=2*i+1 then E2 else L m) m)=none/\(λm=>if m=2*i then l1 else if m=2*i+1 then E2 else L m) m≠D2:=λm hm=>by
      dsimp only;by_cases f1:m=2*i
      .rw[if_pos f1];exact⟨O.free n1,d1.symm⟩
      .rw[if_neg f1];by_cases f2:m=2*i+1
       .rw[if_pos f2];exact⟨O.free aS,d2.symm⟩
       .rw[if_neg f2];exact an m (by lia)
     refine⟨a8,by rw[hF.len];exact aU (by lia),nx hi ⟨by lia,⟨_,_,F6.off a8 λm hm=>(nL m hm).2,nL⟩,af,λb u e=>?_⟩⟩;rw[ai (ag e aN)];exact aQ b u (O b u e)
   .rintro ys Z ⟨_,⟨T,L,hF,an⟩,Y,O⟩;have a9:=O _ _ a6;have ba:=O _ _ (sm _ _ ha);dsimp only [zT,adq,ax,cS];refine aH _ _ _ _ _ _ _ _ _ ⟨_,rfl,a,rfl,⟨_,aAA ba⟩,?_⟩;intro E2 ab;refine bB  (λj zs H5=>zs=(keep (aw J) (J.1.take j)).map V.str/\j<=1000/\H5 E2=some (.lst zs)/\Same Z H5)
     ⟨by rfl,by decide,af,λb u e=>by rw[ai (ag e ab)];exact e⟩ (λj zs H5 ⟨_,_,h,_⟩=>h) (λj zs H5 ⟨_,_,_,B⟩=>aAA (B a _ ba)) ?_ ?_
    .rintro j zs H5 y hy ⟨rfl,aK,S,B⟩;have hj:j<J.1.length:=by have:=(ahW.mp hy).1;simp_all
     have ap:=(ahW.mp hy).1;have kl:=ok.kl;rw[ah1,ahU hj]at hy;cases hy;have zl:((keep (aw J) (J.1.take j)).map V.str).length<sizeLine:=by
      rw[ahY];refine aU (aij (js _ _) ?_);have:=List.length_take_le' j J.1;lia
     refine kN rfl ⟨_,rfl,_,rfl,D,_,rfl,DGet.k (k:=Sum.inr _) (B _ _ a9),_,rfl,?_⟩;rw[ah];by_cases hk:J.1[j]∈aw J
     .rw[aiv hk];refine⟨_,rfl,S,zl,nx ap ⟨?_,by lia,af,λb u e=>?_⟩⟩
      .rw[ais,ahU hj,akD,kP,if_pos hk,aia]
       rfl
      .rw[ai (ag e ab)];exact B b u e
     .rw[aiC hk];refine nx ap ⟨?_,by lia,S,B⟩;rw[ais,ahU hj,akD,kP,if_neg hk,aiV]
    .rintro zs H5 ⟨rfl,_,S,B⟩;rw[ahY,aiz]at S;refine⟨_,rfl,by show 2<=sizeLine;decide,λtn n3=>?_⟩;have m3:Same H5 (upd H5 tn (.tup [.ref E2,.ref D2])):=λb u e=>by rw[ai (ag e n3)];exact e
     rw[hR.1,←jj J]at hF an;have bc:=s1.trans (sm.trans O);have bd:=s1.trans sm;refine k (.ref tn) _ ((bc.trans B).trans m3) ⟨tn,E2,D2,ys,T,L,rfl,af,m3 _ _ S,m3 _ _ (B _ _ Y),(hF.same B).same m3,ai2 (ag Y ab),λm hm=>⟨λz=>?_,λz=>(an m hm).2 z.symm⟩,bc.free ab,bd.free aN,λm hm=>bd.free (an m hm).1⟩;have:=hF.ls m hm;grind
def xE:Sp:=λvs H Q _=>∃(p:Addr) (v:V) (h:Hs) (c:Int),vs=[.ref p,v]/\PoolAt H p c/\HouseAt H v h/\aE h/\fe h/\h.2.length<=8/\0<=c/\c+2000<1000000/\∀(d:Addr) (ks ms:List Str) (c':Int) (H':Hp),H d=none->H' d=some (.dK (jY ks ms))->iW h ks->ks.length<61->ks.length=ms.length->ms.Nodup->(∀k∈ms,aW k)->PoolAt H' p c'->c<=c'->c'<=c+540->But p H H'->Q (.ref d) H'
inductive KnI(p t:Addr)(h:Hs)(H:Hp)(i:Nat)(σ':L2.St)(H':Hp):Prop
 |mk (kA:Addr) (x3 x4:Option V):σ'=[some (.ref p),some (.ref t),some (.ref kA),x3,x4]->H' kA=some (.lst ((oO h i).map V.str))->Same H H'->KnI p t h H i σ' H'
theorem jV{p c H H'}(pl:PoolAt H p c)(s:Same H H'):PoolAt H' p c:=let ⟨o,e,i⟩:=pl;⟨o,s _ _ e,i⟩
theorem adD{p H H'}(s:Same H H'):But p H H':=λb u _=>s _ _
theorem cP:aA ["pool","house","kinds","locks","keys"] ["pool","house"] (ak iu):=scM rfl rfl rfl rfl (by decide +kernel)
theorem abQ{f:Addr}{fd:FuncData}(F:Fun K "_law_names" "_law_names" iu f fd){L:Addr}{J:FuncData}(i8:bx P w K mg base CX0 2 L J ["pool","many"] xc)(di:Cal K mg "_law_kinds" ["pool","many"] L J)
 (fD:mg "list" = none)(aI:mg "sorted" = none)(am:mg "set" = none)(zO:mg "dict" = none)(rQ:mg "zip" = none)(eV:mg "len" = none):bx P w K mg base CX0 3 f fd ["pool","house"] xE:=by
 refine F.ok cP (λvs H Q E h=>?_) (λa9 A outer s H vs Q E hr h=>?_)
 .obtain⟨p,v,h,c,rfl,_⟩:=h
  rfl
 .obtain⟨p,v,h,c,rfl,pl,hh,ok,few,l8,c0,c1,q⟩:=h;refine⟨_,(ao (aB (i:=2) cP.nd rfl (.inl rfl) (eF gB rfl fD (by decide +kernel) (ae (bY iM (pv 1) ar (λ_ _=>rfl)) aj)))
   (ao (cy (d9 aiN rfl (aV (bY iM (pv 1) ar (λ_ _=>rfl))) (gb rfl (au (aq (i:=3) cP.nd rfl (.inl rfl)) (au (aq (i:=4) cP.nd rfl (.inl rfl)) aO)))
    (av (aB (i:=2) cP.nd rfl (.inl rfl) (bz uD (bz uD (pv 2) (pv 3)) (pv 4))))))
   (ao (aB (i:=2) cP.nd rfl (.inl rfl) (ay (gf rfl) rfl aI aj6 (ae (eF (pN rfl) rfl am (by decide +kernel) (ae (pv 2) aj)) aj)))
   (av (aM (yN rfl zO rfl rQ rfl (ae (pv 2) (ae (pcl i8 di hr rfl (ae (pv 0) (ae (ay bE rfl eV ajq (ae (pv 2) aj)) aj))) aj)))))))),?_⟩
  obtain⟨t,a,r,us,rfl,ht,ha,Z,hR⟩:=hh;have ul:=hR.1;have nk:=few.nk;have nl:=few.nl;have sl:∀i,(oO h i).length<=1700:=λi=>aij abU (by lia);have be:1000000<sizeLine:=by decide
  refine⟨_,rfl,t,_,0,.ref a,rfl,rfl,aAB ht,rfl,a,_,rfl,.inl (aAA ha),λS an=>?_⟩;have s1:Same H (upd H S (.lst (h.1.map V.str))):=aQ an;have e1:(upd H S (.lst (h.1.map V.str))) S=some (.lst ((oO h 0).map V.str)):=by rw[af,uv]
  refine⟨λY H'=>KnI p t h H h.2.length Y H',?_,?_⟩;rotate_left
  .refine⟨_,rfl,t,_,1,.ref r,rfl,rfl,aAB (s1 _ _ ht),rfl,r,rfl,⟨_,aAA (s1 _ _ Z)⟩,fh  (λi Y H'=>KnI p t h H i Y H') ⟨S,none,none,rfl,e1,s1⟩ (λi σ H' _ ⟨_,_,_,_,_,sm⟩=>aAA (sm _ _ Z)) ?_ (λσ H' z=>by simp_all)⟩;rintro i x σ H3 hx ⟨S,x3,x4,rfl,hk,sm⟩;have hi:=(ahW.mp hx).1;have er:h.2[i]?=some _:=ahU (by lia);obtain⟨tt,aa,bb,rfl,g1,g2,g3⟩:=(hR.2 i x _ hx er).same sm;refine⟨tt,_,rfl,aAB g1,rfl,_,_,rfl,_,_,rfl,rfl,?_⟩;have l2:=sl (i+1);rw[kT er,ahZ,ahZ]at l2;refine⟨_,rfl,_,rfl,S,aa,_,_,rfl,rfl,hk,g2,by rw[ahY,ahY];lia,λk1 n1=>?_⟩;have s4:Same H3 (upd H3 k1 (.lst ((oO h i).map V.str++(h.2[i]'(by lia)).1.map V.str))):=aQ n1;have e4:(upd H3 k1 (.lst ((oO h i).map V.str++(h.2[i]'(by lia)).1.map V.str))) k1=_:=af;refine⟨_,rfl,k1,bb,_,_,rfl,rfl,e4,s4 _ _ g3,by rw[ahZ,ahY,ahY,ahY];lia,λk2 n2=>⟨k2,_,_,rfl,?_,sm.trans (s4.trans (aQ n2))⟩⟩;rw[af,kT er,aia,aia]
  rintro σ H2 ⟨S,x3,x4,rfl,hk,s2⟩;have bt:=sl h.2.length;refine⟨_,rfl,S,oO h h.2.length,rfl,aAA hk,aiA (show (oO h h.2.length).length+1<=1701 by lia) (by decide),λsA ts ac O=>?_⟩;obtain⟨U,hU,aD⟩:=few.few;have bu:=bf O.1 λx hx=>aD x (said_mem.mp ((O.2 x).mp hx));refine⟨sA,ts,rfl,af,by lia,λkB ks ad pm so=>?_⟩;have sB:Same H (upd _ kB (.lst (ks.map V.str))):=(s2.trans (aQ ac)).trans (aQ ad);have eB:(upd (upd H2 sA (mX P w sA ts)) kB _) kB=some (.lst (ks.map V.str)):=af;have LK:iW h ks:=⟨pm.nodup_iff.mpr O.1,λx=>by rw[pm.mem_iff,O.2,said_mem]⟩;have kl:=pm.length_eq;have aF:PoolAt (upd H2 sA (mX P w sA ts)) p c:=jV pl ((s2.trans (aQ ac)));have aG:=jV pl sB;have aH:=aF.ne ad;refine⟨_,rfl,_,rfl,_,rfl,kB,_,rfl,.inl (aAA eB),p,ks.length,c,by rw[ahY];rfl,aG,by lia,c0,by lia,λvA ms c2 H4 bw val aK ag aL ah g1 g2 B2=>?_⟩;refine⟨kB,vA,ks,ms,rfl,aAA (B2 _ _ aH eB),aAA aL,LK.nd,val.symm,λd nd=>?_⟩;have B:=(adD sB).trans B2;have s5:Same H4 (upd H4 d (.dK (jY ks ms))):=aQ nd;refine q d ks ms c2 _ (B.free (ah.ne nd) nd) af LK (by lia) val.symm ag aK (jV ah s5) g1 g2 (B.trans (adD s5))
end
end K7
namespace L2
open PySem PySem.Spec PyProof.Rows
theorem acK{K:PySem.W.Frag}{a b:Addr}{xs ys:List V}{g:TG}{tb:TS}{D:xQ}{σ:St}{H:Hp}(Y:ys.length<=xs.length)(Pv:Nat->St->Hp->Prop)(h0:Pv 0 σ H)(hl:∀i σ H,i<=ys.length->Pv i σ H->SqL K H a xs/\SqL K H b ys)
 (hs:∀i x y σ H T,xs[i]?=some x->ys[i]?=some y->Pv i σ H->H T=none->g (.ref T) σ (upd H T (.tup [x,y])) λB H2=>tb {D with nx:=Pv (i+1),ct:=Pv (i+1),bk:=D.nx} B H2)(hd:∀σ H,Pv ys.length σ H->D.nx σ H):
 ∃W:Nat->Nat->St->Hp->Prop,(∃m,W 0 m σ H)/\∀i m σ H,W i m σ H →
  ((ItZ K a b).stop i H/\D.nx σ H)\/((ItZ K a b).go i H/\∃N:St->Hp->Prop,(∀J H',N J H'->∃Z,Z<m/\W (i+1) Z J H')/\∀x H',(ItZ K a b).yld i H x H'->g x σ H' λB H2=>tb {D with nx:=N,ct:=N,bk:=D.nx} B H2):=by
 refine⟨λi m σ H=>m=ys.length-i/\i<=ys.length/\Pv i σ H,⟨ys.length,by simp,ail _,h0⟩,?_⟩;rintro i m σ H ⟨rfl,hi,p⟩;obtain⟨L,O⟩:=hl i σ H hi p;by_cases z:i<ys.length
 .have S:i<xs.length:=by lia
  refine .inr ⟨⟨xs,ys,xs[i],ys[i],L,O,by simp[S],by simp[z]⟩,Pv (i+1),λJ H' p'=>⟨ys.length-(i+1),by lia,rfl,z,p'⟩,λx H' y=>?_⟩;obtain⟨T,u,v,ex,hT,eH,hu,hv⟩:=y;subst ex eH;exact hs i u v σ H T (hu xs L) (hv ys O) p hT
 .have e:i=ys.length:=by lia
  subst e;exact .inl ⟨⟨xs,ys,L,O,.inr (ah4 _)⟩,hd σ H p⟩
end L2
namespace K7
open PySem L2 PyProof.Rows
theorem rp{ss:List _}{a f c}(h:HO.lst (ss.map V.str)=.lst [.int a,.int f,.int c]):False:=by
 cases ss<;>grind
theorem HouseAt.but{H H' v h p c}(x:HouseAt H v h)(pl:PoolAt H p c)(b:But p H H'):HouseAt H' v h:=by
 obtain⟨o,O,a0,f0,rfl⟩:=pl;obtain⟨t,a,r,vs,rfl,h1,h2,B,S,Y⟩:=x;have J:∀{y} {ss:List _},H y=some (.lst (ss.map _))->y≠p:=λe z=>by
  rw[z,O]at e;exact rp (ai0 e).symm
 have nt:∀{y} {us},H y=some (.tup us)->y≠p:=λe z=>by
  grind
 have nr:r≠p:=λz=>by
  rw[z,O]at B;cases B;have L:0<h.2.length:=by rw[←S];exact Nat.succ_pos 2
  obtain⟨_,_,_,e,_⟩:=Y 0 _ _ rfl (ahU L);cases e
 refine⟨t,a,r,vs,rfl,b _ _ (nt h1) h1,b _ _ (J h2) h2,b _ _ nr B,S,λi v q e1 e2=>?_⟩;obtain⟨t',a',b',e,Z,g2,g3⟩:=Y i v q e1 e2;exact⟨t',a',b',e,b _ _ (nt Z) Z,b _ _ (J g2) g2,b _ _ (J g3) g3⟩
theorem aeK{K H a xs}(x:SqL K H a xs):SqL K (ntH H) a xs:=by
 rcases x with (x|⟨o,x⟩) | x
 .exact .inl (.inl (jb x λ_ z=>nomatch z))
 .exact .inl (.inr ⟨o,jb x λ_ z=>nomatch z⟩)
 .exact .inr x
inductive LwI(K:PySem.W.Frag)(Pt a:Addr)(ns:List Int)(σ:L2.St)(H':Hp):Prop
 |mk (x1 x2 x3 x4 x5 x6 x7 x8 x9 x10:Option V):σ=[some (.ref a),x1,x2,x3,x4,x5,x6,x7,x8,x9,x10]->SqL K H' a (ns.map V.int)->Tb Pt H'->LwI K Pt a ns σ H'
theorem NK.swap{h g A B}(x:NK h g A B):NK g h B A:=let ⟨⟨k1,k2,a,b,c,d⟩,e,f⟩:=x;⟨⟨k2,k1,b,a,d,c⟩,f,e⟩
theorem aa1:∀{ks vs},ks.length=vs.length->(jY ks vs).map (·.1)=ks.map Sum.inr
 |[],[],_=>rfl
 |[],_::_,e=>absurd e (by simp)
 |_::_,[],e=>absurd e (by simp)
 |k::ks,v::vs,e=>by
  show _::(jY ks vs).map _=_::ks.map _;rw[aa1 (by simpa using e)]
theorem NK.lists{h g A B}(z:aE h)(J:aE g)(x:NK h g A B)(e:A.map (·.1)=B.map (·.1)):iW h (A.map (·.2))/\iW g (B.map (·.2))/\(A.map (·.2)).length=(B.map (·.2)).length/\abv (bO (A.map (·.2)) (B.map (·.2))) h g:=by
 let ⟨⟨Z,k2,L,L2,Y,p2⟩,sa,sb⟩:=x
 obtain⟨O,S,l,no⟩:=acb z J L L2 Y p2 e;exact⟨⟨O.nodup_iff.mpr L.nd,λx=>by rw[O.mem_iff,L.mem]⟩,⟨S.nodup_iff.mpr L2.nd,λx=>by rw[S.mem_iff,L2.mem]⟩,l,no⟩
theorem qw{H ys}{ss:List _}(l:ss.length=ys.length)(at_:∀(j:Nat) y s,ys[j]?=some y->ss[j]?=some s->∃b ,y=.ref b/\H b=some (.lst (abc s))):OrdsZ H ys (ss.map zs):=by
 refine⟨by rw[ahY,l],λj y x J B=>?_⟩;rw[ah1]at B;obtain⟨s,L,rfl⟩:=ai7.mp B;obtain⟨b,e,z⟩:=at_ j y s J L;simp_all
theorem NK.left{h g k A B z C}(x:NK h g A B)(y:NK h k z C):A=z:=by
 let ⟨⟨Z,k2,J,L2,L,p2⟩,O,sb⟩:=x
 let ⟨⟨m1,m2,M1,M2,S,q2⟩,ta,tb⟩:=y
 have Y:=(ajt J.nd M1.nd).mpr λx=>by rw[J.mem,M1.mem]
 exact ((L.trans (Y.map _)).trans S.symm).eq_of_pairwise (λa b _ _ h1 h2=>LL.lexP_tot a b h2 h1) O ta
theorem NK.mix{h g l k A B z C}(x:NK h g A B)(y:NK l k z C):NK h k A C:=by
 let ⟨⟨J,k2,L,L2,O,p2⟩,S,sb⟩:=x
 let ⟨⟨m1,Y,M1,M2,q1,Z⟩,ta,tb⟩:=y
 exact⟨⟨J,Y,L,M2,O,Z⟩,S,tb⟩
theorem Tb.but{Pt p c H H'}(x:Tb Pt H)(pl:PoolAt H p c)(b:But p H H'):Tb Pt H':=by
 obtain⟨o,J,L,O,rfl⟩:=pl;cases x with
 |no ps a B c=>exact .no ps (b _ _ (by grind) a) B c
 |yes ps c' a B c d=>exact .yes ps c' (b _ _ (by grind) a) B c (b _ _ (λz=>by rw[z,J]at d;cases d) d)
theorem ae7{p c H H'}(pl:PoolAt H p c)(s:Same (ntH H) H'):PoolAt H' p c:=by
 obtain⟨o,B,J,L,rfl⟩:=pl;exact⟨_,s _ _ (jb B λ_ z=>nomatch z),J,L,rfl⟩
theorem aeQ(ks:List _):ad8 (ks.map V.str) (some 1) none=(ks.drop 1).map V.str:=by
 match ks with
 |[]=>rfl
 |a::t=>
  unfold ad8;have e:HT.sIx (List.map V.str (a::t)).length 0 (some 1)=1:=rfl;have z:HT.sIx (List.map V.str (a::t)).length (List.map _ (a::t)).length none=(List.map V.str _).length:=rfl;rw[z];exact aiS (by simp)
theorem rT{h}(ok:aE h){x}(m:InH h x):aW x:=by
 rcases nq m with m|⟨r,hr,m|m⟩
 .exact ok.kk x m
 .exact (ok.rs r hr).lk x m
 .exact (ok.rs r hr).kk x m
theorem tw h:(aG (gz h)).length<=(aG h).length:=by
 have z:∀J (B:List Rm),((B.map λr=>(r.1,keep J r.2)).flatMap _).length<=(B.flatMap (·.2)).length:=λJ B=>by
  induction B with
  |nil=>exact ah4 _
  |cons r B L=>
   rw[air,aiY,aiY,ahZ,ahZ];exact amq (js J _) L
 show (keep _ _++_).length<=(h.1++_).length;rw[ahZ,ahZ];exact amq (js _ _) (z _ _)
inductive ZpI(Pt a p:Addr)(n:Int)(v u t:V)(d kl:Addr)(HK:Hp)(σ:L2.St)(H':Hp):Prop
 |mk (x8 x9 x10:Option V):σ=[some (.ref a),some (.int n),some (.ref p),some v,some u,some t,some (.ref d),some (.ref kl),x8,x9,x10]->Same (ntH HK) H'->Tb Pt H'->ZpI Pt a p n v u t d kl HK σ H'
theorem nn{d}:decide (V.ref d=V.non)=false:=by grind
abbrev afz:Stmt:=ag1
def ach(K:PySem.W.Frag)(Pt:Addr):Sp:=λvs H Q _=>∃(a:Addr) (ns:List Int),vs=[.ref a]/\SqL K H a (ns.map V.int)/\ns.length<=63/\Tb Pt H/\∀H',Q (.bl true) H'
section
variable {P:Program}{w:World}{K:PySem.W.Frag}{mg:Str->Option Value}{base:Heap}
theorem ja:aA ["script","k","pool","house","other","third","there","kinds","first","beside","strange"] ["script"] (ak afz):=scM rfl rfl rfl rfl (by decide +kernel)
theorem agd{Pt:Addr}{f:Addr}{fd:FuncData}(F:Fun K "law" "law" ag1 f fd)
 {ap:Addr}{ak:FuncData}(wL:bx P w K mg base CX0 1 ap ak ["script","k"] (adL K))(j9:Cal K mg "_law_pool" ["script","k"] ap ak)
 {az:Addr}{as:FuncData}(qu:bx P w K mg base CX0 3 az as ["pool","most"] abo)(jm:Cal K mg "_law_few" ["pool","most"] az as)
 {aD:Addr}{aA:FuncData}(uR:bx P w K mg base CX0 1 aD aA ["house","names"] aho)(kL:Cal K mg "_law_by" ["house","names"] aD aA)
 {al:Addr}{ab:FuncData}(mr:bx P w K mg base CX0 3 al ab ["pool","house"] xE)(gA:Cal K mg "_law_names" ["pool","house"] al ab)
 {ac:Addr}{aa:FuncData}(cu:bx P w K mg base CX0 7 ac aa ["one","other"] xM)(bC:Cal K mg "named_kinds" ["one","other"] ac aa)
 {aC:Addr}{aw:FuncData}(qz:bx P w K mg base CX0 7 aC aw ["house"] aac)(jf:Cal K mg "is_plain" ["house"] aC aw)
 {O:Addr}{J:FuncData}(gS:bx P w K mg base CX0 8 O J ["house"] adG)(cO:Cal K mg "how_many_orders" ["house"] O J)
 {Z:Addr}{S:FuncData}(iP:bx P w K mg base CX0 8 Z S ["house"] aal)(dc:Cal K mg "how_many_stuck" ["house"] Z S)
 {am:Addr}{ad:FuncData}(mQ:bx P w K mg base CX0 9 am ad ["house"] xU)(gp:Cal K mg "stuck_sets" ["house"] am ad)
 {an:Addr}{ah:FuncData}(m5:bx P w K mg base CX0 9 an ah ["house","first","other"] (xF Pt))(gq:Cal K mg "may_be_one" ["house","first","other"] an ah)
 {L:Addr}{B:FuncData}(gy:bx P w K mg base CX0 7 L B ["house"] uE)(cB:Cal K mg "without_needless" ["house"] L B)
 (gj:mg "range" = none)(cK:mg "max" = none)(cL:mg "min" = none)(eV:mg "len" = none)(aI:mg "sorted" = none)(rQ:mg "zip" = none):bx P w K mg base CX0 10 f fd ["script"] (ach K Pt):=by
 refine F.ok ja (λvs H Q E h=>?_) (λeQ A outer s H vs Q E hr h=>?_)
 .obtain⟨a,ns,rfl,_⟩:=h
  rfl
 .have hu:=gm hr;obtain⟨a,ns,rfl,hS,nl,tb,k⟩:=h;refine⟨_,(ao (cy (d9 aiN rfl (gJ rfl gj (ae (ay (aaU rfl) rfl cK (by decide +kernel) (ae ar (ae (ay (aaA rfl) rfl cL (by decide +kernel) (ae ar (ae (ay bE rfl eV ajq (ae (pv 0) aj)) aj))) aj))) aj)) (aq (i:=1) ja.nd rfl (.inl rfl))
   (ao (aB (i:=2) ja.nd rfl (.inl rfl) (pcl wL j9 (hr.mono (by decide:1<=9)) rfl (ae (pv 0) (ae (pv 1) aj))))
   (ao (aB (i:=3) ja.nd rfl (.inl rfl) (pcl qu jm (hr.mono (by decide:3<=9)) rfl (ae (pv 2) (ae ar aj))))
   (ao (aB (i:=4) ja.nd rfl (.inl rfl) (pcl uR kL (hr.mono (by decide:1<=9)) rfl (ae (pv 3) (ae (pcl mr gA (hr.mono (by decide:3<=9)) rfl (ae (pv 2) (ae (pv 3) aj))) aj))))
   (ao (aB (i:=5) ja.nd rfl (.inl rfl) (pcl uR kL (hr.mono (by decide:1<=9)) rfl (ae (pv 4) (ae (pcl mr gA (hr.mono (by decide:3<=9)) rfl (ae (pv 2) (ae (pv 4) aj))) aj))))
   (ao (aB (i:=6) ja.nd rfl (.inl rfl) (pcl cu bC (hr.mono (by decide:7<=9)) rfl (ae (pv 3) (ae (pv 4) aj))))
   (ao (fm (PW.pt (pV (aN oQ (pv 6) mY (aZ _)) (pV (aN oQ (pcl cu bC (hr.mono (by decide:7<=9)) rfl (ae (pv 4) (ae (pv 3) aj))) mY (aZ _)) (mF (aN oQ (pcl cu bC (hr.mono (by decide:7<=9)) rfl (ae (pv 3) (ae (pv 5) aj))) mY (aZ _))))))
    (av (aM oE)) bD)
   (ao (fm (PW.pt (pV (aN oQ (pcl cu bC (hr.mono (by decide:7<=9)) rfl (ae (pv 3) (ae (pv 3) aj))) mY (aZ _)) (mF (aN wJ (pcl qz jf (hr.mono (by decide:7<=9)) rfl (ae (pv 3) aj)) (pcl qz jf (hr.mono (by decide:7<=9)) rfl (ae (pv 4) aj)) (aZ _)))))
    (av (aM oE)) bD)
   (ao (fm (PW.pt (pV (aN wJ (pcl gS cO (hr.mono (by decide:8<=9)) rfl (ae (pv 3) aj)) (pcl gS cO (hr.mono (by decide:8<=9)) rfl (ae (pv 4) aj)) (aZ _)) (mF (aN wJ (pcl iP dc (hr.mono (by decide:8<=9)) rfl (ae (pv 3) aj)) (pcl iP dc (hr.mono (by decide:8<=9)) rfl (ae (pv 4) aj)) (aZ _)))))
    (av (aM oE)) bD)
   (ao (fm (aN uf (pcl mQ gp hr rfl (ae (pv 3) aj)) (pcl mQ gp hr rfl (ae (pv 4) aj)) (aZ _))
    (av (aM oE)) bD)
   (ao (aB (i:=7) ja.nd rfl (.inl rfl) (ay (m9 rfl) rfl aI aj6 (ae (pv 6) aj)))
   (ao (cy (d9 aiN rfl (adR rfl rQ (ae (pv 7) (ae (kG aaR (pv 7) (ou ar) nZ) aj))) (gb rfl (au (aq (i:=8) ja.nd rfl (.inl rfl)) (au (aq (i:=9) ja.nd rfl (.inl rfl)) aO)))
    (av (fm (aN wJ (pcl m5 gq hr rfl (ae (pv 3) (ae (pv 8) (ae (pv 9) aj)))) (pcl m5 gq hr rfl (ae (pv 4) (ae (eN hu (pv 6) (pv 8) (λ_ _=>rfl)) (ae (eN hu (pv 6) (pv 9) (λ_ _=>rfl)) aj)))) (aZ _))
     (av (aM oE)) bD))))
   (ao (fm (aN oQ (pcl cu bC (hr.mono (by decide:7<=9)) rfl (ae (pcl gy cB (hr.mono (by decide:7<=9)) rfl (ae (pv 3) aj)) (ae (pcl gy cB (hr.mono (by decide:7<=9)) rfl (ae (pv 4) aj)) aj))) mY (aZ _))
    (av (aM oE)) bD)
   (ao (aB (i:=10) ja.nd rfl (.inl rfl) (pcl qu jm (hr.mono (by decide:3<=9)) rfl (ae (pv 2) (ae ar aj))))
   (av (fm (aN wJ (gE oQ (pcl cu bC (hr.mono (by decide:7<=9)) rfl (ae (pv 3) (ae (pv 10) aj))) mY (aZ _)) (gE oQ (pcl cu bC (hr.mono (by decide:7<=9)) rfl (ae (pv 10) (ae (pv 4) aj))) mY (aZ _)) (aZ _))
    (av (aM oE)) bD)))))))))))))))))
   (av (aM oE))),?_⟩
  refine⟨λσ H'=>LwI K Pt a ns σ H',?_,?_⟩
  .rintro σ H' ⟨x1,x2,x3,x4,x5,x6,x7,x8,x9,aJ,rfl,_,_⟩;exact k H'
  refine⟨_,rfl,a,_,rfl,.inl hS,8,_,rfl,1,_,rfl,_,rfl,?_,?_,?_⟩
  .split<;>split<;>lia
  .split<;>split<;>lia
  refine og (λi σ H'=>LwI K Pt a ns σ H') ⟨none,none,none,none,none,none,none,none,none,none,rfl,hS,tb⟩ ?_ (λσ H' z=>z);rintro i σ H1 hi ⟨x1,x2,x3,x4,x5,x6,x7,x8,x9,aJ,rfl,S1,bI⟩;have i0:0+i=(i:Int):=Int.zero_add _;have bJ:i<=100:=by
   split at hi<;>split at hi<;>lia
  refine⟨_,rfl,_,rfl,a,i,ns,aiO (λz=>[V.ref a,V.int z]) i0,S1,bJ,nl,λp c o np bL c0 c1=>?_⟩;have s2:Same H1 (upd H1 p o):=aQ np;have bM:PoolAt (upd H1 p o) p c:=⟨o,af,bL⟩;generalize upd H1 p o=H2 at *;refine⟨_,rfl,p,8,c,rfl,bM,by decide,c0,by lia,λv h c3 H3 hh ok few fk l8 aT g1 g2 b3=>?_⟩;refine⟨_,rfl,_,rfl,_,rfl,p,v,h,c3,rfl,aT,hh,ok,few,l8,by lia,by lia,λd1 ks ms c4 H4 nd1 bN L1 cQ l1 cR vk bO g3 g4 b4=>⟨v,d1,h,ks,ms,rfl,hh.but aT b4,ok,bN,λx m=>(L1.mem x).mpr m,l1,cR,vk,λu g H5 s5 hg ai N1=>?_⟩⟩;have aU:g.2.length<=8:=by rw[N1.len];exact l8
  let ⟨ax,aV⟩:=N1.few cQ few.nk ai aU
  have aK:=jV bO s5;have bQ:=(hh.but aT b4).same s5;refine⟨_,rfl,_,rfl,_,rfl,p,u,g,c4,rfl,aK,hg,ai,ax,aU,by lia,by lia,λd2 cS cT c6 H6 nd2 bR L2 cW l2 bS cX bT g5 g6 b6=>⟨u,d2,g,cS,cT,rfl,hg.but aK b6,ai,bR,λx m=>(L2.mem x).mpr m,l2,bS,cX,λt m H7 s7 hm bW N2=>?_⟩⟩;have N3:=N1.comp N2 λx hx=>(L2.mem _).mpr (N1.ins.mpr ⟨x,(L1.mem x).mp hx,rfl⟩);have N0:NamedH id ks h h:=.same λx=>(L1.mem x).mpr;have cZ:m.2.length<=8:=by rw[N2.len];exact aU
  let ⟨bX,fy⟩:=N2.few cW ax.nk bW cZ
  have aW:Same H1 H7:=λb w e=>s7 _ _ (b6 _ _ (ag e np) (s5 _ _ (b4 _ _ (ag e np) (b3 _ _ (ag e np) (s2 _ _ e)))));have aE:=(bQ.but aK b6).same s7;have aF:=(hg.but aK b6).same s7;have bY:=jV bT s7;have S7:=aW.seq S1;have bZ:=bI.same aW;have cc:c6<=c+2600:=by lia
  have c2:0<=c6:=by lia
  clear bM aT bO aK bT b3 b4 b6 s2 s5 s7 hg hh bQ bN bR nd1 nd2 bL g1 g2 g3 g4 g5 g6 bI;refine⟨_,rfl,_,rfl,v,u,h,g,rfl,aE,aF,ok,ai,few.nk,ax.nk,by lia,by lia,λX Y nk=>⟨λe d H8 s8 nd8 b0=>?_,λne _ _=>absurd (N1.told nk) ne⟩⟩;refine⟨_,rfl,rfl,_,rfl,?_⟩;rw[nn];refine iR ⟨_,rfl,_,rfl,u,v,g,h,rfl,aF.same s8,aE.same s8,ai,ok,ax.nk,few.nk,by lia,by lia,λX2 Y2 b1=>⟨λ_ e2 H9 s9 _ _=>⟨rfl,_,rfl,?_⟩,λne _ _=>absurd (N1.told b1.swap).symm ne⟩⟩;rw[nn];have aX:=s8.trans s9;refine iR ⟨_,rfl,_,rfl,v,t,h,m,rfl,aE.same aX,hm.same aX,ok,bW,few.nk,bX.nk,by lia,by lia,λX3 Y3 b2=>⟨λ_ e3 fz bk _ _=>⟨rfl,_,rfl,?_⟩,λne _ _=>absurd (N3.told b2) ne⟩⟩;rw[nn];have aY:=aX.trans bk;refine iR ⟨_,rfl,_,rfl,v,v,h,h,rfl,aE.same aY,aE.same aY,ok,ok,few.nk,few.nk,by lia,by lia,λX4 Y4 b5=>⟨λ_ e4 fA bm _ _=>⟨rfl,_,rfl,?_⟩,λne _ _=>absurd (N0.told b5) ne⟩⟩;rw[nn];have a0:=aY.trans bm;refine iR ⟨_,rfl,v,h,rfl,aE.same a0,ok,λfB a1=>⟨_,rfl,u,g,rfl,aF.same (a0.trans a1),ai,λfC bn=>⟨rfl,_,rfl,?_⟩⟩⟩;rw[show xi g=xi h from N1.plain.symm,aiv rfl];have a2:=(a0.trans a1).trans bn;refine iR ⟨_,rfl,v,h,rfl,aE.same a2,ok,fk,by lia,λfD a3=>⟨_,rfl,u,g,rfl,aF.same (a2.trans a3),ai,aV,by lia,λfE bo=>⟨rfl,_,rfl,?_⟩⟩⟩;rw[←N1.alike.ends (cU _ _),aiv rfl];have a4:=(a2.trans a3).trans bo;refine iR ⟨_,rfl,v,h,rfl,aE.same a4,ok,fk,by lia,λfF a5=>⟨_,rfl,u,g,rfl,aF.same (a4.trans a5),ai,aV,by lia,λfG bp=>⟨rfl,_,rfl,?_⟩⟩⟩;rw[←N1.alike.stuck (cU _ _),aiv rfl];have a6:=(a4.trans a5).trans bp;refine iR ⟨_,rfl,v,h,rfl,aE.same a6,ok,fk,by lia,λLa ya sa fH a7 c7 b7 la b8 _ SR=>⟨_,rfl,u,g,rfl,aF.same (a6.trans a7),ai,aV,by lia,λLb yb sb b9 aL c8 ca lb cb _ ce=>?_⟩⟩;have es:=aar N1.alike SR ce;subst es;have oa:=qw la λj y s e1 e2=>let ⟨b,e,z,_⟩:=b8 j y s e1 e2;⟨b,e,z⟩;have ob:=qw lb λj y s e1 e2=>let ⟨b,e,z,_⟩:=cb j y s e1 e2;⟨b,e,z⟩;refine qf  (aL _ _ b7) ca (oa.same aL) ob (aiA (ajn (by decide) _) hr.units) ?_;rw[aiv rfl];have aG:=(a6.trans a7).trans aL
  let ⟨LX,LY,a8,no⟩:=nk.lists ok ai e
  obtain⟨U,hU,da⟩:=few.few;have xl:=bf LX.nd λx hx=>da x ((LX.mem x).mp hx);have N4:NamedH _ _ h g:=.of no (lL a8 LY.nd) λx=>(LX.mem x).mpr;have cf:=aE.same aG;have cg:=aF.same aG;have bq:=aL _ _ (a7 _ _ (bp _ _ (a5 _ _ (bo _ _ (a3 _ _ (bn _ _ (a1 _ _ (bm _ _ (bk _ _ (s9 _ _ b0))))))))));refine⟨_,rfl,iR ⟨_,rfl,d,_,X.map (·.2),rfl,bq,aa1 a8,by lia,λkl kn ch br fJ=>?_⟩⟩;have sK:Same _ (upd _ kl (.lst (kn.map V.str))):=aQ ch;have eK:(upd b9 kl _) kl=some (.lst (kn.map V.str)):=af;have db:=bZ.same (aG.trans sK);have SK:=(aG.trans sK).seq S7;have dd:=jV bY (aG.trans sK);have ci:=cf.same sK;have cj:=cg.same sK;have de:=sK _ _ bq;have df:=aW.trans (aG.trans sK);generalize upd b9 kl (.lst (kn.map V.str))=HK at *;clear aW SK sK bq cf cg aG a6 a4 a2 a0 aY aX aL a7 bp a5 bo a3 bn a1 bm bk s9 s8 oa ob b7 ca b8 cb c7 c8 aE aF bZ S7 bY b0 b1 b2 b5 ch nd8 hm la lb SR ce;refine⟨λσ H'=>ZpI Pt a p (0+i) v u t d kl HK σ H',?_,?_⟩
  .rintro σ HL ⟨x8,x9,aJ,rfl,sL,dg⟩;have cm:=ci.sameT sL;have cn:=cj.sameT sL;have dh:=ae7 dd sL;have fL:=tw h;have fM:=tw g;have fN:=few.nk;have fO:=ax.nk;have fP:=jj h;have fQ:=jj g;refine⟨_,rfl,v,h,rfl,cm,ok,few.nl,λw1 HM sM di=>⟨_,rfl,u,g,rfl,cn.same sM,ai,ax.nl,λw2 HN sN dj=>⟨w1,w2,gz h,gz g,rfl,di.at.same sN,dj.at,z7 ok,z7 ai,by lia,by lia,by lia,by lia,λX5 Y5 dk=>⟨λ_ e5 HO sO _ _=>⟨rfl,_,rfl,?_⟩,λne _ _=>absurd (N1.need.told dk) ne⟩⟩⟩⟩;have aP:=(sM.trans sN).trans sO;have ba:=jV dh aP;have dl:=cm.same aP;have dm:=cn.same aP;have dn:=dg.same aP;refine iR ⟨_,rfl,p,8,c6,rfl,ba,by decide,c2,by lia,λsv sh c9 HP hs bs aR fU fV fW _ _ bP=>?_⟩;have dt:=dl.but ba bP;have co:=dm.but ba bP;have du:=Tb.but dn ba bP;have dv:Same (ntH H1) HP:=λb y e=>bP _ _ (ag (tK e).1 np) (aP _ _ (sL _ _ (jb (df _ _ (tK e).1) (tK e).2)));have cq:∀x8 x9 aJ HR,Same HP HR->LwI K Pt a ns [some _,some (.int (0+i)),some (.ref p),some v,some u,some t,some (.ref d),some (.ref kl),x8,x9,aJ] HR:=λx8 x9 aJ HR s=>.mk _ _ _ _ _ _ _ _ _ _ rfl ((dv.trans s).seq (aeK S1)) (du.same s);refine⟨_,rfl,_,rfl,v,sv,h,sh,rfl,dt,hs,ok,bs,few.nk,aR.nk,by lia,by lia,λX6 Y6 bc=>⟨λe6 d6 HR sR _ _=>⟨rfl,_,rfl,_,rfl,sv,u,sh,g,rfl,hs.same sR,co.same sR,bs,ai,aR.nk,ax.nk,by lia,by lia,λX7 Y7 aS=>?_⟩,λn6 HR sR=>⟨rfl,_,rfl,_,rfl,sv,u,sh,g,rfl,hs.same sR,co.same sR,bs,ai,aR.nk,ax.nk,by lia,by lia,λX7 Y7 aS=>?_⟩⟩⟩
   .have eY:=bc.swap.left aS;have eX:=N1.told (bc.mix aS);exact⟨λ_ d7 HU sU _ _=>⟨rfl,rfl,_,rfl,iR (cq _ _ _ _ (sR.trans sU))⟩,λn7 _ _=>absurd (by rw[←eY,←e6,eX]) n7⟩
   .have eY:=bc.swap.left aS;have eX:=N1.told (bc.mix aS);exact⟨λe7 _ _ _ _=>absurd (by rw[eX,eY,e7]) n6,λn7 HU sU=>⟨rfl,rfl,_,rfl,iR (cq _ _ _ _ (sR.trans sU))⟩⟩
  .refine⟨_,rfl,_,rfl,1,rfl,kl,_,rfl,aAA eK,λsl dA=>?_⟩;rw[aeQ];have sS:Same HK (upd HK sl (.lst ((kn.drop 1).map V.str))):=aQ dA;have eS:(upd HK sl _) sl=some (.lst ((kn.drop 1).map V.str)):=af;have cs:=sS _ _ eK;have dB:=sS _ _ de;have dC:=ci.same sS;have dD:=cj.same sS;have dE:=db.same sS;generalize upd HK sl (.lst ((kn.drop 1).map V.str))=HS at *;have dF:=br.nodup_iff.mpr LX.nd;refine⟨kl,sl,rfl,⟨_,aAA cs⟩,⟨_,aAA eS⟩,?_⟩;refine acK   (by rw[ahY,ahY,ajS];lia) (λj dG G=>ZpI Pt a p _ v u t d kl HS dG G) (.mk x8 x9 _ rfl nt_all dE) (λj σ G _ ⟨_,_,_,_,s,_⟩=>⟨aAA (s _ _ (jb cs λ_ z=>nomatch z)),aAA (s _ _ (jb eS λ_ z=>nomatch z))⟩) ?_ (λσ G ⟨y8,y9,dH,e,s,tb⟩=>.mk y8 y9 _ e (kJ (wm sS) s) tb);rintro j x y σ G T hx hy ⟨y8,y9,dH,rfl,sG,dI⟩ nT;rw[ah1]at hx hy;obtain⟨k1,e1,rfl⟩:=ai7.mp hx;obtain⟨k2,e2,rfl⟩:=ai7.mp hy;rw[ak8]at e2;obtain⟨j1,f1⟩:=ahW.mp e1;obtain⟨j2,f2⟩:=ahW.mp e2;have ne:=by
    have:=aiL.mp dF j _ j1 j2 (by lia);rwa [f1,f2]at this
   have m1:=br.mem_iff.mp (ah7 e1);have m2:=br.mem_iff.mp (ah7 e2);have i1:=(LX.mem k1).mp m1;have i2:=(LX.mem k2).mp m2;have sT:Same G (upd G T (.tup [.str k1,.str k2])):=aQ nT;have eT:(upd G T _) T=some (.tup [.str k1,.str k2]):=af;have ct:=sG.trans sT;have dM:=dI.same sT;generalize upd G T (.tup [.str k1,.str k2])=GT at *;refine⟨T,_,rfl,aAB eT,rfl,_,_,rfl,_,_,rfl,rfl,?_⟩;have q1:=N4.ins.mpr ⟨k1,i1,rfl⟩;have q2:=N4.ins.mpr ⟨k2,i2,rfl⟩;refine⟨_,rfl,_,rfl,_,rfl,v,h,k1,k2,rfl,dC.sameT ct,ok,fk,few,l8,rT ok i1,rT ok i2,ne,i1,i2,dM,λbb GA dN sA dO=>?_⟩;have bu:=kJ ct sA;have cv:=bu _ _ (jb dB λ_ z=>nomatch z);refine⟨_,rfl,_,rfl,_,rfl,d,_,rfl,pH (k:=.inr k1) cv (rj m1 a8),_,rfl,_,rfl,d,_,rfl,pH (k:=.inr k2) cv (rj m2 a8),u,g,_,_,rfl,dD.sameT bu,ai,aV,ax,aU,rT ai q1,rT ai q2,(λz=>ne (N4.inj k1 m1 k2 m2 z)),q1,q2,dO,λdP GB cw sB dQ=>⟨rfl,_,rfl,?_⟩⟩;have eb:bb=dP:=by rw[ajg,dN,cw,N4.two m1 m2]
   rw[eb,aiv rfl];exact iR (.mk _ _ _ rfl (kJ bu sB) dQ)
end
structure Has(K:PySem.W.Frag)(x:Str)(st:Stmt)(f:Addr)(fd:FuncData):Prop where
 a:nsIn K mainGlobals x=some (some (.ref f))
 F:Fun K x x st f fd
theorem Has.c1{K:PySem.W.Frag}{h:Heap}{mg:Str->Option Value}{n:Str}{st:Stmt}{f:Addr}{fd:FuncData}{p0:Str}(H:Has K n st f fd)(X:K.In h)(G:h.Ns mainGlobals mg)(b:∀(kV doc pm:Value) (B:Option Addr) (z ct x:Value),bindArgs (fnOf n n (eO st) (bq st) (ak st) .none kV doc pm B z ct) ⟨[x],[]⟩=pure [(p0,x)]):Cal K mg n [p0] f fd:=
 ⟨ajN X G H.a,H.F.kp,H.F.binds λkV doc pm B z ct J L=>match J,L with | [x],_=>b kV doc pm B z ct x⟩
theorem Has.c2{K:PySem.W.Frag}{h:Heap}{mg:Str->Option Value}{n:Str}{st:Stmt}{f:Addr}{fd:FuncData}{p0 p1:Str}(H:Has K n st f fd)(X:K.In h)(G:h.Ns mainGlobals mg)(b:∀(kV doc pm:Value) (B:Option Addr) (z ct x y:Value),bindArgs (fnOf n n (eO st) (bq st) (ak st) .none kV doc pm B z ct) ⟨[x,y],[]⟩=pure [(p0,x),(p1,y)]):Cal K mg n [p0,p1] f fd:=
 ⟨ajN X G H.a,H.F.kp,H.F.binds λkV doc pm B z ct J L=>match J,L with | [x,y],_=>b kV doc pm B z ct x y⟩
theorem Has.c3{K:PySem.W.Frag}{h:Heap}{mg:Str->Option Value}{n:Str}{st:Stmt}{f:Addr}{fd:FuncData}{p0 p1 p2:Str}(H:Has K n st f fd)(X:K.In h)(G:h.Ns mainGlobals mg)(b:∀(kV doc pm:Value) (J:Option Addr) (B ct x y z:Value),bindArgs (fnOf n n (eO st) (bq st) (ak st) .none kV doc pm J B ct) ⟨[x,y,z],[]⟩=pure [(p0,x),(p1,y),(p2,z)]):Cal K mg n [p0,p1,p2] f fd:=
 ⟨ajN X G H.a,H.F.kp,H.F.binds λkV doc pm J B ct L O=>match L,O with | [x,y,z],_=>b kV doc pm J B ct x y z⟩
set_option autoImplicit true in
theorem all_mk{l:PySem.W.OpenLaw}{w:World}{K:PySem.W.Frag}{h:Heap}{mg:Str->Option Value}{fa:Addr}(X:K.In h)(G:h.Ns mainGlobals mg)(a0:mg "law" = some (.ref fa))
 (nN:Has K "is_kind" ue f_is_kind d_is_kind)
 (oh:Has K "are_kinds" pC f_are_kinds d_are_kinds)
 (oS:Has K "are_locks" zt f_are_locks d_are_locks)
 (uA:Has K "is_room" aeH f_is_room d_is_room)
 (qq:Has K "is_house" oM f_is_house d_is_house)
 (i5:Has K "require_house" ahb f_require_house d_require_house)
 (qG:Has K "is_plain" iA f_is_plain d_is_plain)
 (iX:Has K "kinds_counted" iD f_kinds_counted d_kinds_counted)
 (oB:Has K "with_room" i6 f_with_room d_with_room)
 (qe:Has K "has_room" j8 f_has_room d_has_room)
 (mG:Has K "set_of_all" iI f_set_of_all d_set_of_all)
 (qv:Has K "rooms_of" iy f_rooms_of d_rooms_of)
 (qd:Has K "steps_of" kf f_steps_of d_steps_of)
 (gw:Has K "without_needless" aL f_without_needless d_without_needless)
 (gk:Has K "require_two_kinds" cQ f_require_two_kinds d_require_two_kinds)
 (mM:Has K "may_be_one" iB f_may_be_one d_may_be_one)
 (g0:Has K "places_of_kinds" dz f_places_of_kinds d_places_of_kinds)
 (kD:Has K "named_kinds" bF f_named_kinds d_named_kinds)
 (mD:Has K "stuck_sets" fi f_stuck_sets d_stuck_sets)
 (ua:Has K "ends_of" jk f_ends_of d_ends_of)
 (u9:Has K "ways_of" jG f_ways_of d_ways_of)
 (ie:Has K "how_many_orders" dt f_how_many_orders d_how_many_orders)
 (iQ:Has K "how_many_stuck" cJ f_how_many_stuck d_how_many_stuck)
 (pO:Has K "_law_pool" aen f__law_pool d__law_pool)
 (jX:Has K "_law_take" acj f__law_take d__law_take)
 (mP:Has K "_law_kinds" se f__law_kinds d__law_kinds)
 (oU:Has K "_law_some" vB f__law_some d__law_some)
 (qh:Has K "_law_few" dg f__law_few d__law_few)
 (uy:Has K "_law_by" fB f__law_by d__law_by)
 (mJ:Has K "_law_names" iu f__law_names d__law_names)
 (aC:nsIn K mainGlobals "Doors" = some (some (.ref C)))
 (aq:findIn K (.ref C) "__init__" = some (some (.ref finit)))(ar:isFn K (.ref finit)=true)(Finit:Fun K "__init__" "Doors.__init__" aX finit dinit)
 (aa:findIn K (.ref C) "hand_with" = some (some (.ref fhand_with)))(ab:isFn K (.ref fhand_with)=true)(Fhand_with:Fun K "hand_with" "Doors.hand_with" du fhand_with dhand_with)
 (J:findIn K (.ref C) "next_behind" = some (some (.ref fnext_behind)))(L:isFn K (.ref fnext_behind)=true)(Fnext_behind:Fun K "next_behind" "Doors.next_behind" aY fnext_behind dnext_behind)
 (pg:plainGet K C Str.empty=true)(hd:hasDictIn K C=true)(po:plainOver K C=true)(sa:findIn K (.ref C) "__setattr__" = some (some (.builtin "object.__setattr__")))(mk:makesIn K C=true)(kc:keepIn K (.ref C)=true)
 (n1:findIn K (.ref C) "at_first" = some none)(n2:findIn K (.ref C) "wants" = some none)(n3:findIn K (.ref C) "changes" = some none)
 (as:nsIn K mainGlobals "require_small" = some (some (.ref fs9)))(Fs:FunD K "require_small" "require_small" cv Ts9 fs9 ds9)(ts:K.lookup Ts9=some ⟨ots9,ods9,.seq #[.int 12 tk9] ns9,sls9⟩)
 (ah:nsIn K mainGlobals "house_of_one" = some (some (.ref fh9)))(lh:K.lookup fh9=some ⟨och9,odh9,.func (fnOf "house_of_one" "house_of_one" (eO aT) (bq aT) (ak aT) .none kVh9 dch9 pmh9 anh9 (.ref ch9) cth9),slh9⟩)(a3:codeIn K (.ref ch9) "house_of_one" = true)(kh:keepIn K (.ref fh9)=true)(lc:K.lookup ch9=some ⟨occ9,odc9,.fields vc9,slc9⟩)(hv:vc9[11]?=some (.ref Pt))(nP:K.lookup Pt=none)
 (al:nsIn K mainGlobals "law" = some (some (.ref fl9)))(Fl:Fun K "law" "law" ag1 fl9 dl9)(bl:∀(s:Shared) (v:Value),BindsTo s dl9 ⟨[v],[]⟩ [("script",v)])
 (ae:nsIn K mainGlobals "LETTERS" = some (some (.str lettersS t_LETTERS)))
 (B:nsIn K mainGlobals "MOST_LETTERS" = some (some (.int 4 t_MOST_LETTERS)))
 (O:nsIn K mainGlobals "MOST_LOCKS" = some (some (.int 4 t_MOST_LOCKS)))
 (z:nsIn K mainGlobals "MOST_ROOMS_COMPARED" = some (some (.int 8 t_MOST_ROOMS_COMPARED)))
 (S:nsIn K mainGlobals "isinstance" = some none)
 (au:nsIn K mainGlobals "str" = some none)
 (av:nsIn K mainGlobals "len" = some none)
 (aw:nsIn K mainGlobals "all" = some none)
 (an:nsIn K mainGlobals "list" = some none)
 (ai:nsIn K mainGlobals "tuple" = some none)
 (af:nsIn K mainGlobals "sorted" = some none)
 (aj:nsIn K mainGlobals "range" = some none)
 (ax:nsIn K mainGlobals "min" = some none)
 (ay:nsIn K mainGlobals "max" = some none)
 (aA:nsIn K mainGlobals "set" = some none)
 (aB:nsIn K mainGlobals "int" = some none)
 (Z:nsIn K mainGlobals "enumerate" = some none)
 (ao:nsIn K mainGlobals "bool" = some none)
 (ac:nsIn K mainGlobals "reversed" = some none)
 (aD:nsIn K mainGlobals "sum" = some none)
 (ap:nsIn K mainGlobals "dict" = some none)
 (aE:nsIn K mainGlobals "zip" = some none)
 : ∃(c Pt:Addr) (fd:FuncData),tabIn K "house_of_one" = some (c,Pt)/\K.lookup Pt=none/\(∀(s:Shared) (v:Value),BindsTo s fd ⟨[v],[]⟩ [("script",v)])/\∀base:Heap,K.In base->base.Ns mainGlobals mg->CodeHd base c Pt->base.BuiltinsAt mg Pt->bx l.prog w K mg base CX0 10 fa fd ["script"] (ach K Pt):=by
 have e:=a0.symm.trans (ajN X G al);cases e;have iZ:=nN.c1 (p0 := "thing") X G λ_ _ _ _ _ _ _=>rfl;have kg:=oh.c1 (p0 := "thing") X G λ_ _ _ _ _ _ _=>rfl;have vG:=oS.c1 (p0 := "thing") X G λ_ _ _ _ _ _ _=>rfl;have zF:=uA.c1 (p0 := "thing") X G λ_ _ _ _ _ _ _=>rfl;have yx:=qq.c1 (p0 := "thing") X G λ_ _ _ _ _ _ _=>rfl;have az:=i5.c1 (p0 := "thing") X G λ_ _ _ _ _ _ _=>rfl;have jf:=qG.c1 (p0 := "house") X G λ_ _ _ _ _ _ _=>rfl;have f9:=iX.c1 (p0 := "house") X G λ_ _ _ _ _ _ _=>rfl;have cj:=oB.c2 (p0 := "opened") (p1 := "number") X G λ_ _ _ _ _ _ _ _=>rfl;have fz:=qe.c2 (p0 := "opened") (p1 := "number") X G λ_ _ _ _ _ _ _ _=>rfl;have eI:=mG.c1 (p0 := "house") X G λ_ _ _ _ _ _ _=>rfl;have mh:=qv.c1 (p0 := "opened") X G λ_ _ _ _ _ _ _=>rfl;have bp:=qd.c1 (p0 := "house") X G λ_ _ _ _ _ _ _=>rfl;have cB:=gw.c1 (p0 := "house") X G λ_ _ _ _ _ _ _=>rfl;have dh:=gk.c3 (p0 := "house") (p1 := "first") (p2 := "other") X G λ_ _ _ _ _ _ _ _ _=>rfl;have gq:=mM.c3 (p0 := "house") (p1 := "first") (p2 := "other") X G λ_ _ _ _ _ _ _ _ _=>rfl;have cN:=g0.c1 (p0 := "house") X G λ_ _ _ _ _ _ _=>rfl;have bC:=kD.c2 (p0 := "one") (p1 := "other") X G λ_ _ _ _ _ _ _ _=>rfl;have gp:=mD.c1 (p0 := "house") X G λ_ _ _ _ _ _ _=>rfl;have i7:=ua.c2 (p0 := "steps") (p1 := "whole") X G λ_ _ _ _ _ _ _ _=>rfl;have oX:=u9.c1 (p0 := "steps") X G λ_ _ _ _ _ _ _=>rfl;have cO:=ie.c1 (p0 := "house") X G λ_ _ _ _ _ _ _=>rfl;have dc:=iQ.c1 (p0 := "house") X G λ_ _ _ _ _ _ _=>rfl;have j9:=pO.c2 (p0 := "script") (p1 := "k") X G λ_ _ _ _ _ _ _ _=>rfl;have aJ:=jX.c2 (p0 := "pool") (p1 := "many") X G λ_ _ _ _ _ _ _ _=>rfl;have di:=mP.c2 (p0 := "pool") (p1 := "many") X G λ_ _ _ _ _ _ _ _=>rfl;have dI:=oU.c3 (p0 := "pool") (p1 := "kinds") (p2 := "many") X G λ_ _ _ _ _ _ _ _ _=>rfl;have jm:=qh.c2 (p0 := "pool") (p1 := "most") X G λ_ _ _ _ _ _ _ _=>rfl;have kL:=uy.c2 (p0 := "house") (p1 := "names") X G λ_ _ _ _ _ _ _ _=>rfl;have gA:=mJ.c2 (p0 := "pool") (p1 := "house") X G λ_ _ _ _ _ _ _ _=>rfl;have aF:=Finit.binds (ps:=["self","house"]) λ_ _ _ _ _ _ us hl=>match us,hl with | [_,_],_=>rfl
 have ad:=Fhand_with.binds (ps:=["self","hand","number"]) λ_ _ _ _ _ _ us hl=>match us,hl with | [_,_,_],_=>rfl
 have Y:=Fnext_behind.binds (ps:=["self","opened","hand"]) λ_ _ _ _ _ _ us hl=>match us,hl with | [_,_,_],_=>rfl
 have yR:=ajN X G ae;have pG:=ajN X G B;have sH:=ajN X G O;have cw:=ajN X G z;have je:=aiE X G S;have a8:=aiE X G au;have eV:=aiE X G av;have uc:=aiE X G aw;have fD:=aiE X G an;have aN:=aiE X G ai;have aI:=aiE X G af;have gj:=aiE X G aj;have a9:=aiE X G ax;have ba:=aiE X G ay;have aP:=aiE X G aA;have bb:=aiE X G aB;have bU:=aiE X G Z;have cT:=aiE X G ao;have lV:=aiE X G ac;have yJ:=aiE X G aD;have zO:=aiE X G ap;have rQ:=aiE X G aE;have bS:=yK Fs ts;have mS:=ajN X G as;have gc:Cal K mg "require_small" ["thing","most"] fs9 ds9:=⟨mS,Fs.kp,vq Fs ts⟩;have jO:=fun_mk (st:=aT) lh a3 kh;have gF:Cal K mg "house_of_one" ["house","first","other"] fh9 _:=⟨ajN X G ah,kh,jO.binds λ_ _ _ _ _ _ us hl=>match us,hl with | [_,_,_],_=>rfl⟩;refine⟨ch9,Pt,dl9,afU ah lh rfl lc hv,nP,bl,λbase _ _ C0 B0=>?_⟩;have DC:tX K C:=⟨⟨pg,hd,po,sa⟩,n1,n2,n3⟩;have Gl:Glb mg:=⟨je,a8,eV,uc,⟨_,yR⟩,⟨_,pG⟩⟩;have GI:=abh (P:=l.prog) (w:=w) (base:=base) nN.F Gl;have GK:=acV (P:=l.prog) (w:=w) (base:=base) oh.F nN.F iZ Gl fD;have GL:=ab7 oS.F GK kg eV aI ⟨_,sH⟩;have GR:=aeZ uA.F GL vG GK kg je eV aN;have GH:=acg qq.F GR zF GK kg je eV aN fD uc;have GQ:=af1 i5.F GH yx;have GC:=yZ iX.F GQ az fD aI aP;have GS:=adg Fs GQ az eV;have G2:=afs gk.F GI iZ GC f9;have GW:=ad3 (P:=l.prog) (w:=w) (mg:=mg) (base:=base) oB.F;have GA:=afn (P:=l.prog) (w:=w) (mg:=mg) (base:=base) qe.F;have D1:=acF (P:=l.prog) (w:=w) (mg:=mg) (base:=base) Finit DC aI bU;have D2:=acJ (P:=l.prog) (w:=w) (mg:=mg) (base:=base) Fhand_with DC fD;have D3:=ac5 Fnext_behind DC GA fz bU uc;have GT:=adf qd.F DC ⟨pg,hd,po,sa⟩ ⟨mk,aq,ar,kc⟩ (ajN X G aC) D1 aF ⟨J,L,Fnext_behind.kp⟩ D3 Y ⟨aa,ab,Fhand_with.kp⟩ D2 ad GW cj;have GO:=agc (P:=l.prog) (w:=w) jO rfl C0 B0 aI;have GM:=aaV mM.F GS gc G2 dh GT bp GO gF cw;have SA:=aeG (P:=l.prog) (w:=w) (mg:=mg) (base:=base) mG.F eV;have E1:=aeJ ua.F GW cj fD lV yJ;have E2:=ad1 u9.F GW cj;have E3:=ae5 ie.F GS mS Fs.kp bS GT bp SA eI E1 i7;have E4:=acT iQ.F GS mS Fs.kp bS GT bp E2 oX yJ;have R1:=acq qv.F GA fz gj;have R2:=abq mD.F GS mS Fs.kp bS GT bp R1 mh aI;have WN:=yY gw.F GQ az fD;have P1:=zw (P:=l.prog) (w:=w) (mg:=mg) (base:=base) g0.F bU;have P2:=aat kD.F GQ az P1 cN aI rQ;have P3:=acG qG.F GQ az uc eV;have L1:=aeF (P:=l.prog) (w:=w) (mg:=mg) (base:=base) pO.F eV;have L2:=aaz (P:=l.prog) (w:=w) (mg:=mg) (base:=base) jX.F;have L3:=aep mP.F L2 aJ gj eV;have L4:=aeY (P:=l.prog) (w:=w) (base:=base) oU.F jX.F aJ gj eV;have L9:=adp qh.F L2 aJ L3 di L4 dI bb gj eV aI;have BY:=ag3 (P:=l.prog) (w:=w) (mg:=mg) (base:=base) uy.F aI;have LN:=abQ mJ.F L3 di fD aI aP zO rQ eV;exact agd Fl L1 j9 L9 jm BY kL LN gA P2 bC P3 jf E3 cO E4 dc R2 gp GM gq WN cB gj ba a9 eV aI rQ
theorem walk{l:PySem.W.OpenLaw}{q:Program}{B:List Str}{Y:(Str->Option Value)->Heap->Prop}{O:World->Heap->Prop}{d Z:DefRec}{K:Params->PySem.W.Frag}(hn:l.most=some 63)(L:d.params.defaults=[])
 (hY:∀(w:World) (h:Heap),O w h->(K w.params).In h)(J:(recsOf q).find? (λe=>e.name==("house_of_one" : Str))=some Z)
 (F:∀(w:World) (mg:Str->Option Value) (S:Addr) (h:Heap),(K w.params).In h->h.Ns mainGlobals mg->mg d.name=some (.ref S) →
  ∃(c Pt:Addr) (fd:FuncData),tabIn (K w.params) "house_of_one" = some (c,Pt)/\(K w.params).lookup Pt=none/\(∀(s:Shared) (u:Value),BindsTo s fd ⟨[u],[]⟩ [("script",u)])/\∀base:Heap,(K w.params).In base->base.Ns mainGlobals mg->CodeHd base c Pt->base.BuiltinsAt mg Pt->bx l.prog w (K w.params) mg base CX0 10 S fd ["script"] (ach (K w.params) Pt)):
 PySem.W.WalkO q B Y O l.row.toRowW d [] (λf vs=>PySem.call f vs):=
 L2.walk_ofN (n:=63) (k:=10) (x := "script") (xN := "house_of_one") (CX:=CX0) (sp:=ach) hn (by decide) L ⟨rfl,by decide,by decide⟩ hY J F (λK Pt H a ns hl hO hS=>⟨a,ns,rfl,hS,hl,.no #[] hO.1 True.intro rfl,λ_=>rfl⟩) λ_ _ _ _ z=>z
end K7
namespace PySem.W.Fast
def tw10133452403250707980:=0
def tw10332902878641656465:=0
def tw10341821376102067295:=0
def tw10547603595342367197:=0
def tw10702800791139482346:=0
def tw10706909609821526821:=0
def tw10934987229273866864:=0
def tw10964983594906805889:=0
def tw11275180536777453988:=0
def tw11285847585430560612:=0
def tw11290031984650982298:=0
def tw11331594305898690988:=0
def tw11347465591344213154:=0
def tw11402168329097465699:=0
def tw1147558386574000484:=0
def tw11542137793991722080:=0
def tw11665004623519460487:=0
def tw11816172634076782666:=0
def tw11863521375906536070:=0
def tw11954966812725861152:=0
def tw1198902274064072142:=0
def tw12072362317234401750:=0
def tw12085020724757749482:=0
def tw12186426065929223508:=0
def tw1243225938661484182:=0
def tw12479380119403240854:=0
def tw12502148849960261292:=0
def tw12530897754584310513:=0
def tw12608991556078345734:=0
def tw12803452736692802988:=0
def tw12908899974200625675:=0
def tw1297993194517919380:=0
def tw13025781000877519666:=0
def tw13448268812816958946:=0
def tw13608933675228871148:=0
def tw13700830335172567562:=0
def tw13712822646678718149:=0
def tw13731680746635262330:=0
def tw14059563440679500726:=0
def tw14134441454761842653:=0
def tw14375851483311972143:=0
def tw1438960583965813113:=0
def tw14413796826765908213:=0
def tw14536792765881638203:=0
def tw14557743352722143893:=0
def tw14595453212982097700:=0
def tw14653196274672523118:=0
def tw14683855663515780522:=0
def tw14687407725984361638:=0
def tw14692101138617257181:=0
def tw14695153905845789454:=0
def tw1471425182750850460:=0
def tw14890727903259265095:=0
def tw15220173401643378125:=0
def tw15271420478299598836:=0
def tw15276304365627265644:=0
def tw15281618063363948115:=0
def tw1532234769118859397:=0
def tw15385070967653572602:=0
def tw15387122521792926895:=0
def tw15431272636015645529:=0
def tw15438050441028085516:=0
def tw15511042212004746577:=0
def tw15586308105795135712:=0
def tw15652103330404954033:=0
def tw15762886463448985479:=0
def tw15785110250953134845:=0
def tw15794954495891883138:=0
def tw15824830867324283169:=0
def tw15846416840093074855:=0
def tw15899270136265607668:=0
def tw15952869031592133914:=0
def tw16018663240144071687:=0
def tw16103362443090023483:=0
def tw16131380907139768852:=0
def tw16186017584079176715:=0
def tw16235465168451354625:=0
def tw16335158969974635254:=0
def tw16438359201851406073:=0
def tw16439166275061257934:=0
def tw16672787809966039514:=0
def tw166877243188675587:=0
def tw16729702403403006951:=0
def tw16738258475203508353:=0
def tw16805721595778869055:=0
def tw16812795381709361474:=0
def tw16832444821134210069:=0
def tw16924689873734548566:=0
def tw16980125815643727798:=0
def tw17129826949632621703:=0
def tw1737060431473732317:=0
def tw17570168469156011842:=0
def tw17653366650391731741:=0
def tw17718305426019568203:=0
def tw17731384800129667869:=0
def tw17766215015062513099:=0
def tw17778165656274789220:=0
def tw17783725031576134148:=0
def tw17868551965720990809:=0
def tw17899482466043370138:=0
def tw180991480535253723:=0
def tw18350640501555949087:=0
def tw1877192495573980284:=0
def tw1951963515082578864:=0
def tw2039753243587716445:=0
def tw2060441164658622121:=0
def tw217683276521712052:=0
def tw2203177963004023062:=0
def tw2246671088155339949:=0
def tw2459932827659512668:=0
def tw2530903486420648159:=0
def tw2603448842545220262:=0
def tw2624986672620148574:=0
def tw2694800584280502297:=0
def tw2739498029452457571:=0
def tw2752102540715420320:=0
def tw2897219676372395196:=0
def tw2897544340099091462:=0
def tw2972246405030456697:=0
def tw3015302268172572937:=0
def tw3092483743369427261:=0
def tw3432479655845307717:=0
def tw344767750158928924:=0
def tw3624591559128214357:=0
def tw366097443074409669:=0
def tw367111273472938452:=0
def tw3800589942017353230:=0
def tw3879728814824972979:=0
def tw3958515202383388489:=0
def tw3963797871088975491:=0
def tw4179913928448874676:=0
def tw4362128507111691575:=0
def tw4362854047422524498:=0
def tw481244828762002761:=0
def tw4865570580117748404:=0
def tw4899132749437402229:=0
def tw4905674182507965377:=0
def tw4985726066094607458:=0
def tw4988982415395431042:=0
def tw5101541602761428291:=0
def tw5137657247497585882:=0
def tw5331136866177535941:=0
def tw5378836299237001589:=0
def tw5383772044307934325:=0
def tw5423053321386003298:=0
def tw5858532810322869992:=0
def tw5920423165289340711:=0
def tw5989647831147811331:=0
def tw6040468526537898453:=0
def tw6109017857478227657:=0
def tw6127534734252948576:=0
def tw6298762614175664025:=0
def tw6314516756853776216:=0
def tw6429935370347270101:=0
def tw6450722747001190110:=0
def tw6543780497251401555:=0
def tw6906026116946107549:=0
def tw6909474279492391759:=0
def tw6921906583522398359:=0
def tw6969489849780518183:=0
def tw6980107896173159712:=0
def tw6996524162183115434:=0
def tw7012658158729312661:=0
def tw7188087718125499711:=0
def tw7232553775919439563:=0
def tw7302014650163134995:=0
def tw7887006608893649856:=0
def tw7973008983086093251:=0
def tw8066191393661441944:=0
def tw8081857089496227162:=0
def tw8098861973199477313:=0
def tw82323258278066069:=0
def tw8287382297636016953:=0
def tw8322488592344597172:=0
def tw8341714603741810956:=0
def tw8358613011766588672:=0
def tw8384176717062203511:=0
def tw8478886187030567705:=0
def tw8537458660679282553:=0
def tw8540923891987527540:=0
def tw8551224935174689263:=0
def tw8572518739371822492:=0
def tw8633853570591847805:=0
def tw8641435617803075826:=0
def tw8658468908856928565:=0
def tw8679872721984055823:=0
def tw868764644415353251:=0
def tw8802443057952898674:=0
def tw8834435159235313741:=0
def tw8880890036970534416:=0
def tw8898396604816248877:=0
def tw8964986696364204010:=0
def tw9018683871891221471:=0
def tw9099692259153006001:=0
def tw9192437425516774402:=0
def tw9215901040263103429:=0
def tw9261120199686965141:=0
def tw9281988240910883045:=0
def tw9325455184254547204:=0
def tw9386983964330754080:=0
def tw948218900655336280:=0
def tw9611222572240145050:=0
def tw974648939074268380:=0
def tw9887648847450597230:=0
def tw9895623601641001293:=0
def tw9952699001551230216:=0
def tw9987515901740477530:=0
end PySem.W.Fast
open PySem PySem.W PyProof.Rows
set_option maxRecDepth 100000 in
set_option maxHeartbeats 0 in
theorem PySem.Challenge.cw_keyrooms_k49_whole_names_and_orders_holds : PySem.Challenge.rw_keyrooms_k49_whole_names_and_orders.Holds := by
  w_on; o_law; k_head; (case hw => w_witness2)
  k_fill
  refine K7.walk (l := PySem.Challenge.rw_keyrooms_k49_whole_names_and_orders) rfl rfl (fun w h Y => PySem.W.km_in_of Y) rfl ?F
  case F =>
    intro w mg fa h KX G hmg
    refine' K7.all_mk KX G hmg ⟨_,L2.fun_mk _ _ _⟩ ⟨_,L2.fun_mk _ _ _⟩ ⟨_,L2.fun_mk _ _ _⟩ ⟨_,L2.fun_mk _ _ _⟩ ⟨_,L2.fun_mk _ _ _⟩ ⟨_,L2.fun_mk _ _ _⟩ ⟨_,L2.fun_mk _ _ _⟩ ⟨_,L2.fun_mk _ _ _⟩ ⟨_,L2.fun_mk _ _ _⟩ ⟨_,L2.fun_mk _ _ _⟩ ⟨_,L2.fun_mk _ _ _⟩ ⟨_,L2.fun_mk _ _ _⟩ ⟨_,L2.fun_mk _ _ _⟩ ⟨_,L2.fun_mk _ _ _⟩ ⟨_,L2.fun_mk _ _ _⟩ ⟨_,L2.fun_mk _ _ _⟩ ⟨_,L2.fun_mk _ _ _⟩ ⟨_,L2.fun_mk _ _ _⟩ ⟨_,L2.fun_mk _ _ _⟩ ⟨_,L2.fun_mk _ _ _⟩ ⟨_,L2.fun_mk _ _ _⟩ ⟨_,L2.fun_mk _ _ _⟩ ⟨_,L2.fun_mk _ _ _⟩ ⟨_,L2.fun_mk _ _ _⟩ ⟨_,L2.fun_mk _ _ _⟩ ⟨_,L2.fun_mk _ _ _⟩ ⟨_,L2.fun_mk _ _ _⟩ ⟨_,L2.fun_mk _ _ _⟩ ⟨_,L2.fun_mk _ _ _⟩ ⟨_,L2.fun_mk _ _ _⟩ _ _ _ (L2.fun_mk _ _ _) _ _ (L2.fun_mk _ _ _) _ _ (L2.fun_mk _ _ _) _ _ _ _ _ _ _ _ _ _ (K7.fund_mk _ _ _) _ _ _ _ _ _ ?hv ?nP _ (L2.fun_mk _ _ _) ?bl _ _ _ _ _ _ _ _ _ _ _ _ _ _ _ _ _ _ _ _ _ _
    (case bl => exact fun s v => .of_eq rfl)
    any_goals k_is
    (case hv => rfl)
    (case nP => first | k_is | kernel_rfl | rfl | decide)
