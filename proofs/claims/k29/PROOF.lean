import PyProof.Rows.All
import Wide.All
import OpenK.AllK
import Wide.FinOn
import Lean
import PyProof.EqAt
import PyProof.EqKinds
import PyProof.TupleCall
import PyProof.StationsW
import PyProof.ExcClass3
import PyProof.RulesTry
import PyProof.RulesAs
import PyProof.NsDelKeeps
import PyProof.ExcArgsOwn
import PyProof.ExcInit
import PyProof.Rows.SetFrom
import PyProof.SetRoads
import KE.KDictSum
import PyProof.DictCompW
import KE.KEqDict
import KE.KxText
import PyProof.WalksEnum
import PyProof.EnumMake
import KE.KDictLaws
import PyProof.ReprBulk
import PyProof.Rows.ReprShort
import KE.KRevSl
import PyProof.Rows.StrRev
import PyProof.Rows.StrSplitMax
import KE.KIntText
import PyProof.AttrMissHeap
import KE.KDictOf
import PyProof.ZipIter
import PyProof.ListRange
import PyProof.P3In
import PyProof.DictItems
import PyProof.FString5
import PyProof.Rows.SortStr
import KE.BitLaws
import PyProof.DictValues
import PyProof.DictWalks
import KE.KUnpackStar
import PyProof.Rows.StrNews2
import PyProof.Rows.StrItems
import KE.KSortAsk
import PyProof.NeKinds
import KE.KIsAll
import PySem.Challenge.RW_keyrooms_k29_whole_orders_of_twelve
set_option Elab.async false
set_option linter.all false
set_option maxRecDepth 100000
set_option maxHeartbeats 4000000
open PySem.W (instObj methodObj hideAll lookIn plainGet hasDictIn findIn handedIn isFn plainOver takerIn makesIn emptyDict keepIn kitOne kitx_list kitx_dict fnOf codeIn nsOkIn tailIn nsIn)
def aeh:=@List.getElem?_eq_getElem
def aei:=@PySem.wpAny_bind
def aej:=@List.length_map
def aek:=@List.getElem?_eq_some_iff
def ael:=@PySem.Heap.get?_push_of_some
def aem:=@Bool.false_ne_true
def aen:=@PySem.wpAny_pure
def aeo:=@List.length_append
def aep:=@Nat.le_refl
def aeq:=@List.mem_singleton
def aer:=@List.getElem?_map
def aes:=@PySem.Heap.lt_size
def aet:=@List.append_assoc
def aeu:=@List.mem_cons
def aev:=@List.mem_cons_self
def aew:=@List.mem_append
def aex:=@List.mem_append_right
def aey:=@List.mem_of_getElem?
def aez:=@PyProof.Rows.wpS_bind
def aeA:=@Nat.ne_of_lt
def aeB:=@Nat.lt_of_lt_of_le
def aeC:=@List.mem_cons_of_mem
def aeD:=@List.map_append
def aeE:=@Array.length_toList
def aeF:=@PySem.Heap.get?_push_size
def aeG:=@List.map_cons
def aeH:=@List.size_toArray
def aeI:=@PyProof.Rows.wpS_pure
def aeJ:=@List.getElem?_append_right
def aeK:=@List.length_take
def aeL:=@List.mem_map
def aeM:=@Nat.zero_le
def aeN:=@Nat.le_trans
def aeO:=@decide_eq_false
def aeP:=@decide_eq_true
def aeQ:=@List.getElem?_append_left
def aeR:=@beq_iff_eq
def aeS:=@List.getElem_mem
def aeT:=@List.take_add_one
def aeU:=@List.length_cons
def aeV:=@PySem.wpAny_mono
def aeW:=@PySem.F.plainAttrs_list
def aeX:=@PySem.PassesOwn.never
def aeY:=@Int.toNat_natCast
def aeZ:=@List.map_map
def ae0:=@List.take_length
def ae1:=@List.all_eq_true
def ae2:=@Bool.and_eq_true
def ae3:=@List.getD_eq_getElem?_getD
def ae4:=@Bool.false_eq_true
def ae5:=@PySem.W.mg_none_of
def ae6:=@List.append_nil
def ae7:=@List.length_singleton
def ae8:=@Array.getElem?_toList
def ae9:=@List.take_append_drop
def afa:=@List.pairwise_cons
def afb:=@List.not_mem_nil
def afc:=@List.pairwise_append
def afd:=@PySem.wpAny_holding
def afe:=@PySem.Heap.size_push
def aff:=@Nat.lt_succ_of_lt
def afg:=@Option.some.inj
def afh:=@Nat.le_succ
def afi:=@List.filter_cons
def afj:=@List.mem_filter
def afk:=@PySem.wpAny_loadPart'
def afl:=@List.filter_append
def afm:=@List.take_of_length_le
def afn:=@Nat.lt_irrefl
def afo:=@List.mem_of_mem_take
def afp:=@PyProof.Rows.callWith_type1
def afq:=@List.length_replicate
def afr:=@PyProof.Rows.wpS_forRange
def afs:=@List.length_drop
def aft:=@List.take_append_of_le_length
def afu:=@PySem.wpAny_truthy_bool
def afv:=@List.length_range
def afw:=@PySem.boot_len
def afx:=@List.getElem?_of_mem
def afy:=@congrArg
def afz:=@PySem.wpAny_standAt
def afA:=@Nat.lt_of_le_of_lt
def afB:=@List.mem_map_of_mem
def afC:=@List.mem_of_mem_drop
def afD:=@decide_eq_true_iff
def afE:=@PySem.W.kia_one
def afF:=@List.nodup_cons
def afG:=@List.extract_eq_take_drop
def afH:=@List.drop_zero
def afI:=@List.replicate_succ
def afJ:=@PySem.wpAny_newObj_type
def afK:=@List.nodup_append
def afL:=@of_decide_eq_true
def afM:=@PySem.F.slot_list_append
def afN:=@PySem.F.type_list_append
def afO:=@Ne.symm
def afP:=@Bool.eq_iff_iff
def afQ:=@PySem.F.slot_list_count
def afR:=@PySem.F.type_list_count
def afS:=@PySem.Around.under_plainId
def afT:=@List.lookup_cons
def afU:=@PySem.wpAny_call_entry
def afV:=@Array.getElem?_eq_some_iff
def afW:=@PySem.Heap.get?_update_other
def afX:=@List.flatten_cons
def afY:=@PySem.wpAny_rule
def afZ:=@List.mem_range
def af0:=@List.drop_eq_getElem_cons
def af1:=@Nat.le_of_lt
def af2:=@PySem.Heap.get?_update_self
def af3:=@List.getElem?_eq_none
def af4:=@List.length_filter_le
def af5:=@PySem.wpAny_comprehension_free
def af6:=@List.getElem?_take
def af7:=@PySem.sizeLine_eq
def af8:=@Nat.lt_succ_self
def af9:=@decide_eq_decide
def aga:=@List.count_eq_zero_of_not_mem
def agb:=@PySem.W.hideAll_none
def agc:=@Array.toList_extract
def agd:=@PySem.W.mg_of
def age:=@decide_eq_true_eq
def agf:=@bne_self_eq_false
def agg:=@List.count_append
def agh:=@List.filterMap_cons
def agi:=@PySem.codeAny_builtin
def agj:=@List.map_congr_left
def agk:=@List.range_succ
def agl:=@List.getElem?_set_self
def agm:=@List.Perm.append_right
def agn:=@List.flatten_singleton
def ago:=@Array.perm_iff_toList_perm
def agp:=@beq_self_eq_true
def agq:=@PySem.Heap.size_update
def agr:=@PySem.codeAny_mono
def ags:=@PyProof.Rows.wpS_mono
def agt:=@List.Perm.append_left
def agu:=@PySem.Calls.call_function_entry
def agv:=@List.pairwise_iff_getElem
def agw:=@Nat.pow_le_pow_right
def agx:=@PySem.wpAny_passesOwn
def agy:=@List.getElem?_take_of_lt
def agz:=@List.foldl_cons
def agA:=@PySem.wpAny_setState_of
def agB:=@List.ext_getElem?
def agC:=@PyProof.Rows.KeyOrd.kle_refl
def agD:=@Nat.min_eq_left
def agE:=@PySem.Heap.get?_push_ne
def agF:=@beq_eq_false_iff_ne
def agG:=@PySem.W.hideAll_get
def agH:=@PySem.mem_of_lookup
def agI:=@List.getElem?_replicate
def agJ:=@if_false
def agK:=@Nat.add_le_add_left
def agL:=@List.eraseIdx_cons_succ
def agM:=@PySem.Heap.SameBut.update
def agN:=@List.getElem?_cons_succ
def agO:=@List.length_reverse
def agP:=@PyProof.Rows.boot_sorted
def agQ:=@List.flatten_append
def agR:=@PySem.wpAny_askSetting
def agS:=@PyProof.Rows.KeyOrd.kle_trans
def agT:=@List.eq_nil_of_length_eq_zero
def agU:=@PyProof.Rows.wpS_modify
def agV:=@List.take_zero
def agW:=@List.drop_of_length_le
def agX:=@PySem.wpAny_Call_Name_kw
def agY:=@List.getElem?_drop
def agZ:=@Nat.ne_of_gt
def ag0:=@List.nil_append
def ag1:=@List.find?_cons
def ag2:=@List.all_map
def ag3:=@PySem.F.called_set
def ag4:=@List.perm_append_comm
def ag5:=@PySem.plainId_quiet
def ag6:=@PySem.wpAny_newList
def ag7:=@PyProof.Rows.KeyOrd.kle_of_klt
def ag8:=@List.foldl_append
def ag9:=@List.filter_congr
def aha:=@List.getElem?_set_ne
def ahb:=@PySem.wpAny_newFunctionEnv
def ahc:=@List.mem_iff_getElem
def ahd:=@List.drop_drop
def ahe:=@List.any_eq_true
def ahf:=@PySem.F.slot_dict_itemiterator_iter
def ahg:=@Nat.sub_self
def ahh:=@PySem.W.of_hideAll
def ahi:=@PySem.wpAny_execs_nil
def ahj:=@PySem.W.callWith_K
def ahk:=@List.any_cons
def ahl:=@List.length_nil
def ahm:=@List.length_eq_zero_iff
def ahn:=@PySem.Obj.data_mapFields
def aho:=@PyProof.Rows.F.plain_set_update_loop
def ahp:=@PyProof.Rows.listUpdate_at
def ahq:=@PySem.codeAny_compStart_list
def ahr:=@List.filter_eq_nil_iff
def ahs:=@PySem.wpAny_pyIter_list
def aht:=@if_true
def ahu:=@Array.toList_push
def ahv:=@PySem.fits_of_scanBound
def ahw:=@List.getElem?_inj
def ahx:=@or_false
def ahy:=@List.take_take
def ahz:=@List.take_left
def ahA:=@Nat.zero_add
def ahB:=@List.eq_nil_or_concat
def ahC:=@List.concat_eq_append
def ahD:=@Nat.le_of_not_lt
def ahE:=@List.cons_append
def ahF:=@Option.getD_some
def ahG:=@PyProof.Rows.wpS_get
def ahH:=@List.drop_append_of_le_length
def ahI:=@List.mem_reverse
def ahJ:=@List.mem_append_left
def ahK:=@List.getElem?_append
def ahL:=@List.replicate_succ'
def ahM:=@PySem.wpAny_AugAssign_SubscriptAny
def ahN:=@PySem.Value.isStrOf_shape
def ahO:=@PySem.W.plainGet_of
def ahP:=@Option.map_some
def ahQ:=@List.forIn_cons
def ahR:=@List.count_cons
def ahS:=@PyProof.Rows.entry_list_sort
def ahT:=@PySem.codeAny_of_tree
def ahU:=@Nat.not_lt_zero
def ahV:=@List.drop_length_add_append
def ahW:=@PyProof.Rows.seqEpoch_at
def ahX:=@Nat.testBit_two_pow_sub_one
def ahY:=@List.filter_map
def ahZ:=@List.take_succ_cons
def ah0:=@List.map_id
def ah2:=@Int.fdiv_eq_ediv_of_nonneg
def ah3:=@List.length_eraseIdx_of_lt
def ah4:=@List.getElem?_take_eq_none
def ah5:=@List.perm_ext_iff_of_nodup
def ah6:=@PySem.F.excBase_ValueError
def ah7:=@List.map_nil
def ah8:=@PySem.tupleKind_room_in1
def ah9:=@Nat.add_zero
def aia:=@Int.emod_lt_of_pos
def aib:=@Int.toNat_zero
def aic:=@PySem.F.plain_extend_loop
def aid:=@List.getElem?_eq_none_iff
def aie:=@PyProof.Rows.slot_list_sort
def aif:=@PyProof.Rows.args_list_sort
def aih:=@Classical.byContradiction
def aii:=@PySem.wpAny_assign_Name
def aij:=@Option.isSome_iff_exists
def aik:=@PySem.slot_list_getitem
def aim:=@PySem.call_meets
def ain:=@Bool.not_eq_true'
def aio:=@PySem.Heap.SameBut.refl
def aip:=@PySem.wpAny_pyIter_slot
def aiq:=@PyProof.Rows.size_push'
def air:=@List.length_erase_of_mem
def ais:=@List.getElem_take
def ait:=@List.getElem_drop
def aiu:=@List.pairwise_map
def aiv:=@PySem.F.slot_list_remove
def aiw:=@PySem.F.type_list_remove
def aix:=@PySem.Paired.length
def aiy:=@List.all_cons
def aiA:=@Option.bind_eq_some_iff
def aiB:=@PySem.F.plain_list_iadd
def aiD:=@Bool.true_and
def aiE:=@PySem.F.slot_dict_items
def aiF:=@PySem.pairTrees_length
def aiG:=@List.nodup_range
def aiH:=@PySem.W.cellsFrom_some
def aiK:=@Array.size_eq_zero_iff
def aiL:=@List.pairwise_lt_range
def aiN:=@Nat.le_of_eq
def aiO:=@PySem.W.methodCall_KW
def aiP:=@List.of_mem_zip
def aiQ:=@PySem.wpAny_tests_nil
def aiR:=@PySem.codeAny_loop
def aiT:=@Bool.or_eq_true
def aiV:=@Array.size_eq_one_iff
def aiX:=@PySem.wpAny_ite_split
def ai2:=@List.Pairwise.sublist
def ai3:=@List.singleton_append
def ai5:=@Nat.min_le_left
def ai7:=@List.mem_of_mem_erase
def ai8:=@Int.emod_nonneg
def ai9:=@PySem.W.tailIn.eq_def
def aja:=@PySem.wpAny_load
def ajm:=@List.nodup_nil
def ajn:=@List.drop_left
def ajq:=@PySem.wpAny_noted
def aju:=@PySem.wpAny_alloc
def akh:=@Nat.succ_mul
namespace L2
open PySem PySem.Spec PyProof.Rows
abbrev Key:=Sum Int Str
def vd:Key->Value->Bool
 | .inl k,v=>Value.isInt k v
 | .inr x,v=>Value.isStrOf x v
def adX (w:World):Key->Int
 | .inl k=>hashInt k
 | .inr x=>hashStr w x
theorem bT:∀ {k:Key} {v:Value},vd k v=true->(∃ i t,k=Sum.inl i/\v=Value.int i t)\/(∃ x t,k=Sum.inr x/\v=Value.str x t)
 | .inl i,v,h=>by
  obtain⟨t,e⟩:=Value.isInt_shape (k:=i) (v:=v) h;exact .inl ⟨i,t,rfl,e⟩
 | .inr x,v,h=>by
  obtain⟨t,e⟩:=ahN (x:=x) (v:=v) h;exact .inr ⟨x,t,rfl,e⟩
theorem wL (i:Int)(t:Tok):vd (.inl i) (.int i t)=true:=by simp [vd,Value.isInt]
theorem wk (x:Str)(t:Tok):vd (.inr x) (.str x t)=true:=by simp [vd,Value.isStrOf]
theorem acG (a b:Int):decide ((Sum.inl a:Key)=Sum.inl b)=(a == b):=by
 by_cases e:a=b
 ·subst e;simp
 ·have h:¬ (Sum.inl a:Key)=Sum.inl b:=fun q=>e (Sum.inl.inj q);rw [aeO h];exact (agF.mpr e).symm
theorem ab5 (a b:Str):decide ((Sum.inr a:Key)=Sum.inr b)=decide (a=b):=by
 by_cases e:a=b
 ·subst e;simp
 ·have h:¬ (Sum.inr a:Key)=Sum.inr b:=fun q=>e (Sum.inr.inj q);rw [aeO h,aeO e]
theorem abU (a:Int)(b:Str):decide ((Sum.inl a:Key)=Sum.inr b)=false:=aeO (fun q=>nomatch q)
theorem aca (a:Str)(b:Int):decide ((Sum.inr a:Key)=Sum.inl b)=false:=aeO (fun q=>nomatch q)
def aX (prog:Program)(w:World):PySem.KeyKind prog w Key where
 is:=vd
 hash:=adX w
 inj:=fun v a b ha hb=>by
  rcases bT ha with ⟨i,t,rfl,rfl⟩ | ⟨x,t,rfl,rfl⟩
  ·rcases bT hb with ⟨j,u,rfl,e⟩ | ⟨y,u,rfl,e⟩
   ·injection e with e1 _;rw [e1]
   ·exact nomatch e
  ·rcases bT hb with ⟨j,u,rfl,e⟩ | ⟨y,u,rfl,e⟩
   ·exact nomatch e
   ·injection e with e1 _;rw [e1]
 byValue:=fun k v h=>by
  rcases bT h with ⟨i,t,rfl,rfl⟩ | ⟨x,t,rfl,rfl⟩<;>rfl
 pyHash:=fun hv h=>by
  rcases bT hv with ⟨i,t,rfl,rfl⟩ | ⟨x,t,rfl,rfl⟩
  ·exact wpAny_pyHash_int h
  ·exact wpAny_pyHash_str h
 eqBool:=fun hu hv h=>by
  rcases bT hu with ⟨i,t,rfl,rfl⟩ | ⟨x,t,rfl,rfl⟩
  ·rcases bT hv with ⟨j,u,rfl,rfl⟩ | ⟨y,u,rfl,rfl⟩
   ·rw [acG] at h;exact wpAny_eqBool_int h
   ·rw [abU] at h;exact SeqAt.EqAt.int_str i t y u _ _ _ _ h
  ·rcases bT hv with ⟨j,u,rfl,rfl⟩ | ⟨y,u,rfl,rfl⟩
   ·rw [aca] at h;exact SeqAt.EqAt.str_int x t j u _ _ _ _ h
   ·rw [ab5] at h;exact wpAny_eqBool_str h
 «strs»:=fun k x t v h=>by
  rcases bT h with ⟨i,u,rfl,e⟩ | ⟨y,u,rfl,e⟩
  ·exact nomatch e
  ·injection e with e1 _
   subst e1;cases v<;>rfl
theorem rH (prog:Program)(w:World)(i:Int)(t:Tok):(aX prog w).is (.inl i) (.int i t)=true:=wL i t
theorem rV (prog:Program)(w:World)(x:Str)(t:Tok):(aX prog w).is (.inr x) (.str x t)=true:=wk x t
inductive V where
 | non | bl (b:Bool) | int (i:Int) | str (x:Str) | byt (b:Array UInt8) | flt (b:UInt64) | ref (a:Addr) | ty (n:String)
 deriving DecidableEq
def RelV:V->Value->Prop
 | .non,u=>u=Value.none
 | .bl b,u=>u=Value.bool b
 | .int i,u=>∃ t,u=Value.int i t
 | .str x,u=>∃ t,u=Value.str x t
 | .byt b,u=>∃ t,u=Value.bytes b t
 | .flt b,u=>∃ t,u=Value.float b t
 | .ref a,u=>u=Value.ref a
 | .ty n,u=>u=Value.type n
abbrev Vals:List V->List Value->Prop:=Paired RelV
theorem Vals.length {xs:List V}{us:List Value}(r:Vals xs us):xs.length=us.length:=aix r
theorem Vals.get:∀ {xs:List V} {us:List Value} {i:Nat} {x:V},Vals xs us->xs[i]? = some x->∃ u,us[i]? = some u/\RelV x u
 | _,_,_,_,.nil,e=>by simp at e
 | _,_,0,_,.cons r _,e=>by simp at e;subst e;exact⟨_,rfl,r⟩
 | _,_,i+1,x,.cons _ t,e=>by
  obtain⟨u,h1,h2⟩:=Vals.get (i:=i) (x:=x) t (by simpa using e);exact⟨u,by simpa using h1,h2⟩
theorem Vals.set {x:V}{u:Value}(r:RelV x u):∀ {xs:List V} {us:List Value} (i:Nat),Vals xs us->Vals (xs.set i x) (us.set i u)
 | _,_,_,.nil=>.nil
 | _,_,0,.cons _ t=>.cons r t
 | _,_,i+1,.cons q t=>.cons q (Vals.set r i t)
theorem Vals.append:∀ {xs ys:List V} {us ws:List Value},Vals xs us->Vals ys ws->Vals (xs++ys) (us++ws)
 | _,_,_,_,.nil,s=>s
 | _,_,_,_,.cons r t,s=>.cons r (Vals.append t s)
theorem Vals.take:∀ {xs:List V} {us:List Value} (n:Nat),Vals xs us->Vals (xs.take n) (us.take n)
 | _,_,0,_=>.nil
 | _,_,_+1,.nil=>.nil
 | _,_,n+1,.cons r t=>.cons r (Vals.take n t)
theorem Vals.drop:∀ {xs:List V} {us:List Value} (n:Nat),Vals xs us->Vals (xs.drop n) (us.drop n)
 | _,_,0,r=>r
 | _,_,_+1,.nil=>.nil
 | _,_,n+1,.cons _ t=>Vals.drop n t
def RelO:Option V->Option Value->Prop
 | some v,some u=>RelV v u
 | none,none=>True
 | _,_=>False
def KV {κ:Type}:List (κ×V)->List (κ×Value)->Prop:=Paired fun (p:κ×V) (q:κ×Value)=>p.1=q.1/\RelV p.2 q.2
def kV:Key->V
 | .inl i=>.int i
 | .inr x=>.str x
inductive HO where
 | lst (xs:List V)
 | tup (xs:List V)
 | dK (kvs:List (Key×V)) | dT (kvs:List (List Key×V))
 | set (S:Int->Bool) (n:Nat)
 | ins (C dx:Addr) (fs:List (Str×V))
 | own (x:Addr)
 | xd (fs:List (Str×V))
 | met (f x:Addr)
 | rng (lo hi:Int)
 | frz (o:Obj) (u:HO)
 | tbl (ps:Array Value)
 | ext (φ:Heap->Prop)
abbrev Hp:=Addr->Option HO
def upd (H:Hp)(a:Addr)(o:HO):Hp:=fun b=>if b=a then some o else H b
theorem af {H:Hp}{a:Addr}{o:HO}:upd H a o a=some o:=by unfold upd;rw [if_pos rfl]
theorem ak {H:Hp}{a b:Addr}{o:HO}(h:b≠a):upd H a o b=H b:=by unfold upd;rw [if_neg h]
theorem xb {H:Hp}{a b:Addr}{o u:HO}(h:H a=some o)(h':H b=some u)(d:o≠u):a≠b:=by
 intro e;subst e;rw [h] at h';exact d (afg h')
theorem ar {H:Hp}{a b:Addr}{o:HO}(h:H a=some o)(h':H b=none):a≠b:=by
 intro e;subst e;rw [h] at h';cases h'
section
variable (P:Program)(w:World)
def ObjOk (H:Hp)(h:Heap)(a:Addr):HO->Prop
 | .lst xs=>xs.length<=sizeLine/\∃ (its:List Value) (n:Nat),Vals xs its/\h.get? a=some { cls:=.type "list",data:=.seq its.toArray n }
 | .tup xs=>xs.length<=sizeLine/\∃ its:List Value,Vals xs its/\IsTup h a its.toArray
 | .dK kvs=>kvs.length<=sizeLine/\(a == sysModules)=false/\∃ vs,KV kvs vs/\h.DictOf (aX P w) a vs
 | .dT kvs=>kvs.length<=sizeLine/\(a == sysModules)=false/\∃ xs:List (List Key×Addr×Value),
  Paired (fun (p:List Key×V) (q:List Key×Addr×Value)=>p.1=q.1/\H q.2.1=some (.tup (p.1.map kV))/\RelV p.2 q.2.2) kvs xs ∧
  ∃ o es ep,h.get? a=some o/\o.ExactDict/\o.data=.dict es ep/\es.toList=xs.map (entryOfKey (tupleKind (aX P w)))/\(xs.map (·.1)).Nodup
 | .set S n=>h.SetOf (intKind P w) a S n
 | .ins C dx fs=>H dx=some (.own a)/\fs.length<=1000/\dx≠a/\h.get? a=some (instObj C dx) ∧
  ∃ mA,h.Ns1 dx mA/\(∀ f,RelO (fs.lookup f) (mA f))/\PySem.Within mA (fs.map (·.1))
 | .own _=>∃ o,h.get? a=some o
 | .xd fs=>∃ mA,h.Ns1 a mA/\∀ f,RelO (fs.lookup f) (mA f)
 | .rng lo hi=>∃ t u v,h.get? a=some { cls:=.type "range",data:=.fields #[.int lo t,.int hi u,.int 1 v] }
 | .frz o u=>h.get? a=some o/\ObjOk H h a u
 | .tbl ps=>h.get? a=some { cls:=.none,data:=.fields ps }
 | .met f x=>h.get? a=some (methodObj (.ref f) (.ref x))
 | .ext φ=>φ h/\(∃ o,h.get? a=some o)/\∀ h1 h2:Heap,φ h1->(∀ o,h1.get? a=some o->h2.get? a=some o)->φ h2
def HOk (H:Hp)(h:Heap):Prop:=∀ a o,H a=some o->ObjOk P w H h a o
end
section
variable {P:Program}{w:World}{H H':Hp}{h h':Heap}{a:Addr}{o:HO}
theorem ObjOk.lt (x:ObjOk P w H h a o):a < h.objs.size:=by
 cases o with
 | lst xs=>obtain⟨_,_,_,_,e⟩:=x;exact aes e
 | tup xs=>obtain⟨_,_,_,p⟩:=x;exact p.lt
 | dK kvs=>obtain⟨_,_,_,_,o,_,_,e,_⟩:=x;exact aes e
 | dT kvs=>obtain⟨_,_,_,_,o,_,_,e,_⟩:=x;exact aes e
 | set S n=>obtain⟨o,_,_,_,e,_⟩:=x;exact aes e
 | ins C dx fs=>obtain⟨_,_,_,e,_⟩:=x;exact aes e
 | own y=>obtain⟨_,e⟩:=x;exact aes e
 | xd fs=>obtain⟨_,⟨_,_,_,e,_⟩,_⟩:=x;exact aes e
 | rng lo hi=>obtain⟨_,_,_,e⟩:=x;exact aes e
 | frz ob u=>obtain⟨e,_⟩:=x;exact aes e
 | tbl ps=>exact aes (show h.get? a=some _ from x)
 | met f y=>exact aes (show h.get? a=some _ from x)
 | ext φ=>obtain⟨_,⟨_,e⟩,_⟩:=x;exact aes e
theorem Paired.mapP {α β:Type}{F G:α->β->Prop}:∀ {l₁:List α} {l₂:List β},Paired F l₁ l₂->(∀ a b,F a b->G a b)->Paired G l₁ l₂
 | _,_,.nil,_=>.nil
 | _,_,.cons r t,f=>.cons (f _ _ r) (Paired.mapP t f)
theorem ObjOk.stay (x:ObjOk P w H h a o)(k:∀ b u,(b=a\/H b=some (.own a))->h.get? b=some u->h'.get? b=some u)
 (ho:∀ b,H b=some (.own a)->H' b=some (.own a))(ht:∀ b xs,H b=some (.tup xs)->H' b=some (.tup xs)):ObjOk P w H' h' a o:=by
 induction o with
 | lst xs=>obtain⟨z,its,n,r,e⟩:=x;exact⟨z,its,n,r,k _ _ (.inl rfl) e⟩
 | tup xs=>obtain⟨z,its,r,ob,e,c⟩:=x;exact⟨z,its,r,ob,k _ _ (.inl rfl) e,c⟩
 | dK kvs=>obtain⟨z,y,vs,r,ob,es,ep,e,c⟩:=x;exact⟨z,y,vs,r,ob,es,ep,k _ _ (.inl rfl) e,c⟩
 | dT kvs =>
  obtain⟨z,y,xs,r,ob,es,ep,e,c⟩:=x;exact⟨z,y,xs,Paired.mapP r fun p q z=>⟨z.1,ht _ _ z.2.1,z.2.2⟩,ob,es,ep,k _ _ (.inl rfl) e,c⟩
 | set S n=>obtain⟨ob,es,ep,t,e,c⟩:=x;exact⟨ob,es,ep,t,k _ _ (.inl rfl) e,c⟩
 | ins C dx fs =>
  obtain⟨d,z,ne,e,mA,⟨od,es,ep,e2,c⟩,r⟩:=x;exact⟨ho _ d,z,ne,k _ _ (.inl rfl) e,mA,⟨od,es,ep,k _ _ (.inr d) e2,c⟩,r⟩
 | own y=>obtain⟨ob,e⟩:=x;exact⟨ob,k _ _ (.inl rfl) e⟩
 | xd fs=>obtain⟨mA,⟨od,es,ep,e,c⟩,r⟩:=x;exact⟨mA,⟨od,es,ep,k _ _ (.inl rfl) e,c⟩,r⟩
 | rng lo hi=>obtain⟨t,u,v,e⟩:=x;exact⟨t,u,v,k _ _ (.inl rfl) e⟩
 | frz ob u ih=>obtain⟨e,q⟩:=x;exact⟨k _ _ (.inl rfl) e,ih q⟩
 | tbl ps =>
  have e:h.get? a=some { cls:=.none,data:=.fields ps }:=x;show h'.get? a=some { cls:=.none,data:=.fields ps };exact k a _ (.inl rfl) e
 | met f y =>
  have e:h.get? a=some (methodObj (.ref f) (.ref y)):=x;show h'.get? a=some (methodObj (.ref f) (.ref y));exact k a _ (.inl rfl) e
 | ext φ=>obtain⟨p,⟨o,e⟩,st⟩:=x;exact⟨st _ _ p fun o q=>k _ _ (.inl rfl) q,⟨o,k _ _ (.inl rfl) e⟩,st⟩
theorem HOk.lt (x:HOk P w H h)(e:H a=some o):a < h.objs.size:=(x a o e).lt
theorem HOk.fresh (x:HOk P w H h)(e:h.objs.size<=a):H a=none:=by
 cases q:H a with
 | none=>rfl
 | some u=>exact absurd (aeB (x.lt q) e) (afn _)
theorem HOk.kept (x:HOk P w H h)(k:∀ b u,h.get? b=some u->h'.get? b=some u):HOk P w H h':=fun a o e =>
 (x a o e).stay (fun b u _ q=>k b u q) (fun _ q=>q) fun _ _ q=>q
theorem HOk.laid (x:HOk P w H h)(k:∀ b u,h.get? b=some u->h'.get? b=some u)(hp:h.objs.size<=a)(new:ObjOk P w (upd H a o) h' a o):HOk P w (upd H a o) h':=fun b u e=>by
 have hn:=x.fresh hp;by_cases hb:b=a
 ·subst hb;rw [af] at e;cases e;exact new
 ·rw [ak hb] at e;exact (x b u e).stay (fun c v _ q=>k c v q) (fun c q=>by rw [ak (ar q hn)];exact q) fun c xs q=>by rw [ak (ar q hn)];exact q
end
def Rd (H:Hp)(a:Addr)(u:HO):Prop:=H a=some u\/∃ o,H a=some (.frz o u)
theorem Rd.ok {P:Program}{w:World}{H:Hp}{h:Heap}{a:Addr}{u:HO}(r:Rd H a u)(x:HOk P w H h):ObjOk P w H h a u:=by
 rcases r with r | ⟨o,r⟩
 ·exact x a u r
 ·obtain⟨_,q⟩:=x a _ r;exact q
def Mut:Option HO->Prop
 | some (.lst _)=>True
 | some (.dK _)=>True
 | some (.dT _)=>True
 | some (.set _ _)=>True
 | some (.ins _ _ _)=>True
 | some (.ext _)=>True
 | _=>False
section
variable {P:Program}{w:World}{H:Hp}{h h':Heap}{x e:Addr}{o':HO}
theorem HOk.write (ok:HOk P w H h)(mu:Mut (H x))(he:e=x\/H e=some (.own x))(k:∀ b u,b≠e->h.get? b=some u->h'.get? b=some u)(heo:∃ u,h'.get? e=some u)
 (new:ObjOk P w (upd H x o') h' x o'):HOk P w (upd H x o') h':=fun b u q=>by
 have nown:∀ c y,H c=some (.own y)->c≠x:=fun c y r z=>by subst z;rw [r] at mu;exact mu
 have ntup:∀ c xs,H c=some (.tup xs)->c≠x:=fun c xs r z=>by subst z;rw [r] at mu;exact mu
 by_cases hb:b=x
 ·subst hb;rw [af] at q;cases q;exact new
 ·rw [ak hb] at q;by_cases hbe:b=e
  ·have q':H b=some (.own x):=by
    rcases he with z | z
    ·exact absurd (hbe.trans z) hb
    ·rw [hbe];exact z
   rw [q] at q';cases q';obtain⟨v,hv⟩:=heo;exact⟨v,by rw [hbe];exact hv⟩
  ·refine (ok b u q).stay (fun c v hc r=>k c v ?_ r) (fun c r=>by rw [ak (nown c b r)];exact r) fun c xs r=>by rw [ak (ntup c xs r)];exact r
   rcases hc with rfl | hc
   ·exact hbe
   ·rintro rfl;rcases he with z | z
    ·exact nown c b hc z
    ·rw [hc] at z;cases z;exact hb rfl
end
structure Un (fs ex:List Addr)(H H':Hp)(h h':Heap):Prop where
 keep:∀ b o,h.get? b=some o->H b=none->b ∉ fs->b ∉ ex->h'.get? b=some o
 slot:∀ b o,h.get? b=some o->H b=none->b∈fs->b ∉ ex->∃ sl,h'.get? b=some { o with slots:=sl }
 free:∀ b o,h.get? b=some o->H b=none->b ∉ ex->H' b=none
 there:∀ b o,h.get? b=some o->b ∉ ex->∃ o',h'.get? b=some o'
 tups:∀ b xs,H b=some (.tup xs)->H' b=some (.tup xs)
 frzs:∀ b o u,H b=some (.frz o u)->H' b=some (.frz o u)
 tbls:∀ b ps,H b=some (.tbl ps)->∃ more,H' b=some (.tbl (ps++more))
section
variable {fs fs' ex ex':List Addr}{H H1 H2:Hp}{h h1 h2 h':Heap}{a x e:Addr}{o:HO}
theorem Un.any (u:Un fs ex H H1 h h1){b:Addr}{ob:Obj}(q:h.get? b=some ob)(n:H b=none)(hx:b ∉ ex):∃ sl,h1.get? b=some { ob with slots:=sl }:=by
 by_cases hb:b∈fs
 ·exact u.slot b ob q n hb hx
 ·exact⟨ob.slots,u.keep b ob q n hb hx⟩
theorem Un.kept (k:∀ b u,h.get? b=some u->h'.get? b=some u):Un fs ex H H h h' :=
 ⟨fun b ob q _ _ _=>k b ob q,fun b ob q _ _ _=>⟨ob.slots,k b ob q⟩,fun _ _ _ n _=>n,fun b ob q _=>⟨ob,k b ob q⟩,fun _ _ q=>q,fun _ _ _ q=>q,fun _ ps q=>⟨#[],by rw [q];simp⟩⟩
theorem Un.refl:Un fs ex H H h h:=Un.kept fun _ _ q=>q
theorem Un.laid (k:∀ b u,h.get? b=some u->h'.get? b=some u)(hp:h.objs.size<=a)(hn:H a=none):Un fs ex H (upd H a o) h h' where
 keep:=fun b u q _ _ _=>k b u q
 slot:=fun b u q _ _ _=>⟨u.slots,k b u q⟩
 free:=fun b u q n _=>by rw [ak (aeA (aeB (aes q) hp))];exact n
 there:=fun b u q _=>⟨u,k b u q⟩
 tups:=fun b xs q=>by rw [ak (ar q hn)];exact q
 frzs:=fun b u xs q=>by rw [ak (ar q hn)];exact q
 tbls:=fun b ps q=>⟨#[],by rw [ak (ar q hn),q];simp⟩
theorem Un.write (mu:Mut (H x))(he:e=x\/H e=some (.own x))(k:∀ b u,b≠e->h.get? b=some u->h'.get? b=some u)(heo:∃ u,h'.get? e=some u):Un fs ex H (upd H x o) h h':=by
 have hx:∀ b,H b=none->b≠x:=fun b n z=>by subst z;rw [n] at mu;exact mu
 have hb:∀ b,H b=none->b≠e:=fun b n z=>by
  subst z;rcases he with r | r
  ·exact hx b n r
  ·rw [n] at r;cases r
 have hm:∀ b u,H b=some u->¬ Mut (some u)->b≠x:=fun b u q nm z=>by subst z;rw [q] at mu;exact nm mu
 refine⟨fun b u q n _ _=>k b u (hb b n) q,fun b u q n _ _=>⟨u.slots,k b u (hb b n) q⟩,fun b u q n _=>by rw [ak (hx b n)];exact n,fun b u q _=>?_,
  fun b xs q=>by rw [ak (hm b _ q fun z=>z)];exact q,fun b u xs q=>by rw [ak (hm b _ q fun z=>z)];exact q,fun b ps q=>⟨#[],by rw [ak (hm b _ q fun z=>z),q];simp⟩⟩
 by_cases hbe:b=e
 ·subst hbe;exact heo
 ·exact⟨u,k b u hbe q⟩
end
def trk (h:Heap)(H:Hp):List Addr:=(List.range h.objs.size).filter fun a=>(H a).isSome
def zy (h:Heap)(H:Hp):Heap:=hideAll h (trk h H)
theorem xi (h:Heap)(H:Hp):(zy h H).objs.size=h.objs.size:=PySem.W.hideAll_size _ _
theorem yJ {h:Heap}{H:Hp}{b:Addr}{o:Obj}(e:h.get? b=some o)(n:H b=none):(zy h H).get? b=some o :=
 agG _ e fun hm=>by
  have q:(H b).isSome=true:=(afj.mp hm).2;rw [n] at q;simp at q
theorem abf {h:Heap}{H:Hp}{b:Addr}{o:Obj}(e:(zy h H).get? b=some o):h.get? b=some o/\H b=none:=by
 have e':h.get? b=some o:=ahh (trk h H) e;refine⟨e',?_⟩;cases q:H b with
 | none=>rfl
 | some x =>
  have hm:b∈trk h H:=afj.mpr ⟨afZ.mpr (aes e'),by simp [q]⟩;have z:(zy h H).get? b=none:=agb (trk h H) hm;rw [z] at e;cases e
def aaI (g h:Heap)(L:Addr):List (Addr×Obj):=(List.range h.objs.size).filterMap fun a=>if a=L\/(g.get? a).isSome=true then none else (h.get? a).map fun o=>(a,o)
def rest (g h:Heap)(L d:Addr):List (Addr×Obj):=(aaI g h L).filter fun p=>decide (p.1≠d)
structure Mod (K:PySem.W.Frag)(mg:Str->Option Value)(base:Heap):Prop where
 kin:K.In base
 glob:base.Ns mainGlobals mg
 blt:∃ mb,base.Ns builtinsNs mb/\∀ x:Str,x ≠ "__name__" → mb x=bootBuiltins x
 nolimit:base.NoLimit
structure Cx where
 prog:Program
 w:World
 K:PySem.W.Frag
 mg:Str->Option Value
 base:Heap
 A:Around
 N:List Str
 s₀:Shared
 H₀:Hp
 env:Env
 outer:List Env
 stack:List Env
 ex:List Addr
 fn:Str->Bool
 calm:Bool
 pn:List (Addr×Obj)
 xe:Value->Shared->Prop
def frs (l:List Env):List Addr:=l.filterMap (·.frame)
abbrev Cx.fs (X:Cx):List Addr:=frs X.outer
def Vis (sc:Scope)(x:Str):Prop:=sc.names.lookup x=some .local\/sc.names.lookup x=some .cell\/sc.names.lookup x=some .free
def Loc (sc:Scope)(x:Str):Prop:=sc.names.lookup x=some .local\/sc.names.lookup x=some .cell
def adL (env:Env)(h:Heap)(m:Str->Option Value)(x:Str)(u:Value):Prop :=
 (env.kindOf x=some .local/\m x=some u)\/((env.kindOf x=some .cell\/env.kindOf x=some .free)/\∃ c,env.cells.lookup x=some c/\h.IsCell c (some u))
structure Cx.Ok (X:Cx):Prop where
 mod:Mod X.K X.mg X.base
 kind:X.env.scope.kind=.function
 glob:X.env.globals=mainGlobals
 blt:X.env.builtins=builtinsNs
 above:X.s₀.heap.objs.size<=X.env.locals
 inj:∀ x y c,X.env.cells.lookup x=some c->X.env.cells.lookup y=some c->x=y
 has:∀ x,(X.env.kindOf x=some .cell\/X.env.kindOf x=some .free)->∃ c,X.env.cells.lookup x=some c
 cab:∀ x c,X.fn x=true->X.env.cells.lookup x=some c->X.s₀.heap.objs.size<=c
 hd:X.calm=true->X.A.handled=none
 frames:X.A.frames=some X.stack
 stk:X.stack=X.outer\/(X.stack=X.env::X.outer/\X.env.frame=some X.env.locals)
 exf:∀ b∈X.ex,b≠X.env.locals/\∀ x c,X.env.cells.lookup x=some c->c≠b
 bs:∀ b o,X.base.get? b=some o->X.s₀.heap.get? b=some o/\X.H₀ b=none
 bsz:X.base.objs.size<=X.s₀.heap.objs.size
 noex:∀ b o,X.base.get? b=some o->b ∉ X.ex
 exfs:∀ b∈X.ex,b ∉ X.fs
 funs:X.s₀.heap.FunFrames X.base X.outer
 frf:∀ b∈X.fs,X.H₀ b=none
structure Inv (X:Cx)(pins:List (Addr×Obj))(σ:List (Option V))(H:Hp)(s:Shared):Prop where
 ok:X.Ok
 os:s.os=X.s₀.os
 bare:AllBare s.gens
 base:Un X.fs X.ex X.H₀ H X.s₀.heap s.heap
 loc:∃ m,s.heap.Ns X.env.locals m/\∀ (i:Nat) (x:Str) (v:V),X.N[i]? = some x->σ[i]? = some (some v)->Vis X.env.scope x->∃ u,RelV v u/\adL X.env s.heap m x u
 cell:∀ x c,X.env.cells.lookup x=some c->∃ v,s.heap.IsCell c v
 free:H X.env.locals=none
 freeC:∀ x c,X.env.cells.lookup x=some c->H c=none
 pin:∀ p∈X.pn++pins,s.heap.get? p.1=some p.2/\H p.1=none/\p.1≠X.env.locals/\p.1 ∉ X.fs/\∀ v,p.2.data≠.cell v
 hok:HOk X.prog X.w H s.heap
 len:σ.length=X.N.length
section
variable {X:Cx}{pins:List (Addr×Obj)}{σ:List (Option V)}{H H':Hp}{s:Shared}{h':Heap}
theorem Cx.Ok.nofr (ok:X.Ok){b:Addr}{o:Obj}(e:X.base.get? b=some o):b ∉ X.fs:=fun hb=>by
 have:=(ok.funs.mem hb).1;rw [e] at this;cases this
theorem Inv.bs (I:Inv X pins σ H s):∀ b o,X.base.get? b=some o->s.heap.get? b=some o/\H b=none:=fun b o e =>
 ⟨I.base.keep b o (I.ok.bs b o e).1 (I.ok.bs b o e).2 (I.ok.nofr e) (I.ok.noex b o e),I.base.free b o (I.ok.bs b o e).1 (I.ok.bs b o e).2 (I.ok.noex b o e)⟩
theorem Inv.bk (I:Inv X pins σ H s):∀ b o,X.base.get? b=some o->s.heap.get? b=some o:=fun b o e=>(I.bs b o e).1
theorem Inv.mod (I:Inv X pins σ H s):Mod X.K X.mg X.base:=I.ok.mod
theorem Inv.kIn (I:Inv X pins σ H s):X.K.In s.heap:=I.ok.mod.kin.keeps I.bk
theorem Inv.fr (I:Inv X pins σ H s):∃ m,Fr X.base X.env.locals s.heap m :=
 let ⟨m,hn,_⟩:=I.loc
 ⟨m,hn,I.bk,aeN I.ok.bsz I.ok.above⟩
theorem Inv.lt (I:Inv X pins σ H s):X.env.locals < s.heap.objs.size:=let ⟨_,hn,_⟩:=I.loc;hn.lt
theorem Inv.sz (I:Inv X pins σ H s):X.s₀.heap.objs.size<=s.heap.objs.size:=aeN I.ok.above (af1 I.lt)
theorem Inv.nofs (I:Inv X pins σ H s){a:Addr}(h:s.heap.objs.size<=a):a ∉ X.fs:=fun hb=>by
 obtain⟨_,o,ho,_⟩:=I.ok.funs.mem hb;exact absurd (aeB (aes ho) (aeN I.sz h)) (afn _)
theorem Inv.cne (I:Inv X pins σ H s):∀ x c,X.env.cells.lookup x=some c->c≠X.env.locals:=fun x c e z=>by
 obtain⟨v,o,ho,hd⟩:=I.cell x c e;obtain⟨m,⟨o',es,ep,ho',hd',_⟩,_⟩:=I.loc;rw [z,ho'] at ho;cases ho;rw [hd'] at hd;cases hd
theorem Inv.funs (I:Inv X pins σ H s):s.heap.FunFrames X.base X.outer:=by
 have all:∀ (l:List Env),(∀ b∈frs l,b∈X.fs)->X.s₀.heap.FunFrames X.base l->s.heap.FunFrames X.base l:=by
  intro l
  induction l with
  | nil=>intro _ _;trivial
  | cons env r ih =>
   intro hs hl;obtain⟨hk,⟨L,o,hf,hn,ho,hd⟩,hr⟩:=hl;have hL:L∈X.fs:=hs L (by unfold frs;rw [agh,hf];exact aev);obtain⟨sl,e⟩:=I.base.slot L o ho (I.ok.frf L hL) hL fun z=>I.ok.exfs L z hL;exact⟨hk,⟨L,_,hf,hn,e,hd⟩,ih (fun b hb=>hs b (by unfold frs;rw [agh,hf];exact aeC _ hb)) hr⟩
 exact all X.outer (fun _ hb=>hb) I.ok.funs
theorem Inv.stack (I:Inv X pins σ H s):s.heap.FunFrames X.base X.stack:=by
 rcases I.ok.stk with e | ⟨e,hf⟩
 ·rw [e];exact I.funs
 ·rw [e];obtain⟨m,hn,_⟩:=I.loc;refine .cons (by rw [I.ok.kind];decide) hf hn ?_ I.funs;exact Heap.get?_none_of_le (aeN I.ok.bsz I.ok.above)
theorem Inv.stkSub (I:Inv X pins σ H s):∀ b∈frs X.stack,b∈X.env.locals::X.fs:=fun b hb=>by
 rcases I.ok.stk with e | ⟨e,hf⟩
 ·rw [e] at hb;exact aeC _ hb
 ·rw [e] at hb;unfold frs at hb;rw [agh,hf] at hb;exact hb
theorem Inv.stkFree (I:Inv X pins σ H s):∀ b∈frs X.stack,H b=none:=fun b hb=>by
 rcases aeu.mp (I.stkSub b hb) with e | hb
 ·rw [e];exact I.free
 ·obtain⟨_,o,ho,_⟩:=I.ok.funs.mem hb;exact I.base.free b o ho (I.ok.frf b hb) fun z=>I.ok.exfs b z hb
theorem Inv.step {g':Array GenState}{t':Nat}{d':Drawn}{ch:List Addr}(I:Inv X pins σ H s)
 (hch:∀ b∈ch,(b∈X.ex\/X.s₀.heap.objs.size<=b)/\b≠X.env.locals/\(∀ x c,X.env.cells.lookup x=some c->c≠b)/\∀ p∈X.pn++pins,p.1≠b)
 (keep:∀ b o,b≠X.env.locals->b ∉ X.fs->b ∉ ch->s.heap.get? b=some o->H b=none->h'.get? b=some o)
 (slot:∀ b o,b≠X.env.locals->b∈X.fs->b ∉ ch->s.heap.get? b=some o->H b=none->∃ sl,h'.get? b=some { o with slots:=sl })(free:∀ b o,b ∉ ch->s.heap.get? b=some o->H b=none->H' b=none)
 (there:∀ b o,b ∉ ch->s.heap.get? b=some o->∃ o',h'.get? b=some o')
 (tups:∀ b xs,H b=some (.tup xs)->H' b=some (.tup xs))(frzs:∀ b o u,H b=some (.frz o u)->H' b=some (.frz o u))(tbls:∀ b ps,H b=some (.tbl ps)->∃ more,H' b=some (.tbl (ps++more)))
 (ns:∀ m,s.heap.Ns X.env.locals m->h'.Ns X.env.locals m)(hok:HOk X.prog X.w H' h')(hg:AllBare g') :
 Inv X pins σ H' { s with heap:=h',gens:=g',drawn:=d',toks:=t' }:=by
 have neL:∀ b o,X.s₀.heap.get? b=some o->b≠X.env.locals:=fun b o e=>aeA (aeB (aes e) I.ok.above);have neC:∀ b o,X.s₀.heap.get? b=some o->b ∉ X.ex->b ∉ ch:=fun b o e hx hb=>by
  rcases (hch b hb).1 with z | z
  ·exact hx z
  ·exact absurd (aeB (aes e) z) (afn _)
 have cellK:∀ x c,X.env.cells.lookup x=some c->∀ v,s.heap.IsCell c v->h'.IsCell c v:=fun x c e v ⟨o,ho,hd⟩=>by
  have nch:c ∉ ch:=fun z=>(hch c z).2.2.1 x c e rfl;by_cases hc:c∈X.fs
  ·obtain⟨sl,q⟩:=slot c o (I.cne x c e) hc nch ho (I.freeC x c e);exact⟨_,q,hd⟩
  ·exact⟨o,keep c o (I.cne x c e) hc nch ho (I.freeC x c e),hd⟩
 refine⟨I.ok,I.os,hg,⟨fun b o e n hb hx=>?_,fun b o e n hb hx=>?_,fun b o e n hx=>?_,fun b o e hx=>?_,fun b xs e=>tups b xs (I.base.tups b xs e),fun b o xs e=>frzs b o xs (I.base.frzs b o xs e),fun b ps e=>?_⟩,?_,fun x c e=>?_,?_,fun x c e=>?_,fun p hp=>?_,hok,I.len⟩
 ·exact keep b o (neL b o e) hb (neC b o e hx) (I.base.keep b o e n hb hx) (I.base.free b o e n hx)
 ·obtain⟨sl,e1⟩:=I.base.slot b o e n hb hx;obtain⟨sl',e2⟩:=slot b _ (neL b o e) hb (neC b o e hx) e1 (I.base.free b o e n hx);exact⟨sl',e2⟩
 ·obtain⟨o',e1⟩:=I.base.there b o e hx;exact free b o' (neC b o e hx) e1 (I.base.free b o e n hx)
 ·obtain⟨o',e1⟩:=I.base.there b o e hx;exact there b o' (neC b o e hx) e1
 ·obtain⟨m1,e1⟩:=I.base.tbls b ps e;obtain⟨m2,e2⟩:=tbls b _ e1;exact⟨m1++m2,by rw [e2,Array.append_assoc]⟩
 ·obtain⟨m,hn,hl⟩:=I.loc;refine⟨m,ns m hn,fun i x v e1 e2 e3=>?_⟩;obtain⟨u,r,l⟩:=hl i x v e1 e2 e3;refine⟨u,r,?_⟩;rcases l with l | ⟨k,c,e,z⟩
  ·exact .inl l
  ·exact .inr ⟨k,c,e,cellK x c e _ z⟩
 ·obtain⟨v,z⟩:=I.cell x c e;exact⟨v,cellK x c e v z⟩
 ·obtain⟨m,⟨o,_,_,ho,_⟩,_⟩:=I.loc;exact free _ o (fun z=>(hch _ z).2.1 rfl) ho I.free
 ·obtain⟨v,o,ho,hd⟩:=I.cell x c e;exact free c o (fun z=>(hch c z).2.2.1 x c e rfl) ho (I.freeC x c e)
 ·obtain⟨e,n,ne,nf,d⟩:=I.pin p hp;have nch:p.1 ∉ ch:=fun z=>(hch p.1 z).2.2.2 p hp rfl;exact⟨keep p.1 p.2 ne nf nch e n,free p.1 p.2 nch e n,ne,nf,d⟩
theorem Inv.un {t':Nat}(I:Inv X pins σ H s)(u:Un X.fs [] H H' s.heap h')(hok:HOk X.prog X.w H' h'):Inv X pins σ H' { s with heap:=h',toks:=t' }:=by
 obtain⟨m,⟨o,es,ep,ho,r⟩,_⟩:=id I.loc;obtain⟨sl,hL⟩:=u.any ho I.free (by simp);exact I.step (g':=s.gens) (d':=s.drawn) (ch:=[]) (fun _ z=>nomatch z) (fun b o _ hb _ e n=>u.keep b o e n hb (by simp)) (fun b o _ hb _ e n=>u.slot b o e n hb (by simp)) (fun b o _ e n=>u.free b o e n (by simp)) (fun b o _ e=>u.there b o e (by simp)) u.tups u.frzs u.tbls (fun m' hm=>by
  obtain⟨o',es',ep',ho',r'⟩:=hm;rw [ho] at ho';cases ho';exact⟨_,es',ep',hL,r'⟩) hok I.bare
theorem Inv.call {g':Array GenState}{t':Nat}{d':Drawn}{ch:List Addr}(I:Inv X pins σ H s)(u:Un (frs X.stack) ch H H' s.heap h')(hok:HOk X.prog X.w H' h')(hg:AllBare g')
 (hch:∀ b∈ch,(b∈X.ex\/X.s₀.heap.objs.size<=b)/\b≠X.env.locals/\(∀ x c,X.env.cells.lookup x=some c->c≠b)/\∀ p∈X.pn++pins,p.1≠b) :
 Inv X pins σ H' { s with heap:=h',gens:=g',drawn:=d',toks:=t' }:=by
 obtain⟨m,⟨o,es,ep,ho,r⟩,_⟩:=id I.loc;obtain⟨sl,hL⟩:=u.any ho I.free fun z=>(hch _ z).2.1 rfl;exact I.step (ch:=ch) hch (fun b o hL hb hc e n=>u.keep b o e n (fun z=>(aeu.mp (I.stkSub b z)).elim hL hb) hc) (fun b o _ _ hc e n=>u.any e n hc) (fun b o hc e n=>u.free b o e n hc) (fun b o hc e=>u.there b o e hc) u.tups u.frzs u.tbls (fun m' hm=>by
  obtain⟨o',es',ep',ho',r'⟩:=hm;rw [ho] at ho';cases ho';exact⟨_,es',ep',hL,r'⟩) hok hg
theorem Inv.turned {t':Nat}{it:Addr}(I:Inv X pins σ H s)(k:∀ b o,b≠it->s.heap.get? b=some o->h'.get? b=some o)(hn:H it=none)(hL:it≠X.env.locals)
 (h1:it∈X.ex\/X.s₀.heap.objs.size<=it)(h2:∀ x c,X.env.cells.lookup x=some c->c≠it)(h3:∀ p∈X.pn++pins,p.1≠it):Inv X pins σ H { s with heap:=h',toks:=t' }:=by
 have nit:∀ b u,H b=some u->b≠it:=fun b u e z=>by rw [z,hn] at e;cases e
 refine I.step (g':=s.gens) (d':=s.drawn) (ch:=[it]) (fun b hb=>?_) (fun b o _ _ hc e _=>k b o (fun z=>hc (by simp [z])) e) (fun b o _ _ hc e _=>⟨o.slots,k b o (fun z=>hc (by simp [z])) e⟩) (fun _ _ _ _ n=>n)
  (fun b o hc e=>⟨o,k b o (fun z=>hc (by simp [z])) e⟩) (fun _ _ e=>e) (fun _ _ _ e=>e) (fun b ps e=>⟨#[],by rw [e];simp⟩) (fun m hm=>?_) (fun b u e=>?_) I.bare
 ·have e:b=it:=by simpa using hb
  subst e;exact⟨h1,hL,h2,h3⟩
 ·obtain⟨o,es,ep,ho,r⟩:=hm;exact⟨o,es,ep,k _ o (afO hL) ho,r⟩
 ·refine (I.hok b u e).stay (fun c v hc q=>k c v ?_ q) (fun _ q=>q) fun _ _ q=>q;rcases hc with z | z
  ·rw [z];exact nit b u e
  ·exact nit c _ z
theorem Inv.tok (I:Inv X pins σ H s)(t:Nat):Inv X pins σ H { s with toks:=t }:=I.un (h':=s.heap) (t':=t) Un.refl I.hok
theorem Inv.kept {t':Nat}(I:Inv X pins σ H s)(k:∀ b u,s.heap.get? b=some u->h'.get? b=some u):Inv X pins σ H { s with heap:=h',toks:=t' }:=I.un (Un.kept k) (I.hok.kept k)
theorem Inv.laid {a:Addr}{o:HO}{t':Nat}(I:Inv X pins σ H s)(k:∀ b u,s.heap.get? b=some u->h'.get? b=some u)(hp:s.heap.objs.size<=a)(new:ObjOk X.prog X.w (upd H a o) h' a o) :
 Inv X pins σ (upd H a o) { s with heap:=h',toks:=t' }:=I.un (Un.laid k hp (I.hok.fresh hp)) (I.hok.laid k hp new)
theorem Inv.write {x e:Addr}{o:HO}{t':Nat}(I:Inv X pins σ H s)(mu:Mut (H x))(he:e=x\/H e=some (.own x))(k:∀ b u,b≠e->s.heap.get? b=some u->h'.get? b=some u)(heo:∃ u,h'.get? e=some u)
 (new:ObjOk X.prog X.w (upd H x o) h' x o):Inv X pins σ (upd H x o) { s with heap:=h',toks:=t' }:=I.un (Un.write mu he k heo) (I.hok.write mu he k heo new)
theorem Inv.weak {σ':List (Option V)}(I:Inv X pins σ H s)(hl:σ'.length=σ.length)(w:∀ (i:Nat) v,σ'[i]? = some (some v)->σ[i]? = some (some v)):Inv X pins σ' H s :=
 ⟨I.ok,I.os,I.bare,I.base,let ⟨m,hn,hl'⟩:=I.loc;⟨m,hn,fun i x v e1 e2 e3=>hl' i x v e1 (w i v e2) e3⟩,I.cell,I.free,I.freeC,I.pin,I.hok,hl.trans I.len⟩
theorem Inv.pins_of {pins':List (Addr×Obj)}(I:Inv X pins σ H s)(h:∀ p∈pins',s.heap.get? p.1=some p.2/\H p.1=none/\p.1≠X.env.locals/\p.1 ∉ X.fs/\∀ v,p.2.data≠.cell v):Inv X pins' σ H s :=
 ⟨I.ok,I.os,I.bare,I.base,I.loc,I.cell,I.free,I.freeC,fun p hp=>(aew.mp hp).elim (fun z=>I.pin p (ahJ _ z)) (h p),I.hok,I.len⟩
theorem o8 {N:List Str}(hN:N.Nodup){i j:Nat}{x:Str}(a:N[i]? = some x)(b:N[j]? = some x):i=j:=by
 obtain⟨h1,e1⟩:=aek.mp a;obtain⟨h2,e2⟩:=aek.mp b;exact (List.getElem_inj hN).mp (e1.trans e2.symm)
theorem jA {M:Model}{A:Around}{E:Value->Shared->Prop}{i:Nat}{x:Str}{v:V}{u:Value}{Q:Unit->Shared->Prop}(I:Inv X pins σ H s)(hN:X.N.Nodup)(hi:X.N[i]? = some x)(hx:Loc X.env.scope x)(r:RelV v u)
 (h:∀ s',Inv X pins (σ.set i (some v)) H s'->(∃ a,Heap.SameBut a s.heap s'.heap/\(a=X.env.locals\/X.env.cells.lookup x=some a))->Q () s')(hf:X.fn x=true\/X.env.scope.names.lookup x=some .local:=by first | exact .inl rfl | exact .inr rfl | assumption):wpAny M A (storeName X.env x u) Q E s:=by
 obtain⟨m,hn,hl⟩:=id I.loc;have hcls:(X.env.scope.kind == .class || (X.env.scope.kind == .module && X.env.locals != X.env.globals))=false:=by rw [I.ok.kind];rfl
 have hiσ:i < σ.length:=by rw [I.len];exact (aek.mp hi).1
 have cne:=I.cne;have tracked:∀ {a:Addr} {h':Heap},(∃ o,s.heap.get? a=some o/\H a=none)->Heap.SameBut a s.heap h'->HOk X.prog X.w H h':=fun {a h'} ha hs b ob e=>by
  obtain⟨_,_,hfree⟩:=ha;refine (I.hok b ob e).stay (fun c w' hc q=>(hs.2 c ?_).trans q) (fun _ q=>q) fun _ _ q=>q;rintro rfl;rcases hc with rfl | hc
  ·rw [hfree] at e;cases e
  ·rw [hfree] at hc;cases hc
 rcases hx with hk | hk
 ·refine wpAny_storeName_local hk hn (fun h' hn' hs=>?_) hcls;obtain⟨oL,_,_,hoL,_⟩:=id hn;refine h _ ⟨I.ok,I.os,I.bare,⟨fun b o e n hb hx=>?_,fun b o e n hb hx=>?_,I.base.free,fun b o e hx=>?_,I.base.tups,I.base.frzs,I.base.tbls⟩,⟨_,hn',fun j y v' e1 e2 e3=>?_⟩,fun y c e=>?_,I.free,I.freeC,fun p hp=>?_,tracked ⟨oL,hoL,I.free⟩ hs,by simpa using I.len⟩ ⟨_,hs,.inl rfl⟩
  ·exact (hs.2 b (aeA (aeB (aes e) I.ok.above))).trans (I.base.keep b o e n hb hx)
  ·obtain⟨sl,e1⟩:=I.base.slot b o e n hb hx;exact⟨sl,(hs.2 b (aeA (aeB (aes e) I.ok.above))).trans e1⟩
  ·obtain⟨o',e1⟩:=I.base.there b o e hx;exact⟨o',(hs.2 b (aeA (aeB (aes e) I.ok.above))).trans e1⟩
  ·by_cases hj:j=i
   ·subst hj;rw [hi] at e1;cases e1;rw [agl hiσ] at e2;cases e2;exact⟨u,r,.inl ⟨hk,by simp⟩⟩
   ·rw [aha (afO hj)] at e2;obtain⟨u',r',q⟩:=hl j y v' e1 e2 e3;refine⟨u',r',?_⟩;rcases q with ⟨k,e⟩ | ⟨k,c,e,z⟩
    ·refine .inl ⟨k,?_⟩;have:y≠x:=fun e=>hj (o8 hN e1 (e▸hi));simp [this,e]
    ·exact .inr ⟨k,c,e,z.sameBut hs (cne y c e)⟩
  ·obtain⟨w',z⟩:=I.cell y c e;exact⟨w',z.sameBut hs (cne y c e)⟩
  ·obtain⟨e,n,ne,nf,d⟩:=I.pin p hp;exact⟨(hs.2 p.1 ne).trans e,n,ne,nf,d⟩
 ·have hfn:X.fn x=true:=by
   rcases hf with z | z
   ·exact z
   ·rw [z] at hk;cases hk
  obtain⟨c,hc⟩:=I.ok.has x (.inl hk);obtain⟨w',z⟩:=I.cell x c hc;refine wpAny_storeName_cell I.ok.kind hk hc z (fun h' hc' hs=>?_);obtain⟨oc,hoc,hocd⟩:=id z;refine h { s with heap:=h' } ⟨I.ok,I.os,I.bare,⟨fun b o e n hb hx=>?_,fun b o e n hb hx=>?_,I.base.free,fun b o e hx=>?_,I.base.tups,I.base.frzs,I.base.tbls⟩,⟨m,hn.sameBut hs (afO (cne x c hc)),fun j y v' e1 e2 e3=>?_⟩,fun y c' e=>?_,I.free,I.freeC,fun p hp=>?_,tracked ⟨oc,hoc,I.freeC x c hc⟩ hs,by simpa using I.len⟩ ⟨c,hs,.inr hc⟩
  ·exact (hs.2 b (aeA (aeB (aes e) (I.ok.cab x c hfn hc)))).trans (I.base.keep b o e n hb hx)
  ·obtain⟨sl,e1⟩:=I.base.slot b o e n hb hx;exact⟨sl,(hs.2 b (aeA (aeB (aes e) (I.ok.cab x c hfn hc)))).trans e1⟩
  ·obtain⟨o',e1⟩:=I.base.there b o e hx;exact⟨o',(hs.2 b (aeA (aeB (aes e) (I.ok.cab x c hfn hc)))).trans e1⟩
  ·by_cases hj:j=i
   ·subst hj;rw [hi] at e1;cases e1;rw [agl hiσ] at e2;cases e2;exact⟨u,r,.inr ⟨.inl hk,c,hc,hc'⟩⟩
   ·rw [aha (afO hj)] at e2;obtain⟨u',r',q⟩:=hl j y v' e1 e2 e3;refine⟨u',r',?_⟩;rcases q with q | ⟨k,c',e,z'⟩
    ·exact .inl q
    ·refine .inr ⟨k,c',e,z'.sameBut hs ?_⟩;rintro rfl;exact hj (o8 hN e1 (I.ok.inj _ _ _ e hc▸hi))
  ·by_cases hcc:c'=c
   ·subst hcc;exact⟨_,hc'⟩
   ·obtain⟨w2,z2⟩:=I.cell y c' e;exact⟨w2,z2.sameBut hs hcc⟩
  ·obtain⟨e,n,ne,nf,d⟩:=I.pin p hp;refine⟨(hs.2 p.1 ?_).trans e,n,ne,nf,d⟩;intro q;rw [q,hoc] at e;have q':oc=p.2:=afg e;exact d w' (by rw [← q'];exact hocd)
theorem pd {M:Model}{A:Around}{E:Value->Shared->Prop}{i:Nat}{x:Str}{v:V}{u:Value}{Q:Unit->Shared->Prop}(I:Inv X pins σ H s)(hN:X.N.Nodup)(hi:X.N[i]? = some x)(hx:Loc X.env.scope x)(r:RelV v u)
 (h:∀ s',Inv X pins (σ.set i (some v)) H s'->Q () s')(hf:X.fn x=true\/X.env.scope.names.lookup x=some .local:=by first | exact .inl rfl | exact .inr rfl | assumption):wpAny M A (storeName X.env x u) Q E s :=
 jA I hN hi hx r (fun s' I' _=>h s' I') hf
theorem Inv.call' {s':Shared}{ch:List Addr}(I:Inv X pins σ H s)(ho:s'.os=s.os)(u:Un (frs X.stack) ch H H' s.heap s'.heap)(hok:HOk X.prog X.w H' s'.heap)(hg:AllBare s'.gens)
 (hch:∀ b∈ch,(b∈X.ex\/X.s₀.heap.objs.size<=b)/\b≠X.env.locals/\(∀ x c,X.env.cells.lookup x=some c->c≠b)/\∀ p∈X.pn++pins,p.1≠b):Inv X pins σ H' s':=by
 obtain⟨h',g',d',t',o'⟩:=s';have e:o'=s.os:=ho;subst e;exact I.call (g':=g') (t':=t') (d':=d') u hok hg hch
end
abbrev XK:=Value->Option Addr->Hp->Prop
abbrev St:=List (Option V)
abbrev VK:=V->Hp->Prop
abbrev TE:=St->Hp->VK->Prop
abbrev TT:=St->Hp->(Bool->Hp->Prop)->Prop
abbrev TA:=St->Hp->(List V->Hp->Prop)->Prop
structure Ends where
 nx:St->Hp->Prop
 rt:VK
 bk:St->Hp->Prop:=fun _ _=>False
 ct:St->Hp->Prop:=fun _ _=>False
abbrev TS:=Ends->St->Hp->Prop
def EP (X:Cx)(pins:List (Addr×Obj))(σ:St)(Q:VK)(u:Value)(s':Shared):Prop:=∃ v H',Inv X pins σ H' s'/\RelV v u/\Q v H'
def TP (X:Cx)(pins:List (Addr×Obj))(σ:St)(Q:Bool->Hp->Prop)(b:Bool)(s':Shared):Prop:=∃ H',Inv X pins σ H' s'/\Q b H'
def AP (X:Cx)(pins:List (Addr×Obj))(σ:St)(Q:List V->Hp->Prop)(us:List Value)(s':Shared):Prop:=∃ vs H',Inv X pins σ H' s'/\Vals vs us/\Q vs H'
def SP (X:Cx)(pins:List (Addr×Obj))(D:Ends)(f:Flow)(s':Shared):Prop :=
 match f with
 | .next=>∃ σ' H',Inv X pins σ' H' s'/\D.nx σ' H'
 | .brk=>∃ σ' H',Inv X pins σ' H' s'/\D.bk σ' H'
 | .cont=>∃ σ' H',Inv X pins σ' H' s'/\D.ct σ' H'
 | .ret u=>∃ v σ' H',Inv X pins σ' H' s'/\RelV v u/\D.rt v H'
def PE (X:Cx)(e:Expr)(t:TE):Prop :=
 ∀ (pins:List (Addr×Obj)) (s:Shared) (σ:St) (H:Hp) (Q:VK),Inv X pins σ H s->t σ H Q->wpAny (model X.prog X.w) X.A (eval e X.env) (EP X pins σ Q) X.xe s
def PT (X:Cx)(e:Expr)(t:TT):Prop :=
 ∀ (pins:List (Addr×Obj)) (s:Shared) (σ:St) (H:Hp) (Q:Bool->Hp->Prop),Inv X pins σ H s->t σ H Q->wpAny (model X.prog X.w) X.A (isTrue e X.env (eval e X.env)) (TP X pins σ Q) X.xe s
def PW (X:Cx)(e:Expr)(t:TT):Prop :=
 ∀ (whole:Sem Value) (pins:List (Addr×Obj)) (s:Shared) (σ:St) (H:Hp) (Q:Bool->Hp->Prop),Inv X pins σ H s->t σ H Q->wpAny (model X.prog X.w) X.A (isTrue e X.env whole) (TP X pins σ Q) X.xe s
theorem PW.pt {X:Cx}{e:Expr}{t:TT}(h:PW X e t):PT X e t:=h _
def PA (X:Cx)(es:List Expr)(t:TA):Prop :=
 ∀ (pos:Pos) (pins:List (Addr×Obj)) (s:Shared) (σ:St) (H:Hp) (Q:List V->Hp->Prop),Inv X pins σ H s->t σ H Q->wpAny (model X.prog X.w) X.A (spliced (backTo pos (starEach es X.env))) (AP X pins σ Q) X.xe s
def PS (X:Cx)(st:Stmt)(t:TS):Prop :=
 ∀ (pins:List (Addr×Obj)) (s:Shared) (σ:St) (H:Hp) (D:Ends),Inv X pins σ H s->t D σ H->wpAny (model X.prog X.w) X.A (exec st X.env) (SP X pins D) X.xe s
def PSs (X:Cx)(st:List Stmt)(t:TS):Prop :=
 ∀ (pins:List (Addr×Obj)) (s:Shared) (σ:St) (H:Hp) (D:Ends),Inv X pins σ H s->t D σ H->wpAny (model X.prog X.w) X.A (execs st X.env) (SP X pins D) X.xe s
theorem thn {α:Type}{t:Sem α}{Q Q':α->Shared->Prop}{M:Model}{A:Around}{E:Value->Shared->Prop}{s:Shared}(h:wpAny M A t Q E s)(hQ:∀ a s,Q a s->Q' a s):wpAny M A t Q' E s:=aeV h hQ fun _ _ x=>x
section
variable {X:Cx}
theorem bin {a b:Expr}{ta tb:TE}(ha:PE X a ta)(hb:PE X b tb){pins:List (Addr×Obj)}{s:Shared}{σ:St}{H:Hp}{R:V->V->Hp->Prop}(I:Inv X pins σ H s)(h:ta σ H fun x H1=>tb σ H1 fun y H2=>R x y H2)
 {α:Type}{Q:α->Shared->Prop}{f:Value->Value->Sem α}
 (hf:∀ v u s2 x y H2,Inv X pins σ H2 s2->RelV x v->RelV y u->R x y H2->wpAny (model X.prog X.w) X.A (f v u) Q X.xe s2) :
 wpAny (model X.prog X.w) X.A (eval a X.env) (fun v s₁=>wpAny (model X.prog X.w) X.A (eval b X.env) (fun u s₂=>wpAny (model X.prog X.w) X.A (f v u) Q X.xe s₂) X.xe s₁) X.xe s:=by
 refine thn (ha pins s σ H _ I h) fun v s1 ⟨x,H1,I1,r1,q1⟩=>?_;refine thn (hb pins s1 σ H1 _ I1 q1) fun u s2 ⟨y,H2,I2,r2,q2⟩=>?_;exact hf v u s2 x y H2 I2 r1 r2 q2
def abE (i:Nat):TE:=fun σ H Q=>∃ v,σ[i]? = some (some v)/\Q v H
def tC (v:V):TE:=fun _ H Q=>Q v H
theorem acQ {i:Nat}{x:Str}{pos:Pos}(hN:X.N[i]? = some x)(hv:Vis X.env.scope x)(hd:(x == ("__debug__" : Str))=false:=by decide)(hcd:(x == ("__classdict__" : Str))=false:=by decide):PE X (.Name x pos) (abE i):=by
 intro pins s σ H Q I h;obtain⟨v,e,h⟩:=h;obtain⟨m,hn,hl⟩:=I.loc;obtain⟨u,r,l⟩:=hl i x v hN e hv;have fin:EP X pins σ Q u s:=⟨v,H,I,r,h⟩;rcases l with ⟨hk,hm⟩ | ⟨hk,c,hc,hcell⟩
 ·exact wpAny_Name (wpAny_loadName_local I.ok.kind hk hn hm fin) hd
 ·rcases hk with hk | hk
  ·exact wpAny_Name (wpAny_loadName_cell I.ok.kind hk hc hcell fin) hd
  ·exact wpAny_Name (wpAny_loadName_free I.ok.kind hk hc hcell fin hcd) hd
theorem aj {i j pos}:PE X (.Constant (.int i) j pos) (tC (.int i)):=fun _ _ _ H _ I h=>wpAny_Constant_int ⟨.int i,H,I.tok _,⟨_,rfl⟩,h⟩
theorem mX {b j pos}:PE X (.Constant (.bool b) j pos) (tC (.bl b)):=fun _ _ _ H _ I h=>Constant_bool ⟨.bl b,H,I,rfl,h⟩
theorem aaa {j pos}:PE X (.Constant .none j pos) (tC .non):=fun _ _ _ H _ I h=>Constant_none ⟨.non,H,I,rfl,h⟩
theorem cB {x j pos}:PE X (.Constant (.str x) j pos) (tC (.str x)):=fun _ _ _ H _ I h=>Calls.Constant_str ⟨.str x,H,I.tok _,⟨_,rfl⟩,h⟩
def Gl (X:Cx)(x:Str):Prop:=X.env.kindOf x=some .globalImplicit
theorem kg {E:Value->Shared->Prop}{pins:List (Addr×Obj)}{s:Shared}{σ:St}{H:Hp}{x:Str}{u:Value}{pos:Pos}{Q:Value->Shared->Prop}(I:Inv X pins σ H s)(hg:Gl X x)(hm:X.mg x=some u)(h:Q u s)
 (hd:(x == ("__debug__" : Str))=false:=by decide):wpAny (model X.prog X.w) X.A (eval (.Name x pos) X.env) Q E s :=
 Calls.Name_function_global I.ok.kind hg (Calls.loadGlobal_global (by rw [I.ok.glob];exact I.mod.glob.keeps I.bk) hm h) hd
theorem jx {E:Value->Shared->Prop}{pins:List (Addr×Obj)}{s:Shared}{σ:St}{H:Hp}{x:Str}{u:Value}{pos:Pos}{Q:Value->Shared->Prop}(I:Inv X pins σ H s)(hg:Gl X x)(hm:X.mg x=none)(hv:bootBuiltins x=some u)(h:Q u s)
 (hn:x ≠ "__name__" := by decide)(hd:(x == ("__debug__" : Str))=false:=by decide):wpAny (model X.prog X.w) X.A (eval (.Name x pos) X.env) Q E s:=by
 obtain⟨mb,h1,h2⟩:=I.mod.blt;exact Calls.Name_function_global I.ok.kind hg (Calls.loadGlobal_builtin (by rw [I.ok.glob];exact I.mod.glob.keeps I.bk) hm (by rw [I.ok.blt];exact h1.keeps I.bk) ((h2 x hn).trans hv) h) hd
theorem rN {x:Str}{v:V}{u:Value}{pos:Pos}(hg:Gl X x)(hm:X.mg x=some u)(r:RelV v u)(hd:(x == ("__debug__" : Str))=false:=by decide):PE X (.Name x pos) (tC v) :=
 fun _ _ _ H _ I h=>kg I hg hm ⟨v,H,I,r,h⟩ hd
theorem hV {x:Str}{v:V}{u:Value}{pos:Pos}(hg:Gl X x)(hm:X.mg x=none)(hv:bootBuiltins x=some u)(r:RelV v u)(hn:x ≠ "__name__" := by decide)(hd:(x == ("__debug__" : Str))=false:=by decide):PE X (.Name x pos) (tC v) :=
 fun _ _ _ H _ I h=>jx I hg hm hv ⟨v,H,I,r,h⟩ hn hd
variable {a b:Expr}{ta tb:TE}{pos:Pos}
def PC (X:Cx)(op:CmpOp)(a b:Expr)(t:TE):Prop :=
 ∀ (pins:List (Addr×Obj)) (s:Shared) (σ:St) (H:Hp) (Q:VK),Inv X pins σ H s->t σ H Q →
  wpAny (model X.prog X.w) X.A (eval a X.env) (fun v s₁=>wpAny (model X.prog X.w) X.A (eval b X.env) (fun u s₂=>wpAny (model X.prog X.w) X.A (compareOp op v u) (EP X pins σ Q) X.xe s₂) X.xe s₁) X.xe s
def tB (t:TE):TT:=fun σ H Q=>t σ H fun x H1=>∃ c,x=.bl c/\Q c H1
theorem acR {op:CmpOp}{t:TE}(h:PC X op a b t)(h1:behindInMarks op b=false:=by first | exact nobehind _ (by decide) (by decide) | rfl):PT X (.Compare a [op] [b] pos) (tB t):=by
 intro pins s σ H Q I hw;refine wpAny_isTrue_Compare1 (thn (h pins s σ H _ I hw) fun v s1 h1=>thn h1 fun u s2 h2=>thn h2 fun c s3 ⟨x,H1,I1,r1,q1⟩=>?_) h1;obtain⟨d,rfl,q⟩:=q1;cases r1;exact afu ⟨H1,I1,q⟩
theorem gF {e:Expr}{t:TE}(h:PE X e t)(he:∀ whole,isTrue e X.env whole=(do let v ← whole;standAt e.pos;holding [v] (truthy v)):=by intro _;rfl):PT X e (tB t):=by
 intro pins s σ H Q I hw;refine isTrue_plain (thn (h pins s σ H _ I hw) fun v s1 ⟨x,H1,I1,r1,q1⟩=>?_) (he _);obtain⟨d,rfl,q⟩:=q1;cases r1;exact afu ⟨H1,I1,q⟩
variable {tA tB':TT}{rest:List Expr}
def ad3 (t u:TT):TT:=fun σ H Q=>t σ H fun c H1=>if c=true then u σ H1 Q else Q false H1
def tOr (t u:TT):TT:=fun σ H Q=>t σ H fun c H1=>if c=true then Q true H1 else u σ H1 Q
def ad8 (t:TT):TT:=fun σ H Q=>t σ H fun c H1=>Q (!c) H1
theorem rF (ha:PT X a tA):PW X (.BoolOp .And [a] pos) tA:=by
 intro wh pins s σ H Q I h;refine isTrue_and (thn (ha pins s σ H Q I h) fun c s1 e=>?_);cases c with
 | true=>exact isTrue_and_nil e
 | false=>exact e
theorem mn (ha:PT X a tA):PW X (.BoolOp .Or [a] pos) tA:=by
 intro wh pins s σ H Q I h;refine isTrue_or (thn (ha pins s σ H Q I h) fun c s1 e=>?_);cases c with
 | false=>exact isTrue_or_nil e
 | true=>exact e
theorem xA (ha:PT X a tA)(hb:PW X (.BoolOp .And (b::rest) pos) tB'):PW X (.BoolOp .And (a::b::rest) pos) (ad3 tA tB'):=by
 intro wh pins s σ H Q I h;refine isTrue_and (thn (ha pins s σ H _ I h) fun c s1 ⟨H1,I1,q1⟩=>?_);cases c with
 | true=>exact hb wh pins s1 σ H1 Q I1 q1
 | false=>exact⟨H1,I1,q1⟩
theorem tj (ha:PT X a tA)(hb:PW X (.BoolOp .Or (b::rest) pos) tB'):PW X (.BoolOp .Or (a::b::rest) pos) (tOr tA tB'):=by
 intro wh pins s σ H Q I h;refine isTrue_or (thn (ha pins s σ H _ I h) fun c s1 ⟨H1,I1,q1⟩=>?_);cases c with
 | true=>exact⟨H1,I1,q1⟩
 | false=>exact hb wh pins s1 σ H1 Q I1 q1
theorem fw (ha:PT X a tA):PT X (.UnaryOp .Not a pos) (ad8 tA):=by
 intro pins s σ H Q I h;exact isTrue_not (ha pins s σ H (fun c H1=>Q (!c) H1) I h)
def adf (ta tb:TE):TE:=fun σ H Q=>ta σ H fun x H1=>∃ c,x=.bl c/\if c=true then tb σ H1 Q else Q (.bl false) H1
def adx (ta:TE):TE:=fun σ H Q=>ta σ H fun x H1=>∃ c,x=.bl c/\Q (.bl (!c)) H1
theorem qX {op}{t:TE}(h:PE X a t):PE X (.BoolOp op [a] pos) t:=fun pins s σ H Q I hw=>BoolOp_one (h pins s σ H Q I hw)
theorem jz (ha:PE X a ta)(hb:PE X (.BoolOp .And (b::rest) pos) tb):PE X (.BoolOp .And (a::b::rest) pos) (adf ta tb):=by
 intro pins s σ H Q I h;refine BoolOp_and (thn (ha pins s σ H _ I h) fun v s1 ⟨x,H1,I1,r1,q1⟩=>?_);obtain⟨c,rfl,q1⟩:=q1;cases r1;refine afu ?_;cases c with
 | true=>exact hb pins s1 σ H1 Q I1 q1
 | false=>exact⟨.bl false,H1,I1,rfl,q1⟩
theorem acg (ha:PE X a ta):PE X (.UnaryOp .Not a pos) (adx ta):=by
 intro pins s σ H Q I h;refine UnaryOp_ (thn (ha pins s σ H _ I h) fun v s1 ⟨x,H1,I1,r1,q1⟩=>?_);obtain⟨c,rfl,q1⟩:=q1;cases r1;exact not_of (afu ⟨.bl (!c),H1,I1,rfl,q1⟩)
end
def SqL (K:PySem.W.Frag)(H:Hp)(a:Addr)(xs:List V):Prop :=
 Rd H a (.lst xs) ∨
  ∃ (o:Obj) (its:Array Value) (n:Nat),K.lookup a=some o/\o.cls=.type "list" ∧ o.dict=none/\o.data=.seq its n/\its.size<=sizeLine/\Vals xs its.toList
def SqT (K:PySem.W.Frag)(H:Hp)(a:Addr)(xs:List V):Prop :=
 Rd H a (.tup xs) ∨
  ∃ (o:Obj) (its:Array Value) (n:Nat),K.lookup a=some o/\o.cls=.type "tuple" ∧ o.data=.seq its n/\its.size<=sizeLine/\Vals xs its.toList
def adW:Value->Option V
 | .none=>some .non
 | .bool b=>some (.bl b)
 | .int i _=>some (.int i)
 | .str x _=>some (.str x)
 | .bytes b _=>some (.byt b)
 | .float b _=>some (.flt b)
 | .ref a=>some (.ref a)
 | .type n=>some (.ty n)
 | _=>none
theorem RelV.abs {x:V}{u:Value}(r:RelV x u):adW u=some x:=by
 cases x with
 | non=>cases r;rfl
 | bl _=>cases r;rfl
 | int _=>obtain⟨t,rfl⟩:=r;rfl
 | str _=>obtain⟨t,rfl⟩:=r;rfl
 | byt _=>obtain⟨t,rfl⟩:=r;rfl
 | flt _=>obtain⟨t,rfl⟩:=r;rfl
 | ref _=>cases r;rfl
 | ty _=>cases r;rfl
theorem RelV.inj {x y:V}{u:Value}(r:RelV x u)(q:RelV y u):x=y:=afg (r.abs.symm.trans q.abs)
theorem Vals.inj:∀ {xs ys:List V} {us:List Value},Vals xs us->Vals ys us->xs=ys
 | _,_,_,.nil,.nil=>rfl
 | _,_,_,.cons r t,.cons r' t'=>by rw [r.inj r',Vals.inj t t']
section
variable {X:Cx}{pins:List (Addr×Obj)}{σ:St}{H:Hp}{s:Shared}{a:Addr}{xs ys:List V}
theorem SqL.of {K:PySem.W.Frag}(h:H a=some (.lst xs)):SqL K H a xs:=.inl (.inl h)
def aAA:=@SqL.of
theorem SqT.of {K:PySem.W.Frag}(h:H a=some (.tup xs)):SqT K H a xs:=.inl (.inl h)
def aAB:=@SqT.of
theorem Inv.list (I:Inv X pins σ H s)(h:SqL X.K H a xs):∃ its:List Value,Vals xs its/\PlainL s.heap a its.toArray/\xs.length<=sizeLine:=by
 rcases h with h | ⟨o,its,n,hk,hc,hd,hs,hz,r⟩
 ·obtain⟨z,its,n,r,e⟩:=h.ok I.hok;exact⟨its,r,⟨_,n,e,rfl,rfl,rfl⟩,z⟩
 ·refine⟨its.toList,r,⟨o,n,I.kIn a o hk,hc,hd,by simpa using hs⟩,?_⟩;have e:=r.length;simp only [aeE] at e;lia
theorem Inv.tuple (I:Inv X pins σ H s)(h:SqT X.K H a xs):∃ its:List Value,Vals xs its/\IsTup s.heap a its.toArray/\xs.length<=sizeLine:=by
 rcases h with h | ⟨o,its,n,hk,hc,hs,hz,r⟩
 ·obtain⟨z,its,r,p⟩:=h.ok I.hok;exact⟨its,r,p,z⟩
 ·refine⟨its.toList,r,⟨o,I.kIn a o hk,hc,n,by simpa using hs⟩,?_⟩;have e:=r.length;simp only [aeE] at e;lia
theorem Inv.list_inj (I:Inv X pins σ H s)(h:SqL X.K H a xs)(h':SqL X.K H a ys):xs=ys:=by
 obtain⟨its,r,⟨o,n,e,_,_,d⟩,_⟩:=I.list h;obtain⟨its',r',⟨o',n',e',_,_,d'⟩,_⟩:=I.list h';rw [e] at e';cases e';rw [d] at d';injection d' with d1 _
 have:its=its':=by simpa using afy Array.toList d1
 subst this;exact r.inj r'
end
abbrev Cx.wish (X:Cx)(E:Value->Shared->Prop):Cx:={ X with xe:=E }
abbrev Cx.nox (X:Cx):Cx:=X.wish fun _ _=>False
theorem Cx.Ok.wish {X:Cx}(ok:X.Ok)(E:Value->Shared->Prop):(X.wish E).Ok :=
 ⟨ok.mod,ok.kind,ok.glob,ok.blt,ok.above,ok.inj,ok.has,ok.cab,ok.hd,ok.frames,ok.stk,ok.exf,ok.bs,ok.bsz,ok.noex,ok.exfs,ok.funs,ok.frf⟩
theorem Cx.Ok.unwish {X:Cx}{E:Value->Shared->Prop}(ok:(X.wish E).Ok):X.Ok :=
 ⟨ok.mod,ok.kind,ok.glob,ok.blt,ok.above,ok.inj,ok.has,ok.cab,ok.hd,ok.frames,ok.stk,ok.exf,ok.bs,ok.bsz,ok.noex,ok.exfs,ok.funs,ok.frf⟩
section
variable {X:Cx}{pins:List (Addr×Obj)}{σ:St}{H:Hp}{s:Shared}{E:Value->Shared->Prop}
theorem Inv.wish (I:Inv X pins σ H s)(E:Value->Shared->Prop):Inv (X.wish E) pins σ H s:=⟨I.ok.wish E,I.os,I.bare,I.base,I.loc,I.cell,I.free,I.freeC,I.pin,I.hok,I.len⟩
theorem Inv.unwish (I:Inv (X.wish E) pins σ H s):Inv X pins σ H s:=⟨I.ok.unwish,I.os,I.bare,I.base,I.loc,I.cell,I.free,I.freeC,I.pin,I.hok,I.len⟩
theorem SP.unwish {D:Ends}{f:Flow}{s':Shared}(h:SP (X.wish E) pins D f s'):SP X pins D f s':=by
 cases f with
 | next=>obtain⟨σ',H',I,q⟩:=h;exact⟨σ',H',I.unwish,q⟩
 | brk=>obtain⟨σ',H',I,q⟩:=h;exact⟨σ',H',I.unwish,q⟩
 | cont=>obtain⟨σ',H',I,q⟩:=h;exact⟨σ',H',I.unwish,q⟩
 | ret u=>obtain⟨v,σ',H',I,r,q⟩:=h;exact⟨v,σ',H',I.unwish,r,q⟩
theorem PSs.nox {st:List Stmt}{t:TS}(h:PSs X.nox st t):PSs X st t:=fun pins s σ H D I hw =>
 aeV (h pins s σ H D (I.wish _) hw) (fun _ _ q=>q.unwish) fun _ _ z=>False.elim z
end
section
variable {X:Cx}{st:Stmt}{rest:List Stmt}{t u:TS}{e:Expr}{te:TE}{pos:Pos}
def sZ:TS:=fun D σ H=>D.nx σ H
def zr (t u:TS):TS:=fun D σ H=>t { D with nx:=u D } σ H
theorem bu:PSs X [] sZ:=fun _ _ σ H _ I h=>ahi ⟨σ,H,I,h⟩
theorem ag (h1:PS X st t)(h2:PSs X rest u):PSs X (st::rest) (zr t u):=by
 intro pins s σ H D I h;refine wpAny_execs_cons (thn (h1 pins s σ H { D with nx:=u D } I h) fun f s1 q=>?_);cases f with
 | next =>
  obtain⟨σ',H',I',q⟩:=q;exact h2 pins s1 σ' H' D I' q
 | ret v=>exact q
 | brk=>exact q
 | cont=>exact q
theorem aq (h1:PS X st t):PSs X [st] t:=by
 intro pins s σ H D I h;refine wpAny_execs_cons (thn (h1 pins s σ H D I h) fun f s1 q=>?_);cases f with
 | next=>exact ahi q
 | ret v=>exact q
 | brk=>exact q
 | cont=>exact q
theorem Inv.quiet {pins:List (Addr×Obj)}{σ:St}{H:Hp}{s:Shared}(I:Inv X pins σ H s):interactive X.env=false:=by simp [interactive,I.ok.kind]
def abG (te:TE):TS:=fun D σ H=>te σ H fun _ H1=>D.nx σ H1
theorem dh (he:PE X e te)(hs:swapsWith e none pos.line X.env=pure false:=by rfl):PS X (.Expr e pos) (abG te):=by
 intro pins s σ H D I h;exact wpAny_Expr_any (thn (he pins s σ H _ I h) fun v s1 ⟨x,H1,I1,r1,q1⟩=>⟨σ,H1,I1,q1⟩) I.quiet hs
def aaY (te:TE):TS:=fun D σ H=>te σ H D.rt
theorem aJ (he:PE X e te):PS X (.Return (some e) pos) (aaY te):=by
 intro pins s σ H D I h;exact wpAny_Return_some (thn (he pins s σ H _ I h) fun v s1 ⟨x,H1,I1,r1,q1⟩=>⟨x,σ,H1,I1,r1,q1⟩)
def adG (c:TT)(t u:TS):TS:=fun D σ H=>c σ H fun b H1=>if b=true then t D σ H1 else u D σ H1
theorem fi {c:Expr}{a b:List Stmt}{tc:TT}(hc:PT X c tc)(ha:PSs X a t)(hb:PSs X b u):PS X (.If c a b pos) (adG tc t u):=by
 intro pins s σ H D I h;refine wpAny_If (thn (hc pins s σ H _ I h) fun d s1 ⟨H1,I1,q1⟩=>?_);cases d with
 | true=>exact ha pins s1 σ H1 D I1 q1
 | false=>exact hb pins s1 σ H1 D I1 q1
def abX:TS:=fun _ _ _=>False
theorem m8 {sts:List Stmt}:PSs X sts abX:=fun _ _ _ _ _ _ h=>h.elim
end
abbrev TG:=V->St->Hp->(St->Hp->Prop)->Prop
abbrev TGs:=List V->St->Hp->(St->Hp->Prop)->Prop
def PG (X:Cx)(target:Expr)(t:TG):Prop :=
 ∀ (pins:List (Addr×Obj)) (s:Shared) (σ:St) (H:Hp) (v:V) (u:Value) (Q:St->Hp->Prop),Inv X pins σ H s->RelV v u->t v σ H Q →
  wpAny (model X.prog X.w) X.A (assign target X.env u) (fun _ s'=>∃ σ' H',Inv X pins σ' H' s'/\Q σ' H') X.xe s
def PGs (X:Cx)(ts:List Expr)(t:TGs):Prop :=
 ∀ (pins:List (Addr×Obj)) (s:Shared) (σ:St) (H:Hp) (vs:List V) (us:List Value) (Q:St->Hp->Prop),Inv X pins σ H s->Vals vs us->t vs σ H Q →
  wpAny (model X.prog X.w) X.A (assignInOrder ((assignEach ts X.env).map (·.2)) us) (fun _ s'=>∃ σ' H',Inv X pins σ' H' s'/\Q σ' H') X.xe s
abbrev acs:=V->V->V->Hp->(Hp->Prop)->Prop
def adC (X:Cx)(t:acs):Prop :=
 ∀ (pins:List (Addr×Obj)) (s:Shared) (σ:St) (H:Hp) (o i v:V) (ov iv u:Value) (Q:Hp->Prop),Inv X pins σ H s->RelV o ov->RelV i iv->RelV v u->t o i v H Q →
  wpAny (model X.prog X.w) X.A (setItem ov iv u) (fun _ s'=>∃ H',Inv X pins σ H' s'/\Q H') X.xe s
abbrev TIp:=V->V->Hp->VK->Prop
def PIp (X:Cx)(op:Operator)(t:TIp):Prop :=
 ∀ (pins:List (Addr×Obj)) (s:Shared) (σ:St) (H:Hp) (x y:V) (v u:Value) (Q:VK),Inv X pins σ H s->RelV x v->RelV y u->t x y H Q →
  wpAny (model X.prog X.w) X.A (inplaceOp op v u) (EP X pins σ Q) X.xe s
section
variable {X:Cx}{pos:Pos}
def cI (i:Nat):TG:=fun v σ H Q=>Q (σ.set i (some v)) H
theorem au {i:Nat}{x:Str}(hN:X.N.Nodup)(hi:X.N[i]? = some x)(hx:Loc X.env.scope x)(hf:X.fn x=true\/X.env.scope.names.lookup x=some .local:=by first | exact .inl rfl | exact .inr rfl | assumption):PG X (.Name x pos) (cI i):=by
 intro pins s σ H v u Q I r h;exact aii (pd I hN hi hx r (fun s' I'=>⟨_,H,I',h⟩) hf)
def acT:TGs:=fun vs σ H Q=>vs=[]/\Q σ H
def tw (t:TG)(u:TGs):TGs:=fun vs σ H Q=>∃ v r,vs=v::r/\t v σ H fun σ' H'=>u r σ' H' Q
theorem cD:PGs X [] acT:=by
 intro pins s σ H vs us Q I r h;obtain⟨e,h⟩:=h;subst e;cases r;exact assignInOrder_nil ⟨σ,H,I,h⟩
theorem ay {e:Expr}{es:List Expr}{t:TG}{u:TGs}(h1:PG X e t)(h2:PGs X es u)
 (hs:(assignEach (e::es) X.env).map (·.2)=assign e X.env::(assignEach es X.env).map (·.2):=by rfl):PGs X (e::es) (tw t u):=by
 intro pins s σ H vs us Q I r h;obtain⟨v,vr,e1,h⟩:=h;subst e1;cases r with
 | cons r rr =>
  rw [hs];refine assignInOrder_cons (thn (h1 pins s σ H _ _ _ I r h) fun _ s1 ⟨σ1,H1,I1,q1⟩=>?_);exact h2 pins s1 σ1 H1 _ _ Q I1 rr q1
def acm (K:PySem.W.Frag)(n:Nat)(t:TGs):TG:=fun v σ H Q=>∃ a xs,v=.ref a/\SqT K H a xs/\xs.length=n/\t xs σ H Q
theorem gW {es:List Expr}{k:Nat}{t:TGs}{n:Nat}(hc:X.calm=true)(h:PGs X es t)
 (hn:(assignEach es X.env).length=n:=by rfl)(hst:(assignEach es X.env).findIdx? (·.1)=none:=by rfl):PG X (.Tuple es k pos) (acm X.K n t):=by
 intro pins s σ H v u Q I r hw;obtain⟨a,xs,e1,hq,hl,hw⟩:=hw;subst e1;cases r;obtain⟨its,rv,ht,hz⟩:=I.tuple hq;refine assign_Tuple_tuple (I.ok.hd hc) ht (by simp [hn,← hl,rv.length]) hst fun h' hx=>?_;have I1:Inv X pins σ H { s with heap:=h' }:=I.kept (t':=s.toks) fun b o e=>hx b o (aeA (aes e)) e;exact h pins _ σ H xs _ Q I1 (by simpa using rv) hw
def ad5 (to ti:TE)(t:acs):TG:=fun v σ H Q=>to σ H fun o H1=>ti σ H1 fun i H2=>t o i v H2 fun H3=>Q σ H3
theorem z7 {o i:Expr}{to ti:TE}{t:acs}(ho:PE X o to)(hi:PE X i ti)(hs:adC X t)
 (ha:∀ v,assign (.Subscript o i pos) X.env v=(do
  let ov ← holding [v] (eval o X.env)
  let iv ← holding [v,ov] (eval i X.env)
  standAt pos
  holding [v,ov,iv] (setItem ov iv v)
  release [v,ov,iv] []):=by intro _;rfl):PG X (.Subscript o i pos) (ad5 to ti t):=by
 intro pins s σ H v u Q I r h;rw [ha];refine aei (afd (thn (ho pins s σ H _ I h) fun ov s1 ⟨x,H1,I1,r1,q1⟩=>?_));refine aei (afd (thn (hi pins s1 σ H1 _ I1 q1) fun iv s2 ⟨y,H2,I2,r2,q2⟩=>?_));refine aei (afz (aei (afd (thn (hs pins s2 σ H2 x y v ov iv u _ I2 r1 r2 r q2) fun _ s3 ⟨H3,I3,q3⟩=>?_))));exact wpAny_release ⟨σ,H3,I3,q3⟩
def vE (te:TE)(g:TG):TS:=fun D σ H=>te σ H fun x H1=>g x σ H1 D.nx
theorem tV {tg e:Expr}{te:TE}{g:TG}(he:PE X e te)(hg:PG X tg g)(hs:swapsWithSole [tg] e pos.line X.env=pure false:=by rfl)(hw:swappedStores [tg] e X.env=pure none:=by rfl)
 (h1:(assignEach [tg] X.env).map (·.2)=[assign tg X.env]:=by rfl):PS X (.Assign [tg] e pos) (vE te g):=by
 intro pins s σ H D I h;refine wpAny_Assign_stores (thn (he pins s σ H _ I h) fun v s1 ⟨x,H1,I1,r1,q1⟩=>?_) hs hw;rw [h1];exact thn (hg pins s1 σ H1 x v _ I1 r1 q1) fun _ s2 q=>q
theorem aw {i:Nat}{x:Str}{e:Expr}{te:TE}{pos':Pos}(hN:X.N.Nodup)(hi:X.N[i]? = some x)(hx:Loc X.env.scope x)(he:PE X e te)(hs:swapsWith e (some (.Name x pos')) pos.line X.env=pure false:=by rfl)(hf:X.fn x=true\/X.env.scope.names.lookup x=some .local:=by first | exact .inl rfl | exact .inr rfl | assumption) :
 PS X (.Assign [.Name x pos'] e pos) (vE te (cI i)):=by
 intro pins s σ H D I h;refine wpAny_Assign_Name (thn (he pins s σ H _ I h) fun v s1 ⟨y,H1,I1,r1,q1⟩=>?_) hs;exact pd I1 hN hi hx r1 (fun s2 I2=>⟨_,H1,I2,q1⟩) hf
def aea (i:Nat)(te:TE)(ti:TIp):TS:=fun D σ H=>∃ x,σ[i]? = some (some x)/\te σ H fun y H1=>ti x y H1 fun z H2=>D.nx (σ.set i (some z)) H2
theorem wo {i:Nat}{x:Str}{e:Expr}{te:TE}{op:Operator}{ti:TIp}{pos':Pos}(hN:X.N.Nodup)(hi:X.N[i]? = some x)(hx:Loc X.env.scope x)(he:PE X e te)(ho:PIp X op ti)(hf:X.fn x=true\/X.env.scope.names.lookup x=some .local:=by first | exact .inl rfl | exact .inr rfl | assumption) :
 PS X (.AugAssign (.Name x pos') op e pos) (aea i te ti):=by
 intro pins s σ H D I h;obtain⟨v,e1,h⟩:=h;obtain⟨m,hn,hl⟩:=I.loc;have vis:Vis X.env.scope x:=by rcases hx with k | k;exact .inl k;exact .inr (.inl k)
 obtain⟨u,r,l⟩:=hl i x v hi e1 vis;refine wpAny_AugAssign_Name ?_;have go:wpAny (model X.prog X.w) X.A (eval e X.env) (fun w s₂=>wpAny (model X.prog X.w) X.A (inplaceOp op u w) (fun r s₃=>wpAny (model X.prog X.w) X.A (storeName X.env x r) (fun _=>SP X pins D .next) X.xe s₃) X.xe s₂) X.xe s:=by
  refine thn (he pins s σ H _ I h) fun w s1 ⟨y,H1,I1,r1,q1⟩=>?_;refine thn (ho pins s1 σ H1 v y u w _ I1 r r1 q1) fun z s2 ⟨zv,H2,I2,r2,q2⟩=>?_;exact pd I2 hN hi hx r2 (fun s3 I3=>⟨_,H2,I3,q2⟩) hf
 rcases l with ⟨hk,hm⟩ | ⟨hk,c,hc,hcell⟩
 ·exact wpAny_loadName_local I.ok.kind hk hn hm go
 ·rcases hk with hk | hk
  ·exact wpAny_loadName_cell I.ok.kind hk hc hcell go
  ·rcases hx with k | k
   ·have:X.env.scope.names.lookup x=some .free:=hk;rw [k] at this;cases this
   ·have:X.env.scope.names.lookup x=some .free:=hk;rw [k] at this;cases this
def adn (to ti te:TE)(tget:V->V->Hp->VK->Prop)(tip:TIp)(tset:acs):TS:=fun D σ H=>to σ H fun o H1=>ti σ H1 fun i H2=>tget o i H2 fun x H3=>te σ H3 fun y H4=>tip x y H4 fun z H5=>tset o i z H5 fun H6=>D.nx σ H6
def adI (X:Cx)(t:V->V->Hp->VK->Prop):Prop :=
 ∀ (pins:List (Addr×Obj)) (s:Shared) (σ:St) (H:Hp) (o i:V) (ov iv:Value) (Q:VK),Inv X pins σ H s->RelV o ov->RelV i iv->t o i H Q →
  wpAny (model X.prog X.w) X.A (getItem ov iv) (EP X pins σ Q) X.xe s
theorem aaM {o i e:Expr}{to ti te:TE}{tget:V->V->Hp->VK->Prop}{tip:TIp}{tset:acs}{op:Operator}{tpos:Pos}(ho:PE X o to)(hi:PE X i ti)(hg:adI X tget)(he:PE X e te)(hp:PIp X op tip)(hs:adC X tset)
 (ha:∀ ov iv new,augStore i ov iv new=(do holding [new,ov,iv] (setItem ov iv new);release [new,ov,iv] [];pure .next):=by intros;rfl):PS X (.AugAssign (.Subscript o i tpos) op e pos) (adn to ti te tget tip tset):=by
 intro pins s σ H D I h;refine ahM (thn (ho pins s σ H _ I h) fun ov s1 ⟨x1,H1,I1,r1,q1⟩=>?_) ha;refine thn (hi pins s1 σ H1 _ I1 q1) fun iv s2 ⟨x2,H2,I2,r2,q2⟩=>?_;refine thn (hg pins s2 σ H2 x1 x2 ov iv _ I2 r1 r2 q2) fun old s3 ⟨x3,H3,I3,r3,q3⟩=>?_;refine thn (he pins s3 σ H3 _ I3 q3) fun v s4 ⟨x4,H4,I4,r4,q4⟩=>?_;refine thn (hp pins s4 σ H4 x3 x4 old v _ I4 r3 r4 q4) fun new s5 ⟨x5,H5,I5,r5,q5⟩=>?_;exact thn (hs pins s5 σ H5 x1 x2 x5 ov iv new _ I5 r1 r2 r5 q5) fun _ s6 ⟨H6,I6,q6⟩=>⟨σ,H6,I6,q6⟩
def ipI (f:Int->Int->Int):TIp:=fun x y H Q=>∃ i j,x=.int i/\y=.int j/\Q (.int (f i j)) H
theorem wV:PIp X .Add (ipI fun i j=>i+j):=by
 intro pins s σ H x y v u Q I r1 r2 h;obtain⟨i,j,e1,e2,q⟩:=h;subst e1;subst e2;obtain⟨t,rfl⟩:=r1;obtain⟨t',rfl⟩:=r2;exact iadd_int ⟨.int _,H,I.tok _,⟨_,rfl⟩,q⟩
theorem abS:PIp X .Sub (ipI fun i j=>i - j):=by
 intro pins s σ H x y v u Q I r1 r2 h;obtain⟨i,j,e1,e2,q⟩:=h;subst e1;subst e2;obtain⟨t,rfl⟩:=r1;obtain⟨t',rfl⟩:=r2;exact isub_int ⟨.int _,H,I.tok _,⟨_,rfl⟩,q⟩
end
section
variable {X:Cx}{pos:Pos}
def acd (c:TT)(tb:TS):TS:=fun D σ H=>∃ W:Nat->St->Hp->Prop,(∃ m,W m σ H)/\∀ m σ H,W m σ H →
 c σ H fun b H1=>if b=true then ∃ N:St->Hp->Prop,(∀ σ' H',N σ' H'->∃ m',m' < m/\W m' σ' H')/\tb { D with nx:=N,ct:=N,bk:=D.nx } σ H1 else D.nx σ H1
theorem pj {c:Expr}{body:List Stmt}{tc:TT}{tb:TS}(hp:PassesOwn (model X.prog X.w) X.A X.env X.xe)(hc:PT X c tc)(hb:PSs X body tb):PS X (.While c body [] pos) (acd tc tb):=by
 intro pins s σ H D I h;obtain⟨W,⟨m0,w0⟩,turn⟩:=h;refine wpAny_While (codeAny_whileLoop (fun n s'=>∃ σ' H',Inv X pins σ' H' s'/\W n σ' H') ?_ m0 ⟨σ,H,I,w0⟩);rintro n s1 ⟨σ1,H1,I1,w1⟩;refine agx hp (thn (hc pins s1 σ1 H1 _ I1 (turn n σ1 H1 w1)) fun b s2 ⟨H2,I2,q2⟩=>?_);cases b with
 | true =>
  obtain⟨N,hN,q2⟩:=q2;rw [if_pos rfl];refine agx hp (thn (hb pins s2 σ1 H2 _ I2 q2) fun f s3 q3=>?_);cases f with
  | next =>
   obtain⟨σ3,H3,I3,n3⟩:=q3;obtain⟨m',hm,w3⟩:=hN σ3 H3 n3;exact⟨m',hm,σ3,H3,I3,w3⟩
  | cont =>
   obtain⟨σ3,H3,I3,n3⟩:=q3;obtain⟨m',hm,w3⟩:=hN σ3 H3 n3;exact⟨m',hm,σ3,H3,I3,w3⟩
  | brk=>exact q3
  | ret v=>exact q3
 | false =>
  rw [if_neg aem];exact ahi ⟨σ1,H2,I2,q2⟩
end
structure It where
 go:Nat->Hp->Prop
 yld:Nat->Hp->V->Hp->Prop
 stop:Nat->Hp->Prop
def jV (X:Cx)(pins:List (Addr×Obj))(H:Hp)(b:Addr):Prop :=
 H b=none/\b≠X.env.locals/\b ∉ X.fs/\(b∈X.ex\/X.s₀.heap.objs.size<=b)/\(∀ x c,X.env.cells.lookup x=some c->c≠b)/\∀ p∈X.pn++pins,p.1≠b
theorem Inv.fpOk {X:Cx}{pins:List (Addr×Obj)}{σ:St}{H H':Hp}{s:Shared}{b:Addr}(I:Inv X pins σ H s)(hb:s.heap.objs.size<=b)(hn:H' b=none):jV X pins H' b:=by
 refine⟨hn,agZ (aeB I.lt hb),I.nofs hb,.inr (aeN I.sz hb),fun x c e z=>?_,fun p hp z=>?_⟩
 ·obtain⟨v,q⟩:=I.cell x c e;exact absurd (aeB q.lt (by rw [z];exact hb)) (afn _)
 ·exact absurd (aeB (aes (I.pin p hp).1) (by rw [z];exact hb)) (afn _)
structure yr (P:Program)(w:World)(K:PySem.W.Frag)(tg:Expr)(J:It)(fp:List Addr)(it:Addr)(tn:Nat->Heap->Prop):Prop where
 mem:it∈fp
 obj:∀ i h,tn i h->∀ b∈fp,∃ o,h.get? b=some o/\∀ v,o.data≠.cell v
 keep:∀ i h h',tn i h->(∀ b∈fp,∀ o,h.get? b=some o->h'.get? b=some o)->tn i h'
 item:∀ (X:Cx),X.prog=P->X.w=w->X.K=K->X.calm=true->∀ (i:Nat) (pins:List (Addr×Obj)) (s:Shared) (σ:St) (H:Hp) (E:Value->Shared->Prop),Inv X pins σ H s->(∀ b∈fp,jV X pins H b)->tn i s.heap->J.go i H →
  wpAny (model P w) X.A (pyNext (.ref it)) (fun r s1=>∃ u,r=some u ∧
   wpAny (model P w) X.A (letOwnedTupleGo tg (.ref it) u) (fun _ s2=>∃ x H',Inv X pins σ H' s2/\RelV x u/\J.yld i H x H'/\tn (i+1) s2.heap/\∀ b∈fp,H' b=none) E s1) E s
 done:∀ (X:Cx),X.prog=P->X.w=w->X.K=K->X.calm=true->∀ (i:Nat) (pins:List (Addr×Obj)) (s:Shared) (σ:St) (H:Hp) (E:Value->Shared->Prop),Inv X pins σ H s->(∀ b∈fp,jV X pins H b)->tn i s.heap->J.stop i H →
  wpAny (model P w) X.A (pyNext (.ref it)) (fun r s1=>r=none/\Inv X pins σ H s1) E s
 self:∀ (A:Around) (i:Nat) (s:Shared) (Q:Value->Shared->Prop) (E:Value->Shared->Prop),tn i s.heap->Q (.ref it) s->wpAny (model P w) A (pyIter (.ref it)) Q E s
abbrev TI:=St->Hp->(It->Hp->Prop)->Prop
def PIE (X:Cx)(pins:List (Addr×Obj))(σ:St)(tg:Expr)(R:It->Hp->Prop)(itv:Value)(s2:Shared):Prop :=
 ∃ (it:Addr) (fp:List Addr) (tn:Nat->Heap->Prop) (J:It) (H':Hp),itv=.ref it/\Inv X pins σ H' s2/\yr X.prog X.w X.K tg J fp it tn/\tn 0 s2.heap/\(∀ b∈fp,jV X pins H' b)/\R J H'
def PI (X:Cx)(tg iter:Expr)(wi:TI):Prop :=
 ∀ (pins:List (Addr×Obj)) (s:Shared) (σ:St) (H:Hp) (R:It->Hp->Prop),Inv X pins σ H s->wi σ H R →
  wpAny (model X.prog X.w) X.A (eval iter X.env) (fun v s1=>wpAny (model X.prog X.w) X.A (pyIter v) (PIE X pins σ tg R) X.xe s1) X.xe s
theorem yG {M:Model}{A:Around}{E:Value->Shared->Prop}{s:Shared}{tg:Expr}{it:Addr}{u:Value}{o:Obj}{n:String}{vs:Array Value}{Q:Unit->Shared->Prop}(ho:s.heap.get? it=some o)(hc:o.cls=.type n)(hd:o.data=.fields vs)
 (hn:["enumerate","zip","dict_itemiterator","dict_reverseitemiterator","odict_iterator","itertools.zip_longest","itertools.pairwise"].contains n=false)(hQ:Q () s):wpAny M A (letOwnedTupleGo tg (.ref it) u) Q E s:=by
 unfold letOwnedTupleGo;cases tg<;>first
  | exact aen hQ
  | (cases u<;>first
   | exact aen hQ
   | (refine aei (aja ho ?_);rw [hc,hd];show wpAny M A (if (["enumerate","zip","dict_itemiterator","dict_reverseitemiterator","odict_iterator","itertools.zip_longest","itertools.pairwise"].contains n && vs[0]? == some (rawInt _))=true then _ else _) Q E s;rw [if_neg (by intro h;rw [hn,Bool.false_and] at h;cases h)];exact aen hQ))
def Itl (K:PySem.W.Frag)(a:Addr):It :=
 ⟨fun i H=>∃ xs x,SqL K H a xs/\xs[i]? = some x,fun i H x H'=>H'=H/\∀ xs,SqL K H a xs->xs[i]? = some x,fun i H=>∃ xs,SqL K H a xs/\xs.length<=i⟩
def Itr (lo:Int)(n:Nat):It:=⟨fun i _=>i < n,fun i H x H'=>H'=H/\x=.int (lo+i),fun i _=>n<=i⟩
theorem yc {P:Program}{w:World}{K:PySem.W.Frag}{tg:Expr}(a it:Addr):yr P w K tg (Itl K a) [it] it (fun i h=>h.IsListIter it a i) where
 mem:=by simp
 obj:=fun i h st b hb=>by
  have e:b=it:=by simpa using hb
  subst e;obtain⟨o,e,c,d⟩:=st;exact⟨o,e,fun v z=>by rw [d] at z;cases z⟩
 keep:=fun i h h' st k=>st.at fun o e=>k it (by simp) o e
 item:=by
  intro X hP hw hK hc i pins s σ H E I hf st hg;subst hP hw hK;obtain⟨xs,x,hq,hx⟩:=hg;obtain⟨its,rv,p,hz⟩:=I.list hq;obtain⟨u,hu,ru⟩:=rv.get hx;obtain⟨f0,f1,f2,f3,f4,f5⟩:=hf it (by simp);refine wpAny_pyNext_list_item st p.isList (x:=u) (by simpa using hu) fun h' st' sb=>?_;have I1:Inv X pins σ H { s with heap:=h' }:=I.turned (t':=s.toks) (fun b o hb e=>(sb.2 b hb).trans e) f0 f1 f3 f4 f5;obtain⟨o,e,c,d⟩:=id st';exact⟨u,rfl,yG (s:={ s with heap:=h' }) e c d (by decide) ⟨x,H,I1,ru,⟨rfl,fun ys hy=>by rw [I.list_inj hy hq];exact hx⟩,st',fun b hb=>(hf b hb).1⟩⟩
 done:=by
  intro X hP hw hK hc i pins s σ H E I hf st hg;subst hP hw hK;obtain⟨xs,hq,hx⟩:=hg;obtain⟨its,rv,p,hz⟩:=I.list hq;obtain⟨f0,f1,f2,f3,f4,f5⟩:=hf it (by simp);have hl:=rv.length;exact wpAny_pyNext_list_end (I.ok.hd hc) st p.isList (by simp;lia) fun h' eb=>⟨rfl,I.turned (t':=s.toks) (fun b o hb e=>eb b o hb e) f0 f1 f3 f4 f5⟩
 self:=fun _ _ _ _ _ st h=>wpAny_pyIter_listiter st h
theorem uR {P:Program}{w:World}{K:PySem.W.Frag}{tg:Expr}(it:Addr)(lo:Int)(n:Nat):yr P w K tg (Itr lo n) [it] it (fun i h=>IsRangeIter h it (lo+(i:Nat) * 1) ((n:Int) - (i:Nat)) 1) where
 mem:=by simp
 obj:=fun i h st b hb=>by
  have e:b=it:=by simpa using hb
  subst e;exact⟨_,st,fun v z=>by
   have z':Data.fields _=Data.cell v:=z;cases z'⟩
 keep:=fun i h h' st k=>k it (by simp) _ st
 item:=by
  intro X hP hw hK hc i pins s σ H E I hf st hg;subst hP hw hK;obtain⟨f0,f1,f2,f3,f4,f5⟩:=hf it (by simp);have W:=Walks.range (prog:=X.prog) (w:=X.w) (I.ok.hd hc) it lo 1 n;refine W.item i s _ _ hg st fun v h' tk hv st' kk=>?_;obtain⟨t,rfl⟩:=hv;have I1:Inv X pins σ H { s with heap:=h',toks:=tk }:=I.turned (fun b o hb e=>kk b o (by simpa using hb) e) f0 f1 f3 f4 f5;refine⟨_,rfl,yG (s:={ s with heap:=h',toks:=tk }) (n := "range_iterator") st' rfl rfl (by decide) ⟨.int (lo+i),H,I1,⟨t,?_⟩,⟨rfl,rfl⟩,st',fun b hb=>(hf b hb).1⟩⟩;rw [Int.mul_one]
 done:=by
  intro X hP hw hK hc i pins s σ H E I hf st hg;subst hP hw hK;obtain⟨f0,f1,f2,f3,f4,f5⟩:=hf it (by simp);exact wpAny_pyNext_range_end (I.ok.hd hc) st (by have:n<=i:=hg;lia) fun h' eb=>⟨rfl,I.turned (t':=s.toks) (fun b o hb e=>eb b o hb e) f0 f1 f3 f4 f5⟩
 self:=fun _ _ _ _ _ st h=>wpAny_pyIter_rangeiter st h
section
variable {X:Cx}{tg:Expr}
def yY (K:PySem.W.Frag)(tl:TE):TI:=fun σ H R=>tl σ H fun x H1=>∃ a,x=.ref a/\(∃ xs,SqL K H1 a xs)/\R (Itl K a) H1
theorem aQ {l:Expr}{tl:TE}(hl:PE X l tl):PI X tg l (yY X.K tl):=by
 intro pins s σ H R I h;refine thn (hl pins s σ H _ I h) fun v s1 ⟨x,H1,I1,r1,q1⟩=>?_;obtain⟨a,e,⟨xs,hq⟩,q⟩:=q1;subst e;cases r1;obtain⟨its,rv,p,hz⟩:=I1.list hq;refine ahs p.isList ?_;refine⟨s1.heap.objs.size,[s1.heap.objs.size],_,_,H1,rfl,I1.kept (t':=s1.toks) fun b o e=>ael _ e,yc a _,⟨_,aeF _ rfl,rfl,rfl⟩,fun b hb=>?_,q⟩;have e:b=s1.heap.objs.size:=by simpa using hb
 subst e;exact I1.fpOk (aep _) (I1.hok.fresh (aep _))
theorem yZ {pins:List (Addr×Obj)}{σ:St}{H:Hp}{s:Shared}{R:It->Hp->Prop}{E:Value->Shared->Prop}{lo hi:Int}{t u v:Tok}{tk:Nat}(I:Inv X pins σ H s)(h1:-(2 ^ 62)<=lo)(h2:lo < 2 ^ 62)(h3:-(2 ^ 62)<=hi)(h4:hi < 2 ^ 62)
 (q:R (Itr lo (hi - lo).toNat) H):wpAny (model X.prog X.w) X.A (pyIter (.ref s.heap.objs.size)) (PIE X pins σ tg R) E { s with heap:=s.heap.push { cls:=.type "range",data:=.fields #[.int lo t,.int hi u,.int 1 v] },toks:=tk }:=by
 refine wpAny_pyIter_range (IsRange.new ..) (small_one h1 h2 h3 h4) ?_;have I1:Inv X pins σ H { s with heap:=s.heap.push { cls:=.type "range",data:=.fields #[.int lo t,.int hi u,.int 1 v] },toks:=tk }:=I.kept fun b o e=>ael _ e;refine⟨(s.heap.push { cls:=.type "range",data:=.fields #[.int lo t,.int hi u,.int 1 v] }).objs.size,[(s.heap.push { cls:=.type "range",data:=.fields #[.int lo t,.int hi u,.int 1 v] }).objs.size],_,_,H,rfl,
  I1.kept (t':=tk) fun b o e=>ael _ e,uR _ lo (hi - lo).toNat,?_,fun b hb=>?_,q⟩
 ·have e1:lo+((0:Nat):Int) * 1=lo:=by simp
  have e2:(((hi - lo).toNat:Nat):Int) - ((0:Nat):Int)=Builtin.Range.rangeSize lo hi 1:=by rw [rangeSize_one];split<;>lia
  show IsRangeIter _ _ (lo+((0:Nat):Int) * 1) ((((hi - lo).toNat:Nat):Int) - ((0:Nat):Int)) 1;rw [e1,e2];exact aeF _ rfl
 ·have e:b=(s.heap.push { cls:=.type "range",data:=.fields #[.int lo t,.int hi u,.int 1 v] }).objs.size:=by simpa using hb
  subst e;exact I1.fpOk (aep _) (I1.hok.fresh (aep _))
def adD (ta:TA):TI:=fun σ H R=>ta σ H fun vs H1=>∃ j:Int,vs=[.int j]/\-(2 ^ 62)<=j/\j < 2 ^ 62/\R (Itr 0 j.toNat) H1
theorem gk {a:Expr}{ta:TA}{p pos:Pos}(hg:Gl X "range")(hm:X.mg "range" = none)(ha:PA X [a] ta)(hs:starEach [a] X.env=[(false,eval a X.env)]:=by rfl):PI X tg (.Call (.Name "range" p) [a] [] pos) (adD ta):=by
 intro pins s σ H R I h;refine Call_ (jx I hg hm boot_range (afp (thn (ha pos pins s σ H _ I h) fun us s1 ⟨vs,H1,I1,r1,q1⟩=>?_) hs rfl));obtain⟨j,e,q1,q2,q⟩:=q1;subst e;cases r1 with
 | cons r rr =>
  cases rr;obtain⟨t,rfl⟩:=r;exact call_range_1 (yZ I1 (by lia) (by lia) q1 q2 (by simpa using q))
def aed (wi:TI)(g:TG)(tb:TS):TS:=fun D σ H=>wi σ H fun J H1=>∃ W:Nat->Nat->St->Hp->Prop,(∃ m,W 0 m σ H1)/\∀ i m σ H,W i m σ H →
 (J.stop i H/\D.nx σ H)\/(J.go i H/\∃ N:St->Hp->Prop,(∀ σ' H',N σ' H'->∃ m',m' < m/\W (i+1) m' σ' H')/\∀ x H',J.yld i H x H'->g x σ H' fun σ2 H2=>tb { D with nx:=N,ct:=N,bk:=D.nx } σ2 H2)
def fJ (fp:List Addr)(h:Heap):List (Addr×Obj):=fp.filterMap fun b=>(h.get? b).map fun o=>(b,o)
theorem aW {fp:List Addr}{h:Heap}{b:Addr}{o:Obj}(hb:b∈fp)(e:h.get? b=some o):(b,o)∈fJ fp h:=List.mem_filterMap.mpr ⟨b,hb,by rw [e];rfl⟩
theorem ym {fp:List Addr}{h:Heap}{p:Addr×Obj}(hp:p∈fJ fp h):p.1∈fp/\h.get? p.1=some p.2:=by
 obtain⟨b,hb,e⟩:=List.mem_filterMap.mp hp;cases q:h.get? b with
 | none=>rw [q] at e;cases e
 | some o =>
  rw [q] at e;have e':(b,o)=p:=afg e;subst e';exact⟨hb,q⟩
theorem Inv.pinned {pins:List (Addr×Obj)}{σ:St}{H:Hp}{s:Shared}{fp:List Addr}(I:Inv X pins σ H s)(hf:∀ b∈fp,jV X pins H b)(ho:∀ b∈fp,∃ o,s.heap.get? b=some o/\∀ v,o.data≠.cell v):Inv X (pins++fJ fp s.heap) σ H s :=
 I.pins_of fun p hp=>(aew.mp hp).elim (fun z=>I.pin p (aex _ z)) fun z=>by
  obtain⟨hb,e⟩:=ym z;obtain⟨f0,f1,f2,_⟩:=hf p.1 hb;obtain⟨o,e',d⟩:=ho p.1 hb;rw [e] at e';cases e';exact⟨e,f0,f1,f2,d⟩
theorem Inv.unpinned {pins pl:List (Addr×Obj)}{σ:St}{H:Hp}{s:Shared}(I:Inv X (pins++pl) σ H s):Inv X pins σ H s:=I.pins_of fun p hp=>I.pin p (aex _ (ahJ _ hp))
theorem cQ {iter:Expr}{body:List Stmt}{wi:TI}{g:TG}{tb:TS}{pos:Pos}(hp:PassesOwn (model X.prog X.w) X.A X.env X.xe)(hc:X.calm=true)(hi:PI X tg iter wi)(hg:PG X tg g)(hb:PSs X body tb)
 (hs:∀ x,foldedSetIterable iter X.env x=pure x:=by intro _;rfl):PS X (.For tg iter body [] pos) (aed wi g tb):=by
 intro pins s σ H D I h;refine wpAny_For (thn (hi pins s σ H _ I h) fun v s1 h1=>thn h1 fun itv s2 h2=>?_) hs;obtain⟨it,fp,tn,J,H2,e,I2,T,st2,f2,W,⟨m0,w0⟩,turn⟩:=h2;subst e;have stat:∀ {H':Hp},(∀ b∈fp,H' b=none)->∀ b∈fp,jV X pins H' b:=fun hn b hb=>⟨hn b hb,(f2 b hb).2⟩;refine codeAny_forLoop_any (fun n s'=>∃ i σ' H',Inv X pins σ' H' s'/\tn i s'.heap/\(∀ b∈fp,H' b=none)/\W i n σ' H') ?_ m0 ⟨0,σ,H2,I2,st2,fun b hb=>(f2 b hb).1,w0⟩;rintro n s3 ⟨i,σ3,H3,I3,st3,fr3,w3⟩;rcases turn i n σ3 H3 w3 with ⟨stop,qn⟩ | ⟨go,N,hN,step⟩
 ·refine agx hp (thn (T.done X rfl rfl rfl hc i pins s3 σ3 H3 X.xe I3 (stat fr3) st3 stop) fun r s4 ⟨hr,I4⟩=>?_);subst hr;exact ahi ⟨σ3,H3,I4,qn⟩
 ·refine agx hp (thn (T.item X rfl rfl rfl hc i pins s3 σ3 H3 X.xe I3 (stat fr3) st3 go) fun r s4 ⟨u,hr,h4⟩=>?_);subst hr;refine agx hp (thn h4 fun _ s5 ⟨x,H5,I5,r5,y5,st5,fr5⟩=>?_);have I5':=I5.pinned (stat fr5) (T.obj _ _ st5);refine agx hp (thn (hg _ s5 σ3 H5 x u _ I5' r5 (step x H5 y5)) fun _ s6 ⟨σ6,H6,I6,q6⟩=>?_);refine agx hp (thn (hb _ s6 σ6 H6 _ I6 q6) fun f s7 q7=>?_);have again:∀ {σ7:St} {H7:Hp},Inv X (pins++fJ fp s5.heap) σ7 H7 s7->N σ7 H7->∃ m,m < n/\∃ i σ' H',Inv X pins σ' H' s7/\tn i s7.heap/\(∀ b∈fp,H' b=none)/\W i m σ' H':=fun {σ7 H7} I7 n7=>by
   obtain⟨m',hm,w7⟩:=hN σ7 H7 n7;refine⟨m',hm,i+1,σ7,H7,I7.unpinned,T.keep _ _ _ st5 fun b hb o e=>(I7.pin (b,o) (aex _ (aex _ (aW hb e)))).1,fun b hb=>?_,w7⟩;obtain⟨o,e,d⟩:=T.obj _ _ st5 b hb;exact (I7.pin (b,o) (aex _ (aex _ (aW hb e)))).2.1
  cases f with
  | next=>obtain⟨σ7,H7,I7,n7⟩:=q7;exact again I7 n7
  | cont=>obtain⟨σ7,H7,I7,n7⟩:=q7;exact again I7 n7
  | brk=>obtain⟨σ7,H7,I7,q7⟩:=q7;exact⟨σ7,H7,I7.unpinned,q7⟩
  | ret v=>obtain⟨x7,σ7,H7,I7,r7,q7⟩:=q7;exact⟨x7,σ7,H7,I7.unpinned,r7,q7⟩
end
theorem dI {K:PySem.W.Frag}{a:Addr}{xs:List V}{g:TG}{tb:TS}{D:Ends}{σ:St}{H:Hp}(Pv:Nat->St->Hp->Prop)(h0:Pv 0 σ H)(hl:∀ i σ H,i<=xs.length->Pv i σ H->SqL K H a xs)
 (hs:∀ i x σ H,xs[i]? = some x->Pv i σ H->g x σ H fun σ2 H2=>tb { D with nx:=Pv (i+1),ct:=Pv (i+1),bk:=D.nx } σ2 H2)(hd:∀ σ H,Pv xs.length σ H->D.nx σ H) :
 ∃ W:Nat->Nat->St->Hp->Prop,(∃ m,W 0 m σ H)/\∀ i m σ H,W i m σ H →
  ((Itl K a).stop i H/\D.nx σ H)\/((Itl K a).go i H/\∃ N:St->Hp->Prop,(∀ σ' H',N σ' H'->∃ m',m' < m/\W (i+1) m' σ' H')/\∀ x H',(Itl K a).yld i H x H'->g x σ H' fun σ2 H2=>tb { D with nx:=N,ct:=N,bk:=D.nx } σ2 H2):=by
 refine⟨fun i m σ H=>m=xs.length - i/\i<=xs.length/\Pv i σ H,⟨xs.length,by simp,aeM _,h0⟩,?_⟩;rintro i m σ H ⟨rfl,hi,p⟩;have q:=hl i σ H hi p;by_cases hlt:i < xs.length
 ·refine .inr ⟨⟨xs,xs[i],q,by simp [hlt]⟩,Pv (i+1),fun σ' H' p'=>⟨xs.length - (i+1),by lia,rfl,hlt,p'⟩,fun x H' y=>?_⟩;obtain⟨e,y⟩:=y;subst e;exact hs i x σ _ (y xs q) p
 ·have e:i=xs.length:=by lia
  subst e;exact .inl ⟨⟨xs,q,aep _⟩,hd σ H p⟩
theorem iy {lo:Int}{n:Nat}{g:TG}{tb:TS}{D:Ends}{σ:St}{H:Hp}(Pv:Nat->St->Hp->Prop)(h0:Pv 0 σ H)
 (hs:∀ i σ H,i < n->Pv i σ H->g (.int (lo+i)) σ H fun σ2 H2=>tb { D with nx:=Pv (i+1),ct:=Pv (i+1),bk:=D.nx } σ2 H2)(hd:∀ σ H,Pv n σ H->D.nx σ H) :
 ∃ W:Nat->Nat->St->Hp->Prop,(∃ m,W 0 m σ H)/\∀ i m σ H,W i m σ H →
  ((Itr lo n).stop i H/\D.nx σ H)\/((Itr lo n).go i H/\∃ N:St->Hp->Prop,(∀ σ' H',N σ' H'->∃ m',m' < m/\W (i+1) m' σ' H')/\∀ x H',(Itr lo n).yld i H x H'->g x σ H' fun σ2 H2=>tb { D with nx:=N,ct:=N,bk:=D.nx } σ2 H2):=by
 refine⟨fun i m σ H=>m=n - i/\i<=n/\Pv i σ H,⟨n,by simp,aeM _,h0⟩,?_⟩;rintro i m σ H ⟨rfl,hi,p⟩;by_cases hlt:i < n
 ·refine .inr ⟨hlt,Pv (i+1),fun σ' H' p'=>⟨n - (i+1),by lia,rfl,hlt,p'⟩,fun x H' y=>?_⟩;obtain⟨e,y⟩:=y;subst e y;exact hs i σ _ hlt p
 ·have e:i=n:=by lia
  subst e;exact .inl ⟨aep _,hd σ H p⟩
abbrev R2:=V->V->Hp->VK->Prop
def OpR (X:Cx)(f:Value->Value->Sem Value)(r:R2):Prop :=
 ∀ (pins:List (Addr×Obj)) (s:Shared) (σ:St) (H:Hp) (x y:V) (v u:Value) (Q:VK),Inv X pins σ H s->RelV x v->RelV y u->r x y H Q →
  wpAny (model X.prog X.w) X.A (f v u) (EP X pins σ Q) X.xe s
def UnR (X:Cx)(f:Value->Sem Value)(r:V->Hp->VK->Prop):Prop :=
 ∀ (pins:List (Addr×Obj)) (s:Shared) (σ:St) (H:Hp) (x:V) (v:Value) (Q:VK),Inv X pins σ H s->RelV x v->r x H Q →
  wpAny (model X.prog X.w) X.A (f v) (EP X pins σ Q) X.xe s
def gI (X:Cx)(f:Value)(r:List V->Hp->VK->Prop):Prop :=
 ∀ (pins:List (Addr×Obj)) (s:Shared) (σ:St) (H:Hp) (xs:List V) (us:List Value) (Q:VK),Inv X pins σ H s->Vals xs us->r xs H Q →
  wpAny (model X.prog X.w) X.A (call f us) (EP X pins σ Q) X.xe s
def ad0 (X:Cx)(r:V->Hp->(Bool->Hp->Prop)->Prop):Prop :=
 ∀ (pins:List (Addr×Obj)) (s:Shared) (σ:St) (H:Hp) (x:V) (v:Value) (Q:Bool->Hp->Prop),Inv X pins σ H s->RelV x v->r x H Q →
  wpAny (model X.prog X.w) X.A (truthy v) (TP X pins σ Q) X.xe s
def tOp (r:R2)(ta tb:TE):TE:=fun σ H Q=>ta σ H fun x H1=>tb σ H1 fun y H2=>r x y H2 Q
def tUn (r:V->Hp->VK->Prop)(ta:TE):TE:=fun σ H Q=>ta σ H fun x H1=>r x H1 Q
def rI (C:Int->Int->Prop)(g:Int->Int->V):R2:=fun x y H Q=>∃ i j,x=.int i/\y=.int j/\C i j/\Q (g i j) H
def rI0 (g:Int->Int->V):R2:=fun x y H Q=>∃ i j,x=.int i/\y=.int j/\Q (g i j) H
def rU (g:Int->V):V->Hp->VK->Prop:=fun x H Q=>∃ i,x=.int i/\Q (g i) H
section
variable {X:Cx}{a b c:Expr}{ta tb tc:TE}{pos:Pos}
theorem ac6 (ha:PE X a ta)(hb:PE X b tb){pins:List (Addr×Obj)}{s:Shared}{σ:St}{H:Hp}{R:V->V->Hp->Prop}(I:Inv X pins σ H s)
 (h:ta σ H fun x H1=>tb σ H1 fun y H2=>R x y H2){Q:Value->Shared->Prop}{f:Value->Value->Sem Value}
 (hf:∀ v u s2 x y H2,Inv X pins σ H2 s2->RelV x v->RelV y u->R x y H2->wpAny (model X.prog X.w) X.A (f v u) Q X.xe s2) :
 wpAny (model X.prog X.w) X.A (eval a X.env) (fun v s₁=>wpAny (model X.prog X.w) X.A (eval b X.env) (fun u s₂=>wpAny (model X.prog X.w) X.A (f v u) Q X.xe s₂) X.xe s₁) X.xe s:=by
 refine thn (ha pins s σ H _ I h) fun v s1 ⟨x,H1,I1,r1,q1⟩=>?_;refine thn (hb pins s1 σ H1 _ I1 q1) fun u s2 ⟨y,H2,I2,r2,q2⟩=>?_;exact hf v u s2 x y H2 I2 r1 r2 q2
theorem bj {op:Operator}{r:R2}(ho:OpR X (binaryOp op) r)(ha:PE X a ta)(hb:PE X b tb):PE X (.BinOp a op b pos) (tOp r ta tb):=by
 intro pins s σ H Q I h;exact wpAny_BinOp (ac6 ha hb I h fun v u s2 x y H2 I2 rx ry q=>ho pins s2 σ H2 x y v u Q I2 rx ry q)
theorem yS {op:UnaryOp}{r:V->Hp->VK->Prop}(ho:UnR X (unaryOp op) r)(ha:PE X a ta):PE X (.UnaryOp op a pos) (tUn r ta):=by
 intro pins s σ H Q I h;exact UnaryOp_ (thn (ha pins s σ H _ I h) fun v s1 ⟨x,H1,I1,r1,q1⟩=>ho pins s1 σ H1 x v Q I1 r1 q1)
theorem opI {f:Value->Value->Sem Value}{C:Int->Int->Prop}{g:Int->Int->Int}
 (rule:∀ (i j:Int) (t u:Tok) (s:Shared) (Q:Value->Shared->Prop) (E:Value->Shared->Prop),C i j->Q (.int (g i j) s.toks) { s with toks:=s.toks+1 }->wpAny (model X.prog X.w) X.A (f (.int i t) (.int j u)) Q E s) :
 OpR X f (rI C fun i j=>.int (g i j)):=by
 intro pins s σ H x y v u Q I rx ry h;obtain⟨i,j,rfl,rfl,hc,q⟩:=h;obtain⟨t,rfl⟩:=rx;obtain⟨t',rfl⟩:=ry;exact rule i j t t' s _ _ hc ⟨.int (g i j),H,I.tok _,⟨_,rfl⟩,q⟩
theorem acW {f:Value->Value->Sem Value}{g:Int->Int->Int}
 (rule:∀ (i j:Int) (t u:Tok) (s:Shared) (Q:Value->Shared->Prop) (E:Value->Shared->Prop),Q (.int (g i j) s.toks) { s with toks:=s.toks+1 }->wpAny (model X.prog X.w) X.A (f (.int i t) (.int j u)) Q E s) :
 OpR X f (rI0 fun i j=>.int (g i j)):=by
 intro pins s σ H x y v u Q I rx ry h;obtain⟨i,j,rfl,rfl,q⟩:=h;obtain⟨t,rfl⟩:=rx;obtain⟨t',rfl⟩:=ry;exact rule i j t t' s _ _ ⟨.int (g i j),H,I.tok _,⟨_,rfl⟩,q⟩
theorem acY {f:Value->Value->Sem Value}{g:Int->Int->Bool}
 (rule:∀ (i j:Int) (t u:Tok) (s:Shared) (Q:Value->Shared->Prop) (E:Value->Shared->Prop),Q (.bool (g i j)) s->wpAny (model X.prog X.w) X.A (f (.int i t) (.int j u)) Q E s) :
 OpR X f (rI0 fun i j=>.bl (g i j)):=by
 intro pins s σ H x y v u Q I rx ry h;obtain⟨i,j,rfl,rfl,q⟩:=h;obtain⟨t,rfl⟩:=rx;obtain⟨t',rfl⟩:=ry;exact rule i j t t' s _ _ ⟨.bl (g i j),H,I,rfl,q⟩
def aec (i j:Int):Prop:=0 < j/\j < 1073741824
def adO (i j:Int):Prop:=0<=j/\j<=1000000/\i.natAbs < 2 ^ 64
def CMul (i j:Int):Prop:=(-(2 ^ 64) < i/\i < 2 ^ 64)\/(-(2 ^ 64) < j/\j < 2 ^ 64)
theorem CMul.ok {i j:Int}(h:CMul i j):IntMulOk i j:=by
 rcases h with ⟨h1,h2⟩ | ⟨h1,h2⟩
 ·exact .of_left (intBits_le_64 h1 h2)
 ·exact .of_right (intBits_le_64 h1 h2)
theorem vg (k:Nat):(0:Int)<=2 ^ k:=by
 rw [two_pow_cast];exact Int.natCast_nonneg _
theorem fq:OpR X (binaryOp .Add) (rI0 fun i j=>.int (i+j)):=acW fun _ _ _ _ _ _ _ q=>add_int q
theorem tZ:OpR X (binaryOp .Sub) (rI0 fun i j=>.int (i - j)):=acW fun _ _ _ _ _ _ _ q=>sub_int q
theorem pQ:OpR X (binaryOp .Mult) (rI CMul fun i j=>.int (i * j)):=opI fun _ _ _ _ _ _ _ hc q=>mul_int q hc.ok
theorem xT:OpR X (binaryOp .FloorDiv) (rI aec fun i j=>.int (i / j)):=opI fun i j _ _ _ _ _ hc q=>by
 have h1:(0:Int) < j:=hc.1;have h2:j < 1073741824:=hc.2;exact floordiv_int (by lia) (by rw [ah2 i (by lia)];exact q) (.inl (PyProof.noPylong_small (by lia)))
theorem oo:OpR X (binaryOp .Mod) (rI (fun _ j=>0 < j) fun i j=>.int (i % j)):=opI fun i j _ _ _ _ _ hc q=>by
 have h1:(0:Int) < j:=hc;exact mod_int' (by lia) (by rw [Int.fmod_eq_emod_of_nonneg i (by lia)];exact q)
theorem ack:OpR X (binaryOp .Pow) (rI adO fun i j=>.int (i ^ j.toNat)):=opI fun _ _ _ _ _ _ _ hc q=>pow_int_small hc.1 hc.2.1 hc.2.2 q
theorem aai:OpR X (binaryOp .LShift) (rI adO fun i j=>.int (i * 2 ^ j.toNat)):=opI fun _ _ _ _ _ _ _ hc q=>lshift_int_small hc.1 hc.2.1 hc.2.2 q
theorem acC:OpR X (binaryOp .RShift) (rI (fun _ j=>0<=j) fun i j=>.int (i / 2 ^ j.toNat)):=opI fun i j _ _ _ _ _ hc q =>
 rshift_int hc (by rw [ah2 i (vg _)];exact q)
theorem acf:OpR X (binaryOp .BitAnd) (rI0 fun i j=>.int (Builtin.bitAnd i j)):=acW fun _ _ _ _ _ _ _ q=>and_int q
theorem ads:OpR X (binaryOp .BitOr) (rI0 fun i j=>.int (Builtin.bitOr i j)):=acW fun _ _ _ _ _ _ _ q=>or_int q
theorem unI {f:Value->Sem Value}{g:Int->Int}
 (rule:∀ (i:Int) (t:Tok) (s:Shared) (Q:Value->Shared->Prop) (E:Value->Shared->Prop),Q (.int (g i) s.toks) { s with toks:=s.toks+1 }->wpAny (model X.prog X.w) X.A (f (.int i t)) Q E s) :
 UnR X f (rU fun i=>.int (g i)):=by
 intro pins s σ H x v Q I rx h;obtain⟨i,rfl,q⟩:=h;obtain⟨t,rfl⟩:=rx;exact rule i t s _ _ ⟨.int (g i),H,I.tok _,⟨_,rfl⟩,q⟩
theorem uk:UnR X (unaryOp .USub) (rU fun i=>.int (-i)):=unI fun _ _ _ _ _ q=>neg_int q
end
def adS:V->V->Bool
 | .non,.non=>true | .non,.int _=>true | .int _,.non=>true | .non,.bl _=>true | .bl _,.non=>true | .non,.str _=>true | .str _,.non=>true
 | .int _,.int _=>true | .bl _,.bl _=>true | .str _,.str _=>true | .byt _,.byt _=>true
 | .int _,.str _=>true | .str _,.int _=>true | .bl _,.str _=>true | .str _,.bl _=>true
 | _,_=>false
def rEq:R2:=fun x y H Q=>adS x y=true/\Q (.bl (decide (x=y))) H
def rNe:R2:=fun x y H Q=>adS x y=true/\Q (.bl (!decide (x=y))) H
theorem xS {i j:Int}:decide (V.int i=V.int j)=(i == j):=by
 rw [afP];simp
theorem z6 {i j:Bool}:decide (V.bl i=V.bl j)=(i == j):=by
 rw [afP];simp
theorem xC {i j:Str}:decide (V.str i=V.str j)=(i == j):=by
 rw [afP];simp
theorem vJ {i j:Array UInt8}:decide (V.byt i=V.byt j)=(i.toList == j.toList):=by
 rw [afP];cases i;cases j;simp
section
variable {X:Cx}{a b c:Expr}{ta tb tc:TE}{pos:Pos}
theorem bp {pins:List (Addr×Obj)}{σ:St}{H:Hp}{s:Shared}{Q:VK}{k k':Bool}(I:Inv X pins σ H s)(q:Q (.bl k) H)(e:k=k'):EP X pins σ Q (.bool k') s:=by
 subst e;exact⟨.bl k,H,I,rfl,q⟩
theorem vw:OpR X (compareOp .Eq) rEq:=by
 intro pins s σ H x y v u Q I rx ry h;obtain⟨hs,q⟩:=h;cases x with
 | non =>
  cases rx;cases y with
  | non=>cases ry;exact PySem.EqNone.eq_none_none (bp I q (by simp))
  | bl j=>cases ry;exact PySem.EqNone.eq_none_bool (bp I q (by simp))
  | int j=>obtain⟨t',rfl⟩:=ry;exact PySem.EqNone.eq_none_int (bp I q (by simp))
  | str j=>obtain⟨t',rfl⟩:=ry;exact PySem.EqNone.eq_none_str (bp I q (by simp))
  | _=>exact absurd (show false=true from hs) aem
 | bl i =>
  cases rx;cases y with
  | non=>cases ry;exact PySem.EqNone.eq_bool_none (bp I q (by simp))
  | bl j=>cases ry;exact eq_bool (bp I q z6)
  | str j=>obtain⟨t',rfl⟩:=ry;exact PySem.EqMixed.eq_bool_str (bp I q (by simp))
  | _=>exact absurd (show false=true from hs) aem
 | int i =>
  obtain⟨t,rfl⟩:=rx;cases y with
  | non=>cases ry;exact PySem.EqNone.eq_int_none (bp I q (by simp))
  | int j=>obtain⟨t',rfl⟩:=ry;exact eq_int (bp I q xS)
  | str j=>obtain⟨t',rfl⟩:=ry;exact PySem.EqMixed.eq_int_str (bp I q (by simp))
  | _=>exact absurd (show false=true from hs) aem
 | str i =>
  obtain⟨t,rfl⟩:=rx;cases y with
  | non=>cases ry;exact PySem.EqNone.eq_str_none (bp I q (by simp))
  | bl j=>cases ry;exact PySem.EqMixed.eq_str_bool (bp I q (by simp))
  | int j=>obtain⟨t',rfl⟩:=ry;exact PySem.EqMixed.eq_str_int (bp I q (by simp))
  | str j=>obtain⟨t',rfl⟩:=ry;exact eq_str (bp I q xC)
  | _=>exact absurd (show false=true from hs) aem
 | byt i =>
  obtain⟨t,rfl⟩:=rx;cases y with
  | byt j=>obtain⟨t',rfl⟩:=ry;exact PySem.W.eq_bytes (bp I q vJ)
  | _=>exact absurd (show false=true from hs) aem
 | _=>cases y<;>exact absurd (show false=true from hs) aem
theorem pX:OpR X (compareOp .NotEq) rNe:=by
 intro pins s σ H x y v u Q I rx ry h;obtain⟨hs,q⟩:=h;cases x with
 | non =>
  cases rx;cases y with
  | non=>cases ry;exact PySem.EqNone.ne_none_none (bp I q (by simp))
  | bl j=>cases ry;exact PySem.EqNone.ne_none_bool (bp I q (by simp))
  | int j=>obtain⟨t',rfl⟩:=ry;exact PySem.EqNone.ne_none_int (bp I q (by simp))
  | str j=>obtain⟨t',rfl⟩:=ry;exact PySem.EqNone.ne_none_str (bp I q (by simp))
  | _=>exact absurd (show false=true from hs) aem
 | bl i =>
  cases rx;cases y with
  | non=>cases ry;exact PySem.EqNone.ne_bool_none (bp I q (by simp))
  | bl j=>cases ry;exact ne_bool (bp I q (afy not z6))
  | str j=>obtain⟨t',rfl⟩:=ry;exact PySem.EqMixed.ne_bool_str (bp I q (by simp))
  | _=>exact absurd (show false=true from hs) aem
 | int i =>
  obtain⟨t,rfl⟩:=rx;cases y with
  | non=>cases ry;exact PySem.EqNone.ne_int_none (bp I q (by simp))
  | int j=>obtain⟨t',rfl⟩:=ry;exact ne_int (bp I q (afy not xS))
  | str j=>obtain⟨t',rfl⟩:=ry;exact PySem.EqMixed.ne_int_str (bp I q (by simp))
  | _=>exact absurd (show false=true from hs) aem
 | str i =>
  obtain⟨t,rfl⟩:=rx;cases y with
  | non=>cases ry;exact PySem.EqNone.ne_str_none (bp I q (by simp))
  | bl j=>cases ry;exact PySem.EqMixed.ne_str_bool (bp I q (by simp))
  | int j=>obtain⟨t',rfl⟩:=ry;exact PySem.EqMixed.ne_str_int (bp I q (by simp))
  | str j=>obtain⟨t',rfl⟩:=ry;exact ne_str (bp I q (afy not xC))
  | _=>exact absurd (show false=true from hs) aem
 | byt i =>
  obtain⟨t,rfl⟩:=rx;cases y with
  | byt j=>obtain⟨t',rfl⟩:=ry;exact PySem.W.ne_bytes (bp I q (afy not vJ))
  | _=>exact absurd (show false=true from hs) aem
 | _=>cases y<;>exact absurd (show false=true from hs) aem
theorem zo:OpR X (compareOp .Lt) (rI0 fun i j=>.bl (decide (i < j))):=acY fun _ _ _ _ _ _ _ q=>lt_int q
theorem wR:OpR X (compareOp .LtE) (rI0 fun i j=>.bl (decide (i<=j))):=acY fun _ _ _ _ _ _ _ q=>le_int q
theorem abL:OpR X (compareOp .Gt) (rI0 fun i j=>.bl (decide (j < i))):=acY fun _ _ _ _ _ _ _ q=>gt_int q
theorem abw:OpR X (compareOp .GtE) (rI0 fun i j=>.bl (decide (j<=i))):=acY fun _ _ _ _ _ _ _ q=>ge_int q
theorem xa:OpR X (compareOp .In) (fun x y H Q=>∃ i j,x=.str i/\y=.str j/\Q (.bl (!(Builtin.Str.occurrences j i 0 j.length 1).isEmpty)) H):=by
 intro pins s σ H x y v u Q I rx ry h;obtain⟨i,j,rfl,rfl,q⟩:=h;obtain⟨t,rfl⟩:=rx;obtain⟨t',rfl⟩:=ry;exact in_str (bp I q rfl)
theorem aaK:OpR X (compareOp .IsNot) (fun x y H Q=>y=.non/\Q (.bl (!decide (x=.non))) H):=by
 intro pins s σ H x y v u Q I rx ry h;obtain⟨rfl,q⟩:=h;cases ry;refine isnot_none_gen (bp I q ?_);cases x<;>first
  | (cases rx;rfl)
  | (obtain⟨t,rfl⟩:=rx;rfl)
theorem bM (b:Expr){op:CmpOp}(h:op≠.In:=by decide)(h2:op≠.NotIn:=by decide):behindInMarks op b=false:=by
 have e1:(op == CmpOp.In)=false:=by cases op<;>first | rfl | exact absurd rfl h
 have e2:(op == CmpOp.NotIn)=false:=by cases op<;>first | rfl | exact absurd rfl h2
 cases b<;>simp [behindInMarks,e1,e2]
theorem eh {op:CmpOp}{r:R2}(ho:OpR X (compareOp op) r)(ha:PE X a ta)(hb:PE X b tb)(hm:behindInMarks op b=false):PE X (.Compare a [op] [b] pos) (tOp r ta tb):=by
 intro pins s σ H Q I h;exact wpAny_Compare1 (ac6 ha hb I h fun v u s2 x y H2 I2 rx ry q=>ho pins s2 σ H2 x y v u Q I2 rx ry q) hm
def zw (t:TE):TT:=fun σ H Q=>t σ H fun x H'=>∃ k,x=.bl k/\Q k H'
theorem aT {op:CmpOp}{r:R2}(ho:OpR X (compareOp op) r)(ha:PE X a ta)(hb:PE X b tb)(hm:behindInMarks op b=false):PT X (.Compare a [op] [b] pos) (zw (tOp r ta tb)):=by
 intro pins s σ H Q I h;refine wpAny_isTrue_Compare1 (thn (ha pins s σ H _ I h) fun v s1 ⟨x,H1,I1,r1,q1⟩=>thn (hb pins s1 σ H1 _ I1 q1) fun u s2 ⟨y,H2,I2,r2,q2⟩ =>
  thn (ho pins s2 σ H2 x y v u _ I2 r1 r2 q2) fun c s3 ⟨z,H3,I3,r3,k,e,q3⟩=>?_) hm
 subst e;cases r3;exact afu ⟨H3,I3,q3⟩
def zZ (r r':R2)(ta tb tc:TE):TE:=fun σ H Q=>ta σ H fun x H1=>tb σ H1 fun y H2=>r x y H2 fun z H3=>∃ k,z=.bl k ∧
 (if k=true then tc σ H3 fun w' H4=>r' y w' H4 Q else Q (.bl false) H3)
theorem yX {op op':CmpOp}{r r':R2}(ho:OpR X (compareOp op) r)(ho':OpR X (compareOp op') r')(ha:PE X a ta)(hb:PE X b tb)(hc:PE X c tc)
 (hm:lastMarks [op,op'] [b,c]=false:=by with_unfolding_all rfl):PE X (.Compare a [op,op'] [b,c] pos) (zZ r r' ta tb tc):=by
 intro pins s σ H Q I h;refine Compare_chain (thn (ha pins s σ H _ I h) fun v s1 ⟨x,H1,I1,r1,q1⟩=>chain_link (thn (hb pins s1 σ H1 _ I1 q1) fun u s2 ⟨y,H2,I2,r2,q2⟩ =>
  thn (ho pins s2 σ H2 x y v u _ I2 r1 r2 q2) fun d s3 ⟨z,H3,I3,r3,k,e,q3⟩=>?_)) hm
 subst e;cases r3;refine afu ?_;cases k with
 | false=>exact ite_ff ⟨.bl false,H3,I3,rfl,q3⟩
 | true=>exact ite_tt (chain_last (thn (hc pins s3 σ H3 _ I3 q3) fun w' s4 ⟨z',H4,I4,r4,q4⟩=>ho' pins s4 σ H4 y z' u w' Q I4 r2 r4 q4))
theorem tK {op op':CmpOp}{r r':R2}(ho:OpR X (compareOp op) r)(ho':OpR X (compareOp op') r')(ha:PE X a ta)(hb:PE X b tb)(hc:PE X c tc)
 (hm:lastMarks [op,op'] [b,c]=false:=by with_unfolding_all rfl):PT X (.Compare a [op,op'] [b,c] pos) (zw (zZ r r' ta tb tc)):=by
 intro pins s σ H Q I h;refine isTrue_chain (thn (ha pins s σ H _ I h) fun v s1 ⟨x,H1,I1,r1,q1⟩=>test_link (thn (hb pins s1 σ H1 _ I1 q1) fun u s2 ⟨y,H2,I2,r2,q2⟩ =>
  thn (ho pins s2 σ H2 x y v u _ I2 r1 r2 q2) fun d s3 ⟨z,H3,I3,r3,k,e,q3⟩=>?_)) hm
 subst e;cases r3;refine afu ?_;cases k with
 | false =>
  obtain⟨k',e',q'⟩:=q3;cases e';exact ite_ff ⟨H3,I3,q'⟩
 | true =>
  refine ite_tt (test_last (thn (hc pins s3 σ H3 _ I3 q3) fun w' s4 ⟨z',H4,I4,r4,q4⟩=>thn (ho' pins s4 σ H4 y z' u w' _ I4 r2 r4 q4) fun d' s5 ⟨z2,H5,I5,r5,k2,e2,q5⟩=>?_));subst e2;cases r5;exact afu ⟨H5,I5,q5⟩
def ada (K:PySem.W.Frag)(x:V)(H:Hp)(k:Bool):Prop :=
 match x with
 | .non=>k=false
 | .bl b=>k=b
 | .int i=>k=(i != 0)
 | .str y=>y.length<=sizeLine/\k=((y.length:Int) != 0)
 | .byt y=>y.size<=sizeLine/\k=((y.size:Int) != 0)
 | .ref p=>(∃ xs,SqL K H p xs/\k=!xs.isEmpty)\/(∃ xs,SqT K H p xs/\k=!xs.isEmpty)\/∃ kvs,H p=some (.dK kvs)/\k=!kvs.isEmpty
 | _=>False
theorem uL {κ:Type}{kvs:List (κ×V)}{vs:List (κ×Value)}(r:KV kvs vs):(!vs.isEmpty)=!kvs.isEmpty:=by
 cases r<;>rfl
theorem oy {xs:List V}{its:List Value}(r:Vals xs its):(!its.toArray.isEmpty)=!xs.isEmpty:=by
 cases r<;>simp
theorem kI:(sizeLine:Nat) < 2 ^ 63:=by rw [af7];decide
theorem acA:ad0 X (fun x H Q=>∃ k,ada X.K x H k/\Q k H):=by
 intro pins s σ H x v Q I rx h;obtain⟨k,e,q⟩:=h;have hl:=kI;have hs:sizeLine=16777216:=af7;cases x with
 | non =>
  cases rx;have e':k=false:=e;subst e';exact truthy_none ⟨H,I,q⟩
 | bl b =>
  cases rx;have e':k=b:=e;subst e';exact afu ⟨H,I,q⟩
 | int i =>
  obtain⟨t,rfl⟩:=rx;have e':k=(i != 0):=e;subst e';exact PySem.P.truthy_int ⟨H,I,q⟩
 | str y =>
  obtain⟨t,rfl⟩:=rx;obtain⟨hy,e'⟩:y.length<=sizeLine/\k=((y.length:Int) != 0):=e;subst e';exact PySem.P.truthy_str (by lia) ⟨H,I.tok _,q⟩
 | byt y =>
  obtain⟨t,rfl⟩:=rx;obtain⟨hy,e'⟩:y.size<=sizeLine/\k=((y.size:Int) != 0):=e;subst e';exact PySem.W.truthy_bytes (by lia) ⟨H,I.tok _,q⟩
 | ref p =>
  cases rx;have e':(∃ xs,SqL X.K H p xs/\k=!xs.isEmpty)\/(∃ xs,SqT X.K H p xs/\k=!xs.isEmpty)\/∃ kvs,H p=some (.dK kvs)/\k=!kvs.isEmpty:=e;rcases e' with ⟨xs,hx,e'⟩ | ⟨xs,hx,e'⟩ | ⟨kvs,hx,e'⟩
  ·subst e';obtain⟨its,r,pl,hz⟩:=I.list hx;have hlen:=r.length;exact wpAny_truthy_list pl.isList (by simp only [aeH];lia) ⟨H,I.tok _,by rw [oy r];exact q⟩
  ·subst e';obtain⟨its,r,pl,hz⟩:=I.tuple hx;have hlen:=r.length;exact truthy_tuple pl (by simp only [aeH];lia) ⟨H,I.tok _,by rw [oy r];exact q⟩
  ·subst e';obtain⟨hz,hS,vs,r,m⟩:kvs.length<=sizeLine/\(p == sysModules)=false/\∃ vs,KV kvs vs/\s.heap.DictOf (aX X.prog X.w) p vs:=I.hok p _ hx;have hlen:kvs.length=vs.length:=aix r;exact wpAny_truthy_dict hS m (by lia) ⟨H,I.tok _,by rw [uL r];exact q⟩
 | _=>exact (show False from e).elim
theorem tT (ha:PE X a ta)(he:∀ whole,isTrue a X.env whole=(do let v ← whole;standAt a.pos;holding [v] (truthy v))) :
 PT X a (fun σ H Q=>ta σ H fun x H'=>∃ k,ada X.K x H' k/\Q k H'):=by
 intro pins s σ H Q I h;exact isTrue_plain (thn (ha pins s σ H _ I h) fun v s1 ⟨x,H1,I1,r1,q1⟩=>acA pins s1 σ H1 x v Q I1 r1 q1) (he _)
theorem nP:OpR X (binaryOp .Add) (fun x y H Q=>∃ i j,x=.str i/\y=.str j/\i.length+j.length<=sizeLine/\Q (.str (i++j)) H):=by
 intro pins s σ H x y v u Q I rx ry h;obtain⟨i,j,rfl,rfl,hz,q⟩:=h;obtain⟨t,rfl⟩:=rx;obtain⟨t',rfl⟩:=ry;exact add_str (fun t' tk=>⟨.str (i++j),H,I.tok _,⟨_,rfl⟩,q⟩) hz
theorem iE {x:V}{us:List Value}(r:Vals [x] us):∃ u,us=[u]/\RelV x u:=by
 cases r with
 | cons r1 r2=>cases r2;exact⟨_,rfl,r1⟩
theorem adb {x y:V}{us:List Value}(r:Vals [x,y] us):∃ u w',us=[u,w']/\RelV x u/\RelV y w':=by
 cases r with
 | cons r1 r2 =>
  cases r2 with
  | cons r3 r4=>cases r4;exact⟨_,_,rfl,r1,r3⟩
theorem jL:gI X (.type "int") (fun xs H Q=>(∃ i,xs=[.int i]/\Q (.int i) H)\/∃ k,xs=[.bl k]/\Q (.int (if k then 1 else 0)) H):=by
 intro pins s σ H xs us Q I r h;rcases h with ⟨i,rfl,q⟩ | ⟨k,rfl,q⟩
 ·obtain⟨u,rfl,t,rfl⟩:=iE r;exact call_int_int ⟨.int i,H,I,⟨_,rfl⟩,q⟩
 ·obtain⟨u,rfl,r1⟩:=iE r;cases r1;exact call_int_bool ⟨.int (if k then 1 else 0),H,I.tok _,⟨_,rfl⟩,q⟩
end
structure ObjM (h:Heap)(x dx C:Addr)(mA:Str->Option Value):Prop where
 obj:h.get? x=some (instObj C dx)
 ns:h.Ns1 dx mA
 ne:dx≠x
theorem xZ {h:Heap}{dx:Addr}{mA:Str->Option Value}(n:h.Ns1 dx mA):∃ od,h.get? dx=some od/\∀ name,lookIn name od=some (mA name):=by
 obtain⟨o,es,ep,ho,hd,hk,_,hm⟩:=n;refine⟨o,ho,fun name=>?_⟩;have e:=hm name;unfold nsFind findBy at e;rw [← Array.find?_toList] at e;unfold lookIn;rw [hd];dsimp only;split
 ·rename_i y q;rw [q] at e;exact afy some e
 ·rename_i q;rw [q] at e;have a:es.toList.any (·.refKey)=false:=by
   rw [List.any_eq_false];intro y hy;obtain⟨z,t,hkey⟩:=hk y (Array.mem_toList_iff.mp hy);simp [DictEntry.refKey,hkey]
  have a':¬ es.toList.any (·.refKey)=true:=by rw [a];exact aem
  rw [if_neg a'];exact afy some e
theorem ObjM.look {h:Heap}{x dx C:Addr}{mA:Str->Option Value}(I:ObjM h x dx C mA):∃ od,PySem.W.InstAt h x (instObj C dx) C (some od)/\∀ name,lookIn name od=some (mA name) :=
 let ⟨od,ho,hl⟩:=xZ I.ns
 ⟨od,⟨I.obj,rfl,rfl,ho⟩,hl⟩
section
variable {prog:Program}{w:World}{A:Around}{E:Value->Shared->Prop}{s:Shared}{K:PySem.W.Frag}{x dx C f:Addr}{mA:Str->Option Value}{name:Str}{v:Value}
theorem abb {expr:Bool}{Q:Value->Shared->Prop}(X:K.In s.heap)(I:ObjM s.heap x dx C mA)(hg:plainGet K C name=true)(hh:hasDictIn K C=true)
 (ha:findIn K (.ref C) name=some none)(hv:mA name=some v)(hv':handedIn v=true)(h:Q v { s with toks:=s.toks+1 }) :
 wpAny (model prog w) A (getAttr (.ref x) name expr) Q E s:=by
 obtain⟨od,J,hl⟩:=I.look;exact PySem.W.get_value X J (ahO hg).1 (PySem.W.findObj_own hh ha rfl (by rw [hl,hv])) hv' h
theorem yq {pl:Sem Bool}{Q:Value×List Value->Shared->Prop}(X:K.In s.heap)(I:ObjM s.heap x dx C mA)(hg:plainGet K C name=true)
 (hf:findIn K (.ref C) name=some (some (.ref f)))(ht:isFn K (.ref f)=true)(hv:mA name=none)(h:Q (.ref f,[.ref x]) s) :
 wpAny (model prog w) A (getMethod (.ref x) name pl) Q E s:=by
 obtain⟨od,J,hl⟩:=I.look;exact PySem.W.method_fn X J (ahO hg).1 (ahO hg).2 hf (aeR.mp ht) (by show (lookIn name od).map (·.isSome)=some false;rw [hl,hv];rfl) h
theorem aay {ns:List Str}{Q:Unit->Shared->Prop}(X:K.In s.heap)(I:ObjM s.heap x dx C mA)
 (hs:findIn K (.ref C) "__setattr__" = some (some (.builtin "object.__setattr__")))(hp:plainOver K C=true)(ht:takerIn K C name=some none)(hh:hasDictIn K C=true)
 (hw:PySem.Within mA ns)(hsz:ns.length<=sizeLine)
 (h:∀ h',ObjM h' x dx C (fun y=>if y=name then some v else mA y)->Heap.SameBut dx s.heap h'->Q () { s with heap:=h',toks:=s.toks+2 }) :
 wpAny (model prog w) A (setAttr (.ref x) name v) Q E s:=by
 obtain⟨od,J,hl⟩:=I.look;refine PySem.W.set_plain X J hs (PySem.W.osa_open (s:={ s with toks:=s.toks+1 }) (r:=none) X J hp ht fun b=>?_);obtain⟨cd,hc,hd'⟩:=PySem.W.any_some hh;have hx:s.heap.get? x=some ⟨.ref C,some dx,.plain,#[]⟩:=I.obj;refine aei (aen (aei (aei (wpAny_loadPart hx (aei (PySem.W.Looks.here (s:={ s with toks:=s.toks+1 }) (PySem.W.looks_clsIn X hc) ?_))))));rw [hd'];refine aen (a:=some dx) (aei (aen (aei ?_)));refine wpAny_nsSet1 (s:={ s with toks:=s.toks+1 }) I.ns fun h' hn2 hs2=>?_;obtain⟨oD,esD,epD,hoD,hdD,hcD⟩:=hn2.count (PySem.Within.cons name v hw);refine aei (wpAny_lookBehind hoD (by rw [hdD];exact pastItsLine_dict (aeN hcD (by rw [aeU];lia))) ?_);exact aen (h _ ⟨(hs2.2 _ (afO I.ne)).trans I.obj,hn2,I.ne⟩ hs2)
theorem yA {R:Result->Shared->Prop}{vs:List Value}{kw:List (Str×Value)}(X:K.In s.heap)(hm:makesIn K C=true)
 (hi:findIn K (.ref C) "__init__" = some (some (.ref f)))(hf:PySem.W.typeIn K (.ref f)=some (.type "function"))
 (h:codeAny (model prog w) (A.under (.builtin "type.__call__" ⟨.ref C::vs,kw⟩)) (.call (.ref f) ⟨.ref (s.heap.objs.size+1)::vs,kw⟩) (PySem.W.InitBack (s.heap.objs.size+1) R)
  { s with heap:=(s.heap.push emptyDict).push (instObj C s.heap.objs.size) }) :
 codeAny (model prog w) A (.call (.ref C) ⟨vs,kw⟩) R s:=by
 obtain⟨hh,g,d,t,os⟩:=s;exact PySem.W.make_core (PySem.W.makes_of X hm) (PySem.W.looks_findIn X hi) (fun self=>PySem.W.bind_fn X self hf) (.inl rfl) h
end
def iX (f:Str)(v:V):List (Str×V)->List (Str×V)
 | []=>[(f,v)]
 | (g,x)::r=>if g=f then (g,v)::r else (g,x)::iX f v r
theorem eX (f g:Str)(v:V):∀ fs:List (Str×V),(iX f v fs).lookup g=if g=f then some v else fs.lookup g
 | []=>by
  show List.lookup g [(f,v)]=_;by_cases h:g=f
  ·have hb:(g == f)=true:=aeR.mpr h;simp only [List.lookup,hb,if_pos h]
  ·have hb:(g == f)=false:=agF.mpr h;simp only [List.lookup,hb,if_neg h]
 | (k,x)::r=>by
  have ih:=eX f g v r;rw [show iX f v ((k,x)::r)=(if k=f then (k,v)::r else (k,x)::iX f v r) from rfl];by_cases hk:k=f
  ·rw [if_pos hk];by_cases h:g=k
   ·have hb:(g == k)=true:=aeR.mpr h;simp only [List.lookup,hb,if_pos (h.trans hk)]
   ·have hb:(g == k)=false:=agF.mpr h;simp only [List.lookup,hb,if_neg (fun e:g=f=>h (e.trans hk.symm))]
  ·rw [if_neg hk];by_cases h:g=k
   ·have hb:(g == k)=true:=aeR.mpr h;simp only [List.lookup,hb,if_neg (fun e:g=f=>hk (h.symm.trans e))]
   ·have hb:(g == k)=false:=agF.mpr h;simp only [List.lookup,hb];exact ih
theorem lS (f:Str)(v:V):∀ fs:List (Str×V),f∈(iX f v fs).map (·.1)/\∀ g,g∈fs.map (·.1)->g∈(iX f v fs).map (·.1)
 | []=>⟨by simp [iX],fun g h=>by simp at h⟩
 | (k,x)::r=>by
  obtain⟨i1,i2⟩:=lS f v r;rw [show iX f v ((k,x)::r)=(if k=f then (k,v)::r else (k,x)::iX f v r) from rfl];by_cases hk:k=f
  ·rw [if_pos hk];subst hk;exact⟨by simp,fun g h=>by simpa using h⟩
  ·rw [if_neg hk];refine⟨?_,fun g h=>?_⟩
   ·rw [aeG];exact aeC _ i1
   ·rw [aeG] at h ⊢;rcases aeu.mp h with e | e
    ·exact aeu.mpr (.inl e)
    ·exact aeC _ (i2 g e)
theorem gr (f:Str)(v:V):∀ fs:List (Str×V),(iX f v fs).length<=fs.length+1
 | []=>by simp [iX]
 | (k,x)::r=>by
  have ih:=gr f v r;rw [show iX f v ((k,x)::r)=(if k=f then (k,v)::r else (k,x)::iX f v r) from rfl];by_cases hk:k=f
  ·rw [if_pos hk,aeU,aeU];lia
  ·rw [if_neg hk,aeU,aeU];lia
theorem RelO.some_of {v:V}{o:Option Value}(r:RelO (some v) o):∃ u,o=some u/\RelV v u:=by
 cases o with
 | none=>exact (show False from r).elim
 | some u=>exact⟨u,rfl,r⟩
theorem RelO.none_of {o:Option Value}(r:RelO none o):o=none:=by
 cases o with
 | none=>rfl
 | some u=>exact (show False from r).elim
theorem wd {v:V}{u:Value}(r:RelV v u):handedIn u=true:=by
 cases v with
 | non=>cases (show u=Value.none from r);rfl
 | bl b=>cases (show u=Value.bool b from r);rfl
 | int i=>obtain⟨t,e⟩:=(show ∃ t,u=Value.int i t from r);cases e;rfl
 | str x=>obtain⟨t,e⟩:=(show ∃ t,u=Value.str x t from r);cases e;rfl
 | byt b=>obtain⟨t,e⟩:=(show ∃ t,u=Value.bytes b t from r);cases e;rfl
 | flt b=>obtain⟨t,e⟩:=(show ∃ t,u=Value.float b t from r);cases e;rfl
 | ref a=>cases (show u=Value.ref a from r);rfl
 | ty n=>cases (show u=Value.type n from r);rfl
section
variable {P:Program}{w:World}{H H':Hp}{h h':Heap}{a C dx:Addr}{fs fs':List (Str×V)}
theorem oJ (hok:HOk P w H h)(e:H a=some (.ins C dx fs)):∃ mA,ObjM h a dx C mA/\(∀ f,RelO (fs.lookup f) (mA f))/\PySem.Within mA (fs.map (·.1))/\fs.length<=1000/\H dx=some (.own a):=by
 obtain⟨d,z,ne,ob,mA,n,r,q⟩:=(show ObjOk P w H h a (.ins C dx fs) from hok a _ e);exact⟨mA,⟨ob,n,ne⟩,r,q,z,d⟩
end
structure Cls (K:PySem.W.Frag)(C:Addr):Prop where
 pg:plainGet K C Str.empty=true
 hd:hasDictIn K C=true
 po:plainOver K C=true
 sa:findIn K (.ref C) "__setattr__" = some (some (.builtin "object.__setattr__"))
theorem Cls.get {K:PySem.W.Frag}{C:Addr}(c:Cls K C)(f:Str):plainGet K C f=true:=c.pg
def NoAttr (K:PySem.W.Frag)(C:Addr)(f:Str):Prop:=findIn K (.ref C) f=some none
theorem NoAttr.taker {K:PySem.W.Frag}{C:Addr}{f:Str}(n:NoAttr K C f):takerIn K C f=some none:=by
 unfold takerIn;rw [show findIn K (.ref C) f=some none from n]
 rfl
structure ab8 (K:PySem.W.Frag)(C:Addr)(m:Str)(f:Addr):Prop where
 at_:findIn K (.ref C) m=some (some (.ref f))
 fn:isFn K (.ref f)=true
 kp:keepIn K (.ref f)=true
section
variable {X:Cx}{pins:List (Addr×Obj)}{σ:St}{H:Hp}{s:Shared}{a C dx:Addr}{fs:List (Str×V)}{f:Str}{v:V}{A:Around}{E:Value->Shared->Prop}
theorem uX {b:Bool}{Q:Value->Shared->Prop}(I:Inv X pins σ H s)(e:H a=some (.ins C dx fs))(c:Cls X.K C)(n:NoAttr X.K C f)(l:fs.lookup f=some v)
 (h:∀ u s',Inv X pins σ H s'->RelV v u->Q u s'):wpAny (model X.prog X.w) A (getAttr (.ref a) f b) Q E s:=by
 obtain⟨mA,O,r,_,_,_⟩:=oJ I.hok e;obtain⟨u,hu,ru⟩:=RelO.some_of (v:=v) (o:=mA f) (by rw [← l];exact r f);exact abb I.kIn O (c.get f) c.hd n hu (wd ru) (h u _ (I.tok _) ru)
theorem oz {m:Str}{g:Addr}{pl:Sem Bool}{Q:Value×List Value->Shared->Prop}(I:Inv X pins σ H s)(e:H a=some (.ins C dx fs))(c:Cls X.K C)(k:ab8 X.K C m g)(l:fs.lookup m=none)
 (h:Q (.ref g,[.ref a]) s):wpAny (model X.prog X.w) A (getMethod (.ref a) m pl) Q E s:=by
 obtain⟨mA,O,r,_,_,_⟩:=oJ I.hok e;have hn:mA m=none:=RelO.none_of (by rw [← l];exact r m);exact yq I.kIn O (c.get m) k.at_ k.fn hn h
theorem uW {y:V}{u:Value}{Q:Unit->Shared->Prop}(I:Inv X pins σ H s)(e:H a=some (.ins C dx fs))(c:Cls X.K C)(n:NoAttr X.K C f)(hl:fs.length < 1000)(ry:RelV y u)
 (h:∀ s',Inv X pins σ (upd H a (.ins C dx (iX f y fs))) s'->Q () s'):wpAny (model X.prog X.w) A (setAttr (.ref a) f u) Q E s:=by
 obtain⟨mA,O,r,wi,_,ho⟩:=oJ I.hok e;have hz:(fs.map (·.1)).length<=sizeLine:=by rw [aej,af7];lia
 refine aay I.kIn O c.sa c.po n.taker c.hd wi hz fun h' O' sb=>h _ ?_;have hd:∃ o,h'.get? dx=some o:=let ⟨o,_,_,e',_⟩:=O'.ns;⟨o,e'⟩;refine I.write (x:=a) (e:=dx) (by rw [e];exact True.intro) (.inr ho) (fun b q hb z=>(sb.2 b hb).trans z) hd ?_;refine⟨by rw [ak O.ne];exact ho,?_,O.ne,O'.obj,_,O'.ns,fun g=>?_,fun g hg=>?_⟩
 ·have:=gr f y fs;lia
 ·show RelO ((iX f y fs).lookup g) (if g=f then some u else mA g);rw [eX];by_cases q:g=f
  ·rw [if_pos q,if_pos q];exact ry
  ·rw [if_neg q,if_neg q];exact r g
 ·by_cases q:g=f
  ·rw [q];exact (lS f y fs).1
  ·refine (lS f y fs).2 g (wi g fun z=>hg ?_);show (if g=f then some u else mA g)=none;rw [if_neg q];exact z
theorem Inv.made (I:Inv X pins σ H s):Inv X pins σ (upd (upd H s.heap.objs.size (.own (s.heap.objs.size+1))) (s.heap.objs.size+1) (.ins C s.heap.objs.size []))
 { s with heap:=(s.heap.push emptyDict).push (instObj C s.heap.objs.size) }:=by
 have e1:(s.heap.push emptyDict).get? s.heap.objs.size=some emptyDict:=aeF s.heap rfl;have e2:((s.heap.push emptyDict).push (instObj C s.heap.objs.size)).get? (s.heap.objs.size+1)=some (instObj C s.heap.objs.size):=by
  have:=aeF (s.heap.push emptyDict) (o:=instObj C s.heap.objs.size) rfl
  rwa [afe] at this
 have e3:(s.heap.push emptyDict).Ns s.heap.objs.size (fun _=>none):=⟨emptyDict,#[],_,e1,rfl,(fun e he=>absurd he (by simp)),fun _=>rfl⟩;have I1:=I.laid (a:=s.heap.objs.size) (o:=.own (s.heap.objs.size+1)) (h':=s.heap.push emptyDict) (t':=s.toks) (fun b u q=>ael _ q) (aep _) ⟨_,e1⟩;refine I1.laid (a:=s.heap.objs.size+1) (o:=.ins C s.heap.objs.size []) (t':=s.toks) (fun b u q=>ael _ q) (aiN (afe _ _)) ?_;have ne:s.heap.objs.size≠s.heap.objs.size+1:=aeA (af8 _);refine⟨by rw [ak ne,af],aeM _,ne,e2,fun _=>none,(Heap.Ns1.of_empty e3).at fun o q=>ael _ q,fun _=>True.intro,fun y hy=>absurd rfl hy⟩
theorem aaH {prog:Program}{w:World}{env:Env}{e:Expr}{f:Str}{pos:Pos}{s:Shared}{Q:Value->Shared->Prop}(hb:attributeBase e f env (eval e env)=eval e env)
 (h:wpAny (model prog w) A (eval e env) (fun o s₁=>wpAny (model prog w) A (getAttr o f true) Q E s₁) E s):wpAny (model prog w) A (eval (.Attribute e f pos) env) Q E s :=
 Attribute_any_ h (by rw [arm_eval_Attribute,hb])
end
def adU (K:PySem.W.Frag)(ta:TE)(f:Str):TE:=fun σ H Q=>ta σ H fun x H1=>∃ a C dx fs v,x=.ref a/\H1 a=some (.ins C dx fs)/\Cls K C/\NoAttr K C f/\fs.lookup f=some v/\Q v H1
def adK (K:PySem.W.Frag)(ta tv:TE)(f:Str):TS:=fun D σ H=>tv σ H fun y H1=>ta σ H1 fun x H2=>∃ a C dx fs,x=.ref a/\H2 a=some (.ins C dx fs)/\Cls K C/\NoAttr K C f/\fs.length < 1000 ∧
 D.nx σ (upd H2 a (.ins C dx (iX f y fs)))
def adJ (X:Cx)(op:Operator)(rd:V->V->Hp->VK->Prop):Prop :=
 ∀ (pins:List (Addr×Obj)) (s:Shared) (σ:St) (H:Hp) (x y:V) (u v:Value) (Q:VK),Inv X pins σ H s->RelV x u->RelV y v->rd x y H Q->wpAny (model X.prog X.w) X.A (inplaceOp op u v) (EP X pins σ Q) X.xe s
section
variable {X:Cx}{o e value:Expr}{f:Str}{pos pos' tpos:Pos}{ta tv:TE}
theorem xJ (he:PE X e ta)(hb:attributeBase e f X.env (eval e X.env)=eval e X.env):PE X (.Attribute e f pos) (adU X.K ta f):=by
 intro pins s σ H Q I h;refine aaH hb (thn (he pins s σ H _ I h) fun u s1 ⟨x,H1,I1,rx,a,C,dx,fs,v,ex,ea,c,n,l,q⟩=>?_);subst ex;obtain rfl:u=Value.ref a:=rx;exact uX I1 ea c n l fun u' s2 I2 ru=>⟨v,H1,I2,ru,q⟩
theorem wH (ha:PE X o ta)(hv:PE X value tv)(hs:swapsWith value (some (.Attribute o f pos')) pos.line X.env=pure false):PS X (.Assign [.Attribute o f pos'] value pos) (adK X.K ta tv f):=by
 intro pins s σ H D I h;refine plainObj_wpAny_Assign_Attribute (thn (hv pins s σ H _ I h) fun u s1 ⟨y,H1,I1,ry,q⟩=>thn (ha pins s1 σ H1 _ I1 q) fun ov s2 ⟨x,H2,I2,rx,a,C,dx,fs,ex,ea,c,n,l,q2⟩=>?_) hs;subst ex;obtain rfl:ov=Value.ref a:=rx;exact uW I2 ea c n l ry fun s3 I3=>⟨σ,_,I3,q2⟩
def ad4:V->V->Hp->VK->Prop:=fun x y H Q=>∃ i j,x=.int i/\y=.int j/\Q (.int (i+j)) H
theorem aco:adJ X .Add ad4:=by
 rintro pins s σ H x y u v Q I rx ry ⟨i,j,rfl,rfl,q⟩;obtain⟨t,rfl⟩:=(show ∃ t,u=Value.int i t from rx);obtain⟨t',rfl⟩:=(show ∃ t',v=Value.int j t' from ry);exact PyProof.Rows.iadd_int ⟨.int (i+j),H,I.tok _,⟨_,rfl⟩,q⟩
theorem abi {pl:Sem Bool}{m:Str}{apos:Pos}{args:List Expr}{pins:List (Addr×Obj)}{s:Shared}{σ:St}{H:Hp}{Q:Value->Shared->Prop}{te:TE}(he:PE X e te)(I:Inv X pins σ H s)
 (h:te σ H fun x H1=>∃ a C dx fs g,x=.ref a/\H1 a=some (.ins C dx fs)/\Cls X.K C/\ab8 X.K C m g/\fs.lookup m=none ∧
  ∀ s1,Inv X pins σ H1 s1->wpAny (model X.prog X.w) X.A (callWith pos (.ref g) [.ref a] (backTo pos (starEach args X.env)) (backToKw pos (keywordEach [] X.env))) Q X.xe s1)
 (ht:eval (.Call (.Attribute e m apos) args [] pos) X.env=(do
  let ov ← eval e X.env
  standAt apos.atName
  let (f,first) ← holding [ov] (getMethod ov m pl)
  callWith pos f first (backTo pos (starEach args X.env)) (backToKw pos (keywordEach [] X.env)))) :
 wpAny (model X.prog X.w) X.A (eval (.Call (.Attribute e m apos) args [] pos) X.env) Q X.xe s:=by
 refine aiO (pl:=pl) (thn (he pins s σ H _ I h) fun u s1 ⟨x,H1,I1,rx,a,C,dx,fs,g,ex,ea,c,k,l,q⟩=>?_) ht;subst ex;obtain rfl:u=Value.ref a:=rx;exact oz I1 ea c k l (q s1 I1)
end
section
variable {X:Cx}{pins:List (Addr×Obj)}{σ:St}{H:Hp}{s:Shared}{A:Around}{E:Value->Shared->Prop}{Q:Value->Shared->Prop}{c:Value}{b:Bool}
inductive uI (K:PySem.W.Frag)(H:Hp):V->Value->Prop where
 | non:uI K H .non (.type "NoneType")
 | bl (x:Bool):uI K H (.bl x) (.type "bool")
 | int (i:Int):uI K H (.int i) (.type "int")
 | str (x:Str):uI K H (.str x) (.type "str")
 | flt (x:UInt64):uI K H (.flt x) (.type "float")
 | lst {a:Addr} {xs:List V} (e:H a=some (.lst xs)):uI K H (.ref a) (.type "list")
 | frz {a:Addr} {o:Obj} {xs:List V} (e:H a=some (.frz o (.lst xs))):uI K H (.ref a) (.type "list")
 | tup {a:Addr} {xs:List V} (e:H a=some (.tup xs)):uI K H (.ref a) (.type "tuple")
 | dK {a:Addr} {kvs:List (Key×V)} (e:H a=some (.dK kvs)):uI K H (.ref a) (.type "dict")
 | dT {a:Addr} {kvs:List (List Key×V)} (e:H a=some (.dT kvs)):uI K H (.ref a) (.type "dict")
 | ins {a C dx:Addr} {fs:List (Str×V)} (e:H a=some (.ins C dx fs)) (cl:Cls K C) (ha:findIn K (.ref C) "__class__" = some (some (.builtin "object.__class__")))
  (hn:PySem.W.specialIn K (.builtin "object.__class__") "__get__" = some (some (.builtin "getset_descriptor.__get__"))) (htk:PySem.W.takesIn K (.builtin "object.__class__")=some true)
  (hm:PySem.W.mroIn K C (.type "object")=some true):uI K H (.ref a) (.ref C)
theorem xg {x:V}{u t:Value}(I:Inv X pins σ H s)(rx:RelV x u)(ty:uI X.K H x t)(e:kitOne X.K t c=some b)(h:∀ tk,Q (.bool b) { s with toks:=tk }) :
 wpAny (model X.prog X.w) A (call (.builtin "isinstance") [u,c]) Q E s:=by
 cases ty with
 | non=>cases (show u=Value.none from rx);exact afE PySem.W.kitx_none I.kIn True.intro e (fun z=>nomatch z) h
 | bl y=>cases (show u=Value.bool y from rx);exact afE PySem.W.kitx_bool I.kIn True.intro e (fun z=>nomatch z) h
 | int i=>obtain⟨t,q⟩:=(show ∃ t,u=Value.int i t from rx);cases q;exact afE PySem.W.kitx_int I.kIn True.intro e (fun z=>nomatch z) h
 | str y=>obtain⟨t,q⟩:=(show ∃ t,u=Value.str y t from rx);cases q;exact afE PySem.W.kitx_str I.kIn True.intro e (fun z=>nomatch z) h
 | flt y=>obtain⟨t,q⟩:=(show ∃ t,u=Value.float y t from rx);cases q;exact afE PySem.W.kitx_float I.kIn True.intro e (fun z=>nomatch z) h
 | @lst a xs ea =>
  cases (show u=Value.ref a from rx);obtain⟨_,_,n,_,h1⟩:=(show ObjOk X.prog X.w H s.heap a (.lst xs) from I.hok a _ ea);exact afE kitx_list I.kIn ⟨_,h1,rfl⟩ e (fun z=>nomatch z) h
 | @frz a ob xs ea =>
  cases (show u=Value.ref a from rx);obtain⟨_,_,_,n,_,h1⟩:=(show ObjOk X.prog X.w H s.heap a (.frz ob (.lst xs)) from I.hok a _ ea);exact afE kitx_list I.kIn ⟨_,h1,rfl⟩ e (fun z=>nomatch z) h
 | @tup a xs ea =>
  cases (show u=Value.ref a from rx);obtain⟨_,_,_,p⟩:=(show ObjOk X.prog X.w H s.heap a (.tup xs) from I.hok a _ ea);obtain⟨o,h1,h2,_⟩:=p;exact afE PySem.W.kitx_tuple I.kIn ⟨o,h1,h2⟩ e (fun z=>nomatch z) h
 | @dK a kvs ea =>
  cases (show u=Value.ref a from rx);obtain⟨_,_,vs,_,p⟩:=(show ObjOk X.prog X.w H s.heap a (.dK kvs) from I.hok a _ ea);obtain⟨o,es,ep,h1,h2,_⟩:=p;exact afE kitx_dict I.kIn ⟨o,h1,h2.1⟩ e (fun z=>nomatch z) h
 | @dT a kvs ea =>
  cases (show u=Value.ref a from rx);obtain⟨_,_,xs,_,o,es,ep,h1,h2,_⟩:=(show ObjOk X.prog X.w H s.heap a (.dT kvs) from I.hok a _ ea);exact afE kitx_dict I.kIn ⟨o,h1,h2.1⟩ e (fun z=>nomatch z) h
 | @ins a C dx fs ea cl ha hn htk hm =>
  cases (show u=Value.ref a from rx);obtain⟨mA,O,_⟩:=oJ I.hok ea;obtain⟨od,J,_⟩:=O.look;exact afE (PySem.W.kitx_own (cl.get _) cl.hd ha hn htk hm) I.kIn J e (fun z=>nomatch z) h
end
structure Room (k:Nat)(A:Around):Prop where
 hd:A.handled=none
 dp:A.depth+3 * k+5 < recursionLimit
 un:A.units+16 * k+200 < cLine
theorem Room.mono {j k:Nat}{A:Around}(r:Room k A)(h:j<=k):Room j A:=⟨r.hd,by have:=r.dp;lia,by have:=r.un;lia⟩
theorem Room.deeper {k:Nat}{A:Around}(r:Room (k+1) A)(env:Env):Room k (A.deeper env) :=
 ⟨r.hd,by have:=r.dp;show A.depth+1+3 * k+5 < _;lia,by have:=r.un;show A.units+3+16 * k+200 < _;lia⟩
theorem uJ {A:Around}{C:Addr}{us:List Value}{kw:List (Str×Value)}:(A.under (.builtin "type.__call__" ⟨.ref C::us,kw⟩)).depth=A.depth+1:=by
 first | rfl | simp [Around.under,Code.weight,Code.isCreation,Code.isGuard,Code.isCaller,Code.frames,Code.isFrame,guardIds]
theorem u6 {A:Around}{C:Addr}{us:List Value}{kw:List (Str×Value)}:(A.under (.builtin "type.__call__" ⟨.ref C::us,kw⟩)).units=A.units+1:=by
 first | rfl | simp [Around.under,Code.cUnits,Code.frames,Code.isFrame]
theorem Room.make {k:Nat}{A:Around}(r:Room (k+1) A)(C:Addr)(us:List Value)(kw:List (Str×Value)):Room k (A.under (.builtin "type.__call__" ⟨.ref C::us,kw⟩)) :=
 ⟨r.hd,by have:=r.dp;rw [uJ];lia,by have:=r.un;rw [u6];lia⟩
theorem Room.depth {k:Nat}{A:Around}(r:Room k A):A.depth < recursionLimit:=by have:=r.dp;lia
theorem Room.units {k:Nat}{A:Around}(r:Room k A):A.units+64 < cLine:=by have:=r.un;lia
def rT:TA:=fun _ H Q=>Q [] H
def je (ta:TE)(tr:TA):TA:=fun σ H Q=>ta σ H fun x H1=>tr σ H1 fun xs H2=>Q (x::xs) H2
section
variable {X:Cx}{e:Expr}{es:List Expr}{te:TE}{t:TA}{pos:Pos}
theorem ah:PA X [] rT:=fun _ _ _ _ H Q I h=>Calls.spliced_nil ⟨[],H,I,.nil,h⟩
theorem ae (ha:PE X e te)(hr:PA X es t)(hs:starEach (e::es) X.env=(false,eval e X.env)::starEach es X.env:=by rfl):PA X (e::es) (je te t):=by
 intro pos pins s σ H Q I h;rw [hs];show wpAny _ _ (spliced ((false,eval e X.env)::backTo pos (starEach es X.env))) _ _ s;refine Calls.spliced_cons (thn (ha pins s σ H _ I h) fun u s1 ⟨x,H1,I1,r1,q1⟩=>?_);exact thn (hr pos pins s1 σ H1 _ I1 q1) fun us s2 ⟨xs,H2,I2,r2,q2⟩=>⟨x::xs,H2,I2,.cons r1 r2,q2⟩
def adj (t:TA):TE:=fun σ H Q=>t σ H fun xs H1=>xs.length<=sizeLine/\∀ p,H1 p=none->Q (.ref p) (upd H1 p (.tup xs))
def adQ (t:TA):TE:=fun σ H Q=>t σ H fun xs H1=>xs.length<=sizeLine/\∀ p,H1 p=none->Q (.ref p) (upd H1 p (.lst xs))
theorem m9 {x1}(h:PA X es t):PE X (.Tuple es x1 pos) (adj t):=by
 intro pins s σ H Q I hq;refine wpAny_Tuple_spliced (thn (h pos pins s σ H _ I hq) fun us s1 ⟨xs,H1,I1,r,z,q⟩=>⟨by rw [← r.length];exact z,?_⟩);have hf:H1 s1.heap.objs.size=none:=I1.hok.fresh (aep _);refine⟨.ref s1.heap.objs.size,upd H1 s1.heap.objs.size (.tup xs),I1.laid (t':=s1.toks) (fun b u e=>ael _ e) (aep _) ?_,rfl,q _ hf⟩;exact⟨z,us,r,⟨_,aeF _ rfl,rfl,_,rfl⟩⟩
theorem dc (h:PA X es t):PE X (.List es pos) (adQ t):=by
 intro pins s σ H Q I hq;refine wpAny_List_spliced (thn (h pos pins s σ H _ I hq) fun us s1 ⟨xs,H1,I1,r,z,q⟩=>⟨by rw [← r.length];exact z,?_⟩);have hf:H1 s1.heap.objs.size=none:=I1.hok.fresh (aep _);refine⟨.ref s1.heap.objs.size,upd H1 s1.heap.objs.size (.lst xs),I1.laid (t':=s1.toks) (fun b u e=>ael _ e) (aep _) ?_,rfl,q _ hf⟩;exact⟨z,us,0,r,aeF _ rfl⟩
end
abbrev Sp:=List V->Hp->VK->XK->Prop
abbrev CXT:=List Env->Hp->Shared->XK->Value->Shared->Prop
structure Env0 (P:Program)(w:World)(K:PySem.W.Frag)(mg:Str->Option Value)(base:Heap)(A:Around)(outer:List Env)(s:Shared)(H:Hp):Prop where
 frames:A.frames=some outer
 mod:Mod K mg base
 bs:∀ b o,base.get? b=some o->s.heap.get? b=some o/\H b=none
 bsz:base.objs.size<=s.heap.objs.size
 funs:s.heap.FunFrames base outer
 frf:∀ b∈frs outer,H b=none
 hok:HOk P w H s.heap
 bare:AllBare s.gens
def CE (outer:List Env)(P:Program)(w:World)(H:Hp)(s:Shared)(Q:VK)(u:Value)(s':Shared):Prop :=
 ∃ v H',s'.os=s.os/\AllBare s'.gens/\Un (frs outer) [] H H' s.heap s'.heap/\HOk P w H' s'.heap/\RelV v u/\Q v H'
def CR (CX:CXT)(outer:List Env)(P:Program)(w:World)(H:Hp)(s:Shared)(Q:VK)(E:XK)(r:Result)(s':Shared):Prop :=
 match r with
 | .ok (.ret u)=>CE outer P w H s Q u s'
 | .ok _=>False
 | .error e=>CX outer H s E e s'
structure FnOk (P:Program)(w:World)(K:PySem.W.Frag)(mg:Str->Option Value)(base:Heap)(CX:CXT)(k:Nat)(f:Addr)(fd:FuncData)(ps:List Str)(sp:Sp):Prop where
 len:∀ vs H Q E,sp vs H Q E->vs.length=ps.length
 run:∀ (A:Around) (outer:List Env) (s:Shared) (H:Hp) (args:Args) (us:List Value) (vs:List V) (Q:VK) (E:XK),Room k A->Env0 P w K mg base A outer s H->BindsTo s fd args (ps.zip us)->Vals vs us->sp vs H Q E →
  codeAny (model P w) A (.call (.ref f) args) (CR CX outer P w H s Q E) s
theorem Env0.make {P:Program}{w:World}{K:PySem.W.Frag}{mg:Str->Option Value}{base:Heap}{A:Around}{outer:List Env}{s:Shared}{H:Hp}(e:Env0 P w K mg base A outer s H)(C:Addr)(us:List Value)(kw:List (Str×Value)) :
 Env0 P w K mg base (A.under (.builtin "type.__call__" ⟨.ref C::us,kw⟩)) outer s H:=⟨by first | exact e.frames | (simpa [Around.under,Code.envs,Code.isFrame,pushEnvs] using e.frames),e.mod,e.bs,e.bsz,e.funs,e.frf,e.hok,e.bare⟩
section
variable {X:Cx}{pins:List (Addr×Obj)}{σ:St}{H:Hp}{s s':Shared}
theorem Inv.env0 (I:Inv X pins σ H s):Env0 X.prog X.w X.K X.mg X.base X.A X.stack s H :=
 ⟨I.ok.frames,I.ok.mod,I.bs,aeN I.ok.bsz I.sz,I.stack,I.stkFree,I.hok,I.bare⟩
theorem Inv.after {Q:VK}{u:Value}(I:Inv X pins σ H s)(h:CE X.stack X.prog X.w H s Q u s'):EP X pins σ Q u s':=by
 obtain⟨v,H',os,bare,un,hok,r,q⟩:=h;obtain⟨hh,g,d,t,os'⟩:=s';obtain rfl:os'=s.os:=os;exact⟨v,H',I.call (h':=hh) (g':=g) (d':=d) (t':=t) (ch:=[]) un hok bare (fun b z=>absurd z (by simp)),r,q⟩
end
def acO (sp:Sp)(dvs:List V)(E:XK)(t:TA):TE:=fun σ H Q=>t σ H fun vs H1=>sp (vs++dvs) H1 Q E
def ac3 (C:Addr)(m:Str)(sp:Sp)(dvs:List V)(E:XK)(ta:TE)(t:TA):TE:=fun σ H Q=>ta σ H fun x H1=>∃ a dx fs,x=.ref a/\H1 a=some (.ins C dx fs)/\fs.lookup m=none ∧
 t σ H1 fun vs H2=>sp (x::(vs++dvs)) H2 Q E
def adp (C:Addr)(sp:Sp)(dvs:List V)(E:XK)(t:TA):TE:=fun σ H Q=>t σ H fun vs H1=>∀ x dx,H1 x=none->H1 dx=none->dx≠x →
 sp (.ref x::(vs++dvs)) (upd (upd H1 dx (.own x)) x (.ins C dx [])) (fun v H2=>v=.non/\Q (.ref x) H2) E
def Binds (K:PySem.W.Frag)(fd:FuncData)(ps:List Str)(ds:List Value):Prop :=
 ∀ (s:Shared) (us:List Value),K.In s.heap->(us++ds).length=ps.length->BindsTo s fd ⟨us,[]⟩ (ps.zip (us++ds))
theorem Binds.all {K:PySem.W.Frag}{fd:FuncData}{ps:List Str}(h:∀ us:List Value,us.length=ps.length->bindArgs fd ⟨us,[]⟩=pure (ps.zip us)):Binds K fd ps []:=fun s us _ hl=>by
 rw [ae6] at hl ⊢;exact .of_eq (h us hl)
def nI (CX:CXT)(X:Cx)(E:XK):Prop:=∀ (pins:List (Addr×Obj)) (σ:St) (H:Hp) (s:Shared) (e:Value) (s':Shared),Inv X pins σ H s->CX X.stack H s E e s'->X.xe e s'
section
variable {X:Cx}{CX:CXT}{k:Nat}{f C:Addr}{fd:FuncData}{ps:List Str}{sp:Sp}{dvs:List V}{ds:List Value}{E:XK}{x m:Str}{p pos apos:Pos}{e o:Expr}{es:List Expr}{ta:TE}{t:TA}
theorem aam {pins:List (Addr×Obj)}{σ:St}{H:Hp}{s:Shared}{Q:VK}{us:List Value}{vs:List V}(F:FnOk X.prog X.w X.K X.mg X.base CX k f fd ps sp)(hr:Room k X.A)(hb:Binds X.K fd ps ds)(hd:Vals dvs ds)(hx:nI CX X E)
 (I:Inv X pins σ H s)(r:Vals vs us)(h:sp (vs++dvs) H Q E):wpAny (model X.prog X.w) X.A (call (.ref f) us) (EP X pins σ Q) X.xe s:=by
 have r2:Vals (vs++dvs) (us++ds):=r.append hd;have hl:(us++ds).length=ps.length:=by rw [← r2.length];exact F.len _ _ _ _ h
 refine wpAny_call (agr (F.run X.A X.stack s H ⟨us,[]⟩ (us++ds) (vs++dvs) Q E hr I.env0 (hb s us I.kIn hl) r2 h) fun r s' hq=>?_);cases r with
 | error e=>exact hx pins σ H s e s' I hq
 | ok fl =>
  cases fl with
  | ret u=>exact I.after hq
  | next=>exact False.elim hq
  | brk=>exact False.elim hq
  | cont=>exact False.elim hq
theorem eA (F:FnOk X.prog X.w X.K X.mg X.base CX k f fd ps sp)(hr:Room k X.A)(hg:Gl X x)(hm:X.mg x=some (.ref f))(hk:keepIn X.K (.ref f)=true)(hb:Binds X.K fd ps ds)(hd:Vals dvs ds)(hx:nI CX X E)
 (ha:PA X (e::es) t)(hdb:(x == ("__debug__" : Str))=false:=by decide)(he:starEach (e::es) X.env=(false,eval e X.env)::starEach es X.env:=by rfl)(hpl:(backTo pos (starEach es X.env)).any (·.1)=false:=by rfl) :
 PE X (.Call (.Name x p) (e::es) [] pos) (acO sp dvs E t):=by
 intro pins s σ H Q I h;refine agX (kg I hg hm ?_ hdb);refine ahj (h₀:=X.base) I.ok.mod.kin hk (thn (ha pos pins s σ H _ I h) fun us s1 ⟨vs,H1,I1,r,q⟩=>⟨I1.kIn,?_⟩) he hpl;exact aam F hr hb hd hx I1 r q
theorem wW {pl:Sem Bool}(he:PE X o ta)(c:Cls X.K C)(hm:ab8 X.K C m f)(F:FnOk X.prog X.w X.K X.mg X.base CX k f fd ps sp)(hr:Room k X.A)(hb:Binds X.K fd ps ds)(hd:Vals dvs ds)(hx:nI CX X E)(ha:PA X (e::es) t)
 (hst:starEach (e::es) X.env=(false,eval e X.env)::starEach es X.env:=by rfl)(hpl:(backTo pos (starEach es X.env)).any (·.1)=false:=by rfl)
 (ht:eval (.Call (.Attribute o m apos) (e::es) [] pos) X.env=(do
  let ov ← eval o X.env
  standAt apos.atName
  let (f,first) ← holding [ov] (getMethod ov m pl)
  callWith pos f first (backTo pos (starEach (e::es) X.env)) (backToKw pos (keywordEach [] X.env))):=by rfl) :
 PE X (.Call (.Attribute o m apos) (e::es) [] pos) (ac3 C m sp dvs E ta t):=by
 intro pins s σ H Q I h;refine aiO (pl:=pl) (thn (he pins s σ H _ I h) fun u s1 ⟨x,H1,I1,rx,a,dx,fs,ex,ea,l,q⟩=>?_) ht;subst ex;obtain rfl:u=Value.ref a:=rx;refine oz I1 ea c hm l ?_;refine ahj (first:=[.ref a]) (h₀:=X.base) I.ok.mod.kin hm.kp (thn (ha pos pins s1 σ H1 _ I1 q) fun us s2 ⟨vs,H2,I2,r,q2⟩=>⟨I2.kIn,?_⟩) hst hpl;exact aam (us:=.ref a::us) (vs:=.ref a::vs) F hr hb hd hx I2 (.cons rfl r) q2
structure Mk (K:PySem.W.Frag)(C f:Addr):Prop where
 makes:makesIn K C=true
 init:findIn K (.ref C) "__init__" = some (some (.ref f))
 fn:isFn K (.ref f)=true
 kp:keepIn K (.ref C)=true
theorem zg {pins:List (Addr×Obj)}{σ:St}{H:Hp}{s:Shared}{Q:VK}{us:List Value}{vs:List V}(M:Mk X.K C f)(F:FnOk X.prog X.w X.K X.mg X.base CX k f fd ps sp)(hr:Room (k+1) X.A)(hb:Binds X.K fd ps ds)(hd:Vals dvs ds)
 (hx:nI CX X E)(I:Inv X pins σ H s)(r:Vals vs us)
 (h:∀ x dx,H x=none->H dx=none->dx≠x->sp (.ref x::(vs++dvs)) (upd (upd H dx (.own x)) x (.ins C dx [])) (fun v H2=>v=.non/\Q (.ref x) H2) E) :
 wpAny (model X.prog X.w) X.A (call (.ref C) us) (EP X pins σ Q) X.xe s:=by
 have hq:=h (s.heap.objs.size+1) s.heap.objs.size (I.hok.fresh (afh _)) (I.hok.fresh (aep _)) (aeA (af8 _));have I2:=Inv.made (C:=C) I;have r2:Vals (V.ref (s.heap.objs.size+1)::(vs++dvs)) (Value.ref (s.heap.objs.size+1)::(us++ds)):=.cons rfl (r.append hd);have hl:(Value.ref (s.heap.objs.size+1)::us++ds).length=ps.length:=by
  have e:=r2.length;rw [F.len _ _ _ _ hq] at e;exact e.symm
 refine wpAny_call (yA (f:=f) I.kIn M.makes M.init (aeR.mp M.fn) (agr (F.run _ X.stack _ _ ⟨Value.ref (s.heap.objs.size+1)::us,[]⟩ (Value.ref (s.heap.objs.size+1)::(us++ds)) _ _ E (hr.make C us [])
  (I2.env0.make C us []) (hb _ (Value.ref (s.heap.objs.size+1)::us) I2.kIn hl) r2 hq) fun r s' hq'=>?_))
 cases r with
 | error e=>exact hx pins σ _ _ e s' I2 hq'
 | ok fl =>
  cases fl with
  | ret u =>
   obtain⟨v,H',I3,rv,ev,q3⟩:=I2.after hq';subst ev;exact⟨rv,⟨V.ref (s.heap.objs.size+1),H',I3,rfl,q3⟩⟩
  | next=>exact False.elim hq'
  | brk=>exact False.elim hq'
  | cont=>exact False.elim hq'
theorem aaN (M:Mk X.K C f)(F:FnOk X.prog X.w X.K X.mg X.base CX k f fd ps sp)(hr:Room (k+1) X.A)(hg:Gl X x)(hm:X.mg x=some (.ref C))(hb:Binds X.K fd ps ds)(hd:Vals dvs ds)(hx:nI CX X E)
 (ha:PA X (e::es) t)(hdb:(x == ("__debug__" : Str))=false:=by decide)(he:starEach (e::es) X.env=(false,eval e X.env)::starEach es X.env:=by rfl)(hpl:(backTo pos (starEach es X.env)).any (·.1)=false:=by rfl) :
 PE X (.Call (.Name x p) (e::es) [] pos) (adp C sp dvs E t):=by
 intro pins s σ H Q I h;refine agX (kg I hg hm ?_ hdb);refine ahj (h₀:=X.base) I.ok.mod.kin M.kp (thn (ha pos pins s σ H _ I h) fun us s1 ⟨vs,H1,I1,r,q⟩=>⟨I1.kIn,?_⟩) he hpl;exact zg M F hr hb hd hx I1 r q
end
section
variable {X:Cx}{CX:CXT}{k:Nat}{f C:Addr}{fd:FuncData}{ps ks:List Str}{sp:Sp}{E:XK}{x m:Str}{p pos apos kpos:Pos}{e o:Expr}{es:List Expr}{kws:List Keyword}{te ta:TE}{t tk:TA}{nm:Option Str}
variable {g:List Value->List Value->List Value}{gV:List V->List V->List V}
end
structure az (N P:List Str)(sc:Scope):Prop where
 kind:sc.kind=.function
 co:sc.isCoroutine=false
 gen:sc.isGenerator=false
 nd:N.Nodup
 pre:N.take P.length=P
 par:∀ x∈P,sc.names.lookup x=some .local\/sc.names.lookup x=some .cell
 nofree:∀ y∈sc.names,y.2≠.free
theorem scM {N P:List Str}{sc:Scope}(a:sc.kind=.function)(b:sc.isCoroutine=false)(c:sc.isGenerator=false)(e:N.take P.length=P)(d:N.Nodup/\(∀ x∈P,sc.names.lookup x=some .local\/sc.names.lookup x=some .cell)/\∀ y∈sc.names,y.2≠.free):az N P sc:=⟨a,b,c,d.1,e,d.2.1,d.2.2⟩
theorem qN {kindOf:Str->Option NameKind}{x:Str}:∀ {binds:List (Str×Value)} {m:Str->Option Value},(∀ v,(x,v) ∉ binds)->bindL kindOf binds m x=m x
 | [],_,_=>rfl
 | (n,v)::r,m,h=>by
  unfold bindL;rw [qN fun w hw=>h w (aeC _ hw)];split
  ·have:x≠n:=by rintro rfl;exact h v aev
   simp [this]
  ·rfl
theorem pR {kindOf:Str->Option NameKind}{x:Str}:∀ {binds:List (Str×Value)} {m:Str->Option Value},(∀ v,(x,v) ∉ binds)->bindC kindOf binds m x=m x
 | [],_,_=>rfl
 | (n,v)::r,m,h=>by
  unfold bindC;rw [pR fun w hw=>h w (aeC _ hw)];split
  ·rfl
  ·have:x≠n:=by rintro rfl;exact h v aev
   simp [this]
theorem qw {kindOf:Str->Option NameKind}{x:Str}{v:Value}:∀ {P:List Str} {vs:List Value} {i:Nat} {m:Str->Option Value},P.Nodup->P[i]? = some x->vs[i]? = some v->kindOf x=some .local →
 bindL kindOf (P.zip vs) m x=some v
 | [],_,_,_,_,h,_,_=>by simp at h
 | _::_,[],_,_,_,_,h,_=>by simp at h
 | p::P,w::vs,0,m,nd,h1,h2,hk=>by
  simp at h1 h2;subst h1;subst h2;show bindL kindOf ((p,w)::P.zip vs) m p=_;unfold bindL;rw [qN fun v hv=>(afF.mp nd).1 (aiP hv).1,if_pos hk];simp
 | p::P,w::vs,i+1,m,nd,h1,h2,hk=>by
  show bindL kindOf ((p,w)::P.zip vs) m x=_;unfold bindL;exact qw (i:=i) (afF.mp nd).2 (by simpa using h1) (by simpa using h2) hk
theorem qZ {kindOf:Str->Option NameKind}{x:Str}{v:Value}:∀ {P:List Str} {vs:List Value} {i:Nat} {m:Str->Option Value},P.Nodup->P[i]? = some x->vs[i]? = some v->kindOf x≠some .local →
 bindC kindOf (P.zip vs) m x=some v
 | [],_,_,_,_,h,_,_=>by simp at h
 | _::_,[],_,_,_,_,h,_=>by simp at h
 | p::P,w::vs,0,m,nd,h1,h2,hk=>by
  simp at h1 h2;subst h1;subst h2;show bindC kindOf ((p,w)::P.zip vs) m p=_;unfold bindC;rw [pR fun v hv=>(afF.mp nd).1 (aiP hv).1,if_neg hk];simp
 | p::P,w::vs,i+1,m,nd,h1,h2,hk=>by
  show bindC kindOf ((p,w)::P.zip vs) m x=_;unfold bindC;exact qZ (i:=i) (afF.mp nd).2 (by simpa using h1) (by simpa using h2) hk
def nr (N:List Str)(vs:List V):St:=vs.map some++List.replicate (N.length - vs.length) none
def rh (CX:CXT)(P:Program)(w:World)(K:PySem.W.Frag)(mg:Str->Option Value)(base:Heap)(N:List Str)(qual:Str)(scope:Scope)(f:Addr)(cd:Value)(A:Around)(outer:List Env)(s:Shared)(H:Hp)(E:XK):Cx where
 prog:=P
 w:=w
 K:=K
 mg:=mg
 base:=base
 A:=A.deeper (envOfC qual scope s.heap.objs.size f cd)
 N:=N
 s₀:=s
 H₀:=H
 env:=envOfC qual scope s.heap.objs.size f cd
 outer:=outer
 stack:=envOfC qual scope s.heap.objs.size f cd::outer
 ex:=[]
 calm:=true
 fn:=fun _=>true
 pn:=[]
 xe:=fun e s'=>wpAny (model P w) (A.deeper (envOfC qual scope s.heap.objs.size f cd)) (leaving (envOfC qual scope s.heap.objs.size f cd) e) (fun _ s''=>CX outer H s E e s'') (fun e' s''=>CX outer H s E e' s'') s'
theorem uc {sc:Scope}{n:Nat}{x:Str}(h:sc.names.lookup x=some .cell):∃ c,(cellsFrom n sc.names []).lookup x=some c:=by
 have q:=aiH sc.names n [] (.inl h);exact aij.mp q
theorem xR {CX:CXT}{P:Program}{w:World}{K:PySem.W.Frag}{mg:Str->Option Value}{base:Heap}{N ps:List Str}{qual:Str}{scope:Scope}{f:Addr}{cd:Value}{A:Around}{outer:List Env}{s s1:Shared}{H:Hp}{E:XK}{us:List Value}{vs:List V}
 (S:az N ps scope)(hd:A.handled=none)(e0:Env0 P w K mg base A outer s H)(hl:vs.length=ps.length)(r:Vals vs us)
 (x:InCallC s s.heap.objs.size (bindL (envOfC qual scope s.heap.objs.size f cd).kindOf (ps.zip us) fun _=>none) (cellsFrom (s.heap.objs.size+1) scope.names []) (bindC (envOfC qual scope s.heap.objs.size f cd).kindOf (ps.zip us) fun _=>none) s1) :
 Inv (rh CX P w K mg base N qual scope f cd A outer s H E) [] (nr N vs) H s1:=by
 have hpl:ps.length<=N.length:=by have:=afy List.length S.pre;rw [aeK] at this;lia
 obtain⟨h1,tk,rfl,hk⟩:=x.done;have noA:∀ b:Addr,b ∉ (rh CX P w K mg base N qual scope f cd A outer s H E).ex:=fun b z=>absurd (show b∈([]:List Addr) from z) (by simp);refine⟨⟨e0.mod,S.kind,rfl,rfl,aep _,fun y z c h1 h2=>?_,fun y hy=>?_,fun y c _ h=>?_,fun _=>hd,Around.frames_deeper e0.frames,.inr ⟨rfl,rfl⟩,fun b z=>absurd z (noA b),e0.bs,e0.bsz,fun b _ _=>noA b,fun b z=>absurd z (noA b),e0.funs,e0.frf⟩,
  rfl,e0.bare,Un.kept hk,⟨_,x.toInCall.ns,fun i y v h1 h2 h3=>?_⟩,fun y c h=>⟨_,x.cell y c h⟩,e0.hok.fresh (aep _),fun y c h=>?_,fun p hp=>absurd (show p∈([]:List (Addr×Obj)) from hp) (by simp),e0.hok.kept hk,?_⟩
 ·exact name_of_addr x.apart (agH h1) (agH h2)
 ·have hy:scope.names.lookup y=some .cell\/scope.names.lookup y=some .free:=hy;rcases hy with hy | hy
  ·exact uc hy
  ·exact absurd rfl (S.nofree _ (agH hy))
 ·exact af1 (x.above y c (agH h))
 ·have hi:i < vs.length:=by
   unfold nr at h2;by_cases hi:i < vs.length
   ·exact hi
   ·rw [aeJ (by simpa using hi)] at h2;rw [agI] at h2;split at h2<;>cases h2
  have ha:vs[i]? = some v:=by
   unfold nr at h2;rw [aeQ (by simpa using hi),aer] at h2;cases e:vs[i]? with
   | none=>rw [e] at h2;cases h2
   | some a=>rw [e] at h2;cases h2;rfl
  obtain⟨u,hu,rv⟩:=r.get ha;have hp:ps[i]? = some y:=by
   rw [← S.pre,agy (by lia)];exact h1
  have ndP:ps.Nodup:=by rw [← S.pre];exact S.nd.sublist (List.take_sublist _ _)
  refine⟨u,rv,?_⟩;rcases S.par y (aey hp) with k | k
  ·exact .inl ⟨k,qw ndP hp hu k⟩
  ·obtain⟨c,e⟩:=uc (n:=s.heap.objs.size+1) k;refine .inr ⟨.inl k,c,e,?_⟩;have q:=x.cell y c e;rw [qZ ndP hp hu (by show scope.names.lookup y≠_;rw [k];decide)] at q;exact q
 ·exact e0.hok.fresh (af1 (x.above y c (agH h)))
 ·unfold nr;show _=N.length;rw [aeo,aej,afq];lia
theorem aax {CX:CXT}{P:Program}{w:World}{K:PySem.W.Frag}{mg:Str->Option Value}{base:Heap}{k:Nat}{f:Addr}{name qual:Str}{params:Arguments}{body:List Stmt}{scope:Scope}{dV kV doc pm cdv ct oc:Value}{an od:Option Addr}
 {osl:Array (Option Value)}{N ps:List Str}{sp:Sp}(lk:K.lookup f=some ⟨oc,od,.func (fnOf name qual params body scope dV kV doc pm an cdv ct),osl⟩)(hcd:codeIn K cdv qual=true)(S:az N ps scope)
 (len:∀ vs H Q E,sp vs H Q E->vs.length=ps.length)
 (hbody:∀ (A:Around) (outer:List Env) (s:Shared) (H:Hp) (vs:List V) (Q:VK) (E:XK),Room k (A.deeper (envOfC qual scope s.heap.objs.size f cdv))->sp vs H Q E →
  ∃ t,PSs (rh CX P w K mg base N qual scope f cdv A outer s H E) body t/\t { nx:=fun _ H'=>Q .non H',rt:=Q } (nr N vs) H) :
 FnOk P w K mg base CX (k+1) f (fnOf name qual params body scope dV kV doc pm an cdv ct) ps sp:=by
 refine⟨len,fun A outer s H args us vs Q E hr e0 hb r hsp=>?_⟩;have hl:=len _ _ _ _ hsp;have KX:K.In s.heap:=e0.mod.kin.keeps fun b o e=>(e0.bs b o e).1;have lim:s.heap.NoLimit:=e0.mod.nolimit.keeps fun b o e=>(e0.bs b o e).1;have hkind:∀ y∈ps.zip us,scope.names.lookup y.1=some .local\/(scope.names.lookup y.1=some .cell/\((cellsFrom (s.heap.objs.size+1) scope.names []).lookup y.1).isSome=true):=fun ⟨n,v⟩ hy=>by
  rcases S.par n (aiP hy).1 with q | q
  ·exact .inl q
  ·exact .inr ⟨q,aiH _ _ _ (.inl q)⟩
 refine codeAny_call_function hr.depth (KX _ _ lk) rfl S.co S.gen rfl (PySem.W.codeRec_of KX hcd) (hb _ _ _ _ ?_);refine wpAny_newFunctionEnv_cells S.kind hkind fun env he s1 x=>?_;subst he;refine⟨lim.keeps x.toInCall.keep,codeAny_func ?_⟩;obtain⟨t,ht,hq⟩:=hbody A outer s H vs Q E (hr.deeper _) hsp;have I:Inv (rh CX P w K mg base N qual scope f cdv A outer s H E) [] (nr N vs) H s1:=xR S hr.hd e0 hl r x;refine aeV (ht [] s1 (nr N vs) H _ I hq) (fun fl s' hs=>?_) fun e s' hs=>hs;have fin:∀ {σ':St} {H':Hp} {v:V} {u:Value},Inv (rh CX P w K mg base N qual scope f cdv A outer s H E) [] σ' H' s'->RelV v u->Q v H'->CE outer P w H s Q u s' :=
  fun {σ' H' v u} J rv q=>⟨v,H',J.os,J.bare,J.base,J.hok,rv,q⟩
 cases fl with
 | ret u =>
  obtain⟨v,σ',H',J,rv,q⟩:=hs;exact fin J rv q
 | next =>
  obtain⟨σ',H',J,q⟩:=hs;exact fin (v:=V.non) (u:=Value.none) J rfl q
 | brk =>
  obtain⟨_,_,_,q⟩:=hs;exact False.elim q
 | cont =>
  obtain⟨_,_,_,q⟩:=hs;exact False.elim q
section
variable {X:Cx}{x:Str}{p pos:Pos}{e:Expr}{es:List Expr}{t:TA}{id T:String}{r:List V->Hp->VK->Prop}
def tCB (r:List V->Hp->VK->Prop)(t:TA):TE:=fun σ H Q=>t σ H fun vs H1=>r vs H1 Q
theorem av (hc:gI X (.builtin id) r)(hg:Gl X x)(hm:X.mg x=none)(hv:bootBuiltins x=some (.builtin id))(ha:PA X (e::es) t)(hn:x ≠ "__name__" := by decide)(hdb:(x == ("__debug__" : Str))=false:=by decide)
 (he:starEach (e::es) X.env=(false,eval e X.env)::starEach es X.env:=by rfl)(hpl:(backTo pos (starEach es X.env)).any (·.1)=false:=by rfl):PE X (.Call (.Name x p) (e::es) [] pos) (tCB r t):=by
 intro pins s σ H Q I h;refine agX (jx I hg hm hv ?_ hn hdb);exact PyProof.Rows.callWith_builtin1 (thn (ha pos pins s σ H _ I h) fun us s1 ⟨vs,H1,I1,r1,q1⟩=>hc pins s1 σ H1 vs us Q I1 r1 q1) he hpl
theorem di (hc:gI X (.type T) r)(hg:Gl X x)(hm:X.mg x=none)(hv:bootBuiltins x=some (.type T))(ha:PA X (e::es) t)(hn:x ≠ "__name__" := by decide)(hdb:(x == ("__debug__" : Str))=false:=by decide)
 (he:starEach (e::es) X.env=(false,eval e X.env)::starEach es X.env:=by rfl)(hpl:(backTo pos (starEach es X.env)).any (·.1)=false:=by rfl):PE X (.Call (.Name x p) (e::es) [] pos) (tCB r t):=by
 intro pins s σ H Q I h;refine agX (jx I hg hm hv ?_ hn hdb);exact afp (thn (ha pos pins s σ H _ I h) fun us s1 ⟨vs,H1,I1,r1,q1⟩=>hc pins s1 σ H1 vs us Q I1 r1 q1) he hpl
end
end L2
namespace HT
open PySem PyProof.Rows
section
open PySem.SeqAt
open PySem.AutoSeq1 (wpAny_loadPart')
open PySem.MeetsSeq PySem.MeetsSeq2 PySem.MeetsSeq3
end
section
variable {prog:Program}{w:World}{A:Around}{E:Value->Shared->Prop}{s:Shared}
def sIx (n d:Nat):Option Int->Nat
 | none=>d
 | some v=>if v < 0 then (v+(n:Int)).toNat else min v.toNat n
theorem sIx_none (n d:Nat):sIx n d none=d:=rfl
theorem sIx_nat (n d k:Nat):sIx n d (some (k:Int))=min k n:=by
 show (if (k:Int) < 0 then ((k:Int)+(n:Int)).toNat else min (k:Int).toNat n)=min k n;rw [if_neg (by lia),aeY]
end
end HT
namespace L2
open PySem PySem.Spec PyProof.Rows
abbrev TO:=St->Hp->(Option Int->Hp->Prop)->Prop
def PO (X:Cx)(e:Option Expr)(t:TO):Prop :=
 ∀ (pins:List (Addr×Obj)) (s:Shared) (σ:St) (H:Hp) (Q:Option Int->Hp->Prop),Inv X pins σ H s->t σ H Q →
  wpAny (model X.prog X.w) X.A (evalPart e X.env) (fun u s'=>∃ o H',Inv X pins σ H' s'/\IsPart u o/\Q o H') X.xe s
def aby:TO:=fun _ H Q=>Q none H
def adH (t:TE):TO:=fun σ H Q=>t σ H fun x H1=>∃ i,x=.int i/\Q (some i) H1
theorem vB {ns:List Int}:∀ {us:List Value},Vals (ns.map V.int) us->IntsAre us ns:=by
 induction ns with
 | nil=>intro us r;rw [ah7] at r;cases r;exact .nil
 | cons n ns ih =>
  intro us r;rw [aeG] at r;cases r with
  | cons r1 r2 =>
   obtain⟨t,e⟩:=r1;subst e;exact .cons n t (ih r2)
section
variable {X:Cx}{e:Expr}{te:TE}{lo hi:Option Expr}{tl th:TO}{pos p2:Pos}
theorem r9:PO X none aby:=by
 intro pins s σ H Q I h;rw [evalPart_none];exact aen ⟨none,H,I,.none,h⟩
theorem l9 (h:PE X e te):PO X (some e) (adH te):=by
 intro pins s σ H Q I hw;rw [evalPart_some];refine thn (h pins s σ H _ I hw) fun u s1 ⟨x,H1,I1,r1,q1⟩=>?_;obtain⟨i,rfl,q⟩:=q1;obtain⟨t,rfl⟩:=r1;exact⟨some i,H1,I1,.int i t,q⟩
def SlR (X:Cx)(r:V->Option Int->Option Int->Hp->VK->Prop):Prop :=
 ∀ (pins:List (Addr×Obj)) (s:Shared) (σ:St) (H:Hp) (x:V) (v vl vu:Value) (lo hi:Option Int) (sl:Addr) (Q:VK),Inv X pins σ H s->RelV x v->s.heap.IsSliceOf sl vl vu .none->IsPart vl lo->IsPart vu hi->r x lo hi H Q →
  ∃ T id,typeLookup (.type T) "__getitem__" = pure (some (.builtin id))/\s.TypeIs v T/\wpAny (model X.prog X.w) X.A (getItem v (.ref sl)) (EP X pins σ Q) X.xe s
def tSl (r:V->Option Int->Option Int->Hp->VK->Prop)(te:TE)(tl th:TO):TE:=fun σ H Q=>te σ H fun x H1=>tl σ H1 fun l H2=>th σ H2 fun u H3=>r x l u H3 Q
theorem kY {r:V->Option Int->Option Int->Hp->VK->Prop}(hr:SlR X r)(he:PE X e te)(hl:PO X lo tl)(hu:PO X hi th):PE X (.Subscript e (.Slice lo hi none p2) pos) (tSl r te tl th):=by
 intro pins s σ H Q I h;refine Subscript_ (thn (he pins s σ H _ I h) fun v s1 ⟨x,H1,I1,r1,q1⟩=>?_);refine wpAny_Slice (thn (hl pins s1 σ H1 _ I1 q1) fun vl s2 ⟨l,H2,I2,pl,q2⟩=>thn (hu pins s2 σ H2 _ I2 q2) fun vu s3 ⟨u,H3,I3,pu,q3⟩=>?_);rw [evalPart_none];refine aen ?_;have I4:Inv X pins σ H3 { s3 with heap:=s3.heap.push { cls:=.type "slice",data:=.fields #[vl,vu,.none] } }:=I3.kept (t':=s3.toks) fun b ob q=>ael _ q;obtain⟨T,id,hT,ht,hg⟩:=hr pins { s3 with heap:=s3.heap.push { cls:=.type "slice",data:=.fields #[vl,vu,.none] } } σ H3 x v vl vu l u s3.heap.objs.size Q I4 r1 (Heap.IsSliceOf.new ..) pl pu q3;show wpAny (model X.prog X.w) X.A (subscriptTail e (.Slice lo hi none p2) v (.ref s3.heap.objs.size)) (EP X pins σ Q) X.xe { s3 with heap:=s3.heap.push { cls:=.type "slice",data:=.fields #[vl,vu,.none] } };exact tail_any (ops:=[.ref s3.heap.objs.size,v]) ht hT hg (by with_unfolding_all rfl)
def pF (xs:List V)(lo hi:Option Int):List V:=(xs.drop (HT.sIx xs.length 0 lo)).take (HT.sIx xs.length xs.length hi - HT.sIx xs.length 0 lo)
theorem rZ (xs:List V)(lo hi:Option Int):(pF xs lo hi).length<=xs.length:=by
 unfold pF;rw [aeK,afs];lia
end
def ixN (n:Nat)(i:Int):Option Nat:=if 0<=i then (if i < n then some i.toNat else none) else if -(n:Int)<=i then some (i+n).toNat else none
def atI {α:Type}(xs:List α)(i:Int):Option α:=(ixN xs.length i).bind fun j=>xs[j]?
theorem xn {n:Nat}{i:Int}{j:Nat}(h:ixN n i=some j):seqIndex? i n=some j/\j < n/\-(n:Int)<=i/\i < n:=by
 unfold ixN at h;by_cases h0:0<=i
 ·rw [if_pos h0] at h;by_cases h1:i < n
  ·rw [if_pos h1] at h;have e:i.toNat=j:=afg h;exact⟨by rw [seqIndex_of h0 h1,e],by lia,by lia,h1⟩
  ·rw [if_neg h1] at h;cases h
 ·rw [if_neg h0] at h;by_cases h1:-(n:Int)<=i
  ·rw [if_pos h1] at h;have e:(i+n).toNat=j:=afg h;exact⟨by rw [seqIndex_neg (by lia) h1,e],by lia,h1,by lia⟩
  ·rw [if_neg h1] at h;cases h
theorem tF {α:Type}{xs:List α}{i:Int}{v:α}(h:atI xs i=some v):∃ j,seqIndex? i xs.length=some j/\xs[j]? = some v/\j < xs.length/\-(xs.length:Int)<=i/\i < xs.length:=by
 unfold atI at h;cases e:ixN xs.length i with
 | none=>rw [e] at h;cases h
 | some j =>
  rw [e] at h;obtain⟨h1,h2,h3,h4⟩:=xn e;exact⟨j,h1,h,h2,h3,h4⟩
theorem bq {α:Type}{xs:List α}{j:Nat}{v:α}(h:xs[j]? = some v):atI xs (j:Int)=some v:=by
 have hj:j < xs.length:=(aek.mp h).1;have e:ixN xs.length (j:Int)=some j:=by
  unfold ixN;rw [if_pos (by lia),if_pos (by lia)];simp
 unfold atI;rw [e];exact h
theorem zB {α:Type}(xs:List α)(v:α):atI (xs++[v]) (-1)=some v:=by
 have hl:(xs++[v]).length=xs.length+1:=by simp
 have e:ixN (xs++[v]).length (-1)=some xs.length:=by
  unfold ixN;rw [hl,if_neg (by decide),if_pos (by lia)];congr 1;lia
 unfold atI;rw [e];show (xs++[v])[xs.length]? = some v;simp
def aa9 (b:Expr):Prop:=∀ o i,subscripted b false o i=operate [o,i] (getItem o i)
def IxR (X:Cx)(r:R2):Prop :=
 ∀ (value slice:Expr) (pins:List (Addr×Obj)) (s:Shared) (σ:St) (H:Hp) (x y:V) (v u:Value) (Q:VK),Inv X pins σ H s->RelV x v->RelV y u->r x y H Q →
  subscripted slice false v u=operate [v,u] (getItem v u)->wpAny (model X.prog X.w) X.A (subscriptTail value slice v u) (EP X pins σ Q) X.xe s
def MtR (X:Cx)(id:String)(r:V->List V->Hp->VK->Prop):Prop :=
 ∀ (pins:List (Addr×Obj)) (s:Shared) (σ:St) (H:Hp) (x:V) (xs:List V) (v:Value) (us:List Value) (Q:VK),Inv X pins σ H s->RelV x v->Vals xs us->r x xs H Q →
  wpAny (model X.prog X.w) X.A (call (.builtin id) (v::us)) (EP X pins σ Q) X.xe s
section
variable {X:Cx}{a b:Expr}{ta tb:TE}{pos:Pos}
theorem aN {r:R2}(hr:IxR X r)(ha:PE X a ta)(hb:PE X b tb)(hs:aa9 b):PE X (.Subscript a b pos) (tOp r ta tb):=by
 intro pins s σ H Q I h;exact Subscript_ (ac6 ha hb I h fun v u s2 x y H2 I2 rx ry q=>hr a b pins s2 σ H2 x y v u Q I2 rx ry q (hs _ _))
def adR (K:PySem.W.Frag):R2:=fun x y H Q=>∃ p xs i v,x=.ref p/\y=.int i/\SqL K H p xs/\atI xs i=some v/\Q v H
def adN (K:PySem.W.Frag):R2:=fun x y H Q=>∃ p xs i v,x=.ref p/\y=.int i/\SqT K H p xs/\atI xs i=some v/\Q v H
def ad9:R2:=fun x y H Q=>∃ z i c,x=.str z/\y=.int i/\z.length<=sizeLine/\atI z.cps.toList i=some c/\Q (.str ⟨#[c]⟩) H
theorem aS:IxR X (adR X.K):=by
 intro value slice pins s σ H x y v u Q I rx ry h hs;obtain⟨p,xs,i,z,rfl,rfl,hq,he,q⟩:=h;cases rx;obtain⟨t,rfl⟩:=ry;obtain⟨its,r,pl,hz⟩:=I.list hq;obtain⟨j,h1,h2,h3,h4,h5⟩:=tF he;obtain⟨w,ew,rw'⟩:=r.get h2;have hl:=r.length;have hn:=kI;have fin:EP X pins σ Q w s:=⟨z,H,I,rw',q⟩;by_cases h0:0<=i
 ·have hj:i.toNat=j:=by
   rw [seqIndex_of h0 h5] at h1;exact afg h1
  exact item_listR pl.isList h0 (by lia) (by rw [hj];simpa using ew) fin hs
 ·have hj:(i+(its.toArray.size:Int)).toNat=j:=by
   rw [seqIndex_neg (by lia) h4] at h1;rw [aeH,← hl];exact afg h1
  exact subscriptTail_builtinR (x:=w) pl.isList.typeIs aik.lookup
   (wpAny_getItem_list_neg (Q:=fun r s'=>r=w/\EP X pins σ Q r s') pl.isList (by lia) (by rw [aeH]<;>lia) (by lia) (by rw [hj];simpa using ew) ⟨rfl,fin⟩) hs
theorem bP:IxR X (adN X.K):=by
 intro value slice pins s σ H x y v u Q I rx ry h hs;obtain⟨p,xs,i,z,rfl,rfl,hq,he,q⟩:=h;cases rx;obtain⟨t,rfl⟩:=ry;obtain⟨its,r,pl,hz⟩:=I.tuple hq;obtain⟨j,h1,h2,h3,h4,h5⟩:=tF he;obtain⟨w,ew,rw'⟩:=r.get h2;have hl:=r.length;have hn:=kI;have fin:EP X pins σ Q w s:=⟨z,H,I,rw',q⟩;exact subscriptTail_builtinR (x:=w) pl.typeIs slot_tuple_getitem.lookup
  (getItem_tuple (j:=j) (Q:=fun r s'=>r=w/\EP X pins σ Q r s') pl (by lia) (by lia) (by rw [aeH,← hl];exact h1) (by simpa using ew) ⟨rfl,fin⟩) hs
theorem ach:IxR X ad9:=by
 intro value slice pins s σ H x y v u Q I rx ry h hs;obtain⟨z,i,c,rfl,rfl,hz,he,q⟩:=h;obtain⟨t,rfl⟩:=rx;obtain⟨t',rfl⟩:=ry;obtain⟨j,h1,h2,h3,h4,h5⟩:=tF he;have hl:z.cps.toList.length=z.length:=by simp [Str.length]
 rw [hl] at h1 h4 h5;have hn:=kI;exact tail_any (typeIs_str s z t) slot_str_getitem.lookup (getItem_str (c:=c) (by
  have e1:decide (i < -(2 ^ 63:Int))=false:=aeO (by lia);have e2:decide (i ≥ 2 ^ 63)=false:=aeO (by lia);rw [e1,e2,Bool.or_false]) (by rw [h1];simpa using h2) ⟨.str ⟨#[c]⟩,H,I.tok _,⟨_,rfl⟩,q⟩) hs
theorem vj (its:List Value)(n j:Nat)(u:Value):Obj.mapSeq (·.setIfInBounds j u) { cls:=.type "list",data:=.seq its.toArray n }={ cls:=.type "list",data:=.seq (its.set j u).toArray n }:=by
 simp [Obj.mapSeq]
theorem Inv.lst {pins:List (Addr×Obj)}{σ:St}{H:Hp}{s:Shared}{p:Addr}{xs:List V}(I:Inv X pins σ H s)(h:H p=some (.lst xs)) :
 ∃ (its:List Value) (n:Nat),Vals xs its/\s.heap.get? p=some { cls:=.type "list",data:=.seq its.toArray n }/\xs.length<=sizeLine:=by
 obtain⟨z,its,n,r,e⟩:=I.hok p _ h;exact⟨its,n,r,e,z⟩
theorem Inv.lstUpd {pins:List (Addr×Obj)}{σ:St}{H:Hp}{s:Shared}{p:Addr}{xs ys:List V}{its its':List Value}{n n':Nat}{f:Obj->Obj}(I:Inv X pins σ H s)(h:H p=some (.lst xs))
 (ho:s.heap.get? p=some { cls:=.type "list",data:=.seq its.toArray n })(hf:f { cls:=.type "list",data:=.seq its.toArray n }={ cls:=.type "list",data:=.seq its'.toArray n' })(r:Vals ys its')(hz:ys.length<=sizeLine)(t:Nat) :
 Inv X pins σ (upd H p (.lst ys)) { s with heap:=s.heap.update p f,toks:=t }:=by
 have e:(s.heap.update p f).get? p=some { cls:=.type "list",data:=.seq its'.toArray n' }:=by
  rw [af2 f ho (by rw [hf]<;>rfl),hf]
 refine I.write (x:=p) (e:=p) (by rw [h];trivial) (.inl rfl) (fun b u hb q=>(afW _ _ (afO hb)).trans q) ⟨_,e⟩ ?_;exact⟨hz,its',n',r,e⟩
def adw:V->V->V->Hp->(Hp->Prop)->Prop:=fun o i v H Q=>∃ p xs k j,o=.ref p/\i=.int k/\H p=some (.lst xs)/\ixN xs.length k=some j/\Q (upd H p (.lst (xs.set j v)))
theorem oE:adC X adw:=by
 intro pins s σ H o i v ov iv u Q I ro ri rv h;obtain⟨p,xs,k,j,rfl,rfl,hp,hj,q⟩:=h;cases ro;obtain⟨t,rfl⟩:=ri;obtain⟨its,n,r,ho,hz⟩:=I.lst hp;obtain⟨h1,h2,h3,h4⟩:=xn hj;have hl:=r.length;have hn:=kI;have I':Inv X pins σ (upd H p (.lst (xs.set j v))) { s with heap:=s.heap.update p (Obj.mapSeq (·.setIfInBounds j u)) } :=
  I.lstUpd hp ho (vj its n j u) (r.set rv j) (by rw [List.length_set];exact hz) s.toks
 by_cases h0:0<=k
 ·have hk:k.toNat=j:=by
   rw [seqIndex_of h0 h4] at h1;exact afg h1
  exact PySem.W.ki_setAt ho h0 (by lia) (by rw [aeH,← hl];exact h4) (by rw [hk];exact⟨_,I',q⟩)
 ·have hk:(k+(its.toArray.size:Int)).toNat=j:=by
   rw [seqIndex_neg (by lia) h3] at h1;rw [aeH,← hl];exact afg h1
  exact PySem.W.ki_setBack ho (by lia) (by rw [aeH,← hl];exact h3) (by lia) (by rw [hk];exact⟨_,I',q⟩)
theorem qc (lo hi:Option Int)(n:Nat):(sliceBounds lo hi none n).1=((HT.sIx n 0 lo:Nat):Int)/\(sliceBounds lo hi none n).2.1=((HT.sIx n n hi:Nat):Int)/\(sliceBounds lo hi none n).2.2=1:=by
 refine⟨?_,?_,rfl⟩
 ·cases lo with
  | none=>simp [sliceBounds,HT.sIx]
  | some i =>
   simp only [sliceBounds,HT.sIx,Option.getD_none,show (1:Int) > 0 by decide,aht];by_cases h:i < 0
   ·simp only [h,aht]<;>lia
   ·simp only [h,agJ]<;>lia
 ·cases hi with
  | none=>simp [sliceBounds,HT.sIx]
  | some i =>
   simp only [sliceBounds,HT.sIx,Option.getD_none,show (1:Int) > 0 by decide,aht];by_cases h:i < 0
   ·simp only [h,aht]<;>lia
   ·simp only [h,agJ]<;>lia
theorem oW (its:List Value)(lo hi:Option Int):slicePick its.toArray lo hi none=((its.drop (HT.sIx its.length 0 lo)).take (HT.sIx its.length its.length hi - HT.sIx its.length 0 lo)).toArray:=by
 obtain⟨h1,h2,h3⟩:=qc lo hi its.toArray.size;unfold slicePick;rw [h1,h2,h3];simp only [sliceRange_one,pick_run,aeH]<;>rfl
def ad7 (K:PySem.W.Frag):V->Option Int->Option Int->Hp->VK->Prop:=fun x lo hi H Q=>∃ a xs,x=.ref a/\SqL K H a xs/\∀ p,H p=none->Q (.ref p) (upd H p (.lst (pF xs lo hi)))
theorem oC:SlR X (ad7 X.K):=by
 intro pins s σ H x v vl vu lo hi sl Q I rx hs pl pu h;obtain⟨a,xs,rfl,hx,q⟩:=h;cases rx;obtain⟨its,r,ht,hz⟩:=I.list hx;have hlen:=r.length;refine⟨"list",_,aik.lookup,ht.isList.typeIs,?_⟩;refine wpAny_getItem_list_slice ht.isList hs pl pu .none (by simp) ?_ (by rw [aeH]<;>lia);rw [oW,← hlen];refine⟨.ref s.heap.objs.size,_,I.laid (t':=s.toks) (o:=.lst (pF xs lo hi)) (fun b ob q=>ael _ q) (aep _) ?_,rfl,q _ (I.hok.fresh (aep _))⟩;exact⟨aeN (rZ xs lo hi) hz,_,0,(r.drop (HT.sIx xs.length 0 lo)).take (HT.sIx xs.length xs.length hi - HT.sIx xs.length 0 lo),aeF _ rfl⟩
def oO:V->Bool
 | .non=>true
 | .bl _=>true
 | .int _=>true
 | .str _=>true
 | _=>false
def eqV:V->V->Bool
 | .non,.non=>true
 | .bl a,.bl b=>a == b
 | .bl a,.int b=>(if a then 1 else 0) == b
 | .int a,.bl b=>a == (if b then 1 else 0)
 | .int a,.int b=>a == b
 | .str a,.str b=>a == b
 | _,_=>false
theorem abT {A:Around}{s:Shared}{y x:V}{u v:Value}(ry:RelV y u)(rx:RelV x v)(fy:oO y=true)(fx:oO x=true):SeqAt.EqAt A s u v (eqV y x):=by
 cases y with
 | non =>
  cases ry;cases x with
  | non=>cases rx;exact SeqAt.EqAt.same _
  | bl b=>cases rx;exact SeqAt.EqAt.none_bool b
  | int b=>obtain⟨t,rfl⟩:=rx;exact SeqAt.EqAt.none_int b t
  | str b=>obtain⟨t,rfl⟩:=rx;exact SeqAt.EqAt.none_str b t
  | _=>exact absurd (show false=true from fx) aem
 | bl a =>
  cases ry;cases x with
  | non=>cases rx;exact SeqAt.EqAt.bool_none a
  | bl b=>cases rx;exact SeqAt.EqAt.bool_bool a b
  | int b=>obtain⟨t,rfl⟩:=rx;exact SeqAt.EqAt.bool_int a b t
  | str b=>obtain⟨t,rfl⟩:=rx;exact SeqAt.EqAt.bool_str a b t
  | _=>exact absurd (show false=true from fx) aem
 | int a =>
  obtain⟨t',rfl⟩:=ry;cases x with
  | non=>cases rx;exact SeqAt.EqAt.int_none a t'
  | bl b=>cases rx;exact SeqAt.EqAt.int_bool a t' b
  | int b=>obtain⟨t,rfl⟩:=rx;exact SeqAt.EqAt.int_int a t' b t
  | str b=>obtain⟨t,rfl⟩:=rx;exact SeqAt.EqAt.int_str a t' b t
  | _=>exact absurd (show false=true from fx) aem
 | str a =>
  obtain⟨t',rfl⟩:=ry;cases x with
  | non=>cases rx;exact SeqAt.EqAt.str_none a t'
  | bl b=>cases rx;exact SeqAt.EqAt.str_bool a t' b
  | int b=>obtain⟨t,rfl⟩:=rx;exact SeqAt.EqAt.str_int a t' b t
  | str b=>obtain⟨t,rfl⟩:=rx;exact SeqAt.EqAt.str_str a t' b t
  | _=>exact absurd (show false=true from fx) aem
 | _=>exact absurd (show false=true from fy) aem
def eqU (x:V)(u:Value):Bool:=match u with
 | .none=>eqV .non x
 | .bool b=>eqV (.bl b) x
 | .int i _=>eqV (.int i) x
 | .str z _=>eqV (.str z) x
 | _=>false
theorem aat {x y:V}{u:Value}(r:RelV y u)(f:oO y=true):eqU x u=eqV y x:=by
 cases y with
 | non=>cases r;rfl
 | bl b=>cases r;rfl
 | int i=>obtain⟨t,rfl⟩:=r;rfl
 | str z=>obtain⟨t,rfl⟩:=r;rfl
 | _=>exact absurd (show false=true from f) aem
theorem mF {x:V}:∀ {xs:List V} {us:List Value},Vals xs us->xs.all oO=true->us.any (eqU x)=xs.any fun y=>eqV y x
 | _,_,.nil,_=>rfl
 | y::xs,u::us,.cons r t,f=>by
  rw [aiy,ae2] at f;rw [ahk,ahk,aat r f.1,mF t f.2]
theorem jR {A:Around}{s:Shared}{x:V}{v:Value}(rx:RelV x v)(fx:oO x=true):∀ {xs:List V} {us:List Value},Vals xs us->xs.all oO=true->∀ u∈us,SeqAt.EqAt A s u v (eqU x u)
 | _,_,.nil,_=>fun u hu=>by cases hu
 | y::xs,u::us,.cons r t,f=>fun u' hu=>by
  rw [aiy,ae2] at f;rcases aeu.mp hu with rfl | hu
  ·rw [aat r f.1];exact abT r rx f.1 fx
  ·exact jR rx fx t f.2 u' hu
def inV (x:V)(xs:List V):Bool:=xs.any fun y=>eqV y x
def rIn (K:PySem.W.Frag)(neg:Bool):R2:=fun x y H Q=>∃ p xs,y=.ref p/\(SqL K H p xs\/SqT K H p xs)/\oO x=true/\xs.all oO=true/\Q (.bl (if neg then !inV x xs else inV x xs)) H
theorem vW:OpR X (compareOp .In) (rIn X.K false):=by
 intro pins s σ H x y v u Q I rx ry h;obtain⟨p,xs,rfl,hq,fx,fs,q⟩:=h;cases ry;rcases hq with hq | hq
 ·obtain⟨its,r,pl,hz⟩:=I.list hq;refine SeqAt.in_listAt (eqU x) pl.isList (fun w hw=>jR rx fx r fs w (by simpa using hw)) ⟨.bl _,H,I,rfl,?_⟩;rw [show its.toArray.any (eqU x)=its.any (eqU x) by simp,mF r fs];exact q
 ·obtain⟨its,r,pl,hz⟩:=I.tuple hq;refine SeqAt.in_tupleAt (eqU x) pl (fun w hw=>jR rx fx r fs w (by simpa using hw)) ⟨.bl _,H,I,rfl,?_⟩;rw [show its.toArray.any (eqU x)=its.any (eqU x) by simp,mF r fs];exact q
theorem dO:OpR X (compareOp .NotIn) (rIn X.K true):=by
 intro pins s σ H x y v u Q I rx ry h;obtain⟨p,xs,rfl,hq,fx,fs,q⟩:=h;cases ry;rcases hq with hq | hq
 ·obtain⟨its,r,pl,hz⟩:=I.list hq;refine SeqAt.notIn_listAt (eqU x) pl.isList (fun w hw=>jR rx fx r fs w (by simpa using hw)) ⟨.bl _,H,I,rfl,?_⟩;rw [show its.toArray.any (eqU x)=its.any (eqU x) by simp,mF r fs];exact q
 ·obtain⟨its,r,pl,hz⟩:=I.tuple hq;refine SeqAt.notIn_tupleAt (eqU x) pl (fun w hw=>jR rx fx r fs w (by simpa using hw)) ⟨.bl _,H,I,rfl,?_⟩;rw [show its.toArray.any (eqU x)=its.any (eqU x) by simp,mF r fs];exact q
theorem aI:gI X (.builtin "len") (fun xs H Q=>∃ p ys,xs=[.ref p]/\(SqL X.K H p ys\/SqT X.K H p ys)/\Q (.int ys.length) H):=by
 intro pins s σ H xs us Q I r h;obtain⟨p,ys,rfl,hq,q⟩:=h;obtain⟨u,rfl,rx⟩:=iE r;cases rx;have hn:=kI;rcases hq with hq | hq
 ·obtain⟨its,r',pl,hz⟩:=I.list hq;have hlen:=r'.length;exact Calls.call_len_list pl.isList (by simp only [aeH]<;>lia) ⟨.int ys.length,H,I.tok _,⟨s.toks+1,by rw [aeH,hlen]⟩,q⟩
 ·obtain⟨its,r',pl,hz⟩:=I.tuple hq;have hlen:=r'.length;exact len_tuple pl (by simp only [aeH]<;>lia) ⟨.int ys.length,H,I.tok _,⟨s.toks+1,by rw [aeH,hlen]⟩,q⟩
theorem qg:gI X (.builtin "len") (fun xs H Q=>∃ z,xs=[.str z]/\z.length<=sizeLine/\Q (.int z.length) H):=by
 intro pins s σ H xs us Q I r h;obtain⟨z,rfl,hz,q⟩:=h;obtain⟨u,rfl,t,rfl⟩:=iE r;have hn:=kI;exact len_str (by lia) ⟨.int z.length,H,I.tok _,⟨_,rfl⟩,q⟩
theorem hE:gI X (.type "list") (fun xs H Q=>∃ p ys,xs=[.ref p]/\(SqL X.K H p ys\/SqT X.K H p ys)/\∀ l,H l=none->Q (.ref l) (upd H l (.lst ys))):=by
 intro pins s σ H xs us Q I r h;obtain⟨p,ys,rfl,hq,q⟩:=h;obtain⟨u,rfl,rx⟩:=iE r;cases rx;have fin:∀ (its:List Value),Vals ys its->ys.length<=sizeLine->∀ (h':Heap) (c':Nat),(∀ b o',s.heap.get? b=some o'->h'.get? b=some o') →
  h'.get? s.heap.objs.size=some { cls:=.type "list",dict:=none,data:=.seq its.toArray c',slots:=#[] }->EP X pins σ Q (.ref s.heap.objs.size) { s with heap:=h' }:=fun its r' hz h' c' kp e =>
  ⟨.ref s.heap.objs.size,_,I.laid (t':=s.toks) kp (aep _) (show ObjOk X.prog X.w _ h' _ (.lst ys) from ⟨hz,its,c',r',e⟩),rfl,q _ (I.hok.fresh (aep _))⟩
 rcases hq with hq | hq
 ·obtain⟨its,r',pl,hz⟩:=I.list hq;have hlen:=r'.length;obtain⟨o,ho,hc,n,hd⟩:=pl.isList;exact call_list_seq p (.inl rfl) ho hc hd (fun h' c' kp e=>fin its r' hz h' c' kp e) (by simp only [aeH]<;>lia)
 ·obtain⟨its,r',pl,hz⟩:=I.tuple hq;have hlen:=r'.length;obtain⟨o,ho,hc,n,hd⟩:=pl;exact call_list_seq p (.inr rfl) ho hc hd (fun h' c' kp e=>fin its r' hz h' c' kp e) (by simp only [aeH]<;>lia)
def tyV (K:PySem.W.Frag)(T:String)(x:V)(H:Hp):Prop:=match x with
 | .str _=>T = "str"
 | .int _=>T = "int"
 | .ref p=>(T = "list" ∧ ∃ xs,SqL K H p xs)\/(T = "tuple" ∧ ∃ o,K.lookup p=some o/\o.cls=.type "tuple" ∧ o.dict=none) ∨
  (T = "dict" ∧ ((∃ kvs,H p=some (.dK kvs))\/∃ kvs,H p=some (.dT kvs)))\/(T = "set" ∧ ∃ S n,H p=some (.set S n))
 | _=>False
theorem z5 {pins:List (Addr×Obj)}{σ:St}{H:Hp}{s:Shared}{T:String}{x:V}{v:Value}(I:Inv X pins σ H s)(r:RelV x v)(ty:tyV X.K T x H) :
 s.TypeIs v T/\∀ a,v=.ref a->∃ ob,s.heap.get? a=some ob/\ob.dict=none:=by
 cases x with
 | str z =>
  obtain⟨t,rfl⟩:=r;cases (show T = "str" from ty);exact⟨typeIs_str s z t,fun _ e=>nomatch e⟩
 | int i =>
  obtain⟨t,rfl⟩:=r;cases (show T = "int" from ty);exact⟨typeIs_int s i t,fun _ e=>nomatch e⟩
 | ref p =>
  cases r;rcases ty with ⟨rfl,xs,hq⟩ | ⟨rfl,o,hk,hc,hd⟩ | ⟨rfl,hk⟩ | ⟨rfl,S,n,hk⟩
  ·obtain⟨its,_,pl,_⟩:=I.list hq;refine⟨pl.isList.typeIs,fun a e=>?_⟩;cases e;obtain⟨o,n,e,c,hd,_⟩:=pl;exact⟨o,e,hd⟩
  ·refine⟨⟨o,I.kIn p o hk,hc⟩,fun a e=>?_⟩;cases e;exact⟨o,I.kIn _ o hk,hd⟩
  ·have z:∃ o,s.heap.get? p=some o/\o.ExactDict:=by
    rcases hk with ⟨kvs,hk⟩ | ⟨kvs,hk⟩
    ·obtain⟨_,_,_,_,o,_,_,e,ex,_⟩:=I.hok p _ hk;exact⟨o,e,ex⟩
    ·obtain⟨_,_,_,_,o,_,_,e,ex,_⟩:=I.hok p _ hk;exact⟨o,e,ex⟩
   obtain⟨o,e,ex⟩:=z;refine⟨⟨o,e,ex.1⟩,fun a e2=>?_⟩;cases e2;exact⟨o,e,ex.2.1⟩
  ·obtain⟨o,_,_,_,e,ex,_⟩:=I.hok p _ hk;refine⟨⟨o,e,ex.1⟩,fun a e2=>?_⟩;cases e2;exact⟨o,e,ex.2.1⟩
 | _=>exact False.elim ty
def tBM (K:PySem.W.Frag)(T:String)(r:V->List V->Hp->VK->Prop)(to:TE)(t:TA):TE:=fun σ H Q=>to σ H fun x H1=>tyV K T x H1/\t σ H1 fun xs H2=>r x xs H2 Q
variable {o e:Expr}{es:List Expr}{to:TE}{t:TA}{name:Str}{apos cpos:Pos}{T id:String}{r:V->List V->Hp->VK->Prop}
theorem oP (pa:PlainAttrs T)(slot:Slot T name id)(hty:typeOf (.builtin id)=pure (.type "method_descriptor"))(hm:MtR X id r)(ho:PE X o to)(ha:PA X (e::es) t)
 (hbase:attributeBase o name X.env (eval o X.env)=eval o X.env:=by rfl)
 (hfew:((backTo cpos (starEach (e::es) X.env)).all (fun x=>!x.1) && (backToKw cpos (keywordEach [] X.env)).all (fun x=>x.1.isSome)
  && decide ((e::es).length+([]:List Keyword).length+(if ([]:List Keyword).isEmpty then 0 else 1) < 30))=true:=by rfl)
 (hline:(apos.endLine == cpos.line)=true:=by rfl)(hs:starEach (e::es) X.env=(false,eval e X.env)::starEach es X.env:=by rfl)(hplain:(backTo cpos (starEach es X.env)).any (·.1)=false:=by rfl) :
 PE X (.Call (.Attribute o name apos) (e::es) [] cpos) (tBM X.K T r to t):=by
 intro pins s σ H Q I h;refine wpAny_Call_method_late hbase hfew hline rfl (thn (ho pins s σ H _ I h) fun v s1 ⟨x,H1,I1,r1,ty,q1⟩=>?_);obtain⟨h1,h2⟩:=z5 I1 r1 ty;refine⟨T,id,pa,slot,hty,h1,h2,?_⟩;have hA:=ha cpos pins s1 σ H1 _ I1 q1;rw [hs] at hA ⊢;refine Calls.callWith_builtin (by show (false || (backTo cpos (starEach es X.env)).any (·.1))=false;rw [hplain]<;>rfl) (Calls.evalArgs_plain ?_);exact thn hA fun us s2 ⟨vs,H2,I2,r2,q2⟩=>hm pins s2 σ H2 x vs v us Q I2 r1 r2 q2
end
def MtM (X:Cx)(id:String)(r:V->List V->Hp->VK->Prop):Prop :=
 ∀ (pins:List (Addr×Obj)) (s:Shared) (σ:St) (H:Hp) (x:V) (xs:List V) (v:Value) (us:List Value) (Q:VK),Inv X pins σ H s->RelV x v->Vals xs us->r x xs H Q →
  wpAny (model X.prog X.w) X.A (call (.builtin id) (v::us)) (EP X pins σ Q) X.xe s
theorem Vals.one:∀ {x:V} {us:List Value},Vals [x] us->∃ u,us=[u]/\RelV x u
 | _,_,.cons r .nil=>⟨_,rfl,r⟩
theorem Vals.eraseIdx:∀ {xs:List V} {us:List Value} (i:Nat),Vals xs us->Vals (xs.eraseIdx i) (us.eraseIdx i)
 | _,_,_,.nil=>.nil
 | _,_,0,.cons _ t=>t
 | _,_,i+1,.cons r t=>.cons r (Vals.eraseIdx i t)
theorem Vals.rep {xs:List V}{us:List Value}(h:Vals xs us):∀ k:Nat,Vals (List.replicate k xs).flatten (List.replicate k us).flatten
 | 0=>.nil
 | k+1=>by
  rw [afI,afI,afX,afX];exact Vals.append h (Vals.rep h k)
theorem rA {α:Type}:∀ (l:List α) (i:Nat),(l.eraseIdx i).length<=l.length
 | [],_=>aep _
 | _::_,0=>afh _
 | _::r,i+1=>Nat.succ_le_succ (rA r i)
theorem qM (its:List Value):∀ (k:Nat) (acc:List Value),
 List.foldl (fun x1 x2=>x1++x2) acc.toArray (List.replicate k its.toArray)=(acc++(List.replicate k its).flatten).toArray
 | 0,acc=>by simp
 | k+1,acc=>by
  have e:acc.toArray++its.toArray=(acc++its).toArray:=by simp
  have e2:(acc++its)++(List.replicate k its).flatten=acc++(List.replicate (k+1) its).flatten:=by
   rw [afI,afX,aet]
  rw [← e2,← qM its k (acc++its),← e,afI,agz]
section
variable {X:Cx}{pins:List (Addr×Obj)}{σ:St}{H:Hp}{s:Shared}{l b:Addr}{xs ys zs:List V}
theorem Inv.lset {its its':List Value}{n:Nat}{f:Array Value->Array Value}{t':Nat}(I:Inv X pins σ H s)(hH:H l=some (.lst xs))
 (e:s.heap.get? l=some { cls:=.type "list",data:=.seq its.toArray n })(hf:f its.toArray=its'.toArray)(hv:Vals ys its')(hz:ys.length<=sizeLine) :
 Inv X pins σ (upd H l (.lst ys)) { s with heap:=s.heap.update l (Obj.mapSeq f),toks:=t' }:=by
 have q:=PySem.IsL.update e f;rw [hf] at q;refine I.write (x:=l) (e:=l) (by rw [hH];exact trivial) (.inl rfl) (fun b' u hb hu=>(afW s.heap (Obj.mapSeq f) (afO hb)).trans hu) ⟨_,q⟩ ?_;exact⟨hz,its',_,hv,q⟩
theorem Inv.lnew {its:List Value}{t':Nat}(I:Inv X pins σ H s)(hv:Vals ys its)(hz:ys.length<=sizeLine) :
 Inv X pins σ (upd H s.heap.objs.size (.lst ys)) { s with heap:=s.heap.push { cls:=.type "list",data:=.seq its.toArray },toks:=t' } :=
 I.laid (fun _ _ q=>ael _ q) (aep _) ⟨hz,its,0,hv,aeF _ rfl⟩
theorem Inv.fresh (I:Inv X pins σ H s):H s.heap.objs.size=none:=I.hok.fresh (aep _)
theorem Inv.lstM (I:Inv X pins σ H s)(hH:H l=some (.lst xs)):xs.length<=sizeLine/\∃ (its:List Value) (n:Nat),Vals xs its/\xs.length=its.length/\s.heap.get? l=some { cls:=.type "list",data:=.seq its.toArray n }:=by
 obtain⟨z,its,n,r,e⟩:=I.hok l _ hH;exact⟨z,its,n,r,r.length,e⟩
theorem uo {n:Nat}(h:n<=sizeLine):Builtin.List.listTooLong n=false:=by
 unfold Builtin.List.listTooLong;exact aeO (by lia)
end
section
variable {X:Cx}
def aaZ:V->List V->Hp->VK->Prop:=fun x vs H Q=>∃ l xs y,x=.ref l/\vs=[y]/\H l=some (.lst xs)/\xs.length < sizeLine/\Q .non (upd H l (.lst (xs++[y])))
theorem dm:MtM X "list.append" aaZ:=by
 intro pins s σ H x vs v us Q I rx rv h;obtain⟨l,xs,y,rfl,rfl,hH,hz,q⟩:=h;cases rx;obtain⟨u,rfl,ru⟩:=rv.one;obtain⟨z,its,n,r,hl,e⟩:=I.lstM hH;refine aim F.slot_list_append ⟨_,e,rfl⟩ F.entry_list_append (F.args_list_append_2 _ _) (PySem.list_append l its.toArray n u (by rw [aeH];lia)) ⟨e,?_⟩;refine⟨.non,_,I.lset (its':=its++[u]) hH e (by simp) (r.append (.cons ru .nil)) ?_,rfl,q⟩;rw [aeo,ae7];lia
def abd:V->List V->Hp->VK->Prop:=fun x vs H Q=>∃ l b xs zs,x=.ref l/\vs=[.ref b]/\H l=some (.lst xs)/\H b=some (.lst zs)/\xs.length+zs.length<=sizeLine/\Q .non (upd H l (.lst (xs++zs)))
theorem abJ:MtM X "list.extend" abd:=by
 intro pins s σ H x vs v us Q I rx rv h;obtain⟨l,b,xs,zs,rfl,rfl,hH,hB,hz,q⟩:=h;cases rx;obtain⟨u,rfl,ru⟩:=rv.one;cases ru;obtain⟨z,its,n,r,hl,e⟩:=I.lstM hH;obtain⟨z2,its2,n2,r2,hl2,e2⟩:=I.lstM hB;have hsz:its.toArray.size+its2.toArray.size<=sizeLine:=by rw [aeH,aeH];lia
 have hlong:¬ (!its.toArray.isEmpty && Builtin.List.listTooLong (its.toArray.size+its2.toArray.size))=true:=by
  rw [uo hsz,Bool.and_false];exact aem
 refine aim F.slot_list_extend ⟨_,e,rfl⟩ F.entry_list_extend (F.args_list_extend_2 _ _)
  (AutoSeq1.list_extend_list_list_0 l its.toArray n b its2.toArray n2 hlong (by rw [aeH];lia) (by lia)) ⟨e,e2,?_⟩
 refine⟨.non,_,I.lset (its':=its++its2) hH e (by simp) (r.append r2) ?_,rfl,q⟩;rw [aeo];lia
def aee:R2:=fun x y H Q=>∃ l b xs zs,x=.ref l/\y=.ref b/\H l=some (.lst xs)/\H b=some (.lst zs)/\xs.length+zs.length<=sizeLine/\∀ p,H p=none->Q (.ref p) (upd H p (.lst (xs++zs)))
theorem jU:OpR X (binaryOp .Add) aee:=by
 intro pins s σ H x y v u Q I rx ry h;obtain⟨l,b,xs,zs,rfl,rfl,hH,hB,hz,q⟩:=h;cases rx;cases ry;obtain⟨z,its,n,r,hl,e⟩:=I.lstM hH;obtain⟨z2,its2,n2,r2,hl2,e2⟩:=I.lstM hB;refine PySem.P.add_list e e2 ?_ (by rw [aeH,aeH];lia);have ea:its.toArray++its2.toArray=(its++its2).toArray:=by simp
 rw [ea];exact⟨.ref _,_,I.lnew (t':=s.toks) (r.append r2) (by rw [aeo];lia),rfl,q _ I.fresh⟩
def ad6:R2:=fun x y H Q=>∃ l k xs,x=.ref l/\y=.int k/\H l=some (.lst xs)/\-(2 ^ 63)<=k/\k < 2 ^ 63/\xs.length * k.toNat<=sizeLine ∧
 ∀ p,H p=none->Q (.ref p) (upd H p (.lst (List.replicate k.toNat xs).flatten))
theorem abk {α:Type}(xs:List α)(k:Nat):(List.replicate k xs).flatten.length=k * xs.length:=by
 induction k with
 | zero=>simp
 | succ k ih=>rw [afI,afX,aeo,ih,akh,Nat.add_comm]
theorem acF:OpR X (binaryOp .Mult) ad6:=by
 intro pins s σ H x y v u Q I rx ry h;obtain⟨l,k,xs,rfl,rfl,hH,h1,h2,hz,q⟩:=h;cases rx;obtain⟨t,rfl⟩:=ry;obtain⟨z,its,n,r,hl,e⟩:=I.lstM hH;have hlen:its.toArray.size * k.toNat<=sizeLine:=by rw [aeH,← hl];exact hz
 have hcap:¬ its.toArray.size * k.toNat > (2 ^ 63 - 1) / 8:=by
  have:(sizeLine:Nat)<=(2 ^ 63 - 1) / 8:=by decide
  lia
 have hfit:¬ (!Builtin.List.listFitsIndex k)=true:=by
  rw [fitsIndex_both h1 h2];exact aem
 have hlong:¬ Builtin.List.listTooLong (its.toArray.size * k.toNat)=true:=by
  rw [uo hlen];exact aem
 have hnew:List.foldl (fun x1 x2=>x1++x2) #[] (List.replicate (if its.toArray.isEmpty=true then 0 else k.toNat) its.toArray)=(List.replicate k.toNat its).flatten.toArray:=by
  have f0:∀ m:Nat,List.foldl (fun x1 x2=>x1++x2) #[] (List.replicate m its.toArray)=(List.replicate m its).flatten.toArray:=fun m=>by
   have:=qM its m [];rw [ag0] at this;exact this
  rw [f0];cases its with
  | nil=>simp
  | cons a r'=>rw [if_neg (by simp)]
 refine wpAny_binaryOp_repeat_ref (T := "list") (U := "int") (by decide) ⟨_,e,rfl⟩ (fun s'=>typeIs_int s' k t) noFill_list_mul F.fills_int_mul F.slot_int_rmul repeat_list F.slot_int_index.lookup
  (aim F.slot_int_rmul (typeIs_int s k t) F.entry_int_rmul (F.args_int_rmul_2 _ _) (int___rmul___int_list k t l its.toArray n)
   ⟨e,rfl,⟨_,e,rfl⟩,aim F.slot_list_mul ⟨_,e,rfl⟩ F.entry_list_mul (F.args_list_mul_2 _ _) (AutoListH.list___mul___list_int_3 l its.toArray n k t hfit hcap hlong) ⟨e,?_⟩⟩)
 rw [hnew];exact⟨.ref _,_,I.lnew (t':=s.toks) (r.rep k.toNat) (by rw [abk,Nat.mul_comm];exact hz),rfl,q _ I.fresh⟩
end
section
variable {prog:Program}{w:World}{A:Around}{E:Value->Shared->Prop}{s:Shared}
end
section
variable {X:Cx}
end
end L2
namespace Att
open PySem PySem.W PySem.Calls PyProof.Rows
theorem mr {P:Params}{h:Heap}:∀ (ns:List Int) (vs:List Value),WellAll P h vs (ns.map WData.int)->IntsAre vs ns:=by
 intro ns
 induction ns with
 | nil =>
  intro vs w;rw [ah7] at w;cases w;exact .nil
 | cons n ns ih =>
  intro vs w;rw [aeG] at w;cases w with
  | cons a b =>
   cases a;exact .cons _ _ (ih _ b)
theorem xF {l:OpenLaw}{n:Nat}(hn:l.most=some n){P:Params}{h:Heap}{args:List WData}{vals:List Value}
 (hpre:l.row.toRowW.claim.pre args=true)(hwl:WellAll P h vals args) :
 ∃ a vs ns,vals=[Value.ref a]/\args=[WData.list (ns.map WData.int)]/\h.get? a=some { cls:=.type "list",data:=.seq vs.toArray }/\IntsAre vs ns/\ns.length<=n:=by
 have hsh:WShape.hasAll [] args [.list .int]=true:=(pre_splitW hpre).1;have hc:l.pre.holds [] { args:=args }=true:=(pre_splitW hpre).2;obtain⟨d,r,rfl,h1,h2⟩:=hasAllW_cons hsh;obtain rfl:=hasAllW_nil h2;obtain⟨xs,rfl,h3⟩:=hasW_list h1;obtain⟨ns,rfl⟩:=items_int h3;have hlen:ns.length<=n:=by
  unfold OpenLaw.pre at hc;have h4:(WTm.not (.lt (.lit (.int (n:Int))) (.len (.arg 0)))).holds [] { args:=[.list (ns.map .int)] }=true:=by
   have h4:=(holds_andW hc).1;rw [hn] at h4;exact h4
  have h5:=condW_of h4 (w_not (w_lt w_lit (w_len_list (w_arg rfl))));rw [aej] at h5;refine ahD fun q=>?_;have q':(n:Int) < ((ns.length:Nat):Int):=by lia
  first
   | (rw [aeP q'] at h5;exact absurd h5 (by decide))
   | (simp at h5;lia)
 cases hwl with
 | cons w1 w2 =>
  cases w2;cases w1 with
  | list ho hall=>exact⟨_,_,ns,rfl,rfl,ho,mr ns _ hall,hlen⟩
theorem xW (l:OpenLaw)(args:List WData):l.row.toRowW.claim.post args (.bool true) args=true :=
 postW_of (r:=l.row.toRowW) (X:=(true == true))
  (show WShape.has [] (.bool true) .bool=true by first | rfl | decide | simp [WShape.has,WShape.arms,WShape.armsAll])
  (show (WTm.eq .res (.lit (.bool true))).value [] { args:=args,res:=some (.bool true),after:=args }=some (.bool (true == true)) from w_eq_bool (w_res rfl) w_lit) rfl
theorem attach_call {l:OpenLaw}{n:Nat}{q:Program}{loose:List Str}{XP:(Str->Option Value)->Heap->Prop}{YP:World->Heap->Prop}{d:DefRec}
 (hn:l.most=some n)(hdf:d.params.defaults=[])
 (call:∀ (w:World) (s₀ s₁:Shared) (mg mb:Str->Option Value) (fa:Addr) (o:Obj) (pm cd doc:Value) (a:Addr) (vs:List Value) (ns:List Int),
  Ground q loose [] XP w s₀ mg mb s₁.heap->YP w s₁.heap →
  s₁.heap.get? fa=some o->o.data=.func (docDef d.name d.params d.body d.scope pm cd doc)->s₁.heap.CodeRec cd d.name->mg d.name=some (.ref fa) →
  s₁.heap.get? a=some { cls:=.type "list",data:=.seq vs.toArray }->IntsAre vs ns->ns.length<=n->s₁.gens=#[] →
  codeAny (model l.prog w) callerA (.call (.ref fa) ⟨[.ref a],[]⟩) (fun r s'=>r=.ok (.ret (.bool true))/\OldK s₁.heap s'.heap/\s'.os=s₁.os/\AllBare s'.gens) s₁) :
 WalkO q loose XP YP l.row.toRowW d [] (fun f vs=>PySem.call f vs):=by
 intro w s₀ s₁ mg mb G Y fa o pm cd doc dV kV ho hd hcd hD hmg hg args vals as hpre hlay hrd hwl hlo;obtain rfl:dV=.none:=Dflts.none hD hdf;obtain rfl:kV=.none:=Dflts.noKw hD;obtain⟨a,vs,ns,rfl,rfl,hobj,hints,hlen⟩:=xF hn hpre hwl;refine enter_call (agr (call w s₀ s₁ mg mb fa o pm cd doc a vs ns G Y ho (fd_plain hd) hcd hmg hobj hints hlen hg) fun r s' hq=>?_);obtain⟨rfl,h2,h3,h4⟩:=hq;exact⟨.inl ⟨.bool true,.bool true,[],rfl,fun _=>rfl,.bool true,xW l _,fun _=>⟨List.Pairwise.nil,fun _ hm=>(nomatch hm)⟩⟩,h2,h3,h4⟩
section
variable {prog:Program}{w:World}{A:Around}{E:Value->Shared->Prop}{s:Shared}{K:Frag}
end
end Att
namespace L2
open PySem PySem.Spec PyProof.Rows
theorem m7:∀ {vs:List Value} {ns:List Int},IntsAre vs ns->Vals (ns.map V.int) vs
 | _,_,.nil=>.nil
 | _,_,.cons n t h=>.cons ⟨t,rfl⟩ (m7 h)
def ado (H:Hp):Prop:=∀ b,H b=none\/∃ o xs,H b=some (.frz o (.lst xs))
theorem zq {P:Program}{w:World}{K:PySem.W.Frag}{mg mb:Str->Option Value}{CX:CXT}{k:Nat}{fa a:Addr}{fd:FuncData}{x:Str}{sp:Sp}{s₁:Shared}{vs:List Value}{ns:List Int}
 (KX:K.In s₁.heap)(hns:s₁.heap.Ns mainGlobals mg)(hb:s₁.heap.Ns builtinsNs mb)(hbb:∀ x:Str,x ≠ "__name__" → mb x=bootBuiltins x)(hlim:s₁.heap.NoLimit)(hg:s₁.gens=#[])
 (ha:s₁.heap.get? a=some { cls:=.type "list",data:=.seq vs.toArray })(hi:IntsAre vs ns)(hl:ns.length<=sizeLine)(hr:Room k callerA)
 (F:∀ base:Heap,K.In base->base.Ns mainGlobals mg->FnOk P w K mg base CX k fa fd [x] sp)(hbind:∀ (s:Shared) (u:Value),BindsTo s fd ⟨[u],[]⟩ [(x,u)])
 (hsp:∀ H:Hp,ado H->SqL K H a (ns.map V.int)->sp [.ref a] H (fun v _=>v=.bl true) fun _ _ _=>False)
 (hCX:∀ H e s',CX [] H s₁ (fun _ _ _=>False) e s'->False) :
 codeAny (model P w) callerA (.call (.ref fa) ⟨[.ref a],[]⟩) (fun r s'=>r=.ok (.ret (.bool true))/\OldK s₁.heap s'.heap/\s'.os=s₁.os/\AllBare s'.gens) s₁:=by
 have rv:=m7 hi;have lenV:=hi.length;have core:∀ H:Hp,ado H->SqL K H a (ns.map V.int)->HOk P w H s₁.heap->(∀ b,H b≠none->b=a)->(H a≠none->K.lookup a=none) →
  codeAny (model P w) callerA (.call (.ref fa) ⟨[.ref a],[]⟩) (fun r s'=>r=.ok (.ret (.bool true))/\OldK s₁.heap s'.heap/\s'.os=s₁.os/\AllBare s'.gens) s₁:=by
  intro H hO hS hok hA hK;have base_of:∀ {b:Addr} {o:Obj},s₁.heap.get? b=some o->H b=none->(zy s₁.heap H).get? b=some o:=fun e n=>yJ e n;have noA:∀ {b:Addr} {o:Obj} {es:Array DictEntry} {ep:Nat},s₁.heap.get? b=some o->o.data=.dict es ep->H b=none:=fun {b o es ep} e d=>by
   cases q:H b with
   | none=>rfl
   | some u =>
    have e':b=a:=hA b (by rw [q];simp);subst e';rw [ha] at e;cases e;have d':Data.seq vs.toArray _=Data.dict es ep:=d;cases d'
  have nsK:∀ {b:Addr} {m:Str->Option Value},s₁.heap.Ns b m->(zy s₁.heap H).Ns b m:=fun {b m} ⟨o,es,ep,e,d,r⟩=>⟨o,es,ep,base_of e (noA e d),d,r⟩;have hKb:K.In (zy s₁.heap H):=fun b o e=>base_of (KX b o e) (by
   cases q:H b with
   | none=>rfl
   | some u =>
    have e':b=a:=hA b (by rw [q];simp);subst e';rw [hK (by rw [q];simp)] at e;cases e)
  have hM:Mod K mg (zy s₁.heap H):=⟨hKb,nsK hns,⟨mb,nsK hb,hbb⟩,let ⟨mc,h1,h2⟩:=hlim;⟨mc,nsK h1,h2⟩⟩;have e0:Env0 P w K mg (zy s₁.heap H) callerA [] s₁ H:=⟨rfl,hM,fun b o e=>abf e,aiN (xi _ _),trivial,fun b hb=>absurd (show b∈([]:List Addr) from hb) (by simp),hok,.of_eq hg⟩;refine agr ((F _ hKb (nsK hns)).run callerA [] s₁ H ⟨[.ref a],[]⟩ [.ref a] [.ref a] _ _ hr e0 (hbind s₁ (.ref a)) (.cons rfl .nil) (hsp H hO hS)) fun r s' h=>?_;cases r with
  | error e=>exact (hCX H e s' h).elim
  | ok fl =>
   cases fl with
   | next=>exact False.elim h
   | brk=>exact False.elim h
   | cont=>exact False.elim h
   | ret u =>
    obtain⟨v,H',os,bare,un,hok',r',q⟩:=h;have q':v=.bl true:=q;subst q';obtain rfl:u=Value.bool true:=r';refine⟨rfl,OldK.of_keep fun b o e=>?_,os,bare⟩;cases q:H b with
    | none=>exact un.keep b o e q (by intro z;exact absurd (show b∈([]:List Addr) from z) (by simp)) (by simp)
    | some u =>
     rcases hO b with z | ⟨ob,xs,z⟩
     ·rw [q] at z;cases z
     ·have z2:=un.frzs b ob _ z;obtain⟨e1,_⟩:=hok b _ z;obtain⟨e2,_⟩:=hok' b _ z2;rw [e] at e1;cases e1;exact e2
 cases hk:K.lookup a with
 | some o =>
  have e:=KX a o hk;rw [ha] at e;cases e;refine core (fun _=>none) (fun _=>.inl rfl) (.inr ⟨_,vs.toArray,_,hk,rfl,rfl,rfl,by rw [aeH,lenV];exact hl,by simpa using rv⟩) (fun b u z=>by have z':(none:Option HO)=some u:=z;cases z') (fun b z=>absurd rfl z) fun z=>absurd rfl z
 | none =>
  refine core (fun b=>if b=a then some (.frz { cls:=.type "list",data:=.seq vs.toArray } (.lst (ns.map V.int))) else none) (fun b=>?_) (.inl (.inr ⟨{ cls:=.type "list",data:=.seq vs.toArray },if_pos rfl⟩)) (fun b u z=>?_) (fun b z=>?_) fun _=>hk
  ·by_cases hb:b=a
   ·exact .inr ⟨_,_,if_pos hb⟩
   ·exact .inl (if_neg hb)
  ·by_cases hb:b=a
   ·have z':=(if_pos hb).symm.trans z;cases z';subst hb;exact⟨ha,by rw [aej];exact hl,vs,_,rv,ha⟩
   ·have z':=(if_neg hb).symm.trans z;cases z'
  ·by_cases hb:b=a
   ·exact hb
   ·exact absurd (if_neg hb) z
theorem walk_of {l:PySem.W.OpenLaw}{n k:Nat}{q:Program}{loose:List Str}{XP:(Str->Option Value)->Heap->Prop}{YP:World->Heap->Prop}{d:DefRec}{K:Params->PySem.W.Frag}{CX:World->CXT}{sp:World->Sp}{x:Str}
 (hn:l.most=some n)(hn2:n<=sizeLine)(hdf:d.params.defaults=[])(hr:Room k callerA)
 (hY:∀ (w:World) (h:Heap),YP w h->(K w.params).In h)
 (F:∀ (w:World) (mg:Str->Option Value) (fa:Addr) (h:Heap),(K w.params).In h->h.Ns mainGlobals mg->mg d.name=some (.ref fa) →
  ∃ fd:FuncData,(∀ (s:Shared) (u:Value),BindsTo s fd ⟨[u],[]⟩ [(x,u)]) ∧
   ∀ base:Heap,(K w.params).In base->base.Ns mainGlobals mg->FnOk l.prog w (K w.params) mg base (CX w) k fa fd [x] (sp w))
 (hsp:∀ (w:World) (H:Hp) (a:Addr) (ns:List Int),ns.length<=n->ado H->SqL (K w.params) H a (ns.map V.int)->sp w [.ref a] H (fun v _=>v=.bl true) fun _ _ _=>False)
 (hCX:∀ (w:World) (H:Hp) (s:Shared) (e:Value) (s':Shared),CX w [] H s (fun _ _ _=>False) e s'->False) :
 PySem.W.WalkO q loose XP YP l.row.toRowW d [] (fun f vs=>PySem.call f vs):=by
 refine Att.attach_call hn hdf fun w s₀ s₁ mg mb fa o pm cd doc a vs ns G Y ho hd hcd hmg hobj hints hlen hg=>?_;have KX:=hY w _ Y;obtain⟨fd,hb,hF⟩:=F w mg fa _ KX G.T.g hmg;exact zq KX G.T.g G.T.b G.T.builtins G.T.nolimit hg hobj hints (aeN hlen hn2) hr hF hb (fun H hO hS=>hsp w H a ns hlen hO hS) fun H e s'=>hCX w H s₁ e s'
def gc (s:Stmt):Arguments:=match s with
 | .FunctionDef _ a _ _ _ _ _ _ _ _=>a
 | _=>{ posonlyargs:=[],args:=[],vararg:=none,kwonlyargs:=[],kw_defaults:=[],kwarg:=none,defaults:=[] }
def bZ (s:Stmt):List Stmt:=match s with
 | .FunctionDef _ _ b _ _ _ _ _ _ _=>b
 | _=>[]
def ai (s:Stmt):Scope:=match s with
 | .FunctionDef _ _ _ _ _ _ sc _ _ _=>sc
 | _=>{ kind:=.function,names:=[],isGenerator:=false,isCoroutine:=false }
abbrev CX0:CXT:=fun _ _ _ _ _ _=>False
abbrev E0:XK:=fun _ _ _=>False
theorem jt {X:Cx}:nI CX0 X E0:=fun _ _ _ _ _ _ _ h=>h.elim
structure Fun (K:PySem.W.Frag)(x qual:Str)(st:Stmt)(f:Addr)(fd:FuncData):Prop where
 ex:∃ (oc:Value) (od:Option Addr) (kV doc pm:Value) (an:Option Addr) (cdv ct:Value) (osl:Array (Option Value)),
  fd=fnOf x qual (gc st) (bZ st) (ai st) .none kV doc pm an cdv ct/\K.lookup f=some ⟨oc,od,.func fd,osl⟩/\codeIn K cdv qual=true
 kp:keepIn K (.ref f)=true
section
variable {P:Program}{w:World}{K:PySem.W.Frag}{mg:Str->Option Value}{base:Heap}
theorem Fun.ok {x qual:Str}{st:Stmt}{f:Addr}{fd:FuncData}{N ps:List Str}{k:Nat}{sp:Sp}(F:Fun K x qual st f fd)(S:az N ps (ai st))(len:∀ vs H Q E,sp vs H Q E->vs.length=ps.length)
 (hbody:∀ (cdv:Value) (A:Around) (outer:List Env) (s:Shared) (H:Hp) (vs:List V) (Q:VK) (E:XK),Room k (A.deeper (envOfC qual (ai st) s.heap.objs.size f cdv))->sp vs H Q E →
  ∃ t,PSs (rh CX0 P w K mg base N qual (ai st) f cdv A outer s H E).nox (bZ st) t/\t { nx:=fun _ H'=>Q .non H',rt:=Q } (nr N vs) H):FnOk P w K mg base CX0 (k+1) f fd ps sp:=by
 obtain⟨oc,od,kV,doc,pm,an,cdv,ct,osl,rfl,lk,hcd⟩:=F.ex;refine aax lk hcd S len fun A outer s H vs Q E hr hsp=>?_;obtain⟨t,h,q⟩:=hbody cdv A outer s H vs Q E hr hsp;exact⟨t,h.nox,q⟩
theorem Fun.binds {x qual:Str}{st:Stmt}{f:Addr}{fd:FuncData}{ps:List Str}(F:Fun K x qual st f fd)
 (h:∀ (kV doc pm:Value) (an:Option Addr) (cdv ct:Value) (us:List Value),us.length=ps.length->bindArgs (fnOf x qual (gc st) (bZ st) (ai st) .none kV doc pm an cdv ct) ⟨us,[]⟩=pure (ps.zip us)):Binds K fd ps []:=by
 obtain⟨oc,od,kV,doc,pm,an,cdv,ct,osl,rfl,lk,hcd⟩:=F.ex;exact .all (h kV doc pm an cdv ct)
theorem fun_mk {x qual:Str}{st:Stmt}{f:Addr}{oc:Value}{od an:Option Addr}{osl:Array (Option Value)}{kV doc pm cdv ct:Value}(l:K.lookup f=some ⟨oc,od,.func (fnOf x qual (gc st) (bZ st) (ai st) .none kV doc pm an cdv ct),osl⟩)
 (c:codeIn K cdv qual=true)(k:keepIn K (.ref f)=true):Fun K x qual st f (fnOf x qual (gc st) (bZ st) (ai st) .none kV doc pm an cdv ct):=⟨⟨oc,od,kV,doc,pm,an,cdv,ct,osl,rfl,l,c⟩,k⟩
end
theorem eM {A:Around}{k:Nat}(hr:Room k A):A.units+1 < cLine:=afA (agK (by decide:1<=64) _) hr.units
theorem gN {n:Nat}(h:n<=1000):n < sizeLine:=afA h (by decide)
section
variable {X:Cx}
theorem pv (i:Nat){x:Str}{pos:Pos}(hN:X.N[i]? = some x:=by rfl)(hv:Vis X.env.scope x:=by first | exact Or.inl rfl | exact Or.inr (.inl rfl) | exact Or.inr (.inr rfl))(hd:(x == ("__debug__" : Str))=false:=by decide)
 (hcd:(x == ("__classdict__" : Str))=false:=by decide):PE X (.Name x pos) (abE i):=acQ hN hv hd hcd
end
theorem gK {A B:Prop}(h:B):if false=true then A else B:=by
 rw [if_neg aem];exact h
theorem ju {A B:Prop}(h:A):if true=true then A else B:=by
 rw [if_pos rfl];exact h
theorem acN {c A B:Prop}[Decidable c](h1:c->A)(h2:¬ c->B):if c then A else B:=by
 by_cases h:c
 ·rw [if_pos h];exact h1 h
 ·rw [if_neg h];exact h2 h
def Same (H H':Hp):Prop:=∀ b o,H b=some o->H' b=some o
theorem Same.refl (H:Hp):Same H H:=fun _ _ h=>h
theorem Same.trans {H H1 H2:Hp}(a:Same H H1)(b:Same H1 H2):Same H H2:=fun c o h=>b c o (a c o h)
theorem Same.free {H H':Hp}(e:Same H H'){l:Addr}(h:H' l=Option.none):H l=Option.none:=by
 cases q:H l with
 | none=>rfl
 | some o =>
  rw [e l o q] at h;cases h
theorem Same.seq {K:PySem.W.Frag}{H H':Hp}{a:Addr}{xs:List V}(e:Same H H')(h:SqL K H a xs):SqL K H' a xs:=by
 rcases h with (h | ⟨o,h⟩) | h
 ·exact .inl (.inl (e _ _ h))
 ·exact .inl (.inr ⟨o,e _ _ h⟩)
 ·exact .inr h
section
variable {κ:Type}[DecidableEq κ]
def eV (kvs:List (κ×V))(k:κ):Option V:=(kvs.find? fun kv=>decide (kv.1=k)).map (·.2)
def fY (kvs:List (κ×V))(k:κ)(v:V):List (κ×V) :=
 if (kvs.any fun kv=>decide (kv.1=k))=true then kvs.map (fun kv=>if kv.1=k then (kv.1,v) else kv) else kvs++[(k,v)]
theorem cA {p:κ×V}{r:List (κ×V)}{k:κ}(e:p.1=k):eV (p::r) k=some p.2:=by simp [eV,ag1,e]
theorem cw {p:κ×V}{r:List (κ×V)}{k:κ}(e:¬ p.1=k):eV (p::r) k=eV r k:=by simp [eV,ag1,e]
theorem gy (k:κ):∀ kvs:List (κ×V),(kvs.any fun kv=>decide (kv.1=k))=(eV kvs k).isSome
 | []=>rfl
 | p::r=>by
  rw [ahk];by_cases e:p.1=k
  ·simp only [cA e,aeP e,Bool.true_or,Option.isSome_some]
  ·rw [cw e,aeO e,Bool.false_or];exact gy k r
theorem ur (k j:κ)(y:V):∀ kvs:List (κ×V),eV (kvs.map fun kv=>if kv.1=k then (kv.1,y) else kv) j=(eV kvs j).map fun x=>if j=k then y else x
 | []=>rfl
 | p::r=>by
  have ih:=ur k j y r;rw [aeG];by_cases h:p.1=k
  ·rw [if_pos h];by_cases e:p.1=j
   ·rw [cA (p:=(p.1,y)) e,cA e,ahP,if_pos (e.symm.trans h)]
   ·rw [cw (p:=(p.1,y)) e,cw e,ih]
  ·rw [if_neg h];by_cases e:p.1=j
   ·rw [cA (p:=p) e,cA e,ahP,if_neg (fun z=>h (e.trans z))]
   ·rw [cw (p:=p) e,cw e,ih]
theorem qB (k j:κ)(y:V):∀ kvs:List (κ×V),eV kvs k=none->eV (kvs++[(k,y)]) j=if j=k then some y else eV kvs j
 | [],_=>by
  by_cases e:k=j
  ·rw [if_pos e.symm];exact cA (p:=(k,y)) e
  ·rw [if_neg (fun z=>e z.symm)];exact cw (p:=(k,y)) e
 | p::r,hn=>by
  rw [ahE];have hk:¬ p.1=k:=fun z=>by rw [cA z] at hn;cases hn
  rw [cw hk] at hn;have ih:=qB k j y r hn;by_cases e:p.1=j
  ·rw [cA e,cA e,if_neg (fun z=>hk (e.trans z))]
  ·rw [cw e,cw e,ih]
theorem fV (kvs:List (κ×V))(k j:κ)(y:V):eV (fY kvs k y) j=if j=k then some y else eV kvs j:=by
 unfold fY;by_cases a:(kvs.any fun kv=>decide (kv.1=k))=true
 ·rw [if_pos a,ur];rw [gy] at a;by_cases e:j=k
  ·obtain⟨x,hx⟩:=aij.mp a;rw [if_pos e,e,hx,ahP,if_pos rfl]
  ·rw [if_neg e];cases eV kvs j with
   | none=>rfl
   | some x=>rw [ahP,if_neg e]
 ·rw [if_neg a];refine qB k j y kvs ?_;rw [gy] at a;cases q:eV kvs k with
  | none=>rfl
  | some x=>rw [q] at a;exact (a rfl).elim
theorem dF (kvs:List (κ×V))(k:κ)(v:V):(fY kvs k v).length<=kvs.length+1:=by
 unfold fY;split
 ·rw [aej];lia
 ·rw [aeo,aeU,ahl];lia
theorem tS {kvs:List (κ×V)}{k:κ}(v:V)(h:eV kvs k=none):fY kvs k v=kvs++[(k,v)]:=by
 unfold fY;rw [gy,h];exact if_neg (by decide)
theorem RelO.isSome_eq {o:Option V}{u:Option Value}(r:RelO o u):o.isSome=u.isSome:=by
 cases o with
 | none=>cases u with
  | none=>rfl
  | some _=>exact (show False from r).elim
 | some _=>cases u with
  | none=>exact (show False from r).elim
  | some _=>rfl
theorem KV.val {kvs:List (κ×V)}{vs:List (κ×Value)}(r:KV kvs vs)(k:κ):RelO (eV kvs k) (valueAt vs k):=by
 unfold KV at r
 induction r with
 | nil=>exact True.intro
 | @cons p q ps qs h t ih =>
  obtain⟨h1,h2⟩:=h;by_cases e:p.1=k
  ·have e':q.1=k:=h1.symm.trans e;have b:valueAt (q::qs) k=some q.2:=by simp [valueAt,ag1,e']
   rw [cA e,b];exact h2
  ·have e':¬ q.1=k:=fun z=>e (h1.trans z);have b:valueAt (q::qs) k=valueAt qs k:=by simp [valueAt,ag1,e']
   rw [cw e,b];exact ih
theorem KV.any {kvs:List (κ×V)}{vs:List (κ×Value)}(r:KV kvs vs)(k:κ):(kvs.any fun kv=>decide (kv.1=k))=vs.any fun kv=>decide (kv.1=k):=by
 unfold KV at r
 induction r with
 | nil=>rfl
 | cons h t ih=>rw [ahk,ahk,ih,h.1]
theorem KV.repl {kvs:List (κ×V)}{vs:List (κ×Value)}(r:KV kvs vs)(k:κ){y:V}{u:Value}(ry:RelV y u) :
 KV (kvs.map fun kv=>if kv.1=k then (kv.1,y) else kv) (vs.map fun kv=>if kv.1=k then (kv.1,u) else kv):=by
 unfold KV at r ⊢
 induction r with
 | nil=>exact .nil
 | @cons p q ps qs h t ih =>
  rw [aeG,aeG];refine .cons ?_ ih;obtain⟨h1,h2⟩:=h;by_cases e:p.1=k
  ·rw [if_pos e,if_pos (h1.symm.trans e)];exact⟨h1,ry⟩
  ·rw [if_neg e,if_neg (fun z=>e (h1.trans z))];exact⟨h1,h2⟩
theorem KV.put {kvs:List (κ×V)}{vs:List (κ×Value)}(r:KV kvs vs)(k:κ){y:V}{u:Value}(ry:RelV y u):KV (fY kvs k y) (stored vs k u):=by
 unfold fY stored;rw [r.any k];by_cases e:(vs.any fun kv=>decide (kv.1=k))=true
 ·rw [if_pos e,if_pos e];exact r.repl k ry
 ·rw [if_neg e,if_neg e];exact Paired.snoc r ⟨rfl,ry⟩
theorem KV.keys {kvs:List (κ×V)}{vs:List (κ×Value)}(r:KV kvs vs):kvs.map (·.1)=vs.map (·.1):=by
 unfold KV at r
 induction r with
 | nil=>rfl
 | cons h t ih=>rw [aeG,aeG,ih,h.1]
theorem KV.length {kvs:List (κ×V)}{vs:List (κ×Value)}(r:KV kvs vs):kvs.length=vs.length:=aix r
end
theorem uY {P:Program}{w:World}{k:Key}{u:Value}(r:RelV (kV k) u):(aX P w).is k u=true:=by
 cases k with
 | inl i=>obtain⟨t,e⟩:=(show ∃ t,u=Value.int i t from r);subst e;exact rH P w i t
 | inr x=>obtain⟨t,e⟩:=(show ∃ t,u=Value.str x t from r);subst e;exact rV P w x t
theorem pS {P:Program}{w:World}:∀ {ks:List Key} {us:List Value},Vals (ks.map kV) us->ItemsAre (aX P w) ks us
 | [],_,r=>by rw [ah7] at r;cases r;exact .nil
 | k::ks,_,r=>by
  rw [aeG] at r;cases r with
  | cons h t=>exact .cons (uY h) (pS t)
abbrev KT (H:Hp):List (List Key×V)->List (List Key×Addr×Value)->Prop:=Paired fun p q=>p.1=q.1/\H q.2.1=some (.tup (p.1.map kV))/\RelV p.2 q.2.2
theorem KT.val {H:Hp}{kvs:List (List Key×V)}{xs:List (List Key×Addr×Value)}(r:KT H kvs xs)(k:List Key):RelO (eV kvs k) ((atKey xs k).map (·.2)):=by
 induction r with
 | nil=>exact True.intro
 | @cons p q ps qs h t ih =>
  obtain⟨h1,_,h2⟩:=h;by_cases e:p.1=k
  ·have e':q.1=k:=h1.symm.trans e;have b:atKey (q::qs) k=some q.2:=by simp [atKey,ag1,e']
   rw [cA e,b];exact h2
  ·have e':¬ q.1=k:=fun z=>e (h1.trans z);have b:atKey (q::qs) k=atKey qs k:=by simp [atKey,ag1,e']
   rw [cw e,b];exact ih
theorem KT.repl {H:Hp}{kvs:List (List Key×V)}{xs:List (List Key×Addr×Value)}(r:KT H kvs xs)(k:List Key){y:V}{u:Value}(ry:RelV y u) :
 KT H (kvs.map fun kv=>if kv.1=k then (kv.1,y) else kv) (xs.map (putAt k u)):=by
 induction r with
 | nil=>exact .nil
 | @cons p q ps qs h t ih =>
  rw [aeG,aeG];refine .cons ?_ ih;obtain⟨h1,h2,h3⟩:=h;unfold putAt;by_cases e:p.1=k
  ·rw [if_pos e,if_pos (h1.symm.trans e)];exact⟨h1,h2,ry⟩
  ·rw [if_neg e,if_neg (fun z=>e (h1.trans z))];exact⟨h1,h2,h3⟩
theorem KT.put {H:Hp}{kvs:List (List Key×V)}{xs:List (List Key×Addr×Value)}(r:KT H kvs xs)(k:List Key){b:Addr}{y:V}{u:Value}(hb:H b=some (.tup (k.map kV)))(ry:RelV y u) :
 KT H (fY kvs k y) (storedH xs k b u):=by
 have e:(kvs.any fun kv=>decide (kv.1=k))=(atKey xs k).isSome:=by
  rw [gy,(r.val k).isSome_eq,Option.isSome_map]
 unfold fY storedH;rw [e];by_cases q:(atKey xs k).isSome=true
 ·rw [if_pos q,if_pos q];exact r.repl k ry
 ·rw [if_neg q,if_neg q];exact Paired.snoc r ⟨rfl,hb,ry⟩
theorem KT.keeps {H H':Hp}{kvs:List (List Key×V)}{xs:List (List Key×Addr×Value)}(r:KT H kvs xs)(ht:∀ b ys,H b=some (.tup ys)->H' b=some (.tup ys)):KT H' kvs xs :=
 Paired.mapP r fun _ _ z=>⟨z.1,ht _ _ z.2.1,z.2.2⟩
section
variable {P:Program}{w:World}{H:Hp}{h:Heap}{a:Addr}
theorem ab6 {u:HO}(ok:HOk P w H h)(e:Rd H a u):ObjOk P w H h a u:=e.ok ok
theorem yR {kvs:List (Key×V)}(ok:HOk P w H h)(e:Rd H a (.dK kvs)):kvs.length<=sizeLine/\(a == sysModules)=false/\∃ vs,KV kvs vs/\h.DictOf (aX P w) a vs :=
 show ObjOk P w H h a (.dK kvs) from ab6 ok e
theorem vz {kvs:List (Key×V)}(ok:HOk P w H h)(e:H a=some (.dK kvs)):kvs.length<=sizeLine/\(a == sysModules)=false/\∃ vs,KV kvs vs/\h.DictOf (aX P w) a vs:=yR ok (.inl e)
theorem ua {ks:List Key}(ok:HOk P w H h)(e:H a=some (.tup (ks.map kV))):(tupleKind (aX P w)).is h ks a:=by
 obtain⟨_,its,r,o,h1,h2,n,h3⟩:=(show ObjOk P w H h a (.tup (ks.map kV)) from ok a _ e);exact⟨o,its.toArray,n,h1,h2,h3,by simpa using pS r⟩
theorem yC {kvs:List (List Key×V)}(ok:HOk P w H h)(e:Rd H a (.dT kvs)):kvs.length<=sizeLine/\(a == sysModules)=false ∧
 ∃ xs,KT H kvs xs/\h.DictOfH (tupleKind (aX P w)) a xs:=by
 obtain⟨z,y,xs,r,o,es,ep,h1,h2,h3,h4,h5⟩:=(show ObjOk P w H h a (.dT kvs) from ab6 ok e);refine⟨z,y,xs,r,o,es,ep,h1,h2,h3,h4,fun x hx=>?_,h5⟩;have all:∀ {l:List (List Key×V)} {m:List (List Key×Addr×Value)},KT H l m->∀ x∈m,(tupleKind (aX P w)).is h x.1 x.2.1:=by
  intro l m q
  induction q with
  | nil=>intro x hx;exact nomatch hx
  | @cons p q ps qs hq t ih =>
   intro x hx;rcases aeu.mp hx with e | hx
   ·subst e;exact ua ok (by rw [← hq.1];exact hq.2.1)
   ·exact ih x hx
 exact all r x hx
theorem adg {kvs:List (List Key×V)}(ok:HOk P w H h)(e:H a=some (.dT kvs)):kvs.length<=sizeLine/\(a == sysModules)=false ∧
 ∃ xs,KT H kvs xs/\h.DictOfH (tupleKind (aX P w)) a xs:=yC ok (.inl e)
end
def DGet (H:Hp)(a:Addr)(y:V)(r:Option V):Prop :=
 (∃ kvs k,Rd H a (.dK kvs)/\y=kV k/\r=eV kvs k)\/∃ kvs k b,Rd H a (.dT kvs)/\y=.ref b/\H b=some (.tup (k.map kV))/\r=eV kvs k
def DPut (H:Hp)(a:Addr)(y v:V)(H':Hp):Prop :=
 (∃ kvs k,H a=some (.dK kvs)/\y=kV k/\kvs.length < sizeLine/\H'=upd H a (.dK (fY kvs k v))) ∨
 ∃ kvs k b,H a=some (.dT kvs)/\y=.ref b/\H b=some (.tup (k.map kV))/\kvs.length < sizeLine/\H'=upd H a (.dT (fY kvs k v))
theorem DGet.k {H:Hp}{a:Addr}{kvs:List (Key×V)}{k:Key}(e:H a=some (.dK kvs)):DGet H a (kV k) (eV kvs k):=.inl ⟨kvs,k,.inl e,rfl,rfl⟩
theorem DPut.k {H:Hp}{a:Addr}{kvs:List (Key×V)}{k:Key}{v:V}(e:H a=some (.dK kvs))(hl:kvs.length < sizeLine):DPut H a (kV k) v (upd H a (.dK (fY kvs k v))):=.inl ⟨kvs,k,e,rfl,hl,rfl⟩
section
variable {X:Cx}{pins:List (Addr×Obj)}{σ:St}{H:Hp}{s:Shared}{a:Addr}{y v:V}{u r:Value}{o:Option V}{A:Around}{E:Value->Shared->Prop}
theorem Inv.big (I:Inv X pins σ H s):sysModules < s.heap.objs.size:=by
 have h:mainGlobals < s.heap.objs.size:=(I.mod.glob.keeps I.bk).lt;exact Nat.lt_trans (by decide) h
theorem qQ {Q:Value->Shared->Prop}(hu:A.units+1 < cLine)(I:Inv X pins σ H s)(g:DGet H a y (some v))(ry:RelV y u)(h:∀ w' s',Inv X pins σ H s'->RelV v w'->Q w' s') :
 wpAny (model X.prog X.w) A (getItem (.ref a) u) Q E s:=by
 rcases g with ⟨kvs,k,e,ey,l⟩ | ⟨kvs,k,b,e,ey,eb,l⟩
 ·subst ey;obtain⟨z,hd,vs,rel,dd⟩:=yR I.hok e;obtain⟨w',hw,rw'⟩:=RelO.some_of (v:=v) (o:=valueAt vs k) (by rw [l];exact rel.val k);exact wpAny_getItem_of (uY ry) dd.mapOf hw (h w' _ (I.tok _) rw')
 ·subst ey;cases (show u=Value.ref b from ry);obtain⟨z,hd,xs,rel,dd⟩:=yC I.hok e;obtain⟨w',hw,rw'⟩:=RelO.some_of (v:=v) (o:=(atKey xs k).map (·.2)) (by rw [l];exact rel.val k);obtain⟨p,hp,hp2⟩:=Option.map_eq_some_iff.mp hw;refine wpAny_getItem_heap (ah8 hu) (ua I.hok eb) dd hp ?_;rw [hp2];exact h w' _ (I.tok _) rw'
theorem aaA {Q:Value->Shared->Prop}(hu:A.units+1 < cLine)(I:Inv X pins σ H s)(g:DGet H a y o)(ry:RelV y u)(h:∀ s',Inv X pins σ H s'->Q (.bool (!o.isSome)) s') :
 wpAny (model X.prog X.w) A (compareOp .NotIn u (.ref a)) Q E s:=by
 rcases g with ⟨kvs,k,e,ey,l⟩ | ⟨kvs,k,b,e,ey,eb,l⟩
 ·subst ey;obtain⟨z,hd,vs,rel,dd⟩:=yR I.hok e;refine wpAny_notIn_of (uY ry) hd dd.mapOf ?_;rw [← (rel.val k).isSome_eq,← l];exact h _ (I.tok _)
 ·subst ey;cases (show u=Value.ref b from ry);obtain⟨z,hd,xs,rel,dd⟩:=yC I.hok e;refine wpAny_notIn_heap (ah8 hu) (ua I.hok eb) hd dd ?_;have q:=(rel.val k).isSome_eq;rw [Option.isSome_map] at q;rw [← q,← l];exact h _ (I.tok _)
theorem lO {h':Heap}{t':Nat}{ob:HO}(I:Inv X pins σ H s)(mu:Mut (H a))(hs:Heap.SameBut a s.heap h')(he:∃ q,h'.get? a=some q)(new:ObjOk X.prog X.w (upd H a ob) h' a ob) :
 Inv X pins σ (upd H a ob) { s with heap:=h',toks:=t' } :=
 I.write (x:=a) (e:=a) mu (.inl rfl) (fun b q hb z=>(hs.2 b hb).trans z) he new
theorem xt {P:Program}{w:World}{H':Hp}{h':Heap}{kvs:List (Key×V)}{vs:List (Key×Value)}(z:kvs.length<=sizeLine)(hd:(a == sysModules)=false)(rel:KV kvs vs)(dd:h'.DictOf (aX P w) a vs) :
 ObjOk P w H' h' a (.dK kvs):=⟨z,hd,vs,rel,dd⟩
theorem rj {H':Hp}{Q:Unit->Shared->Prop}(hu:A.units+1 < cLine)(I:Inv X pins σ H s)(g:DPut H a y v H')(ry:RelV y u)(rv:RelV v r)(h:∀ s',Inv X pins σ H' s'->Q () s') :
 wpAny (model X.prog X.w) A (setItem (.ref a) u r) Q E s:=by
 rcases g with ⟨kvs,k,e,ey,l,eH⟩ | ⟨kvs,k,b,e,ey,eb,l,eH⟩
 ·subst ey eH;obtain⟨z,hd,vs,rel,dd⟩:=vz I.hok e;have hz:vs.length<=sizeLine:=by rw [← rel.length];exact z
  have hl:(fY kvs k v).length<=sizeLine:=by have:=dF kvs k v;lia
  refine wpAny_setItem_pairs (hsz:=hz) (uY ry) dd fun h' dd' hs=>h _ ?_;have he:∃ q,h'.get? a=some q:=let ⟨q,_,_,hq,_⟩:=dd';⟨q,hq⟩;exact lO I (by rw [e];exact True.intro) hs he (xt hl hd (rel.put k rv) dd')
 ·subst ey eH;cases (show u=Value.ref b from ry);obtain⟨z,hd,xs,rel,dd⟩:=adg I.hok e;have hz:xs.length<=sizeLine:=by rw [← aix rel];exact z
  have hl:(fY kvs k v).length<=sizeLine:=by have:=dF kvs k v;lia
  refine wpAny_setItem_heap (hsz:=hz) (ah8 hu) (ua I.hok eb) dd fun h' dd' hs=>h _ ?_;obtain⟨q,es,ep,hq,h2,h3,h4,_,h5⟩:=dd';refine lO I (by rw [e];exact True.intro) hs ⟨q,hq⟩ ⟨hl,hd,_,(rel.put k eb rv).keeps fun c ys ec=>?_,q,es,ep,hq,h2,h3,h4,h5⟩;rw [ak (xb ec e (fun z=>nomatch z))];exact ec
end
section
variable {X:Cx}{pins:List (Addr×Obj)}{σ:St}{H:Hp}{s:Shared}{a:Addr}{kvs:List (Key×V)}{k:Key}{u:Value}{A:Around}{E:Value->Shared->Prop}
end
def adM (i:Expr):Prop:=∀ ov iv,subscripted i false ov iv=operate [ov,iv] (getItem ov iv)
theorem abt {prog:Program}{w:World}{A:Around}{E:Value->Shared->Prop}{s:Shared}{env:Env}{value slice:Expr}{pos:Pos}{T id:String}{Q:Value->Shared->Prop}
 (hl:typeLookup (.type T) "__getitem__" = pure (some (.builtin id)))(hs:adM slice)
 (h:wpAny (model prog w) A (eval value env) (fun o s₁=>wpAny (model prog w) A (eval slice env) (fun i s₂=>s₂.TypeIs o T/\wpAny (model prog w) A (getItem o i) Q E s₂) E s₁) E s) :
 wpAny (model prog w) A (eval (.Subscript value slice pos) env) Q E s:=by
 refine Subscript_ (aeV h (fun o s₁ h₁=>aeV h₁ (fun i s₂ h₂=>?_) fun _ _ x=>x) fun _ _ x=>x);obtain⟨hT,h₂⟩:=h₂;unfold subscriptTail;refine aei ?_;rw [getitemInPython_of_ne hT.not_modules];refine aei (wpAny_specialOf hT hl ?_);have fin:wpAny (model prog w) A (subscripted slice false o i) (fun r s₃=>wpAny (model prog w) A (letTemporaryGo value o r >>= fun _=>pure r) Q E s₃) E s₂:=by
  rw [hs o i];exact wpAny_operating (aeV h₂ (fun r s₃ h₃=>aei (wpAny_letTemporaryGo (aen h₃))) fun _ _ x=>x)
 first
  | exact aen (aei fin)
  | exact aei (aen (aei fin))
  | exact aei fin
theorem tE {X:Cx}{pins:List (Addr×Obj)}{σ:St}{H:Hp}{s:Shared}{a:Addr}{y:V}{o:Option V}(I:Inv X pins σ H s)(g:DGet H a y o):s.TypeIs (.ref a) "dict" := by
 rcases g with ⟨kvs,k,e,_,_⟩ | ⟨kvs,k,b,e,_,_,_⟩
 ·obtain⟨_,_,vs,_,dd⟩:=yR I.hok e;exact dd.typeIs
 ·obtain⟨_,_,xs,_,dd⟩:=yC I.hok e;exact dd.typeIs
def ade (td ty:TE):TE:=fun σ H Q=>td σ H fun x H1=>ty σ H1 fun y H2=>∃ a v,x=.ref a/\DGet H2 a y (some v)/\Q v H2
def aa0 (ty td:TE):TE:=fun σ H Q=>ty σ H fun y H1=>td σ H1 fun x H2=>∃ a o,x=.ref a/\DGet H2 a y o/\Q (.bl (!o.isSome)) H2
def abo (td ty tv:TE):TS:=fun D σ H=>tv σ H fun v H1=>td σ H1 fun x H2=>ty σ H2 fun y H3=>∃ a H4,x=.ref a/\DPut H3 a y v H4/\D.nx σ H4
def adh (td ty tv:TE)(rd:V->V->Hp->VK->Prop):TS:=fun D σ H=>td σ H fun x H1=>ty σ H1 fun y H2=>∃ a v,x=.ref a/\DGet H2 a y (some v) ∧
 tv σ H2 fun y2 H3=>rd v y2 H3 fun z H4=>∃ H5,DPut H4 a y z H5/\D.nx σ H5
section
variable {X:Cx}{o i e value:Expr}{pos pos' tpos:Pos}{td ty tv:TE}
theorem cq (hu:X.A.units+1 < cLine)(ho:PE X o td)(hi:PE X i ty)(hs:adM i):PE X (.Subscript o i pos) (ade td ty):=by
 intro pins s σ H Q I h;refine abt PySem.F.slot_dict_getitem.lookup hs (thn (ho pins s σ H _ I h) fun u s1 ⟨x,H1,I1,rx,q1⟩=>thn (hi pins s1 σ H1 _ I1 q1) fun iv s2 ⟨y,H2,I2,ry,a,v,ex,g,q2⟩=>?_);subst ex;obtain rfl:u=Value.ref a:=rx;exact⟨tE I2 g,qQ hu I2 g ry fun w' s3 I3 rw'=>⟨v,H2,I3,rw',q2⟩⟩
theorem vT (hu:X.A.units+1 < cLine)(hi:PE X i ty)(ho:PE X o td):PC X .NotIn i o (aa0 ty td):=by
 intro pins s σ H Q I h;refine thn (hi pins s σ H _ I h) fun iv s1 ⟨y,H1,I1,ry,q1⟩=>thn (ho pins s1 σ H1 _ I1 q1) fun u s2 ⟨x,H2,I2,rx,a,ov,ex,g,q2⟩=>?_;subst ex;obtain rfl:u=Value.ref a:=rx;exact aaA hu I2 g ry fun s3 I3=>⟨.bl (!ov.isSome),H2,I3,rfl,q2⟩
theorem j6 (hu:X.A.units+1 < cLine)(ho:PE X o td)(hi:PE X i ty)(hv:PE X value tv)(hs:swapsWith value (some (.Subscript o i pos')) pos.line X.env=pure false) :
 PS X (.Assign [.Subscript o i pos'] value pos) (abo td ty tv):=by
 intro pins s σ H D I h;refine wpAny_Assign_Subscript (thn (hv pins s σ H _ I h) fun r s1 ⟨v,H1,I1,rv,q1⟩=>thn (ho pins s1 σ H1 _ I1 q1) fun u s2 ⟨x,H2,I2,rx,q2⟩=>thn (hi pins s2 σ H2 _ I2 q2) fun iv s3 ⟨y,H3,I3,ry,a,H4,ex,g,q3⟩=>?_) hs;subst ex;obtain rfl:u=Value.ref a:=rx;exact rj hu I3 g ry rv fun s4 I4=>⟨σ,H4,I4,q3⟩
theorem aaF {op:Operator}{rd:V->V->Hp->VK->Prop}(hu:X.A.units+1 < cLine)(ho:PE X o td)(hi:PE X i ty)(hv:PE X value tv)(hop:adJ X op rd)
 (ha:∀ ov iv new,augStore i ov iv new=(do holding [new,ov,iv] (setItem ov iv new);release [new,ov,iv] [];pure .next)):PS X (.AugAssign (.Subscript o i tpos) op value pos) (adh td ty tv rd):=by
 intro pins s σ H D I h;refine ahM (thn (ho pins s σ H _ I h) fun u s1 ⟨x,H1,I1,rx,q1⟩=>thn (hi pins s1 σ H1 _ I1 q1) fun iv s2 ⟨y,H2,I2,ry,a,v,ex,g,q2⟩=>?_) ha;subst ex;obtain rfl:u=Value.ref a:=rx;refine qQ hu I2 g ry fun w' s3 I3 rw'=>thn (hv pins s3 σ H2 _ I3 q2) fun w2 s4 ⟨y2,H3,I4,ry2,q3⟩=>thn (hop pins s4 σ H3 v y2 w' w2 _ I4 rw' ry2 q3) fun w3 s5 ⟨z,H4,I5,rz,H5,g5,q4⟩=>?_;exact rj hu I5 g5 ry rz fun s6 I6=>⟨σ,H5,I6,q4⟩
end
theorem o6 {P:Program}{w:World}{H:Hp}(h:Heap)(hb:sysModules < h.objs.size):ObjOk P w H (h.push { cls:=.type "dict",data:=.dict #[] }) h.objs.size (.dK []) :=
 ⟨aeM _,agF.mpr (afO (aeA hb)),[],.nil,Heap.DictOf.new h⟩
def acu:TE:=fun _ H Q=>∀ p,H p=none->Q (.ref p) (upd H p (.dK []))
section
variable {X:Cx}{pos:Pos}
theorem kT:PE X (.Dict [] [] pos) acu:=fun pins s σ H Q I h =>
 wpAny_Dict_empty ⟨.ref s.heap.objs.size,_,I.laid (a:=s.heap.objs.size) (o:=.dK []) (t':=s.toks) (fun _ _ q=>ael _ q) (aep _) (o6 s.heap I.big),rfl,h _ (I.hok.fresh (aep _))⟩
end
def zW:List (TE×TE)->St->Hp->(List (V×V)->Hp->Prop)->Prop
 | [],_,H,Q=>Q [] H
 | (tk,tv)::r,σ,H,Q=>tk σ H fun x H1=>tv σ H1 fun y H2=>zW r σ H2 fun ps H3=>Q ((x,y)::ps) H3
abbrev VV:List (V×V)->List (Value×Value)->Prop:=Paired fun p q=>RelV p.1 q.1/\RelV p.2 q.2
def PPs (X:Cx)(pos:Pos)(keys:List (Option Expr))(values:List Expr)(trs:List (TE×TE)):Prop :=
 ∀ (pins:List (Addr×Obj)) (s:Shared) (σ:St) (H:Hp) (Q:List (V×V)->Hp->Prop),Inv X pins σ H s->zW trs σ H Q →
  wpAny (model X.prog X.w) X.A (evalPairs (pairTrees keys values X.env pos)) (fun vs s'=>∃ ps H',Inv X pins σ H' s'/\VV ps vs/\Q ps H') X.xe s
theorem aaX {X:Cx}{pos:Pos}:PPs X pos [] [] []:=fun pins s σ H Q I h=>pairTrees_nil_walk ⟨[],H,I,.nil,h⟩
theorem yB {X:Cx}{pos:Pos}{k v:Expr}{ks:List (Option Expr)}{vs:List Expr}{tk tv:TE}{trs:List (TE×TE)}(hk:PE X k tk)(hv:PE X v tv)(hr:PPs X pos ks vs trs) :
 PPs X pos (some k::ks) (v::vs) ((tk,tv)::trs):=fun pins s σ H Q I h =>
 pairTrees_cons_walk (thn (hk pins s σ H _ I h) fun u s1 ⟨x,H1,I1,rx,q1⟩=>thn (hv pins s1 σ H1 _ I1 q1) fun w2 s2 ⟨y,H2,I2,ry,q2⟩ =>
  thn (hr pins s2 σ H2 _ I2 q2) fun ws s3 ⟨ps,H3,I3,rel,q3⟩=>⟨(x,y)::ps,H3,I3,.cons ⟨rx,ry⟩ rel,q3⟩)
structure M1 (X:Cx)(o:Expr)(m:Str)(apos:Pos)(e:Expr)(cpos:Pos):Prop where
 base:attributeBase o m X.env (eval o X.env)=eval o X.env
 few:((backTo cpos (starEach [e] X.env)).all (fun x=>!x.1) && (backToKw cpos (keywordEach [] X.env)).all (fun x=>x.1.isSome)
  && decide (([e]:List Expr).length+([]:List Keyword).length+(if ([]:List Keyword).isEmpty then 0 else 1) < 30))=true
 line:(apos.endLine == cpos.line)=true
 trees:backTo cpos (starEach [e] X.env)=[(false,eval e X.env)]
structure M2 (X:Cx)(o:Expr)(m:Str)(apos:Pos)(e f:Expr)(cpos:Pos):Prop where
 base:attributeBase o m X.env (eval o X.env)=eval o X.env
 few:((backTo cpos (starEach [e,f] X.env)).all (fun x=>!x.1) && (backToKw cpos (keywordEach [] X.env)).all (fun x=>x.1.isSome)
  && decide (([e,f]:List Expr).length+([]:List Keyword).length+(if ([]:List Keyword).isEmpty then 0 else 1) < 30))=true
 line:(apos.endLine == cpos.line)=true
 trees:backTo cpos (starEach [e,f] X.env)=[(false,eval e X.env),(false,eval f X.env)]
section
variable {X:Cx}{pins:List (Addr×Obj)}{σ:St}{H:Hp}{s:Shared}{a:Addr}{y d:V}{u r:Value}{o:Option V}{A:Around}{E:Value->Shared->Prop}
end
section
variable {X:Cx}{o e f:Expr}{apos cpos:Pos}{td ty tx:TE}
end
section
variable {X:Cx}{pins:List (Addr×Obj)}{σ:St}{H:Hp}{s:Shared}{a:Addr}{kvs:List (Key×V)}{A:Around}{E:Value->Shared->Prop}
end
section
variable {X:Cx}{pins:List (Addr×Obj)}{σ:St}{H:Hp}{s:Shared}{a:Addr}{y:V}{u:Value}{A:Around}{E:Value->Shared->Prop}
end
def jr (env:Env):List (Str×NameKind)->List (Str×Addr)->List (Str×Addr)
 | [],cs=>cs
 | (n,k)::r,cs=>jr env r (if k=.free then (n,(env.cells.lookup n).getD 0)::cs else cs)
theorem yj {env:Env}:∀ (ns:List (Str×NameKind)) (cs:List (Str×Addr)),(∀ x∈ns,x.2=.free->∃ c,env.cells.lookup x.1=some c) →
 (forIn (m:=Sem) ns cs fun (x:Str×NameKind) (r:List (Str×Addr))=>(if (x.2 == .free)=true then (do let a ← cellOf env x.1;pure (ForInStep.yield ((x.1,a)::r))) else pure (ForInStep.yield r)))=pure (jr env ns cs)
 | [],cs,_=>by simp [jr]
 | (n,k)::r,cs,h=>by
  have ih:=fun cs=>yj r cs fun x hx=>h x (aeC _ hx);rw [ahQ];by_cases hk:k=.free
  ·subst hk;obtain⟨c,hc⟩:=h (n,.free) aev rfl;have e1:cellOf env n=pure c:=by unfold cellOf;rw [hc]
   have hb:(NameKind.free == NameKind.free)=true:=rfl;simp only [hb,aht,e1,pure_bind,jr,hc,ahF];exact ih _
  ·have hb:(k == NameKind.free)=false:=by simpa using hk
   simp only [hb,ae4,agJ,pure_bind,jr,if_neg hk];exact ih _
theorem oX {env:Env}:∀ (ns:List (Str×NameKind)) (cs:List (Str×Addr)) (x:Str) (c:Addr),(∀ x∈ns,x.2=.free->∃ c,env.cells.lookup x.1=some c)->(jr env ns cs).lookup x=some c->cs.lookup x=some c\/env.cells.lookup x=some c
 | [],cs,x,c,_,e=>.inl e
 | (n,k)::r,cs,x,c,h,e=>by
  have ih:=oX r (if k=.free then (n,(env.cells.lookup n).getD 0)::cs else cs) x c (fun x hx=>h x (aeC _ hx)) e;rcases ih with ih | ih
  ·by_cases hk:k=.free
   ·subst hk;rw [if_pos rfl] at ih;obtain⟨d,hd⟩:=h (n,.free) aev rfl;have hd':env.cells.lookup n=some d:=hd;rw [hd'] at ih;rw [afT] at ih;cases hx:x == n with
    | true =>
     rw [hx] at ih;have:x=n:=by simpa using hx
     subst this;right;rw [hd'];exact ih
    | false =>
     rw [hx] at ih;exact .inl ih
   ·rw [if_neg hk] at ih;exact .inl ih
  ·exact .inr ih
theorem qi {env:Env}:∀ (ns:List (Str×NameKind)) (cs:List (Str×Addr)) (x:Str),(∃ c,cs.lookup x=some c)->∃ c,(jr env ns cs).lookup x=some c
 | [],_,_,h=>h
 | (n,k)::r,cs,x,h=>by
  refine qi r _ x ?_;split
  ·rw [afT];split
   ·exact⟨_,rfl⟩
   ·exact h
  ·exact h
theorem jC {env:Env}:∀ (ns:List (Str×NameKind)) (cs:List (Str×Addr)) (x:Str),(x,NameKind.free)∈ns->∃ c,(jr env ns cs).lookup x=some c
 | [],_,_,h=>nomatch h
 | (n,k)::r,cs,x,h=>by
  rcases aeu.mp h with e | h
  ·cases e;refine qi r _ _ ⟨(env.cells.lookup n).getD 0,?_⟩;rw [if_pos rfl,afT,agp]
  ·exact jC r _ x h
theorem gi {scope:Scope}{env:Env}(h:∀ x∈scope.names,x.2=.free->∃ c,env.cells.lookup x.1=some c):closureFor scope env=pure (jr env scope.names []):=by
 have e:=yj scope.names [] h;unfold closureFor;simp only [] at e ⊢;rw [e]
 rfl
theorem gq {scope:Scope}{env:Env}{x:Str}{k:NameKind}:(relabel scope env).names.lookup x=some k->∃ k',(x,k')∈scope.names/\(k=k'\/(k'=.free/\k=.cell)):=by
 intro h;have all:∀ (ns:List (Str×NameKind)),(ns.map fun (n,k)=>if (k == NameKind.free && env.scope.kind == .function && env.kindOf n == some .cell) then (n,NameKind.cell) else (n,k)).lookup x=some k->∃ k',(x,k')∈ns/\(k=k'\/(k'=.free/\k=.cell)):=by
  intro ns
  induction ns with
  | nil=>intro h;simp at h
  | cons y r ih =>
   obtain⟨n,k'⟩:=y;intro h;rw [aeG,afT] at h;by_cases hc:(k' == NameKind.free && env.scope.kind == .function && env.kindOf n == some .cell)=true
   ·simp only [hc,aht] at h;cases hx:x == n with
    | true =>
     rw [hx] at h;have e:x=n:=by simpa using hx
     subst e;have hk:k'=.free:=by
      simp only [ae2] at hc;simpa using hc.1.1
     exact⟨k',aev,.inr ⟨hk,(afg h).symm⟩⟩
    | false =>
     rw [hx] at h;obtain⟨k2,h1,h2⟩:=ih h;exact⟨k2,aeC _ h1,h2⟩
   ·simp only [hc,ae4,agJ] at h;cases hx:x == n with
    | true =>
     rw [hx] at h;have e:x=n:=by simpa using hx
     subst e;exact⟨k',aev,.inl (afg h).symm⟩
    | false =>
     rw [hx] at h;obtain⟨k2,h1,h2⟩:=ih h;exact⟨k2,aeC _ h1,h2⟩
 exact all scope.names h
def Cx.comp (X:Cx)(scope:Scope)(N':List Str)(C:Addr)(fp:List Addr)(s₀:Shared)(H₀:Hp):Cx :=
 { X with N:=N',s₀:=s₀,H₀:=H₀,env:=compEnvC scope (jr X.env scope.names []) C X.env,outer:=X.stack,stack:=X.stack,ex:=fp,fn:=fun _=>false,pn:=[],xe:=fun _ _=>False }
structure CompScope (X:Cx)(scope:Scope):Prop where
 kind:scope.kind=.function
 nocell:∀ x∈scope.names,x.2≠.cell
 loc:∀ x∈scope.names,x.2=.local->scope.names.lookup x.1=some .local
 free:∀ x∈scope.names,x.2=.free->X.env.kindOf x.1=some .cell
section
variable {X:Cx}{pins:List (Addr×Obj)}{σ:St}{H:Hp}{s:Shared}{scope:Scope}{N':List Str}{fp:List Addr}
theorem CompScope.cells (S:CompScope X scope)(ok:X.Ok):∀ x∈scope.names,x.2=.free->∃ c,X.env.cells.lookup x.1=some c:=fun x hx hk=>ok.has x.1 (.inl (S.free x hx hk))
theorem CompScope.sub (S:CompScope X scope)(ok:X.Ok){x:Str}{c:Addr}(e:(jr X.env scope.names []).lookup x=some c):X.env.cells.lookup x=some c:=by
 rcases oX scope.names [] x c (S.cells ok) e with h | h
 ·cases h
 ·exact h
theorem CompScope.ok (S:CompScope X scope)(I:Inv X pins σ H s)(hf:∀ b∈fp,jV X pins H b)(ho:∀ b∈fp,b < s.heap.objs.size):(X.comp scope N' s.heap.objs.size fp s H).Ok where
 mod:=I.ok.mod
 kind:=S.kind
 glob:=I.ok.glob
 blt:=I.ok.blt
 above:=aep _
 inj:=fun x y c e1 e2=>I.ok.inj x y c (S.sub I.ok e1) (S.sub I.ok e2)
 has:=fun x hx=>by
  have hx':(relabel scope X.env).names.lookup x=some .cell\/(relabel scope X.env).names.lookup x=some .free:=hx;have fr:(x,NameKind.free)∈scope.names:=by
   rcases hx' with h | h
   ·obtain⟨k',h1,h2⟩:=gq h;rcases h2 with h2 | ⟨h2,_⟩
    ·subst h2;exact absurd rfl (S.nocell _ h1)
    ·subst h2;exact h1
   ·obtain⟨k',h1,h2⟩:=gq h;rcases h2 with h2 | ⟨h2,h3⟩
    ·subst h2;exact h1
    ·cases h3
  exact jC scope.names [] x fr
 cab:=fun x c h _=>by cases h
 hd:=I.ok.hd
 frames:=I.ok.frames
 stk:=.inl rfl
 exf:=fun b hb=>⟨aeA (ho b hb),fun x c e=>(hf b hb).2.2.2.2.1 x c (S.sub I.ok e)⟩
 bs:=I.bs
 bsz:=aeN I.ok.bsz I.sz
 noex:=fun b o e hb=>by
  rcases (hf b hb).2.2.2.1 with h | h
  ·exact I.ok.noex b o e h
  ·exact absurd (aeB (aes e) (aeN I.ok.bsz h)) (afn _)
 exfs:=fun b hb hs=>by
  rcases aeu.mp (I.stkSub b hs) with h | h
  ·exact (hf b hb).2.1 h
  ·exact (hf b hb).2.2.1 h
 funs:=I.stack
 frf:=I.stkFree
def cP (nl:Nat)(ix:List Nat)(σ:St):St:=List.replicate nl none++ix.map fun j=>(σ[j]?).join
structure zp (X:Cx)(scope:Scope)(N':List Str)(nl:Nat)(ix:List Nat):Prop where
 len:N'.length=nl+ix.length
 at':∀ (k j:Nat),ix[k]? = some j->∃ x,X.N[j]? = some x/\N'[nl+k]? = some x/\X.env.kindOf x=some .cell/\(relabel scope X.env).names.lookup x=some .cell/\(x,NameKind.free)∈scope.names
theorem kW {nl:Nat}{ix:List Nat}{h1:Heap}{tk:Nat}(S:CompScope X scope)(Cp:zp X scope N' nl ix)(I:Inv X pins σ H s)(hf:∀ b∈fp,jV X pins H b)(ho:∀ b∈fp,b < s.heap.objs.size)
 (hn:h1.Ns s.heap.objs.size (fun _=>none))(hk:∀ b o,s.heap.get? b=some o->h1.get? b=some o):Inv (X.comp scope N' s.heap.objs.size fp s H) [] (cP nl ix σ) H { s with heap:=h1,toks:=tk }:=by
 have ok:=S.ok (N':=N') I hf ho;refine⟨ok,rfl,I.bare,Un.kept hk,⟨_,hn,fun i x v e1 e2 e3=>?_⟩,fun x c e=>?_,I.hok.fresh (aep _),fun x c e=>I.freeC x c (S.sub I.ok e),fun p hp=>by simp [Cx.comp] at hp,I.hok.kept hk,?_⟩
 ·unfold cP at e2;rw [ahK] at e2;split at e2
  ·rw [agI] at e2;split at e2<;>simp at e2
  ·rename_i hi;rw [afq] at hi e2;rw [aer] at e2;cases ej:ix[i - nl]? with
   | none=>rw [ej] at e2;simp at e2
   | some j =>
    rw [ej] at e2;have e2':(σ[j]?).join=some v:=by simpa using e2
    have e2'':σ[j]? = some (some v):=by
     cases q:σ[j]? with
     | none=>rw [q] at e2';simp at e2'
     | some z=>rw [q] at e2';simp at e2';rw [e2']
    obtain⟨x',a1,a2,a3,a4,a5⟩:=Cp.at' _ _ ej;have hi2:nl+(i - nl)=i:=by lia
    rw [hi2] at a2;have e1':N'[i]? = some x:=e1;rw [a2] at e1';cases e1';obtain⟨m,hm,hl⟩:=I.loc;obtain⟨u,r,l⟩:=hl j x v a1 e2'' (.inr (.inl a3));refine⟨u,r,?_⟩;rcases l with ⟨k,_⟩ | ⟨_,c,ec,z⟩
    ·rw [k] at a3;cases a3
    ·obtain⟨c',hc'⟩:=jC (env:=X.env) scope.names [] x a5;have ec':=S.sub I.ok hc';rw [ec] at ec';cases ec';obtain⟨o,ho',hd⟩:=z;exact .inr ⟨.inl a4,c,hc',o,hk _ _ ho',hd⟩
 ·obtain⟨v,o,ho',hd⟩:=I.cell x c (S.sub I.ok e);exact⟨v,o,hk _ _ ho',hd⟩
 ·show (cP nl ix σ).length=N'.length;unfold cP;rw [aeo,afq,aej,Cp.len]
theorem jM {H':Hp}{σ':St}{pins':List (Addr×Obj)}{s':Shared}{h':Heap}(I:Inv X pins σ H s)(hf:∀ b∈fp,jV X pins H b)
 (I':Inv (X.comp scope N' s.heap.objs.size fp s H) pins' σ' H' s')(hs:Heap.SameBut s.heap.objs.size s'.heap h'):Inv X pins σ H' { s' with heap:=h' }:=by
 have lo:∀ b o,s.heap.get? b=some o->b≠s.heap.objs.size:=fun b o e=>aeA (aes e);have B:=I'.base;refine I.call' (ch:=fp) (show s'.os=s.os from I'.os) ⟨fun b o e n hb hx=>?_,fun b o e n hb hx=>?_,fun b o e n hx=>B.free b o e n hx,fun b o e hx=>?_,B.tups,B.frzs,B.tbls⟩ (fun b u e=>?_) I'.bare fun b hb=>⟨(hf b hb).2.2.2.1,(hf b hb).2.1,(hf b hb).2.2.2.2.1,(hf b hb).2.2.2.2.2⟩
 ·exact (hs.2 b (lo b o e)).trans (B.keep b o e n hb hx)
 ·obtain⟨sl,q⟩:=B.slot b o e n hb hx;exact⟨sl,(hs.2 b (lo b o e)).trans q⟩
 ·obtain⟨o',q⟩:=B.there b o e hx;exact⟨o',(hs.2 b (lo b o e)).trans q⟩
 ·have nl:H' s.heap.objs.size=none:=I'.free;refine (I'.hok b u e).stay (fun c v hc q=>(hs.2 c ?_).trans q) (fun _ q=>q) fun _ _ q=>q;rintro rfl;rcases hc with z | z
  ·rw [← z,nl] at e;cases e
  ·rw [nl] at z;cases z
end
def PIf (X:Cx)(ifs:List Expr)(t:TT):Prop :=
 ∀ (pins:List (Addr×Obj)) (s:Shared) (σ:St) (H:Hp) (Q:Bool->Hp->Prop),Inv X pins σ H s->t σ H Q →
  wpAny (model X.prog X.w) X.A (forIn ifs true fun c r=>if r=true then do let ok ← isTrue c X.env (eval c X.env);pure (ForInStep.yield ok) else pure (ForInStep.yield r)) (TP X pins σ Q) X.xe s
def vG:TT:=fun _ H Q=>Q true H
theorem cn {X:Cx}:PIf X [] vG:=fun _ _ _ H _ I h=>aiQ ⟨H,I,h⟩
theorem jk {X:Cx}{c:Expr}{t:TT}(h:PT X c t):PIf X [c] t:=fun pins s σ H Q I hw=>wpAny_tests_one (h pins s σ H Q I hw)
section
variable {prog:Program}{w:World}{A:Around}{R:Result->Shared->Prop}{s:Shared}
theorem ki {elt target iter:Expr}{ifs:List Expr}{scope:Scope}{pos:Pos}{it acc:Value}{env:Env}(I:Nat->Shared->Prop)
 (turn:∀ n s,I n s->wpAny (model prog w) A (pyNext it) (fun r s₁=>match r with
  | none=>R (.ok .next) s₁
  | some v=>wpAny (model prog w) A (letOwnedTupleGo target it v) (fun _ s₁'=>wpAny (model prog w) A (assign target env v) (fun _ s₂ =>
   wpAny (model prog w) A (forIn ifs true fun c r=>if r=true then do let ok ← isTrue c env (eval c env);pure (ForInStep.yield ok) else pure (ForInStep.yield r)) (fun ok s₃ =>
    if ok=true then wpAny (model prog w) A (eval elt env) (fun x s₄ =>
     wpAny (model prog w) A (call (.builtin "list.append") [acc,x]) (fun _ s₅=>∃ m,m < n/\I m s₅) (fun _ _=>False) s₄) (fun _ _=>False) s₃
    else ∃ m,m < n/\I m s₃) (fun _ _=>False) s₂) (fun _ _=>False) s₁') (fun _ _=>False) s₁) (fun _ _=>False) s)
 (n:Nat)(h:I n s) :
 codeAny (model prog w) A (.compLoop (.ListComp elt [⟨target,iter,ifs,0⟩] scope pos) 0 it acc env) R s:=by
 have no:∀ {E:Value->Shared->Prop} (x:Value) (s:Shared),False->E x s:=fun _ _ z=>z.elim;refine aiR rfl I (fun n s hI=>?_) n h;show wpAny _ A ((compTurn (.ListComp elt [⟨target,iter,ifs,0⟩] scope pos) 0 it acc env).onRaise (fun x=>do noteFrame x env;theTreesLotGoes x)) _ _ s;refine ajq ?_;rw [compTurn_list];refine aei (afz (aei (aeV (turn n s hI) (fun r s₁ h₁=>?_) no)));cases r with
 | none=>exact aen h₁
 | some v =>
  refine aei (aeV h₁ (fun _ s₁' h₁'=>aei (aeV h₁' (fun _ s₂ h₂=>aei (aeV h₂ (fun ok s₃ h₃=>?_) no)) no)) no);cases ok with
  | false=>exact aen ⟨rfl,h₃⟩
  | true =>
   exact aei (aei (aeV h₃ (fun x s₄ h₄=>aei (aeV h₄ (fun _ s₅ h₅=>aen (aen ⟨rfl,h₅⟩)) no)) no))
end
def lU (nl:Nat)(ix:List Nat)(wi:TI)(g:TG)(tf:TT)(te:TE):TE:=fun σ H Q=>wi σ H fun J H1=>∀ D,H1 D=none->∃ W:Nat->Nat->List V->Hp->Prop,(∃ m,W 0 m [] (upd H1 D (.lst []))) ∧
 ∀ i m ys H2,W i m ys H2->H2 D=some (.lst ys)/\((J.stop i H2/\Q (.ref D) H2)\/(J.go i H2/\∀ x H3,J.yld i H2 x H3->g x (cP nl ix σ) H3 fun σ4 H4=>(σ4.length=(cP nl ix σ).length/\σ4.drop nl=ix.map fun j=>(σ[j]?).join)/\tf σ4 H4 fun b H5 =>
  if b=true then te σ4 H5 fun y H6=>H6 D=some (.lst ys)/\ys.length < sizeLine/\∃ m',m' < m/\W (i+1) m' (ys++[y]) (upd H6 D (.lst (ys++[y]))) else ∃ m',m' < m/\W (i+1) m' ys H5))
theorem iC {X:Cx}{pins:List (Addr×Obj)}{σ σ4:St}{H:Hp}{s:Shared}{nl:Nat}{ix:List Nat}(I:Inv X pins σ4 H s)(hl:σ4.length=(cP nl ix σ).length)(hd:σ4.drop nl=ix.map fun j=>(σ[j]?).join):Inv X pins (cP nl ix σ) H s:=by
 refine I.weak hl.symm fun i v e=>?_;unfold cP at e;rw [ahK] at e;split at e
 ·rw [agI] at e;split at e<;>simp at e
 ·rename_i hi;rw [afq] at hi e;rw [← hd,agY] at e;have hi2:nl+(i - nl)=i:=by lia
  rw [hi2] at e;exact e
section
variable {X:Cx}
theorem lg {elt tg iter:Expr}{ifs:List Expr}{scope:Scope}{pos:Pos}{N':List Str}{nl:Nat}{ix:List Nat}{wi:TI}{g:TG}{tf:TT}{te:TE}(hc:X.calm=true)(S:CompScope X scope)(Cp:zp X scope N' nl ix)(hi:PI X tg iter wi)
 (hg:∀ C fp s₀ H₀,PG (X.comp scope N' C fp s₀ H₀) tg g)(hf:∀ C fp s₀ H₀,PIf (X.comp scope N' C fp s₀ H₀) ifs tf)(he:∀ C fp s₀ H₀,PE (X.comp scope N' C fp s₀ H₀) elt te)
 (hs:∀ x,foldedSetIterable iter X.env x=pure x:=by intro _;rfl):PE X (.ListComp elt [⟨tg,iter,ifs,0⟩] scope pos) (lU nl ix wi g tf te):=by
 intro pins s σ H Q I h;rw [eval_ListComp];refine af5 (use:=none) (cl:=jr X.env scope.names []) rfl hs (gi (S.cells I.ok)) S.kind S.loc ?_;refine thn (hi pins s σ H _ I h) fun v s1 h1=>thn h1 fun itv s2 h2=>?_;obtain⟨it,fp,tn,J,H2,rfl,I2,T,st2,f2,h2⟩:=h2;obtain⟨W,⟨m0,w0⟩,turn⟩:=h2 s2.heap.objs.size I2.fresh;refine afJ (ahb S.nocell (by intro y hy;simp at hy) (fun h₁ hns₁ hsb₁=>?_) S.kind);dsimp only at hns₁ hsb₁ ⊢;have fpo:∀ b∈fp,b < s2.heap.objs.size:=fun b hb=>by
  obtain⟨o,e,_⟩:=T.obj 0 _ st2 b hb;exact aes e
 have I3:Inv X pins σ (upd H2 s2.heap.objs.size (.lst [])) { s2 with heap:=s2.heap.push { cls:=.type "list",data:=.seq ([]:List Value).toArray },toks:=s2.toks }:=I2.lnew .nil (aeM _);have hD:(upd H2 s2.heap.objs.size (.lst [])) s2.heap.objs.size=some (.lst []):=af;have f3:∀ b∈fp,jV X pins (upd H2 s2.heap.objs.size (.lst [])) b:=fun b hb=>by
  refine⟨?_,(f2 b hb).2⟩;rw [ak (aeA (fpo b hb))];exact (f2 b hb).1
 generalize hS3:s2.heap.push { cls:=.type "list",dict:=none,data:=.seq ([]:List Value).toArray }=g3 at hns₁ hsb₁ I3 ⊢;have sz3:g3.objs.size=s2.heap.objs.size+1:=by rw [← hS3,afe]
 have fpo3:∀ b∈fp,b < ({ s2 with heap:=g3,toks:=s2.toks }:Shared).heap.objs.size:=fun b hb=>by
  show b < g3.objs.size;rw [sz3];exact aff (fpo b hb)
 have old:∀ b o,g3.get? b=some o->h₁.get? b=some o:=fun b o e=>hsb₁.extBut b o (aeA (aes e)) (ael _ e);have I4:=kW (tk:=s2.toks+([]:List (Str×Value)).length) S Cp I3 f3 fpo3 hns₁ old;generalize hX:X.comp scope N' g3.objs.size fp { s2 with heap:=g3,toks:=s2.toks } (upd H2 s2.heap.objs.size (.lst []))=X' at *;have hPr:X'.prog=X.prog:=by rw [← hX];rfl
 have hWr:X'.w=X.w:=by rw [← hX];rfl
 have hKr:X'.K=X.K:=by rw [← hX];rfl
 have hAr:X'.A=X.A:=by rw [← hX];rfl
 have hCa:X'.calm=true:=by rw [← hX];exact hc
 have hXe:X'.xe=fun _ _=>False:=by rw [← hX];rfl
 have hEx:X'.ex=fp:=by rw [← hX];rfl
 have hPn:X'.pn=[]:=by rw [← hX];rfl
 have hLo:X'.env.locals=g3.objs.size:=by rw [← hX];rfl
 have hEn:X'.env=compEnvC scope (jr X.env scope.names []) g3.objs.size X.env:=by rw [← hX];rfl
 have hg':=hg g3.objs.size fp { s2 with heap:=g3,toks:=s2.toks } (upd H2 s2.heap.objs.size (.lst []));have hf':=hf g3.objs.size fp { s2 with heap:=g3,toks:=s2.toks } (upd H2 s2.heap.objs.size (.lst []));have he':=he g3.objs.size fp { s2 with heap:=g3,toks:=s2.toks } (upd H2 s2.heap.objs.size (.lst []));rw [hX] at hg' hf' he';have I4':Inv X' [] (cP nl ix σ) (upd H2 s2.heap.objs.size (.lst [])) { s2 with heap:=h₁,toks:=s2.toks+([]:List (Str×Value)).length }:=I4;have back:∀ {H':Hp} {σ':St} {pins':List (Addr×Obj)} {s':Shared} {h':Heap},Inv X' pins' σ' H' s'->Heap.SameBut g3.objs.size s'.heap h'->Inv X pins σ H' { s' with heap:=h' }:=fun I' sb=>by
  subst hX;exact jM I3 f3 I' sb
 have stat:∀ {H':Hp},(∀ b∈fp,H' b=none)->∀ b∈fp,jV X' [] H' b:=fun hn b hb=>by
  refine⟨hn b hb,?_,?_,.inl (by rw [hEx];exact hb),?_,fun p hp=>by rw [hPn] at hp;cases hp⟩
  ·rw [hLo];exact aeA (fpo3 b hb)
  ·exact I4'.ok.exfs b (by rw [hEx];exact hb)
  ·exact (I4'.ok.exf b (by rw [hEx];exact hb)).2
 have loop:codeAny (model X.prog X.w) X.A (.compLoop (.ListComp elt [⟨tg,iter,ifs,0⟩] scope pos) 0 (.ref it) (.ref s2.heap.objs.size) X'.env)
  (compPost (model X.prog X.w) X.A X.xe none (EP X pins σ Q) (.ref s2.heap.objs.size) g3.objs.size) { s2 with heap:=h₁,toks:=s2.toks+([]:List (Str×Value)).length }:=by
  rw [← hPr,← hWr,← hAr];refine ki (fun n s'=>∃ i ys H',Inv X' [] (cP nl ix σ) H' s'/\tn i s'.heap/\(∀ b∈fp,H' b=none)/\W i n ys H') ?_ m0
   ⟨0,[],_,I4',T.keep _ _ _ st2 (fun b hb o e=>old b o (by rw [← hS3];exact ael _ e)),fun b hb=>(f3 b hb).1,w0⟩
  rintro n s5 ⟨i,ys,H5,I5,st5,fr5,w5⟩;obtain⟨hD5,alt⟩:=turn i n ys H5 w5;rcases alt with ⟨stop,qn⟩ | ⟨go,step⟩
  ·rw [hPr,hWr];refine thn (T.done X' hPr hWr hKr hCa i [] s5 _ H5 _ I5 (stat fr5) st5 stop) fun r s6 ⟨hr,I6⟩=>?_;subst hr;obtain⟨m,hn,_⟩:=I6.loc;rw [hLo] at hn;exact⟨m,hn,fun h' sb=>⟨.ref s2.heap.objs.size,H5,back I6 sb,rfl,qn⟩⟩
  ·have it5:=T.item X' hPr hWr hKr hCa i [] s5 _ H5 (fun _ _=>False) I5 (stat fr5) st5 go;rw [← hPr,← hWr] at it5;refine thn it5 fun r s6 ⟨u,hr,h6⟩=>?_;subst hr;refine thn h6 fun _ s7 ⟨x,H7,I7,r7,y7,st7,fr7⟩=>?_;have I7':=I7.pinned (stat fr7) (T.obj _ _ st7);have g7:=hg' _ s7 _ H7 x u _ I7' r7 (step x H7 y7);rw [hXe] at g7;refine thn g7 fun _ s8 ⟨σ8,H8,I8,⟨hl8,hd8⟩,q8⟩=>?_;have f8:=hf' _ s8 σ8 H8 _ I8 q8;rw [hXe] at f8;refine thn f8 fun ok s9 ⟨H9,I9,q9⟩=>?_;have again:∀ {H10:Hp} {s10:Shared} {ys':List V},Inv X' ([]++fJ fp s7.heap) σ8 H10 s10->(∃ m',m' < n/\W (i+1) m' ys' H10)->∃ m,m < n/\∃ i ys H',Inv X' [] (cP nl ix σ) H' s10/\tn i s10.heap/\(∀ b∈fp,H' b=none)/\W i m ys H':=fun {H10 s10 ys'} I10 ⟨m',hm,w'⟩=>by
    refine⟨m',hm,i+1,ys',H10,iC I10.unpinned hl8 hd8,T.keep _ _ _ st7 fun b hb o e=>(I10.pin (b,o) (aex _ (aex _ (aW hb e)))).1,fun b hb=>?_,w'⟩;obtain⟨o,e,d⟩:=T.obj _ _ st7 b hb;exact (I10.pin (b,o) (aex _ (aex _ (aW hb e)))).2.1
   cases ok with
   | false =>
    rw [if_neg aem] at q9 ⊢;exact again I9 q9
   | true =>
    rw [if_pos rfl] at q9 ⊢;have e9:=he' _ s9 σ8 H9 _ I9 q9;rw [hXe] at e9;refine thn e9 fun xv s10 ⟨y,H10,I10,r10,hD10,hz,mw⟩=>?_;have a10:=dm (X:=X') _ s10 σ8 H10 (.ref s2.heap.objs.size) [y] _ [xv] (fun _ H'=>H'=upd H10 s2.heap.objs.size (.lst (ys++[y]))) I10 rfl (.cons r10 .nil) ⟨_,ys,y,rfl,rfl,hD10,hz,rfl⟩;rw [hXe] at a10;refine thn a10 fun _ s11 ⟨_,H11,I11,_,e11⟩=>?_;subst e11;exact again I11 mw
 rw [hEn] at loop;exact ahq loop (T.self _ 0 _ _ _ (T.keep _ _ _ st2 (fun b hb o e=>old b o (by rw [← hS3];exact ael _ e))) loop)
theorem eO:∀ {ss:List Str} {us:List Value},Vals (ss.map V.str) us->StrsAre us ss
 | [],_,.nil=>.nil
 | _::_,_,.cons r t=>by
  obtain⟨k,rfl⟩:=r;exact .cons _ k (eO t)
theorem iG:∀ {ss:List Str} {us:List Value},StrsAre us ss->Vals (ss.map V.str) us
 | _,_,.nil=>.nil
 | _,_,.cons y t h=>.cons ⟨t,rfl⟩ (iG h)
theorem tO:∀ bs:List Bool,(List.range bs.length).all (fun i=>bs.getD i false)=bs.all id
 | []=>rfl
 | b::r=>by
  rw [aeU,List.range_succ_eq_map,aiy,ag2,aiy,← tO r]
  rfl
theorem k9 (hc:X.calm=true):gI X (.builtin "all") (fun xs H Q=>∃ (p:Addr) (bs:List Bool),xs=[.ref p]/\SqL X.K H p (bs.map V.bl)/\Q (.bl (bs.all id)) H):=by
 intro pins s σ H xs us Q I r h;obtain⟨p,bs,rfl,hq,q⟩:=h;obtain⟨u,rfl,rx⟩:=iE r;cases rx;obtain⟨its,rv,pl,hz⟩:=I.list hq;have hh:X.A.in1.handled=none:=I.ok.hd hc;have hlt:p < s.heap.objs.size:=by obtain⟨o,e,_⟩:=pl.isList;exact aes e
 have hlen:=rv.length;rw [aej] at hlen;refine call_all_walk (ahs pl.isList ?_);refine⟨s.heap.objs.size,_,_,_,_,_,fun i=>bs.getD i false,rfl,Walks.list hh s.heap.objs.size p (aeA hlt) its.toArray,⟨⟨_,aeF _ rfl,rfl,rfl⟩,pl.isList.push _⟩,fun i v s' Q' E' hv hq'=>?_,fun h' tk hk=>?_⟩
 ·have hv':its[i]? = some v:=by simpa using hv
  have hi:i < its.length:=(aek.mp hv').1;have hb:bs[i]? = some (bs.getD i false):=by
   rw [ae3];rw [aeh (by lia)]
   rfl
  obtain⟨u,hu,ru⟩:=rv.get (i:=i) (x:=.bl (bs.getD i false)) (by rw [aer,hb];rfl);rw [hv'] at hu;cases hu;cases ru;exact afu hq'
 ·have e:(List.range its.toArray.size).all (fun i=>bs.getD i false)=bs.all id:=by
   rw [aeH,← hlen,tO]
  rw [e];refine⟨.bl _,H,?_,rfl,q⟩;refine (I.kept (t':=s.toks) (h':=s.heap.push { cls:=.type "list_iterator",data:=.fields #[.ref p,.int 0 0] }) fun b o e=>ael _ e).turned (it:=s.heap.objs.size) (t':=tk) (h':=h') (fun b o hb e=>hk b o (by simpa using hb) e) I.fresh (agZ I.lt) (.inr I.sz) (fun x c e z=>?_) fun p' hp z=>?_
  ·obtain⟨v,q⟩:=I.cell x c e;exact absurd (z▸q.lt) (afn _)
  ·exact absurd (z▸aes (I.pin p' hp).1) (afn _)
theorem mC:gI X (.builtin "sorted") (fun xs H Q=>∃ (p:Addr) (ss:List Str),xs=[.ref p]/\SqL X.K H p (ss.map V.str)/\ss.length < 64/\∀ (l:Addr) (ss':List Str),H l=none->ss'.Perm ss->sortedS ss'=true->Q (.ref l) (upd H l (.lst (ss'.map V.str)))):=by
 intro pins s σ H xs us Q I r h;obtain⟨p,ss,rfl,hq,hl,q⟩:=h;obtain⟨u,rfl,rx⟩:=iE r;cases rx;obtain⟨its,rv,pl,hz⟩:=I.list hq;have hlen:=rv.length;rw [aej] at hlen;refine sorted_strs pl.isList (eO rv) (by lia) fun out ss' a1 a2 a3=>?_;obtain⟨e,he⟩:=sortedAll_at s.heap its out;have hlen':ss'.length=ss.length:=a2.length_eq;refine⟨.ref (s.heap.objs.size+1),_,I.laid (t':=s.toks) (o:=.lst (ss'.map V.str)) (fun b o e=>sortedAll_old e) (afh _) ⟨?_,out.toList,e,iG a1,?_⟩,rfl,q _ ss' (I.hok.fresh (afh _)) a2 a3⟩
 ·rw [aej];exact af1 (aeB (by lia:ss'.length < 64) (by decide))
 ·simpa using he
def acM:V->List V->Hp->VK->Prop:=fun x vs H Q=>∃ (l:Addr) (ss:List Str) (k:Str),x=.ref l/\vs=[.str k]/\H l=some (.lst (ss.map V.str))/\Q (.int (ss.count k)) H
theorem si (k:Str):∀ ss:List Str,countIn (.str k) (ss.map PyData.str)=((ss.count k:Nat):Int):=by
 intro ss
 induction ss with
 | nil=>rfl
 | cons y r ih =>
  rw [aeG,countIn,ih,ahR];by_cases e:y=k
  ·subst e;have e1:same (.str y) (.str y)=true:=same_refl _;rw [if_pos e1,agp,if_pos rfl];lia
  ·have e1:¬ same (.str y) (.str k)=true:=by simpa [same] using e
   have e2:(y == k)=false:=by simpa using e
   rw [if_neg e1,e2];simp
theorem iP:MtM X "list.count" acM:=by
 intro pins s σ H x vs v us Q I rx rv h;obtain⟨l,ss,k,rfl,rfl,hH,q⟩:=h;cases rx;obtain⟨u,rfl,t,rfl⟩:=rv.one;obtain⟨its,r,pl,hz⟩:=I.list (aAA hH);refine count_list_strs pl.isList (eO r) ⟨.int (ss.count k),H,I.tok _,⟨s.toks,?_⟩,q⟩;rw [si]
end
mutual
inductive Sees (H:Hp):V->PyData->Prop
 | non:Sees H .non .none
 | bl (b:Bool):Sees H (.bl b) (.bool b)
 | int (i:Int):Sees H (.int i) (.int i)
 | str (x:Str):Sees H (.str x) (.str x)
 | lst {a:Addr} {vs:List V} {ds:List PyData}:H a=some (.lst vs)->SeesAll H vs ds->Sees H (.ref a) (.list ds)
 | tup {a:Addr} {vs:List V} {ds:List PyData}:H a=some (.tup vs)->SeesAll H vs ds->Sees H (.ref a) (.tuple ds)
inductive SeesAll (H:Hp):List V->List PyData->Prop
 | nil:SeesAll H [] []
 | cons {v:V} {vs:List V} {d:PyData} {ds:List PyData}:Sees H v d->SeesAll H vs ds->SeesAll H (v::vs) (d::ds)
end
mutual
theorem Sees.reads {P:Program}{w:World}{H:Hp}{h:Heap}(ok:HOk P w H h):∀ {d:PyData} {v:V} {u:Value},Sees H v d->RelV v u->∃ as,Reads h u d as
 | _,_,_,.non,r=>by cases r;exact⟨_,.none⟩
 | _,_,_,.bl b,r=>by cases r;exact⟨_,.bool b⟩
 | _,_,_,.int i,r=>by obtain⟨t,rfl⟩:=r;exact⟨_,.int i t⟩
 | _,_,_,.str x,r=>by obtain⟨t,rfl⟩:=r;exact⟨_,.str x t⟩
 | _,_,_,.lst e q,r=>by
  cases r;obtain⟨_,its,n,rv,g⟩:=ok _ _ e;obtain⟨as,ra⟩:=SeesAll.reads ok q rv;exact⟨_,.list g rfl rfl (by simpa using ra)⟩
 | _,_,_,.tup e q,r=>by
  cases r;obtain⟨_,its,rv,o,g,hc,n,hd⟩:=ok _ _ e;obtain⟨as,ra⟩:=SeesAll.reads ok q rv;exact⟨_,.tuple g hc hd (by simpa using ra)⟩
theorem SeesAll.reads {P:Program}{w:World}{H:Hp}{h:Heap}(ok:HOk P w H h):∀ {ds:List PyData} {vs:List V} {us:List Value},SeesAll H vs ds->Vals vs us->∃ as,ReadsAll h us ds as
 | _,_,_,.nil,r=>by cases r;exact⟨_,.nil⟩
 | _,_,_,.cons a b,r=>by
  cases r with
  | cons r1 r2 =>
   obtain⟨_,x⟩:=Sees.reads ok a r1;obtain⟨_,y⟩:=SeesAll.reads ok b r2;exact⟨_,.cons x y⟩
end
theorem SeesAll.strs {H:Hp}:∀ ss:List Str,SeesAll H (ss.map V.str) (ss.map PyData.str)
 | []=>.nil
 | s::r=>.cons (.str s) (SeesAll.strs r)
section
variable {X:Cx}
def acq (A:Around)(neg:Bool):R2:=fun x y H Q=>∃ da db,Sees H x da/\Sees H y db/\da.canLay0=true/\db.canLay0=true/\A.units+min da.depth db.depth < cLine/\Q (.bl (if neg then !PyData.eqv da db else PyData.eqv da db)) H
theorem qb:OpR X (compareOp .Eq) (acq X.A false):=by
 intro pins s σ H x y v u Q I rx ry h;obtain⟨da,db,sa,sb,la,lb,hu,q⟩:=h;obtain⟨_,ra⟩:=sa.reads I.hok rx;obtain⟨_,rb⟩:=sb.reads I.hok ry;exact SeqAt.rcAt_reads ra rb la lb hu _ _ _ _ ⟨.bl _,H,I,rfl,q⟩
theorem ab2:OpR X (compareOp .NotEq) (acq X.A true):=by
 intro pins s σ H x y v u Q I rx ry h;obtain⟨da,db,sa,sb,la,lb,hu,q⟩:=h;obtain⟨_,ra⟩:=sa.reads I.hok rx;obtain⟨_,rb⟩:=sb.reads I.hok ry;exact SeqAt.compareNe_reads ra rb la lb hu ⟨.bl _,H,I,rfl,q⟩
def Itn (n:Nat)(val:Nat->V->Prop):It:=⟨fun i _=>i < n,fun i H x H'=>H'=H/\val i x,fun i _=>i=n⟩
theorem oA {P:Program}{w:World}{K:PySem.W.Frag}{x:Str}{p:Pos}{I:Addr}{n:Nat}{Pv:Nat->Value->Prop}{St:Nat->Heap->Prop}{val:Nat->V->Prop}
 (W:∀ A':Around,A'.handled=none->Walks P w A' I [I] [I] n Pv St)(ho:∀ i h,St i h->∃ o,h.get? I=some o/\∀ v,o.data≠.cell v)(hv:∀ i u,Pv i u->∃ v,RelV v u/\val i v)
 (hself:∀ (A:Around) (i:Nat) (s:Shared) (Q:Value->Shared->Prop) (E:Value->Shared->Prop),St i s.heap->Q (.ref I) s->wpAny (model P w) A (pyIter (.ref I)) Q E s) :
 yr P w K (.Name x p) (Itn n val) [I] I St where
 mem:=by simp
 obj:=fun i h st b hb=>by
  have e:b=I:=by simpa using hb
  subst e;exact ho i h st
 keep:=fun i h h' st k=>(W { handled:=none,depth:=0,frames:=none,guards:=none,units:=0 } rfl).frame i h h' st k
 item:=by
  intro X hP hw hK hc i pins s σ H E J hf st hg;subst hP hw hK;obtain⟨f0,f1,f2,f3,f4,f5⟩:=hf I (by simp);refine (W X.A (J.ok.hd hc)).item i s _ _ hg st fun v h' tk hPv st' kk=>?_;obtain⟨y,ry,vy⟩:=hv i v hPv;have J1:Inv X pins σ H { s with heap:=h',toks:=tk }:=J.turned (fun b o hb e=>kk b o (by simpa using hb) e) f0 f1 f3 f4 f5;exact⟨v,rfl,aen ⟨y,H,J1,ry,⟨rfl,vy⟩,st',fun b hb=>(hf b hb).1⟩⟩
 done:=by
  intro X hP hw hK hc i pins s σ H E J hf st hg;subst hP hw hK;obtain⟨f0,f1,f2,f3,f4,f5⟩:=hf I (by simp);have e:i=n:=hg;subst e;exact (W X.A (J.ok.hd hc)).done s _ _ st fun h' tk kk=>⟨rfl,J.turned (fun b o hb e=>kk b o (by simpa using hb) e) f0 f1 f3 f4 f5⟩
 self:=hself
theorem mD {h:Heap}{I:Addr}{n:String}{x:Str}{t:Tok}{i:Nat}(st:h.IsStrIter I n x t i):∃ o,h.get? I=some o/\∀ v,o.data≠.cell v:=by
 obtain⟨o,e,_,d⟩:=st;exact⟨o,e,fun v z=>by rw [d] at z;cases z⟩
def ItS (z:Str):It:=Itn z.cps.size fun i v=>∃ c,z.cps[i]? = some c/\v=.str ⟨#[c]⟩
def ad1 (tl:TE):TI:=fun σ H R=>tl σ H fun x H1=>∃ z,x=.str z/\R (ItS z) H1
theorem ud {z:Str}(i:Nat)(u:Value)(h:SignAt z i u):∃ v,RelV v u/\∃ c,z.cps[i]? = some c/\v=.str ⟨#[c]⟩:=by
 obtain⟨c,t,e,rfl⟩:=h;exact⟨.str ⟨#[c]⟩,⟨t,rfl⟩,c,e,rfl⟩
theorem aad {l:Expr}{tl:TE}{x:Str}{p:Pos}(hl:PE X l tl):PI X (.Name x p) l (ad1 tl):=by
 intro pins s σ H R I h;refine thn (hl pins s σ H _ I h) fun v s1 ⟨y,H1,I1,r1,q1⟩=>?_;obtain⟨z,rfl,q⟩:=q1;obtain⟨t,rfl⟩:=r1;have fin:∀ (o:Obj),Inv X pins σ H1 { s1 with heap:=s1.heap.push o }:=fun o=>I1.kept (t':=s1.toks) fun b o e=>ael _ e;have ff:∀ b∈[s1.heap.objs.size],jV X pins H1 b:=fun b hb=>by
  have e:b=s1.heap.objs.size:=by simpa using hb
  subst e;exact I1.fpOk (aep _) I1.fresh
 cases ha:z.cps.all (· < 128)
 ·refine wpAny_pyIter_wide ha ⟨s1.heap.objs.size,[s1.heap.objs.size],_,ItS z,H1,rfl,fin _,oA (fun A' hA=>Walks.strWide hA _ z t) (fun i h st=>mD st) ud (fun A i s Q E st h=>wpAny_pyIter_striter_wide st h),⟨_,aeF _ rfl,rfl,rfl⟩,ff,q⟩
 ·refine wpAny_pyIter_ascii ha ⟨s1.heap.objs.size,[s1.heap.objs.size],_,ItS z,H1,rfl,fin _,oA (fun A' hA=>Walks.strAscii hA _ z t) (fun i h st=>mD st) ud (fun A i s Q E st h=>wpAny_pyIter_striter_ascii st h),⟨_,aeF _ rfl,rfl,rfl⟩,ff,q⟩
end
def jE (scope outer:Scope):List (Str×NameKind) :=
 scope.names.map fun (n,k)=>if (k == .free && outer.kind == .function && outer.names.lookup n == some .cell) then (n,.cell) else (n,k)
def jG (outer scope:Scope)(N N':List Str)(nl:Nat)(ix:List Nat):Bool :=
 (scope.kind == .function && scope.names.all fun x=>x.2 != .cell && (x.2 != .local || scope.names.lookup x.1 == some .local) && (x.2 != .free || outer.names.lookup x.1 == some .cell)) &&
 (N'.length == nl+ix.length && (List.range ix.length).all fun k=>match ix[k]? with
  | none=>false
  | some j=>match N[j]? with
   | none=>false
   | some x=>N'[nl+k]? == some x && outer.names.lookup x == some .cell && (jE scope outer).lookup x == some .cell && decide ((x,NameKind.free)∈scope.names))
theorem jo {X:Cx}{outer scope:Scope}{N N':List Str}{nl:Nat}{ix:List Nat}(h1:X.env.scope=outer)(h2:X.N=N)(h:jG outer scope N N' nl ix=true):CompScope X scope/\zp X scope N' nl ix:=by
 unfold jG at h;simp only [ae2,ae1,aeR,bne_iff_ne,aiT,ne_eq,afZ] at h;obtain⟨⟨hk,ha⟩,hl,hb⟩:=h;have kd:∀ x,X.env.kindOf x=outer.names.lookup x:=fun x=>by rw [← h1];rfl
 refine⟨⟨hk,fun x hx=>(ha x hx).1.1,fun x hx e=>?_,fun x hx e=>?_⟩,⟨hl,fun k j e=>?_⟩⟩
 ·rcases (ha x hx).1.2 with z | z
  ·exact absurd e z
  ·exact z
 ·rcases (ha x hx).2 with z | z
  ·exact absurd e z
  ·rw [kd];exact z
 ·have hk':k < ix.length:=(aek.mp e).1;have q:=hb k hk';rw [e] at q;simp only at q;cases ex:N[j]? with
  | none=>rw [ex] at q;simp at q
  | some x =>
   rw [ex] at q;simp only [ae2,aeR,age] at q;obtain⟨⟨⟨q1,q2⟩,q3⟩,q4⟩:=q;refine⟨x,by rw [h2];exact ex,q1,by rw [kd];exact q2,?_,q4⟩;have er:(relabel scope X.env).names=jE scope outer:=by rw [← h1];rfl
   rw [er];exact q3
def Nx (n i:Nat)(p:Prop):Prop:=∃ m',m' < n - i/\m'=n - (i+1)/\i+1<=n/\p
theorem nx {n i:Nat}{p:Prop}(h:i < n)(q:p):Nx n i p:=⟨n - (i+1),by lia,rfl,h,q⟩
def dr (nl:Nat)(ix:List Nat)(g:TG)(tf:TT)(te:TE)(σ:St)(D:Addr)(ys:List V)(H:Hp)(x:V)(nxt:List V->Hp->Prop):Prop :=
 g x (cP nl ix σ) H fun σ4 H4=>(σ4.length=(cP nl ix σ).length/\σ4.drop nl=ix.map fun j=>(σ[j]?).join)/\tf σ4 H4 fun b H5 =>
  if b=true then te σ4 H5 fun y H6=>H6 D=some (.lst ys)/\ys.length < sizeLine/\nxt (ys++[y]) (upd H6 D (.lst (ys++[y]))) else nxt ys H5
def jF (nl:Nat)(ix:List Nat)(g:TG)(tf:TT)(te:TE)(σ:St)(J:It)(H1:Hp)(D:Addr)(Q:VK):Prop :=
 ∃ W:Nat->Nat->List V->Hp->Prop,(∃ m,W 0 m [] (upd H1 D (.lst []))) ∧
 ∀ i m ys H2,W i m ys H2->H2 D=some (.lst ys)/\((J.stop i H2/\Q (.ref D) H2)\/(J.go i H2/\∀ x H3,J.yld i H2 x H3->dr nl ix g tf te σ D ys H3 x fun ys' H'=>∃ m',m' < m/\W (i+1) m' ys' H'))
theorem aK (nl:Nat)(ix:List Nat)(wi:TI)(g:TG)(tf:TT)(te:TE)(σ:St)(H:Hp)(Q:VK)(h:wi σ H fun J H1=>∀ D,H1 D=none->jF nl ix g tf te σ J H1 D Q):lU nl ix wi g tf te σ H Q:=h
section
variable {nl:Nat}{ix:List Nat}{g:TG}{tf:TT}{te:TE}{σ:St}{H1:Hp}{D:Addr}{Q:VK}(Pv:Nat->List V->Hp->Prop)
theorem qa {J:It}{n:Nat}(h0:Pv 0 [] (upd H1 D (.lst [])))(hD:∀ i ys H,Pv i ys H->H D=some (.lst ys))(go:∀ i ys H,i < n->Pv i ys H->J.go i H)(stop:∀ ys H,Pv n ys H->J.stop n H)
 (hs:∀ i ys H x H',i < n->Pv i ys H->J.yld i H x H'->dr nl ix g tf te σ D ys H' x fun ys' H'=>Nx n i (Pv (i+1) ys' H'))
 (hd:∀ ys H,Pv n ys H->Q (.ref D) H):jF nl ix g tf te σ J H1 D Q:=by
 refine⟨fun i m ys H=>m=n - i/\i<=n/\Pv i ys H,⟨n,by simp,aeM _,h0⟩,?_⟩;rintro i m ys H ⟨rfl,hi,p⟩;refine⟨hD i ys H p,?_⟩;by_cases hlt:i < n
 ·exact .inr ⟨go i ys H hlt p,fun x H' y=>hs i ys H x H' hlt p y⟩
 ·have e:i=n:=by lia
  subst e;exact .inl ⟨stop ys H p,hd ys H p⟩
theorem uF {lo:Int}{n:Nat}(h0:Pv 0 [] (upd H1 D (.lst [])))(hD:∀ i ys H,Pv i ys H->H D=some (.lst ys))
 (hs:∀ i ys H,i < n->Pv i ys H->dr nl ix g tf te σ D ys H (.int (lo+i)) fun ys' H'=>Nx n i (Pv (i+1) ys' H'))(hd:∀ ys H,Pv n ys H->Q (.ref D) H):jF nl ix g tf te σ (Itr lo n) H1 D Q:=by
 refine qa (n:=n) Pv h0 hD (fun _ _ _ hi _=>hi) (fun _ _ _=>aep _) (fun i ys H x H' hi p y=>?_) hd;obtain⟨e,y⟩:=y;subst e y;exact hs i ys H' hi p
theorem dU {K:PySem.W.Frag}{a:Addr}{xs:List V}(h0:Pv 0 [] (upd H1 D (.lst [])))(hD:∀ i ys H,Pv i ys H->H D=some (.lst ys))(hl:∀ i ys H,Pv i ys H->SqL K H a xs)
 (hs:∀ i ys H x,xs[i]? = some x->Pv i ys H->dr nl ix g tf te σ D ys H x fun ys' H'=>Nx xs.length i (Pv (i+1) ys' H'))(hd:∀ ys H,Pv xs.length ys H->Q (.ref D) H):jF nl ix g tf te σ (Itl K a) H1 D Q:=by
 refine qa (n:=xs.length) Pv h0 hD (fun i ys H hi p=>⟨xs,xs[i],hl i ys H p,by simp [hi]⟩) (fun ys H p=>⟨xs,hl _ ys H p,aep _⟩) (fun i ys H x H' hi p y=>?_) hd;obtain⟨e,y⟩:=y;subst e;exact hs i ys H' x (y xs (hl i ys H' p)) p
theorem uv {z:Str}(h0:Pv 0 [] (upd H1 D (.lst [])))(hD:∀ i ys H,Pv i ys H->H D=some (.lst ys))
 (hs:∀ i ys H c,z.cps[i]? = some c->Pv i ys H->dr nl ix g tf te σ D ys H (.str ⟨#[c]⟩) fun ys' H'=>Nx z.cps.size i (Pv (i+1) ys' H'))(hd:∀ ys H,Pv z.cps.size ys H->Q (.ref D) H):jF nl ix g tf te σ (ItS z) H1 D Q:=by
 refine qa (n:=z.cps.size) Pv h0 hD (fun _ _ _ hi _=>hi) (fun _ _ _=>rfl) (fun i ys H x H' hi p y=>?_) hd;obtain⟨e,c,ec,ex⟩:=y;subst e ex;exact hs i ys H' c ec p
end
section
variable {X:Cx}{K:PySem.W.Frag}
theorem oR (hK:X.K=K):IxR X (adR K):=by subst hK;exact aS
theorem xu (hK:X.K=K):IxR X (adN K):=by subst hK;exact bP
theorem wt (hK:X.K=K):gI X (.builtin "len") (fun xs H Q=>∃ p ys,xs=[.ref p]/\(SqL K H p ys\/SqT K H p ys)/\Q (.int ys.length) H):=by subst hK;exact aI
theorem js {pos:Pos}{es:List Expr}{k:Nat}{t:TGs}{n:Nat}(hK:X.K=K)(hc:X.calm=true)(h:PGs X es t)(hn:(assignEach es X.env).length=n:=by rfl)(hst:(assignEach es X.env).findIdx? (·.1)=none:=by rfl):PG X (.Tuple es k pos) (acm K n t):=by
 subst hK;exact gW hc h hn hst
end
theorem dP {nl:Nat}{ix:List Nat}{te:TE}{σ:St}{D:Addr}{ys:List V}{H:Hp}{x:V}{nxt:List V->Hp->Prop}{i:Nat}(h1:((cP nl ix σ).set i (some x)).drop nl=ix.map fun j=>(σ[j]?).join)
 (h:te ((cP nl ix σ).set i (some x)) H fun y H6=>H6 D=some (.lst ys)/\ys.length < sizeLine/\nxt (ys++[y]) (upd H6 D (.lst (ys++[y])))):dr nl ix (cI i) vG te σ D ys H x nxt:=by
 unfold dr cI vG;dsimp only;rw [if_pos rfl];exact⟨⟨by simp,h1⟩,h⟩
section
variable {X:Cx}
theorem cE:gI X (.builtin "isinstance") (fun xs H Q=>∃ (x:V) (T:String) (t:Value) (b:Bool),xs=[x,.ty T]/\uI X.K H x t/\kitOne X.K t (.type T)=some b/\Q (.bl b) H):=by
 intro pins s σ H xs us Q I r h;obtain⟨x,T,t,b,rfl,ty,e,q⟩:=h;obtain⟨u,v,rfl,rx,ry⟩:=adb r;cases ry;exact xg I rx ty e fun tk=>⟨.bl b,H,I.tok _,rfl,q⟩
theorem gz (K:PySem.W.Frag)(n:String):kitOne K (.type n) (.type n)=some true:=by
 unfold kitOne;rw [if_pos (by simp)]
end
def ac9 (h:Heap)(e T:Addr)(cls a0:Value):Prop :=
 ∃ oe vs oT ts,h.get? e=some oe/\(oe.cls=cls/\vs[0]? = some a0)/\oe.data=.fields vs/\vs[1]? = some (.ref T)/\T≠e/\h.get? T=some oT/\oT.data=.fields ts/\ts[3]? = some .none
def CXr (P:Program)(w:World):CXT:=fun outer H s E ev s'=>∃ (e T:Addr) (cls a0:Value) (H':Hp),ev=.ref e/\s'.os=s.os/\AllBare s'.gens/\Un (frs outer) [] H H' s.heap s'.heap/\HOk P w H' s'.heap ∧
 ac9 s'.heap e T cls a0/\s.heap.get? e=none/\s.heap.get? T=none/\H' e=none/\H' T=none/\E cls none H'
theorem ObjOk.obj {P:Program}{w:World}{H:Hp}{h:Heap}{a:Addr}{o:HO}(x:ObjOk P w H h a o):∃ ob,h.get? a=some ob:=by
 cases o with
 | lst xs=>obtain⟨_,_,_,_,e⟩:=x;exact⟨_,e⟩
 | tup xs=>obtain⟨_,_,_,o,e,_⟩:=x;exact⟨_,e⟩
 | dK kvs=>obtain⟨_,_,_,_,o,_,_,e,_⟩:=x;exact⟨_,e⟩
 | dT kvs=>obtain⟨_,_,_,_,o,_,_,e,_⟩:=x;exact⟨_,e⟩
 | set S n=>obtain⟨o,_,_,_,e,_⟩:=x;exact⟨_,e⟩
 | ins C dx fs=>obtain⟨_,_,_,e,_⟩:=x;exact⟨_,e⟩
 | own y=>exact x
 | xd fs=>obtain⟨_,⟨_,_,_,e,_⟩,_⟩:=x;exact⟨_,e⟩
 | rng lo hi=>obtain⟨_,_,_,e⟩:=x;exact⟨_,e⟩
 | frz ob u=>obtain⟨e,_⟩:=x;exact⟨_,e⟩
 | tbl ps=>exact⟨_,x⟩
 | met f y=>exact⟨_,x⟩
 | ext φ=>exact x.2.1
def iZ (h:Heap)(l:List Addr):Heap:=hideAll h l
theorem lj {h base:Heap}{L:List Addr}:∀ {l:List Env},h.FunFrames base l->(∀ b∈frs l,b∈L)->h.FunFrames (iZ h L) l
 | [],_,_=>True.intro
 | env::outer,x,s=>by
  unfold Heap.FunFrames at x ⊢;obtain⟨k,⟨F,o,f,_,g,d⟩,r⟩:=x;have hF:F∈frs (env::outer):=by unfold frs;rw [agh,f];exact aev
  exact⟨k,⟨F,o,f,agb _ (s F hF),g,d⟩,lj r fun b hb=>s b (by unfold frs at hb ⊢;rw [agh,f];exact aeC _ hb)⟩
theorem HOk.left {P:Program}{w:World}{H:Hp}{h h':Heap}{L:List Addr}(x:HOk P w H h)(n:∀ b∈L,H b=none)(k:(iZ h L).StaysIn h'):HOk P w H h':=fun a o q=>by
 refine (x a o q).stay (fun b u hb g=>k b u (agG _ g fun z=>?_)) (fun _ z=>z) fun _ _ z=>z;have hn:=n b z;rcases hb with e | e
 ·rw [e,q] at hn;cases hn
 ·rw [e] at hn;cases hn
theorem lP {h h':Heap}{base:Heap}{l:List Env}(x:h.FunFrames base l)(k:∀ b o,h.get? b=some o->(∀ vs,o.data≠.fields vs)->∃ sl,h'.get? b=some { o with slots:=sl }){b:Addr}{o:Obj}(hb:b∈frs l)(e:h.get? b=some o):∃ sl,h'.get? b=some { o with slots:=sl }:=by
 obtain⟨_,o',e',d⟩:=x.mem hb;rw [e] at e';cases e';exact k b o e d
section
variable {P:Program}{w:World}{K:PySem.W.Frag}{mg:Str->Option Value}{base:Heap}{N:List Str}{qual:Str}{scope:Scope}{f:Addr}{cd:Value}{A:Around}{outer:List Env}{s:Shared}{H:Hp}{E0:XK}
theorem aaG {pins:List (Addr×Obj)}{σ:St}{H2:Hp}{s2:Shared}{h':Heap}{e T:Addr}{cls a0:Value}(J:Inv (rh (CXr P w) P w K mg base N qual scope f cd A outer s H E0) pins σ H2 s2)
 (ne:H2 e=none)(nT:H2 T=none)(ge:s.heap.get? e=none)(gT:s.heap.get? T=none)
 (L:Heap.LeftW (iZ s2.heap (e::T::frs (envOfC qual scope s.heap.objs.size f cd::outer))) (envOfC qual scope s.heap.objs.size f cd::outer) e cls a0 s2.heap h')(q:E0 cls none H2):CXr P w outer H s E0 (.ref e) { s2 with heap:=h' }:=by
 obtain⟨st,fn,⟨oe,vs,T',oT,ts,g1,g2,g3,g4,g5,g6,g7,g8,g9⟩,kp⟩:=L;have hst:=J.stack;have sf:∀ b∈frs (envOfC qual scope s.heap.objs.size f cd::outer),H2 b=none:=J.stkFree;have nl:∀ b∈e::T::frs (envOfC qual scope s.heap.objs.size f cd::outer),H2 b=none:=fun b hb=>by
  rcases aeu.mp hb with z | hb
  ·rw [z];exact ne
  ·rcases aeu.mp hb with z | hb
   ·rw [z];exact nT
   ·exact sf b hb
 have fsub:∀ b∈frs outer,b∈frs (envOfC qual scope s.heap.objs.size f cd::outer):=fun b hb=>by
  unfold frs at hb ⊢;rw [agh];split
  ·exact hb
  ·exact aeC _ hb
 have locs:∀ b∈frs (envOfC qual scope s.heap.objs.size f cd::outer),b=s.heap.objs.size\/b∈frs outer:=fun b hb=>aeu.mp (J.stkSub b hb);have notF:∀ b∈frs (envOfC qual scope s.heap.objs.size f cd::outer),b≠T':=fun b hb z=>by
  obtain⟨_,o',e',d⟩:=fn.mem hb;rw [z,g7] at e';cases e';exact d _ g8
 have inB:∀ b o,s2.heap.get? b=some o->b≠e->b≠T->b ∉ frs (envOfC qual scope s.heap.objs.size f cd::outer)->(iZ s2.heap (e::T::frs (envOfC qual scope s.heap.objs.size f cd::outer))).get? b=some o:=fun b o g h1 h2 h3=>agG _ g fun z=>by
  rcases aeu.mp z with z | z
  ·exact h1 z
  ·rcases aeu.mp z with z | z
   ·exact h2 z
   ·exact h3 z
 have hb:=J.base;have old:∀ b o,s.heap.get? b=some o->b≠e/\b≠T/\b≠s.heap.objs.size:=fun b o g=>⟨(fun z=>by rw [z,ge] at g;cases g),(fun z=>by rw [z,gT] at g;cases g),fun z=>afn _ (z▸aes g)⟩;have step:∀ b o,s2.heap.get? b=some o->b≠e->b≠T->∃ sl,h'.get? b=some { o with slots:=sl }:=fun b o g h1 h2=>by
  by_cases h3:b∈frs (envOfC qual scope s.heap.objs.size f cd::outer)
  ·exact lP hst kp h3 g
  ·exact⟨o.slots,st b o (inB b o g h1 h2 h3)⟩
 refine⟨e,T',cls,a0,H2,rfl,J.os,J.bare,⟨fun b o g n hf hx=>?_,fun b o g n hf hx=>?_,hb.free,fun b o g hx=>?_,hb.tups,hb.frzs,hb.tbls⟩,J.hok.left nl st,⟨oe,vs,oT,ts,g1,g2,g3,g4,g6,g7,g8,g9⟩,ge,?_,ne,?_,q⟩
 ·obtain⟨h1,h2,h3⟩:=old b o g;refine st b o (inB b o (hb.keep b o g n hf hx) h1 h2 fun z=>?_);rcases locs b z with z | z
  ·exact h3 z
  ·exact hf z
 ·obtain⟨h1,h2,h3⟩:=old b o g;obtain⟨sl,g'⟩:=hb.slot b o g n hf hx;obtain⟨sl',g''⟩:=step b _ g' h1 h2;exact⟨sl',g''⟩
 ·obtain⟨h1,h2,h3⟩:=old b o g;obtain⟨o',g'⟩:=hb.there b o g hx;obtain⟨sl',g''⟩:=step b _ g' h1 h2;exact⟨_,g''⟩
 ·cases g:s.heap.get? T' with
  | none=>rfl
  | some o =>
   obtain⟨h1,h2,h3⟩:=old T' o g;obtain⟨o',g'⟩:=hb.there T' o g (by show T' ∉ ([]:List Addr);simp);have:=inB T' o' g' h1 h2 fun z=>notF T' z rfl;rw [g5] at this;cases this
 ·cases g:H2 T' with
  | none=>rfl
  | some o =>
   obtain⟨ob,g'⟩:=(J.hok T' o g).obj;have:=inB T' ob g' g6 (fun z=>by rw [z,nT] at g;cases g) fun z=>notF T' z rfl;rw [g5] at this;cases this
end
structure nK (K:PySem.W.Frag)(C:Addr)(bm:List Value):Prop where
 facts:∃ (nm q:Str) (N:Addr) (bs bmB:List Value) (hdct:Bool) (sn:List Str) (sub:List Value) (ab:Bool) (col:Option Bool) (dd:Option Addr) (k0 k1 k2 k3 k5:Option Value) (B Bn newId nid initId inN:String) (bmN:List Value) (mN:Str->Option Value),
  ExcBaseFacts Bn newId inN bmN/\bmB.contains (.type Bn)=true/\ExcBaseFacts B nid initId bmB/\bm.contains (.type "BaseException")=true/\mN "__init__" = none/\∀ h:Heap,K.In h->h.get? C=some (excClassObj nm q C N bs bm hdct sn sub ab col dd k0 k1 k2 k3 k5 newId)/\h.Ns N mN/\OwnTail h bmB bm
def abP (C:Addr)(E:XK)(t:TA):TS:=fun _ σ H=>t σ H fun vs H1=>vs.length<=sizeLine/\E (.ref C) none H1
section
variable {P:Program}{w:World}{K:PySem.W.Frag}{mg:Str->Option Value}{base:Heap}{N:List Str}{qual:Str}{scope:Scope}{f:Addr}{cd:Value}{A:Around}{outer:List Env}{s:Shared}{H:Hp}{E0:XK}
theorem o9 {x:Str}{C:Addr}{bm:List Value}{np cpos pos:Pos}{a:Expr}{t:TA}(c:nK K C bm)(hg:Gl (rh (CXr P w) P w K mg base N qual scope f cd A outer s H E0) x)(hm:mg x=some (.ref C))
 (ha:PA (rh (CXr P w) P w K mg base N qual scope f cd A outer s H E0) [a] t)(hs:starEach [a] (envOfC qual scope s.heap.objs.size f cd)=[(false,eval a (envOfC qual scope s.heap.objs.size f cd))]:=by rfl)(hdb:(x == ("__debug__" : Str))=false:=by decide) :
 PS (rh (CXr P w) P w K mg base N qual scope f cd A outer s H E0) (.Raise (some (.Call (.Name x np) [a] [] cpos)) none pos) (abP C E0 t):=by
 intro pins s1 σ H1 D I h;obtain⟨nm,q,N',bs,bmB,hdct,sn,sub,ab,col,dd,k0,k1,k2,k3,k5,B,Bn,newId,nid,initId,inN,bmN,mN,f1,f2,f3,f4,f5,g⟩:=c.facts;have hd:(rh (CXr P w) P w K mg base N qual scope f cd A outer s H E0).A.handled=none:=I.ok.hd rfl;refine wpAny_Raise_call_subU (bm:=bm) (N:=N') (nm:=nm) (q:=q) (bs:=bs) (hdct:=hdct) (sn:=sn) (sub:=sub) (ab:=ab) (col:=col) (dd:=dd) (k0:=k0) (k1:=k1) (k2:=k2) (k3:=k3) (k5:=k5) f1 f2 f3 (mN:=mN) f4 hd ?_ f5 (kg I hg hm ⟨rfl,?_⟩ hdb)
 ·show ((backTo cpos (starEach [a] (envOfC qual scope s.heap.objs.size f cd))).any fun x=>x.1)=false;rw [hs]
  rfl
 have e:backTo cpos (starEach [a] (envOfC qual scope s.heap.objs.size f cd))=(false,eval a (envOfC qual scope s.heap.objs.size f cd))::[]:=by rw [hs];rfl
 show wpAny _ _ (evalArgs (.ref C) true (backTo cpos (starEach [a] (envOfC qual scope s.heap.objs.size f cd))) []) _ _ s1;rw [e];refine Calls.evalArgs_plain ?_;rw [← e];refine thn (ha cpos pins s1 σ H1 _ I h) fun us s2 ⟨vs,H2,I2,r,hl,q⟩=>?_;obtain⟨c1,c2,c3⟩:=g s2.heap I2.kIn;refine⟨rfl,by rw [← r.length];exact hl,c1,c2,c3,fun h' ea made=>?_⟩;obtain⟨tt,m1,m2,m3⟩:=made.there;have J:Inv (rh (CXr P w) P w K mg base N qual scope f cd A outer s H E0) pins σ H2 { s2 with heap:=h' }:=I2.kept (t':=s2.toks) made.keeps;have st:=J.stack;have none_of:∀ b,s2.heap.get? b=none->s.heap.get? b=none:=fun b z=>by
  cases g:s.heap.get? b with
  | none=>rfl
  | some o =>
   obtain⟨o',g'⟩:=I2.base.there b o g (by show b ∉ ([]:List Addr);simp);rw [z] at g';cases g'
 have untr:∀ b,s2.heap.get? b=none->H2 b=none:=fun b z=>by
  cases g:H2 b with
  | none=>rfl
  | some o =>
   obtain⟨ob,g'⟩:=(I2.hok b o g).obj;rw [z] at g';cases g'
 show wpAny (model P w) (A.deeper (envOfC qual scope s.heap.objs.size f cd)) (leaving (envOfC qual scope s.heap.objs.size f cd) (.ref ea)) _ _ _;refine wpAny_leaving_firstW (base:=iZ h' (ea::ea::frs (envOfC qual scope s.heap.objs.size f cd::outer))) (L:=s.heap.objs.size) J.ok.frames (lj st fun b hb=>aeC _ (aeC _ hb)) rfl m1 (fun b o g=>ahh _ g) (agb _ aev) rfl rfl rfl fun h2 L=>?_;exact aaG J (untr _ made.new) (untr _ made.new) (none_of _ made.new) (none_of _ made.new) L q
end
theorem nv:isSubtype (.type "type") (.type "tuple")=pure false:=by first | rfl | kernel_rfl
theorem qz {M:Model}{A:Around}{E:Value->Shared->Prop}{s:Shared}{C1:Addr}{b:Value}{nm1 q1:Str}{N1:Addr}{bs1 bm1:List Value}{hdct1:Bool}{sn1:List Str}{sub1:List Value}{ab1:Bool}{col1:Option Bool}{dd1:Option Addr}{l0 l1 l2 l3 l5:Option Value}{newId1:String}{Q:Bool->Shared->Prop}
 (hC1:s.heap.get? C1=some (excClassObj nm1 q1 C1 N1 bs1 bm1 hdct1 sn1 sub1 ab1 col1 dd1 l0 l1 l2 l3 l5 newId1))(h:Q ((Value.ref C1::bm1).contains b) s):wpAny M A (isSubtype (.ref C1) b) Q E s:=by
 unfold isSubtype mroOf classData;refine aei (aei (aei (aja hC1 ?_)));refine aen (aen ?_);show wpAny M A (pure ((Value.ref C1::bm1).contains b)) Q E s;exact aen h
theorem aa8 {M:Model}{A:Around}{E:Value->Shared->Prop}{s:Shared}{e C C1:Addr}{oe:Obj}{nm q nm1 q1:Str}{N N1:Addr}{bs bm bs1 bm1:List Value}{hdct hdct1:Bool}{sn sn1:List Str}{sub sub1:List Value}{ab ab1:Bool}{col col1:Option Bool}{dd dd1:Option Addr}{k0 k1 k2 k3 k5 l0 l1 l2 l3 l5:Option Value}{newId newId1:String}{Q:Bool->Shared->Prop}
 (hC:s.heap.get? C=some (excClassObj nm q C N bs bm hdct sn sub ab col dd k0 k1 k2 k3 k5 newId))(hC1:s.heap.get? C1=some (excClassObj nm1 q1 C1 N1 bs1 bm1 hdct1 sn1 sub1 ab1 col1 dd1 l0 l1 l2 l3 l5 newId1))
 (he:s.heap.get? e=some oe)(hc:oe.cls=.ref C1)(hb:bm.contains (.type "BaseException")=true)(hm:(Value.ref C1::bm1).contains (.ref C)=true)(h:Q true s):wpAny M A (excMatches (.ref e) (.ref C)) Q E s:=by
 unfold excMatches isInstance;refine aei (aei (wpAny_typeOf (T := "type") ⟨_,hC,rfl⟩ ?_));rw [nv];refine aen ?_;show wpAny M A (forIn [Value.ref C] PUnit.unit _ >>= _) Q E s;rw [ahQ];refine aei (aei (aei ?_));unfold isExcClass isType loadHead;refine aei (aei (wpAny_loadPart hC ?_));refine aen ?_;show wpAny M A (isSubtype (Value.ref C) (Value.type "BaseException")) _ E s;refine qz hC ?_;have e1:(Value.ref C::bm).contains (.type "BaseException")=true:=by rw [List.contains_cons,hb,Bool.or_true]
 rw [e1];show wpAny M A (pure (ForInStep.yield PUnit.unit)) _ E s;refine aen ?_;show wpAny M A (pure PUnit.unit) _ E s;refine aen ?_;refine aei (wpAny_typeOf_ref he ?_);rw [hc];rw [ahQ];refine aei (aei (aei (qz hC1 ?_)));rw [hm];show wpAny M A (pure (ForInStep.done (some true,()))) _ E s;refine aen ?_;show wpAny M A (pure (some true,())) _ E s;refine aen ?_;exact aen h
def abB (a:Addr)(cls:Value):HO:=.ext fun h=>∃ o,h.get? a=some o/\o.cls=cls
abbrev Cx.tried (X:Cx)(pins:List (Addr×Obj))(xe:Value->Shared->Prop):Cx:={ X with pn:=X.pn++pins,xe:=xe }
abbrev Cx.marked (X:Cx)(a:Addr):Cx:={ X with A:=X.A.mark (some (.ref a)),calm:=false,xe:=fun _ _=>False }
section
variable {X:Cx}{pins pins':List (Addr×Obj)}{σ:St}{H:Hp}{s:Shared}{xe:Value->Shared->Prop}{a:Addr}
theorem Inv.tried (I:Inv X pins σ H s)(xe:Value->Shared->Prop):Inv (X.tried pins xe) [] σ H s :=
 ⟨⟨I.ok.mod,I.ok.kind,I.ok.glob,I.ok.blt,I.ok.above,I.ok.inj,I.ok.has,I.ok.cab,I.ok.hd,I.ok.frames,I.ok.stk,I.ok.exf,I.ok.bs,I.ok.bsz,I.ok.noex,I.ok.exfs,I.ok.funs,I.ok.frf⟩,I.os,I.bare,I.base,I.loc,I.cell,I.free,I.freeC,fun p hp=>I.pin p (by simpa using hp),I.hok,I.len⟩
theorem Inv.untried (I:Inv (X.tried pins xe) pins' σ H s):Inv X pins σ H s :=
 ⟨⟨I.ok.mod,I.ok.kind,I.ok.glob,I.ok.blt,I.ok.above,I.ok.inj,I.ok.has,I.ok.cab,I.ok.hd,I.ok.frames,I.ok.stk,I.ok.exf,I.ok.bs,I.ok.bsz,I.ok.noex,I.ok.exfs,I.ok.funs,I.ok.frf⟩,I.os,I.bare,I.base,I.loc,I.cell,I.free,I.freeC,fun p hp=>I.pin p (ahJ _ hp),I.hok,I.len⟩
theorem SP.untried {D:Ends}{f:Flow}{s':Shared}(h:SP (X.tried pins xe) pins' D f s'):SP X pins D f s':=by
 cases f with
 | next=>obtain⟨σ',H',I,q⟩:=h;exact⟨σ',H',I.untried,q⟩
 | brk=>obtain⟨σ',H',I,q⟩:=h;exact⟨σ',H',I.untried,q⟩
 | cont=>obtain⟨σ',H',I,q⟩:=h;exact⟨σ',H',I.untried,q⟩
 | ret u=>obtain⟨v,σ',H',I,r,q⟩:=h;exact⟨v,σ',H',I.untried,r,q⟩
theorem Inv.marked (I:Inv X pins σ H s)(a:Addr):Inv (X.marked a) pins σ H s :=
 ⟨⟨I.ok.mod,I.ok.kind,I.ok.glob,I.ok.blt,I.ok.above,I.ok.inj,I.ok.has,I.ok.cab,(fun z=>by cases z),I.ok.frames,I.ok.stk,I.ok.exf,I.ok.bs,I.ok.bsz,I.ok.noex,I.ok.exfs,I.ok.funs,I.ok.frf⟩,I.os,I.bare,I.base,I.loc,I.cell,I.free,I.freeC,I.pin,I.hok,I.len⟩
theorem Inv.unmarked (I:Inv (X.marked a) pins σ H s)(hd:X.calm=true->X.A.handled=none):Inv X pins σ H s :=
 ⟨⟨I.ok.mod,I.ok.kind,I.ok.glob,I.ok.blt,I.ok.above,I.ok.inj,I.ok.has,I.ok.cab,hd,I.ok.frames,I.ok.stk,I.ok.exf,I.ok.bs,I.ok.bsz,I.ok.noex,I.ok.exfs,I.ok.funs,I.ok.frf⟩,I.os,I.bare,I.base,I.loc,I.cell,I.free,I.freeC,I.pin,I.hok,I.len⟩
theorem Inv.bend {h':Heap}{t':Nat}{e T:Addr}(I:Inv X pins σ H s)(ne:H e=none)(nT:H T=none)(old:∀ b o,X.s₀.heap.get? b=some o->b ∉ X.ex->b≠e/\b≠T)(pn:∀ p∈X.pn++pins,p.1≠e/\p.1≠T)
 (st:(iZ s.heap (e::T::frs X.stack)).StaysIn h')(kp:∀ b o,s.heap.get? b=some o->(∀ vs,o.data≠.fields vs)->∃ sl,h'.get? b=some { o with slots:=sl }):Inv X pins σ H { s with heap:=h',toks:=t' }:=by
 have hst:=I.stack;have nl:∀ b∈e::T::frs X.stack,H b=none:=fun b hb=>by
  rcases aeu.mp hb with z | hb
  ·rw [z];exact ne
  ·rcases aeu.mp hb with z | hb
   ·rw [z];exact nT
   ·exact I.stkFree b hb
 have inB:∀ b o,s.heap.get? b=some o->b≠e->b≠T->b ∉ frs X.stack->h'.get? b=some o:=fun b o g h1 h2 h3=>st b o (agG _ g fun z=>by
  rcases aeu.mp z with z | z
  ·exact h1 z
  ·rcases aeu.mp z with z | z
   ·exact h2 z
   ·exact h3 z)
 have neL:∀ b o,X.s₀.heap.get? b=some o->b≠X.env.locals:=fun b o e=>aeA (aeB (aes e) I.ok.above);have notF:∀ b,b≠X.env.locals->b ∉ X.fs->b ∉ frs X.stack:=fun b h1 h2 z=>by
  rcases aeu.mp (I.stkSub b z) with z | z
  ·exact h1 z
  ·exact h2 z
 have step:∀ b o,s.heap.get? b=some o->b≠e->b≠T->∃ sl,h'.get? b=some { o with slots:=sl }:=fun b o g h1 h2=>by
  by_cases h3:b∈frs X.stack
  ·exact lP hst kp h3 g
  ·exact⟨o.slots,inB b o g h1 h2 h3⟩
 have cellK:∀ c v,s.heap.IsCell c v->h'.IsCell c v:=fun c v ⟨o,ho,hd⟩=>by
  obtain⟨sl,g⟩:=kp c o ho fun vs z=>by rw [hd] at z;cases z
  exact⟨_,g,hd⟩
 refine⟨I.ok,I.os,I.bare,⟨fun b o g n hf hx=>?_,fun b o g n hf hx=>?_,I.base.free,fun b o g hx=>?_,I.base.tups,I.base.frzs,I.base.tbls⟩,?_,fun x c g=>?_,I.free,I.freeC,fun p hp=>?_,I.hok.left nl st,I.len⟩
 ·obtain⟨h1,h2⟩:=old b o g hx;exact inB b o (I.base.keep b o g n hf hx) h1 h2 (notF b (neL b o g) hf)
 ·obtain⟨h1,h2⟩:=old b o g hx;obtain⟨sl,g'⟩:=I.base.slot b o g n hf hx;obtain⟨sl',g''⟩:=step b _ g' h1 h2;exact⟨sl',g''⟩
 ·obtain⟨h1,h2⟩:=old b o g hx;obtain⟨o',g'⟩:=I.base.there b o g hx;obtain⟨sl',g''⟩:=step b _ g' h1 h2;exact⟨_,g''⟩
 ·obtain⟨m,hn,hl⟩:=I.loc;obtain⟨o,es,ep,ho,r⟩:=id hn;obtain⟨sl,g⟩:=kp X.env.locals o ho fun vs z=>by rw [r.1] at z;cases z
  refine⟨m,⟨_,es,ep,g,r⟩,fun i x v e1 e2 e3=>?_⟩;obtain⟨u,rv,l⟩:=hl i x v e1 e2 e3;refine⟨u,rv,?_⟩;rcases l with l | ⟨k,c,hc,hi⟩
  ·exact .inl l
  ·exact .inr ⟨k,c,hc,cellK c _ hi⟩
 ·obtain⟨v,hv⟩:=I.cell x c g;exact⟨v,cellK c v hv⟩
 ·obtain⟨p1,p2,p3,p4,p5⟩:=I.pin p hp;obtain⟨h1,h2⟩:=pn p hp;exact⟨inB p.1 p.2 p1 h1 h2 (notF p.1 p3 p4),p2,p3,p4,p5⟩
theorem Inv.track {e:Addr}{oe:Obj}(I:Inv X pins σ H s)(ne:H e=none)(ge:s.heap.get? e=some oe)(old:∀ b o,X.s₀.heap.get? b=some o->b ∉ X.ex->b≠e)(pn:∀ p∈X.pn++pins,p.1≠e)(nl:e≠X.env.locals)(nc:∀ x c,X.env.cells.lookup x=some c->c≠e):Inv X pins σ (upd H e (abB e oe.cls)) s:=by
 have up:∀ b u,H b=some u->(upd H e (abB e oe.cls)) b=some u:=fun b u g=>by rw [ak (ar g ne)];exact g
 refine⟨I.ok,I.os,I.bare,⟨I.base.keep,I.base.slot,fun b o g n hx=>?_,I.base.there,fun b xs g=>up _ _ (I.base.tups b xs g),fun b o u g=>up _ _ (I.base.frzs b o u g),fun b ps g=>?_⟩,I.loc,I.cell,?_,fun x c g=>?_,fun p hp=>?_,fun b u g=>?_,I.len⟩
 ·rw [ak (old b o g hx)];exact I.base.free b o g n hx
 ·obtain⟨more,q⟩:=I.base.tbls b ps g;exact⟨more,up _ _ q⟩
 ·rw [ak (afO nl)];exact I.free
 ·rw [ak (nc x c g)];exact I.freeC x c g
 ·obtain⟨p1,p2,p3,p4,p5⟩:=I.pin p hp;exact⟨p1,by rw [ak (pn p hp)];exact p2,p3,p4,p5⟩
 ·by_cases hb:b=e
  ·subst hb;rw [af] at g;cases g;exact⟨⟨oe,ge,rfl⟩,⟨oe,ge⟩,fun h1 h2 ⟨o,g1,g2⟩ k=>⟨o,k o g1,g2⟩⟩
  ·rw [ak hb] at g;exact (I.hok b u g).stay (fun _ _ _ q=>q) (fun c q=>up _ _ q) fun c xs q=>up _ _ q
theorem Inv.goes {i:Nat}{n:Str}{h':Heap}{t':Nat}{v:Option Value}{m:Str->Option Value}(I:Inv X pins σ H s)(hN:X.N.Nodup)(hi:X.N[i]? = some n)(hk:X.env.kindOf n=some .local)(hm:∀ (j:Nat) (x:Str) (v:V),X.N[j]? = some x->σ[j]? = some (some v)->Vis X.env.scope x->∃ u,RelV v u/\adL X.env s.heap m x u)
 (ns:h'.Ns X.env.locals fun x=>if x=n then v else m x)(sb:Heap.SameBut X.env.locals s.heap h')(nsm:s.heap.Ns X.env.locals m):Inv X pins (σ.set i none) H { s with heap:=h',toks:=t' }:=by
 have neL:∀ b o,X.s₀.heap.get? b=some o->b≠X.env.locals:=fun b o e=>aeA (aeB (aes e) I.ok.above);obtain⟨oL,_,_,hoL,_⟩:=id nsm;have cellK:∀ x c v,X.env.cells.lookup x=some c->s.heap.IsCell c v->h'.IsCell c v:=fun x c v hx ⟨o,ho,hd⟩=>⟨o,(sb.2 c (I.cne x c hx)).trans ho,hd⟩;refine⟨I.ok,I.os,I.bare,⟨fun b o g nn hf hx=>(sb.2 b (neL b o g)).trans (I.base.keep b o g nn hf hx),fun b o g nn hf hx=>?_,I.base.free,fun b o g hx=>?_,I.base.tups,I.base.frzs,I.base.tbls⟩,⟨_,ns,fun j x v' e1 e2 e3=>?_⟩,fun x c g=>?_,I.free,I.freeC,fun p hp=>?_,fun b u g=>?_,by simpa using I.len⟩
 ·obtain⟨sl,g'⟩:=I.base.slot b o g nn hf hx;exact⟨sl,(sb.2 b (neL b o g)).trans g'⟩
 ·obtain⟨o',g'⟩:=I.base.there b o g hx;exact⟨o',(sb.2 b (neL b o g)).trans g'⟩
 ·have hj:j≠i:=fun z=>by
   subst z;have hjl:j < σ.length:=by rw [I.len];exact (aek.mp hi).1
   rw [agl hjl] at e2;cases e2
  rw [aha (afO hj)] at e2;obtain⟨u,r,l⟩:=hm j x v' e1 e2 e3;refine⟨u,r,?_⟩;rcases l with ⟨k,q⟩ | ⟨k,c,hc,hi'⟩
  ·refine .inl ⟨k,?_⟩;show (if x=n then v else m x)=some u;rw [if_neg fun z:x=n=>hj (o8 hN e1 (by rw [z];exact hi))];exact q
  ·exact .inr ⟨k,c,hc,cellK x c _ hc hi'⟩
 ·obtain⟨v',hv⟩:=I.cell x c g;exact⟨v',cellK x c v' g hv⟩
 ·obtain⟨p1,p2,p3,p4,p5⟩:=I.pin p hp;exact⟨(sb.2 p.1 p3).trans p1,p2,p3,p4,p5⟩
 ·refine (I.hok b u g).stay (fun c w' hc q=>(sb.2 c fun z=>?_).trans q) (fun _ q=>q) fun _ _ q=>q;have:=I.free;rcases hc with e | e
  ·rw [← z,e,g] at this;cases this
  ·rw [← z,e] at this;cases this
end
def acy (K:PySem.W.Frag)(C:Addr)(cls:Value):Prop:=∃ C1 bm1,cls=.ref C1/\nK K C1 bm1/\(Value.ref C1::bm1).contains (.ref C)=true
def adZ (i:Nat)(M:Value->Prop)(tb:(St->XK)->TS)(th:TS):TS:=fun D σ H=>tb (fun σ' cls _ H'=>M cls/\∀ a,H' a=none->th { nx:=fun σ2 H2=>D.nx (σ2.set i none) H2,rt:=fun _ _=>False } (σ'.set i (some (.ref a))) (upd H' a (abB a cls))) D σ H
theorem jT {h:Heap}{a b:Addr}{f:Obj->Obj}{o:Obj}(ne:b≠a)(g:h.get? b=some o):(h.update a f).get? b=some o:=Heap.get?_update_of_ne f (afO ne) g
theorem abM {X:Cx}{body suite:List Stmt}{b₀:Stmt}{C:Addr}{bm:List Value}{n cx:Str}{i:Nat}{np hpos pos:Pos}{tb:(St->XK)->TS}{th:TS}(hst:X.stack=X.env::X.outer)(hfr:X.env.frame=some X.env.locals)(hg:Gl X cx)(hm:X.mg cx=some (.ref C))(c:nK X.K C bm)(hN:X.N.Nodup)(hi:X.N[i]? = some n)(hk:X.env.kindOf n=some .local)
 (hb:∀ pins xe Eh,(∀ σ H s ev s',Inv X pins σ H s->CXr X.prog X.w X.stack H s (Eh σ) ev s'->xe ev s')->PSs (X.tried pins xe) body (tb Eh))(hsu:∀ a,PSs (X.marked a) (b₀::suite) th)(hdb:(cx == ("__debug__" : Str))=false:=by decide)(hloc:Loc X.env.scope n:=by first | exact .inl rfl | exact .inr rfl)(hfn:X.fn n=true\/X.env.scope.names.lookup n=some .local:=by first | exact .inl rfl | exact .inr rfl | assumption) :
 PS X (.Try body [.ExceptHandler (some (.Name cx np)) (some n) (b₀::suite) hpos] [] [] pos) (adZ i (acy X.K C) tb th):=by
 intro pins s σ H D I h;obtain⟨nm,q,N',bs,bmB,hdct,sn,sub,ab,col,dd,k0,k1,k2,k3,k5,B,Bn,newId,nid,initId,inN,bmN,mN,f1,f2,f3,f4,f5,g⟩:=c.facts;refine wpAny_Try_except ?_;have hand:∀ (σ':St) (H1:Hp) (s1:Shared) (ev:Value) (s2:Shared),Inv X pins σ' H1 s1->CXr X.prog X.w X.stack H1 s1 (fun cls _ H'=>acy X.K C cls/\∀ a,H' a=none->th { nx:=fun σ2 H2=>D.nx (σ2.set i none) H2,rt:=fun _ _=>False } (σ'.set i (some (.ref a))) (upd H' a (abB a cls))) ev s2 →
  wpAny (model X.prog X.w) X.A (noteFrame ev X.env) (fun _ s₂=>wpAny (model X.prog X.w) X.A (setFlight ev none) (fun _ s₃=>wpAny (model X.prog X.w) X.A (handleBy ev X.env [.ExceptHandler (some (.Name cx np)) (some n) (b₀::suite) hpos]) (SP X pins D) X.xe s₃) X.xe s₂) X.xe s2:=by
  intro σ' H1 s1 ev s2 I1 hcx;obtain⟨e,T,cls,a0,H2,rfl,os,bare,un,hok,ex,ge,gT,ne,nT,mm,qq⟩:=hcx;obtain⟨C1,bm1,rfl,c1,hm1⟩:=mm;obtain⟨nm1,q1,N1,bs1,bmB1,hdct1,sn1,sub1,ab1,col1,dd1,j0,j1,j2,j3,j5,B1,Bn1,newId1,nid1,initId1,inN1,bmN1,mN1,_,_,_,_,_,gc1⟩:=c1.facts;have J:Inv X pins σ' H2 s2:=I1.call' os un hok bare (fun b z=>absurd z (by simp));have old:∀ b o,X.s₀.heap.get? b=some o->b ∉ X.ex->b≠e/\b≠T:=fun b o gb hx=>by
   obtain⟨o',g'⟩:=I1.base.there b o gb hx;exact⟨(fun z=>by rw [z,ge] at g';cases g'),(fun z=>by rw [z,gT] at g';cases g')⟩
  have pn:∀ p∈X.pn++pins,p.1≠e/\p.1≠T:=fun p hp=>by
   have g':=(I1.pin p hp).1;exact⟨(fun z=>by rw [z,ge] at g';cases g'),(fun z=>by rw [z,gT] at g';cases g')⟩
  have st:=J.stack;obtain⟨oe,vs,oT,ts,g1,g2,g3,g4,g6,g7,g8,g9⟩:=ex;have frm:X.A.frames=some (X.env::X.outer):=by rw [← hst];exact J.ok.frames
  have sth:s2.heap.FunFrames (iZ s2.heap (e::T::frs X.stack)) (X.env::X.outer):=by
   have:=lj (L:=e::T::frs X.stack) st fun b hb=>aeC _ (aeC _ hb);rw [hst] at this ⊢;exact this
  refine wpAny_noteFrame_onW (base:=iZ s2.heap (e::T::frs X.stack)) (L:=X.env.locals) (outer:=X.outer) frm sth hfr ⟨oe,vs,T,oT,ts,g1,g2,g3,g4,agb _ (aeC _ aev),g6,g7,g8,g9⟩ (fun b o gb=>ahh _ gb) (agb _ aev) fun h' L=>?_;obtain⟨st',fn',⟨oe',vs',T',oT',ts',k1',k2',k3',k4',k5',k6',k7',k8',k9'⟩,kp'⟩:=L;have J2:Inv X pins σ' H2 { s2 with heap:=h' }:=J.bend (t':=s2.toks) ne nT old pn st' kp';have notF:T' ∉ frs X.stack:=fun z=>by
   rw [hst] at z;obtain⟨_,o',e',d⟩:=fn'.mem z;rw [k7'] at e';cases e';exact d _ k8'
  have notIn:∀ b o,s2.heap.get? b=some o->b≠e->b≠T->b≠T':=fun b o gb h1 h2 z=>by
   subst z;have:(iZ s2.heap (e::T::frs X.stack)).get? b=some o:=agG _ gb fun z=>by
    rcases aeu.mp z with z | z
    ·exact h1 z
    ·rcases aeu.mp z with z | z
     ·exact h2 z
     ·exact notF z
   rw [k5'] at this;cases this
  have nT':H2 T'=none:=by
   cases gt:H2 T' with
   | none=>rfl
   | some o =>
    obtain⟨ob,g'⟩:=(J.hok T' o gt).obj;exact absurd rfl (notIn T' ob g' k6' fun z=>by rw [z,nT] at gt;cases gt)
  have old':∀ b o,X.s₀.heap.get? b=some o->b ∉ X.ex->b≠T'/\b≠T':=fun b o gb hx=>by
   obtain⟨o',g'⟩:=J.base.there b o gb hx;have:=notIn b o' g' (old b o gb hx).1 (old b o gb hx).2;exact⟨this,this⟩
  have pn':∀ p∈X.pn++pins,p.1≠T'/\p.1≠T':=fun p hp=>by
   have:=notIn p.1 p.2 (J.pin p hp).1 (pn p hp).1 (pn p hp).2;exact⟨this,this⟩
  have sz:3 < ts'.size:=(afV.mp k9').1;refine wpAny_setFlight_none k1' k3' k4' k7' k8' sz ?_;have flight:∀ (hh:Heap) (t:Nat) (ot:Obj) (tv:Array Value),Inv X pins σ' H2 { s2 with heap:=hh,toks:=t }->hh.get? T'=some ot->ot.data=.fields tv->Inv X pins σ' H2 { s2 with heap:=hh.update T' (Obj.mapFields fun x=>x.setIfInBounds 3 .none),toks:=t }:=fun hh t ot tv IJ gt dt=>by
   refine IJ.bend (t':=t) nT' nT' old' pn' (fun b o gb=>jT (fun z=>?_) (ahh _ gb)) fun b o gb hd=>⟨o.slots,jT (fun z=>?_) gb⟩
   ·have:(iZ hh (T'::T'::frs X.stack)).get? T'=none:=agb _ aev;rw [z] at gb;rw [this] at gb;cases gb
   ·have gb':hh.get? b=some o:=gb;rw [z,gt] at gb';cases gb';exact hd _ dt
  have J3:Inv X pins σ' H2 { s2 with heap:=h'.update T' (Obj.mapFields fun x=>x.setIfInBounds 3 .none) }:=flight h' s2.toks oT' ts' J2 k7' k8';obtain⟨oe3,vs3,oT3,ts3,m1,m2,m3,m4,m5,m6⟩:=marked_update .none k1' k3' k4' k7' k8' k9';have e3:(h'.update T' (Obj.mapFields fun x=>x.setIfInBounds 3 .none)).get? e=some oe':=jT (afO k6') k1';rw [e3] at m1;cases m1;generalize h'.update T' (Obj.mapFields fun x=>x.setIfInBounds 3 .none)=h3 at *;refine wpAny_handleBy_cons ?_ (fun z=>by cases z);refine codeAny_handlers_test (kg (X:=X.marked e) (J3.marked e) hg hm ?_ hdb);refine aa8 (g _ J3.kIn).1 (gc1 _ J3.kIn).1 e3 k2'.1 f4 hm1 ?_;refine codeAny_handlers_suite_as (wpAny_setFlight_none e3 m2 m3 m4 m5 (afV.mp m6).1 ?_);have J4:Inv X pins σ' H2 { s2 with heap:=h3.update T' (Obj.mapFields fun x=>x.setIfInBounds 3 .none) }:=flight h3 s2.toks oT3 ts3 J3 m4 m5;have e4:(h3.update T' (Obj.mapFields fun x=>x.setIfInBounds 3 .none)).get? e=some oe':=jT (afO k6') e3;generalize h3.update T' (Obj.mapFields fun x=>x.setIfInBounds 3 .none)=h4 at *;have eL:e≠X.env.locals:=fun z=>by
   obtain⟨m,⟨o,es,ep,ho,r⟩,_⟩:=J4.loc;have ho':h4.get? X.env.locals=some o:=ho;rw [← z,e4] at ho';cases ho';have:=r.1;rw [k3'] at this;cases this
  have eC:∀ x c,X.env.cells.lookup x=some c->c≠e:=fun x c hc z=>by
   obtain⟨v,o,ho,hd⟩:=J4.cell x c hc;have ho':h4.get? c=some o:=ho;rw [z,e4] at ho';cases ho';rw [k3'] at hd;cases hd
  have J5:Inv X pins σ' (upd H2 e (abB e oe'.cls)) { s2 with heap:=h4 }:=J4.track ne e4 (fun b o gb hx=>(old b o gb hx).1) (fun p hp=>(pn p hp).1) eL eC;rw [k2'.1] at J5;refine jA (X:=X.marked e) (J5.marked e) hN hi hloc (show RelV (.ref e) (.ref e) from rfl) (fun s5 I5 _=>?_) hfn;refine aeV (hsu e pins s5 _ _ _ I5 (qq e ne)) (fun fl s6 x=>?_) fun _ _ z=>z.elim;cases fl with
  | next =>
   obtain⟨σ2,H6,I6,qn⟩:=x;have I6':=I6.unmarked J.ok.hd;obtain⟨m,nsm,hml⟩:=I6'.loc;refine wpAny_nameGoes_keeps hk nsm (by rw [I6'.ok.kind];rfl) fun h7 v ns sb=>?_;exact⟨σ2.set i none,H6,I6'.goes hN hi hk hml ns sb nsm,qn⟩
  | brk=>obtain⟨_,_,_,z⟩:=x;exact z.elim
  | cont=>obtain⟨_,_,_,z⟩:=x;exact z.elim
  | ret u=>obtain⟨_,_,_,_,_,z⟩:=x;exact z.elim
 refine aeV (hb pins _ _ hand [] s σ H D (I.tried _) h) (fun f s1 x=>?_) (fun _ _ x=>x);have x':=SP.untried x;cases f with
 | next=>obtain⟨σ',H',I',q⟩:=x';exact ahi ⟨σ',H',I',q⟩
 | brk=>exact x'
 | cont=>exact x'
 | ret u=>exact x'
section
variable {X:Cx}
def acz (sp:Sp)(dvs:List V)(E:St->XK)(t:TA):TE:=fun σ H Q=>t σ H fun vs H1=>sp (vs++dvs) H1 Q (E σ)
theorem yD {x:Str}{p pos:Pos}{e:Expr}{es:List Expr}{t:TA}{CX:CXT}{k:Nat}{f:Addr}{fd:FuncData}{ps:List Str}{sp:Sp}{ds:List Value}{dvs:List V}{E:St->XK}(F:FnOk X.prog X.w X.K X.mg X.base CX k f fd ps sp)(hr:Room k X.A)(hg:Gl X x)(hm:X.mg x=some (.ref f))(hk:keepIn X.K (.ref f)=true)(hb:Binds X.K fd ps ds)(hd:Vals dvs ds)
 (hx:∀ pins σ H s ev s',Inv X pins σ H s->CX X.stack H s (E σ) ev s'->X.xe ev s')(ha:PA X (e::es) t)(hdb:(x == ("__debug__" : Str))=false:=by decide)(he:starEach (e::es) X.env=(false,eval e X.env)::starEach es X.env:=by rfl)(hpl:(backTo pos (starEach es X.env)).any (·.1)=false:=by rfl) :
 PE X (.Call (.Name x p) (e::es) [] pos) (acz sp dvs E t):=by
 intro pins s σ H Q I h;refine agX (kg I hg hm ?_ hdb);refine ahj (h₀:=X.base) I.ok.mod.kin hk (thn (ha pos pins s σ H _ I h) fun us s1 ⟨vs,H1,I1,r,q⟩=>⟨I1.kIn,?_⟩) he hpl;have r2:Vals (vs++dvs) (us++ds):=r.append hd;have hl:(us++ds).length=ps.length:=by rw [← r2.length];exact F.len _ _ _ _ q
 refine wpAny_call (agr (F.run X.A X.stack s1 H1 ⟨us,[]⟩ (us++ds) (vs++dvs) Q (E σ) hr I1.env0 (hb s1 us I1.kIn hl) r2 q) fun r s' hq=>?_);cases r with
 | error e=>exact hx pins σ H1 s1 e s' I1 hq
 | ok fl =>
  cases fl with
  | ret u=>exact I1.after hq
  | next=>exact False.elim hq
  | brk=>exact False.elim hq
  | cont=>exact False.elim hq
end
section
variable {P:Program}{w:World}{K:PySem.W.Frag}{mg:Str->Option Value}{base:Heap}
theorem Fun.okR {x qual:Str}{st:Stmt}{f:Addr}{fd:FuncData}{N ps:List Str}{k:Nat}{sp:Sp}(F:Fun K x qual st f fd)(S:az N ps (ai st))(len:∀ vs H Q E,sp vs H Q E->vs.length=ps.length)
 (hbody:∀ (cdv:Value) (A:Around) (outer:List Env) (s:Shared) (H:Hp) (vs:List V) (Q:VK) (E:XK),Room k (A.deeper (envOfC qual (ai st) s.heap.objs.size f cdv))->sp vs H Q E →
  ∃ t,PSs (rh (CXr P w) P w K mg base N qual (ai st) f cdv A outer s H E) (bZ st) t/\t { nx:=fun _ H'=>Q .non H',rt:=Q } (nr N vs) H):FnOk P w K mg base (CXr P w) (k+1) f fd ps sp:=by
 obtain⟨oc,od,kV,doc,pm,an,cdv,ct,osl,rfl,lk,hcd⟩:=F.ex;exact aax lk hcd S len fun A outer s H vs Q E hr hsp=>hbody cdv A outer s H vs Q E hr hsp
end
section
variable {X:Cx}
end
end L2
namespace K7
open PySem L2 PyProof.Rows
structure FunD (K:PySem.W.Frag)(x qual:Str)(st:Stmt)(T f:Addr)(fd:FuncData):Prop where
 ex:∃ (oc:Value) (od:Option Addr) (kV doc pm:Value) (an:Option Addr) (cdv ct:Value) (osl:Array (Option Value)),
  fd=fnOf x qual (gc st) (bZ st) (ai st) (.ref T) kV doc pm an cdv ct/\K.lookup f=some ⟨oc,od,.func fd,osl⟩/\codeIn K cdv qual=true
 kp:keepIn K (.ref f)=true
theorem FunD.ok {P:Program}{w:World}{K:PySem.W.Frag}{mg:Str->Option Value}{base:Heap}{x qual:Str}{st:Stmt}{T f:Addr}{fd:FuncData}{N ps:List Str}{k:Nat}{sp:Sp}(F:FunD K x qual st T f fd)(S:az N ps (ai st))(len:∀ vs H Q E,sp vs H Q E->vs.length=ps.length)
 (hbody:∀ (cdv:Value) (A:Around) (outer:List Env) (s:Shared) (H:Hp) (vs:List V) (Q:VK) (E:XK),Room k (A.deeper (envOfC qual (ai st) s.heap.objs.size f cdv))->sp vs H Q E →
  ∃ t,PSs (rh CX0 P w K mg base N qual (ai st) f cdv A outer s H E).nox (bZ st) t/\t { nx:=fun _ H'=>Q .non H',rt:=Q } (nr N vs) H):FnOk P w K mg base CX0 (k+1) f fd ps sp:=by
 obtain⟨oc,od,kV,doc,pm,an,cdv,ct,osl,rfl,lk,hcd⟩:=F.ex;refine aax lk hcd S len fun A outer s H vs Q E hr hsp=>?_;obtain⟨t,h,q⟩:=hbody cdv A outer s H vs Q E hr hsp;exact⟨t,h.nox,q⟩
theorem fund_mk {K:PySem.W.Frag}{x qual:Str}{st:Stmt}{T f:Addr}{oc:Value}{od an:Option Addr}{osl:Array (Option Value)}{kV doc pm cdv ct:Value}(l:K.lookup f=some ⟨oc,od,.func (fnOf x qual (gc st) (bZ st) (ai st) (.ref T) kV doc pm an cdv ct),osl⟩)
 (c:codeIn K cdv qual=true)(k:keepIn K (.ref f)=true):FunD K x qual st T f (fnOf x qual (gc st) (bZ st) (ai st) (.ref T) kV doc pm an cdv ct):=⟨⟨oc,od,kV,doc,pm,an,cdv,ct,osl,rfl,l,c⟩,k⟩
end K7
namespace L2
open PySem PySem.Spec PyProof.Rows
section
variable {X:Cx}
end
section
variable {prog:Program}{w:World}{A:Around}{E:Value->Shared->Prop}{h:Heap}{g:Array GenState}{d:Drawn}{t:Nat}{os:OsState}{nm q:Str}{C N:Addr}{bs bm bmB bmN:List Value}{hdct:Bool}{sn:List Str}{sub:List Value}{ab:Bool}{col:Option Bool}{dd:Option Addr}{k0 k1 k2 k3 k5:Option Value}{B Bn newId nid initId inN:String}{mN:Str->Option Value}{rest:List Value}{fI:Addr}{oI:Obj}
end
section
variable {prog:Program}{w:World}{A:Around}{E:Value->Shared->Prop}{s:Shared}{K:PySem.W.Frag}{e C:Addr}{oe:Obj}{nm q:Str}{N:Addr}{bs bm:List Value}{sn:List Str}{sub:List Value}{ab:Bool}{col:Option Bool}{dd:Option Addr}{k0 k1 k2 k3 k5:Option Value}{newId:String}{name:Str}{v:Value}
end
section
variable {X:Cx}{C f:Addr}{bm:List Value}
end
section
variable {X:Cx}{pins:List (Addr×Obj)}{σ:St}{H:Hp}{s:Shared}
end
section
variable {P:Program}{w:World}{K:PySem.W.Frag}{mg:Str->Option Value}{base:Heap}{N:List Str}{qual:Str}{scope:Scope}{f:Addr}{cd:Value}{A:Around}{outer:List Env}{s:Shared}{H:Hp}{E1:XK}
end
section
variable {X:Cx}{d:Addr}{kvs:List (Key×V)}
end
def leS (a b:Str):Prop:=ltCps b.cps.toList a.cps.toList=false
theorem leS_iff {a b:Str}:leS a b↔a.cps.toList<=b.cps.toList:=by
 unfold leS;rw [ltCps_eq];constructor
 ·intro h;exact List.not_lt.mp (of_decide_eq_false h)
 ·intro h;exact aeO (List.not_lt.mpr h)
theorem qj {a b:Str}(h1:leS a b)(h2:leS b a):a=b:=by
 have e:=List.le_antisymm (leS_iff.mp h1) (leS_iff.mp h2);cases a;cases b;simp only at e;rw [Str.mk.injEq];exact Array.toList_inj.mp e
theorem xH {a b c:Str}(h1:leS a b)(h2:leS b c):leS a c:=leS_iff.mpr (List.le_trans (leS_iff.mp h1) (leS_iff.mp h2))
theorem mL:∀ {l:List Str} {p:Str},risingS p l=true->(∀ x∈l,leS p x)/\l.Pairwise leS
 | [],p,_=>⟨(fun x hx=>nomatch hx),List.Pairwise.nil⟩
 | y::r,p,h=>by
  have h':(!ltCps y.cps.toList p.cps.toList && risingS y r)=true:=h;rw [ae2,ain] at h';obtain⟨i1,i2⟩:=mL h'.2;have py:leS p y:=h'.1;refine⟨fun x hx=>?_,List.Pairwise.cons i1 i2⟩;rcases aeu.mp hx with rfl | hx
  ·exact py
  ·exact xH py (i1 x hx)
theorem dZ:∀ {l:List Str},sortedS l=true->l.Pairwise leS
 | [],_=>List.Pairwise.nil
 | _::_,h=>let ⟨a,b⟩:=mL h;List.Pairwise.cons a b
theorem nZ:∀ {l1 l2:List Str},l1.Pairwise leS->l2.Pairwise leS->l1.Perm l2->l1=l2
 | [],l2,_,_,p=>(List.nil_perm.mp p).symm▸rfl
 | a::r,[],_,_,p=>absurd p.length_eq (by simp)
 | a::r,b::t,h1,h2,p=>by
  have ab:leS a b:=by
   rcases aeu.mp (p.mem_iff.mpr aev:b∈a::r) with e | hb
   ·subst e;exact leS_iff.mpr (List.le_refl _)
   ·exact (afa.mp h1).1 b hb
  have ba:leS b a:=by
   rcases aeu.mp (p.mem_iff.mp aev:a∈b::t) with e | ha
   ·subst e;exact leS_iff.mpr (List.le_refl _)
   ·exact (afa.mp h2).1 a ha
  have e:=qj ab ba;subst e;rw [nZ (afa.mp h1).2 (afa.mp h2).2 p.cons_inv]
section
variable {M:Model}{A:Around}{E:Value->Shared->Prop}{s:Shared}
theorem oG {src:Source}{n:Nat}{Q:Nat->Shared->Prop}(hn:n≠0)(h:∀ i,i < n->Q i { s with drawn:=s.drawn.bump src }):wpAny M A (choose src n) Q E s:=fun _ _ _ =>
 ⟨hn,h _ (Nat.mod_lt _ (Nat.pos_of_ne_zero hn))⟩
theorem gx {α:Type}:∀ (xs:List α) (i:Nat) (x:α),xs[i]? = some x->(x::xs.eraseIdx i).Perm xs
 | [],_,_,h=>by simp at h
 | y::r,0,x,h=>by simp at h;subst h;exact .rfl
 | y::r,i+1,x,h=>by
  have h':r[i]? = some x:=by simpa using h
  rw [agL];exact (List.Perm.swap y x _).trans ((gx r i x h').cons y)
theorem iu {α:Type}:∀ (n:Nat) (xs:List α) (s:Shared) (Q:List α->Shared->Prop),xs.length=n->(∀ ys d,ys.Perm xs->Q ys { s with drawn:=d })->wpAny M A (drawOrder n xs) Q E s
 | 0,xs,s,Q,hl,h=>by
  have e:xs=[]:=ahm.mp hl;subst e;unfold drawOrder;exact aen (h [] s.drawn .rfl)
 | n+1,[],s,Q,hl,h=>by simp at hl
 | n+1,y::r,s,Q,hl,h=>by
  unfold drawOrder;refine aei (oG (by simp) fun i hi=>?_);have hx:(y::r)[i]? = some (y::r)[i]:=aeh hi;rw [hx];dsimp only;refine aei (iu n _ _ _ (by rw [ah3 hi];simpa using hl) fun ys d p=>?_);exact aen (h _ d ((p.cons _).trans (gx _ i _ hx)))
theorem lW {α:Type}(next:Nat->Nat):∀ (fuel k:Nat) (left:List α) (out:Array α),left.length=fuel->(pickOrder.go next fuel k left out).toList.Perm (out.toList++left)
 | 0,k,left,out,h=>by
  have e:left=[]:=ahm.mp h;subst e;unfold pickOrder.go;simp
 | fuel+1,k,left,out,h=>by
  unfold pickOrder.go;have hp:0 < left.length:=by lia
  have hi:next k % left.length < left.length:=Nat.mod_lt _ hp
  rw [aeh hi];dsimp only;refine (lW next fuel (k+1) _ _ (by rw [ah3 hi];lia)).trans ?_;rw [ahu,aet];exact (gx left _ _ (aeh hi)).append_left _
theorem i7 {α:Type}(next:Nat->Nat)(xs:Array α):(pickOrder next xs).toList.Perm xs.toList:=by
 unfold pickOrder;simpa using lW next xs.size 0 xs.toList #[] (by simp)
end
theorem uU (t:SetTable)(es:Array (Int×Value))(h:Int)(x:Value):(layNew t es h x).2.1.led=t.led:=by
 unfold layNew;split
 ·dsimp only;unfold SetTable.orStandIn;split<;>rfl
 ·rfl
theorem qy (t:SetTable)(es:Array (Int×Value))(n:Nat):(relayAll t es n).2.1.led=t.led:=by
 unfold relayAll;split
 ·rename_i t' order e;have e2:t'.led=t.led:=by
   unfold SetTable.relaid SetTable.laid at e;simp only [Option.bind_eq_bind,aiA] at e;obtain⟨ow,_,e⟩:=e;simp only [Option.pure_def,Option.some.injEq,Prod.mk.injEq] at e;rw [← e.1]
  dsimp only;split
  ·exact e2
  ·rfl
 ·rfl
theorem nH (t:SetTable)(es:Array (Int×Value))(n:Nat)(h:t.plain=false):(relayAll t es n).2.1.plain=false:=by
 unfold relayAll;split
 ·rename_i t' order e;have e2:t'.plain=t.plain:=by
   unfold SetTable.relaid SetTable.laid at e;simp only [Option.bind_eq_bind,aiA] at e;obtain⟨ow,_,e⟩:=e;simp only [Option.pure_def,Option.some.injEq,Prod.mk.injEq] at e;rw [← e.1]
  dsimp only;split
  ·rw [e2];exact h
  ·rfl
 ·rfl
structure TxAt (prog:Program)(w:World)(h:Heap)(a:Addr)(es:Array (Int×Value))(ep:Nat)(t:SetTable):Prop where
 get:h.get? a=some { cls:=.type "set",dict:=none,data:=.set es ep t,slots:=#[] }
 el:ElemsOf (PySem.strKind prog w) es.toList
 bd:es.size < scanBound
 fit:t.fits es.size=true
 led:t.led=!w.params.followText "set-order"
 pl:t.plain=false\/es=#[]
def wb (es:Array (Int×Value)):List Str:=es.toList.map fun e=>strOf e.2
def TxSet (prog:Program)(w:World)(h:Heap)(a:Addr)(ss:List Str):Prop:=∃ es ep t,TxAt prog w h a es ep t/\wb es=ss/\ss.Nodup
section
variable {prog:Program}{w:World}{h h':Heap}{a:Addr}{es:Array (Int×Value)}{ep:Nat}{t:SetTable}{ss:List Str}
theorem TxAt.at' (x:TxAt prog w h a es ep t)(k:∀ o,h.get? a=some o->h'.get? a=some o):TxAt prog w h' a es ep t:=⟨k _ x.get,x.el,x.bd,x.fit,x.led,x.pl⟩
theorem TxSet.at' (x:TxSet prog w h a ss)(k:∀ o,h.get? a=some o->h'.get? a=some o):TxSet prog w h' a ss:=let ⟨es,ep,t,y,r⟩:=x;⟨es,ep,t,y.at' k,r⟩
theorem xo {l:List (Int×Value)}(h:ElemsOf (PySem.strKind prog w) l){e:Int×Value}(he:e∈l):∃ tk,e=(hashStr w (strOf e.2),.str (strOf e.2) tk):=by
 obtain⟨⟨k,hk,hh⟩,_⟩:=h e he;obtain⟨tk,e2⟩:=ahN hk;obtain⟨e1,v⟩:=e;simp only at e2 hh;subst e2;exact⟨tk,by rw [hh];rfl⟩
theorem rp {k:Str}{v:Value}{x:Str}{tk:Tok}(e:v=.str x tk):(PySem.strKind prog w).is k v=true↔k=x:=by
 subst e;constructor
 ·intro h;have h':Value.isStrOf k (.str x tk)=true:=h;obtain⟨u,e⟩:=ahN h';injection e with e
  exact e.symm
 ·intro h;subst h;show Value.isStrOf k (.str k tk)=true;simp [Value.isStrOf]
theorem aak {l:List (Int×Value)}(h:ElemsOf (PySem.strKind prog w) l)(k:Str):k∈l.map (fun e=>strOf e.2)↔∃ e∈l,(PySem.strKind prog w).is k e.2=true:=by
 rw [aeL];constructor
 ·rintro⟨e,he,rfl⟩;obtain⟨tk,e2⟩:=xo h he;exact⟨e,he,(rp (by rw [e2];rfl)).mpr rfl⟩
 ·rintro⟨e,he,hk⟩;obtain⟨tk,e2⟩:=xo h he;exact⟨e,he,((rp (x:=strOf e.2) (tk:=tk) (by rw [e2];rfl)).mp hk).symm⟩
theorem TxSet.setOf (x:TxSet prog w h a ss):h.SetOf (PySem.strKind prog w) a (fun k=>decide (k∈ss)) ss.length:=by
 obtain⟨es,ep,t,y,e,n⟩:=x;subst e;refine⟨_,es,ep,t,y.get,⟨rfl,rfl,rfl⟩,rfl,y.el,fun k=>?_,y.bd,y.fit,by simp [wb]⟩;rw [age];exact aak y.el k
section
variable {A:Around}{E:Value->Shared->Prop}{s:Shared}
theorem iW {g:Bool->Sem Unit}(hg:∀ (b:Bool) (s₁:Shared) (Q':Unit->Shared->Prop),Q' () s₁->wpAny (model prog w) A (g b) Q' E s₁)
 (ho:s.heap.get? a=some { cls:=.type "set",dict:=none,data:=.set es ep t,slots:=#[] })
 {es1:Array (Int×Value)}{t2:SetTable}(hel1:ElemsOf (PySem.strKind prog w) es1.toList)
 (hb1:es1.size < scanBound)(hf2:t2.fits es1.size=true)(hl2:t2.led=!w.params.followText "set-order")(hp2:t2.plain=false){wasDummy:Bool}{R:Option Bool->Shared->Prop}
 (h:∀ h' es' ep' t',Heap.SameBut a s.heap h'->TxAt prog w h' a es' ep' t'->es'.toList.Perm es1.toList->R (some true) { s with heap:=h' }) :
 wpAny (model prog w) A (do
  storeSet a es1 t2
  if (!wasDummy && t2.tooFull)=true then do
   g (relayAll t2 es1 (SetTable.grown es1.size)).2.2
   storeSet a (relayAll t2 es1 (SetTable.grown es1.size)).1 (relayAll t2 es1 (SetTable.grown es1.size)).2.1
   pure (some true)
   else pure (some true)) R E s:=by
 refine aei (wpAny_storeSet_of ho rfl ?_ (ahv hb1));have up:∀ {h0:Heap} {es0:Array (Int×Value)} {ep0:Nat} {t0:SetTable} (es':Array (Int×Value)) (t':SetTable),h0.get? a=some { cls:=.type "set",dict:=none,data:=.set es0 ep0 t0,slots:=#[] }->(h0.update a (Obj.putSet es' t')).get? a=some { cls:=.type "set",dict:=none,data:=.set es' (ep0+1) t',slots:=#[] }:=fun es' t' q=>by
  have:=af2 (Obj.putSet es' t') q (by rw [putSet_of es' t' rfl];rfl);rw [putSet_of es' t' rfl] at this;exact this
 have ho1:=up es1 t2 ho;have hsb1:=agM s.heap a (Obj.putSet es1 t2);split
 ·have hp:=relayAll_perm t2 es1 (SetTable.grown es1.size);have hfr:=relayAll_fits t2 es1 (SetTable.grown es1.size);have hlr:=qy t2 es1 (SetTable.grown es1.size);have hpr:=nH t2 es1 (SetTable.grown es1.size) hp2;generalize hRl:relayAll t2 es1 (SetTable.grown es1.size)=Rl at hp hfr hlr hpr ⊢;obtain⟨es2,t3,gave2⟩:=Rl;dsimp only at hp hfr hlr hpr ⊢;have hsz:es2.size=es1.size:=by rw [← aeE,hp.length_eq,aeE]
  have hb2:es2.size < scanBound:=by rw [hsz];exact hb1
  refine aei (hg _ _ _ ?_);refine aei (wpAny_storeSet_of ho1 rfl ?_ (ahv hb2));exact aen (h _ es2 _ t3 (hsb1.trans (agM _ a _)) ⟨up es2 t3 ho1,hel1.perm hp,hb2,hfr,hlr.trans hl2,.inl hpr⟩ hp)
 ·exact aen (h _ es1 _ t2 hsb1 ⟨ho1,hel1,hb1,hf2,hl2,.inl hp2⟩ .rfl)
theorem lQ {α:Type}{l:List α}{x:α}{l':List α}(hn:l.Nodup)(hx:x ∉ l)(p:l'.Perm (l++[x])):l'.Nodup:=by
 refine p.nodup_iff.mpr ?_;rw [afK];refine⟨hn,by simp,fun a ha b hb e=>?_⟩;rw [aeq.mp hb] at e;exact hx (e▸ha)
theorem i5 {x:Str}{tk:Tok}{Q:Bool->Shared->Prop}(hS:TxSet prog w s.heap a ss)(hroom:ss.length+1 < scanBound)
 (h:∀ h' ss',Heap.SameBut a s.heap h'->TxSet prog w h' a ss'->((x∈ss/\ss'=ss)\/(x ∉ ss/\ss'.Perm (ss++[x])))->Q (!decide (x∈ss)) { s with heap:=h' }) :
 wpAny (model prog w) A (setAddHashed a (.str x tk) (hashStr w x)) Q E s:=by
 obtain⟨es,ep,t,T,e,nd⟩:=hS;subst e;have hkey:(PySem.strKind prog w).is x (.str x tk)=true:=(rp rfl).mpr rfl;have hsc:(Value.str x tk).scannable=true:=rfl;have hb1:es.size+1 < scanBound:=by simpa [wb] using hroom
 have hmem:=aak T.el x;unfold setAddHashed setAddHashedIn;refine afd (aei (agA T.get rfl T.fit ?_));dsimp only;rw [byScan_of hsc T.bd T.el];simp only [↓reduceIte];unfold setAddByScan;refine aei ?_;refine aei (afY ?_);refine aei (wpAny_setScan_of (knd:=PySem.strKind prog w) hkey T.get rfl T.fit T.el ?_);cases hr:List.findIdx? (fun e=>(PySem.strKind prog w).is x e.2) es.toList with
 | some j =>
  dsimp only;obtain⟨hj,hpj,_⟩:=List.findIdx?_eq_some_iff_getElem.mp hr;have hx:x∈wb es:=hmem.mpr ⟨es.toList[j],aeS hj,hpj⟩;refine aen (aen ?_);have q:=h s.heap (wb es) (aio a s.heap) ⟨es,ep,t,T,rfl,nd⟩ (.inl ⟨hx,rfl⟩);rw [aeP hx] at q;exact q
 | none =>
  dsimp only;have hx:x ∉ wb es:=fun hk=>by
   obtain⟨e,he,hp⟩:=hmem.mp hk;have:=List.findIdx?_eq_none_iff.mp hr e he;rw [hp] at this;exact Bool.noConfusion this
  have hgw:∀ (b:Bool) {s₁:Shared} {Q':Unit->Shared->Prop},Q' () s₁->wpAny (model prog w) A (match b with | true=>rule "set.scan.the-table-gave-way" | false=>pure ()) Q' E s₁ :=
   fun b s₁ Q' hq=>by cases b<;>first | exact aen hq | exact afY hq
  have hperm:=layNew_perm t es (hashStr w x) (.str x tk);have hfits:=layNew_fits t es (hashStr w x) (.str x tk);have hled:=uU t es (hashStr w x) (.str x tk);generalize hL:layNew t es ((PySem.strKind prog w).hash x) (.str x tk)=L;have hL':layNew t es (hashStr w x) (.str x tk)=L:=hL;rw [hL'] at hperm hfits hled ⊢;obtain⟨es1,t1,wasDummy,gave⟩:=L;dsimp only at hperm hfits hled ⊢;rw [ahu] at hperm;have hel1:ElemsOf (PySem.strKind prog w) es1.toList:=(T.el.push hkey hsc).perm hperm;have hb1':es1.size < scanBound:=by rw [← aeE,hperm.length_eq,aeo,aeE];simpa using hb1
  refine aei (hgw _ ?_);have hend:∀ h' es' ep' t',Heap.SameBut a s.heap h'->TxAt prog w h' a es' ep' t'->es'.toList.Perm es1.toList->Q true { s with heap:=h' }:=by
   intro h' es' ep' t' hsb T' p';have p2:(wb es').Perm (wb es++[x]):=by
    have:=(p'.trans hperm).map (fun e=>strOf e.2);simpa [wb,strOf] using this
   have q:=h h' (wb es') hsb ⟨es',ep',t',T',rfl,lQ nd hx p2⟩ (.inr ⟨hx,p2⟩);rw [aeO hx] at q;exact q
  split
  ·refine aei ?_;rw [hashByValue_scannable 8 hsc];refine aen ?_;refine iW ?_ T.get hel1 hb1' ?_ ?_ ?_ ?_
   ·intro b s₁ Q' hq;cases b<;>first | exact aen hq | exact afY hq
   ·exact SetTable.fits_plain_off hfits
   ·exact hled.trans T.led
   ·rfl
   ·intro h' es' ep' t' hsb T' p';dsimp only;exact aen (hend h' es' ep' t' hsb T' p')
  ·rename_i hpl;refine aei (aen ?_);simp only [↓reduceIte];refine iW ?_ T.get hel1 hb1' hfits (hled.trans T.led) (by simpa using hpl) ?_
   ·intro b s₁ Q' hq;cases b<;>first | exact aen hq | exact afY hq
   ·intro h' es' ep' t' hsb T' p';dsimp only;exact aen (hend h' es' ep' t' hsb T' p')
end
end
theorem nF:entryFor table "set.__iter__" = some Builtin.«frozenset.__iter__» :=
 entryFor_alias (id' := "frozenset.__iter__") (by kernel_rfl) rfl (by decide +kernel) (by kernel_rfl)
theorem slot_si_next:Slot "set_iterator" "__next__" "set_iterator.__next__" :=
 .of (owner := "set_iterator") (n := "__next__") (by rw [typeLookup_type,builtinLookup_eq_fast];kernel_rfl) (by decide +kernel) (by decide +kernel) (by decide +kernel)
  (by first | exact .inl (by decide +kernel) | exact .inr (by decide +kernel)) (by rw [isSubtype_type];kernel_rfl)
theorem o4:entryFor table "set_iterator.__next__" = some Builtin.«set_iterator.__next__»:=entryFor_of_tree (by kernel_rfl)
theorem um:Manifest.owners.lookup (String.ofList ['r','o','t','a','r','e','t','i','_','t','e','s'].reverse)=some Manifest.sig_set_iterator:=by kernel_rfl
theorem qW (a:Value):argsOk "set_iterator.__next__" ⟨[a],[]⟩:=by
 unfold argsOk;rw [signature?_of (id := "set_iterator.__next__") (n:=['_','_','t','x','e','n','_','_']) (o:=['r','o','t','a','r','e','t','i','_','t','e','s']) (by kernel_rfl) um];kernel_rfl
theorem kL:Slot "set_iterator" "__iter__" "set_iterator.__iter__" :=
 .of (owner := "set_iterator") (n := "__iter__") (by rw [typeLookup_type,builtinLookup_eq_fast];kernel_rfl) (by decide +kernel) (by decide +kernel) (by decide +kernel)
  (by first | exact .inl (by decide +kernel) | exact .inr (by decide +kernel)) (by rw [isSubtype_type];kernel_rfl)
theorem pC:entryFor table "set_iterator.__iter__" = some Builtin.«dict_keyiterator.__iter__» :=
 entryFor_alias (id' := "dict_keyiterator.__iter__") (by kernel_rfl) rfl (by decide +kernel) (by kernel_rfl)
theorem qV (a:Value):argsOk "set_iterator.__iter__" ⟨[a],[]⟩:=by
 unfold argsOk;rw [signature?_of (id := "set_iterator.__iter__") (n:=['_','_','r','e','t','i','_','_']) (o:=['r','o','t','a','r','e','t','i','_','t','e','s']) (by kernel_rfl) um];kernel_rfl
def SIter (h:Heap)(it a:Addr)(first:Value)(i n ep:Nat):Prop :=
 ∃ o,h.get? it=some o/\o.cls=.type "set_iterator" ∧ o.data=.fields #[first,.int i 0,.ref a,.int n 0,.int ep 0]
theorem SIter.typeIs {s:Shared}{it a:Addr}{first:Value}{i n ep:Nat}(x:SIter s.heap it a first i n ep):s.TypeIs (.ref it) "set_iterator" := let ⟨o,ho,hc,_⟩:=x;⟨o,ho,hc⟩
theorem SIter.at' {h h':Heap}{it a:Addr}{first:Value}{i n ep:Nat}(x:SIter h it a first i n ep)(k:∀ o,h.get? it=some o->h'.get? it=some o):SIter h' it a first i n ep:=let ⟨o,ho,r⟩:=x;⟨o,k _ ho,r⟩
section
variable {prog:Program}{w:World}{A:Around}{E:Value->Shared->Prop}{s:Shared}{a I:Addr}{es:Array (Int×Value)}{ep:Nat}{t:SetTable}
def bX (w:World)(es:Array (Int×Value))(t:SetTable)(T:Addr)(i:Nat):Value :=
 if w.params.followText "set-order" = true then .int 0 0 else if es.size > 1 then .ref T else if i=0 then .int 0 0 else .int ((t.place.getD 0 0+1:Nat):Int) 0
def fu (w:World)(a:Addr)(es:Array (Int×Value))(ep:Nat)(ps:List Nat):List (Int×Value) :=
 if w.params.followText "set-order" = true then (pickOrder (w.params.setOrder a ep) es).toList else if es.size > 1 then ps.filterMap fun p=>es[p]? else es.toList
structure SSt (prog:Program)(w:World)(a I T:Addr)(es:Array (Int×Value))(ep:Nat)(t:SetTable)(ps:List Nat)(i:Nat)(h:Heap):Prop where
 set:TxAt prog w h a es ep t
 it:SIter h I a (bX w es t T i) i es.size ep
 tup:w.params.followText "set-order" = false->es.size > 1->IsTup h T (ps.map fun (p:Nat)=>Value.int p 0).toArray
theorem ky (es:Array (Int×Value)){ps:List Nat}(h:ps.Perm (List.range es.size)):(ps.filterMap fun p=>es[p]?).Perm es.toList:=by
 have:=h.filterMap fun p=>es[p]?
 rwa [filterMap_getElem?_range] at this
theorem kJ (es:Array (Int×Value)):∀ (ps:List Nat),(∀ p∈ps,p < es.size)->∀ i:Nat,(ps.filterMap fun p=>es[p]?)[i]? = (ps[i]?).bind fun p=>es[p]?
 | [],_,i=>by simp
 | p::r,h,i=>by
  have hp:p < es.size:=h p aev;rw [List.filterMap_cons_some (b:=es[p]) (by simp [hp])];cases i with
  | zero=>simp [hp]
  | succ i =>
   rw [agN,agN];exact kJ es r (fun q hq=>h q (aeC _ hq)) i
theorem xr (j k:Nat)(hk:k<=j):SetTable.below #[j] k=0:=by
 unfold SetTable.below;simp only [aeH,aeU,ahl,ahA];unfold SetTable.below.go;rw [if_pos (by decide:0 < 1)];simp only;have:(0+1) / 2=0:=by decide
 rw [this];have e:(#[j]:Array Nat).getD 0 k=j:=rfl;rw [e,if_neg (by lia)]
 rfl
theorem vt (j:Nat):SetTable.below #[j] (j+1)=1:=by
 unfold SetTable.below;simp only [aeH,aeU,ahl,ahA];unfold SetTable.below.go;rw [if_pos (by decide:0 < 1)];simp only;have:(0+1) / 2=0:=by decide
 rw [this];have e:(#[j]:Array Nat).getD 0 (j+1)=j:=rfl;rw [e,if_pos (by lia)]
 rfl
theorem xX (k:Nat):SetTable.below #[] k=0:=rfl
theorem zu {Q:Option Value->Shared->Prop}{s₁:Shared}(hh:A.handled=none)(hQ:∀ h',(∀ b o,s₁.heap.get? b=some o->h'.get? b=some o)->Q none { s₁ with heap:=h' }) :
 wpAny (model prog w) A.in1 (do raiseNew (← newExc (.type "StopIteration") [])) (fun fin s'=>∃ r,fin=Fin.done (.ret r)/\wpAny (model prog w) A (match Except.ok (ε:=Value) (some r) with | .ok (some v)=>pure (some v) | .ok none=>unsupported "x" | .error e=>throw e) Q E s')
  (fun e s'=>wpAny (model prog w) A (do if ← isInstance e (.type "StopIteration") then pure none else throw e) Q E s') s₁:=by
 refine aei ?_;simp only [newExc,newTuple];refine aei (afJ ?_ (by size_fits));refine aei (m:=firstArgMember _ _) (wpAny_of_eq (a:=Value.none) (by first | rfl | (simp only [firstArgMember];rfl)) ?_);refine afJ ?_ (by size_fits);simp only [raiseNew];refine aei (wpAny_handled ?_);rw [show A.in1.handled=none from hh];refine aei (aen (wpAny_throw ?_));refine aei (wpAny_isInstance (T := "StopIteration") (b:=true) ⟨_,aeF _ rfl,rfl⟩ isSubtype_stop ?_);exact aen (hQ _ fun b o e=>ael _ (ael _ e))
end
def gX (es:Array (Int×Value))(t:SetTable)(slot:Nat):Option (Value×Nat) :=
 match es[SetTable.below t.place slot]?,t.place[SetTable.below t.place slot]? with
  | some (_,x),some j=>some (x,j+1)
  | _,_=>none
def aaP (b:Bool):Sem Unit:=do
 if b then unsupported "set:maker-not-led"
theorem rD (a:Addr):setDrawn a=(do
 let (es,_,t) ← setState a
 let byText ← setsByText
 return !byText && (!t.plain && decide (es.size > 1))):=rfl
theorem vc (a:Addr):setWalk a=(do
 let (es,epoch,t) ← setState a
 if ← setsByText then return pickOrder ((← ask).params.setOrder a epoch) es
 if (!t.plain && decide (es.size > 1)) then return (← drawOrder es.size es.toList).toArray
 aaP (!t.led && decide (es.size > 1)) >>= fun _=>pure es):=rfl
theorem nM (a:Addr)(slot given epochThen:Nat):setNext a slot given epochThen=(do
 let (es,epoch,t) ← setState a
 if ← setsByText then
  if epoch != epochThen then unsupported "set_iterator.__next__:elements-changed"
  return ((← setWalk a)[given]?).map fun e=>(e.2,slot)
 if (!t.plain && decide (es.size > 1)) then unsupported "set_iterator.__next__:the-table-is-plain-no-more"
 aaP (!t.led && !es.isEmpty) >>= fun _=>pure (gX es t slot)):=rfl
section
variable {prog:Program}{w:World}{A:Around}{E:Value->Shared->Prop}{s:Shared}{a I T:Addr}{es:Array (Int×Value)}{ep:Nat}{t:SetTable}{ps:List Nat}
theorem cV {Q:Bool->Shared->Prop}(h:Q (w.params.followText "set-order") s):wpAny (model prog w) A setsByText Q E s:=by
 unfold setsByText;exact aei (agR (aen h))
theorem sQ {Q:Bool->Shared->Prop}(x:TxAt prog w s.heap a es ep t)(h:Q (!w.params.followText "set-order" && decide (es.size > 1)) s):wpAny (model prog w) A (setDrawn a) Q E s:=by
 rw [rD];refine aei (agA x.get rfl x.fit ?_);dsimp only;refine aei (cV (aen ?_));have e:(!t.plain && decide (es.size > 1))=decide (es.size > 1):=by
  rcases x.pl with q | q
  ·rw [q];rfl
  ·subst q;simp
 rw [e];exact h
theorem qp {Q:Array (Int×Value)->Shared->Prop}(x:TxAt prog w s.heap a es ep t)(ht:w.params.followText "set-order" = true)(h:Q (pickOrder (w.params.setOrder a ep) es) s):wpAny (model prog w) A (setWalk a) Q E s:=by
 rw [vc];refine aei (agA x.get rfl x.fit ?_);dsimp only;refine aei (cV ?_);rw [ht];simp only [aht];exact aei (agR (aen h))
theorem kG {Q:Option (Value×Nat)->Shared->Prop}{given:Nat}(x:TxAt prog w s.heap a es ep t)(ht:w.params.followText "set-order" = true)(h:Q (((pickOrder (w.params.setOrder a ep) es)[given]?).map fun e=>(e.2,0)) s) :
 wpAny (model prog w) A (setNext a 0 given ep) Q E s:=by
 rw [nM];refine aei (agA x.get rfl x.fit ?_);dsimp only;refine aei (cV ?_);rw [ht];simp only [aht,agf,ae4,agJ];refine aei (qp x ht (aen h))
theorem jl {Q:Option (Value×Nat)->Shared->Prop}{slot given:Nat}(x:TxAt prog w s.heap a es ep t)(ht:w.params.followText "set-order" = false)(hs:¬ es.size > 1)
 (h:Q (gX es t slot) s) :
 wpAny (model prog w) A (setNext a slot given ep) Q E s:=by
 rw [nM];refine aei (agA x.get rfl x.fit ?_);dsimp only;refine aei (cV ?_);have hl:t.led=true:=by rw [x.led,ht];rfl
 rw [ht];simp only [ae4,agJ,aeO hs,Bool.and_false,hl,Bool.not_true,Bool.false_and,aaP];exact aei (aen (aen h))
theorem pP (x:TxAt prog w s.heap a es ep t)(hs:¬ es.size > 1):(es=#[]/\t.place=#[])\/∃ e j,es=#[e]/\t.place=#[j]:=by
 have hp:t.place.size=es.size:=by
  have:=x.fit;simp only [SetTable.fits,ae2,aeR] at this;exact this.1
 by_cases h0:es.size=0
 ·exact .inl ⟨aiK.mp h0,aiK.mp (by lia)⟩
 ·have h1:es.size=1:=by lia
  obtain⟨e,he⟩:=aiV.mp h1;obtain⟨j,hj⟩:=aiV.mp (hp.trans h1);exact .inr ⟨e,j,he,hj⟩
theorem kh (hps:ps.Perm (List.range es.size)):(fu w a es ep ps).Perm es.toList:=by
 unfold fu;split
 ·exact i7 _ _
 ·split
  ·exact ky es hps
  ·exact .rfl
end
section
variable {prog:Program}{w:World}{A:Around}{E:Value->Shared->Prop}{s:Shared}{a I T:Addr}{es:Array (Int×Value)}{ep:Nat}{t:SetTable}{ps:List Nat}{i:Nat}
theorem rK {f x:Value}{n:Nat}{Q:Unit->Shared->Prop}(hit:SIter s.heap I a f i n ep)(h:∀ h',SIter h' I a x i n ep->Heap.SameBut I s.heap h'->Q () { s with heap:=h' }):wpAny (model prog w) A (setField (.ref I) 0 x) Q E s:=by
 obtain⟨o,ho,hc,hd⟩:=hit;refine wpAny_setField ho hd (by simp) (h _ ⟨_,af2 _ ho (Obj.isFreed_of_fields (ahn hd _)),(Obj.cls_mapFields ..).trans hc,by rw [ahn hd];simp⟩ (agM ..))
theorem xk {f:Value}{n:Nat}{Q:Unit->Shared->Prop}(hit:SIter s.heap I a f i n ep)(h:∀ h',SIter h' I a f (i+1) n ep->Heap.SameBut I s.heap h'->Q () { s with heap:=h' }):wpAny (model prog w) A (setField (.ref I) 1 (rawInt ((i:Int)+1))) Q E s:=by
 obtain⟨o,ho,hc,hd⟩:=hit;refine wpAny_setField ho hd (by simp) (h _ ⟨_,af2 _ ho (Obj.isFreed_of_fields (ahn hd _)),(Obj.cls_mapFields ..).trans hc,by rw [ahn hd];simp [rawInt]⟩ (agM ..))
theorem oU {f:Value}{n:Nat}{Q:Unit->Shared->Prop}(hit:SIter s.heap I a f i n ep)(h:∀ h',Heap.SameBut I s.heap h'->Q () { s with heap:=h' }):wpAny (model prog w) A (setField (.ref I) 2 .none) Q E s:=by
 obtain⟨o,ho,hc,hd⟩:=hit;exact wpAny_setField ho hd (by simp) (h _ (agM ..))
theorem SSt.next {s':Heap}(hit:SSt prog w a I T es ep t ps i s')(hI:a≠I)(hT:T≠I)(i':Nat){h':Heap}(he:SIter h' I a (bX w es t T i') i' es.size ep)(k:∀ b o,b≠I->s'.get? b=some o->h'.get? b=some o):SSt prog w a I T es ep t ps i' h' :=
 ⟨hit.set.at' fun o e=>k a o hI e,he,fun h1 h2=>by
  obtain⟨o,e,c⟩:=hit.tup h1 h2;exact⟨o,k T o hT e,c⟩⟩
theorem pW {Q:Option Value->Shared->Prop}(hst:SSt prog w a I T es ep t ps i s.heap)
 (h:wpAny (model prog w) A.in1 (match bX w es t T i with
 | Value.int slot tok=>do
  match ← setNext a slot.toNat (i:Int).toNat (ep:Int).toNat with
   | some (x,next)=>do
    setField (Value.ref I) 0 (rawInt (next:Nat))
    setField (Value.ref I) 1 (rawInt ((i:Int)+1))
    ret x
   | none=>do
    setField (Value.ref I) 2 Value.none
    raiseNew (← newExc (Value.type "StopIteration") [])
 | _=>do
  let some places ← seqItems? (bX w es t T i) | unsupported "internal:set_iterator"
  match places[(i:Int).toNat]? with
   | some (Value.int place tok)=>do
    let x ← setNextDrawn a place.toNat (ep:Int).toNat
    setField (Value.ref I) 1 (rawInt ((i:Int)+1))
    ret x
   | some _=>unsupported "internal:set_iterator"
   | none=>do
    setField (Value.ref I) 0 (rawInt 0)
    setField (Value.ref I) 2 Value.none
    raiseNew (← newExc (Value.type "StopIteration") []))
 (fun fin s'=>∃ v,fin=Fin.done (Flow.ret v)/\wpAny (model prog w) A (pure (some v)) Q E s')
 (fun e s' =>
  wpAny (model prog w) A
   (do
    if ← isInstance e (Value.type "StopIteration") then pure none else throw e)
   Q E s')
 s):wpAny (model prog w) A (pyNext (.ref I)) Q E s:=by
 obtain⟨o,ho,hc,hd⟩:=id hst.it;obtain⟨oc,odict,odata,oslots⟩:=o;simp only at hc hd;subst hc hd;unfold pyNext;refine aei (wpAny_attempt (wpAny_callSpecial?_slot (name:=Str.ofString "__next__") hst.it.typeIs slot_si_next
  (afU slot_si_next hst.it.typeIs o4 ?_ (qW _))))
 unfold Builtin.«set_iterator.__next__»;refine aei (aen ?_);refine aei (wpAny_fieldsOf ho rfl ?_);dsimp only;refine aei (wpAny_setEntries_of hst.set.get rfl hst.set.fit ?_);simp only [agf,ae4,agJ];exact h
theorem mQ {Q:Value->Shared->Prop}{p:Nat}{e:Int×Value}(x:TxAt prog w s.heap a es ep t)(hp:es[p]? = some e)(h:Q e.2 s):wpAny (model prog w) A (setNextDrawn a p ep) Q E s:=by
 unfold setNextDrawn;refine aei (agA x.get rfl x.fit ?_);simp only [agf,ae4,agJ,hp];exact aen h
theorem mU {h h':Heap}(x:Heap.SameBut I h h'):∀ b o,b≠I->h.get? b=some o->h'.get? b=some o:=fun b o hb e=>(x.2 b hb).trans e
theorem oV {Q:Option Value->Shared->Prop}(hst:SSt prog w a I T es ep t ps i s.heap)(hps:ps.Perm (List.range es.size))(hI:a≠I)(hT:T≠I)(hi:i < es.size)
 (hQ:∀ v h' tk,(fu w a es ep ps)[i]?.map (·.2)=some v->SSt prog w a I T es ep t ps (i+1) h'->(∀ b o,b≠I->s.heap.get? b=some o->h'.get? b=some o)->Q (some v) { s with heap:=h',toks:=tk }) :
 wpAny (model prog w) A (pyNext (.ref I)) Q E s:=by
 refine pW hst ?_;have ol:(fu w a es ep ps).length=es.size:=by rw [(kh (w:=w) (a:=a) (ep:=ep) hps).length_eq,aeE]
 obtain⟨e,he⟩:∃ e,(fu w a es ep ps)[i]? = some e:=⟨_,aeh (by lia)⟩;have hit:=hst.it;rw [aeY,aeY];cases hb:w.params.followText "set-order" with
 | true =>
  have ef:∀ j,bX w es t T j=.int 0 0:=fun j=>by unfold bX;rw [if_pos hb]
  rw [ef i] at hit ⊢;dsimp only;rw [aib];refine aei (kG hst.set hb ?_);have e2:(pickOrder (w.params.setOrder a ep) es)[i]? = some e:=by
   unfold fu at he;rw [if_pos hb,ae8] at he;exact he
  rw [e2];dsimp only [Option.map];refine aei (rK (x:=.int 0 0) hit fun h1 it1 k1=>?_);refine aei (xk it1 fun h2 it2 k2=>?_);have k12:=(k1.trans k2);exact aen ⟨_,rfl,aen (hQ e.2 h2 s.toks (by rw [he];rfl) (hst.next hI hT (i+1) (by rw [ef];exact it2) (mU k12)) (mU k12))⟩
 | false =>
  by_cases hs:es.size > 1
  ·have ef:∀ j,bX w es t T j=.ref T:=fun j=>by unfold bX;rw [if_neg (by rw [hb];exact aem),if_pos hs]
   rw [ef i] at hit ⊢;dsimp only;obtain⟨oT,hoT,hcT,nT,hdT⟩:=hst.tup hb hs;have hlt:i < ps.length:=by rw [hps.length_eq,afv];exact hi
   refine aei (wpAny_seqItems hoT hdT ?_);dsimp only;have e1:(ps.map fun (p:Nat)=>Value.int p 0).toArray[i]? = some (.int ps[i] 0):=by simp [hlt]
   rw [e1];dsimp only;rw [aeY];have pl:∀ p∈ps,p < es.size:=fun p hp=>afZ.mp (hps.mem_iff.mp hp);have e2:es[ps[i]]? = some e:=by
    unfold fu at he;rw [if_neg (by rw [hb];exact aem),if_pos hs,kJ es ps pl i,aeh hlt] at he;exact he
   refine aei (mQ hst.set e2 ?_);refine aei (xk hit fun h2 it2 k2=>?_);exact aen ⟨_,rfl,aen (hQ e.2 h2 s.toks (by rw [he];rfl) (hst.next hI hT (i+1) (by rw [ef];exact it2) (mU k2)) (mU k2))⟩
  ·rcases pP hst.set hs with ⟨e0,_⟩ | ⟨e0,j,ee,ej⟩
   ·subst e0;simp at hi
   have i0:i=0:=by rw [ee] at hi;simp at hi;exact hi
   subst i0;have ef0:bX w es t T 0=.int 0 0:=by unfold bX;rw [if_neg (by rw [hb];exact aem),if_neg hs,if_pos rfl]
   have ef1:bX w es t T 1=.int ((j+1:Nat):Int) 0:=by unfold bX;rw [if_neg (by rw [hb];exact aem),if_neg hs,if_neg (by decide),ej];rfl
   rw [ef0] at hit ⊢;dsimp only;rw [aib];refine aei (jl hst.set hb hs ?_);have e2:e=e0:=by
    unfold fu at he;rw [if_neg (by rw [hb];exact aem),if_neg hs,ee] at he;simpa using he.symm
   have em:gX es t 0=some (e0.2,j+1):=by
    unfold gX;rw [ej,xr j 0 (aeM _),ee];rfl
   rw [em];dsimp only;refine aei (rK (x:=.int ((j+1:Nat):Int) 0) hit fun h1 it1 k1=>?_);refine aei (xk it1 fun h2 it2 k2=>?_);have k12:=(k1.trans k2);exact aen ⟨_,rfl,aen (hQ e0.2 h2 s.toks (by rw [he,e2];rfl) (hst.next hI hT 1 (by rw [ef1];exact it2) (mU k12)) (mU k12))⟩
theorem pf {Q:Option Value->Shared->Prop}(hh:A.handled=none)(hst:SSt prog w a I T es ep t ps es.size s.heap)(hps:ps.Perm (List.range es.size))
 (hQ:∀ h' tk,(∀ b o,b≠I->s.heap.get? b=some o->h'.get? b=some o)->Q none { s with heap:=h',toks:=tk }) :
 wpAny (model prog w) A (pyNext (.ref I)) Q E s:=by
 refine pW hst ?_;have hit:=hst.it;have fin:∀ {h1:Heap},Heap.SameBut I s.heap h1->wpAny (model prog w) A.in1 (do raiseNew (← newExc (.type "StopIteration") [])) (fun fin s'=>∃ v,fin=Fin.done (Flow.ret v)/\wpAny (model prog w) A (pure (some v)) Q E s')
  (fun e s'=>wpAny (model prog w) A (do if ← isInstance e (Value.type "StopIteration") then pure none else throw e) Q E s') { s with heap:=h1 }:=fun {h1} k1 =>
  zu (s₁:={ s with heap:=h1 }) hh fun h' k=>hQ h' s.toks fun b o hb e=>k b o (mU k1 b o hb e)
 rw [aeY,aeY];cases hb:w.params.followText "set-order" with
 | true =>
  have ef:∀ j,bX w es t T j=.int 0 0:=fun j=>by unfold bX;rw [if_pos hb]
  rw [ef] at hit ⊢;dsimp only;rw [aib];refine aei (kG hst.set hb ?_);have e2:(pickOrder (w.params.setOrder a ep) es)[es.size]? = none:=by
   have:=(i7 (w.params.setOrder a ep) es).length_eq;rw [aeE,aeE] at this;exact Array.getElem?_eq_none (by lia)
  rw [e2];dsimp only [Option.map];exact aei (oU hit fun h1 k1=>fin k1)
 | false =>
  by_cases hs:es.size > 1
  ·have ef:∀ j,bX w es t T j=.ref T:=fun j=>by unfold bX;rw [if_neg (by rw [hb];exact aem),if_pos hs]
   rw [ef] at hit ⊢;dsimp only;obtain⟨oT,hoT,hcT,nT,hdT⟩:=hst.tup hb hs;refine aei (wpAny_seqItems hoT hdT ?_);dsimp only;have e1:(ps.map fun (p:Nat)=>Value.int p 0).toArray[es.size]? = none:=by
    have:=hps.length_eq;rw [afv] at this;simp [this]
   rw [e1];dsimp only;refine aei (rK (x:=.int 0 0) hit fun h1 it1 k1=>?_);exact aei (oU it1 fun h2 k2=>fin (k1.trans k2))
  ·rcases pP hst.set hs with ⟨ee,ej⟩ | ⟨e0,j,ee,ej⟩
   ·have ef0:bX w es t T es.size=.int 0 0:=by unfold bX;rw [if_neg (by rw [hb];exact aem),if_neg hs,ee,if_pos (by simp)]
    rw [ef0] at hit ⊢;dsimp only;rw [aib];refine aei (jl hst.set hb hs ?_);have em:gX es t 0=none:=by
     unfold gX;rw [ej,xX,ee];rfl
    rw [em];dsimp only;exact aei (oU hit fun h1 k1=>fin k1)
   ·have ef1:bX w es t T es.size=.int ((j+1:Nat):Int) 0:=by unfold bX;rw [if_neg (by rw [hb];exact aem),if_neg hs,ee,if_neg (by simp),ej];rfl
    rw [ef1] at hit ⊢;dsimp only;rw [aeY];refine aei (jl hst.set hb hs ?_);have em:gX es t (j+1)=none:=by
     unfold gX;rw [ej,vt,ee];rfl
    rw [em];dsimp only;exact aei (oU hit fun h1 k1=>fin k1)
theorem abA {Q:Value->Shared->Prop}{f:Value}{n:Nat}(hit:SIter s.heap I a f i n ep)(h:Q (.ref I) s):wpAny (model prog w) A (pyIter (.ref I)) Q E s:=by
 refine aip hit.typeIs kL (afU kL hit.typeIs pC ?_ (qV _));show wpAny _ _ (ret (.ref I)) _ _ s;exact aen ⟨_,rfl,"set_iterator",_,hit.typeIs,slot_si_next.lookup,h⟩
theorem Walks.set (hh:A.handled=none)(hI:a≠I)(hT:T≠I)(hps:ps.Perm (List.range es.size)) :
 Walks prog w A I [I,a,T] [I] es.size (fun i v=>(fu w a es ep ps)[i]?.map (·.2)=some v) (fun i h=>SSt prog w a I T es ep t ps i h) where
 sub:=fun b hb=>by simp at hb;simp [hb]
 frame:=fun i h h' st hk=>⟨st.set.at' fun o e=>hk a (by simp) o e,st.it.at' fun o e=>hk I (by simp) o e,fun h1 h2=>let ⟨o,e,c⟩:=st.tup h1 h2;⟨o,hk T (by simp) o e,c⟩⟩
 item:=fun i s Q E hi st hQ=>oV st hps hI hT hi fun v h' tk e st' k=>hQ v h' tk e st' fun b o hb q=>k b o (fun z=>hb (by simp [z])) q
 done:=fun s Q E st hQ=>pf hh st hps fun h' tk k=>hQ h' tk fun b o hb q=>k b o (fun z=>hb (by simp [z])) q
 self:=fun i s Q E st hQ=>abA st.it hQ
theorem uK {Q:Value->Shared->Prop}(x:TxAt prog w s.heap a es ep t)
 (h:∀ (I T:Addr) (ps:List Nat) (h':Heap) (d:Drawn),ps.Perm (List.range es.size)->a≠I->T≠I->s.heap.objs.size<=I->(T=a\/s.heap.objs.size<=T)->I < h'.objs.size->T < h'.objs.size->SSt prog w a I T es ep t ps 0 h'->(∀ b o,s.heap.get? b=some o->h'.get? b=some o)->Q (.ref I) { s with heap:=h',drawn:=d }) :
 wpAny (model prog w) A (pyIter (.ref a)) Q E s:=by
 have hT:s.TypeIs (.ref a) "set" := ⟨_,x.get,rfl⟩;have hlt:a < s.heap.objs.size:=aes x.get;refine aip hT F.slot_set_iter (afU F.slot_set_iter hT nF ?_ (F.args_set_iter_1 _));unfold Builtin.«frozenset.__iter__» Builtin.Frozenset.slot0 slotArgs;simp only [List.isEmpty_nil,Bool.not_true,ae4,↓reduceIte,bind_assoc,ahl,agf];unfold Builtin.Frozenset.addrOf Builtin.Frozenset.sizeOf;refine aei (aen ?_)
 try dsimp only
 refine aei (aen ?_);refine aei (aei (wpAny_setEntries_of x.get rfl x.fit (aen ?_)));refine aei (sQ x ?_);have fin:∀ (T:Addr) (ps:List Nat) (h1:Heap) (d:Drawn),ps.Perm (List.range es.size)->(T=a\/s.heap.objs.size<=T)->T < h1.objs.size->(∀ b o,s.heap.get? b=some o->h1.get? b=some o)->s.heap.objs.size<=h1.objs.size →
  (w.params.followText "set-order" = false->es.size > 1->IsTup h1 T (ps.map fun (p:Nat)=>Value.int p 0).toArray) →
  wpAny (model prog w) A.in1 (do
   let r ← newFields "set_iterator" [bX w es t T 0,rawInt 0,Value.ref a,rawInt (es.size:Nat),rawInt (ep:Nat)]
   ret r) (fun fin s'=>∃ v,fin=Fin.done (Flow.ret v)/\∃ T' r,s'.TypeIs v T'/\typeLookup (Value.type T') (Str.ofString "__next__")=pure (some r)/\Q v s') E { s with heap:=h1,drawn:=d }:=fun T ps h1 d hps hTa hTl k hz hp=>by
  refine aei (afJ (aen ⟨_,rfl,"set_iterator",_,⟨_,aeF _ rfl,rfl⟩,slot_si_next.lookup,?_⟩));have k2:∀ b o,h1.get? b=some o->(h1.push { cls:=.type "set_iterator",data:=.fields #[bX w es t T 0,rawInt 0,Value.ref a,rawInt (es.size:Nat),rawInt (ep:Nat)] }).get? b=some o:=fun b o e=>ael _ e;refine h h1.objs.size T ps (h1.push { cls:=.type "set_iterator",data:=.fields #[bX w es t T 0,rawInt 0,Value.ref a,rawInt (es.size:Nat),rawInt (ep:Nat)] }) d hps (aeA (aeB hlt hz)) (aeA hTl) hz hTa (by rw [afe];exact af8 _) (by rw [afe];exact aff hTl) ⟨x.at' fun o e=>k2 _ _ (k _ _ e),⟨_,aeF _ rfl,rfl,rfl⟩,fun h1 h2=>?_⟩ fun b o e=>k2 _ _ (k _ _ e);obtain⟨o,e,c⟩:=hp h1 h2;exact⟨o,k2 _ _ e,c⟩
 by_cases hd:w.params.followText "set-order" = false/\es.size > 1
 ·have e1:(!w.params.followText "set-order" && decide (es.size > 1))=true:=by rw [hd.1,aeP hd.2];rfl
  rw [e1];simp only [aht];refine aei (iu _ _ _ _ (by simp) fun ys d p=>?_);simp only [newTuple];have hys:ys.length<=sizeLine:=by rw [p.length_eq,afv];exact ahv x.bd
  refine aei (afJ ?_ (by show (List.map (fun (i:Nat)=>rawInt i) ys).toArray.size<=sizeLine;simpa using hys));refine aei (wpAny_setEpoch_of (ael _ x.get) rfl x.fit ?_);have ef:bX w es t s.heap.objs.size 0=.ref s.heap.objs.size:=by unfold bX;rw [if_neg (by rw [hd.1];exact aem),if_pos hd.2]
  have q:=fin s.heap.objs.size ys (s.heap.push { cls:=.type "tuple",data:=.seq (ys.map fun (p:Nat)=>Value.int p 0).toArray }) d p (.inr (aep _)) (by rw [afe];exact af8 _) (fun b o e=>ael _ e) (by rw [afe];exact afh _) (fun _ _=>⟨_,aeF _ rfl,rfl,_,rfl⟩);rw [ef] at q;exact q
 ·have e1:(!w.params.followText "set-order" && decide (es.size > 1))=false:=by
   rw [Bool.eq_false_iff];intro z;rw [ae2,ain,age] at z;exact hd z
  rw [e1];simp only [ae4,agJ];refine aei (aen ?_);refine aei (wpAny_setEpoch_of x.get rfl x.fit ?_);have ef:bX w es t a 0=rawInt 0:=by
   unfold bX;split
   ·rfl
   ·split
    ·rename_i q1 q2;exact absurd ⟨by simpa using q1,q2⟩ hd
    ·rfl
  have q:=fin a (List.range es.size) s.heap s.drawn .rfl (.inl rfl) hlt (fun _ _ e=>e) (aep _) (fun h1 h2=>absurd ⟨h1,h2⟩ hd);rw [ef] at q;exact q
end
end L2
namespace L2
open PySem PySem.Spec PyProof.Rows PySem.W
section
variable {prog:Program}{w:World}{A:Around}{E:Value->Shared->Prop}{s:Shared}{a I T:Addr}{es:Array (Int×Value)}{ep:Nat}{t:SetTable}{ps:List Nat}{i:Nat}
theorem zm {Q:Bool->Shared->Prop}(hT:s.TypeIs (.ref a) "set")(h:Q false s):wpAny (model prog w) A (Builtin.List.listLengthHint (.ref a)) Q E s:=by
 unfold Builtin.List.listLengthHint;refine aei (wpAny_specialOf hT PySem.F.slot_set_len.lookup ?_);generalize hid:("set.__len__" : String)=id0
 wp_delta
 rw [show splitId id0=some ("set","__len__") from by subst hid;decide +kernel];subst hid;refine aei (wpAny_isInstance (T := "set") (b:=true) hT (by rw [isSubtype_type];kernel_rfl) ?_);refine aiX (fun hab=>absurd hab (by decide)) (fun _=>?_);refine aiX (fun _=>?_) (fun hab=>absurd (by decide +kernel) hab);refine aei (wpAny_typeOf hT ?_);exact aen h
theorem uV {R:Result->Shared->Prop}(hh:A.handled=none)(x:TxAt prog w s.heap a es ep t)(S:Addr)(hSa:S≠a)(res:Value)(c₀:Nat)(hS:s.heap.get? S=some { cls:=.type "list",data:=.seq #[] c₀ })
 (hR:∀ h' d tk acc' c' ps,ps.Perm (List.range es.size)->(∀ b o,b≠S->s.heap.get? b=some o->h'.get? b=some o)->h'.get? S=some { cls:=.type "list",dict:=none,data:=.seq acc' c',slots:=#[] }->ItemsOf (fun i v=>(fu w a es ep ps)[i]?.map (·.2)=some v) acc' es.size->R (.ok (.ret res)) { s with heap:=h',drawn:=d,toks:=tk }) :
 wpAny (model prog w) A.in1 (Builtin.List.listExtendWith (.ref S) (.ref a) res)
  (fun fin s'=>match fin with | .done f=>R (.ok f) s' | .again c'=>c'.quiet=true/\codeAny (model prog w) A c' R s') (fun e s'=>R (.error e) s') s:=by
 have hn:es.size<=sizeLine:=ahv x.bd;have hSlt:S < s.heap.objs.size:=aes hS;unfold Builtin.List.listExtendWith;refine aei (wpAny_typeOf (T := "set") ⟨_,x.get,rfl⟩ ?_);have h1:Builtin.List.listSameRef (.ref S) (.ref a)=false:=by simp [Builtin.List.listSameRef,hSa]
 have h2:(Value.type "set" == Value.type "list")=false:=by decide
 have h3:(Value.type "set" == Value.type "tuple")=false:=by decide
 simp only [h1,h2,h3,Bool.or_false,ae4,agJ];refine aei (uK x fun I T ps h1 d hps haI hTI hIs hTs hIl hTl st k1=>?_);have hSI:S≠I:=aeA (aeB hSlt hIs);have hST:S≠T:=by
  rcases hTs with z | z
  ·rw [z];exact hSa
  ·exact aeA (aeB hSlt z)
 have hSf:S ∉ [I,a,T]:=by simp only [aeu,afb,ahx,not_or];exact⟨hSI,hSa,hST⟩
 have W:Walks prog w A.in1 I [I,a,T] [I] es.size (fun i v=>(fu w a es ep ps)[i]?.map (·.2)=some v) (fun i h=>SSt prog w a I T es ep t ps i h):=Walks.set hh haI hTI hps;have key:∀ (h:Heap) (c₁ tk:Nat),SSt prog w a I T es ep t ps 0 h->(∀ b o,b≠S->s.heap.get? b=some o->h.get? b=some o) →
  h.get? S=some { cls:=.type "list",data:=.seq #[] c₁ }->codeAny (model prog w) A (.builtin "list.extend.loop" ⟨[.ref S,.ref I,res],[]⟩) R { s with heap:=h,drawn:=d,toks:=tk }:=by
  intro h c₁ tk hst hk hS₁;refine codeAny_extend_loopS W.toS hn S hSf res es.size 0 _ #[] c₁ rfl (aeM _) hst hS₁ (ItemsOf.nil _) fun s' acc' c' hm hS' hacc=>?_;rw [Moved.eq_with hm];refine hR s'.heap _ s'.toks acc' c' ps hps (fun b o hb e=>hm.heap b o (fun hmem=>?_) (hk b o hb e)) hS' hacc;rcases aeu.mp hmem with e' | hmem
  ·exact hb e'
  ·rw [aeq.mp hmem] at e;exact absurd (aeB (aes e) hIs) (afn _)
 have hS₁:=k1 _ _ hS;refine aei (afd (zm ⟨_,k1 _ _ x.get,rfl⟩ ?_));refine aiX (fun _=>?_) (fun _=>aen ⟨ag5 aic _,key _ c₀ _ st (fun b o _ e=>k1 _ _ e) hS₁⟩);refine aei (afY ?_);refine aei ?_;show wpAny _ _ (updateSeq S (·.push .none) >>= fun _=>updateSeq S (·.pop)) _ _ _;refine aei (wpAny_updateSeq hS₁ rfl ?_);have hS₂:=af2 (Obj.mapSeq (·.push Value.none)) hS₁ rfl;refine wpAny_updateSeq (hz:=by seq_fits) hS₂ rfl ?_;have hS₃:=af2 (Obj.mapSeq (·.pop)) hS₂ rfl;refine aen ⟨ag5 aic _,key _ _ _ ?_ (fun b o hb e=>?_) hS₃⟩
 ·refine W.frame 0 _ _ st fun b hb o e=>?_;have hbS:b≠S:=fun h=>hSf (h▸hb);exact (afW _ _ (afO hbS)).trans ((afW _ _ (afO hbS)).trans e)
 ·exact (afW _ _ (afO hb)).trans ((afW _ _ (afO hb)).trans (k1 _ _ e))
theorem sg {R:List Value->Shared->Prop}(hh:A.handled=none)(x:TxAt prog w s.heap a es ep t)
 (h:∀ (h':Heap) (d:Drawn) (tk:Nat) (acc:List Value),(∀ b o,s.heap.get? b=some o->h'.get? b=some o)->s.heap.objs.size<=h'.objs.size->acc.Perm (es.toList.map (·.2))->R acc { s with heap:=h',drawn:=d,toks:=tk }) :
 wpAny (model prog w) A (collect (.ref a)) R E s:=by
 have hlt:a < s.heap.objs.size:=aes x.get;have fin:∀ (acc:Array Value) (ps:List Nat),ps.Perm (List.range es.size)->ItemsOf (fun i v=>(fu w a es ep ps)[i]?.map (·.2)=some v) acc es.size->acc.toList.Perm (es.toList.map (·.2)):=fun acc ps hps ha=>by
  have e:acc.toList=(fu w a es ep ps).map (·.2):=by
   apply agB;intro i;rw [aer];cases q:acc.toList[i]? with
   | some v=>exact (ha.2 i v (by rw [← ae8];exact q)).symm
   | none =>
    have:=aid.mp q;rw [aeE,ha.1] at this;have ol:(fu w a es ep ps).length=es.size:=by rw [(kh (w:=w) (a:=a) (ep:=ep) hps).length_eq,aeE]
    rw [af3 (by lia)]
    rfl
  rw [e];exact (kh hps).map _
 unfold collect;refine aei (wpAny_runValue (agi entry_proto_collect' ?_));rw [afS PySem.F.plain_proto_collect _];show wpAny _ A.in1 (newList [] >>= fun l=>again (.builtin "list.__iadd__" ⟨[l,.ref a],[]⟩)) _ _ s;refine aei (afJ ?_);refine aen ⟨ag5 aiB _,agi entry_list_iadd' ?_⟩;rw [afS aiB _];have hS₁:(s.heap.push { cls:=.type "list",data:=.seq ([]:List Value).toArray }).get? s.heap.objs.size=some { cls:=.type "list",data:=.seq #[] }:=aeF _ rfl;show wpAny _ A.in1 (Builtin.List.listExtendWith (.ref s.heap.objs.size) (.ref a) (.ref s.heap.objs.size)) _ _ _;have key:=uV (A:=A) (s:={ s with heap:=s.heap.push { cls:=.type "list",data:=.seq ([]:List Value).toArray } })
  (R:=fun (q:Result) (s':Shared)=>∃ (h':Heap) (d:Drawn) (tk:Nat) (acc':Array Value) (c':Nat),q=.ok (.ret (.ref s.heap.objs.size))/\s'={ s with heap:=h',drawn:=d,toks:=tk } ∧
   (∀ b o,s.heap.get? b=some o->h'.get? b=some o)/\h'.get? s.heap.objs.size=some { cls:=.type "list",dict:=none,data:=.seq acc' c',slots:=#[] }/\acc'.toList.Perm (es.toList.map (·.2)))
  hh (x.at' fun o e=>ael _ e) s.heap.objs.size (agZ hlt) (.ref s.heap.objs.size) 0 hS₁
  (fun h' d tk acc' c' ps hps hk hS' hacc=>⟨h',d,tk,acc',c',rfl,rfl,fun b o e=>hk b o (aeA (aes e)) (ael _ e),hS',fin _ _ hps hacc⟩)
 refine aeV key (fun fin s' x=>?_) fun e s' x=>?_
 ·cases fin with
  | done f =>
   obtain⟨h',d,tk,acc',c',e,rfl,hk,hS',hacc⟩:=x;cases e;show wpAny _ A (load s.heap.objs.size >>= _) _ _ _;refine aei (aja hS' ?_);exact aen (h h' d tk acc'.toList hk (af1 (aes hS')) hacc)
  | again c₁ =>
   refine⟨x.1,agr x.2 fun q s₂ y=>?_⟩;obtain⟨h',d,tk,acc',c',rfl,rfl,hk,hS',hacc⟩:=y;show wpAny _ A (load s.heap.objs.size >>= _) _ _ _;refine aei (aja hS' ?_);exact aen (h h' d tk acc'.toList hk (af1 (aes hS')) hacc)
 ·obtain⟨_,_,_,_,_,e',_⟩:=x;cases e'
theorem abr {l:List (Int×Value)}(h:ElemsOf (PySem.strKind prog w) l):StrsAre (l.map (·.2)) (l.map fun e=>strOf e.2):=by
 have:=strsAre_map (l.map (·.2)) fun v hv=>by
  obtain⟨e,he,rfl⟩:=aeL.mp hv;obtain⟨tk,e2⟩:=xo h he;exact⟨strOf e.2,tk,by rw [e2];rfl⟩
 rw [aeZ] at this;exact this
theorem ve {Q:Value->Shared->Prop}{ss:List Str}(hh:A.handled=none)(x:TxSet prog w s.heap a ss)(h64:ss.length < 64)
 (h:∀ (h':Heap) (d:Drawn) (tk:Nat) (l:Addr) (vs:List Value) (ss':List Str) (e:Nat),(∀ b o,s.heap.get? b=some o->h'.get? b=some o)->s.heap.objs.size<=l->h'.get? l=some (seqObj "list" vs.toArray e)->StrsAre vs ss'->ss'.Perm ss->sortedS ss'=true->Q (.ref l) { s with heap:=h',drawn:=d,toks:=tk }) :
 wpAny (model prog w) A (call (.builtin "sorted") [.ref a]) Q E s:=by
 obtain⟨es,ep,t,T,e,nd⟩:=x;subst e;refine agu kind_sorted plain_sorted entry_sorted (args_sorted1 _) ?_;unfold Builtin.«sorted»;refine aei (m:=checkCount "sorted" 1 1 _) (aen ?_);refine aei (sg (A:=A.in1) hh T fun h1 d tk acc k1 hsz hp=>?_);have hst:=abr T.el;have hS:StrsAre acc (acc.map strOf):=strsAre_map acc fun v hv=>hst.all v (hp.mem_iff.mp hv);have hpm:(acc.map strOf).Perm (wb es):=by
  have:=hp.map strOf;rw [aeZ] at this;exact this
 have hl:acc.length < 64:=by
  have:=hpm.length_eq;rw [aej] at this;lia
 refine aei (ag6 ?_ (af1 (aeB hl (by decide))));show wpAny _ _ _ _ _ { s with heap:=h1.push (seqObj "list" acc.toArray 0),drawn:=d,toks:=tk };have hoL:(h1.push (seqObj "list" acc.toArray 0)).get? h1.objs.size=some (seqObj "list" acc.toArray 0):=aeF _ rfl;refine aei (afd (afU aie ⟨_,hoL,rfl⟩ ahS (list_sort_treeK strKind_oneLt hoL hS.keysOf (fun v₁ v₂ rest e=>keyKind_strs (by rw [← e];exact hS)) hl fun st' a1 a2=>⟨_,rfl,?_⟩) (aif _)));obtain⟨ss',b1,b2,b3⟩:=sorted_out_str hS a1 a2;obtain⟨e,he⟩:=sortedHeap_at (vs:=acc) (out:=(arrOf st').map (·.2)) hoL;refine aen ⟨_,rfl,h _ d tk h1.objs.size ((arrOf st').map (·.2)).toList ss' e (fun b o q=>?_) hsz (by rw [Array.toArray_toList];exact he) b1 (b2.trans hpm) b3⟩;have q1:=k1 _ _ q;rw [sortedHeap_old (aeA (aes q1)) (by rw [aiq];exact aff (aes q1))];exact ael _ q1
end
end L2
namespace L2
open PySem PySem.Spec PyProof.Rows
def aa7 (ts ss:List Str):Prop:=ts.Nodup/\∀ x,x∈ts↔x∈ss
section
variable {prog:Program}{w:World}{A:Around}{R:Result->Shared->Prop}{I:Addr}{fp wr:List Addr}{G:Array GenState->Array GenState->Prop}{n:Nat}{P:Nat->Value->Prop}{St:Nat->Shared->Prop}
theorem TxSet.nd {h:Heap}{a:Addr}{ss:List Str}(x:TxSet prog w h a ss):ss.Nodup:=let ⟨_,_,_,_,_,n⟩:=x;n
theorem ma (W:WalksS prog w A.in1 I fp wr G n P St)(S:Addr)(hSf:S ∉ fp)(val:Nat->Str)(hval:∀ i v,P i v->∃ t,v=.str (val i) t)(hb:n+1 < scanBound) :
 ∀ (k i:Nat) (s:Shared) (ts:List Str),n - i=k->i<=n->St i s->TxSet prog w s.heap S ts->ts.length<=i->(∀ x,x∈ts↔∃ j,j < i/\val j=x) →
  (∀ s' ts',Moved (S::wr) G s s'->TxSet prog w s'.heap S ts'->(∀ x,x∈ts'↔∃ j,j < n/\val j=x)->R (.ok (.ret .none)) s') →
  codeAny (model prog w) A (.builtin "set.update.loop" ⟨[.ref S,.ref I],[]⟩) R s:=by
 have hSw:S ∉ wr:=fun h=>hSf (W.sub _ h);have hsub:∀ b∈wr,b∈S::wr:=fun b hb=>aeC _ hb;intro k
 induction k with
 | zero =>
  intro i s ts hk hi hst hS hl hm hR;have hin:i=n:=by lia
  subst hin;refine agi F.entry_set_update_loop ?_;rw [afS aho _];show wpAny _ A.in1 (pyNext (.ref I) >>= _) _ _ s;refine aei (W.done s _ _ hst fun s' hmv=>?_);show wpAny _ A.in1 (ret Value.none) _ _ s';exact aen (hR s' ts (hmv.mono hsub) (hS.at' fun o e=>hmv.heap S _ hSw e) hm)
 | succ k ih =>
  intro i s ts hk hi hst hS hl hm hR;have hlt:i < n:=by lia
  refine agi F.entry_set_update_loop ?_;rw [afS aho _];show wpAny _ A.in1 (pyNext (.ref I) >>= _) _ _ s;refine aei (W.item i s _ _ hlt hst fun v s' hP hst' hmv=>?_);obtain⟨t,rfl⟩:=hval i v hP;have hS':TxSet prog w s'.heap S ts:=hS.at' fun o e=>hmv.heap S _ hSw e;show wpAny _ A.in1 (holding [Value.str (val i) t] (setAdd S (.str (val i) t)) >>= _) _ _ s';refine aei (afd ?_);unfold setAdd;refine afd ?_;refine aei ((PySem.strKind prog w).pyHash (k:=val i) ((rp rfl).mpr rfl) ?_);refine i5 (s:={ s' with toks:=s'.toks+1 }) hS' (by lia) fun h' ts' hsb hS2 alt=>?_;have hl':ts'.length<=i+1:=by
   rcases alt with ⟨_,e⟩ | ⟨_,p⟩
   ·rw [e];lia
   ·rw [p.length_eq,aeo];simp;lia
  have hm':∀ x,x∈ts'↔∃ j,j < i+1/\val j=x:=fun x=>by
   constructor
   ·intro hx;have:x∈ts\/x=val i:=by
     rcases alt with ⟨_,e⟩ | ⟨_,p⟩
     ·rw [e] at hx;exact .inl hx
     ·rcases aew.mp (p.mem_iff.mp hx) with z | z
      ·exact .inl z
      ·exact .inr (aeq.mp z)
    rcases this with z | z
    ·obtain⟨j,hj,e⟩:=(hm x).mp z;exact⟨j,by lia,e⟩
    ·exact⟨i,by lia,z.symm⟩
   ·rintro⟨j,hj,rfl⟩;rcases alt with ⟨q,e⟩ | ⟨_,p⟩
    ·rw [e];by_cases hji:j=i
     ·subst hji;exact q
     ·exact (hm _).mpr ⟨j,by lia,rfl⟩
    ·refine p.mem_iff.mpr (aew.mpr ?_);by_cases hji:j=i
     ·subst hji;exact .inr (aeq.mpr rfl)
     ·exact .inl ((hm _).mpr ⟨j,by lia,rfl⟩)
  refine aen ⟨ag5 aho _,ih (i+1) _ ts' (by lia) hlt (W.frame _ s' _ _ hst' (afh _) fun b hb o e=>?_) hS2 hl' hm' fun s'' ts'' hm'' hS'' q=>?_⟩
  ·rw [hsb.2 b (fun h:b=S=>hSf (by rw [← h];exact hb))];exact e
  ·refine hR s'' ts'' (Moved.trans W.gtrans ((hmv.mono hsub).then_heap (afh _) fun b o hb e=>?_) hm'') hS'' q;rw [hsb.2 b (fun h:b=S=>hb (by rw [h];exact aev))];exact e
end
section
variable {prog:Program}{w:World}{A:Around}{E:Value->Shared->Prop}{s:Shared}
theorem lR (a:Value){Q₁:Value->Shared->Prop}
 (h:Q₁ (.ref s.heap.objs.size) { s with heap:=s.heap.push { cls:=.type "set",dict:=none,data:=.set #[] 0 (.fresh 0 0 (!w.params.followText "set-order")) } }) :
 codeAny (model prog w) A (.call (.builtin "set.__new__") ⟨[.type "set",a],[]⟩) (wants Q₁ E) s:=by
 refine ahT ?_;show wpAny _ A.in1 (do checkBuiltinCall "set.__new__" ⟨[.type "set",a],[]⟩;again (.builtin "set.__new__" ⟨[.type "set",a],[]⟩)) _ _ s;refine aei (wpAny_of_eq (F.newCall_set_1 a) (aen ⟨ag5 F.plain_set_new _,agi F.entry_set_new ?_⟩));rw [afS F.plain_set_new _];unfold Builtin.«set.__new__» Builtin.Frozenset.newClass;have hsub:=sub_set_self;obtain⟨hp,g,d,tk,os⟩:=s;dsimp only
 wp_walk
 refine agR (aen ?_);dsimp only;simp only [newObj];refine aei (aju (aen ?_));exact aen h
theorem uD (prog:Program)(w:World)(h:Heap):TxSet prog w (h.push { cls:=.type "set",dict:=none,data:=.set #[] 0 (.fresh 0 0 (!w.params.followText "set-order")) }) h.objs.size [] :=
 ⟨#[],0,_,⟨aeF _ rfl,fun e he=>by simp at he,by decide,rfl,rfl,.inr rfl⟩,rfl,ajm⟩
theorem oN {l:Addr}{items:Array Value}{ss:List Str}{Q:Value->Shared->Prop}
 (hh:A.handled=none)(hl:s.heap.IsList l items)(hi:StrsAre items.toList ss)(hb:items.size+1 < scanBound)
 (h:∀ (h':Heap) (tk:Nat) (ts:List Str),TxSet prog w h' s.heap.objs.size ts->aa7 ts ss →
  (∀ b o,b < s.heap.objs.size->s.heap.get? b=some o->h'.get? b=some o)->Q (.ref s.heap.objs.size) { s with heap:=h',toks:=tk }) :
 wpAny (model prog w) A (call (.type "set") [.ref l]) Q E s:=by
 obtain⟨c,tl,hmro⟩:=ag3.mro;have hmade:=ag3.made;have hsub:=ag3.sub;refine wpAny_call (ahT ?_);show wpAny _ _ (callAny (.type "set") _) _ _ _;refine aen ⟨Code.quiet_builtin _ (by decide +kernel),agi F.entry_type_call ?_⟩;rw [Around.under_plain (weight_type_call_type "set" [.ref l] []) rfl];have h1:=ag3.notType;have h2:=ag3.canCreate;have hct:=F.typeCall_set_1 (.ref l)
 repeat (any_goals (first | assumption | wp_step))
 refine agr (lR (.ref l) (E:=E) (Q₁:=fun obj s₁=>obj=.ref s.heap.objs.size/\s₁={ s with heap:=s.heap.push { cls:=.type "set",dict:=none,data:=.set #[] 0 (.fresh 0 0 (!w.params.followText "set-order")) } }) ⟨rfl,rfl⟩) fun r s₁ hr=>?_;cases r with
 | error e=>exact hr
 | ok fl =>
  cases fl with
  | ret obj =>
   obtain⟨rfl,rfl⟩:=hr;generalize hled:(!w.params.followText "set-order")=led at *;have hS0:TxSet prog w (s.heap.push { cls:=.type "set",dict:=none,data:=.set #[] 0 (.fresh 0 0 led) }) s.heap.objs.size []:=by rw [← hled];exact uD prog w s.heap
   have hS:(s.heap.push { cls:=.type "set",dict:=none,data:=.set #[] 0 (.fresh 0 0 led) }).get? s.heap.objs.size=some { cls:=.type "set",dict:=none,data:=.set #[] 0 (.fresh 0 0 led) }:=aeF _ rfl;have hT:Shared.TypeIs { s with heap:=s.heap.push { cls:=.type "set",dict:=none,data:=.set #[] 0 (.fresh 0 0 led) } } (.ref s.heap.objs.size) "set" := ⟨_,hS,rfl⟩;have hli:=ag3.init.lookup;have hbi:=ag3.init.bind (.ref s.heap.objs.size)
   repeat (any_goals (first | assumption | wp_step))
   refine agr (codeAny_call_builtin (R:=wants (fun r s₂=>r=.none/\∃ h' tk ts,s₂={ s with heap:=h',toks:=tk }/\TxSet prog w h' s.heap.objs.size ts/\aa7 ts ss ∧
    (∀ b o,b < s.heap.objs.size->s.heap.get? b=some o->h'.get? b=some o)) E) ag3.init.plain F.entry_set_init (check_set_init_1 hT ?_)) fun r₂ s₂ hr₂=>?_
   ·obtain⟨ol,hol,hcl,nl,hdl⟩:=hl;obtain⟨ocls,odict,odata,oslots⟩:=ol;simp only at hcl hdl;subst hcl;subst hdl;have hol':(s.heap.push { cls:=.type "set",dict:=none,data:=.set #[] 0 (.fresh 0 0 led) }).get? l=some { cls:=.type "list",dict:=odict,data:=.seq items nl,slots:=oslots }:=ael _ hol;have hsls:=F.sub_list_set;have hslf:=F.sub_list_frozenset;have hne:(Value.type "list" == Value.type "dict")=false:=by decide
    have hl1:(s.heap.push { cls:=.type "set",dict:=none,data:=.set #[] 0 (.fresh 0 0 led) }).IsList l items:=⟨_,hol',rfl,nl,rfl⟩;unfold Builtin.«set.__init__» noKeywords Builtin.Frozenset.updateFrom;generalize hPI:pyIter=PI
    wp_walk
    subst hPI;refine ahs hl1 ?_;refine aei (wpAny_runValue ?_);have hlS:l < s.heap.objs.size:=aes hol;have hh3:A.in1.in1.in1.handled=none:=by simp [hh]
    have hneI:l≠(s.heap.push { cls:=.type "set",dict:=none,data:=.set #[] 0 (.fresh 0 0 led) }).objs.size:=by
     rw [afe];exact aeA (aff hlS)
    have hSf:s.heap.objs.size ∉ [(s.heap.push { cls:=.type "set",dict:=none,data:=.set #[] 0 (.fresh 0 0 led) }).objs.size,l]:=by
     rw [afe];simp only [aeu,aeq,afb,ahx,not_or];exact⟨aeA (af8 _),agZ hlS⟩
    have hln:items.toList.length=ss.length:=by
     have:=afy List.length hi.strs
     rwa [aej] at this
    have hval:∀ (i:Nat) (v:Value),items[i]? = some v->∃ t,v=.str ((fun i=>ss.getD i ⟨#[]⟩) i) t:=fun i v hv=>by
     have hv':items.toList[i]? = some v:=by rw [ae8];exact hv
     obtain⟨x,t,e⟩:=hi.all v (aey hv');refine⟨t,?_⟩;have e2:ss[i]? = some (strOf v):=by rw [← hi.strs,aer,hv'];rfl
     rw [e];simp only [ae3,e2,e]
     rfl
    refine ma ((Walks.list hh3 _ l hneI items).toS) s.heap.objs.size
     hSf (fun i=>ss.getD i ⟨#[]⟩) hval hb (items.size - 0) 0 _ [] (by lia) (aeM _)
     ⟨⟨_,aeF _ rfl,rfl,rfl⟩,(hl1.push _)⟩ ?hS0 (aep _) (fun x=>?hM) ?hR
    case hS0=>exact hS0.at' fun o e=>ael _ e
    case hM=>exact⟨(fun h=>nomatch h),fun ⟨j,hj,_⟩=>absurd hj (ahU j)⟩
    case hR =>
     intro s' ts hm hS' hq;obtain⟨h',g',d',tk',os'⟩:=s';have eg:g'=s.gens:=hm.gens;have ed:d'=s.drawn:=hm.drawn;have eo:os'=s.os:=hm.os;subst eg;subst ed;subst eo;show wpAny _ _ _ _ _ _;refine aen ?_;show wpAny _ _ (ret Value.none) _ _ _;refine aen ⟨rfl,h',tk',ts,rfl,hS',⟨hS'.nd,fun x=>(hq x).trans ?_⟩,fun b o hb e=>?_⟩
     ·have hz:items.size=ss.length:=by rw [← hln,aeE]
      constructor
      ·rintro⟨j,hj,e⟩;rw [hz] at hj;rw [← e,ae3,aeh hj];exact aeS hj
      ·intro hx;obtain⟨j,hj,e⟩:=ahc.mp hx;refine⟨j,by rw [hz];exact hj,?_⟩;rw [ae3,aeh hj];exact e
     ·have hb1:b≠s.heap.objs.size:=aeA hb;have hb2:b≠(s.heap.push { cls:=.type "set",dict:=none,data:=.set #[] 0 (.fresh 0 0 led) }).objs.size:=by
       rw [afe];exact aeA (aff hb)
      exact hm.heap b o (by simp only [aeu,aeq,afb,ahx,not_or];exact⟨hb1,hb2⟩) (ael _ (ael _ e))
   ·cases r₂ with
    | error e=>exact hr₂
    | ok fl₂ =>
     cases fl₂ with
     | ret r =>
      obtain⟨rfl,h',tk,ts,rfl,hS',hi',hk'⟩:=hr₂
      repeat (any_goals (first | assumption | wp_step))
      exact h _ _ ts hS' hi' hk'
     | _=>exact hr₂.elim
  | _=>exact hr.elim
end
theorem Inv.drawn' {X:Cx}{pins:List (Addr×Obj)}{σ:St}{H:Hp}{s:Shared}(I:Inv X pins σ H s)(d:Drawn):Inv X pins σ H { s with drawn:=d }:=⟨I.ok,I.os,I.bare,I.base,I.loc,I.cell,I.free,I.freeC,I.pin,I.hok,I.len⟩
def kr (P:Program)(w:World)(a:Addr)(ss:List Str):HO:=.ext fun h=>TxSet P w h a ss
theorem wB {P:Program}{w:World}{H:Hp}{h:Heap}{a:Addr}{ss:List Str}(x:TxSet P w h a ss):ObjOk P w H h a (kr P w a ss) :=
 ⟨x,(let ⟨_,_,_,T,_⟩:=x;⟨_,T.get⟩),fun _ _ y k=>y.at' k⟩
theorem aag {P:Program}{w:World}{H:Hp}{h:Heap}{a:Addr}{ss:List Str}(ok:HOk P w H h)(e:H a=some (kr P w a ss)):TxSet P w h a ss:=(ok a _ e).1
section
variable {X:Cx}
theorem gZ (hc:X.calm=true):gI X (.builtin "sorted") (fun xs H Q=>∃ (a:Addr) (ss:List Str),xs=[.ref a]/\H a=some (kr X.prog X.w a ss)/\ss.length < 64/\∀ (l:Addr) (ss':List Str),H l=none->ss'.Perm ss->sortedS ss'=true->Q (.ref l) (upd H l (.lst (ss'.map V.str)))):=by
 intro pins s σ H xs us Q I r h;obtain⟨a,ss,rfl,e,hl,q⟩:=h;obtain⟨u,rfl,rx⟩:=iE r;cases rx;refine ve (I.ok.hd hc) (aag I.hok e) hl fun h' d tk l vs ss' ep k hz hg hS hp hs=>?_;refine⟨.ref l,_,((I.laid (t':=tk) (o:=.lst (ss'.map V.str)) k hz ⟨?_,vs,ep,iG hS,hg⟩).drawn' d),rfl,q l ss' (I.hok.fresh hz) hp hs⟩;rw [aej,hp.length_eq];exact af1 (aeB hl (by decide))
theorem se (hc:X.calm=true):gI X (.type "set") (fun xs H Q=>∃ (p:Addr) (ss:List Str),xs=[.ref p]/\SqL X.K H p (ss.map V.str)/\ss.length+1 < scanBound/\∀ (a:Addr) (ts:List Str),H a=none->aa7 ts ss->Q (.ref a) (upd H a (kr X.prog X.w a ts))):=by
 intro pins s σ H xs us Q I r h;obtain⟨p,ss,rfl,hq,hb,q⟩:=h;obtain⟨u,rfl,rx⟩:=iE r;cases rx;obtain⟨its,rv,pl,hz⟩:=I.list hq;have hlen:=rv.length;rw [aej] at hlen;refine oN (I.ok.hd hc) pl.isList (by simpa using eO rv) (by simpa [← hlen] using hb) fun h' tk ts hS hi k=>?_;exact⟨.ref s.heap.objs.size,_,I.laid (t':=tk) (o:=kr X.prog X.w s.heap.objs.size ts) (fun b o e=>k b o (aes e) e) (aep _) (wB hS),rfl,q _ ts I.fresh hi⟩
end
section
variable {prog:Program}{w:World}{A:Around}{R:Result->Shared->Prop}{s:Shared}
theorem uS {kx vx target iter:Expr}{ifs:List Expr}{scope:Scope}{pos:Pos}{it:Value}{D:Addr}{env:Env}(I:Nat->Shared->Prop)
 (turn:∀ n s,I n s->wpAny (model prog w) A (pyNext it) (fun r s₁=>match r with
  | none=>R (.ok .next) s₁
  | some v=>wpAny (model prog w) A (letOwnedTupleGo target it v) (fun _ s₁'=>wpAny (model prog w) A (assign target env v) (fun _ s₂ =>
   wpAny (model prog w) A (forIn ifs true fun c r=>if r=true then do let ok ← isTrue c env (eval c env);pure (ForInStep.yield ok) else pure (ForInStep.yield r)) (fun ok s₃ =>
    if ok=true then wpAny (model prog w) A (eval kx env) (fun kv s₄=>wpAny (model prog w) A (eval vx env) (fun vv s₅ =>
     wpAny (model prog w) A (dictSet D kv vv) (fun _ s₆=>∃ m,m < n/\I m s₆) (fun _ _=>False) s₅) (fun _ _=>False) s₄) (fun _ _=>False) s₃
    else ∃ m,m < n/\I m s₃) (fun _ _=>False) s₂) (fun _ _=>False) s₁') (fun _ _=>False) s₁) (fun _ _=>False) s)
 (n:Nat)(h:I n s) :
 codeAny (model prog w) A (.compLoop (.DictComp kx vx [⟨target,iter,ifs,0⟩] scope pos) 0 it (.ref D) env) R s:=by
 have no:∀ {E:Value->Shared->Prop} (x:Value) (s:Shared),False->E x s:=fun _ _ z=>z.elim;refine aiR rfl I (fun n s hI=>?_) n h;show wpAny _ A ((compTurn (.DictComp kx vx [⟨target,iter,ifs,0⟩] scope pos) 0 it (.ref D) env).onRaise (fun x=>do noteFrame x env;theTreesLotGoes x)) _ _ s;refine ajq ?_;rw [compTurn_dict];refine aei (afz (aei (aeV (turn n s hI) (fun r s₁ h₁=>?_) no)));cases r with
 | none=>exact aen h₁
 | some v =>
  refine aei (aeV h₁ (fun _ s₁' h₁'=>aei (aeV h₁' (fun _ s₂ h₂=>aei (aeV h₂ (fun ok s₃ h₃=>?_) no)) no)) no);cases ok with
  | false=>exact aen ⟨rfl,h₃⟩
  | true =>
   exact aei (aei (aeV h₃ (fun kv s₄ h₄=>aei (afd (aeV h₄ (fun vv s₅ h₅=>aei (afz (afd (aeV h₅ (fun _ s₆ h₆=>aen ⟨rfl,h₆⟩) no)))) no))) no))
end
def xm (nl:Nat)(ix:List Nat)(wi:TI)(g:TG)(tf:TT)(tk tv:TE):TE:=fun σ H Q=>wi σ H fun J H1=>∀ D,H1 D=none->∃ W:Nat->Nat->List (Key×V)->Hp->Prop,(∃ m,W 0 m [] (upd H1 D (.dK []))) ∧
 ∀ i m ys H2,W i m ys H2->H2 D=some (.dK ys)/\((J.stop i H2/\Q (.ref D) H2)\/(J.go i H2/\∀ x H3,J.yld i H2 x H3->g x (cP nl ix σ) H3 fun σ4 H4=>(σ4.length=(cP nl ix σ).length/\σ4.drop nl=ix.map fun j=>(σ[j]?).join)/\tf σ4 H4 fun b H5 =>
  if b=true then tk σ4 H5 fun z H6=>tv σ4 H6 fun y H7=>∃ k:Key,z=kV k/\H7 D=some (.dK ys)/\ys.length < sizeLine/\∃ m',m' < m/\W (i+1) m' (fY ys k y) (upd H7 D (.dK (fY ys k y))) else ∃ m',m' < m/\W (i+1) m' ys H5))
section
variable {X:Cx}
end
end L2
namespace L2
open PySem PySem.Spec PyProof.Rows PySem.W
section
variable {X:Cx}{pins:List (Addr×Obj)}{σ:St}{H:Hp}{s:Shared}{a:Addr}{o:Obj}{kvs:List (Key×V)}
theorem Inv.freeze (I:Inv X pins σ H s)(e:H a=some (.dK kvs))(ho:s.heap.get? a=some o):Inv X pins σ (upd H a (.frz o (.dK kvs))) s:=by
 have q:=I.hok a _ e;refine I.write (x:=a) (e:=a) (o:=.frz o (.dK kvs)) (h':=s.heap) (t':=s.toks) (by rw [e];exact True.intro) (.inl rfl) (fun b u _ z=>z) ⟨o,ho⟩ ⟨ho,?_⟩;exact q.stay (fun _ _ _ z=>z) (fun b z=>by rw [ak (xb z e (fun z=>nomatch z))];exact z) fun b xs z=>by rw [ak (xb z e (fun z=>nomatch z))];exact z
theorem Inv.notFrz (I:Inv X pins σ H s)(e:H a=some (.dK kvs)):∀ o u,X.H₀ a≠some (.frz o u):=fun o u z=>by
 have:=I.base.frzs a o u z;rw [e] at this;cases this
theorem Inv.thaw (I:Inv X pins σ H s)(e:H a=some (.frz o (.dK kvs)))(nf:∀ o u,X.H₀ a≠some (.frz o u)):Inv X pins σ (upd H a (.dK kvs)) s:=by
 have nt:∀ xs,X.H₀ a≠some (.tup xs):=fun xs z=>by have:=I.base.tups a xs z;rw [e] at this;cases this
 have nb:∀ ps,X.H₀ a≠some (.tbl ps):=fun ps z=>by obtain⟨_,q⟩:=I.base.tbls a ps z;rw [e] at q;cases q
 have ne:∀ {b},H b=none->b≠a:=fun h z=>by subst z;rw [e] at h;cases h
 refine⟨I.ok,I.os,I.bare,⟨I.base.keep,I.base.slot,fun b ob q n hx=>?_,I.base.there,fun b xs z=>?_,fun b ob u z=>?_,fun b ps z=>?_⟩,I.loc,I.cell,?_,fun x c z=>?_,fun p hp=>?_,fun b u z=>?_,I.len⟩
 ·have:=I.base.free b ob q n hx;rw [ak (ne this)];exact this
 ·rw [ak (show b≠a from fun w=>by subst w;exact nt xs z)];exact I.base.tups b xs z
 ·rw [ak (show b≠a from fun w=>by subst w;exact nf ob u z)];exact I.base.frzs b ob u z
 ·rw [ak (show b≠a from fun w=>by subst w;exact nb ps z)];exact I.base.tbls b ps z
 ·rw [ak (ne I.free)];exact I.free
 ·rw [ak (ne (I.freeC x c z))];exact I.freeC x c z
 ·obtain⟨p1,p2,p3⟩:=I.pin p hp;exact⟨p1,by rw [ak (ne p2)];exact p2,p3⟩
 ·have st:∀ {c w},ObjOk X.prog X.w H s.heap c w->ObjOk X.prog X.w (upd H a (.dK kvs)) s.heap c w:=fun {c w} q =>
   q.stay (fun _ _ _ z=>z) (fun b z=>by rw [ak (xb z e (fun z=>nomatch z))];exact z) fun b xs z=>by rw [ak (xb z e (fun z=>nomatch z))];exact z
  by_cases hb:b=a
  ·subst hb;rw [af] at z;cases z;exact st (I.hok _ _ e).2
  ·rw [ak hb] at z;exact st (I.hok b u z)
end
def ItK (a:Addr)(o:Obj)(kvs:List (Key×V)):It :=
 ⟨fun i H=>i < kvs.length/\H a=some (.frz o (.dK kvs)),fun i H x H'=>H'=H/\∃ k v,kvs[i]? = some (k,v)/\x=kV k,fun i H=>i=kvs.length/\H a=some (.frz o (.dK kvs))⟩
theorem oF {P:Program}{w:World}{k:Key}{u:Value}(h:(aX P w).is k u=true):RelV (kV k) u:=by
 rcases bT h with ⟨i,t,rfl,rfl⟩ | ⟨x,t,rfl,rfl⟩
 ·exact⟨t,rfl⟩
 ·exact⟨t,rfl⟩
theorem xN {P:Program}{w:World}{K:PySem.W.Frag}{tg:Expr}(a it:Addr)(o:Obj)(kvs:List (Key×V))(ep:Nat)(hep:∃ es,o.data=.dict es ep):yr P w K tg (ItK a o kvs) [it] it (fun i h=>h.IsKeyIter it a i kvs.length ep) where
 mem:=by simp
 obj:=fun i h st b hb=>by
  have e:b=it:=by simpa using hb
  subst e;obtain⟨o,e,c,d⟩:=st;exact⟨o,e,fun v z=>by rw [d] at z;cases z⟩
 keep:=fun i h h' st k=>st.at fun o e=>k it (by simp) o e
 item:=by
  intro X hP hw hK hc i pins s σ H E I hf st hg;subst hP hw hK;obtain⟨hi,hH⟩:=hg;obtain⟨ho,_,_,vs,rel,dd⟩:=I.hok a _ hH;obtain⟨ep',da⟩:=dd.dictAt;have ee:ep'=ep:=by
   obtain⟨es,h1⟩:=hep;obtain⟨o',es',h2,_,h3,_⟩:=id da;rw [ho] at h2;cases h2;rw [h1] at h3;injection h3 with _ z
   exact z.symm
  subst ee;have hl:=rel.length;obtain⟨⟨k,v⟩,hx⟩:∃ p,vs[i]? = some p:=⟨vs[i],by simp [← hl,hi]⟩;obtain⟨f0,f1,f2,f3,f4,f5⟩:=hf it (by simp);refine wpAny_pyNext_dict_item (knd:=aX X.prog X.w) (by rw [← hl];exact st) da hx fun key h' hkey hit' hs'=>?_;rw [← hl] at hit';have I1:Inv X pins σ H { s with heap:=h' }:=I.turned (t':=s.toks) (fun b o hb e=>(hs'.2 b hb).trans e) f0 f1 f3 f4 f5;have hk:∃ v',kvs[i]? = some (k,v'):=by
   have e1:(kvs.map (·.1))[i]? = some k:=by rw [rel.keys,aer,hx];rfl
   rw [aer] at e1;cases q:kvs[i]? with
   | none=>rw [q] at e1;cases e1
   | some p=>rw [q] at e1;cases e1;exact⟨p.2,rfl⟩
  obtain⟨v',hv'⟩:=hk;obtain⟨oi,e,c,d⟩:=id hit';exact⟨key,rfl,yG (s:={ s with heap:=h' }) e c d (by decide) ⟨kV k,H,I1,oF hkey,⟨rfl,k,v',hv',rfl⟩,hit',fun b hb=>(hf b hb).1⟩⟩
 done:=by
  intro X hP hw hK hc i pins s σ H E I hf st hg;subst hP hw hK;obtain⟨hi,hH⟩:=hg;obtain⟨ho,_,_,vs,rel,dd⟩:=I.hok a _ hH;obtain⟨ep',da⟩:=dd.dictAt;have ee:ep'=ep:=by
   obtain⟨es,h1⟩:=hep;obtain⟨o',es',h2,_,h3,_⟩:=id da;rw [ho] at h2;cases h2;rw [h1] at h3;injection h3 with _ z
   exact z.symm
  subst ee;have hl:=rel.length;obtain⟨f0,f1,f2,f3,f4,f5⟩:=hf it (by simp);exact wpAny_pyNext_dict_end (knd:=aX X.prog X.w) (I.ok.hd hc) (by rw [← hl];exact st) da (by rw [hi,hl];simp) fun h' eb=>⟨rfl,I.turned (t':=s.toks) (fun b o hb e=>eb b o hb e) f0 f1 f3 f4 f5⟩
 self:=fun _ _ _ _ _ st h=>wpAny_pyIter_keyiter st h
def adq (H₀:Hp)(td:TE):TI:=fun σ H R=>td σ H fun x H1=>∃ a kvs,x=.ref a/\H1 a=some (.dK kvs)/\∀ o,(∀ o' u,H₀ a≠some (.frz o' u))->R (ItK a o kvs) (upd H1 a (.frz o (.dK kvs)))
section
variable {X:Cx}{tg:Expr}
theorem wx {l:Expr}{tl:TE}{H₀:Hp}(hH:X.H₀=H₀)(hl:PE X l tl):PI X tg l (adq H₀ tl):=by
 subst hH;intro pins s σ H R I h;refine thn (hl pins s σ H _ I h) fun v s1 ⟨y,H1,I1,r1,q1⟩=>?_;obtain⟨a,kvs,rfl,e,q⟩:=q1;cases r1;obtain⟨z,hd,vs,rel,dd⟩:=vz I1.hok e;obtain⟨ep,da⟩:=dd.dictAt;refine wpAny_pyIter_dict (knd:=aX X.prog X.w) hd da ?_;obtain⟨o,es,ho,_,hes,_⟩:=id da;have I2:=(I1.freeze e ho).kept (t':=s1.toks) (h':=s1.heap.push { cls:=.type "dict_keyiterator",data:=.fields #[.ref a,.int 0 0,.int vs.length 0,.int ep 0] }) fun b o e=>ael _ e;have hn:(upd H1 a (.frz o (.dK kvs))) s1.heap.objs.size=none:=by
  have:=I1.fresh;rw [ak (fun z=>by rw [z,e] at this;cases this)];exact this
 refine⟨s1.heap.objs.size,[s1.heap.objs.size],_,ItK a o kvs,upd H1 a (.frz o (.dK kvs)),rfl,I2,xN a _ o kvs ep ⟨es,hes⟩,⟨_,aeF _ rfl,rfl,by rw [rel.length];rfl⟩,fun b hb=>?_,q o (I1.notFrz e)⟩;have e:b=s1.heap.objs.size:=by simpa using hb
 subst e;exact I1.fpOk (aep _) hn
def adv (H₀:Hp)(t:TS):TS:=fun D σ H=>∃ a o kvs,H a=some (.frz o (.dK kvs))/\(∀ o' u,H₀ a≠some (.frz o' u))/\t D σ (upd H a (.dK kvs))
theorem ux {sts:List Stmt}{t:TS}{H₀:Hp}(hH:X.H₀=H₀)(h:PSs X sts t):PSs X sts (adv H₀ t):=by
 subst hH;intro pins s σ H D I hw;obtain⟨a,o,kvs,e,nf,q⟩:=hw;exact h pins s σ _ D (I.thaw e nf) q
end
section
variable {X:Cx}
end
end L2
namespace L2
open PySem PySem.Spec PyProof.Rows
def jD (nl:Nat)(ix:List Nat)(g:TG)(tf:TT)(tk tv:TE)(σ:St)(D:Addr)(ys:List (Key×V))(H:Hp)(x:V)(nxt:List (Key×V)->Hp->Prop):Prop :=
 g x (cP nl ix σ) H fun σ4 H4=>(σ4.length=(cP nl ix σ).length/\σ4.drop nl=ix.map fun j=>(σ[j]?).join)/\tf σ4 H4 fun b H5 =>
  if b=true then tk σ4 H5 fun z H6=>tv σ4 H6 fun y H7=>∃ k:Key,z=kV k/\H7 D=some (.dK ys)/\ys.length < sizeLine/\nxt (fY ys k y) (upd H7 D (.dK (fY ys k y))) else nxt ys H5
def w8 (nl:Nat)(ix:List Nat)(g:TG)(tf:TT)(tk tv:TE)(σ:St)(J:It)(H1:Hp)(D:Addr)(Q:VK):Prop :=
 ∃ W:Nat->Nat->List (Key×V)->Hp->Prop,(∃ m,W 0 m [] (upd H1 D (.dK []))) ∧
 ∀ i m ys H2,W i m ys H2->H2 D=some (.dK ys)/\((J.stop i H2/\Q (.ref D) H2)\/(J.go i H2/\∀ x H3,J.yld i H2 x H3->jD nl ix g tf tk tv σ D ys H3 x fun ys' H'=>∃ m',m' < m/\W (i+1) m' ys' H'))
theorem zO (nl:Nat)(ix:List Nat)(wi:TI)(g:TG)(tf:TT)(tk tv:TE)(σ:St)(H:Hp)(Q:VK)(h:wi σ H fun J H1=>∀ D,H1 D=none->w8 nl ix g tf tk tv σ J H1 D Q):xm nl ix wi g tf tk tv σ H Q:=h
section
variable {nl:Nat}{ix:List Nat}{g:TG}{tf:TT}{tk tv:TE}{σ:St}{H1:Hp}{D:Addr}{Q:VK}(Pv:Nat->List (Key×V)->Hp->Prop)
theorem aa4 {J:It}{n:Nat}(h0:Pv 0 [] (upd H1 D (.dK [])))(hD:∀ i ys H,Pv i ys H->H D=some (.dK ys))(go:∀ i ys H,i < n->Pv i ys H->J.go i H)(stop:∀ ys H,Pv n ys H->J.stop n H)
 (hs:∀ i ys H x H',i < n->Pv i ys H->J.yld i H x H'->jD nl ix g tf tk tv σ D ys H' x fun ys' H'=>Nx n i (Pv (i+1) ys' H'))
 (hd:∀ ys H,Pv n ys H->Q (.ref D) H):w8 nl ix g tf tk tv σ J H1 D Q:=by
 refine⟨fun i m ys H=>m=n - i/\i<=n/\Pv i ys H,⟨n,by simp,aeM _,h0⟩,?_⟩;rintro i m ys H ⟨rfl,hi,p⟩;refine⟨hD i ys H p,?_⟩;by_cases hlt:i < n
 ·exact .inr ⟨go i ys H hlt p,fun x H' y=>hs i ys H x H' hlt p y⟩
 ·have e:i=n:=by lia
  subst e;exact .inl ⟨stop ys H p,hd ys H p⟩
end
theorem u7 {nl:Nat}{ix:List Nat}{tk tv:TE}{σ:St}{D:Addr}{ys:List (Key×V)}{H:Hp}{x:V}{nxt:List (Key×V)->Hp->Prop}{i:Nat}(h1:((cP nl ix σ).set i (some x)).drop nl=ix.map fun j=>(σ[j]?).join)
 (h:tk ((cP nl ix σ).set i (some x)) H fun z H6=>tv ((cP nl ix σ).set i (some x)) H6 fun y H7=>∃ k:Key,z=kV k/\H7 D=some (.dK ys)/\ys.length < sizeLine/\nxt (fY ys k y) (upd H7 D (.dK (fY ys k y)))):jD nl ix (cI i) vG tk tv σ D ys H x nxt:=by
 unfold jD cI vG;dsimp only;rw [if_pos rfl];exact⟨⟨by simp,h1⟩,h⟩
theorem qx {nl:Nat}{ix:List Nat}{te:TE}{tf:TT}{σ:St}{D:Addr}{ys:List V}{H:Hp}{x:V}{nxt:List V->Hp->Prop}{i:Nat}(h1:((cP nl ix σ).set i (some x)).drop nl=ix.map fun j=>(σ[j]?).join)
 (h:tf ((cP nl ix σ).set i (some x)) H fun b H5=>if b=true then te ((cP nl ix σ).set i (some x)) H5 fun y H6=>H6 D=some (.lst ys)/\ys.length < sizeLine/\nxt (ys++[y]) (upd H6 D (.lst (ys++[y]))) else nxt ys H5):dr nl ix (cI i) tf te σ D ys H x nxt:=by
 unfold dr cI;dsimp only;exact⟨⟨by simp,h1⟩,h⟩
theorem zf {kvs:List (Key×V)}{k:Key}{v:V}(h:eV kvs k=some v):(k,v)∈kvs:=by
 unfold eV at h;cases e:kvs.find? fun kv=>decide (kv.1=k) with
 | none=>rw [e] at h;cases h
 | some p =>
  rw [e] at h;have h':p.2=v:=by simpa using h
  have hp:=List.find?_some e;have hk:p.1=k:=by simpa using hp
  have:=List.mem_of_find?_eq_some e;obtain⟨p1,p2⟩:=p;simp only at h' hk;subst h' hk;exact this
theorem wU {kvs:List (Key×V)}{k:Key}(h:eV kvs k=none):k ∉ kvs.map (·.1):=by
 intro hm;obtain⟨p,hp,e⟩:=aeL.mp hm;unfold eV at h;rw [Option.map_eq_none_iff] at h;have:=List.find?_eq_none.mp h p hp;simp [e] at this
theorem zA (kvs:List (Key×V))(k:Key)(v:V):((fY kvs k v).map (·.1)=kvs.map (·.1)/\k∈kvs.map (·.1))\/((fY kvs k v).map (·.1)=kvs.map (·.1)++[k]/\k ∉ kvs.map (·.1)):=by
 cases e:eV kvs k with
 | none =>
  rw [tS v e];exact .inr ⟨by simp,wU e⟩
 | some y =>
  have hm:=zf e;have hk:k∈kvs.map (·.1):=aeL.mpr ⟨_,hm,rfl⟩;refine .inl ⟨?_,hk⟩;unfold fY;have ha:(kvs.any fun kv=>decide (kv.1=k))=true:=by rw [gy,e];rfl
  rw [if_pos ha,aeZ];apply agj;intro p _;show (if p.1=k then (p.1,v) else p).1=p.1;split<;>rfl
def adV (t:TS):TS:=fun D σ H=>∃ N:St->Hp->Prop,(∀ σ' H',N σ' H'->D.nx σ' H')/\t { D with nx:=N } σ H
theorem bz {X:Cx}{st:Stmt}{t:TS}(h:PS X st t):PS X st (adV t):=by
 intro pins s σ H D I hw;obtain⟨N,hN,q⟩:=hw;refine thn (h pins s σ H _ I q) fun f s1 q1=>?_;cases f with
 | next=>obtain⟨σ',H',I',n⟩:=q1;exact⟨σ',H',I',hN _ _ n⟩
 | brk=>exact q1
 | cont=>exact q1
 | ret u=>exact q1
theorem qv (a b:Str):(a++b).cps.toList=a.cps.toList++b.cps.toList:=by
 show (a.cps++b.cps).toList=_;simp
section
variable {X:Cx}{outer scope:Scope}{N N':List Str}{nl:Nat}{ix:List Nat}{tg iter:Expr}{ifs:List Expr}{pos:Pos}{wi:TI}{g:TG}{tf:TT}
theorem iV {elt:Expr}{te:TE}(h1:X.env.scope=outer)(h2:X.N=N)(hc:X.calm=true)(hi:PI X tg iter wi)
 (hg:∀ C fp s₀ H₀,PG (X.comp scope N' C fp s₀ H₀) tg g)(hf:∀ C fp s₀ H₀,PIf (X.comp scope N' C fp s₀ H₀) ifs tf)(he:∀ C fp s₀ H₀,PE (X.comp scope N' C fp s₀ H₀) elt te)
 (hck:jG outer scope N N' nl ix=true:=by decide +kernel)(hs:∀ x,foldedSetIterable iter X.env x=pure x:=by intro _;rfl):PE X (.ListComp elt [⟨tg,iter,ifs,0⟩] scope pos) (lU nl ix wi g tf te) :=
 let ⟨S,Cp⟩:=jo h1 h2 hck
 lg hc S Cp hi hg hf he hs
end
section
variable {X:Cx}{pins:List (Addr×Obj)}{σ:St}{H:Hp}{s:Shared}{h':Heap}
theorem Inv.turnedL {t':Nat}{fp:List Addr}(I:Inv X pins σ H s)(k:∀ b o,b ∉ fp->s.heap.get? b=some o->h'.get? b=some o)(hf:∀ b∈fp,jV X pins H b):Inv X pins σ H { s with heap:=h',toks:=t' }:=by
 have nit:∀ b u,H b=some u->b ∉ fp:=fun b u e z=>by have:=(hf b z).1;rw [e] at this;cases this
 refine I.step (g':=s.gens) (d':=s.drawn) (ch:=fp) (fun b hb=>?_) (fun b o _ _ hc e _=>k b o hc e) (fun b o _ _ hc e _=>⟨o.slots,k b o hc e⟩) (fun _ _ _ _ n=>n)
  (fun b o hc e=>⟨o,k b o hc e⟩) (fun _ _ e=>e) (fun _ _ _ e=>e) (fun b ps e=>⟨#[],by rw [e];simp⟩) (fun m hm=>?_) (fun b u e=>?_) I.bare
 ·obtain⟨f0,f1,f2,f3,f4,f5⟩:=hf b hb;exact⟨f3,f1,f4,f5⟩
 ·obtain⟨o,es,ep,ho,r⟩:=hm;exact⟨o,es,ep,k _ o (fun z=>(hf _ z).2.1 rfl) ho,r⟩
 ·refine (I.hok b u e).stay (fun c v hc q=>k c v ?_ q) (fun _ q=>q) fun _ _ q=>q;rcases hc with z | z
  ·rw [z];exact nit b u e
  ·exact nit c _ z
theorem Inv.turnedNew {t':Nat}{fp:List Addr}{a:Addr}{o:HO}(I:Inv X pins σ H s)(k:∀ b o,b ∉ fp->s.heap.get? b=some o->h'.get? b=some o)(hf:∀ b∈fp,jV X pins H b)(hp:s.heap.objs.size<=a)(new:ObjOk X.prog X.w (upd H a o) h' a o) :
 Inv X pins σ (upd H a o) { s with heap:=h',toks:=t' }:=by
 have ha:H a=none:=I.hok.fresh hp;have nit:∀ b u,H b=some u->b ∉ fp:=fun b u e z=>by have:=(hf b z).1;rw [e] at this;cases this
 have up:∀ {b u},H b=some u->upd H a o b=some u:=fun {b u} e=>by rw [ak (ar e ha)];exact e
 refine I.step (g':=s.gens) (d':=s.drawn) (ch:=fp) (fun b hb=>?_) (fun b o _ _ hc e _=>k b o hc e) (fun b o _ _ hc e _=>⟨o.slots,k b o hc e⟩) (fun b ob _ e n=>?_)
  (fun b o hc e=>⟨o,k b o hc e⟩) (fun _ _ e=>up e) (fun _ _ _ e=>up e) (fun b ps e=>⟨#[],by rw [up e];simp⟩) (fun m hm=>?_) (fun b u e=>?_) I.bare
 ·obtain⟨f0,f1,f2,f3,f4,f5⟩:=hf b hb;exact⟨f3,f1,f4,f5⟩
 ·rw [ak (aeA (aeB (aes e) hp))];exact n
 ·obtain⟨o,es,ep,ho,r⟩:=hm;exact⟨o,es,ep,k _ o (fun z=>(hf _ z).2.1 rfl) ho,r⟩
 ·by_cases hb:b=a
  ·subst hb;rw [af] at e;cases e;exact new
  ·rw [ak hb] at e;refine (I.hok b u e).stay (fun c v hc q=>k c v ?_ q) (fun _ q=>up q) fun _ _ q=>up q;rcases hc with z | z
   ·rw [z];exact nit b u e
   ·exact nit c _ z
end
def ItE (K:PySem.W.Frag)(a:Addr):It :=
 ⟨fun i H=>∃ xs x,SqL K H a xs/\xs[i]? = some x,fun i H x H'=>∃ T v,x=.ref T/\H T=none/\H'=upd H T (.tup [.int (i:Int),v])/\∀ xs,SqL K H a xs->xs[i]? = some v,fun i H=>∃ xs,SqL K H a xs/\xs.length<=i⟩
theorem xK {P:Program}{w:World}{K:PySem.W.Frag}{es:List Expr}{kk:Nat}{tp:Pos}(a e it:Addr)(hei:e≠it):yr P w K (.Tuple es kk tp) (ItE K a) [e,it] e (fun i h=>(∃ old,IsEnum h e it (i:Int) old)/\h.IsListIter it a i) where
 mem:=by simp
 obj:=fun i h st b hb=>by
  obtain⟨⟨old,he⟩,hi⟩:=st;rcases aeu.mp hb with z | hb
  ·rw [z];exact⟨_,he,fun v z=>by cases z⟩
  ·rw [aeq.mp hb];obtain⟨o,e,c,d⟩:=hi;exact⟨o,e,fun v z=>by rw [d] at z;cases z⟩
 keep:=fun i h h' st k=>⟨let ⟨old,he⟩:=st.1;⟨old,k e (by simp) _ he⟩,st.2.at fun o e=>k it (by simp) o e⟩
 item:=by
  intro X hP hw hK hc i pins s σ H E I hf st hg;subst hP hw hK;obtain⟨xs,x,hq,hx⟩:=hg;obtain⟨its,rv,p,hz⟩:=I.list hq;obtain⟨u,hu,ru⟩:=rv.get hx;obtain⟨⟨old,he⟩,hit⟩:=st;refine wpAny_pyNext_enum_item he hit p.isList (x:=u) (by simpa using hu) hei fun h' ho hit' hT hsz k=>?_;have hh:∀ b o,b ∉ [e,it]->s.heap.get? b=some o->h'.get? b=some o:=fun b o hb q=>k b o (fun z=>hb (by simp [z])) (fun z=>hb (by simp [z])) q;refine⟨_,rfl,wpAny_letOwnedTupleGo_enum ho fun h2 he2 hs2=>?_⟩;have eT:s.heap.objs.size≠e:=agZ (aes he);have hT2:h2.get? s.heap.objs.size=some { cls:=.type "tuple",data:=.seq #[.int i s.toks,u] }:=(hs2.2 _ eT).trans hT;have hh2:∀ b o,b ∉ [e,it]->s.heap.get? b=some o->h2.get? b=some o:=fun b o hb q=>(hs2.2 b (fun z=>hb (by simp [z]))).trans (hh b o hb q);have I2:=I.turnedNew (t':=s.toks+1) (h':=h2) (o:=.tup [.int (i:Int),x]) hh2 hf (aep _) ⟨by show 2<=sizeLine;decide,[.int i s.toks,u],.cons ⟨_,rfl⟩ (.cons ru .nil),_,hT2,rfl,_,rfl⟩;have fr:H s.heap.objs.size=none:=I.fresh;refine⟨.ref s.heap.objs.size,_,I2,rfl,⟨_,x,rfl,fr,rfl,fun ys hy=>by rw [I.list_inj hy hq];exact hx⟩,⟨⟨_,by simpa using he2⟩,hit'.at fun o q=>(hs2.2 it (afO hei)).trans q⟩,fun b hb=>?_⟩;have hlt:b < s.heap.objs.size:=by
   rcases aeu.mp hb with z | hb
   ·rw [z];exact aes he
   ·rw [aeq.mp hb];obtain⟨o,q,_⟩:=hit;exact aes q
  rw [ak (aeA hlt)];exact (hf b hb).1
 done:=by
  intro X hP hw hK hc i pins s σ H E I hf st hg;subst hP hw hK;obtain⟨xs,hq,hx⟩:=hg;obtain⟨its,rv,p,hz⟩:=I.list hq;obtain⟨⟨old,he⟩,hit⟩:=st;have hl:=rv.length;exact wpAny_pyNext_enum_end (I.ok.hd hc) he hit p.isList (by simp;lia) fun h' eb=>⟨rfl,I.turnedL (t':=s.toks) (fun b o hb q=>eb b o (fun z=>hb (by simp [z])) q) hf⟩
 self:=fun _ _ _ _ _ st h=>let ⟨⟨_,he⟩,_⟩:=st;wpAny_pyIter_enum he h
def abI (K:PySem.W.Frag)(ta:TA):TI:=fun σ H R=>ta σ H fun vs H1=>∃ a,vs=[.ref a]/\(∃ xs,SqL K H1 a xs)/\R (ItE K a) H1
section
variable {X:Cx}
theorem nk:bootBuiltins "enumerate" = some (.type "enumerate"):=by decide +kernel
theorem pK {a:Expr}{ta:TA}{p pos:Pos}{es:List Expr}{kk:Nat}{tp:Pos}(hg:Gl X "enumerate")(hm:X.mg "enumerate" = none)(ha:PA X [a] ta)(hs:starEach [a] X.env=[(false,eval a X.env)]:=by rfl):PI X (.Tuple es kk tp) (.Call (.Name "enumerate" p) [a] [] pos) (abI X.K ta):=by
 intro pins s σ H R I h;refine Call_ (jx I hg hm nk (afp (thn (ha pos pins s σ H _ I h) fun us s1 ⟨vs,H1,I1,r1,q1⟩=>?_) hs rfl));obtain⟨a,e,⟨xs,hq⟩,q⟩:=q1;subst e;obtain⟨u,rfl,ru⟩:=iE r1;cases ru;obtain⟨its,rv,p,hz⟩:=I1.list hq;refine call_enumerate_list p.isList fun h' he hi hsz k=>?_;have I2:Inv X pins σ H1 { s1 with heap:=h' }:=I1.kept (t':=s1.toks) k;refine wpAny_pyIter_enum he ⟨s1.heap.objs.size+1,[s1.heap.objs.size+1,s1.heap.objs.size],_,ItE X.K a,H1,rfl,I2,xK a _ _ (Nat.succ_ne_self _),⟨⟨_,he⟩,hi⟩,fun b hb=>?_,q⟩;rcases aeu.mp hb with z | hb
 ·rw [z];exact I1.fpOk (afh _) (I1.hok.fresh (afh _))
 ·rw [aeq.mp hb];exact I1.fpOk (aep _) I1.fresh
end
theorem ue {K:PySem.W.Frag}{a:Addr}{xs:List V}{g:TG}{tb:TS}{D:Ends}{σ:St}{H:Hp}(Pv:Nat->St->Hp->Prop)(h0:Pv 0 σ H)(hl:∀ i σ H,i<=xs.length->Pv i σ H->SqL K H a xs)
 (hs:∀ i x σ H T,xs[i]? = some x->Pv i σ H->H T=none->g (.ref T) σ (upd H T (.tup [.int (i:Int),x])) fun σ2 H2=>tb { D with nx:=Pv (i+1),ct:=Pv (i+1),bk:=D.nx } σ2 H2)(hd:∀ σ H,Pv xs.length σ H->D.nx σ H) :
 ∃ W:Nat->Nat->St->Hp->Prop,(∃ m,W 0 m σ H)/\∀ i m σ H,W i m σ H →
  ((ItE K a).stop i H/\D.nx σ H)\/((ItE K a).go i H/\∃ N:St->Hp->Prop,(∀ σ' H',N σ' H'->∃ m',m' < m/\W (i+1) m' σ' H')/\∀ x H',(ItE K a).yld i H x H'->g x σ H' fun σ2 H2=>tb { D with nx:=N,ct:=N,bk:=D.nx } σ2 H2):=by
 refine⟨fun i m σ H=>m=xs.length - i/\i<=xs.length/\Pv i σ H,⟨xs.length,by simp,aeM _,h0⟩,?_⟩;rintro i m σ H ⟨rfl,hi,p⟩;have q:=hl i σ H hi p;by_cases hlt:i < xs.length
 ·refine .inr ⟨⟨xs,xs[i],q,by simp [hlt]⟩,Pv (i+1),fun σ' H' p'=>⟨xs.length - (i+1),by lia,rfl,hlt,p'⟩,fun x H' y=>?_⟩;obtain⟨T,v,ex,hT,eH,hv⟩:=y;subst ex eH;exact hs i v σ H T (hv xs q) p hT
 ·have e:i=xs.length:=by lia
  subst e;exact .inl ⟨⟨xs,q,aep _⟩,hd σ H p⟩
theorem qf {nl:Nat}{ix:List Nat}{g:TG}{tf:TT}{te:TE}{σ:St}{H1:Hp}{D:Addr}{Q:VK}(Pv:Nat->List V->Hp->Prop){K:PySem.W.Frag}{a:Addr}{xs:List V}(h0:Pv 0 [] (upd H1 D (.lst [])))(hD:∀ i ys H,Pv i ys H->H D=some (.lst ys))(hl:∀ i ys H,Pv i ys H->SqL K H a xs)
 (hs:∀ i ys H x T,xs[i]? = some x->Pv i ys H->H T=none->dr nl ix g tf te σ D ys (upd H T (.tup [.int (i:Int),x])) (.ref T) fun ys' H'=>Nx xs.length i (Pv (i+1) ys' H'))(hd:∀ ys H,Pv xs.length ys H->Q (.ref D) H):jF nl ix g tf te σ (ItE K a) H1 D Q:=by
 refine qa (n:=xs.length) Pv h0 hD (fun i ys H hi p=>⟨xs,xs[i],hl i ys H p,by simp [hi]⟩) (fun ys H p=>⟨xs,hl _ ys H p,aep _⟩) (fun i ys H x H' hi p y=>?_) hd;obtain⟨T,v,ex,hT,eH,hv⟩:=y;subst ex eH;exact hs i ys H v T (hv xs (hl i ys H p)) p hT
section
variable {prog:Program}{w:World}{A:Around}{E:Value->Shared->Prop}{s:Shared}
end
section
variable {X:Cx}
variable {o e:Expr}{es:List Expr}{to:TE}{t:TA}{name:Str}{apos cpos:Pos}{T id:String}{r:V->List V->Hp->VK->Prop}{ty:V->Hp->Prop}
def abg (P:Program)(w:World):V->List V->Hp->VK->Prop:=fun x vs H Q=>∃ a ss z,x=.ref a/\vs=[.str z]/\H a=some (kr P w a ss)/\ss.length+1 < scanBound/\∀ ss',((z∈ss/\ss'=ss)\/(z ∉ ss/\ss'.Perm (ss++[z])))->ss'.Nodup->Q .non (upd H a (kr P w a ss'))
theorem uP:MtM X "set.add" (abg X.prog X.w):=by
 intro pins s σ H x vs v us Q I rx rv h;obtain⟨a,ss,z,rfl,rfl,e,hr,q⟩:=h;cases rx;obtain⟨u,rfl,t,rfl⟩:=rv.one;have tx:=aag I.hok e;refine afU F.slot_set_add tx.setOf.typeIs F.entry_set_add ?_ (F.args_set_add_2 _ _);unfold Builtin.«set.add» Builtin.Frozenset.oneOther;simp only [List.isEmpty_nil,bind_assoc];unfold Builtin.Frozenset.addrOf setAdd;refine aei (aen ?_)
 try dsimp only
 refine aei (aen ?_)
 try dsimp only
 refine aei ?_;refine afd ?_;refine aei ((PySem.strKind X.prog X.w).pyHash (k:=z) ((rp rfl).mpr rfl) ?_);refine i5 (s:={ s with toks:=s.toks+1 }) tx hr fun h' ss' hsb tx' alt=>?_;show wpAny _ _ (ret Value.none) _ _ _;refine aen ⟨_,rfl,.non,_,lO (t':=s.toks+1) (I.tok (s.toks+1)) (by rw [e];exact True.intro) hsb ?_ (wB tx'),rfl,q ss' alt tx'.nd⟩;obtain⟨_,_,_,T,_⟩:=tx';exact⟨_,T.get⟩
theorem zI:adI X (fun x y H Q=>∃ p xs i v,x=.ref p/\y=.int (i:Nat)/\SqL X.K H p xs/\xs[i]? = some v/\Q v H):=by
 intro pins s σ H x y v u Q I rx ry h;obtain⟨p,xs,i,z,rfl,rfl,hq,he,q⟩:=h;cases rx;obtain⟨t,rfl⟩:=ry;obtain⟨its,r,pl,hz⟩:=I.list hq;obtain⟨w,ew,rw'⟩:=r.get he;have hi:i < xs.length:=(aek.mp he).1;have hn:=kI;exact wpAny_getItem_list pl.isList (by lia) (by lia) (by simpa using ew) ⟨z,H,I,rw',q⟩
end
section
variable {X:Cx}{K:PySem.W.Frag}{P:Program}{w:World}
theorem j7 (hK:X.K=K):OpR X (compareOp .In) (rIn K false):=by subst hK;exact vW
theorem o7 (hK:X.K=K):OpR X (compareOp .NotIn) (rIn K true):=by subst hK;exact dO
theorem fj:gI X (.builtin "sorted") (fun xs H Q=>∃ (p:Addr) (ns:List Int),xs=[.ref p]/\SqL X.K H p (ns.map V.int)/\ns.length < 64/\∀ (l:Addr) (ns':List Int),H l=none->ns'.Perm ns->ns'.Pairwise (·<=·)->Q (.ref l) (upd H l (.lst (ns'.map V.int)))):=by
 intro pins s σ H xs us Q I r h;obtain⟨p,ns,rfl,hq,hl,q⟩:=h;obtain⟨u,rfl,rx⟩:=iE r;cases rx;obtain⟨its,rv,pl,hz⟩:=I.list hq;have hlen:=rv.length;rw [aej] at hlen;refine sorted_ints pl.isList (vB rv) (by lia) fun out ns' a1 a2 a3=>?_;obtain⟨e,he⟩:=sortedAll_at s.heap its out;have hlen':ns'.length=ns.length:=a2.length_eq;refine⟨.ref (s.heap.objs.size+1),_,I.laid (t':=s.toks) (o:=.lst (ns'.map V.int)) (fun b o e=>sortedAll_old e) (afh _) ⟨?_,out.toList,e,m7 a1,?_⟩,rfl,q _ ns' (I.hok.fresh (afh _)) a2 a3⟩
 ·rw [aej];exact af1 (aeB (by lia:ns'.length < 64) (by decide))
 ·simpa using he
end
section
variable {X:Cx}
theorem yF {i:Nat}{x:Str}{pos' spos:Pos}{elt tg iter:Expr}{ifs:List Expr}{scope:Scope}{pos:Pos}{N':List Str}{nl:Nat}{ix:List Nat}{wi:TI}{g:TG}{tf:TT}{te:TE}(hN:X.N.Nodup)(hi':X.N[i]? = some x)(hx:Loc X.env.scope x)
 (hc:X.calm=true)(S:CompScope X scope)(Cp:zp X scope N' nl ix)(hi:PI X tg iter wi)
 (hg:∀ C fp s₀ H₀,PG (X.comp scope N' C fp s₀ H₀) tg g)(hf:∀ C fp s₀ H₀,PIf (X.comp scope N' C fp s₀ H₀) ifs tf)(he:∀ C fp s₀ H₀,PE (X.comp scope N' C fp s₀ H₀) elt te)
 (hsw:swapsWith (.ListComp elt [⟨tg,iter,ifs,0⟩] scope pos) (some (.Name x pos')) spos.line X.env=pure true)
 (hs:∀ x,foldedSetIterable iter X.env x=pure x)(hfn:X.fn x=true\/X.env.scope.names.lookup x=some .local):PS X (.Assign [.Name x pos'] (.ListComp elt [⟨tg,iter,ifs,0⟩] scope pos) spos) (vE (lU nl ix wi g tf te) (cI i)):=by
 intro pins s σ H D I h;rw [exec_Assign_Name_used _ _ _ _ hsw];refine aei (afz (aei ?_));show wpAny _ X.A (do let _ ← comprehension (.ListComp elt [⟨tg,iter,ifs,0⟩] scope pos) scope X.env _ (newList []) false (eval iter X.env) (some (assign (.Name x pos') X.env))) _ _ s;refine aei (aeV (af5 (use:=some (assign (.Name x pos') X.env)) (cl:=jr X.env scope.names []) (Q:=fun _ s'=>∃ σ' H',Inv X pins σ' H' s'/\D.nx σ' H') rfl hs (gi (S.cells I.ok)) S.kind S.loc ?_) (fun _ s' hq=>aen (aen hq)) fun _ _ e=>e);refine thn (hi pins s σ H _ I h) fun v s1 h1=>thn h1 fun itv s2 h2=>?_;obtain⟨it,fp,tn,J,H2,rfl,I2,T,st2,f2,h2⟩:=h2;obtain⟨W,⟨m0,w0⟩,turn⟩:=h2 s2.heap.objs.size I2.fresh;refine afJ (ahb S.nocell (by intro y hy;simp at hy) (fun h₁ hns₁ hsb₁=>?_) S.kind);dsimp only at hns₁ hsb₁ ⊢;have fpo:∀ b∈fp,b < s2.heap.objs.size:=fun b hb=>by
  obtain⟨o,e,_⟩:=T.obj 0 _ st2 b hb;exact aes e
 have I3:Inv X pins σ (upd H2 s2.heap.objs.size (.lst [])) { s2 with heap:=s2.heap.push { cls:=.type "list",data:=.seq ([]:List Value).toArray },toks:=s2.toks }:=I2.lnew .nil (aeM _);have hD:(upd H2 s2.heap.objs.size (.lst [])) s2.heap.objs.size=some (.lst []):=af;have f3:∀ b∈fp,jV X pins (upd H2 s2.heap.objs.size (.lst [])) b:=fun b hb=>by
  refine⟨?_,(f2 b hb).2⟩;rw [ak (aeA (fpo b hb))];exact (f2 b hb).1
 generalize hS3:s2.heap.push { cls:=.type "list",dict:=none,data:=.seq ([]:List Value).toArray }=g3 at hns₁ hsb₁ I3 ⊢;have sz3:g3.objs.size=s2.heap.objs.size+1:=by rw [← hS3,afe]
 have fpo3:∀ b∈fp,b < ({ s2 with heap:=g3,toks:=s2.toks }:Shared).heap.objs.size:=fun b hb=>by
  show b < g3.objs.size;rw [sz3];exact aff (fpo b hb)
 have old:∀ b o,g3.get? b=some o->h₁.get? b=some o:=fun b o e=>hsb₁.extBut b o (aeA (aes e)) (ael _ e);have I4:=kW (tk:=s2.toks+([]:List (Str×Value)).length) S Cp I3 f3 fpo3 hns₁ old;generalize hX:X.comp scope N' g3.objs.size fp { s2 with heap:=g3,toks:=s2.toks } (upd H2 s2.heap.objs.size (.lst []))=X' at *;have hPr:X'.prog=X.prog:=by rw [← hX];rfl
 have hWr:X'.w=X.w:=by rw [← hX];rfl
 have hKr:X'.K=X.K:=by rw [← hX];rfl
 have hAr:X'.A=X.A:=by rw [← hX];rfl
 have hCa:X'.calm=true:=by rw [← hX];exact hc
 have hXe:X'.xe=fun _ _=>False:=by rw [← hX];rfl
 have hEx:X'.ex=fp:=by rw [← hX];rfl
 have hPn:X'.pn=[]:=by rw [← hX];rfl
 have hLo:X'.env.locals=g3.objs.size:=by rw [← hX];rfl
 have hEn:X'.env=compEnvC scope (jr X.env scope.names []) g3.objs.size X.env:=by rw [← hX];rfl
 have hg':=hg g3.objs.size fp { s2 with heap:=g3,toks:=s2.toks } (upd H2 s2.heap.objs.size (.lst []));have hf':=hf g3.objs.size fp { s2 with heap:=g3,toks:=s2.toks } (upd H2 s2.heap.objs.size (.lst []));have he':=he g3.objs.size fp { s2 with heap:=g3,toks:=s2.toks } (upd H2 s2.heap.objs.size (.lst []));rw [hX] at hg' hf' he';have I4':Inv X' [] (cP nl ix σ) (upd H2 s2.heap.objs.size (.lst [])) { s2 with heap:=h₁,toks:=s2.toks+([]:List (Str×Value)).length }:=I4;have back:∀ {H':Hp} {σ':St} {pins':List (Addr×Obj)} {s':Shared} {h':Heap},Inv X' pins' σ' H' s'->Heap.SameBut g3.objs.size s'.heap h'->Inv X pins σ H' { s' with heap:=h' }:=fun I' sb=>by
  subst hX;exact jM I3 f3 I' sb
 have stat:∀ {H':Hp},(∀ b∈fp,H' b=none)->∀ b∈fp,jV X' [] H' b:=fun hn b hb=>by
  refine⟨hn b hb,?_,?_,.inl (by rw [hEx];exact hb),?_,fun p hp=>by rw [hPn] at hp;cases hp⟩
  ·rw [hLo];exact aeA (fpo3 b hb)
  ·exact I4'.ok.exfs b (by rw [hEx];exact hb)
  ·exact (I4'.ok.exf b (by rw [hEx];exact hb)).2
 have loop:codeAny (model X.prog X.w) X.A (.compLoop (.ListComp elt [⟨tg,iter,ifs,0⟩] scope pos) 0 (.ref it) (.ref s2.heap.objs.size) X'.env)
  (compPost (model X.prog X.w) X.A X.xe (some (assign (.Name x pos') X.env)) (fun _ s'=>∃ σ' H',Inv X pins σ' H' s'/\D.nx σ' H') (.ref s2.heap.objs.size) g3.objs.size) { s2 with heap:=h₁,toks:=s2.toks+([]:List (Str×Value)).length }:=by
  rw [← hPr,← hWr,← hAr];refine ki (fun n s'=>∃ i ys H',Inv X' [] (cP nl ix σ) H' s'/\tn i s'.heap/\(∀ b∈fp,H' b=none)/\W i n ys H') ?_ m0
   ⟨0,[],_,I4',T.keep _ _ _ st2 (fun b hb o e=>old b o (by rw [← hS3];exact ael _ e)),fun b hb=>(f3 b hb).1,w0⟩
  rintro n s5 ⟨i,ys,H5,I5,st5,fr5,w5⟩;obtain⟨hD5,alt⟩:=turn i n ys H5 w5;rcases alt with ⟨stop,qn⟩ | ⟨go,step⟩
  ·rw [hPr,hWr];refine thn (T.done X' hPr hWr hKr hCa i [] s5 _ H5 _ I5 (stat fr5) st5 stop) fun r s6 ⟨hr,I6⟩=>?_;subst hr;obtain⟨m,hn,_⟩:=I6.loc;rw [hLo] at hn;have I7:Inv X pins σ H5 s6:=back I6 (aio _ _);have nC:H5 g3.objs.size=none:=by
    have:=I6.free;rw [hLo] at this;exact this
   have fC:jV X pins H5 g3.objs.size:=I3.fpOk (aep _) nC;show wpAny _ _ (assign (.Name x pos') X.env (.ref s2.heap.objs.size)) _ _ _;refine aii (jA I7 hN hi' hx (v:=.ref s2.heap.objs.size) rfl (fun s8 I8 ⟨a8,sb8,ha8⟩=>?_) hfn);have nCa:g3.objs.size≠a8:=by
    rcases ha8 with z | z
    ·rw [z];exact fC.2.1
    ·exact fun q=>fC.2.2.2.2.1 x a8 z q.symm
   refine⟨m,hn.sameBut sb8 nCa,fun h' sb=>⟨_,H5,?_,qn⟩⟩;exact I8.turnedL (t':=s8.toks) (fp:=[g3.objs.size]) (fun b o hb e=>(sb.2 b (fun z=>hb (by rw [z];exact aeq.mpr rfl))).trans e) (fun b hb=>by rw [aeq.mp hb];exact fC)
  ·have it5:=T.item X' hPr hWr hKr hCa i [] s5 _ H5 (fun _ _=>False) I5 (stat fr5) st5 go;rw [← hPr,← hWr] at it5;refine thn it5 fun r s6 ⟨u,hr,h6⟩=>?_;subst hr;refine thn h6 fun _ s7 ⟨x,H7,I7,r7,y7,st7,fr7⟩=>?_;have I7':=I7.pinned (stat fr7) (T.obj _ _ st7);have g7:=hg' _ s7 _ H7 x u _ I7' r7 (step x H7 y7);rw [hXe] at g7;refine thn g7 fun _ s8 ⟨σ8,H8,I8,⟨hl8,hd8⟩,q8⟩=>?_;have f8:=hf' _ s8 σ8 H8 _ I8 q8;rw [hXe] at f8;refine thn f8 fun ok s9 ⟨H9,I9,q9⟩=>?_;have again:∀ {H10:Hp} {s10:Shared} {ys':List V},Inv X' ([]++fJ fp s7.heap) σ8 H10 s10->(∃ m',m' < n/\W (i+1) m' ys' H10)->∃ m,m < n/\∃ i ys H',Inv X' [] (cP nl ix σ) H' s10/\tn i s10.heap/\(∀ b∈fp,H' b=none)/\W i m ys H':=fun {H10 s10 ys'} I10 ⟨m',hm,w'⟩=>by
    refine⟨m',hm,i+1,ys',H10,iC I10.unpinned hl8 hd8,T.keep _ _ _ st7 fun b hb o e=>(I10.pin (b,o) (aex _ (aex _ (aW hb e)))).1,fun b hb=>?_,w'⟩;obtain⟨o,e,d⟩:=T.obj _ _ st7 b hb;exact (I10.pin (b,o) (aex _ (aex _ (aW hb e)))).2.1
   cases ok with
   | false =>
    rw [if_neg aem] at q9 ⊢;exact again I9 q9
   | true =>
    rw [if_pos rfl] at q9 ⊢;have e9:=he' _ s9 σ8 H9 _ I9 q9;rw [hXe] at e9;refine thn e9 fun xv s10 ⟨y,H10,I10,r10,hD10,hz,mw⟩=>?_;have a10:=dm (X:=X') _ s10 σ8 H10 (.ref s2.heap.objs.size) [y] _ [xv] (fun _ H'=>H'=upd H10 s2.heap.objs.size (.lst (ys++[y]))) I10 rfl (.cons r10 .nil) ⟨_,ys,y,rfl,rfl,hD10,hz,rfl⟩;rw [hXe] at a10;refine thn a10 fun _ s11 ⟨_,H11,I11,_,e11⟩=>?_;subst e11;exact again I11 mw
 rw [hEn] at loop;exact ahq loop (T.self _ 0 _ _ _ (T.keep _ _ _ st2 (fun b hb o e=>old b o (by rw [← hS3];exact ael _ e))) loop)
theorem sx {i:Nat}{x:Str}{pos' spos:Pos}{elt tg iter:Expr}{ifs:List Expr}{outer scope:Scope}{pos:Pos}{N N':List Str}{nl:Nat}{ix:List Nat}{wi:TI}{g:TG}{tf:TT}{te:TE}(hN:X.N.Nodup)(hi':X.N[i]? = some x)(hx:Loc X.env.scope x)
 (h1:X.env.scope=outer)(h2:X.N=N)(hc:X.calm=true)(hi:PI X tg iter wi)
 (hg:∀ C fp s₀ H₀,PG (X.comp scope N' C fp s₀ H₀) tg g)(hf:∀ C fp s₀ H₀,PIf (X.comp scope N' C fp s₀ H₀) ifs tf)(he:∀ C fp s₀ H₀,PE (X.comp scope N' C fp s₀ H₀) elt te)
 (hsw:swapsWith (.ListComp elt [⟨tg,iter,ifs,0⟩] scope pos) (some (.Name x pos')) spos.line X.env=pure true:=by rfl)
 (hck:jG outer scope N N' nl ix=true:=by decide +kernel)(hs:∀ x,foldedSetIterable iter X.env x=pure x:=by intro _;rfl)(hfn:X.fn x=true\/X.env.scope.names.lookup x=some .local:=by first | exact .inl rfl | exact .inr rfl | assumption) :
 PS X (.Assign [.Name x pos'] (.ListComp elt [⟨tg,iter,ifs,0⟩] scope pos) spos) (vE (lU nl ix wi g tf te) (cI i)) :=
 let ⟨S,Cp⟩:=jo h1 h2 hck
 yF hN hi' hx hc S Cp hi hg hf he hsw hs hfn
end
section
variable {X:Cx}{K:PySem.W.Frag}{P:Program}{w:World}
end
theorem tX (k:Str):∀ {ss:List Str},k∈ss->∃ j,ss[j]? = some k/\(∀ m,m < j->ss[m]?≠some k)/\ss.erase k=ss.eraseIdx j
 | a::r,h=>by
  by_cases e:a=k
  ·subst e;exact⟨0,rfl,fun m hm=>absurd hm (ahU _),by simp⟩
  ·have hk:k∈r:=(aeu.mp h).resolve_left fun z=>e z.symm;obtain⟨j,h1,h2,h3⟩:=tX k hk;refine⟨j+1,by simpa using h1,fun m hm=>?_,?_⟩
   ·cases m with
    | zero=>simpa using e
    | succ m=>simpa using h2 m (by lia)
   ·rw [List.erase_cons_tail (by simpa using e),h3]
    rfl
theorem i9 {k:Str}:∀ {vs:List Value} {ss:List Str},StrsAre vs ss->∀ j (hj:j < vs.length),isStrOf k vs[j]=true↔ss[j]? = some k
 | _,_,.nil,j,hj=>absurd hj (ahU _)
 | _,_,.cons x t r,0,hj=>by simp [isStrOf]
 | _,_,.cons x t r,j+1,hj=>by
  have:=i9 (k:=k) r j (by simpa using hj);simpa using this
theorem hJ {α β:Type}(f:α->β):∀ (l:List α) (j:Nat),(l.eraseIdx j).map f=(l.map f).eraseIdx j
 | [],_=>rfl
 | _::_,0=>rfl
 | a::l,j+1=>by
  show f a::(l.eraseIdx j).map f=f a::(l.map f).eraseIdx j;rw [hJ f l j]
section
variable {X:Cx}
def aba:V->List V->Hp->VK->Prop:=fun x vs H Q=>∃ (l:Addr) (ss:List Str) (k:Str),x=.ref l/\vs=[.str k]/\H l=some (.lst (ss.map V.str))/\k∈ss/\Q .non (upd H l (.lst ((ss.erase k).map V.str)))
theorem qS:MtM X "list.remove" aba:=by
 intro pins s σ H x vs v us Q I rx rv h;obtain⟨l,ss,k,rfl,rfl,hH,hk,q⟩:=h;cases rx;obtain⟨u,rfl,t,rfl⟩:=rv.one;obtain⟨z,its,n,r,hl,e⟩:=I.lstM hH;have hi:StrsAre its ss:=eO r;obtain⟨j,h1,h2,h3⟩:=tX k hk;have hjs:j < ss.length:=(aek.mp h1).1;have hlen:its.length=ss.length:=by rw [← hl,aej]
 have hj:j < its.length:=by lia
 refine aim F.slot_list_remove ⟨_,e,rfl⟩ F.entry_list_remove (F.args_list_remove_2 _ _)
  (MeetsSeq.list_remove l its.toArray n (.str k t) (isStrOf k) (fun y hy=>eq_isStrOf k t hi y (by simpa using hy)) j (by simpa using hj) (by simpa using (i9 hi j hj).mpr h1) (fun m hm hlt=>?_) (by rw [aeH];lia)) ⟨e,?_⟩
 ·have hm':m < its.length:=by simpa using hm
  have:=h2 m hlt;rw [← Bool.not_eq_true];intro c;exact this ((i9 hi m hm').mp (by simpa using c))
 rw [h3,hJ] at q;refine⟨.non,_,I.lset (its':=its.eraseIdx j) hH e ?_ (r.eraseIdx j) ?_,rfl,q⟩
 ·show its.toArray.eraseIdxIfInBounds j=(its.eraseIdx j).toArray;rw [List.eraseIdxIfInBounds_toArray]
 ·have:=rA (ss.map V.str) j;lia
end
section
variable {prog:Program}{w:World}{A:Around}{E:Value->Shared->Prop}
end
section
variable {X:Cx}
end
section
variable {P:Program}{w:World}{K:PySem.W.Frag}{mg:Str->Option Value}{base:Heap}
end
section
variable {X:Cx}
def ad2 (K:PySem.W.Frag)(te tk:TE):TE:=fun σ H Q=>te σ H fun x H1=>tk σ H1 fun y H2=>y=.int (-1)/\∃ a xs,x=.ref a/\SqL K H2 a xs/\∀ p,H2 p=none->Q (.ref p) (upd H2 p (.lst xs.reverse))
theorem Vals.rev:∀ {xs:List V} {us:List Value},Vals xs us->Vals xs.reverse us.reverse
 | _,_,.nil=>.nil
 | _,_,.cons a b=>by
  rw [List.reverse_cons,List.reverse_cons];exact (Vals.rev b).append (.cons a .nil)
theorem pY {pos:Pos}:PE X (.List [] pos) (adQ rT):=dc ah
def aac:Expr->Bool
 | .Starred .. => false
 | _=>true
theorem tD (e:Expr)(es:List Expr)(env:Env)(h:aac e=true):starEach (e::es) env=(false,eval e env)::starEach es env:=by
 cases e<;>first | rfl | exact absurd h aem
theorem cv {e:Expr}{es:List Expr}{te:TE}{t:TA}(ha:PE X e te)(hr:PA X es t)(h:aac e=true):PA X (e::es) (je te t):=ae ha hr (tD e es _ h)
theorem wj {e k:Expr}{te tk:TE}{p2 pos:Pos}(he:PE X e te)(hk:PE X k tk)(hsb:∀ v i:Value,subscripted (.Slice none none (some k) p2) false v i=operate [v,i] (getItem v i):=by intro _ _;with_unfolding_all rfl):PE X (.Subscript e (.Slice none none (some k) p2) pos) (ad2 X.K te tk):=by
 intro pins s σ H Q I h;refine Subscript_ (thn (he pins s σ H _ I h) fun v s1 ⟨x,H1,I1,r1,q1⟩=>?_);refine wpAny_Slice ?_;rw [evalPart_none];refine aen ?_;refine aen ?_;refine thn (hk pins s1 σ H1 _ I1 q1) fun vk s3 ⟨y,H3,I3,r3,q3⟩=>?_;obtain⟨rfl,a,xs,rfl,hx,q⟩:=q3;obtain⟨tk,rfl⟩:=r3;cases r1;have I4:Inv X pins σ H3 { s3 with heap:=s3.heap.push { cls:=.type "slice",data:=.fields #[.none,.none,.int (-1) tk] } }:=I3.kept (t':=s3.toks) fun b ob q=>ael _ q;obtain⟨its,r,ht,hz⟩:=I4.list hx;have hlen:=r.length;refine tail_any (ops:=[.ref a,.ref s3.heap.objs.size]) ht.isList.typeIs aik.lookup ?_ (hsb _ _);refine wpAny_getItem_list_slice ht.isList (Heap.IsSliceOf.new ..) .none .none (.int (-1) tk) (by simp) ?_ (by rw [aeH]<;>lia);rw [PySem.W.krv_pick];refine⟨.ref _,_,I4.laid (t':=s3.toks) (o:=.lst xs.reverse) (fun b ob q=>ael _ q) (aep _) ?_,rfl,q _ (I4.hok.fresh (aep _))⟩;exact⟨by rw [agO];exact hz,_,0,by simpa using r.rev,aeF _ rfl⟩
end
section
variable {M:Model}{A:Around}{E:Value->Shared->Prop}{s:Shared}{base:Heap}{env:Env}{outer:List Env}{L e:Addr}{oe:Obj}{vs:Array Value}
end
section
variable {P:Program}{w:World}{K:PySem.W.Frag}{mg:Str->Option Value}{base:Heap}{N:List Str}{qual:Str}{scope:Scope}{f:Addr}{cd:Value}{A:Around}{outer:List Env}{s:Shared}{H:Hp}{E0:XK}
end
section
variable {X:Cx}{C f:Addr}{bm:List Value}
end
section
variable {P:Program}{w:World}{K:PySem.W.Frag}{mg:Str->Option Value}{base:Heap}{N:List Str}{qual:Str}{scope:Scope}{f:Addr}{cd:Value}{A:Around}{outer:List Env}{s:Shared}{H:Hp}{E1:XK}
end
end L2
namespace K7
open PySem L2 PyProof.Rows
def top (i:Nat):Stmt:=PySem.Challenge.pw_keyrooms_k29_whole_orders_of_twelve.main.body.getD i (.Pass ⟨0,0,0,0⟩)
abbrev qD:Stmt:=top 12
abbrev mT:Stmt:=top 13
abbrev vM:Stmt:=top 14
abbrev abq:Stmt:=top 15
abbrev ng:Stmt:=top 16
abbrev adE:Stmt:=top 17
abbrev adi:Stmt:=top 46
abbrev jm:Stmt:=top 11
abbrev cU:Stmt:=top 20
abbrev hZ:Stmt:=top 21
abbrev i8:Stmt:=top 22
abbrev gw:Stmt:=top 23
abbrev jh:Stmt:=top 25
abbrev iL:Stmt:=top 27
abbrev iM:Stmt:=top 28
abbrev dj:Stmt:=top 29
abbrev ig:Stmt:=top 30
abbrev cy:Stmt:=top 31
abbrev cJ:Stmt:=top 32
abbrev gP:Stmt:=top 34
abbrev gM:Stmt:=top 35
abbrev eB:Stmt:=top 36
abbrev gD:Stmt:=top 37
abbrev gC:Stmt:=top 38
abbrev fB:Stmt:=top 39
abbrev ir:Stmt:=top 42
abbrev bO:Stmt:=top 43
abbrev gY:Stmt:=top 44
abbrev dW:Stmt:=top 45
abbrev pT:Stmt:=top 46
structure Cal (K:PySem.W.Frag)(mg:Str->Option Value)(x:Str)(ps:List Str)(f:Addr)(fd:FuncData):Prop where
 mg:mg x=some (.ref f)
 kp:keepIn K (.ref f)=true
 b:Binds K fd ps []
theorem pcl {X:Cx}{k:Nat}{f:Addr}{fd:FuncData}{ps:List Str}{sp:Sp}{x:Str}{e:Expr}{es:List Expr}{t:TA}{p pos:Pos}(F:FnOk X.prog X.w X.K X.mg X.base CX0 k f fd ps sp)(c:Cal X.K X.mg x ps f fd)(hr:Room k X.A)(hg:Gl X x)(ha:PA X (e::es) t)(hdb:(x == ("__debug__" : Str))=false:=by decide)(he:starEach (e::es) X.env=(false,eval e X.env)::starEach es X.env:=by rfl)(hpl:(backTo pos (starEach es X.env)).any (·.1)=false:=by rfl):PE X (.Call (.Name x p) (e::es) [] pos) (acO sp [] E0 t):=eA F hr hg c.mg c.kp c.b .nil jt ha hdb he hpl
def But (p:Addr)(H H':Hp):Prop:=∀ b u,b≠p->H b=some u->H' b=some u
theorem But.trans {p:Addr}{H H1 H2:Hp}(a:But p H H1)(b:But p H1 H2):But p H H2:=fun c u n e=>b c u n (a c u n e)
theorem But.upd {p:Addr}{H:Hp}{o:HO}:But p H (upd H p o):=fun b u n e=>by rw [ak n];exact e
theorem But.new {p q:Addr}{H H1:Hp}{o:HO}(a:But p H H1)(n:H q=none):But p H (L2.upd H1 q o):=fun b u hb e=>by rw [ak (ar e n)];exact a b u hb e
def gj (e:Expr):Scope:=match e with
 | .ListComp _ _ s _=>s
 | .DictComp _ _ _ s _=>s
 | _=>{ kind:=.function,names:=[],isGenerator:=false,isCoroutine:=false }
def pI (s:Stmt):Expr:=match s with
 | .Return (some e) _=>e
 | _=>.Name "" ⟨0,0,0,0⟩
def du (z:Str):Prop:=1<=z.length/\z.length<=4/\∀ c∈z.cps.toList,97<=c/\c<=122
def aaf:Sp:=fun vs H Q _=>∃ z:Str,vs=[.str z]/\du z/\∀ H',Same H H'->Q (.bl true) H'
abbrev lettersS:Str := "abcdefghijklmnopqrstuvwxyz"
theorem u9 (c:Nat)(h1:97<=c)(h2:c<=122):(!(Builtin.Str.occurrences lettersS ⟨#[c]⟩ 0 lettersS.length 1).isEmpty)=true:=by
 have all:∀ k:_root_.Fin 26,(!(Builtin.Str.occurrences lettersS ⟨#[97+k.val]⟩ 0 lettersS.length 1).isEmpty)=true:=by decide +kernel
 have e:=all ⟨c - 97,by lia⟩;have e2:97+(c - 97)=c:=by lia
 simp only [e2] at e;exact e
section
variable {P:Program}{w:World}{K:PySem.W.Frag}{mg:Str->Option Value}{base:Heap}
structure Glb (mg:Str->Option Value):Prop where
 isi:mg "isinstance" = none
 str:mg "str" = none
 len:mg "len" = none
 all:mg "all" = none
 letters:∃ t,mg "LETTERS" = some (.str lettersS t)
 most:∃ t,mg "MOST_LETTERS" = some (.int 4 t)
theorem abH:az ["thing"] ["thing"] (ai qD):=scM rfl rfl rfl rfl (by decide +kernel)
def oQ (e:Expr):Expr:=match e with
 | .Call _ (a::_) _ _=>a
 | e=>e
abbrev yw:Expr:=oQ (pI ((bZ qD).getD 1 (.Pass ⟨0,0,0,0⟩)))
theorem acw:jG (ai qD) (gj yw) ["thing"] ["sign"] 1 []=true:=by decide +kernel
theorem nd2:(["sign"]:List Str).Nodup:=by decide +kernel
theorem aa1 {f:Addr}{fd:FuncData}(F:Fun K "is_kind" "is_kind" qD f fd)(G:Glb mg):FnOk P w K mg base CX0 1 f fd ["thing"] aaf:=by
 obtain⟨tl,hL⟩:=G.letters;obtain⟨tm,hM⟩:=G.most;refine F.ok abH (fun vs H Q E h=>?_) (fun cdv A outer s H vs Q E hr h=>?_)
 ·obtain⟨z,rfl,_⟩:=h
  rfl
 ·obtain⟨z,rfl,⟨z1,z2,z3⟩,k⟩:=h;obtain⟨S,Cp⟩:=jo (X:=(rh CX0 P w K mg base ["thing"] "is_kind" (ai qD) f cdv A outer s H E).nox) (outer:=ai qD) (N:=["thing"]) rfl rfl acw;refine⟨_,ag (fi (PW.pt (tj (fw (gF (av cE rfl G.isi (by decide +kernel) (ae (pv 0) (ae (hV (v:=.ty "str") (u:=.type "str") rfl G.str (by decide +kernel) rfl) ah)))))
   (mn (fw (tK wR wR aj (av qg rfl G.len afw (ae (pv 0) ah)) (rN (v:=.int 4) rfl hM ⟨tm,rfl⟩))))))
   (aq (aJ mX)) bu)
   (aq (aJ (av (k9 rfl) rfl G.all (by decide +kernel) (ae (lg (tg:=.Name "sign" _) rfl S Cp (aad (pv 0))
    (fun _ _ _ _=>au (i:=0) nd2 rfl (.inl rfl) (.inr rfl)) (fun _ _ _ _=>cn)
    (fun _ _ _ _=>eh xa (pv 0) (rN (v:=.str lettersS) rfl hL ⟨tl,rfl⟩) (by with_unfolding_all rfl))) ah)))),?_⟩
  have zs:z.length<=sizeLine:=af1 (gN (by lia));refine⟨_,rfl,_,_,_,true,rfl,.str z,gz K _,true,rfl,?_⟩;refine gK ?_;refine⟨_,rfl,z,rfl,zs,1,_,rfl,rfl,true,afy V.bl (aeP (by lia)),?_⟩;refine ju ?_;refine⟨_,4,rfl,rfl,true,afy V.bl (aeP (by lia)),?_⟩;refine gK ?_;dsimp only [sZ,aaY,tCB,je,rT];refine aK _ _ _ _ _ _ _ _ _ ?_;refine⟨_,rfl,z,rfl,?_⟩;intro D hD;refine uv (fun i ys H2=>ys=(List.replicate i true).map V.bl/\H2 D=some (.lst ys)/\Same H H2) ⟨rfl,af,fun b u e=>by rw [ak (ar e hD)];exact e⟩ (fun i ys H2 ⟨_,h,_⟩=>h) ?_ ?_
  ·rintro i ys H2 c hc ⟨rfl,hD2,sm⟩;have hi:i < z.cps.size:=(afV.mp hc).1;have hz:z.length=z.cps.size:=rfl;have hm:c∈z.cps.toList:=by
    have:=Array.mem_of_getElem? hc;simpa using this
   refine dP rfl ?_;refine⟨_,rfl,_,_,rfl,rfl,hD2,by rw [aej,afq];exact gN (by lia),nx hi ⟨?_,af,fun b u e=>?_⟩⟩
   ·rw [u9 c (z3 c hm).1 (z3 c hm).2,ahL,aeD]
    rfl
   ·rw [ak (ar e hD)];exact sm b u e
  ·rintro ys H2 ⟨rfl,hD2,sm⟩;refine⟨D,List.replicate z.cps.size true,rfl,aAA hD2,?_⟩;have e:(List.replicate z.cps.size true).all id=true:=by simp
   rw [e];exact k H2 sm
def oS:Sp:=fun vs H Q _=>∃ (a:Addr) (ks:List Str),vs=[.ref a]/\H a=some (.lst (ks.map V.str))/\(∀ k∈ks,du k)/\ks.length<=1000/\∀ H',Same H H'->Q (.bl true) H'
def uu (e:Expr):Expr:=match e with
 | .BoolOp _ es _=>es.getLastD e
 | e=>e
theorem aaw:az ["thing"] ["thing"] (ai mT):=scM rfl rfl rfl rfl (by decide +kernel)
abbrev xM:Expr:=oQ (uu (pI ((bZ mT).getD 0 (.Pass ⟨0,0,0,0⟩))))
theorem abc:jG (ai mT) (gj xM) ["thing"] ["kind"] 1 []=true:=by decide +kernel
theorem nd3:(["kind"]:List Str).Nodup:=by decide +kernel
theorem yI {f fK:Addr}{fd fdK:FuncData}(F:Fun K "are_kinds" "are_kinds" mT f fd)(FK:Fun K "is_kind" "is_kind" qD fK fdK)(cK:Cal K mg "is_kind" ["thing"] fK fdK)(G:Glb mg)(mLi:mg "list" = none):FnOk P w K mg base CX0 2 f fd ["thing"] oS:=by
 have GK:FnOk P w K mg base CX0 1 fK fdK ["thing"] aaf:=aa1 FK G;refine F.ok aaw (fun vs H Q E h=>?_) (fun cdv A outer s H vs Q E hr h=>?_)
 ·obtain⟨a,ks,rfl,_⟩:=h
  rfl
 ·obtain⟨a,ks,rfl,ha,hk,hl,k⟩:=h;obtain⟨S,Cp⟩:=jo (X:=(rh CX0 P w K mg base ["thing"] "are_kinds" (ai mT) f cdv A outer s H E).nox) (outer:=ai mT) (N:=["thing"]) rfl rfl abc;refine⟨_,aq (aJ (jz (av cE rfl G.isi (by decide +kernel) (ae (pv 0) (ae (hV (v:=.ty "list") (u:=.type "list") rfl mLi (by decide +kernel) rfl) ah)))
   (qX (av (k9 rfl) rfl G.all (by decide +kernel) (ae (lg (tg:=.Name "kind" _) rfl S Cp (aQ (pv 0))
    (fun _ _ _ _=>au (i:=0) nd3 rfl (.inl rfl) (.inr rfl)) (fun _ _ _ _=>cn)
    (fun _ _ _ _=>eA GK hr rfl cK.mg cK.kp cK.b .nil jt (ae (pv 0) ah))) ah))))),?_⟩
  refine⟨_,rfl,_,_,_,true,rfl,.lst ha,gz K _,true,rfl,?_⟩;refine ju ?_;dsimp only [sZ,aaY,tCB,je,rT];refine aK _ _ _ _ _ _ _ _ _ ?_;refine⟨_,rfl,a,rfl,⟨_,aAA ha⟩,?_⟩;intro D hD;refine dU (xs:=ks.map V.str) (fun i ys H2=>ys=(List.replicate i true).map V.bl/\i<=1000/\H2 D=some (.lst ys)/\Same H H2) ⟨rfl,by decide,af,fun b u e=>by rw [ak (ar e hD)];exact e⟩ (fun i ys H2 ⟨_,_,h,_⟩=>h) (fun i ys H2 ⟨_,_,_,sm⟩=>aAA (sm a _ ha)) ?_ ?_
  ·rintro i ys H2 x hx ⟨rfl,hi0,hD2,sm⟩;have hi:i < (ks.map V.str).length:=(aek.mp hx).1;have hi':=hi;rw [aej] at hi';rw [aer,aeh hi'] at hx;cases hx;refine dP rfl ?_;refine⟨_,rfl,ks[i],rfl,hk _ (aeS hi'),fun H3 sm3=>?_⟩;refine⟨sm3 D _ hD2,by rw [aej,afq];exact gN (by lia),nx hi ⟨?_,by lia,af,fun b u e=>?_⟩⟩
   ·rw [ahL,aeD]
    rfl
   ·rw [ak (ar e hD)];exact sm3 b u (sm b u e)
  ·rintro ys H2 ⟨rfl,_,hD2,sm⟩;refine⟨D,List.replicate (ks.map V.str).length true,rfl,aAA hD2,?_⟩;have e:(List.replicate (ks.map V.str).length true).all id=true:=by simp
   rw [e];exact k H2 sm
def wy:Sp:=fun vs H Q _=>∃ (a:Addr) (ks:List Str),vs=[.ref a]/\H a=some (.lst (ks.map V.str))/\(∀ k∈ks,du k)/\1<=ks.length/\ks.length<=4/\ks.Pairwise leS/\∀ H',Same H H'->Q (.bl true) H'
theorem pL {ks:List Str}(h:∀ k∈ks,du k):PyData.canLayAll0 (ks.map PyData.str)=true:=by
 induction ks with
 | nil=>rfl
 | cons z r ih =>
  have hz:=h z aev;have hs:PyData.strOk z=true:=by
   unfold PyData.strOk;rw [← Array.all_toList,ae1];intro c hc;exact aeP (by have:=hz.2.2 c hc;lia)
  rw [aeG];simp only [PyData.canLayAll0,PyData.canLay0,hs,aiD];exact ih fun k hk=>h k (aeC _ hk)
theorem ub:∀ ks:List Str,PyData.eqvAll (ks.map PyData.str) (ks.map PyData.str)=true
 | []=>rfl
 | z::r=>by
  rw [aeG];simp only [PyData.eqvAll,PyData.eqv,agp,aiD];exact ub r
theorem oa:∀ ks:List Str,PyData.depthAll (ks.map PyData.str)=0
 | []=>rfl
 | z::r=>by
  rw [aeG];simp only [PyData.depthAll,PyData.depth,oa r]
  rfl
theorem aaV:az ["thing"] ["thing"] (ai vM):=scM rfl rfl rfl rfl (by decide +kernel)
theorem yP {f fK:Addr}{fd fdK:FuncData}(F:Fun K "are_locks" "are_locks" vM f fd)(GK:FnOk P w K mg base CX0 2 fK fdK ["thing"] oS)(cK:Cal K mg "are_kinds" ["thing"] fK fdK)(mLe:mg "len" = none)(mSo:mg "sorted" = none)(hM:∃ t,mg "MOST_LOCKS" = some (.int 4 t)) :
 FnOk P w K mg base CX0 3 f fd ["thing"] wy:=by
 obtain⟨tm,hM⟩:=hM;refine F.ok aaV (fun vs H Q E h=>?_) (fun cdv A outer s H vs Q E hr h=>?_)
 ·obtain⟨a,ks,rfl,_⟩:=h
  rfl
 ·obtain⟨a,ks,rfl,ha,hk,h1,h4,hs,k⟩:=h;have hu:=eM hr;refine⟨_,aq (aJ (jz (eA GK hr rfl cK.mg cK.kp cK.b .nil jt (ae (pv 0) ah))
   (jz (yX wR wR aj (av aI rfl mLe afw (ae (pv 0) ah)) (rN (v:=.int 4) rfl hM ⟨tm,rfl⟩))
   (qX (eh qb (pv 0) (av mC rfl mSo agP (ae (pv 0) ah)) (bM _)))))),?_⟩
  refine⟨_,rfl,a,ks,rfl,ha,hk,by lia,fun H1 s1=>⟨true,rfl,?_⟩⟩;refine ju ?_;have ha1:=s1 a _ ha;refine⟨_,rfl,a,_,rfl,.inl (aAA ha1),1,_,rfl,rfl,true,afy V.bl (aeP (by rw [aej];lia)),?_⟩;refine ju ?_;refine⟨_,4,rfl,rfl,true,afy V.bl (aeP (by rw [aej];lia)),?_⟩;refine ju ?_;refine⟨_,rfl,_,rfl,a,ks,rfl,aAA ha1,by lia,fun l ss hl hp hs'=>?_⟩;have e:ss=ks:=nZ (dZ hs') hs hp;subst e;have ne:a≠l:=ar ha1 hl;refine⟨.list (ss.map PyData.str),.list (ss.map PyData.str),.lst (by rw [ak ne];exact ha1) (SeesAll.strs ss),.lst af (SeesAll.strs ss),pL hk,pL hk,?_,?_⟩
  ·show _+min (PyData.depthAll (ss.map PyData.str)+1) (PyData.depthAll (ss.map PyData.str)+1) < cLine;rw [oa];exact hu
  ·have ee:PyData.eqv (.list (ss.map PyData.str)) (.list (ss.map PyData.str))=true:=ub ss;rw [ee];exact k _ fun b u e=>by rw [ak (ar (s1 b u e) hl)];exact s1 b u e
abbrev Rm:=List Str×List Str
structure xw (r:Rm):Prop where
 lk:∀ k∈r.1,du k
 l1:1<=r.1.length
 l4:r.1.length<=4
 so:r.1.Pairwise leS
 kk:∀ k∈r.2,du k
 kl:r.2.length<=1000
def RoomAt (H:Hp)(v:V)(r:Rm):Prop:=∃ t a b:Addr,v=.ref t/\H t=some (.tup [.ref a,.ref b])/\H a=some (.lst (r.1.map V.str))/\H b=some (.lst (r.2.map V.str))
theorem RoomAt.same {H H':Hp}{v:V}{r:Rm}(s:Same H H')(h:RoomAt H v r):RoomAt H' v r:=by
 obtain⟨t,a,b,e,h1,h2,h3⟩:=h;exact⟨t,a,b,e,s _ _ h1,s _ _ h2,s _ _ h3⟩
def aao:Sp:=fun vs H Q _=>∃ (v:V) (r:Rm),vs=[v]/\RoomAt H v r/\xw r/\∀ H',Same H H'->Q (.bl true) H'
theorem acx:az ["thing"] ["thing"] (ai abq):=scM rfl rfl rfl rfl (by decide +kernel)
theorem aau {f fL fK:Addr}{fd fdL fdK:FuncData}(F:Fun K "is_room" "is_room" abq f fd)(GL:FnOk P w K mg base CX0 3 fL fdL ["thing"] wy)(cL:Cal K mg "are_locks" ["thing"] fL fdL)
 (GK:FnOk P w K mg base CX0 2 fK fdK ["thing"] oS)(cK:Cal K mg "are_kinds" ["thing"] fK fdK)(mI:mg "isinstance" = none)(mLe:mg "len" = none)(mTu:mg "tuple" = none):FnOk P w K mg base CX0 4 f fd ["thing"] aao:=by
 refine F.ok acx (fun vs H Q E h=>?_) (fun cdv A outer s H vs Q E hr h=>?_)
 ·obtain⟨v,r,rfl,_⟩:=h
  rfl
 ·obtain⟨v,r,rfl,⟨t,a,b,rfl,ht,ha,hb⟩,ok,k⟩:=h;refine⟨_,aq (aJ (jz (av cE rfl mI (by decide +kernel) (ae (pv 0) (ae (hV (v:=.ty "tuple") (u:=.type "tuple") rfl mTu (by decide +kernel) rfl) ah)))
   (jz (eh vw (av aI rfl mLe afw (ae (pv 0) ah)) aj (bM _))
   (jz (eA GL hr rfl cL.mg cL.kp cL.b .nil jt (ae (aN bP (pv 0) aj (fun _ _=>rfl)) ah))
   (qX (eA GK (hr.mono (by decide)) rfl cK.mg cK.kp cK.b .nil jt (ae (aN bP (pv 0) aj (fun _ _=>rfl)) ah))))))),?_⟩
  refine⟨_,rfl,_,_,_,true,rfl,.tup ht,gz K _,true,rfl,?_⟩;refine ju ?_;refine⟨_,rfl,t,_,rfl,.inr (aAB ht),rfl,true,rfl,?_⟩;refine ju ?_;refine⟨_,rfl,t,_,0,.ref a,rfl,rfl,aAB ht,rfl,a,r.1,rfl,ha,ok.lk,ok.l1,ok.l4,ok.so,fun H1 s1=>⟨true,rfl,?_⟩⟩;refine ju ?_;refine⟨_,rfl,t,_,1,.ref b,rfl,rfl,aAB (s1 _ _ ht),rfl,b,r.2,rfl,s1 _ _ hb,ok.kk,ok.kl,fun H2 s2=>?_⟩;exact k H2 (s1.trans s2)
abbrev Hs:=List Str×List Rm
def RoomsAt (H:Hp)(vs:List V)(rs:List Rm):Prop:=vs.length=rs.length/\∀ (i:Nat) (v:V) (r:Rm),vs[i]? = some v->rs[i]? = some r->RoomAt H v r
theorem RoomsAt.same {H H':Hp}{vs:List V}{rs:List Rm}(s:Same H H')(h:RoomsAt H vs rs):RoomsAt H' vs rs:=⟨h.1,fun i v r a b=>(h.2 i v r a b).same s⟩
def HouseAt (H:Hp)(v:V)(h:Hs):Prop:=∃ (t a r:Addr) (vs:List V),v=.ref t/\H t=some (.tup [.ref a,.ref r])/\H a=some (.lst (h.1.map V.str))/\H r=some (.lst vs)/\RoomsAt H vs h.2
theorem HouseAt.same {H H':Hp}{v:V}{h:Hs}(s:Same H H')(x:HouseAt H v h):HouseAt H' v h:=by
 obtain⟨t,a,r,vs,e,h1,h2,h3,h4⟩:=x;exact⟨t,a,r,vs,e,s _ _ h1,s _ _ h2,s _ _ h3,h4.same s⟩
structure cm (h:Hs):Prop where
 kk:∀ k∈h.1,du k
 kl:h.1.length<=1000
 rs:∀ r∈h.2,xw r
 rl:h.2.length<=1000
def xx:Sp:=fun vs H Q _=>∃ (v:V) (h:Hs),vs=[v]/\HouseAt H v h/\cm h/\∀ H',Same H H'->Q (.bl true) H'
def ab7:Sp:=fun vs H Q _=>∃ (v:V) (h:Hs),vs=[v]/\HouseAt H v h/\cm h/\∀ H',Same H H'->Q .non H'
theorem scHouse:az ["thing","keys","rooms"] ["thing"] (ai ng):=scM rfl rfl rfl rfl (by decide +kernel)
abbrev xU:Expr:=oQ (uu (pI ((bZ ng).getD 2 (.Pass ⟨0,0,0,0⟩))))
theorem aaT:jG (ai ng) (gj xU) ["thing","keys","rooms"] ["room"] 1 []=true:=by decide +kernel
theorem nd4:(["room"]:List Str).Nodup:=by decide +kernel
theorem ze {f fR fK:Addr}{fd fdR fdK:FuncData}(F:Fun K "is_house" "is_house" ng f fd)(GR:FnOk P w K mg base CX0 4 fR fdR ["thing"] aao)(cR:Cal K mg "is_room" ["thing"] fR fdR)
 (GK:FnOk P w K mg base CX0 2 fK fdK ["thing"] oS)(cK:Cal K mg "are_kinds" ["thing"] fK fdK)(mI:mg "isinstance" = none)(mLe:mg "len" = none)(mTu:mg "tuple" = none)(mLi:mg "list" = none)(mAl:mg "all" = none):FnOk P w K mg base CX0 5 f fd ["thing"] xx:=by
 refine F.ok scHouse (fun vs H Q E h=>?_) (fun cdv A outer s H vs Q E hr h=>?_)
 ·obtain⟨v,r,rfl,_⟩:=h
  rfl
 ·obtain⟨v,hs,rfl,⟨t,a,r,vs,rfl,ht,ha,hr',hR⟩,ok,k⟩:=h;obtain⟨S,Cp⟩:=jo (X:=(rh CX0 P w K mg base ["thing","keys","rooms"] "is_house" (ai ng) f cdv A outer s H E).nox) (outer:=ai ng) (N:=["thing","keys","rooms"]) rfl rfl aaT;refine⟨_,ag (fi (PW.pt (tj (fw (gF (av cE rfl mI (by decide +kernel) (ae (pv 0) (ae (hV (v:=.ty "tuple") (u:=.type "tuple") rfl mTu (by decide +kernel) rfl) ah)))))
   (mn (aT pX (av aI rfl mLe afw (ae (pv 0) ah)) aj (bM _)))))
   (aq (aJ mX)) bu)
   (ag (tV (pv 0) (gW rfl (ay (au (i:=1) scHouse.nd rfl (.inl rfl)) (ay (au (i:=2) scHouse.nd rfl (.inl rfl)) cD))))
   (aq (aJ (jz (eA GK (hr.mono (by decide)) rfl cK.mg cK.kp cK.b .nil jt (ae (pv 1) ah))
    (jz (av cE rfl mI (by decide +kernel) (ae (pv 2) (ae (hV (v:=.ty "list") (u:=.type "list") rfl mLi (by decide +kernel) rfl) ah)))
    (qX (av (k9 rfl) rfl mAl (by decide +kernel) (ae (lg (tg:=.Name "room" _) rfl S Cp (aQ (pv 2))
     (fun _ _ _ _=>au (i:=0) nd4 rfl (.inl rfl) (.inr rfl)) (fun _ _ _ _=>cn)
     (fun _ _ _ _=>eA GR hr rfl cR.mg cR.kp cR.b .nil jt (ae (pv 0) ah))) ah)))))))),?_⟩
  refine⟨_,rfl,_,_,_,true,rfl,.tup ht,gz K _,true,rfl,?_⟩;refine gK ?_;refine⟨_,rfl,t,_,rfl,.inr (aAB ht),rfl,false,rfl,?_⟩;refine gK ?_;refine⟨_,rfl,t,_,rfl,aAB ht,rfl,_,_,rfl,_,_,rfl,rfl,?_⟩;refine⟨_,rfl,a,hs.1,rfl,ha,ok.kk,ok.kl,fun H1 s1=>⟨true,rfl,?_⟩⟩;refine ju ?_;refine⟨_,rfl,_,_,_,true,rfl,.lst (s1 _ _ hr'),gz K _,true,rfl,?_⟩;refine ju ?_;dsimp only [sZ,aaY,tCB,je,rT];refine aK _ _ _ _ _ _ _ _ _ ?_;refine⟨_,rfl,r,rfl,⟨_,aAA (s1 _ _ hr')⟩,?_⟩;intro D hD;have hl:vs.length<=1000:=by rw [hR.1];exact ok.rl
  refine dU (xs:=vs) (fun i ys H2=>ys=(List.replicate i true).map V.bl/\i<=1000/\H2 D=some (.lst ys)/\Same H1 H2) ⟨rfl,by decide,af,fun b u e=>by rw [ak (ar e hD)];exact e⟩ (fun i ys H2 ⟨_,_,h,_⟩=>h) (fun i ys H2 ⟨_,_,_,sm⟩=>aAA (sm r _ (s1 _ _ hr'))) ?_ ?_
  ·rintro i ys H2 x hx ⟨rfl,hi0,hD2,sm⟩;have hi:i < vs.length:=(aek.mp hx).1;have hi':i < hs.2.length:=by rw [← hR.1];exact hi
   refine dP rfl ?_;refine⟨_,rfl,x,hs.2[i],rfl,((hR.2 i x _ hx (aeh hi')).same s1).same sm,ok.rs _ (aeS hi'),fun H3 sm3=>?_⟩;refine⟨sm3 D _ hD2,by rw [aej,afq];exact gN (by lia),nx hi ⟨?_,by lia,af,fun b u e=>?_⟩⟩
   ·rw [ahL,aeD]
    rfl
   ·rw [ak (ar e hD)];exact sm3 b u (sm b u e)
  ·rintro ys H2 ⟨rfl,_,hD2,sm⟩;refine⟨D,List.replicate vs.length true,rfl,aAA hD2,?_⟩;have e:(List.replicate vs.length true).all id=true:=by simp
   rw [e];exact k H2 (s1.trans sm)
theorem adt:az ["thing"] ["thing"] (ai adE):=scM rfl rfl rfl rfl (by decide +kernel)
theorem acv {f fH:Addr}{fd fdH:FuncData}(F:Fun K "require_house" "require_house" adE f fd)(GH:FnOk P w K mg base CX0 5 fH fdH ["thing"] xx)(cH:Cal K mg "is_house" ["thing"] fH fdH):FnOk P w K mg base CX0 6 f fd ["thing"] ab7:=by
 refine F.ok adt (fun vs H Q E h=>?_) (fun cdv A outer s H vs Q E hr h=>?_)
 ·obtain⟨v,r,rfl,_⟩:=h
  rfl
 ·obtain⟨v,hs,rfl,hh,ok,k⟩:=h;refine⟨_,aq (fi (fw (gF (eA GH hr rfl cH.mg cH.kp cH.b .nil jt (ae (pv 0) ah)))) m8 bu),?_⟩;refine⟨_,rfl,v,hs,rfl,hh,ok,fun H1 s1=>⟨true,rfl,?_⟩⟩;refine gK ?_;exact k H1 s1
end
end K7
namespace L2
open PySem PySem.Spec PyProof.Rows
section
variable {X:Cx}{o e:Expr}{es:List Expr}{to:TE}{t:TA}{name:Str}{apos cpos:Pos}{T id:String}{r:V->List V->Hp->VK->Prop}{K:PySem.W.Frag}
theorem nX (hK:X.K=K)(pa:PlainAttrs T)(slot:Slot T name id)(hty:typeOf (.builtin id)=pure (.type "method_descriptor"))(hm:MtR X id r)(ho:PE X o to)(ha:PA X (e::es) t)
 (hbase:attributeBase o name X.env (eval o X.env)=eval o X.env:=by rfl)
 (hfew:((backTo cpos (starEach (e::es) X.env)).all (fun x=>!x.1) && (backToKw cpos (keywordEach [] X.env)).all (fun x=>x.1.isSome)
  && decide ((e::es).length+([]:List Keyword).length+(if ([]:List Keyword).isEmpty then 0 else 1) < 30))=true:=by rfl)
 (hline:(apos.endLine == cpos.line)=true:=by rfl)(hs:starEach (e::es) X.env=(false,eval e X.env)::starEach es X.env:=by rfl)(hplain:(backTo cpos (starEach es X.env)).any (·.1)=false:=by rfl) :
 PE X (.Call (.Attribute o name apos) (e::es) [] cpos) (tBM K T r to t):=by
 subst hK;exact oP pa slot hty hm ho ha hbase hfew hline hs hplain
end
end L2
namespace K7
open PySem L2 PyProof.Rows
theorem cg {α:Type}[DecidableEq α]:∀ {l U:List α},l.Nodup->(∀ x∈l,x∈U)->l.length<=U.length
 | [],U,_,_=>aeM _
 | a::r,U,hn,h=>by
  rw [afF] at hn;have ha:=h a aev;have ih:=cg (U:=U.erase a) hn.2 fun x hx=>by
   have ne:x≠a:=fun z=>hn.1 (z▸hx);exact (List.mem_erase_of_ne ne).mpr (h x (aeC _ hx))
  have hl:=air ha;have hp:0 < U.length:=List.length_pos_of_mem ha;rw [aeU];lia
end K7
namespace L2
open PySem PySem.Spec PyProof.Rows
theorem qT (K:PySem.W.Frag):kitOne K (.type "int") (.type "bool")=some false:=by
 first
  | rfl
  | (with_unfolding_all rfl)
end L2
namespace K7
open PySem L2 PyProof.Rows
end K7
namespace L2
open PySem PySem.Spec PyProof.Rows
section
variable {prog:Program}{w:World}{A:Around}{E:Value->Shared->Prop}{s:Shared}
def pr:Nat->List Value->List (Key×Value)
 | _,[]=>[]
 | k,v::r=>(.inl (k:Int),v)::pr (k+1) r
end
section
variable {prog:Program}{w:World}{A:Around}{R:Result->Shared->Prop}
end
section
variable {prog:Program}{w:World}{A:Around}{E:Value->Shared->Prop}{s:Shared}
end
section
variable {X:Cx}
end
section
variable {prog:Program}{w:World}{A:Around}{E:Value->Shared->Prop}{s:Shared}
end
section
variable {prog:Program}{w:World}{A:Around}{R:Result->Shared->Prop}
end
section
variable {prog:Program}{w:World}{A:Around}{E:Value->Shared->Prop}{s:Shared}
end
def vo (ta:TA):TE:=fun σ H Q=>ta σ H fun xs H1=>∃ n:Nat,xs=[.int (n:Int)]/\n<=1000000/\∀ l,H1 l=none->Q (.ref l) (upd H1 l (.lst ((List.range n).map fun i=>V.int (i:Nat))))
section
variable {X:Cx}
theorem zH:bootBuiltins "zip" = some (.type "zip"):=by decide +kernel
theorem uQ:bootBuiltins "list" = some (.type "list"):=by decide +kernel
theorem oB:∀ {its:List Value} {m:Nat},(∀ (j:Nat) v,its[j]? = some v->∃ t,v=.int (((m+j:Nat):Int)) t)->Vals ((List.range' m its.length).map fun i=>V.int (i:Nat)) its
 | [],_,_=>.nil
 | u::us,m,h=>by
  rw [aeU,List.range'_succ,aeG];refine .cons ?_ (oB (m:=m+1) fun j v e=>?_)
  ·obtain⟨t,rfl⟩:=h 0 u rfl;exact⟨t,rfl⟩
  ·obtain⟨t,rfl⟩:=h (j+1) v (by simpa using e);exact⟨t,by rw [show m+1+j=m+(j+1) by lia]⟩
theorem kO {a:Expr}{ta:TA}{p p2 pos pos2:Pos}(hg:Gl X "list")(hm:X.mg "list" = none)(hg2:Gl X "range")(hm2:X.mg "range" = none)(hc:X.calm=true)(ha:PA X [a] ta)(hs2:starEach [a] X.env=[(false,eval a X.env)]:=by rfl)
 (hs:starEach [.Call (.Name "range" p2) [a] [] pos2] X.env=[(false,eval (.Call (.Name "range" p2) [a] [] pos2) X.env)]:=by rfl):PE X (.Call (.Name "list" p) [.Call (.Name "range" p2) [a] [] pos2] [] pos) (vo ta):=by
 intro pins s σ H Q I h;refine Call_ (jx I hg hm uQ (afp ?_ hs rfl));rw [hs];show wpAny _ _ (spliced [(false,eval _ X.env)]) _ _ s;refine Calls.spliced_cons ?_;refine Call_ (jx I hg2 hm2 boot_range (afp (thn (ha pos2 pins s σ H _ I h) fun us s1 ⟨vs,H1,I1,r1,q1⟩=>?_) hs2 rfl));obtain⟨n,e,hn,q⟩:=q1;subst e;obtain⟨u,rfl,t,rfl⟩:=iE r1;refine call_range_1 ?_;refine Calls.spliced_nil ?_;have I2:Inv X pins σ H1 { s1 with heap:=s1.heap.push { cls:=.type "range",data:=.fields #[.int 0 s1.toks,.int n t,.int 1 (s1.toks+1)] },toks:=s1.toks+1+1 }:=I1.kept fun b o e=>ael _ e;refine call_list_range (n:=n) (I1.ok.hd hc) (IsRange.new ..) (small_one (by lia) (by lia) (by lia) (by lia)) (by rw [rangeSize_one];split<;>lia) (by lia) fun h' tk acc c k hg it=>?_;refine⟨.ref _,_,I2.laid (t':=tk) (o:=.lst ((List.range n).map fun i=>V.int (i:Nat))) k (aep _) ?_,rfl,q _ (I2.hok.fresh (aep _))⟩;obtain⟨i1,i2⟩:=it;refine⟨by rw [aej,afv];exact aeN hn (by decide),acc.toList,c,?_,by simpa using hg⟩;have z:=oB (its:=acc.toList) (m:=0) fun j v e=>by
  obtain⟨t',rfl⟩:=i2 j v (by simpa using e);exact⟨t',by simp⟩
 rw [aeE,i1,← List.range_eq_range'] at z;exact z
end
theorem zx {K:PySem.W.Frag}{nl:Nat}{ix:List Nat}{te:TE}{σ:St}{H1:Hp}{D a:Addr}{Q:VK}{xs:List V}{F:V->V}(ha:H1 a=some (.lst xs))(nD:H1 D=none)(hl:xs.length<=1000000)
 (hc:∀ x,((cP nl ix σ).set 0 (some x)).drop nl=ix.map fun j=>(σ[j]?).join)
 (ht:∀ (H:Hp) (x:V) (R:VK),x∈xs->Same H1 H->R (F x) H->te ((cP nl ix σ).set 0 (some x)) H R)
 (hd:∀ H,Same H1 H->H D=some (.lst (xs.map F))->Q (.ref D) H):jF nl ix (cI 0) vG te σ (Itl K a) H1 D Q:=by
 have lim:1000000 < sizeLine:=by decide
 refine dU (xs:=xs) (fun i ys H=>ys=(xs.take i).map F/\H D=some (.lst ys)/\Same H1 H) ⟨rfl,af,fun b u e=>by rw [ak (ar e nD)];exact e⟩ (fun i ys H ⟨_,h,_⟩=>h) (fun i ys H ⟨_,_,s⟩=>aAA (s a _ ha)) ?_ ?_
 ·rintro i ys H x hx ⟨rfl,hD,s⟩;have hi:i < xs.length:=(aek.mp hx).1;refine dP (hc x) (ht H x _ (aey hx) s ⟨hD,by rw [aej,aeK];lia,nx hi ⟨?_,af,fun b u e=>?_⟩⟩)
  ·rw [aeT,hx,aeD]
   rfl
  ·rw [ak (ar e nD)];exact s b u e
 ·rintro ys H ⟨rfl,hD,s⟩;rw [ae0] at hD;exact hd H s hD
section
variable {X:Cx}{K:PySem.W.Frag}
end
end L2
namespace L2
open PySem PySem.Spec PyProof.Rows PySem.W
section
variable {X:Cx}
end
theorem ya {nl:Nat}{ix:List Nat}{g:TG}{tf:TT}{te:TE}{σ:St}{H1:Hp}{D:Addr}{Q:VK}(Pv:Nat->List V->Hp->Prop){a:Addr}{o:Obj}{kvs:List (Key×V)}(h0:Pv 0 [] (upd H1 D (.lst [])))(hD:∀ i ys H,Pv i ys H->H D=some (.lst ys))(hl:∀ i ys H,Pv i ys H->H a=some (.frz o (.dK kvs)))
 (hs:∀ i ys H k v,kvs[i]? = some (k,v)->Pv i ys H->dr nl ix g tf te σ D ys H (kV k) fun ys' H'=>Nx kvs.length i (Pv (i+1) ys' H'))(hd:∀ ys H,Pv kvs.length ys H->Q (.ref D) H):jF nl ix g tf te σ (ItK a o kvs) H1 D Q:=by
 refine qa (n:=kvs.length) Pv h0 hD (fun i ys H hi p=>⟨hi,hl i ys H p⟩) (fun ys H p=>⟨rfl,hl _ ys H p⟩) (fun i ys H x H' hi p y=>?_) hd;obtain⟨e,k,v,y,ex⟩:=y;subst e ex;exact hs i ys _ k v y p
end L2
namespace L2
open PySem PySem.Spec PyProof.Rows
theorem jN {K:PySem.W.Frag}{nl:Nat}{ix:List Nat}{te:TE}{σ:St}{H1:Hp}{D a:Addr}{Q:VK}{xs:List V}{F:V->V}(ha:H1 a=some (.lst xs))(nD:H1 D=none)(hl:xs.length<=1000000)
 (hc:∀ x,((cP nl ix σ).set 0 (some x)).drop nl=ix.map fun j=>(σ[j]?).join)
 (ht:∀ (H:Hp) (x:V) (R:VK),x∈xs->Same H1 H->(∀ H',Same H H'->R (F x) H')->te ((cP nl ix σ).set 0 (some x)) H R)
 (hd:∀ H,Same H1 H->H D=some (.lst (xs.map F))->Q (.ref D) H):jF nl ix (cI 0) vG te σ (Itl K a) H1 D Q:=by
 have lim:1000000 < sizeLine:=by decide
 refine dU (xs:=xs) (fun i ys H=>ys=(xs.take i).map F/\H D=some (.lst ys)/\Same H1 H) ⟨rfl,af,fun b u e=>by rw [ak (ar e nD)];exact e⟩ (fun i ys H ⟨_,h,_⟩=>h) (fun i ys H ⟨_,_,s⟩=>aAA (s a _ ha)) ?_ ?_
 ·rintro i ys H x hx ⟨rfl,hD,s⟩;have hi:i < xs.length:=(aek.mp hx).1;refine dP (hc x) (ht H x _ (aey hx) s fun H' s'=>⟨s' _ _ hD,by rw [aej,aeK];lia,nx hi ⟨?_,af,fun b u e=>?_⟩⟩)
  ·rw [aeT,hx,aeD]
   rfl
  ·rw [ak (ar e nD)];exact s' _ _ (s b u e)
 ·rintro ys H ⟨rfl,hD,s⟩;rw [ae0] at hD;exact hd H s hD
theorem lY {K:PySem.W.Frag}{nl:Nat}{ix:List Nat}{tf:TT}{te:TE}{σ:St}{H1:Hp}{D a:Addr}{Q:VK}{xs:List V}{F:V->V}{pb:V->Bool}(ha:H1 a=some (.lst xs))(nD:H1 D=none)(hl:xs.length<=1000000)
 (hc:∀ x,((cP nl ix σ).set 0 (some x)).drop nl=ix.map fun j=>(σ[j]?).join)
 (ht:∀ (H:Hp) (x:V) (R:Bool->Hp->Prop),x∈xs->Same H1 H->(∀ H',Same H H'->R (pb x) H')->tf ((cP nl ix σ).set 0 (some x)) H R)
 (he:∀ (H:Hp) (x:V) (R:VK),x∈xs->pb x=true->Same H1 H->(∀ H',Same H H'->R (F x) H')->te ((cP nl ix σ).set 0 (some x)) H R)
 (hd:∀ H,Same H1 H->H D=some (.lst ((xs.filter pb).map F))->Q (.ref D) H):jF nl ix (cI 0) tf te σ (Itl K a) H1 D Q:=by
 have lim:1000000 < sizeLine:=by decide
 refine dU (xs:=xs) (fun i ys H=>ys=((xs.take i).filter pb).map F/\H D=some (.lst ys)/\Same H1 H) ⟨rfl,af,fun b u e=>by rw [ak (ar e nD)];exact e⟩ (fun i ys H ⟨_,h,_⟩=>h) (fun i ys H ⟨_,_,s⟩=>aAA (s a _ ha)) ?_ ?_
 ·rintro i ys H x hx ⟨rfl,hD,s⟩;have hi:i < xs.length:=(aek.mp hx).1;have hm:=aey hx;refine qx (hc x) (ht H x _ hm s fun H' s'=>?_);have et:xs.take (i+1)=xs.take i++[x]:=by rw [aeT,hx];rfl
  cases hb:pb x with
  | true =>
   refine ju (he H' x _ hm hb (s.trans s') fun H2 s2=>⟨s2 _ _ (s' _ _ hD),?_,nx hi ⟨?_,af,fun b u e=>?_⟩⟩)
   ·rw [aej];exact afA (aeN (af4 _ _) (by rw [aeK];lia)) lim
   ·rw [et,afl,aeD,afi,if_pos hb]
    rfl
   ·rw [ak (ar e nD)];exact s2 _ _ (s' _ _ (s b u e))
  | false =>
   refine gK (nx hi ⟨?_,s' _ _ hD,s.trans s'⟩);rw [et,afl,afi,if_neg (by rw [hb];exact aem),List.filter_nil,ae6]
 ·rintro ys H ⟨rfl,hD,s⟩;rw [ae0] at hD;exact hd H s hD
theorem yb {X:Cx}{K:PySem.W.Frag}{a:Expr}{ta:TE}(hK:X.K=K)(ha:PE X a ta)(he:∀ whole,isTrue a X.env whole=(do let v ← whole;standAt a.pos;holding [v] (truthy v))) :
 PT X a (fun σ H Q=>ta σ H fun x H'=>∃ k,ada K x H' k/\Q k H'):=by
 subst hK;exact tT ha he
theorem vA {nl:Nat}{ix:List Nat}{tf:TT}{te:TE}{σ:St}{H1:Hp}{D a:Addr}{o:Obj}{kvs:List (Key×V)}{Q:VK}{F:Key->V}{pb:Key->Bool}(ha:H1 a=some (.frz o (.dK kvs)))(nD:H1 D=none)(hl:kvs.length<=1000000)
 (hc:∀ x,((cP nl ix σ).set 0 (some x)).drop nl=ix.map fun j=>(σ[j]?).join)
 (ht:∀ (H:Hp) (k:Key) (R:Bool->Hp->Prop),k∈kvs.map (·.1)->Same H1 H->(∀ H',Same H H'->R (pb k) H')->tf ((cP nl ix σ).set 0 (some (kV k))) H R)
 (he:∀ (H:Hp) (k:Key) (R:VK),k∈kvs.map (·.1)->pb k=true->Same H1 H->(∀ H',Same H H'->R (F k) H')->te ((cP nl ix σ).set 0 (some (kV k))) H R)
 (hd:∀ H,Same H1 H->H D=some (.lst (((kvs.map (·.1)).filter pb).map F))->Q (.ref D) H):jF nl ix (cI 0) tf te σ (ItK a o kvs) H1 D Q:=by
 have lim:1000000 < sizeLine:=by decide
 refine ya (fun i ys H=>ys=(((kvs.map (·.1)).take i).filter pb).map F/\H D=some (.lst ys)/\Same H1 H) ⟨rfl,af,fun b u e=>by rw [ak (ar e nD)];exact e⟩ (fun i ys H ⟨_,h,_⟩=>h) (fun i ys H ⟨_,_,s⟩=>s a _ ha) ?_ ?_
 ·rintro i ys H k v hx ⟨rfl,hD,s⟩;have hi:i < kvs.length:=(aek.mp hx).1;have hk:(kvs.map (·.1))[i]? = some k:=by rw [aer,hx];rfl
  have hm:=aey hk;refine qx (hc _) (ht H k _ hm s fun H' s'=>?_);have et:(kvs.map (·.1)).take (i+1)=(kvs.map (·.1)).take i++[k]:=by rw [aeT,hk];rfl
  cases hb:pb k with
  | true =>
   refine ju (he H' k _ hm hb (s.trans s') fun H2 s2=>⟨s2 _ _ (s' _ _ hD),?_,nx hi ⟨?_,af,fun b u e=>?_⟩⟩)
   ·rw [aej];exact afA (aeN (af4 _ _) (by rw [aeK,aej];lia)) lim
   ·rw [et,afl,aeD,afi,if_pos hb]
    rfl
   ·rw [ak (ar e nD)];exact s2 _ _ (s' _ _ (s b u e))
  | false =>
   refine gK (nx hi ⟨?_,s' _ _ hD,s.trans s'⟩);rw [et,afl,afi,if_neg (by rw [hb];exact aem),List.filter_nil,ae6]
 ·rintro ys H ⟨rfl,hD,s⟩;rw [afm (by rw [aej];exact aep _)] at hD;exact hd H s hD
theorem sy {nl:Nat}{ix:List Nat}{tk tv:TE}{σ:St}{H1:Hp}{D a:Addr}{o:Obj}{kvs:List (Key×V)}{Q:VK}{F:Key->V}(ha:H1 a=some (.frz o (.dK kvs)))(nd:(kvs.map (·.1)).Nodup)(nD:H1 D=none)(hl:kvs.length<=1000000)
 (hc:∀ x,((cP nl ix σ).set 0 (some x)).drop nl=ix.map fun j=>(σ[j]?).join)
 (hk:∀ (H:Hp) (k:Key) (R:VK),R (kV k) H->tk ((cP nl ix σ).set 0 (some (kV k))) H R)
 (hv:∀ (H:Hp) (k:Key) (R:VK),k∈kvs.map (·.1)->Same H1 H->(∀ H',Same H H'->R (F k) H')->tv ((cP nl ix σ).set 0 (some (kV k))) H R)
 (hd:∀ H,Same H1 H->H D=some (.dK (kvs.map fun p=>(p.1,F p.1)))->Q (.ref D) H):w8 nl ix (cI 0) vG tk tv σ (ItK a o kvs) H1 D Q:=by
 have lim:1000000 < sizeLine:=by decide
 refine aa4 (n:=kvs.length) (fun i ys H=>ys=(kvs.take i).map (fun p=>(p.1,F p.1))/\H D=some (.dK ys)/\Same H1 H) ⟨rfl,af,fun b u e=>by rw [ak (ar e nD)];exact e⟩ (fun i ys H ⟨_,h,_⟩=>h) (fun i ys H hi ⟨_,_,s⟩=>⟨hi,s a _ ha⟩) (fun ys H ⟨_,_,s⟩=>⟨rfl,s a _ ha⟩) ?_ ?_
 ·rintro i ys H x H' hi ⟨rfl,hD,s⟩ ⟨e,k,v,hx,ex⟩;subst e ex;have hkm:(kvs.map (·.1))[i]? = some k:=by rw [aer,hx];rfl
  refine u7 (hc _) (hk _ k _ (hv _ k _ (aey hkm) s fun H2 s2=>⟨k,rfl,s2 _ _ hD,by rw [aej,aeK];lia,nx hi ⟨?_,af,fun b u e=>?_⟩⟩))
  ·have no:eV ((kvs.take i).map fun p=>(p.1,F p.1)) k=none:=by
    rw [← Option.not_isSome_iff_eq_none,← gy];intro z;obtain⟨q,hq,e⟩:=ahe.mp z;obtain⟨r,hr,rfl⟩:=aeL.mp hq;have ek:r.1=k:=by simpa using e
    obtain⟨j,hj⟩:=afx hr;rw [af6] at hj;split at hj
    ·rename_i lt;have hjm:(kvs.map (·.1))[j]? = some k:=by rw [aer,hj];show some r.1=_;rw [ek]
     have:=(ahw (aek.mp hjm).1 nd).mp (hjm.trans hkm.symm);lia
    ·cases hj
   rw [tS _ no,aeT,hx,aeD]
   rfl
  ·rw [ak (ar e nD)];exact s2 _ _ (s b u e)
 ·rintro ys H ⟨rfl,hD,s⟩;rw [ae0] at hD;exact hd H s hD
section
variable {X:Cx}
theorem yU {i:Nat}{x:Str}{pos' spos:Pos}{kx vx tg iter:Expr}{ifs:List Expr}{scope:Scope}{pos:Pos}{N':List Str}{nl:Nat}{ix:List Nat}{wi:TI}{g:TG}{tf:TT}{tk tv:TE}(hN:X.N.Nodup)(hi':X.N[i]? = some x)(hx:Loc X.env.scope x)
 (hc:X.calm=true)(S:CompScope X scope)(Cp:zp X scope N' nl ix)(hi:PI X tg iter wi)
 (hg:∀ C fp s₀ H₀,PG (X.comp scope N' C fp s₀ H₀) tg g)(hf:∀ C fp s₀ H₀,PIf (X.comp scope N' C fp s₀ H₀) ifs tf)(hk:∀ C fp s₀ H₀,PE (X.comp scope N' C fp s₀ H₀) kx tk)(hv:∀ C fp s₀ H₀,PE (X.comp scope N' C fp s₀ H₀) vx tv)
 (hsw:swapsWith (.DictComp kx vx [⟨tg,iter,ifs,0⟩] scope pos) (some (.Name x pos')) spos.line X.env=pure true)
 (hs:∀ x,foldedSetIterable iter X.env x=pure x)(hfn:X.fn x=true\/X.env.scope.names.lookup x=some .local):PS X (.Assign [.Name x pos'] (.DictComp kx vx [⟨tg,iter,ifs,0⟩] scope pos) spos) (vE (xm nl ix wi g tf tk tv) (cI i)):=by
 intro pins s σ H D I h;rw [exec_Assign_Name_used _ _ _ _ hsw];refine aei (afz (aei ?_));show wpAny _ X.A (do let _ ← comprehension (.DictComp kx vx [⟨tg,iter,ifs,0⟩] scope pos) scope X.env _ _ _ (eval iter X.env) (some (assign (.Name x pos') X.env))) _ _ s;refine aei (aeV (af5 (use:=some (assign (.Name x pos') X.env)) (cl:=jr X.env scope.names []) (Q:=fun _ s'=>∃ σ' H',Inv X pins σ' H' s'/\D.nx σ' H') rfl hs (gi (S.cells I.ok)) S.kind S.loc ?_) (fun _ s' hq=>aen (aen hq)) fun _ _ e=>e);refine thn (hi pins s σ H _ I h) fun v s1 h1=>thn h1 fun itv s2 h2=>?_;obtain⟨it,fp,tn,J,H2,rfl,I2,T,st2,f2,h2⟩:=h2;obtain⟨W,⟨m0,w0⟩,turn⟩:=h2 s2.heap.objs.size I2.fresh;refine afJ (ahb S.nocell (by intro y hy;simp at hy) (fun h₁ hns₁ hsb₁=>?_) S.kind);dsimp only at hns₁ hsb₁ ⊢;have fpo:∀ b∈fp,b < s2.heap.objs.size:=fun b hb=>by
  obtain⟨o,e,_⟩:=T.obj 0 _ st2 b hb;exact aes e
 have I3:Inv X pins σ (upd H2 s2.heap.objs.size (.dK [])) { s2 with heap:=s2.heap.push { cls:=.type "dict",data:=.dict #[] },toks:=s2.toks }:=I2.laid (a:=s2.heap.objs.size) (o:=.dK []) (t':=s2.toks) (fun _ _ q=>ael _ q) (aep _) (o6 s2.heap I2.big);have hD:(upd H2 s2.heap.objs.size (.dK [])) s2.heap.objs.size=some (.dK []):=af;have f3:∀ b∈fp,jV X pins (upd H2 s2.heap.objs.size (.dK [])) b:=fun b hb=>by
  refine⟨?_,(f2 b hb).2⟩;rw [ak (aeA (fpo b hb))];exact (f2 b hb).1
 generalize hS3:s2.heap.push { cls:=.type "dict",dict:=none,data:=.dict #[] }=g3 at hns₁ hsb₁ I3 ⊢;have sz3:g3.objs.size=s2.heap.objs.size+1:=by rw [← hS3,afe]
 have fpo3:∀ b∈fp,b < ({ s2 with heap:=g3,toks:=s2.toks }:Shared).heap.objs.size:=fun b hb=>by
  show b < g3.objs.size;rw [sz3];exact aff (fpo b hb)
 have old:∀ b o,g3.get? b=some o->h₁.get? b=some o:=fun b o e=>hsb₁.extBut b o (aeA (aes e)) (ael _ e);have I4:=kW (tk:=s2.toks+([]:List (Str×Value)).length) S Cp I3 f3 fpo3 hns₁ old;generalize hX:X.comp scope N' g3.objs.size fp { s2 with heap:=g3,toks:=s2.toks } (upd H2 s2.heap.objs.size (.dK []))=X' at *;have hPr:X'.prog=X.prog:=by rw [← hX];rfl
 have hWr:X'.w=X.w:=by rw [← hX];rfl
 have hKr:X'.K=X.K:=by rw [← hX];rfl
 have hAr:X'.A=X.A:=by rw [← hX];rfl
 have hCa:X'.calm=true:=by rw [← hX];exact hc
 have hXe:X'.xe=fun _ _=>False:=by rw [← hX];rfl
 have hEx:X'.ex=fp:=by rw [← hX];rfl
 have hPn:X'.pn=[]:=by rw [← hX];rfl
 have hLo:X'.env.locals=g3.objs.size:=by rw [← hX];rfl
 have hEn:X'.env=compEnvC scope (jr X.env scope.names []) g3.objs.size X.env:=by rw [← hX];rfl
 have hg':=hg g3.objs.size fp { s2 with heap:=g3,toks:=s2.toks } (upd H2 s2.heap.objs.size (.dK []));have hf':=hf g3.objs.size fp { s2 with heap:=g3,toks:=s2.toks } (upd H2 s2.heap.objs.size (.dK []));have hk':=hk g3.objs.size fp { s2 with heap:=g3,toks:=s2.toks } (upd H2 s2.heap.objs.size (.dK []));have hv':=hv g3.objs.size fp { s2 with heap:=g3,toks:=s2.toks } (upd H2 s2.heap.objs.size (.dK []));rw [hX] at hg' hf' hk' hv';have I4':Inv X' [] (cP nl ix σ) (upd H2 s2.heap.objs.size (.dK [])) { s2 with heap:=h₁,toks:=s2.toks+([]:List (Str×Value)).length }:=I4;have back:∀ {H':Hp} {σ':St} {pins':List (Addr×Obj)} {s':Shared} {h':Heap},Inv X' pins' σ' H' s'->Heap.SameBut g3.objs.size s'.heap h'->Inv X pins σ H' { s' with heap:=h' }:=fun I' sb=>by
  subst hX;exact jM I3 f3 I' sb
 have stat:∀ {H':Hp},(∀ b∈fp,H' b=none)->∀ b∈fp,jV X' [] H' b:=fun hn b hb=>by
  refine⟨hn b hb,?_,?_,.inl (by rw [hEx];exact hb),?_,fun p hp=>by rw [hPn] at hp;cases hp⟩
  ·rw [hLo];exact aeA (fpo3 b hb)
  ·exact I4'.ok.exfs b (by rw [hEx];exact hb)
  ·exact (I4'.ok.exf b (by rw [hEx];exact hb)).2
 have loop:codeAny (model X.prog X.w) X.A (.compLoop (.DictComp kx vx [⟨tg,iter,ifs,0⟩] scope pos) 0 (.ref it) (.ref s2.heap.objs.size) X'.env)
  (compPost (model X.prog X.w) X.A X.xe (some (assign (.Name x pos') X.env)) (fun _ s'=>∃ σ' H',Inv X pins σ' H' s'/\D.nx σ' H') (.ref s2.heap.objs.size) g3.objs.size) { s2 with heap:=h₁,toks:=s2.toks+([]:List (Str×Value)).length }:=by
  rw [← hPr,← hWr,← hAr];refine uS (fun n s'=>∃ i ys H',Inv X' [] (cP nl ix σ) H' s'/\tn i s'.heap/\(∀ b∈fp,H' b=none)/\W i n ys H') ?_ m0
   ⟨0,[],_,I4',T.keep _ _ _ st2 (fun b hb o e=>old b o (by rw [← hS3];exact ael _ e)),fun b hb=>(f3 b hb).1,w0⟩
  rintro n s5 ⟨i,ys,H5,I5,st5,fr5,w5⟩;obtain⟨hD5,alt⟩:=turn i n ys H5 w5;rcases alt with ⟨stop,qn⟩ | ⟨go,step⟩
  ·rw [hPr,hWr];refine thn (T.done X' hPr hWr hKr hCa i [] s5 _ H5 _ I5 (stat fr5) st5 stop) fun r s6 ⟨hr,I6⟩=>?_;subst hr;obtain⟨m,hn,_⟩:=I6.loc;rw [hLo] at hn;have I7:Inv X pins σ H5 s6:=back I6 (aio _ _);have nC:H5 g3.objs.size=none:=by
    have:=I6.free;rw [hLo] at this;exact this
   have fC:jV X pins H5 g3.objs.size:=I3.fpOk (aep _) nC;show wpAny _ _ (assign (.Name x pos') X.env (.ref s2.heap.objs.size)) _ _ _;refine aii (jA I7 hN hi' hx (v:=.ref s2.heap.objs.size) rfl (fun s8 I8 ⟨a8,sb8,ha8⟩=>?_) hfn);have nCa:g3.objs.size≠a8:=by
    rcases ha8 with z | z
    ·rw [z];exact fC.2.1
    ·exact fun q=>fC.2.2.2.2.1 x a8 z q.symm
   refine⟨m,hn.sameBut sb8 nCa,fun h' sb=>⟨_,H5,?_,qn⟩⟩;exact I8.turnedL (t':=s8.toks) (fp:=[g3.objs.size]) (fun b o hb e=>(sb.2 b (fun z=>hb (by rw [z];exact aeq.mpr rfl))).trans e) (fun b hb=>by rw [aeq.mp hb];exact fC)
  ·have it5:=T.item X' hPr hWr hKr hCa i [] s5 _ H5 (fun _ _=>False) I5 (stat fr5) st5 go;rw [← hPr,← hWr] at it5;refine thn it5 fun r s6 ⟨u,hr,h6⟩=>?_;subst hr;refine thn h6 fun _ s7 ⟨x,H7,I7,r7,y7,st7,fr7⟩=>?_;have I7':=I7.pinned (stat fr7) (T.obj _ _ st7);have g7:=hg' _ s7 _ H7 x u _ I7' r7 (step x H7 y7);rw [hXe] at g7;refine thn g7 fun _ s8 ⟨σ8,H8,I8,⟨hl8,hd8⟩,q8⟩=>?_;have f8:=hf' _ s8 σ8 H8 _ I8 q8;rw [hXe] at f8;refine thn f8 fun ok s9 ⟨H9,I9,q9⟩=>?_;have again:∀ {H10:Hp} {s10:Shared} {ys':List (Key×V)},Inv X' ([]++fJ fp s7.heap) σ8 H10 s10->(∃ m',m' < n/\W (i+1) m' ys' H10)->∃ m,m < n/\∃ i ys H',Inv X' [] (cP nl ix σ) H' s10/\tn i s10.heap/\(∀ b∈fp,H' b=none)/\W i m ys H':=fun {H10 s10 ys'} I10 ⟨m',hm,w'⟩=>by
    refine⟨m',hm,i+1,ys',H10,iC I10.unpinned hl8 hd8,T.keep _ _ _ st7 fun b hb o e=>(I10.pin (b,o) (aex _ (aex _ (aW hb e)))).1,fun b hb=>?_,w'⟩;obtain⟨o,e,d⟩:=T.obj _ _ st7 b hb;exact (I10.pin (b,o) (aex _ (aex _ (aW hb e)))).2.1
   cases ok with
   | false =>
    rw [if_neg aem] at q9 ⊢;exact again I9 q9
   | true =>
    rw [if_pos rfl] at q9 ⊢;have e9:=hk' _ s9 σ8 H9 _ I9 q9;rw [hXe] at e9;refine thn e9 fun zv s10 ⟨z,H10,I10,r10,q10⟩=>?_;have e10:=hv' _ s10 σ8 H10 _ I10 q10;rw [hXe] at e10;refine thn e10 fun xv s11 ⟨y,H11,I11,r11,k,ez,hD11,hz,mw⟩=>?_;subst ez;obtain⟨z1,hd,vs,rel,dd⟩:=vz I11.hok hD11;refine wpAny_dictSet_pairs (uY r10) dd (hsz:=by rw [← rel.length];exact z1) fun h' dd' hs=>?_;have heo:∃ q,h'.get? s2.heap.objs.size=some q:=let ⟨q,_,_,hq,_⟩:=dd';⟨q,hq⟩;have hl:(fY ys k y).length<=sizeLine:=by have:=dF ys k y;lia
    exact again (lO I11 (by rw [hD11];exact True.intro) hs heo (xt hl hd (rel.put k r11) dd')) mw
 rw [hEn] at loop;exact codeAny_compStart_dict loop (T.self _ 0 _ _ _ (T.keep _ _ _ st2 (fun b hb o e=>old b o (by rw [← hS3];exact ael _ e))) loop)
theorem zj {i:Nat}{x:Str}{pos' spos:Pos}{kx vx tg iter:Expr}{ifs:List Expr}{outer scope:Scope}{pos:Pos}{N N':List Str}{nl:Nat}{ix:List Nat}{wi:TI}{g:TG}{tf:TT}{tk tv:TE}(hN:X.N.Nodup)(hi':X.N[i]? = some x)(hx:Loc X.env.scope x)
 (h1:X.env.scope=outer)(h2:X.N=N)(hc:X.calm=true)(hi:PI X tg iter wi)
 (hg:∀ C fp s₀ H₀,PG (X.comp scope N' C fp s₀ H₀) tg g)(hf:∀ C fp s₀ H₀,PIf (X.comp scope N' C fp s₀ H₀) ifs tf)(hk:∀ C fp s₀ H₀,PE (X.comp scope N' C fp s₀ H₀) kx tk)(hv:∀ C fp s₀ H₀,PE (X.comp scope N' C fp s₀ H₀) vx tv)
 (hsw:swapsWith (.DictComp kx vx [⟨tg,iter,ifs,0⟩] scope pos) (some (.Name x pos')) spos.line X.env=pure true:=by rfl)
 (hck:jG outer scope N N' nl ix=true:=by decide +kernel)(hs:∀ x,foldedSetIterable iter X.env x=pure x:=by intro _;rfl)(hfn:X.fn x=true\/X.env.scope.names.lookup x=some .local:=by first | exact .inl rfl | exact .inr rfl | assumption) :
 PS X (.Assign [.Name x pos'] (.DictComp kx vx [⟨tg,iter,ifs,0⟩] scope pos) spos) (vE (xm nl ix wi g tf tk tv) (cI i)) :=
 let ⟨S,Cp⟩:=jo h1 h2 hck
 yU hN hi' hx hc S Cp hi hg hf hk hv hsw hs hfn
end
end L2
namespace L2
open PySem PySem.Spec PySem.Calls PyProof.Rows PySem.W
section
variable {prog:Program}{w:World}{A:Around}{E:Value->Shared->Prop}{s:Shared}{a:Addr}
end
section
variable {X:Cx}
end
end L2
namespace L2
open PySem PySem.Spec PyProof.Rows PySem.W
theorem KV.at' {kvs:List (Key×V)}{vs:List (Key×Value)}(r:KV kvs vs):∀ {i:Nat} {k:Key} {u:Value},vs[i]? = some (k,u)->∃ v,kvs[i]? = some (k,v)/\RelV v u:=by
 induction r with
 | nil=>intro i k u e;simp at e
 | cons h t ih =>
  intro i k u e;cases i with
  | zero =>
   cases e;obtain⟨h1,h2⟩:=h;exact⟨_,afy some (Prod.ext h1 rfl),h2⟩
  | succ i=>exact ih (by simpa using e)
theorem nA:entryFor table "dict_itemiterator.__iter__" = some Builtin.«dict_keyiterator.__iter__» :=
 entryFor_alias (id' := "dict_keyiterator.__iter__") (by kernel_rfl) (by first | rfl | decide +kernel) (by decide +kernel) (by kernel_rfl)
theorem pq {prog:Program}{w:World}{A:Around}{E:Value->Shared->Prop}{s:Shared}{it d:Addr}{i n ep:Nat}{ok ov:Value}{Q:Value->Shared->Prop}(hit:IsItemIter s.heap it d i n ep ok ov)(h:Q (.ref it) s):wpAny (model prog w) A (pyIter (.ref it)) Q E s:=by
 have hT:s.TypeIs (.ref it) "dict_itemiterator" := ⟨_,hit,rfl⟩;refine aip hT ahf (afU ahf hT nA ?_ (PySem.F.args_dict_itemiterator_iter_1 _));show wpAny _ _ (ret (.ref it)) _ _ s;exact aen ⟨_,rfl,"dict_itemiterator",_,hT,PySem.F.slot_dict_itemiterator_next.lookup,h⟩
def ItI (a:Addr)(o:Obj)(kvs:List (Key×V)):It :=
 ⟨fun i H=>i < kvs.length/\H a=some (.frz o (.dK kvs)),fun i H x H'=>∃ T k v,x=.ref T/\H T=none/\H'=upd H T (.tup [kV k,v])/\kvs[i]? = some (k,v),fun i H=>i=kvs.length/\H a=some (.frz o (.dK kvs))⟩
theorem uM {P:Program}{w:World}{K:PySem.W.Frag}{es:List Expr}{kk:Nat}{tp:Pos}(a it:Addr)(o:Obj)(kvs:List (Key×V))(ep:Nat)(hep:∃ es,o.data=.dict es ep):yr P w K (.Tuple es kk tp) (ItI a o kvs) [it] it (fun i h=>∃ ok ov,IsItemIter h it a i kvs.length ep ok ov) where
 mem:=by simp
 obj:=fun i h st b hb=>by
  have e:b=it:=by simpa using hb
  subst e;obtain⟨ok,ov,e⟩:=st;exact⟨_,e,fun v z=>by cases z⟩
 keep:=fun i h h' st k=>let ⟨ok,ov,e⟩:=st;⟨ok,ov,k it (by simp) _ e⟩
 item:=by
  intro X hP hw hK hc i pins s σ H E I hf st hg;subst hP hw hK;obtain⟨hi,hH⟩:=hg;obtain⟨ho,_,_,vs,rel,dd⟩:=I.hok a _ hH;obtain⟨ep',da⟩:=dd.dictAt;have ee:ep'=ep:=by
   obtain⟨es,h1⟩:=hep;obtain⟨o',es',h2,_,h3,_⟩:=id da;rw [ho] at h2;cases h2;rw [h1] at h3;injection h3 with _ z
   exact z.symm
  subst ee;have hl:=rel.length;obtain⟨⟨k,u⟩,hx⟩:∃ p,vs[i]? = some p:=⟨vs[i],by simp [← hl,hi]⟩;obtain⟨v,hv,rv⟩:=rel.at' hx;obtain⟨ok,ov,hit⟩:=st;rw [hl] at hit;refine wpAny_pyNext_items_item (knd:=aX X.prog X.w) hit da hx fun key h' hkey hout hT hsz kp=>?_;refine⟨_,rfl,wpAny_letOwnedTupleGo_items hout fun h2 hit2 hs2=>?_⟩;have lt:it < s.heap.objs.size:=aes hit;have hT2:h2.get? s.heap.objs.size=some { cls:=.type "tuple",data:=.seq #[key,u] }:=(hs2.2 _ (agZ lt)).trans hT;have hh2:∀ b o,b ∉ [it]->s.heap.get? b=some o->h2.get? b=some o:=fun b o hb q=>(hs2.2 b (fun z=>hb (by simp [z]))).trans (kp b o (fun z=>hb (by simp [z])) q);have I2:=I.turnedNew (t':=s.toks) (h':=h2) (o:=.tup [kV k,v]) hh2 hf (aep _) ⟨by show 2<=sizeLine;decide,[key,u],.cons (oF hkey) (.cons rv .nil),_,hT2,rfl,_,rfl⟩;refine⟨.ref s.heap.objs.size,_,I2,rfl,⟨_,k,v,rfl,I.fresh,rfl,hv⟩,⟨key,u,by rw [hl];exact hit2⟩,fun b hb=>?_⟩;have e:b=it:=by simpa using hb
  subst e;rw [ak (aeA lt)];exact (hf b hb).1
 done:=by
  intro X hP hw hK hc i pins s σ H E I hf st hg;subst hP hw hK;obtain⟨hi,hH⟩:=hg;obtain⟨ho,_,_,vs,rel,dd⟩:=I.hok a _ hH;obtain⟨ep',da⟩:=dd.dictAt;have ee:ep'=ep:=by
   obtain⟨es,h1⟩:=hep;obtain⟨o',es',h2,_,h3,_⟩:=id da;rw [ho] at h2;cases h2;rw [h1] at h3;injection h3 with _ z
   exact z.symm
  subst ee;have hl:=rel.length;obtain⟨ok,ov,hit⟩:=st;rw [hl] at hit;obtain⟨f0,f1,f2,f3,f4,f5⟩:=hf it (by simp);exact wpAny_pyNext_items_end (knd:=aX X.prog X.w) (I.ok.hd hc) hit da (by rw [hi,hl];simp) fun h' eb=>⟨rfl,I.turned (t':=s.toks) (fun b o hb e=>eb b o hb e) f0 f1 f3 f4 f5⟩
 self:=fun _ s _ _ _ st h=>let ⟨_,_,hit⟩:=st;pq hit h
def acK (H₀:Hp)(td:TE):TI:=fun σ H R=>td σ H fun x H1=>∃ a kvs,x=.ref a/\H1 a=some (.dK kvs)/\∀ o,(∀ o' u,H₀ a≠some (.frz o' u))->R (ItI a o kvs) (upd H1 a (.frz o (.dK kvs)))
section
variable {X:Cx}
theorem ug {l:Expr}{tl:TE}{H₀:Hp}{apos cpos tp:Pos}{es:List Expr}{kk:Nat}(hH:X.H₀=H₀)(hl:PE X l tl)(hbase:attributeBase l "items" X.env (eval l X.env)=eval l X.env:=by rfl)(hline:(apos.endLine == cpos.line)=true:=by rfl):PI X (.Tuple es kk tp) (.Call (.Attribute l "items" apos) [] [] cpos) (acK H₀ tl):=by
 subst hH;intro pins s σ H R I h;refine wpAny_Call_method0_late hbase hline (thn (hl pins s σ H _ I h) fun v s1 ⟨y,H1,I1,r1,q1⟩=>?_);obtain⟨a,kvs,rfl,e,q⟩:=q1;cases r1;obtain⟨z,hd,vs,rel,dd⟩:=vz I1.hok e;obtain⟨ep,da⟩:=dd.dictAt;obtain⟨o,es',ho,hc,hes,_⟩:=id da;obtain⟨h1,h2⟩:=z5 (T := "dict") I1 (show RelV (.ref a) (.ref a) from rfl) (.inr (.inr (.inl ⟨rfl,.inl ⟨kvs,e⟩⟩)));refine⟨"dict","dict.items",PySem.F.plainAttrs_dict,aiE,PySem.F.type_dict_items,h1,h2,Calls.callWith_builtin rfl (PySem.evalArgs_none ?_)⟩;refine call_meetsIn aiE h1 PySem.F.entry_dict_items (PySem.F.args_dict_items_1 _) (meets_dict_items (aX X.prog X.w) a hd) ⟨⟨vs,dd⟩,?_⟩;have da':(s1.heap.push { cls:=.type "dict_items",data:=.fields #[.ref a] }).DictAt (aX X.prog X.w) a vs ep:=da.at' fun o e=>ael _ e;refine wpAny_pyIter_items (s:={ s1 with heap:=s1.heap.push { cls:=.type "dict_items",data:=.fields #[.ref a] } }) (knd:=aX X.prog X.w) ⟨_,aeF _ rfl,rfl,rfl⟩ da' ?_;have sz:(s1.heap.push { cls:=.type "dict_items",data:=.fields #[.ref a] }).objs.size=s1.heap.objs.size+1:=afe ..;have I2:=(I1.freeze e ho).kept (t':=s1.toks) (h':=(s1.heap.push { cls:=.type "dict_items",data:=.fields #[.ref a] }).push { cls:=.type "dict_itemiterator",data:=.fields #[.none,.bool false,.ref a,.int 0 0,.int vs.length 0,.int ep 0,.none,.none] }) fun b o e=>ael _ (ael _ e);have ge:s1.heap.objs.size<=(s1.heap.push { cls:=.type "dict_items",data:=.fields #[.ref a] }).objs.size:=by rw [sz];exact afh _
 have hn:(upd H1 a (.frz o (.dK kvs))) (s1.heap.push { cls:=.type "dict_items",data:=.fields #[.ref a] }).objs.size=none:=by
  have:=I1.hok.fresh ge;rw [ak (fun z=>by rw [z,e] at this;cases this)];exact this
 refine⟨_,[(s1.heap.push { cls:=.type "dict_items",data:=.fields #[.ref a] }).objs.size],_,ItI a o kvs,upd H1 a (.frz o (.dK kvs)),rfl,I2,uM a _ o kvs ep ⟨es',hes⟩,⟨.none,.none,by rw [rel.length];exact aeF _ rfl⟩,fun b hb=>?_,q o (I1.notFrz e)⟩;have eb:b=(s1.heap.push { cls:=.type "dict_items",data:=.fields #[.ref a] }).objs.size:=by simpa using hb
 subst eb;exact I1.fpOk ge hn
end
theorem p7 {a:Addr}{o:Obj}{kvs:List (Key×V)}{g:TG}{tb:TS}{D:Ends}{σ:St}{H:Hp}(Pv:Nat->St->Hp->Prop)(h0:Pv 0 σ H)(hl:∀ i σ H,i<=kvs.length->Pv i σ H->H a=some (.frz o (.dK kvs)))
 (hs:∀ i k v σ H T,kvs[i]? = some (k,v)->Pv i σ H->H T=none->g (.ref T) σ (upd H T (.tup [kV k,v])) fun σ2 H2=>tb { D with nx:=Pv (i+1),ct:=Pv (i+1),bk:=D.nx } σ2 H2)(hd:∀ σ H,Pv kvs.length σ H->D.nx σ H) :
 ∃ W:Nat->Nat->St->Hp->Prop,(∃ m,W 0 m σ H)/\∀ i m σ H,W i m σ H →
  ((ItI a o kvs).stop i H/\D.nx σ H)\/((ItI a o kvs).go i H/\∃ N:St->Hp->Prop,(∀ σ' H',N σ' H'->∃ m',m' < m/\W (i+1) m' σ' H')/\∀ x H',(ItI a o kvs).yld i H x H'->g x σ H' fun σ2 H2=>tb { D with nx:=N,ct:=N,bk:=D.nx } σ2 H2):=by
 refine⟨fun i m σ H=>m=kvs.length - i/\i<=kvs.length/\Pv i σ H,⟨kvs.length,by simp,aeM _,h0⟩,?_⟩;rintro i m σ H ⟨rfl,hi,p⟩;have q1:=hl i σ H hi p;by_cases hlt:i < kvs.length
 ·refine .inr ⟨⟨hlt,q1⟩,Pv (i+1),fun σ' H' p'=>⟨kvs.length - (i+1),by lia,rfl,hlt,p'⟩,fun x H' y=>?_⟩;obtain⟨T,k,v,ex,hT,eH,hu⟩:=y;subst ex eH;exact hs i k v σ H T hu p hT
 ·have e:i=kvs.length:=by lia
  subst e;exact .inl ⟨⟨rfl,q1⟩,hd σ H p⟩
end L2
namespace L2
open PySem PySem.Spec PyProof.Rows
section
variable {X:Cx}{P:Program}{w:World}{K:PySem.W.Frag}
theorem wq (hK:X.K=K)(hc:X.calm=true):gI X (.builtin "all") (fun xs H Q=>∃ (p:Addr) (bs:List Bool),xs=[.ref p]/\SqL K H p (bs.map V.bl)/\Q (.bl (bs.all id)) H):=by
 subst hK;exact k9 hc
theorem t8 {a:Expr}{ta:TA}{p pos:Pos}{es:List Expr}{kk:Nat}{tp:Pos}(hK:X.K=K)(hg:Gl X "enumerate")(hm:X.mg "enumerate" = none)(ha:PA X [a] ta)(hs:starEach [a] X.env=[(false,eval a X.env)]:=by rfl):PI X (.Tuple es kk tp) (.Call (.Name "enumerate" p) [a] [] pos) (abI K ta):=by
 subst hK;exact pK hg hm ha hs
end
end L2
namespace TS
open PySem PyProof.Rows
def wK:Bool->Keyed->Array Keyed->Nat->Nat->Nat->StateT SortSt Sem (Option Nat):=sortPriv% PySem.Builtin.gallop
def kk (κ:KeyKind)(p:Keyed):κ.α:=(κ.keyOf p.1).getD κ.dflt
def Va (κ:KeyKind)(p:Keyed):Prop:=∃ a,κ.keyOf p.1=some a
theorem lu {κ:KeyKind}{xs:Array Keyed}{i:Nat}{p:Keyed}(h:xs[i]? = some p):KK κ xs i=kk κ p:=by
 unfold KK kk;rw [h]
def LtAt (prog:Program)(w:World)(A:Around)(s:Shared)(κ:KeyKind):Prop:=∀ (E:Value->Shared->Prop) (x y:Value) (a b:κ.α) {Q:Bool->Shared->Prop},κ.keyOf x=some a->κ.keyOf y=some b->Q (κ.blt a b) s->wpAny (model prog w) A (oneLt' true x y) Q E s
theorem LtAt.of {prog:Program}{w:World}{A:Around}{s:Shared}{κ:KeyKind}(h:κ.OneLt):LtAt prog w A s κ:=fun E x y a b Q hx hy q=>h prog w A E s x y a b hx hy q
section
variable {prog:Program}{w:World}{A:Around}{E:Value->Shared->Prop}{s:Shared}{κ:KeyKind}
theorem abR (hO:LtAt prog w A s κ){st:SortSt}{x y:Keyed}{Q:Option Bool->SortSt->Prop}(hk:kindOf st=oneType')(hx:Va κ x)(hy:Va κ y)(h:Q (some (κ.blt (kk κ x) (kk κ y))) st):wpS (model prog w) A E s (lt' x y) Q st:=by
 obtain⟨a,ha⟩:=hx;obtain⟨b,hb⟩:=hy;have ea:kk κ x=a:=by unfold kk;rw [ha];rfl
 have eb:kk κ y=b:=by unfold kk;rw [hb];rfl
 rw [ea,eb] at h;rw [lt'_eq];refine aez (ahG ?_);rw [hk,keyLt'_oneType];exact aez (wpS_lift (wpAny_attempt (hO _ x.1 y.1 a b ha hb ⟨rfl,aeI h⟩)))
theorem cC {arr:Array Keyed}{i:Nat}{p:Keyed}{st:SortSt}{Q:Keyed->SortSt->Prop}(h:arr[i]? = some p)(q:Q p st):wpS (model prog w) A E s (elem' arr i) Q st:=by
 rw [elem'_eq,h];exact aeI q
def bey (κ:KeyKind)(left:Bool)(key:Keyed)(arr:Array Keyed)(base i:Nat):Bool:=if left=true then κ.blt (KK κ arr (base+i)) (kk κ key) else !κ.blt (kk κ key) (KK κ arr (base+i))
theorem za (hO:LtAt prog w A s κ){left:Bool}{key:Keyed}{arr:Array Keyed}{base i:Nat}{st:SortSt}{Q:Option Bool->SortSt->Prop}(hk:kindOf st=oneType')(hkey:Va κ key)(hv:∃ p,arr[base+i]? = some p/\Va κ p)(h:Q (some (bey κ left key arr base i)) st) :
 wpS (model prog w) A E s (elem' arr (base+i) >>= fun x=>if left=true then lt' x key else lt' key x >>= fun l=>pure (l.map fun b=>!b)) Q st:=by
 obtain⟨p,hp,vp⟩:=hv;unfold bey at h;rw [lu hp] at h;refine aez (cC hp ?_);cases left with
 | true =>
  rw [if_pos rfl] at h ⊢;exact abR hO hk vp hkey h
 | false =>
  rw [if_neg aem] at h ⊢;exact aez (abR hO hk hkey vp (aeI h))
theorem vm (hO:LtAt prog w A s κ){left:Bool}{key:Keyed}{arr:Array Keyed}{base n hint:Nat}{st:SortSt}{Q:Option Nat->SortSt->Prop}(hk:kindOf st=oneType')(hkey:Va κ key)(hv:∀ i,i < n->∃ p,arr[base+i]? = some p/\Va κ p)(hn:hint < n)
 (mono:∀ i j,i<=j->j < n->bey κ left key arr base j=true->bey κ left key arr base i=true)
 (h:∀ k,k<=n->(∀ i,i < k->bey κ left key arr base i=true)->(∀ i,k<=i->i < n->bey κ left key arr base i=false)->Q (some k) st) :
 wpS (model prog w) A E s (wK left key arr base n hint) Q st:=by
 have down:∀ i j,i<=j->j < n->bey κ left key arr base i=false->bey κ left key arr base j=false:=fun i j hij hj e=>by
  cases q:bey κ left key arr base j with
  | false=>rfl
  | true=>rw [mono i j hij hj q] at e;cases e
 refine aez (za hO hk hkey (hv hint hn) ?_);dsimp -zeta -zetaHave only
 lift_lets
 extract_lets jp
 have hjp:∀ lastofs ofs lo hi,lo<=hi->hi<=n->(∀ i,i < lo->bey κ left key arr base i=true)->(∀ i,hi<=i->i < n->bey κ left key arr base i=false)->wpS (model prog w) A E s (jp () lastofs ofs lo hi) Q st:=by
  intro lastofs ofs lo hi h1 h2 h3 h4;refine aez (ags (afr (I:=fun x c st'=>st'=st/\∃ l r,c=(none,l,r)/\l<=r/\r<=n/\r - l<=n - x/\(∀ i,i < l->bey κ left key arr base i=true)/\(∀ i,r<=i->i < n->bey κ left key arr base i=false))
   (Q:=fun c st'=>st'=st/\∃ l r,c=(none,l,r)/\r<=n/\(∀ i,i < r->bey κ left key arr base i=true)/\(∀ i,r<=i->i < n->bey κ left key arr base i=false)) ?_ ?_ ⟨rfl,lo,hi,rfl,h1,h2,by lia,h3,h4⟩) ?_)
  ·rintro x c st' _ hx ⟨rfl,l,r,rfl,g1,g2,g3,g4,g5⟩;dsimp only;by_cases hge:l ≥ r
   ·rw [if_pos hge];have e:l=r:=by lia
    subst e;exact aeI ⟨rfl,l,l,rfl,g2,g4,g5⟩
   ·rw [if_neg hge];refine aez (za hO hk hkey (hv _ (by lia)) ?_);dsimp only;cases q:bey κ left key arr base (l+(r - l) / 2) with
    | true =>
     rw [if_pos rfl];exact aeI ⟨rfl,_,r,rfl,by lia,g2,by lia,fun i hi=>mono i _ (by lia) (by lia) q,g5⟩
    | false =>
     rw [if_neg aem];exact aeI ⟨rfl,l,_,rfl,by lia,by lia,by lia,g4,fun i hi hin=>down _ i hi hin q⟩
  ·rintro c st' ⟨rfl,l,r,rfl,g1,g2,g3,g4,g5⟩;have e:l=r:=by lia
   subst e;exact⟨rfl,l,l,rfl,g2,g4,g5⟩
  ·rintro c st' ⟨rfl,l,r,rfl,g2,g4,g5⟩;exact aeI (h r g2 g4 g5)
 clear_value jp
 cases q0:bey κ left key arr base hint with
 | true =>
  rw [if_pos rfl];refine aez (ags (afr (I:=fun x c st'=>st'=st/\∃ lf of,c=(none,lf,of)/\x+1<=of/\lf < of/\hint+lf < n/\bey κ left key arr base (hint+lf)=true)
   (Q:=fun c st'=>st'=st/\∃ lf of,c=(none,lf,of)/\lf < of/\hint+lf < n/\bey κ left key arr base (hint+lf)=true/\(n - hint<=of\/bey κ left key arr base (hint+of)=false)) ?_ ?_ ⟨rfl,0,1,rfl,by lia,by lia,by lia,q0⟩) ?_)
  ·rintro x c st' _ hx ⟨rfl,lf,of,rfl,g1,g2,g3,g4⟩;dsimp only;by_cases hge:of ≥ n - hint
   ·rw [if_pos hge];exact aeI ⟨rfl,lf,of,rfl,g2,g3,g4,.inl hge⟩
   ·rw [if_neg hge];refine aez (za hO hk hkey (hv _ (by lia)) ?_);dsimp only;cases q:bey κ left key arr base (hint+of) with
    | true =>
     rw [if_neg (by simp)];exact aeI ⟨rfl,of,_,rfl,by lia,by lia,by lia,q⟩
    | false =>
     rw [if_pos (show (!false)=true from rfl)];exact aeI ⟨rfl,lf,of,rfl,g2,g3,g4,.inr q⟩
  ·rintro c st' ⟨rfl,lf,of,rfl,g1,g2,g3,g4⟩;exact⟨rfl,lf,of,rfl,g2,g3,g4,.inl (by lia)⟩
  ·rintro c st' ⟨rfl,lf,of,rfl,g2,g3,g4,g5⟩;dsimp only;refine hjp _ _ _ _ (by lia) (by lia) (fun i hi=>mono i (hint+lf) (by lia) g3 g4) (fun i hi hin=>?_);rcases g5 with g5 | g5
   ·lia
   ·exact down (hint+of) i (by lia) hin g5
 | false =>
  rw [if_neg aem];refine aez (ags (afr (I:=fun x c st'=>st'=st/\∃ lf of,c=(none,lf,of)/\x+1<=of/\lf < of/\lf<=hint/\bey κ left key arr base (hint - lf)=false)
   (Q:=fun c st'=>st'=st/\∃ lf of,c=(none,lf,of)/\lf < of/\lf<=hint/\bey κ left key arr base (hint - lf)=false/\(hint+1<=of\/bey κ left key arr base (hint - of)=true)) ?_ ?_ ⟨rfl,0,1,rfl,by lia,by lia,by lia,q0⟩) ?_)
  ·rintro x c st' _ hx ⟨rfl,lf,of,rfl,g1,g2,g3,g4⟩;dsimp only;by_cases hge:of ≥ hint+1
   ·rw [if_pos hge];exact aeI ⟨rfl,lf,of,rfl,g2,g3,g4,.inl hge⟩
   ·rw [if_neg hge];refine aez (za hO hk hkey (hv _ (by lia)) ?_);dsimp only;cases q:bey κ left key arr base (hint - of) with
    | true =>
     rw [if_pos rfl];exact aeI ⟨rfl,lf,of,rfl,g2,g3,g4,.inr q⟩
    | false =>
     rw [if_neg aem];exact aeI ⟨rfl,of,_,rfl,by lia,by lia,by lia,q⟩
  ·rintro c st' ⟨rfl,lf,of,rfl,g1,g2,g3,g4⟩;exact⟨rfl,lf,of,rfl,g2,g3,g4,.inl (by lia)⟩
  ·rintro c st' ⟨rfl,lf,of,rfl,g2,g3,g4,g5⟩;dsimp only;refine hjp _ _ _ _ (by lia) (by lia) (fun i hi=>?_) (fun i hi hin=>down (hint - lf) i (by lia) hin g4);rcases g5 with g5 | g5
   ·lia
   ·exact mono i (hint - of) (by lia) (by lia) g5
end
def y4:Array Keyed->Array Keyed->StateT SortSt Sem (Array Keyed):=sortPriv% PySem.Builtin.mergeLo
def zV:Array Keyed->Array Keyed->StateT SortSt Sem (Array Keyed):=sortPriv% PySem.Builtin.mergeHi
def le (κ:KeyKind)(x y:Keyed):Prop:=κ.kle (kk κ x) (kk κ y)
def lt (κ:KeyKind)(x y:Keyed):Prop:=κ.klt (kk κ x) (kk κ y)
def SL (κ:KeyKind)(l:List Keyed):Prop:=l.Pairwise (le κ)
section
variable {κ:KeyKind}
theorem le_trans {x y z:Keyed}(a:le κ x y)(b:le κ y z):le κ x z:=agS a b
theorem le_of_lt {x y:Keyed}(a:lt κ x y):le κ x y:=ag7 a
theorem le_refl (x:Keyed):le κ x x:=agC _
structure Mg (κ:KeyKind)(LL o A B:List Keyed):Prop where
 perm:(o++(A++B)).Perm LL
 sa:SL κ (o++A)
 sb:SL κ (o++B)
def nj (κ:KeyKind)(LL m:List Keyed):Prop:=m.Perm LL/\SL κ m
theorem Mg.a {LL o c A B:List Keyed}(h:Mg κ LL o (c++A) B)(hc:∀ x∈c,∀ y∈B,le κ x y):Mg κ LL (o++c) A B:=by
 refine⟨?_,?_,?_⟩
 ·have:=h.perm;rw [aet] at this;rw [aet];exact this
 ·rw [aet];exact h.sa
 ·have s1:=h.sa;have s2:=h.sb;unfold SL at *;rw [← aet] at s1;rw [afc] at s1 s2 ⊢;refine⟨s1.1,s2.2.1,fun x hx y hy=>?_⟩;rcases aew.mp hx with hx | hx
  ·exact s2.2.2 x hx y hy
  ·exact hc x hx y hy
theorem Mg.b {LL o c A B:List Keyed}(h:Mg κ LL o A (c++B))(hc:∀ y∈c,∀ x∈A,le κ y x):Mg κ LL (o++c) A B:=by
 refine⟨?_,?_,?_⟩
 ·refine List.Perm.trans ?_ h.perm;rw [aet];refine agt o ?_;rw [← aet,← aet];exact agm B ag4
 ·have s1:=h.sa;have s2:=h.sb;unfold SL at *;rw [← aet] at s2;rw [afc] at s1 s2 ⊢;refine⟨s2.1,s1.2.1,fun x hx y hy=>?_⟩;rcases aew.mp hx with hx | hx
  ·exact s1.2.2 x hx y hy
  ·exact hc x hx y hy
 ·rw [aet];exact h.sb
theorem Mg.endA {LL o A:List Keyed}(h:Mg κ LL o A []):nj κ LL (o++A):=⟨by have:=h.perm;rwa [ae6] at this,h.sa⟩
theorem Mg.endB {LL o B:List Keyed}(h:Mg κ LL o [] B):nj κ LL (o++B):=⟨h.perm,h.sb⟩
theorem Mg.last {LL o B:List Keyed}{z:Keyed}(h:Mg κ LL o [z] B)(hz:∀ y∈B,le κ y z):nj κ LL (o++B++[z]):=by
 refine⟨?_,?_⟩
 ·refine List.Perm.trans ?_ h.perm;rw [aet];exact agt o ag4
 ·have s1:=h.sa;have s2:=h.sb;unfold SL at *;rw [afc] at s1 ⊢;refine⟨s2,s1.2.1,fun x hx y hy=>?_⟩;rcases aew.mp hx with hx | hx
  ·exact s1.2.2 x hx y hy
  ·rw [aeq.mp hy];exact hz x hx
theorem SL.at {l:List Keyed}(h:SL κ l){i j:Nat}{x y:Keyed}(hij:i<=j)(hx:l[i]? = some x)(hy:l[j]? = some y):le κ x y:=by
 obtain⟨hi,ex⟩:=aek.mp hx;obtain⟨hj,ey⟩:=aek.mp hy;rcases Nat.lt_or_eq_of_le hij with q | q
 ·rw [← ex,← ey];exact agv.mp h i j hi hj q
 ·subst q;rw [← ex,← ey];exact le_refl _
theorem SL.head {l:List Keyed}{x:Keyed}(h:SL κ (x::l)):∀ y∈x::l,le κ x y:=fun y hy=>by
 rcases aeu.mp hy with e | e
 ·rw [e];exact le_refl _
 ·exact (afa.mp h).1 y e
theorem SL.drop {l:List Keyed}(h:SL κ l)(n:Nat):SL κ (l.drop n):=ai2 (List.drop_sublist _ _) h
theorem SL.take {l:List Keyed}(h:SL κ l)(n:Nat):SL κ (l.take n):=ai2 (List.take_sublist _ _) h
end
section
variable {prog:Program}{w:World}{A:Around}{E:Value->Shared->Prop}{s:Shared}{κ:KeyKind}
theorem eP (hO:LtAt prog w A s κ){left:Bool}{key:Keyed}{arr:Array Keyed}{base n hint:Nat}{st:SortSt}{Q:Option Nat->SortSt->Prop}(hk:kindOf st=oneType')(hkey:Va κ key)(hb:base+n<=arr.size)(va:∀ p∈(arr.toList.drop base).take n,Va κ p)(so:SL κ ((arr.toList.drop base).take n))(hn:hint < n)
 (h:∀ k,k<=n->(∀ x∈((arr.toList.drop base).take n).take k,if left=true then lt κ x key else le κ x key)->(∀ x∈((arr.toList.drop base).take n).drop k,if left=true then le κ key x else lt κ key x)->Q (some k) st) :
 wpS (model prog w) A E s (wK left key arr base n hint) Q st:=by
 have at_:∀ i,i < n->∃ p,arr[base+i]? = some p/\((arr.toList.drop base).take n)[i]? = some p:=fun i hi=>by
  refine⟨arr[base+i],getElem?_pos _ _ (by lia),?_⟩;rw [agy hi,agY];simp
 have len:((arr.toList.drop base).take n).length=n:=by
  rw [aeK,afs,aeE];lia
 generalize (arr.toList.drop base).take n=S at va so h at_ len;refine vm hO hk hkey (fun i hi=>?_) hn (fun i j hij hj e=>?_) fun k hkn h1 h2=>h k hkn (fun x hx=>?_) (fun x hx=>?_)
 ·obtain⟨p,e1,e2⟩:=at_ i hi;exact⟨p,e1,va p (aey e2)⟩
 ·obtain⟨p,e1,e2⟩:=at_ i (by lia);obtain⟨q,e3,e4⟩:=at_ j hj;have hle:=so.at hij e2 e4;unfold bey at e ⊢;rw [lu e1];rw [lu e3] at e;cases left with
  | true =>
   rw [if_pos rfl] at e ⊢;exact KeyOrd.klt_of_kle_of_klt hle e
  | false =>
   rw [if_neg aem] at e ⊢;have e':κ.blt (kk κ key) (kk κ q)=false:=by simpa using e
   have this:κ.blt (kk κ key) (kk κ p)=false:=agS hle e';rw [this]
   rfl
 ·obtain⟨i,hi,ex⟩:=ahc.mp hx;rw [aeK] at hi;rw [ais] at ex;obtain⟨p,e1,e2⟩:=at_ i (by lia);have q:=h1 i (by lia);rw [aeh (by lia)] at e2;rw [ex] at e2;cases e2;unfold bey at q;rw [lu e1] at q;cases left with
  | true=>exact q
  | false =>
   rw [if_neg aem] at q ⊢;show κ.blt (kk κ key) (kk κ x)=false;simpa using q
 ·obtain⟨i,hi,ex⟩:=ahc.mp hx;rw [afs] at hi;rw [ait] at ex;obtain⟨p,e1,e2⟩:=at_ (k+i) (by lia);have q:=h2 (k+i) (by lia) (by lia);rw [aeh (by lia)] at e2;rw [ex] at e2;cases e2;unfold bey at q;rw [lu e1] at q;cases left with
  | true=>exact q
  | false =>
   rw [if_neg aem] at q ⊢;show κ.blt (kk κ key) (kk κ x)=true;simpa using q
end
def Eqv (st st':SortSt):Prop:=kindOf st'=kindOf st/\arrOf st'=arrOf st/\pendingOf st'=pendingOf st/\failedOf st'=failedOf st
theorem Eqv.refl (st:SortSt):Eqv st st:=⟨rfl,rfl,rfl,rfl⟩
def adB:Nat->StateT SortSt Sem Unit:=sortPriv% PySem.Builtin.setMinGallop
theorem uq {prog:Program}{w:World}{A:Around}{E:Value->Shared->Prop}{s:Shared}{g:Nat}{st0 st:SortSt}{Q:Unit->SortSt->Prop}(e:Eqv st0 st)(h:∀ st',Eqv st0 st'->Q () st'):wpS (model prog w) A E s (adB g) Q st :=
 agU (h _ e)
theorem bx {a:Array Keyed}{i:Nat}{x:Keyed}(h:a[i]? = some x):a.toList.drop i=[x]++a.toList.drop (i+1):=by
 obtain⟨hi,e⟩:=afV.mp h;rw [af0 (by simpa using hi)];simp [e]
theorem jy (o:Array Keyed)(x:Keyed):(o.push x).toList=o.toList++[x]:=by simp
theorem uA (o a:Array Keyed)(i k:Nat):(o++a.extract i (i+k)).toList=o.toList++(a.toList.drop i).take k:=by
 simp [agc,afG]
theorem iR (o a:Array Keyed)(i:Nat):(o++a.extract i a.size).toList=o.toList++a.toList.drop i:=by
 simp only [Array.toList_append,agc,afG];rw [afm (by simp)]
section
variable {κ:KeyKind}{LL:List Keyed}{a b out:Array Keyed}{ia ib:Nat}
theorem yz (M:Mg κ LL out.toList (a.toList.drop ia) (b.toList.drop ib))(c:ib=b.size):nj κ LL (out++a.extract ia a.size++b.extract ib b.size).toList:=by
 rw [iR,iR];have e:b.toList.drop ib=[]:=agW (by rw [aeE];lia);rw [e] at M ⊢;rw [ae6];exact M.endA
theorem adl (M:Mg κ LL out.toList (a.toList.drop ia) (b.toList.drop ib))(c:ia=a.size):nj κ LL (out++a.extract ia a.size++b.extract ib b.size).toList:=by
 rw [iR,iR];have e:a.toList.drop ia=[]:=agW (by rw [aeE];lia);rw [e] at M ⊢;rw [ae6];exact M.endB
theorem yW (M:Mg κ LL out.toList (a.toList.drop ia) (b.toList.drop ib))(c:ia+1=a.size)(P2:∀ y∈b.toList,∀ z∈a.toList.drop (a.size - 1),le κ y z):nj κ LL (out++b.extract ib b.size++a.extract ia a.size).toList:=by
 rw [iR,iR];have hp:a[ia]? = some a[ia]:=getElem?_pos _ _ (by lia);have e:a.toList.drop ia=[a[ia]]:=by
  rw [bx hp,agW (by rw [aeE];lia),ae6]
 rw [e] at M ⊢;refine M.last fun y hy=>P2 y (afC hy) _ ?_;rw [show a.size - 1=ia by lia,e];exact aeq.mpr rfl
theorem iO (x:Array Keyed)(i:Nat):(x.toList.drop i).take (x.size - i)=x.toList.drop i:=afm (by rw [afs,aeE];lia)
theorem qK (x:Array Keyed)(i k:Nat):x.toList.drop i=(x.toList.drop i).take k++x.toList.drop (i+k):=by
 have:=(ae9 k (x.toList.drop i)).symm
 rwa [ahd] at this
theorem dD {x:Array Keyed}{i:Nat}(h:i < x.size):∃ p,x[i]? = some p/\p∈x.toList:=⟨x[i],getElem?_pos x i h,by simp⟩
end
section
variable {prog:Program}{w:World}{A:Around}{E:Value->Shared->Prop}{s:Shared}{κ:KeyKind}
theorem ifp {M:Model}{σ α:Type}{c:Prop}[Decidable c]{m1 m2:StateT σ Sem α}{Q:α->σ->Prop}{st:σ}(hc:c)(h:wpS M A E s m1 Q st):wpS M A E s (if c then m1 else m2) Q st:=by
 rw [if_pos hc];exact h
theorem ifn {M:Model}{σ α:Type}{c:Prop}[Decidable c]{m1 m2:StateT σ Sem α}{Q:α->σ->Prop}{st:σ}(hc:¬ c)(h:wpS M A E s m2 Q st):wpS M A E s (if c then m1 else m2) Q st:=by
 rw [if_neg hc];exact h
theorem ifs {M:Model}{σ α:Type}{c:Prop}[Decidable c]{m1 m2:StateT σ Sem α}{Q:α->σ->Prop}{st:σ}(h1:c->wpS M A E s m1 Q st)(h2:¬ c->wpS M A E s m2 Q st):wpS M A E s (if c then m1 else m2) Q st:=by
 by_cases hc:c
 ·exact ifp hc (h1 hc)
 ·exact ifn hc (h2 hc)
theorem yH {M:Model}{σ α β γ:Type}{jp:Unit->β->γ->StateT σ Sem α}{m:StateT σ Sem α}{Q:α->σ->Prop}{st:σ}(R:β->γ->Prop)(h1:∀ x y,R x y->wpS M A E s (jp () x y) Q st)(h2:(∀ x y,R x y->wpS M A E s (jp () x y) Q st)->wpS M A E s m Q st):wpS M A E s m Q st:=h2 h1
theorem ifj {M:Model}{σ α β:Type}{c:Prop}[Decidable c]{jp:Unit->β->StateT σ Sem α}{x y:β}{Q:α->σ->Prop}{st:σ}(h:∀ g,wpS M A E s (jp () g) Q st):wpS M A E s (if c then jp () x else jp () y) Q st:=ifs (fun _=>h x) (fun _=>h y)
theorem sV (hO:LtAt prog w A s κ){a b:Array Keyed}{st:SortSt}{Q:Array Keyed->SortSt->Prop}(hk:kindOf st=oneType')(va:∀ p∈a.toList,Va κ p)(vb:∀ p∈b.toList,Va κ p)(ha:1<=a.size)(hb:1<=b.size)(sa:SL κ a.toList)(sb:SL κ b.toList)
 (P1:∀ y∈b.toList.take 1,∀ x∈a.toList,le κ y x)(P2:∀ y∈b.toList,∀ z∈a.toList.drop (a.size - 1),le κ y z)
 (h:∀ m st',Eqv st st'->nj κ (a.toList++b.toList) m.toList->Q m st'):wpS (model prog w) A E s (y4 a b) Q st:=by
 have hL:∃ LL,LL=a.toList++b.toList:=⟨_,rfl⟩;obtain⟨LL,eL⟩:=hL;rw [← eL] at h;obtain⟨b0,hb0,mb0⟩:=dD (x:=b) (i:=0) (by lia);have M0:Mg κ LL [] a.toList b.toList:=⟨by rw [eL];exact List.Perm.refl _,sa,sb⟩;have M1:Mg κ LL (#[b0]:Array Keyed).toList (a.toList.drop 0) (b.toList.drop 1):=by
  have e:b.toList=[b0]++b.toList.drop 1:=by
   have:=bx hb0
   rwa [afH] at this
  have M0':=M0;rw [e] at M0';rw [afH];refine Mg.b M0' fun y hy x hx=>P1 y ?_ x hx;rw [e];rw [aeq.mp hy];simp
 refine aez (wpS_lift (afY ⟨rfl,?_⟩));refine aez (cC hb0 ?_);by_cases c1:1=b.size
 ·rw [if_pos (by simpa using c1)];exact aeI (h _ _ (Eqv.refl _) (yz M1 c1))
 rw [if_neg (by simpa using c1)];by_cases c2:0+1=a.size
 ·rw [if_pos (by simpa using c2)];exact aeI (h _ _ (Eqv.refl _) (yW M1 c2 P2))
 rw [if_neg (by simpa using c2)];refine aez (ahG ?_);refine aez (ags (afr (I:=fun x c st'=>Eqv st st'/\∃ out ia ib mg,c=(none,out,ia,ib,mg)/\Mg κ LL out.toList (a.toList.drop ia) (b.toList.drop ib)/\ia+1 < a.size/\ib < b.size/\x+1<=ia+ib)
  (Q:=fun c st'=>Eqv st st'/\∃ m r,c=(some m,r)/\nj κ LL m.toList) ?_ ?_ ⟨Eqv.refl _,_,_,_,_,rfl,M1,by lia,by lia,by lia⟩) ?_)
 rotate_left
 ·rintro c st' ⟨ev,out,ia,ib,mg,rfl,M,hia,hib,hpr⟩;lia
 ·rintro c st' ⟨ev,m,r,rfl,g⟩;exact aeI (h _ _ ev g)
 rintro x c st1 _ hx ⟨ev1,out,ia,ib,mg,rfl,M,hia,hib,hpr⟩;refine aez (ags (afr (I:=fun y c st2=>Eqv st st2/\∃ out' ia' ib' ac bc,c=(none,out',ia',ib',ac,bc)/\Mg κ LL out'.toList (a.toList.drop ia') (b.toList.drop ib')/\ia'+1 < a.size/\ib' < b.size/\ia+ib+y<=ia'+ib')
  (Q:=fun c st2=>Eqv st st2/\((∃ m r,c=(some m,r)/\nj κ LL m.toList)\/∃ out' ia' ib' ac bc,c=(none,out',ia',ib',ac,bc)/\Mg κ LL out'.toList (a.toList.drop ia') (b.toList.drop ib')/\ia'+1 < a.size/\ib' < b.size/\ia+ib+1<=ia'+ib')) ?_ ?_ ⟨ev1,out,ia,ib,_,_,rfl,M,hia,hib,aep _⟩) ?_)
 ·rintro y c st2 _ hy ⟨ev2,out',ia',ib',ac,bc,rfl,M',hia',hib',hpr'⟩;obtain⟨q,hq,mq⟩:=dD hib';obtain⟨p,hp,mp⟩:=dD (x:=a) (i:=ia') (by lia);have sB:=sb.drop ib';have sA:=sa.drop ia';rw [bx hq] at sB;rw [bx hp] at sA;refine aez (cC hq (aez (cC hp (aez (abR hO (ev2.1.trans hk) (vb q mq) (va p mp) ?_)))));cases hw:κ.blt (kk κ q) (kk κ p) with
  | true =>
   refine ifp rfl ?_;refine aez (cC hq ?_);have M2:Mg κ LL (out'.push q).toList (a.toList.drop ia') (b.toList.drop (ib'+1)):=by
    rw [jy];refine Mg.b (by rw [← bx hq];exact M') fun y hy x hx=>?_;rw [aeq.mp hy];rw [bx hp] at hx;exact le_trans (le_of_lt hw) (sA.head x hx)
   by_cases c:ib'+1=b.size
   ·refine ifp (aeR.mpr c) ?_;exact aeI ⟨ev2,.inl ⟨_,_,rfl,yz M2 c⟩⟩
   refine ifn (fun z=>c (aeR.mp z)) ?_;refine ifs (fun _=>?_) (fun _=>?_)
   ·exact aeI ⟨ev2,.inr ⟨_,ia',ib'+1,_,_,rfl,M2,hia',by lia,by lia⟩⟩
   ·exact aeI ⟨ev2,_,ia',ib'+1,_,_,rfl,M2,hia',by lia,by lia⟩
  | false =>
   refine ifn aem ?_;refine aez (cC hp ?_);have M2:Mg κ LL (out'.push p).toList (a.toList.drop (ia'+1)) (b.toList.drop ib'):=by
    rw [jy];refine Mg.a (by rw [← bx hp];exact M') fun y hy x hx=>?_;rw [aeq.mp hy];rw [bx hq] at hx;exact le_trans (show le κ p q from hw) (sB.head x hx)
   by_cases c:ia'+1+1=a.size
   ·refine ifp (aeR.mpr c) ?_;exact aeI ⟨ev2,.inl ⟨_,_,rfl,yW M2 c P2⟩⟩
   refine ifn (fun z=>c (aeR.mp z)) ?_;refine ifs (fun _=>?_) (fun _=>?_)
   ·exact aeI ⟨ev2,.inr ⟨_,ia'+1,ib',_,_,rfl,M2,by lia,by lia,by lia⟩⟩
   ·exact aeI ⟨ev2,_,ia'+1,ib',_,_,rfl,M2,by lia,by lia,by lia⟩
 ·rintro c st2 ⟨ev2,out',ia',ib',ac,bc,rfl,M',hia',hib',hpr'⟩;exact⟨ev2,.inr ⟨_,_,_,_,_,rfl,M',hia',hib',by lia⟩⟩
 rintro c st2 ⟨ev2,hc⟩;rcases hc with ⟨m,r,rfl,g⟩ | ⟨out1,ia1,ib1,ac1,bc1,rfl,N1,hia1,hib1,hpr1⟩
 ·exact aeI ⟨ev2,m,_,rfl,g⟩
 refine aez (wpS_lift (afY ⟨rfl,?_⟩));refine aez (ags (afr (I:=fun y c st3=>Eqv st st3/\∃ out' ia' ib' mg' ac bc,c=(none,out',ia',ib',mg',ac,bc)/\Mg κ LL out'.toList (a.toList.drop ia') (b.toList.drop ib')/\ia'+1 < a.size/\ib' < b.size/\ia1+ib1<=ia'+ib')
  (Q:=fun c st3=>Eqv st st3/\((∃ m r,c=(some m,r)/\nj κ LL m.toList)\/∃ out' ia' ib' mg' ac bc,c=(none,out',ia',ib',mg',ac,bc)/\Mg κ LL out'.toList (a.toList.drop ia') (b.toList.drop ib')/\ia'+1 < a.size/\ib' < b.size/\ia1+ib1<=ia'+ib')) ?_ ?_ ⟨ev2,out1,ia1,ib1,_,ac1,bc1,rfl,N1,hia1,hib1,aep _⟩) ?_)
 rotate_left
 ·rintro c st3 ⟨ev3,out',ia',ib',mg',ac,bc,rfl,M',hia',hib',hpr'⟩;exact⟨ev3,.inr ⟨_,_,_,_,_,_,rfl,M',hia',hib',by lia⟩⟩
 ·rintro c st3 ⟨ev3,hc⟩;rcases hc with ⟨m,r,rfl,g⟩ | ⟨out2,ia2,ib2,mg2,ac2,bc2,rfl,N2,hia2,hib2,hpr2⟩
  ·exact aeI ⟨ev3,m,_,rfl,g⟩
  refine aez (uq ev3 fun st4 ev4=>?_);exact aeI ⟨ev4,_,ia2,ib2,_,rfl,N2,hia2,hib2,by lia⟩
 rintro y c st3 _ hy ⟨ev3,out2,ia2,ib2,mg2,ac2,bc2,rfl,M',hia',hib',hpr'⟩;obtain⟨q,hq,mq⟩:=dD hib';have sB:=sb.drop ib2;rw [bx hq] at sB;dsimp -zeta -zetaHave only
 lift_lets
 extract_lets s1 v1 s2 v2 s3 v3 s4 v4 s5 v5 v6 v7 jp
 refine ifj (jp:=jp) (fun g=>?_)
 ·refine aez (uq ev3 fun st4 ev4=>?_);refine aez (cC hq (aez (eP (left:=false) (key:=q) (arr:=a) (base:=ia2) (n:=a.size - ia2) (hint:=0) hO (ev4.1.trans hk) (vb q mq) (by lia) (by rw [iO];exact fun p hp=>va p (afC hp)) (by rw [iO];exact sa.drop _) (by lia) fun k hkn g1 g2=>?_)));rw [iO] at g1 g2;rw [ahd] at g2;simp only [ae4,agJ] at g1 g2;dsimp -zeta -zetaHave only
  lift_lets
  extract_lets w1 jp2
  refine yH (jp:=jp2) (fun (out3:Array Keyed) (ia3:Nat)=>Mg κ LL out3.toList (a.toList.drop ia3) (b.toList.drop ib2)/\ia3+1 < a.size/\ia2<=ia3/\∀ x∈a.toList.drop ia3,le κ q x) (fun out3 ia3 hR=>?_) (fun hj=>?_)
  ·obtain⟨M3,hA1,hA2,hA⟩:=hR;refine aez (cC hq ?_);have M4:Mg κ LL (out3.push q).toList (a.toList.drop ia3) (b.toList.drop (ib2+1)):=by
    rw [jy];refine Mg.b (by rw [← bx hq];exact M3) fun y hy x hx=>?_;rw [aeq.mp hy];exact hA x hx
   by_cases c4:ib2+1=b.size
   ·refine ifp (aeR.mpr c4) ?_;exact aeI ⟨ev4,.inl ⟨_,_,rfl,yz M4 c4⟩⟩
   refine ifn (fun z=>c4 (aeR.mp z)) ?_;obtain⟨p,hp,mp⟩:=dD (x:=a) (i:=ia3) (by lia);refine aez (cC hp (aez (eP (left:=true) (key:=p) (arr:=b) (base:=ib2+1) (n:=b.size - (ib2+1)) (hint:=0) hO (ev4.1.trans hk) (va p mp) (by lia) (by rw [iO];exact fun p hp=>vb p (afC hp)) (by rw [iO];exact sb.drop _) (by lia) fun k2 hkn2 g3 g4=>?_)));rw [iO] at g3 g4;rw [ahd] at g4;simp only [aht] at g3 g4;dsimp -zeta -zetaHave only
   lift_lets
   extract_lets w3 jp3
   refine yH (jp:=jp3) (fun (out5:Array Keyed) (ib3:Nat)=>Mg κ LL out5.toList (a.toList.drop ia3) (b.toList.drop ib3)/\ib3 < b.size/\ib2+1<=ib3/\∀ y∈b.toList.drop ib3,le κ p y) (fun out5 ib3 hR=>?_) (fun hj3=>?_)
   ·obtain⟨M5,hB1,hB2,hB⟩:=hR;refine aez (cC hp ?_);have M6:Mg κ LL (out5.push p).toList (a.toList.drop (ia3+1)) (b.toList.drop ib3):=by
     rw [jy];refine Mg.a (by rw [← bx hp];exact M5) fun y hy x hx=>?_;rw [aeq.mp hy];exact hB x hx
    by_cases c7:ia3+1+1=a.size
    ·refine ifp (aeR.mpr c7) ?_;exact aeI ⟨ev4,.inl ⟨_,_,rfl,yW M6 c7 P2⟩⟩
    refine ifn (fun z=>c7 (aeR.mp z)) ?_;refine ifs (fun _=>?_) (fun _=>?_)
    ·exact aeI ⟨ev4,.inr ⟨_,ia3+1,ib3,_,_,_,rfl,M6,by lia,by lia,by lia⟩⟩
    ·exact aeI ⟨ev4,_,ia3+1,ib3,_,_,_,rfl,M6,by lia,by lia,by lia⟩
   by_cases hk2:k2=0
   ·subst hk2;rw [ah9] at g4;exact ifn (show ¬ (0 > 0) by lia) (hj3 _ (ib2+1) ⟨M4,by lia,aep _,g4⟩)
   ·refine ifp (show k2 > 0 by lia) ?_;have M5:Mg κ LL ((out3.push q)++b.extract (ib2+1) (ib2+1+k2)).toList (a.toList.drop ia3) (b.toList.drop (ib2+1+k2)):=by
     rw [uA];refine Mg.b (by rw [← qK];exact M4) fun y hy x hx=>?_;have sA:=sa.drop ia3;rw [bx hp] at sA;rw [bx hp] at hx;exact le_trans (le_of_lt (g3 y hy)) (sA.head x hx)
    by_cases c5:ib2+1+k2=b.size
    ·refine ifp (aeR.mpr c5) ?_;exact aeI ⟨ev4,.inl ⟨_,_,rfl,yz M5 c5⟩⟩
    exact ifn (fun z=>c5 (aeR.mp z)) (hj3 _ (ib2+1+k2) ⟨M5,by lia,by lia,g4⟩)
  by_cases hk0:k=0
  ·subst hk0;rw [ah9] at g2;exact ifn (show ¬ (0 > 0) by lia) (hj _ ia2 ⟨M',hia',aep _,fun x hx=>le_of_lt (g2 x hx)⟩)
  ·refine ifp (show k > 0 by lia) ?_;have M3:Mg κ LL (out2++a.extract ia2 (ia2+k)).toList (a.toList.drop (ia2+k)) (b.toList.drop ib2):=by
    rw [uA];refine Mg.a (by rw [← qK];exact M') fun y hy x hx=>?_;rw [bx hq] at hx;exact le_trans (g1 y hy) (sB.head x hx)
   by_cases c2':ia2+k+1=a.size
   ·refine ifp (aeR.mpr c2') ?_;exact aeI ⟨ev4,.inl ⟨_,_,rfl,yW M3 c2' P2⟩⟩
   refine ifn (fun z=>c2' (aeR.mp z)) ?_;by_cases c3:ia2+k=a.size
   ·refine ifp (aeR.mpr c3) ?_;exact aeI ⟨ev4,.inl ⟨_,_,rfl,adl M3 c3⟩⟩
   exact ifn (fun z=>c3 (aeR.mp z)) (hj _ (ia2+k) ⟨M3,by lia,by lia,fun x hx=>le_of_lt (g2 x hx)⟩)
end
section
variable {κ:KeyKind}
structure MgH (κ:KeyKind)(LL o A B:List Keyed):Prop where
 perm:(A++(B++o)).Perm LL
 sa:SL κ (A++o)
 sb:SL κ (B++o)
theorem MgH.a {LL o c A B:List Keyed}(h:MgH κ LL o (A++c) B)(hc:∀ x∈c,∀ y∈B,le κ y x):MgH κ LL (c++o) A B:=by
 refine⟨?_,?_,?_⟩
 ·refine List.Perm.trans ?_ h.perm;rw [aet];refine agt A ?_;rw [← aet,← aet];exact agm o ag4
 ·rw [← aet];exact h.sa
 ·have s1:=h.sa;have s2:=h.sb;unfold SL at *;rw [aet,afc] at s1;rw [afc] at s2 ⊢;refine⟨s2.1,s1.2.1,fun x hx y hy=>?_⟩;rcases aew.mp hy with hy | hy
  ·exact hc y hy x hx
  ·exact s2.2.2 x hx y hy
theorem MgH.b {LL o c A B:List Keyed}(h:MgH κ LL o A (B++c))(hc:∀ y∈c,∀ x∈A,le κ x y):MgH κ LL (c++o) A B:=by
 refine⟨?_,?_,?_⟩
 ·have:=h.perm;rw [aet] at this;exact this
 ·have s1:=h.sa;have s2:=h.sb;unfold SL at *;rw [aet,afc] at s2;rw [afc] at s1 ⊢;refine⟨s1.1,s2.2.1,fun x hx y hy=>?_⟩;rcases aew.mp hy with hy | hy
  ·exact hc y hy x hx
  ·exact s1.2.2 x hx y hy
 ·rw [← aet];exact h.sb
theorem MgH.endA {LL o A:List Keyed}(h:MgH κ LL o A []):nj κ LL (A++o):=⟨h.perm,h.sa⟩
theorem MgH.endB {LL o B:List Keyed}(h:MgH κ LL o [] B):nj κ LL (B++o):=⟨h.perm,h.sb⟩
theorem MgH.first {LL o A:List Keyed}{z:Keyed}(h:MgH κ LL o A [z])(hz:∀ x∈A,le κ z x):nj κ LL ([z]++A++o):=by
 refine⟨?_,?_⟩
 ·refine List.Perm.trans ?_ h.perm;rw [← aet];exact agm o ag4
 ·have s1:=h.sa;have s2:=h.sb;unfold SL at *;rw [aet,ai3,afa];rw [ai3,afa] at s2;refine⟨fun y hy=>?_,s1⟩;rcases aew.mp hy with hy | hy
  ·exact hz y hy
  ·exact s2.1 y hy
theorem gh {a:Array Keyed}{n:Nat}{x:Keyed}(h:a[n]? = some x):a.toList.take (n+1)=a.toList.take n++[x]:=by
 rw [aeT];have:a.toList[n]? = some x:=by simpa using h
 rw [this]
 rfl
theorem kR (o:Array Keyed)(x:Keyed):(o.push x).toList.reverse=[x]++o.toList.reverse:=by simp
theorem xh (o a:Array Keyed)(i n:Nat):(o++(a.extract i n).reverse).toList.reverse=(a.toList.take n).drop i++o.toList.reverse:=by
 simp [agc,afG,List.drop_take]
theorem uw (a:Array Keyed){i n:Nat}(h:i<=n):a.toList.take n=a.toList.take i++(a.toList.take n).drop i:=by
 have:=(ae9 i (a.toList.take n)).symm
 rwa [ahy,agD h] at this
theorem oM (o a b:Array Keyed)(na nb:Nat):(a.extract 0 na++b.extract 0 nb++o.reverse).toList=a.toList.take na++b.toList.take nb++o.toList.reverse:=by
 simp [agc,afG]
theorem SL.lastOf {l:List Keyed}{x:Keyed}(h:SL κ (l++[x])):∀ y∈l++[x],le κ y x:=fun y hy=>by
 rcases aew.mp hy with e | e
 ·exact (afc.mp h).2.2 y e x (aeq.mpr rfl)
 ·rw [aeq.mp e];exact le_refl _
end
section
variable {κ:KeyKind}{LL:List Keyed}{a b out:Array Keyed}{na nb:Nat}
theorem acV (M:MgH κ LL out.toList.reverse (a.toList.take na) (b.toList.take nb))(c:na=0):nj κ LL (a.extract 0 na++b.extract 0 nb++out.reverse).toList:=by
 subst c;rw [oM,agV,ag0];rw [agV] at M;exact M.endB
theorem adY (M:MgH κ LL out.toList.reverse (a.toList.take na) (b.toList.take nb))(c:nb=0):nj κ LL (a.extract 0 na++b.extract 0 nb++out.reverse).toList:=by
 subst c;rw [oM,agV,ae6];rw [agV] at M;exact M.endA
theorem acX (M:MgH κ LL out.toList.reverse (a.toList.take na) (b.toList.take nb))(c:nb=1)(hb:1<=b.size)(P1:∀ y∈b.toList.take 1,∀ x∈a.toList,le κ y x):nj κ LL (b.extract 0 nb++a.extract 0 na++out.reverse).toList:=by
 subst c;rw [oM];have hp:b[0]? = some b[0]:=getElem?_pos _ _ (by lia);have e:b.toList.take 1=[b[0]]:=by rw [gh hp,agV,ag0]
 rw [e] at M P1 ⊢;exact M.first fun x hx=>P1 _ (aeq.mpr rfl) x (afo hx)
end
section
variable {prog:Program}{w:World}{A:Around}{E:Value->Shared->Prop}{s:Shared}{κ:KeyKind}
theorem rJ (hO:LtAt prog w A s κ){a b:Array Keyed}{st:SortSt}{Q:Array Keyed->SortSt->Prop}(hk:kindOf st=oneType')(va:∀ p∈a.toList,Va κ p)(vb:∀ p∈b.toList,Va κ p)(ha:1<=a.size)(hb:1<=b.size)(sa:SL κ a.toList)(sb:SL κ b.toList)
 (P1:∀ y∈b.toList.take 1,∀ x∈a.toList,le κ y x)(P2:∀ y∈b.toList,∀ z∈a.toList.drop (a.size - 1),le κ y z)
 (h:∀ m st',Eqv st st'->nj κ (a.toList++b.toList) m.toList->Q m st'):wpS (model prog w) A E s (zV a b) Q st:=by
 have hL:∃ LL,LL=a.toList++b.toList:=⟨_,rfl⟩;obtain⟨LL,eL⟩:=hL;rw [← eL] at h;obtain⟨a0,ha0,ma0⟩:=dD (x:=a) (i:=a.size - 1) (by lia);have M1:MgH κ LL (#[a0]:Array Keyed).toList.reverse (a.toList.take (a.size - 1)) (b.toList.take b.size):=by
  have e:a.toList=a.toList.take (a.size - 1)++[a0]:=by
   have:=gh ha0
   rwa [show a.size - 1+1=a.size by lia,afm (by rw [aeE];exact aep _)] at this
  have M0:MgH κ LL [] (a.toList.take (a.size - 1)++[a0]) b.toList:=by
   refine⟨?_,?_,?_⟩
   ·rw [← e,ae6,eL]
   ·rw [← e,ae6];exact sa
   ·rw [ae6];exact sb
  rw [afm (l:=b.toList) (by rw [aeE];exact aep _)];refine MgH.a M0 fun x hx y hy=>P2 y hy x ?_;rw [bx ha0,aeq.mp hx];simp
 refine aez (wpS_lift (afY ⟨rfl,?_⟩));refine aez (cC ha0 ?_);by_cases c1:a.size - 1=0
 ·refine ifp (aeR.mpr c1) ?_;exact aeI (h _ _ (Eqv.refl _) (acV M1 c1))
 refine ifn (fun z=>c1 (aeR.mp z)) ?_;by_cases c2:b.size=1
 ·refine ifp (aeR.mpr c2) ?_;exact aeI (h _ _ (Eqv.refl _) (acX M1 c2 hb P1))
 refine ifn (fun z=>c2 (aeR.mp z)) ?_;refine aez (ahG ?_);refine aez (ags (afr (I:=fun x c st'=>Eqv st st'/\∃ na nb out mg,c=(none,na,nb,out,mg)/\MgH κ LL out.toList.reverse (a.toList.take na) (b.toList.take nb)/\1<=na/\na<=a.size/\2<=nb/\nb<=b.size/\na+nb+x+1<=a.size+b.size)
  (Q:=fun c st'=>Eqv st st'/\∃ m r,c=(some m,r)/\nj κ LL m.toList) ?_ ?_ ⟨Eqv.refl _,a.size - 1,b.size,_,_,rfl,M1,by lia,by lia,by lia,by lia,by lia⟩) ?_)
 rotate_left
 ·rintro c st' ⟨ev,na,nb,out,mg,rfl,M,_,_,_,_,hpr⟩;lia
 ·rintro c st' ⟨ev,m,r,rfl,g⟩;exact aeI (h _ _ ev g)
 rintro x c st1 _ hx ⟨ev1,na,nb,out,mg,rfl,M,hna,hna2,hnb,hnb2,hpr⟩;refine aez (ags (afr (I:=fun y c st2=>Eqv st st2/\∃ na' nb' out' ac bc,c=(none,na',nb',out',ac,bc)/\MgH κ LL out'.toList.reverse (a.toList.take na') (b.toList.take nb')/\1<=na'/\na'<=a.size/\2<=nb'/\nb'<=b.size/\na'+nb'+y<=na+nb)
  (Q:=fun c st2=>Eqv st st2/\((∃ m r,c=(some m,r)/\nj κ LL m.toList)\/∃ na' nb' out' ac bc,c=(none,na',nb',out',ac,bc)/\MgH κ LL out'.toList.reverse (a.toList.take na') (b.toList.take nb')/\1<=na'/\na'<=a.size/\2<=nb'/\nb'<=b.size/\na'+nb'+1<=na+nb)) ?_ ?_ ⟨ev1,na,nb,out,_,_,rfl,M,hna,hna2,hnb,hnb2,aep _⟩) ?_)
 ·rintro y c st2 _ hy ⟨ev2,na',nb',out',ac,bc,rfl,M',hna',hna2',hnb',hnb2',hpr'⟩;obtain⟨q,hq,mq⟩:=dD (x:=b) (i:=nb' - 1) (by lia);obtain⟨p,hp,mp⟩:=dD (x:=a) (i:=na' - 1) (by lia);have tq:=gh hq;have tp:=gh hp;rw [show nb' - 1+1=nb' by lia] at tq;rw [show na' - 1+1=na' by lia] at tp;have sB:=sb.take nb';have sA:=sa.take na';rw [tq] at sB;rw [tp] at sA;refine aez (cC hq (aez (cC hp (aez (abR hO (ev2.1.trans hk) (vb q mq) (va p mp) ?_)))));cases hw:κ.blt (kk κ q) (kk κ p) with
  | true =>
   refine ifp rfl ?_;refine aez (cC hp ?_);have M2:MgH κ LL (out'.push p).toList.reverse (a.toList.take (na' - 1)) (b.toList.take nb'):=by
    rw [kR];refine MgH.a (by rw [← tp];exact M') fun x hx y hy=>?_;rw [aeq.mp hx];rw [tq] at hy;exact le_trans (sB.lastOf y hy) (le_of_lt hw)
   by_cases c:na' - 1=0
   ·refine ifp (aeR.mpr c) ?_;exact aeI ⟨ev2,.inl ⟨_,_,rfl,acV M2 c⟩⟩
   refine ifn (fun z=>c (aeR.mp z)) ?_;refine ifs (fun _=>?_) (fun _=>?_)
   ·exact aeI ⟨ev2,.inr ⟨na' - 1,nb',_,_,_,rfl,M2,by lia,by lia,by lia,by lia,by lia⟩⟩
   ·exact aeI ⟨ev2,na' - 1,nb',_,_,_,rfl,M2,by lia,by lia,by lia,by lia,by lia⟩
  | false =>
   refine ifn aem ?_;refine aez (cC hq ?_);have M2:MgH κ LL (out'.push q).toList.reverse (a.toList.take na') (b.toList.take (nb' - 1)):=by
    rw [kR];refine MgH.b (by rw [← tq];exact M') fun y hy x hx=>?_;rw [aeq.mp hy];rw [tp] at hx;exact le_trans (sA.lastOf x hx) (show le κ p q from hw)
   by_cases c:nb' - 1=1
   ·refine ifp (aeR.mpr c) ?_;exact aeI ⟨ev2,.inl ⟨_,_,rfl,acX M2 c hb P1⟩⟩
   refine ifn (fun z=>c (aeR.mp z)) ?_;refine ifs (fun _=>?_) (fun _=>?_)
   ·exact aeI ⟨ev2,.inr ⟨na',nb' - 1,_,_,_,rfl,M2,by lia,by lia,by lia,by lia,by lia⟩⟩
   ·exact aeI ⟨ev2,na',nb' - 1,_,_,_,rfl,M2,by lia,by lia,by lia,by lia,by lia⟩
 ·rintro c st2 ⟨ev2,na',nb',out',ac,bc,rfl,M',g1,g2,g3,g4,hpr'⟩;exact⟨ev2,.inr ⟨_,_,_,_,_,rfl,M',g1,g2,g3,g4,by lia⟩⟩
 rintro c st2 ⟨ev2,hc⟩;rcases hc with ⟨m,r,rfl,g⟩ | ⟨na1,nb1,out1,ac1,bc1,rfl,N1,i1,i2,i3,i4,hpr1⟩
 ·exact aeI ⟨ev2,m,_,rfl,g⟩
 refine aez (wpS_lift (afY ⟨rfl,?_⟩));refine aez (ags (afr (I:=fun y c st3=>Eqv st st3/\∃ na' nb' out' mg' ac bc,c=(none,na',nb',out',mg',ac,bc)/\MgH κ LL out'.toList.reverse (a.toList.take na') (b.toList.take nb')/\1<=na'/\na'<=a.size/\2<=nb'/\nb'<=b.size/\na'+nb'<=na1+nb1)
  (Q:=fun c st3=>Eqv st st3/\((∃ m r,c=(some m,r)/\nj κ LL m.toList)\/∃ na' nb' out' mg' ac bc,c=(none,na',nb',out',mg',ac,bc)/\MgH κ LL out'.toList.reverse (a.toList.take na') (b.toList.take nb')/\1<=na'/\na'<=a.size/\2<=nb'/\nb'<=b.size/\na'+nb'<=na1+nb1)) ?_ ?_ ⟨ev2,na1,nb1,out1,_,ac1,bc1,rfl,N1,i1,i2,i3,i4,aep _⟩) ?_)
 rotate_left
 ·rintro c st3 ⟨ev3,na',nb',out',mg',ac,bc,rfl,M',g⟩;exact⟨ev3,.inr ⟨_,_,_,_,_,_,rfl,M',g⟩⟩
 ·rintro c st3 ⟨ev3,hc⟩;rcases hc with ⟨m,r,rfl,g⟩ | ⟨na2,nb2,out2,mg2,ac2,bc2,rfl,N2,j1,j2,j3,j4,hpr2⟩
  ·exact aeI ⟨ev3,m,_,rfl,g⟩
  refine aez (uq ev3 fun st4 ev4=>?_);exact aeI ⟨ev4,na2,nb2,_,_,rfl,N2,j1,j2,j3,j4,by lia⟩
 rintro y c st3 _ hy ⟨ev3,na2,nb2,out2,mg2,ac2,bc2,rfl,M',j1,j2,j3,j4,hpr'⟩;obtain⟨q,hq,mq⟩:=dD (x:=b) (i:=nb2 - 1) (by lia);have tq:=gh hq;rw [show nb2 - 1+1=nb2 by lia] at tq;have sB:=sb.take nb2;rw [tq] at sB;dsimp -zeta -zetaHave only
 lift_lets
 extract_lets s1 v1 s2 v2 s3 v3 s4 v4 s5 v5 v6 v7 jp
 refine ifj (jp:=jp) (fun g=>?_)
 ·refine aez (uq ev3 fun st4 ev4=>?_);refine aez (cC hq (aez (eP (left:=false) (key:=q) (arr:=a) (base:=0) (n:=na2) (hint:=na2 - 1) hO (ev4.1.trans hk) (vb q mq) (by lia) (by rw [afH];exact fun p hp=>va p (afo hp)) (by rw [afH];exact sa.take _) (by lia) fun k hkn g1 g2=>?_)));rw [afH] at g1 g2;rw [ahy,agD hkn] at g1;simp only [ae4,agJ] at g1 g2;dsimp -zeta -zetaHave only
  lift_lets
  extract_lets w1 w2 jp2
  refine yH (jp:=jp2) (fun (na3:Nat) (out3:Array Keyed)=>MgH κ LL out3.toList.reverse (a.toList.take na3) (b.toList.take nb2)/\1<=na3/\na3<=na2/\∀ x∈a.toList.take na3,le κ x q) (fun na3 out3 hR=>?_) (fun hj=>?_)
  ·obtain⟨M3,hA1,hA2,hA⟩:=hR;refine aez (cC hq ?_);have M4:MgH κ LL (out3.push q).toList.reverse (a.toList.take na3) (b.toList.take (nb2 - 1)):=by
    rw [kR];refine MgH.b (by rw [← tq];exact M3) fun y hy x hx=>?_;rw [aeq.mp hy];exact hA x hx
   by_cases c4:nb2 - 1=1
   ·refine ifp (aeR.mpr c4) ?_;exact aeI ⟨ev4,.inl ⟨_,_,rfl,acX M4 c4 hb P1⟩⟩
   refine ifn (fun z=>c4 (aeR.mp z)) ?_;obtain⟨p,hp,mp⟩:=dD (x:=a) (i:=na3 - 1) (by lia);have tp:=gh hp;rw [show na3 - 1+1=na3 by lia] at tp;refine aez (cC hp (aez (eP (left:=true) (key:=p) (arr:=b) (base:=0) (n:=nb2 - 1) (hint:=nb2 - 1 - 1) hO (ev4.1.trans hk) (va p mp) (by lia) (by rw [afH];exact fun p hp=>vb p (afo hp)) (by rw [afH];exact sb.take _) (by lia) fun k2 hkn2 g3 g4=>?_)));rw [afH] at g3 g4;rw [ahy,agD hkn2] at g3;simp only [aht] at g3 g4;dsimp -zeta -zetaHave only
   lift_lets
   extract_lets w3 w4 jp3
   refine yH (jp:=jp3) (fun (nb3:Nat) (out5:Array Keyed)=>MgH κ LL out5.toList.reverse (a.toList.take na3) (b.toList.take nb3)/\2<=nb3/\nb3<=nb2 - 1/\∀ y∈b.toList.take nb3,le κ y p) (fun nb3 out5 hR=>?_) (fun hj3=>?_)
   ·obtain⟨M5,hB1,hB2,hB⟩:=hR;refine aez (cC hp ?_);have M6:MgH κ LL (out5.push p).toList.reverse (a.toList.take (na3 - 1)) (b.toList.take nb3):=by
     rw [kR];refine MgH.a (by rw [← tp];exact M5) fun x hx y hy=>?_;rw [aeq.mp hx];exact hB y hy
    by_cases c7:na3 - 1=0
    ·refine ifp (aeR.mpr c7) ?_;exact aeI ⟨ev4,.inl ⟨_,_,rfl,acV M6 c7⟩⟩
    refine ifn (fun z=>c7 (aeR.mp z)) ?_;refine ifs (fun _=>?_) (fun _=>?_)
    ·exact aeI ⟨ev4,.inr ⟨na3 - 1,nb3,_,_,_,_,rfl,M6,by lia,by lia,by lia,by lia,by lia⟩⟩
    ·exact aeI ⟨ev4,na3 - 1,nb3,_,_,_,_,rfl,M6,by lia,by lia,by lia,by lia,by lia⟩
   by_cases hk2:k2=nb2 - 1
   ·subst hk2;refine ifn (show ¬ (nb2 - 1 - (nb2 - 1) > 0) by lia) (hj3 (nb2 - 1) _ ⟨M4,by lia,aep _,fun y hy=>le_of_lt (g3 y hy)⟩)
   ·refine ifp (show nb2 - 1 - k2 > 0 by lia) ?_;have M5:MgH κ LL ((out3.push q)++(b.extract k2 (nb2 - 1)).reverse).toList.reverse (a.toList.take na3) (b.toList.take k2):=by
     rw [xh];refine MgH.b (by rw [← uw b hkn2];exact M4) fun y hy x hx=>?_;have sA:=sa.take na3;rw [tp] at sA;rw [tp] at hx;exact le_trans (sA.lastOf x hx) (g4 y hy)
    by_cases c5:k2=1
    ·refine ifp (aeR.mpr c5) ?_;exact aeI ⟨ev4,.inl ⟨_,_,rfl,acX M5 c5 hb P1⟩⟩
    refine ifn (fun z=>c5 (aeR.mp z)) ?_;by_cases c6:k2=0
    ·refine ifp (aeR.mpr c6) ?_;exact aeI ⟨ev4,.inl ⟨_,_,rfl,adY M5 c6⟩⟩
    exact ifn (fun z=>c6 (aeR.mp z)) (hj3 k2 _ ⟨M5,by lia,by lia,fun y hy=>le_of_lt (g3 y hy)⟩)
  by_cases hk0:k=na2
  ·subst hk0;exact ifn (show ¬ (k - k > 0) by lia) (hj k _ ⟨M',j1,aep _,fun x hx=>g1 x hx⟩)
  ·refine ifp (show na2 - k > 0 by lia) ?_;have M3:MgH κ LL (out2++(a.extract k na2).reverse).toList.reverse (a.toList.take k) (b.toList.take nb2):=by
    rw [xh];refine MgH.a (by rw [← uw a hkn];exact M') fun x hx y hy=>?_;rw [tq] at hy;exact le_trans (sB.lastOf y hy) (le_of_lt (g2 x hx))
   by_cases c3:k=0
   ·refine ifp (aeR.mpr c3) ?_;exact aeI ⟨ev4,.inl ⟨_,_,rfl,acV M3 c3⟩⟩
   exact ifn (fun z=>c3 (aeR.mp z)) (hj k _ ⟨M3,by lia,hkn,fun x hx=>g1 x hx⟩)
end
theorem tW (s:Nat):∀ (m:List Keyed) (off:Nat) (arr:Array Keyed),s+off+m.length<=arr.size →
 ((m.zipIdx off).foldl (fun a x=>a.setIfInBounds (s+x.2) x.1) arr).toList=arr.toList.take (s+off)++(m++arr.toList.drop (s+off+m.length))
 | [],off,arr,h=>by simp
 | x::m,off,arr,h=>by
  rw [List.zipIdx_cons,agz];rw [aeU] at h;rw [tW s m (off+1) _ (by rw [Array.size_setIfInBounds];lia)];have e:(arr.setIfInBounds (s+off) x).toList=arr.toList.set (s+off) x:=by simp
  show (arr.setIfInBounds (s+off) x).toList.take _++(m++(arr.setIfInBounds (s+off) x).toList.drop _)=_;rw [e];have hl:s+off < arr.toList.length:=by rw [aeE];lia
  have t1:(arr.toList.set (s+off) x).take (s+(off+1))=arr.toList.take (s+off)++[x]:=by
   rw [show s+(off+1)=s+off+1 by lia,aeT,List.take_set_of_le (aep _),agl hl]
   rfl
  have t2:(arr.toList.set (s+off) x).drop (s+(off+1)+m.length)=arr.toList.drop (s+off+(m.length+1)):=by
   rw [List.drop_set_of_lt (by lia)];congr 1;lia
  rw [t1,t2,aeU,aet]
  rfl
section
variable {prog:Program}{w:World}{A:Around}{E:Value->Shared->Prop}{s:Shared}{κ:KeyKind}
theorem pJ {X Y:List Keyed}(hX:SL κ X)(hY:SL κ Y)(h:∀ x∈X,∀ y∈Y,le κ x y):SL κ (X++Y):=afc.mpr ⟨hX,hY,h⟩
theorem sW (hO:LtAt prog w A s κ){i:Nat}{st:SortSt}{P X Y R:List Keyed}{pw pw2:Nat}{Q:Bool->SortSt->Prop}(hk:kindOf st=oneType')(hf:failedOf st=none)
 (hp1:(pendingOf st)[i]? = some (P.length,X.length,pw))(hp2:(pendingOf st)[i+1]? = some (P.length+X.length,Y.length,pw2))(ea:(arrOf st).toList=P++(X++(Y++R)))
 (vX:∀ p∈X,Va κ p)(vY:∀ p∈Y,Va κ p)(sX:SL κ X)(sY:SL κ Y)(hX:1<=X.length)(hY:1<=Y.length)
 (h:∀ M st',M.Perm (X++Y)->SL κ M->kindOf st'=oneType'->failedOf st'=none->(arrOf st').toList=P++(M++R)->pendingOf st'=((pendingOf st).setIfInBounds i (P.length,X.length+Y.length,pw)).eraseIdxIfInBounds (i+1)->Q true st') :
 wpS (model prog w) A E s (mergeAt' i) Q st:=by
 have asz:(arrOf st).size=P.length+(X.length+(Y.length+R.length)):=by
  have:=afy List.length ea;simpa using this
 have dX:((arrOf st).toList.drop P.length).take X.length=X:=by rw [ea];simp
 have dY:((arrOf st).toList.drop (P.length+X.length)).take Y.length=Y:=by
  rw [ea,← aet];rw [← aeo];simp
 obtain⟨y0,Y',eY⟩:∃ y0 Y',Y=y0::Y':=by
  cases Y with
  | nil=>simp at hY
  | cons y r=>exact⟨y,r,rfl⟩
 have my0:y0∈Y:=by rw [eY];exact aev
 have hy0:(arrOf st)[P.length+X.length]? = some y0:=by
  have:(arrOf st).toList[P.length+X.length]? = some y0:=by
   rw [ea,eY,← aet,aeJ (by simp)];simp
  simpa using this
 have y0le:∀ y∈Y,le κ y0 y:=by
  rw [eY] at sY ⊢;exact sY.head
 refine aez (ahG ?_);have hmatch:((pendingOf st)[i]?,(pendingOf st)[i+1]?)=(some (P.length,X.length,pw),some (P.length+X.length,Y.length,pw2)):=by rw [hp1,hp2]
 rw [hmatch];refine aez (agU ?_);have k1:kindOf (SortSt.mk' (kindOf st) (arrOf st) (((pendingOf st).setIfInBounds i (P.length,X.length+Y.length,pw)).eraseIdxIfInBounds (i+1)) (gallopOf st) (failedOf st))=oneType':=hk;have f1:failedOf (SortSt.mk' (kindOf st) (arrOf st) (((pendingOf st).setIfInBounds i (P.length,X.length+Y.length,pw)).eraseIdxIfInBounds (i+1)) (gallopOf st) (failedOf st))=none:=hf;have a1:arrOf (SortSt.mk' (kindOf st) (arrOf st) (((pendingOf st).setIfInBounds i (P.length,X.length+Y.length,pw)).eraseIdxIfInBounds (i+1)) (gallopOf st) (failedOf st))=arrOf st:=rfl;have p1:pendingOf (SortSt.mk' (kindOf st) (arrOf st) (((pendingOf st).setIfInBounds i (P.length,X.length+Y.length,pw)).eraseIdxIfInBounds (i+1)) (gallopOf st) (failedOf st))=((pendingOf st).setIfInBounds i (P.length,X.length+Y.length,pw)).eraseIdxIfInBounds (i+1):=rfl;show wpS _ _ _ _ _ _ (SortSt.mk' (kindOf st) (arrOf st) (((pendingOf st).setIfInBounds i (P.length,X.length+Y.length,pw)).eraseIdxIfInBounds (i+1)) (gallopOf st) (failedOf st));generalize SortSt.mk' (kindOf st) (arrOf st) (((pendingOf st).setIfInBounds i (P.length,X.length+Y.length,pw)).eraseIdxIfInBounds (i+1)) (gallopOf st) (failedOf st)=st1 at k1 f1 a1 p1 ⊢;have same:SL κ (X++Y)->Q true st1:=fun so=>h (X++Y) st1 (List.Perm.refl _) so k1 f1 (by rw [a1,ea,aet]) p1;refine aez (cC hy0 (aez (eP (left:=false) (key:=y0) (arr:=arrOf st) (base:=P.length) (n:=X.length) (hint:=0) hO k1 (vY y0 my0) (by lia) (by rw [dX];exact vX) (by rw [dX];exact sX) (by lia) fun k hkn g1 g2=>?_)));rw [dX] at g1 g2;simp only [ae4,agJ] at g1 g2;have sp:=ae9 k X;have l2:(X.drop k).length=X.length - k:=afs;have l1:(X.take k).length=k:=by rw [aeK];lia
 have g1Y:∀ x∈X.take k,∀ y∈Y,le κ x y:=fun x hx y hy=>le_trans (g1 x hx) (y0le y hy);by_cases c1:X.length - k=0
 ·refine ifp (aeR.mpr c1) ?_;refine aeI (same (pJ sX sY fun x hx y hy=>g1Y x ?_ y hy));rw [afm (by lia)];exact hx
 refine ifn (fun z=>c1 (aeR.mp z)) ?_;obtain⟨xl,hxl⟩:∃ xl,X[X.length - 1]? = some xl:=⟨_,aeh (by lia)⟩;have mxl:xl∈X:=aey hxl;have hxa:(arrOf st)[P.length+k+(X.length - k) - 1]? = some xl:=by
  have:(arrOf st).toList[P.length+k+(X.length - k) - 1]? = some xl:=by
   rw [ea,show P.length+k+(X.length - k) - 1=P.length+(X.length - 1) by lia,aeJ (by lia),Nat.add_sub_cancel_left,aeQ (by lia)];exact hxl
  simpa using this
 have lex:∀ x∈X,le κ x xl:=fun x hx=>by
  obtain⟨j,hj,ej⟩:=ahc.mp hx;exact sX.at (i:=j) (j:=X.length - 1) (by lia) (by rw [aeh hj,ej]) hxl
 refine aez (cC hxa (aez (eP (left:=true) (key:=xl) (arr:=arrOf st) (base:=P.length+X.length) (n:=Y.length) (hint:=Y.length - 1) hO k1 (vX xl mxl) (by lia) (by rw [dY];exact vY) (by rw [dY];exact sY) (by lia) fun k2 hkn2 g3 g4=>?_)));rw [dY] at g3 g4;simp only [aht] at g3 g4;by_cases c2:k2=0
 ·refine ifp (aeR.mpr c2) ?_;refine aeI (same (pJ sX sY fun x hx y hy=>le_trans (lex x hx) (g4 y ?_)));rw [c2,afH];exact hy
 refine ifn (fun z=>c2 (aeR.mp z)) ?_;have l3:(Y.take k2).length=k2:=by rw [aeK];lia
 have ex:((arrOf st).extract (P.length+k) (P.length+X.length)).toList=X.drop k:=by
  rw [agc,afG,ea,← ahd,ajn,ahH hkn,show P.length+X.length - (P.length+k)=(X.drop k).length by rw [l2];lia,ahz]
 have ey:((arrOf st).extract (P.length+X.length) (P.length+X.length+k2)).toList=Y.take k2:=by
  rw [agc,afG,ea,← ahd,ajn,ajn,show P.length+X.length+k2 - (P.length+X.length)=k2 by lia,aft hkn2]
 have fin:∀ (m:Array Keyed) (st2:SortSt),Eqv st1 st2->nj κ (X.drop k++Y.take k2) m.toList->Q true (SortSt.mk' (kindOf st2) ((m.toList.zipIdx).foldl (fun a x=>a.setIfInBounds (P.length+k+x.2) x.1) (arrOf st2)) (pendingOf st2) (gallopOf st2) (failedOf st2)):=by
  intro m st2 ev g;have ml:m.toList.length=X.length - k+k2:=by rw [g.1.length_eq,aeo,l2,l3]
  have msz:m.size=X.length - k+k2:=by rw [← aeE];exact ml
  refine h (X.take k++(m.toList++Y.drop k2)) _ ?_ ?_ (ev.1.trans k1) (ev.2.2.2.trans f1) ?_ (ev.2.2.1.trans p1)
  ·refine List.Perm.trans (agt _ (agm _ g.1)) ?_;rw [aet,ae9,← aet,ae9]
  ·have inM:∀ z∈m.toList,z∈X.drop k\/z∈Y.take k2:=fun z hz=>aew.mp (g.1.mem_iff.mp hz);have sX':=sX;rw [← sp] at sX';have cX:=(afc.mp sX').2.2;have sY':=sY;rw [← ae9 k2 Y] at sY';have cY:=(afc.mp sY').2.2;refine pJ (sX.take k) (pJ g.2 (sY.drop k2) fun z hz y hy=>?_) fun x hx z hz=>?_
   ·rcases inM z hz with q | q
    ·exact le_trans (lex z (afC q)) (g4 y hy)
    ·exact cY z q y hy
   ·rcases aew.mp hz with hz | hz
    ·rcases inM z hz with q | q
     ·exact cX x hx z q
     ·exact g1Y x hx z (afo q)
    ·exact g1Y x hx z (afC hz)
  ·show ((m.toList.zipIdx).foldl (fun a x=>a.setIfInBounds (P.length+k+x.2) x.1) (arrOf st2)).toList=_;have asz2:(arrOf st2).size=(arrOf st).size:=by rw [ev.2.1,a1]
   rw [tW (P.length+k) m.toList 0 (arrOf st2) (by lia),ev.2.1,a1,ea];have t1:(P++(X++(Y++R))).take (P.length+k+0)=P++X.take k:=by
    rw [ah9,List.take_length_add_append,aft hkn]
   have t2:(P++(X++(Y++R))).drop (P.length+k+0+m.toList.length)=Y.drop k2++R:=by
    rw [show P.length+k+0+m.toList.length=P.length+(X.length+k2) by lia,ahV,ahV,ahH hkn2]
   rw [t1,t2];simp only [aet]
 have P1':∀ y∈(Y.take k2).take 1,∀ x∈X.drop k,le κ y x:=fun y hy x hx=>by
  rw [ahy,agD (by lia),eY] at hy;have:y=y0:=by simpa using hy
  rw [this];exact le_of_lt (g2 x hx)
 have P2':∀ y∈Y.take k2,∀ z∈(X.drop k).drop (X.length - k - 1),le κ y z:=fun y hy z hz=>by
  rw [ahd,show k+(X.length - k - 1)=X.length - 1 by lia] at hz;have ez:X.drop (X.length - 1)=[xl]:=by
   obtain⟨hl,e⟩:=aek.mp hxl;rw [af0 hl,e,agW (by lia)]
  rw [ez] at hz;rw [aeq.mp hz];exact le_of_lt (g3 y hy)
 have xsz:((arrOf st).extract (P.length+k) (P.length+X.length)).size=X.length - k:=by rw [← aeE,ex,l2]
 have ysz:((arrOf st).extract (P.length+X.length) (P.length+X.length+k2)).size=k2:=by rw [← aeE,ey,l3]
 refine ifs (fun _=>?_) (fun _=>?_)
 ·refine aez (sV hO k1 (by rw [ex];exact fun p hp=>vX p (afC hp)) (by rw [ey];exact fun p hp=>vY p (afo hp)) (by rw [xsz];lia) (by rw [ysz];lia) (by rw [ex];exact sX.drop k) (by rw [ey];exact sY.take k2) (by rw [ex,ey];exact P1') (by rw [ex,ey,xsz];exact P2') fun m st2 ev g=>?_);rw [ex,ey] at g;refine aez (agU (aez (ahG ?_)));have:=fin m st2 ev g;have e:(failedOf st2).isNone=true:=by rw [ev.2.2.2,f1];rfl
  refine aeI ?_;show Q (failedOf st2).isNone _;rw [e];exact this
 ·refine aez (rJ hO k1 (by rw [ex];exact fun p hp=>vX p (afC hp)) (by rw [ey];exact fun p hp=>vY p (afo hp)) (by rw [xsz];lia) (by rw [ysz];lia) (by rw [ex];exact sX.drop k) (by rw [ey];exact sY.take k2) (by rw [ex,ey];exact P1') (by rw [ex,ey,xsz];exact P2') fun m st2 ev g=>?_);rw [ex,ey] at g;refine aez (agU (aez (ahG ?_)));have:=fin m st2 ev g;have e:(failedOf st2).isNone=true:=by rw [ev.2.2.2,f1];rfl
  refine aeI ?_;show Q (failedOf st2).isNone _;rw [e];exact this
end
structure Rl (lo:Nat)(st0 st:SortSt):Prop where
 kind:kindOf st=oneType'
 failed:failedOf st=none
 pend:pendingOf st=pendingOf st0
 perm:(arrOf st).Perm (arrOf st0)
 pre:∀ i,i < lo->(arrOf st)[i]? = (arrOf st0)[i]?
theorem Rl.size {lo:Nat}{st0 st:SortSt}(R:Rl lo st0 st):(arrOf st).size=(arrOf st0).size:=R.perm.size_eq
theorem Rl.mir {lo i j:Nat}{st0 st:SortSt}(R:Rl lo st0 st)(hi:lo<=i)(hj:j<=(arrOf st0).size):Rl lo st0 (setArr st (mirror (arrOf st) i j ((j - i) / 2))) :=
 ⟨R.kind,R.failed,R.pend,(mirror_perm _ _ _ _).trans R.perm,fun k hk=>by
  show (mirror (arrOf st) i j ((j - i) / 2))[k]? = _;rw [getElem?_mirror_all (by rw [R.size];exact hj),if_neg (by lia)];exact R.pre k hk⟩
theorem Rl.bub {lo src d:Nat}{st0 st:SortSt}(R:Rl lo st0 st)(hi:lo<=src - d)(hd:d<=src)(hs:src < (arrOf st0).size):Rl lo st0 (setArr st (bubble (arrOf st) src d)) :=
 ⟨R.kind,R.failed,R.pend,(bubble_perm _ _ _).trans R.perm,fun k hk=>by
  show (bubble (arrOf st) src d)[k]? = _;rw [getElem?_bubble (by rw [R.size];exact hs) d hd,if_neg (by lia),if_neg (by lia)];exact R.pre k hk⟩
def UpK (κ:KeyKind)(xs:Array Keyed)(lo n:Nat):Prop:=∀ i j,i<=j->j < n->κ.kle (KK κ xs (lo+i)) (KK κ xs (lo+j))
def DnK (κ:KeyKind)(xs:Array Keyed)(lo n:Nat):Prop:=∀ i j,i<=j->j < n->κ.kle (KK κ xs (lo+j)) (KK κ xs (lo+i))
section
variable {κ:KeyKind}
theorem UpK.one (xs:Array Keyed)(lo n:Nat)(hn:n<=1):UpK κ xs lo n:=fun i j hij hj=>by
 have e:i=j:=by lia
 subst e;exact agC _
theorem UpK.more {xs:Array Keyed}{lo x:Nat}(h:UpK κ xs lo x)(hx:1<=x)(q:κ.kle (KK κ xs (lo+(x - 1))) (KK κ xs (lo+x))):UpK κ xs lo (x+1):=fun i j hij hj=>by
 by_cases hjx:j < x
 ·exact h i j hij hjx
 ·have e:j=x:=by lia
  subst e;by_cases e2:i=j
  ·subst e2;exact agC _
  ·exact agS (h i (j - 1) (by lia) (by lia)) q
theorem DnK.more {xs:Array Keyed}{lo x:Nat}(h:DnK κ xs lo x)(hx:1<=x)(q:κ.kle (KK κ xs (lo+x)) (KK κ xs (lo+(x - 1)))):DnK κ xs lo (x+1):=fun i j hij hj=>by
 by_cases hjx:j < x
 ·exact h i j hij hjx
 ·have e:j=x:=by lia
  subst e;by_cases e2:i=j
  ·subst e2;exact agC _
  ·exact agS q (h i (j - 1) (by lia) (by lia))
theorem DnK.congr {xs ys:Array Keyed}{lo n:Nat}(h:DnK κ xs lo n)(e:∀ k,KK κ ys k=KK κ xs k):DnK κ ys lo n:=fun i j hij hj=>by
 rw [e,e];exact h i j hij hj
end
section
variable {prog:Program}{w:World}{A:Around}{E:Value->Shared->Prop}{s:Shared}{κ:KeyKind}
theorem nU (hO:LtAt prog w A s κ){lo i j:Nat}{st0 st:SortSt}{Q:Option Bool->SortSt->Prop}(R:Rl lo st0 st)(va:∀ p∈(arrOf st0).toList,Va κ p)(hi:i < (arrOf st0).size)(hj:j < (arrOf st0).size)
 (h:Q (some (κ.blt (KK κ (arrOf st) i) (KK κ (arrOf st) j))) st):wpS (model prog w) A E s (ltAt' i j) Q st:=by
 have get:∀ k,k < (arrOf st0).size->∃ p,(arrOf st)[k]? = some p/\Va κ p:=fun k hk=>by
  obtain⟨p,e,m⟩:=dD (x:=arrOf st) (i:=k) (by rw [R.size];exact hk);exact⟨p,e,va p ((ago.mp R.perm).mem_iff.mp m)⟩
 obtain⟨p,e1,a,ha⟩:=get i hi;obtain⟨q,e2,b,hb⟩:=get j hj;have ka:KK κ (arrOf st) i=a:=by rw [lu e1];unfold kk;rw [ha];rfl
 have kb:KK κ (arrOf st) j=b:=by rw [lu e2];unfold kk;rw [hb];rfl
 rw [ka,kb] at h;rw [ltAt'_eq];refine aez (ahG (aez (cC e1 (aez (cC e2 (abR hO R.kind ⟨a,ha⟩ ⟨b,hb⟩ ?_))))));have kp:kk κ p=a:=by unfold kk;rw [ha];rfl
 have kq:kk κ q=b:=by unfold kk;rw [hb];rfl
 rw [kp,kq];exact h
theorem vi (hO:LtAt prog w A s κ){lo n ok:Nat}{st0 st:SortSt}{Q:Bool->SortSt->Prop}(R:Rl lo st0 st)(va:∀ p∈(arrOf st0).toList,Va κ p)(hn:lo+n<=(arrOf st0).size)(h1:1<=ok)(hok:ok<=n)(hs:UpK κ (arrOf st) lo ok)
 (h:∀ st',Rl lo st0 st'->UpK κ (arrOf st') lo n->Q true st'):wpS (model prog w) A E s (binarySort' lo n ok) Q st:=by
 rw [binarySort'_eq];refine aez (ags (afr (I:=fun k c st'=>c=(none,())/\Rl lo st0 st'/\UpK κ (arrOf st') lo k) (Q:=fun c st'=>c=(none,())/\Rl lo st0 st'/\UpK κ (arrOf st') lo n) ?_ ?_ ⟨rfl,R,by rw [Nat.max_eq_left h1];exact hs⟩) ?_);rotate_left
 ·rintro c st' ⟨rfl,R',hs'⟩;rw [show max (max ok 1) n=n by lia] at hs';exact⟨rfl,R',hs'⟩
 ·rintro c st' ⟨rfl,R',hs'⟩;exact aeI (h st' R' hs')
 rintro k c st1 hak hkn ⟨rfl,R1,s1⟩;have hk1:1<=k:=by lia
 refine aez (ags (afr (I:=fun x c st2=>st2=st1/\∃ l r,c=(none,l,r)/\l<=r/\r<=k/\r - l<=k - x/\(∀ i,i < l->κ.kle (KK κ (arrOf st1) (lo+i)) (KK κ (arrOf st1) (lo+k)))/\∀ i,r<=i->i < k->κ.klt (KK κ (arrOf st1) (lo+k)) (KK κ (arrOf st1) (lo+i)))
  (Q:=fun c st2=>st2=st1/\∃ l r,c=(none,l,r)/\l<=k/\(∀ i,i < l->κ.kle (KK κ (arrOf st1) (lo+i)) (KK κ (arrOf st1) (lo+k)))/\∀ i,l<=i->i < k->κ.klt (KK κ (arrOf st1) (lo+k)) (KK κ (arrOf st1) (lo+i))) ?_ ?_ ⟨rfl,0,k,rfl,aeM _,aep _,by lia,fun i hi=>absurd hi (by lia),fun i a b=>absurd b (by lia)⟩) ?_)
 ·rintro x c st2 _ hx ⟨rfl,l,r,rfl,g1,g2,g3,g4,g5⟩;by_cases hge:l ≥ r
  ·refine ifp hge ?_;have e:l=r:=by lia
   subst e;exact aeI ⟨rfl,l,l,rfl,g2,g4,g5⟩
  ·refine ifn hge ?_;refine aez (nU hO R1 va (by show lo+k < _;lia) (by show lo+(l+r) / 2 < _;lia) ?_);show wpS _ _ _ _ (if κ.blt (KK κ (arrOf st2) (lo+k)) (KK κ (arrOf st2) (lo+(l+r) / 2))=true then _ else _) _ _;cases q:κ.blt (KK κ (arrOf st2) (lo+k)) (KK κ (arrOf st2) (lo+(l+r) / 2)) with
   | true =>
    refine ifp rfl ?_;exact aeI ⟨rfl,l,(l+r) / 2,rfl,by lia,by lia,by lia,g4,fun i a b=>KeyOrd.klt_of_klt_of_kle q (s1 _ _ a b)⟩
   | false =>
    refine ifn aem ?_;exact aeI ⟨rfl,(l+r) / 2+1,r,rfl,by lia,by lia,by lia,fun i a=>agS (s1 i ((l+r) / 2) (by lia) (by lia)) (show κ.kle _ _ from q),g5⟩
 ·rintro c st2 ⟨rfl,l,r,rfl,g1,g2,g3,g4,g5⟩;have e:l=r:=by lia
  subst e;exact⟨rfl,l,l,rfl,g2,g4,g5⟩
 ·rintro c st2 ⟨rfl,l,r,rfl,g2,g4,g5⟩;show wpS _ _ _ _ (moveDown' (lo+k) (lo+l) >>= fun _=>pure (ForInStep.yield (none,()))) _ _;rw [moveDown'_eq];have hks:lo+k < (arrOf st2).size:=by rw [R1.size];lia
  refine aez (agU (aeI ⟨rfl,R1.bub (by lia) (by lia) (by lia),?_⟩));intro i j hij hj;show κ.kle (KK κ (bubble (arrOf st2) (lo+k) (lo+k - (lo+l))) (lo+i)) (KK κ (bubble (arrOf st2) (lo+k) (lo+k - (lo+l))) (lo+j));rw [KK_bubble hks (by lia),KK_bubble hks (by lia)];have e1:∀ {z:Nat},l < z->z<=k->lo+z - 1=lo+(z - 1):=fun {z} a b=>by lia
  by_cases hj1:j=l
  ·subst hj1;rw [if_pos (show lo+j=lo+k - (lo+k - (lo+j)) by lia)];by_cases hi1:i=j
   ·rw [hi1,if_pos (show lo+j=lo+k - (lo+k - (lo+j)) by lia)];exact agC _
   ·rw [if_neg (by lia),if_neg (by lia)];exact g4 i (by lia)
  ·by_cases hj2:l < j
   ·rw [if_neg (show ¬ (lo+j=lo+k - (lo+k - (lo+l))) by lia),if_pos (show lo+k - (lo+k - (lo+l)) < lo+j/\lo+j<=lo+k by lia),e1 hj2 (by lia)];by_cases hi1:i=l
    ·rw [hi1,if_pos (show lo+l=lo+k - (lo+k - (lo+l)) by lia)];exact ag7 (g5 (j - 1) (by lia) (by lia))
    ·by_cases hi2:l < i
     ·rw [if_neg (show ¬ (lo+i=lo+k - (lo+k - (lo+l))) by lia),if_pos (show lo+k - (lo+k - (lo+l)) < lo+i/\lo+i<=lo+k by lia),e1 hi2 (by lia)];exact s1 _ _ (by lia) (by lia)
     ·rw [if_neg (by lia),if_neg (by lia)];exact s1 _ _ (by lia) (by lia)
   ·rw [if_neg (show ¬ (lo+j=lo+k - (lo+k - (lo+l))) by lia),if_neg (show ¬ (lo+k - (lo+k - (lo+l)) < lo+j/\lo+j<=lo+k) by lia),if_neg (by lia),if_neg (by lia)];exact s1 _ _ hij (by lia)
end
section
variable {prog:Program}{w:World}{A:Around}{E:Value->Shared->Prop}{s:Shared}{κ:KeyKind}
theorem ye (hO:LtAt prog w A s κ){lo nrem:Nat}{st0:SortSt}{Q:Option Nat->SortSt->Prop}(hk:kindOf st0=oneType')(hf:failedOf st0=none)(va:∀ p∈(arrOf st0).toList,Va κ p)(hn:lo+nrem<=(arrOf st0).size)(h1:1<=nrem)
 (h:∀ m st',Rl lo st0 st'->1<=m->m<=nrem->UpK κ (arrOf st') lo m->Q (some m) st'):wpS (model prog w) A E s (countRun' lo nrem) Q st0:=by
 rw [countRun'_eq];have R0:Rl lo st0 st0:=⟨hk,hf,rfl,Array.Perm.refl _,fun _ _=>rfl⟩;refine aez (ags (afr (I:=fun x c st'=>st'=st0/\c=(none,x)/\UpK κ (arrOf st0) lo x) (Q:=fun c st'=>st'=st0/\∃ n,c=(none,n)/\1<=n/\n<=nrem/\UpK κ (arrOf st0) lo n/\(n=nrem\/κ.klt (KK κ (arrOf st0) (lo+n)) (KK κ (arrOf st0) (lo+(n - 1))))) ?_ ?_ ⟨rfl,rfl,UpK.one _ _ _ (aep _)⟩) ?_)
 ·rintro x c st' hx1 hx ⟨rfl,rfl,s1⟩;refine aez (nU hO R0 va (by show lo+x < _;lia) (by show lo+x - 1 < _;lia) ?_);show wpS _ _ _ _ (if κ.blt (KK κ (arrOf st') (lo+x)) (KK κ (arrOf st') (lo+x - 1))=true then _ else _) _ _;rw [show lo+x - 1=lo+(x - 1) by lia];cases q:κ.blt (KK κ (arrOf st') (lo+x)) (KK κ (arrOf st') (lo+(x - 1))) with
  | true =>
   refine ifp rfl ?_;exact aeI ⟨rfl,x,rfl,hx1,by lia,s1,.inr q⟩
  | false =>
   refine ifn aem ?_;exact aeI ⟨rfl,rfl,s1.more hx1 q⟩
 ·rintro c st' ⟨rfl,rfl,s1⟩;rw [show max 1 nrem=nrem by lia] at s1 ⊢;exact⟨rfl,nrem,rfl,h1,aep _,s1,.inl rfl⟩
 rintro c st' ⟨rfl,n,rfl,g1,g2,s1,alt⟩;by_cases hnn:n=nrem
 ·refine ifp (aeR.mpr hnn) ?_;exact aeI (h n st' R0 g1 g2 s1)
 refine ifn (fun z=>hnn (aeR.mp z)) ?_;have hlt:=alt.resolve_left hnn
 lift_lets
 extract_lets n0 q0 jp
 have hjp:∀ st1,Rl lo st' st1->DnK κ (arrOf st1) lo (n+1)->wpS (model prog w) A E s (jp ()) Q st1:=by
  intro st1 R1 d1;refine aez (wpS_lift (afY ⟨rfl,?_⟩));refine aez (ags (afr (a:=n+1) (b:=nrem) (I:=fun x c st2=>Rl lo st' st2/\∃ neq,c=(none,x,neq)/\DnK κ (arrOf st2) lo x/\neq+1<=x/\∀ i,x - (neq+1)<=i->i < x->KK κ (arrOf st2) (lo+i)=KK κ (arrOf st2) (lo+(x - 1)))
   (Q:=fun c st2=>Rl lo st' st2/\∃ x neq,c=(none,x,neq)/\1<=x/\x<=nrem/\DnK κ (arrOf st2) lo x/\neq+1<=x/\∀ i,x - (neq+1)<=i->i < x->KK κ (arrOf st2) (lo+i)=KK κ (arrOf st2) (lo+(x - 1))) ?_ ?_ ⟨R1,0,rfl,d1,by lia,fun i a b=>by congr 1;lia⟩) ?_)
  ·rintro x c st2 hx1 hx ⟨R2,neq,rfl,d2,q1,q2⟩;have hsz:lo+x<=(arrOf st2).size:=by rw [R2.size];lia
   refine aez (nU hO R2 va (by show lo+x < _;lia) (by show lo+x - 1 < _;lia) ?_);show wpS _ _ _ _ (if κ.blt (KK κ (arrOf st2) (lo+x)) (KK κ (arrOf st2) (lo+x - 1))=true then _ else _) _ _;rw [show lo+x - 1=lo+(x - 1) by lia];cases q:κ.blt (KK κ (arrOf st2) (lo+x)) (KK κ (arrOf st2) (lo+(x - 1))) with
   | true =>
    refine ifp rfl ?_;have d3:=d2.more (by lia) (ag7 q);refine ifs (fun hq=>?_) (fun hq=>?_)
    ·refine aez (wpS_reverse (i:=lo+x - (neq+1)) (j:=lo+x) (aeI ⟨R2.mir (by lia) (by lia),0,rfl,?_,by lia,fun i a b=>by congr 1;lia⟩));refine d3.congr fun k=>KK_mirror_equal hsz (fun k a b=>?_) k;have e:=q2 (k - lo) (by lia) (by lia);rw [show lo+(k - lo)=k by lia] at e;rw [e];congr 1;lia
    ·exact aeI ⟨R2,0,rfl,d3,by lia,fun i a b=>by congr 1;lia⟩
   | false =>
    refine ifn aem ?_;refine aez (nU hO R2 va (by show lo+(x - 1) < _;lia) (by show lo+x < _;lia) ?_);show wpS _ _ _ _ (if κ.blt (KK κ (arrOf st2) (lo+(x - 1))) (KK κ (arrOf st2) (lo+x))=true then _ else _) _ _;cases p:κ.blt (KK κ (arrOf st2) (lo+(x - 1))) (KK κ (arrOf st2) (lo+x)) with
    | true =>
     refine ifp rfl ?_;exact aeI ⟨R2,x,neq,rfl,by lia,by lia,d2,q1,q2⟩
    | false =>
     refine ifn aem ?_;have e:KK κ (arrOf st2) (lo+x)=KK κ (arrOf st2) (lo+(x - 1)):=KeyOrd.kle_antisymm p q;refine aeI ⟨R2,neq+1,rfl,d2.more (by lia) (show κ.kle _ _ from p),by lia,fun i a b=>?_⟩;rw [show x+1 - 1=x by lia];by_cases hix:i=x
     ·rw [hix]
     ·rw [e];exact q2 i (by lia) (by lia)
  ·rintro c st2 ⟨R2,neq,rfl,d2,q1,q2⟩;rw [show max (n+1) nrem=nrem by lia] at d2 q1 q2 ⊢;exact⟨R2,nrem,neq,rfl,h1,aep _,d2,q1,q2⟩
  rintro c st2 ⟨R2,x,neq,rfl,x1,x2,d2,q1,q2⟩
  lift_lets
  extract_lets r5 s5 n5 q5 jp2
  have hjp2:∀ st3,Rl lo st' st3->DnK κ (arrOf st3) lo x->wpS (model prog w) A E s (jp2 ()) Q st3:=by
   intro st3 R3 d3;have hsz:lo+x<=(arrOf st3).size:=by rw [R3.size];lia
   refine aez (wpS_reverse (i:=lo) (j:=lo+x) ?_);have R4:=R3.mir (i:=lo) (j:=lo+x) (aep _) (by lia);have u4:UpK κ (arrOf (setArr st3 (mirror (arrOf st3) lo (lo+x) ((lo+x - lo) / 2)))) lo x:=fun i j hij hj=>by
    show κ.kle (KK κ (mirror (arrOf st3) lo (lo+x) ((lo+x - lo) / 2)) (lo+i)) (KK κ (mirror (arrOf st3) lo (lo+x) ((lo+x - lo) / 2)) (lo+j));rw [KK_mirror hsz,KK_mirror hsz,if_pos (by lia),if_pos (by lia),show lo+(lo+x) - 1 - (lo+i)=lo+(x - 1 - i) by lia,show lo+(lo+x) - 1 - (lo+j)=lo+(x - 1 - j) by lia];exact d3 _ _ (by lia) (by lia)
   generalize setArr st3 (mirror (arrOf st3) lo (lo+x) ((lo+x - lo) / 2))=st4 at R4 u4 ⊢;refine aez (ags (afr (a:=x) (b:=nrem) (I:=fun y c st5=>st5=st4/\c=(none,y)/\UpK κ (arrOf st4) lo y) (Q:=fun c st5=>st5=st4/\∃ m,c=(none,m)/\1<=m/\m<=nrem/\UpK κ (arrOf st4) lo m) ?_ ?_ ⟨rfl,rfl,u4⟩) ?_)
   ·rintro y c st5 hy1 hy ⟨rfl,rfl,s5⟩;refine aez (nU hO R4 va (by show lo+y < _;lia) (by show lo+y - 1 < _;lia) ?_);show wpS _ _ _ _ (if κ.blt (KK κ (arrOf st5) (lo+y)) (KK κ (arrOf st5) (lo+y - 1))=true then _ else _) _ _;rw [show lo+y - 1=lo+(y - 1) by lia];cases q:κ.blt (KK κ (arrOf st5) (lo+y)) (KK κ (arrOf st5) (lo+(y - 1))) with
    | true =>
     refine ifp rfl ?_;exact aeI ⟨rfl,y,rfl,by lia,by lia,s5⟩
    | false =>
     refine ifn aem ?_;exact aeI ⟨rfl,rfl,s5.more (by lia) q⟩
   ·rintro c st5 ⟨rfl,rfl,s5⟩;rw [show max x nrem=nrem by lia] at s5 ⊢;exact⟨rfl,nrem,rfl,h1,aep _,s5⟩
   ·rintro c st5 ⟨rfl,m,rfl,m1,m2,s5⟩;exact aeI (h m st5 R4 m1 m2 s5)
  clear_value jp2
  refine ifs (fun hq=>?_) (fun hq=>hjp2 st2 R2 d2);have hsz:lo+x<=(arrOf st2).size:=by rw [R2.size];lia
  refine aez (wpS_reverse (i:=lo+x - (neq+1)) (j:=lo+x) (hjp2 _ (R2.mir (by lia) (by lia)) ?_));refine d2.congr fun k=>KK_mirror_equal hsz (fun k a b=>?_) k;have e:=q2 (k - lo) (by lia) (by lia);rw [show lo+(k - lo)=k by lia] at e;rw [e];congr 1;lia
 clear_value jp
 have hsz:lo+n<=(arrOf st').size:=by lia
 refine ifs (fun hgt=>?_) (fun hgt=>?_)
 ·refine aez (nU hO R0 va (by show lo < _;lia) (by show lo+n - 1 < _;lia) ?_);show wpS _ _ _ _ (if κ.blt (KK κ (arrOf st') lo) (KK κ (arrOf st') (lo+n - 1))=true then _ else _) _ _;cases q:κ.blt (KK κ (arrOf st') lo) (KK κ (arrOf st') (lo+n - 1)) with
  | true =>
   refine ifp rfl ?_;exact aeI (h n st' R0 g1 g2 s1)
  | false =>
   refine ifn aem ?_;have all:∀ k,k < n->KK κ (arrOf st') (lo+k)=KK κ (arrOf st') (lo+(n - 1)):=fun k hk=>by
    have a1:=s1 0 k (by lia) hk;have a2:=s1 k (n - 1) (by lia) (by lia);rw [ah9] at a1;rw [show lo+n - 1=lo+(n - 1) by lia] at q;exact KeyOrd.kle_antisymm a2 (agS q a1)
   refine aez (wpS_reverse (i:=lo) (j:=lo+n) (hjp _ (R0.mir (aep _) (by lia)) ?_));have d0:DnK κ (arrOf st') lo n:=fun i j hij hj=>by rw [all i (by lia),all j hj];exact agC _
   refine (d0.more g1 (ag7 hlt)).congr fun k=>KK_mirror_equal hsz (fun k a b=>?_) k;have e:=all (k - lo) (by lia);rw [show lo+(k - lo)=k by lia] at e;rw [e,show lo+n - 1=lo+(n - 1) by lia]
 ·have e1:n=1:=by lia
  subst e1;have d0:DnK κ (arrOf st') lo 1:=fun i j hij hj=>by
   have e:i=j:=by lia
   subst e;exact agC _
  exact hjp st' R0 (d0.more (aep _) (ag7 hlt))
end
def jI:Nat->List (List Keyed)->List (Nat×Nat)
 | _,[]=>[]
 | s,g::gs=>(s,g.length)::jI (s+g.length) gs
theorem dQ:∀ (A B:List (List Keyed)) (s:Nat),jI s (A++B)=jI s A++jI (s+A.flatten.length) B
 | [],B,s=>by simp [jI]
 | g::A,B,s=>by
  rw [ahE];simp only [jI,afX,aeo,ahE];rw [dQ A B,Nat.add_assoc]
theorem iA:∀ (A:List (List Keyed)) (s:Nat),(jI s A).length=A.length
 | [],s=>rfl
 | g::A,s=>by simp only [jI,aeU,iA A]
def two (p:Nat×Nat×Nat):Nat×Nat:=(p.1,p.2.1)
structure Runs (κ:KeyKind)(a₀:Array Keyed)(segs:List (List Keyed))(rest:List Keyed)(st:SortSt):Prop where
 kind:kindOf st=oneType'
 failed:failedOf st=none
 perm:(arrOf st).Perm a₀
 arr:(arrOf st).toList=segs.flatten++rest
 pend:(pendingOf st).toList.map two=jI 0 segs
 sl:∀ g∈segs,SL κ g/\1<=g.length
theorem Runs.psize {κ:KeyKind}{a₀:Array Keyed}{segs:List (List Keyed)}{rest:List Keyed}{st:SortSt}(r:Runs κ a₀ segs rest st):(pendingOf st).size=segs.length:=by
 have:=afy List.length r.pend;rw [aej,iA,aeE] at this;exact this
theorem Runs.total {κ:KeyKind}{a₀:Array Keyed}{segs:List (List Keyed)}{rest:List Keyed}{st:SortSt}(r:Runs κ a₀ segs rest st):segs.flatten.length+rest.length=a₀.size:=by
 have:=afy List.length r.arr;rw [aeo,aeE,r.perm.size_eq] at this;exact this.symm
theorem vK:∀ {segs:List (List Keyed)},(∀ g∈segs,1<=g.length)->segs.length<=segs.flatten.length
 | [],_=>aep _
 | g::gs,h=>by
  have a:=h g aev;have b:=vK (segs:=gs) fun q hq=>h q (aeC _ hq);rw [afX,aeo,aeU];lia
theorem qP:∀ {segs:List (List Keyed)} {i:Nat},i+1 < segs.length->∃ S1 X Y S2,segs=S1++(X::Y::S2)/\S1.length=i
 | [],i,h=>absurd h (by simp)
 | [g],i,h=>absurd h (by simp)
 | g::g'::gs,0,h=>⟨[],g,g',gs,rfl,rfl⟩
 | g::g'::gs,i+1,h=>by
  obtain⟨S1,X,Y,S2,e,l⟩:=qP (segs:=g'::gs) (i:=i) (by simpa using h);exact⟨g::S1,X,Y,S2,by rw [e];rfl,by simp [l]⟩
theorem hJ {α β:Type}(f:α->β):∀ (l:List α) (n:Nat),(l.eraseIdx n).map f=(l.map f).eraseIdx n
 | [],n=>by simp
 | x::l,0=>by simp
 | x::l,n+1=>by
  rw [agL,aeG,aeG,agL,hJ f l n]
theorem Runs.after {κ:KeyKind}{a₀:Array Keyed}{segs:List (List Keyed)}{rest:List Keyed}{st st':SortSt}(r:Runs κ a₀ segs rest st)(R:Rl segs.flatten.length st st'):Runs κ a₀ segs ((arrOf st').toList.drop segs.flatten.length) st':=by
 refine⟨R.kind,R.failed,R.perm.trans r.perm,?_,by rw [R.pend];exact r.pend,r.sl⟩;have e:(arrOf st').toList.take segs.flatten.length=segs.flatten:=by
  have e1:(arrOf st).toList.take segs.flatten.length=segs.flatten:=by rw [r.arr,ahz]
  rw [← e1];refine agB fun i=>?_;have hlen:(List.take segs.flatten.length (arrOf st).toList).length=segs.flatten.length:=by
   rw [e1]
  rw [hlen];by_cases hi:i < segs.flatten.length
  ·rw [agy hi,agy hi,ae8,ae8];exact R.pre i hi
  ·rw [ah4 (by lia),ah4 (by lia)]
 have:=(ae9 segs.flatten.length (arrOf st').toList).symm
 rwa [e] at this
theorem UpK.sl {κ:KeyKind}{xs:Array Keyed}{lo n:Nat}(h:UpK κ xs lo n):SL κ ((xs.toList.drop lo).take n):=by
 refine agv.mpr fun i j hi hj hij=>?_;have hj':j < n/\j < xs.size - lo:=by
  rw [aeK,afs,aeE] at hj;lia
 have q:=h i j (af1 hij) hj'.1;rw [lu (p:=xs[lo+i]) (getElem?_pos xs (lo+i) (by lia)),lu (p:=xs[lo+j]) (getElem?_pos xs (lo+j) (by lia))] at q;rw [ais,ait,ais,ait];exact q
theorem acn {c:Prop}[Decidable c]{a b n:Nat}(h1:a+1 < n)(h2:b+1 < n):(if c then a else b)+1 < n:=by
 split<;>assumption
theorem yg (f:Nat×Nat×Nat->Nat×Nat×Nat)(hf:∀ x,two (f x)=two x)(p:Array (Nat×Nat×Nat))(i:Nat):(p.modify i f).toList.map two=p.toList.map two:=by
 refine agB fun j=>?_;rw [aer,aer,ae8,ae8,Array.getElem?_modify];cases p[j]? with
 | none=>split<;>rfl
 | some v =>
  split
  ·show some (two (f v))=some (two v);rw [hf]
  ·rfl
section
variable {prog:Program}{w:World}{A:Around}{E:Value->Shared->Prop}{s:Shared}{κ:KeyKind}
theorem gB (hO:LtAt prog w A s κ){a₀:Array Keyed}{segs:List (List Keyed)}{rest:List Keyed}{i:Nat}{st:SortSt}{Q:Bool->SortSt->Prop}(va:∀ p∈a₀.toList,Va κ p)(r:Runs κ a₀ segs rest st)(hi:i+1 < segs.length)
 (h:∀ segs' st',Runs κ a₀ segs' rest st'->segs'.length+1=segs.length->segs'.flatten.length=segs.flatten.length->Q true st'):wpS (model prog w) A E s (mergeAt' i) Q st:=by
 obtain⟨S1,X,Y,S2,rfl,l1⟩:=qP hi;have pe:=r.pend;rw [dQ] at pe;simp only [jI,ahA] at pe;have l1':(jI 0 S1).length=i:=by rw [iA];exact l1
 have at1:((pendingOf st).toList.map two)[i]? = some (S1.flatten.length,X.length):=by
  rw [pe,aeJ (by lia),l1',ahg]
  rfl
 have at2:((pendingOf st).toList.map two)[i+1]? = some (S1.flatten.length+X.length,Y.length):=by
  rw [pe,aeJ (by lia),l1',show i+1 - i=1 by lia]
  rfl
 have get:∀ {k a b:Nat},((pendingOf st).toList.map two)[k]? = some (a,b)->∃ c,(pendingOf st)[k]? = some (a,b,c):=fun {k a b} e=>by
  rw [aer,ae8] at e;cases q:(pendingOf st)[k]? with
  | none=>rw [q] at e;cases e
  | some v =>
   rw [q] at e;obtain⟨x,y,z⟩:=v;have e':(x,y)=(a,b):=afg e;cases e';exact⟨z,rfl⟩
 obtain⟨pw,hp1⟩:=get at1;obtain⟨pw2,hp2⟩:=get at2;have ea:(arrOf st).toList=S1.flatten++(X++(Y++(S2.flatten++rest))):=by
  rw [r.arr];simp [aet]
 have vall:∀ p∈(arrOf st).toList,Va κ p:=fun p hp=>va p ((ago.mp r.perm).mem_iff.mp hp);have sX:=r.sl X (by simp);have sY:=r.sl Y (by simp);refine sW hO r.kind r.failed hp1 hp2 ea (fun p hp=>vall p (by rw [ea];simp [hp])) (fun p hp=>vall p (by rw [ea];simp [hp])) sX.1 sY.1 sX.2 sY.2 fun M st' pM sM k' f' a' p'=>?_;have lM:M.length=X.length+Y.length:=by rw [pM.length_eq,aeo]
 refine h (S1++M::S2) st' ⟨k',f',?_,?_,?_,fun g hg=>?_⟩ (by simp only [aeo,aeU];lia) (by simp only [agQ,afX,aeo];lia)
 ·refine Array.Perm.trans (ago.mpr ?_) r.perm;rw [a',ea];refine agt _ ?_;rw [← aet X];exact agm _ pM
 ·rw [a'];simp [aet]
 ·rw [p',Array.toList_eraseIdxIfInBounds,Array.toList_setIfInBounds,dQ];simp only [jI,ahA];rw [hJ,List.map_set,pe];rw [show two (S1.flatten.length,X.length+Y.length,pw)=(S1.flatten.length,X.length+Y.length) from rfl];rw [List.set_append_right _ _ (by lia),l1',ahg,List.set_cons_zero,List.eraseIdx_append_of_length_le (by lia),l1',show i+1 - i=1 by lia];simp only [agL,List.eraseIdx_cons_zero];rw [lM,Nat.add_assoc]
 ·rcases aew.mp hg with hg | hg
  ·exact r.sl g (by simp [hg])
  ·rcases aeu.mp hg with hg | hg
   ·rw [hg];exact⟨sM,by lia⟩
   ·exact r.sl g (by simp [hg])
theorem tI (hO:LtAt prog w A s κ){a₀:Array Keyed}{st:SortSt}{Q:Unit->SortSt->Prop}(va:∀ p∈a₀.toList,Va κ p)(hk:kindOf st=oneType')(hf:failedOf st=none)(hp:(arrOf st).Perm a₀)(hpe:pendingOf st=#[])
 (h:∀ st',(arrOf st').Perm a₀->failedOf st'=none->SL κ (arrOf st').toList->Q () st'):wpS (model prog w) A E s sortRuns' Q st:=by
 have hN:(arrOf st).size=a₀.size:=hp.size_eq;have none_left:∀ {segs:List (List Keyed)} {rest:List Keyed} {st':SortSt},Runs κ a₀ segs rest st'->(arrOf st).size<=segs.flatten.length->Runs κ a₀ segs [] st':=fun {segs rest st'} r hl=>by
  have t:=r.total;have e:rest=[]:=ahm.mp (by lia);rw [← e];exact r
 refine aez (ahG ?_);refine aez (ags (afr (a:=0) (b:=(arrOf st).size) (I:=fun x c st'=>∃ segs rest,c=(none,segs.flatten.length)/\Runs κ a₀ segs rest st'/\x<=segs.flatten.length)
  (Q:=fun c st'=>∃ segs lo,c=(none,lo)/\Runs κ a₀ segs [] st') ?_ ?_ ⟨[],(arrOf st).toList,rfl,⟨hk,hf,hp,rfl,by rw [hpe];rfl,fun g hg=>nomatch hg⟩,aep _⟩) ?_)
 ·rintro x c st1 _ hx ⟨segs,rest,rfl,r,hxl⟩;by_cases hge:segs.flatten.length ≥ (arrOf st).size
  ·refine ifp hge ?_;exact aeI ⟨segs,_,rfl,none_left r hge⟩
  refine ifn hge ?_;have hN1:(arrOf st1).size=a₀.size:=r.perm.size_eq;have vall:∀ p∈(arrOf st1).toList,Va κ p:=fun p hp=>va p ((ago.mp r.perm).mem_iff.mp hp);refine aez (ye (lo:=segs.flatten.length) (nrem:=(arrOf st).size - segs.flatten.length) hO r.kind r.failed vall (by lia) (by lia) fun m st2 R2 m1 m2 u2=>?_);have r2:=r.after R2;have t2:=r2.total;refine ifs (fun hlt=>?_) (fun hlt=>?_)
  ·refine aez (wpS_lift (afY ⟨rfl,?_⟩));have fo1:m<=min ((arrOf st).size - segs.flatten.length) (minRun' (arrOf st).size (arrOf st).size 0):=by
    have hlt':m < minRun' (arrOf st).size (arrOf st).size 0:=hlt;lia
   have fo2:min ((arrOf st).size - segs.flatten.length) (minRun' (arrOf st).size (arrOf st).size 0)<=(arrOf st).size - segs.flatten.length:=ai5 _ _;refine aez (vi (lo:=segs.flatten.length) (n:=min ((arrOf st).size - segs.flatten.length) (minRun' (arrOf st).size (arrOf st).size 0)) (ok:=m) hO R2 vall (by lia) m1 fo1 u2 fun st3 R3 u3=>?_);refine ifn (by simp) ?_;have r3:=r.after R3;have t3:=r3.total;have sN:=u3.sl;generalize (arrOf st3).toList.drop segs.flatten.length=rest3 at r3 sN t3;have push:∀ (segs':List (List Keyed)) (st4:SortSt),Runs κ a₀ segs' rest3 st4->segs'.flatten.length=segs.flatten.length->∃ segs5 rest5,((none,segs.flatten.length+min ((arrOf st).size - segs.flatten.length) (minRun' (arrOf st).size (arrOf st).size 0)):Option Unit×Nat)=(none,segs5.flatten.length)/\Runs κ a₀ segs5 rest5 (setPending st4 ((pendingOf st4).push (segs.flatten.length,min ((arrOf st).size - segs.flatten.length) (minRun' (arrOf st).size (arrOf st).size 0),0)))/\x+1<=segs5.flatten.length:=fun segs' st4 r4 e4=>by
    have lN:(rest3.take (min ((arrOf st).size - segs.flatten.length) (minRun' (arrOf st).size (arrOf st).size 0))).length=min ((arrOf st).size - segs.flatten.length) (minRun' (arrOf st).size (arrOf st).size 0):=by rw [aeK];lia
    have lf:(segs'++[rest3.take (min ((arrOf st).size - segs.flatten.length) (minRun' (arrOf st).size (arrOf st).size 0))]).flatten.length=segs.flatten.length+min ((arrOf st).size - segs.flatten.length) (minRun' (arrOf st).size (arrOf st).size 0):=by
     rw [agQ,aeo,agn,lN,e4]
    refine⟨segs'++[rest3.take (min ((arrOf st).size - segs.flatten.length) (minRun' (arrOf st).size (arrOf st).size 0))],rest3.drop (min ((arrOf st).size - segs.flatten.length) (minRun' (arrOf st).size (arrOf st).size 0)),by rw [lf],⟨r4.kind,r4.failed,r4.perm,?_,?_,fun g hg=>?_⟩,by rw [lf];lia⟩
    ·show (arrOf st4).toList=_;rw [r4.arr,agQ,agn,aet,ae9]
    ·show ((pendingOf st4).push (segs.flatten.length,min ((arrOf st).size - segs.flatten.length) (minRun' (arrOf st).size (arrOf st).size 0),0)).toList.map two=_;rw [ahu,aeD,r4.pend,dQ,e4];simp only [jI,ahA,lN]
     rfl
    ·rcases aew.mp hg with hg | hg
     ·exact r4.sl g hg
     ·rw [aeq.mp hg];exact⟨sN,by lia⟩
   refine aez (ahG ?_);cases hb:(pendingOf st3).back? with
   | none=>exact aez (agU (aeI (push segs st3 r3 rfl)))
   | some v =>
    obtain⟨s1,n1,p0⟩:=v;refine aez (ags (afr (a:=0) (b:=(arrOf st).size) (I:=fun y c st4=>c=(none,())/\∃ segs',Runs κ a₀ segs' rest3 st4/\segs'.flatten.length=segs.flatten.length) (Q:=fun c st4=>c=(none,())/\∃ segs',Runs κ a₀ segs' rest3 st4/\segs'.flatten.length=segs.flatten.length) ?_ (fun _ _ h=>h) ⟨rfl,segs,r3,rfl⟩) ?_)
    ·rintro y c st4 _ hy ⟨rfl,segs',r4,e4⟩;refine aez (ahG ?_);have ps:=r4.psize;by_cases hsz:(pendingOf st4).size > 1
     ·obtain⟨v,hv⟩:∃ v,(pendingOf st4)[(pendingOf st4).size - 2]? = some v:=⟨_,getElem?_pos _ _ (by lia)⟩;obtain⟨q1,q2,q3⟩:=v;have em:(if (pendingOf st4).size > 1 then (pendingOf st4)[(pendingOf st4).size - 2]? else none)=some (q1,q2,q3):=by rw [if_pos hsz,hv]
      dsimp only;rw [em];refine ifs (fun ho=>aeI ⟨rfl,segs',r4,e4⟩) (fun ho=>?_);refine aez (gB (i:=(pendingOf st4).size - 2) hO va r4 (by lia) fun segs5 st5 r5 l5 e5=>?_);exact ifn (by simp) (aeI ⟨rfl,segs5,r5,by lia⟩)
     ·have em:(if (pendingOf st4).size > 1 then (pendingOf st4)[(pendingOf st4).size - 2]? else none)=none:=if_neg hsz;dsimp only;rw [em];exact aeI ⟨rfl,segs',r4,e4⟩
    ·rintro c st4 ⟨rfl,segs',r4,e4⟩;refine aez (agU (aez (agU (aeI (push segs' _ ⟨r4.kind,r4.failed,r4.perm,r4.arr,?_,r4.sl⟩ e4)))));refine (yg _ ?_ _ _).trans r4.pend;intro z
     rfl
  ·have sN:=u2.sl;have r3:=r2;have t3:=t2;generalize (arrOf st2).toList.drop segs.flatten.length=rest3 at r3 sN t3;have push:∀ (segs':List (List Keyed)) (st4:SortSt),Runs κ a₀ segs' rest3 st4->segs'.flatten.length=segs.flatten.length->∃ segs5 rest5,((none,segs.flatten.length+m):Option Unit×Nat)=(none,segs5.flatten.length)/\Runs κ a₀ segs5 rest5 (setPending st4 ((pendingOf st4).push (segs.flatten.length,m,0)))/\x+1<=segs5.flatten.length:=fun segs' st4 r4 e4=>by
    have lN:(rest3.take (m)).length=m:=by rw [aeK];lia
    have lf:(segs'++[rest3.take (m)]).flatten.length=segs.flatten.length+m:=by
     rw [agQ,aeo,agn,lN,e4]
    refine⟨segs'++[rest3.take (m)],rest3.drop (m),by rw [lf],⟨r4.kind,r4.failed,r4.perm,?_,?_,fun g hg=>?_⟩,by rw [lf];lia⟩
    ·show (arrOf st4).toList=_;rw [r4.arr,agQ,agn,aet,ae9]
    ·show ((pendingOf st4).push (segs.flatten.length,m,0)).toList.map two=_;rw [ahu,aeD,r4.pend,dQ,e4];simp only [jI,ahA,lN]
     rfl
    ·rcases aew.mp hg with hg | hg
     ·exact r4.sl g hg
     ·rw [aeq.mp hg];exact⟨sN,by lia⟩
   refine aez (ahG ?_);cases hb:(pendingOf st2).back? with
   | none=>exact aez (agU (aeI (push segs st2 r3 rfl)))
   | some v =>
    obtain⟨s1,n1,p0⟩:=v;refine aez (ags (afr (a:=0) (b:=(arrOf st).size) (I:=fun y c st4=>c=(none,())/\∃ segs',Runs κ a₀ segs' rest3 st4/\segs'.flatten.length=segs.flatten.length) (Q:=fun c st4=>c=(none,())/\∃ segs',Runs κ a₀ segs' rest3 st4/\segs'.flatten.length=segs.flatten.length) ?_ (fun _ _ h=>h) ⟨rfl,segs,r3,rfl⟩) ?_)
    ·rintro y c st4 _ hy ⟨rfl,segs',r4,e4⟩;refine aez (ahG ?_);have ps:=r4.psize;by_cases hsz:(pendingOf st4).size > 1
     ·obtain⟨v,hv⟩:∃ v,(pendingOf st4)[(pendingOf st4).size - 2]? = some v:=⟨_,getElem?_pos _ _ (by lia)⟩;obtain⟨q1,q2,q3⟩:=v;have em:(if (pendingOf st4).size > 1 then (pendingOf st4)[(pendingOf st4).size - 2]? else none)=some (q1,q2,q3):=by rw [if_pos hsz,hv]
      dsimp only;rw [em];refine ifs (fun ho=>aeI ⟨rfl,segs',r4,e4⟩) (fun ho=>?_);refine aez (gB (i:=(pendingOf st4).size - 2) hO va r4 (by lia) fun segs5 st5 r5 l5 e5=>?_);exact ifn (by simp) (aeI ⟨rfl,segs5,r5,by lia⟩)
     ·have em:(if (pendingOf st4).size > 1 then (pendingOf st4)[(pendingOf st4).size - 2]? else none)=none:=if_neg hsz;dsimp only;rw [em];exact aeI ⟨rfl,segs',r4,e4⟩
    ·rintro c st4 ⟨rfl,segs',r4,e4⟩;refine aez (agU (aez (agU (aeI (push segs' _ ⟨r4.kind,r4.failed,r4.perm,r4.arr,?_,r4.sl⟩ e4)))));refine (yg _ ?_ _ _).trans r4.pend;intro z
     rfl
 ·rintro c st1 ⟨segs,rest,rfl,r,hxl⟩;rw [Nat.max_eq_right (aeM _)] at hxl;exact⟨segs,_,rfl,none_left r hxl⟩
 ·rintro c st1 ⟨segs,lo,rfl,r⟩;have tt:=r.total;rw [ahl,ah9] at tt;have fg:=vK fun g hg=>(r.sl g hg).2;refine aez (ags (afr (a:=0) (b:=(arrOf st).size) (I:=fun y c st2=>c=(none,())/\∃ segs',Runs κ a₀ segs' [] st2/\(segs'.length+y<=a₀.size\/segs'.length<=1)) (Q:=fun c st2=>c=(none,())/\∃ segs',Runs κ a₀ segs' [] st2/\segs'.length<=1) ?_ ?_ ⟨rfl,segs,r,.inl (by lia)⟩) ?_)
  ·rintro y c st2 _ hy ⟨rfl,segs',r2,alt⟩;refine aez (ahG ?_);have ps:=r2.psize;by_cases hsz:(pendingOf st2).size<=1
   ·refine ifp hsz ?_;exact aeI ⟨rfl,segs',r2,by lia⟩
   refine ifn hsz ?_;refine aez (gB hO va r2 ?_ fun segs5 st5 r5 l5 e5=>?_)
   ·exact acn (show (pendingOf st2).size - 2 - 1+1 < _ by lia) (show (pendingOf st2).size - 2+1 < _ by lia)
   ·exact ifn (by simp) (aeI ⟨rfl,segs5,r5,.inl (by lia)⟩)
  ·rintro c st2 ⟨rfl,segs',r2,alt⟩;refine⟨rfl,segs',r2,?_⟩;rw [Nat.max_eq_right (aeM _)] at alt;lia
  ·rintro c st2 ⟨rfl,segs',r2,l2⟩;refine aeI (h st2 r2.perm r2.failed ?_);rw [r2.arr,ae6]
   match segs',l2,r2 with
   | [],_,_=>exact List.Pairwise.nil
   | [g],_,r2=>rw [agn];exact (r2.sl g aev).1
end
theorem SL.toK {κ:KeyKind}{xs:Array Keyed}(h:SL κ xs.toList)(n:Nat)(hn:n<=xs.size):SortedToK κ xs n:=fun i j hij hj=>by
 obtain⟨p,hp,_⟩:=dD (x:=xs) (i:=i) (by lia);obtain⟨q,hq,_⟩:=dD (x:=xs) (i:=j) (by lia);rw [lu hp,lu hq];exact h.at hij (by rw [ae8];exact hp) (by rw [ae8];exact hq)
section
variable {prog:Program}{w:World}{A:Around}{E:Value->Shared->Prop}{s:Shared}
theorem yV {a:Addr}{vs:List Value}{ss:List Str}{n:Nat}{R:Fin->Shared->Prop}(ho:s.heap.get? a=some (seqObj "list" vs.toArray n))(hS:StrsAre vs ss)(h2:2<=vs.length)(hz:vs.length<=sizeLine)
 (h:∀ (out:Array Value) (ss':List Str),StrsAre out.toList ss'->ss'.Perm ss->sortedS ss'=true->R (.done (.ret .none)) { s with heap:=sortedHeap s.heap a vs out }) :
 wpAny (model prog w) A (Builtin.«list.sort» ⟨[.ref a],[]⟩) R E s:=by
 have la:a < s.heap.objs.size:=aes ho;have sv:vs.toArray.size=vs.length:=aeH ..;obtain⟨e1,he1⟩:∃ e,(s.heap.update a (Obj.mapSeq fun _=>#[])).get? a=some (seqObj "list" #[] e):=⟨_,get?_update_seq ho (fun _=>#[])⟩;have he2:(((s.heap.update a (Obj.mapSeq fun _=>#[])).push (seqObj "tuple" vs.toArray 0)).push (seqObj "list" #[] 0)).get? a=some (seqObj "list" #[] e1):=by
  rw [agE _ _ _ (by rw [aiq,agq];exact aeA (aeB la (afh _))),agE _ _ _ (by rw [agq];exact aeA la)];exact he1
 obtain⟨v1,v2,vr,rfl⟩:∃ x y r,vs=x::y::r:=by
  rcases vs with _ | ⟨x,_ | ⟨y,r⟩⟩
  ·simp at h2
  ·simp at h2
  ·exact⟨x,y,r,rfl⟩
 rw [list_sort_plain];refine aei (listItems_at ho rfl (aei (ahp ho rfl ?_ (by rw [sv];exact hz) (aeM _))));refine aei (ahW he1 rfl (aei (wpAny_newTuple (aei (ag6 (afd ?_))))));have nb:¬ (v1::v2::vr).toArray.size < 2:=by rw [sv];lia
 have go:wpAny (model prog w) A (sortRuns'.run (SortSt.mk' oneType' ((v1::v2::vr).toArray.zip (v1::v2::vr).toArray) #[] 7 none))
  (fun r s'=>s'={ s with heap:=((s.heap.update a (Obj.mapSeq fun _=>#[])).push (seqObj "tuple" (v1::v2::vr).toArray 0)).push (seqObj "list" #[] 0) }/\(arrOf r.2).Perm (pairsOf (v1::v2::vr))/\failedOf r.2=none/\SL strKind (arrOf r.2).toList) E
  { s with heap:=((s.heap.update a (Obj.mapSeq fun _=>#[])).push (seqObj "tuple" (v1::v2::vr).toArray 0)).push (seqObj "list" #[] 0) } :=
  tI (κ:=strKind) (.of strKind_oneLt) (a₀:=pairsOf (v1::v2::vr)) (Q:=fun _ st'=>(arrOf st').Perm (pairsOf (v1::v2::vr))/\failedOf st'=none/\SL strKind (arrOf st').toList) (fun p hp=>hS.keysOf p hp) rfl rfl (Array.Perm.refl _) rfl fun st' b1 b2 b3=>⟨b1,b2,b3⟩
 rw [if_neg nb,keyKind_strs hS];refine aei (aen ?_);rw [if_neg nb];refine aei (aeV go ?_ fun _ _ e=>e);rintro⟨⟨⟩,st'⟩ s' ⟨rfl,b1,b2,b3⟩;have sz:(arrOf st').size=(v1::v2::vr).length:=b1.size_eq.trans (pairsOf_size _);obtain⟨ss',d1,d2,d3⟩:=sorted_out_str hS b1 (b3.toK _ (aiN b1.size_eq.symm));refine aei (ahW he2 rfl (aei (ahp he2 rfl ?_ (aeM _) (by rw [Array.size_map,sz];lia))));dsimp only;rw [b2];simp only [agf,ae4,agJ];exact aen (h _ ss' d1 d2 d3)
theorem sorted_any {l:Addr}{vs:List Value}{ss:List Str}{Q:Value->Shared->Prop}(hl:s.heap.IsList l vs.toArray)(hS:StrsAre vs ss)(hz:vs.length<=sizeLine)
 (h:∀ (out:Array Value) (ss':List Str),StrsAre out.toList ss'->ss'.Perm ss->sortedS ss'=true->Q (.ref (s.heap.objs.size+1)) { s with heap:=sortedAll s.heap vs out }) :
 wpAny (model prog w) A (call (.builtin "sorted") [.ref l]) Q E s:=by
 by_cases h64:vs.length < 64
 ·exact sorted_strs hl hS h64 h
 refine agu kind_sorted plain_sorted entry_sorted (args_sorted1 _) ?_;have s1:((s.heap.push (seqObj "list" #[] 0)).update s.heap.objs.size (Obj.mapSeq (·++vs.toArray))).objs.size=s.heap.objs.size+1:=by
  rw [agq,aiq]
 have g1:(((s.heap.push (seqObj "list" #[] 0)).update s.heap.objs.size (Obj.mapSeq (·++vs.toArray))).push (seqObj "list" vs.toArray 0)).get? (s.heap.objs.size+1)=some (seqObj "list" vs.toArray 0):=by
  rw [← s1];exact aeF _ rfl
 unfold Builtin.«sorted»;refine aei (m:=checkCount "sorted" 1 1 _) (aen (aei (collect_list hl (aei (ag6 ?_)) hz)));show wpAny _ _ _ _ _ { s with heap:=((s.heap.push (seqObj "list" #[] 0)).update s.heap.objs.size (Obj.mapSeq (·++vs.toArray))).push (seqObj "list" vs.toArray 0) };rw [s1];exact aei (afd (afU aie ⟨_,g1,rfl⟩ ahS (yV g1 hS (by lia) hz fun out ss' b1 b2 b3=>⟨_,rfl,aen ⟨_,rfl,h out ss' b1 b2 b3⟩⟩) (aif _)))
end
end TS
namespace L2
open PySem PySem.Spec PyProof.Rows
section
variable {X:Cx}
theorem kF:gI X (.builtin "sorted") (fun xs H Q=>∃ (p:Addr) (ss:List Str),xs=[.ref p]/\SqL X.K H p (ss.map V.str)/\ss.length<=sizeLine/\∀ (l:Addr) (ss':List Str),H l=none->ss'.Perm ss->sortedS ss'=true->Q (.ref l) (upd H l (.lst (ss'.map V.str)))):=by
 intro pins s σ H xs us Q I r h;obtain⟨p,ss,rfl,hq,hl,q⟩:=h;obtain⟨u,rfl,rx⟩:=iE r;cases rx;obtain⟨its,rv,pl,hz⟩:=I.list hq;have hlen:=rv.length;rw [aej] at hlen;refine TS.sorted_any pl.isList (eO rv) (by lia) fun out ss' a1 a2 a3=>?_;obtain⟨e,he⟩:=sortedAll_at s.heap its out;have hlen':ss'.length=ss.length:=a2.length_eq;refine⟨.ref (s.heap.objs.size+1),_,I.laid (t':=s.toks) (o:=.lst (ss'.map V.str)) (fun b o e=>sortedAll_old e) (afh _) ⟨?_,out.toList,e,iG a1,?_⟩,rfl,q _ ss' (I.hok.fresh (afh _)) a2 a3⟩
 ·rw [aej,hlen'];exact hl
 ·simpa using he
end
end L2
namespace L2
open PySem PySem.Spec PySem.Calls PyProof.Rows PySem.W
section
variable {prog:Program}{w:World}{A:Around}{E:Value->Shared->Prop}{s:Shared}{it d:Addr}{i ep:Nat}{es:Array DictEntry}
end
section
variable {prog:Program}{w:World}
end
section
variable {prog:Program}{w:World}{A:Around}{E:Value->Shared->Prop}
end
section
variable {prog:Program}{w:World}{A:Around}{E:Value->Shared->Prop}{s:Shared}
end
section
variable {X:Cx}{e:Expr}{te:TE}{p pos lp cp kp1 kp2:Pos}{j:Option Str}
end
section
variable {X:Cx}{k v:Expr}{tk tv:TE}{pos:Pos}
end
section
variable {prog:Program}{w:World}{A:Around}{E:Value->Shared->Prop}{s:Shared}
end
section
variable {X:Cx}{K:PySem.W.Frag}
end
end L2
namespace L2
open PySem PySem.Spec PyProof.Rows
def acS (tk tv:TE):TE:=fun σ H Q=>∀ p,H p=none->tk σ (upd H p (.dK [])) fun x H1=>tv σ H1 fun y H2=>∃ k:Key,x=kV k/\H2 p=some (.dK [])/\Q (.ref p) (upd H2 p (.dK [(k,y)]))
section
variable {X:Cx}{k v:Expr}{tk tv:TE}{pos:Pos}
theorem zF (hk:PE X k tk)(hv:PE X v tv):PE X (.Dict [some k] [v] pos) (acS tk tv):=by
 intro pins s σ H Q I h;have hn:=I.hok.fresh (aep s.heap.objs.size);have I1:=I.laid (a:=s.heap.objs.size) (o:=.dK []) (h':=s.heap.push { cls:=.type "dict",data:=.dict #[] }) (t':=s.toks) (fun _ _ q=>ael _ q) (aep _) (o6 s.heap I.big);rw [arm_eval_Dict,zip_pairTrees [some k] [v] X.env pos rfl rfl,dictDisplay_pairs _ (by intro z;have:=aiF [some k] [v] X.env pos rfl rfl;rw [z] at this;cases this) (by rw [aiF [some k] [v] X.env pos rfl rfl];show 1 < 17;decide)];refine aei (afz (aei ?_));unfold subDict;refine aei (aju (aei (afd ?_)));rw [if_pos (by rw [aiF [some k] [v] X.env pos rfl rfl];show 1<=15;decide)];refine aei (thn ((yB hk hv (aaX (X:=X))) pins _ σ _ (fun ps H2=>match ps with | [(x,y)]=>∃ k:Key,x=kV k/\H2 s.heap.objs.size=some (.dK [])/\Q (.ref s.heap.objs.size) (upd H2 s.heap.objs.size (.dK [(k,y)])) | _=>False) I1 (h _ hn)) fun ws s2 ⟨ps,H2,I2,rel,hq⟩=>?_);rcases rel with _ | ⟨⟨r1,r2⟩,_ | _⟩
 ·exact hq.elim
 rotate_left
 ·exact hq.elim
 rename_i pv pr _;obtain⟨x,y⟩:=pv;obtain⟨u1,u2⟩:=pr;obtain⟨ke,ex,e,q⟩:=hq;cases (show x=kV ke from ex);refine afd (aei ?_);rw [ahQ];obtain⟨z,hd,xs,rl,dd⟩:=vz I2.hok e;refine aei (aei (wpAny_dictSet_pairs (uY r1) dd (hsz:=by rw [← rl.length];exact z) fun h' dd' hs=>?_));refine aen ?_;dsimp only;rw [List.forIn_nil];have heo:∃ q,h'.get? s.heap.objs.size=some q:=let ⟨q,_,_,hq,_⟩:=dd';⟨q,hq⟩;refine aen (aen (aen (aen ⟨.ref s.heap.objs.size,_,?_,rfl,q⟩)));exact lO I2 (by rw [e];exact True.intro) hs heo (xt (by show 1<=sizeLine;decide) hd (rl.put ke r2) dd')
end
section
variable {prog:Program}{w:World}{A:Around}{R:Result->Shared->Prop}{s:Shared}
end
section
variable {X:Cx}
end
section
variable {prog:Program}{w:World}{A:Around}{E:Value->Shared->Prop}{R:Result->Shared->Prop}{s:Shared}
theorem rO {ex target iter ifs rest scope pos it acc env}
 (h0:codeAny (model prog w) A (.compLoop (.SetComp ex (⟨target,iter,ifs,0⟩::rest) scope pos) 0 it acc env) R s)
 (h:wpAny (model prog w) A (pyIter it) (fun it' s'=>codeAny (model prog w) A (.compLoop (.SetComp ex (⟨target,iter,ifs,0⟩::rest) scope pos) 0 it' acc env) R s')
  (notedBy (model prog w) A env fun x s'=>R (.error x) s') s) :
 codeAny (model prog w) A (.compStart (.SetComp ex (⟨target,iter,ifs,0⟩::rest) scope pos) 0 it acc env) R s:=by
 refine ahT ?_;show wpAny _ A ((compStart (.SetComp ex (⟨target,iter,ifs,0⟩::rest) scope pos) 0 it acc env).onRaise (fun x=>do noteFrame x env;standAt theWindowsPlace)) _ _ s;refine wpAny_notedAt ?_;unfold compStart;show wpAny _ A (ask >>= _) _ _ s;refine aei (agR (wpAny_ite ?_));split
 ·first
   | exact aei (aen (aen (And.intro rfl h0)))
   | exact aen (And.intro rfl h0)
 ·first
   | exact aei (afY (aei (afz (aei (aeV h (fun it' s' h'=>aen (And.intro rfl h')) fun _ _ x=>x)))))
   | (refine aei (afY ?_);show wpAny _ _ (standAt iter.pos >>= _) _ _ s;exact aei (afz (aei (aeV h (fun it' s' h'=>aen (And.intro rfl h')) fun _ _ x=>x))))
theorem abz {Q:Value->Shared->Prop}(h:Q (.ref s.heap.objs.size) { s with heap:=s.heap.push { cls:=.type "set",dict:=none,data:=.set #[] 0 (.fresh 0 0 (!w.params.followText "set-order")) } }) :
 wpAny (model prog w) A (newSet (.type "set")) Q E s:=by
 unfold newSet setsByText;refine aei (aei (agR (aen ?_)));dsimp only;simp only [newObj];exact aei (aju (aen h))
end
section
variable {X:Cx}
end
section
variable {P:Program}{w:World}{nl:Nat}{ix:List Nat}{g:TG}{tf:TT}{tk:TE}{σ:St}{H1:Hp}{D:Addr}{Q:VK}(Pv:Nat->List Str->Hp->Prop)
end
section
variable {X:Cx}{P:Program}{w:World}{outer scope:Scope}{N N':List Str}{nl:Nat}{ix:List Nat}{tg iter:Expr}{ifs:List Expr}{pos:Pos}{wi:TI}{g:TG}{tf:TT}
end
abbrev sc2 (ex t1 i1 t2 i2:Expr)(scope:Scope)(pos:Pos):Expr:=.SetComp ex [⟨t1,i1,[],0⟩,⟨t2,i2,[],0⟩] scope pos
theorem nB (kx t1 i1 t2 i2:Expr)(scope:Scope)(pos:Pos)(it:Value)(D:Addr)(env:Env) :
 compTurn (sc2 kx t1 i1 t2 i2 scope pos) 0 it (.ref D) env=(do
  standAt i1.pos
  match ← pyNext it with
  | none=>pure (.done .next)
  | some v =>
   letOwnedTupleGo t1 it v
   assign t1 env v
   let mut ok:=true
   for c in ([]:List Expr) do
    if ok then ok ← isTrue c env (eval c env)
   if ok then
    let x ← eval i2 env
    standAt i2.pos
    let x ← foldedSetIterable i2 env x
    let _ ← runOwn (.compStart (sc2 kx t1 i1 t2 i2 scope pos) 1 (← holding [x] (pyIter x)) (.ref D) env) env
   again (.compLoop (sc2 kx t1 i1 t2 i2 scope pos) 0 it (.ref D) env)):=by rfl
theorem nu (kx t1 i1 t2 i2:Expr)(scope:Scope)(pos:Pos)(it:Value)(D:Addr)(env:Env) :
 compTurn (sc2 kx t1 i1 t2 i2 scope pos) 1 it (.ref D) env=(do
  standAt i2.pos
  match ← pyNext it with
  | none=>pure (.done .next)
  | some v =>
   letOwnedTupleGo t2 it v
   assign t2 env v
   let mut ok:=true
   for c in ([]:List Expr) do
    if ok then ok ← isTrue c env (eval c env)
   if ok then
    (do
     let v ← eval kx env
     standAt kx.pos
     let _ ← call (.builtin "set.add") [.ref D,v])
   again (.compLoop (sc2 kx t1 i1 t2 i2 scope pos) 1 it (.ref D) env)):=by rfl
section
variable {prog:Program}{w:World}{A:Around}{R:Result->Shared->Prop}{s:Shared}
theorem qk {kx t1 i1 t2 i2:Expr}{scope:Scope}{pos:Pos}{it:Value}{D:Addr}{env:Env}(hs2:∀ x,foldedSetIterable i2 env x=pure x)(I:Nat->Shared->Prop)
 (turn:∀ n s,I n s->wpAny (model prog w) A (pyNext it) (fun r s₁=>match r with
  | none=>R (.ok .next) s₁
  | some v=>wpAny (model prog w) A (letOwnedTupleGo t1 it v) (fun _ s₁'=>wpAny (model prog w) A (assign t1 env v) (fun _ s₂ =>
   wpAny (model prog w) A (eval i2 env) (fun x s₃=>wpAny (model prog w) A (pyIter x) (fun it2 s₄ =>
    codeAny (model prog w) A (.compStart (sc2 kx t1 i1 t2 i2 scope pos) 1 it2 (.ref D) env) (fun r s₅=>match r with | .ok _=>∃ m,m < n/\I m s₅ | .error _=>False) s₄) (fun _ _=>False) s₃) (fun _ _=>False) s₂) (fun _ _=>False) s₁') (fun _ _=>False) s₁) (fun _ _=>False) s)
 (n:Nat)(h:I n s) :
 codeAny (model prog w) A (.compLoop (sc2 kx t1 i1 t2 i2 scope pos) 0 it (.ref D) env) R s:=by
 have no:∀ {E:Value->Shared->Prop} (x:Value) (s:Shared),False->E x s:=fun _ _ z=>z.elim;refine aiR rfl I (fun n s hI=>?_) n h;show wpAny _ A ((compTurn (sc2 kx t1 i1 t2 i2 scope pos) 0 it (.ref D) env).onRaise (fun x=>do noteFrame x env;theTreesLotGoes x)) _ _ s;refine ajq ?_;rw [nB];refine aei (afz (aei (aeV (turn n s hI) (fun r s₁ h₁=>?_) no)));cases r with
 | none=>exact aen h₁
 | some v =>
  refine aei (aeV h₁ (fun _ s₁' h₁'=>aei (aeV h₁' (fun _ s₂ h₂=>aei (aiQ ?_)) no)) no);refine aei (aeV h₂ (fun x s₃ h₃=>aei (afz (aei (wpAny_of_eq (hs2 x) (aei (afd (aeV h₃ (fun it2 s₄ h₄=>?_) no))))))) no);refine aei (wpAny_runOwn (agr h₄ fun r s₅ h₅=>?_));cases r with
  | ok f=>exact aen ⟨rfl,h₅⟩
  | error e=>exact h₅.elim
theorem pZ {kx t1 i1 t2 i2:Expr}{scope:Scope}{pos:Pos}{it:Value}{D:Addr}{env:Env}(I:Nat->Shared->Prop)
 (turn:∀ n s,I n s->wpAny (model prog w) A (pyNext it) (fun r s₁=>match r with
  | none=>R (.ok .next) s₁
  | some v=>wpAny (model prog w) A (letOwnedTupleGo t2 it v) (fun _ s₁'=>wpAny (model prog w) A (assign t2 env v) (fun _ s₃ =>
   wpAny (model prog w) A (eval kx env) (fun kv s₄ =>
    wpAny (model prog w) A (call (.builtin "set.add") [.ref D,kv]) (fun _ s₆=>∃ m,m < n/\I m s₆) (fun _ _=>False) s₄) (fun _ _=>False) s₃) (fun _ _=>False) s₁') (fun _ _=>False) s₁) (fun _ _=>False) s)
 (n:Nat)(h:I n s) :
 codeAny (model prog w) A (.compLoop (sc2 kx t1 i1 t2 i2 scope pos) 1 it (.ref D) env) R s:=by
 have no:∀ {E:Value->Shared->Prop} (x:Value) (s:Shared),False->E x s:=fun _ _ z=>z.elim;refine aiR rfl I (fun n s hI=>?_) n h;show wpAny _ A ((compTurn (sc2 kx t1 i1 t2 i2 scope pos) 1 it (.ref D) env).onRaise (fun x=>do noteFrame x env;theTreesLotGoes x)) _ _ s;refine ajq ?_;rw [nu];refine aei (afz (aei (aeV (turn n s hI) (fun r s₁ h₁=>?_) no)));cases r with
 | none=>exact aen h₁
 | some v =>
  refine aei (aeV h₁ (fun _ s₁' h₁'=>aei (aeV h₁' (fun _ s₃ h₃=>aei (aiQ ?_)) no)) no);exact aei (aei (aeV h₃ (fun kv s₄ h₄=>aei (afz (aei (aeV h₄ (fun _ s₆ h₆=>aen (aen ⟨rfl,h₆⟩)) no)))) no))
theorem ph {kx t1 i1 t2 i2:Expr}{scope:Scope}{pos:Pos}{it acc:Value}{env:Env}
 (h0:codeAny (model prog w) A (.compLoop (sc2 kx t1 i1 t2 i2 scope pos) 1 it acc env) R s)
 (h:wpAny (model prog w) A (pyIter it) (fun it' s'=>codeAny (model prog w) A (.compLoop (sc2 kx t1 i1 t2 i2 scope pos) 1 it' acc env) R s')
  (notedBy (model prog w) A env fun x s'=>R (.error x) s') s) :
 codeAny (model prog w) A (.compStart (sc2 kx t1 i1 t2 i2 scope pos) 1 it acc env) R s:=by
 refine ahT ?_;show wpAny _ A ((compStart (sc2 kx t1 i1 t2 i2 scope pos) 1 it acc env).onRaise (fun x=>do noteFrame x env;standAt theWindowsPlace)) _ _ s;refine wpAny_notedAt ?_;unfold compStart;show wpAny _ A (ask >>= _) _ _ s;refine aei (agR (wpAny_ite ?_));split
 ·first
   | exact aei (aen (aen (And.intro rfl h0)))
   | exact aen (And.intro rfl h0)
 ·first
   | exact aei (afY (aei (afz (aei (aeV h (fun it' s' h'=>aen (And.intro rfl h')) fun _ _ x=>x)))))
   | (refine aei (afY ?_);show wpAny _ _ (standAt i2.pos >>= _) _ _ s;exact aei (afz (aei (aeV h (fun it' s' h'=>aen (And.intro rfl h')) fun _ _ x=>x))))
end
def sP (P:Program)(w:World)(nl:Nat)(ix:List Nat)(wi:TI)(g:TG)(wi2:TI)(g2:TG)(tk:TE):TE:=fun σ H Q=>wi σ H fun J H1=>∀ D,H1 D=none->∃ W:Nat->Nat->List Str->Hp->Prop,(∃ m,W 0 m [] (upd H1 D (kr P w D []))) ∧
 ∀ i m ys H2,W i m ys H2->H2 D=some (kr P w D ys)/\((J.stop i H2/\Q (.ref D) H2)\/(J.go i H2/\∀ x H3,J.yld i H2 x H3->g x (cP nl ix σ) H3 fun σ4 H4=>(σ4.length=(cP nl ix σ).length/\σ4.drop nl=ix.map fun j=>(σ[j]?).join) ∧
  wi2 σ4 H4 fun J2 H5=>∃ W2:Nat->Nat->List Str->Hp->Prop,(∃ m2,W2 0 m2 ys H5) ∧
   ∀ i2 m2 ys2 H6,W2 i2 m2 ys2 H6->H6 D=some (kr P w D ys2)/\((J2.stop i2 H6/\∃ m',m' < m/\W (i+1) m' ys2 H6)\/(J2.go i2 H6/\∀ x2 H7,J2.yld i2 H6 x2 H7->g2 x2 σ4 H7 fun σ8 H8=>(σ8.length=σ4.length/\∀ (j:Nat) (v:V),σ4[j]? = some (some v)->σ8[j]? = some (some v)) ∧
    tk σ8 H8 fun z H9=>∃ k:Str,z=.str k/\H9 D=some (kr P w D ys2)/\ys2.length+1 < scanBound/\∀ ys',((k∈ys2/\ys'=ys2)\/(k ∉ ys2/\ys'.Perm (ys2++[k])))->ys'.Nodup->∃ m',m' < m2/\W2 (i2+1) m' ys' (upd H9 D (kr P w D ys'))))))
section
variable {X:Cx}
theorem wu {P:Program}{w:World}{kx tg iter tg2 iter2:Expr}{scope:Scope}{pos:Pos}{N':List Str}{nl:Nat}{ix:List Nat}{wi wi2:TI}{g g2:TG}{tk:TE}(hP:X.prog=P)(hw:X.w=w)(hc:X.calm=true)(S:CompScope X scope)(Cp:zp X scope N' nl ix)(hi:PI X tg iter wi)
 (hg:∀ C fp s₀ H₀,PG (X.comp scope N' C fp s₀ H₀) tg g)(hi2:∀ C fp s₀ H₀,PI (X.comp scope N' C fp s₀ H₀) tg2 iter2 wi2)(hg2:∀ C fp s₀ H₀,PG (X.comp scope N' C fp s₀ H₀) tg2 g2)
 (hk:∀ C fp s₀ H₀,PE (X.comp scope N' C fp s₀ H₀) kx tk)
 (hs:∀ x,foldedSetIterable iter X.env x=pure x:=by intro _;rfl)(hs2:∀ C fp s₀ H₀ x,foldedSetIterable iter2 (X.comp scope N' C fp s₀ H₀).env x=pure x:=by intro _ _ _ _ _;rfl):PE X (sc2 kx tg iter tg2 iter2 scope pos) (sP P w nl ix wi g wi2 g2 tk):=by
 subst hP hw;intro pins s σ H Q I h;rw [arm_eval_SetComp];refine af5 (use:=none) (cl:=jr X.env scope.names []) rfl hs (gi (S.cells I.ok)) S.kind S.loc ?_;refine thn (hi pins s σ H _ I h) fun v s1 h1=>thn h1 fun itv s2 h2=>?_;obtain⟨it,fp,tn,J,H2,rfl,I2,T,st2,f2,h2⟩:=h2;obtain⟨W,⟨m0,w0⟩,turn⟩:=h2 s2.heap.objs.size I2.fresh;refine abz (ahb S.nocell (by intro y hy;simp at hy) (fun h₁ hns₁ hsb₁=>?_) S.kind);dsimp only at hns₁ hsb₁ ⊢;have fpo:∀ b∈fp,b < s2.heap.objs.size:=fun b hb=>by
  obtain⟨o,e,_⟩:=T.obj 0 _ st2 b hb;exact aes e
 have I3:Inv X pins σ (upd H2 s2.heap.objs.size (kr X.prog X.w s2.heap.objs.size [])) { s2 with heap:=s2.heap.push { cls:=.type "set",dict:=none,data:=.set #[] 0 (.fresh 0 0 (!X.w.params.followText "set-order")) },toks:=s2.toks }:=I2.laid (a:=s2.heap.objs.size) (o:=kr X.prog X.w s2.heap.objs.size []) (t':=s2.toks) (fun _ _ q=>ael _ q) (aep _) (wB (uD X.prog X.w s2.heap));have hD:(upd H2 s2.heap.objs.size (kr X.prog X.w s2.heap.objs.size [])) s2.heap.objs.size=some (kr X.prog X.w s2.heap.objs.size []):=af;have f3:∀ b∈fp,jV X pins (upd H2 s2.heap.objs.size (kr X.prog X.w s2.heap.objs.size [])) b:=fun b hb=>by
  refine⟨?_,(f2 b hb).2⟩;rw [ak (aeA (fpo b hb))];exact (f2 b hb).1
 generalize hS3:s2.heap.push { cls:=.type "set",dict:=none,data:=.set #[] 0 (.fresh 0 0 (!X.w.params.followText "set-order")) }=g3 at hns₁ hsb₁ I3 ⊢;have sz3:g3.objs.size=s2.heap.objs.size+1:=by rw [← hS3,afe]
 have fpo3:∀ b∈fp,b < ({ s2 with heap:=g3,toks:=s2.toks }:Shared).heap.objs.size:=fun b hb=>by
  show b < g3.objs.size;rw [sz3];exact aff (fpo b hb)
 have old:∀ b o,g3.get? b=some o->h₁.get? b=some o:=fun b o e=>hsb₁.extBut b o (aeA (aes e)) (ael _ e);have I4:=kW (tk:=s2.toks+([]:List (Str×Value)).length) S Cp I3 f3 fpo3 hns₁ old;generalize hX:X.comp scope N' g3.objs.size fp { s2 with heap:=g3,toks:=s2.toks } (upd H2 s2.heap.objs.size (kr X.prog X.w s2.heap.objs.size []))=X' at *;have hPr:X'.prog=X.prog:=by rw [← hX];rfl
 have hWr:X'.w=X.w:=by rw [← hX];rfl
 have hKr:X'.K=X.K:=by rw [← hX];rfl
 have hAr:X'.A=X.A:=by rw [← hX];rfl
 have hCa:X'.calm=true:=by rw [← hX];exact hc
 have hXe:X'.xe=fun _ _=>False:=by rw [← hX];rfl
 have hEx:X'.ex=fp:=by rw [← hX];rfl
 have hPn:X'.pn=[]:=by rw [← hX];rfl
 have hLo:X'.env.locals=g3.objs.size:=by rw [← hX];rfl
 have hEn:X'.env=compEnvC scope (jr X.env scope.names []) g3.objs.size X.env:=by rw [← hX];rfl
 have hg':=hg g3.objs.size fp { s2 with heap:=g3,toks:=s2.toks } (upd H2 s2.heap.objs.size (kr X.prog X.w s2.heap.objs.size []));have hi2':=hi2 g3.objs.size fp { s2 with heap:=g3,toks:=s2.toks } (upd H2 s2.heap.objs.size (kr X.prog X.w s2.heap.objs.size []));have hg2':=hg2 g3.objs.size fp { s2 with heap:=g3,toks:=s2.toks } (upd H2 s2.heap.objs.size (kr X.prog X.w s2.heap.objs.size []));have hk':=hk g3.objs.size fp { s2 with heap:=g3,toks:=s2.toks } (upd H2 s2.heap.objs.size (kr X.prog X.w s2.heap.objs.size []));have hs2':=hs2 g3.objs.size fp { s2 with heap:=g3,toks:=s2.toks } (upd H2 s2.heap.objs.size (kr X.prog X.w s2.heap.objs.size []));rw [hX] at hg' hi2' hg2' hk' hs2';have I4':Inv X' [] (cP nl ix σ) (upd H2 s2.heap.objs.size (kr X.prog X.w s2.heap.objs.size [])) { s2 with heap:=h₁,toks:=s2.toks+([]:List (Str×Value)).length }:=I4;have back:∀ {H':Hp} {σ':St} {pins':List (Addr×Obj)} {s':Shared} {h':Heap},Inv X' pins' σ' H' s'->Heap.SameBut g3.objs.size s'.heap h'->Inv X pins σ H' { s' with heap:=h' }:=fun I' sb=>by
  subst hX;exact jM I3 f3 I' sb
 have stat:∀ {H':Hp},(∀ b∈fp,H' b=none)->∀ b∈fp,jV X' [] H' b:=fun hn b hb=>by
  refine⟨hn b hb,?_,?_,.inl (by rw [hEx];exact hb),?_,fun p hp=>by rw [hPn] at hp;cases hp⟩
  ·rw [hLo];exact aeA (fpo3 b hb)
  ·exact I4'.ok.exfs b (by rw [hEx];exact hb)
  ·exact (I4'.ok.exf b (by rw [hEx];exact hb)).2
 have loop:codeAny (model X.prog X.w) X.A (.compLoop (sc2 kx tg iter tg2 iter2 scope pos) 0 (.ref it) (.ref s2.heap.objs.size) X'.env)
  (compPost (model X.prog X.w) X.A X.xe none (EP X pins σ Q) (.ref s2.heap.objs.size) g3.objs.size) { s2 with heap:=h₁,toks:=s2.toks+([]:List (Str×Value)).length }:=by
  rw [← hPr,← hWr,← hAr];refine qk hs2' (fun n s'=>∃ i ys H',Inv X' [] (cP nl ix σ) H' s'/\tn i s'.heap/\(∀ b∈fp,H' b=none)/\W i n ys H') ?_ m0
   ⟨0,[],_,I4',T.keep _ _ _ st2 (fun b hb o e=>old b o (by rw [← hS3];exact ael _ e)),fun b hb=>(f3 b hb).1,w0⟩
  rintro n s5 ⟨i,ys,H5,I5,st5,fr5,w5⟩;obtain⟨hD5,alt⟩:=turn i n ys H5 w5;rcases alt with ⟨stop,qn⟩ | ⟨go,step⟩
  ·rw [hPr,hWr];refine thn (T.done X' hPr hWr hKr hCa i [] s5 _ H5 _ I5 (stat fr5) st5 stop) fun r s6 ⟨hr,I6⟩=>?_;subst hr;obtain⟨m,hn,_⟩:=I6.loc;rw [hLo] at hn;exact⟨m,hn,fun h' sb=>⟨.ref s2.heap.objs.size,H5,back I6 sb,rfl,qn⟩⟩
  ·have it5:=T.item X' hPr hWr hKr hCa i [] s5 _ H5 (fun _ _=>False) I5 (stat fr5) st5 go;rw [← hPr,← hWr] at it5;refine thn it5 fun r s6 ⟨u,hr,h6⟩=>?_;subst hr;refine thn h6 fun _ s7 ⟨x,H7,I7,r7,y7,st7,fr7⟩=>?_;have I7':=I7.pinned (stat fr7) (T.obj _ _ st7);have g7:=hg' _ s7 _ H7 x u _ I7' r7 (step x H7 y7);rw [hXe] at g7;refine thn g7 fun _ s8 ⟨σ8,H8,I8,⟨hl8,hd8⟩,q8⟩=>?_;have again:∀ {H10:Hp} {s10:Shared} {ys':List Str},Inv X' ([]++fJ fp s7.heap) σ8 H10 s10->(∃ m',m' < n/\W (i+1) m' ys' H10)->∃ m,m < n/\∃ i ys H',Inv X' [] (cP nl ix σ) H' s10/\tn i s10.heap/\(∀ b∈fp,H' b=none)/\W i m ys H':=fun {H10 s10 ys'} I10 ⟨m',hm,w'⟩=>by
    refine⟨m',hm,i+1,ys',H10,iC I10.unpinned hl8 hd8,T.keep _ _ _ st7 fun b hb o e=>(I10.pin (b,o) (aex _ (aex _ (aW hb e)))).1,fun b hb=>?_,w'⟩;obtain⟨o,e,d⟩:=T.obj _ _ st7 b hb;exact (I10.pin (b,o) (aex _ (aex _ (aW hb e)))).2.1
   have p8:=hi2' _ s8 σ8 H8 _ I8 q8;rw [hXe] at p8;refine thn p8 fun v2 s9 p9=>thn p9 fun itv2 s10 p10=>?_;obtain⟨it2,fp2,tn2,J2,H10,rfl,I10,T2,st10,f10,W2,⟨m2,w2⟩,turn2⟩:=p10;have stat2:∀ {H':Hp},(∀ b∈fp2,H' b=none)->∀ b∈fp2,jV X' ([]++fJ fp s7.heap) H' b:=fun hn b hb=>⟨hn b hb,(f10 b hb).2⟩;have loop2:codeAny (model X'.prog X'.w) X'.A (.compLoop (sc2 kx tg iter tg2 iter2 scope pos) 1 (.ref it2) (.ref s2.heap.objs.size) X'.env)
    (fun r s₅=>match r with | .ok _=>∃ m,m < n/\∃ i ys H',Inv X' [] (cP nl ix σ) H' s₅/\tn i s₅.heap/\(∀ b∈fp,H' b=none)/\W i m ys H' | .error _=>False) s10:=by
    refine pZ (fun n2 s'=>∃ i2 ys2 H',Inv X' ([]++fJ fp s7.heap) σ8 H' s'/\tn2 i2 s'.heap/\(∀ b∈fp2,H' b=none)/\W2 i2 n2 ys2 H') ?_ m2 ⟨0,ys,H10,I10,st10,fun b hb=>(f10 b hb).1,w2⟩;rintro n2 s11 ⟨i2,ys2,H11,I11,st11,fr11,w11⟩;obtain⟨hD11,alt2⟩:=turn2 i2 n2 ys2 H11 w11;rcases alt2 with ⟨stop2,qn2⟩ | ⟨go2,step2⟩
    ·refine thn (T2.done X' rfl rfl rfl hCa i2 _ s11 _ H11 _ I11 (stat2 fr11) st11 stop2) fun r s12 ⟨hr,I12⟩=>?_;subst hr;exact again I12 qn2
    ·have it11:=T2.item X' rfl rfl rfl hCa i2 _ s11 _ H11 (fun _ _=>False) I11 (stat2 fr11) st11 go2;refine thn it11 fun r s12 ⟨u2,hr,h12⟩=>?_;subst hr;refine thn h12 fun _ s13 ⟨x2,H13,I13,r13,y13,st13,fr13⟩=>?_;have I13':=I13.pinned (stat2 fr13) (T2.obj _ _ st13);have g13:=hg2' _ s13 _ H13 x2 u2 _ I13' r13 (step2 x2 H13 y13);rw [hXe] at g13;refine thn g13 fun _ s14 ⟨σ14,H14,I14,⟨hl14,hd14⟩,q14⟩=>?_;have again2:∀ {H17:Hp} {s17:Shared} {ys':List Str},Inv X' ([]++fJ fp s7.heap++fJ fp2 s13.heap) σ14 H17 s17->(∃ m',m' < n2/\W2 (i2+1) m' ys' H17)->∃ m,m < n2/\∃ i2 ys2 H',Inv X' ([]++fJ fp s7.heap) σ8 H' s17/\tn2 i2 s17.heap/\(∀ b∈fp2,H' b=none)/\W2 i2 m ys2 H':=fun {H17 s17 ys'} I17 ⟨m',hm,w'⟩=>by
      refine⟨m',hm,i2+1,ys',H17,(I17.unpinned).weak hl14.symm (fun j v e=>hd14 j v e),T2.keep _ _ _ st13 fun b hb o e=>(I17.pin (b,o) (aex _ (aex _ (aW hb e)))).1,fun b hb=>?_,w'⟩;obtain⟨o,e,d⟩:=T2.obj _ _ st13 b hb;exact (I17.pin (b,o) (aex _ (aex _ (aW hb e)))).2.1
     have e9:=hk' _ s14 σ14 H14 _ I14 q14;rw [hXe] at e9;refine thn e9 fun zv s15 ⟨z,H15,I15,r15,k,ez,hD15,hz,mw⟩=>?_;subst ez;have hadd:=uP (X:=X') _ s15 σ14 H15 (.ref s2.heap.objs.size) [.str k] (.ref s2.heap.objs.size) [zv] (fun _ H11=>∃ m',m' < n2/\∃ ys',W2 (i2+1) m' ys' H11) I15 rfl (.cons r15 .nil) ⟨_,ys2,k,rfl,rfl,by rw [hPr,hWr];exact hD15,hz,fun ss' alt nd=>by
      obtain⟨m',hm,w'⟩:=mw ss' alt nd;exact⟨m',hm,ss',by rw [hPr,hWr];exact w'⟩⟩
     rw [hXe] at hadd;refine thn hadd fun _ s16 ⟨_,H16,I16,_,m',hm,ys',w'⟩=>?_;exact again2 I16 ⟨m',hm,w'⟩
   exact ph loop2 (T2.self _ 0 _ _ _ st10 loop2)
 rw [hEn] at loop;exact rO loop (T.self _ 0 _ _ _ (T.keep _ _ _ st2 (fun b hb o e=>old b o (by rw [← hS3];exact ael _ e))) loop)
theorem acB {P:Program}{w:World}{kx tg iter tg2 iter2:Expr}{outer scope:Scope}{pos:Pos}{N N':List Str}{nl:Nat}{ix:List Nat}{wi wi2:TI}{g g2:TG}{tk:TE}(h1:X.env.scope=outer)(h2:X.N=N)(hc:X.calm=true)(hi:PI X tg iter wi)
 (hg:∀ C fp s₀ H₀,PG (X.comp scope N' C fp s₀ H₀) tg g)(hi2:∀ C fp s₀ H₀,PI (X.comp scope N' C fp s₀ H₀) tg2 iter2 wi2)(hg2:∀ C fp s₀ H₀,PG (X.comp scope N' C fp s₀ H₀) tg2 g2)
 (hk:∀ C fp s₀ H₀,PE (X.comp scope N' C fp s₀ H₀) kx tk)(hP:X.prog=P:=by rfl)(hw:X.w=w:=by rfl)
 (hck:jG outer scope N N' nl ix=true:=by decide +kernel)(hs:∀ x,foldedSetIterable iter X.env x=pure x:=by intro _;rfl)(hs2:∀ C fp s₀ H₀ x,foldedSetIterable iter2 (X.comp scope N' C fp s₀ H₀).env x=pure x:=by intro _ _ _ _ _;rfl) :
 PE X (.SetComp kx [⟨tg,iter,[],0⟩,⟨tg2,iter2,[],0⟩] scope pos) (sP P w nl ix wi g wi2 g2 tk) :=
 let ⟨S,Cp⟩:=jo h1 h2 hck
 wu hP hw hc S Cp hi hg hi2 hg2 hk hs hs2
end
section
variable {X:Cx}{tg:Expr}
theorem tN {K:PySem.W.Frag}{l:Expr}{tl:TE}(hK:X.K=K)(hl:PE X l tl):PI X tg l (yY K tl):=by
 subst hK;exact aQ hl
def wZ (sc outer:Scope):Scope:={ sc with names:=jE sc outer }
theorem u5 {outer sc:Scope}{N':List Str}{C:Addr}{fp:List Addr}{s₀:Shared}{H₀:Hp}(h1:X.env.scope=outer):(X.comp sc N' C fp s₀ H₀).env.scope=wZ sc outer:=by
 subst h1
 rfl
end
end L2
namespace L2
open PySem PySem.Spec PyProof.Rows PySem.W
section
variable {X:Cx}{pins:List (Addr×Obj)}{σ:St}{H:Hp}{s:Shared}{scope:Scope}{N':List Str}{fp:List Addr}{x:Str}
end
section
variable {X:Cx}
end
section
variable {X:Cx}{outer scope:Scope}{N N':List Str}{nl:Nat}{ix:List Nat}{tg iter:Expr}{ifs:List Expr}{pos:Pos}{wi:TI}{g:TG}{tf:TT}
end
def nz:Nat->List Str->List (Str×Addr)->List (Str×Addr)
 | _,[],acc=>acc
 | n,x::xs,acc=>nz (n+1) xs ((x,n)::acc)
def xc (h:Heap):Nat->Heap
 | 0=>h
 | k+1=>xc (h.push { cls:=.type "cell",data:=.cell none }) k
theorem iQ:∀ (k:Nat) {h:Heap} {b:Addr} {o:Obj},h.get? b=some o->(xc h k).get? b=some o
 | 0,_,_,_,e=>e
 | k+1,_,_,_,e=>iQ k (ael _ e)
theorem jv {y:Str}{c:Addr}:∀ {xs:List Str} {n:Nat} {acc:List (Str×Addr)},(nz n xs acc).lookup y=some c->(y∈xs/\n<=c)\/(y ∉ xs/\acc.lookup y=some c)
 | [],_,_,e=>.inr ⟨afb,e⟩
 | x::xs,n,acc,e=>by
  rcases jv (xs:=xs) (n:=n+1) e with ⟨a,b⟩ | ⟨a,b⟩
  ·exact .inl ⟨aeC _ a,by lia⟩
  ·rw [afT] at b;split at b
   ·rename_i hb;injection b with b
    exact .inl ⟨by rw [show y=x by simpa using hb];exact aev,by lia⟩
   ·rename_i hb;refine .inr ⟨fun z=>?_,b⟩;rcases aeu.mp z with z | z
    ·rw [z] at hb;simp at hb
    ·exact a z
theorem xD {y z:Str}{c:Addr}:∀ {xs:List Str} {n:Nat} {acc:List (Str×Addr)},xs.Nodup->(nz n xs acc).lookup y=some c->(nz n xs acc).lookup z=some c->y∈xs->z∈xs->y=z
 | [],_,_,_,_,_,h,_=>nomatch h
 | x::xs,n,acc,nd,e1,e2,h1,h2=>by
  rw [afF] at nd;have at_:∀ {y:Str},(nz (n+1) xs ((x,n)::acc)).lookup y=some c->y∈x::xs->(y∈xs/\n+1<=c)\/(y=x/\c=n):=fun {y} e h=>by
   rcases jv e with ⟨a,b⟩ | ⟨a,b⟩
   ·exact .inl ⟨a,b⟩
   ·have hy:y=x:=(aeu.mp h).resolve_right a;rw [afT,hy,agp] at b;injection b with b
    exact .inr ⟨hy,b.symm⟩
  rcases at_ e1 h1 with ⟨a,b⟩ | ⟨a,b⟩<;>rcases at_ e2 h2 with ⟨a',b'⟩ | ⟨a',b'⟩
  ·exact xD nd.2 e1 e2 a a'
  ·rw [b'] at b;exact absurd b (Nat.not_succ_le_self _)
  ·rw [b] at b';exact absurd b' (Nat.not_succ_le_self _)
  ·rw [a,a']
theorem oK {y:Str}:∀ {xs:List Str} {n:Nat} {acc:List (Str×Addr)},(y∈xs\/∃ c,acc.lookup y=some c)->∃ c,(nz n xs acc).lookup y=some c
 | [],_,_,h=>h.elim (fun z=>nomatch z) id
 | x::xs,n,acc,h=>by
  refine oK (xs:=xs) ?_;rcases h with h | ⟨c,h⟩
  ·rcases aeu.mp h with h | h
   ·exact .inr ⟨n,by rw [h,afT,agp]⟩
   ·exact .inl h
  ·refine .inr ?_;rw [afT];split
   ·exact⟨_,rfl⟩
   ·exact⟨c,h⟩
theorem tY {y:Str}{c:Addr}:∀ {xs:List Str} {h:Heap} {acc:List (Str×Addr)},xs.Nodup->(nz h.objs.size xs acc).lookup y=some c->y∈xs->(xc h xs.length).IsCell c none
 | [],_,_,_,_,m=>nomatch m
 | x::xs,h,acc,nd,e,m=>by
  rw [afF] at nd;have e':(nz (h.push { cls:=.type "cell",data:=.cell none }).objs.size xs ((x,h.objs.size)::acc)).lookup y=some c:=by rw [afe];exact e
  by_cases hy:y∈xs
  ·exact tY (xs:=xs) (h:=h.push { cls:=.type "cell",data:=.cell none }) nd.2 e' hy
  ·have hx:y=x:=(aeu.mp m).resolve_right hy;rcases jv e' with ⟨a,_⟩ | ⟨_,b⟩
   ·exact absurd a hy
   ·rw [afT,hx,agp] at b;injection b with b
    subst b;exact⟨{ cls:=.type "cell",data:=.cell none },iQ xs.length (aeF _ rfl),rfl⟩
theorem ku:∀ (names:List (Str×NameKind)) (xs:List Str) (n:Nat) (acc:List (Str×Addr)) (h:Heap),names.filter (fun y=>y.2 == .cell)=xs.map (fun x=>(x,NameKind.cell))->cellsFrom n names acc=nz n xs acc/\pushCells h names=xc h xs.length
 | [],[],_,_,_,_=>⟨rfl,rfl⟩
 | [],_::_,_,_,_,e=>by cases e
 | (a,k)::r,xs,n,acc,h,e=>by
  cases hk:(k == NameKind.cell) with
  | true =>
   rw [afi,if_pos hk] at e;cases xs with
   | nil=>cases e
   | cons x xs =>
    rw [aeG] at e;injection e with e1 e2
    cases e1;unfold cellsFrom pushCells;rw [hk,if_pos rfl,if_pos rfl];exact ku r xs _ _ _ e2
  | false =>
   rw [afi,if_neg (by rw [hk];exact aem)] at e;unfold cellsFrom pushCells;rw [hk,if_neg aem,if_neg aem];exact ku r xs n acc h e
theorem tH {M:Model}{A:Around}{E:Value->Shared->Prop}{s:Shared}{xs:List Str}{scope:Scope}{globals:Addr}{closure:List (Str×Addr)}{qual:Str}{func:Option Addr}{code:Value}{outer:Env}{builtins:Addr}{Q:Env->Shared->Prop}
 (h1:scope.names.filter (fun y=>y.2 == .cell)=xs.map (fun x=>(x,NameKind.cell)))(nd:xs.Nodup)
 (hQ:∀ h',h'.Ns s.heap.objs.size (fun _=>none)->(∀ y c,(nz (s.heap.objs.size+1) xs closure).lookup y=some c->y∈xs->h'.IsCell c none)->(∀ b o,s.heap.get? b=some o->h'.get? b=some o)->Q (newEnv scope s.heap.objs.size globals (nz (s.heap.objs.size+1) xs closure) qual func code (some outer) builtins) { s with heap:=h' }) :
 wpAny M A (newFunctionEnv scope globals closure [] qual func code (some outer) builtins) Q E s:=by
 simp only [newFunctionEnv,Option.isSome_some,aht];refine aei (aju ?_);refine aei (wpAny_layCells _ (fun name kind cells=>by cases hkc:kind == NameKind.cell<;>simp [hkc]) _ _ _ _ ?_);obtain⟨e1,e2⟩:=ku scope.names xs (s.heap.push { cls:=.type "dict",data:=.dict #[] }).objs.size closure (s.heap.push { cls:=.type "dict",data:=.dict #[] }) h1;dsimp only;rw [e1,e2];rw [List.forIn_nil];refine aei (aen (aen ?_));have oc:∀ y c,(nz (s.heap.push { cls:=.type "dict",data:=.dict #[] }).objs.size xs closure).lookup y=some c->y∈xs->(xc (s.heap.push { cls:=.type "dict",data:=.dict #[] }) xs.length).IsCell c none:=fun y c e m=>tY nd e m;rw [afe] at oc ⊢;exact hQ _ ((Heap.Ns.new s.heap (.type "dict")).keeps fun b o e=>iQ _ e) oc fun b o e=>iQ _ (ael _ e)
def Cx.compCs (X:Cx)(scope:Scope)(xs:List Str)(N':List Str)(C:Addr)(fp:List Addr)(s₀:Shared)(H₀:Hp):Cx :=
 { X with N:=N',s₀:=s₀,H₀:=H₀,env:=compEnvC scope (nz (C+1) xs (jr X.env scope.names [])) C X.env,outer:=X.stack,stack:=X.stack,ex:=fp,fn:=fun y=>xs.elem y,pn:=[],xe:=fun _ _=>False }
structure CompScopeCs (X:Cx)(scope:Scope)(xs:List Str):Prop where
 kind:scope.kind=.function
 one:scope.names.filter (fun y=>y.2 == .cell)=xs.map (fun x=>(x,NameKind.cell))
 nd:xs.Nodup
 loc:∀ y∈scope.names,y.2=.local->scope.names.lookup y.1=some .local
 free:∀ y∈scope.names,y.2=.free->X.env.kindOf y.1=some .cell
 not:∀ y∈scope.names,y.2=.free->y.1 ∉ xs
section
variable {X:Cx}{pins:List (Addr×Obj)}{σ:St}{H:Hp}{s:Shared}{scope:Scope}{N':List Str}{fp:List Addr}{xs:List Str}
theorem CompScopeCs.cells (S:CompScopeCs X scope xs)(ok:X.Ok):∀ y∈scope.names,y.2=.free->∃ c,X.env.cells.lookup y.1=some c:=fun y hy hk=>ok.has y.1 (.inl (S.free y hy hk))
theorem CompScopeCs.sub (S:CompScopeCs X scope xs)(ok:X.Ok){y:Str}{c:Addr}(e:(jr X.env scope.names []).lookup y=some c):X.env.cells.lookup y=some c:=by
 rcases oX scope.names [] y c (S.cells ok) e with h | h
 ·cases h
 ·exact h
theorem CompScopeCs.its (S:CompScopeCs X scope xs){y:Str}(h:(y,NameKind.cell)∈scope.names):y∈xs:=by
 have:(y,NameKind.cell)∈scope.names.filter (fun y=>y.2 == .cell):=afj.mpr ⟨h,agp _⟩;rw [S.one] at this;obtain⟨x,hx,e⟩:=aeL.mp this;cases e;exact hx
theorem CompScopeCs.look (S:CompScopeCs X scope xs)(ok:X.Ok){n:Nat}{y:Str}{c:Addr}(e:(nz n xs (jr X.env scope.names [])).lookup y=some c):(y∈xs/\n<=c)\/(y ∉ xs/\X.env.cells.lookup y=some c):=(jv e).imp id fun z=>⟨z.1,S.sub ok z.2⟩
theorem CompScopeCs.ok (S:CompScopeCs X scope xs)(I:Inv X pins σ H s)(hf:∀ b∈fp,jV X pins H b)(ho:∀ b∈fp,b < s.heap.objs.size):(X.compCs scope xs N' s.heap.objs.size fp s H).Ok where
 mod:=I.ok.mod
 kind:=S.kind
 glob:=I.ok.glob
 blt:=I.ok.blt
 above:=aep _
 inj:=fun y z c e1 e2=>by
  have lt:∀ {y:Str},X.env.cells.lookup y=some c->c < s.heap.objs.size:=fun {y} e=>let ⟨v,q⟩:=I.cell y c e;q.lt;rcases S.look I.ok e1 with ⟨a1,a2⟩ | ⟨_,a⟩<;>rcases S.look I.ok e2 with ⟨b1,b2⟩ | ⟨_,b⟩
  ·exact xD S.nd e1 e2 a1 b1
  ·exact absurd (aeB (lt b) (aeN (afh _) a2)) (afn _)
  ·exact absurd (aeB (lt a) (aeN (afh _) b2)) (afn _)
  ·exact I.ok.inj y z c a b
 has:=fun y hy=>by
  have hy':(relabel scope X.env).names.lookup y=some .cell\/(relabel scope X.env).names.lookup y=some .free:=hy;have key:y∈xs\/(y,NameKind.free)∈scope.names:=by
   rcases hy' with h | h
   ·obtain⟨k',h1,h2⟩:=gq h;rcases h2 with h2 | ⟨h2,_⟩
    ·subst h2;exact .inl (S.its h1)
    ·subst h2;exact .inr h1
   ·obtain⟨k',h1,h2⟩:=gq h;rcases h2 with h2 | ⟨h2,h3⟩
    ·subst h2;exact .inr h1
    ·cases h3
  exact oK (key.imp id fun z=>jC scope.names [] y z)
 cab:=fun y c h e=>by
  have hy:y∈xs:=by simpa [Cx.compCs] using h
  rcases S.look I.ok (show (nz (s.heap.objs.size+1) xs (jr X.env scope.names [])).lookup y=some c from e) with ⟨_,a⟩ | ⟨a,_⟩
  ·exact aeN (afh _) a
  ·exact absurd hy a
 hd:=I.ok.hd
 frames:=I.ok.frames
 stk:=.inl rfl
 exf:=fun b hb=>⟨aeA (ho b hb),fun y c e=>by
  rcases S.look I.ok (show (nz (s.heap.objs.size+1) xs (jr X.env scope.names [])).lookup y=some c from e) with ⟨_,a2⟩ | ⟨_,a⟩
  ·intro z;subst z;exact absurd (aeB (ho _ hb) (aeN (afh _) a2)) (afn _)
  ·exact (hf b hb).2.2.2.2.1 y c a⟩
 bs:=I.bs
 bsz:=aeN I.ok.bsz I.sz
 noex:=fun b o e hb=>by
  rcases (hf b hb).2.2.2.1 with h | h
  ·exact I.ok.noex b o e h
  ·exact absurd (aeB (aes e) (aeN I.ok.bsz h)) (afn _)
 exfs:=fun b hb hs=>by
  rcases aeu.mp (I.stkSub b hs) with h | h
  ·exact (hf b hb).2.1 h
  ·exact (hf b hb).2.2.1 h
 funs:=I.stack
 frf:=I.stkFree
theorem uG {nl:Nat}{ix:List Nat}{h1:Heap}{tk:Nat}(S:CompScopeCs X scope xs)(Cp:zp X scope N' nl ix)(I:Inv X pins σ H s)(hf:∀ b∈fp,jV X pins H b)(ho:∀ b∈fp,b < s.heap.objs.size)
 (hn:h1.Ns s.heap.objs.size (fun _=>none))(hcl:∀ y c,(nz (s.heap.objs.size+1) xs (jr X.env scope.names [])).lookup y=some c->y∈xs->h1.IsCell c none)(hk:∀ b o,s.heap.get? b=some o->h1.get? b=some o):Inv (X.compCs scope xs N' s.heap.objs.size fp s H) [] (cP nl ix σ) H { s with heap:=h1,toks:=tk }:=by
 have ok:=S.ok (N':=N') I hf ho;refine⟨ok,rfl,I.bare,Un.kept hk,⟨_,hn,fun i y v e1 e2 e3=>?_⟩,fun y c e=>?_,I.hok.fresh (aep _),fun y c e=>?_,fun p hp=>by simp [Cx.compCs] at hp,I.hok.kept hk,?_⟩
 ·unfold cP at e2;rw [ahK] at e2;split at e2
  ·rw [agI] at e2;split at e2<;>simp at e2
  ·rename_i hi;rw [afq] at hi e2;rw [aer] at e2;cases ej:ix[i - nl]? with
   | none=>rw [ej] at e2;simp at e2
   | some j =>
    rw [ej] at e2;have e2':(σ[j]?).join=some v:=by simpa using e2
    have e2'':σ[j]? = some (some v):=by
     cases q:σ[j]? with
     | none=>rw [q] at e2';simp at e2'
     | some z=>rw [q] at e2';simp at e2';rw [e2']
    obtain⟨x',a1,a2,a3,a4,a5⟩:=Cp.at' _ _ ej;have hi2:nl+(i - nl)=i:=by lia
    rw [hi2] at a2;have e1':N'[i]? = some y:=e1;rw [a2] at e1';cases e1';obtain⟨m,hm,hl⟩:=I.loc;obtain⟨u,r,l⟩:=hl j y v a1 e2'' (.inr (.inl a3));refine⟨u,r,?_⟩;rcases l with ⟨k,_⟩ | ⟨_,c,ec,z⟩
    ·rw [k] at a3;cases a3
    ·obtain⟨c',hc'⟩:=jC (env:=X.env) scope.names [] y a5;have ec':=S.sub I.ok hc';rw [ec] at ec';cases ec';obtain⟨o,ho',hd⟩:=z;have hc2:(nz (s.heap.objs.size+1) xs (jr X.env scope.names [])).lookup y=some c:=by
      obtain⟨c3,h3⟩:=oK (xs:=xs) (n:=s.heap.objs.size+1) (acc:=jr X.env scope.names []) (y:=y) (.inr ⟨_,hc'⟩);rcases jv h3 with ⟨z,_⟩ | ⟨_,z⟩
      ·exact absurd z (S.not _ a5 rfl)
      ·rw [hc'] at z;cases z;exact h3
     exact .inr ⟨.inl a4,c,hc2,o,hk _ _ ho',hd⟩
 ·rcases S.look I.ok (show (nz (s.heap.objs.size+1) xs (jr X.env scope.names [])).lookup y=some c from e) with ⟨z,_⟩ | ⟨_,a⟩
  ·exact⟨_,hcl y c e z⟩
  ·obtain⟨v,o,ho',hd⟩:=I.cell y c a;exact⟨v,o,hk _ _ ho',hd⟩
 ·rcases S.look I.ok (show (nz (s.heap.objs.size+1) xs (jr X.env scope.names [])).lookup y=some c from e) with ⟨_,z⟩ | ⟨_,a⟩
  ·exact I.hok.fresh (aeN (afh _) z)
  ·exact I.freeC y c a
 ·show (cP nl ix σ).length=N'.length;unfold cP;rw [aeo,afq,aej,Cp.len]
theorem sk {H':Hp}{σ':St}{pins':List (Addr×Obj)}{s':Shared}{h':Heap}(I:Inv X pins σ H s)(hf:∀ b∈fp,jV X pins H b)
 (I':Inv (X.compCs scope xs N' s.heap.objs.size fp s H) pins' σ' H' s')(hs:Heap.SameBut s.heap.objs.size s'.heap h'):Inv X pins σ H' { s' with heap:=h' }:=by
 have lo:∀ b o,s.heap.get? b=some o->b≠s.heap.objs.size:=fun b o e=>aeA (aes e);have B:=I'.base;refine I.call' (ch:=fp) (show s'.os=s.os from I'.os) ⟨fun b o e n hb hx=>?_,fun b o e n hb hx=>?_,fun b o e n hx=>B.free b o e n hx,fun b o e hx=>?_,B.tups,B.frzs,B.tbls⟩ (fun b u e=>?_) I'.bare fun b hb=>⟨(hf b hb).2.2.2.1,(hf b hb).2.1,(hf b hb).2.2.2.2.1,(hf b hb).2.2.2.2.2⟩
 ·exact (hs.2 b (lo b o e)).trans (B.keep b o e n hb hx)
 ·obtain⟨sl,q⟩:=B.slot b o e n hb hx;exact⟨sl,(hs.2 b (lo b o e)).trans q⟩
 ·obtain⟨o',q⟩:=B.there b o e hx;exact⟨o',(hs.2 b (lo b o e)).trans q⟩
 ·have nl:H' s.heap.objs.size=none:=I'.free;refine (I'.hok b u e).stay (fun c v hc q=>(hs.2 c ?_).trans q) (fun _ q=>q) fun _ _ q=>q;rintro rfl;rcases hc with z | z
  ·rw [← z,nl] at e;cases e
  ·rw [nl] at z;cases z
end
section
variable {X:Cx}
theorem vC {xs:List Str}{elt tg iter:Expr}{ifs:List Expr}{scope:Scope}{pos:Pos}{N':List Str}{nl:Nat}{ix:List Nat}{wi:TI}{g:TG}{tf:TT}{te:TE}(hc:X.calm=true)(S:CompScopeCs X scope xs)(Cp:zp X scope N' nl ix)(hi:PI X tg iter wi)
 (hg:∀ C fp s₀ H₀,PG (X.compCs scope xs N' C fp s₀ H₀) tg g)(hf:∀ C fp s₀ H₀,PIf (X.compCs scope xs N' C fp s₀ H₀) ifs tf)(he:∀ C fp s₀ H₀,PE (X.compCs scope xs N' C fp s₀ H₀) elt te)
 (hs:∀ x,foldedSetIterable iter X.env x=pure x:=by intro _;rfl):PE X (.ListComp elt [⟨tg,iter,ifs,0⟩] scope pos) (lU nl ix wi g tf te):=by
 intro pins s σ H Q I h;rw [eval_ListComp];refine af5 (use:=none) (cl:=jr X.env scope.names []) rfl hs (gi (S.cells I.ok)) S.kind S.loc ?_;refine thn (hi pins s σ H _ I h) fun v s1 h1=>thn h1 fun itv s2 h2=>?_;obtain⟨it,fp,tn,J,H2,rfl,I2,T,st2,f2,h2⟩:=h2;obtain⟨W,⟨m0,w0⟩,turn⟩:=h2 s2.heap.objs.size I2.fresh;refine afJ (tH S.one S.nd (fun h₁ hns₁ hcl₁ old₁=>?_));dsimp only at hns₁ hcl₁ old₁ ⊢;have fpo:∀ b∈fp,b < s2.heap.objs.size:=fun b hb=>by
  obtain⟨o,e,_⟩:=T.obj 0 _ st2 b hb;exact aes e
 have I3:Inv X pins σ (upd H2 s2.heap.objs.size (.lst [])) { s2 with heap:=s2.heap.push { cls:=.type "list",data:=.seq ([]:List Value).toArray },toks:=s2.toks }:=I2.lnew .nil (aeM _);have hD:(upd H2 s2.heap.objs.size (.lst [])) s2.heap.objs.size=some (.lst []):=af;have f3:∀ b∈fp,jV X pins (upd H2 s2.heap.objs.size (.lst [])) b:=fun b hb=>by
  refine⟨?_,(f2 b hb).2⟩;rw [ak (aeA (fpo b hb))];exact (f2 b hb).1
 generalize hS3:s2.heap.push { cls:=.type "list",dict:=none,data:=.seq ([]:List Value).toArray }=g3 at hns₁ hcl₁ old₁ I3 ⊢;have sz3:g3.objs.size=s2.heap.objs.size+1:=by rw [← hS3,afe]
 have fpo3:∀ b∈fp,b < ({ s2 with heap:=g3,toks:=s2.toks }:Shared).heap.objs.size:=fun b hb=>by
  show b < g3.objs.size;rw [sz3];exact aff (fpo b hb)
 have old:∀ b o,g3.get? b=some o->h₁.get? b=some o:=old₁;have I4:=uG (tk:=s2.toks) S Cp I3 f3 fpo3 hns₁ hcl₁ old;generalize hX:X.compCs scope xs N' g3.objs.size fp { s2 with heap:=g3,toks:=s2.toks } (upd H2 s2.heap.objs.size (.lst []))=X' at *;have hPr:X'.prog=X.prog:=by rw [← hX];rfl
 have hWr:X'.w=X.w:=by rw [← hX];rfl
 have hKr:X'.K=X.K:=by rw [← hX];rfl
 have hAr:X'.A=X.A:=by rw [← hX];rfl
 have hCa:X'.calm=true:=by rw [← hX];exact hc
 have hXe:X'.xe=fun _ _=>False:=by rw [← hX];rfl
 have hEx:X'.ex=fp:=by rw [← hX];rfl
 have hPn:X'.pn=[]:=by rw [← hX];rfl
 have hLo:X'.env.locals=g3.objs.size:=by rw [← hX];rfl
 have hEn:X'.env=compEnvC scope (nz (g3.objs.size+1) xs (jr X.env scope.names [])) g3.objs.size X.env:=by rw [← hX];rfl
 have hg':=hg g3.objs.size fp { s2 with heap:=g3,toks:=s2.toks } (upd H2 s2.heap.objs.size (.lst []));have hf':=hf g3.objs.size fp { s2 with heap:=g3,toks:=s2.toks } (upd H2 s2.heap.objs.size (.lst []));have he':=he g3.objs.size fp { s2 with heap:=g3,toks:=s2.toks } (upd H2 s2.heap.objs.size (.lst []));rw [hX] at hg' hf' he';have I4':Inv X' [] (cP nl ix σ) (upd H2 s2.heap.objs.size (.lst [])) { s2 with heap:=h₁,toks:=s2.toks }:=I4;have back:∀ {H':Hp} {σ':St} {pins':List (Addr×Obj)} {s':Shared} {h':Heap},Inv X' pins' σ' H' s'->Heap.SameBut g3.objs.size s'.heap h'->Inv X pins σ H' { s' with heap:=h' }:=fun I' sb=>by
  subst hX;exact sk I3 f3 I' sb
 have stat:∀ {H':Hp},(∀ b∈fp,H' b=none)->∀ b∈fp,jV X' [] H' b:=fun hn b hb=>by
  refine⟨hn b hb,?_,?_,.inl (by rw [hEx];exact hb),?_,fun p hp=>by rw [hPn] at hp;cases hp⟩
  ·rw [hLo];exact aeA (fpo3 b hb)
  ·exact I4'.ok.exfs b (by rw [hEx];exact hb)
  ·exact (I4'.ok.exf b (by rw [hEx];exact hb)).2
 have loop:codeAny (model X.prog X.w) X.A (.compLoop (.ListComp elt [⟨tg,iter,ifs,0⟩] scope pos) 0 (.ref it) (.ref s2.heap.objs.size) X'.env)
  (compPost (model X.prog X.w) X.A X.xe none (EP X pins σ Q) (.ref s2.heap.objs.size) g3.objs.size) { s2 with heap:=h₁,toks:=s2.toks }:=by
  rw [← hPr,← hWr,← hAr];refine ki (fun n s'=>∃ i ys H',Inv X' [] (cP nl ix σ) H' s'/\tn i s'.heap/\(∀ b∈fp,H' b=none)/\W i n ys H') ?_ m0
   ⟨0,[],_,I4',T.keep _ _ _ st2 (fun b hb o e=>old b o (by rw [← hS3];exact ael _ e)),fun b hb=>(f3 b hb).1,w0⟩
  rintro n s5 ⟨i,ys,H5,I5,st5,fr5,w5⟩;obtain⟨hD5,alt⟩:=turn i n ys H5 w5;rcases alt with ⟨stop,qn⟩ | ⟨go,step⟩
  ·rw [hPr,hWr];refine thn (T.done X' hPr hWr hKr hCa i [] s5 _ H5 _ I5 (stat fr5) st5 stop) fun r s6 ⟨hr,I6⟩=>?_;subst hr;obtain⟨m,hn,_⟩:=I6.loc;rw [hLo] at hn;exact⟨m,hn,fun h' sb=>⟨.ref s2.heap.objs.size,H5,back I6 sb,rfl,qn⟩⟩
  ·have it5:=T.item X' hPr hWr hKr hCa i [] s5 _ H5 (fun _ _=>False) I5 (stat fr5) st5 go;rw [← hPr,← hWr] at it5;refine thn it5 fun r s6 ⟨u,hr,h6⟩=>?_;subst hr;refine thn h6 fun _ s7 ⟨x,H7,I7,r7,y7,st7,fr7⟩=>?_;have I7':=I7.pinned (stat fr7) (T.obj _ _ st7);have g7:=hg' _ s7 _ H7 x u _ I7' r7 (step x H7 y7);rw [hXe] at g7;refine thn g7 fun _ s8 ⟨σ8,H8,I8,⟨hl8,hd8⟩,q8⟩=>?_;have f8:=hf' _ s8 σ8 H8 _ I8 q8;rw [hXe] at f8;refine thn f8 fun ok s9 ⟨H9,I9,q9⟩=>?_;have again:∀ {H10:Hp} {s10:Shared} {ys':List V},Inv X' ([]++fJ fp s7.heap) σ8 H10 s10->(∃ m',m' < n/\W (i+1) m' ys' H10)->∃ m,m < n/\∃ i ys H',Inv X' [] (cP nl ix σ) H' s10/\tn i s10.heap/\(∀ b∈fp,H' b=none)/\W i m ys H':=fun {H10 s10 ys'} I10 ⟨m',hm,w'⟩=>by
    refine⟨m',hm,i+1,ys',H10,iC I10.unpinned hl8 hd8,T.keep _ _ _ st7 fun b hb o e=>(I10.pin (b,o) (aex _ (aex _ (aW hb e)))).1,fun b hb=>?_,w'⟩;obtain⟨o,e,d⟩:=T.obj _ _ st7 b hb;exact (I10.pin (b,o) (aex _ (aex _ (aW hb e)))).2.1
   cases ok with
   | false =>
    rw [if_neg aem] at q9 ⊢;exact again I9 q9
   | true =>
    rw [if_pos rfl] at q9 ⊢;have e9:=he' _ s9 σ8 H9 _ I9 q9;rw [hXe] at e9;refine thn e9 fun xv s10 ⟨y,H10,I10,r10,hD10,hz,mw⟩=>?_;have a10:=dm (X:=X') _ s10 σ8 H10 (.ref s2.heap.objs.size) [y] _ [xv] (fun _ H'=>H'=upd H10 s2.heap.objs.size (.lst (ys++[y]))) I10 rfl (.cons r10 .nil) ⟨_,ys,y,rfl,rfl,hD10,hz,rfl⟩;rw [hXe] at a10;refine thn a10 fun _ s11 ⟨_,H11,I11,_,e11⟩=>?_;subst e11;exact again I11 mw
 rw [hEn] at loop;exact ahq loop (T.self _ 0 _ _ _ (T.keep _ _ _ st2 (fun b hb o e=>old b o (by rw [← hS3];exact ael _ e))) loop)
end
def pH (outer scope:Scope)(xs:List Str)(N N':List Str)(nl:Nat)(ix:List Nat):Bool :=
 (scope.kind == .function && decide (scope.names.filter (fun y=>y.2 == .cell)=xs.map (fun x=>(x,NameKind.cell))) && decide xs.Nodup && scope.names.all fun y=>(y.2 != .local || scope.names.lookup y.1 == some .local) && (y.2 != .free || outer.names.lookup y.1 == some .cell) && (y.2 != .free || !xs.elem y.1)) &&
 (N'.length == nl+ix.length && (List.range ix.length).all fun k=>match ix[k]? with
  | none=>false
  | some j=>match N[j]? with
   | none=>false
   | some x=>N'[nl+k]? == some x && outer.names.lookup x == some .cell && (jE scope outer).lookup x == some .cell && decide ((x,NameKind.free)∈scope.names))
theorem xy {X:Cx}{outer scope:Scope}{xs:List Str}{N N':List Str}{nl:Nat}{ix:List Nat}(h1:X.env.scope=outer)(h2:X.N=N)(h:pH outer scope xs N N' nl ix=true):CompScopeCs X scope xs/\zp X scope N' nl ix:=by
 unfold pH at h;simp only [ae2,ae1,aeR,bne_iff_ne,aiT,ne_eq,afZ,age] at h;obtain⟨⟨⟨⟨hk,h1c⟩,hnd⟩,ha⟩,hl,hb⟩:=h;have kd:∀ x,X.env.kindOf x=outer.names.lookup x:=fun x=>by rw [← h1];rfl
 refine⟨⟨hk,h1c,hnd,fun x hx e=>?_,fun x hx e=>?_,fun x hx e=>?_⟩,⟨hl,fun k j e=>?_⟩⟩
 ·exact (ha x hx).1.1.resolve_left fun z=>z e
 ·rw [kd];exact (ha x hx).1.2.resolve_left fun z=>z e
 ·have:=(ha x hx).2.resolve_left fun z=>z e;simpa using this
 ·have hk':k < ix.length:=(aek.mp e).1;have q:=hb k hk';rw [e] at q;simp only at q;cases ex:N[j]? with
  | none=>rw [ex] at q;simp at q
  | some x =>
   rw [ex] at q;simp only [ae2,aeR,age] at q;obtain⟨⟨⟨q1,q2⟩,q3⟩,q4⟩:=q;refine⟨x,by rw [h2];exact ex,q1,by rw [kd];exact q2,?_,q4⟩;have er:(relabel scope X.env).names=jE scope outer:=by rw [← h1];rfl
   rw [er];exact q3
section
variable {X:Cx}{outer scope:Scope}{N N':List Str}{nl:Nat}{ix:List Nat}{tg iter:Expr}{ifs:List Expr}{pos:Pos}{wi:TI}{g:TG}{tf:TT}
theorem we {elt:Expr}{te:TE}(xs:List Str)(h1:X.env.scope=outer)(h2:X.N=N)(hc:X.calm=true)(hi:PI X tg iter wi)
 (hg:∀ C fp s₀ H₀,PG (X.compCs scope xs N' C fp s₀ H₀) tg g)(hf:∀ C fp s₀ H₀,PIf (X.compCs scope xs N' C fp s₀ H₀) ifs tf)(he:∀ C fp s₀ H₀,PE (X.compCs scope xs N' C fp s₀ H₀) elt te)
 (hck:pH outer scope xs N N' nl ix=true:=by decide +kernel)(hs:∀ x,foldedSetIterable iter X.env x=pure x:=by intro _;rfl):PE X (.ListComp elt [⟨tg,iter,ifs,0⟩] scope pos) (lU nl ix wi g tf te) :=
 let ⟨S,Cp⟩:=xy h1 h2 hck
 vC hc S Cp hi hg hf he hs
theorem kH {outer sc:Scope}{xs:List Str}{N':List Str}{C:Addr}{fp:List Addr}{s₀:Shared}{H₀:Hp}(h1:X.env.scope=outer):(X.compCs sc xs N' C fp s₀ H₀).env.scope=wZ sc outer:=by
 subst h1
 rfl
end
end L2
namespace K7
open PySem L2 PyProof.Rows
def iT (hand locks:List Str):Bool:=locks.all fun x=>decide (locks.count x<=hand.count x)
def f7 (hand:List Str)(r:Rm):List Str:=r.1.foldl List.erase hand++r.2
theorem cZ (x:Str):∀ (l h:List Str),(l.foldl List.erase h).count x=h.count x - l.count x
 | [],h=>by simp
 | a::l,h=>by
  rw [agz,cZ x l,List.count_erase,ahR];by_cases e:a=x
  ·subst e;simp;lia
  ·have:¬ x=a:=fun z=>e z.symm;simp [e,this]
theorem iI:∀ (l h:List Str),(l.foldl List.erase h).length<=h.length
 | [],h=>aep _
 | a::l,h=>by
  rw [agz];exact aeN (iI l _) (List.length_erase_le ..)
theorem aap {hand locks:List Str}(h:iT hand locks=true){i:Nat}(hi:i < locks.length):locks[i]∈(locks.take i).foldl List.erase hand:=by
 unfold iT at h;rw [ae1] at h;have h1:=afL (h locks[i] (aeS hi));have h2:=cZ locks[i] (locks.take i) hand;have e:locks=locks.take i++locks[i]::locks.drop (i+1):=by rw [← af0 hi,ae9]
 have h3:locks.count locks[i]=(locks.take i).count locks[i]+(1+(locks.drop (i+1)).count locks[i]):=by
  have:=afy (List.count locks[i]) e;rw [agg,List.count_cons_self] at this;lia
 exact List.count_pos_iff.mp (by lia)
theorem qU (hand:List Str)(r:Rm):(f7 hand r).length<=hand.length+r.2.length:=by
 unfold f7;rw [aeo];exact Nat.add_le_add_right (iI _ _) _
def aL (ks:List Str)(rs:List Rm)(order:List Nat):List Str:=order.foldl (fun hd i=>f7 hd ((rs[i]?).getD ([],[]))) ks
theorem jq (ks:List Str)(rs:List Rm)(order:List Nat)(i:Nat):aL ks rs (order++[i])=f7 (aL ks rs order) ((rs[i]?).getD ([],[])):=by
 unfold aL;rw [ag8]
 rfl
theorem nR {ks:List Str}{rs:List Rm}(m:Nat)(hm:∀ r∈rs,r.2.length<=m):∀ (order:List Nat) (ks:List Str),(aL ks rs order).length<=ks.length+m * order.length
 | [],ks=>by simp [aL]
 | i::order,ks=>by
  have h1:=nR m hm (ks:=ks) order (f7 ks ((rs[i]?).getD ([],[])));have h2:=qU ks ((rs[i]?).getD ([],[]));have h3:((rs[i]?).getD ([],[])).2.length<=m:=by
   cases e:rs[i]? with
   | none=>exact aeM _
   | some r=>exact hm r (aey e)
  rw [aeU,Nat.mul_succ];show (aL (f7 ks ((rs[i]?).getD ([],[]))) rs order).length<=_;lia
def jH (rs:List Rm)(hand:List Str)(order:List Nat):List Nat:=(List.range rs.length).filter fun i=>!decide (i∈order) && iT hand ((rs[i]?).getD ([],[])).1
def cf (ks:List Str)(rs:List Rm)(order:List Nat):Prop:=∀ j i,order[j]? = some i->i < rs.length/\i ∉ order.take j/\iT (aL ks rs (order.take j)) ((rs[i]?).getD ([],[])).1=true
def aY (o:List Nat):Nat:=o.foldl (fun m i=>m ||| 2 ^ i) 0
theorem cN (o:List Nat)(i:Nat):aY (o++[i])=aY o ||| 2 ^ i:=by
 unfold aY;rw [ag8]
 rfl
theorem iF (o:List Nat):∀ i,(aY o).testBit i=decide (i∈o):=by
 have go:∀ (l:List Nat) (m i:Nat),(l.foldl (fun m i=>m ||| 2 ^ i) m).testBit i=(m.testBit i || decide (i∈l)):=fun l=>by
  induction l with
  | nil=>intro m i;simp
  | cons a l ih =>
   intro m i;rw [agz,ih,Nat.testBit_or,Nat.testBit_two_pow];by_cases h:a=i
   ·subst h;simp
   ·have h':i≠a:=fun z=>h z.symm;simp [h,h']
 intro i;unfold aY;rw [go];simp
theorem qo {o o':List Nat}(p:o.Perm o'):aY o=aY o':=Nat.eq_of_testBit_eq fun i=>by
 rw [iF,iF];exact af9.mpr p.mem_iff
theorem eI {o o':List Nat}(n:o.Nodup)(n':o'.Nodup)(e:aY o=aY o'):o.Perm o':=(ah5 n n').mpr fun i=>by
 have h1:=iF o i;have h2:=iF o' i;rw [e,h2] at h1;exact (af9.mp h1).symm
theorem rL {o:List Nat}{n:Nat}(h:∀ i∈o,i < n):aY o < 2 ^ n:=Nat.lt_pow_two_of_testBit _ fun i hi=>by
 rw [iF];exact aeO fun z=>by have:=h i z;lia
theorem yd (a b:Nat):Builtin.bitOr (a:Int) (b:Int)=((a ||| b:Nat):Int):=by
 unfold Builtin.bitOr Builtin.bitAnd Builtin.bitNot;have h1:decide (0<=(-(a:Int) - 1))=false:=aeO (by lia);have h2:decide (0<=(-(b:Int) - 1))=false:=aeO (by lia);simp only [h1,h2];have e1:(-(-(a:Int) - 1) - 1)=(a:Int):=by lia
 have e2:(-(-(b:Int) - 1) - 1)=(b:Int):=by lia
 simp only [e1,e2,aeY];lia
theorem wM (o:List Nat)(i:Nat):Builtin.bitAnd (((aY o:Nat):Int) / 2 ^ ((i:Int)).toNat) 1=if i∈o then 1 else 0:=by
 rw [bitAnd_m1,aeY];have e:((aY o:Nat):Int) / 2 ^ i % 2=(((aY o) / 2 ^ i % 2:Nat):Int):=by simp
 rw [e];have t:=iF o i;rw [Nat.testBit_eq_decide_div_mod_eq] at t;have t':=af9.mp t;by_cases h:i∈o
 ·rw [if_pos h,t'.mpr h];rfl
 ·rw [if_neg h];have:aY o / 2 ^ i % 2≠1:=fun z=>h (t'.mp z);have:aY o / 2 ^ i % 2=0:=by lia
  rw [this];rfl
structure ac7 (h:Hs)(ks:List Str):Prop where
 nd:ks.Nodup
 mem:∀ k,k∈ks↔∃ r∈h.2,k∈r.1
 few:ks.length<=63
def gf (ks hand:List Str):List Int:=ks.map fun k=>((hand.count k:Nat):Int)
def kAt (ks:List Str)(p:Nat):Str:=(ks[p]?).getD ""
def d9 (ks:List Str)(r:Rm):List (Nat×Int):=((List.range ks.length).filter fun p=>decide (kAt ks p∈r.1)).map fun p=>(p,((r.1.count (kAt ks p):Nat):Int))
def ac4 (r:Rm)(k:Str):Int:=((r.2.count k:Nat):Int) - ((r.1.count k:Nat):Int)
def chB (ks:List Str)(r:Rm)(p:Nat):Bool:=decide (kAt ks p∈r.1) || decide (kAt ks p∈r.2)
def adF (ks:List Str)(r:Rm)(m:Nat):List (Nat×Int):=((List.range m).filter (chB ks r)).map fun p=>(p,ac4 r (kAt ks p))
def jw (ks:List Str)(r:Rm):List (Nat×Int):=adF ks r ks.length
theorem vU {ks:List Str}{p:Nat}(h:p < ks.length):ks[p]? = some (kAt ks p):=by
 unfold kAt;rw [aeh h]
 rfl
theorem aaE {ks:List Str}{k:Str}(h:k∈ks):∃ p,p < ks.length/\kAt ks p=k:=by
 obtain⟨p,hp,e⟩:=List.getElem_of_mem h;refine⟨p,hp,?_⟩;unfold kAt;rw [aeh hp,e]
 rfl
theorem rR {ks hand:List Str}{p:Nat}(h:p < ks.length):(gf ks hand)[p]? = some ((hand.count (kAt ks p):Nat):Int):=by
 unfold gf;rw [aer,vU h]
 rfl
theorem pE (ks hand:List Str):(gf ks hand).length=ks.length:=by unfold gf;rw [aej]
theorem xq {ks hand:List Str}{r:Rm}(s:∀ k∈r.1,k∈ks):(∀ c∈d9 ks r,c.2<=((hand.count (kAt ks c.1):Nat):Int))↔iT hand r.1=true:=by
 unfold iT;rw [ae1];constructor
 ·intro h k hk;obtain⟨p,hp,e⟩:=aaE (s k hk);have:=h (p,((r.1.count (kAt ks p):Nat):Int)) (aeL.mpr ⟨p,afj.mpr ⟨afZ.mpr hp,aeP (by rw [e];exact hk)⟩,rfl⟩);rw [e] at this;exact aeP (by simpa using this)
 ·intro h c hc;obtain⟨p,hp,rfl⟩:=aeL.mp hc;have:=afL (h _ (afL (afj.mp hp).2));simpa using this
def xB (v:List Int)(cs:List (Nat×Int)):List Int:=cs.foldl (fun v c=>v.set c.1 (v.getD c.1 0+c.2)) v
theorem qC (v:List Int)(cs:List (Nat×Int))(c:Nat×Int):xB v (cs++[c])=(xB v cs).set c.1 ((xB v cs).getD c.1 0+c.2):=by
 unfold xB;rw [ag8]
 rfl
theorem t7 (v:List Int):∀ cs:List (Nat×Int),(xB v cs).length=v.length:=by
 have go:∀ (cs:List (Nat×Int)) (v:List Int),(cs.foldl (fun v c=>v.set c.1 (v.getD c.1 0+c.2)) v).length=v.length:=fun cs=>by
  induction cs with
  | nil=>intro v;rfl
  | cons c cs ih=>intro v;rw [agz,ih,List.length_set]
 exact fun cs=>go cs v
theorem abQ {ks:List Str}{r:Rm}(v:List Int)(hv:v.length=ks.length):∀ m,m<=ks.length->∀ p:Nat,(xB v (adF ks r m))[p]? = if p < m/\chB ks r p=true then (v[p]?).map (· + ac4 r (kAt ks p)) else v[p]?
 | 0,_,p=>by rw [if_neg (by lia)];rfl
 | m+1,hm,p=>by
  have ih:=abQ (r:=r) v hv m (by lia);unfold adF at ih ⊢;rw [agk,afl,aeD];cases hc:chB ks r m with
  | false =>
   have e:[m].filter (chB ks r)=[]:=by simp [hc]
   rw [e,ah7,ae6,ih p];by_cases h1:p < m/\chB ks r p=true
   ·rw [if_pos h1,if_pos ⟨by lia,h1.2⟩]
   ·rw [if_neg h1,if_neg];rintro⟨a,b⟩;by_cases z:p=m
    ·subst z;rw [hc] at b;cases b
    ·exact h1 ⟨by lia,b⟩
  | true =>
   have e:[m].filter (chB ks r)=[m]:=by simp [hc]
   rw [e,List.map_singleton,qC];have hml:m < v.length:=by lia
   have im:=ih m;rw [if_neg (by lia)] at im;by_cases z:p=m
   ·subst z;rw [agl (by rw [t7];exact hml),if_pos ⟨by lia,hc⟩,ae3,im,aeh hml]
    rfl
   ·rw [aha (fun y=>z y.symm),ih p];by_cases h1:p < m/\chB ks r p=true
    ·rw [if_pos h1,if_pos ⟨by lia,h1.2⟩]
    ·rw [if_neg h1,if_neg];rintro⟨a,b⟩;exact h1 ⟨by lia,b⟩
theorem zT {ks hand:List Str}{r:Rm}(m:iT hand r.1=true):xB (gf ks hand) (jw ks r)=gf ks (f7 hand r):=by
 apply agB;intro p;unfold jw;rw [abQ _ (pE ks hand) _ (aep _)];by_cases hp:p < ks.length
 ·rw [rR hp,rR hp];have cnt:(f7 hand r).count (kAt ks p)=hand.count (kAt ks p) - r.1.count (kAt ks p)+r.2.count (kAt ks p):=by
   unfold f7;rw [agg,cZ]
  have le:r.1.count (kAt ks p)<=hand.count (kAt ks p):=by
   by_cases hk:kAt ks p∈r.1
   ·unfold iT at m;rw [ae1] at m;exact afL (m _ hk)
   ·rw [aga hk];exact aeM _
  rw [cnt];by_cases hb:chB ks r p=true
  ·rw [if_pos ⟨hp,hb⟩];have e:((hand.count (kAt ks p) - r.1.count (kAt ks p)+r.2.count (kAt ks p):Nat):Int)=((hand.count (kAt ks p):Nat):Int)+(((r.2.count (kAt ks p):Nat):Int) - ((r.1.count (kAt ks p):Nat):Int)):=by lia
   rw [e]
   rfl
  ·rw [if_neg (fun z=>hb z.2)];unfold chB at hb;rw [aiT,age,age,not_or] at hb;rw [aga hb.1,aga hb.2];simp
 ·rw [if_neg (fun z=>hp z.1),af3 (by rw [pE];lia),af3 (by rw [pE];lia)]
def adP (s:Stmt):Expr:=match s with
 | .Assign _ e _=>e
 | _=>.Name "" ⟨0,0,0,0⟩
def rX (s:Stmt):List Stmt:=match s with
 | .ClassDef _ _ _ b _ _ _ _ _ _ _=>b
 | _=>[]
abbrev aO:Stmt:=(rX (top 24)).getD 0 (.Pass ⟨0,0,0,0⟩)
abbrev df:Stmt:=(rX (top 24)).getD 1 (.Pass ⟨0,0,0,0⟩)
abbrev aP:Stmt:=(rX (top 24)).getD 3 (.Pass ⟨0,0,0,0⟩)
theorem ao {H:Hp}{l:Addr}{o:HO}(n:H l=none):Same H (upd H l o):=fun b u e=>by rw [ak (ar e n)];exact e
structure qA (K:PySem.W.Frag)(C:Addr):Prop where
 cls:Cls K C
 n1:NoAttr K C "at_first"
 n2:NoAttr K C "wants"
 n3:NoAttr K C "changes"
def PairsAt (H:Hp)(v:V)(cs:List (Nat×Int)):Prop:=∃ (a:Addr) (vs:List V),v=.ref a/\H a=some (.lst vs)/\vs.length=cs.length/\∀ (i:Nat) (x:V) (c:Nat×Int),vs[i]? = some x->cs[i]? = some c->∃ t:Addr,x=.ref t/\H t=some (.tup [.int ((c.1:Nat):Int),.int c.2])
theorem PairsAt.same {H H':Hp}{v:V}{cs:List (Nat×Int)}(s:Same H H')(p:PairsAt H v cs):PairsAt H' v cs:=by
 obtain⟨a,vs,e,h,l,f⟩:=p;exact⟨a,vs,e,s _ _ h,l,fun i x c a b=>(f i x c a b).imp fun t z=>⟨z.1,s _ _ z.2⟩⟩
def RowsP (H:Hp)(a:Addr)(cs:List (List (Nat×Int))):Prop:=∃ vs:List V,H a=some (.lst vs)/\vs.length=cs.length/\∀ (i:Nat) (x:V) (c:List (Nat×Int)),vs[i]? = some x->cs[i]? = some c->PairsAt H x c
theorem RowsP.same {H H':Hp}{a:Addr}{cs:List (List (Nat×Int))}(s:Same H H')(p:RowsP H a cs):RowsP H' a cs:=by
 obtain⟨vs,h,l,f⟩:=p;exact⟨vs,s _ _ h,l,fun i x c a b=>(f i x c a b).same s⟩
inductive DoorsAt (C:Addr)(H:Hp)(d:Addr)(h:Hs)(ks:List Str):Prop
 | mk (dx l w c:Addr) (fs:List (Str×V)):H d=some (.ins C dx fs)->fs.lookup ("at_first" : Str)=some (.ref l)->fs.lookup ("wants" : Str)=some (.ref w)->fs.lookup ("changes" : Str)=some (.ref c)->fs.lookup ("hand_with" : Str)=none->fs.lookup ("next_behind" : Str)=none →
  H l=some (.lst ((gf ks h.1).map V.int))->RowsP H w (h.2.map (d9 ks))->RowsP H c (h.2.map (jw ks))->DoorsAt C H d h ks
theorem DoorsAt.same {C:Addr}{H H':Hp}{d:Addr}{h:Hs}{ks:List Str}(s:Same H H')(p:DoorsAt C H d h ks):DoorsAt C H' d h ks:=by
 obtain⟨dx,l,w,c,fs,h1,h2,h3,h4,h5,h6,h7,h8,h9⟩:=p;exact⟨dx,l,w,c,fs,s _ _ h1,h2,h3,h4,h5,h6,s _ _ h7,h8.same s,h9.same s⟩
def nN:Sp:=fun vs H Q _=>∃ (m i:Nat),vs=[.int (m:Int),.int (i:Int)]/\i<=1000/\∀ H',Same H H'->Q (.int ((m ||| 2 ^ i:Nat):Int)) H'
def acJ:Sp:=fun vs H Q _=>∃ (o:List Nat) (i:Nat),vs=[.int ((aY o:Nat):Int),.int (i:Int)]/\∀ H',Same H H'->Q (.bl (decide (i∈o))) H'
def vL (C:Addr):Sp:=fun vs H Q _=>∃ (d a:Addr) (i:Nat) (h:Hs) (ks hand:List Str) (r:Rm),vs=[.ref d,.ref a,.int (i:Int)]/\DoorsAt C H d h ks/\h.2[i]? = some r/\H a=some (.lst ((gf ks hand).map V.int))/\iT hand r.1=true/\h.2.length<=1000/\ks.length<=63/\∀ b H',Same H H'->H b=none->H' b=some (.lst ((gf ks (f7 hand r)).map V.int))->Q (.ref b) H'
inductive HwI (d a b:Addr)(i:Nat)(hand ks:List Str)(r:Rm)(H:Hp)(j:Nat)(σ:L2.St)(H':Hp):Prop
 | mk (x4 x5:Option V):σ=[some (.ref d),some (.ref a),some (.int (i:Int)),some (.ref b),x4,x5]->H' b=some (.lst ((xB (gf ks hand) ((jw ks r).take j)).map V.int))->Same H H'->HwI d a b i hand ks r H j σ H'
section
variable {P:Program}{w:World}{K:PySem.W.Frag}{mg:Str->Option Value}{base:Heap}
theorem qF:az ["opened","number"] ["opened","number"] (ai hZ):=scM rfl rfl rfl rfl (by decide +kernel)
theorem aaD {f:Addr}{fd:FuncData}(F:Fun K "with_room" "with_room" hZ f fd):FnOk P w K mg base CX0 1 f fd ["opened","number"] nN:=by
 refine F.ok qF (fun vs H Q E h=>?_) (fun cdv A outer s H vs Q E hr h=>?_)
 ·obtain⟨m,i,rfl,_⟩:=h
  rfl
 ·have hu:=eM hr;obtain⟨m,i,rfl,hi,q⟩:=h;refine⟨_,(aq (aJ (bj ads (pv 0) (bj aai aj (pv 1))))),?_⟩;have e:(m ||| 2 ^ i:Nat)=(Builtin.bitOr (m:Int) (1 * 2 ^ (i:Int).toNat)):=by
   rw [aeY,Int.one_mul,show ((2:Int) ^ i)=((2 ^ i:Nat):Int) by simp,yd]
  refine⟨_,rfl,_,rfl,1,(i:Int),rfl,rfl,⟨by lia,by lia,by decide⟩,(m:Int),_,rfl,rfl,?_⟩;have:=q H (Same.refl H);rw [e] at this;exact this
theorem rE:az ["opened","number"] ["opened","number"] (ai i8):=scM rfl rfl rfl rfl (by decide +kernel)
theorem acr {f:Addr}{fd:FuncData}(F:Fun K "has_room" "has_room" i8 f fd):FnOk P w K mg base CX0 1 f fd ["opened","number"] acJ:=by
 refine F.ok rE (fun vs H Q E h=>?_) (fun cdv A outer s H vs Q E hr h=>?_)
 ·obtain⟨m,i,rfl,_⟩:=h
  rfl
 ·have hu:=eM hr;obtain⟨o,i,rfl,q⟩:=h;refine⟨_,(aq (aJ (eh vw (bj acf (bj acC (pv 0) (pv 1)) aj) aj (bM _)))),?_⟩;refine⟨_,rfl,_,rfl,_,_,rfl,rfl,by lia,_,_,rfl,rfl,rfl,?_⟩;have e:decide (V.int (Builtin.bitAnd (((aY o:Nat):Int) / 2 ^ ((i:Int)).toNat) 1)=V.int 1)=decide (i∈o):=by
   by_cases hi:i∈o
   ·rw [aeP hi,wM,if_pos hi];exact aeP rfl
   ·rw [aeO hi,wM,if_neg hi];exact aeO (fun z=>by cases z)
  have:=q H (Same.refl H);rw [← e] at this;exact this
theorem cz:az ["self","hand","number","behind","place","change"] ["self","hand","number"] (ai df):=scM rfl rfl rfl rfl (by decide +kernel)
theorem zD {f:Addr}{fd:FuncData}{C:Addr}(F:Fun K "hand_with" "Doors.hand_with" df f fd)(DC:qA K C)(cF:mg "list" = none):FnOk P w K mg base CX0 1 f fd ["self","hand","number"] (vL C):=by
 refine F.ok cz (fun vs H Q E h=>?_) (fun cdv A outer s H vs Q E hr h=>?_)
 ·obtain⟨d,a,i,h,ks,hand,r,rfl,_⟩:=h
  rfl
 ·have hu:=eM hr;obtain⟨d,a,i,h,ks,hand,r,rfl,D,hi,ha,hm,hl,hk,q⟩:=h;refine⟨_,(ag (aw (i:=3) cz.nd rfl (.inl rfl) (di hE rfl cF (by decide +kernel) (ae (pv 1) ah)))
   (ag (bz (cQ aeX rfl (aQ (aN aS (xJ (pv 0) rfl) (pv 2) (fun _ _=>rfl))) (gW rfl (ay (au (i:=4) cz.nd rfl (.inl rfl)) (ay (au (i:=5) cz.nd rfl (.inl rfl)) cD)))
    (aq (aaM (pv 3) (pv 4) zI (pv 5) wV oE))))
   (aq (aJ (pv 3))))),?_⟩
  refine⟨_,rfl,a,_,rfl,.inl (aAA ha),fun b nb=>?_⟩;obtain⟨dx,l,w',c,fs,h1,h2,h3,h4,h5,h6,h7,h8,vs,h9,hvl,hvs⟩:=D;have hiv:i < vs.length:=by have:=(aek.mp hi).1;rw [hvl,aej];exact this
  obtain⟨ca,us,ev,hca,ul,hus⟩:=hvs i vs[i] (jw ks r) (aeh hiv) (by rw [aer,hi];rfl);have s1:Same H (upd H b (.lst ((gf ks hand).map V.int))):=ao nb;have e1:(upd H b (.lst ((gf ks hand).map V.int))) b=some (.lst ((gf ks hand).map V.int)):=af;generalize upd H b (.lst ((gf ks hand).map V.int))=H1 at *;have cb:ca≠b:=ar hca nb;refine⟨HwI d a b i hand ks r H us.length,?_,?_⟩
  ·rintro σ H2 ⟨x4,x5,rfl,e2,s2⟩;rw [ul,ae0,zT hm] at e2;exact⟨_,rfl,q b H2 s2 nb e2⟩
  ·refine⟨_,rfl,d,C,dx,fs,_,rfl,s1 _ _ h1,DC.cls,DC.n3,h4,_,rfl,c,vs,_,_,rfl,rfl,aAA (s1 _ _ h9),bq (aeh hiv),ca,ev,⟨_,aAA (s1 _ _ hca)⟩,?_⟩;refine dI (xs:=us) (fun j σ' H'=>HwI d a b i hand ks r H j σ' H') ⟨none,none,rfl,e1,s1⟩ (fun j σ H' _ ⟨_,_,_,_,sm⟩=>aAA (sm _ _ hca)) ?_ (fun σ H' z=>z);rintro j x σ H2 hx ⟨x4,x5,rfl,e2,s2⟩;have hj:j < (jw ks r).length:=by rw [← ul];exact (aek.mp hx).1
   obtain⟨t,rfl,ht⟩:=hus j x _ hx (aeh hj);generalize ec:(jw ks r)[j]=cc at *;have tk:(jw ks r).take (j+1)=(jw ks r).take j++[cc]:=by rw [aeT,aeh hj,ec];rfl
   have hp:cc.1 < ks.length:=by
    have:cc∈jw ks r:=by rw [← ec];exact aeS hj
    obtain⟨p,hp,rfl⟩:=aeL.mp this;exact afZ.mp (afj.mp hp).1
   have vl:(xB (gf ks hand) ((jw ks r).take j)).length=ks.length:=by rw [t7,pE]
   refine⟨t,_,rfl,aAB (s2 _ _ ht),rfl,?_⟩;have hg:((xB (gf ks hand) ((jw ks r).take j)).map V.int)[cc.1]? = some (.int ((xB (gf ks hand) ((jw ks r).take j)).getD cc.1 0)):=by
    rw [aer,ae3,aeh (by rw [vl];exact hp)]
    rfl
   refine⟨_,_,rfl,_,_,rfl,rfl,?_⟩;refine⟨_,rfl,_,rfl,b,_,cc.1,_,rfl,rfl,aAA e2,hg,_,rfl,_,_,rfl,rfl,b,_,_,cc.1,rfl,rfl,e2,?_,?_⟩
   ·unfold ixN;rw [if_pos (by lia),if_pos (by rw [aej,vl];lia)];simp
   ·refine⟨_,_,rfl,?_,fun z u e=>?_⟩
    ·rw [af,tk,qC,List.map_set]
    ·rw [ak (ar e nb)];exact s2 _ _ e
def vF (h:Hs):Prop:=∀ L:List Str,L.Nodup->(∀ k∈L,∃ r∈h.2,k∈r.1)->L.length<=63
def abC (H H':Hp):Hp:=fun b=>match H b with | some _=>none | none=>H' b
theorem xI {H H':Hp}{b:Addr}{o:HO}(n:H b=none)(e:H' b=some o):abC H H' b=some o:=by unfold abC;rw [n];exact e
inductive CpI (D:Addr)(pb:Nat->Bool)(gv:Nat->Int)(H:Hp)(i:Nat)(ys:List V)(H':Hp):Prop
 | mk:H' D=some (.lst ys)->Same H H'->ys.length=((List.range i).filter pb).length->(∀ (j:Nat) (x:V) (c:Nat×Int),ys[j]? = some x->(((List.range i).filter pb).map fun p=>(p,gv p))[j]? = some c->∃ T:Addr,x=.ref T/\H T=none/\T≠D/\H' T=some (.tup [.int ((c.1:Nat):Int),.int c.2]))->CpI D pb gv H i ys H'
theorem og {K:PySem.W.Frag}{nl:Nat}{ix:List Nat}{tf:TT}{te:TE}{σ:L2.St}{H1:Hp}{D a:Addr}{Q:VK}{ks:List Str}{pb:Nat->Bool}{gv:Nat->Int}(ha:H1 a=some (.lst (ks.map V.str)))(nD:H1 D=none)(few:ks.length<=63)
 (hc:∀ x y,(((cP nl ix σ).set 0 (some x)).set 1 (some y)).drop nl=ix.map fun j=>(σ[j]?).join)
 (ht:∀ (H:Hp) (p:Nat) (R:Bool->Hp->Prop),p < ks.length->Same H1 H->R (pb p) H->tf (((cP nl ix σ).set 0 (some (.int ((p:Nat):Int)))).set 1 (some (.str (kAt ks p)))) H R)
 (he:∀ (H:Hp) (p:Nat) (R:VK),p < ks.length->Same H1 H->(∀ T,H T=none->R (.ref T) (upd H T (.tup [.int ((p:Nat):Int),.int (gv p)])))->te (((cP nl ix σ).set 0 (some (.int ((p:Nat):Int)))).set 1 (some (.str (kAt ks p)))) H R)
 (hd:∀ H' x,Same H1 H'->PairsAt (abC H1 H') x (((List.range ks.length).filter pb).map fun p=>(p,gv p))->Q x H'):jF nl ix (acm K 2 (tw (cI 0) (tw (cI 1) acT))) tf te σ (ItE K a) H1 D Q:=by
 have lim:1000000 < sizeLine:=by decide
 refine qf (xs:=ks.map V.str) (CpI D pb gv H1) (.mk af (ao nD) rfl (fun j x c e=>nomatch e)) (fun i ys H' ⟨e,_,_,_⟩=>e) (fun i ys H' ⟨_,s,_,_⟩=>aAA (s _ _ ha)) ?_ ?_
 ·rintro i ys H x T hx ⟨hD,s,yl,al⟩ nT;have hi':i < (ks.map V.str).length:=(aek.mp hx).1;have hi:i < ks.length:=by rwa [aej] at hi'
  rw [aer,vU hi] at hx;cases hx;have s2:Same H (upd H T (.tup [.int (i:Int),.str (kAt ks i)])):=ao nT;have e2:(upd H T (.tup [.int (i:Int),.str (kAt ks i)])) T=some (.tup [.int (i:Int),.str (kAt ks i)]):=af;generalize upd H T (.tup [.int (i:Int),.str (kAt ks i)])=H2 at *;have lf:((List.range i).filter pb).length<=i:=aeN (af4 _ _) (by rw [afv];exact aep _);refine⟨T,_,rfl,aAB e2,rfl,?_⟩;refine⟨_,_,rfl,_,_,rfl,rfl,⟨by simp,hc _ _⟩,?_⟩;refine ht H2 i _ hi (s.trans s2) ?_;have al2:∀ (j:Nat) (x:V) (c:Nat×Int),ys[j]? = some x->(((List.range i).filter pb).map fun p=>(p,gv p))[j]? = some c->∃ T:Addr,x=.ref T/\H1 T=none/\T≠D/\H2 T=some (.tup [.int ((c.1:Nat):Int),.int c.2]):=fun j x c e1 e2=>by
   obtain⟨T,e,n,nd,hT⟩:=al j x c e1 e2;exact⟨T,e,n,nd,s2 _ _ hT⟩
  cases eb:pb i with
  | true =>
   refine ju ?_;refine he H2 i _ hi (s.trans s2) fun T2 nT2=>?_;have hD2:=s2 _ _ hD;have ne:T2≠D:=fun z=>by subst z;rw [hD2] at nT2;cases nT2
   have n1:H1 T2=none:=(s.trans s2).free nT2;have rs':(List.range (i+1)).filter pb=(List.range i).filter pb++[i]:=by rw [agk,afl];simp [eb]
   refine⟨by rw [ak (fun z=>ne z.symm)];exact hD2,by lia,nx hi' (.mk af (fun b u e=>?_) (by rw [rs',aeo,aeo,yl];rfl) fun j x c ey ec=>?_)⟩
   ·rw [ak (ar e nD),ak (ar e n1)];exact s2 _ _ (s _ _ e)
   ·rw [rs',aeD] at ec;by_cases hj:j < ys.length
    ·rw [aeQ hj] at ey;rw [aeQ (by rw [aej,← yl];exact hj)] at ec;obtain⟨T,e,n,nd,hT⟩:=al2 j x c ey ec;exact⟨T,e,n,nd,by rw [ak nd,ak (ar hT nT2)];exact hT⟩
    ·rw [aeJ (by lia)] at ey;rw [aeJ (by rw [aej,← yl];lia),aej,← yl] at ec;have:j - ys.length=0:=by
      have:=(aek.mp ey).1;simp at this;lia
     rw [this] at ey ec;cases ey;cases ec;exact⟨T2,rfl,n1,ne,by rw [ak ne,af]⟩
  | false =>
   refine gK ?_;have rs':(List.range (i+1)).filter pb=(List.range i).filter pb:=by rw [agk,afl];simp [eb]
   exact nx hi' (.mk (s2 _ _ hD) (s.trans s2) (by rw [rs'];exact yl) (by rw [rs'];exact al2))
 ·rintro ys H ⟨hD,s,yl,al⟩;rw [aej] at yl al;refine hd H (.ref D) s ⟨D,ys,rfl,xI nD hD,by rw [aej];exact yl,fun j x c e1 e2=>?_⟩;obtain⟨T,e,n,nd,hT⟩:=al j x c e1 e2;exact⟨T,e,xI n hT⟩
def ck (D:Addr)(H:Hp):Hp:=fun b=>if b=D then none else H b
theorem fQ {D:Addr}{H:Hp}:Same (ck D H) H:=fun b u e=>by
 unfold ck at e;split at e
 ·cases e
 ·exact e
theorem yE {D:Addr}{H H':Hp}{o:HO}(s:Same H H'):Same (ck D H) (ck D (upd H' D o)):=fun b u e=>by
 unfold ck at e ⊢;split at e
 ·cases e
 ·rename_i hb;rw [if_neg hb,ak hb];exact s _ _ e
theorem zd {D:Addr}{H H':Hp}{o o':HO}(h:H D=some o):Same (abC H H') (ck D (upd H' D o')):=fun b u e=>by
 unfold abC at e;split at e
 ·cases e
 ·rename_i hb;have nb:b≠D:=fun z=>by subst z;rw [h] at hb;cases hb
  unfold ck;rw [if_neg nb,ak nb];exact e
inductive CrI (D:Addr)(cs:List (List (Nat×Int)))(H:Hp)(i:Nat)(ys:List V)(H':Hp):Prop
 | mk:H' D=some (.lst ys)->Same H H'->ys.length=(cs.take i).length->(∀ (j:Nat) (x:V) (c:List (Nat×Int)),ys[j]? = some x->cs[j]? = some c->PairsAt (ck D H') x c)->CrI D cs H i ys H'
theorem oq {K:PySem.W.Frag}{nl:Nat}{ix:List Nat}{te:TE}{σ:L2.St}{H1:Hp}{D a:Addr}{Q:VK}{vs:List V}{rs:List Rm}{F:Rm->List (Nat×Int)}(ha:H1 a=some (.lst vs))(hR:RoomsAt H1 vs rs)(nD:H1 D=none)(hl:rs.length<=1000)
 (hc:∀ x y,(((cP nl ix σ).set 0 (some x)).set 1 (some y)).drop nl=ix.map fun j=>(σ[j]?).join)
 (he:∀ (H:Hp) (r:Rm) (la lb:Addr) (R:VK),r∈rs->H la=some (.lst (r.1.map V.str))->H lb=some (.lst (r.2.map V.str))->Same H1 H->(∀ H' x,Same H H'->PairsAt (abC H H') x (F r)->R x H')->te (((cP nl ix σ).set 0 (some (.ref la))).set 1 (some (.ref lb))) H R)
 (hd:∀ H',Same H1 H'->RowsP H' D (rs.map F)->Q (.ref D) H'):jF nl ix (acm K 2 (tw (cI 0) (tw (cI 1) acT))) vG te σ (Itl K a) H1 D Q:=by
 have lim:1000000 < sizeLine:=by decide
 have vl:=hR.1;refine dU (xs:=vs) (CrI D (rs.map F) H1) (.mk af (ao nD) rfl (fun j x c e=>nomatch e)) (fun i ys H' ⟨e,_,_,_⟩=>e) (fun i ys H' ⟨_,s,_,_⟩=>aAA (s _ _ ha)) ?_ ?_
 ·rintro i ys H x hx ⟨hD,s,yl,al⟩;have hi:i < vs.length:=(aek.mp hx).1;have hri:i < rs.length:=by lia
  obtain⟨t,la,lb,rfl,ht,hla,hlb⟩:=hR.2 i x _ hx (aeh hri);have yl':ys.length=i:=by rw [yl,aeK,aej];lia
  refine⟨t,_,rfl,aAB (s _ _ ht),rfl,?_⟩;refine⟨_,_,rfl,_,_,rfl,rfl,⟨by simp,hc _ _⟩,?_⟩;unfold vG;dsimp only;refine ju (B:=False) ?_;refine he H rs[i] la lb _ (aeS hri) (s _ _ hla) (s _ _ hlb) s fun H2 x s2 pa=>?_;refine⟨s2 _ _ hD,by lia,nx hi (.mk af (fun b u e=>by rw [ak (ar e nD)];exact s2 _ _ (s _ _ e)) ?_ fun j y c ey ec=>?_)⟩
  ·rw [aeo,yl',aeK,aej];simp;lia
  ·by_cases hj:j < ys.length
   ·rw [aeQ hj] at ey;exact (al j y c ey ec).same (yE s2)
   ·rw [aeJ (by lia)] at ey;have z:j - ys.length=0:=by
     have:=(aek.mp ey).1;simp at this;lia
    have ji:j=i:=by lia
    rw [z] at ey;cases ey;subst ji;rw [aer,aeh hri] at ec;cases ec;exact pa.same (zd hD)
 ·rintro ys H ⟨hD,s,yl,al⟩;refine hd H s ⟨ys,hD,?_,fun j x c e1 e2=>(al j x c e1 e2).same fQ⟩;rw [yl,aeK,aej];lia
inductive SwI (P:Program)(w:World)(D:Addr)(rs:List Rm)(H:Hp)(i m:Nat)(ys:List Str)(H':Hp):Prop
 | mk:m=rs.length - i->i<=rs.length->H' D=some (kr P w D ys)->Same H H'->ys.Nodup->(∀ k,k∈ys↔∃ r∈rs.take i,k∈r.1)->SwI P w D rs H i m ys H'
inductive SvI (P:Program)(w:World)(D:Addr)(rs:List Rm)(H:Hp)(i:Nat)(r:Rm)(j m:Nat)(ys:List Str)(H':Hp):Prop
 | mk:m=r.1.length - j->j<=r.1.length->H' D=some (kr P w D ys)->Same H H'->ys.Nodup->(∀ k,k∈ys↔(∃ r∈rs.take i,k∈r.1)\/k∈r.1.take j)->SvI P w D rs H i r j m ys H'
theorem rG {P:Program}{w:World}{K K':PySem.W.Frag}{te:TE}{σ:L2.St}{H:Hp}{a:Addr}{Q:VK}{vs:List V}{h:Hs}(ht:∀ R,R (.ref a) H->te σ H R)(ha:H a=some (.lst vs))(hR:RoomsAt H vs h.2)(few:vF h)
 (hd:∀ D ss H',Same H H'->H D=none->H' D=some (kr P w D ss)->ss.Nodup->(∀ k,k∈ss↔∃ r∈h.2,k∈r.1)->Q (.ref D) H'):sP P w 3 [] (yY K te) (acm K' 2 (tw (cI 0) (tw (cI 1) acT))) (yY K' (abE 0)) (cI 2) (abE 2) σ H Q:=by
 have lim:70 < scanBound:=by decide
 have vl:=hR.1;refine ht _ ⟨a,rfl,⟨_,aAA ha⟩,fun D nD=>?_⟩;refine⟨SwI P w D h.2 H,⟨_,.mk rfl (aeM _) af (ao nD) .nil (fun k=>by simp)⟩,?_⟩;rintro i m ys H2 ⟨rfl,hi,hD,s,nd,mem⟩;refine⟨hD,?_⟩;by_cases hlt:i < h.2.length
 ·refine .inr ⟨⟨vs,vs[i]'(by lia),aAA (s _ _ ha),by simp⟩,fun x H3 y=>?_⟩;obtain⟨e,y⟩:=y;subst e;have hx:=y vs (aAA (s _ _ ha));obtain⟨t,la,lb,rfl,ht',hla,hlb⟩:=hR.2 i x _ hx (aeh hlt);refine⟨t,_,rfl,aAB (s _ _ ht'),rfl,?_⟩;refine⟨_,_,rfl,_,_,rfl,rfl,⟨rfl,rfl⟩,?_⟩;refine⟨_,rfl,la,rfl,⟨_,aAA (s _ _ hla)⟩,?_⟩;refine⟨SvI P w D h.2 H i h.2[i],⟨_,.mk rfl (aeM _) hD s nd (fun k=>by rw [mem k];simp)⟩,?_⟩;rintro j m2 ys2 H6 ⟨rfl,hj,hD6,s6,nd6,mem6⟩;refine⟨hD6,?_⟩;by_cases hjl:j < (h.2[i]).1.length
  ·refine .inr ⟨⟨_,.str ((h.2[i]).1[j]),aAA (s6 _ _ hla),by simp [hjl]⟩,fun x2 H7 y2=>?_⟩;obtain⟨e,y2⟩:=y2;subst e;have hx2:=y2 _ (aAA (s6 _ _ hla));rw [aer,aeh hjl] at hx2;cases hx2;have sub:∀ k,k∈ys2->∃ r∈h.2,k∈r.1:=fun k hk=>by
    rcases (mem6 k).mp hk with ⟨r,hr,hk⟩ | hk
    ·exact⟨r,afo hr,hk⟩
    ·exact⟨_,aeS hlt,afo hk⟩
   refine⟨⟨rfl,?_⟩,?_⟩
   ·intro z v e
    match z,e with
    | 0,e=>exact e
    | 1,e=>exact e
    | 2,e=>cases e
    | z+3,e=>cases e
   ·refine⟨_,rfl,(h.2[i]).1[j],rfl,hD6,by have:=few ys2 nd6 sub;lia,fun ys' hy nd'=>⟨_,?_,.mk rfl hjl af (fun b u e=>by rw [ak (ar e nD)];exact s6 _ _ e) nd' fun k=>?_⟩⟩
    ·lia
    ·have tk:(h.2[i]).1.take (j+1)=(h.2[i]).1.take j++[(h.2[i]).1[j]]:=by rw [aeT,aeh hjl];rfl
     rw [tk,aew,← or_assoc,← mem6 k,aeq];rcases hy with ⟨hk,rfl⟩ | ⟨hk,hp⟩
     ·constructor
      ·exact Or.inl
      ·rintro (z | rfl)
       ·exact z
       ·exact hk
     ·rw [hp.mem_iff,aew,aeq]
  ·have ej:j=(h.2[i]).1.length:=by lia
   subst ej;refine .inl ⟨⟨_,aAA (s6 _ _ hla),by simp⟩,_,?_,.mk rfl hlt hD6 s6 nd6 fun k=>?_⟩
   ·lia
   ·rw [mem6 k,ae0,aeT,aeh hlt];simp only [aew,Option.toList,aeq];constructor
    ·rintro (⟨r,hr,hk⟩ | hk)
     ·exact⟨r,.inl hr,hk⟩
     ·exact⟨_,.inr rfl,hk⟩
    ·rintro⟨r,hr | rfl,hk⟩
     ·exact .inl ⟨r,hr,hk⟩
     ·exact .inr hk
 ·have ei:i=h.2.length:=by lia
  subst ei;refine .inl ⟨⟨vs,aAA (s _ _ ha),by lia⟩,hd D ys H2 s nD hD nd fun k=>?_⟩;rw [mem k,ae0]
abbrev rmD (rs:List Rm)(i:Nat):Rm:=(rs[i]?).getD ([],[])
theorem next_iffD {rs:List Rm}{hand:List Str}{o:List Nat}{i:Nat}:i∈jH rs hand o↔i < rs.length/\i ∉ o/\iT hand (rmD rs i).1=true:=by
 unfold jH;rw [afj,afZ,ae2,ain,decide_eq_false_iff_not]
theorem bQ (ks:List Str)(rs:List Rm):cf ks rs []:=fun j i e=>by simp at e
theorem aF {ks:List Str}{rs:List Rm}{o:List Nat}{i:Nat}(g:cf ks rs o)(hi:i∈jH rs (aL ks rs o) o):cf ks rs (o++[i]):=by
 intro j k e;obtain⟨h1,h2,h3⟩:=next_iffD.mp hi;by_cases hj:j < o.length
 ·rw [aeQ hj] at e;rw [aft (by lia)];exact g j k e
 ·rw [aeJ (by lia)] at e;have:j - o.length=0:=by
   have:=(aek.mp e).1;simp at this;lia
  rw [this] at e;cases e;have ej:j=o.length:=by lia
  subst ej;rw [aft (aep _),ae0];exact⟨h1,h2,h3⟩
theorem cj {ks:List Str}{rs:List Rm}{o:List Nat}{i:Nat}(g:cf ks rs (o++[i])):cf ks rs o/\i∈jH rs (aL ks rs o) o:=by
 constructor
 ·intro j k e;have hj:j < o.length:=(aek.mp e).1;have:=g j k (by rw [aeQ hj];exact e);rw [aft (by lia)] at this;exact this
 ·have:=g o.length i (by simp);rw [aft (aep _),ae0] at this;exact next_iffD.mpr this
theorem lZ {p:List Nat->Prop}(h0:p [])(hs:∀ o i,p o->p (o++[i]))(o:List Nat):p o:=by
 have go:∀ n (o:List Nat),o.length=n->p o:=fun n=>by
  induction n with
  | zero=>intro o e;rw [agT e];exact h0
  | succ n ih =>
   intro o e;rcases ahB o with z | ⟨r,y,z⟩
   ·subst z;cases e
   ·rw [ahC] at z;subst z;exact hs r y (ih r (by simpa using e))
 exact go _ o rfl
theorem aV {ks:List Str}{rs:List Rm}:∀ o,cf ks rs o->o.Nodup:=by
 refine lZ (fun _=>.nil) fun o i ih g=>?_;obtain⟨g1,g2⟩:=cj g;rw [afK];refine⟨ih g1,by simp,fun a ha b hb=>?_⟩;rw [aeq] at hb;subst hb;exact fun z=>(next_iffD.mp g2).2.1 (z▸ha)
theorem fO {ks:List Str}{rs:List Rm}:∀ o,cf ks rs o->∀ i∈o,i < rs.length:=by
 refine lZ (fun _ i z=>nomatch z) fun o i ih g k hk=>?_;obtain⟨g1,g2⟩:=cj g;rcases aew.mp hk with z | z
 ·exact ih g1 k z
 ·rw [aeq] at z;subst z;exact (next_iffD.mp g2).1
theorem dH:∀ {n:Nat} {o:List Nat},o.Nodup->(∀ i∈o,i < n)->o.length<=n
 | 0,[],_,_=>aep _
 | 0,a::_,_,lt=>absurd (lt a (aev ..)) (by lia)
 | n+1,o,nd,lt=>by
  have ih:=dH (n:=n) (o:=o.erase n) (nd.erase n) fun i hi=>by
   have:=lt i (ai7 hi);have:i≠n:=fun z=>by subst z;exact (nd.not_mem_erase) hi
   lia
  by_cases hn:n∈o
  ·rw [air hn] at ih;lia
  ·rw [List.erase_of_not_mem hn] at ih;lia
theorem iN {ks:List Str}{rs:List Rm}{o:List Nat}(g:cf ks rs o):o.length<=rs.length:=dH (aV o g) (fO o g)
theorem aaR {hand:List Str}{r:List Str}(m:iT hand r=true)(k:Str):r.count k<=hand.count k:=by
 by_cases hk:k∈r
 ·unfold iT at m;rw [ae1] at m;exact afL (m _ hk)
 ·rw [aga hk];exact aeM _
theorem lI {ks:List Str}{rs:List Rm}(k:Str):∀ o,cf ks rs o->(aL ks rs o).count k+(o.flatMap fun i=>(rmD rs i).1).count k=ks.count k+(o.flatMap fun i=>(rmD rs i).2).count k:=by
 refine lZ (fun _=>by simp [aL]) fun o i ih g=>?_;obtain⟨g1,g2⟩:=cj g;have:=ih g1;have le:=aaR (next_iffD.mp g2).2.2 k;rw [jq,List.flatMap_append,List.flatMap_append,agg,agg];unfold f7;rw [agg,cZ];simp only [List.flatMap_cons,List.flatMap_nil,ae6];show (aL ks rs o).count k - (rmD rs i).1.count k+(rmD rs i).2.count k+_=_;lia
theorem ox {ks:List Str}{rs:List Rm}{o o':List Nat}(g:cf ks rs o)(g':cf ks rs o')(p:o.Perm o'):(aL ks rs o).Perm (aL ks rs o'):=by
 rw [List.perm_iff_count];intro k;have a:=lI k o g;have b:=lI k o' g';have c:=(p.flatMap_right fun i=>(rmD rs i).1).count_eq k;have d:=(p.flatMap_right fun i=>(rmD rs i).2).count_eq k;lia
theorem nO {rs:List Rm}{hd hd':List Str}{o o':List Nat}(p:hd.Perm hd')(q:o.Perm o'):jH rs hd o=jH rs hd' o':=by
 unfold jH;apply ag9;intro i _;have e1:decide (i∈o)=decide (i∈o'):=af9.mpr q.mem_iff;have e2:∀ l,iT hd l=iT hd' l:=fun l=>by
  unfold iT;congr 1;funext x;rw [p.count_eq]
 rw [e1,e2]
structure LevL (h:Hs)(n:Nat)(L:List (List Nat)):Prop where
 gone:∀ o∈L,cf h.1 h.2 o
 len:∀ o∈L,o.length=n
 nd:(L.map aY).Nodup
abbrev aZ (h:Hs)(o:List Nat):List Nat:=jH h.2 (aL h.1 h.2 o) o
theorem LevL.nil (h:Hs)(n:Nat):LevL h n []:=⟨fun o z=>absurd z afb,fun o z=>absurd z afb,ajm⟩
theorem LevL.snoc {h:Hs}{n:Nat}{M:List (List Nat)}(l:LevL h (n+1) M){o:List Nat}{i:Nat}(g:cf h.1 h.2 o)(e:o.length=n)(hi:i∈aZ h o)(no:aY (o++[i]) ∉ M.map aY):LevL h (n+1) (M++[o++[i]]):=by
 refine⟨fun x hx=>?_,fun x hx=>?_,?_⟩
 ·rcases aew.mp hx with z | z
  ·exact l.gone x z
  ·rw [aeq] at z;subst z;exact aF g hi
 ·rcases aew.mp hx with z | z
  ·exact l.len x z
  ·rw [aeq] at z;subst z;simp [e]
 ·rw [aeD,afK];refine⟨l.nd,by simp,fun a ha b hb=>?_⟩;rw [List.map_singleton,aeq] at hb;subst hb;exact fun z=>no (z▸ha)
def abD (h:Hs)(n:Nat)(L:List (List Nat)):Prop:=∀ o,cf h.1 h.2 o->o.length=n->aY o∈L.map aY
theorem wD (h:Hs):abD h 0 [[]]:=fun o g e=>by
 rw [agT e];simp
theorem wA {h:Hs}{n:Nat}{L M:List (List Nat)}(l:LevL h n L)(a:abD h n L)(k:∀ o∈L,∀ i∈aZ h o,aY (o++[i])∈M.map aY):abD h (n+1) M:=fun o' g e=>by
 rcases ahB o' with z | ⟨o,i,z⟩
 ·subst z;cases e
 ·rw [ahC] at z;subst z;obtain⟨g1,g2⟩:=cj g;obtain⟨o1,m1,e1⟩:=aeL.mp (a o g1 (by simpa using e));have p:=eI (aV o1 (l.gone o1 m1)) (aV o g1) e1;have g3:i∈aZ h o1:=by
   unfold aZ;rw [nO (ox (l.gone o1 m1) g1 p) p];exact g2
  have:=k o1 m1 i g3;rw [cN,e1,← cN] at this;exact this
theorem wJ {h:Hs}{n:Nat}{L:List (List Nat)}(l:LevL h n L)(ne:L≠[]):n<=h.2.length:=by
 cases L with
 | nil=>exact absurd rfl ne
 | cons o r=>rw [← l.len o (aev ..)];exact iN (l.gone o (aev ..))
theorem vZ {h:Hs}{n:Nat}{L:List (List Nat)}(l:LevL h n L):L.length<=2 ^ h.2.length:=by
 have:(L.map aY).length<=2 ^ h.2.length:=dH l.nd fun i hi=>by
  obtain⟨o,ho,rfl⟩:=aeL.mp hi;exact rL (fO o (l.gone o ho))
 simpa using this
def zX (C:Addr):Sp:=fun vs H Q _=>∃ (d dx:Addr) (v:V) (h:Hs),vs=[.ref d,v]/\HouseAt H v h/\cm h/\vF h/\H d=some (.ins C dx [])/\∀ ks H',ac7 h ks->But d H H'->DoorsAt C H' d h ks->Q .non H'
theorem rQ {d:Addr}{H:Hp}{o:HO}:Same (ck d H) (upd H d o):=fun b u e=>by
 unfold ck at e;split at e
 ·cases e
 ·rename_i hb;rw [ak hb];exact e
theorem kX {d:Addr}{H H':Hp}(s:Same H H'):Same (ck d H) (ck d H'):=fun b u e=>by
 unfold ck at e ⊢;split at e
 ·cases e
 ·rename_i hb;rw [if_neg hb];exact s _ _ e
theorem fk {d b:Addr}{H:Hp}{o:HO}(n:b≠d)(e:H b=some o):ck d H b=some o:=by
 unfold ck;rw [if_neg n];exact e
theorem abv {d:Addr}{H H':Hp}(s:Same (ck d H) H'):But d H H':=fun b u n e=>s _ _ (fk n e)
theorem gG {d b C dx:Addr}{fs:List (Str×V)}{H:Hp}{o:HO}(hd:H d=some (.ins C dx fs))(e:H b=some o)(n:o≠.ins C dx fs):b≠d:=fun z=>by
 subst z;rw [hd] at e;cases e;exact n rfl
theorem PairsAt.off {d C dx:Addr}{fs:List (Str×V)}{H:Hp}{v:V}{cs:List (Nat×Int)}(hd:H d=some (.ins C dx fs))(p:PairsAt H v cs):PairsAt (ck d H) v cs:=by
 obtain⟨a,vs,e,h,l,f⟩:=p;exact⟨a,vs,e,fk (gG hd h (fun z=>nomatch z)) h,l,fun i x c a b=>by
  obtain⟨t,e1,e2⟩:=f i x c a b;exact⟨t,e1,fk (gG hd e2 (fun z=>nomatch z)) e2⟩⟩
theorem RowsP.off {d C dx:Addr}{fs:List (Str×V)}{H:Hp}{a:Addr}{cs:List (List (Nat×Int))}(hd:H d=some (.ins C dx fs))(p:RowsP H a cs):RowsP (ck d H) a cs:=by
 obtain⟨vs,h,l,f⟩:=p;exact⟨vs,fk (gG hd h (fun z=>nomatch z)) h,l,fun i x c a b=>(f i x c a b).off hd⟩
theorem RoomsAt.off {d C dx:Addr}{fs:List (Str×V)}{H:Hp}{vs:List V}{rs:List Rm}(hd:H d=some (.ins C dx fs))(h:RoomsAt H vs rs):RoomsAt (ck d H) vs rs:=⟨h.1,fun i v r a b=>by
 obtain⟨t,x,y,e,h1,h2,h3⟩:=h.2 i v r a b;exact⟨t,x,y,e,fk (gG hd h1 (fun z=>nomatch z)) h1,fk (gG hd h2 (fun z=>nomatch z)) h2,fk (gG hd h3 (fun z=>nomatch z)) h3⟩⟩
theorem oZ (z:Str)(ks:List Str):inV (.str z) (ks.map V.str)=decide (z∈ks):=by
 unfold inV
 induction ks with
 | nil=>rfl
 | cons a r ih =>
  rw [aeG,ahk,ih];show (a == z || decide (z∈r))=_;by_cases e:a=z
  ·subst e;simp
  ·have e':¬ z=a:=fun x=>e x.symm;simp [e,e']
theorem j8 (ks:List Str):(ks.map V.str).all oO=true:=by
 rw [ag2,ae1];intro _ _
 rfl
theorem uy {x y:V}:[x,y].length<=sizeLine:=show 2<=sizeLine by decide
def aef (keys:List Str):V->V:=fun v=>match v with
 | .str k=>.int ((keys.count k:Nat):Int)
 | v=>v
theorem eG:az ["self","house","keys","rooms","kinds"] ["self","house"] (ai aO):=scM rfl rfl rfl rfl (by decide +kernel)
theorem eZ:(["locks","within","kind"]:List Str).Nodup:=by decide +kernel
theorem lE:(["kind","keys"]:List Str).Nodup:=by decide +kernel
theorem dn:(["locks","within","kinds"]:List Str).Nodup:=by decide +kernel
theorem ie:(["place","kind","locks"]:List Str).Nodup:=by decide +kernel
theorem iB:(["place","kind","within","locks"]:List Str).Nodup:=by decide +kernel
theorem zU {f:Addr}{fd:FuncData}{C:Addr}(F:Fun K "__init__" "Doors.__init__" aO f fd)(DC:qA K C)(aU:mg "sorted" = none)(aR:mg "enumerate" = none):FnOk P w K mg base CX0 1 f fd ["self","house"] (zX C):=by
 refine F.ok eG (fun vs H Q E h=>?_) (fun cdv A outer s H vs Q E hr h=>?_)
 ·obtain⟨d,dx,v,h,rfl,_⟩:=h
  rfl
 ·have hu:=eM hr;obtain⟨d,dx,v,h,rfl,⟨t,a,r,vs,rfl,ht,ha,hr',hR⟩,ok,few,hd,q⟩:=h;refine⟨_,(ag (tV (pv 1) (gW rfl (ay (au (i:=2) eG.nd rfl (.inr rfl)) (ay (au (i:=3) eG.nd rfl (.inl rfl)) cD))))
   (ag (aw (i:=4) eG.nd rfl (.inr rfl) (av (gZ rfl) rfl aU agP (ae (acB (P:=P) (w:=w) (tg2:=.Name "kind" _) (outer:=ai (aO)) (N:=["self","house","keys","rooms","kinds"]) (N':=["locks","within","kind"]) (nl:=3) (ix:=[]) rfl rfl rfl (aQ (pv 3))
    (fun _ _ _ _=>(js (K:=K) (n:=2) rfl rfl (ay (au (i:=0) eZ rfl (.inl rfl) (.inr rfl)) (ay (au (i:=1) eZ rfl (.inl rfl) (.inr rfl)) cD)))) (fun _ _ _ _=>(tN (K:=K) rfl (pv 0))) (fun _ _ _ _=>(au (i:=2) eZ rfl (.inl rfl) (.inr rfl)))
    (fun _ _ _ _=>(pv 2))) ah)))
   (ag (wH (pv 0) (iV (tg:=.Name "kind" _) (outer:=ai (aO)) (N:=["self","house","keys","rooms","kinds"]) (N':=["kind","keys"]) (nl:=1) (ix:=[2]) rfl rfl rfl (aQ (pv 4))
    (fun _ _ _ _=>(au (i:=0) lE rfl (.inl rfl) (.inr rfl))) (fun _ _ _ _=>cn)
    (fun _ _ _ _=>(nX (K:=K) rfl aeW afQ afR iP (pv 1) (ae (pv 0) ah)))) rfl)
   (ag (wH (pv 0) (we ["locks"] (outer:=ai (aO)) (N:=["self","house","keys","rooms","kinds"]) (N':=["locks","within","kinds"]) (nl:=2) (ix:=[4]) rfl rfl rfl (aQ (pv 3))
    (fun _ _ _ _=>(js (K:=K) (n:=2) rfl rfl (ay (au (i:=0) dn rfl (.inr rfl) (.inl rfl)) (ay (au (i:=1) dn rfl (.inl rfl) (.inr rfl)) cD)))) (fun _ _ _ _=>cn)
    (fun _ _ _ _=>(iV (outer:=wZ (gj (adP ((bZ aO).getD 3 (.Pass ⟨0,0,0,0⟩)))) (ai (aO))) (N:=["locks","within","kinds"]) (N':=["place","kind","locks"]) (nl:=2) (ix:=[0]) (kH rfl) rfl rfl (t8 (K:=K) rfl rfl aR (ae (pv 2) ah))
    (fun _ _ _ _=>(js (K:=K) (n:=2) rfl rfl (ay (au (i:=0) ie rfl (.inl rfl) (.inr rfl)) (ay (au (i:=1) ie rfl (.inl rfl) (.inr rfl)) cD)))) (fun _ _ _ _=>(jk (aT (j7 (K:=K) rfl) (pv 1) (pv 2) rfl)))
    (fun _ _ _ _=>(m9 (ae (pv 0) (ae (nX (K:=K) rfl aeW afQ afR iP (pv 2) (ae (pv 1) ah)) ah))))))) rfl)
   (aq (wH (pv 0) (we ["locks","within"] (outer:=ai (aO)) (N:=["self","house","keys","rooms","kinds"]) (N':=["locks","within","kinds"]) (nl:=2) (ix:=[4]) rfl rfl rfl (aQ (pv 3))
    (fun _ _ _ _=>(js (K:=K) (n:=2) rfl rfl (ay (au (i:=0) dn rfl (.inr rfl) (.inl rfl)) (ay (au (i:=1) dn rfl (.inr rfl) (.inl rfl)) cD)))) (fun _ _ _ _=>cn)
    (fun _ _ _ _=>(iV (outer:=wZ (gj (adP ((bZ aO).getD 4 (.Pass ⟨0,0,0,0⟩)))) (ai (aO))) (N:=["locks","within","kinds"]) (N':=["place","kind","within","locks"]) (nl:=2) (ix:=[1,0]) (kH rfl) rfl rfl (t8 (K:=K) rfl rfl aR (ae (pv 2) ah))
    (fun _ _ _ _=>(js (K:=K) (n:=2) rfl rfl (ay (au (i:=0) iB rfl (.inl rfl) (.inr rfl)) (ay (au (i:=1) iB rfl (.inl rfl) (.inr rfl)) cD)))) (fun _ _ _ _=>(jk (PW.pt (tj (aT (j7 (K:=K) rfl) (pv 1) (pv 3) rfl) (mn (aT (j7 (K:=K) rfl) (pv 1) (pv 2) rfl))))))
    (fun _ _ _ _=>(m9 (ae (pv 0) (ae (bj tZ (nX (K:=K) rfl aeW afQ afR iP (pv 2) (ae (pv 1) ah)) (nX (K:=K) rfl aeW afQ afR iP (pv 3) (ae (pv 1) ah))) ah))))))) rfl)))))),?_⟩
  refine⟨_,rfl,t,_,rfl,aAB ht,rfl,_,_,rfl,_,_,rfl,rfl,?_⟩;unfold zr vE tCB je rT;dsimp only;refine rG (te:=abE 3) (h:=h) (vs:=vs) (fun R e=>⟨_,rfl,e⟩) hr' hR few fun D1 ss H1 s1 nD1 hD1 nd1 mem1=>?_;have l1:=few ss nd1 fun k hk=>(mem1 k).mp hk;refine⟨D1,ss,rfl,hD1,by lia,fun l ks nl hp hs=>?_⟩;have s2:Same H1 (upd H1 l (.lst (ks.map V.str))):=ao nl;have e2:(upd H1 l (.lst (ks.map V.str))) l=some (.lst (ks.map V.str)):=af;generalize upd H1 l (.lst (ks.map V.str))=H2 at *;have KO:ac7 h ks:=⟨hp.nodup_iff.mpr nd1,fun k=>by rw [hp.mem_iff];exact mem1 k,by rw [hp.length_eq];lia⟩;rw [show cI 4=fun v σ H k=>k (σ.set 4 (some v)) H from rfl];dsimp only;unfold adK;dsimp only;have d2:H2 d=some (.ins C dx []):=s2 _ _ (s1 _ _ hd);have sH2:Same H H2:=s1.trans s2;have G0:Same (ck d H) (ck d H2):=kX sH2;have a2:=G0 _ _ (fk (gG hd ha (fun z=>nomatch z)) ha);have r2:=G0 _ _ (fk (gG hd hr' (fun z=>nomatch z)) hr');have R2:=(RoomsAt.off hd hR).same G0;have k2:=fk (gG d2 e2 (fun z=>nomatch z)) e2;refine aK _ _ _ _ _ _ _ _ _ ?_;refine⟨_,rfl,l,rfl,⟨_,aAA e2⟩,fun D3 nD3=>?_⟩;refine zx (F:=aef h.1) e2 nD3 (by rw [aej];have:=KO.few;lia) (fun x=>rfl) (fun H3 x R hx s3 hR3=>?_) (fun H3 s3 hD3=>?_)
  ·obtain⟨k,_,rfl⟩:=aeL.mp hx;have a3:=s3 _ _ (sH2 _ _ ha);exact⟨_,rfl,.inl ⟨rfl,_,aAA a3⟩,_,rfl,a,_,k,rfl,rfl,a3,hR3⟩
  ·have d3:=s3 _ _ d2;have D3':H3 D3=some (.lst ((gf ks h.1).map V.int)):=by
    rw [hD3];unfold gf;rw [aeZ,aeZ]
    rfl
   refine⟨_,rfl,d,C,dx,[],rfl,d3,DC.cls,DC.n1,by decide,?_⟩;have s4:Same (ck d H3) (upd H3 d (.ins C dx (iX "at_first" (.ref D3) []))):=rQ;have d4:(upd H3 d (.ins C dx (iX "at_first" (.ref D3) []))) d=some (.ins C dx (iX "at_first" (.ref D3) [])):=af;generalize upd H3 d (.ins C dx (iX "at_first" (.ref D3) []))=H4 at *;have G4:Same (ck d H2) H4:=(kX s3).trans s4;have l4:=s4 _ _ (fk (gG d3 D3' (fun z=>nomatch z)) D3');have f4:(iX "at_first" (.ref D3) []).length<=1:=gr _ _ _;generalize ef4:iX "at_first" (.ref D3) []=fs4 at *;refine aK _ _ _ _ _ _ _ _ _ ?_;refine⟨_,rfl,r,rfl,⟨_,aAA (G4 _ _ r2)⟩,fun D5 nD5=>?_⟩;refine oq (F:=d9 ks) (G4 _ _ r2) (R2.same G4) nD5 ok.rl (fun x y=>rfl) (fun H5 m la lb R hm hla hlb s5 k5=>?_) (fun H5 s5 RP=>?_)
   ·refine aK _ _ _ _ _ _ _ _ _ ?_;have l5:=s5 _ _ (G4 _ _ k2);refine⟨_,rfl,l,rfl,⟨_,aAA l5⟩,fun D6 nD6=>?_⟩;refine og (pb:=fun p=>decide (kAt ks p∈m.1)) (gv:=fun p=>((m.1.count (kAt ks p):Nat):Int)) l5 nD6 KO.few (fun x y=>rfl) (fun H6 p R hp s6 k6=>?_) (fun H6 p R hp s6 k6=>?_) (fun H6 x s6 pa=>k5 H6 x s6 pa)
    ·refine⟨_,rfl,_,rfl,la,_,rfl,.inl (aAA (s6 _ _ hla)),rfl,j8 _,_,rfl,?_⟩;have e:=oZ (kAt ks p) m.1;show R (inV _ _) H6;rw [e];exact k6
    ·exact⟨_,rfl,_,rfl,.inl ⟨rfl,_,aAA (s6 _ _ hla)⟩,_,rfl,la,_,_,rfl,rfl,s6 _ _ hla,uy,k6⟩
   ·have d5:=s5 _ _ d4;refine⟨_,rfl,d,C,dx,_,rfl,d5,DC.cls,DC.n2,by lia,?_⟩;have s6:Same (ck d H5) (upd H5 d (.ins C dx (iX "wants" (.ref D5) fs4))):=rQ;have d6:(upd H5 d (.ins C dx (iX "wants" (.ref D5) fs4))) d=some (.ins C dx (iX "wants" (.ref D5) fs4)):=af;generalize upd H5 d (.ins C dx (iX "wants" (.ref D5) fs4))=H6 at *;have G6:Same (ck d H4) H6:=(kX s5).trans s6;have off4:Same (ck d H2) (ck d H4):=fun b u e=>by
     by_cases z:b=d
     ·subst z;unfold ck at e;rw [if_pos rfl] at e;cases e
     ·exact fk z (G4 _ _ e)
    have G26:Same (ck d H2) H6:=off4.trans G6;have l6:=G6 _ _ (fk (gG d4 l4 (fun z=>nomatch z)) l4);have W6:=(RP.off d5).same s6;have f6:(iX "wants" (.ref D5) fs4).length<=2:=aeN (gr _ _ _) (by lia);generalize ef6:iX "wants" (.ref D5) fs4=fs6 at *;refine aK _ _ _ _ _ _ _ _ _ ?_;refine⟨_,rfl,r,rfl,⟨_,aAA (G26 _ _ r2)⟩,fun D7 nD7=>?_⟩;refine oq (F:=jw ks) (G26 _ _ r2) (R2.same G26) nD7 ok.rl (fun x y=>rfl) (fun H7 m la lb R hm hla hlb s7 k7=>?_) (fun H7 s7 RP7=>?_)
    ·refine aK _ _ _ _ _ _ _ _ _ ?_;have l7:=s7 _ _ (G26 _ _ k2);refine⟨_,rfl,l,rfl,⟨_,aAA l7⟩,fun D8 nD8=>?_⟩;refine og (pb:=chB ks m) (gv:=fun p=>ac4 m (kAt ks p)) l7 nD8 KO.few (fun x y=>rfl) (fun H8 p R hp s8 k8=>?_) (fun H8 p R hp s8 k8=>?_) (fun H8 x s8 pa=>k7 H8 x s8 pa)
     ·refine⟨_,rfl,_,rfl,la,_,rfl,.inl (aAA (s8 _ _ hla)),rfl,j8 _,_,rfl,?_⟩;have e:=oZ (kAt ks p) m.1;have e2:=oZ (kAt ks p) m.2;unfold chB at k8;show if inV _ _=true then _ else _
      rw [e];by_cases z:kAt ks p∈m.1
      ·rw [aeP z] at k8 ⊢;exact ju k8
      ·rw [aeO z] at k8 ⊢;refine gK ?_;refine⟨_,rfl,_,rfl,lb,_,rfl,.inl (aAA (s8 _ _ hlb)),rfl,j8 _,_,rfl,?_⟩;show R (inV _ _) H8;rw [e2];exact k8
     ·exact⟨_,rfl,_,rfl,.inl ⟨rfl,_,aAA (s8 _ _ hlb)⟩,_,rfl,lb,_,_,rfl,rfl,s8 _ _ hlb,_,rfl,.inl ⟨rfl,_,aAA (s8 _ _ hla)⟩,_,rfl,la,_,_,rfl,rfl,s8 _ _ hla,_,_,rfl,rfl,uy,k8⟩
    ·have d7:=s7 _ _ d6;refine⟨_,rfl,d,C,dx,_,rfl,d7,DC.cls,DC.n3,by lia,?_⟩;have s8:Same (ck d H7) (upd H7 d (.ins C dx (iX "changes" (.ref D7) fs6))):=rQ;have d8:(upd H7 d (.ins C dx (iX "changes" (.ref D7) fs6))) d=some (.ins C dx (iX "changes" (.ref D7) fs6)):=af;generalize upd H7 d (.ins C dx (iX "changes" (.ref D7) fs6))=H8 at *;have G8:Same (ck d H6) H8:=(kX s7).trans s8;have l8:=G8 _ _ (fk (gG d6 l6 (fun z=>nomatch z)) l6);have W8:=(W6.off d6).same G8;have C8:=(RP7.off d7).same s8;refine q ks H8 KO (abv ?_) ⟨dx,D3,D5,D7,_,d8,?_,?_,?_,?_,?_,l8,W8,C8⟩
     ·refine G0.trans (Same.trans (fun b u e=>?_) G8);by_cases z:b=d
      ·subst z;unfold ck at e;rw [if_pos rfl] at e;cases e
      ·exact fk z (G26 _ _ e)
     all_goals subst ef6 ef4;rw [eX,eX,eX];rfl
end
def aci:HO->Bool
 | .dK _=>false
 | .frz _ _=>false
 | _=>true
def ndH (H:Hp):Hp:=fun b=>(H b).filter aci
theorem jO {H:Hp}{b:Addr}{u:HO}(e:H b=some u)(n:aci u=true):ndH H b=some u:=by
 unfold ndH;rw [e];simp [Option.filter,n]
theorem gE {H:Hp}:Same (ndH H) H:=fun b u e=>by
 unfold ndH at e;cases z:H b with
 | none=>rw [z] at e;cases e
 | some x =>
  rw [z] at e;simp only [Option.filter] at e;split at e
  ·exact e
  ·cases e
theorem ac0 {H:Hp}{b:Addr}{u:HO}(e:ndH H b=some u):aci u=true:=by
 unfold ndH at e;cases z:H b with
 | none=>rw [z] at e;cases e
 | some x =>
  rw [z] at e;simp only [Option.filter] at e;split at e
  ·rename_i hx;cases e;exact hx
  ·cases e
theorem uj {G H:Hp}{D:Addr}{x o:HO}(s:Same (ndH G) H)(hD:H D=some x)(n:aci x=false):Same (ndH G) (upd H D o):=fun b u e=>by
 have:=s _ _ e;rw [ak (fun z=>by subst z;rw [hD] at this;cases this;rw [ac0 e] at n;cases n)];exact this
theorem sr {H:Hp}{D:Addr}{x o:HO}(hD:H D=some x)(n:aci x=false):Same (ndH H) (upd H D o):=uj gE hD n
theorem DoorsAt.nd {C:Addr}{H:Hp}{d:Addr}{h:Hs}{ks:List Str}(p:DoorsAt C H d h ks):DoorsAt C (ndH H) d h ks:=by
 obtain⟨dx,l,w,c,fs,h1,h2,h3,h4,h5,h6,h7,⟨v8,a8,b8,c8⟩,⟨v9,a9,b9,c9⟩⟩:=p;have pa:∀ {v cs},PairsAt H v cs->PairsAt (ndH H) v cs:=fun ⟨a,vs,e,x,y,z⟩=>⟨a,vs,e,jO x rfl,y,fun i x c a b=>let ⟨t,e1,e2⟩:=z i x c a b;⟨t,e1,jO e2 rfl⟩⟩;exact⟨dx,l,w,c,fs,jO h1 rfl,h2,h3,h4,h5,h6,jO h7 rfl,⟨v8,jO a8 rfl,b8,fun i x c a b=>pa (c8 i x c a b)⟩,⟨v9,jO a9 rfl,b9,fun i x c a b=>pa (c9 i x c a b)⟩⟩
abbrev kB (o:List Nat):Key:=.inl ((aY o:Nat):Int)
structure DictL (F:List Nat->List V)(H:Hp)(kvs:List (Key×V))(os:List (List Nat)):Prop where
 keys:kvs.map (·.1)=os.map kB
 at_:∀ (i:Nat) (kv:Key×V) (o:List Nat),kvs[i]? = some kv->os[i]? = some o->∃ l:Addr,kv.2=.ref l/\H l=some (.lst (F o))
theorem DictL.nil {F:List Nat->List V}{H:Hp}:DictL F H [] []:=⟨rfl,fun i kv o e=>nomatch e⟩
theorem DictL.same {F:List Nat->List V}{H H':Hp}{kvs:List (Key×V)}{os:List (List Nat)}(d:DictL F H kvs os)(s:Same (ndH H) H'):DictL F H' kvs os :=
 ⟨d.keys,fun i kv o a b=>let ⟨l,e,x⟩:=d.at_ i kv o a b;⟨l,e,s _ _ (jO x rfl)⟩⟩
theorem DictL.len {F:List Nat->List V}{H:Hp}{kvs:List (Key×V)}{os:List (List Nat)}(d:DictL F H kvs os):kvs.length=os.length:=by
 have:=afy List.length d.keys;simpa using this
theorem lX {o o':List Nat}(e:kB o=kB o'):aY o=aY o':=by
 cases o<;>cases o'<;>exact Int.ofNat.inj (Sum.inl.inj e)
theorem uC {o:List Nat}{os:List (List Nat)}:kB o∈os.map kB↔aY o∈os.map aY:=by
 rw [aeL,aeL];exact⟨fun ⟨x,m,e⟩=>⟨x,m,lX e⟩,fun ⟨x,m,e⟩=>⟨x,m,by unfold kB;rw [e]⟩⟩
theorem uf {kvs:List (Key×V)}{k:Key}:(eV kvs k).isSome=true↔k∈kvs.map (·.1):=by
 induction kvs with
 | nil=>simp [eV]
 | cons p r ih =>
  by_cases e:p.1=k
  ·rw [cA e];simp [e]
  ·rw [cw e,ih];have e':¬ k=p.1:=fun z=>e z.symm;simp [e']
theorem wg {kvs:List (Key×V)}{k:Key}{v:V}(n:k ∉ kvs.map (·.1)):fY kvs k v=kvs++[(k,v)]:=by
 unfold fY;rw [if_neg];intro z;rw [ahe] at z;obtain⟨p,hp,e⟩:=z;exact n (aeL.mpr ⟨p,hp,afL e⟩)
theorem DictL.snoc {F:List Nat->List V}{H H':Hp}{kvs:List (Key×V)}{os:List (List Nat)}{o:List Nat}{l:Addr}(d:DictL F H kvs os)(s:Same (ndH H) H')(hl:H l=some (.lst (F o))):DictL F H' (kvs++[(kB o,.ref l)]) (os++[o]):=by
 refine⟨by rw [aeD,aeD,d.keys];rfl,fun i kv x a b=>?_⟩;have ln:=d.len;by_cases hi:i < kvs.length
 ·rw [aeQ hi] at a;rw [aeQ (by lia)] at b;exact (d.same s).at_ i kv x a b
 ·rw [aeJ (by lia)] at a;rw [aeJ (by lia),← ln] at b;have z:i - kvs.length=0:=by
   have:=(aek.mp a).1;simp at this;lia
  rw [z] at a b;cases a;cases b;exact⟨l,rfl,s _ _ (jO hl rfl)⟩
structure StepsM (h:Hs)(n:Nat)(os:List (List Nat)):Prop where
 gone:∀ o∈os,cf h.1 h.2 o
 lt:∀ o∈os,o.length < n
 nd:(os.map aY).Nodup
 all:∀ o,cf h.1 h.2 o->o.length < n->aY o∈os.map aY
 up:os.Pairwise fun a b=>a.length<=b.length
theorem StepsM.zero (h:Hs):StepsM h 0 []:=⟨fun o z=>absurd z afb,fun o z=>absurd z afb,ajm,fun o _ z=>absurd z (ahU _),.nil⟩
theorem mj {h:Hs}{n:Nat}{os L:List (List Nat)}(s:StepsM h n os)(l:LevL h n L):∀ x∈L,aY x ∉ os.map aY:=fun x hx z=>by
 obtain⟨y,hy,e⟩:=aeL.mp z;have p:=eI (aV y (s.gone y hy)) (aV x (l.gone x hx)) e;have:=p.length_eq;have:=s.lt y hy;have:=l.len x hx;lia
theorem StepsM.next {h:Hs}{n:Nat}{os L:List (List Nat)}(s:StepsM h n os)(l:LevL h n L)(a:abD h n L):StepsM h (n+1) (os++L):=by
 refine⟨fun o ho=>?_,fun o ho=>?_,?_,fun o g ho=>?_,?_⟩
 ·rcases aew.mp ho with z | z
  ·exact s.gone o z
  ·exact l.gone o z
 ·rcases aew.mp ho with z | z
  ·exact aff (s.lt o z)
  ·rw [l.len o z];exact af8 n
 ·rw [aeD,afK];refine⟨s.nd,l.nd,fun x hx y hy e=>?_⟩;subst e;obtain⟨o,ho,rfl⟩:=aeL.mp hy;exact mj s l o ho hx
 ·rw [aeD,aew];by_cases e:o.length=n
  ·exact .inr (a o g e)
  ·exact .inl (s.all o g (by lia))
 ·rw [afc];refine⟨s.up,?_,fun x hx y hy=>?_⟩
  ·rw [List.pairwise_iff_forall_sublist];intro x y sl;have mx:x∈L:=sl.subset (by simp);have my:y∈L:=sl.subset (by simp);rw [l.len x mx,l.len y my];exact aep _
  ·have:=s.lt x hx;have:=l.len y hy;lia
structure dg (h:Hs)(os:List (List Nat)):Prop where
 gone:∀ o∈os,cf h.1 h.2 o
 nd:(os.map aY).Nodup
 all:∀ o,cf h.1 h.2 o->aY o∈os.map aY
 up:os.Pairwise fun a b=>a.length<=b.length
theorem eU {ks:List Str}{rs:List Rm}{o:List Nat}(g:cf ks rs o)(n:Nat):cf ks rs (o.take n):=fun j i e=>by
 have hj:j < n:=by
  have:=(aek.mp e).1;rw [aeK] at this;lia
 rw [af6,if_pos hj] at e;have:=g j i e;rw [ahy,agD (by lia)];exact this
theorem StepsM.done {h:Hs}{n:Nat}{os:List (List Nat)}(s:StepsM h n os)(a:abD h n []):dg h os:=by
 refine⟨s.gone,s.nd,fun o g=>?_,s.up⟩;by_cases hn:o.length < n
 ·exact s.all o g hn
 ·have:=a (o.take n) (eU g n) (by rw [aeK];lia);exact absurd this (by simp)
theorem wX {h:Hs}{n:Nat}{os:List (List Nat)}(s:StepsM h n os):os.length<=2 ^ h.2.length:=by
 have:(os.map aY).length<=2 ^ h.2.length:=dH s.nd fun i hi=>by
  obtain⟨o,ho,rfl⟩:=aeL.mp hi;exact rL (fO o (s.gone o ho))
 simpa using this
def cW (l:List Nat):Nat:=l.foldr (· + ·) 0
theorem cG (x:Nat)(l:List Nat):cW (x::l)=x+cW l:=rfl
theorem uB (a b:List Nat):cW (a++b)=cW a+cW b:=by
 induction a with
 | nil=>show cW b=0+cW b;lia
 | cons x a ih=>show x+cW (a++b)=x+cW a+cW b;lia
theorem f9 {α:Type}{l:List α}{f g:α->Nat}(h:∀ x∈l,f x=g x):cW (l.map f)=cW (l.map g):=by
 rw [agj h]
def endsF (h:Hs):Nat->List Nat->Nat
 | 0,_=>1
 | n+1,o=>cW ((aZ h o).map fun i=>endsF h n (o++[i]))
def Ends (h:Hs)(o:List Nat):Nat:=endsF h (h.2.length - o.length) o
def stuckF (h:Hs):Nat->List Nat->Nat
 | 0,_=>1
 | n+1,o=>if aZ h o=[] then 1 else cW ((aZ h o).map fun i=>stuckF h n (o++[i]))
def Stuck (h:Hs)(o:List Nat):Nat:=stuckF h (h.2.length - o.length) o
theorem aaq {h:Hs}{o:List Nat}(g:cf h.1 h.2 o){i:Nat}(hi:i∈aZ h o):o.length < h.2.length:=by
 have:=iN (aF g hi);rw [aeo,ae7] at this;lia
theorem Ends.all {h:Hs}{o:List Nat}(e:o.length=h.2.length):Ends h o=1:=by
 unfold Ends;rw [e,ahg]
 rfl
theorem Ends.step {h:Hs}{o:List Nat}(l:o.length < h.2.length):Ends h o=cW ((aZ h o).map fun i=>Ends h (o++[i])):=by
 unfold Ends;obtain⟨n,e⟩:∃ n,h.2.length - o.length=n+1:=⟨h.2.length - o.length - 1,by lia⟩;rw [e];show cW _=_;refine f9 fun i _=>?_;rw [aeo,ae7,show h.2.length - (o.length+1)=n by lia]
theorem Stuck.end_ {h:Hs}{o:List Nat}(e:aZ h o=[]):Stuck h o=1:=by
 unfold Stuck;cases h.2.length - o.length with
 | zero=>rfl
 | succ n=>show (if _ then _ else _)=_;rw [if_pos e]
theorem Stuck.step {h:Hs}{o:List Nat}(g:cf h.1 h.2 o)(ne:aZ h o≠[]):Stuck h o=cW ((aZ h o).map fun i=>Stuck h (o++[i])):=by
 have l:o.length < h.2.length:=by
  cases hn:aZ h o with
  | nil=>exact absurd hn ne
  | cons i r=>exact aaq g (i:=i) (by rw [hn];exact aev)
 unfold Stuck;obtain⟨n,e⟩:∃ n,h.2.length - o.length=n+1:=⟨h.2.length - o.length - 1,by lia⟩;rw [e];show (if _ then _ else _)=_;rw [if_neg ne];refine f9 fun i _=>?_;rw [aeo,ae7,show h.2.length - (o.length+1)=n by lia]
theorem iK {h:Hs}{o o':List Nat}(g:cf h.1 h.2 o)(g':cf h.1 h.2 o')(p:o.Perm o'):aZ h o=aZ h o':=nO (ox g g' p) p
theorem om {h:Hs}:∀ n o o',cf h.1 h.2 o->cf h.1 h.2 o'->o.Perm o'->endsF h n o=endsF h n o'
 | 0,_,_,_,_,_=>rfl
 | n+1,o,o',g,g',p=>by
  show cW _=cW _;rw [iK g g' p];refine f9 fun i hi=>?_;exact om n _ _ (aF g (by rw [← iK g g' p] at hi;exact hi)) (aF g' hi) (p.append_right [i])
theorem Ends.perm {h:Hs}{o o':List Nat}(g:cf h.1 h.2 o)(g':cf h.1 h.2 o')(p:o.Perm o'):Ends h o=Ends h o':=by
 unfold Ends;rw [p.length_eq];exact om _ _ _ g g' p
theorem lC {h:Hs}:∀ n o o',cf h.1 h.2 o->cf h.1 h.2 o'->o.Perm o'->stuckF h n o=stuckF h n o'
 | 0,_,_,_,_,_=>rfl
 | n+1,o,o',g,g',p=>by
  show (if _ then _ else _)=(if _ then _ else _);rw [iK g g' p];split
  ·rfl
  ·refine f9 fun i hi=>?_;exact lC n _ _ (aF g (by rw [← iK g g' p] at hi;exact hi)) (aF g' hi) (p.append_right [i])
theorem Stuck.perm {h:Hs}{o o':List Nat}(g:cf h.1 h.2 o)(g':cf h.1 h.2 o')(p:o.Perm o'):Stuck h o=Stuck h o':=by
 unfold Stuck;rw [p.length_eq];exact lC _ _ _ g g' p
def iw (h:Hs)(o:List Nat)(i:Nat):Nat:=cW (((aZ h o).filter fun j=>decide (j < i)).map fun j=>Ends h (o++[j]))
def rkF (h:Hs):List Nat->List Nat->Nat
 | _,[]=>0
 | o,i::e=>iw h o i+rkF h (o++[i]) e
theorem rM (h:Hs)(i:Nat):∀ e o,rkF h o (e++[i])=rkF h o e+iw h (o++e) i
 | [],o=>by
  show iw h o i+0=0+iw h (o++[]) i;rw [ae6];lia
 | j::e,o=>by
  show iw h o j+rkF h (o++[j]) (e++[i])=iw h o j+rkF h (o++[j]) e+_;rw [rM h i e (o++[j]),aet];show _=_+iw h (o++j::e) i;rw [show [j]++e=j::e from rfl];lia
theorem jJ {l:List Nat}(nd:l.Nodup){f:Nat->Nat}{i:Nat}(hi:i∈l):cW ((l.filter fun j=>decide (j < i)).map f)+f i<=cW (l.map f):=by
 induction l with
 | nil=>cases hi
 | cons a l ih =>
  rw [afF] at nd;rw [aeG,cG];rcases aeu.mp hi with e | e
  ·subst e;rw [afi,if_neg (by simp)];have:∀ l:List Nat,cW ((l.filter fun j=>decide (j < i)).map f)<=cW (l.map f):=fun l=>by
    induction l with
    | nil=>exact aep _
    | cons b l ihb =>
     rw [afi];split
     ·simp only [aeG,cG];lia
     ·simp only [aeG,cG];lia
   have:=this l;lia
  ·have:=ih nd.2 e;rw [afi];split
   ·simp only [aeG,cG];lia
   ·lia
theorem vD {l:List Nat}(nd:l.Nodup){f:Nat->Nat}{i k:Nat}(hi:i∈l)(lt:i < k):cW ((l.filter fun j=>decide (j < i)).map f)+f i<=cW ((l.filter fun j=>decide (j < k)).map f):=by
 have:=jJ (l:=l.filter fun j=>decide (j < k)) (nd.filter _) (f:=f) (i:=i) (afj.mpr ⟨hi,by simpa using lt⟩);rw [List.filter_filter] at this;rw [show (l.filter fun j=>decide (j < i))=l.filter fun a=>decide (a < i) && decide (a < k) from ag9 fun x _=>by
  by_cases h1:x < i
  ·simp [h1,Nat.lt_trans h1 lt]
  ·simp [h1]]
 exact this
theorem ou (h:Hs)(o:List Nat):(aZ h o).Nodup:=aiG.filter _
theorem abV {h:Hs}:∀ e o,cf h.1 h.2 (o++e)->(o++e).length=h.2.length->rkF h o e < Ends h o
 | [],o,_,l=>by
  rw [ae6] at l;rw [Ends.all l];exact Nat.zero_lt_one
 | i::e,o,g,l=>by
  have g1:cf h.1 h.2 ((o++[i])++e):=by rw [aet];exact g
  have l1:((o++[i])++e).length=h.2.length:=by rw [aet];exact l
  have:=abV e (o++[i]) g1 l1;have g2:cf h.1 h.2 (o++[i]):=by
   have:=eU g1 (o++[i]).length
   rwa [ahz] at this
  have hi:=(cj g2).2;have lo:o.length < h.2.length:=aaq (cj g2).1 hi;rw [Ends.step lo];show iw h o i+_ < _;have:=jJ (ou h o) (f:=fun j=>Ends h (o++[j])) hi;unfold iw;lia
def ltL:List Nat->List Nat->Prop
 | [],[]=>False
 | [],_::_=>True
 | _::_,[]=>False
 | a::x,b::y=>a < b\/(a=b/\ltL x y)
theorem abx:∀ x y:List Nat,x.length=y.length->x=y\/ltL x y\/ltL y x
 | [],[],_=>.inl rfl
 | [],_::_,h=>by cases h
 | _::_,[],h=>by cases h
 | a::x,b::y,h=>by
  rcases Nat.lt_trichotomy a b with l | e | l
  ·exact .inr (.inl (.inl l))
  ·subst e;rcases abx x y (by simpa using h) with e | l | l
   ·subst e;exact .inl rfl
   ·exact .inr (.inl (.inr ⟨rfl,l⟩))
   ·exact .inr (.inr (.inr ⟨rfl,l⟩))
  ·exact .inr (.inr (.inl l))
theorem pN {h:Hs}:∀ e e' o,cf h.1 h.2 (o++e)->(o++e).length=h.2.length->cf h.1 h.2 (o++e')->(o++e').length=h.2.length->ltL e e'->rkF h o e < rkF h o e'
 | [],[],_,_,_,_,_,l=>l.elim
 | [],_::_,o,_,l1,_,l2,_=>by
  rw [ae6] at l1;rw [aeo,aeU] at l2;lia
 | _::_,[],_,_,_,_,_,l=>l.elim
 | i::e,j::e',o,g,l,g',l',lt=>by
  have g1:cf h.1 h.2 ((o++[i])++e):=by rw [aet];exact g
  have l1:((o++[i])++e).length=h.2.length:=by rw [aet];exact l
  have g1':cf h.1 h.2 ((o++[j])++e'):=by rw [aet];exact g'
  have l1':((o++[j])++e').length=h.2.length:=by rw [aet];exact l'
  show iw h o i+_ < iw h o j+_;rcases lt with lt | ⟨e0,lt⟩
  ·have:=abV e (o++[i]) g1 l1;have g2:cf h.1 h.2 (o++[i]):=by
    have:=eU g1 (o++[i]).length
    rwa [ahz] at this
   have:=vD (ou h o) (f:=fun j=>Ends h (o++[j])) (cj g2).2 lt;unfold iw;lia
  ·subst e0;have:=pN e e' (o++[i]) g1 l1 g1' l1' lt;lia
theorem abY {h:Hs}{e e':List Nat}(g:cf h.1 h.2 e)(l:e.length=h.2.length)(g':cf h.1 h.2 e')(l':e'.length=h.2.length)(q:rkF h [] e=rkF h [] e'):e=e':=by
 rcases abx e e' (l.trans l'.symm) with z | z | z
 ·exact z
 ·have:=pN e e' [] g l g' l' z;lia
 ·have:=pN e' e [] g' l' g l z;lia
theorem adA {h:Hs}{e e':List Nat}(g:cf h.1 h.2 e)(l:e.length=h.2.length)(g':cf h.1 h.2 e')(l':e'.length=h.2.length)(q:rkF h [] e<=rkF h [] e'):e=e'\/ltL e e':=by
 rcases abx e e' (l.trans l'.symm) with z | z | z
 ·exact .inl z
 ·exact .inr z
 ·have:=pN e' e [] g' l' g l z;lia
theorem tM {h:Hs}{o:List Nat}{i:Nat}(g:cf h.1 h.2 o):i∈aZ h o↔cf h.1 h.2 (o++[i]):=⟨fun x=>aF g x,fun x=>(cj x).2⟩
theorem pD:∀ {S T:List Nat},S.Pairwise (· < ·)->T.Pairwise (· < ·)->(∀ i,i∈S↔i∈T)->S=T
 | [],[],_,_,_=>rfl
 | [],b::T,_,_,h=>absurd ((h b).mpr aev) (by simp)
 | a::S,[],_,_,h=>absurd ((h a).mp aev) (by simp)
 | a::S,b::T,hs,ht,h=>by
  rw [afa] at hs ht;have ab:a=b:=by
   rcases aeu.mp ((h a).mp aev) with e | e
   ·exact e
   ·rcases aeu.mp ((h b).mpr aev) with e' | e'
    ·exact e'.symm
    ·have:=ht.1 a e;have:=hs.1 b e';lia
  subst ab;congr 1;refine pD hs.2 ht.2 fun i=>⟨fun hi=>?_,fun hi=>?_⟩
  ·rcases aeu.mp ((h i).mp (aeC _ hi)) with e | e
   ·have:=hs.1 i hi;lia
   ·exact e
  ·rcases aeu.mp ((h i).mpr (aeC _ hi)) with e | e
   ·have:=ht.1 i hi;lia
   ·exact e
theorem lL (h:Hs)(o:List Nat):(aZ h o).Pairwise (· < ·):=aiL.filter _
structure AlikeH (h h':Hs):Prop where
 len:h.2.length=h'.2.length
 gone:∀ o,cf h.1 h.2 o↔cf h'.1 h'.2 o
theorem AlikeH.nxt {h h':Hs}(a:AlikeH h h'){o:List Nat}(g:cf h.1 h.2 o):aZ h o=aZ h' o :=
 pD (lL _ _) (lL _ _) fun i=>by rw [tM g,tM ((a.gone o).mp g),a.gone]
theorem AlikeH.endsF {h h':Hs}(a:AlikeH h h'):∀ n o,cf h.1 h.2 o->endsF h n o=endsF h' n o
 | 0,_,_=>rfl
 | n+1,o,g=>by
  show cW _=cW _;rw [a.nxt g];exact f9 fun i hi=>a.endsF n _ (by rw [← a.nxt g] at hi;exact aF g hi)
theorem AlikeH.ends {h h':Hs}(a:AlikeH h h'){o:List Nat}(g:cf h.1 h.2 o):Ends h o=Ends h' o:=by
 unfold Ends;rw [a.len];exact a.endsF _ _ g
theorem AlikeH.stuckF {h h':Hs}(a:AlikeH h h'):∀ n o,cf h.1 h.2 o->stuckF h n o=stuckF h' n o
 | 0,_,_=>rfl
 | n+1,o,g=>by
  show (if _ then _ else _)=(if _ then _ else _);rw [a.nxt g];split
  ·rfl
  ·exact f9 fun i hi=>a.stuckF n _ (by rw [← a.nxt g] at hi;exact aF g hi)
theorem AlikeH.stuck {h h':Hs}(a:AlikeH h h'){o:List Nat}(g:cf h.1 h.2 o):Stuck h o=Stuck h' o:=by
 unfold Stuck;rw [a.len];exact a.stuckF _ _ g
theorem AlikeH.rk {h h':Hs}(a:AlikeH h h'):∀ e o,cf h.1 h.2 (o++e)->rkF h o e=rkF h' o e
 | [],_,_=>rfl
 | i::e,o,g=>by
  have g1:cf h.1 h.2 ((o++[i])++e):=by rw [aet];exact g
  have g0:cf h.1 h.2 o:=by
   have:=eU g o.length
   rwa [ahz] at this
  show iw h o i+_=iw h' o i+_;rw [a.rk e _ g1];unfold iw;rw [a.nxt g0];rw [f9 fun j hj=>a.ends (by rw [← a.nxt g0] at hj;exact aF g0 (afj.mp hj).1)]
def upB (b c:Nat)(wf:List Nat->Nat):List Nat->Nat:=fun x=>if aY x=b then wf x+c else wf x
theorem abF {x:List Nat}{c:Nat}{wf:List Nat->Nat}:upB (aY x) c wf x=wf x+c:=if_pos rfl
theorem qh {x:List Nat}{b c:Nat}{wf:List Nat->Nat}(h:aY x≠b):upB b c wf x=wf x:=if_neg h
theorem tJ {c:Nat}{wf g:List Nat->Nat}{x:List Nat}:∀ {os:List (List Nat)},(os.map aY).Nodup->x∈os->cW (os.map fun y=>upB (aY x) c wf y * g y)=cW (os.map fun y=>wf y * g y)+c * g x
 | [],_,hx=>by cases hx
 | y::os,nd,hx=>by
  rw [aeG,afF] at nd;rw [aeG,aeG,cG,cG];rcases aeu.mp hx with e | e
  ·subst e;rw [abF,f9 (f:=fun y=>upB (aY x) c wf y * g y) (g:=fun y=>wf y * g y) fun z hz=>by
    rw [qh fun q=>nd.1 (by rw [← q];exact afB hz)],Nat.add_mul]
   lia
  ·rw [tJ nd.2 e,qh fun q=>nd.1 (by rw [q];exact afB e)];lia
def stop (h:Hs):List Nat->Bool:=fun o=>(aZ h o).isEmpty
def Tot (h:Hs)(os:List (List Nat))(i:Nat)(wf:List Nat->Nat):Nat:=cW (((os.take i).filter (stop h)).map wf)+cW ((os.drop i).map fun o=>wf o * Stuck h o)
def aar (h:Hs)(os:List (List Nat))(i:Nat)(o:List Nat)(j:Nat)(wf:List Nat->Nat):Nat:=cW (((os.take (i+1)).filter (stop h)).map wf)+wf o * cW (((aZ h o).drop j).map fun n=>Stuck h (o++[n]))+cW ((os.drop (i+1)).map fun o=>wf o * Stuck h o)
theorem abN {h:Hs}{os:List (List Nat)}{i:Nat}{o:List Nat}{wf:List Nat->Nat}(e:os[i]? = some o)(g:cf h.1 h.2 o):Tot h os i wf=aar h os i o 0 wf:=by
 unfold Tot aar;rw [aeT,e,afl,aeD,uB,afH];have d:os.drop i=o::os.drop (i+1):=by
  obtain⟨hi,rfl⟩:=aek.mp e;exact (af0 hi)
 rw [d,aeG,cG];by_cases hn:aZ h o=[]
 ·rw [hn,Stuck.end_ hn];rw [show (some o).toList.filter (stop h)=[o] from by
   show [o].filter (stop h)=_;rw [afi,if_pos (by unfold stop;rw [hn];rfl)];rfl]
  show _+(wf o * 1+_)=_+(wf o+0)+wf o * 0+_;lia
 ·rw [Stuck.step g hn];rw [show (some o).toList.filter (stop h)=[] from by
   show [o].filter (stop h)=_;rw [afi,if_neg (by unfold stop;rw [List.isEmpty_iff];exact hn)];rfl]
  show _=_+0+_+_;lia
theorem abu {h:Hs}{os:List (List Nat)}{i:Nat}{o:List Nat}{wf:List Nat->Nat}:aar h os i o (aZ h o).length wf=Tot h os (i+1) wf:=by
 unfold Tot aar;rw [List.drop_length];show _+wf o * 0+_=_;lia
theorem aa3 {b c:Nat}{wf:List Nat->Nat}{l:List (List Nat)}(h:∀ y∈l,aY y≠b):l.map (upB b c wf)=l.map wf:=agj fun y hy=>qh (h y hy)
theorem acD {h:Hs}{os:List (List Nat)}{i k j n:Nat}{o x:List Nat}{wf:List Nat->Nat}(nd:(os.map aY).Nodup)(e:os[i]? = some o)(ek:os[k]? = some x)(lt:i < k)(en:(aZ h o)[j]? = some n)(eS:Stuck h x=Stuck h (o++[n])):aar h os i o (j+1) (upB (aY x) (wf o) wf)=aar h os i o j wf:=by
 have ndp:=nd;rw [← ae9 (i+1) os,aeD,afK] at ndp;have hx:x∈os.drop (i+1):=aey (i:=k - (i+1)) (by rw [agY,← ek];congr 1;lia);have no:∀ y∈os.take (i+1),aY y≠aY x:=fun y hy=>ndp.2.2 _ (afB hy) _ (afB hx);have hot:o∈os.take (i+1):=aey (i:=i) (by rw [af6,if_pos (by lia)];exact e);unfold aar;rw [aa3 fun y hy=>no y (afj.mp hy).1,qh (no o hot),tJ ndp.2.1 hx,eS];have d:(aZ h o).drop j=n::(aZ h o).drop (j+1):=by
  obtain⟨hj,rfl⟩:=aek.mp en;exact af0 hj
 rw [d,aeG,cG,Nat.mul_add];lia
theorem acZ {h:Hs}{os:List (List Nat)}(s:dg h os):Tot h os 0 (upB 0 1 fun _=>0)=Stuck h []:=by
 obtain⟨x,hx,ex⟩:=aeL.mp (s.all [] (bQ _ _));have p:=eI (aV x (s.gone x hx)) .nil ex;unfold Tot;show 0+_=_;rw [afH,show (0:Nat)=aY x from ex.symm,tJ s.nd hx,Stuck.perm (s.gone x hx) (bQ _ _) p];rw [show cW (os.map fun y=>aY x * Stuck h y)=0 from ?_]
 ·rw [show aY x=0 from ex];lia
 ·rw [show aY x=0 from ex];have:∀ l:List (List Nat),cW (l.map fun y=>0 * Stuck h y)=0:=fun l=>by
   induction l with
   | nil=>rfl
   | cons a l ih=>rw [aeG,cG,ih];lia
  exact this os
theorem aaz {h:Hs}{os:List (List Nat)}{wf:List Nat->Nat}:Tot h os os.length wf=cW ((os.filter (stop h)).map wf):=by
 unfold Tot;rw [ae0,List.drop_length]
 rfl
end K7
namespace L2
open PySem PySem.Spec PyProof.Rows PySem.W
def zY (H₀:Hp)(t:TE):TE:=fun σ H Q=>t σ H fun v H1=>∃ a o kvs,H1 a=some (.frz o (.dK kvs))/\(∀ o' u,H₀ a≠some (.frz o' u))/\Q v (upd H1 a (.dK kvs))
section
variable {X:Cx}
theorem aaC {e:Expr}{t:TE}{H₀:Hp}(hH:X.H₀=H₀)(h:PE X e t):PE X e (zY H₀ t):=by
 subst hH;intro pins s σ H Q I hw;refine thn (h pins s σ H _ I hw) fun v s1 ⟨y,H1,I1,r1,a,o,kvs,e,nf,q⟩=>?_;exact⟨y,_,I1.thaw e nf,r1,q⟩
end
end L2
namespace L2
open PySem PySem.Spec PyProof.Rows
section
variable {X:Cx}
theorem wI {prog:Program}{w:World}{A:Around}{E:Value->Shared->Prop}{s:Shared}{elts:List Expr}{x1:Nat}{pos:Pos}{z TI TO T:Addr}{Q:Unit->Shared->Prop}(hz:IsZip s.heap z TI TO (rawInt T))
 (hQ:∀ h',IsZip h' z TI TO .none->Heap.SameBut z s.heap h'->Q () { s with heap:=h' }):wpAny (model prog w) A (letOwnedTupleGo (.Tuple elts x1 pos) (.ref z) (.ref T)) Q E s:=by
 unfold letOwnedTupleGo;refine aei (aja hz ?_);dsimp only;rw [if_pos (by simp)];refine aei (afY ?_);show wpAny _ A (setField (.ref z) 0 .none) Q E s;exact wpAny_setField_rec hz (by simp) fun h' a b=>hQ h' a b
def ItZ (K:PySem.W.Frag)(a b:Addr):It :=
 ⟨fun i H=>∃ xs ys x y,SqL K H a xs/\SqL K H b ys/\xs[i]? = some x/\ys[i]? = some y,fun i H x H'=>∃ T u v,x=.ref T/\H T=none/\H'=upd H T (.tup [u,v])/\(∀ xs,SqL K H a xs->xs[i]? = some u)/\∀ ys,SqL K H b ys->ys[i]? = some v,fun i H=>∃ xs ys,SqL K H a xs/\SqL K H b ys/\xs.length<=i⟩
theorem yt {P:Program}{w:World}{K:PySem.W.Frag}{es:List Expr}{kk:Nat}{tp:Pos}{z TI TO i1 i2 a b:Addr}(D:ZipApart z TI TO i1 i2 a b):yr P w K (.Tuple es kk tp) (ItZ K a b) [z,TO,i1,i2,TI] z (fun i h=>IsZip h z TI TO .none/\IsPair h TI (.ref i1) (.ref i2)/\(∃ u v,IsPair h TO u v)/\h.IsListIter i1 a i/\h.IsListIter i2 b i) where
 mem:=by simp
 obj:=fun i h st c hb=>by
  obtain⟨hz,hTI,⟨u,v,hTO⟩,h1,h2⟩:=st;simp only [aeu,afb,ahx] at hb;rcases hb with rfl | rfl | rfl | rfl | rfl
  ·exact⟨_,hz,fun v z=>by cases z⟩
  ·exact⟨_,hTO,fun v z=>by cases z⟩
  ·obtain⟨o,e,_,d⟩:=h1;exact⟨o,e,fun v z=>by rw [d] at z;cases z⟩
  ·obtain⟨o,e,_,d⟩:=h2;exact⟨o,e,fun v z=>by rw [d] at z;cases z⟩
  ·exact⟨_,hTI,fun v z=>by cases z⟩
 keep:=fun i h h' st k=>by
  obtain⟨hz,hTI,⟨u,v,hTO⟩,h1,h2⟩:=st;exact⟨k _ (by simp) _ hz,k _ (by simp) _ hTI,⟨u,v,k _ (by simp) _ hTO⟩,h1.at fun o e=>k _ (by simp) o e,h2.at fun o e=>k _ (by simp) o e⟩
 item:=by
  intro X hP hw hK hc i pins s σ H E I hf st hg;subst hP hw hK;obtain⟨xs,ys,x,y,hq1,hq2,hx,hy⟩:=hg;obtain⟨its1,rv1,p1,_⟩:=I.list hq1;obtain⟨its2,rv2,p2,_⟩:=I.list hq2;obtain⟨u1,hu1,ru1⟩:=rv1.get hx;obtain⟨u2,hu2,ru2⟩:=rv2.get hy;obtain⟨hz,hTI,⟨u,v,hTO⟩,h1,h2⟩:=st;have lt:∀ c∈[z,TO,i1,i2,TI],c < s.heap.objs.size:=fun c hb=>by
   simp only [aeu,afb,ahx] at hb;rcases hb with rfl | rfl | rfl | rfl | rfl
   ·exact aes hz
   ·exact aes hTO
   ·obtain⟨o,e,_⟩:=h1;exact aes e
   ·obtain⟨o,e,_⟩:=h2;exact aes e
   ·exact aes hTI
  refine wpAny_pyNext_zip_item D hz hTI hTO h1 h2 p1.isList p2.isList (x:=u1) (y:=u2) (by simpa using hu1) (by simpa using hu2) fun h' z1 to1 l1 l2 pr sz k=>?_;refine⟨_,rfl,wI z1 fun h3 z3 s3=>?_⟩;have ne:∀ c∈[z,TO,i1,i2,TI],s.heap.objs.size≠c:=fun c hc=>agZ (lt c hc);have pr3:IsPair h3 s.heap.objs.size u1 u2:=(s3.2 _ (ne _ (by simp))).trans pr;have old:∀ c o,c ∉ [z,TO,i1,i2,TI]->s.heap.get? c=some o->h3.get? c=some o:=fun c o hb q=>(s3.2 c (fun e=>hb (by simp [e]))).trans (k c o (fun e=>hb (by simp [e])) (fun e=>hb (by simp [e])) (fun e=>hb (by simp [e])) (fun e=>hb (by simp [e])) q);have I2:=I.turnedNew (t':=s.toks) (h':=h3) (o:=.tup [x,y]) old hf (aep _) ⟨by show 2<=sizeLine;decide,[u1,u2],.cons ru1 (.cons ru2 .nil),_,pr3,rfl,_,rfl⟩;have fr:H s.heap.objs.size=none:=I.fresh;refine⟨.ref s.heap.objs.size,_,I2,rfl,⟨_,x,y,rfl,fr,rfl,fun zs hz=>by rw [I.list_inj hz hq1];exact hx,fun zs hz=>by rw [I.list_inj hz hq2];exact hy⟩,⟨z3,(s3.2 _ D.TIz).trans (k _ _ D.TIz D.TITO D.TIi1 D.TIi2 hTI),⟨_,_,(s3.2 _ D.TOz).trans to1⟩,l1.at fun o q=>(s3.2 _ D.i1z).trans q,l2.at fun o q=>(s3.2 _ D.i2z).trans q⟩,fun c hb=>?_⟩;rw [ak (aeA (lt c hb))];exact (hf c hb).1
 done:=by
  intro X hP hw hK hc i pins s σ H E I hf st hg;subst hP hw hK;obtain⟨xs,ys,hq1,hq2,hx⟩:=hg;obtain⟨its1,rv1,p1,_⟩:=I.list hq1;obtain⟨its2,rv2,p2,_⟩:=I.list hq2;obtain⟨hz,hTI,⟨u,v,hTO⟩,h1,h2⟩:=st;have hl:=rv1.length;exact wpAny_pyNext_zip_end (I.ok.hd hc) D hz hTI hTO h1 h2 p1.isList p2.isList (.inl (by simp;lia)) fun h' eb=>⟨rfl,I.turnedL (t':=s.toks) (fun c o hb q=>eb c o (fun e=>hb (by simp [e])) (fun e=>hb (by simp [e])) (fun e=>hb (by simp [e])) (fun e=>hb (by simp [e])) q) hf⟩
 self:=fun _ _ _ _ _ st h=>wpAny_pyIter_zip st.1 h
theorem vV {n a b:Nat}(la:a < n)(lb:b < n):ZipApart (n+4) (n+2) (n+3) n (n+1) a b:=by
 refine⟨?_,?_,?_,?_,?_,?_,?_,?_,?_,?_,?_,?_,?_,?_,?_,?_,?_,?_⟩<;>exact fun h=>by revert h;exact (fun (h:@Eq Nat _ _)=>by lia)
def aeg (K:PySem.W.Frag)(ta:TA):TI:=fun σ H R=>ta σ H fun vs H1=>∃ a b,vs=[.ref a,.ref b]/\(∃ xs,SqL K H1 a xs)/\(∃ ys,SqL K H1 b ys)/\R (ItZ K a b) H1
theorem acj {e1 e2:Expr}{ta:TA}{p pos:Pos}{es:List Expr}{kk:Nat}{tp:Pos}(hg:Gl X "zip")(hm:X.mg "zip" = none)(ha:PA X [e1,e2] ta)(hs:starEach [e1,e2] X.env=(false,eval e1 X.env)::starEach [e2] X.env:=by rfl)(hpl:(backTo pos (starEach [e2] X.env)).any (·.1)=false:=by rfl):PI X (.Tuple es kk tp) (.Call (.Name "zip" p) [e1,e2] [] pos) (aeg X.K ta):=by
 intro pins s σ H R I h;refine Call_ (jx I hg hm zH (afp (thn (ha pos pins s σ H _ I h) fun us s1 ⟨vs,H1,I1,r1,q1⟩=>?_) hs hpl));obtain⟨a,b,e,⟨xs,hq1⟩,⟨ys,hq2⟩,q⟩:=q1;subst e;cases r1 with
 | cons ru rr =>
  cases rr with
  | cons rw rn =>
   cases rn;cases ru;cases rw;obtain⟨its1,rv1,p1,_⟩:=I1.list hq1;obtain⟨its2,rv2,p2,_⟩:=I1.list hq2;have la:a < s1.heap.objs.size:=by obtain⟨o,e,_⟩:=p1.isList;exact aes e
   have lb:b < s1.heap.objs.size:=by obtain⟨o,e,_⟩:=p2.isList;exact aes e
   refine call_zip_2 p1.isList p2.isList fun h' hz hTI hTO h1 h2 sz k=>?_;have I2:Inv X pins σ H1 { s1 with heap:=h' }:=I1.kept (t':=s1.toks) k;have D:ZipApart (s1.heap.objs.size+4) (s1.heap.objs.size+2) (s1.heap.objs.size+3) s1.heap.objs.size (s1.heap.objs.size+1) a b:=vV la lb;refine wpAny_pyIter_zip hz ⟨_,[s1.heap.objs.size+4,s1.heap.objs.size+3,s1.heap.objs.size,s1.heap.objs.size+1,s1.heap.objs.size+2],_,ItZ X.K a b,H1,rfl,I2,yt D,⟨hz,hTI,⟨_,_,hTO⟩,h1,h2⟩,fun c hb=>?_,q⟩;have hc:s1.heap.objs.size<=c:=by
    simp only [aeu,afb,ahx] at hb;rcases hb with h | h | h | h | h<;>rw [h]<;>first | exact Nat.le_add_right _ _ | exact aep _
   exact I1.fpOk hc (I1.hok.fresh hc)
end
theorem abh {K:PySem.W.Frag}{a b:Addr}{xs ys:List V}{g:TG}{tb:TS}{D:Ends}{σ:St}{H:Hp}(hlen:xs.length=ys.length)(Pv:Nat->St->Hp->Prop)(h0:Pv 0 σ H)(hl:∀ i σ H,i<=xs.length->Pv i σ H->SqL K H a xs/\SqL K H b ys)
 (hs:∀ i x y σ H T,xs[i]? = some x->ys[i]? = some y->Pv i σ H->H T=none->g (.ref T) σ (upd H T (.tup [x,y])) fun σ2 H2=>tb { D with nx:=Pv (i+1),ct:=Pv (i+1),bk:=D.nx } σ2 H2)(hd:∀ σ H,Pv xs.length σ H->D.nx σ H) :
 ∃ W:Nat->Nat->St->Hp->Prop,(∃ m,W 0 m σ H)/\∀ i m σ H,W i m σ H →
  ((ItZ K a b).stop i H/\D.nx σ H)\/((ItZ K a b).go i H/\∃ N:St->Hp->Prop,(∀ σ' H',N σ' H'->∃ m',m' < m/\W (i+1) m' σ' H')/\∀ x H',(ItZ K a b).yld i H x H'->g x σ H' fun σ2 H2=>tb { D with nx:=N,ct:=N,bk:=D.nx } σ2 H2):=by
 refine⟨fun i m σ H=>m=xs.length - i/\i<=xs.length/\Pv i σ H,⟨xs.length,by simp,aeM _,h0⟩,?_⟩;rintro i m σ H ⟨rfl,hi,p⟩;obtain⟨q1,q2⟩:=hl i σ H hi p;by_cases hlt:i < xs.length
 ·have hlt2:i < ys.length:=by lia
  refine .inr ⟨⟨xs,ys,xs[i],ys[i],q1,q2,by simp [hlt],by simp [hlt2]⟩,Pv (i+1),fun σ' H' p'=>⟨xs.length - (i+1),by lia,rfl,hlt,p'⟩,fun x H' y=>?_⟩;obtain⟨T,u,v,ex,hT,eH,hu,hv⟩:=y;subst ex eH;exact hs i u v σ H T (hu xs q1) (hv ys q2) p hT
 ·have e:i=xs.length:=by lia
  subst e;exact .inl ⟨⟨xs,ys,q1,q2,aep _⟩,hd σ H p⟩
def abW (K:PySem.W.Frag)(a:Addr)(n:Nat):It :=
 ⟨fun i H=>∃ xs x,SqL K H a xs/\i < n/\xs[n - 1 - i]? = some x,fun i H x H'=>H'=H/\∀ xs,SqL K H a xs->xs[n - 1 - i]? = some x,fun i H=>i=n⟩
theorem yO {P:Program}{w:World}{K:PySem.W.Frag}{tg:Expr}(a it:Addr)(n:Nat):yr P w K tg (abW K a n) [it] it (fun i h=>h.IsRevIter it a ((n:Int) - 1 - i)) where
 mem:=by simp
 obj:=fun i h st b hb=>by
  have e:b=it:=by simpa using hb
  subst e;obtain⟨o,e,c,d⟩:=st;exact⟨o,e,fun v z=>by rw [d] at z;cases z⟩
 keep:=fun i h h' st k=>st.at fun o e=>k it (by simp) o e
 item:=by
  intro X hP hw hK hc i pins s σ H E I hf st hg;subst hP hw hK;obtain⟨xs,x,hq,hi,hx⟩:=hg;obtain⟨its,rv,p,hz⟩:=I.list hq;obtain⟨u,hu,ru⟩:=rv.get hx;obtain⟨f0,f1,f2,f3,f4,f5⟩:=hf it (by simp);rw [show ((n:Int) - 1 - i)=((n - 1 - i:Nat):Int) by lia] at st;refine wpAny_pyNext_rev_item st p.isList (x:=u) (by simpa using hu) fun h' st' sb=>?_;have I1:Inv X pins σ H { s with heap:=h' }:=I.turned (t':=s.toks) (fun b o hb e=>(sb.2 b hb).trans e) f0 f1 f3 f4 f5;rw [show (((n - 1 - i:Nat):Int) - 1)=((n:Int) - 1 - ((i+1:Nat):Int)) by lia] at st';obtain⟨o,e,c,d⟩:=id st';exact⟨u,rfl,yG (s:={ s with heap:=h' }) e c d (by decide) ⟨x,H,I1,ru,⟨rfl,fun ys hy=>by rw [I.list_inj hy hq];exact hx⟩,st',fun b hb=>(hf b hb).1⟩⟩
 done:=by
  intro X hP hw hK hc i pins s σ H E I hf st hg;subst hP hw hK;have hg':i=n:=hg;subst hg';obtain⟨f0,f1,f2,f3,f4,f5⟩:=hf it (by simp);rw [show ((i:Int) - 1 - i)=-1 by lia] at st;exact wpAny_pyNext_rev_end (I.ok.hd hc) st fun h' eb=>⟨rfl,I.turned (t':=s.toks) (fun b o hb e=>eb b o hb e) f0 f1 f3 f4 f5⟩
 self:=fun _ _ _ _ _ st h=>wpAny_pyIter_revIter st h
def aeb (K:PySem.W.Frag)(ta:TA):TI:=fun σ H R=>ta σ H fun vs H1=>∃ a xs,vs=[.ref a]/\SqL K H1 a xs/\R (abW K a xs.length) H1
theorem ab3 {X:Cx}{tg e1:Expr}{ta:TA}{p pos:Pos}(hg:Gl X "reversed")(hm:X.mg "reversed" = none)(ha:PA X [e1] ta)(hs:starEach [e1] X.env=(false,eval e1 X.env)::starEach [] X.env:=by rfl)(hpl:(backTo pos (starEach [] X.env)).any (·.1)=false:=by rfl):PI X tg (.Call (.Name "reversed" p) [e1] [] pos) (aeb X.K ta):=by
 intro pins s σ H R I h;refine Call_ (jx I hg hm Boot.reversed (afp (thn (ha pos pins s σ H _ I h) fun us s1 ⟨vs,H1,I1,r1,q1⟩=>?_) hs hpl));obtain⟨a,xs,e,hq,q⟩:=q1;subst e;obtain⟨u,rfl,ru⟩:=iE r1;cases ru;obtain⟨its,rv,p1,_⟩:=I1.list hq;refine call_reversed_list p1.isList ?_;refine wpAny_pyIter_revIter (it:=s1.heap.objs.size) ⟨_,aeF _ rfl,rfl,rfl⟩ ?_;refine⟨s1.heap.objs.size,[s1.heap.objs.size],_,_,H1,rfl,I1.kept (t':=s1.toks) fun b o e=>ael _ e,yO a _ xs.length,⟨_,aeF _ rfl,rfl,?_⟩,fun b hb=>?_,q⟩
 ·have:=rv.length;show Data.fields _=Data.fields _;congr 2;simp [this]
 ·have e:b=s1.heap.objs.size:=by simpa using hb
  subst e;exact I1.fpOk (aep _) (I1.hok.fresh (aep _))
theorem abj {K:PySem.W.Frag}{a:Addr}{xs:List V}{g:TG}{tb:TS}{D:Ends}{σ:St}{H:Hp}(Pv:Nat->St->Hp->Prop)(h0:Pv 0 σ H)(hl:∀ i σ H,i<=xs.length->Pv i σ H->SqL K H a xs)
 (hs:∀ i x σ H,xs[xs.length - 1 - i]? = some x->i < xs.length->Pv i σ H->g x σ H fun σ2 H2=>tb { D with nx:=Pv (i+1),ct:=Pv (i+1),bk:=D.nx } σ2 H2)(hd:∀ σ H,Pv xs.length σ H->D.nx σ H) :
 ∃ W:Nat->Nat->St->Hp->Prop,(∃ m,W 0 m σ H)/\∀ i m σ H,W i m σ H →
  ((abW K a xs.length).stop i H/\D.nx σ H)\/((abW K a xs.length).go i H/\∃ N:St->Hp->Prop,(∀ σ' H',N σ' H'->∃ m',m' < m/\W (i+1) m' σ' H')/\∀ x H',(abW K a xs.length).yld i H x H'->g x σ H' fun σ2 H2=>tb { D with nx:=N,ct:=N,bk:=D.nx } σ2 H2):=by
 refine⟨fun i m σ H=>m=xs.length - i/\i<=xs.length/\Pv i σ H,⟨xs.length,by simp,aeM _,h0⟩,?_⟩;rintro i m σ H ⟨rfl,hi,p⟩;have q:=hl i σ H hi p;by_cases hlt:i < xs.length
 ·refine .inr ⟨⟨xs,_,q,hlt,aeh (by lia)⟩,Pv (i+1),fun σ' H' p'=>⟨xs.length - (i+1),by lia,rfl,hlt,p'⟩,fun x H' y=>?_⟩;obtain⟨e,y⟩:=y;subst e;exact hs i x σ _ (y xs q) hlt p
 ·have e:i=xs.length:=by lia
  subst e;exact .inl ⟨rfl,hd σ H p⟩
end L2
namespace L2
open PySem PySem.Spec PyProof.Rows PySem.W
section
variable {X:Cx}
theorem gS (hc:X.calm=true):gI X (.builtin "sum") (fun xs H Q=>∃ (p:Addr) (ns:List Int),xs=[.ref p]/\SqL X.K H p (ns.map V.int)/\Q (.int ns.sum) H):=by
 intro pins s σ H xs us Q I r h;obtain⟨p,ns,rfl,hq,q⟩:=h;obtain⟨u,rfl,rx⟩:=iE r;cases rx;obtain⟨its,rv,pl,hz⟩:=I.list hq;have hh:X.A.in1.handled=none:=I.ok.hd hc;have hlt:p < s.heap.objs.size:=by obtain⟨o,e,_⟩:=pl.isList;exact aes e
 have hlen:=rv.length;rw [aej] at hlen;refine call_sum_walkG (ahs pl.isList ?_);refine⟨s.heap.objs.size,_,_,_,_,_,fun i=>ns.getD i 0,rfl,Walks.list hh s.heap.objs.size p (aeA hlt) its.toArray,⟨⟨_,aeF _ rfl,rfl,rfl⟩,pl.isList.push _⟩,fun b hb=>?_,fun i v hv=>?_,fun h' tk t' hk=>?_⟩
 ·show b < (s.heap.push _).objs.size;rw [afe];rcases aeu.mp hb with rfl | hb
  ·exact af8 _
  ·rw [aeq.mp hb];exact aff hlt
 ·have hv':its[i]? = some v:=by simpa using hv
  have hi:i < its.length:=(aek.mp hv').1;have hb:ns[i]? = some (ns.getD i 0):=by
   rw [ae3];rw [aeh (by lia)]
   rfl
  obtain⟨u,hu,ru⟩:=rv.get (i:=i) (x:=.int (ns.getD i 0)) (by rw [aer,hb];rfl);rw [hv'] at hu;cases hu;exact ru
 ·have e:preSum (fun i=>ns.getD i 0) its.toArray.size=ns.sum:=by
   have all:∀ (k:Nat) (l:List Int),k<=l.length->preSum (fun i=>l.getD i 0) k=(l.take k).sum:=fun k=>by
    induction k with
    | zero=>intro l _;simp [preSum]
    | succ k ih =>
     intro l hk;rw [preSum,ih l (by lia),aeT,List.sum_append,ae3,aeh (by lia)];simp
   rw [aeH,← hlen,all _ ns (aep _),ae0]
  rw [e];refine⟨.int _,H,?_,⟨_,rfl⟩,q⟩;refine (I.kept (t':=s.toks) (h':=s.heap.push { cls:=.type "list_iterator",data:=.fields #[.ref p,.int 0 0] }) fun b o e=>ael _ e).turned (it:=s.heap.objs.size) (t':=tk) (h':=h') (fun b o hb e=>hk b o (by simpa using hb) e) I.fresh (agZ I.lt) (.inr I.sz) (fun x c e z=>?_) fun p' hp z=>?_
  ·obtain⟨v,q⟩:=I.cell x c e;exact absurd (z▸q.lt) (afn _)
  ·exact absurd (z▸aes (I.pin p' hp).1) (afn _)
theorem oh {P:Program}{w:World}:∀ {acc:List Value} {kvs:List (Key×Value)},acc.length=kvs.length->(∀ (j:Nat) v,acc[j]? = some v->∃ k x,kvs[j]? = some (k,x)/\(aX P w).is k v=true)->Vals (kvs.map fun p=>kV p.1) acc
 | [],[],_,_=>.nil
 | _::_,[],h,_=>by simp at h
 | [],_::_,h,_=>by simp at h
 | v::acc,(k,x)::kvs,hl,hp=>by
  obtain⟨k',x',e,hk⟩:=hp 0 v rfl;cases e;exact .cons (oF hk) (oh (P:=P) (w:=w) (by simpa using hl) fun j u e=>hp (j+1) u e)
theorem ny (hc:X.calm=true):gI X (.type "list") (fun xs H Q=>∃ (a:Addr) (kvs:List (Key×V)),xs=[.ref a]/\H a=some (.dK kvs)/\kvs.length<=sizeLine/\∀ l:Addr,H l=none->Q (.ref l) (upd H l (.lst (kvs.map fun p=>kV p.1)))):=by
 intro pins s σ H xs us Q I r h;obtain⟨a,kvs,rfl,e,hl,q⟩:=h;obtain⟨u,rfl,rx⟩:=iE r;cases rx;obtain⟨z,hd,vs,rel,dd⟩:=vz I.hok e;obtain⟨ep,da⟩:=dd.dictAt;have kk:vs.map (·.1)=kvs.map (·.1):=rel.keys.symm;have kl:vs.length=kvs.length:=by simpa using afy List.length kk
 refine kdl_call (kdl_dict (knd:=aX X.prog X.w) (kvs:=vs) (ep:=ep) hd) (I.ok.hd hc) da (by lia) fun h' tk acc c hk hS hacc=>?_;have hl0:acc.toList.length=vs.length:=by rw [aeE];exact hacc.1
 have hS':=oh hl0 fun j v e=>hacc.2 j v (by rw [← ae8];exact e);have ek:(vs.map fun p=>kV p.1)=kvs.map fun p=>kV p.1:=by
  have:=afy (List.map kV) kk
  rwa [aeZ,aeZ] at this
 rw [ek] at hS';exact⟨.ref s.heap.objs.size,_,I.laid (t':=tk) (o:=.lst (kvs.map fun p=>kV p.1)) hk (aep _) ⟨by rw [aej];exact hl,acc.toList,c,hS',hS⟩,rfl,q _ (I.hok.fresh (aep _))⟩
end
end L2
namespace K7
open PySem L2 PyProof.Rows
def wY (C:Addr):Sp:=fun vs H Q _=>∃ (d a:Addr) (o:List Nat) (h:Hs) (ks hand:List Str),vs=[.ref d,.int ((aY o:Nat):Int),.ref a]/\DoorsAt C H d h ks/\ac7 h ks/\H a=some (.lst ((gf ks hand).map V.int))/\h.2.length<=1000 ∧
 ∀ b H',Same H H'->H b=none->H' b=some (.lst ((jH h.2 hand o).map fun i=>V.int ((i:Nat):Int)))->Q (.ref b) H'
def nbB (h:Hs)(hand:List Str)(o:List Nat)(i:Nat):Bool:=!decide (i∈o) && iT hand ((h.2[i]?).getD ([],[])).1
inductive NbI (D:Addr)(h:Hs)(hand:List Str)(o:List Nat)(H:Hp)(i:Nat)(ys:List V)(H':Hp):Prop
 | mk:ys=((List.range i).filter (nbB h hand o)).map (fun i=>V.int ((i:Nat):Int))->H' D=some (.lst ys)->Same H H'->NbI D h hand o H i ys H'
inductive NwI (D:Addr)(ks hand:List Str)(r:Rm)(H:Hp)(i:Nat)(ys:List V)(H':Hp):Prop
 | mk:ys=((d9 ks r).take i).map (fun c=>V.bl (decide (c.2<=((hand.count (kAt ks c.1):Nat):Int))))->H' D=some (.lst ys)->Same H H'->NwI D ks hand r H i ys H'
section
variable {P:Program}{w:World}{K:PySem.W.Frag}{mg:Str->Option Value}{base:Heap}
theorem iS:az ["self","opened","hand"] ["self","opened","hand"] (ai aP):=scM rfl rfl rfl rfl (by decide +kernel)
theorem dw:(["number","wants","opened","hand"]:List Str).Nodup:=by decide +kernel
theorem dy:(["place","many","hand"]:List Str).Nodup:=by decide +kernel
theorem zK {f fH:Addr}{fd fdH:FuncData}{C:Addr}(F:Fun K "next_behind" "Doors.next_behind" aP f fd)(DC:qA K C)(uO:FnOk P w K mg base CX0 1 fH fdH ["opened","number"] acJ)(j9:Cal K mg "has_room" ["opened","number"] fH fdH)(aR:mg "enumerate" = none)(yn:mg "all" = none):FnOk P w K mg base CX0 2 f fd ["self","opened","hand"] (wY C):=by
 refine F.ok iS (fun vs H Q E h=>?_) (fun cdv A outer s H vs Q E hr h=>?_)
 ·obtain⟨d,a,o,h,ks,hand,rfl,_⟩:=h
  rfl
 ·have hu:=eM hr;obtain⟨d,a,o,h,ks,hand,rfl,D,ok,ha,hl,q⟩:=h;refine⟨_,(aq (aJ (iV (outer:=ai (aP)) (N:=["self","opened","hand"]) (N':=["number","wants","opened","hand"]) (nl:=2) (ix:=[1,2]) rfl rfl rfl (pK rfl aR (ae (xJ (pv 0) rfl) ah))
   (fun _ _ _ _=>(js (K:=K) (n:=2) rfl rfl (ay (au (i:=0) dw rfl (.inl rfl) (.inr rfl)) (ay (au (i:=1) dw rfl (.inl rfl) (.inr rfl)) cD)))) (fun _ _ _ _=>(jk (PW.pt (xA (fw (gF (pcl uO j9 hr rfl (ae (pv 2) (ae (pv 0) ah))))) (rF (gF (av (wq (K:=K) rfl rfl) rfl yn (by decide +kernel) (ae (iV (outer:=wZ (gj (pI ((bZ aP).getD 0 (.Pass ⟨0,0,0,0⟩)))) (ai (aP))) (N:=["number","wants","opened","hand"]) (N':=["place","many","hand"]) (nl:=2) (ix:=[3]) (u5 rfl) rfl rfl (tN (K:=K) rfl (pv 1))
   (fun _ _ _ _=>(js (K:=K) (n:=2) rfl rfl (ay (au (i:=0) dy rfl (.inl rfl) (.inr rfl)) (ay (au (i:=1) dy rfl (.inl rfl) (.inr rfl)) cD)))) (fun _ _ _ _=>cn)
   (fun _ _ _ _=>(eh abw (aN (oR (K:=K) rfl) (pv 2) (pv 0) (fun _ _=>rfl)) (pv 1) (bM _)))) ah))))))))
   (fun _ _ _ _=>(pv 0))))),?_⟩
  obtain⟨dx,l,w',c,fs,h1,h2,h3,h4,h5,h6,h7,⟨vs,h8,hvl,hvs⟩,h9⟩:=D;have lim:1000000 < sizeLine:=by decide
  refine aK _ _ _ _ _ _ _ _ _ ?_;refine⟨_,rfl,d,C,dx,fs,_,rfl,h1,DC.cls,DC.n2,h3,w',rfl,⟨_,aAA h8⟩,fun D nD=>?_⟩;have vl:vs.length=h.2.length:=by rw [hvl,aej]
  refine qf (xs:=vs) (NbI D h hand o H) (.mk rfl af (ao nD)) (fun i ys H' ⟨_,e,_⟩=>e) (fun i ys H' ⟨_,_,s⟩=>aAA (s _ _ h8)) ?_ ?_
  ·rintro i ys H1 x T hx ⟨rfl,hD,s1⟩ nT;have hi:i < vs.length:=(aek.mp hx).1;have hri:i < h.2.length:=by lia
   obtain⟨wa,us,rfl,hwa,ul,hus⟩:=hvs i x (d9 ks h.2[i]) hx (by rw [aer,aeh hri];rfl);have s2:Same H1 (upd H1 T (.tup [.int (i:Int),.ref wa])):=ao nT;have e2:(upd H1 T (.tup [.int (i:Int),.ref wa])) T=some (.tup [.int (i:Int),.ref wa]):=af;generalize upd H1 T (.tup [.int (i:Int),.ref wa])=H2 at *;have lf:((List.range i).filter (nbB h hand o)).length<=i:=aeN (af4 _ _) (by rw [afv];exact aep _);have rb:nbB h hand o i=(!decide (i∈o) && iT hand (h.2[i]).1):=by unfold nbB;rw [aeh hri];rfl
   refine⟨T,_,rfl,aAB e2,rfl,?_⟩;refine⟨_,_,rfl,_,_,rfl,rfl,⟨rfl,rfl⟩,?_⟩;refine⟨_,rfl,_,rfl,o,i,rfl,fun H3 s3=>⟨_,rfl,?_⟩⟩;have s13:Same H1 H3:=s2.trans s3;by_cases ho:i∈o
   ·rw [aeP ho] at rb ⊢;refine gK ?_;refine gK ?_;refine nx hi (.mk ?_ (s13 _ _ hD) (s1.trans s13));rw [agk,afl,aeD];simp [rb]
   ·rw [aeO ho] at rb ⊢;refine ju ?_;unfold tB tCB je rT;refine aK _ _ _ _ _ _ _ _ _ ?_;have s3':=s1.trans s13;refine⟨_,rfl,wa,rfl,⟨_,aAA (s3' _ _ hwa)⟩,fun D2 nD2=>?_⟩;refine dU (xs:=us) (NwI D2 ks hand (h.2[i]) H3) (.mk rfl af (ao nD2)) (fun j ys H' ⟨_,e,_⟩=>e) (fun j ys H' ⟨_,_,s⟩=>aAA (s _ _ (s3' _ _ hwa))) ?_ ?_
    ·rintro j ys H4 y hy ⟨rfl,hD2,s4⟩;have hj:j < (d9 ks h.2[i]).length:=by rw [← ul];exact (aek.mp hy).1
     obtain⟨t,rfl,ht⟩:=hus j y _ hy (aeh hj);generalize ec:(d9 ks h.2[i])[j]=cc at *;have hp:cc.1 < ks.length/\(d9 ks h.2[i]).length<=63:=by
      refine⟨?_,?_⟩
      ·have:cc∈d9 ks h.2[i]:=by rw [← ec];exact aeS hj
       obtain⟨p,hp,rfl⟩:=aeL.mp this;exact afZ.mp (afj.mp hp).1
      ·unfold d9;rw [aej];refine aeN (af4 _ _) ?_;rw [afv];exact ok.few
     have s4':=s3'.trans s4;refine⟨t,_,rfl,aAB (s4' _ _ ht),rfl,?_⟩;refine⟨_,_,rfl,_,_,rfl,rfl,⟨rfl,rfl⟩,?_⟩;unfold vG;dsimp only;refine ju (B:=False) ?_;refine⟨_,rfl,_,rfl,a,_,_,_,rfl,rfl,aAA (s4' _ _ ha),bq (by rw [aer,rR hp.1];rfl),_,rfl,_,_,rfl,rfl,hD2,?_,nx (by rw [ul];exact hj) (.mk ?_ af fun b u e=>by rw [ak (ar e nD2)];exact s4 _ _ e)⟩
     ·rw [aej,aeK];lia
     ·rw [aeT,aeh hj,ec];simp
    ·rintro ys H4 ⟨rfl,hD2,s4⟩;rw [ul,ae0] at hD2;refine⟨D2,(d9 ks h.2[i]).map fun c=>decide (c.2<=((hand.count (kAt ks c.1):Nat):Int)),rfl,aAA (by rw [hD2,aeZ];rfl),_,rfl,?_⟩;have eb:((d9 ks h.2[i]).map fun c=>decide (c.2<=((hand.count (kAt ks c.1):Nat):Int))).all id=iT hand (h.2[i]).1:=by
      rw [afP,← xq (fun k hk=>(ok.mem k).mpr ⟨_,aeS hri,hk⟩),ag2,ae1];simp
     rw [eb];have rb':nbB h hand o i=iT hand (h.2[i]).1:=by rw [rb];rfl
     rw [← rb'];have s14:=s13.trans s4;cases eb2:nbB h hand o i with
     | true =>
      refine ju ?_;refine⟨_,rfl,s14 _ _ hD,?_,nx hi (.mk ?_ af fun b u e=>by rw [ak (ar e nD)];exact s14 _ _ (s1 _ _ e))⟩
      ·rw [aej];lia
      ·rw [agk,afl,aeD];simp [eb2]
     | false =>
      refine gK ?_;refine nx hi (.mk ?_ (s14 _ _ hD) (s1.trans s14));rw [agk,afl,aeD];simp [eb2]
  ·rintro ys H1 ⟨rfl,hD,s1⟩;rw [vl] at hD;exact q D H1 s1 nD hD
abbrev nxV (h:Hs)(o:List Nat):List V:=(aZ h o).map fun i=>V.int ((i:Nat):Int)
abbrev hdV (h:Hs)(ks:List Str)(o:List Nat):List V:=(gf ks (aL h.1 h.2 o)).map V.int
def mW:Sp:=fun vs H Q _=>∃ (v:V) (h:Hs),vs=[v]/\HouseAt H v h/\cm h/\vF h/\h.2.length<=12/\∀ S kvs os H',Same H H'->H S=none->H' S=some (.dK kvs)->DictL (nxV h) H' kvs os->dg h os->Q (.ref S) H'
inductive EnI (v:V)(d S:Addr)(h:Hs)(H0:Hp)(σ:L2.St)(H':Hp):Prop
 | mk (os:List (List Nat)) (kvs:List (Key×V)) (x3 x4 x5 x6 x7 x8 x9:Option V):σ=[some v,some (.ref d),some (.ref S),x3,x4,x5,x6,x7,x8,x9]->H' S=some (.dK kvs)->DictL (nxV h) H' kvs os->dg h os->Same H0 H'->EnI v d S h H0 σ H'
inductive WhI (v:V)(d S:Addr)(h:Hs)(ks:List Str)(H0 H1:Hp)(n:Nat)(σ:L2.St)(H':Hp):Prop
 | mk (os L:List (List Nat)) (kvsS kvsL:List (Key×V)) (Lv:Addr) (x4 x5 x6 x7 x8 x9:Option V):σ=[some v,some (.ref d),some (.ref S),some (.ref Lv),x4,x5,x6,x7,x8,x9]->H' S=some (.dK kvsS)->H' Lv=some (.dK kvsL)->S≠Lv->H0 Lv=none →
  Same H0 H'->Same (ndH H1) H'->DictL (nxV h) H' kvsS os->DictL (hdV h ks) H' kvsL L->LevL h n L->abD h n L->StepsM h n os->WhI v d S h ks H0 H1 n σ H'
inductive FoI (v:V)(d S Lv Fu:Addr)(h:Hs)(ks:List Str)(H0 H1:Hp)(kvsL:List (Key×V))(ob:Obj)(os L:List (List Nat))(n i:Nat)(σ:L2.St)(H':Hp):Prop
 | mk (kvsS:List (Key×V)) (M:List (List Nat)) (kvsM:List (Key×V)) (x5 x6 x7 x8 x9:Option V):σ=[some v,some (.ref d),some (.ref S),some (.ref Lv),some (.ref Fu),x5,x6,x7,x8,x9]->H' S=some (.dK kvsS)->H' Lv=some (.frz ob (.dK kvsL))->H' Fu=some (.dK kvsM) →
  Same H0 H'->Same (ndH H1) H'->DictL (nxV h) H' kvsS (os++L.take i)->DictL (hdV h ks) H' kvsL L->DictL (hdV h ks) H' kvsM M->LevL h (n+1) M->(∀ o∈L.take i,∀ k∈aZ h o,aY (o++[k])∈M.map aY)->FoI v d S Lv Fu h ks H0 H1 kvsL ob os L n i σ H'
inductive InI (v:V)(d S Lv Fu:Addr)(h:Hs)(ks:List Str)(H0 H1:Hp)(kvsL kvsS:List (Key×V))(ob:Obj)(os L:List (List Nat))(n i:Nat)(o:List Nat)(lh ln:Addr)(j:Nat)(σ:L2.St)(H':Hp):Prop
 | mk (M:List (List Nat)) (kvsM:List (Key×V)) (x8 x9:Option V):σ=[some v,some (.ref d),some (.ref S),some (.ref Lv),some (.ref Fu),some (.int ((aY o:Nat):Int)),some (.ref lh),some (.ref ln),x8,x9]->H' S=some (.dK kvsS)->H' Lv=some (.frz ob (.dK kvsL))->H' Fu=some (.dK kvsM) →
  Same H0 H'->Same (ndH H1) H'->H' lh=some (.lst (hdV h ks o))->H' ln=some (.lst (nxV h o))->DictL (nxV h) H' kvsS (os++L.take (i+1))->DictL (hdV h ks) H' kvsL L->DictL (hdV h ks) H' kvsM M->LevL h (n+1) M->(∀ o∈L.take i,∀ k∈aZ h o,aY (o++[k])∈M.map aY)->(∀ k∈(aZ h o).take j,aY (o++[k])∈M.map aY) →
  InI v d S Lv Fu h ks H0 H1 kvsL kvsS ob os L n i o lh ln j σ H'
theorem bU {H H':Hp}{D:Addr}{o:HO}(s:Same H H')(n:H D=none):Same H (upd H' D o):=fun b u e=>by rw [ak (ar e n)];exact s _ _ e
theorem br:az ["house","doors","steps","level","further","opened","hand","numbers","number","behind"] ["house"] (ai jh):=scM rfl rfl rfl rfl (by decide +kernel)
theorem zh {f fI fN fH fW:Addr}{fd fdI fdN fdH fdW:FuncData}{C:Addr}(F:Fun K "steps_of" "steps_of" jh f fd)(DC:qA K C)(C_Doors:Cls K C)(M_Doors:Mk K C fI)(mg_Doors:mg "Doors" = some (.ref C))(qe:FnOk P w K mg base CX0 1 fI fdI ["self","house"] (zX C))(pV:Binds K fdI ["self","house"] [])
 (jd:ab8 K C "next_behind" fN)(jn:FnOk P w K mg base CX0 2 fN fdN ["self","opened","hand"] (wY C))(jj:Binds K fdN ["self","opened","hand"] [])
 (jZ:ab8 K C "hand_with" fH)(jX:FnOk P w K mg base CX0 1 fH fdH ["self","hand","number"] (vL C))(kj:Binds K fdH ["self","hand","number"] [])
 (bw:FnOk P w K mg base CX0 1 fW fdW ["opened","number"] nN)(aD:Cal K mg "with_room" ["opened","number"] fW fdW):FnOk P w K mg base CX0 3 f fd ["house"] mW:=by
 refine F.ok br (fun vs H Q E h=>?_) (fun cdv A outer s H vs Q E hr h=>?_)
 ·obtain⟨v,h,rfl,_⟩:=h
  rfl
 ·have hu:=eM hr;obtain⟨v,h,rfl,hh,ok,few,small,q⟩:=h;refine⟨_,(ag (aw (i:=1) br.nd rfl (.inl rfl) (aaN M_Doors qe hr rfl mg_Doors pV .nil jt (ae (pv 0) ah)))
   (ag (aw (i:=2) br.nd rfl (.inl rfl) kT)
   (ag (aw (i:=3) br.nd rfl (.inl rfl) (zF aj (xJ (pv 1) rfl)))
   (ag (bz (pj aeX (tT (pv 3) (by intro _;rfl))
    (ag (aw (i:=4) br.nd rfl (.inl rfl) kT)
    (ag (bz (cQ aeX rfl (ug (H₀:=H) rfl (pv 3)) (gW rfl (ay (au (i:=5) br.nd rfl (.inl rfl)) (ay (au (i:=6) br.nd rfl (.inl rfl)) cD)))
     (ag (aw (i:=7) br.nd rfl (.inl rfl) (wW (pv 1) C_Doors jd jn hr jj .nil jt (ae (pv 5) (ae (pv 6) ah))))
     (ag (j6 hu (pv 2) (pv 5) (pv 7) rfl)
     (aq (bz (cQ aeX rfl (aQ (pv 7)) (au (i:=8) br.nd rfl (.inl rfl))
      (ag (aw (i:=9) br.nd rfl (.inl rfl) (pcl bw aD (hr.mono (by decide:1<=2)) rfl (ae (pv 5) (ae (pv 8) ah))))
      (aq (bz (fi (acR (vT hu (pv 9) (pv 4)))
       (aq (j6 hu (pv 4) (pv 9) (wW (pv 1) C_Doors jZ jX (hr.mono (by decide:1<=2)) kj .nil jt (ae (pv 6) (ae (pv 8) ah))) rfl)) bu)))))))))))
    (aq (aw (i:=3) br.nd rfl (.inl rfl) (pv 4)))))))
   (aq (aJ (pv 2))))))),?_⟩
  refine⟨_,rfl,fun d dx nd ndx ne=>?_⟩;have sM:Same H (upd (upd H dx (.own d)) d (.ins C dx [])):=bU (ao ndx) nd;have dM:(upd (upd H dx (.own d)) d (.ins C dx [])) d=some (.ins C dx []):=af;generalize upd (upd H dx (.own d)) d (.ins C dx [])=HM at *;refine⟨d,dx,v,h,rfl,hh.same sM,ok,few,dM,fun ks H1 KO b1 DA=>⟨rfl,?_⟩⟩;have s1:Same H H1:=fun b u e=>b1 b u (ar e nd) (sM _ _ e);have DA':=DA.nd;obtain⟨dx',l,_,_,fs,h1,h2,_,_,h5,h6,h7,_,_⟩:=DA;intro S nS;intro Lv nLv;have nL1:H1 Lv=none:=(ao (o:=.dK []) nS).free nLv;have neSL:S≠Lv:=fun z=>by subst z;rw [af] at nLv;cases nLv
  have nS0:H S=none:=s1.free nS;have nL0:H Lv=none:=s1.free nL1;have d2:(upd (upd H1 S (.dK [])) Lv (.dK [])) d=some (.ins C dx' fs):=bU (ao nS) nL1 _ _ h1;refine⟨_,rfl,d,C,dx',fs,_,rfl,d2,DC.cls,DC.n1,h2,.inl 0,rfl,af,?_⟩;have s2:Same H1 (upd (upd (upd H1 S (.dK [])) Lv (.dK [])) Lv (.dK [(.inl 0,.ref l)])):=bU (bU (ao nS) nL1) nL1;have eS2:(upd (upd (upd H1 S (.dK [])) Lv (.dK [])) Lv (.dK [(.inl 0,.ref l)])) S=some (.dK []):=by rw [ak neSL,ak neSL,af]
  have eL2:(upd (upd (upd H1 S (.dK [])) Lv (.dK [])) Lv (.dK [(.inl 0,.ref l)])) Lv=some (.dK [(.inl 0,.ref l)]):=af;generalize upd (upd (upd H1 S (.dK [])) Lv (.dK [])) Lv (.dK [(.inl 0,.ref l)])=H2 at *;have p12:2 ^ h.2.length<=4096:=aeN (agw (by decide) small) (by decide);have lim:1000000 < sizeLine:=by decide
  refine⟨EnI v d S h H,?_,?_⟩
  ·rintro σ H3 ⟨os,kvs,x3,x4,x5,x6,x7,x8,x9,rfl,e3,d3,a3,s3⟩;exact⟨_,rfl,q S kvs os H3 s3 nS0 e3 d3 a3⟩
  ·refine⟨fun m σ H'=>∃ n,m=h.2.length+1 - n/\n<=h.2.length+1/\WhI v d S h ks H H1 n σ H',⟨_,0,rfl,aeM _,?_⟩,?_⟩
   ·refine .mk [] [[]] [] [(.inl 0,.ref l)] Lv none none none none none none rfl eS2 eL2 neSL nL0 (s1.trans s2) (gE.trans s2) .nil ⟨rfl,fun i kv o a b=>?_⟩ ⟨fun o ho=>?_,fun o ho=>?_,by simp⟩ (wD h) (.zero h)
    ·match i,a,b with
     | 0,a,b =>
      cases a;cases b;exact⟨l,rfl,s2 _ _ h7⟩
    ·rw [aeq] at ho;subst ho;exact bQ _ _
    ·rw [aeq] at ho;subst ho
     rfl
   ·rintro m σ H3 ⟨n,rfl,hn,os,L,kvsS,kvsL,Lv,x4,x5,x6,x7,x8,x9,rfl,eS,eL,neSL,nL0,s3,g3,dS,dL,lev,al,st⟩;refine⟨_,rfl,_,.inr (.inr ⟨kvsL,eL,rfl⟩),?_⟩;cases hk:kvsL with
    | nil =>
     subst hk;have:L=[]:=agT dL.len.symm;subst this;exact gK ⟨os,kvsS,_,_,_,_,_,_,_,rfl,eS,dS,st.done al,s3⟩
    | cons p r =>
     refine ju ?_;have neL:L≠[]:=fun z=>by
      have:=dL.len;rw [z,hk] at this;cases this
     have hnl:=wJ lev neL;refine⟨fun σ' H'=>WhI v d S h ks H H1 (n+1) σ' H',fun σ' H' w=>⟨_,?_,n+1,rfl,by lia,w⟩,?_⟩
     ·lia
     ·intro Fu nFu;have nF0:H Fu=none:=s3.free nFu;have neSF:S≠Fu:=fun z=>by subst z;rw [eS] at nFu;cases nFu
      have neLF:Lv≠Fu:=fun z=>by subst z;rw [eL] at nFu;cases nFu
      have s4:Same H3 (upd H3 Fu (.dK [])):=ao nFu;have eF4:(upd H3 Fu (.dK [])) Fu=some (.dK []):=af;generalize upd H3 Fu (.dK [])=H4 at *;have eL4:=s4 _ _ eL;have eS4:=s4 _ _ eS;refine⟨fun σ' H'=>∃ ob,FoI v d S Lv Fu h ks H H1 kvsL ob os L n kvsL.length σ' H',?_,?_⟩
      ·rintro σ' H5 ⟨ob,kS,M,kM,y5,y6,y7,y8,y9,rfl,fS,fL,fF,s5,g5,dS5,dL5,dM5,lev5,kid5⟩;rw [dL.len,ae0] at dS5 kid5;exact⟨_,rfl,.mk (os++L) M kS kM Fu _ _ _ _ _ _ rfl fS fF neSF nF0 s5 g5 dS5 dM5 lev5 (wA lev al kid5) (st.next lev al)⟩
      ·refine⟨_,rfl,Lv,kvsL,rfl,eL4,fun ob nf=>?_⟩;have ndL:Same (ndH H4) (upd H4 Lv (.frz ob (.dK kvsL))):=sr eL4 rfl;refine p7 (FoI v d S Lv Fu h ks H H1 kvsL ob os L n) (.mk kvsS [] [] _ _ _ _ _ rfl (by rw [ak neSL];exact eS4) af (by rw [ak (fun z=>neLF z.symm)];exact eF4) (bU (s3.trans s4) nL0) (uj (g3.trans s4) eL4 rfl) ?_ ((dL.same (gE.trans s4)).same ndL) .nil (.nil h _) (fun o ho=>absurd ho (by simp))) (fun i σ H' _ ⟨_,_,_,_,_,_,_,_,_,_,e,_,_,_,_,_,_,_,_⟩=>e) ?_ (fun σ H' z=>⟨ob,z⟩)
       ·rw [agV,ae6];exact (dS.same (gE.trans s4)).same ndL
       ·rintro i k vv σ H5 T hkv ⟨kS,M,kM,y5,y6,y7,y8,y9,rfl,fS,fL,fF,s5,g5,dS5,dL5,dM5,lev5,kid5⟩ nT;have hiL:i < L.length:=by rw [← dL.len];exact (aek.mp hkv).1
        have hoL:L[i]? = some L[i]:=aeh hiL;have hom:L[i]∈L:=aeS hiL;obtain⟨lh,ev,elh⟩:=dL5.at_ i (k,vv) L[i] hkv hoL;have ekk:k=kB L[i]:=by
         have a:(kvsL.map (·.1))[i]? = some k:=by rw [aer,hkv];rfl
         rw [dL5.keys,aer,hoL] at a;exact (afg a).symm
        dsimp only at ev;subst ev ekk;have tk:L.take (i+1)=L.take i++[L[i]]:=by rw [aeT,hoL];rfl
        generalize eo:L[i]=o at *;have gO:=lev.gone o hom;have s6:Same H5 (upd H5 T (.tup [kV (kB o),.ref lh])):=ao nT;have e6:(upd H5 T (.tup [kV (kB o),.ref lh])) T=some (.tup [kV (kB o),.ref lh]):=af;generalize upd H5 T (.tup [kV (kB o),.ref lh])=H6 at *;refine⟨T,_,rfl,aAB e6,rfl,?_⟩;refine⟨_,_,rfl,_,_,rfl,rfl,?_⟩;have DA6:=DA'.same (g5.trans s6);have hd6:=(g5.trans s6) _ _ (jO h1 rfl);refine⟨_,rfl,d,dx',fs,rfl,hd6,h6,_,rfl,_,rfl,d,lh,o,h,ks,aL h.1 h.2 o,rfl,DA6,KO,s6 _ _ elh,by lia,fun ln H7 s7 nln eln=>?_⟩;have s67:=s6.trans s7;have noS:kB o ∉ kS.map (·.1):=by
         rw [dS5.keys,uC,aeD,aew];rintro (z | z)
         ·exact mj st lev o hom z
         ·have nd:=lev.nd;rw [← ae9 (i+1) L,tk,aeD,aeD,afK] at nd;exact (afK.mp nd.1).2.2 _ z _ (by simp) rfl
        have lenS:kS.length < sizeLine:=by
         rw [dS5.len,aeo,aeK];have:=wX st;have:=vZ lev;lia
        refine⟨_,rfl,_,rfl,_,rfl,S,_,rfl,DPut.k (k:=kB o) (s67 _ _ fS) lenS,?_⟩;rw [wg noS];have fS7:=s67 _ _ fS;have ndS:Same (ndH H7) (upd H7 S (.dK (kS++[(kB o,.ref ln)]))):=sr fS7 rfl;have neLS:Lv≠S:=fun z=>neSL z.symm;have sF7:=s5.trans s67;have g7:=g5.trans s67;have k7:Same (ndH H5) H7:=gE.trans s67;have s8:Same H (upd H7 S (.dK (kS++[(kB o,.ref ln)]))):=bU sF7 nS0;have g8:Same (ndH H1) (upd H7 S (.dK (kS++[(kB o,.ref ln)]))):=uj g7 fS7 rfl;have fS8:(upd H7 S (.dK (kS++[(kB o,.ref ln)]))) S=some (.dK (kS++[(kB o,.ref ln)])):=af;have fL8:(upd H7 S (.dK (kS++[(kB o,.ref ln)]))) Lv=some (.frz ob (.dK kvsL)):=by rw [ak neLS];exact s67 _ _ fL
        have fF8:(upd H7 S (.dK (kS++[(kB o,.ref ln)]))) Fu=some (.dK kM):=by rw [ak (fun z=>neSF z.symm)];exact s67 _ _ fF
        have lh8:=ndS _ _ (jO (s67 _ _ elh) rfl);have ln8:=ndS _ _ (jO eln rfl);have dS8:DictL (nxV h) (upd H7 S (.dK (kS++[(kB o,.ref ln)]))) (kS++[(kB o,.ref ln)]) (os++L.take (i+1)):=by
         rw [tk,← aet];exact (dS5.same k7).snoc ndS eln
        have dL8:=(dL5.same k7).same ndS;have dM8:=(dM5.same k7).same ndS;generalize upd H7 S (.dK (kS++[(kB o,.ref ln)]))=H8 at *;generalize kS++[(kB o,.ref ln)]=kS' at *;refine⟨InI v d S Lv Fu h ks H H1 kvsL kS' ob os L n i o lh ln (aZ h o).length,?_,?_⟩
        ·rintro σ' H9 ⟨M',kM',z8,z9,rfl,a1,a2,a3,a4,a5,a6,a7,a8,a9,a10,a11,a12,a13⟩;rw [ae0] at a13;refine .mk kS' M' kM' _ _ _ _ _ rfl a1 a2 a3 a4 a5 a8 a9 a10 a11 fun x hx k hk=>?_;rw [tk,aew,aeq] at hx;rcases hx with hx | hx
         ·exact a12 x hx k hk
         ·subst hx;exact a13 k hk
        ·refine⟨_,rfl,ln,rfl,⟨_,aAA ln8⟩,?_⟩;refine dI (xs:=nxV h o) (fun j σ' H'=>InI v d S Lv Fu h ks H H1 kvsL kS' ob os L n i o lh ln j σ' H') (.mk M kM _ _ rfl fS8 fL8 fF8 s8 g8 lh8 ln8 dS8 dL8 dM8 lev5 kid5 (fun k hk=>absurd hk (by simp))) (fun j σ H' _ ⟨_,_,_,_,_,_,_,_,_,_,_,e,_,_,_,_,_,_⟩=>aAA e) ?_ (fun σ H' z=>by rw [aej] at z;exact z);rintro j x σ H9 hx ⟨M',kM',z8,z9,rfl,a1,a2,a3,a4,a5,a6,a7,a8,a9,a10,a11,a12,a13⟩;have hj:j < (aZ h o).length:=by have:=(aek.mp hx).1;rwa [aej] at this
         rw [aer,aeh hj] at hx;have tkj:(aZ h o).take (j+1)=(aZ h o).take j++[(aZ h o)[j]]:=by rw [aeT,aeh hj];rfl
         have hnm:(aZ h o)[j]∈aZ h o:=aeS hj;generalize (aZ h o)[j]=nm at *;cases hx;obtain⟨nlt,nno,nmay⟩:=next_iffD.mp hnm;refine⟨_,rfl,_,rfl,aY o,nm,rfl,by lia,fun H10 t10=>?_⟩;rw [← cN];have c3:=t10 _ _ a3;refine⟨fun σ' H'=>InI v d S Lv Fu h ks H H1 kvsL kS' ob os L n i o lh ln (j+1) σ' H',fun σ' H' z=>z,?_⟩;refine⟨_,rfl,_,rfl,Fu,_,rfl,DGet.k (k:=kB (o++[nm])) c3,_,rfl,?_⟩;have n10:Same (ndH H9) H10:=gE.trans t10;by_cases hin:aY (o++[nm])∈M'.map aY
         ·have e1:(eV kM' (kB (o++[nm]))).isSome=true:=by rw [uf,a10.keys,uC];exact hin
          rw [e1];refine gK ?_;refine .mk M' kM' _ _ rfl (t10 _ _ a1) (t10 _ _ a2) c3 (a4.trans t10) (a5.trans t10) (t10 _ _ a6) (t10 _ _ a7) (a8.same n10) (a9.same n10) (a10.same n10) a11 a12 fun k hk=>?_;rw [tkj,aew,aeq] at hk;rcases hk with hk | hk
          ·exact a13 k hk
          ·subst hk;exact hin
         ·have e1:(eV kM' (kB (o++[nm]))).isSome=false:=by
           rw [Bool.eq_false_iff];intro z;rw [uf,a10.keys,uC] at z;exact hin z
          rw [e1];refine ju ?_;have g10:=a5.trans t10;have DA10:=DA'.same g10;have hd10:=g10 _ _ (jO h1 rfl);have rg:h.2[nm]? = some (rmD h.2 nm):=by
           unfold rmD;rw [aeh nlt]
           rfl
          refine⟨_,rfl,d,dx',fs,rfl,hd10,h5,_,rfl,_,rfl,d,lh,nm,h,ks,aL h.1 h.2 o,rmD h.2 nm,rfl,DA10,rg,t10 _ _ a6,nmay,by lia,KO.few,fun bh H11 t11 nbh ebh=>?_⟩;have t911:=t10.trans t11;have c11:=t911 _ _ a3;have levM:=a11.snoc gO (lev.len o hom) hnm hin;have lenM:kM'.length < sizeLine:=by
           rw [a10.len];have:=vZ a11;lia
          have nof:kB (o++[nm]) ∉ kM'.map (·.1):=by
           rw [a10.keys,uC];exact hin
          refine⟨_,rfl,_,rfl,Fu,_,rfl,DPut.k (k:=kB (o++[nm])) c11 lenM,?_⟩;rw [wg nof];have ndF:Same (ndH H11) (upd H11 Fu (.dK (kM'++[(kB (o++[nm]),.ref bh)]))):=sr c11 rfl;have n11:Same (ndH H9) H11:=gE.trans t911;have ehv:H11 bh=some (.lst (hdV h ks (o++[nm]))):=by
           unfold hdV;rw [jq];exact ebh
          refine .mk (M'++[o++[nm]]) _ _ _ rfl (by rw [ak neSF];exact t911 _ _ a1) (by rw [ak neLF];exact t911 _ _ a2) af (bU (a4.trans t911) nF0) (uj (a5.trans t911) c11 rfl) (ndF _ _ (jO (t911 _ _ a6) rfl)) (ndF _ _ (jO (t911 _ _ a7) rfl)) ((a8.same n11).same ndF) ((a9.same n11).same ndF) ((a10.same n11).snoc ndF ehv) levM (fun x hx k hk=>?_) fun k hk=>?_
          ·rw [aeD,aew];exact .inl (a12 x hx k hk)
          ·rw [aeD,aew];rw [tkj,aew,aeq] at hk;rcases hk with hk | hk
           ·exact .inl (a13 k hk)
           ·subst hk;exact .inr (by simp)
def lG:Sp:=fun vs H Q _=>∃ (v:V) (h:Hs) (m:Nat),vs=[v,.int (m:Int)]/\HouseAt H v h/\cm h/\h.2.length<=m/\∀ H',Same H H'->Q .non H'
def tQ:Sp:=fun vs H Q _=>∃ (v:V) (h:Hs),vs=[v]/\HouseAt H v h/\h.2.length<=12/\∀ H',Same H H'->Q (.int ((2 ^ h.2.length - 1:Nat):Int)) H'
theorem uh:∀ n,aY (List.range n)=2 ^ n - 1
 | 0=>rfl
 | n+1=>by
  rw [agk,cN,uh n];apply Nat.eq_of_testBit_eq;intro i;rw [Nat.testBit_or,ahX,Nat.testBit_two_pow,ahX];by_cases h1:i < n
  ·rw [aeP h1,aeP (show i < n+1 by lia)]
   rfl
  ·rw [aeO h1,Bool.false_or];apply af9.mpr;lia
def rC (F:List Nat->Nat)(es:List (Key×V))(o:List Nat):Prop:=eV es (kB o)=some (.int ((F o:Nat):Int))
theorem qt {n:Nat}{o:List Nat}(nd:o.Nodup)(lt:∀ i∈o,i < n)(e:o.length=n):o.Perm (List.range n) :=
 (ah5 nd aiG).mpr fun i=>⟨fun hi=>afZ.mpr (lt i hi),fun hi=>aih fun no=>by
  have:=dH (n:=n) (o:=i::o) (afF.mpr ⟨no,nd⟩) fun j hj=>by
   rcases aeu.mp hj with e | e
   ·subst e;exact afZ.mp hi
   ·exact lt j e
  rw [aeU] at this;lia⟩
theorem fo {h:Hs}{o:List Nat}(g:cf h.1 h.2 o):aY o=2 ^ h.2.length - 1↔o.length=h.2.length:=by
 rw [← uh];constructor
 ·intro e;rw [(eI (aV o g) aiG e).length_eq,afv]
 ·exact fun e=>qo (qt (aV o g) (fO o g) e)
theorem sU {h:Hs}{os:List (List Nat)}(s:dg h os):os.length<=2 ^ h.2.length:=by
 have:(os.map aY).length<=2 ^ h.2.length:=dH s.nd fun i hi=>by
  obtain⟨o,ho,rfl⟩:=aeL.mp hi;exact rL (fO o (s.gone o ho))
 simpa using this
theorem iJ {α:Type}(f:α->Nat):∀ l:List α,(l.map fun i=>((f i:Nat):Int)).sum=((cW (l.map f):Nat):Int)
 | []=>rfl
 | a::l=>by
  rw [aeG,List.sum_cons,iJ f l,aeG,cG];lia
theorem aal:∀ {kvs:List (Key×V)} {os:List (List Nat)} {j:Nat} {kv:Key×V} {o:List Nat},kvs.map (·.1)=os.map kB->(os.map aY).Nodup->kvs[j]? = some kv->os[j]? = some o->eV kvs (kB o)=some kv.2
 | p::kvs,q::os,0,_,_,hk,_,e1,e2=>by
  cases e1;cases e2;rw [aeG,aeG] at hk;injection hk with h1 _
  exact cA h1
 | p::kvs,q::os,j+1,kv,o,hk,nd,e1,e2=>by
  rw [aeG,aeG] at hk;injection hk with h1 h2
  rw [aeG,afF] at nd;simp only [agN] at e1 e2;rw [cw (fun z=>nd.1 ?_)]
  ·exact aal h2 nd.2 e1 e2
  ·have:kB q=kB o:=h1.symm.trans z;rw [lX this];exact afB (aey e2)
 | [],_,_,_,_,_,_,e1,_=>by simp at e1
 | _::_,[],_,_,_,hk,_,_,_=>by simp at hk
theorem DictL.get {F:List Nat->List V}{H:Hp}{kvs:List (Key×V)}{os:List (List Nat)}(d:DictL F H kvs os)(nd:(os.map aY).Nodup){j:Nat}{o:List Nat}(e:os[j]? = some o):∃ l:Addr,eV kvs (kB o)=some (.ref l)/\H l=some (.lst (F o)):=by
 have hj:j < kvs.length:=by rw [d.len];exact (aek.mp e).1
 obtain⟨l,e1,e2⟩:=d.at_ j _ o (aeh hj) e;exact⟨l,by rw [aal d.keys nd (aeh hj) e,e1],e2⟩
theorem acI {h:Hs}{os:List (List Nat)}(s:dg h os){j:Nat}{o:List Nat}(e:os[j]? = some o){i:Nat}(hi:i∈aZ h o):∃ k o',os[k]? = some o'/\j < k/\aY o'=aY (o++[i])/\o'.Perm (o++[i]):=by
 have ho:=aey e;have g:=aF (s.gone o ho) hi;obtain⟨o',ho',eb⟩:=aeL.mp (s.all _ g);have p:=eI (aV o' (s.gone o' ho')) (aV _ g) eb;obtain⟨k,hk⟩:=afx ho';refine⟨k,o',hk,?_,eb,p⟩;have l:=p.length_eq;rw [aeo,ae7] at l;refine aih fun nlt=>?_;rcases Nat.lt_or_eq_of_le (ahD nlt) with lt | eq
 ·obtain⟨hk1,ek⟩:=aek.mp hk;obtain⟨hj1,ej⟩:=aek.mp e;have:=agv.mp s.up k j hk1 hj1 lt;rw [ek,ej] at this;lia
 ·subst eq;rw [hk] at e;cases e;lia
theorem gJ {H:Hp}{a:Addr}{kvs:List (Key×V)}{k:Key}{v:V}(e:H a=some (.dK kvs))(hv:eV kvs k=some v):DGet H a (kV k) (some v):=by
 rw [← hv];exact DGet.k e
inductive EdI (S E l:Addr)(h:Hs)(os:List (List Nat))(ks:List V)(H:Hp)(i:Nat)(σ:L2.St)(H':Hp):Prop
 | mk (x3:Option V) (es:List (Key×V)):σ=[some (.ref S),some (.int ((2 ^ h.2.length - 1:Nat):Int)),some (.ref E),x3]->H' E=some (.dK es)->H' l=some (.lst ks)->es.length<=2 * i->(∀ j o,os.length - i<=j->os[j]? = some o->rC (Ends h) es o)->Same H H'->EdI S E l h os ks H i σ H'
def ac5 (h:Hs)(o:List Nat):V->V
 | .int n=>.int ((Ends h (o++[n.toNat]):Nat):Int)
 | v=>v
def t9:Sp:=fun vs H Q _=>∃ (S:Addr) (kvs:List (Key×V)) (h:Hs) (os:List (List Nat)),vs=[.ref S,.int ((2 ^ h.2.length - 1:Nat):Int)]/\h.2.length<=12/\H S=some (.dK kvs)/\DictL (nxV h) H kvs os/\dg h os/\∀ (E:Addr) (es:List (Key×V)) (H':Hp),Same H H'->H E=none->H' E=some (.dK es)->(∀ o∈os,rC (Ends h) es o)->Q (.ref E) H'
theorem kQ:az ["thing","most"] ["thing","most"] (ai cU):=scM rfl rfl rfl rfl (by decide +kernel)
theorem vh {T f:Addr}{fd:FuncData}{oc d:Value}{od:Option Addr}{n:Nat}{sl:Array (Option Value)}(F:FunD K "require_small" "require_small" cU T f fd)(hT:K.lookup T=some ⟨oc,od,.seq #[d] n,sl⟩):Binds K fd ["thing","most"] [d]:=by
 obtain⟨_,_,kV,doc,pm,an,cdv,ct,osl,rfl,lk,hcd⟩:=F.ex;intro s us KX hl;have l1:us.length=1:=by simpa using hl
 match us,l1 with
 | [x],_=>exact BindsTo.of_defaults rfl (KX _ _ hT) rfl rfl rfl
theorem zE {T f fR:Addr}{fd fdR:FuncData}(F:FunD K "require_small" "require_small" cU T f fd)(mJ:FnOk P w K mg base CX0 6 fR fdR ["thing"] ab7)(fh:Cal K mg "require_house" ["thing"] fR fdR)(dv:mg "len" = none):FnOk P w K mg base CX0 7 f fd ["thing","most"] lG:=by
 refine F.ok kQ (fun vs H Q E h=>?_) (fun cdv A outer s H vs Q E hr h=>?_)
 ·obtain⟨v,h,m,rfl,_⟩:=h
  rfl
 ·have hu:=eM hr;obtain⟨v,h,m,rfl,hh,ok,le,q⟩:=h;refine⟨_,(ag (dh (pcl mJ fh hr rfl (ae (pv 0) ah)))
   (aq (fi (aT abL (av aI rfl dv afw (ae (aN bP (pv 0) aj (fun _ _=>rfl)) ah)) (pv 1) (bM _))
    m8 bu))),?_⟩
  refine⟨_,rfl,v,h,rfl,hh,ok,fun H1 s1=>?_⟩;obtain⟨t,a,r,vs,rfl,h1,h2,h3,h4⟩:=hh;refine⟨_,rfl,t,_,_,_,rfl,rfl,aAB (s1 _ _ h1),rfl,r,_,rfl,.inl (aAA (s1 _ _ h3)),_,rfl,_,_,rfl,rfl,_,rfl,?_⟩;rw [aeO (by have:=h4.1;lia)];exact gK (q H1 s1)
theorem pA:az ["house"] ["house"] (ai gw):=scM rfl rfl rfl rfl (by decide +kernel)
theorem aaO {f:Addr}{fd:FuncData}(F:Fun K "set_of_all" "set_of_all" gw f fd)(dv:mg "len" = none):FnOk P w K mg base CX0 1 f fd ["house"] tQ:=by
 refine F.ok pA (fun vs H Q E h=>?_) (fun cdv A outer s H vs Q E hr h=>?_)
 ·obtain⟨v,h,rfl,_⟩:=h
  rfl
 ·have hu:=eM hr;obtain⟨v,h,rfl,⟨t,a,r,vs,rfl,h1,h2,h3,h4⟩,l12,q⟩:=h;refine⟨_,(aq (aJ (bj tZ (bj aai aj (av aI rfl dv afw (ae (aN bP (pv 0) aj (fun _ _=>rfl)) ah))) aj))),?_⟩;refine⟨_,rfl,t,_,1,.ref r,rfl,rfl,aAB h1,rfl,r,_,rfl,.inl (aAA h3),?_⟩;refine⟨1,_,rfl,rfl,?_,_,1,rfl,rfl,?_⟩
  ·have:=h4.1;constructor<;>lia
  ·rw [aeY,h4.1,Int.one_mul];have e:((2:Int) ^ h.2.length - 1)=((2 ^ h.2.length - 1:Nat):Int):=by
    have:=Nat.one_le_two_pow (n:=h.2.length);rw [Int.ofNat_sub this,Int.natCast_pow]
    rfl
   show Q (V.int ((2:Int) ^ h.2.length - 1)) H;rw [e];exact q H (Same.refl H)
theorem kA:az ["steps","whole","ends","opened"] ["steps","whole"] (ai iL):=scM rfl rfl rfl rfl (by decide +kernel)
theorem qH:(["number","ends","opened"]:List Str).Nodup:=by decide +kernel
theorem aa5 {f fW:Addr}{fd fdW:FuncData}(F:Fun K "ends_of" "ends_of" iL f fd)(bw:FnOk P w K mg base CX0 1 fW fdW ["opened","number"] nN)(aD:Cal K mg "with_room" ["opened","number"] fW fdW)(cF:mg "list" = none)(ko:mg "reversed" = none)(jW:mg "sum" = none):FnOk P w K mg base CX0 2 f fd ["steps","whole"] t9:=by
 refine F.ok kA (fun vs H Q E h=>?_) (fun cdv A outer s H vs Q E hr h=>?_)
 ·obtain⟨S,kvs,h,os,rfl,_⟩:=h
  rfl
 ·have hu:=eM hr;obtain⟨S,kvs,h,os,rfl,l12,hS,dl,sa,q⟩:=h;refine⟨_,(ag (aw (i:=2) kA.nd rfl (.inr rfl) kT)
   (ag (bz (cQ aeX rfl (ab3 rfl ko (ae (di (ny rfl) rfl cF (by decide +kernel) (ae (pv 0) ah)) ah)) (au (i:=3) kA.nd rfl (.inr rfl))
    (ag (j6 hu (pv 2) (pv 3) (av (gS rfl) rfl jW (by decide +kernel) (ae (iV (tg:=.Name "number" _) (outer:=ai (iL)) (N:=["steps","whole","ends","opened"]) (N':=["number","ends","opened"]) (nl:=1) (ix:=[2,3]) rfl rfl rfl (aQ (cq hu (pv 0) (pv 3) (fun _ _=>rfl)))
    (fun _ _ _ _=>(au (i:=0) qH rfl (.inl rfl) (.inr rfl))) (fun _ _ _ _=>cn)
    (fun _ _ _ _=>(cq (by exact hu) (pv 1) (pcl bw aD hr rfl (ae (pv 2) (ae (pv 0) ah))) (fun _ _=>rfl)))) ah)) rfl)
    (aq (bz (fi (aT vw (pv 3) (pv 1) (bM _))
     (aq (j6 hu (pv 2) (pv 3) aj rfl)) bu))))))
   (aq (aJ (pv 2))))),?_⟩
  intro E nE;have s0:Same H (upd H E (.dK [])):=ao nE;have e0:(upd H E (.dK [])) E=some (.dK []):=af;generalize upd H E (.dK [])=H0 at *;have few:=sU sa;have p12:2 ^ h.2.length<=4096:=aeN (agw (by decide) l12) (by decide);have kl:=dl.len;have lim:1000000 < sizeLine:=by decide
  refine⟨fun σ H'=>∃ l,EdI S E l h os (kvs.map fun p=>kV p.1) H os.length σ H',?_,?_⟩
  ·rintro σ H1 ⟨l,x3,es,rfl,eE,_,_,all,s1⟩;exact⟨_,rfl,q E es H1 s1 nE eE fun o ho=>by
    obtain⟨j,hj⟩:=afx ho;exact all j o (by lia) hj⟩
  ·refine⟨_,rfl,S,kvs,rfl,s0 _ _ hS,by lia,fun l nl=>?_⟩;have s1:Same H (upd H0 l (.lst (kvs.map fun p=>kV p.1))):=s0.trans (ao nl);have el:E≠l:=fun z=>by rw [z] at e0;rw [e0] at nl;cases nl
   refine⟨l,_,rfl,aAA af,?_⟩;have kll:(kvs.map fun p=>kV p.1).length=os.length:=by rw [aej,kl]
   refine abj (xs:=kvs.map fun p=>kV p.1) (EdI S E l h os (kvs.map fun p=>kV p.1) H) ⟨_,[],rfl,by rw [ak el];exact e0,af,aeM _,fun j o hj e=>?_,s1⟩ (fun i σ H' _ ⟨_,_,_,_,hl,_,_,_⟩=>aAA hl) ?_ ?_
   ·have:=(aek.mp e).1;lia
   ·rw [kll];rintro i x σ H2 hx hi ⟨x3,es,rfl,eE,hl,len,all,s2⟩;have hj:os.length - 1 - i < os.length:=by lia
    obtain⟨o,ho⟩:∃ o,os[os.length - 1 - i]? = some o:=⟨_,aeh hj⟩;obtain⟨ln,vn,hn⟩:=dl.get sa.nd ho;have hom:=aey ho;have g:=sa.gone o hom;have ex:x=.int ((aY o:Nat):Int):=by
     have e1:(kvs.map (·.1))[os.length - 1 - i]? = some (kB o):=by rw [dl.keys,aer,ho];rfl
     rw [aer] at e1 hx;cases hk:kvs[os.length - 1 - i]? with
     | none=>rw [hk] at hx;cases hx
     | some kv =>
      rw [hk] at e1 hx;cases hx;injection e1 with e1
      have e2:kv.1=kB o:=e1;show kV kv.1=_;rw [e2]
      rfl
    subst ex;dsimp only [cI,zr,abo,tCB,je,rT];refine aK _ _ _ _ _ _ _ _ _ ?_;refine⟨_,rfl,_,rfl,S,.ref ln,rfl,gJ (s2 _ _ hS) vn,ln,rfl,⟨_,aAA (s2 _ _ hn)⟩,fun D nD=>?_⟩;have lx:(nxV h o).length<=1000000:=by
     rw [aej];have:=dH (ou h o) fun i hi=>(next_iffD.mp hi).1;lia
    refine jN (F:=ac5 h o) (s2 _ _ hn) nD lx (fun x=>rfl) (fun G x R hx sG r=>?_) (fun G sG hD=>?_)
    ·obtain⟨n,hn',rfl⟩:=aeL.mp hx;obtain⟨k2,o2,e2,lt2,eb,pm⟩:=acI sa ho hn';have nd2:=all k2 o2 (by lia) e2;refine⟨_,rfl,_,rfl,_,rfl,aY o,n,rfl,by have:=(next_iffD.mp hn').1;lia,fun G' s'=>⟨E,_,rfl,gJ (k:=.inl ((aY o ||| 2 ^ n:Nat):Int)) (s' _ _ (sG _ _ eE)) (v:=.int ((Ends h (o++[n]):Nat):Int)) ?_,r G' s'⟩⟩;unfold rC at nd2;rw [← cN,← eb];rw [nd2,Ends.perm (sa.gone o2 (aey e2)) (aF g hn') pm]
    ·refine⟨D,(aZ h o).map fun n=>((Ends h (o++[n]):Nat):Int),rfl,aAA (by rw [hD,aeZ,aeZ];rfl),_,rfl,_,rfl,E,_,rfl,.k (k:=kB o) (sG _ _ eE) (by lia),?_⟩;rw [iJ fun n=>Ends h (o++[n])];have sE:Same H (upd G E (.dK (fY es (kB o) (.int ((cW ((aZ h o).map fun n=>Ends h (o++[n])):Nat):Int))))):=bU (s2.trans sG) nE;have e2:(upd G E (.dK (fY es (kB o) (.int ((cW ((aZ h o).map fun n=>Ends h (o++[n])):Nat):Int))))) E=some (.dK (fY es (kB o) (.int ((cW ((aZ h o).map fun n=>Ends h (o++[n])):Nat):Int)))):=af;have l2:(upd G E (.dK (fY es (kB o) (.int ((cW ((aZ h o).map fun n=>Ends h (o++[n])):Nat):Int))))) l=some (.lst (kvs.map fun p=>kV p.1)):=by rw [ak (afO el)];exact sG _ _ hl
     generalize upd G E (.dK (fY es (kB o) (.int ((cW ((aZ h o).map fun n=>Ends h (o++[n])):Nat):Int))))=G2 at *;have pl:∀ v,(fY es (kB o) v).length<=es.length+1:=fun v=>dF _ _ _;have oth:∀ (es':List (Key×V)) (v:V),eV es' (kB o)=some (.int ((Ends h o:Nat):Int))->(∀ k,k≠kB o->eV es' k=eV es k)->∀ j' o',os.length - (i+1)<=j'->os[j']? = some o'->rC (Ends h) es' o':=fun es' v h1 h2 j' o' hj' ho'=>by
      by_cases ej:j'=os.length - 1 - i
      ·subst ej;rw [ho] at ho';cases ho';exact h1
      ·unfold rC;rw [h2 _ fun z=>ej ?_]
       ·exact all j' o' (by lia) ho'
       ·have eb:=lX z;have ha:(os.map aY)[j']? = some (aY o'):=by rw [aer,ho'];rfl
        have hb:(os.map aY)[os.length - 1 - i]? = some (aY o):=by rw [aer,ho];rfl
        exact (ahw (aek.mp ha).1 sa.nd).mp (by rw [ha,hb,eb])
     refine⟨EdI S E l h os (kvs.map fun p=>kV p.1) H (i+1),fun σ H h=>h,?_⟩;refine⟨_,rfl,_,rfl,rfl,_,rfl,acN (fun e=>?_) (fun e=>?_)⟩
     ·have ew:o.length=h.2.length:=(fo g).mp (by
       have:=afL e;injection this with this
       lia)
      refine⟨_,rfl,_,rfl,E,_,rfl,.k (k:=kB o) e2 (by have:=pl (.int ((cW ((aZ h o).map fun n=>Ends h (o++[n])):Nat):Int));lia),?_⟩;refine⟨_,_,rfl,af,by rw [ak (afO el)];exact l2,?_,oth _ .non ?_ fun k hk=>?_,bU sE nE⟩
      ·have h1:=pl (.int ((cW ((aZ h o).map fun n=>Ends h (o++[n])):Nat):Int));have h2:=dF (fY es (kB o) (.int ((cW ((aZ h o).map fun n=>Ends h (o++[n])):Nat):Int))) (kB o) (.int 1);lia
      ·rw [fV,if_pos rfl,Ends.all ew];rfl
      ·rw [fV,if_neg hk,fV,if_neg hk]
     ·have lt:o.length < h.2.length:=by
       have h1:=iN g;refine Nat.lt_of_le_of_ne h1 fun z=>e ?_;rw [(fo g).mpr z];exact aeP rfl
      refine⟨_,_,rfl,e2,l2,by have:=pl (.int ((cW ((aZ h o).map fun n=>Ends h (o++[n])):Nat):Int));lia,oth _ .non ?_ fun k hk=>?_,sE⟩
      ·rw [fV,if_pos rfl,Ends.step lt]
      ·rw [fV,if_neg hk]
   ·rw [kll];exact fun σ H' z=>⟨l,z⟩
def z4:Sp:=fun vs H Q _=>∃ (S:Addr) (kvs:List (Key×V)) (h:Hs) (os:List (List Nat)),vs=[.ref S]/\h.2.length<=12/\H S=some (.dK kvs)/\DictL (nxV h) H kvs os/\dg h os/\∀ (E:Addr) (es:List (Key×V)) (wf:List Nat->Nat) (H':Hp),Same H H'->H E=none->H' E=some (.dK es)->(∀ o∈os,rC wf es o)->cW ((os.filter fun o=>(aZ h o).isEmpty).map wf)=Stuck h []->Q (.ref E) H'
theorem mf {h:Hs}{os:List (List Nat)}(sa:dg h os):∃ z∈os,kB z=.inl 0/\z.Perm []:=by
 obtain⟨z,hz,ez⟩:=aeL.mp (sa.all [] (bQ _ _));refine⟨z,hz,?_,eI (aV z (sa.gone z hz)) .nil ez⟩;unfold kB;rw [ez]
 rfl
def uT (h:Hs)(os:List (List Nat))(k:Key):Bool:=os.any fun o=>decide (kB o=k) && stop h o
theorem vI:∀ (kvs:List (Key×V)) (k:Key),k∈kvs.map (·.1)->eV (kvs.map fun p=>(p.1,V.int 0)) k=some (.int 0)
 | [],_,hk=>by cases hk
 | p::r,k,hk=>by
  show eV ((p.1,V.int 0)::r.map fun p=>(p.1,V.int 0)) k=_;by_cases e:p.1=k
  ·exact cA e
  ·rw [cw (p:=(p.1,V.int 0)) e];refine vI r k ?_;rcases aeu.mp hk with z | z
   ·exact absurd z.symm e
   ·exact z
inductive WaI (S W:Addr)(h:Hs)(os:List (List Nat))(kvs:List (Key×V))(ob:Obj)(H:Hp)(i:Nat)(σ:L2.St)(H':Hp):Prop
 | mk (es:List (Key×V)) (wf:List Nat->Nat) (x2 x3 x4:Option V):σ=[some (.ref S),some (.ref W),x2,x3,x4]->H' W=some (.dK es)->H' S=some (.frz ob (.dK kvs))->es.map (·.1)=os.map kB->(∀ o∈os,rC wf es o)->Tot h os i wf=Stuck h []->Same (ck S H) H'->WaI S W h os kvs ob H i σ H'
inductive WbI (S W:Addr)(h:Hs)(os:List (List Nat))(kvs:List (Key×V))(ob:Obj)(H:Hp)(i:Nat)(o:List Nat)(ln:Addr)(j:Nat)(σ:L2.St)(H':Hp):Prop
 | mk (es:List (Key×V)) (wf:List Nat->Nat) (x4:Option V):σ=[some (.ref S),some (.ref W),some (.int ((aY o:Nat):Int)),some (.ref ln),x4]->H' W=some (.dK es)->H' S=some (.frz ob (.dK kvs))->es.map (·.1)=os.map kB->(∀ o∈os,rC wf es o)->aar h os i o j wf=Stuck h []->Same (ck S H) H'->WbI S W h os kvs ob H i o ln j σ H'
theorem gg:az ["steps","ways","opened","numbers","number"] ["steps"] (ai iM):=scM rfl rfl rfl rfl (by decide +kernel)
theorem qI:(["opened"]:List Str).Nodup:=by decide +kernel
theorem aaW {f fW:Addr}{fd fdW:FuncData}(F:Fun K "ways_of" "ways_of" iM f fd)(bw:FnOk P w K mg base CX0 1 fW fdW ["opened","number"] nN)(aD:Cal K mg "with_room" ["opened","number"] fW fdW):FnOk P w K mg base CX0 2 f fd ["steps"] z4:=by
 refine F.ok gg (fun vs H Q E h=>?_) (fun cdv A outer s H vs Q E hr h=>?_)
 ·obtain⟨S,kvs,h,os,rfl,_⟩:=h
  rfl
 ·have hu:=eM hr;obtain⟨S,kvs,h,os,rfl,l12,hS,dl,sa,q⟩:=h;refine⟨_,(ag (zj (i:=1) (tg:=.Name "opened" _) (outer:=ai (iM)) (N:=["steps","ways","opened","numbers","number"]) (N':=["opened"]) (nl:=1) (ix:=[]) gg.nd rfl (.inl rfl) rfl rfl rfl (wx (H₀:=H) rfl (pv 0))
   (fun _ _ _ _=>(au (i:=0) qI rfl (.inl rfl) (.inr rfl))) (fun _ _ _ _=>cn)
   (fun _ _ _ _=>(pv 0)) (fun _ _ _ _=>aj))
   (ux (H₀:=H) rfl (ag (j6 hu (pv 1) aj aj rfl)
   (ag (bz (cQ aeX rfl (ug (H₀:=H) rfl (pv 0)) (gW rfl (ay (au (i:=2) gg.nd rfl (.inl rfl)) (ay (au (i:=3) gg.nd rfl (.inl rfl)) cD)))
    (aq (bz (cQ aeX rfl (aQ (pv 3)) (au (i:=4) gg.nd rfl (.inl rfl))
     (aq (aaF hu (pv 1) (pcl bw aD hr rfl (ae (pv 2) (ae (pv 4) ah))) (cq hu (pv 1) (pv 2) (fun _ _=>rfl)) aco (by intros;rfl))))))))
   (ux (H₀:=H) rfl (aq (aJ (pv 1)))))))),?_⟩
  have few:=sU sa;have p12:2 ^ h.2.length<=4096:=aeN (agw (by decide) l12) (by decide);have kl:=dl.len;have lim:1000000 < sizeLine:=by decide
  have kn:(kvs.map (·.1)).Nodup:=by
   rw [dl.keys];have:=sa.nd;rw [List.nodup_iff_pairwise_ne,aiu] at this ⊢;exact this.imp fun n z=>n (lX z)
  obtain⟨z0,hz0,kz,pz⟩:=mf sa;have ez0:aY z0=aY []:=qo pz;dsimp only [cI,zr,abo,tCB,je,rT];refine zO _ _ _ _ _ _ _ _ _ _ ?_;refine⟨_,rfl,S,kvs,rfl,hS,fun ob nf D nD=>?_⟩;have neSD:S≠D:=fun z=>by subst z;rw [af] at nD;cases nD
  have nD0:H D=none:=by rw [ak (afO neSD)] at nD;exact nD
  refine sy (F:=fun _=>.int 0) (a:=S) (o:=ob) (kvs:=kvs) af kn nD (by lia) (fun x=>rfl) (fun G k R r=>⟨_,rfl,r⟩) (fun G k R hk sG r=>r G (Same.refl G)) fun G sG hG=>?_;have sO:Same (ck S H) (upd H S (.frz ob (.dK kvs))):=fun b u e=>by
   unfold ck at e;split at e
   ·cases e
   ·rename_i hb;rw [ak hb];exact e
  have nDo:ck S H D=none:=by
   unfold ck;rw [if_neg (afO neSD)];exact nD0
  refine⟨S,ob,kvs,sG _ _ af,nf,?_⟩;have hD1:(upd G S (.dK kvs)) D=some (.dK (kvs.map fun p=>(p.1,V.int 0))):=by rw [ak (afO neSD)];exact hG
  have zk:∀ k,k∈kvs.map (·.1)->eV (kvs.map fun p=>(p.1,V.int 0)) k=some (.int 0):=fun k hk=>vI kvs k hk;refine⟨_,rfl,D,_,rfl,.k (k:=.inl 0) hD1 (by rw [aej];lia),?_⟩;have kp:∀ (es:List (Key×V)) (x:List Nat) (v:V),x∈os->es.map (·.1)=os.map kB->(fY es (kB x) v).map (·.1)=os.map kB:=fun es x v hx he=>by
   rcases zA es (kB x) v with ⟨e,_⟩ | ⟨_,n⟩
   ·rw [e,he]
   ·exact absurd (afB hx) (by rw [← he];exact n)
  have s1:Same (ck S H) (upd (upd G S (.dK kvs)) D (.dK (fY (kvs.map fun p=>(p.1,V.int 0)) (.inl 0) (.int 1)))):=by
   refine bU (fun b u e=>?_) nDo;have e1:=sG _ _ (sO _ _ e);unfold ck at e;split at e
   ·cases e
   ·rename_i hb;rw [ak hb];exact e1
  have hS1:(upd (upd G S (.dK kvs)) D (.dK (fY (kvs.map fun p=>(p.1,V.int 0)) (.inl 0) (.int 1)))) S=some (.dK kvs):=by rw [ak neSD,af]
  have hD2:(upd (upd G S (.dK kvs)) D (.dK (fY (kvs.map fun p=>(p.1,V.int 0)) (.inl 0) (.int 1)))) D=some (.dK (fY (kvs.map fun p=>(p.1,V.int 0)) (.inl 0) (.int 1))):=af;generalize upd (upd G S (.dK kvs)) D (.dK (fY (kvs.map fun p=>(p.1,V.int 0)) (.inl 0) (.int 1)))=G1 at *;have k1:(fY (kvs.map fun p=>(p.1,V.int 0)) (.inl 0) (.int 1)).map (·.1)=os.map kB:=by
   rw [← kz];exact kp _ z0 _ hz0 (by rw [aeZ,← dl.keys];rfl)
  have n1:∀ o∈os,rC (upB 0 1 fun _=>0) (fY (kvs.map fun p=>(p.1,V.int 0)) (.inl 0) (.int 1)) o:=fun o ho=>by
   unfold rC upB;rw [fV];by_cases e:aY o=0
   ·rw [if_pos (by unfold kB;rw [e];rfl),if_pos e];rfl
   ·rw [if_neg (fun z=>e ?_),if_neg e]
    ·exact zk _ (by rw [dl.keys];exact afB ho)
    ·rw [← kz] at z;exact (lX z).trans ez0
  generalize fY (kvs.map fun p=>(p.1,V.int 0)) (.inl 0) (.int 1)=es1 at *;refine⟨fun σ H'=>∃ o',WaI S D h os kvs o' H os.length σ H'/\∀ o'' u,H S≠some (.frz o'' u),?_,?_⟩
  ·rintro σ H3 ⟨o',⟨es,wf,x2,x3,x4,rfl,e1,e2,e3,e4,e5,e6⟩,nf3⟩;refine⟨S,o',kvs,e2,nf3,_,rfl,q D es wf _ (fun b u e=>?_) nD0 (by rw [ak (afO neSD)];exact e1) e4 ?_⟩
   ·by_cases hb:b=S
    ·subst hb;rw [hS] at e;cases e;exact af
    ·rw [ak hb];exact e6 _ _ (by unfold ck;rw [if_neg hb];exact e)
   ·rw [aaz] at e5;exact e5
  ·refine⟨_,rfl,S,kvs,rfl,hS1,fun o' nf'=>?_⟩;refine p7 (WaI S D h os kvs o' H) (.mk es1 _ none none none rfl (by rw [ak (afO neSD)];exact hD2) af k1 n1 (acZ sa) (fun b u e=>?_)) (fun i σ H' _ ⟨_,_,_,_,_,_,_,e,_,_,_,_⟩=>e) ?_ (fun σ H' z=>⟨o',by rw [← kl];exact z,nf⟩)
   ·have e1:=s1 _ _ e;unfold ck at e;split at e
    ·cases e
    ·rename_i hb;rw [ak hb];exact e1
   ·rintro i k vv σ H5 T hkv ⟨es,wf,x2,x3,x4,rfl,e1,e2,e3,e4,e5,e6⟩ nT;have hi:i < os.length:=by rw [← kl];exact (aek.mp hkv).1
    obtain⟨o,ho⟩:∃ o,os[i]? = some o:=⟨_,aeh hi⟩;have hom:=aey ho;have g:=sa.gone o hom;obtain⟨ln,ev,eln⟩:=dl.at_ i (k,vv) o hkv ho;have ekk:k=kB o:=by
     have a:(kvs.map (·.1))[i]? = some k:=by rw [aer,hkv];rfl
     rw [dl.keys,aer,ho] at a;exact (afg a).symm
    dsimp only at ev;subst ev ekk;have s6:Same H5 (upd H5 T (.tup [kV (kB o),.ref ln])):=ao nT;have e7:(upd H5 T (.tup [kV (kB o),.ref ln])) T=some (.tup [kV (kB o),.ref ln]):=af;generalize upd H5 T (.tup [kV (kB o),.ref ln])=H6 at *;refine⟨T,_,rfl,aAB e7,rfl,?_⟩;refine⟨_,_,rfl,_,_,rfl,rfl,?_⟩;have nlS:ln≠S:=fun z=>by subst z;rw [hS] at eln;cases eln
    have hln:∀ {G},Same (ck S H) G->G ln=some (.lst (nxV h o)):=fun s=>s _ _ (by unfold ck;rw [if_neg nlS];exact eln);refine⟨WbI S D h os kvs o' H i o ln (aZ h o).length,?_,?_⟩
    ·rintro σ' H9 ⟨es,wf,x4,rfl,a1,a2,a3,a4,a5,a6⟩;exact .mk es wf _ _ _ rfl a1 a2 a3 a4 (by rw [← abu];exact a5) a6
    ·refine⟨_,rfl,ln,rfl,⟨_,aAA (hln (e6.trans s6))⟩,?_⟩;refine dI (xs:=nxV h o) (fun j σ' H'=>WbI S D h os kvs o' H i o ln j σ' H') (.mk es wf _ rfl (s6 _ _ e1) (s6 _ _ e2) e3 e4 (by rw [← abN ho g];exact e5) (e6.trans s6)) (fun j σ H' _ ⟨_,_,_,_,_,_,_,_,_,s⟩=>aAA (hln s)) ?_ (fun σ H' z=>by rw [aej] at z;exact z);rintro j x σ H9 hx ⟨es,wf,x4,rfl,a1,a2,a3,a4,a5,a6⟩;obtain⟨n,en,ex⟩:∃ n,(aZ h o)[j]? = some n/\x=.int ((n:Nat):Int):=by
      rw [aer] at hx;cases hq:(aZ h o)[j]? with
      | none=>rw [hq] at hx;cases hx
      | some n=>rw [hq] at hx;cases hx;exact⟨n,rfl,rfl⟩
     subst ex;have hn':=aey en;obtain⟨k2,y,ey,lt2,eb,pm⟩:=acI sa ho hn';have hym:=aey ey;have ekey:(Sum.inl ((aY o ||| 2 ^ n:Nat):Int):Key)=kB y:=by
      unfold kB;rw [eb,cN]
     have ly:es.length=os.length:=by simpa using afy List.length a3
     refine⟨_,rfl,_,rfl,_,rfl,aY o,n,rfl,by have:=(next_iffD.mp hn').1;lia,fun G' s'=>⟨D,_,rfl,gJ (k:=.inl ((aY o ||| 2 ^ n:Nat):Int)) (s' _ _ a1) (by rw [ekey];exact a4 y hym),?_⟩⟩;refine⟨_,rfl,_,rfl,D,_,rfl,gJ (k:=kB o) (s' _ _ a1) (a4 o hom),?_⟩;refine⟨_,_,rfl,rfl,_,.k (k:=.inl ((aY o ||| 2 ^ n:Nat):Int)) (s' _ _ a1) (by lia),?_⟩;rw [ekey];refine .mk _ (upB (aY y) (wf o) wf) _ rfl af (by rw [ak neSD];exact s' _ _ a2) (kp _ y _ hym a3) (fun z hz=>?_) (by rw [acD sa.nd ho ey lt2 en (Stuck.perm (sa.gone y hym) (aF g hn') pm)];exact a5) (bU (a6.trans s') nDo);have hz':=a4 z hz;have hy':=a4 y hym;unfold rC at hz' hy' ⊢;rw [fV];by_cases eq:aY z=aY y
     ·have ek:kB z=kB y:=by unfold kB;rw [eq]
      rw [ek] at hz' ⊢;rw [hy'] at hz';injection hz' with hz'
      injection hz' with hz'
      rw [if_pos rfl];unfold upB;rw [if_pos eq];congr 2;lia
     ·rw [if_neg (fun q=>eq (lX q)),qh eq];exact hz'
def aaj:Sp:=fun vs H Q _=>∃ (v:V) (h:Hs),vs=[v]/\HouseAt H v h/\cm h/\vF h/\h.2.length<=12/\∀ H',Same H H'->Q (.int ((Ends h []:Nat):Int)) H'
def wm:Sp:=fun vs H Q _=>∃ (v:V) (h:Hs),vs=[v]/\HouseAt H v h/\cm h/\vF h/\h.2.length<=12/\∀ H',Same H H'->Q (.int ((Stuck h []:Nat):Int)) H'
theorem jK:az ["house"] ["house"] (ai dj):=scM rfl rfl rfl rfl (by decide +kernel)
theorem aaB {f fS fT fE fA:Addr}{fd fdS fdT fdE fdA:FuncData}{tk:Nat}(F:Fun K "how_many_orders" "how_many_orders" dj f fd)(bt:FnOk P w K mg base CX0 7 fS fdS ["thing","most"] lG)(mS:mg "require_small" = some (.ref fS))(kS:keepIn K (.ref fS)=true)(bS:Binds K fdS ["thing","most"] [.int 12 tk])
 (dA:FnOk P w K mg base CX0 3 fT fdT ["house"] mW)(bD:Cal K mg "steps_of" ["house"] fT fdT)(dR:FnOk P w K mg base CX0 1 fA fdA ["house"] tQ)(bR:Cal K mg "set_of_all" ["house"] fA fdA)(iq:FnOk P w K mg base CX0 2 fE fdE ["steps","whole"] t9)(dq:Cal K mg "ends_of" ["steps","whole"] fE fdE):FnOk P w K mg base CX0 8 f fd ["house"] aaj:=by
 refine F.ok jK (fun vs H Q E h=>?_) (fun cdv A outer s H vs Q E hr h=>?_)
 ·obtain⟨v,h,rfl,_⟩:=h
  rfl
 ·have hu:=eM hr;obtain⟨v,h,rfl,hh,ok,few,l12,q⟩:=h;refine⟨_,(ag (dh (eA bt hr rfl mS kS bS (dvs:=[.int 12]) (.cons ⟨tk,rfl⟩ .nil) jt (ae (pv 0) ah)))
   (aq (aJ (cq hu (pcl iq dq (hr.mono (by decide:2<=7)) rfl (ae (pcl dA bD (hr.mono (by decide:3<=7)) rfl (ae (pv 0) ah)) (ae (pcl dR bR (hr.mono (by decide:1<=7)) rfl (ae (pv 0) ah)) ah))) aj (fun _ _=>rfl))))),?_⟩
  refine⟨_,rfl,v,h,12,rfl,hh,ok,l12,fun H1 s1=>?_⟩;refine⟨_,rfl,v,h,rfl,hh.same s1,ok,few,l12,fun S kvs os H2 s2 nS eS dl sa=>?_⟩;refine⟨_,rfl,v,h,rfl,(hh.same s1).same s2,l12,fun H3 s3=>?_⟩;refine⟨S,kvs,h,os,rfl,l12,s3 _ _ eS,dl.same (gE.trans s3),sa,fun E es H4 s4 nE eE all=>?_⟩;obtain⟨z0,hz0,ez0,ks⟩:=mf sa;refine⟨E,_,rfl,gJ (k:=.inl 0) eE (by rw [← ez0];exact all z0 hz0),?_⟩;rw [Ends.perm (sa.gone z0 hz0) (bQ _ _) ks];exact q H4 (((s1.trans s2).trans s3).trans s4)
theorem dE:az ["house","steps","ways"] ["house"] (ai cJ):=scM rfl rfl rfl rfl (by decide +kernel)
theorem ja:(["opened","ways","steps"]:List Str).Nodup:=by decide +kernel
theorem zJ {f fS fT fW:Addr}{fd fdS fdT fdW:FuncData}{tk:Nat}(F:Fun K "how_many_stuck" "how_many_stuck" cJ f fd)(bt:FnOk P w K mg base CX0 7 fS fdS ["thing","most"] lG)(mS:mg "require_small" = some (.ref fS))(kS:keepIn K (.ref fS)=true)(bS:Binds K fdS ["thing","most"] [.int 12 tk])
 (dA:FnOk P w K mg base CX0 3 fT fdT ["house"] mW)(bD:Cal K mg "steps_of" ["house"] fT fdT)(xE:FnOk P w K mg base CX0 2 fW fdW ["steps"] z4)(mi:Cal K mg "ways_of" ["steps"] fW fdW)(jW:mg "sum" = none):FnOk P w K mg base CX0 8 f fd ["house"] wm:=by
 refine F.ok dE (fun vs H Q E h=>?_) (fun cdv A outer s H vs Q E hr h=>?_)
 ·obtain⟨v,h,rfl,_⟩:=h
  rfl
 ·have hu:=eM hr;obtain⟨v,h,rfl,hh,ok,few,l12,q⟩:=h;refine⟨_,(ag (dh (eA bt hr rfl mS kS bS (dvs:=[.int 12]) (.cons ⟨tk,rfl⟩ .nil) jt (ae (pv 0) ah)))
   (ag (aw (i:=1) dE.nd rfl (.inr rfl) (pcl dA bD (hr.mono (by decide:3<=7)) rfl (ae (pv 0) ah)))
   (ag (aw (i:=2) dE.nd rfl (.inr rfl) (pcl xE mi (hr.mono (by decide:2<=7)) rfl (ae (pv 1) ah)))
   (aq (aJ (av (gS rfl) rfl jW (by decide +kernel) (ae (aaC (H₀:=H) rfl (iV (tg:=.Name "opened" _) (outer:=ai (cJ)) (N:=["house","steps","ways"]) (N':=["opened","ways","steps"]) (nl:=1) (ix:=[2,1]) rfl rfl rfl (wx (H₀:=H) rfl (pv 1))
    (fun _ _ _ _=>(au (i:=0) ja rfl (.inl rfl) (.inr rfl))) (fun _ _ _ _=>(jk (fw (yb (K:=K) rfl (cq (by exact hu) (pv 2) (pv 0) (fun _ _=>rfl)) (by intro _;rfl)))))
    (fun _ _ _ _=>(cq (by exact hu) (pv 1) (pv 0) (fun _ _=>rfl))))) ah))))))),?_⟩
  refine⟨_,rfl,v,h,12,rfl,hh,ok,l12,fun H1 s1=>?_⟩;refine⟨_,rfl,v,h,rfl,hh.same s1,ok,few,l12,fun S kvs os H2 s2 nS eS dl sa=>?_⟩;refine⟨_,rfl,S,kvs,h,os,rfl,l12,eS,dl,sa,fun W es wf H3 s3 nW eW all tot=>?_⟩;have few:=sU sa;have p12:2 ^ h.2.length<=4096:=aeN (agw (by decide) l12) (by decide);have kl:=dl.len;dsimp only [aaY,tCB,je,rT,zY,cI];refine aK _ _ _ _ _ _ _ _ _ ?_;refine⟨_,rfl,S,kvs,rfl,s3 _ _ eS,fun ob nf D nD=>?_⟩;have neSD:S≠D:=fun z=>by subst z;rw [af] at nD;cases nD
  have neSW:S≠W:=fun z=>by subst z;rw [eS] at nW;cases nW
  have pk:∀ o∈os,uT h os (kB o)=stop h o:=fun o ho=>by
   unfold uT;rw [afP,ahe];constructor
   ·rintro⟨o',ho',e⟩;rw [ae2,afD] at e;unfold stop;rw [← iK (sa.gone o' ho') (sa.gone o ho) (eI (aV o' (sa.gone o' ho')) (aV o (sa.gone o ho)) (lX e.1))];exact e.2
   ·exact fun e=>⟨o,ho,by rw [ae2,afD];exact⟨rfl,e⟩⟩
  refine vA (F:=fun k=>(eV es k).getD .non) (pb:=uT h os) (a:=S) (o:=ob) (kvs:=kvs) af nD (by lia) (fun x=>rfl) (fun G k R hk sG r=>?_) (fun G k R hk _ sG r=>?_) fun G sG hG=>?_
  ·rw [dl.keys] at hk;obtain⟨o,ho,rfl⟩:=aeL.mp hk;obtain⟨j,hj⟩:=afx ho;obtain⟨l,e1,e2⟩:=dl.get sa.nd hj;have neSl:l≠S:=fun z=>by subst z;rw [eS] at e2;cases e2
   have el:G l=some (.lst (nxV h o)):=sG _ _ (by rw [ak neSl];exact s3 _ _ e2);refine⟨_,rfl,_,rfl,S,.ref l,rfl,.inl ⟨kvs,kB o,.inr ⟨ob,sG _ _ af⟩,rfl,e1.symm⟩,(!uT h os (kB o)),?_,?_⟩
   ·rw [pk o ho];refine .inl ⟨_,aAA el,?_⟩;show (!(aZ h o).isEmpty)=!((aZ h o).map _).isEmpty;rw [List.isEmpty_map]
   ·show R (!!uT h os (kB o)) G;rw [Bool.not_not];exact r G (Same.refl G)
  ·rw [dl.keys] at hk;obtain⟨o,ho,rfl⟩:=aeL.mp hk;have e:=all o ho;unfold rC at e;refine⟨_,rfl,_,rfl,W,_,rfl,gJ (k:=kB o) (sG _ _ (by rw [ak (afO neSW)];exact eW)) e,?_⟩;have:=r G (Same.refl G);rw [e] at this;exact this
  ·have eS2:=sG _ _ af;refine⟨S,ob,kvs,eS2,?_,?_⟩
   ·exact nf
   ·refine⟨D,(os.filter (stop h)).map fun o=>((wf o:Nat):Int),rfl,aAA (by
     rw [ak (afO neSD),hG,dl.keys,ahY,aeZ,aeZ];congr 2;rw [ag9 fun o ho=>show (uT h os ∘ kB) o=stop h o from pk o ho];refine agj fun o ho=>?_;have e:=all o (afj.mp ho).1;unfold rC at e;show (eV es (kB o)).getD .non=_;rw [e]
     rfl),?_⟩
    rw [iJ wf];have ft:cW ((os.filter (stop h)).map wf)=Stuck h []:=tot;rw [ft];refine q _ (((s1.trans s2).trans s3).trans fun b u e=>?_);by_cases hb:b=S
    ·subst hb;rw [s3 _ _ eS] at e;cases e;exact af
    ·rw [ak hb];exact sG _ _ (by rw [ak hb];exact e)
theorem iY:∀ {l:List Nat} {j y:Nat},l.Pairwise (· < ·)->l[j]? = some y->l.filter (fun i=>decide (i < y))=l.take j
 | [],_,_,_,e=>by simp at e
 | a::l,0,y,p,e=>by
  rw [afa] at p;cases e;rw [afi,if_neg (by simp),agV,ahr];intro b hb;have:=p.1 b hb;simp;lia
 | a::l,j+1,y,p,e=>by
  rw [afa] at p;rw [agN] at e;rw [afi,if_pos (by simpa using p.1 y (aey e)),iY p.2 e,ahZ]
theorem yi {h:Hs}{o:List Nat}{j y:Nat}(e:(aZ h o)[j]? = some y):iw h o y=cW (((aZ h o).take j).map fun i=>Ends h (o++[i])):=by
 unfold iw;rw [iY (lL h o) e]
theorem wc {h:Hs}{o:List Nat}{j y:Nat}(e:(aZ h o)[j]? = some y):cW (((aZ h o).take (j+1)).map fun i=>Ends h (o++[i]))=cW (((aZ h o).take j).map fun i=>Ends h (o++[i]))+Ends h (o++[y]):=by
 rw [aeT,e,aeD,uB]
 rfl
theorem qr {h:Hs}{o:List Nat}{j a a':Nat}(lt:o.length < h.2.length)(ha:a < Ends h o)(e:a=cW (((aZ h o).take j).map fun i=>Ends h (o++[i]))+a'):∃ y,(aZ h o)[j]? = some y:=by
 by_cases hj:j < (aZ h o).length
 ·exact⟨_,aeh hj⟩
 ·rw [afm (by lia),← Ends.step lt] at e;lia
def rS:Sp:=fun vs H Q _=>∃ n:Int,vs=[.int n]/\∀ H',Same H H'->Q (.bl true) H'
def ace:Sp:=fun vs H Q _=>∃ (v:V) (h:Hs) (k:Nat),vs=[v,.int ((k:Nat):Int)]/\HouseAt H v h/\cm h/\vF h/\h.2.length<=12/\k < Ends h []/\∀ (l:Addr) (o:List Nat) (H':Hp),Same H H'->H l=none->H' l=some (.lst (o.map fun n=>V.int ((n:Nat):Int)))->cf h.1 h.2 o->o.length=h.2.length->rkF h [] o=k->Q (.ref l) H'
def aa2 (cO:Addr):Sp:=fun vs H Q E=>∃ (v:V) (h:Hs) (l:Addr) (o:List Nat),vs=[v,.ref l]/\HouseAt H v h/\cm h/\vF h/\h.2.length<=12/\H l=some (.lst (o.map fun n=>V.int ((n:Nat):Int)))/\(cf h.1 h.2 o->o.length=h.2.length->∀ H',Same H H'->Q (.int ((rkF h [] o:Nat):Int)) H')/\(¬ (cf h.1 h.2 o/\o.length=h.2.length)->∀ H',Same H H'->E (.ref cO) none H')
theorem sd {h:Hs}{es:List (Key×V)}{os:List (List Nat)}(sa:dg h os)(all:∀ o∈os,rC (Ends h) es o){o:List Nat}(g:cf h.1 h.2 o):eV es (kB o)=some (.int ((Ends h o:Nat):Int)):=by
 obtain⟨y,hy,ey⟩:=aeL.mp (sa.all _ g);have p:=eI (aV y (sa.gone y hy)) (aV _ g) ey;have:=all y hy;unfold rC at this;rw [show kB o=kB y by unfold kB;rw [ey],this,Ends.perm (sa.gone y hy) g p]
theorem tL {h:Hs}{H:Hp}{kvs:List (Key×V)}{os:List (List Nat)}(dl:DictL (nxV h) H kvs os)(sa:dg h os){o:List Nat}(g:cf h.1 h.2 o):∃ l:Addr,eV kvs (kB o)=some (.ref l)/\H l=some (.lst (nxV h o)):=by
 obtain⟨y,hy,ey⟩:=aeL.mp (sa.all _ g);have p:=eI (aV y (sa.gone y hy)) (aV _ g) ey;obtain⟨j,hj⟩:=afx hy;obtain⟨l,e1,e2⟩:=dl.get sa.nd hj;refine⟨l,by rw [show kB o=kB y by unfold kB;rw [ey]];exact e1,?_⟩;rw [e2];unfold nxV;rw [iK (sa.gone y hy) g p]
theorem oY (i:Nat)(ns:List Nat):inV (.int ((i:Nat):Int)) (ns.map fun n=>V.int ((n:Nat):Int))=decide (i∈ns):=by
 unfold inV;rw [afP,List.any_map,ahe,afD];constructor
 ·rintro⟨n,hn,e⟩;have e:eqV (.int ((n:Nat):Int)) (.int ((i:Nat):Int))=true:=e;have:((n:Nat):Int)=((i:Nat):Int):=by simpa [eqV] using e
  have:n=i:=by lia
  exact this▸hn
 ·intro h;refine⟨i,h,?_⟩;show eqV (.int ((i:Nat):Int)) (.int ((i:Nat):Int))=true;simp [eqV]
def acU (n:Nat):V->Bool
 | .int m=>decide (m < ((n:Nat):Int))
 | _=>false
abbrev aM (o:List Nat):List V:=o.map fun n=>V.int ((n:Nat):Int)
inductive NoI (v:V)(k:Nat)(S E L:Addr)(h:Hs)(H4:Hp)(o:List Nat)(σ:L2.St)(H':Hp):Prop
 | mk (a:Nat) (x8 x9:Option V):σ=[some v,some (.int ((k:Nat):Int)),some (.ref S),some (.int ((2 ^ h.2.length - 1:Nat):Int)),some (.ref E),some (.ref L),some (.int ((aY o:Nat):Int)),some (.int ((a:Nat):Int)),x8,x9]->H' L=some (.lst (aM o))->cf h.1 h.2 o->k=rkF h [] o+a->a < Ends h o->Same H4 H'->NoI v k S E L h H4 o σ H'
inductive NuI (v:V)(l S E:Addr)(h:Hs)(H4:Hp)(o:List Nat)(i:Nat)(σ:L2.St)(H':Hp):Prop
 | mk (x7:Option V):σ=[some v,some (.ref l),some (.ref S),some (.int ((2 ^ h.2.length - 1:Nat):Int)),some (.ref E),some (.int ((aY (o.take i):Nat):Int)),some (.int ((rkF h [] (o.take i):Nat):Int)),x7]->cf h.1 h.2 (o.take i)->Same H4 H'->NuI v l S E h H4 o i σ H'
inductive NjI (v:V)(k:Nat)(S E L:Addr)(h:Hs)(H4:Hp)(o:List Nat)(a0:Nat)(j a y:Nat)(σ:L2.St)(H':Hp):Prop
 | mk:σ=[some v,some (.int ((k:Nat):Int)),some (.ref S),some (.int ((2 ^ h.2.length - 1:Nat):Int)),some (.ref E),some (.ref L),some (.int ((aY o:Nat):Int)),some (.int ((a:Nat):Int)),some (.int ((j:Nat):Int)),some (.int ((aY (o++[y]):Nat):Int))]->H' L=some (.lst (aM o))->(aZ h o)[j]? = some y->a0=cW (((aZ h o).take j).map fun i=>Ends h (o++[i]))+a->Same H4 H'->NjI v k S E L h H4 o a0 j a y σ H'
theorem sj:az ["thing"] ["thing"] (ai jm):=scM rfl rfl rfl rfl (by decide +kernel)
theorem zC {f:Addr}{fd:FuncData}(F:Fun K "is_whole" "is_whole" jm f fd)(vP:mg "bool" = none)(me:mg "int" = none)(bo:mg "isinstance" = none):FnOk P w K mg base CX0 1 f fd ["thing"] rS:=by
 refine F.ok sj (fun vs H Q E h=>?_) (fun cdv A outer s H vs Q E hr h=>?_)
 ·obtain⟨n,rfl,_⟩:=h
  rfl
 ·obtain⟨n,rfl,k⟩:=h;refine⟨_,(aq (aJ (jz (av cE rfl bo (by decide +kernel) (ae (pv 0) (ae (hV (v:=.ty "int") (u:=.type "int") rfl me (by decide +kernel) rfl) ah))) (qX (acg (av cE rfl bo (by decide +kernel) (ae (pv 0) (ae (hV (v:=.ty "bool") (u:=.type "bool") rfl vP (by decide +kernel) rfl) ah)))))))),?_⟩;refine⟨_,rfl,_,_,_,true,rfl,.int n,gz K _,true,rfl,ju ?_⟩;exact⟨_,rfl,_,_,_,false,rfl,.int n,qT K,false,rfl,k _ (Same.refl H)⟩
theorem aG:az ["house","k","steps","whole","ends","order","opened","ahead","at","behind"] ["house","k"] (ai ig):=scM rfl rfl rfl rfl (by decide +kernel)
theorem acP {f fS fT fE fA fW fI:Addr}{fd fdS fdT fdE fdA fdW fdI:FuncData}{tk:Nat}(F:Fun K "nth_order" "nth_order" ig f fd)(bt:FnOk P w K mg base CX0 7 fS fdS ["thing","most"] lG)(mS:mg "require_small" = some (.ref fS))(kS:keepIn K (.ref fS)=true)(bS:Binds K fdS ["thing","most"] [.int 12 tk])
 (dA:FnOk P w K mg base CX0 3 fT fdT ["house"] mW)(bD:Cal K mg "steps_of" ["house"] fT fdT)(dR:FnOk P w K mg base CX0 1 fA fdA ["house"] tQ)(bR:Cal K mg "set_of_all" ["house"] fA fdA)(iq:FnOk P w K mg base CX0 2 fE fdE ["steps","whole"] t9)(dq:Cal K mg "ends_of" ["steps","whole"] fE fdE)
 (bw:FnOk P w K mg base CX0 1 fW fdW ["opened","number"] nN)(aD:Cal K mg "with_room" ["opened","number"] fW fdW)(km:FnOk P w K mg base CX0 1 fI fdI ["thing"] rS)(eQ:Cal K mg "is_whole" ["thing"] fI fdI):FnOk P w K mg base CX0 8 f fd ["house","k"] ace:=by
 refine F.ok aG (fun vs H Q E h=>?_) (fun cdv A outer s H vs Q E hr h=>?_)
 ·obtain⟨v,h,k,rfl,_⟩:=h
  rfl
 ·have hu:=eM hr;obtain⟨v,h,k,rfl,hh,ok,few,l12,lt,q⟩:=h;refine⟨_,(ag (dh (eA bt hr rfl mS kS bS (dvs:=[.int 12]) (.cons ⟨tk,rfl⟩ .nil) jt (ae (pv 0) ah)))
   (ag (aw (i:=2) aG.nd rfl (.inl rfl) (pcl dA bD (hr.mono (by decide:3<=7)) rfl (ae (pv 0) ah)))
   (ag (aw (i:=3) aG.nd rfl (.inl rfl) (pcl dR bR (hr.mono (by decide:1<=7)) rfl (ae (pv 0) ah)))
   (ag (aw (i:=4) aG.nd rfl (.inl rfl) (pcl iq dq (hr.mono (by decide:2<=7)) rfl (ae (pv 2) (ae (pv 3) ah))))
   (ag (fi (PW.pt (tj (fw (gF (pcl km eQ (hr.mono (by decide:1<=7)) rfl (ae (pv 1) ah)))) (mn (fw (tK wR zo aj (pv 1) (cq hu (pv 4) aj (fun _ _=>rfl)))))))
    m8 bu)
   (ag (aw (i:=5) aG.nd rfl (.inl rfl) pY)
   (ag (aw (i:=6) aG.nd rfl (.inl rfl) aj)
   (ag (aw (i:=7) aG.nd rfl (.inl rfl) (pv 1))
   (ag (bz (pj aeX (aT pX (pv 6) (pv 3) (bM _))
    (ag (aw (i:=8) aG.nd rfl (.inl rfl) aj)
    (ag (aw (i:=9) aG.nd rfl (.inl rfl) (pcl bw aD (hr.mono (by decide:1<=7)) rfl (ae (pv 6) (ae (aN aS (cq hu (pv 2) (pv 6) (fun _ _=>rfl)) (pv 8) (fun _ _=>rfl)) ah))))
    (ag (bz (pj aeX (aT abw (pv 7) (cq hu (pv 4) (pv 9) (fun _ _=>rfl)) (bM _))
     (ag (wo (i:=7) aG.nd rfl (.inl rfl) (cq hu (pv 4) (pv 9) (fun _ _=>rfl)) abS)
     (ag (wo (i:=8) aG.nd rfl (.inl rfl) aj wV)
     (aq (aw (i:=9) aG.nd rfl (.inl rfl) (pcl bw aD (hr.mono (by decide:1<=7)) rfl (ae (pv 6) (ae (aN aS (cq hu (pv 2) (pv 6) (fun _ _=>rfl)) (pv 8) (fun _ _=>rfl)) ah)))))))))
    (ag (dh (oP aeW afM afN dm (pv 5) (ae (aN aS (cq hu (pv 2) (pv 6) (fun _ _=>rfl)) (pv 8) (fun _ _=>rfl)) ah)))
    (aq (aw (i:=6) aG.nd rfl (.inl rfl) (pv 9)))))))))
   (aq (aJ (pv 5)))))))))))),?_⟩
  refine⟨_,rfl,v,h,12,rfl,hh,ok,l12,fun H1 s1=>?_⟩;refine⟨_,rfl,v,h,rfl,hh.same s1,ok,few,l12,fun S kvs os H2 s2 nS eS dl sa=>?_⟩;refine⟨_,rfl,v,h,rfl,(hh.same s1).same s2,l12,fun H3 s3=>?_⟩;refine⟨_,rfl,_,rfl,S,kvs,h,os,rfl,l12,s3 _ _ eS,dl.same (gE.trans s3),sa,fun E2 es H4 s4 nE eE all=>?_⟩;have s04:=((s1.trans s2).trans s3).trans s4;have dl4:=dl.same (gE.trans (s3.trans s4));have eS4:=(s3.trans s4) _ _ eS;obtain⟨z0,hz0,kz,pz⟩:=mf sa;have e0:eV es (.inl 0)=some (.int ((Ends h []:Nat):Int)):=sd sa all (bQ _ _);refine⟨_,rfl,_,rfl,fun H5 s5=>?_⟩;refine⟨true,rfl,gK ?_⟩;refine⟨_,rfl,_,_,rfl,rfl,_,rfl,?_⟩;rw [aeP (by lia:(0:Int)<=(k:Int))];refine ju ⟨_,rfl,E2,_,rfl,gJ (k:=.inl 0) (s5 _ _ eE) e0,_,_,rfl,rfl,_,rfl,?_⟩;rw [aeP (by lia:(k:Int) < ((Ends h []:Nat):Int))];refine gK ?_;refine⟨aeM _,fun L nL=>?_⟩;refine⟨_,rfl,?_⟩;have nL4:H4 L=none:=s5.free nL;have nL0:H L=none:=s04.free nL4;have p12:2 ^ h.2.length<=4096:=aeN (agw (by decide) l12) (by decide);have lim:1000000 < sizeLine:=by decide
  refine⟨fun σ H'=>∃ o,o.length=h.2.length/\NoI v k S E2 L h H4 o σ H',?_,?_⟩
  ·rintro σ H6 ⟨o,lo,⟨a,x8,x9,rfl,hL,g,ek,ha,s6⟩⟩;refine⟨_,rfl,q L o H6 (s04.trans s6) nL0 hL g lo ?_⟩;rw [Ends.all lo] at ha;lia
  ·refine⟨fun m σ H'=>∃ o,m=h.2.length - o.length/\NoI v k S E2 L h H4 o σ H',⟨_,[],rfl,.mk k none none rfl af (bQ _ _) (by show k=0+k;lia) lt (bU s5 nL4)⟩,?_⟩;rintro m σ H6 ⟨o,rfl,⟨a,x8,x9,rfl,hL,g,ek,ha,s6⟩⟩;refine⟨_,rfl,_,rfl,rfl,_,rfl,?_⟩;by_cases lo:o.length=h.2.length
   ·rw [(fo g).mpr lo,aeP rfl];exact gK ⟨o,lo,a,x8,x9,by rw [(fo g).mpr lo],hL,g,ek,ha,s6⟩
   ·have nb:V.int ((aY o:Nat):Int)≠V.int ((2 ^ h.2.length - 1:Nat):Int):=fun z=>by
     injection z with z
     exact lo ((fo g).mp (by lia))
    rw [aeO nb];have lt2:o.length < h.2.length:=Nat.lt_of_le_of_ne (iN g) lo;obtain⟨y0,hy0⟩:=qr (j:=0) (a':=a) lt2 ha (by show a=0+a;lia);obtain⟨ln,en,hn⟩:=tL dl4 sa g;refine ju ⟨fun σ' H'=>∃ y,y∈aZ h o/\NoI v k S E2 L h H4 (o++[y]) σ' H',fun σ' H' ⟨y,hy,w⟩=>⟨_,?_,o++[y],rfl,w⟩,?_⟩
    ·rw [aeo,ae7];lia
    ·refine⟨_,rfl,_,rfl,_,rfl,S,.ref ln,rfl,gJ (k:=kB o) (s6 _ _ eS4) en,_,rfl,ln,nxV h o,0,_,rfl,rfl,aAA (s6 _ _ hn),bq (j:=0) (by rw [aer,hy0];rfl),?_⟩;have bd:∀ {y:Nat},y∈aZ h o->y < h.2.length:=fun hy=>(next_iffD.mp hy).1;refine⟨aY o,y0,rfl,by have:=bd (aey hy0);lia,fun H7 s7=>?_⟩;rw [← cN];refine⟨fun σ' H'=>∃ j a' y,a' < Ends h (o++[y])/\NjI v k S E2 L h H4 o a j a' y σ' H',?_,?_⟩
     ·rintro σ' H8 ⟨j,a',y,ha',⟨rfl,hL8,ey,ea,s8⟩⟩;have hy:=aey ey;refine⟨_,rfl,.inl ⟨rfl,_,aAA hL8⟩,_,rfl,_,rfl,S,.ref ln,rfl,gJ (k:=kB o) (s8 _ _ eS4) en,_,rfl,ln,nxV h o,_,_,rfl,rfl,aAA (s8 _ _ hn),bq (j:=j) (by rw [aer,ey];rfl),?_⟩;have lo12:=iN g;refine⟨L,_,_,rfl,rfl,hL8,by rw [aej];lia,?_⟩;refine⟨_,rfl,y,hy,.mk a' _ _ rfl ?_ (aF g hy) ?_ ha' (bU s8 nL4)⟩
      ·rw [af,aM,aM,aeD]
       rfl
      ·rw [ek,ea,rM,ag0,yi ey];lia
     ·refine⟨fun m σ' H'=>∃ j a' y,m=(aZ h o).length - j/\NjI v k S E2 L h H4 o a j a' y σ' H',⟨_,0,a,y0,rfl,.mk rfl (s7 _ _ hL) hy0 (by show a=0+a;lia) (s6.trans s7)⟩,?_⟩;rintro m σ' H8 ⟨j,a',y,rfl,⟨rfl,hL8,ey,ea,s8⟩⟩;have hy:=aey ey;have ev:=sd sa all (aF g hy);have hjl:j < (aZ h o).length:=(aek.mp ey).1;refine⟨_,rfl,_,rfl,_,rfl,E2,_,rfl,gJ (k:=kB (o++[y])) (s8 _ _ eE) ev,_,_,rfl,rfl,_,rfl,?_⟩;by_cases le:Ends h (o++[y])<=a'
      ·rw [aeP (by lia:((Ends h (o++[y]):Nat):Int)<=(a':Int))];have e2:a=cW (((aZ h o).take (j+1)).map fun i=>Ends h (o++[i]))+(a' - Ends h (o++[y])):=by
        rw [wc ey];lia
       obtain⟨y2,ey2⟩:=qr lt2 ha e2;refine ju ⟨fun σ'' H''=>NjI v k S E2 L h H4 o a (j+1) (a' - Ends h (o++[y])) y2 σ'' H'',fun σ'' H'' w=>⟨_,?_,j+1,_,y2,rfl,w⟩,?_⟩
       ·lia
       ·refine⟨_,rfl,_,rfl,_,rfl,E2,_,rfl,gJ (k:=kB (o++[y])) (s8 _ _ eE) ev,_,_,rfl,rfl,?_⟩;refine⟨_,rfl,_,_,rfl,rfl,?_⟩;refine⟨_,rfl,_,rfl,_,rfl,S,.ref ln,rfl,gJ (k:=kB o) (s8 _ _ eS4) en,_,rfl,ln,nxV h o,_,_,rfl,rfl,aAA (s8 _ _ hn),bq (j:=j+1) (by rw [aer,ey2];rfl),?_⟩;refine⟨aY o,y2,rfl,by have:=bd (aey ey2);lia,fun H9 s9=>?_⟩;rw [← cN];refine .mk ?_ (s9 _ _ hL8) ey2 e2 (s8.trans s9);rw [show ((a' - Ends h (o++[y]):Nat):Int)=(a':Int) - ((Ends h (o++[y]):Nat):Int) by lia,show ((j+1:Nat):Int)=(j:Int)+1 by lia]
        rfl
      ·rw [aeO (by lia:¬ ((Ends h (o++[y]):Nat):Int)<=(a':Int))];exact gK ⟨j,a',y,by lia,.mk rfl hL8 ey ea s8⟩
theorem aB:az ["house","order","steps","whole","ends","opened","ahead","number"] ["house","order"] (ai cy):=scM rfl rfl rfl rfl (by decide +kernel)
theorem iU:(["other","ends","opened","number"]:List Str).Nodup:=by decide +kernel
theorem abZ {f fS fT fE fA fW fI cO:Addr}{fd fdS fdT fdE fdA fdW fdI:FuncData}{tk:Nat}{bmO:List Value}(F:Fun K "number_of_order" "number_of_order" cy f fd)(bt:FnOk P w K mg base CX0 7 fS fdS ["thing","most"] lG)(mS:mg "require_small" = some (.ref fS))(kS:keepIn K (.ref fS)=true)(bS:Binds K fdS ["thing","most"] [.int 12 tk])
 (dA:FnOk P w K mg base CX0 3 fT fdT ["house"] mW)(bD:Cal K mg "steps_of" ["house"] fT fdT)(dR:FnOk P w K mg base CX0 1 fA fdA ["house"] tQ)(bR:Cal K mg "set_of_all" ["house"] fA fdA)(iq:FnOk P w K mg base CX0 2 fE fdE ["steps","whole"] t9)(dq:Cal K mg "ends_of" ["steps","whole"] fE fdE)
 (bw:FnOk P w K mg base CX0 1 fW fdW ["opened","number"] nN)(aD:Cal K mg "with_room" ["opened","number"] fW fdW)(km:FnOk P w K mg base CX0 1 fI fdI ["thing"] rS)(eQ:Cal K mg "is_whole" ["thing"] fI fdI)
 (bo:mg "isinstance" = none)(cF:mg "list" = none)(jW:mg "sum" = none)(iz:mg "NoOrder" = some (.ref cO))(x_NoOrder:nK K cO bmO):FnOk P w K mg base (CXr P w) 8 f fd ["house","order"] (aa2 cO):=by
 refine F.okR aB (fun vs H Q E h=>?_) (fun cdv A outer s H vs Q E hr h=>?_)
 ·obtain⟨v,h,l,o,rfl,_⟩:=h
  rfl
 ·have hu:=eM hr;obtain⟨v,h,l,o,rfl,hh,ok,few,l12,hl,q1,q2⟩:=h;refine⟨_,(ag (dh (eA bt hr rfl mS kS bS (dvs:=[.int 12]) (.cons ⟨tk,rfl⟩ .nil) jt (ae (pv 0) ah)))
   (ag (fi (fw (gF (av cE rfl bo (by decide +kernel) (ae (pv 1) (ae (hV (v:=.ty "list") (u:=.type "list") rfl cF (by decide +kernel) rfl) ah)))))
    (aq (o9 x_NoOrder rfl iz (ae cB ah))) bu)
   (ag (aw (i:=2) aB.nd rfl (.inl rfl) (pcl dA bD (hr.mono (by decide:3<=7)) rfl (ae (pv 0) ah)))
   (ag (aw (i:=3) aB.nd rfl (.inl rfl) (pcl dR bR (hr.mono (by decide:1<=7)) rfl (ae (pv 0) ah)))
   (ag (aw (i:=4) aB.nd rfl (.inr rfl) (pcl iq dq (hr.mono (by decide:2<=7)) rfl (ae (pv 2) (ae (pv 3) ah))))
   (ag (aw (i:=5) aB.nd rfl (.inr rfl) aj)
   (ag (aw (i:=6) aB.nd rfl (.inl rfl) aj)
   (ag (bz (cQ PassesOwn.leaving rfl (aQ (pv 1)) (au (i:=7) aB.nd rfl (.inr rfl))
    (ag (fi (PW.pt (tj (fw (gF (pcl km eQ (hr.mono (by decide:1<=7)) rfl (ae (pv 7) ah)))) (mn (aT dO (pv 7) (cq hu (pv 2) (pv 5) (fun _ _=>rfl)) rfl))))
     (aq (o9 x_NoOrder rfl iz (ae cB ah))) bu)
    (ag (wo (i:=6) aB.nd rfl (.inl rfl) (av (gS rfl) rfl jW (by decide +kernel) (ae (iV (tg:=.Name "other" _) (outer:=ai (cy)) (N:=["house","order","steps","whole","ends","opened","ahead","number"]) (N':=["other","ends","opened","number"]) (nl:=1) (ix:=[4,5,7]) rfl rfl rfl (aQ (cq hu (pv 2) (pv 5) (fun _ _=>rfl)))
    (fun _ _ _ _=>(au (i:=0) iU rfl (.inl rfl) (.inr rfl))) (fun _ _ _ _=>(jk (aT zo (pv 0) (pv 3) (bM _))))
    (fun _ _ _ _=>(cq (by exact hu) (pv 1) (pcl bw aD (hr.mono (by decide:1<=7)) rfl (ae (pv 2) (ae (pv 0) ah))) (fun _ _=>rfl)))) ah)) wV)
    (aq (aw (i:=5) aB.nd rfl (.inr rfl) (pcl bw aD (hr.mono (by decide:1<=7)) rfl (ae (pv 5) (ae (pv 7) ah)))))))))
   (ag (fi (aT pX (pv 5) (pv 3) (bM _))
    (aq (o9 x_NoOrder rfl iz (ae cB ah))) bu)
   (aq (aJ (pv 6)))))))))))),?_⟩
  refine⟨_,rfl,v,h,12,rfl,hh,ok,l12,fun H1 s1=>?_⟩;refine⟨_,rfl,_,_,_,true,rfl,.lst (s1 _ _ hl),gz K _,true,rfl,gK ?_⟩;refine⟨_,rfl,v,h,rfl,hh.same s1,ok,few,l12,fun S kvs os H2 s2 nS eS dl sa=>?_⟩;refine⟨_,rfl,v,h,rfl,(hh.same s1).same s2,l12,fun H3 s3=>?_⟩;refine⟨_,rfl,_,rfl,S,kvs,h,os,rfl,l12,s3 _ _ eS,dl.same (gE.trans s3),sa,fun E2 es H4 s4 nE eE all=>?_⟩;have s04:=((s1.trans s2).trans s3).trans s4;have dl4:=dl.same (gE.trans (s3.trans s4));have eS4:=(s3.trans s4) _ _ eS;have hl4:=s04 _ _ hl;refine⟨fun σ H'=>NuI v l S E2 h H4 o o.length σ H',?_,?_⟩
  ·rintro σ H6 ⟨x7,rfl,g,s6⟩;rw [ae0] at g ⊢;refine⟨_,rfl,_,rfl,rfl,_,rfl,?_⟩;by_cases lo:o.length=h.2.length
   ·rw [(fo g).mpr lo,aeP rfl];exact gK ⟨_,rfl,q1 g lo H6 (s04.trans s6)⟩
   ·have nb:V.int ((aY o:Nat):Int)≠V.int ((2 ^ h.2.length - 1:Nat):Int):=fun z=>by
     injection z with z
     exact lo ((fo g).mp (by lia))
    rw [aeO nb];exact ju ⟨by decide,q2 (fun z=>lo z.2) H6 (s04.trans s6)⟩
  ·refine⟨_,rfl,l,rfl,⟨_,aAA hl4⟩,?_⟩;refine dI (xs:=aM o) (fun i σ H'=>NuI v l S E2 h H4 o i σ H') (.mk none rfl (bQ _ _) (Same.refl H4)) (fun i σ H' _ ⟨_,_,_,s⟩=>aAA (s _ _ hl4)) ?_ (fun σ H' z=>by rw [aej] at z;exact z);rintro i x σ H6 hx ⟨x7,rfl,g,s6⟩;obtain⟨n,en,ex⟩:∃ n,o[i]? = some n/\x=.int ((n:Nat):Int):=by
    rw [aer] at hx;cases hq:o[i]? with
    | none=>rw [hq] at hx;cases hx
    | some n=>rw [hq] at hx;cases hx;exact⟨n,rfl,rfl⟩
   subst ex;have tk:o.take (i+1)=o.take i++[n]:=by rw [aeT,en];rfl
   generalize o.take i=p at *;obtain⟨ln,el,hn⟩:=tL dl4 sa g;refine⟨_,rfl,_,rfl,fun H7 s7=>⟨true,rfl,gK ?_⟩⟩;have s67:=s6.trans s7;refine⟨_,rfl,_,rfl,_,rfl,S,.ref ln,rfl,gJ (k:=kB p) (s67 _ _ eS4) el,ln,nxV h p,rfl,.inl (aAA (s67 _ _ hn)),rfl,?_,_,rfl,?_⟩
   ·rw [ag2,ae1];exact fun _ _=>rfl
   by_cases hin:n∈aZ h p
   ·rw [oY,aeP hin];refine gK ?_;refine⟨_,rfl,?_⟩;dsimp only [tCB,je,rT,cI];refine aK _ _ _ _ _ _ _ _ _ ?_;refine⟨_,rfl,_,rfl,S,.ref ln,rfl,gJ (k:=kB p) (s67 _ _ eS4) el,ln,rfl,⟨_,aAA (s67 _ _ hn)⟩,fun D nD=>?_⟩;have lx:(nxV h p).length<=1000000:=by
     rw [aej];have:=dH (ou h p) fun i hi=>(next_iffD.mp hi).1;lia
    refine lY (F:=ac5 h p) (pb:=acU n) (s67 _ _ hn) nD lx (fun x=>rfl) (fun G x R hx sG r=>?_) (fun G x R hx _ sG r=>?_) (fun G sG hD=>?_)
    ·obtain⟨m,hm,rfl⟩:=aeL.mp hx;refine⟨_,rfl,_,rfl,_,_,rfl,rfl,_,rfl,?_⟩;have:=r G (Same.refl G);rw [show decide (((m:Nat):Int) < ((n:Nat):Int))=acU n (.int ((m:Nat):Int)) from rfl];exact this
    ·obtain⟨m,hm,rfl⟩:=aeL.mp hx;have sm:=s67.trans sG;refine⟨_,rfl,_,rfl,_,rfl,aY p,m,rfl,by have:=(next_iffD.mp hm).1;lia,fun G' s'=>?_⟩;have ev:=sd sa all (aF g hm);unfold kB at ev;rw [cN] at ev;exact⟨E2,_,rfl,gJ (k:=.inl ((aY p ||| 2 ^ m:Nat):Int)) (s' _ _ (sm _ _ eE)) ev,r G' s'⟩
    ·have fe:((nxV h p).filter (acU n)).map (ac5 h p)=(((aZ h p).filter fun j=>decide (j < n)).map fun i=>((Ends h (p++[i]):Nat):Int)).map V.int:=by
      unfold nxV;rw [ahY,aeZ,aeZ];rw [ag9 fun j _=>show (acU n ∘ fun i=>V.int ((i:Nat):Int)) j=decide (j < n) from af9.mpr (by lia)]
      rfl
     refine⟨D,_,rfl,aAA (by rw [hD,fe]),?_⟩;rw [iJ fun i=>Ends h (p++[i])];refine⟨_,_,rfl,rfl,?_⟩;have sG7:=s67.trans sG;refine⟨_,rfl,_,rfl,aY p,n,rfl,by have:=(next_iffD.mp hin).1;lia,fun G' s'=>?_⟩;rw [← cN];refine .mk (some (.int ((n:Nat):Int))) ?_ (by rw [tk];exact aF g hin) (sG7.trans s');rw [tk,rM,ag0]
     rfl
   ·rw [oY,aeO hin];refine ju ⟨by decide,q2 (fun z=>hin ?_) H7 (s04.trans s67)⟩;have:=eU z.1 (i+1);rw [tk] at this;exact (cj this).2
abbrev eJ (ns:List Nat):List PyData:=ns.map fun i=>PyData.int ((i:Nat):Int)
theorem jQ:∀ ns:List Nat,PyData.canLayAll0 (eJ ns)=true
 | []=>rfl
 | n::ns=>by rw [eJ,aeG];simp only [PyData.canLayAll0,PyData.canLay0,aiD];exact jQ ns
theorem jc:∀ ns:List Nat,PyData.depthAll (eJ ns)=0
 | []=>rfl
 | n::ns=>by
  rw [eJ,aeG];have:=jc ns;unfold eJ at this;simp only [PyData.depthAll,PyData.depth,this]
  rfl
theorem jB:∀ a b:List Nat,PyData.eqvAll (eJ a) (eJ b)=true↔a=b
 | [],[]=>by simp [PyData.eqvAll]
 | [],y::b=>by simp [PyData.eqvAll]
 | x::a,[]=>by simp [PyData.eqvAll]
 | x::a,y::b=>by
  have:=jB a b;unfold eJ at this ⊢;simp only [aeG,PyData.eqvAll,PyData.eqv,ae2,this,List.cons.injEq,aeR];constructor
  ·rintro⟨p,q⟩;exact⟨Int.ofNat.inj p,q⟩
  ·rintro⟨p,q⟩;exact⟨by rw [p],q⟩
theorem iH {H:Hp}:∀ ns:List Nat,SeesAll H (ns.map fun i=>V.int ((i:Nat):Int)) (eJ ns)
 | []=>.nil
 | n::ns=>.cons (.int _) (iH ns)
theorem rW (ns:List Nat):(PyData.list (eJ ns)).depth<=1:=by simp only [PyData.depth,jc];decide
theorem pB {A:Around}{neg:Bool}{H:Hp}{x y:Addr}{a b:List Nat}{Q:VK}(hx:H x=some (.lst (a.map fun i=>V.int ((i:Nat):Int))))(hy:H y=some (.lst (b.map fun i=>V.int ((i:Nat):Int))))(hu:A.units+1 < cLine)(q:Q (.bl (if neg then !decide (a=b) else decide (a=b))) H):acq A neg (.ref x) (.ref y) H Q:=by
 refine⟨.list (eJ a),.list (eJ b),.lst hx (iH a),.lst hy (iH b),by simp only [PyData.canLay0,jQ],by simp only [PyData.canLay0,jQ],afA (agK (aeN (ai5 _ _) (rW a)) _) hu,?_⟩;have e:PyData.eqv (.list (eJ a)) (.list (eJ b))=decide (a=b):=by
  simp only [PyData.eqv];by_cases z:a=b
  ·rw [aeP z];exact (jB a b).mpr z
  ·rw [aeO z];cases e:PyData.eqvAll (eJ a) (eJ b)
   ·rfl
   ·exact absurd ((jB a b).mp e) z
 rw [e];exact q
theorem pU {A:Around}{H:Hp}{x y:Addr}{ss:List Str}{Q:VK}(hx:H x=some (.lst (ss.map V.str)))(hy:H y=some (.lst []))(kk:∀ k∈ss,du k)(hu:A.units+1 < cLine)(q:Q (.bl ss.isEmpty) H):acq A false (.ref x) (.ref y) H Q:=by
 refine⟨.list (ss.map PyData.str),.list [],.lst hx (SeesAll.strs _),.lst hy .nil,by simp only [PyData.canLay0,pL kk],rfl,afA (agK (Nat.min_le_right _ _) _) hu,?_⟩;cases ss<;>exact q
theorem mB {H:Hp}:∀ {vs:List V} {ls:List (List Nat)},vs.length=ls.length->(∀ (i:Nat) v l,vs[i]? = some v->ls[i]? = some l->∃ a:Addr,v=.ref a/\H a=some (.lst (l.map fun n=>V.int ((n:Nat):Int))))->SeesAll H vs (ls.map fun l=>.list (eJ l))
 | [],[],_,_=>.nil
 | v::vs,l::ls,e,h=>by
  obtain⟨a,rfl,ha⟩:=h 0 v l rfl rfl;exact .cons (.lst ha (iH l)) (mB (by simpa using e) fun i v' l' p q=>h (i+1) v' l' p q)
theorem jY:∀ ls:List (List Nat),PyData.canLayAll0 (ls.map fun l=>.list (eJ l))=true
 | []=>rfl
 | l::ls=>by rw [aeG];simp only [PyData.canLayAll0,PyData.canLay0,jQ,aiD];exact jY ls
theorem kP:∀ ls:List (List Nat),PyData.depthAll (ls.map fun l=>.list (eJ l))<=1
 | []=>by simp only [ah7,PyData.depthAll];decide
 | l::ls=>by
  have:=kP ls;rw [aeG];simp only [PyData.depthAll,PyData.depth,jc];lia
theorem nY:∀ ls:List (List Nat),PyData.eqvAll (ls.map fun l=>.list (eJ l)) (ls.map fun l=>.list (eJ l))=true
 | []=>rfl
 | l::ls=>by
  have:=nY ls;have e:=(jB l l).mpr rfl;simp only [aeG,PyData.eqvAll,PyData.eqv,ae2,this,e,and_self]
theorem vO {A:Around}{H:Hp}{x y:Addr}{vs:List V}{ls:List (List Nat)}{Q:VK}(hx:H x=some (.lst vs))(hy:H y=some (.lst vs))(l:vs.length=ls.length)(h:∀ (i:Nat) v l,vs[i]? = some v->ls[i]? = some l->∃ a:Addr,v=.ref a/\H a=some (.lst (l.map fun n=>V.int ((n:Nat):Int))))(hu:A.units+2 < cLine)(q:Q (.bl true) H):acq A false (.ref x) (.ref y) H Q:=by
 have s:=mB l h;have d:(PyData.list (ls.map fun l=>.list (eJ l))).depth<=2:=by have:=kP ls;simp only [PyData.depth];lia
 refine⟨_,_,.lst hx s,.lst hy s,by simp only [PyData.canLay0,jY],by simp only [PyData.canLay0,jY],afA (agK (aeN (ai5 _ _) d) _) hu,?_⟩;rw [show PyData.eqv (.list (ls.map fun l=>.list (eJ l))) (.list (ls.map fun l=>.list (eJ l)))=true by simp only [PyData.eqv,nY]];exact q
def su:Sp:=fun vs H Q _=>∃ (v:V) (l:Addr) (h:Hs) (o:List Nat),vs=[v,.ref l]/\HouseAt H v h/\cm h/\H l=some (.lst (aM o))/\cf h.1 h.2 o/\h.2.length<=12/\∀ D H',Same H H'->H D=none->H' D=some (.lst (aM (aZ h o)))->Q (.ref D) H'
def vR:Sp:=fun vs H Q _=>∃ (v:V) (l:Addr) (h:Hs) (o:List Nat),vs=[v,.ref l]/\HouseAt H v h/\cm h/\H l=some (.lst (aM o))/\o.length<=60/\h.2.length<=12/\∀ (b:Bool) H',Same H H'->(b=true↔cf h.1 h.2 o/\o.length=h.2.length)->Q (.bl b) H'
theorem jP {H:Hp}{us:List V}{rs:List Rm}{i:Nat}(hR:RoomsAt H us rs)(hi:i < rs.length):∃ tt aa bb:Addr,us[i]? = some (.ref tt)/\H tt=some (.tup [.ref aa,.ref bb])/\H aa=some (.lst (rs[i].1.map V.str))/\H bb=some (.lst (rs[i].2.map V.str)):=by
 have hu:i < us.length:=by have:=hR.1;lia
 obtain⟨t,a,b,e,h1,h2,h3⟩:=hR.2 i us[i] rs[i] (aeh hu) (aeh hi);exact⟨t,a,b,by rw [aeh hu,e],h1,h2,h3⟩
theorem aan {xs:List V}{k:Nat}(h:k<=xs.length):pF xs none (some (k:Int))=xs.take k:=by
 unfold pF;rw [HT.sIx_none,HT.sIx_nat,Nat.sub_zero,afH,agD h]
theorem zz {xs:List V}{k:Nat}(h:k<=xs.length):pF xs (some (k:Int)) none=xs.drop k:=by
 unfold pF;rw [HT.sIx_none,HT.sIx_nat,agD h];exact afm (by rw [afs];exact aep _)
theorem fc:∀ {l1 l2:List Int},l1.Pairwise (·<=·)->l2.Pairwise (·<=·)->l1.Perm l2->l1=l2
 | [],l2,_,_,p=>(List.nil_perm.mp p).symm▸rfl
 | a::r,[],_,_,p=>absurd p.length_eq (by simp)
 | a::r,b::t,h1,h2,p=>by
  have ab:a<=b:=by
   rcases aeu.mp (p.mem_iff.mpr aev:b∈a::r) with e | hb
   ·subst e;exact Int.le_refl _
   ·exact (afa.mp h1).1 b hb
  have ba:b<=a:=by
   rcases aeu.mp (p.mem_iff.mp aev:a∈b::t) with e | ha
   ·subst e;exact Int.le_refl _
   ·exact (afa.mp h2).1 a ha
  have e:=Int.le_antisymm ab ba;subst e;rw [fc (afa.mp h1).2 (afa.mp h2).2 (List.perm_cons a |>.mp p)]
theorem qu (n:Nat):((List.range n).map fun i=>((i:Nat):Int)).Pairwise (·<=·):=by
 rw [aiu];exact aiL.imp fun h=>by lia
def aa6 (hand locks:List Str):V->Bool
 | .str x=>decide (hand.count x < locks.count x)
 | _=>false
theorem wQ (hand locks:List Str):(((locks.map V.str).filter (aa6 hand locks)).map id)=(locks.filter fun x=>decide (hand.count x < locks.count x)).map V.str:=by
 rw [ah0,ahY]
 rfl
theorem wN (hand locks:List Str):(locks.filter fun x=>decide (hand.count x < locks.count x)).isEmpty=iT hand locks:=by
 unfold iT;rw [afP,List.isEmpty_iff,ahr,ae1];constructor
 ·intro h x hx;have:=h x hx;simp at this;simpa using this
 ·intro h x hx;have:=h x hx;simp at this;simpa using this
inductive LnI (v:V)(l:Addr)(h:Hs)(o:List Nat)(H:Hp)(i:Nat)(σ:L2.St)(H':Hp):Prop
 | mk (hd:Addr) (x3 x4:Option V):σ=[some v,some (.ref l),some (.ref hd),x3,x4,none,none]->H' hd=some (.lst ((aL h.1 h.2 (o.take i)).map V.str))->H hd=none->Same H H'->LnI v l h o H i σ H'
inductive LoI (v:V)(l hd:Addr)(h:Hs)(o:List Nat)(H:Hp)(i n:Nat)(locks:List Str)(j:Nat)(σ:L2.St)(H':Hp):Prop
 | mk (x4:Option V):σ=[some v,some (.ref l),some (.ref hd),some (.int ((n:Nat):Int)),x4,none,none]->H' hd=some (.lst (((locks.take j).foldl List.erase (aL h.1 h.2 (o.take i))).map V.str))->Same H H'->LoI v l hd h o H i n locks j σ H'
inductive LgI (v:V)(l:Addr)(h:Hs)(o:List Nat)(H:Hp)(i:Nat)(σ:L2.St)(H':Hp):Prop
 | mk (x2 x3:Option V):σ=[some v,some (.ref l),x2,x3]->cf h.1 h.2 (o.take i)->Same H H'->LgI v l h o H i σ H'
inductive LfI (v:V)(l hd D:Addr)(h:Hs)(o:List Nat)(hand:List Str)(H:Hp)(i:Nat)(σ:L2.St)(H':Hp):Prop
 | mk (x3 x4 x6:Option V):σ=[some v,some (.ref l),some (.ref hd),x3,x4,some (.ref D),x6]->H' hd=some (.lst (hand.map V.str))->H' D=some (.lst (aM ((List.range i).filter fun k=>!decide (k∈o) && iT hand ((h.2[k]?).getD ([],[])).1)))->H D=none->Same H H'->LfI v l hd D h o hand H i σ H'
theorem bY:az ["house","order","hand","k","kind","found","lacks"] ["house","order"] (ai fB):=scM rfl rfl rfl rfl (by decide +kernel)
theorem nG:(["kind","hand","k","house"]:List Str).Nodup:=by decide +kernel
theorem iD:az ["house","order","at","k"] ["house","order"] (ai gY):=scM rfl rfl rfl rfl (by decide +kernel)
theorem yu {f:Addr}{fd:FuncData}(F:Fun K "_law_next" "_law_next" fB f fd)(dv:mg "len" = none)(cF:mg "list" = none)(bW:mg "range" = none):FnOk P w K mg base CX0 1 f fd ["house","order"] su:=by
 refine F.ok bY (fun vs H Q E h=>?_) (fun cdv A outer s H vs Q E hr h=>?_)
 ·obtain⟨v,l,h,o,rfl,_⟩:=h
  rfl
 ·have hu:=eM hr;obtain⟨v,l,h,o,rfl,hh,ok,hl,g,l12,q⟩:=h;refine⟨_,(ag (aw (i:=2) bY.nd rfl (.inr rfl) (di hE rfl cF (by decide +kernel) (ae (aN bP (pv 0) aj (fun _ _=>rfl)) ah)))
   (ag (bz (cQ aeX rfl (aQ (pv 1)) (au (i:=3) bY.nd rfl (.inr rfl))
    (ag (bz (cQ aeX rfl (aQ (aN bP (aN aS (aN bP (pv 0) aj (fun _ _=>rfl)) (pv 3) (fun _ _=>rfl)) aj (fun _ _=>rfl))) (au (i:=4) bY.nd rfl (.inl rfl))
     (aq (dh (oP aeW aiv aiw qS (pv 2) (ae (pv 4) ah))))))
    (aq (aw (i:=2) bY.nd rfl (.inr rfl) (bj jU (pv 2) (aN bP (aN aS (aN bP (pv 0) aj (fun _ _=>rfl)) (pv 3) (fun _ _=>rfl)) aj (fun _ _=>rfl))))))))
   (ag (aw (i:=5) bY.nd rfl (.inl rfl) pY)
   (ag (bz (cQ aeX rfl (gk rfl bW (ae (av aI rfl dv afw (ae (aN bP (pv 0) aj (fun _ _=>rfl)) ah)) ah)) (au (i:=3) bY.nd rfl (.inr rfl))
    (ag (sx (i:=6) (tg:=.Name "kind" _) (outer:=ai (fB)) (N:=["house","order","hand","k","kind","found","lacks"]) (N':=["kind","hand","k","house"]) (nl:=1) (ix:=[2,3,0]) bY.nd rfl (.inl rfl) rfl rfl rfl (aQ (aN bP (aN aS (aN bP (pv 0) aj (fun _ _=>rfl)) (pv 3) (fun _ _=>rfl)) aj (fun _ _=>rfl)))
    (fun _ _ _ _=>(au (i:=0) nG rfl (.inl rfl) (.inr rfl))) (fun _ _ _ _=>(jk (aT zo (nX (K:=K) rfl aeW afQ afR iP (pv 1) (ae (pv 0) ah)) (nX (K:=K) rfl aeW afQ afR iP (aN (xu (K:=K) rfl) (aN (oR (K:=K) rfl) (aN (xu (K:=K) rfl) (pv 3) aj (fun _ _=>rfl)) (pv 2) (fun _ _=>rfl)) aj (fun _ _=>rfl)) (ae (pv 0) ah)) (bM _))))
    (fun _ _ _ _=>(pv 0)))
    (aq (bz (fi (PW.pt (xA (aT dO (pv 3) (pv 1) rfl) (rF (aT qb (pv 6) pY (bM _)))))
     (aq (dh (oP aeW afM afN dm (pv 5) (ae (pv 3) ah)))) bu))))))
   (aq (aJ (pv 5))))))),?_⟩
  obtain⟨t,a,r,us,rfl,ht,ha,hr',hR⟩:=hh;have hol:o.length<=12:=aeN (iN g) l12;have lim:1000000 < sizeLine:=by decide
  refine⟨_,rfl,t,_,0,.ref a,rfl,rfl,aAB ht,rfl,a,_,rfl,.inl (aAA ha),fun hd0 nh0=>?_⟩;have s0:Same H (upd H hd0 (.lst (h.1.map V.str))):=ao nh0;refine⟨fun σ H'=>LnI (.ref t) l h o H o.length σ H',?_,?_⟩
  ·rintro σ H1 ⟨hd,x3,x4,rfl,e1,n1,s1⟩;rw [ae0] at e1;refine⟨aeM _,fun D nD=>?_⟩;have nD0:H D=none:=s1.free nD;have nhD:hd≠D:=fun z=>by subst z;rw [e1] at nD;cases nD
   refine⟨fun σ H'=>LfI (.ref t) l hd D h o (aL h.1 h.2 o) H h.2.length σ H',?_,?_⟩
   ·rintro σ H2 ⟨x3',x4',x6,rfl,e2,eD,_,s2⟩;exact⟨_,rfl,q D H2 s2 nD0 eD⟩
   ·have s1D:Same H1 (upd H1 D (.lst [])):=ao nD;refine⟨_,rfl,t,_,1,.ref r,rfl,rfl,aAB ((s1.trans s1D) _ _ ht),rfl,r,_,rfl,.inl (aAA ((s1.trans s1D) _ _ hr')),((h.2.length:Nat):Int),by rw [hR.1],by lia,by lia,?_⟩;rw [aeY];refine iy (fun i σ' H'=>LfI (.ref t) l hd D h o (aL h.1 h.2 o) H i σ' H') (.mk x3 x4 none rfl (s1D _ _ e1) af nD0 (s1.trans s1D)) ?_ (fun σ' H' z=>z);rintro i σ H2 hi ⟨x3',x4',x6,rfl,e2,eD,_,s2⟩;obtain⟨tt,aa,bb,eu,q1,q2,q3⟩:=jP hR hi;have lk:=(ok.rs _ (aeS hi)).lk;have gd:(h.2[i]?).getD ([],[])=h.2[i]:=by rw [aeh hi];rfl
    have i0:(0:Int)+((i:Nat):Int)=((i:Nat):Int):=by lia
    dsimp only [zr,vE,cI];refine aK _ _ _ _ _ _ _ _ _ ?_;refine⟨_,rfl,t,_,1,.ref r,rfl,rfl,aAB (s2 _ _ ht),rfl,_,rfl,r,us,_,.ref tt,rfl,rfl,aAA (s2 _ _ hr'),by rw [i0];exact bq eu,tt,_,0,.ref aa,rfl,rfl,aAB (s2 _ _ q1),rfl,aa,rfl,⟨_,aAA (s2 _ _ q2)⟩,fun D2 nD2=>?_⟩;refine lY (F:=id) (pb:=aa6 (aL h.1 h.2 o) h.2[i].1) (s2 _ _ q2) nD2 (by rw [aej];have:=(ok.rs _ (aeS hi)).l4;lia) (fun x=>rfl) (fun G x R hx sG r0=>?_) (fun G x R hx _ sG r0=>?_) (fun G sG hG=>?_)
    ·obtain⟨k,hk,rfl⟩:=aeL.mp hx;have sHG:=s2.trans sG;refine⟨_,rfl,.inl ⟨rfl,_,aAA (sG _ _ e2)⟩,_,rfl,hd,_,k,rfl,rfl,sG _ _ e2,?_⟩;refine⟨_,rfl,t,_,1,.ref r,rfl,rfl,aAB (sHG _ _ ht),rfl,_,rfl,r,us,_,.ref tt,rfl,rfl,aAA (sHG _ _ hr'),by rw [i0];exact bq eu,tt,_,0,.ref aa,rfl,rfl,aAB (sHG _ _ q1),rfl,.inl ⟨rfl,_,aAA (sHG _ _ q2)⟩,_,rfl,aa,_,k,rfl,rfl,sHG _ _ q2,_,_,rfl,rfl,_,rfl,?_⟩;have:=r0 G (Same.refl G);rw [show decide ((((aL h.1 h.2 o).count k:Nat):Int) < ((h.2[i].1.count k:Nat):Int))=aa6 (aL h.1 h.2 o) h.2[i].1 (.str k) from af9.mpr (by lia)];exact this
    ·exact⟨_,rfl,r0 G (Same.refl G)⟩
    ·have hG':G D2=some (.lst ((h.2[i].1.filter fun x=>decide ((aL h.1 h.2 o).count x < h.2[i].1.count x)).map V.str)):=by rw [hG,wQ]
     have sHG:=s2.trans sG;have eD3:=sG _ _ eD;have tk:((List.range (i+1)).filter fun k=>!decide (k∈o) && iT (aL h.1 h.2 o) ((h.2[k]?).getD ([],[])).1)=((List.range i).filter fun k=>!decide (k∈o) && iT (aL h.1 h.2 o) ((h.2[k]?).getD ([],[])).1)++if (!decide (i∈o) && iT (aL h.1 h.2 o) h.2[i].1)=true then [i] else []:=by
      rw [agk,afl,afi,gd]
      rfl
     refine⟨fun σ H'=>LfI (.ref t) l hd D h o (aL h.1 h.2 o) H (i+1) σ H',fun _ _ z=>z,?_⟩;refine⟨_,rfl,_,rfl,l,_,rfl,.inl (aAA (sHG _ _ hl)),rfl,by rw [ag2,ae1];exact fun _ _=>rfl,_,rfl,?_⟩;rw [i0];rw [show inV (.int ((i:Nat):Int)) (aM o)=decide (i∈o) from oY i o];by_cases hin:i∈o
     ·rw [aeP hin] at tk ⊢;refine gK (gK (.mk _ _ _ rfl (sG _ _ e2) ?_ nD0 sHG));rw [tk];simpa using eD3
     ·rw [aeO hin] at tk ⊢;refine ju ⟨_,rfl,aeM _,fun l0 n0=>?_⟩;have s0':Same G (upd G l0 (.lst [])):=ao n0;refine pU (s0' _ _ hG') af (fun k hk=>lk k (afj.mp hk).1) (afA (aep _) hu) ⟨_,rfl,?_⟩;rw [wN];cases hm:iT (aL h.1 h.2 o) h.2[i].1 with
      | true =>
       rw [hm] at tk;refine ju ⟨_,rfl,.inl ⟨rfl,_,aAA (s0' _ _ eD3)⟩,_,rfl,D,_,_,rfl,rfl,s0' _ _ eD3,?_,?_⟩
       ·rw [aej];have:=af4 (fun k=>!decide (k∈o) && iT (aL h.1 h.2 o) ((h.2[k]?).getD ([],[])).1) (List.range i);rw [afv] at this;lia
       ·refine .mk _ _ _ rfl (by rw [ak nhD];exact s0' _ _ (sG _ _ e2)) ?_ nD0 (bU (sHG.trans s0') nD0);rw [af,tk];unfold aM;rw [aeD]
        rfl
      | false =>
       rw [hm] at tk;refine gK (.mk _ _ _ rfl (s0' _ _ (sG _ _ e2)) ?_ nD0 (sHG.trans s0'));rw [tk];simpa using s0' _ _ eD3
  ·refine⟨_,rfl,l,rfl,⟨_,aAA (s0 _ _ hl)⟩,?_⟩;refine dI (xs:=aM o) (fun i σ' H'=>LnI (.ref t) l h o H i σ' H') (.mk hd0 none none rfl af nh0 s0) (fun i σ H' _ ⟨_,_,_,_,_,_,s⟩=>aAA (s _ _ hl)) ?_ (fun σ H' z=>by rw [aej] at z;exact z);rintro i x σ H1 hx ⟨hd,x3,x4,rfl,e1,n1,s1⟩;obtain⟨n,en,ex⟩:∃ n,o[i]? = some n/\x=.int ((n:Nat):Int):=by
    rw [aer] at hx;cases hq:o[i]? with
    | none=>rw [hq] at hx;cases hx
    | some n=>rw [hq] at hx;cases hx;exact⟨n,rfl,rfl⟩
   subst ex;obtain⟨hn,_,hmay⟩:=g i n en;have gd:(h.2[n]?).getD ([],[])=h.2[n]:=by rw [aeh hn];rfl
   rw [gd] at hmay;obtain⟨tt,aa,bb,eu,q1,q2,q3⟩:=jP hR hn;have tk:o.take (i+1)=o.take i++[n]:=by rw [aeT,en];rfl
   refine⟨fun σ H'=>LoI (.ref t) l hd h o H i n h.2[n].1 h.2[n].1.length σ H',?_,?_⟩
   ·rintro σ H2 ⟨x4',rfl,e2,s2⟩;rw [ae0] at e2;refine⟨_,rfl,_,rfl,t,_,1,.ref r,rfl,rfl,aAB (s2 _ _ ht),rfl,_,rfl,r,us,_,.ref tt,rfl,rfl,aAA (s2 _ _ hr'),bq eu,tt,_,1,.ref bb,rfl,rfl,aAB (s2 _ _ q1),rfl,hd,bb,_,_,rfl,rfl,e2,s2 _ _ q3,?_,fun hd2 n2=>?_⟩
    ·rw [aej,aej];have a1:=iI h.2[n].1 (aL h.1 h.2 (o.take i));have a2:=nR (ks:=[]) 1000 (fun r hr=>(ok.rs r hr).kl) (o.take i) h.1;have a3:=(ok.rs _ (aeS hn)).kl;have a4:=ok.kl;have a5:(o.take i).length<=12:=by rw [aeK];lia
     lia
    ·refine .mk hd2 _ _ rfl ?_ (s2.free n2) (s2.trans (ao n2));rw [af,tk,jq,gd];unfold f7;rw [aeD]
   ·refine⟨_,rfl,t,_,1,.ref r,rfl,rfl,aAB (s1 _ _ ht),rfl,_,rfl,r,us,_,.ref tt,rfl,rfl,aAA (s1 _ _ hr'),bq eu,tt,_,0,.ref aa,rfl,rfl,aAB (s1 _ _ q1),rfl,aa,rfl,⟨_,aAA (s1 _ _ q2)⟩,?_⟩;refine dI (xs:=h.2[n].1.map V.str) (fun j σ' H'=>LoI (.ref t) l hd h o H i n h.2[n].1 j σ' H') (.mk x4 rfl e1 s1) (fun j σ H' _ ⟨_,_,_,s⟩=>aAA (s _ _ q2)) ?_ (fun σ H' z=>by rw [aej] at z;exact z);rintro j x σ H2 hx ⟨x4',rfl,e2,s2⟩;have hj:=(aek.mp hx).1;rw [aej] at hj;rw [aer,aeh hj] at hx;cases hx;refine⟨_,rfl,.inl ⟨rfl,_,aAA e2⟩,_,rfl,hd,_,h.2[n].1[j],rfl,rfl,e2,aap hmay hj,?_⟩;refine .mk _ rfl ?_ (bU s2 n1);rw [af,aeT,aeh hj,ag8]
    rfl
theorem yK {f fN:Addr}{fd fdN:FuncData}(F:Fun K "_law_gone" "_law_gone" gY f fd)(jb:FnOk P w K mg base CX0 1 fN fdN ["house","order"] su)(dz:Cal K mg "_law_next" ["house","order"] fN fdN)(dv:mg "len" = none)(cF:mg "list" = none)(bW:mg "range" = none)(aR:mg "enumerate" = none)(aU:mg "sorted" = none):FnOk P w K mg base CX0 2 f fd ["house","order"] vR:=by
 refine F.ok iD (fun vs H Q E h=>?_) (fun cdv A outer s H vs Q E hr h=>?_)
 ·obtain⟨v,l,h,o,rfl,_⟩:=h
  rfl
 ·have hu:=eM hr;obtain⟨v,l,h,o,rfl,hh,ok,hl,ol,l12,q⟩:=h;refine⟨_,(ag (bz (cQ aeX rfl (pK rfl aR (ae (pv 1) ah)) (gW rfl (ay (au (i:=2) iD.nd rfl (.inl rfl)) (ay (au (i:=3) iD.nd rfl (.inl rfl)) cD)))
   (aq (fi (aT dO (pv 3) (pcl jb dz hr rfl (ae (pv 0) (ae (kY oC (pv 1) r9 (l9 (pv 2))) ah))) rfl)
    (aq (aJ mX)) bu))))
   (aq (aJ (eh qb (av fj rfl aU agP (ae (pv 1) ah)) (kO rfl cF rfl bW rfl (ae (av aI rfl dv afw (ae (aN bP (pv 0) aj (fun _ _=>rfl)) ah)) ah)) (bM _))))),?_⟩
  refine⟨fun σ H'=>LgI v l h o H o.length σ H',?_,?_⟩
  ·rintro σ H1 ⟨x2,x3,rfl,g,s1⟩;rw [ae0] at g;obtain⟨t,a,r,us,rfl,ht,ha,hr',hR⟩:=hh;refine⟨_,rfl,l,o.map fun n=>((n:Nat):Int),rfl,aAA (by rw [s1 _ _ hl,aeZ];rfl),by rw [aej];lia,fun l1 ns n1 perm so=>?_⟩;have s2:Same H1 (upd H1 l1 (.lst (ns.map V.int))):=ao n1;have e2:(upd H1 l1 (.lst (ns.map V.int))) l1=some (.lst (ns.map V.int)):=af;generalize upd H1 l1 (.lst (ns.map V.int))=H2 at *;have s12:=s1.trans s2;refine⟨_,rfl,t,_,1,.ref r,rfl,rfl,aAB (s12 _ _ ht),rfl,r,_,rfl,.inl (aAA (s12 _ _ hr')),h.2.length,by rw [hR.1],by lia,fun l2 n2=>?_⟩;have s3:Same H2 (upd H2 l2 (.lst ((List.range h.2.length).map fun i=>V.int (i:Nat)))):=ao n2;obtain⟨ms,rfl⟩:∃ ms:List Nat,ns=ms.map fun n=>((n:Nat):Int):=by
    refine⟨ns.map Int.toNat,?_⟩;rw [aeZ];refine (ah0 ns).symm.trans (agj fun z hz=>?_);obtain⟨n,_,rfl⟩:=aeL.mp (perm.mem_iff.mp hz)
    rfl
   refine pB (a:=ms) (b:=List.range h.2.length) (by rw [s3 _ _ e2,aeZ];rfl) af (afA (aep _) hu) (q _ _ (s12.trans s3) ?_);rw [if_neg (by decide),afD];constructor
   ·intro e;refine⟨g,?_⟩;have:=perm.length_eq;rw [aej,aej,e,afv] at this;exact this.symm
   ·rintro⟨_,lo⟩;have p1:=qt (aV o g) (fO o g) lo;have e:=fc so (qu h.2.length) (perm.trans (p1.map _));have inj:∀ {a b:List Nat},a.map (fun n=>((n:Nat):Int))=b.map (fun n=>((n:Nat):Int))->a=b:=fun {a b} e=>by
     have:=afy (List.map Int.toNat) e;rw [aeZ,aeZ] at this
     rwa [show (Int.toNat ∘ fun n:Nat=>((n:Nat):Int))=id from funext fun n=>rfl,ah0,ah0] at this
    exact inj e
  ·refine⟨_,rfl,l,rfl,⟨_,aAA hl⟩,?_⟩;refine ue (xs:=aM o) (fun i σ' H'=>LgI v l h o H i σ' H') (.mk none none rfl (bQ _ _) (Same.refl H)) (fun i σ H' _ ⟨_,_,_,_,s⟩=>aAA (s _ _ hl)) ?_ (fun σ H' z=>by rw [aej] at z;exact z);rintro i x σ H1 T hx ⟨x2,x3,rfl,g,s1⟩ nT;obtain⟨n,en,ex⟩:∃ n,o[i]? = some n/\x=.int ((n:Nat):Int):=by
    rw [aer] at hx;cases hq:o[i]? with
    | none=>rw [hq] at hx;cases hx
    | some n=>rw [hq] at hx;cases hx;exact⟨n,rfl,rfl⟩
   subst ex;have hi:=(aek.mp en).1;have tk:o.take (i+1)=o.take i++[n]:=by rw [aeT,en];rfl
   have s2:Same H1 (upd H1 T (.tup [.int (i:Int),.int ((n:Nat):Int)])):=ao nT;refine⟨T,_,rfl,aAB af,rfl,?_⟩;generalize upd H1 T (.tup [.int (i:Int),.int ((n:Nat):Int)])=H2 at *;have s12:=s1.trans s2;refine⟨_,_,rfl,_,_,rfl,rfl,?_⟩;refine⟨_,rfl,_,rfl,_,rfl,_,rfl,_,rfl,l,_,rfl,aAA (s12 _ _ hl),fun p np=>?_⟩;have s3:Same H2 (upd H2 p (.lst (pF (aM o) none (some (i:Int))))):=ao np;have e3:(upd H2 p (.lst (pF (aM o) none (some (i:Int))))) p=some (.lst (aM (o.take i))):=by
    rw [af,aan (by rw [aej];lia),← List.map_take]
   generalize upd H2 p (.lst (pF (aM o) none (some (i:Int))))=H3 at *;have s13:=s12.trans s3;refine⟨v,p,h,o.take i,rfl,hh.same s13,ok,e3,g,l12,fun D H4 s4 nD eD=>?_⟩;refine⟨D,_,rfl,.inl (aAA eD),rfl,by rw [ag2,ae1];exact fun _ _=>rfl,_,rfl,?_⟩;rw [show inV (.int ((n:Nat):Int)) (aM (aZ h (o.take i)))=decide (n∈aZ h (o.take i)) from oY n _];by_cases hin:n∈aZ h (o.take i)
   ·rw [aeP hin];exact gK (.mk _ _ rfl (by rw [tk];exact aF g hin) (s13.trans s4))
   ·rw [aeO hin];refine ju (q false H4 (s13.trans s4) ⟨fun z=>absurd z (by decide),fun z=>?_⟩);have:=eU z.1 (i+1);rw [tk] at this;exact absurd (cj this).2 hin
end
def fb (h:Hs)(k:Nat):Hs:=(f7 h.1 ((h.2[k]?).getD ([],[])),h.2.take k++h.2.drop (k+1))
def phi (k i:Nat):Nat:=if i < k then i else i+1
theorem wC {k i j:Nat}(h:i < j):phi k i < phi k j:=by
 unfold phi;split<;>split<;>lia
theorem abe {k i j:Nat}(h:phi k i=phi k j):i=j:=by
 rcases Nat.lt_trichotomy i j with l | e | l
 ·have:=wC (k:=k) l;lia
 ·exact e
 ·have:=wC (k:=k) l;lia
theorem acb (k i:Nat):phi k i≠k:=by unfold phi;split<;>lia
theorem zi {k i:Nat}(h:i≠k):∃ j,phi k j=i/\(j < k->j=i)/\(k<=j->j+1=i):=by
 by_cases l:i < k
 ·exact⟨i,by unfold phi;rw [if_pos l],fun _=>rfl,fun _=>by lia⟩
 ·exact⟨i - 1,by unfold phi;rw [if_neg (by lia)];lia,fun _=>by lia,fun _=>by lia⟩
theorem ij {h:Hs}{k:Nat}(hk:k < h.2.length)(i:Nat):(fb h k).2[i]? = h.2[phi k i]?:=by
 unfold fb phi;dsimp only;split
 ·rename_i l;rw [aeQ (by rw [aeK];lia),af6,if_pos l]
 ·rename_i l;rw [aeJ (by rw [aeK];lia),aeK,agY];congr 1;lia
theorem kZ {h:Hs}{k:Nat}(hk:k < h.2.length):(fb h k).2.length+1=h.2.length:=by
 unfold fb;dsimp only;rw [aeo,aeK,afs];lia
theorem pO {h:Hs}{k:Nat}(hk:k < h.2.length)(o:List Nat):aL (fb h k).1 (fb h k).2 o=aL h.1 h.2 (k::o.map (phi k)):=by
 unfold aL;rw [agz,List.foldl_map];show List.foldl _ (f7 h.1 ((h.2[k]?).getD ([],[]))) o=_;congr 1;funext hd i;rw [ij hk]
theorem rB {h:Hs}{k:Nat}(hk:k < h.2.length)(o:List Nat):aZ h (k::o.map (phi k))=(aZ (fb h k) o).map (phi k):=by
 refine pD (lL _ _) ?_ fun i=>?_
 ·rw [aiu];exact (lL _ _).imp fun l=>wC l
 ·rw [aeL];constructor
  ·intro hi;obtain⟨h1,h2,h3⟩:=next_iffD.mp hi;have ne:i≠k:=fun z=>h2 (by rw [z];exact aev);obtain⟨j,ej,_⟩:=zi ne;refine⟨j,next_iffD.mpr ⟨?_,fun z=>h2 ?_,?_⟩,ej⟩
   ·have:=ij hk j;rw [ej,aeh h1] at this;exact (aek.mp this).1
   ·rw [← ej];exact aeC _ (afB z)
   ·rw [pO hk,show rmD (fb h k).2 j=rmD h.2 i by unfold rmD;rw [ij hk,ej]];exact h3
  ·rintro⟨j,hj,ej⟩;obtain⟨h1,h2,h3⟩:=next_iffD.mp hj;refine next_iffD.mpr ⟨?_,fun z=>?_,?_⟩
   ·have:=ij hk j;rw [ej,aeh h1] at this;exact (aek.mp this.symm).1
   ·rcases aeu.mp z with e | e
    ·exact acb k j (ej.trans e)
    ·obtain⟨x,hx,ex⟩:=aeL.mp e;have:=abe (ex.trans ej.symm);rw [this] at hx;exact h2 hx
   ·rw [pO hk,show rmD (fb h k).2 j=rmD h.2 i by unfold rmD;rw [ij hk,ej]] at h3;exact h3
theorem nJ {h:Hs}{k:Nat}(hk:k < h.2.length):∀ n o,endsF (fb h k) n o=endsF h n (k::o.map (phi k))
 | 0,_=>rfl
 | n+1,o=>by
  show cW _=cW _;rw [rB hk,aeZ];refine f9 fun i _=>?_;rw [nJ hk n (o++[i]),aeD]
  rfl
theorem mK {h:Hs}{k:Nat}(hk:k < h.2.length):∀ n o,stuckF (fb h k) n o=stuckF h n (k::o.map (phi k))
 | 0,_=>rfl
 | n+1,o=>by
  show (if _ then _ else _)=(if _ then _ else _);rw [rB hk,aeZ];by_cases e:aZ (fb h k) o=[]
  ·rw [if_pos e,if_pos (by rw [e];rfl)]
  ·rw [if_neg e,if_neg (by rw [List.map_eq_nil_iff];exact e)];refine f9 fun i _=>?_;rw [mK hk n (o++[i]),aeD]
   rfl
theorem xQ {h:Hs}{k:Nat}(hk:k < h.2.length):Ends (fb h k) []=Ends h [k]:=by
 unfold Ends;rw [nJ hk];have:=kZ hk;congr 1;show _ - 0=_ - 1;lia
theorem uZ {h:Hs}{k:Nat}(hk:k < h.2.length):Stuck (fb h k) []=Stuck h [k]:=by
 unfold Stuck;rw [mK hk];have:=kZ hk;congr 1;show _ - 0=_ - 1;lia
structure NamedH (f:Str->Str)(U:List Str)(h h':Hs):Prop where
 inj:∀ x∈U,∀ y∈U,f x=f y->x=y
 bg:∀ x∈h.1,x∈U
 lk:∀ r∈h.2,∀ x∈r.1,x∈U
 wi:∀ r∈h.2,∀ x∈r.2,x∈U
 keys:h'.1.Perm (h.1.map f)
 len:h'.2.length=h.2.length
 rm:∀ (i:Nat) r r',h.2[i]? = some r->h'.2[i]? = some r'->r'.1.Perm (r.1.map f)/\r'.2.Perm (r.2.map f)
section
variable {f:Str->Str}{U:List Str}
theorem mv (inj:∀ x∈U,∀ y∈U,f x=f y->x=y){x:Str}(hx:x∈U):∀ {l:List Str},(∀ y∈l,y∈U)->(l.map f).count (f x)=l.count x
 | [],_=>rfl
 | a::l,h=>by
  rw [aeG,ahR,ahR,mv inj hx fun y hy=>h y (aeC _ hy)];by_cases e:a=x
  ·subst e;simp
  ·have:¬ f a=f x:=fun z=>e (inj a (h a aev) x hx z);simp [e,this]
def Cnt (f:Str->Str)(U:List Str)(a b:List Str):Prop:=∀ x∈U,b.count (f x)=a.count x
theorem pG (inj:∀ x∈U,∀ y∈U,f x=f y->x=y){a b:List Str}(p:b.Perm (a.map f))(h:∀ y∈a,y∈U):Cnt f U a b:=fun x hx=>by rw [p.count_eq,mv inj hx h]
theorem yv {a b:List Str}{r r':Rm}(c:Cnt f U a b)(c1:Cnt f U r.1 r'.1)(c2:Cnt f U r.2 r'.2):Cnt f U (f7 a r) (f7 b r'):=fun x hx=>by
 unfold f7;rw [agg,agg,cZ,cZ,c x hx,c1 x hx,c2 x hx]
theorem aav {a b:List Str}{r r':Rm}(c:Cnt f U a b)(c1:Cnt f U r.1 r'.1)(p:r'.1.Perm (r.1.map f))(h:∀ y∈r.1,y∈U):iT b r'.1=iT a r.1:=by
 unfold iT;rw [afP,ae1,ae1];constructor
 ·intro z x hx;have:=z (f x) (p.mem_iff.mpr (afB hx));rw [c x (h x hx),c1 x (h x hx)] at this;exact this
 ·intro z y hy;obtain⟨x,hx,rfl⟩:=aeL.mp (p.mem_iff.mp hy);rw [c x (h x hx),c1 x (h x hx)];exact z x hx
theorem NamedH.room {h h':Hs}(n:NamedH f U h h')(i:Nat):(((h'.2[i]?).getD ([],[])).1.Perm (((h.2[i]?).getD ([],[])).1.map f)/\Cnt f U ((h.2[i]?).getD ([],[])).1 ((h'.2[i]?).getD ([],[])).1/\Cnt f U ((h.2[i]?).getD ([],[])).2 ((h'.2[i]?).getD ([],[])).2)/\∀ y∈((h.2[i]?).getD ([],[])).1,y∈U:=by
 by_cases hi:i < h.2.length
 ·have hi':i < h'.2.length:=by rw [n.len];exact hi
  obtain⟨p1,p2⟩:=n.rm i _ _ (aeh hi) (aeh hi');rw [aeh hi,aeh hi'];have m:=aeS hi;exact⟨⟨p1,pG n.inj p1 (n.lk _ m),pG n.inj p2 (n.wi _ m)⟩,n.lk _ m⟩
 ·rw [show h.2[i]? = none from af3 (by lia),show h'.2[i]? = none from af3 (by rw [n.len];lia)];exact⟨⟨.nil,fun _ _=>rfl,fun _ _=>rfl⟩,fun _ h=>nomatch h⟩
theorem NamedH.hand {h h':Hs}(n:NamedH f U h h'):∀ (o:List Nat) (a b:List Str),Cnt f U a b->Cnt f U (aL a h.2 o) (aL b h'.2 o)
 | [],_,_,c=>c
 | i::o,a,b,c=>by
  obtain⟨⟨_,c1,c2⟩,_⟩:=n.room i;exact n.hand o _ _ (yv c c1 c2)
theorem NamedH.alike {h h':Hs}(n:NamedH f U h h'):AlikeH h h':=by
 refine⟨n.len.symm,fun o=>?_⟩;have c0:Cnt f U h.1 h'.1:=pG n.inj n.keys n.bg;have may:∀ (p:List Nat) (i:Nat),iT (aL h'.1 h'.2 p) ((h'.2[i]?).getD ([],[])).1=iT (aL h.1 h.2 p) ((h.2[i]?).getD ([],[])).1:=fun p i=>by
  obtain⟨⟨p1,c1,_⟩,u⟩:=n.room i;exact aav (n.hand p _ _ c0) c1 p1 u
 constructor
 ·intro g j i e;obtain⟨a,b,c⟩:=g j i e;exact⟨by rw [n.len];exact a,b,by rw [may];exact c⟩
 ·intro g j i e;obtain⟨a,b,c⟩:=g j i e;exact⟨by rw [← n.len];exact a,b,by rw [← may];exact c⟩
end
theorem mM {h:Hs}(l:h.2.length<=12)(r4:∀ r∈h.2,r.1.length<=4):vF h:=fun L nd hL=>by
 have e:(h.2.flatMap (·.1)).length<=4 * h.2.length:=by
  have:∀ rs:List Rm,(∀ r∈rs,r.1.length<=4)->(rs.flatMap (·.1)).length<=4 * rs.length:=fun rs=>by
   induction rs with
   | nil=>intro _;exact aeM _
   | cons r rs ih =>
    intro q;rw [List.flatMap_cons,aeo,aeU];have a:=q r aev;have b:=ih fun x hx=>q x (aeC _ hx);lia
  exact this _ r4
 have:=cg nd (U:=h.2.flatMap (·.1)) fun x hx=>by
  obtain⟨r,hr,hx⟩:=hL x hx;exact List.mem_flatMap.mpr ⟨r,hr,hx⟩
 lia
theorem aaL {h:Hs}{o:List Nat}(g:cf h.1 h.2 o):(aZ h o).length+o.length<=h.2.length:=by
 have:(aZ h o++o).Nodup:=afK.mpr ⟨ou h o,aV o g,fun a ha b hb z=>(next_iffD.mp ha).2.1 (z▸hb)⟩;have:=dH (n:=h.2.length) this fun i hi=>by
  rcases aew.mp hi with q | q
  ·exact (next_iffD.mp q).1
  ·exact fO o g i q
 rw [aeo] at this;exact this
def fac:Nat->Nat
 | 0=>1
 | n+1=>(n+1) * fac n
theorem acL {l:List Nat}{f:Nat->Nat}{b:Nat}(h:∀ i∈l,f i<=b):cW (l.map f)<=l.length * b:=by
 induction l with
 | nil=>exact aeM _
 | cons a l ih =>
  rw [aeG,cG,aeU,akh];have:=h a aev;have:=ih fun i hi=>h i (aeC _ hi);lia
theorem tR {h:Hs}:∀ n o,cf h.1 h.2 o->o.length+n=h.2.length->endsF h n o<=fac n
 | 0,_,_,_=>aep _
 | n+1,o,g,l=>by
  have a:=acL (l:=aZ h o) (f:=fun i=>endsF h n (o++[i])) (b:=fac n) fun i hi=>tR n _ (aF g hi) (by rw [aeo,ae7];lia);have b:=aaL g;refine aeN a ?_;exact Nat.mul_le_mul_right _ (by lia)
theorem zM:∀ {a b:Nat},a<=b->fac a<=fac b:=fun {a b} h=>by
 induction h with
 | refl=>exact aep _
 | step _ ih =>
  refine aeN ih ?_;show _<=(_+1) * fac _;rw [akh];lia
theorem abn {h:Hs}(l:h.2.length<=12):Ends h []<=479001600:=by
 unfold Ends;refine aeN (tR _ [] (bQ _ _) (by show 0+(h.2.length - 0)=h.2.length;lia)) ?_;exact aeN (zM (show h.2.length - 0<=12 by lia)) (by decide)
theorem oH:lettersS.cps.toList=List.range' 97 26:=by decide +kernel
theorem u0 (r:Nat)(h:r < 26):atI lettersS.cps.toList (r:Int)=some (97+r):=bq (by rw [oH,List.getElem?_range' h];simp)
theorem tu:lettersS.length<=sizeLine:=by decide
theorem aaU {z:Str}(h:1<=z.cps.toList.length/\z.cps.toList.length<=4/\∀ c∈z.cps.toList,97<=c/\c<=122):du z:=by
 obtain⟨h1,h2,h3⟩:=h;have e:z.cps.toList.length=z.length:=aeE;exact⟨by lia,by lia,h3⟩
def yQ (z:Str):Bool:=decide (1<=z.length) && decide (z.length<=4) && z.cps.toList.all fun c=>decide (97<=c) && decide (c<=122)
theorem zP {z:Str}(h:yQ z=true):du z:=by
 unfold yQ at h;rw [ae2,ae2,afD,afD,ae1] at h;refine⟨h.1.1,h.1.2,fun c hc=>?_⟩;have:=h.2 c hc;rw [ae2,afD,afD] at this;exact this
theorem rf {l:List Str}(h:l.all yQ=true):∀ k∈l,du k:=fun k hk=>zP (ae1.mp h k hk)
theorem adm {xs:List Str}{r:Int}(h0:0<=r)(h1:r < xs.length):∃ m∈xs,atI (xs.map V.str) r=some (.str m):=by
 obtain⟨j,rfl⟩:∃ j:Nat,r=(j:Int):=⟨r.toNat,by lia⟩;have hj:j < xs.length:=by lia
 exact⟨xs[j],aeS hj,bq (by rw [aer,aeh hj];rfl)⟩
theorem dG {p:Addr}{H H':Hp}(s:Same H H'):But p H H':=fun b u _ e=>s b u e
def PoolD (H:Hp)(p:Addr):Prop:=∃ a f c:Int,H p=some (.lst [.int a,.int f,.int c])
theorem PoolD.same {H H':Hp}{p:Addr}(d:PoolD H p)(s:Same H H'):PoolD H' p:=let ⟨a,f,c,e⟩:=d;⟨a,f,c,s _ _ e⟩
theorem PoolD.ne {H:Hp}{p q:Addr}(d:PoolD H p)(n:H q=none):q≠p:=fun z=>by
 obtain⟨_,_,_,e⟩:=d;rw [← z,n] at e;cases e
def xG (K:PySem.W.Frag):Sp:=fun vs H Q _=>∃ (a:Addr) (k:Nat) (ns:List Int),vs=[.ref a,.int k]/\SqL K H a (ns.map V.int)/\∀ p H',H p=none->Same H H'->PoolD H' p->Q (.ref p) H'
def ql:Sp:=fun vs H Q _=>∃ (p:Addr) (n:Int),vs=[.ref p,.int n]/\PoolD H p/\0 < n/\n < 1073741824/\∀ (r:Int) (H':Hp),0<=r->r < n->PoolD H' p->But p H H'->Q (.int r) H'
section
variable {P:Program}{w:World}{K:PySem.W.Frag}{mg:Str->Option Value}{base:Heap}
theorem gQ:az ["script","k","cell"] ["script","k"] (ai gP):=scM rfl rfl rfl rfl (by decide +kernel)
theorem dJ:az ["pool","many","found","x"] ["pool","many"] (ai gM):=scM rfl rfl rfl rfl (by decide +kernel)
theorem yM {f:Addr}{fd:FuncData}(F:Fun K "_law_pool" "_law_pool" gP f fd)(dv:mg "len" = none)(me:mg "int" = none):FnOk P w K mg base CX0 1 f fd ["script","k"] (xG K):=by
 refine F.ok gQ (fun vs H Q E h=>?_) (fun cdv A outer s H vs Q E hr h=>?_)
 ·obtain⟨a,k,ns,rfl,_⟩:=h
  rfl
 ·obtain⟨a,k,ns,rfl,ha,q⟩:=h;refine⟨_,(ag (aw (i:=2) gQ.nd rfl (.inl rfl) aj)
   (ag (bz (fi (aT zo (pv 1) (av aI rfl dv afw (ae (pv 0) ah)) (bM _))
    (aq (aw (i:=2) gQ.nd rfl (.inl rfl) (aN aS (pv 0) (pv 1) (fun _ _=>rfl)))) bu))
   (aq (aJ (dc (ae (pv 2) (ae (di jL rfl me (by decide +kernel) (ae (eh abw (pv 2) (bj ack aj aj) (bM _)) ah)) (ae (bj pQ aj (pv 1)) ah)))))))),?_⟩
  refine⟨fun σ H'=>∃ x:Int,σ=[some (.ref a),some (.int k),some (.int x)]/\H'=H,?_,?_⟩
  ·rintro σ H' ⟨x,rfl,rfl⟩;refine⟨_,rfl,_,rfl,10,18,rfl,rfl,⟨by decide,by decide,by decide⟩,_,_,rfl,rfl,.inr ⟨_,rfl,?_⟩⟩;refine⟨_,rfl,53,k,rfl,rfl,.inl ⟨by decide,by decide⟩,(by show 3<=sizeLine;decide),fun l hl=>?_⟩;exact q l _ hl (ao hl) ⟨_,_,_,af⟩
  ·refine⟨_,rfl,_,rfl,a,_,rfl,.inl ha,_,_,rfl,rfl,_,rfl,acN (fun hlt=>?_) (fun _=>⟨0,rfl,rfl⟩)⟩;have hlt':k < ns.length:=by
    have z:=afL hlt;rw [aej] at z;lia
   exact⟨_,rfl,_,rfl,a,_,_,.int ns[k],rfl,rfl,ha,bq (by rw [aer,aeh hlt'];rfl),_,rfl,rfl⟩
theorem abm {f:Addr}{fd:FuncData}(F:Fun K "_law_draw" "_law_draw" gM f fd):FnOk P w K mg base CX0 1 f fd ["pool","many"] ql:=by
 refine F.ok dJ (fun vs H Q E h=>?_) (fun cdv A outer s H vs Q E hr h=>?_)
 ·obtain⟨p,n,rfl,_⟩:=h
  rfl
 ·obtain⟨p,n,rfl,⟨a,f',c,hp⟩,n0,n1,q⟩:=h;refine⟨_,(ag (bz (fi (aT vw (aN aS (pv 0) aj (fun _ _=>rfl)) aj (bM _))
   (ag (aw (i:=2) dJ.nd rfl (.inl rfl) (bj oo (aN aS (pv 0) aj (fun _ _=>rfl)) (pv 1)))
   (ag (tV (bj xT (aN aS (pv 0) aj (fun _ _=>rfl)) (pv 1)) (z7 (pv 0) aj oE))
   (aq (aJ (pv 2))))) bu))
   (ag (tV (bj fq (aN aS (pv 0) aj (fun _ _=>rfl)) aj) (z7 (pv 0) aj oE))
   (ag (aw (i:=3) dJ.nd rfl (.inl rfl) (bj oo (bj fq (bj oo (aN aS (pv 0) aj (fun _ _=>rfl)) aj) (bj pQ aj (aN aS (pv 0) aj (fun _ _=>rfl)))) aj))
   (ag (aw (i:=3) dJ.nd rfl (.inl rfl) (bj oo (bj pQ (pv 3) (pv 3)) aj))
   (ag (aw (i:=3) dJ.nd rfl (.inl rfl) (bj oo (bj pQ (bj fq (pv 3) aj) (pv 3)) aj))
   (aq (aJ (bj oo (bj xT (pv 3) aj) (pv 1))))))))),?_⟩
  have md:∀ x:Int,0<=x % n/\x % n < n:=fun x=>⟨ai8 _ (by lia),aia _ n0⟩;refine⟨fun σ H'=>σ=[some (.ref p),some (.int n),none,none]/\H'=H,?_,?_⟩
  ·rintro σ H' ⟨rfl,rfl⟩;refine⟨_,rfl,p,_,2,.int c,rfl,rfl,aAA hp,rfl,c,1,rfl,rfl,?_⟩;refine⟨_,rfl,p,_,2,2,rfl,rfl,hp,rfl,?_⟩;have hp1:(upd H' p (.lst [.int a,.int f',.int (c+1)])) p=some (.lst [.int a,.int f',.int (c+1)]):=af;have b1:But p H' (upd H' p (.lst [.int a,.int f',.int (c+1)])):=.upd;show _;refine⟨_,rfl,p,_,0,.int a,rfl,rfl,aAA hp1,rfl,a,999999999989,rfl,rfl,(by show (0:Int) < 999999999989;decide),?_⟩;refine⟨_,rfl,p,_,2,.int (c+1),rfl,rfl,aAA hp1,rfl,810083,c+1,rfl,rfl,.inl ⟨by decide,by decide⟩,_,_,rfl,rfl,_,_,rfl,rfl,(by show (0:Int) < 999999999989;decide),?_⟩;have x0:=ai8 (a % 999999999989+810083 * (c+1)) (by decide:(999999999989:Int)≠0);have x1:=aia (a % 999999999989+810083 * (c+1)) (by decide:(0:Int) < 999999999989);generalize hx:(a % 999999999989+810083 * (c+1)) % 999999999989=x at *;refine⟨_,rfl,_,rfl,x,x,afy V.int hx,afy V.int hx,.inl ⟨by lia,by lia⟩,_,_,rfl,rfl,(by show (0:Int) < 1000000000039;decide),?_⟩;have y0:=ai8 (x * x) (by decide:(1000000000039:Int)≠0);have y1:=aia (x * x) (by decide:(0:Int) < 1000000000039);generalize hy:x * x % 1000000000039=y at *;refine⟨_,rfl,y,390001,afy V.int hy,rfl,_,rfl,_,y,rfl,afy V.int hy,.inr ⟨by lia,by lia⟩,_,_,rfl,rfl,(by show (0:Int) < 999999999961;decide),?_⟩;refine⟨_,rfl,_,_,rfl,rfl,⟨by decide,by decide⟩,_,rfl,_,n,rfl,rfl,n0,?_⟩;exact q _ _ (md _).1 (md _).2 ⟨_,_,_,hp1⟩ b1
  ·refine⟨_,rfl,p,_,1,.int f',rfl,rfl,aAA hp,rfl,rfl,_,rfl,acN (fun _=>?_) (fun _=>⟨rfl,rfl⟩)⟩;refine⟨_,rfl,p,_,0,.int a,rfl,rfl,aAA hp,rfl,_,rfl,a,n,rfl,rfl,n0,?_⟩;refine⟨_,rfl,p,_,0,.int a,rfl,rfl,aAA hp,rfl,_,rfl,a,n,rfl,rfl,⟨n0,n1⟩,?_⟩;refine⟨_,rfl,p,_,0,0,rfl,rfl,hp,rfl,?_⟩;refine⟨_,rfl,?_⟩;exact q _ _ (md _).1 (md _).2 ⟨_,_,_,af⟩ .upd
def t6:Sp:=fun vs H Q _=>∃ (p kl:Addr) (n:Nat) (U:List Str),vs=[.ref p,.int n,.ref kl]/\PoolD H p/\n<=1000/\H kl=some (.lst (U.map V.str))/\U≠[]/\U.length<=1000 ∧
 ∀ (D:Addr) (ks:List Str) (H':Hp),H D=none->H' D=some (.lst (ks.map V.str))->ks.length=n->(∀ k∈ks,k∈U)->PoolD H' p->But p H H'->Q (.ref D) H'
theorem rY {H:Hp}{p kl:Addr}{U:List Str}(d:PoolD H p)(e:H kl=some (.lst (U.map V.str)))(ne:U≠[]):kl≠p:=fun z=>by
 obtain⟨_,_,_,e2⟩:=d;rw [← z,e] at e2;cases U with
 | nil=>exact ne rfl
 | cons a r=>cases e2
theorem xf:∀ {ys:List V} {U:List Str},(∀ y∈ys,∃ z∈U,y=V.str z)->∃ ss:List Str,ys=ss.map V.str/\∀ x∈ss,x∈U
 | [],_,_=>⟨[],rfl,fun _ h=>nomatch h⟩
 | y::ys,U,h=>by
  obtain⟨ss,rfl,k⟩:=xf (U:=U) fun z hz=>h z (aeC _ hz);obtain⟨c,hc,rfl⟩:=h y aev;refine⟨c::ss,rfl,fun x hx=>?_⟩;rcases aeu.mp hx with z | z
  ·rw [z];exact hc
  ·exact k x z
theorem px:az ["pool","many","kinds"] ["pool","many","kinds"] (ai eB):=scM rfl rfl rfl rfl (by decide +kernel)
theorem mY:(["k","kinds","pool"]:List Str).Nodup:=by decide +kernel
theorem xj {f fD:Addr}{fd fdD:FuncData}(F:Fun K "_law_kinds" "_law_kinds" eB f fd)(aA:FnOk P w K mg base CX0 1 fD fdD ["pool","many"] ql)(ax:Cal K mg "_law_draw" ["pool","many"] fD fdD)(dv:mg "len" = none)(bW:mg "range" = none):FnOk P w K mg base CX0 2 f fd ["pool","many","kinds"] t6:=by
 refine F.ok px (fun vs H Q E h=>?_) (fun cdv A outer s H vs Q E hr h=>?_)
 ·obtain⟨p,kl,n,U,rfl,_⟩:=h
  rfl
 ·have hu:=eM hr;obtain⟨p,kl,n,U,rfl,dk,n1,hk,ne,ul,q⟩:=h;refine⟨_,(aq (aJ (iV (tg:=.Name "k" _) (outer:=ai (eB)) (N:=["pool","many","kinds"]) (N':=["k","kinds","pool"]) (nl:=1) (ix:=[2,0]) rfl rfl rfl (gk rfl bW (ae (pv 1) ah))
   (fun _ _ _ _=>(au (i:=0) mY rfl (.inl rfl) (.inr rfl))) (fun _ _ _ _=>cn)
   (fun _ _ _ _=>(aN (oR (K:=K) rfl) (pv 1) (pcl aA ax hr rfl (ae (pv 2) (ae (av (wt (K:=K) rfl) rfl dv afw (ae (pv 1) ah)) ah))) (fun _ _=>rfl)))))),?_⟩
  dsimp only [aaY];refine aK _ _ _ _ _ _ _ _ _ ?_;refine⟨_,rfl,(n:Int),rfl,by lia,by lia,fun D nD=>?_⟩;rw [aeY];have neD:=dk.ne nD;have nek:=rY dk hk ne;have lim:1000000 < sizeLine:=by decide
  have s0:Same H (upd H D (.lst [])):=ao nD;refine uF (n:=n) (fun i ys H'=>ys.length=i/\(∀ y∈ys,∃ z∈U,y=V.str z)/\H' D=some (.lst ys)/\PoolD H' p/\But p H H') ⟨rfl,fun _ h=>(nomatch h),af,dk.same s0,dG s0⟩ (fun i ys H' ⟨_,_,h,_⟩=>h) ?_ ?_
  ·rintro i ys H2 hi ⟨yl,al,hD,dk2,b2⟩;refine dP rfl ?_;have hk2:=b2 _ _ nek hk;refine⟨_,rfl,_,rfl,_,rfl,kl,_,rfl,.inl (aAA hk2),p,(U.length:Int),?_,dk2,?_,?_,fun r H3 r0 r1 dk3 b3=>?_⟩
   ·rw [aej];rfl
   ·have:=List.length_pos_iff.mpr ne;lia
   ·lia
   ·obtain⟨m,hm,em⟩:=adm (xs:=U) r0 r1;refine⟨kl,_,r,_,rfl,rfl,aAA (b3 _ _ nek hk2),em,b3 _ _ neD hD,by lia,nx hi ⟨by rw [aeo,yl];rfl,fun y hy=>?_,af,?_,(b2.trans b3).new nD⟩⟩
    ·rcases aew.mp hy with h | h
     ·exact al y h
     ·rw [aeq] at h;exact⟨m,hm,h⟩
    ·obtain⟨a,f',c,e⟩:=dk3;exact⟨a,f',c,by rw [ak (afO neD)];exact e⟩
  ·rintro ys H2 ⟨yl,al,hD,dk2,b2⟩;obtain⟨ks,rfl,hks⟩:=xf al;rw [aej] at yl;exact q D ks H2 nD hD yl hks dk2 b2
def ui:Sp:=fun vs H Q _=>∃ (p:Addr),vs=[.ref p]/\PoolD H p/\∀ (D:Addr) (U:List Str) (H':Hp),H D=none->H' D=some (.lst (U.map V.str))->U≠[]->U.length<=16->(∀ k∈U,du k)->PoolD H' p->But p H H'->Q (.ref D) H'
inductive DwI (p l:Addr)(H:Hp)(i:Nat)(σ:L2.St)(H':Hp):Prop
 | mk (U:List Str) (x2 x3 x4:Option V):σ=[some (.ref p),some (.ref l),x2,x3,x4]->H' l=some (.lst (U.map V.str))->U.length<=i->(0 < i->U≠[])->(∀ k∈U,du k)->PoolD H' p->But p H H'->DwI p l H i σ H'
inductive DvI (p l:Addr)(H:Hp)(U:List Str)(x2:Option V)(i:Nat)(σ:L2.St)(H':Hp):Prop
 | mk (z:Str) (x4:Option V):σ=[some (.ref p),some (.ref l),x2,some (.str z),x4]->z.cps.toList.length=i->(∀ c∈z.cps.toList,97<=c/\c<=122)->H' l=some (.lst (U.map V.str))->PoolD H' p->But p H H'->DvI p l H U x2 i σ H'
theorem cM:az ["pool","found","k","word","s"] ["pool"] (ai gD):=scM rfl rfl rfl rfl (by decide +kernel)
theorem vS {f fD:Addr}{fd fdD:FuncData}(F:Fun K "_law_words" "_law_words" gD f fd)(aA:FnOk P w K mg base CX0 1 fD fdD ["pool","many"] ql)(ax:Cal K mg "_law_draw" ["pool","many"] fD fdD)(bW:mg "range" = none):FnOk P w K mg base CX0 2 f fd ["pool"] ui:=by
 refine F.ok cM (fun vs H Q E h=>?_) (fun cdv A outer s H vs Q E hr h=>?_)
 ·obtain⟨p,rfl,_⟩:=h
  rfl
 ·have hu:=eM hr;obtain⟨p,rfl,dk,q⟩:=h;refine⟨_,(ag (aw (i:=1) cM.nd rfl (.inl rfl) pY)
   (ag (bz (cQ aeX rfl (gk rfl bW (ae (bj fq aj (pcl aA ax hr rfl (ae (pv 0) (ae aj ah)))) ah)) (au (i:=2) cM.nd rfl (.inl rfl))
    (ag (aw (i:=3) cM.nd rfl (.inl rfl) cB)
    (ag (bz (cQ aeX rfl (gk rfl bW (ae (bj fq aj (pcl aA ax hr rfl (ae (pv 0) (ae aj ah)))) ah)) (au (i:=4) cM.nd rfl (.inl rfl))
     (aq (aw (i:=3) cM.nd rfl (.inl rfl) (bj nP (pv 3) (aN ach cB (pcl aA ax hr rfl (ae (pv 0) (ae aj ah))) (fun _ _=>rfl)))))))
    (aq (bz (fi (aT dO (pv 3) (pv 1) rfl)
     (aq (dh (oP aeW afM afN dm (pv 1) (ae (pv 3) ah)))) bu)))))))
   (aq (aJ (pv 1))))),?_⟩
  refine⟨aeM _,fun l nl=>?_⟩;have nel:=dk.ne nl;have lim:1000000 < sizeLine:=by decide
  have s0:Same H (upd H l (.lst [])):=ao nl;refine⟨fun σ H'=>∃ i,0 < i/\i<=16/\DwI p l H i σ H',?_,?_⟩
  ·rintro σ H' ⟨i,i0,i1,⟨U,x2,x3,x4,rfl,hl,ul,ne,kk,dk2,b2⟩⟩;exact⟨_,rfl,q l U H' nl hl (ne i0) (by lia) kk dk2 b2⟩
  ·refine⟨_,rfl,p,12,rfl,dk.same s0,by decide,by decide,fun r H1 r0 r1 dk1 b1=>⟨5,r,rfl,rfl,5+r,rfl,by lia,by lia,?_⟩⟩;obtain⟨m,em⟩:∃ m:Nat,5+r=(m:Int):=⟨(5+r).toNat,by lia⟩;rw [em,aeY];refine iy (fun i σ' H'=>DwI p l H i σ' H') (.mk [] none none none rfl (b1 _ _ nel af) (aeM _) (fun z=>absurd z (by lia)) (fun _ h=>(nomatch h)) dk1 ((dG s0).trans b1)) ?_ (fun σ' H' z=>⟨m,by lia,by lia,z⟩);rintro i σ H2 hi ⟨U,x2,x3,x4,rfl,hl,ul,ne,kk,dk2,b2⟩;refine⟨fun σ' H'=>∃ j,1<=j/\j<=4/\DvI p l H U (some (.int (0+(i:Int)))) j σ' H',?_,?_⟩
   ·rintro σ' H3 ⟨j,j1,j4,⟨z,x4',rfl,zl,zc,hl3,dk3,b3⟩⟩;have kz:=aaU ⟨by lia,by lia,zc⟩;refine⟨fun σ' H'=>DwI p l H (i+1) σ' H',fun _ _ z=>z,?_⟩;refine⟨_,rfl,_,rfl,l,_,rfl,.inl (aAA hl3),rfl,by rw [ag2,ae1];exact fun _ _=>rfl,_,rfl,acN (fun _=>?_) (fun e=>?_)⟩
    ·refine⟨_,rfl,.inl ⟨rfl,_,aAA hl3⟩,_,rfl,l,_,_,rfl,rfl,hl3,by rw [aej];lia,?_⟩;have dk4:PoolD (upd H3 l (.lst (U.map V.str++[.str z]))) p:=by
      obtain⟨a,f',c,e⟩:=dk3;exact⟨a,f',c,by rw [ak (afO nel)];exact e⟩
     refine .mk (U++[z]) _ _ _ rfl (by rw [af,aeD];rfl) (by rw [aeo,ae7];lia) (fun _=>by simp) (fun k hk=>?_) dk4 (b3.new nl);rcases aew.mp hk with h | h
     ·exact kk k h
     ·rw [aeq] at h;rw [h];exact kz
    ·refine .mk U _ _ _ rfl hl3 (by lia) (fun _ ne0=>?_) kk dk3 b3;subst ne0;exact e rfl
   ·refine⟨_,rfl,p,4,rfl,dk2,by decide,by decide,fun r H3 r0 r1 dk3 b3=>⟨1,r,rfl,rfl,1+r,rfl,by lia,by lia,?_⟩⟩;obtain⟨m2,em2⟩:∃ m:Nat,1+r=(m:Int):=⟨(1+r).toNat,by lia⟩;rw [em2,aeY];refine iy (fun j σ' H'=>DvI p l H U (some (.int (0+(i:Int)))) j σ' H') (.mk "" x4 rfl (by decide) (fun c hc=>by simp [show (Str.ofString "").cps.toList=[] by decide] at hc) (b3 _ _ nel hl) dk3 (b2.trans b3)) ?_ (fun σ' H' z=>⟨m2,by lia,by lia,z⟩);rintro j σ H4 hj ⟨z,x4',rfl,zl,zc,hl4,dk4,b4⟩;refine⟨_,rfl,_,rfl,p,26,rfl,dk4,by decide,by decide,fun r H5 r0 r1 dk5 b5=>?_⟩;obtain⟨k,rfl⟩:∃ k:Nat,r=(k:Int):=⟨r.toNat,by lia⟩;have el:z.cps.toList.length=z.length:=aeE;refine⟨lettersS,_,97+k,rfl,rfl,tu,u0 k (by lia),z,_,rfl,rfl,af1 (gN (by show z.length+1<=1000;lia)),?_⟩;refine .mk _ _ rfl (by rw [qv,aeo,zl];rfl) (fun c hc=>?_) (b5 _ _ nel hl4) dk5 (b4.trans b5);rw [qv] at hc;rcases aew.mp hc with y | y
    ·exact zc c y
    ·have:c=97+k:=by simpa using y
     lia
structure RmU (U:List Str)(r:Rm):Prop where
 lk:∀ k∈r.1,k∈U
 l1:1<=r.1.length
 l4:r.1.length<=4
 so:r.1.Pairwise leS
 wi:∀ k∈r.2,k∈U
 w6:r.2.length<=6
structure HsU (U:List Str)(n:Nat)(h:Hs):Prop where
 kk:∀ k∈U,du k
 ul:U.length<=16
 bg:∀ k∈h.1,k∈U
 bl:h.1.length<=189
 rl:h.2.length=n
 rm:∀ r∈h.2,RmU U r
def tP:Sp:=fun vs H Q _=>∃ (p:Addr) (n:Nat),vs=[.ref p,.int n]/\PoolD H p/\n<=12/\∀ (v:V) (h:Hs) (U:List Str) (H':Hp),HouseAt H' v h->HsU U n h->PoolD H' p->But p H H'->Q v H'
def KindsAt (H:Hp)(v:V)(U:List Str):Prop:=∃ a,v=.ref a/\H a=some (.lst (U.map V.str))/\U≠[]/\U.length<=16/\∀ k∈U,du k
theorem KindsAt.but {H H':Hp}{v:V}{U:List Str}{p:Addr}(k:KindsAt H v U)(d:PoolD H p)(b:But p H H'):KindsAt H' v U:=let ⟨a,e,h,n,l,o⟩:=k;⟨a,e,b _ _ (rY d h n) h,n,l,o⟩
theorem KindsAt.same {H H':Hp}{v:V}{U:List Str}(k:KindsAt H v U)(s:Same H H'):KindsAt H' v U:=let ⟨a,e,h,n,l,o⟩:=k;⟨a,e,s _ _ h,n,l,o⟩
theorem vQ {l:List Str}{x y z:Int}:l.map V.str≠[.int x,.int y,.int z]:=fun e=>by cases l<;>cases e
theorem RoomAt.pool {H H':Hp}{p:Addr}{v:V}{r:Rm}(x:RoomAt H v r)(d:PoolD H p)(b:But p H H'):RoomAt H' v r:=by
 obtain⟨t,la,lb,rfl,h1,h2,h3⟩:=x;obtain⟨i,j,k,e⟩:=d;refine⟨t,la,lb,rfl,b _ _ (fun z=>?_) h1,b _ _ (fun z=>?_) h2,b _ _ (fun z=>?_) h3⟩
 ·rw [z,e] at h1;cases h1
 ·rw [z,e] at h2;injection h2 with h2;injection h2 with h2;exact vQ h2.symm
 ·rw [z,e] at h3;injection h3 with h3;injection h3 with h3;exact vQ h3.symm
theorem RoomsAt.pool {H H':Hp}{p:Addr}{vs:List V}{rs:List Rm}(x:RoomsAt H vs rs)(d:PoolD H p)(b:But p H H'):RoomsAt H' vs rs:=⟨x.1,fun i v r a c=>(x.2 i v r a c).pool d b⟩
theorem acH {xs:List Nat}{r:Int}(h0:0<=r)(h1:r < xs.length):∃ m∈xs,atI (xs.map fun n=>V.int ((n:Nat):Int)) r=some (.int ((m:Nat):Int)):=by
 obtain⟨j,rfl⟩:∃ j:Nat,r=(j:Int):=⟨r.toNat,by lia⟩;have hj:j < xs.length:=by lia
 exact⟨xs[j],aeS hj,bq (by rw [aer,aeh hj];rfl)⟩
theorem lK {D:Addr}{H H':Hp}(s:Same H H'):Same (ck D H) (ck D H'):=fun b u e=>by
 unfold ck at e ⊢;split at e
 ·cases e
 ·rename_i hb;rw [if_neg hb];exact s _ _ e
theorem yL {D p:Addr}{H H':Hp}(s:But p H H'):But p (ck D H) (ck D H'):=fun b u n e=>by
 unfold ck at e ⊢;split at e
 ·cases e
 ·rename_i hb;rw [if_neg hb];exact s _ _ n e
theorem w9 {D p:Addr}{H:Hp}(d:PoolD H p)(n:D≠p):PoolD (ck D H) p:=let ⟨a,f,c,e⟩:=d;⟨a,f,c,by unfold ck;rw [if_neg (afO n)];exact e⟩
theorem mG {D:Addr}{H:Hp}{o:HO}:ck D (upd H D o)=ck D H:=by
 funext b;unfold ck;split
 ·rfl
 ·rename_i hb;rw [ak hb]
inductive DhI (p kl lr:Addr)(L:Int)(n:Nat)(U:List Str)(H0:Hp)(i:Nat)(σ:L2.St)(H':Hp):Prop
 | mk (vs:List V) (rs:List Rm) (x5 x6:Option V):σ=[some (.ref p),some (.int ((n:Nat):Int)),some (.ref kl),some (.int L),some (.ref lr),x5,x6]->H' lr=some (.lst vs)->RoomsAt (ck lr H') vs rs->rs.length=i->(∀ r∈rs,RmU U r)->PoolD H' p->But p H0 H'->H' kl=some (.lst (U.map V.str))->DhI p kl lr L n U H0 i σ H'
theorem RoomsAt.snocD {H:Hp}{vs:List V}{rs:List Rm}{v:V}{r:Rm}(x:RoomsAt H vs rs)(y:RoomAt H v r):RoomsAt H (vs++[v]) (rs++[r]):=by
 refine⟨by rw [aeo,aeo,x.1];rfl,fun i v' r' e1 e2=>?_⟩;by_cases h:i < vs.length
 ·rw [aeQ h] at e1;rw [aeQ (by rw [← x.1];exact h)] at e2;exact x.2 i v' r' e1 e2
 ·have hl:i < (vs++[v]).length:=(aek.mp e1).1;rw [aeo,ae7] at hl;have ei:i=vs.length:=by lia
  subst ei;rw [aeJ (aep _),ahg] at e1;rw [x.1,aeJ (aep _),ahg] at e2;cases e1;cases e2;exact y
theorem qG (l:Addr){H:Hp}{ws:List Str}(e:H l=some (.lst (ws.map V.str)))(k:ws.all yQ=true)(ne:ws≠[])(wl:ws.length<=16):KindsAt H (.ref l) ws:=⟨l,rfl,e,ne,wl,rf k⟩
def ws1:List Str:=["a"]
def ws2:List Str:=["a","b"]
def ws3:List Str:=["a","b","cc"]
def ws4:List Str:=["ab","abce","zbcd","abcd"]
def ws5:List Str:=["key","a","b","abcd","keyb","cb","keya"]
theorem lt_size {n:Nat}(h:n<=1000):n<=sizeLine:=aeN h (by decide)
theorem bf:az ["pool","many","kinds","locks","rooms","k","some"] ["pool","many"] (ai gC):=scM rfl rfl rfl rfl (by decide +kernel)
theorem wz {f fD fK fW:Addr}{fd fdD fdK fdW:FuncData}(F:Fun K "_law_house" "_law_house" gC f fd)(aA:FnOk P w K mg base CX0 1 fD fdD ["pool","many"] ql)(ax:Cal K mg "_law_draw" ["pool","many"] fD fdD)(gL:FnOk P w K mg base CX0 2 fK fdK ["pool","many","kinds"] t6)(dN:Cal K mg "_law_kinds" ["pool","many","kinds"] fK fdK)
 (qR:FnOk P w K mg base CX0 2 fW fdW ["pool"] ui)(gU:Cal K mg "_law_words" ["pool"] fW fdW)(bW:mg "range" = none)(aU:mg "sorted" = none):FnOk P w K mg base CX0 3 f fd ["pool","many"] tP:=by
 refine F.ok bf (fun vs H Q E h=>?_) (fun cdv A outer s H vs Q E hr h=>?_)
 ·obtain⟨p,n,rfl,_⟩:=h
  rfl
 ·have hu:=eM hr;obtain⟨p,n,rfl,dk,n12,q⟩:=h;refine⟨_,(@ag _ _ _ _ _ (@aw _ _ 2 _ _ _ _ bf.nd rfl (.inl rfl) (@dc _ _ _ _ (@cv _ _ _ _ _ (@dc _ _ _ _ (@cv _ _ _ _ _ (@cB _ _ _ _) (@ah _) rfl)) (@cv _ _ _ _ _ (@dc _ _ _ _ (@cv _ _ _ _ _ (@cB _ _ _ _) (@cv _ _ _ _ _ (@cB _ _ _ _) (@ah _) rfl) rfl)) (@cv _ _ _ _ _ (@dc _ _ _ _ (@cv _ _ _ _ _ (@cB _ _ _ _) (@cv _ _ _ _ _ (@cB _ _ _ _) (@cv _ _ _ _ _ (@cB _ _ _ _) (@ah _) rfl) rfl) rfl)) (@cv _ _ _ _ _ (@dc _ _ _ _ (@cv _ _ _ _ _ (@cB _ _ _ _) (@cv _ _ _ _ _ (@cB _ _ _ _) (@cv _ _ _ _ _ (@cB _ _ _ _) (@cv _ _ _ _ _ (@cB _ _ _ _) (@ah _) rfl) rfl) rfl) rfl)) (@ah _) rfl) rfl) rfl) rfl)) rfl (by first | exact .inl rfl | exact .inr rfl))
   (ag (aw (i:=2) bf.nd rfl (.inl rfl) (bj jU (pv 2) (dc (ae (@dc _ _ _ _ (@cv _ _ _ _ _ (@cB _ _ _ _) (@cv _ _ _ _ _ (@cB _ _ _ _) (@cv _ _ _ _ _ (@cB _ _ _ _) (@cv _ _ _ _ _ (@cB _ _ _ _) (@cv _ _ _ _ _ (@cB _ _ _ _) (@cv _ _ _ _ _ (@cB _ _ _ _) (@cv _ _ _ _ _ (@cB _ _ _ _) (@ah _) rfl) rfl) rfl) rfl) rfl) rfl) rfl)) (ae (pcl qR gU hr rfl (ae (pv 0) ah)) ah)))))
   (ag (aw (i:=2) bf.nd rfl (.inl rfl) (aN aS (pv 2) (pcl aA ax (hr.mono (by decide:1<=2)) rfl (ae (pv 0) (ae aj ah))) (fun _ _=>rfl)))
   (ag (aw (i:=3) bf.nd rfl (.inl rfl) (bj fq aj (bj pQ (pcl aA ax (hr.mono (by decide:1<=2)) rfl (ae (pv 0) (ae aj ah))) (pcl aA ax (hr.mono (by decide:1<=2)) rfl (ae (pv 0) (ae aj ah))))))
   (ag (aw (i:=4) bf.nd rfl (.inl rfl) pY)
   (ag (bz (cQ aeX rfl (gk rfl bW (ae (pv 1) ah)) (au (i:=5) bf.nd rfl (.inl rfl))
    (ag (aw (i:=6) bf.nd rfl (.inl rfl) (av mC rfl aU agP (ae (pcl gL dN hr rfl (ae (pv 0) (ae (bj fq aj (pcl aA ax (hr.mono (by decide:1<=2)) rfl (ae (pv 0) (ae (pv 3) ah)))) (ae (pv 2) ah)))) ah)))
    (aq (dh (oP aeW afM afN dm (pv 4) (ae (m9 (ae (pv 6) (ae (pcl gL dN hr rfl (ae (pv 0) (ae (@aN _ _ _ _ _ _ _ aS (@dc _ _ _ _ (@cv _ _ _ _ _ (@aj _ _ _ _) (@cv _ _ _ _ _ (@aj _ _ _ _) (@cv _ _ _ _ _ (@aj _ _ _ _) (@cv _ _ _ _ _ (@aj _ _ _ _) (@cv _ _ _ _ _ (@aj _ _ _ _) (@cv _ _ _ _ _ (@aj _ _ _ _) (@cv _ _ _ _ _ (@aj _ _ _ _) (@cv _ _ _ _ _ (@aj _ _ _ _) (@ah _) rfl) rfl) rfl) rfl) rfl) rfl) rfl) rfl)) (pcl aA ax (hr.mono (by decide:1<=2)) rfl (ae (pv 0) (ae aj ah))) (fun _ _=>rfl)) (ae (pv 2) ah)))) ah))) ah)))))))
   (@ag _ _ _ _ _ (@aw _ _ 1 _ _ _ _ bf.nd rfl (.inl rfl) (@aN _ _ _ _ _ _ _ aS (@dc _ _ _ _ (@cv _ _ _ _ _ (@aj _ _ _ _) (@cv _ _ _ _ _ (@aj _ _ _ _) (@cv _ _ _ _ _ (@aj _ _ _ _) (@cv _ _ _ _ _ (@aj _ _ _ _) (@cv _ _ _ _ _ (@aj _ _ _ _) (@cv _ _ _ _ _ (@aj _ _ _ _) (@cv _ _ _ _ _ (@aj _ _ _ _) (@cv _ _ _ _ _ (bj fq aj (pcl aA ax (hr.mono (by decide:1<=2)) rfl (ae (pv 0) (ae aj ah)))) (@ah _) rfl) rfl) rfl) rfl) rfl) rfl) rfl) rfl)) (pcl aA ax (hr.mono (by decide:1<=2)) rfl (ae (pv 0) (ae aj ah))) (fun _ _=>rfl)) rfl (by first | exact .inl rfl | exact .inr rfl))
   (aq (aJ (m9 (ae (pcl gL dN hr rfl (ae (pv 0) (ae (pv 1) (ae (pv 2) ah)))) (ae (pv 4) ah)))))))))))),?_⟩
  refine⟨lt_size (by decide:1<=1000),fun a1 n1=>⟨lt_size (by decide:2<=1000),fun a2 n2=>⟨lt_size (by decide:3<=1000),fun a3 n3=>⟨lt_size (by decide:4<=1000),fun a4 n4=>?_⟩⟩⟩⟩;have k1:KindsAt (upd H a1 (.lst [.str "a"])) (.ref a1) ws1:=qG a1 af (by decide +kernel) (by decide) (by decide);have s1:Same H (upd H a1 (.lst [.str "a"])):=ao n1;generalize upd H a1 (.lst [.str "a"])=H1 at *;have k2:KindsAt (upd H1 a2 (.lst [.str "a",.str "b"])) (.ref a2) ws2:=qG a2 af (by decide +kernel) (by decide) (by decide);have s2:Same H1 (upd H1 a2 (.lst [.str "a",.str "b"])):=ao n2;generalize upd H1 a2 (.lst [.str "a",.str "b"])=H2 at *;have k3:KindsAt (upd H2 a3 (.lst [.str "a",.str "b",.str "cc"])) (.ref a3) ws3:=qG a3 af (by decide +kernel) (by decide) (by decide);have s3:Same H2 (upd H2 a3 (.lst [.str "a",.str "b",.str "cc"])):=ao n3;generalize upd H2 a3 (.lst [.str "a",.str "b",.str "cc"])=H3 at *;have k4:KindsAt (upd H3 a4 (.lst [.str "ab",.str "abce",.str "zbcd",.str "abcd"])) (.ref a4) ws4:=qG a4 af (by decide +kernel) (by decide) (by decide);have s4:Same H3 (upd H3 a4 (.lst [.str "ab",.str "abce",.str "zbcd",.str "abcd"])):=ao n4;generalize upd H3 a4 (.lst [.str "ab",.str "abce",.str "zbcd",.str "abcd"])=H4 at *;refine⟨lt_size (by decide:4<=1000),fun l nl=>?_⟩;have sL:Same H4 (upd H4 l (.lst [.ref a1,.ref a2,.ref a3,.ref a4])):=ao nl;have eL:(upd H4 l (.lst [.ref a1,.ref a2,.ref a3,.ref a4])) l=some (.lst [.ref a1,.ref a2,.ref a3,.ref a4]):=af;generalize upd H4 l (.lst [.ref a1,.ref a2,.ref a3,.ref a4])=H5 at *;have s05:=(((s1.trans s2).trans s3).trans s4).trans sL;have dk5:=dk.same s05;have k1':=k1.same (((s2.trans s3).trans s4).trans sL);have k2':=k2.same ((s3.trans s4).trans sL);have k3':=k3.same (s4.trans sL);have k4':=k4.same sL;refine⟨_,rfl,lt_size (by decide:7<=1000),fun a5 n5=>?_⟩;have k5:KindsAt (upd H5 a5 (.lst [.str "key",.str "a",.str "b",.str "abcd",.str "keyb",.str "cb",.str "keya"])) (.ref a5) ws5:=qG a5 af (by decide +kernel) (by decide) (by decide);have s5:Same H5 (upd H5 a5 (.lst [.str "key",.str "a",.str "b",.str "abcd",.str "keyb",.str "cb",.str "keya"])):=ao n5;generalize upd H5 a5 (.lst [.str "key",.str "a",.str "b",.str "abcd",.str "keyb",.str "cb",.str "keya"])=H6 at *;refine⟨_,rfl,p,rfl,dk5.same s5,fun D6 U6 H7 nD6 eD6 ne6 ul6 kk6 dk7 b7=>⟨lt_size (by decide:2<=1000),fun l2 nl2=>?_⟩⟩;have k6:KindsAt H7 (.ref D6) U6:=⟨D6,rfl,eD6,ne6,ul6,kk6⟩;have dk6:=dk5.same s5;have nlp:l≠p:=(dk.same (((s1.trans s2).trans s3).trans s4)).ne nl;have s7:Same H7 (upd H7 l2 (.lst [.ref a5,.ref D6])):=ao nl2;have e7:(upd H7 l2 (.lst [.ref a5,.ref D6])) l2=some (.lst [.ref a5,.ref D6]):=af;generalize upd H7 l2 (.lst [.ref a5,.ref D6])=H8 at *;refine⟨l,l2,_,_,rfl,rfl,s7 _ _ (b7 _ _ nlp (s5 _ _ eL)),e7,lt_size (by decide:6<=1000),fun l6 nl6=>?_⟩;have s8:Same H8 (upd H8 l6 (.lst ([.ref a1,.ref a2,.ref a3,.ref a4]++[.ref a5,.ref D6]))):=ao nl6;have e8:(upd H8 l6 (.lst ([.ref a1,.ref a2,.ref a3,.ref a4]++[.ref a5,.ref D6]))) l6=some (.lst ([.ref a1,.ref a2,.ref a3,.ref a4]++[.ref a5,.ref D6])):=af;generalize upd H8 l6 (.lst ([.ref a1,.ref a2,.ref a3,.ref a4]++[.ref a5,.ref D6]))=H9 at *;have dk8:=dk7.same s7;have dk9:=dk8.same s8;have nl6p:l6≠p:=dk8.ne nl6;have s79:=s7.trans s8;have b09:But p H H9:=((dG (s05.trans s5)).trans b7).trans (dG s79);have lift:∀ {v:V} {U:List Str},KindsAt H6 v U->KindsAt H9 v U:=fun k=>(k.but dk6 b7).same s79;have all:∀ v∈([.ref a1,.ref a2,.ref a3,.ref a4]++[.ref a5,.ref D6]:List V),∃ U,KindsAt H9 v U:=fun v hv=>by
   simp only [ahE,ag0,aeu,afb,ahx] at hv;rcases hv with e | e | e | e | e | e
   ·exact⟨_,e▸lift (k1'.same s5)⟩
   ·exact⟨_,e▸lift (k2'.same s5)⟩
   ·exact⟨_,e▸lift (k3'.same s5)⟩
   ·exact⟨_,e▸lift (k4'.same s5)⟩
   ·exact⟨_,e▸lift k5⟩
   ·exact⟨_,e▸k6.same s79⟩
  have l6l:([.ref a1,.ref a2,.ref a3,.ref a4]++[.ref a5,.ref D6]:List V).length=6:=rfl;generalize ([.ref a1,.ref a2,.ref a3,.ref a4]++[.ref a5,.ref D6]:List V)=menu at *;clear k1 k2 k3 k4 k1' k2' k3' k4' k5 k6;refine⟨_,rfl,_,rfl,p,6,rfl,dk9,by decide,by decide,fun r HA r0 r1 dkA bA=>?_⟩;obtain⟨j,rfl⟩:∃ j:Nat,r=(j:Int):=⟨r.toNat,by lia⟩;have hj:j < menu.length:=by lia
  obtain⟨U,kU⟩:=all _ (aeS hj);obtain⟨kl,ekl,hkl,neU,ulU,kkU⟩:=kU.but dk9 bA;refine⟨l6,menu,(j:Int),_,rfl,rfl,aAA (bA _ _ nl6p e8),bq (aeh hj),?_⟩;rw [ekl];refine⟨_,rfl,p,2,rfl,dkA,by decide,by decide,fun r2 HB r20 r21 dkB bB=>?_⟩;refine⟨_,rfl,p,4,rfl,dkB,by decide,by decide,fun r4 HC r40 r41 dkC bC=>?_⟩;refine⟨r2,r4,rfl,rfl,.inl ⟨by lia,by lia⟩,1,r2 * r4,rfl,rfl,?_⟩;have hL:1<=1+r2 * r4/\1+r2 * r4<=4:=by
   rcases (by lia:r2=0\/r2=1) with e | e
   ·subst e;lia
   ·subst e;lia
  generalize hLe:1+r2 * r4=L at *;have nklp:=rY dkA hkl neU;have hklC:=bC _ _ nklp (bB _ _ nklp hkl);have b0C:But p H HC:=((b09.trans bA).trans bB).trans bC;refine⟨aeM _,fun lr nlr=>?_⟩;have nlrp:lr≠p:=dkC.ne nlr;have sR:Same HC (upd HC lr (.lst [])):=ao nlr;have eR:(upd HC lr (.lst [])) lr=some (.lst []):=af;generalize upd HC lr (.lst [])=HD at *;refine⟨fun σ H'=>DhI p kl lr L n U HC n σ H',?_,?_⟩
  ·rintro σ HE ⟨vs,rs,x5,x6,rfl,hlr,hR,rl,rm,dkE,bE,hklE⟩;have hklp:kl≠p:=nklp;refine⟨_,rfl,p,160,rfl,dkE,by decide,by decide,fun r HF r0 r1 dkF bF=>⟨30,r,rfl,rfl,lt_size (by decide:8<=1000),fun l8 n8=>?_⟩⟩;obtain⟨k,rfl⟩:∃ k:Nat,r=(k:Int):=⟨r.toNat,by lia⟩;have sF:Same HF (upd HF l8 (.lst [.int 1,.int 2,.int 3,.int 1,.int 0,.int 2,.int 1,.int (30+(k:Int))])):=ao n8;have eF:(upd HF l8 (.lst [.int 1,.int 2,.int 3,.int 1,.int 0,.int 2,.int 1,.int (30+(k:Int))])) l8=some (.lst (([1,2,3,1,0,2,1,30+k]:List Nat).map fun n=>V.int ((n:Nat):Int))):=af;have n8p:l8≠p:=dkF.ne n8;show _;generalize upd HF l8 (.lst [.int 1,.int 2,.int 3,.int 1,.int 0,.int 2,.int 1,.int (30+(k:Int))])=HG at *;have dkG:=dkF.same sF;refine⟨_,rfl,p,8,rfl,dkG,by decide,by decide,fun r8 HH r80 r81 dkH bH=>?_⟩;obtain⟨m,hm,em⟩:=acH (xs:=[1,2,3,1,0,2,1,30+k]) r80 r81;refine⟨l8,_,r8,_,rfl,rfl,aAA (bH _ _ n8p eF),em,?_⟩;have hm1:m<=189:=by
    simp only [aeu,afb,ahx] at hm;lia
   have b1:But p HE HH:=(bF.trans (dG sF)).trans bH;refine⟨_,rfl,_,rfl,_,rfl,p,kl,m,U,rfl,dkH,by lia,b1 _ _ nklp hklE,neU,by lia,fun D ks HI nD eD kl' kin dkI bI=>?_⟩;refine⟨_,rfl,lt_size (by decide:2<=1000),fun T nT=>?_⟩;have sT:Same HI (upd HI T (.tup [.ref D,.ref lr])):=ao nT;have hl2:=sT _ _ (bI _ _ nlrp (b1 _ _ nlrp hlr));have hR2:RoomsAt HI vs rs:=((hR.same (fQ)).pool dkE b1).pool dkH bI;exact q (.ref T) (ks,rs) U _ ⟨T,D,lr,vs,rfl,af,sT _ _ eD,hl2,hR2.same sT⟩ ⟨kkU,ulU,kin,by show ks.length<=189;lia,rl,rm⟩ (dkI.same sT) (((b0C.trans bE).trans (b1.trans bI)).trans (dG sT))
  ·refine⟨_,rfl,(n:Int),rfl,by lia,by lia,?_⟩;rw [aeY];refine iy (fun i σ' H'=>DhI p kl lr L n U HC i σ' H') (.mk [] [] none none (by rw [← hLe];rfl) eR ⟨rfl,fun i v r e=>by simp at e⟩ rfl (fun _ h=>(nomatch h)) (dkC.same sR) (dG sR) (sR _ _ hklC)) ?_ (fun σ' H' z=>z);rintro i σ HE hi ⟨vs,rs,x5,x6,rfl,hlr,hR,rl,rm,dkE,bE,hklE⟩;have nklr:kl≠lr:=fun z=>by rw [z] at hklC;rw [hklC] at nlr;cases nlr
   refine⟨_,rfl,_,rfl,_,rfl,p,L,rfl,dkE,by lia,by lia,fun r HF r0 r1 dkF bF=>?_⟩;obtain⟨m,em⟩:∃ m:Nat,1+r=(m:Int):=⟨(1+r).toNat,by lia⟩;refine⟨1,r,rfl,rfl,_,rfl,p,kl,m,U,by show [V.ref p,V.int (1+r),V.ref kl]=_;rw [em],dkF,by lia,bF _ _ nklp hklE,neU,by lia,fun D1 ks1 HG nD1 eD1 kl1 kin1 dkG bG=>?_⟩;refine⟨D1,ks1,rfl,aAA eD1,by lia,fun ls ss nls perm so=>?_⟩;have sS:Same HG (upd HG ls (.lst (ss.map V.str))):=ao nls;have eS:(upd HG ls (.lst (ss.map V.str))) ls=some (.lst (ss.map V.str)):=af;have nlsp:ls≠p:=dkG.ne nls;generalize upd HG ls (.lst (ss.map V.str))=HH at *;have dkH:=dkG.same sS;have b1:But p HE HH:=(bF.trans bG).trans (dG sS);have hlrH:=b1 _ _ nlrp hlr;refine⟨_,rfl,.inl ⟨rfl,_,aAA hlrH⟩,_,rfl,_,rfl,lt_size (by decide:8<=1000),fun l8 n8=>?_⟩;have sF:Same HH (upd HH l8 (.lst [.int 0,.int 1,.int 1,.int 2,.int 2,.int 3,.int 1,.int 6])):=ao n8;have eF:(upd HH l8 (.lst [.int 0,.int 1,.int 1,.int 2,.int 2,.int 3,.int 1,.int 6])) l8=some (.lst (([0,1,1,2,2,3,1,6]:List Nat).map fun n=>V.int ((n:Nat):Int))):=af;have n8p:l8≠p:=dkH.ne n8;generalize upd HH l8 (.lst [.int 0,.int 1,.int 1,.int 2,.int 2,.int 3,.int 1,.int 6])=HI at *;have dkI:=dkH.same sF;refine⟨_,rfl,p,8,rfl,dkI,by decide,by decide,fun r8 HJ r80 r81 dkJ bJ=>?_⟩;obtain⟨m2,hm2,em2⟩:=acH (xs:=[0,1,1,2,2,3,1,6]) r80 r81;refine⟨l8,_,r8,_,rfl,rfl,aAA (bJ _ _ n8p eF),em2,?_⟩;have hm6:m2<=6:=by
    simp only [aeu,afb,ahx] at hm2;lia
   have b2:But p HE HJ:=(b1.trans (dG sF)).trans bJ;refine⟨_,rfl,p,kl,m2,U,rfl,dkJ,by lia,b2 _ _ nklp hklE,neU,by lia,fun D2 ks2 HK nD2 eD2 kl2 kin2 dkK bK=>⟨lt_size (by decide:2<=1000),fun T nT=>?_⟩⟩;have sT:Same HK (upd HK T (.tup [.ref ls,.ref D2])):=ao nT;have eT:(upd HK T (.tup [.ref ls,.ref D2])) T=some (.tup [.ref ls,.ref D2]):=af;generalize upd HK T (.tup [.ref ls,.ref D2])=HL at *;have b3:But p HE HL:=(b2.trans bK).trans (dG sT);have dkL:=dkK.same sT;have vl:vs.length=rs.length:=hR.1;have hlrL:=b3 _ _ nlrp hlr;refine⟨lr,vs,.ref T,rfl,rfl,hlrL,aeB (show vs.length < 1000 by lia) (lt_size (aep _)),?_⟩;have hlsL:HL ls=some (.lst (ss.map V.str)):=sT _ _ (bK _ _ nlsp (bJ _ _ nlsp (sF _ _ eS)));have hD2L:=sT _ _ eD2;have rmT:RoomAt (ck lr HL) (.ref T) (ss,ks2):=by
    refine⟨T,ls,D2,rfl,?_,?_,?_⟩
    ·unfold ck;rw [if_neg (fun z=>?_)]
     ·exact eT
     ·rw [z,hlrL] at eT;cases eT
    ·unfold ck;rw [if_neg (fun z=>?_)]
     ·exact hlsL
     ·rw [z] at nls;rw [(bF.trans bG) _ _ nlrp hlr] at nls;cases nls
    ·unfold ck;rw [if_neg (fun z=>?_)]
     ·exact hD2L
     ·rw [z] at nD2;rw [b2 _ _ nlrp hlr] at nD2;cases nD2
   have hR3:RoomsAt (ck lr HL) vs rs:=hR.pool (w9 dkE nlrp.symm.symm) (yL b3);refine .mk (vs++[.ref T]) (rs++[(ss,ks2)]) _ _ rfl af ?_ (by rw [aeo,rl];rfl) (fun x hx=>?_) ?_ ?_ ?_
   ·rw [mG];exact hR3.snocD rmT
   ·rcases aew.mp hx with h | h
    ·exact rm x h
    ·rw [aeq] at h;rw [h];refine⟨fun k hk=>kin1 k (perm.mem_iff.mp hk),?_,?_,dZ so,kin2,?_⟩
     ·show 1<=ss.length;rw [perm.length_eq];lia
     ·show ss.length<=4;rw [perm.length_eq];lia
     ·show ks2.length<=6;lia
   ·obtain⟨a,f',c,e⟩:=dkL;exact⟨a,f',c,by rw [ak (afO nlrp)];exact e⟩
   ·exact (bE.trans b3).new nlr
   ·rw [ak nklr];exact b3 _ _ nklp hklE
def aah:Sp:=fun vs H Q _=>∃ (v:V) (h:Hs) (k:Nat) (D:Addr) (y:HO),vs=[v,.int ((k:Nat):Int)]/\H D=some y/\HouseAt (ck D H) v h/\cm h/\k∈aZ h []/\∀ u H',Same H H'->HouseAt (ck D H') u (fb h k)->Q u H'
def yf:Sp:=fun vs H Q _=>∃ (v:V) (l:Addr) (h:Hs) (o:List Nat),vs=[v,.ref l]/\HouseAt H v h/\cm h/\vF h/\h.2.length<=12/\H l=some (.lst (aM o))/\¬ (cf h.1 h.2 o/\o.length=h.2.length)/\∀ H',Same H H'->Q (.bl true) H'
theorem RoomsAt.take {H:Hp}{vs:List V}{rs:List Rm}(x:RoomsAt H vs rs)(n:Nat):RoomsAt H (vs.take n) (rs.take n):=⟨by rw [aeK,aeK,x.1],fun i v r e1 e2=>by
 rw [af6] at e1 e2;split at e1
 ·rename_i h;rw [if_pos h] at e2;exact x.2 i v r e1 e2
 ·cases e1⟩
theorem RoomsAt.drop {H:Hp}{vs:List V}{rs:List Rm}(x:RoomsAt H vs rs)(n:Nat):RoomsAt H (vs.drop n) (rs.drop n):=⟨by rw [afs,afs,x.1],fun i v r e1 e2=>by
 rw [agY] at e1 e2;exact x.2 _ v r e1 e2⟩
theorem RoomsAt.app {H:Hp}{vs us:List V}{rs qs:List Rm}(x:RoomsAt H vs rs)(y:RoomsAt H us qs):RoomsAt H (vs++us) (rs++qs):=by
 refine⟨by rw [aeo,aeo,x.1,y.1],fun i v r e1 e2=>?_⟩;by_cases h:i < vs.length
 ·rw [aeQ h] at e1;rw [aeQ (by rw [← x.1];exact h)] at e2;exact x.2 i v r e1 e2
 ·rw [aeJ (by lia)] at e1;rw [aeJ (by rw [← x.1];lia),← x.1] at e2;exact y.2 _ v r e1 e2
inductive LlI (v:V)(hd:Addr)(h:Hs)(H:Hp)(k:Nat)(locks:List Str)(j:Nat)(σ:L2.St)(H':Hp):Prop
 | mk (x3:Option V):σ=[some v,some (.int ((k:Nat):Int)),some (.ref hd),x3]->H' hd=some (.lst (((locks.take j).foldl List.erase h.1).map V.str))->Same H H'->LlI v hd h H k locks j σ H'
theorem il:az ["house","k","hand","kind"] ["house","k"] (ai ir):=scM rfl rfl rfl rfl (by decide +kernel)
theorem cS:az ["house","order","caught","e"] ["house","order"] (ai dW):=scM rfl rfl rfl rfl (by decide +kernel)
theorem zt {f:Addr}{fd:FuncData}(F:Fun K "_law_left" "_law_left" ir f fd)(cF:mg "list" = none):FnOk P w K mg base CX0 1 f fd ["house","k"] aah:=by
 refine F.ok il (fun vs H Q E h=>?_) (fun cdv A outer s H vs Q E hr h=>?_)
 ·obtain⟨v,h,k,D,y,rfl,_⟩:=h
  rfl
 ·have hu:=eM hr;obtain⟨v,h,k,DD,yy,rfl,hDD,⟨t,a,r,us,rfl,ht,ha,hr',hRD⟩,ok,hk,q⟩:=h;refine⟨_,(ag (aw (i:=2) il.nd rfl (.inl rfl) (di hE rfl cF (by decide +kernel) (ae (aN bP (pv 0) aj (fun _ _=>rfl)) ah)))
   (ag (bz (cQ aeX rfl (aQ (aN bP (aN aS (aN bP (pv 0) aj (fun _ _=>rfl)) (pv 1) (fun _ _=>rfl)) aj (fun _ _=>rfl))) (au (i:=3) il.nd rfl (.inl rfl))
    (aq (dh (oP aeW aiv aiw qS (pv 2) (ae (pv 3) ah))))))
   (aq (aJ (m9 (ae (bj jU (pv 2) (aN bP (aN aS (aN bP (pv 0) aj (fun _ _=>rfl)) (pv 1) (fun _ _=>rfl)) aj (fun _ _=>rfl))) (ae (bj jU (kY oC (aN bP (pv 0) aj (fun _ _=>rfl)) r9 (l9 (pv 1))) (kY oC (aN bP (pv 0) aj (fun _ _=>rfl)) (l9 (bj fq (pv 1) aj)) r9)) ah))))))),?_⟩
  have ht:=fQ _ _ ht;have ha:=fQ _ _ ha;have hr':=fQ _ _ hr';have hR:=hRD.same fQ;have lim:1000000 < sizeLine:=by decide
  obtain⟨hkl,_,hmay⟩:=next_iffD.mp hk;have gd:(h.2[k]?).getD ([],[])=h.2[k]:=by rw [aeh hkl];rfl
  have hmay:iT h.1 h.2[k].1=true:=by
   have:rmD h.2 k=h.2[k]:=gd;rw [this] at hmay;exact hmay
  obtain⟨tt,aa,bb,eu,q1,q2,q3⟩:=jP hR hkl;refine⟨_,rfl,t,_,0,.ref a,rfl,rfl,aAB ht,rfl,a,_,rfl,.inl (aAA ha),fun hd nh=>?_⟩;have s0:Same H (upd H hd (.lst (h.1.map V.str))):=ao nh;refine⟨fun σ H'=>LlI (.ref t) hd h H k h.2[k].1 h.2[k].1.length σ H',?_,?_⟩
  ·rintro σ H1 ⟨x3,rfl,e1,s1⟩;rw [ae0] at e1;have ul:=hR.1;have rl:=ok.rl;refine⟨_,rfl,_,rfl,t,_,1,.ref r,rfl,rfl,aAB (s1 _ _ ht),rfl,_,rfl,r,us,_,.ref tt,rfl,rfl,aAA (s1 _ _ hr'),bq eu,tt,_,1,.ref bb,rfl,rfl,aAB (s1 _ _ q1),rfl,hd,bb,_,_,rfl,rfl,e1,s1 _ _ q3,?_,fun D nD=>?_⟩
   ·rw [aej,aej];have a1:=iI h.2[k].1 h.1;have a3:=(ok.rs _ (aeS hkl)).kl;have a4:=ok.kl;lia
   ·have eD:(upd H1 D (.lst ((h.2[k].1.foldl List.erase h.1).map V.str++h.2[k].2.map V.str))) D=some (.lst ((f7 h.1 h.2[k]).map V.str)):=by
     rw [af];unfold f7;rw [aeD]
    have s2:Same H1 (upd H1 D (.lst ((h.2[k].1.foldl List.erase h.1).map V.str++h.2[k].2.map V.str))):=ao nD;generalize upd H1 D (.lst ((h.2[k].1.foldl List.erase h.1).map V.str++h.2[k].2.map V.str))=H2 at *;have s12:=s1.trans s2;refine⟨_,rfl,t,_,1,.ref r,rfl,rfl,aAB (s12 _ _ ht),rfl,_,rfl,_,rfl,r,us,rfl,aAA (s12 _ _ hr'),fun p1 n1=>?_⟩;have e3:(upd H2 p1 (.lst (pF us none (some (k:Int))))) p1=some (.lst (us.take k)):=by rw [af,aan (by lia)]
    have s3:Same H2 (upd H2 p1 (.lst (pF us none (some (k:Int))))):=ao n1;generalize upd H2 p1 (.lst (pF us none (some (k:Int))))=H3 at *;have s13:=s12.trans s3;refine⟨_,rfl,t,_,1,.ref r,rfl,rfl,aAB (s13 _ _ ht),rfl,_,rfl,_,_,rfl,rfl,_,rfl,r,us,rfl,aAA (s13 _ _ hr'),fun p2 n2=>?_⟩;have ek:((k:Nat):Int)+1=((k+1:Nat):Int):=by lia
    have e4:(upd H3 p2 (.lst (pF us (some ((k:Int)+1)) none))) p2=some (.lst (us.drop (k+1))):=by rw [af,ek,zz (by lia)]
    have s4:Same H3 (upd H3 p2 (.lst (pF us (some ((k:Int)+1)) none))):=ao n2;generalize upd H3 p2 (.lst (pF us (some ((k:Int)+1)) none))=H4 at *;refine⟨p1,p2,us.take k,us.drop (k+1),rfl,rfl,s4 _ _ e3,e4,by rw [aeK,afs];lia,fun p3 n3=>?_⟩;have s5:Same H4 (upd H4 p3 (.lst (us.take k++us.drop (k+1)))):=ao n3;have e5:(upd H4 p3 (.lst (us.take k++us.drop (k+1)))) p3=some (.lst (us.take k++us.drop (k+1))):=af;generalize upd H4 p3 (.lst (us.take k++us.drop (k+1)))=H5 at *;refine⟨by show 2<=sizeLine;lia,fun T nT=>?_⟩;have s6:Same H5 (upd H5 T (.tup [.ref D,.ref p3])):=ao nT;have s26:=((s3.trans s4).trans s5).trans s6;have s16:=s12.trans s26;have off:∀ {b:Addr} {o:HO},(b=DD->False)->upd H5 T (.tup [.ref D,.ref p3]) b=some o->ck DD (upd H5 T (.tup [.ref D,.ref p3])) b=some o:=fun n e=>by
     unfold ck;rw [if_neg n];exact e
    refine q (.ref T) _ s16 ⟨T,D,p3,us.take k++us.drop (k+1),rfl,off (fun z=>?_) af,off (fun z=>?_) ?_,off (fun z=>?_) (s6 _ _ e5),?_⟩
    ·rw [z,(((s12.trans s3).trans s4).trans s5) _ _ hDD] at nT;cases nT
    ·rw [z,s1 _ _ hDD] at nD;cases nD
    ·rw [s26 _ _ eD];unfold fb;rw [gd]
    ·rw [z,((s12.trans s3).trans s4) _ _ hDD] at n3;cases n3
    ·have hR':=hRD.same (lK s16);exact (hR'.take k).app (hR'.drop (k+1))
  ·refine⟨_,rfl,t,_,1,.ref r,rfl,rfl,aAB (s0 _ _ ht),rfl,_,rfl,r,us,_,.ref tt,rfl,rfl,aAA (s0 _ _ hr'),bq eu,tt,_,0,.ref aa,rfl,rfl,aAB (s0 _ _ q1),rfl,aa,rfl,⟨_,aAA (s0 _ _ q2)⟩,?_⟩;refine dI (xs:=h.2[k].1.map V.str) (fun j σ' H'=>LlI (.ref t) hd h H k h.2[k].1 j σ' H') (.mk none rfl af s0) (fun j σ H' _ ⟨_,_,_,s⟩=>aAA (s _ _ q2)) ?_ (fun σ H' z=>by rw [aej] at z;exact z);rintro j x σ H2 hx ⟨x3,rfl,e2,s2⟩;have hj:=(aek.mp hx).1;rw [aej] at hj;rw [aer,aeh hj] at hx;cases hx;refine⟨_,rfl,.inl ⟨rfl,_,aAA e2⟩,_,rfl,hd,_,h.2[k].1[j],rfl,rfl,e2,aap hmay hj,?_⟩;refine .mk _ rfl ?_ (bU s2 nh);rw [af,aeT,aeh hj,ag8]
   rfl
theorem yT {f fN cO:Addr}{fd fdN:FuncData}{bmO:List Value}(F:Fun K "_law_no_order" "_law_no_order" dW f fd)(dB:FnOk P w K mg base (CXr P w) 8 fN fdN ["house","order"] (aa2 cO))(aH:Cal K mg "number_of_order" ["house","order"] fN fdN)(iz:mg "NoOrder" = some (.ref cO))(x_NoOrder:nK K cO bmO):FnOk P w K mg base CX0 9 f fd ["house","order"] yf:=by
 refine F.ok cS (fun vs H Q E h=>?_) (fun cdv A outer s H vs Q E hr h=>?_)
 ·obtain⟨v,l,h,o,rfl,_⟩:=h
  rfl
 ·have hu:=eM hr;obtain⟨v,l,h,o,rfl,hh,ok,few,l12,hl,no,q⟩:=h;refine⟨_,(ag (aw (i:=2) cS.nd rfl (.inl rfl) aaa)
   (ag (abM (i:=3) rfl rfl rfl iz x_NoOrder cS.nd rfl rfl
    (fun pins xe Eh hx=>aq (dh (yD (E:=Eh) dB hr rfl aH.mg aH.kp aH.b .nil (fun _ σ H s ev s' I h=>hx σ H s ev s' I.untried h) (ae (pv 0) (ae (pv 1) ah)))))
    (fun a=>aq (aw (i:=2) cS.nd rfl (.inl rfl) (pv 3))))
   (aq (aJ (eh aaK (pv 2) aaa (bM _)))))),?_⟩
  refine⟨_,rfl,_,rfl,v,h,l,o,rfl,hh,ok,few,l12,hl,fun g e=>absurd ⟨g,e⟩ no,fun _ H1 s1=>⟨⟨cO,bmO,rfl,x_NoOrder,by simp⟩,fun a na=>?_⟩⟩;have s2:Same H1 (upd H1 a (abB a (.ref cO))):=ao na;exact⟨_,rfl,_,rfl,rfl,q _ (s1.trans s2)⟩
def zl (c:Nat):Str:=("z" : Str)++(⟨#[c]⟩:Str)
def zs:List Str:=lettersS.cps.toList.map zl
theorem adu:zs.Nodup:=by decide +kernel
theorem aas:zs.length=26:=by decide +kernel
theorem adz:∀ k∈zs,du k:=rf (by decide +kernel)
def nmF (ev:List Str)(fr x:Str):Str:=((ev++[fr])[ev.idxOf x+1]?).getD ""
theorem zL {ev:List Str}{fr:Str}(nd:ev.Nodup){k:Nat}{x:Str}(e:ev[k]? = some x):(ev++[fr])[k+1]? = some (nmF ev fr x):=by
 obtain⟨hk,rfl⟩:=aek.mp e;unfold nmF;have i:ev.idxOf ev[k]=k:=nd.idxOf_getElem k hk;rw [i];have:k+1 < (ev++[fr]).length:=by rw [aeo,ae7];lia
 rw [aeh this]
 rfl
theorem acE {ev:List Str}{fr:Str}(nd:ev.Nodup){x:Str}(h:x∈ev):nmF ev fr x∈ev++[fr]:=by
 obtain⟨k,e⟩:=afx h;exact aey (zL nd e)
theorem ab4 {ev:List Str}{fr:Str}(nd:ev.Nodup)(nf:fr ∉ ev):∀ x∈ev,∀ y∈ev,nmF ev fr x=nmF ev fr y->x=y:=fun x hx y hy e=>by
 obtain⟨k,ek⟩:=afx hx;obtain⟨j,ej⟩:=afx hy;have a:=zL (fr:=fr) nd ek;have b:=zL (fr:=fr) nd ej;rw [e] at a;have nd2:(ev++[fr]).Nodup:=afK.mpr ⟨nd,by simp,fun p hp q hq z=>by rw [aeq] at hq;subst hq;exact nf (z▸hp)⟩;have:=(ahw (aek.mp a).1 nd2).mp (a.trans b.symm);have:k=j:=by lia
 subst this;exact afg (ek.symm.trans ej)
theorem uH {ev:List Str}(l:ev.length<=16):∃ fr r,(zs.filter fun z=>!decide (z∈ev))=fr::r:=by
 cases e:zs.filter fun z=>!decide (z∈ev) with
 | cons a r=>exact⟨a,r,rfl⟩
 | nil =>
  rw [ahr] at e;have:=cg adu (U:=ev) fun x hx=>by
   have:=e x hx;simpa using this
  rw [aas] at this;lia
theorem abp (k:Str)(ss:List Str):inV (.str k) (ss.map V.str)=decide (k∈ss):=by
 unfold inV;rw [afP,List.any_map,ahe,afD];constructor
 ·rintro⟨n,hn,e⟩;have e:eqV (.str n) (.str k)=true:=e;have:n=k:=by simpa [eqV] using e
  exact this▸hn
 ·intro h;refine⟨k,h,?_⟩;show eqV (.str k) (.str k)=true;simp [eqV]
def nmV (f:Str->Str):V->V
 | .str x=>.str (f x)
 | v=>v
theorem sh (f:Str->Str)(l:List Str):(l.map V.str).map (nmV f)=(l.map f).map V.str:=by
 rw [aeZ,aeZ]
 rfl
def uE:Sp:=fun vs H Q _=>∃ (v:V) (h:Hs) (U:List Str) (n:Nat),vs=[v]/\HouseAt H v h/\HsU U n h/\0 < n/\n<=12/\∀ (u:V) (h':Hs) (f:Str->Str) (W:List Str) (H':Hp),Same H H'->HouseAt H' u h'->cm h'->NamedH f W h h'->Q u H'
inductive NvI (v:V)(h:Hs)(H:Hp)(i:Nat)(σ:L2.St)(H':Hp):Prop
 | mk (e:Addr) (ev:List Str) (x2 x3:Option V):σ=[some v,some (.ref e),x2,x3,none,none,none,none,none]->H' e=some (.lst (ev.map V.str))->ev.length<=189->(0 < i->ev.Nodup)->(∀ x,x∈ev↔x∈h.1\/∃ r∈h.2.take i,x∈r.1\/x∈r.2)->Same H H'->NvI v h H i σ H'
inductive NdI (v:V)(e Dn:Addr)(ev:List Str)(fr:Str)(H:Hp)(i:Nat)(σ:L2.St)(H':Hp):Prop
 | mk (es:List (Key×V)) (x2 x3 x6 x7:Option V):σ=[some v,some (.ref e),x2,x3,some (.ref Dn),some (.str fr),x6,x7,none]->H' Dn=some (.dK es)->es.length<=i->(∀ j x,j < i->ev[j]? = some x->eV es (.inr x)=some (.str (nmF ev fr x)))->Same H H'->NdI v e Dn ev fr H i σ H'
inductive NrI (v:V)(e Dn lr:Addr)(f:Str->Str)(fr:Str)(h:Hs)(H:Hp)(i:Nat)(σ:L2.St)(H':Hp):Prop
 | mk (vs:List V) (rs:List Rm) (x2 x3 x6 x7:Option V):σ=[some v,some (.ref e),x2,x3,some (.ref Dn),some (.str fr),x6,x7,some (.ref lr)]->H' lr=some (.lst vs)->RoomsAt (ck lr H') vs rs->rs.length=i->(∀ r∈rs,xw r)->(∀ (j:Nat) r r',h.2[j]? = some r->rs[j]? = some r'->r'.1.Perm (r.1.map f)/\r'.2.Perm (r.2.map f))->Same H H'->NrI v e Dn lr f fr h H i σ H'
theorem aE:az ["house","every","locks","keys","names","fresh","k","kind","rooms"] ["house"] (ai bO):=scM rfl rfl rfl rfl (by decide +kernel)
theorem lJ:(["letter"]:List Str).Nodup:=by decide +kernel
theorem lB:(["name","every"]:List Str).Nodup:=by decide +kernel
theorem fm:(["kind","names"]:List Str).Nodup:=by decide +kernel
theorem wF {f:Addr}{fd:FuncData}(F:Fun K "_law_named" "_law_named" bO f fd)(aU:mg "sorted" = none)(aaQ:mg "set" = none)(aR:mg "enumerate" = none):FnOk P w K mg base CX0 1 f fd ["house"] uE:=by
 refine F.ok aE (fun vs H Q E h=>?_) (fun cdv A outer s H vs Q E hr h=>?_)
 ·obtain⟨v,h,U,n,rfl,_⟩:=h
  rfl
 ·have hu:=eM hr;obtain⟨v,h,U,n,rfl,⟨t,a,r,us,rfl,ht,ha,hr',hR⟩,hs,n0,n12,q⟩:=h;refine⟨_,(ag (aw (i:=1) aE.nd rfl (.inr rfl) (av kF rfl aU agP (ae (aN bP (pv 0) aj (fun _ _=>rfl)) ah)))
   (ag (bz (cQ aeX rfl (aQ (aN bP (pv 0) aj (fun _ _=>rfl))) (gW rfl (ay (au (i:=2) aE.nd rfl (.inl rfl)) (ay (au (i:=3) aE.nd rfl (.inl rfl)) cD)))
    (aq (aw (i:=1) aE.nd rfl (.inr rfl) (av (gZ rfl) rfl aU agP (ae (di (se rfl) rfl aaQ (by decide +kernel) (ae (bj jU (bj jU (pv 1) (pv 2)) (pv 3)) ah)) ah))))))
   (ag (aw (i:=4) aE.nd rfl (.inr rfl) (iV (tg:=.Name "letter" _) (outer:=ai (bO)) (N:=["house","every","locks","keys","names","fresh","k","kind","rooms"]) (N':=["letter"]) (nl:=1) (ix:=[]) rfl rfl rfl (aad cB)
    (fun _ _ _ _=>(au (i:=0) lJ rfl (.inl rfl) (.inr rfl))) (fun _ _ _ _=>cn)
    (fun _ _ _ _=>(bj nP cB (pv 0)))))
   (ag (aw (i:=5) aE.nd rfl (.inl rfl) (aN aS (iV (tg:=.Name "name" _) (outer:=ai (bO)) (N:=["house","every","locks","keys","names","fresh","k","kind","rooms"]) (N':=["name","every"]) (nl:=1) (ix:=[1]) rfl rfl rfl (aQ (pv 4))
    (fun _ _ _ _=>(au (i:=0) lB rfl (.inl rfl) (.inr rfl))) (fun _ _ _ _=>(jk (aT (o7 (K:=K) rfl) (pv 0) (pv 1) rfl)))
    (fun _ _ _ _=>(pv 0))) aj (fun _ _=>rfl)))
   (ag (aw (i:=4) aE.nd rfl (.inr rfl) kT)
   (ag (bz (cQ aeX rfl (pK rfl aR (ae (pv 1) ah)) (gW rfl (ay (au (i:=6) aE.nd rfl (.inl rfl)) (ay (au (i:=7) aE.nd rfl (.inl rfl)) cD)))
    (aq (j6 hu (pv 4) (pv 7) (aN aS (bj jU (pv 1) (dc (ae (pv 5) ah))) (bj fq (pv 6) aj) (fun _ _=>rfl)) rfl))))
   (ag (aw (i:=8) aE.nd rfl (.inl rfl) pY)
   (ag (bz (cQ aeX rfl (aQ (aN bP (pv 0) aj (fun _ _=>rfl))) (gW rfl (ay (au (i:=2) aE.nd rfl (.inl rfl)) (ay (au (i:=3) aE.nd rfl (.inl rfl)) cD)))
    (aq (dh (oP aeW afM afN dm (pv 8) (ae (m9 (ae (av kF rfl aU agP (ae (iV (tg:=.Name "kind" _) (outer:=ai (bO)) (N:=["house","every","locks","keys","names","fresh","k","kind","rooms"]) (N':=["kind","names"]) (nl:=1) (ix:=[4]) rfl rfl rfl (aQ (pv 2))
    (fun _ _ _ _=>(au (i:=0) fm rfl (.inl rfl) (.inr rfl))) (fun _ _ _ _=>cn)
    (fun _ _ _ _=>(cq (by exact hu) (pv 1) (pv 0) (fun _ _=>rfl)))) ah)) (ae (iV (tg:=.Name "kind" _) (outer:=ai (bO)) (N:=["house","every","locks","keys","names","fresh","k","kind","rooms"]) (N':=["kind","names"]) (nl:=1) (ix:=[4]) rfl rfl rfl (aQ (wj (pv 3) (yS uk aj)))
    (fun _ _ _ _=>(au (i:=0) fm rfl (.inl rfl) (.inr rfl))) (fun _ _ _ _=>cn)
    (fun _ _ _ _=>(cq (by exact hu) (pv 1) (pv 0) (fun _ _=>rfl)))) ah))) ah))))))
   (aq (aJ (m9 (ae (iV (tg:=.Name "kind" _) (outer:=ai (bO)) (N:=["house","every","locks","keys","names","fresh","k","kind","rooms"]) (N':=["kind","names"]) (nl:=1) (ix:=[4]) rfl rfl rfl (aQ (wj (aN bP (pv 0) aj (fun _ _=>rfl)) (yS uk aj)))
    (fun _ _ _ _=>(au (i:=0) fm rfl (.inl rfl) (.inr rfl))) (fun _ _ _ _=>cn)
    (fun _ _ _ _=>(cq (by exact hu) (pv 1) (pv 0) (fun _ _=>rfl)))) (ae (pv 8) ah))))))))))))),?_⟩
  have lim:1000000 < sizeLine:=by decide
  have sb:1000 < scanBound:=by decide
  have inU:∀ {x},(x∈h.1\/∃ r∈h.2,x∈r.1\/x∈r.2)->x∈U:=fun {x} hx=>by
   rcases hx with hx | ⟨r,hr,hx | hx⟩
   ·exact hs.bg x hx
   ·exact (hs.rm r hr).lk x hx
   ·exact (hs.rm r hr).wi x hx
  have bl:=hs.bl;refine⟨_,rfl,t,_,0,.ref a,rfl,rfl,aAB ht,rfl,a,h.1,rfl,aAA ha,by lia,fun e0 ev0 ne0 perm0 so0=>?_⟩;have s0:Same H (upd H e0 (.lst (ev0.map V.str))):=ao ne0;refine⟨fun σ H'=>NvI (.ref t) h H h.2.length σ H',?_,?_⟩
  ·rintro σ H1 ⟨e,ev,x2,x3,rfl,he,evl,nd,mem,s1⟩;have hl0:0 < h.2.length:=by rw [hs.rl];exact n0
   have nd:=nd hl0;rw [ae0] at mem;have ev16:ev.length<=16:=aeN (cg nd (U:=U) fun x hx=>inU ((mem x).mp hx)) hs.ul;have evk:∀ k∈ev,du k:=fun k hk=>hs.kk k (inU ((mem k).mp hk));clear perm0 so0 s0;dsimp only [zr,vE,cI];refine aK _ _ _ _ _ _ _ _ _ ?_;refine⟨_,rfl,fun Dz nDz=>?_⟩;refine uv (z:=lettersS) (fun i ys H'=>ys=(lettersS.cps.toList.take i).map (fun c=>V.str (zl c))/\H' Dz=some (.lst ys)/\Same H1 H') ⟨rfl,af,ao nDz⟩ (fun i ys H' ⟨_,e,_⟩=>e) ?_ ?_
   ·rintro i ys H' c ec ⟨rfl,eD,s2⟩;have ic:i < 26:=(afV.mp ec).1;refine dP rfl ?_;refine⟨_,rfl,"z",(⟨#[c]⟩:Str),rfl,rfl,by show 1+1<=sizeLine;lia,eD,?_,nx (by exact ic) ⟨?_,af,bU s2 nDz⟩⟩
    ·rw [aej,aeK];lia
    ·rw [aeT,show lettersS.cps.toList[i]? = some c by rw [← ae8] at ec;exact ec,aeD]
     rfl
   rintro ys H2 ⟨rfl,eDz,s2⟩;have eDz:H2 Dz=some (.lst (zs.map V.str)):=by
    rw [eDz,show (lettersS.cps.toList.take lettersS.cps.size)=lettersS.cps.toList from afm (aiN aeE)];unfold zs;rw [aeZ]
    rfl
   dsimp only [tOp];refine aK _ _ _ _ _ _ _ _ _ ?_;refine⟨_,rfl,Dz,rfl,⟨_,aAA eDz⟩,fun Df nDf=>?_⟩;obtain⟨fr,fz,efz⟩:=uH ev16;have frm:fr∈zs.filter fun z=>!decide (z∈ev):=by rw [efz];exact aev
   have frn:fr ∉ ev:=by
    have:=(afj.mp frm).2;simpa using this
   have frk:du fr:=adz fr (afj.mp frm).1;refine lY (F:=id) (pb:=fun x=>!inV x (ev.map V.str)) eDz nDf (by rw [aej,aas];decide) (fun x=>rfl) (fun G x R hx sG r0=>?_) (fun G x R hx _ sG r0=>⟨_,rfl,r0 G (Same.refl G)⟩) (fun G sG hG=>?_)
   ·obtain⟨z,hz,rfl⟩:=aeL.mp hx;exact⟨_,rfl,_,rfl,e,_,rfl,.inl (aAA ((s2.trans sG) _ _ he)),rfl,by rw [ag2,ae1];exact fun _ _=>rfl,_,rfl,r0 G (Same.refl G)⟩
   have hG':G Df=some (.lst ((fr::fz).map V.str)):=by
    rw [hG,ah0,ahY,← efz];rw [ag9 fun z _=>show ((fun x=>!inV x (ev.map V.str)) ∘ V.str) z=!decide (z∈ev) from by
     show (!inV (.str z) (ev.map V.str))=_;rw [abp]]
   refine⟨Df,_,0,.str fr,rfl,rfl,aAA hG',bq (j:=0) rfl,fun Dn nDn=>?_⟩;have sGn:Same G (upd G Dn (.dK [])):=ao nDn;have eDn:(upd G Dn (.dK [])) Dn=some (.dK []):=af;have sH:Same H G:=(s1.trans s2).trans sG;have nDnH:H Dn=none:=sH.free nDn;generalize upd G Dn (.dK [])=G1 at *;have heG:=(s2.trans sG) _ _ he;have nDe:Dn≠e:=fun z=>by rw [z] at nDn;rw [heG] at nDn;cases nDn
   refine⟨fun σ H'=>NdI (.ref t) e Dn ev fr G ev.length σ H',?_,?_⟩
   ·rintro σ H3 ⟨es,x2',x3',x6,x7,rfl,eD3,esl,val,s3⟩;have vf:∀ {x},x∈ev->eV es (.inr x)=some (.str (nmF ev fr x)):=fun {x} hx=>by
     obtain⟨j,ej⟩:=afx hx;exact val j x (aek.mp ej).1 ej
    have kf:∀ {x},x∈ev->du (nmF ev fr x):=fun {x} hx=>by
     rcases aew.mp (acE (fr:=fr) nd hx) with z | z
     ·exact evk _ z
     ·rw [aeq] at z;rw [z];exact frk
    have s03:=sH.trans s3;refine⟨aeM _,fun lr nlr=>?_⟩;have nlrH:H lr=none:=s03.free nlr;have sL:Same H3 (upd H3 lr (.lst [])):=ao nlr;refine⟨fun σ H'=>NrI (.ref t) e Dn lr (nmF ev fr) fr h H3 h.2.length σ H',?_,?_⟩
    ·rintro σ H4 ⟨vs,rs,y2,y3,y6,y7,rfl,elr,hR4,rl4,ok4,pm4,s4⟩;have s04:=s03.trans s4;dsimp only [aaY,adj,je,rT];refine aK _ _ _ _ _ _ _ _ _ ?_;refine⟨_,rfl,t,_,0,.ref a,rfl,rfl,aAB (s04 _ _ ht),rfl,1,rfl,rfl,a,_,rfl,aAA (s04 _ _ ha),fun pr npr=>⟨pr,rfl,⟨_,aAA af⟩,fun Dk nDk=>?_⟩⟩;have s5:Same H4 (upd H4 pr (.lst (h.1.map V.str).reverse)):=ao npr;have e5:(upd H4 pr (.lst (h.1.map V.str).reverse)) pr=some (.lst (h.1.reverse.map V.str)):=by rw [af,List.map_reverse]
     generalize upd H4 pr (.lst (h.1.map V.str).reverse)=H5 at *;refine jN (F:=nmV (nmF ev fr)) e5 nDk (by rw [aej,agO];lia) (fun x=>rfl) (fun G x R hx sG r0=>?_) fun G6 sG6 hG6=>?_
     ·obtain⟨z,hz,rfl⟩:=aeL.mp hx;have hz:=(mem z).mpr (.inl (ahI.mp hz));exact⟨_,rfl,_,rfl,Dn,_,rfl,gJ (k:=.inr z) (sG _ _ (s5 _ _ (s4 _ _ eD3))) (vf hz),r0 G (Same.refl G)⟩
     rw [sh] at hG6;refine⟨_,rfl,by show 2<=sizeLine;lia,fun T nT=>?_⟩;have s7:Same G6 (upd G6 T (.tup [.ref Dk,.ref lr])):=ao nT;have s47:=(s5.trans sG6).trans s7;refine q (.ref T) (h.1.reverse.map (nmF ev fr),rs) (nmF ev fr) ev _ (s04.trans s47) ⟨T,Dk,lr,vs,rfl,af,s7 _ _ hG6,s47 _ _ elr,(hR4.same fQ).same s47⟩ ⟨fun k hk=>?_,?_,ok4,?_⟩ ⟨ab4 nd frn,fun x hx=>(mem x).mpr (.inl hx),fun r hr x hx=>(mem x).mpr (.inr ⟨r,hr,.inl hx⟩),fun r hr x hx=>(mem x).mpr (.inr ⟨r,hr,.inr hx⟩),(List.reverse_perm _).map _,rl4,pm4⟩
     ·obtain⟨z,hz,rfl⟩:=aeL.mp hk;exact kf ((mem z).mpr (.inl (ahI.mp hz)))
     ·show (h.1.reverse.map _).length<=1000;rw [aej,agO];lia
     ·show rs.length<=1000;rw [rl4,hs.rl];lia
    ·refine⟨_,rfl,t,_,1,.ref r,rfl,rfl,aAB ((s03.trans sL) _ _ ht),rfl,r,rfl,⟨_,aAA ((s03.trans sL) _ _ hr')⟩,?_⟩;refine dI (xs:=us) (fun i σ' H'=>NrI (.ref t) e Dn lr (nmF ev fr) fr h H3 i σ' H') (.mk [] [] x2' x3' x6 x7 rfl af ⟨rfl,fun i v r e=>by simp at e⟩ rfl (fun _ h=>(nomatch h)) (fun j r r' _ e=>by simp at e) sL) (fun j σ H' _ ⟨_,_,_,_,_,_,_,_,_,_,_,_,s⟩=>aAA (s _ _ (s03 _ _ hr'))) ?_ (fun σ H' z=>by rw [hR.1] at z;exact z);rintro i x σ H4 hx ⟨vs,rs,y2,y3,y6,y7,rfl,elr,hR4,rl4,ok4,pm4,s4⟩;have hi:i < h.2.length:=by rw [← hR.1];exact (aek.mp hx).1
     obtain⟨tt,aa,bb,eu,q1,q2,q3⟩:=jP hR hi;rw [eu] at hx;cases hx;have him:=aeS hi;have ro:=hs.rm _ him;have r4:=ro.l4;have r6:=ro.w6;have s04:=s03.trans s4;have l12:=hs.rl;refine⟨tt,_,rfl,aAB (s04 _ _ q1),rfl,?_⟩;refine⟨_,_,rfl,_,_,rfl,rfl,?_⟩;dsimp only [abG,tBM,adj,je,rT,tCB];refine⟨_,rfl,.inl ⟨rfl,_,aAA elr⟩,?_⟩;refine aK _ _ _ _ _ _ _ _ _ ?_;refine⟨_,rfl,aa,rfl,⟨_,aAA (s04 _ _ q2)⟩,fun D1 nD1=>?_⟩;refine jN (F:=nmV (nmF ev fr)) (s04 _ _ q2) nD1 (by rw [aej];lia) (fun x=>rfl) (fun G x R hx sG r0=>?_) fun G5 sG5 hG5=>?_
     ·obtain⟨z,hz,rfl⟩:=aeL.mp hx;have hz:=(mem z).mpr (.inr ⟨_,him,.inl hz⟩);exact⟨_,rfl,_,rfl,Dn,_,rfl,gJ (k:=.inr z) (sG _ _ (s4 _ _ eD3)) (vf hz),r0 G (Same.refl G)⟩
     rw [sh] at hG5;refine⟨D1,_,rfl,aAA hG5,by rw [aej];lia,fun ls ss nls perm so=>?_⟩;have s6:Same G5 (upd G5 ls (.lst (ss.map V.str))):=ao nls;have e6:(upd G5 ls (.lst (ss.map V.str))) ls=some (.lst (ss.map V.str)):=af;generalize upd G5 ls (.lst (ss.map V.str))=H6 at *;have s46:=sG5.trans s6;refine aK _ _ _ _ _ _ _ _ _ ?_;refine⟨_,rfl,1,rfl,rfl,bb,_,rfl,aAA ((s04.trans s46) _ _ q3),fun pr npr=>⟨pr,rfl,⟨_,aAA af⟩,fun D2 nD2=>?_⟩⟩;have s7:Same H6 (upd H6 pr (.lst (h.2[i].2.map V.str).reverse)):=ao npr;have e7:(upd H6 pr (.lst (h.2[i].2.map V.str).reverse)) pr=some (.lst (h.2[i].2.reverse.map V.str)):=by rw [af,List.map_reverse]
     generalize upd H6 pr (.lst (h.2[i].2.map V.str).reverse)=H7 at *;have s47:=s46.trans s7;refine jN (F:=nmV (nmF ev fr)) e7 nD2 (by rw [aej,agO];lia) (fun x=>rfl) (fun G x R hx sG r0=>?_) fun G8 sG8 hG8=>?_
     ·obtain⟨z,hz,rfl⟩:=aeL.mp hx;have hz:=(mem z).mpr (.inr ⟨_,him,.inr (ahI.mp hz)⟩);exact⟨_,rfl,_,rfl,Dn,_,rfl,gJ (k:=.inr z) (sG _ _ (s47 _ _ (s4 _ _ eD3))) (vf hz),r0 G (Same.refl G)⟩
     rw [sh] at hG8;refine⟨by show 2<=sizeLine;lia,fun T nT=>?_⟩;have s9:Same G8 (upd G8 T (.tup [.ref ls,.ref D2])):=ao nT;have e9:(upd G8 T (.tup [.ref ls,.ref D2])) T=some (.tup [.ref ls,.ref D2]):=af;generalize upd G8 T (.tup [.ref ls,.ref D2])=H9 at *;have s49:=(s47.trans sG8).trans s9;have elr9:=s49 _ _ elr;refine⟨lr,vs,.ref T,rfl,rfl,elr9,by have:=hR4.1;lia,?_⟩;have els:=(s7.trans (sG8.trans s9)) _ _ e6;have eD2:=s9 _ _ hG8;have rmT:RoomAt (ck lr H9) (.ref T) (ss,h.2[i].2.reverse.map (nmF ev fr)):=by
      refine⟨T,ls,D2,rfl,?_,?_,?_⟩
      ·unfold ck;rw [if_neg (fun z=>?_)]
       ·exact e9
       ·rw [z,elr9] at e9;cases e9
      ·unfold ck;rw [if_neg (fun z=>?_)]
       ·exact els
       ·rw [z,sG5 _ _ elr] at nls;cases nls
      ·unfold ck;rw [if_neg (fun z=>?_)]
       ·exact eD2
       ·rw [z,s47 _ _ elr] at nD2;cases nD2
     have hR9:RoomsAt (ck lr H9) vs rs:=hR4.same (lK s49);refine .mk (vs++[.ref T]) (rs++[(ss,h.2[i].2.reverse.map (nmF ev fr))]) _ _ _ _ rfl af (by rw [mG];exact hR9.snocD rmT) (by rw [aeo,rl4];rfl) (fun x hx=>?_) (fun j r r' e1 e2=>?_) (bU (s4.trans s49) nlr)
     ·rcases aew.mp hx with hx | hx
      ·exact ok4 x hx
      ·rw [aeq] at hx;subst hx;refine⟨fun k hk=>?_,?_,?_,dZ so,fun k hk=>?_,?_⟩
       ·obtain⟨z,hz,rfl⟩:=aeL.mp (perm.mem_iff.mp hk);exact kf ((mem z).mpr (.inr ⟨_,him,.inl hz⟩))
       ·show 1<=ss.length;rw [perm.length_eq,aej];exact ro.l1
       ·show ss.length<=4;rw [perm.length_eq,aej];exact r4
       ·obtain⟨z,hz,rfl⟩:=aeL.mp hk;exact kf ((mem z).mpr (.inr ⟨_,him,.inr (ahI.mp hz)⟩))
       ·show (h.2[i].2.reverse.map _).length<=1000;rw [aej,agO];lia
     ·by_cases hj:j < rs.length
      ·rw [aeQ hj] at e2;exact pm4 j r r' e1 e2
      ·have:=(aek.mp e2).1;rw [aeo,ae7] at this;have ej:j=i:=by lia
       subst ej;rw [aeJ (by lia),rl4,ahg] at e2;cases e2;rw [aeh hi] at e1;cases e1;exact⟨perm,(List.reverse_perm _).map _⟩
   ·refine⟨_,rfl,e,rfl,⟨_,aAA (sGn _ _ heG)⟩,?_⟩;refine ue (xs:=ev.map V.str) (fun i σ' H'=>NdI (.ref t) e Dn ev fr G i σ' H') (.mk [] x2 x3 none none rfl eDn (aeM _) (fun j x hj _=>absurd hj (by lia)) sGn) (fun i σ H' _ ⟨_,_,_,_,_,_,_,_,_,s⟩=>aAA (s _ _ heG)) ?_ (fun σ H' z=>by rw [aej] at z;exact z);rintro i x σ H3 T hx ⟨es,x2',x3',x6,x7,rfl,eD3,esl,val,s3⟩ nT;obtain⟨z,ez,rfl⟩:∃ z,ev[i]? = some z/\x=.str z:=by
     rw [aer] at hx;cases hq:ev[i]? with
     | none=>rw [hq] at hx;cases hx
     | some n=>rw [hq] at hx;cases hx;exact⟨n,rfl,rfl⟩
    have hi:=(aek.mp ez).1;have s4:Same H3 (upd H3 T (.tup [.int (i:Int),.str z])):=ao nT;refine⟨T,_,rfl,aAB af,rfl,?_⟩;generalize upd H3 T (.tup [.int (i:Int),.str z])=H4 at *;refine⟨_,_,rfl,_,_,rfl,rfl,?_⟩;refine⟨_,rfl,_,rfl,by show 1<=sizeLine;lia,fun l1 n1=>?_⟩;have s5:Same H4 (upd H4 l1 (.lst [.str fr])):=ao n1;refine⟨e,l1,_,_,rfl,rfl,s5 _ _ (s4 _ _ (s3 _ _ heG)),af,by rw [aej];show _+1<=_;lia,fun l2 n2=>?_⟩;have s6:Same (upd H4 l1 (.lst [.str fr])) (upd (upd H4 l1 (.lst [.str fr])) l2 (.lst (ev.map V.str++[.str fr]))):=ao n2;have e6:(upd (upd H4 l1 (.lst [.str fr])) l2 (.lst (ev.map V.str++[.str fr]))) l2=some (.lst ((ev++[fr]).map V.str)):=by rw [af,aeD];rfl
    have s46:=s4.trans (s5.trans s6);generalize upd (upd H4 l1 (.lst [.str fr])) l2 (.lst (ev.map V.str++[.str fr]))=H5 at *;refine⟨_,rfl,_,_,rfl,rfl,l2,_,_,.str (nmF ev fr z),rfl,rfl,aAA e6,?_,_,rfl,_,rfl,Dn,_,rfl,.k (k:=.inr z) (s46 _ _ eD3) (by lia),?_⟩
    ·rw [show ((i:Nat):Int)+1=((i+1:Nat):Int) by lia];exact bq (by rw [aer,zL nd ez];rfl)
    ·refine .mk _ _ _ _ _ rfl af ?_ (fun j x hj ej=>?_) (bU (s3.trans s46) nDn)
     ·have:=dF es (.inr z) (V.str (nmF ev fr z));lia
     ·rw [fV];by_cases eq:j=i
      ·subst eq;rw [ez] at ej;cases ej;rw [if_pos rfl]
      ·rw [if_neg (fun q=>eq ?_)]
       ·exact val j x (by lia) ej
       ·injection q with q
        subst q;exact (ahw (aek.mp ej).1 nd).mp (ej.trans ez.symm)
  ·refine⟨_,rfl,t,_,1,.ref r,rfl,rfl,aAB (s0 _ _ ht),rfl,r,rfl,⟨_,aAA (s0 _ _ hr')⟩,?_⟩;refine dI (xs:=us) (fun i σ' H'=>NvI (.ref t) h H i σ' H') (.mk e0 ev0 none none rfl af (by rw [perm0.length_eq];lia) (fun z=>absurd z (by lia)) (fun x=>by rw [perm0.mem_iff];simp) s0) (fun j σ H' _ ⟨_,_,_,_,_,_,_,_,_,s⟩=>aAA (s _ _ hr')) ?_ (fun σ H' z=>by rw [hR.1] at z;exact z);rintro i x σ H1 hx ⟨e,ev,x2,x3,rfl,he,evl,nd,mem,s1⟩;have hi:i < h.2.length:=by rw [← hR.1];exact (aek.mp hx).1
   obtain⟨tt,aa,bb,eu,q1,q2,q3⟩:=jP hR hi;rw [eu] at hx;cases hx;have ro:=hs.rm _ (aeS hi);have r4:=ro.l4;have r6:=ro.w6;refine⟨tt,_,rfl,aAB (s1 _ _ q1),rfl,?_⟩;refine⟨_,_,rfl,_,_,rfl,rfl,?_⟩;refine⟨_,rfl,_,rfl,e,aa,_,_,rfl,rfl,he,s1 _ _ q2,by rw [aej,aej];lia,fun l1 n1=>?_⟩;have s2:Same H1 (upd H1 l1 (.lst (ev.map V.str++h.2[i].1.map V.str))):=ao n1;refine⟨_,rfl,l1,bb,_,_,rfl,rfl,af,s2 _ _ (s1 _ _ q3),by rw [aeo,aej,aej,aej];lia,fun l2 n2=>?_⟩;have s3:Same (upd H1 l1 (.lst (ev.map V.str++h.2[i].1.map V.str))) (upd (upd H1 l1 (.lst (ev.map V.str++h.2[i].1.map V.str))) l2 (.lst (ev.map V.str++h.2[i].1.map V.str++h.2[i].2.map V.str))):=ao n2;have e3:(upd (upd H1 l1 (.lst (ev.map V.str++h.2[i].1.map V.str))) l2 (.lst (ev.map V.str++h.2[i].1.map V.str++h.2[i].2.map V.str))) l2=some (.lst ((ev++h.2[i].1++h.2[i].2).map V.str)):=by rw [af,aeD,aeD]
   generalize upd (upd H1 l1 (.lst (ev.map V.str++h.2[i].1.map V.str))) l2 (.lst (ev.map V.str++h.2[i].1.map V.str++h.2[i].2.map V.str))=H2 at *;refine⟨l2,_,rfl,aAA e3,by rw [aeo,aeo];lia,fun sa ts nsa st=>?_⟩;have tU:∀ x∈ts,x∈U:=fun x hx=>by
    have:=(st.2 x).mp hx;rw [aew,aew,mem x] at this;rcases this with ((z | ⟨r,hr,z⟩) | z) | z
    ·exact inU (.inl z)
    ·exact inU (.inr ⟨r,afo hr,z⟩)
    ·exact inU (.inr ⟨_,aeS hi,.inl z⟩)
    ·exact inU (.inr ⟨_,aeS hi,.inr z⟩)
   have tl:ts.length<=16:=aeN (cg st.1 tU) hs.ul;refine⟨sa,ts,rfl,af,by lia,fun l3 ss n3 perm so=>?_⟩;refine .mk l3 ss _ _ rfl af (by rw [perm.length_eq];lia) (fun _=>perm.nodup_iff.mpr st.1) (fun x=>?_) (((s1.trans s2).trans s3).trans ((ao nsa).trans (ao n3)));rw [perm.mem_iff,st.2 x,aew,aew,mem x,aeT,aeh hi];simp only [aew,Option.toList,aeq];constructor
   ·rintro (((z | ⟨r,hr,z⟩) | z) | z)
    ·exact .inl z
    ·exact .inr ⟨r,.inl hr,z⟩
    ·exact .inr ⟨_,.inr rfl,.inl z⟩
    ·exact .inr ⟨_,.inr rfl,.inr z⟩
   ·rintro (z | ⟨r,hr | rfl,z⟩)
    ·exact .inl (.inl (.inl z))
    ·exact .inl (.inl (.inr ⟨r,hr,z⟩))
    ·rcases z with z | z
     ·exact .inl (.inr z)
     ·exact .inr z
end
end K7
namespace LL
open PySem PySem.SeqAt PySem.W PyProof.Rows
open AutoSeq1 (wpAny_loadPart')
open MeetsSeq MeetsSeq2 MeetsSeq3
def wO (A:Around)(s:Shared)(y x:Value)(b:Bool):Prop :=
 ∀ (prog:Program) (w:World) (E:Value->Shared->Prop) (Q:Value->Shared->Prop),Q (.bool b) s->wpAny (model prog w) A (richCompare .Lt y x) Q E s
def aab (m n:Nat)(e f:Nat->Bool):Nat->Nat->Bool
 | 0,_=>decide (m < n)
 | k+1,i=>if e i=true then aab m n e f k (i+1) else f i
theorem xV (l b:Addr)(items items2:Array Value)(n n2:Nat)(dd dd2:Option Addr)(sl sl2:Array (Option Value))(e f:Nat->Bool)(k:Nat) :
 ∀ i:Nat,min items.size items2.size - i=k->Meets (Builtin.«list.__eq__.loop» ⟨[.ref l,.ref b,rawInt i,rawInt 0],[]⟩)
  (fun A R s=>s.heap.get? l=some { cls:=.type "list",dict:=dd,data:=.seq items n,slots:=sl }/\s.heap.get? b=some { cls:=.type "list",dict:=dd2,data:=.seq items2 n2,slots:=sl2 } ∧
   (∀ j (h1:j < items.size) (h2:j < items2.size),EqAt A.in1 s items[j] items2[j] (e j))/\(∀ j (h1:j < items.size) (h2:j < items2.size),e j=false->wO A.in1 s items[j] items2[j] (f j)) ∧
   R (.ok (.ret (.bool (aab items.size items2.size e f k i)))) s):=by
 induction k with
 | zero =>
  intro i hk prog w A R s h;obtain⟨hp,g,d,tk,os⟩:=s;obtain⟨hl,hb,he,hf,h⟩:=h
  wp_walk using afk hl,afk hb
  have hz:items[((i:Nat):Int).toNat]? = none\/items2[((i:Nat):Int).toNat]? = none:=by
   rcases Nat.lt_or_ge i items.size with h1 | h1
   ·right;simp;lia
   ·left;simp;lia
  have go:R (.ok (.ret (.bool (decide (items.size < items2.size))))) ⟨hp,g,d,tk,os⟩:=h;cases e1:items[((i:Nat):Int).toNat]? with
  | none =>
   wp_walk using afk hl,afk hb
   exact go
  | some x =>
   cases e2:items2[((i:Nat):Int).toNat]? with
   | none =>
    wp_walk using afk hl,afk hb
    exact go
   | some y =>
    rcases hz with z | z
    ·rw [e1] at z;cases z
    ·rw [e2] at z;cases z
 | succ k ih =>
  intro i hk prog w A R s h;obtain⟨hp,g,d,tk,os⟩:=s;obtain⟨hl,hb,he,hf,h⟩:=h
  wp_walk using afk hl,afk hb
  have hlt:i < items.size:=by lia
  have hlt2:i < items2.size:=by lia
  have hi1:items[((i:Nat):Int).toNat]? = some items[i]:=by simp [hlt]
  have hi2:items2[((i:Nat):Int).toNat]? = some items2[i]:=by simp [hlt2]
  have hc:((i:Int)+1)=((i+1:Nat):Int):=by push_cast;rfl
  rw [hi1,hi2];refine aei (he i hlt hlt2 prog w _ _ ?_);unfold aab at h;cases hb':e i with
  | true =>
   rw [hb',if_pos rfl] at h
   wp_walk
   rw [hc];exact⟨ag5 plain_eq_loop _,agi entry_eq_loop (by
    rw [afS plain_eq_loop _];exact ih (i+1) (by lia) prog w A R _ ⟨hl,hb,he,hf,h⟩)⟩
  | false =>
   rw [hb',if_neg aem] at h
   wp_walk using afk hl,afk hb
   rw [hi1,hi2];refine aei (hf i hlt hlt2 hb' prog w _ _ ?_)
   wp_walk
   exact h
theorem xP (l b:Addr)(items items2:Array Value)(n n2:Nat)(dd dd2:Option Addr)(sl sl2:Array (Option Value))(e f:Nat->Bool) :
 Meets (Builtin.«list.__lt__» ⟨[.ref l,.ref b],[]⟩)
  (fun A R s=>s.heap.get? l=some { cls:=.type "list",dict:=dd,data:=.seq items n,slots:=sl }/\s.heap.get? b=some { cls:=.type "list",dict:=dd2,data:=.seq items2 n2,slots:=sl2 } ∧
   (∀ j (h1:j < items.size) (h2:j < items2.size),EqAt A.in1 s items[j] items2[j] (e j))/\(∀ j (h1:j < items.size) (h2:j < items2.size),e j=false->wO A.in1 s items[j] items2[j] (f j)) ∧
   R (.ok (.ret (.bool (aab items.size items2.size e f (min items.size items2.size) 0)))) s):=by
 intro prog w A R s h;obtain⟨hp,g,d,tk,os⟩:=s;obtain⟨hl,hb,he,hf,h⟩:=h;have f3:=AutoSeq1.sub_list_list
 wp_walk using afk hl,afk hb
 exact⟨ag5 plain_eq_loop _,agi entry_eq_loop (by
  rw [afS plain_eq_loop _];exact xV l b items items2 n n2 dd dd2 sl sl2 e f _ 0 (by lia) prog w A R _ ⟨hl,hb,he,hf,h⟩)⟩
section
variable {prog:Program}{w:World}{A:Around}{E:Value->Shared->Prop}{s:Shared}
theorem keyLt_lists {l b:Addr}{items items2:Array Value}{e f:Nat->Bool}{Q:Bool->Shared->Prop}(hl:s.heap.IsList l items)(hb:s.heap.IsList b items2)(hu:A.units < cLine)
 (he:∀ j (h1:j < items.size) (h2:j < items2.size),EqAt A.in1 s items[j] items2[j] (e j))(hf:∀ j (h1:j < items.size) (h2:j < items2.size),e j=false->wO A.in1 s items[j] items2[j] (f j))
 (h:Q (aab items.size items2.size e f (min items.size items2.size) 0) s):wpAny (model prog w) A (keyLt' oneType' (.ref l) (.ref b)) Q E s:=by
 obtain⟨⟨cls,dd,data,sl⟩,ho,hc,n,hd⟩:=id hl;obtain⟨⟨cls2,dd2,data2,sl2⟩,ho2,hc2,n2,hd2⟩:=id hb;simp only at hc hd hc2 hd2;subst hc hd hc2 hd2;rw [keyLt'_oneType,oneLt'_eq];simp only [aht];refine aei (wpAny_cRoomFor hu ?_);refine aei (wpAny_callSpecialIfBound?_slot ⟨_,ho,rfl⟩ F.slot_list_lt (aim F.slot_list_lt ⟨_,ho,rfl⟩ F.entry_list_lt (F.args_list_lt_2 _ _) (xP l b items items2 n n2 dd dd2 sl sl2 e f) ⟨ho,ho2,he,hf,?_⟩));exact afu h
theorem mZ {cmp:Nat->Nat->(Bool->Shared->Prop)->Shared->Prop}{p:Array Nat}{G:Nat->Shared->Prop}:∀ (f n:Nat),(∀ k,n<=k->k < n+f->∀ C:Bool->Shared->Prop,C false s->cmp (p.getD k 0) (p.getD (k - 1) 0) C s)->G (n+f) s->(kas_asc p f n).kasWp cmp G s
 | 0,n,_,g=>g
 | f+1,n,h,g=>h n (aep _) (by lia) _ (by
  show KasT.kasWp cmp (if false=true then .ret n else kas_asc p f (n+1)) G s;rw [if_neg aem];exact mZ f (n+1) (fun k a b=>h k (by lia) (by lia)) (by rw [show n+1+f=n+(f+1) by lia];exact g))
theorem qm {cmp:Nat->Nat->(Bool->Shared->Prop)->Shared->Prop}{G:Array Nat->Shared->Prop}{n:Nat}(h1:1<=n)(h:∀ k,1<=k->k < n->∀ C:Bool->Shared->Prop,C false s->cmp k (k - 1) C s)(g:G (List.toArray (List.range n)) s):(kas_sort n).kasWp cmp G s:=by
 have gd:∀ k,k < n->(List.toArray (List.range n)).getD k 0=k:=fun k hk=>by
  have:k < (List.toArray (List.range n)).size:=by simp;exact hk
  simp [Array.getD,hk]
 unfold kas_sort kas_count;rw [KasT.kasWp_bind,KasT.kasWp_bind];refine mZ (n - 1) 1 (fun k a b C c=>?_) ?_
 ·rw [gd k (by lia),gd (k - 1) (by lia)];exact h k a (by lia) C c
 ·rw [show 1+(n - 1)=n by lia,if_pos (by simp)];show KasT.kasWp cmp (if n < n then _ else .ret (List.toArray (List.range n))) G s;rw [if_neg (by lia)];exact g
theorem zR {a:Addr}{vs:List Value}{n:Nat}{R:PySem.Fin->Shared->Prop}(ho:s.heap.get? a=some (seqObj "list" vs.toArray n))(h2:2<=vs.length)(h64:vs.length < 64)
 (hT:∀ v∈vs,∃ b,v=.ref b/\b≠a/\∃ o,s.heap.get? b=some o/\o.cls=.type "list")
 (hlt:∀ s':Shared,(∀ b o,b≠a->s.heap.get? b=some o->s'.heap.get? b=some o)->∀ k,1<=k->k < vs.length->∀ C:Bool->Shared->Prop,C false s'->wpAny (model prog w) A (keyLt' oneType' (vs.getD k .none) (vs.getD (k - 1) .none)) C (fun _ _=>False) s')
 (h:R (.done (.ret .none)) { s with heap:=sortedHeap s.heap a vs vs.toArray }):wpAny (model prog w) A (Builtin.«list.sort» ⟨[.ref a],[]⟩) R E s:=by
 have la:a < s.heap.objs.size:=aes ho;have sv:vs.toArray.size=vs.length:=aeH ..;obtain⟨e1,he1⟩:∃ e,(s.heap.update a (Obj.mapSeq fun _=>#[])).get? a=some (seqObj "list" #[] e):=⟨_,get?_update_seq ho (fun _=>#[])⟩;have he2:(((s.heap.update a (Obj.mapSeq fun _=>#[])).push (seqObj "tuple" vs.toArray 0)).push (seqObj "list" #[] 0)).get? a=some (seqObj "list" #[] e1):=by
  rw [agE _ _ _ (by rw [aiq,agq];exact aeA (aeB la (afh _))),agE _ _ _ (by rw [agq];exact aeA la)];exact he1
 have keep:∀ b o,b≠a->s.heap.get? b=some o->(((s.heap.update a (Obj.mapSeq fun _=>#[])).push (seqObj "tuple" vs.toArray 0)).push (seqObj "list" #[] 0)).get? b=some o:=fun b o nb e=>by
  refine ael _ (ael _ ?_);rw [Heap.get?_update_ne _ _ _ _ nb];exact e
 rw [list_sort_plain];refine aei (listItems_at ho rfl (aei (ahp ho rfl ?_ (by rw [sv,af7];lia) (aeM _))));refine aei (ahW he1 rfl (aei (wpAny_newTuple (aei (ag6 (afd ?_) (aeM _))) (by show vs.length<=_;rw [af7];lia))));have nb:¬ vs.toArray.size < 2:=by rw [sv];lia
 show wpAny (model prog w) A _ R E { s with heap:=((s.heap.update a (Obj.mapSeq fun _=>#[])).push (seqObj "tuple" vs.toArray 0)).push (seqObj "list" #[] 0) };dsimp only;rw [if_neg nb,if_neg nb];refine aei (kas_kind h2 (T:=.type "list") (fun v hv=>?_) (by decide +kernel) (by decide +kernel) ?_)
 ·obtain⟨b,rfl,nb,o,hb,hc⟩:=hT v hv;exact kitAt_ty _ _ ⟨o,keep _ _ nb hb,hc⟩
 have est:SortSt.mk' oneType' (vs.toArray.zip vs.toArray) #[] 7 none=kas_st oneType' (pairsOf vs) (List.toArray (List.range vs.length)):=by
  have e:=kas_range (pairsOf vs);rw [pairsOf_size] at e;show SortSt.mk' oneType' (pairsOf vs) #[] 7 none=SortSt.mk' oneType' ((List.toArray (List.range vs.length)).map (kas_item (pairsOf vs))) #[] 7 none;rw [e]
 have ask:(kas_sort vs.length).kasWp (kas_ask prog w A oneType' vs) (fun p s'=>p=List.toArray (List.range vs.length)/\s'={ s with heap:=((s.heap.update a (Obj.mapSeq fun _=>#[])).push (seqObj "tuple" vs.toArray 0)).push (seqObj "list" #[] 0) }) { s with heap:=((s.heap.update a (Obj.mapSeq fun _=>#[])).push (seqObj "tuple" vs.toArray 0)).push (seqObj "list" #[] 0) } :=
  qm (by lia) (fun k a b C c=>hlt _ keep k a b C c) ⟨rfl,rfl⟩
 rw [kas_ask_eq] at ask;have run:=kas_runs (E:=E) (Q:=fun _ st' s'=>arrOf st'=(List.toArray (List.range vs.length)).map (kas_item (pairsOf vs))/\failedOf st'=none/\s'={ s with heap:=((s.heap.update a (Obj.mapSeq fun _=>#[])).push (seqObj "tuple" vs.toArray 0)).push (seqObj "list" #[] 0) })
  h2 h64 (fun p' st' s' a1 a2 a3 a4=>by obtain⟨q1,q2⟩:=a4;subst q1;exact⟨a2,a3,q2⟩) ask
 rw [← est] at run;refine aei (aeV run ?_ fun _ _ e=>e);rintro⟨⟨⟩,st'⟩ s' ⟨har,hf,rfl⟩;dsimp only;have hout:(arrOf st').map (·.2)=vs.toArray:=by
  have e:=kas_range (pairsOf vs);rw [pairsOf_size] at e;rw [har,e];apply Array.ext_getElem?;intro i;simp only [pairsOf,Array.getElem?_map];by_cases hi:i < vs.length
  ·simp [hi]
  ·simp [ahD hi]
 rw [hout];refine aei (ahW he2 rfl (aei (ahp he2 rfl ?_ (aeM _) (by rw [sv,af7];lia))));rw [hf];simp only [agf,ae4,agJ];exact aen h
theorem sorted_asc {l:Addr}{vs:List Value}{Q:Value->Shared->Prop}(hl:s.heap.IsList l vs.toArray)(h2:2<=vs.length)(h64:vs.length < 64)
 (hT:∀ v∈vs,∃ b,v=.ref b/\∃ o,s.heap.get? b=some o/\o.cls=.type "list")
 (hlt:∀ s':Shared,(∀ b o,s.heap.get? b=some o->s'.heap.get? b=some o)->∀ k,1<=k->k < vs.length->∀ C:Bool->Shared->Prop,C false s'->wpAny (model prog w) A.in1.in1 (keyLt' oneType' (vs.getD k .none) (vs.getD (k - 1) .none)) C (fun _ _=>False) s')
 (h:Q (.ref (s.heap.objs.size+1)) { s with heap:=sortedAll s.heap vs vs.toArray }):wpAny (model prog w) A (call (.builtin "sorted") [.ref l]) Q E s:=by
 refine agu kind_sorted plain_sorted entry_sorted (args_sorted1 _) ?_;have s1:((s.heap.push (seqObj "list" #[] 0)).update s.heap.objs.size (Obj.mapSeq (·++vs.toArray))).objs.size=s.heap.objs.size+1:=by
  rw [agq,aiq]
 have g1:(((s.heap.push (seqObj "list" #[] 0)).update s.heap.objs.size (Obj.mapSeq (·++vs.toArray))).push (seqObj "list" vs.toArray 0)).get? (s.heap.objs.size+1)=some (seqObj "list" vs.toArray 0):=by
  rw [← s1];exact aeF _ rfl
 have keep:∀ b o,s.heap.get? b=some o->(((s.heap.push (seqObj "list" #[] 0)).update s.heap.objs.size (Obj.mapSeq (·++vs.toArray))).push (seqObj "list" vs.toArray 0)).get? b=some o:=fun b o q=>by
  have hlt:b < s.heap.objs.size:=aes q;rw [agE _ _ _ (by rw [s1];exact aeA (aff hlt)),Heap.get?_update_ne _ _ _ _ (aeA hlt),agE _ _ _ (aeA hlt)];exact q
 unfold Builtin.«sorted»;refine aei (m:=checkCount "sorted" 1 1 _) (aen (aei (collect_list hl (aei (ag6 ?_ (by rw [af7];lia))) (by rw [af7];lia))));show wpAny _ _ _ _ _ { s with heap:=((s.heap.push (seqObj "list" #[] 0)).update s.heap.objs.size (Obj.mapSeq (·++vs.toArray))).push (seqObj "list" vs.toArray 0) };rw [s1];refine aei (afd (afU aie ⟨_,g1,rfl⟩ ahS (zR g1 h2 h64 (fun v hv=>?_) (fun s' k=>?_) ⟨_,rfl,aen ⟨_,rfl,h⟩⟩) (aif _)))
 ·obtain⟨b,rfl,o,hb,hc⟩:=hT v hv;exact⟨b,rfl,aeA (aff (aes hb)),o,keep _ _ hb,hc⟩
 ·exact hlt s' fun b o e=>k b o (aeA (aff (aes e))) (keep _ _ e)
open AutoSeq1 (wpAny_loadPart')
open MeetsSeq MeetsSeq2 MeetsSeq3
theorem yp {a:Addr}{vs:List Value}{n:Nat}{R:PySem.Fin->Shared->Prop}(ho:s.heap.get? a=some (seqObj "list" vs.toArray n))(h2:vs.length < 2)
 (h:R (.done (.ret .none)) { s with heap:=sortedHeap s.heap a vs vs.toArray }):wpAny (model prog w) A (Builtin.«list.sort» ⟨[.ref a],[]⟩) R E s:=by
 have la:a < s.heap.objs.size:=aes ho;have sv:vs.toArray.size=vs.length:=aeH ..;obtain⟨e1,he1⟩:∃ e,(s.heap.update a (Obj.mapSeq fun _=>#[])).get? a=some (seqObj "list" #[] e):=⟨_,get?_update_seq ho (fun _=>#[])⟩;have he2:(((s.heap.update a (Obj.mapSeq fun _=>#[])).push (seqObj "tuple" vs.toArray 0)).push (seqObj "list" #[] 0)).get? a=some (seqObj "list" #[] e1):=ael _ (ael _ he1);rw [list_sort_plain];refine aei (listItems_at ho rfl (aei (ahp ho rfl ?_ (by rw [sv,af7];lia) (aeM _))));refine aei (ahW he1 rfl (aei (wpAny_newTuple (aei (ag6 (afd ?_) (aeM _))) (by show vs.length<=_;rw [af7];lia))));have nb:vs.toArray.size < 2:=by rw [sv];lia
 show wpAny (model prog w) A _ R E { s with heap:=((s.heap.update a (Obj.mapSeq fun _=>#[])).push (seqObj "tuple" vs.toArray 0)).push (seqObj "list" #[] 0) };dsimp only;rw [if_pos nb,if_pos nb];refine aei (aen ?_);rw [StateT.run_pure];refine aei (aen ?_);have hout:(arrOf (SortSt.mk' general' (vs.toArray.zip vs.toArray) #[] 7 none)).map (·.2)=vs.toArray:=by
  show (vs.toArray.zip vs.toArray).map (·.2)=vs.toArray;apply Array.ext_getElem?;intro i;by_cases hi:i < vs.length
  ·simp [hi]
  ·simp [ahD hi]
 dsimp only;rw [hout];refine aei (ahW he2 rfl (aei (ahp he2 rfl ?_ (aeM _) (by rw [sv,af7];lia))));show wpAny (model prog w) A _ R E _;simp only [agf,ae4,agJ];exact aen h
theorem sorted_few {l:Addr}{vs:List Value}{Q:Value->Shared->Prop}(hl:s.heap.IsList l vs.toArray)(h2:vs.length < 2)
 (h:Q (.ref (s.heap.objs.size+1)) { s with heap:=sortedAll s.heap vs vs.toArray }):wpAny (model prog w) A (call (.builtin "sorted") [.ref l]) Q E s:=by
 refine agu kind_sorted plain_sorted entry_sorted (args_sorted1 _) ?_;have s1:((s.heap.push (seqObj "list" #[] 0)).update s.heap.objs.size (Obj.mapSeq (·++vs.toArray))).objs.size=s.heap.objs.size+1:=by
  rw [agq,aiq]
 have g1:(((s.heap.push (seqObj "list" #[] 0)).update s.heap.objs.size (Obj.mapSeq (·++vs.toArray))).push (seqObj "list" vs.toArray 0)).get? (s.heap.objs.size+1)=some (seqObj "list" vs.toArray 0):=by
  rw [← s1];exact aeF _ rfl
 unfold Builtin.«sorted»;refine aei (m:=checkCount "sorted" 1 1 _) (aen (aei (collect_list hl (aei (ag6 ?_ (by rw [af7];lia))) (by rw [af7];lia))));show wpAny _ _ _ _ _ { s with heap:=((s.heap.push (seqObj "list" #[] 0)).update s.heap.objs.size (Obj.mapSeq (·++vs.toArray))).push (seqObj "list" vs.toArray 0) };rw [s1];exact aei (afd (afU aie ⟨_,g1,rfl⟩ ahS (yp g1 h2 ⟨_,rfl,aen ⟨_,rfl,h⟩⟩) (aif _)))
end
end LL
namespace L2
open PySem PySem.Spec PyProof.Rows
section
variable {X:Cx}
end
end L2
namespace LL
theorem lexF_le {m n:Nat}{e f:Nat->Bool}:∀ k i,(∀ j,i<=j->j < i+k->(∀ x,i<=x->x < j->e x=true)->e j=false->f j=false)->¬ m < n->aab m n e f k i=false
 | 0,i,_,h=>by unfold aab;exact aeO h
 | k+1,i,hf,h=>by
  unfold aab;split
  ·rename_i he;refine lexF_le k (i+1) (fun j a b c d=>hf j (by lia) (by lia) (fun x p q=>?_) d) h;by_cases y:x=i
   ·subst y;exact he
   ·exact c x (by lia) q
  ·rename_i he;exact hf i (aep _) (by lia) (fun x p q=>by lia) (by simpa using he)
end LL
namespace L2
open PySem PySem.Spec PyProof.Rows
def ac8 (H:Hp)(vs:List V)(ls:List (List Nat)):Prop:=vs.length=ls.length/\(∀ (i:Nat) v l,vs[i]? = some v->ls[i]? = some l->∃ a:Addr,v=.ref a/\H a=some (.lst (l.map fun n=>V.int ((n:Nat):Int))))/\∀ (i:Nat) l l',ls[i]? = some l->ls[i+1]? = some l'->l.length=l'.length/\∀ (j x y:Nat),l.take j=l'.take j->l[j]? = some x->l'[j]? = some y->x<=y
section
variable {X:Cx}
theorem qL:gI X (.builtin "sorted") (fun xs H Q=>∃ (p:Addr) (vs:List V) (ls:List (List Nat)),xs=[.ref p]/\H p=some (.lst vs)/\vs.length < 64/\X.A.units+4 < cLine/\ac8 H vs ls/\∀ l:Addr,H l=none->Q (.ref l) (upd H l (.lst vs))):=by
 intro pins s σ H xs us Q I r h;obtain⟨p,vs,ls,rfl,e,h64,hu,⟨hlen,hat,hr⟩,q⟩:=h;obtain⟨u,rfl,rx⟩:=iE r;cases rx;obtain⟨its,rv,pl,hz⟩:=I.list (aAA e);have nl:=rv.length;have fin:EP X pins σ Q (.ref (s.heap.objs.size+1)) { s with heap:=sortedAll s.heap its its.toArray }:=by
  obtain⟨ep,he⟩:=sortedAll_at s.heap its its.toArray;refine⟨.ref (s.heap.objs.size+1),_,I.laid (t':=s.toks) (o:=.lst vs) (fun b o e=>sortedAll_old e) (afh _) ⟨hz,its,ep,rv,he⟩,rfl,q _ (I.hok.fresh (afh _))⟩
 have item:∀ i,i < its.length->∃ (a:Addr) (l:List Nat) (os:List Value),its.getD i .none=.ref a/\ls[i]? = some l/\Vals (l.map fun n=>V.int ((n:Nat):Int)) os/\PlainL s.heap a os.toArray:=fun i hi=>by
  have hi':i < vs.length:=by lia
  have hl':i < ls.length:=by lia
  obtain⟨a,ev,ha⟩:=hat i vs[i] ls[i] (aeh hi') (aeh hl');obtain⟨os,ro,po,_⟩:=I.list (aAA ha);obtain⟨u,hu,ru⟩:=rv.get (aeh hi');rw [ev] at ru;cases ru;exact⟨a,ls[i],os,by rw [ae3,hu];rfl,aeh hl',ro,po⟩
 by_cases h2:2<=its.length
 ·refine LL.sorted_asc pl.isList h2 (by lia) (fun v hv=>?_) (fun s' keep k k1 k2 C hC=>?_) fin
  ·obtain⟨i,hi,ei⟩:=List.getElem_of_mem hv;obtain⟨a,l,os,e1,_,_,po⟩:=item i hi;rw [ae3,aeh hi] at e1;obtain⟨o,ho,hc,_⟩:=po.isList;exact⟨a,ei.symm.trans e1,o,ho,hc⟩
  ·obtain⟨a,l,os,e1,el,ro,po⟩:=item k k2;obtain⟨a',l',os',e1',el',ro',po'⟩:=item (k - 1) (by lia);rw [e1,e1'];obtain⟨ll,le⟩:=hr (k - 1) l' l el' (by rw [show k - 1+1=k by lia];exact el);obtain⟨o,ho,hc,n,hd⟩:=po.isList;obtain⟨o',ho',hc',n',hd'⟩:=po'.isList;have Lk:s'.heap.IsList a os.toArray:=⟨o,keep _ _ ho,hc,n,hd⟩;have Lk':s'.heap.IsList a' os'.toArray:=⟨o',keep _ _ ho',hc',n',hd'⟩;have num:∀ {l:List Nat} {os:List Value},Vals (l.map fun n=>V.int ((n:Nat):Int)) os->∀ j (hj:j < os.toArray.size),∃ (z:Nat) (tk:Tok),l[j]? = some z/\os.toArray[j]=.int (z:Int) tk:=fun {l os} ro j hj=>by
    have hj':j < os.length:=by simpa using hj
    have nl2:=ro.length;rw [aej] at nl2;have hjl:j < l.length:=by lia
    obtain⟨u,hu,ru⟩:=ro.get (i:=j) (x:=.int ((l[j]:Nat):Int)) (by rw [aer,aeh hjl];rfl);obtain⟨tk,rfl⟩:=ru;refine⟨l[j],tk,aeh hjl,?_⟩;rw [aeh hj'] at hu;simpa using hu
   have sz:os.toArray.size=l.length:=by have:=ro.length;rw [aej] at this;simp;lia
   have sz':os'.toArray.size=l'.length:=by have:=ro'.length;rw [aej] at this;simp;lia
   refine LL.keyLt_lists (e:=fun j=>decide (l[j]? = l'[j]?)) (f:=fun j=>decide ((l[j]?).getD 0 < (l'[j]?).getD 0)) Lk Lk' (by show X.A.units+2 < cLine;lia) (fun j h1 h2=>?_) (fun j h1 h2 _=>?_) ?_
   ·obtain⟨z,tk,q1,q2⟩:=num ro j h1;obtain⟨z',tk',q1',q2'⟩:=num ro' j h2;rw [q2,q2'];have:=SeqAt.EqAt.int_int (A:=X.A.in1.in1.in1) (s:=s') (z:Int) tk (z':Int) tk';simp only [q1,q1'];rw [show decide (some z=some z')=((z:Int) == (z':Int)) by
     by_cases y:z=z'
     ·simp [y]
     ·have y2:¬ (z:Int)=(z':Int):=by lia
      simp [y,y2]]
    exact this
   ·obtain⟨z,tk,q1,q2⟩:=num ro j h1;obtain⟨z',tk',q1',q2'⟩:=num ro' j h2;rw [q2,q2'];intro prog w E Q hq;simp only [q1,q1',ahF] at hq;refine lt_int ?_;rw [show decide ((z:Int) < (z':Int))=decide (z < z') from af9.mpr (by lia)];exact hq
   ·rw [LL.lexF_le _ 0 (fun j _ hj pre ej=>?_) (by lia)]
    ·exact hC
    ·have j1:j < l.length:=by lia
     have j2:j < l'.length:=by lia
     rw [aeh j1,aeh j2,ahF,ahF];refine aeO ?_;have:=le j _ _ (by
      apply agB;intro x;rw [af6,af6];split
      ·rename_i hx;exact (afL (pre x (aeM _) hx)).symm
      ·rfl) (aeh j2) (aeh j1)
     lia
 ·exact LL.sorted_few pl.isList (by lia) fin
end
end L2
namespace K7
open PySem L2 PyProof.Rows
theorem jS {K:PySem.W.Frag}{nl:Nat}{ix:List Nat}{te:TE}{σ:L2.St}{H1:Hp}{D a:Addr}{Q:VK}{xs:List V}{R:Hp->Nat->V->Prop}(st:∀ {G G':Hp} {i:Nat} {y:V},Same G G'->R G i y->R G' i y)(ha:H1 a=some (.lst xs))(nD:H1 D=none)(hl:xs.length<=1000000)
 (hc:∀ x,((cP nl ix σ).set 0 (some x)).drop nl=ix.map fun j=>(σ[j]?).join)
 (ht:∀ (H:Hp) (i:Nat) (x:V) (ys:List V) (C:VK),xs[i]? = some x->Same H1 H->H D=some (.lst ys)->(∀ y H',Same H H'->R (ck D H') i y->C y H')->te ((cP nl ix σ).set 0 (some x)) H C)
 (hd:∀ (H:Hp) (ys:List V),Same H1 H->H D=some (.lst ys)->ys.length=xs.length->(∀ (i:Nat) y,ys[i]? = some y->R H i y)->Q (.ref D) H):jF nl ix (cI 0) vG te σ (Itl K a) H1 D Q:=by
 have lim:1000000 < sizeLine:=by decide
 refine dU (xs:=xs) (fun i ys H=>ys.length=i/\i<=xs.length/\(∀ (j:Nat) y,ys[j]? = some y->R (ck D H) j y)/\H D=some (.lst ys)/\Same H1 H) ⟨rfl,aeM _,fun j y e=>by simp at e,af,ao nD⟩ (fun i ys H ⟨_,_,_,h,_⟩=>h) (fun i ys H ⟨_,_,_,_,s⟩=>aAA (s a _ ha)) ?_ ?_
 ·rintro i ys H x hx ⟨yl,hi,al,hD,s⟩;have hi:i < xs.length:=(aek.mp hx).1;refine dP (hc x) (ht H i x ys _ hx s hD fun y H' s' ry=>⟨s' _ _ hD,by lia,nx hi ⟨by rw [aeo,yl];rfl,hi,fun j z e=>?_,af,bU (s.trans s') nD⟩⟩);rw [mG];by_cases hj:j < ys.length
  ·rw [aeQ hj] at e;exact st (lK s') (al j z e)
  ·have:=(aek.mp e).1;rw [aeo,ae7] at this;have ej:j=i:=by lia
   subst ej;rw [aeJ (by lia),yl,ahg] at e;cases e;exact ry
 ·rintro ys H ⟨yl,_,al,hD,s⟩;exact hd H ys s hD yl fun i y e=>st fQ (al i y e)
theorem ifF {c:Bool}{A B:Prop}(h:c=false)(b:B):if c=true then A else B:=by subst h;exact b
theorem aae {first:List Nat}{F:Nat->V}{ys:List V}(l:ys.length=first.length)(h:∀ (i:Nat) y,ys[i]? = some y->∃ k,first[i]? = some k/\y=F k):ys=first.map F:=by
 apply agB;intro i;rw [aer];cases e:ys[i]? with
 | none =>
  have:ys.length<=i:=aid.mp e;rw [af3 (by lia)]
  rfl
 | some y =>
  obtain⟨k,ek,rfl⟩:=h i y e;rw [ek]
  rfl
theorem zN {P:Nat->V->List Nat->Prop}:∀ {ys:List V},(∀ (i:Nat) y,ys[i]? = some y->∃ o,P i y o)->∃ ls:List (List Nat),ls.length=ys.length/\∀ (i:Nat) y o,ys[i]? = some y->ls[i]? = some o->P i y o:=fun {ys}=>by
 induction ys generalizing P with
 | nil=>exact fun _=>⟨[],rfl,fun i y o e=>by simp at e⟩
 | cons a ys ih =>
  intro h;obtain⟨o,ho⟩:=h 0 a rfl;obtain⟨ls,l,al⟩:=ih (P:=fun i=>P (i+1)) fun i y e=>h (i+1) y e;refine⟨o::ls,by rw [aeU,l];rfl,fun i y o' e1 e2=>?_⟩;cases i with
  | zero=>cases e1;cases e2;exact ho
  | succ i=>exact al i y o' e1 e2
theorem vH:∀ {l l':List Nat},(l=l'\/ltL l l')->∀ (j x y:Nat),l.take j=l'.take j->l[j]? = some x->l'[j]? = some y->x<=y
 | l,_,.inl rfl,j,x,y,_,e1,e2=>by
  rw [e1] at e2;cases e2;exact aep _
 | [],[],.inr h,_,_,_,_,e1,_=>by simp at e1
 | [],_::_,.inr h,_,_,_,_,e1,_=>by simp at e1
 | _::_,[],.inr h,_,_,_,_,_,e2=>by simp at e2
 | a::l,b::l',.inr h,0,x,y,_,e1,e2=>by
  cases e1;cases e2;rcases h with h | ⟨h,_⟩
  ·lia
  ·lia
 | a::l,b::l',.inr h,j+1,x,y,t,e1,e2=>by
  rw [ahZ,ahZ] at t;injection t with t1 t2
  subst t1;rcases h with h | ⟨_,h⟩
  ·lia
  ·exact vH (.inr h) j x y t2 e1 e2
theorem HouseAt.off {H:Hp}{v:V}{h:Hs}{D:Addr}{H1:Hp}(hh:HouseAt H v h)(n:H D=none)(s:Same H H1):HouseAt (ck D H1) v h:=by
 refine hh.same fun b u e=>?_;unfold ck;rw [if_neg (ar e n)];exact s _ _ e
theorem HsU.ok {U:List Str}{n:Nat}{h:Hs}(x:HsU U n h)(l:n<=12):cm h:=by
 refine⟨fun k hk=>x.kk k (x.bg k hk),by have:=x.bl;lia,fun r hr=>?_,by have:=x.rl;lia⟩;have y:=x.rm r hr;exact⟨fun k hk=>x.kk k (y.lk k hk),y.l1,y.l4,y.so,fun k hk=>x.kk k (y.wi k hk),by have:=y.w6;lia⟩
theorem abl {h:Hs}{k:Nat}(ok:cm h)(bl:h.1.length<=189)(w6:∀ r∈h.2,r.2.length<=6)(hk:k < h.2.length):cm (fb h k):=by
 have gd:(h.2[k]?).getD ([],[])=h.2[k]:=by rw [aeh hk];rfl
 have hm:=aeS hk;have er:∀ (l:List Str) {x:Str} {hd:List Str},x∈l.foldl List.erase hd->x∈hd:=fun l=>by
  induction l with
  | nil=>exact fun h=>h
  | cons a l ih=>exact fun h=>ai7 (ih h)
 refine⟨fun x hx=>?_,?_,fun r hr=>?_,?_⟩
 ·have hx:x∈f7 h.1 ((h.2[k]?).getD ([],[])):=hx;rw [gd] at hx;rcases aew.mp hx with z | z
  ·exact ok.kk x (er _ z)
  ·exact (ok.rs _ hm).kk x z
 ·show (f7 h.1 ((h.2[k]?).getD ([],[]))).length<=1000;rw [gd];have a:=qU h.1 h.2[k];have b:=w6 _ hm;lia
 ·have hr:r∈h.2.take k++h.2.drop (k+1):=hr;rcases aew.mp hr with z | z
  ·exact ok.rs r (afo z)
  ·exact ok.rs r (afC z)
 ·have:=kZ hk;have:=ok.rl;lia
theorem aaJ {h:Hs}:¬ (cf h.1 h.2 [h.2.length]/\[h.2.length].length=h.2.length):=fun z=>absurd (fO _ z.1 h.2.length aev) (afn _)
theorem xY {h:Hs}(l:0 < h.2.length):¬ (cf h.1 h.2 (List.range (h.2.length - 1))/\(List.range (h.2.length - 1)).length=h.2.length):=fun z=>by
 have:=z.2;rw [afv] at this;lia
theorem zS {h:Hs}{n:Nat}(l:2<=n):¬ (cf h.1 h.2 (List.replicate n 0)/\(List.replicate n 0).length=h.2.length):=fun z=>by
 have:=aV _ z.1
 match n,l with
 | n+2,_=>simp [afI] at this
theorem zG (n:Nat):(List.replicate n [V.int 0]).flatten=aM (List.replicate n 0):=by
 unfold aM
 induction n with
 | zero=>rfl
 | succ n ih=>rw [afI,afI,afX,ih];rfl
theorem zQ {ns:List Int}{n:Nat}(h:∀ z∈ns,0<=z/\z < (n:Int)):∃ ms:List Nat,ns=ms.map (fun m=>((m:Nat):Int))/\∀ m∈ms,m < n:=by
 refine⟨ns.map Int.toNat,?_,fun m hm=>?_⟩
 ·rw [aeZ];refine (ah0 ns).symm.trans (agj fun z hz=>?_);have:=h z hz;show z=((z.toNat:Nat):Int);lia
 ·obtain⟨z,hz,rfl⟩:=aeL.mp hm;have:=h z hz;lia
theorem yx (o:List Nat)(a b:Option Int):∃ c:List Nat,pF (aM o) a b=aM c/\c.length<=o.length:=by
 unfold pF aM;rw [← List.map_drop,← List.map_take];refine⟨_,rfl,?_⟩;rw [aeK,afs];lia
def yo (K:PySem.W.Frag):Sp:=fun vs H Q _=>∃ (a:Addr) (ns:List Int),vs=[.ref a]/\SqL K H a (ns.map V.int)/\∀ H',Q (.bl true) H'
theorem FnOk.calm {P:Program}{w:World}{K:PySem.W.Frag}{mg:Str->Option Value}{base:Heap}{k:Nat}{f:Addr}{fd:FuncData}{ps:List Str}{sp:Sp}(F:FnOk P w K mg base (CXr P w) k f fd ps sp):FnOk P w K mg base CX0 k f fd ps (fun vs H Q _=>sp vs H Q fun _ _ _=>False) :=
 ⟨fun vs H Q E h=>F.len vs H Q _ h,fun A outer s H args us vs Q E hr he hb hv hs=>agr (F.run A outer s H args us vs Q (fun _ _ _=>False) hr he hb hv hs) fun r s' h=>by
  cases r with
  | error e =>
   obtain⟨_,_,_,_,_,_,_,_,_,_,_,_,_,_,_,z⟩:=h;exact z.elim
  | ok fl=>cases fl<;>exact h⟩
inductive LaI (a p:Addr)(v:V)(Df Dp:Addr)(u:V)(many:Nat)(H:Hp)(σ:L2.St)(H':Hp):Prop
 | mk (x7:Option V):σ=[some (.ref a),some (.ref p),some v,some (.int ((many:Nat):Int)),some (.ref Df),some (.ref Dp),some u,x7,none,none,none,none,none]->Same H H'->LaI a p v Df Dp u many H σ H'
inductive LbI (a p:Addr)(v:V)(Df Dp:Addr)(u:V)(x7:Option V)(many:Nat)(Ln:Addr)(H:Hp)(i:Nat)(σ:L2.St)(H':Hp):Prop
 | mk (ms:List Nat) (x9:Option V):σ=[some (.ref a),some (.ref p),some v,some (.int ((many:Nat):Int)),some (.ref Df),some (.ref Dp),some u,x7,some (.ref Ln),x9,none,none,none]->H' Ln=some (.lst (aM ms))->ms.length=i+2->(∀ m∈ms,m < many)->Same H H'->LbI a p v Df Dp u x7 many Ln H i σ H'
inductive LcI (a p:Addr)(v:V)(Df Dp:Addr)(u:V)(many:Nat)(Ln Do:Addr)(H:Hp)(σ:L2.St)(H':Hp):Prop
 | mk (x7 x9 x11 x12:Option V):σ=[some (.ref a),some (.ref p),some v,some (.int ((many:Nat):Int)),some (.ref Df),some (.ref Dp),some u,x7,some (.ref Ln),x9,some (.ref Do),x11,x12]->Same H H'->LcI a p v Df Dp u many Ln Do H σ H'
section
variable {P:Program}{w:World}{K:PySem.W.Frag}{mg:Str->Option Value}{base:Heap}
theorem fv:az ["script","pool","house","many","first","parts","other","order","numbers","k","orders","number","bent"] ["script"] (ai pT):=scM rfl rfl rfl rfl (by decide +kernel)
theorem yN:(["k","house"]:List Str).Nodup:=by decide +kernel
theorem uz:(["part"]:List Str).Nodup:=by decide +kernel
theorem zb:(["number","house"]:List Str).Nodup:=by decide +kernel
theorem ab9 {f fP fD fH fX fL fN fG fZ fM fS fT fU cO:Addr}{fd fdP fdD fdH fdX fdL fdN fdG fdZ fdM fdS fdT fdU:FuncData}(F:Fun K "law" "law" adi f fd)
 (mh:FnOk P w K mg base CX0 1 fP fdP ["script","k"] (xG K))(gu:Cal K mg "_law_pool" ["script","k"] fP fdP)
 (aA:FnOk P w K mg base CX0 1 fD fdD ["pool","many"] ql)(ax:Cal K mg "_law_draw" ["pool","many"] fD fdD)
 (qY:FnOk P w K mg base CX0 3 fH fdH ["pool","many"] tP)(hU:Cal K mg "_law_house" ["pool","many"] fH fdH)
 (jb:FnOk P w K mg base CX0 1 fX fdX ["house","order"] su)(dz:Cal K mg "_law_next" ["house","order"] fX fdX)
 (tG:FnOk P w K mg base CX0 1 fL fdL ["house","k"] aah)(jg:Cal K mg "_law_left" ["house","k"] fL fdL)
 (qd:FnOk P w K mg base CX0 1 fN fdN ["house"] uE)(ik:Cal K mg "_law_named" ["house"] fN fdN)
 (mV:FnOk P w K mg base CX0 2 fG fdG ["house","order"] vR)(gp:Cal K mg "_law_gone" ["house","order"] fG fdG)
 (hW:FnOk P w K mg base CX0 9 fZ fdZ ["house","order"] yf)(de:Cal K mg "_law_no_order" ["house","order"] fZ fdZ)
 (dC:FnOk P w K mg base CX0 8 fM fdM ["house"] aaj)(bV:Cal K mg "how_many_orders" ["house"] fM fdM)
 (cT:FnOk P w K mg base CX0 8 fS fdS ["house"] wm)(bL:Cal K mg "how_many_stuck" ["house"] fS fdS)
 (lH:FnOk P w K mg base CX0 8 fT fdT ["house","k"] ace)(gA:Cal K mg "nth_order" ["house","k"] fT fdT)
 (dB:FnOk P w K mg base CX0 8 fU fdU ["house","order"] fun vs H Q _=>aa2 cO vs H Q fun _ _ _=>False)(aH:Cal K mg "number_of_order" ["house","order"] fU fdU)
 (me:mg "int" = none)(dv:mg "len" = none)(cF:mg "list" = none)(bW:mg "range" = none)(aU:mg "sorted" = none)(jW:mg "sum" = none)(aaS:mg "zip" = none):FnOk P w K mg base CX0 10 f fd ["script"] (yo K):=by
 refine F.ok fv (fun vs H Q E h=>?_) (fun cdv A outer s H vs Q E hr h=>?_)
 ·obtain⟨a,ns,rfl,_⟩:=h
  rfl
 ·obtain⟨a,ns,rfl,hS,k⟩:=h;have hu:=eM hr;have deep:∀ {n:Nat},n<=12->(A.deeper (envOfC "law" (ai adi) s.heap.objs.size f cdv)).units+(n+1) < cLine:=fun {n} h=>afA (agK (aeN (Nat.succ_le_succ h) (by decide:13<=64)) _) hr.units;refine⟨_,(ag (aw (i:=1) fv.nd rfl (.inl rfl) (pcl mh gu (hr.mono (by decide:1<=9)) rfl (ae (pv 0) (ae aj ah))))
   (ag (aw (i:=2) fv.nd rfl (.inr rfl) (pcl qY hU (hr.mono (by decide:3<=9)) rfl (ae (pv 1) (ae (aN aS (dc (ae (bj fq aj (pcl aA ax (hr.mono (by decide:1<=9)) rfl (ae (pv 1) (ae aj ah)))) (ae (bj fq aj (pcl aA ax (hr.mono (by decide:1<=9)) rfl (ae (pv 1) (ae aj ah)))) ah))) (di jL rfl me (by decide +kernel) (ae (eh vw (pcl aA ax (hr.mono (by decide:1<=9)) rfl (ae (pv 1) (ae aj ah))) aj (bM _)) ah)) (fun _ _=>rfl)) ah))))
   (ag (aw (i:=3) fv.nd rfl (.inl rfl) (pcl dC bV (hr.mono (by decide:8<=9)) rfl (ae (pv 2) ah)))
   (ag (aw (i:=4) fv.nd rfl (.inl rfl) (pcl jb dz (hr.mono (by decide:1<=9)) rfl (ae (pv 2) (ae pY ah))))
   (ag (sx (i:=5) (tg:=.Name "k" _) (outer:=ai (pT)) (N:=["script","pool","house","many","first","parts","other","order","numbers","k","orders","number","bent"]) (N':=["k","house"]) (nl:=1) (ix:=[2]) fv.nd rfl (.inl rfl) rfl rfl rfl (aQ (pv 4))
    (fun _ _ _ _=>(au (i:=0) yN rfl (.inl rfl) (.inr rfl))) (fun _ _ _ _=>cn)
    (fun _ _ _ _=>(pcl tG jg (hr.mono (by decide:1<=9)) rfl (ae (pv 1) (ae (pv 0) ah)))))
   (ag (fi (aT pX (av (gS rfl) rfl jW (by decide +kernel) (ae (iV (tg:=.Name "part" _) (outer:=ai (pT)) (N:=["script","pool","house","many","first","parts","other","order","numbers","k","orders","number","bent"]) (N':=["part"]) (nl:=1) (ix:=[]) rfl rfl rfl (aQ (pv 5))
    (fun _ _ _ _=>(au (i:=0) uz rfl (.inl rfl) (.inr rfl))) (fun _ _ _ _=>cn)
    (fun _ _ _ _=>(pcl dC bV (hr.mono (by decide:8<=9)) rfl (ae (pv 0) ah)))) ah)) (pv 3) (bM _))
    (aq (aJ mX)) bu)
   (ag (fi (aT pX (bj fq (av (gS rfl) rfl jW (by decide +kernel) (ae (iV (tg:=.Name "part" _) (outer:=ai (pT)) (N:=["script","pool","house","many","first","parts","other","order","numbers","k","orders","number","bent"]) (N':=["part"]) (nl:=1) (ix:=[]) rfl rfl rfl (aQ (pv 5))
    (fun _ _ _ _=>(au (i:=0) uz rfl (.inl rfl) (.inr rfl))) (fun _ _ _ _=>cn)
    (fun _ _ _ _=>(pcl cT bL (hr.mono (by decide:8<=9)) rfl (ae (pv 0) ah)))) ah)) (di jL rfl me (by decide +kernel) (ae (eh qb (pv 4) pY (bM _)) ah))) (pcl cT bL (hr.mono (by decide:8<=9)) rfl (ae (pv 2) ah)) (bM _))
    (aq (aJ mX)) bu)
   (ag (aw (i:=6) fv.nd rfl (.inl rfl) (pcl qd ik (hr.mono (by decide:1<=9)) rfl (ae (pv 2) ah)))
   (ag (fi (PW.pt (tj (aT pX (pcl dC bV (hr.mono (by decide:8<=9)) rfl (ae (pv 6) ah)) (pv 3) (bM _)) (mn (aT pX (pcl cT bL (hr.mono (by decide:8<=9)) rfl (ae (pv 6) ah)) (pcl cT bL (hr.mono (by decide:8<=9)) rfl (ae (pv 2) ah)) (bM _)))))
    (aq (aJ mX)) bu)
   (ag (bz (cQ aeX rfl (aQ (dc (ae (dc (ae (av aI rfl dv afw (ae (aN bP (pv 2) aj (fun _ _=>rfl)) ah)) ah)) (ae (kO rfl cF rfl bW rfl (ae (bj tZ (av aI rfl dv afw (ae (aN bP (pv 2) aj (fun _ _=>rfl)) ah)) aj) ah)) (ae (bj acF (dc (ae aj ah)) (av aI rfl dv afw (ae (aN bP (pv 2) aj (fun _ _=>rfl)) ah))) ah))))) (au (i:=7) fv.nd rfl (.inl rfl))
    (aq (fi (fw (gF (pcl hW de hr rfl (ae (pv 2) (ae (pv 7) ah)))))
     (aq (aJ mX)) bu))))
   (ag (fi (aT vw (pv 3) aj (bM _))
    (aq (aJ mX)) bu)
   (ag (aw (i:=8) fv.nd rfl (.inl rfl) (dc (ae aj (ae (bj tZ (pv 3) aj) ah))))
   (ag (bz (cQ aeX rfl (gk rfl bW (ae (aN aS (dc (ae aj (ae aj ah))) (di jL rfl me (by decide +kernel) (ae (eh abL (av aI rfl dv afw (ae (aN bP (pv 2) aj (fun _ _=>rfl)) ah)) aj (bM _)) ah)) (fun _ _=>rfl)) ah)) (au (i:=9) fv.nd rfl (.inl rfl))
    (aq (dh (oP aeW afM afN dm (pv 8) (ae (pcl aA ax (hr.mono (by decide:1<=9)) rfl (ae (pcl mh gu (hr.mono (by decide:1<=9)) rfl (ae (pv 0) (ae (bj fq aj (pv 9)) ah))) (ae (pv 3) ah))) ah))))))
   (ag (sx (i:=10) (tg:=.Name "number" _) (outer:=ai (pT)) (N:=["script","pool","house","many","first","parts","other","order","numbers","k","orders","number","bent"]) (N':=["number","house"]) (nl:=1) (ix:=[2]) fv.nd rfl (.inl rfl) rfl rfl rfl (aQ (av fj rfl aU agP (ae (pv 8) ah)))
    (fun _ _ _ _=>(au (i:=0) zb rfl (.inl rfl) (.inr rfl))) (fun _ _ _ _=>cn)
    (fun _ _ _ _=>(pcl lH gA (hr.mono (by decide:8<=9)) rfl (ae (pv 1) (ae (pv 0) ah)))))
   (ag (bz (cQ aeX rfl (acj rfl aaS (ae (av fj rfl aU agP (ae (pv 8) ah)) (ae (pv 10) ah))) (gW rfl (ay (au (i:=11) fv.nd rfl (.inl rfl)) (ay (au (i:=7) fv.nd rfl (.inl rfl)) cD)))
    (ag (fi (PW.pt (tj (fw (gF (pcl mV gp (hr.mono (by decide:2<=9)) rfl (ae (pv 2) (ae (pv 7) ah))))) (mn (aT pX (pcl dB aH (hr.mono (by decide:8<=9)) rfl (ae (pv 2) (ae (pv 7) ah))) (pv 11) (bM _)))))
     (aq (aJ mX)) bu)
    (ag (fi (aT ab2 (pcl lH gA (hr.mono (by decide:8<=9)) rfl (ae (pv 6) (ae (pv 11) ah))) (pv 7) (bM _))
     (aq (aJ mX)) bu)
    (ag (aw (i:=12) fv.nd rfl (.inl rfl) (bj jU (bj jU (dc (ae (aN aS (pv 7) (yS uk aj) (fun _ _=>rfl)) ah)) (kY oC (pv 7) (l9 aj) (l9 (yS uk aj)))) (dc (ae (aN aS (pv 7) aj (fun _ _=>rfl)) ah))))
    (aq (fi (PW.pt (xA (fw (gF (pcl mV gp (hr.mono (by decide:2<=9)) rfl (ae (pv 2) (ae (pv 12) ah))))) (rF (fw (gF (pcl hW de hr rfl (ae (pv 2) (ae (pv 12) ah))))))))
     (aq (aJ mX)) bu)))))))
   (aq (aJ (eh qb (pv 10) (av qL rfl aU agP (ae (pv 10) ah)) (bM _))))))))))))))))))),?_⟩
  refine⟨_,rfl,a,0,ns,rfl,hS,fun p H1 np s1 dk1=>?_⟩;refine⟨_,rfl,_,rfl,p,4,rfl,dk1,by decide,by decide,fun r4 H2 r40 r41 dk2 b2=>⟨6,r4,rfl,rfl,?_⟩⟩;refine⟨_,rfl,p,3,rfl,dk2,by decide,by decide,fun r3 H3 r30 r31 dk3 b3=>⟨10,r3,rfl,rfl,by show 2<=sizeLine;decide,fun l2 n2=>?_⟩⟩;have s3:Same H3 (upd H3 l2 (.lst [.int (6+r4),.int (10+r3)])):=ao n2;have e3:(upd H3 l2 (.lst [.int (6+r4),.int (10+r3)])) l2=some (.lst [.int (6+r4),.int (10+r3)]):=af;have n2p:l2≠p:=dk3.ne n2;generalize upd H3 l2 (.lst [.int (6+r4),.int (10+r3)])=H4 at *;refine⟨_,rfl,p,16,rfl,dk3.same s3,by decide,by decide,fun r16 H5 r160 r161 dk5 b5=>⟨rfl,.inr ⟨_,rfl,?_⟩⟩⟩;obtain⟨n,hn6,hn12,en⟩:∃ n:Nat,6<=n/\n<=12/\atI [V.int (6+r4),V.int (10+r3)] (if decide (V.int r16=V.int 1)=true then 1 else 0)=some (.int ((n:Nat):Int)):=by
   by_cases e:decide (V.int r16=V.int 1)=true
   ·rw [if_pos e];refine⟨(10+r3).toNat,by lia,by lia,?_⟩;rw [show (((10+r3).toNat:Nat):Int)=10+r3 by lia];exact bq (j:=1) rfl
   ·rw [if_neg e];refine⟨(6+r4).toNat,by lia,by lia,?_⟩;rw [show (((6+r4).toNat:Nat):Int)=6+r4 by lia];exact bq (j:=0) rfl
  refine⟨l2,_,_,_,rfl,rfl,aAA (b5 _ _ n2p e3),en,?_⟩;refine⟨p,n,rfl,dk5,hn12,fun v h U H6 hh hs dk6 b6=>?_⟩;have sK:∀ {y:HO} {b:Addr},H b=some y->H6 b=some y:=fun {y b} e=>by
   have nb:b≠p:=ar e np;exact b6 _ _ nb (b5 _ _ nb (s3 _ _ (b3 _ _ nb (b2 _ _ nb (s1 _ _ e)))))
  have hS6:SqL K H6 a (ns.map V.int):=by
   have s06:Same H H6:=fun b u e=>sK e;exact s06.seq hS
  have ok:=hs.ok hn12;have rl:=hs.rl;have l12:h.2.length<=12:=by lia
  have few:vF h:=mM l12 fun r hr=>(ok.rs r hr).l4;refine⟨_,rfl,v,h,rfl,hh,ok,few,l12,fun H7 s7=>?_⟩;refine⟨_,rfl,aeM _,fun l0 n0=>?_⟩;have s8:Same H7 (upd H7 l0 (.lst [])):=ao n0;refine⟨v,l0,h,[],rfl,(hh.same s7).same s8,ok,af,bQ _ _,l12,fun Df H8 s9 nDf eDf=>?_⟩;have s68:=(s7.trans s8).trans s9;have ffew:(aZ h []).length<=12:=by
   have:=dH (ou h []) fun i hi=>(next_iffD.mp hi).1;lia
  have lt0:([]:List Nat).length < h.2.length:=by show 0 < _;lia
  generalize e7:upd H7 l0 (.lst [])=H7' at *;clear e7;dsimp only [zr,vE,cI];refine aK _ _ _ _ _ _ _ _ _ ?_;refine⟨_,rfl,Df,rfl,⟨_,aAA eDf⟩,fun Dp nDp=>?_⟩;refine jS (R:=fun G i y=>∃ k,(aZ h [])[i]? = some k/\HouseAt G y (fb h k)) (fun s ⟨k,e,x⟩=>⟨k,e,x.same s⟩) eDf nDp (by rw [aej];lia) (fun x=>rfl) (fun G i x ys C hx sG hD r0=>?_) fun H9 ps s10 eDp pl hps=>?_
  ·obtain⟨k,ek,rfl⟩:∃ k,(aZ h [])[i]? = some k/\x=.int ((k:Nat):Int):=by
    rw [aer] at hx;cases hq:(aZ h [])[i]? with
    | none=>rw [hq] at hx;cases hx
    | some n=>rw [hq] at hx;cases hx;exact⟨n,rfl,rfl⟩
   exact⟨_,rfl,_,rfl,v,h,k,Dp,_,rfl,hD,(hh.same s68).off nDp sG,ok,aey ek,fun u H' s' hu'=>r0 u H' s' ⟨k,ek,hu'⟩⟩
  rw [aej] at pl;have lok:∀ {k},k∈aZ h []->k < h.2.length/\cm (fb h k)/\vF (fb h k)/\(fb h k).2.length<=12:=fun {k} hk=>by
   have hk:=(next_iffD.mp hk).1;have lo:=abl ok hs.bl (fun r hr=>(hs.rm r hr).w6) hk;have ll:=kZ hk;exact⟨hk,lo,mM (by lia) fun r hr=>(lo.rs r hr).l4,by lia⟩
  dsimp only [adG,zw,tOp,tCB,je,rT];refine aK _ _ _ _ _ _ _ _ _ ?_;refine⟨_,rfl,Dp,rfl,⟨_,aAA eDp⟩,fun D1 nD1=>?_⟩;refine jS (R:=fun _ i y=>∃ k,(aZ h [])[i]? = some k/\y=.int ((Ends h [k]:Nat):Int)) (fun _ x=>x) eDp nD1 (by lia) (fun x=>rfl) (fun G i x ys C hx sG hD r0=>?_) fun HA y1 sA eD1 yl1 hy1=>?_
  ·obtain⟨k,ek,hk⟩:=hps i x hx;obtain⟨k1,k2,k3,k4⟩:=lok (aey ek);exact⟨_,rfl,x,fb h k,rfl,hk.same sG,k2,k3,k4,fun H' s'=>r0 _ H' s' ⟨k,ek,by rw [xQ k1]⟩⟩
  have ey1:y1=((aZ h []).map fun k=>((Ends h [k]:Nat):Int)).map V.int:=by
   rw [aeZ];exact aae (by lia) hy1
  refine⟨D1,_,rfl,aAA (by rw [eD1,ey1]),_,rfl,rfl,_,rfl,?_⟩;rw [iJ fun k=>Ends h [k]];rw [show cW ((aZ h []).map fun k=>Ends h [k])=Ends h [] from (Ends.step lt0).symm,aeP rfl];refine gK ?_;dsimp only [sZ,zr,vE,adG,zw,tOp,tCB,je,rT];refine aK _ _ _ _ _ _ _ _ _ ?_;refine⟨_,rfl,Dp,rfl,⟨_,aAA (sA _ _ eDp)⟩,fun D2 nD2=>?_⟩;refine jS (R:=fun _ i y=>∃ k,(aZ h [])[i]? = some k/\y=.int ((Stuck h [k]:Nat):Int)) (fun _ x=>x) (sA _ _ eDp) nD2 (by lia) (fun x=>rfl) (fun G i x ys C hx sG hD r0=>?_) fun HB y2 sB eD2 yl2 hy2=>?_
  ·obtain⟨k,ek,hk⟩:=hps i x hx;obtain⟨k1,k2,k3,k4⟩:=lok (aey ek);exact⟨_,rfl,x,fb h k,rfl,(hk.same sA).same sG,k2,k3,k4,fun H' s'=>r0 _ H' s' ⟨k,ek,by rw [uZ k1]⟩⟩
  have ey2:y2=((aZ h []).map fun k=>((Stuck h [k]:Nat):Int)).map V.int:=by
   rw [aeZ];exact aae (by lia) hy2
  refine⟨D2,_,rfl,aAA (by rw [eD2,ey2]),?_⟩;rw [iJ fun k=>Stuck h [k]];have s8B:=(s10.trans sA).trans sB;have s6B:=s68.trans s8B;refine⟨_,rfl,aeM _,fun l3 n3=>?_⟩;have sC:Same HB (upd HB l3 (.lst [])):=ao n3;refine pB (neg:=false) (a:=aZ h []) (b:=[]) ((s8B.trans sC) _ _ eDf) af (deep (by decide:0<=12)) ?_;rw [if_neg (by decide)];generalize upd HB l3 (.lst [])=HC at *;have s6C:=s6B.trans sC;refine .inr ⟨_,rfl,_,_,rfl,rfl,_,rfl,v,h,rfl,hh.same s6C,ok,few,l12,fun HD sD=>⟨rfl,_,rfl,?_⟩⟩;have est:(((cW ((aZ h []).map fun k=>Stuck h [k]):Nat):Int)+if decide (aZ h []=[])=true then 1 else 0)=((Stuck h []:Nat):Int):=by
   by_cases e:aZ h []=[]
   ·rw [Stuck.end_ e,e]
    rfl
   ·rw [aeO e,if_neg aem,Stuck.step (bQ _ _) e,Int.add_zero]
    rfl
  refine ifF (by
   show (!decide (V.int (((cW ((aZ h []).map fun k=>Stuck h [k]):Nat):Int)+if decide (aZ h []=[])=true then 1 else 0)=V.int ((Stuck h []:Nat):Int)))=false;rw [est,aeP rfl]
   rfl) ?_
  have s6D:=s6C.trans sD;refine⟨_,rfl,v,h,U,n,rfl,hh.same s6D,hs,by lia,hn12,fun u h' fn W HE sE hu' ok' nm=>?_⟩;have al:=nm.alike;have l12':h'.2.length<=12:=by rw [nm.len];exact l12
  have few':vF h':=mM l12' fun r hr=>(ok'.rs r hr).l4;have ee:Ends h' []=Ends h []:=(al.ends (bQ _ _)).symm;have es:Stuck h' []=Stuck h []:=(al.stuck (bQ _ _)).symm;have s6E:=s6D.trans sE;dsimp only [tOr];refine⟨_,rfl,u,h',rfl,hu',ok',few',l12',fun HF sF=>⟨_,rfl,rfl,_,rfl,?_⟩⟩;rw [ee,aeP rfl];refine gK ⟨_,rfl,u,h',rfl,hu'.same sF,ok',few',l12',fun HG sG=>⟨_,rfl,v,h,rfl,hh.same ((s6E.trans sF).trans sG),ok,few,l12,fun HH sH=>⟨rfl,_,rfl,?_⟩⟩⟩;rw [es,aeP rfl];refine gK ?_;have s6H:=((s6E.trans sF).trans sG).trans sH;have huH:=hu'.same ((sF.trans sG).trans sH);have hSH:=s6H.seq hS6;have u12:Ends h []<=479001600:=abn l12;clear ey1 ey2 hy1 hy2 yl1 yl2 eD1 eD2 hps pl lok est nD1 nD2 nDp eDp eDf nDf n0 n3 s8 s9 s10 sA sB sC sD sE sF sG sH hu';have hhH:=hh.same s6H;obtain⟨t,ha1,rr,us,ev,htH,_,hrH,hRH⟩:=id hhH;have ul:us.length=h.2.length:=hRH.1;have p63:(2:Int) ^ 63=9223372036854775808:=by decide
  refine⟨fun σ H'=>LaI a p v Df Dp u (Ends h []) HH σ H',?_,?_⟩
  ·rintro σ HI ⟨x7,rfl,sI⟩;refine⟨_,rfl,rfl,_,rfl,acN (fun _=>k _) (fun e0=>?_)⟩;have hE0:0 < Ends h []:=by
    rcases Nat.eq_zero_or_pos (Ends h []) with z | z
    ·exact absurd (by rw [z];rfl) e0
    ·exact z
   dsimp only [sZ];refine⟨_,rfl,_,_,rfl,rfl,by show 2<=sizeLine;decide,fun Ln nLn=>?_⟩;have e1:((Ends h []:Nat):Int) - 1=((Ends h [] - 1:Nat):Int):=by lia
   have eLn:(upd HI Ln (.lst [.int 0,.int (((Ends h []:Nat):Int) - 1)])) Ln=some (.lst (aM [0,Ends h [] - 1])):=by rw [af,e1];rfl
   have sLn:Same HI (upd HI Ln (.lst [.int 0,.int (((Ends h []:Nat):Int) - 1)])):=ao nLn;have nLnH:HH Ln=none:=sI.free nLn;show _;generalize upd HI Ln (.lst [.int 0,.int (((Ends h []:Nat):Int) - 1)])=HJ at *;have sJ:=sI.trans sLn;refine⟨fun σ H'=>∃ i,i<=6/\LbI a p v Df Dp u x7 (Ends h []) Ln HI i σ H',?_,?_⟩
   ·rintro σ HK ⟨i6,i6l,⟨ms,x9,rfl,eK,msl,mlt,sK2⟩⟩;have s6K:=s6H.trans (sI.trans sK2);have hhK:=hh.same s6K;have huK:=huH.same (sI.trans sK2);have msm:ms.map (fun m=>V.int ((m:Nat):Int))=(ms.map fun m=>((m:Nat):Int)).map V.int:=by rw [aeZ];rfl
    have eKi:HK Ln=some (.lst ((ms.map fun m=>((m:Nat):Int)).map V.int)):=by rw [eK];exact afy (fun z=>some (HO.lst z)) msm
    dsimp only [zr,vE,cI];refine aK _ _ _ _ _ _ _ _ _ ?_;refine⟨_,rfl,Ln,_,rfl,aAA eKi,by rw [aej];lia,fun ls ns' nls perm so=>⟨ls,rfl,⟨_,aAA af⟩,fun Do nDo=>?_⟩⟩;obtain⟨ks,rfl,kslt⟩:=zQ (ns:=ns') (n:=Ends h []) fun z hz=>by
     obtain⟨m,hm,rfl⟩:=aeL.mp (perm.mem_iff.mp hz);have:=mlt m hm;lia
    have ksl:ks.length<=8:=by
     have:=perm.length_eq;rw [aej,aej] at this;lia
    have t1:Same HK (upd HK ls (.lst ((ks.map fun m=>((m:Nat):Int)).map V.int))):=ao nls;have f1:(upd HK ls (.lst ((ks.map fun m=>((m:Nat):Int)).map V.int))) ls=some (.lst ((ks.map fun m=>((m:Nat):Int)).map V.int)):=af;generalize upd HK ls (.lst ((ks.map fun m=>((m:Nat):Int)).map V.int))=G1 at *;refine jS (R:=fun G i y=>∃ (l:Addr) (o:List Nat),y=.ref l/\G l=some (.lst (aM o))/\cf h.1 h.2 o/\o.length=h.2.length/\∀ m,ks[i]? = some m->rkF h [] o=m) (fun s ⟨l,o,e,x,y⟩=>⟨l,o,e,s _ _ x,y⟩) f1 nDo (by rw [aej,aej];lia) (fun x=>rfl) (fun G i x ys C hx sG hD r0=>?_) fun G2 os t2 eDo osl hos=>?_
    ·obtain⟨m,em,rfl⟩:∃ m,ks[i]? = some m/\x=.int ((m:Nat):Int):=by
      rw [aer,aer] at hx;cases hq:ks[i]? with
      | none=>rw [hq] at hx;cases hx
      | some n=>rw [hq] at hx;cases hx;exact⟨n,rfl,rfl⟩
     refine⟨_,rfl,_,rfl,v,h,m,rfl,(hhK.same t1).same sG,ok,few,l12,kslt m (aey em),fun l o H' s' nl el g lo rk=>r0 _ H' s' ⟨l,o,rfl,?_,g,lo,fun m' e'=>?_⟩⟩
     ·unfold ck;rw [if_neg (fun z=>?_)]
      ·exact el
      ·rw [z,hD] at nl;cases nl
     ·rw [em] at e';cases e';exact rk
    rw [aej,aej] at osl;have t12:=t1.trans t2;refine⟨fun σ H'=>LcI a p v Df Dp u (Ends h []) Ln Do G2 σ H',?_,?_⟩
    ·rintro σ H3 ⟨y7,y9,y11,y12,rfl,t3⟩;obtain⟨ls',lsl,hls⟩:=zN (P:=fun i y o=>∃ l:Addr,y=.ref l/\H3 l=some (.lst (aM o))/\cf h.1 h.2 o/\o.length=h.2.length/\∀ m,ks[i]? = some m->rkF h [] o=m) (ys:=os) fun i y e=>by
      obtain⟨l,o,e1,e2,e3⟩:=hos i y e;exact⟨o,l,e1,t3 _ _ e2,e3⟩
     have at_:∀ (i:Nat) y o,os[i]? = some y->ls'[i]? = some o->∃ l:Addr,y=.ref l/\H3 l=some (.lst (o.map fun n=>V.int ((n:Nat):Int))):=fun i y o e1 e2=>by
      obtain⟨l,e,x,_⟩:=hls i y o e1 e2;exact⟨l,e,x⟩
     have info:∀ (i:Nat) o,ls'[i]? = some o->∃ m,ks[i]? = some m/\cf h.1 h.2 o/\o.length=h.2.length/\rkF h [] o=m:=fun i o e=>by
      have hi:=(aek.mp e).1;obtain⟨l,_,_,g,lo,rk⟩:=hls i _ o (aeh (show i < os.length by lia)) e;exact⟨ks[i]'(by lia),aeh _,g,lo,rk _ (aeh _)⟩
     have eDo3:=t3 _ _ eDo;refine⟨_,rfl,_,rfl,Do,os,ls',rfl,eDo3,by lia,deep (by decide:3<=12),⟨by lia,at_,fun i l l' e1 e2=>?_⟩,fun lq nq=>?_⟩
     ·obtain⟨m1,q1,g1,l1,r1⟩:=info i l e1;obtain⟨m2,q2,g2,l2',r2⟩:=info (i+1) l' e2;have le:m1<=m2:=by
       have j1:=(aek.mp q1);have j2:=(aek.mp q2);obtain⟨h1,w1⟩:=j1;obtain⟨h2,w2⟩:=j2;have:=agv.mp so i (i+1) (by rw [aej];exact h1) (by rw [aej];exact h2) (af8 i);rw [List.getElem_map,List.getElem_map,w1,w2] at this;lia
      exact⟨by lia,vH (adA g1 l1 g2 l2' (by lia))⟩
     ·have sq:Same H3 (upd H3 lq (.lst os)):=ao nq;exact vO (sq _ _ eDo3) af (by lia) (fun i y o e1 e2=>let ⟨l,e,x⟩:=at_ i y o e1 e2;⟨l,e,sq _ _ x⟩) (deep (by decide:1<=12)) (k _)
    ·refine⟨_,rfl,Ln,_,rfl,aAA (t12 _ _ eKi),by rw [aej];lia,fun lt ns2 nlt perm2 so2=>?_⟩;have e2:ns2=ks.map fun m=>((m:Nat):Int):=fc so2 so (perm2.trans perm.symm);subst e2;have t3:Same G2 (upd G2 lt (.lst ((ks.map fun m=>((m:Nat):Int)).map V.int))):=ao nlt;have f3:(upd G2 lt (.lst ((ks.map fun m=>((m:Nat):Int)).map V.int))) lt=some (.lst ((ks.map fun m=>((m:Nat):Int)).map V.int)):=af;generalize upd G2 lt (.lst ((ks.map fun m=>((m:Nat):Int)).map V.int))=G3 at *;refine⟨_,rfl,lt,Do,rfl,⟨_,aAA f3⟩,⟨_,aAA (t3 _ _ eDo)⟩,?_⟩;refine abh (xs:=(ks.map fun m=>((m:Nat):Int)).map V.int) (ys:=os) (by rw [aej,aej];exact osl.symm) (fun i σ' H'=>∃ y7 y11 y12,σ'=[some (.ref a),some (.ref p),some v,some (.int ((Ends h []:Nat):Int)),some (.ref Df),some (.ref Dp),some u,y7,some (.ref Ln),x9,some (.ref Do),y11,y12]/\Same G3 H') ⟨_,_,_,rfl,Same.refl _⟩ (fun i σ H' _ ⟨_,_,_,_,s⟩=>⟨aAA (s _ _ f3),aAA (s _ _ (t3 _ _ eDo))⟩) ?_ (fun σ H' ⟨y7,y11,y12,e,s⟩=>.mk y7 x9 y11 y12 e (t3.trans s));rintro i x y σ H3 T hx hy ⟨y7,y11,y12,rfl,t4⟩ nT;obtain⟨m,em,rfl⟩:∃ m,ks[i]? = some m/\x=.int ((m:Nat):Int):=by
      rw [aer,aer] at hx;cases hq:ks[i]? with
      | none=>rw [hq] at hx;cases hx
      | some n=>rw [hq] at hx;cases hx;exact⟨n,rfl,rfl⟩
     obtain⟨l,o,rfl,el,g,lo,rk⟩:=hos i y hy;have rk:=rk m em;have mE:=kslt m (aey em);have t5:Same H3 (upd H3 T (.tup [.int ((m:Nat):Int),.ref l])):=ao nT;refine⟨T,_,rfl,aAB af,rfl,?_⟩;generalize upd H3 T (.tup [.int ((m:Nat):Int),.ref l])=H4' at *;have t35:=(t3.trans t4).trans t5;have sK5:=t12.trans t35;refine⟨_,_,rfl,_,_,rfl,rfl,?_⟩;have el5:=t35 _ _ el;have hh5:=hhK.same sK5;refine⟨_,rfl,_,rfl,v,l,h,o,rfl,hh5,ok,el5,by lia,l12,fun b1 H5' s5 hb1=>⟨b1,rfl,?_⟩⟩;obtain rfl:b1=true:=hb1.mpr ⟨g,lo⟩;refine gK ⟨_,rfl,_,rfl,v,h,l,o,rfl,hh5.same s5,ok,few,l12,s5 _ _ el5,fun _ _ H6' s6=>⟨_,rfl,rfl,_,rfl,?_⟩,fun no=>absurd ⟨g,lo⟩ no⟩;rw [rk,aeP rfl];refine gK ?_;have s56:=s5.trans s6;refine⟨_,rfl,_,rfl,u,h',m,rfl,(huK.same sK5).same s56,ok',few',l12',by rw [ee];exact mE,fun l' o' H7'' s7' nl' el' g' lo' rk'=>⟨_,rfl,?_⟩⟩;have go':=(al.gone o').mpr g';have eo:o'=o:=abY go' (by rw [al.len];exact lo') g lo (by rw [al.rk o' [] go',rk',rk]);subst eo;have s57:=s56.trans s7';refine pB (neg:=true) el' (s57 _ _ el5) (deep (by decide:0<=12)) ⟨_,rfl,?_⟩;rw [if_pos rfl,aeP rfl];refine gK ?_;have el7:=s57 _ _ el5;obtain⟨y,ot,eo⟩:∃ y ot,o'=y::ot:=by
      cases o' with
      | nil=>exact absurd lo (by show ¬ 0=_;lia)
      | cons y ot=>exact⟨y,ot,rfl⟩
     obtain⟨oi,z,eoz⟩:∃ oi z,o'=oi++[z]:=by
      rcases ahB o' with e | ⟨oi,z,e⟩
      ·rw [e] at lo;exact absurd lo (by show ¬ 0=_;lia)
      ·exact⟨oi,z,by rw [e,ahC]⟩
     have aty:atI (aM o') 0=some (.int ((y:Nat):Int)):=bq (j:=0) (by rw [eo];rfl);have atz:atI (aM o') (-1)=some (.int ((z:Nat):Int)):=by
      rw [eoz];unfold aM;rw [aeD];exact zB _ _
     obtain⟨cu,ecu,cul⟩:=yx o' (some 1) (some (-1));dsimp only [sZ];refine⟨_,rfl,1,rfl,l,_,-1,_,rfl,rfl,aAA el7,atz,by show 1<=sizeLine;decide,fun c1 d1=>?_⟩;have w1:Same H7'' (upd H7'' c1 (.lst [.int ((z:Nat):Int)])):=ao d1;have v1:(upd H7'' c1 (.lst [.int ((z:Nat):Int)])) c1=some (.lst (aM [z])):=af;generalize upd H7'' c1 (.lst [.int ((z:Nat):Int)])=G4 at *;refine⟨_,rfl,1,rfl,1,rfl,-1,rfl,l,_,rfl,aAA (w1 _ _ el7),fun c2 d2=>?_⟩;rw [ecu];have w2:Same G4 (upd G4 c2 (.lst (aM cu))):=ao d2;have v2:(upd G4 c2 (.lst (aM cu))) c2=some (.lst (aM cu)):=af;generalize upd G4 c2 (.lst (aM cu))=G5 at *;have bl:cu.length<=12:=by lia
     refine⟨c1,c2,_,_,rfl,rfl,w2 _ _ v1,v2,lt_size (by rw [aej,aej];show 1+_<=_;lia),fun c3 d3=>?_⟩;have w3:Same G5 (upd G5 c3 (.lst (aM [z]++aM cu))):=ao d3;have v3:(upd G5 c3 (.lst (aM [z]++aM cu))) c3=some (.lst (aM (z::cu))):=af;generalize upd G5 c3 (.lst (aM [z]++aM cu))=G6 at *;have w13:=(w1.trans w2).trans w3;refine⟨_,rfl,l,_,0,_,rfl,rfl,aAA (w13 _ _ el7),aty,by show 1<=sizeLine;decide,fun c4 d4=>?_⟩;have w4:Same G6 (upd G6 c4 (.lst [.int ((y:Nat):Int)])):=ao d4;have v4:(upd G6 c4 (.lst [.int ((y:Nat):Int)])) c4=some (.lst (aM [y])):=af;generalize upd G6 c4 (.lst [.int ((y:Nat):Int)])=G7 at *;refine⟨c3,c4,_,_,rfl,rfl,w4 _ _ v3,v4,lt_size (by rw [aej,aej,aeU];show _+1<=_;lia),fun c5 d5=>?_⟩;have w5:Same G7 (upd G7 c5 (.lst (aM (z::cu)++aM [y]))):=ao d5;have v5:(upd G7 c5 (.lst (aM (z::cu)++aM [y]))) c5=some (.lst (aM (z::cu++[y]))):=by
      rw [af];unfold aM;rw [aeD]
     generalize upd G7 c5 (.lst (aM (z::cu)++aM [y]))=G8 at *;have w15:=(w13.trans w4).trans w5;have hh8:=(hh5.same s57).same w15;have s48:=((t4.trans t5).trans s57).trans w15;refine⟨_,rfl,_,rfl,v,c5,h,z::cu++[y],rfl,hh8,ok,v5,by rw [aeo,aeU];show _+1<=_;lia,l12,fun b2 H8' s8' hb2=>⟨b2,rfl,?_⟩⟩;cases b2 with
     | true=>exact gK (gK ⟨_,_,_,rfl,s48.trans s8'⟩)
     | false=>exact ju ⟨_,rfl,_,rfl,v,c5,h,z::cu++[y],rfl,hh8.same s8',ok,few,l12,s8' _ _ v5,fun q=>absurd (hb2.mpr q) (by decide),fun H9' s9'=>⟨true,rfl,gK ⟨_,_,_,rfl,(s48.trans s8').trans s9'⟩⟩⟩
   ·refine⟨by show 2<=sizeLine;decide,fun l6 n6=>?_⟩;have s6':Same HJ (upd HJ l6 (.lst [.int 6,.int 1])):=ao n6;have e6:(upd HJ l6 (.lst [.int 6,.int 1])) l6=some (.lst [.int 6,.int 1]):=af;generalize upd HJ l6 (.lst [.int 6,.int 1])=HK at *;have sHK:=sJ.trans s6';refine⟨_,rfl,t,_,1,.ref rr,ev,rfl,aAB (sHK _ _ htH),rfl,rr,us,rfl,.inl (aAA (sHK _ _ hrH)),_,_,rfl,rfl,.inr ⟨_,rfl,?_⟩⟩;obtain⟨c,c1,ec⟩:∃ c:Nat,c<=6/\atI [V.int 6,V.int 1] (if decide ((9:Int) < ((us.length:Nat):Int))=true then 1 else 0)=some (.int ((c:Nat):Int)):=by
     by_cases e:decide ((9:Int) < ((us.length:Nat):Int))=true
     ·rw [if_pos e];exact⟨1,by lia,bq (j:=1) rfl⟩
     ·rw [if_neg e];exact⟨6,by lia,bq (j:=0) rfl⟩
    refine⟨l6,_,_,_,rfl,rfl,aAA e6,ec,(c:Int),rfl,by lia,by lia,?_⟩;rw [aeY];refine iy (fun i σ' H'=>LbI a p v Df Dp u x7 (Ends h []) Ln HI i σ' H') (.mk [0,Ends h [] - 1] none rfl (s6' _ _ eLn) rfl (fun m hm=>by
     simp only [aeu,afb,ahx] at hm;lia) (sLn.trans s6')) ?_ (fun σ' H' z=>⟨c,c1,z⟩)
    rintro i σ HL hi ⟨ms,x9,rfl,eL,msl,mlt,sL2⟩;have i0:(1:Int)+(0+((i:Nat):Int))=((1+i:Nat):Int):=by lia
    refine⟨_,rfl,.inl ⟨rfl,_,aAA eL⟩,_,rfl,_,rfl,1,_,rfl,rfl,a,1+i,ns,afy (fun z=>[V.ref a,V.int z]) i0,(s6H.trans (sI.trans sL2)).seq hS6,fun pp HM npp sM dkM=>?_⟩;refine⟨_,rfl,pp,((Ends h []:Nat):Int),rfl,dkM,by lia,by lia,fun rd HN rd0 rd1 dkN bN=>?_⟩;have nep:Ln≠pp:=ar eL npp;obtain⟨d,rfl⟩:∃ d:Nat,rd=(d:Int):=⟨rd.toNat,by lia⟩;have eN:=bN _ _ nep (sM _ _ eL);refine⟨Ln,_,_,rfl,rfl,eN,by rw [aej];exact aeB (show ms.length < 1000 by lia) (by decide),?_⟩;refine .mk (ms++[d]) _ rfl (by rw [af];unfold aM;rw [aeD];rfl) (by rw [aeo,msl];rfl) (fun m hm=>?_) (bU (fun b u e=>bN _ _ (ar (sL2 _ _ e) npp) (sM _ _ (sL2 _ _ e))) nLn);rcases aew.mp hm with z | z
    ·exact mlt m z
    ·rw [aeq] at z;lia
  ·refine⟨_,rfl,t,_,1,.ref rr,ev,rfl,aAB htH,rfl,rr,us,rfl,.inl (aAA hrH),by show 1<=sizeLine;decide,fun o1 m1=>?_⟩;rw [ul];have t1:Same HH (upd HH o1 (.lst [.int ((h.2.length:Nat):Int)])):=ao m1;have f1:(upd HH o1 (.lst [.int ((h.2.length:Nat):Int)])) o1=some (.lst (aM [h.2.length])):=af;generalize upd HH o1 (.lst [.int ((h.2.length:Nat):Int)])=G1 at *;refine⟨_,rfl,t,_,1,.ref rr,ev,rfl,aAB (t1 _ _ htH),rfl,rr,us,rfl,.inl (aAA (t1 _ _ hrH)),_,_,rfl,rfl,h.2.length - 1,afy (fun z=>[V.int z]) (by rw [ul];lia:((us.length:Nat):Int) - 1=((h.2.length - 1:Nat):Int)),by lia,fun o2 m2=>?_⟩;have t2:Same G1 (upd G1 o2 (.lst ((List.range (h.2.length - 1)).map fun i=>V.int (i:Nat)))):=ao m2;have f2:(upd G1 o2 (.lst ((List.range (h.2.length - 1)).map fun i=>V.int (i:Nat)))) o2=some (.lst (aM (List.range (h.2.length - 1)))):=af;generalize upd G1 o2 (.lst ((List.range (h.2.length - 1)).map fun i=>V.int (i:Nat)))=G2 at *;refine⟨by show 1<=sizeLine;decide,fun lz mz=>?_⟩;have t3:Same G2 (upd G2 lz (.lst [.int 0])):=ao mz;have f3:(upd G2 lz (.lst [.int 0])) lz=some (.lst [.int 0]):=af;generalize upd G2 lz (.lst [.int 0])=G3 at *;have t03:=(t1.trans t2).trans t3;refine⟨_,rfl,t,_,1,.ref rr,ev,rfl,aAB (t03 _ _ htH),rfl,rr,us,rfl,.inl (aAA (t03 _ _ hrH)),lz,_,[.int 0],rfl,rfl,f3,by lia,by lia,?_,fun o3 m3=>?_⟩
   ·show 1 * (((us.length:Nat):Int)).toNat<=sizeLine;exact aeN (show _<=1000 by rw [aeY,ul];lia) (by decide)
   rw [aeY,ul,zG];have t4:Same G3 (upd G3 o3 (.lst (aM (List.replicate h.2.length 0)))):=ao m3;have f4:(upd G3 o3 (.lst (aM (List.replicate h.2.length 0)))) o3=some (.lst (aM (List.replicate h.2.length 0))):=af;generalize upd G3 o3 (.lst (aM (List.replicate h.2.length 0)))=G4 at *;refine⟨by show 3<=sizeLine;decide,fun l4 m4=>?_⟩;have t5:Same G4 (upd G4 l4 (.lst [.ref o1,.ref o2,.ref o3])):=ao m4;have f5:(upd G4 l4 (.lst [.ref o1,.ref o2,.ref o3])) l4=some (.lst [.ref o1,.ref o2,.ref o3]):=af;have t05:=(t03.trans t4).trans t5;have bad:∀ x∈([.ref o1,.ref o2,.ref o3]:List V),∃ (l:Addr) (o:List Nat),x=.ref l/\(upd G4 l4 (.lst [.ref o1,.ref o2,.ref o3])) l=some (.lst (aM o))/\¬ (cf h.1 h.2 o/\o.length=h.2.length):=fun x hx=>by
    simp only [aeu,afb,ahx] at hx;rcases hx with e | e | e
    ·exact⟨o1,_,e,t5 _ _ (t4 _ _ (t3 _ _ (t2 _ _ f1))),aaJ⟩
    ·exact⟨o2,_,e,t5 _ _ (t4 _ _ (t3 _ _ f2)),xY (by lia)⟩
    ·exact⟨o3,_,e,t5 _ _ f4,zS (by lia)⟩
   generalize upd G4 l4 (.lst [.ref o1,.ref o2,.ref o3])=G5 at *;generalize ([.ref o1,.ref o2,.ref o3]:List V)=bads at *;refine⟨l4,rfl,⟨_,aAA f5⟩,?_⟩;refine dI (xs:=bads) (fun i σ' H'=>∃ x7,σ'=[some (.ref a),some (.ref p),some v,some (.int ((Ends h []:Nat):Int)),some (.ref Df),some (.ref Dp),some u,x7,none,none,none,none,none]/\Same G5 H') ⟨none,rfl,Same.refl _⟩ (fun i σ H' _ ⟨_,_,s⟩=>aAA (s _ _ f5)) ?_ (fun σ H' ⟨x7,e,s⟩=>.mk x7 e (t05.trans s));rintro i x σ HL hx ⟨x7,rfl,sL⟩;obtain⟨l,o,rfl,hl,no⟩:=bad x (aey hx);exact⟨_,rfl,_,rfl,v,l,h,o,rfl,hhH.same (t05.trans sL),ok,few,l12,sL _ _ hl,no,fun HM sM=>⟨true,rfl,gK ⟨_,rfl,sL.trans sM⟩⟩⟩
end
abbrev bmV:List Value:=[.type "ValueError",.type "Exception",.type "BaseException",.type "object"]
def xp (es:Array DictEntry):Bool:=es.toList.all fun e=>match e.key with | .str _ _=>true | _=>false
theorem adT {K:PySem.W.Frag}{N:Addr}{nc:Value}{nd:Option Addr}{es:Array DictEntry}{ep:Nat}{nsl:Array (Option Value)}(y:K.lookup N=some ⟨nc,nd,.dict es ep,nsl⟩)(s:xp es=true):nsOkIn K N=true:=by
 unfold nsOkIn;rw [y];show es.all _=true;rw [← Array.all_toList];exact s
theorem vN {K:PySem.W.Frag}:tailIn K bmV bmV=true:=by
 rw [ai9];show ((bmV == bmV) || _)=true;rw [show (bmV == bmV)=true by decide,Bool.true_or]
theorem ab0 {h:Heap}{C:Addr}{bm:List Value}(t:OwnTail h bmV (.ref C::bm)):∃ (c0:Value) (dd:Option Addr) (cd:ClassData) (sl:Array (Option Value)) (mA:Str->Option Value),h.get? C=some { cls:=c0,dict:=dd,data:=.cls cd,slots:=sl }/\h.Ns cd.ns mA/\mA "__init__" = none/\OwnTail h bmV bm:=by
 generalize e:(Value.ref C::bm)=l at t;cases t with
 | base=>cases e
 | own a b c d=>cases e;exact⟨_,_,_,_,_,a,b,c,d⟩
section
variable {K:PySem.W.Frag}{C N:Addr}{bm:List Value}{nm q:Str}{bs:List Value}{hdct:Bool}{sn:List Str}{sub:List Value}{ab:Bool}{col:Option Bool}{dd:Option Addr}{k0 k1 k2 k3 k5:Option Value}
theorem qJ (x:K.lookup C=some (excClassObj nm q C N bs bm hdct sn sub ab col dd k0 k1 k2 k3 k5 "ValueError.__new__"))(ok:nsOkIn K N=true)(i:nsIn K N "__init__" = some none)(t:tailIn K bmV bm=true):tailIn K bmV (.ref C::bm)=true:=by
 rw [ai9];simp only [x,ok,i,t];rw [show ((some none:Option (Option Value)) == some none)=true from rfl];simp
theorem adk {h:Heap}(l:K.lookup C=some (excClassObj nm q C N bs bm hdct sn sub ab col dd k0 k1 k2 k3 k5 "ValueError.__new__"))(t:tailIn K bmV (.ref C::bm)=true)(kin:K.In h):h.get? C=some (excClassObj nm q C N bs bm hdct sn sub ab col dd k0 k1 k2 k3 k5 "ValueError.__new__")/\(∃ mA,h.Ns N mA/\mA "__init__" = none)/\OwnTail h bmV bm:=by
 have g:=kin C _ l;obtain⟨c0,d0,cd,sl,mA,g',ns,i,tl⟩:=ab0 (PySem.W.tail_of_in kin t);rw [g] at g';cases g';exact⟨g,⟨mA,ns,i⟩,tl⟩
theorem acp {nc:Value}{nd:Option Addr}{es:Array DictEntry}{ep:Nat}{nsl:Array (Option Value)}(l:K.lookup C=some (excClassObj nm q C N bs bm hdct sn sub ab col dd k0 k1 k2 k3 k5 "ValueError.__new__"))(lN:K.lookup N=some ⟨nc,nd,.dict es ep,nsl⟩)(t:tailIn K bmV (.ref C::bm)=true)(b:bm.contains (.type "BaseException")=true):nK K C bm:=by
 refine⟨nm,q,N,bs,bmV,hdct,sn,sub,ab,col,dd,k0,k1,k2,k3,k5,"ValueError","ValueError","ValueError.__new__","ValueError.__new__","ValueError.__init__","ValueError.__init__",bmV,(fun n=>if n = "__init__" then none else nsFind es n),ah6,by decide,ah6,b,if_pos rfl,fun h kin=>?_⟩;obtain⟨g,⟨mA,⟨o,es',ep',g1,g2,g3,g4⟩,i⟩,tl⟩:=adk l t kin;refine⟨g,⟨o,es',ep',g1,g2,g3,fun n=>?_⟩,tl⟩;have:=kin N _ lN;rw [g1] at this;cases this;cases g2;show nsFind es n=if n = "__init__" then none else nsFind es n
 by_cases e:n = "__init__"
 ·rw [if_pos e,e];exact (g4 _).trans i
 ·rw [if_neg e]
end
structure Has (K:PySem.W.Frag)(x:Str)(st:Stmt)(f:Addr)(fd:FuncData):Prop where
 a:nsIn K mainGlobals x=some (some (.ref f))
 F:Fun K x x st f fd
theorem Has.c1 {K:PySem.W.Frag}{h:Heap}{mg:Str->Option Value}{n:Str}{st:Stmt}{f:Addr}{fd:FuncData}{p0:Str}(H:Has K n st f fd)(X:K.In h)(G:h.Ns mainGlobals mg)(b:∀ (kV doc pm:Value) (an:Option Addr) (cdv ct x:Value),bindArgs (fnOf n n (gc st) (bZ st) (ai st) .none kV doc pm an cdv ct) ⟨[x],[]⟩=pure [(p0,x)]):Cal K mg n [p0] f fd :=
 ⟨agd X G H.a,H.F.kp,H.F.binds fun kV doc pm an cdv ct us hl=>match us,hl with | [x],_=>b kV doc pm an cdv ct x⟩
theorem Has.c2 {K:PySem.W.Frag}{h:Heap}{mg:Str->Option Value}{n:Str}{st:Stmt}{f:Addr}{fd:FuncData}{p0 p1:Str}(H:Has K n st f fd)(X:K.In h)(G:h.Ns mainGlobals mg)(b:∀ (kV doc pm:Value) (an:Option Addr) (cdv ct x y:Value),bindArgs (fnOf n n (gc st) (bZ st) (ai st) .none kV doc pm an cdv ct) ⟨[x,y],[]⟩=pure [(p0,x),(p1,y)]):Cal K mg n [p0,p1] f fd :=
 ⟨agd X G H.a,H.F.kp,H.F.binds fun kV doc pm an cdv ct us hl=>match us,hl with | [x,y],_=>b kV doc pm an cdv ct x y⟩
theorem Has.c3 {K:PySem.W.Frag}{h:Heap}{mg:Str->Option Value}{n:Str}{st:Stmt}{f:Addr}{fd:FuncData}{p0 p1 p2:Str}(H:Has K n st f fd)(X:K.In h)(G:h.Ns mainGlobals mg)(b:∀ (kV doc pm:Value) (an:Option Addr) (cdv ct x y z:Value),bindArgs (fnOf n n (gc st) (bZ st) (ai st) .none kV doc pm an cdv ct) ⟨[x,y,z],[]⟩=pure [(p0,x),(p1,y),(p2,z)]):Cal K mg n [p0,p1,p2] f fd :=
 ⟨agd X G H.a,H.F.kp,H.F.binds fun kV doc pm an cdv ct us hl=>match us,hl with | [x,y,z],_=>b kV doc pm an cdv ct x y z⟩
set_option autoImplicit true in
theorem all_mk {l:PySem.W.OpenLaw}{w:World}{K:PySem.W.Frag}{h:Heap}{mg:Str->Option Value}{fa:Addr}(X:K.In h)(G:h.Ns mainGlobals mg)(hfa:mg "law" = some (.ref fa))
 (nV:Has K "is_whole" jm f_is_whole d_is_whole)
 (qE:Has K "is_kind" qD f_is_kind d_is_kind)
 (lF:Has K "are_kinds" mT f_are_kinds d_are_kinds)
 (lD:Has K "are_locks" vM f_are_locks d_are_locks)
 (rq:Has K "is_room" abq f_is_room d_is_room)
 (oj:Has K "is_house" ng f_is_house d_is_house)
 (ip:Has K "require_house" adE f_require_house d_require_house)
 (ni:Has K "with_room" hZ f_with_room d_with_room)
 (n9:Has K "has_room" i8 f_has_room d_has_room)
 (kE:Has K "set_of_all" gw f_set_of_all d_set_of_all)
 (nQ:Has K "steps_of" jh f_steps_of d_steps_of)
 (qO:Has K "ends_of" iL f_ends_of d_ends_of)
 (p6:Has K "ways_of" iM f_ways_of d_ways_of)
 (gm:Has K "how_many_orders" dj f_how_many_orders d_how_many_orders)
 (mO:Has K "nth_order" ig f_nth_order d_nth_order)
 (gn:Has K "number_of_order" cy f_number_of_order d_number_of_order)
 (gH:Has K "how_many_stuck" cJ f_how_many_stuck d_how_many_stuck)
 (mH:Has K "_law_pool" gP f__law_pool d__law_pool)
 (mP:Has K "_law_draw" gM f__law_draw d__law_draw)
 (kC:Has K "_law_kinds" eB f__law_kinds d__law_kinds)
 (kN:Has K "_law_words" gD f__law_words d__law_words)
 (kK:Has K "_law_house" gC f__law_house d__law_house)
 (lV:Has K "_law_next" fB f__law_next d__law_next)
 (lT:Has K "_law_left" ir f__law_left d__law_left)
 (kD:Has K "_law_named" bO f__law_named d__law_named)
 (lA:Has K "_law_gone" gY f__law_gone d__law_gone)
 (gR:Has K "_law_no_order" dW f__law_no_order d__law_no_order)
 (aC:nsIn K mainGlobals "Doors" = some (some (.ref C)))
 (ainit:findIn K (.ref C) "__init__" = some (some (.ref finit)))(iinit:isFn K (.ref finit)=true)(Finit:Fun K "__init__" "Doors.__init__" aO finit dinit)
 (ahand_with:findIn K (.ref C) "hand_with" = some (some (.ref fhand_with)))(ihand_with:isFn K (.ref fhand_with)=true)(Fhand_with:Fun K "hand_with" "Doors.hand_with" df fhand_with dhand_with)
 (anext_behind:findIn K (.ref C) "next_behind" = some (some (.ref fnext_behind)))(inext_behind:isFn K (.ref fnext_behind)=true)(Fnext_behind:Fun K "next_behind" "Doors.next_behind" aP fnext_behind dnext_behind)
 (pg:plainGet K C Str.empty=true)(hd:hasDictIn K C=true)(po:plainOver K C=true)(sa:findIn K (.ref C) "__setattr__" = some (some (.builtin "object.__setattr__")))(mk:makesIn K C=true)(kc:keepIn K (.ref C)=true)
 (n1:findIn K (.ref C) "at_first" = some none)(n2:findIn K (.ref C) "wants" = some none)(n3:findIn K (.ref C) "changes" = some none)
 (as:nsIn K mainGlobals "require_small" = some (some (.ref fs9)))(Fs:FunD K "require_small" "require_small" cU Ts9 fs9 ds9)(ts:K.lookup Ts9=some ⟨ots9,ods9,.seq #[.int 12 tk9] ns9,sls9⟩)
 (al:nsIn K mainGlobals "law" = some (some (.ref fl9)))(Fl:Fun K "law" "law" adi fl9 dl9)(bl:∀ (s:Shared) (v:Value),BindsTo s dl9 ⟨[v],[]⟩ [("script",v)])
 (g_LETTERS:nsIn K mainGlobals "LETTERS" = some (some (.str lettersS t_LETTERS)))
 (g_MOST_LETTERS:nsIn K mainGlobals "MOST_LETTERS" = some (some (.int 4 t_MOST_LETTERS)))
 (g_MOST_LOCKS:nsIn K mainGlobals "MOST_LOCKS" = some (some (.int 4 t_MOST_LOCKS)))
 (z_isinstance:nsIn K mainGlobals "isinstance" = some none)
 (z_str:nsIn K mainGlobals "str" = some none)
 (z_len:nsIn K mainGlobals "len" = some none)
 (z_all:nsIn K mainGlobals "all" = some none)
 (z_list:nsIn K mainGlobals "list" = some none)
 (z_tuple:nsIn K mainGlobals "tuple" = some none)
 (z_sorted:nsIn K mainGlobals "sorted" = some none)
 (z_range:nsIn K mainGlobals "range" = some none)
 (z_set:nsIn K mainGlobals "set" = some none)
 (z_int:nsIn K mainGlobals "int" = some none)
 (z_enumerate:nsIn K mainGlobals "enumerate" = some none)
 (z_bool:nsIn K mainGlobals "bool" = some none)
 (z_reversed:nsIn K mainGlobals "reversed" = some none)
 (z_sum:nsIn K mainGlobals "sum" = some none)
 (z_zip:nsIn K mainGlobals "zip" = some none)
 (n_K:nsIn K mainGlobals "KeyroomError" = some (some (.ref cK)))
 (n_O:nsIn K mainGlobals "NoOrder" = some (some (.ref cO)))
 (x_K:K.lookup cK=some (excClassObj nmK qnK cK NK bsK bmV hdK snK sbK abK coK ddK kaK kbK kcK kdK keK "ValueError.__new__"))
 (y_K:K.lookup NK=some ⟨ncK,ndK,.dict esK epK,nsK⟩)
 (s_K:xp esK=true)
 (i_K:nsIn K NK "__init__" = some none)
 (v_K:List.contains (bmV) (.type "BaseException")=true)
 (x_O:K.lookup cO=some (excClassObj nmO qnO cO NO bsO (.ref cK::bmV) hdO snO sbO abO coO ddO kaO kbO kcO kdO keO "ValueError.__new__"))
 (y_O:K.lookup NO=some ⟨ncO,ndO,.dict esO epO,nsO⟩)
 (s_O:xp esO=true)
 (i_O:nsIn K NO "__init__" = some none)
 (v_O:List.contains (Value.ref cK::bmV) (.type "BaseException")=true)
 : ∃ fd:FuncData,(∀ (s:Shared) (v:Value),BindsTo s fd ⟨[v],[]⟩ [("script",v)])/\∀ base:Heap,K.In base->base.Ns mainGlobals mg->FnOk l.prog w K mg base CX0 10 fa fd ["script"] (yo K):=by
 have e:=hfa.symm.trans (agd X G al);cases e;have eQ:=nV.c1 (p0 := "thing") X G fun _ _ _ _ _ _ _=>rfl;have yk:=qE.c1 (p0 := "thing") X G fun _ _ _ _ _ _ _=>rfl;have jf:=lF.c1 (p0 := "thing") X G fun _ _ _ _ _ _ _=>rfl;have rP:=lD.c1 (p0 := "thing") X G fun _ _ _ _ _ _ _=>rfl;have wG:=rq.c1 (p0 := "thing") X G fun _ _ _ _ _ _ _=>rfl;have uN:=oj.c1 (p0 := "thing") X G fun _ _ _ _ _ _ _=>rfl;have fh:=ip.c1 (p0 := "thing") X G fun _ _ _ _ _ _ _=>rfl;have aD:=ni.c2 (p0 := "opened") (p1 := "number") X G fun _ _ _ _ _ _ _ _=>rfl;have j9:=n9.c2 (p0 := "opened") (p1 := "number") X G fun _ _ _ _ _ _ _ _=>rfl;have bR:=kE.c1 (p0 := "house") X G fun _ _ _ _ _ _ _=>rfl;have bD:=nQ.c1 (p0 := "house") X G fun _ _ _ _ _ _ _=>rfl;have dq:=qO.c2 (p0 := "steps") (p1 := "whole") X G fun _ _ _ _ _ _ _ _=>rfl;have mi:=p6.c1 (p0 := "steps") X G fun _ _ _ _ _ _ _=>rfl;have bV:=gm.c1 (p0 := "house") X G fun _ _ _ _ _ _ _=>rfl;have gA:=mO.c2 (p0 := "house") (p1 := "k") X G fun _ _ _ _ _ _ _ _=>rfl;have aH:=gn.c2 (p0 := "house") (p1 := "order") X G fun _ _ _ _ _ _ _ _=>rfl;have bL:=gH.c1 (p0 := "house") X G fun _ _ _ _ _ _ _=>rfl;have gu:=mH.c2 (p0 := "script") (p1 := "k") X G fun _ _ _ _ _ _ _ _=>rfl;have ax:=mP.c2 (p0 := "pool") (p1 := "many") X G fun _ _ _ _ _ _ _ _=>rfl;have dN:=kC.c3 (p0 := "pool") (p1 := "many") (p2 := "kinds") X G fun _ _ _ _ _ _ _ _ _=>rfl;have gU:=kN.c1 (p0 := "pool") X G fun _ _ _ _ _ _ _=>rfl;have hU:=kK.c2 (p0 := "pool") (p1 := "many") X G fun _ _ _ _ _ _ _ _=>rfl;have dz:=lV.c2 (p0 := "house") (p1 := "order") X G fun _ _ _ _ _ _ _ _=>rfl;have jg:=lT.c2 (p0 := "house") (p1 := "k") X G fun _ _ _ _ _ _ _ _=>rfl;have ik:=kD.c1 (p0 := "house") X G fun _ _ _ _ _ _ _=>rfl;have gp:=lA.c2 (p0 := "house") (p1 := "order") X G fun _ _ _ _ _ _ _ _=>rfl;have de:=gR.c2 (p0 := "house") (p1 := "order") X G fun _ _ _ _ _ _ _ _=>rfl;have binit:=Finit.binds (ps:=["self","house"]) fun _ _ _ _ _ _ us hl=>match us,hl with | [_,_],_=>rfl
 have bhand_with:=Fhand_with.binds (ps:=["self","hand","number"]) fun _ _ _ _ _ _ us hl=>match us,hl with | [_,_,_],_=>rfl
 have bnext_behind:=Fnext_behind.binds (ps:=["self","opened","hand"]) fun _ _ _ _ _ _ us hl=>match us,hl with | [_,_,_],_=>rfl
 have vq:=agd X G g_LETTERS;have mR:=agd X G g_MOST_LETTERS;have o5:=agd X G g_MOST_LOCKS;have bo:=ae5 X G z_isinstance;have ady:=ae5 X G z_str;have dv:=ae5 X G z_len;have yn:=ae5 X G z_all;have cF:=ae5 X G z_list;have yh:=ae5 X G z_tuple;have aU:=ae5 X G z_sorted;have bW:=ae5 X G z_range;have aaQ:=ae5 X G z_set;have me:=ae5 X G z_int;have aR:=ae5 X G z_enumerate;have vP:=ae5 X G z_bool;have ko:=ae5 X G z_reversed;have jW:=ae5 X G z_sum;have aaS:=ae5 X G z_zip;have bS:=vh Fs ts;have mS:=agd X G as;refine⟨dl9,bl,fun base _ _=>?_⟩;have DC:qA K C:=⟨⟨pg,hd,po,sa⟩,n1,n2,n3⟩;have Gl:Glb mg:=⟨bo,ady,dv,yn,⟨_,vq⟩,⟨_,mR⟩⟩;have GK:=yI (P:=l.prog) (w:=w) (base:=base) lF.F qE.F yk Gl cF;have GL:=yP lD.F GK jf dv aU ⟨_,o5⟩;have GR:=aau rq.F GL rP GK jf bo dv yh;have GH:=ze oj.F GR wG GK jf bo dv yh cF yn;have GQ:=acv ip.F GH uN;have GS:=zE Fs GQ fh dv;have GA:=aaO (P:=l.prog) (w:=w) (mg:=mg) (base:=base) kE.F dv;have Gw:=aaD (P:=l.prog) (w:=w) (mg:=mg) (base:=base) ni.F;have Gh:=acr (P:=l.prog) (w:=w) (mg:=mg) (base:=base) n9.F;have D1:=zU (P:=l.prog) (w:=w) (mg:=mg) (base:=base) Finit DC aU aR;have D2:=zD (P:=l.prog) (w:=w) (mg:=mg) (base:=base) Fhand_with DC cF;have D3:=zK Fnext_behind DC Gh j9 aR yn;have GT:=zh nQ.F DC ⟨pg,hd,po,sa⟩ ⟨mk,ainit,iinit,kc⟩ (agd X G aC) D1 binit ⟨anext_behind,inext_behind,Fnext_behind.kp⟩ D3 bnext_behind ⟨ahand_with,ihand_with,Fhand_with.kp⟩ D2 bhand_with Gw aD;have W1:=zC (P:=l.prog) (w:=w) (mg:=mg) (base:=base) nV.F vP me bo;have t_K:=qJ x_K (adT y_K s_K) i_K vN;have t_O:=qJ x_O (adT y_O s_O) i_O t_K;have xO:=acp x_O y_O t_O v_O;have m_O:=agd X G n_O;have E1:=aa5 qO.F Gw aD cF ko jW;have E2:=aaW p6.F Gw aD;have E3:=aaB gm.F GS mS Fs.kp bS GT bD GA bR E1 dq;have E4:=zJ gH.F GS mS Fs.kp bS GT bD E2 mi jW;have E5:=acP mO.F GS mS Fs.kp bS GT bD GA bR E1 dq Gw aD W1 eQ;have E6:=abZ gn.F GS mS Fs.kp bS GT bD GA bR E1 dq Gw aD W1 eQ bo cF jW m_O xO;have L1:=yM (P:=l.prog) (w:=w) (mg:=mg) (base:=base) mH.F dv me;have L2:=abm (P:=l.prog) (w:=w) (mg:=mg) (base:=base) mP.F;have L3:=xj kC.F L2 ax dv bW;have L4:=vS kN.F L2 ax bW;have L5:=wz kK.F L2 ax L3 dN L4 gU bW aU;have L6:=yu (P:=l.prog) (w:=w) (mg:=mg) (base:=base) lV.F dv cF bW;have L7:=yK lA.F L6 dz dv cF bW aR aU;have L8:=zt (P:=l.prog) (w:=w) (mg:=mg) (base:=base) lT.F cF;have L9:=yT gR.F E6 aH m_O xO;have M1:=wF (P:=l.prog) (w:=w) (mg:=mg) (base:=base) kD.F aU aaQ aR;exact ab9 Fl L1 gu L2 ax L5 hU L6 dz L8 jg M1 ik L7 gp L9 de E3 bV E4 bL E5 gA (FnOk.calm E6) aH me dv cF bW aU jW aaS
theorem walk {l:PySem.W.OpenLaw}{q:Program}{loose:List Str}{XP:(Str->Option Value)->Heap->Prop}{YP:World->Heap->Prop}{d:DefRec}{K:Params->PySem.W.Frag}(hn:l.most=some 63)(hdf:d.params.defaults=[])
 (hY:∀ (w:World) (h:Heap),YP w h->(K w.params).In h)
 (F:∀ (w:World) (mg:Str->Option Value) (fa:Addr) (h:Heap),(K w.params).In h->h.Ns mainGlobals mg->mg d.name=some (.ref fa) →
  ∃ fd:FuncData,(∀ (s:Shared) (u:Value),BindsTo s fd ⟨[u],[]⟩ [("script",u)])/\∀ base:Heap,(K w.params).In base->base.Ns mainGlobals mg->FnOk l.prog w (K w.params) mg base CX0 10 fa fd ["script"] (yo (K w.params))) :
 PySem.W.WalkO q loose XP YP l.row.toRowW d [] (fun f vs=>PySem.call f vs) :=
 L2.walk_of (n:=63) (k:=10) (x := "script") (CX:=fun _=>CX0) (sp:=fun w=>yo (K w.params)) hn (by decide) hdf ⟨rfl,by decide,by decide⟩ hY F (fun _ _ a ns hl _ hS=>⟨a,ns,rfl,hS,fun _=>rfl⟩) fun _ _ _ _ _ z=>z
end K7
namespace PySem.W.Fast
def tw10063491758596054422:=0
def tw1026876100645834492:=0
def tw10484457707655700386:=0
def tw1101614556765083467:=0
def tw11269314567955199030:=0
def tw11533753316380445805:=0
def tw11539646859019052289:=0
def tw11567071970302147929:=0
def tw122852382641901186:=0
def tw12302618888580115724:=0
def tw12707803775203155501:=0
def tw12762366180102066654:=0
def tw13065064057984570557:=0
def tw1329214563717509606:=0
def tw13325711196956862622:=0
def tw13413914274485607649:=0
def tw13563115195506060684:=0
def tw13928181538281276182:=0
def tw13960075993125679202:=0
def tw14139783902222143363:=0
def tw14314808703945876263:=0
def tw14505503163703112825:=0
def tw14543398367854850559:=0
def tw14797037364234329118:=0
def tw14918704470763199811:=0
def tw15106475938117432064:=0
def tw16037405120181670411:=0
def tw16196228526664997980:=0
def tw16390179673583502727:=0
def tw16475518176316783250:=0
def tw16764157667964296364:=0
def tw16820875162589515423:=0
def tw17255219030376499873:=0
def tw17338174972306224250:=0
def tw17524594148014626043:=0
def tw17641979410469802979:=0
def tw17789643654512306691:=0
def tw17934691082046243178:=0
def tw1798950512927423181:=0
def tw1944816735915023416:=0
def tw2092671287893681716:=0
def tw2195341744224368786:=0
def tw222271049829914201:=0
def tw2526165264041320019:=0
def tw2828970735511732690:=0
def tw3231540594004158475:=0
def tw3283688770266905896:=0
def tw3300908006402782371:=0
def tw3656797614122961608:=0
def tw3884444091320809825:=0
def tw4331622915675408106:=0
def tw4787476533899470313:=0
def tw4836076777266763215:=0
def tw4939709700022784256:=0
def tw5233281307544108308:=0
def tw5420373183194201037:=0
def tw554316247257380630:=0
def tw5873542303879746774:=0
def tw5967403031422987158:=0
def tw6277573608395259037:=0
def tw631995341284757840:=0
def tw6544577490918591131:=0
def tw6614295346914331782:=0
def tw6794880165539932882:=0
def tw6889999004163718311:=0
def tw7088274891521296221:=0
def tw7299697588064342077:=0
def tw7571570738293878127:=0
def tw7609903865132879611:=0
def tw7653988261790554027:=0
def tw8291537229057230306:=0
def tw8726486307176015002:=0
def tw8727944279690767740:=0
def tw8825579337893332059:=0
def tw9870073153811363504:=0
def tw9937575925216731560:=0
def tw9970108004481666839:=0
end PySem.W.Fast
open PySem PySem.W PyProof.Rows
set_option maxRecDepth 100000 in
set_option maxHeartbeats 0 in
theorem PySem.Challenge.cw_keyrooms_k29_whole_orders_of_twelve_holds : PySem.Challenge.rw_keyrooms_k29_whole_orders_of_twelve.Holds := by
  w_on; o_law; k_head; (case hw => w_witness2)
  k_fill
  refine K7.walk (l := PySem.Challenge.rw_keyrooms_k29_whole_orders_of_twelve) rfl rfl (fun w h Y => PySem.W.kIn_of Y) ?F
  case F =>
    intro w mg fa h KX G hmg
    refine' K7.all_mk KX G hmg ⟨_,L2.fun_mk _ _ _⟩ ⟨_,L2.fun_mk _ _ _⟩ ⟨_,L2.fun_mk _ _ _⟩ ⟨_,L2.fun_mk _ _ _⟩ ⟨_,L2.fun_mk _ _ _⟩ ⟨_,L2.fun_mk _ _ _⟩ ⟨_,L2.fun_mk _ _ _⟩ ⟨_,L2.fun_mk _ _ _⟩ ⟨_,L2.fun_mk _ _ _⟩ ⟨_,L2.fun_mk _ _ _⟩ ⟨_,L2.fun_mk _ _ _⟩ ⟨_,L2.fun_mk _ _ _⟩ ⟨_,L2.fun_mk _ _ _⟩ ⟨_,L2.fun_mk _ _ _⟩ ⟨_,L2.fun_mk _ _ _⟩ ⟨_,L2.fun_mk _ _ _⟩ ⟨_,L2.fun_mk _ _ _⟩ ⟨_,L2.fun_mk _ _ _⟩ ⟨_,L2.fun_mk _ _ _⟩ ⟨_,L2.fun_mk _ _ _⟩ ⟨_,L2.fun_mk _ _ _⟩ ⟨_,L2.fun_mk _ _ _⟩ ⟨_,L2.fun_mk _ _ _⟩ ⟨_,L2.fun_mk _ _ _⟩ ⟨_,L2.fun_mk _ _ _⟩ ⟨_,L2.fun_mk _ _ _⟩ ⟨_,L2.fun_mk _ _ _⟩ _ _ _ (L2.fun_mk _ _ _) _ _ (L2.fun_mk _ _ _) _ _ (L2.fun_mk _ _ _) _ _ _ _ _ _ _ _ _ _ (K7.fund_mk _ _ _) _ _ (L2.fun_mk _ _ _) ?bl _ _ _ _ _ _ _ _ _ _ _ _ _ _ _ _ _ _ _ _ _ _ ?s_K _ ?v_K _ _ ?s_O _ ?v_O
    (case bl => exact fun s v => .of_eq rfl)
    any_goals k_is
    (case s_K => first | rfl | decide | decide +kernel)
    (case v_K => first | rfl | decide | decide +kernel)
    (case s_O => first | rfl | decide | decide +kernel)
    (case v_O => first | rfl | decide | decide +kernel)
