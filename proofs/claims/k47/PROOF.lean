import PyProof.Rows.All
import Wide.All
import OpenK.AllK
import Wide.FinOn
import Lean
import PyProof.EqAt
import PyProof.EqKinds
import PyProof.TupleCall
import PyProof.Rows.SetFrom
import PyProof.SetRoads
import KE.KDictSum
import PyProof.DictCompW
import KE.KEqDict
import KE.KSortAsk
import PyProof.NeKinds
import KE.KIsAll
import KE.KxText
import PyProof.WalksEnum
import PyProof.EnumMake
import PyProof.DictItems
import PyProof.DictValues
import PyProof.DictWalks
import KE.KDictOf
import PyProof.Rows.SortStr
import KE.KDictLaws
import PyProof.ReprBulk
import KE.KRevSl
import PyProof.AttrMissHeap
import PyProof.ZipIter
import PyProof.ListRange
import PyProof.FString5
import KE.KUnpackStar
import PyProof.Rows.StrNews2
import PyProof.Rows.StrItems
import PyProof.P3In
import PyProof.StationsW
import PyProof.ExcClass3
import PyProof.RulesTry
import PyProof.RulesAs
import PyProof.NsDelKeeps
import PyProof.ExcArgsOwn
import PySem.Challenge.RW_keyrooms_k47_kinds_named_anew
set_option Elab.async false
set_option linter.all false
set_option maxRecDepth 100000
set_option maxHeartbeats 4000000
open PySem.W (instObj methodObj lookIn plainGet findIn kitOne kitx_list kitx_dict keepIn fnOf codeIn nsIn)
def zF:=@PySem.wpAny_bind
def zG:=@List.getElem?_eq_getElem
def zH:=@List.length_append
def zJ:=@List.getElem?_eq_some_iff
def zK:=@PySem.Heap.get?_push_of_some
def zL:=@List.length_map
def zM:=@PySem.wpAny_pure
def zN:=@PySem.Heap.lt_size
def zO:=@Bool.false_ne_true
def zP:=@Nat.le_refl
def zQ:=@List.mem_singleton
def zR:=@Array.length_toList
def zS:=@List.mem_append
def zT:=@List.getElem?_map
def zU:=@List.append_assoc
def zV:=@PyProof.Rows.wpS_bind
def zW:=@PySem.Heap.get?_push_size
def zX:=@Nat.lt_of_lt_of_le
def zY:=@Nat.ne_of_lt
def zZ:=@Nat.zero_le
def z4:=@List.map_cons
def z5:=@List.size_toArray
def z6:=@PyProof.Rows.wpS_pure
def z7:=@List.mem_cons_self
def z8:=@List.mem_cons_of_mem
def aaa:=@List.mem_append_right
def aab:=@List.mem_cons
def aac:=@List.mem_of_getElem?
def aad:=@List.length_take
def aae:=@List.getElem?_append_right
def aaf:=@Bool.false_eq_true
def aag:=@beq_iff_eq
def aah:=@decide_eq_false
def aai:=@Option.some.inj
def aaj:=@Nat.lt_of_le_of_lt
def aak:=@List.getElem_mem
def aal:=@PySem.wpAny_holding
def aam:=@PySem.F.plainAttrs_list
def aan:=@Nat.le_of_lt
def aao:=@Array.getElem?_toList
def aaq:=@List.length_cons
def aar:=@List.mem_flatMap
def aas:=@Nat.le_trans
def aat:=@List.take_append_drop
def aau:=@List.take_of_length_le
def aav:=@List.getElem?_append_left
def aaw:=@decide_eq_true
def aax:=@List.map_append
def aay:=@PySem.W.mg_of
def aaz:=@Nat.ne_of_gt
def aaA:=@Ne.symm
def aaB:=@PySem.W.mg_none_of
def aaE:=@Nat.add_le_add_left
def aaF:=@PySem.Around.under_plainId
def aaG:=@congrArg
def aaH:=@List.length_replicate
def aaI:=@List.not_mem_nil
def aaJ:=@List.mem_map
def aaK:=@List.append_nil
def aaL:=@Array.getElem?_eq_getElem
def aaM:=@Nat.lt_succ_of_lt
def aaN:=@PySem.PassesOwn.never
def aaO:=@List.pairwise_append
def aaP:=@List.mem_of_mem_drop
def aaQ:=@PySem.boot_len
def aaR:=@List.length_drop
def aaS:=@List.take_add_one
def aaT:=@PySem.wpAny_loadPart'
def aaU:=@List.pairwise_iff_getElem
def aaV:=@PySem.wpAny_mono
def aaW:=@List.mem_append_left
def aaX:=@PySem.wpAny_call_entry
def aaY:=@Int.toNat_natCast
def aaZ:=@PySem.codeAny_builtin
def aa0:=@PySem.F.slot_list_append
def aa1:=@PySem.F.type_list_append
def aa2:=@List.length_singleton
def aa3:=@List.map_map
def aa4:=@PyProof.Rows.wpS_forRange
def aa5:=@List.getD_eq_getElem?_getD
def aa6:=@Nat.le_succ
def aa7:=@List.flatMap_append
def aa8:=@Bool.and_eq_true
def aa9:=@List.take_length
def aba:=@PySem.Calls.call_function_entry
def abb:=@List.flatMap_cons
def abc:=@PyProof.Rows.callWith_type1
def abd:=@PySem.wpAny_truthy_bool
def abe:=@PySem.Heap.get?_push_ne
def abf:=@Array.perm_iff_toList_perm
def abg:=@List.perm_ext_iff_of_nodup
def abh:=@List.mem_of_mem_take
def abi:=@PySem.W.kia_one
def abj:=@PySem.Heap.size_push
def abk:=@List.extract_eq_take_drop
def abl:=@PySem.Heap.size_update
def abm:=@PySem.wpAny_newObj_type
def abn:=@List.getElem?_eq_none
def abo:=@List.drop_zero
def abp:=@Nat.lt_irrefl
def abq:=@if_false
def abr:=@PySem.F.plain_list_iadd
def abt:=@PySem.F.plainAttrs_dict
def abu:=@PyProof.Rows.boot_sorted
def abv:=@List.idxOf_lt_length_of_mem
def abw:=@PySem.Heap.get?_update_other
def abx:=@List.drop_of_length_le
def aby:=@List.not_lt
def abz:=@bne_self_eq_false
def abA:=@PySem.plainId_quiet
def abB:=@PySem.wpAny_newList
def abC:=@PySem.Heap.get?_update_self
def abD:=@Nat.sub_self
def abE:=@List.Perm.append_left
def abF:=@List.pairwise_cons
def abG:=@Array.toList_extract
def abH:=@List.count_le_length
def abI:=@PySem.F.slot_dict_setdefault
def abJ:=@PySem.wpAny_rule
def abK:=@List.mem_map_of_mem
def abL:=@List.Perm.append_right
def abM:=@List.flatten_singleton
def abN:=@beq_self_eq_true
def abO:=@PyProof.Rows.wpS_mono
def abP:=@List.drop_eq_getElem_cons
def abQ:=@List.mem_or_eq_of_mem_set
def abR:=@Array.toArray_toList
def abS:=@List.mem_iff_getElem
def abT:=@PySem.wpAny_passesOwn
def abU:=@List.nodup_cons
def abV:=@List.of_mem_zip
def abW:=@List.getElem?_take_of_lt
def abX:=@List.length_set
def abY:=@List.forIn_cons
def abZ:=@Nat.min_eq_left
def ab0:=@PySem.wpAny_setState_of
def ab1:=@List.ext_getElem?
def ab2:=@PyProof.Rows.entry_list_sort
def ab3:=@PyProof.Rows.KeyOrd.kle_refl
def ab4:=@beq_eq_false_iff_ne
def ab5:=@PySem.mem_of_lookup
def ab6:=@PySem.wpAny_getItem_str_slice
def ab7:=@List.eraseIdx_cons_succ
def ab8:=@List.length_eq_zero_iff
def ab9:=@PySem.Heap.SameBut.update
def aca:=@or_false
def acb:=@PyProof.Rows.listUpdate_at
def acd:=@List.flatten_append
def ace:=@List.getElem_of_mem
def acf:=@Bool.and_self
def acg:=@Nat.lt_succ_self
def ach:=@List.le_antisymm
def aci:=@PyProof.Rows.KeyOrd.kle_trans
def acj:=@decide_eq_decide
def ack:=@List.take_zero
def acm:=@PyProof.Rows.slot_list_sort
def acn:=@PyProof.Rows.args_list_sort
def aco:=@PyProof.Rows.wpS_modify
def acp:=@List.getElem?_set_self
def acq:=@PySem.Calls.callWith_builtin
def acr:=@Option.map_eq_some_iff
def acs:=@PySem.wpAny_nextOf_list_item
def acu:=@PySem.F.type_dict_setdefault
def acv:=@PySem.codeAny_mono
def acw:=@List.find?_cons
def acx:=@PySem.builtinLookup_eq_fast
def acy:=@PySem.F.plain_proto_collect
def acz:=@PySem.F.called_set
def acA:=@List.perm_append_comm
def acB:=@Classical.choose_spec
def acC:=@List.cons.injEq
def acD:=@PyProof.Rows.size_push'
def acE:=@PyProof.Rows.KeyOrd.kle_of_klt
def acF:=@List.length_eraseIdx_of_lt
def acG:=@List.getElem?_of_mem
def acH:=@PySem.wpAny_newTuple
def acI:=@List.drop_drop
def acJ:=@Nat.min_le_right
def acK:=@if_true
def acL:=@PySem.F.slot_dict_itemiterator_iter
def acM:=@PyProof.Rows.seqEpoch_at
def acN:=@PySem.Heap.get?_update_ne
def acO:=@PySem.wpAny_field
def acP:=@Int.le_refl
def acQ:=@List.map_congr_left
def acR:=@PyProof.Rows.plain_sorted
def acS:=@PyProof.Rows.entry_sorted
def acT:=@PyProof.Rows.args_sorted1
def acU:=@PyProof.Rows.listItems_at
def acV:=@Nat.zero_add
def acW:=@Bool.eq_iff_iff
def acX:=@List.getElem?_replicate
def acY:=@List.any_cons
def acZ:=@PySem.wpAny_Call_method0_late
def ac0:=@Option.map_some
def ac3:=@of_decide_eq_false
def ac4:=@List.getElem?_cons_succ
def ac5:=@PySem.Obj.data_mapFields
def ac6:=@Nat.not_lt_zero
def ac7:=@PyProof.Rows.F.plain_set_update_loop
def ac8:=@Nat.min_le_left
def ac9:=@decide_eq_true_iff
def ada:=@Bool.true_and
def adb:=@List.forIn_toArray
def ade:=@PySem.F.slot_zip_getattribute
def adf:=@Int.emod_lt_of_pos
def adg:=@List.count_eq_zero
def adh:=@List.append_cancel_left
def adi:=@PySem.F.slot_list_count
def adj:=@PySem.F.type_list_count
def adk:=@List.length_pos_of_mem
def adl:=@Array.getElem?_eq_none
def adm:=@PySem.wpAny_load
def adn:=@PySem.wpAny_pyIter_list
def ado:=@List.length_range
def adp:=@Array.toList_push
def adq:=@PySem.fits_of_scanBound
def ads:=@PyProof.Rows.kind_sorted
def adt:=@List.getElem_take
def adu:=@List.flatten_cons
def adv:=@of_decide_eq_true
def adw:=@List.eraseIdx_eq_take_drop_succ
def adx:=@PySem.wpAny_seqItems
def ady:=@List.nodup_nil
def adz:=@List.forIn_nil
def adA:=@PyProof.Rows.callWith_builtin1
def adB:=@List.map_nil
def adC:=@Nat.add_zero
def adD:=@List.lookup_cons
def adE:=@List.all_eq_true
def adF:=@PySem.wpAny_isInstance
def adG:=@PyProof.Rows.wpS_get
def adH:=@List.drop_append_of_le_length
def adI:=@List.take_append_of_le_length
def adJ:=@Array.toList_zip
def adK:=@Array.toList_map
def adL:=@List.getElem_map
def adM:=@PySem.StrLaws.seqIndex_nonneg
def adN:=@List.getElem?_set_ne
def adO:=@PyProof.Rows.entry_proto_collect'
def adP:=@List.replicate_succ'
def adQ:=@List.sum_cons
def adR:=@PySem.Value.isStrOf_shape
def adS:=@List.filterMap_cons
def adT:=@PySem.wpAny_execs_nil
def adU:=@PySem.sizeLine_eq
def adV:=@PySem.evalArgs_none
def adW:=@PySem.post_val_or_str
def adX:=@PySem.typeLookup_type
def adY:=@Array.getD_eq_getD_getElem?
def adZ:=@PyProof.Rows.list_sort_plain
def ad0:=@List.drop_length_add_append
def ad1:=@Array.Perm.refl
def ad2:=@PySem.F.slot_zip_next
def ad3:=@Int.emod_nonneg
def ad5:=@Array.getElem?_eq_some_iff
def ad6:=@List.getElem?_take_eq_none
def ad7:=@PySem.Calls.spliced_cons
def ad8:=@PySem.wpAny_Call_Name_kw
def ad9:=@PySem.wpAny_setField_rec
def aea:=@List.getElem_idxOf
def aeb:=@Int.natCast_nonneg
def aec:=@PySem.entryFor_alias
def aed:=@PySem.F.plain_extend_loop
def aee:=@PySem.wpAny_runValue
def aef:=@PyProof.Rows.sorted_out_str
def aeg:=@List.take_take
def aeh:=@List.lt_irrefl
def aei:=@List.getElem?_zip_eq_some
def aej:=@PySem.Calls.spliced_nil
def aek:=@Option.isSome_iff_exists
def aem:=@List.length_erase_of_mem
def aen:=@PySem.wpAny_pyIter_slot
def aeo:=@List.getElem_drop
def aep:=@List.pairwise_map
def aeq:=@List.Pairwise.imp_of_mem
def aer:=@PySem.F.slot_dict_values
def aes:=@List.count_append
def aet:=@PySem.wpAny_standAt
def aeu:=@List.all_cons
def aev:=@PySem.F.slot_dict_clear
def aex:=@Option.bind_eq_some_iff
def aey:=@PySem.wpAny_attempt
def aeB:=@PySem.F.slot_dict_items
def aeC:=@Nat.add_assoc
def aeD:=@List.lt_trans
def aeE:=@List.pairwise_singleton
def aeF:=@List.cons_append
def aeG:=@Option.getD_some
def aeH:=@PySem.wpAny_askSetting
def aeJ:=@PySem.wpAny_pyIter_zip
def aeK:=@Nat.le_add_right
def aeL:=@PySem.W.cellsFrom_some
def aeO:=@List.length_nil
def aeP:=@PySem.call_meetsIn
def aeR:=@List.count_cons
def aeS:=@PySem.Txt.slice_le
def aeU:=@PySem.wpAny_ite_split
def aeV:=@PySem.wpAny_typeOf
def aeZ:=@List.Pairwise.sublist
def ae0:=@List.singleton_append
def ae1:=@List.nil_append
def ae3:=@List.cons_lt_cons_iff
def ae5:=@List.length_zip
def ae7:=@PySem.F.slot_list_pop
def ae8:=@PySem.F.type_list_pop
def ae9:=@PySem.call_meets
def afh:=@List.mem_range
def afm:=@List.drop_left
def afn:=@Array.size_map
def afv:=@List.map_id
def af9:=@List.all_map
namespace L2
open PySem PySem.Spec PyProof.Rows
abbrev Key:=Sum Int Str
def qG:Key->Value->Bool
 | .inl k,v=>Value.isInt k v
 | .inr x,v=>Value.isStrOf x v
def zq (w:World):Key->Int
 | .inl k=>hashInt k
 | .inr x=>hashStr w x
theorem bL:∀ {k:Key} {v:Value},qG k v=true->(∃ i t,k=Sum.inl i/\v=Value.int i t)\/(∃ x t,k=Sum.inr x/\v=Value.str x t)
 | .inl i,v,h=>by
  obtain⟨t,e⟩:=Value.isInt_shape (k:=i) (v:=v) h;exact .inl ⟨i,t,rfl,e⟩
 | .inr x,v,h=>by
  obtain⟨t,e⟩:=adR (x:=x) (v:=v) h;exact .inr ⟨x,t,rfl,e⟩
theorem rC (i:Int)(t:Tok):qG (.inl i) (.int i t)=true:=by simp [qG,Value.isInt]
theorem tP (x:Str)(t:Tok):qG (.inr x) (.str x t)=true:=by simp [qG,Value.isStrOf]
theorem xp (a b:Int):decide ((Sum.inl a:Key)=Sum.inl b)=(a == b):=by
 by_cases e:a=b
 ·subst e;simp
 ·have h:¬ (Sum.inl a:Key)=Sum.inl b:=fun q=>e (Sum.inl.inj q);rw [aah h];exact (ab4.mpr e).symm
theorem xt (a b:Str):decide ((Sum.inr a:Key)=Sum.inr b)=decide (a=b):=by
 by_cases e:a=b
 ·subst e;simp
 ·have h:¬ (Sum.inr a:Key)=Sum.inr b:=fun q=>e (Sum.inr.inj q);rw [aah h,aah e]
theorem xg (a:Int)(b:Str):decide ((Sum.inl a:Key)=Sum.inr b)=false:=aah (fun q=>nomatch q)
theorem xS (a:Str)(b:Int):decide ((Sum.inr a:Key)=Sum.inl b)=false:=aah (fun q=>nomatch q)
def aO (prog:Program)(w:World):PySem.KeyKind prog w Key where
 is:=qG
 hash:=zq w
 inj:=fun v a b ha hb=>by
  rcases bL ha with ⟨i,t,rfl,rfl⟩ | ⟨x,t,rfl,rfl⟩
  ·rcases bL hb with ⟨j,u,rfl,e⟩ | ⟨y,u,rfl,e⟩
   ·injection e with e1 _;rw [e1]
   ·exact nomatch e
  ·rcases bL hb with ⟨j,u,rfl,e⟩ | ⟨y,u,rfl,e⟩
   ·exact nomatch e
   ·injection e with e1 _;rw [e1]
 byValue:=fun k v h=>by
  rcases bL h with ⟨i,t,rfl,rfl⟩ | ⟨x,t,rfl,rfl⟩<;>rfl
 pyHash:=fun hv h=>by
  rcases bL hv with ⟨i,t,rfl,rfl⟩ | ⟨x,t,rfl,rfl⟩
  ·exact wpAny_pyHash_int h
  ·exact wpAny_pyHash_str h
 eqBool:=fun hu hv h=>by
  rcases bL hu with ⟨i,t,rfl,rfl⟩ | ⟨x,t,rfl,rfl⟩
  ·rcases bL hv with ⟨j,u,rfl,rfl⟩ | ⟨y,u,rfl,rfl⟩
   ·rw [xp] at h;exact wpAny_eqBool_int h
   ·rw [xg] at h;exact SeqAt.EqAt.int_str i t y u _ _ _ _ h
  ·rcases bL hv with ⟨j,u,rfl,rfl⟩ | ⟨y,u,rfl,rfl⟩
   ·rw [xS] at h;exact SeqAt.EqAt.str_int x t j u _ _ _ _ h
   ·rw [xt] at h;exact wpAny_eqBool_str h
 «strs»:=fun k x t v h=>by
  rcases bL h with ⟨i,u,rfl,e⟩ | ⟨y,u,rfl,e⟩
  ·exact nomatch e
  ·injection e with e1 _
   subst e1;cases v<;>rfl
theorem nA (prog:Program)(w:World)(i:Int)(t:Tok):(aO prog w).is (.inl i) (.int i t)=true:=rC i t
theorem ju (prog:Program)(w:World)(x:Str)(t:Tok):(aO prog w).is (.inr x) (.str x t)=true:=tP x t
inductive V where
 | non | bl (b:Bool) | int (i:Int) | str (x:Str) | byt (b:Array UInt8) | flt (b:UInt64) | ref (a:Addr) | ty (n:String)
 deriving DecidableEq
def RelV:V->Value->Prop
 | .non,u=>u=Value.none
 | .bl b,u=>u=Value.bool b
 | .int i,u=>∃ t,u=Value.int i t
 | .str x,u=>∃ t,u=Value.str x t
 | .byt b,u=>∃ t,u=Value.bytes b t
 | .flt b,u=>∃ t,u=Value.float b t
 | .ref a,u=>u=Value.ref a
 | .ty n,u=>u=Value.type n
abbrev Vals:List V->List Value->Prop:=Paired RelV
theorem Vals.length {xs:List V}{us:List Value}(r:Vals xs us):xs.length=us.length:=Paired.length r
theorem Vals.get:∀ {xs:List V} {us:List Value} {i:Nat} {x:V},Vals xs us->xs[i]? = some x->∃ u,us[i]? = some u/\RelV x u
 | _,_,_,_,.nil,e=>by simp at e
 | _,_,0,_,.cons r _,e=>by simp at e;subst e;exact⟨_,rfl,r⟩
 | _,_,i+1,x,.cons _ t,e=>by
  obtain⟨u,h1,h2⟩:=Vals.get (i:=i) (x:=x) t (by simpa using e);exact⟨u,by simpa using h1,h2⟩
theorem Vals.set {x:V}{u:Value}(r:RelV x u):∀ {xs:List V} {us:List Value} (i:Nat),Vals xs us->Vals (xs.set i x) (us.set i u)
 | _,_,_,.nil=>.nil
 | _,_,0,.cons _ t=>.cons r t
 | _,_,i+1,.cons q t=>.cons q (Vals.set r i t)
theorem Vals.append:∀ {xs ys:List V} {us ws:List Value},Vals xs us->Vals ys ws->Vals (xs++ys) (us++ws)
 | _,_,_,_,.nil,s=>s
 | _,_,_,_,.cons r t,s=>.cons r (Vals.append t s)
theorem Vals.take:∀ {xs:List V} {us:List Value} (n:Nat),Vals xs us->Vals (xs.take n) (us.take n)
 | _,_,0,_=>.nil
 | _,_,_+1,.nil=>.nil
 | _,_,n+1,.cons r t=>.cons r (Vals.take n t)
theorem Vals.drop:∀ {xs:List V} {us:List Value} (n:Nat),Vals xs us->Vals (xs.drop n) (us.drop n)
 | _,_,0,r=>r
 | _,_,_+1,.nil=>.nil
 | _,_,n+1,.cons _ t=>Vals.drop n t
def RelO:Option V->Option Value->Prop
 | some v,some u=>RelV v u
 | none,none=>True
 | _,_=>False
def KV {κ:Type}:List (κ×V)->List (κ×Value)->Prop:=Paired fun (p:κ×V) (q:κ×Value)=>p.1=q.1/\RelV p.2 q.2
def kV:Key->V
 | .inl i=>.int i
 | .inr x=>.str x
inductive HO where
 | lst (xs:List V)
 | tup (xs:List V)
 | dK (kvs:List (Key×V)) | dT (kvs:List (List Key×V))
 | set (S:Int->Bool) (n:Nat)
 | ins (C dx:Addr) (fs:List (Str×V))
 | own (x:Addr)
 | xd (fs:List (Str×V))
 | met (f x:Addr)
 | rng (lo hi:Int)
 | frz (o:Obj) (u:HO)
 | tbl (ps:Array Value)
 | ext (φ:Heap->Prop)
abbrev Hp:=Addr->Option HO
def upd (H:Hp)(a:Addr)(o:HO):Hp:=fun b=>if b=a then some o else H b
theorem af {H:Hp}{a:Addr}{o:HO}:upd H a o a=some o:=by unfold upd;rw [if_pos rfl]
theorem ai {H:Hp}{a b:Addr}{o:HO}(h:b≠a):upd H a o b=H b:=by unfold upd;rw [if_neg h]
theorem kH {H:Hp}{a b:Addr}{o u:HO}(h:H a=some o)(h':H b=some u)(d:o≠u):a≠b:=by
 intro e;subst e;rw [h] at h';exact d (aai h')
theorem ag {H:Hp}{a b:Addr}{o:HO}(h:H a=some o)(h':H b=none):a≠b:=by
 intro e;subst e;rw [h] at h';cases h'
section
variable (P:Program)(w:World)
def ObjOk (H:Hp)(h:Heap)(a:Addr):HO->Prop
 | .lst xs=>xs.length<=sizeLine/\∃ (its:List Value) (n:Nat),Vals xs its/\h.get? a=some { cls:=.type "list",data:=.seq its.toArray n }
 | .tup xs=>xs.length<=sizeLine/\∃ its:List Value,Vals xs its/\IsTup h a its.toArray
 | .dK kvs=>kvs.length<=sizeLine/\(a == sysModules)=false/\∃ vs,KV kvs vs/\h.DictOf (aO P w) a vs
 | .dT kvs=>kvs.length<=sizeLine/\(a == sysModules)=false/\∃ xs:List (List Key×Addr×Value),
  Paired (fun (p:List Key×V) (q:List Key×Addr×Value)=>p.1=q.1/\H q.2.1=some (.tup (p.1.map kV))/\RelV p.2 q.2.2) kvs xs ∧
  ∃ o es ep,h.get? a=some o/\o.ExactDict/\o.data=.dict es ep/\es.toList=xs.map (entryOfKey (tupleKind (aO P w)))/\(xs.map (·.1)).Nodup
 | .set S n=>h.SetOf (intKind P w) a S n
 | .ins C dx fs=>H dx=some (.own a)/\fs.length<=1000/\dx≠a/\h.get? a=some (instObj C dx) ∧
  ∃ mA,h.Ns1 dx mA/\(∀ f,RelO (fs.lookup f) (mA f))/\PySem.Within mA (fs.map (·.1))
 | .own _=>∃ o,h.get? a=some o
 | .xd fs=>∃ mA,h.Ns1 a mA/\∀ f,RelO (fs.lookup f) (mA f)
 | .rng lo hi=>∃ t u v,h.get? a=some { cls:=.type "range",data:=.fields #[.int lo t,.int hi u,.int 1 v] }
 | .frz o u=>h.get? a=some o/\ObjOk H h a u
 | .tbl ps=>h.get? a=some { cls:=.none,data:=.fields ps }
 | .met f x=>h.get? a=some (methodObj (.ref f) (.ref x))
 | .ext φ=>φ h/\(∃ o,h.get? a=some o)/\∀ h1 h2:Heap,φ h1->(∀ o,h1.get? a=some o->h2.get? a=some o)->φ h2
def HOk (H:Hp)(h:Heap):Prop:=∀ a o,H a=some o->ObjOk P w H h a o
end
section
variable {P:Program}{w:World}{H H':Hp}{h h':Heap}{a:Addr}{o:HO}
theorem ObjOk.lt (x:ObjOk P w H h a o):a < h.objs.size:=by
 cases o with
 | lst xs=>obtain⟨_,_,_,_,e⟩:=x;exact zN e
 | tup xs=>obtain⟨_,_,_,p⟩:=x;exact p.lt
 | dK kvs=>obtain⟨_,_,_,_,o,_,_,e,_⟩:=x;exact zN e
 | dT kvs=>obtain⟨_,_,_,_,o,_,_,e,_⟩:=x;exact zN e
 | set S n=>obtain⟨o,_,_,_,e,_⟩:=x;exact zN e
 | ins C dx fs=>obtain⟨_,_,_,e,_⟩:=x;exact zN e
 | own y=>obtain⟨_,e⟩:=x;exact zN e
 | xd fs=>obtain⟨_,⟨_,_,_,e,_⟩,_⟩:=x;exact zN e
 | rng lo hi=>obtain⟨_,_,_,e⟩:=x;exact zN e
 | frz ob u=>obtain⟨e,_⟩:=x;exact zN e
 | tbl ps=>exact zN (show h.get? a=some _ from x)
 | met f y=>exact zN (show h.get? a=some _ from x)
 | ext φ=>obtain⟨_,⟨_,e⟩,_⟩:=x;exact zN e
theorem Paired.mapP {α β:Type}{F G:α->β->Prop}:∀ {l₁:List α} {l₂:List β},Paired F l₁ l₂->(∀ a b,F a b->G a b)->Paired G l₁ l₂
 | _,_,.nil,_=>.nil
 | _,_,.cons r t,f=>.cons (f _ _ r) (Paired.mapP t f)
theorem ObjOk.stay (x:ObjOk P w H h a o)(k:∀ b u,(b=a\/H b=some (.own a))->h.get? b=some u->h'.get? b=some u)
 (ho:∀ b,H b=some (.own a)->H' b=some (.own a))(ht:∀ b xs,H b=some (.tup xs)->H' b=some (.tup xs)):ObjOk P w H' h' a o:=by
 induction o with
 | lst xs=>obtain⟨z,its,n,r,e⟩:=x;exact⟨z,its,n,r,k _ _ (.inl rfl) e⟩
 | tup xs=>obtain⟨z,its,r,ob,e,c⟩:=x;exact⟨z,its,r,ob,k _ _ (.inl rfl) e,c⟩
 | dK kvs=>obtain⟨z,y,vs,r,ob,es,ep,e,c⟩:=x;exact⟨z,y,vs,r,ob,es,ep,k _ _ (.inl rfl) e,c⟩
 | dT kvs =>
  obtain⟨z,y,xs,r,ob,es,ep,e,c⟩:=x;exact⟨z,y,xs,Paired.mapP r fun p q z=>⟨z.1,ht _ _ z.2.1,z.2.2⟩,ob,es,ep,k _ _ (.inl rfl) e,c⟩
 | set S n=>obtain⟨ob,es,ep,t,e,c⟩:=x;exact⟨ob,es,ep,t,k _ _ (.inl rfl) e,c⟩
 | ins C dx fs =>
  obtain⟨d,z,ne,e,mA,⟨od,es,ep,e2,c⟩,r⟩:=x;exact⟨ho _ d,z,ne,k _ _ (.inl rfl) e,mA,⟨od,es,ep,k _ _ (.inr d) e2,c⟩,r⟩
 | own y=>obtain⟨ob,e⟩:=x;exact⟨ob,k _ _ (.inl rfl) e⟩
 | xd fs=>obtain⟨mA,⟨od,es,ep,e,c⟩,r⟩:=x;exact⟨mA,⟨od,es,ep,k _ _ (.inl rfl) e,c⟩,r⟩
 | rng lo hi=>obtain⟨t,u,v,e⟩:=x;exact⟨t,u,v,k _ _ (.inl rfl) e⟩
 | frz ob u ih=>obtain⟨e,q⟩:=x;exact⟨k _ _ (.inl rfl) e,ih q⟩
 | tbl ps =>
  have e:h.get? a=some { cls:=.none,data:=.fields ps }:=x;show h'.get? a=some { cls:=.none,data:=.fields ps };exact k a _ (.inl rfl) e
 | met f y =>
  have e:h.get? a=some (methodObj (.ref f) (.ref y)):=x;show h'.get? a=some (methodObj (.ref f) (.ref y));exact k a _ (.inl rfl) e
 | ext φ=>obtain⟨p,⟨o,e⟩,st⟩:=x;exact⟨st _ _ p fun o q=>k _ _ (.inl rfl) q,⟨o,k _ _ (.inl rfl) e⟩,st⟩
theorem HOk.lt (x:HOk P w H h)(e:H a=some o):a < h.objs.size:=(x a o e).lt
theorem HOk.fresh (x:HOk P w H h)(e:h.objs.size<=a):H a=none:=by
 cases q:H a with
 | none=>rfl
 | some u=>exact absurd (zX (x.lt q) e) (abp _)
theorem HOk.kept (x:HOk P w H h)(k:∀ b u,h.get? b=some u->h'.get? b=some u):HOk P w H h':=fun a o e =>
 (x a o e).stay (fun b u _ q=>k b u q) (fun _ q=>q) fun _ _ q=>q
theorem HOk.laid (x:HOk P w H h)(k:∀ b u,h.get? b=some u->h'.get? b=some u)(hp:h.objs.size<=a)(new:ObjOk P w (upd H a o) h' a o):HOk P w (upd H a o) h':=fun b u e=>by
 have hn:=x.fresh hp;by_cases hb:b=a
 ·subst hb;rw [af] at e;cases e;exact new
 ·rw [ai hb] at e;exact (x b u e).stay (fun c v _ q=>k c v q) (fun c q=>by rw [ai (ag q hn)];exact q) fun c xs q=>by rw [ai (ag q hn)];exact q
end
def Rd (H:Hp)(a:Addr)(u:HO):Prop:=H a=some u\/∃ o,H a=some (.frz o u)
theorem Rd.ok {P:Program}{w:World}{H:Hp}{h:Heap}{a:Addr}{u:HO}(r:Rd H a u)(x:HOk P w H h):ObjOk P w H h a u:=by
 rcases r with r | ⟨o,r⟩
 ·exact x a u r
 ·obtain⟨_,q⟩:=x a _ r;exact q
def Mut:Option HO->Prop
 | some (.lst _)=>True
 | some (.dK _)=>True
 | some (.dT _)=>True
 | some (.set _ _)=>True
 | some (.ins _ _ _)=>True
 | some (.ext _)=>True
 | _=>False
section
variable {P:Program}{w:World}{H:Hp}{h h':Heap}{x e:Addr}{o':HO}
theorem HOk.write (ok:HOk P w H h)(mu:Mut (H x))(he:e=x\/H e=some (.own x))(k:∀ b u,b≠e->h.get? b=some u->h'.get? b=some u)(heo:∃ u,h'.get? e=some u)
 (new:ObjOk P w (upd H x o') h' x o'):HOk P w (upd H x o') h':=fun b u q=>by
 have nown:∀ c y,H c=some (.own y)->c≠x:=fun c y r z=>by subst z;rw [r] at mu;exact mu
 have ntup:∀ c xs,H c=some (.tup xs)->c≠x:=fun c xs r z=>by subst z;rw [r] at mu;exact mu
 by_cases hb:b=x
 ·subst hb;rw [af] at q;cases q;exact new
 ·rw [ai hb] at q;by_cases hbe:b=e
  ·have q':H b=some (.own x):=by
    rcases he with z | z
    ·exact absurd (hbe.trans z) hb
    ·rw [hbe];exact z
   rw [q] at q';cases q';obtain⟨v,hv⟩:=heo;exact⟨v,by rw [hbe];exact hv⟩
  ·refine (ok b u q).stay (fun c v hc r=>k c v ?_ r) (fun c r=>by rw [ai (nown c b r)];exact r) fun c xs r=>by rw [ai (ntup c xs r)];exact r
   rcases hc with rfl | hc
   ·exact hbe
   ·rintro rfl;rcases he with z | z
    ·exact nown c b hc z
    ·rw [hc] at z;cases z;exact hb rfl
end
structure Un (fs ex:List Addr)(H H':Hp)(h h':Heap):Prop where
 keep:∀ b o,h.get? b=some o->H b=none->b ∉ fs->b ∉ ex->h'.get? b=some o
 slot:∀ b o,h.get? b=some o->H b=none->b∈fs->b ∉ ex->∃ sl,h'.get? b=some { o with slots:=sl }
 free:∀ b o,h.get? b=some o->H b=none->b ∉ ex->H' b=none
 there:∀ b o,h.get? b=some o->b ∉ ex->∃ o',h'.get? b=some o'
 tups:∀ b xs,H b=some (.tup xs)->H' b=some (.tup xs)
 frzs:∀ b o u,H b=some (.frz o u)->H' b=some (.frz o u)
 tbls:∀ b ps,H b=some (.tbl ps)->∃ more,H' b=some (.tbl (ps++more))
section
variable {fs fs' ex ex':List Addr}{H H1 H2:Hp}{h h1 h2 h':Heap}{a x e:Addr}{o:HO}
theorem Un.any (u:Un fs ex H H1 h h1){b:Addr}{ob:Obj}(q:h.get? b=some ob)(n:H b=none)(hx:b ∉ ex):∃ sl,h1.get? b=some { ob with slots:=sl }:=by
 by_cases hb:b∈fs
 ·exact u.slot b ob q n hb hx
 ·exact⟨ob.slots,u.keep b ob q n hb hx⟩
theorem Un.kept (k:∀ b u,h.get? b=some u->h'.get? b=some u):Un fs ex H H h h' :=
 ⟨fun b ob q _ _ _=>k b ob q,fun b ob q _ _ _=>⟨ob.slots,k b ob q⟩,fun _ _ _ n _=>n,fun b ob q _=>⟨ob,k b ob q⟩,fun _ _ q=>q,fun _ _ _ q=>q,fun _ ps q=>⟨#[],by rw [q];simp⟩⟩
theorem Un.refl:Un fs ex H H h h:=Un.kept fun _ _ q=>q
theorem Un.laid (k:∀ b u,h.get? b=some u->h'.get? b=some u)(hp:h.objs.size<=a)(hn:H a=none):Un fs ex H (upd H a o) h h' where
 keep:=fun b u q _ _ _=>k b u q
 slot:=fun b u q _ _ _=>⟨u.slots,k b u q⟩
 free:=fun b u q n _=>by rw [ai (zY (zX (zN q) hp))];exact n
 there:=fun b u q _=>⟨u,k b u q⟩
 tups:=fun b xs q=>by rw [ai (ag q hn)];exact q
 frzs:=fun b u xs q=>by rw [ai (ag q hn)];exact q
 tbls:=fun b ps q=>⟨#[],by rw [ai (ag q hn),q];simp⟩
theorem Un.write (mu:Mut (H x))(he:e=x\/H e=some (.own x))(k:∀ b u,b≠e->h.get? b=some u->h'.get? b=some u)(heo:∃ u,h'.get? e=some u):Un fs ex H (upd H x o) h h':=by
 have hx:∀ b,H b=none->b≠x:=fun b n z=>by subst z;rw [n] at mu;exact mu
 have hb:∀ b,H b=none->b≠e:=fun b n z=>by
  subst z;rcases he with r | r
  ·exact hx b n r
  ·rw [n] at r;cases r
 have hm:∀ b u,H b=some u->¬ Mut (some u)->b≠x:=fun b u q nm z=>by subst z;rw [q] at mu;exact nm mu
 refine⟨fun b u q n _ _=>k b u (hb b n) q,fun b u q n _ _=>⟨u.slots,k b u (hb b n) q⟩,fun b u q n _=>by rw [ai (hx b n)];exact n,fun b u q _=>?_,
  fun b xs q=>by rw [ai (hm b _ q fun z=>z)];exact q,fun b u xs q=>by rw [ai (hm b _ q fun z=>z)];exact q,fun b ps q=>⟨#[],by rw [ai (hm b _ q fun z=>z),q];simp⟩⟩
 by_cases hbe:b=e
 ·subst hbe;exact heo
 ·exact⟨u,k b u hbe q⟩
end
def trk (h:Heap)(H:Hp):List Addr:=(List.range h.objs.size).filter fun a=>(H a).isSome
def uO (h:Heap)(H:Hp):Heap:=PySem.W.hideAll h (trk h H)
theorem qS (h:Heap)(H:Hp):(uO h H).objs.size=h.objs.size:=PySem.W.hideAll_size _ _
theorem uB {h:Heap}{H:Hp}{b:Addr}{o:Obj}(e:h.get? b=some o)(n:H b=none):(uO h H).get? b=some o :=
 PySem.W.hideAll_get _ e fun hm=>by
  have q:(H b).isSome=true:=(List.mem_filter.mp hm).2;rw [n] at q;simp at q
theorem wW {h:Heap}{H:Hp}{b:Addr}{o:Obj}(e:(uO h H).get? b=some o):h.get? b=some o/\H b=none:=by
 have e':h.get? b=some o:=PySem.W.of_hideAll (trk h H) e;refine⟨e',?_⟩;cases q:H b with
 | none=>rfl
 | some x =>
  have hm:b∈trk h H:=List.mem_filter.mpr ⟨afh.mpr (zN e'),by simp [q]⟩;have z:(uO h H).get? b=none:=PySem.W.hideAll_none (trk h H) hm;rw [z] at e;cases e
def wR (g h:Heap)(L:Addr):List (Addr×Obj):=(List.range h.objs.size).filterMap fun a=>if a=L\/(g.get? a).isSome=true then none else (h.get? a).map fun o=>(a,o)
def rest (g h:Heap)(L d:Addr):List (Addr×Obj):=(wR g h L).filter fun p=>decide (p.1≠d)
structure Mod (K:PySem.W.Frag)(mg:Str->Option Value)(base:Heap):Prop where
 kin:K.In base
 glob:base.Ns mainGlobals mg
 blt:∃ mb,base.Ns builtinsNs mb/\∀ x:Str,x ≠ "__name__" → mb x=bootBuiltins x
 nolimit:base.NoLimit
structure Cx where
 prog:Program
 w:World
 K:PySem.W.Frag
 mg:Str->Option Value
 base:Heap
 A:Around
 N:List Str
 s₀:Shared
 H₀:Hp
 env:Env
 outer:List Env
 stack:List Env
 ex:List Addr
 fn:Str->Bool
 calm:Bool
 pn:List (Addr×Obj)
 xe:Value->Shared->Prop
def frs (l:List Env):List Addr:=l.filterMap (·.frame)
abbrev Cx.fs (X:Cx):List Addr:=frs X.outer
def Vis (sc:Scope)(x:Str):Prop:=sc.names.lookup x=some .local\/sc.names.lookup x=some .cell\/sc.names.lookup x=some .free
def Loc (sc:Scope)(x:Str):Prop:=sc.names.lookup x=some .local\/sc.names.lookup x=some .cell
def zy (env:Env)(h:Heap)(m:Str->Option Value)(x:Str)(u:Value):Prop :=
 (env.kindOf x=some .local/\m x=some u)\/((env.kindOf x=some .cell\/env.kindOf x=some .free)/\∃ c,env.cells.lookup x=some c/\h.IsCell c (some u))
structure Cx.Ok (X:Cx):Prop where
 mod:Mod X.K X.mg X.base
 kind:X.env.scope.kind=.function
 glob:X.env.globals=mainGlobals
 blt:X.env.builtins=builtinsNs
 above:X.s₀.heap.objs.size<=X.env.locals
 inj:∀ x y c,X.env.cells.lookup x=some c->X.env.cells.lookup y=some c->x=y
 has:∀ x,(X.env.kindOf x=some .cell\/X.env.kindOf x=some .free)->∃ c,X.env.cells.lookup x=some c
 cab:∀ x c,X.fn x=true->X.env.cells.lookup x=some c->X.s₀.heap.objs.size<=c
 hd:X.calm=true->X.A.handled=none
 frames:X.A.frames=some X.stack
 stk:X.stack=X.outer\/(X.stack=X.env::X.outer/\X.env.frame=some X.env.locals)
 exf:∀ b∈X.ex,b≠X.env.locals/\∀ x c,X.env.cells.lookup x=some c->c≠b
 bs:∀ b o,X.base.get? b=some o->X.s₀.heap.get? b=some o/\X.H₀ b=none
 bsz:X.base.objs.size<=X.s₀.heap.objs.size
 noex:∀ b o,X.base.get? b=some o->b ∉ X.ex
 exfs:∀ b∈X.ex,b ∉ X.fs
 funs:X.s₀.heap.FunFrames X.base X.outer
 frf:∀ b∈X.fs,X.H₀ b=none
structure Inv (X:Cx)(pins:List (Addr×Obj))(σ:List (Option V))(H:Hp)(s:Shared):Prop where
 ok:X.Ok
 os:s.os=X.s₀.os
 bare:AllBare s.gens
 base:Un X.fs X.ex X.H₀ H X.s₀.heap s.heap
 loc:∃ m,s.heap.Ns X.env.locals m/\∀ (i:Nat) (x:Str) (v:V),X.N[i]? = some x->σ[i]? = some (some v)->Vis X.env.scope x->∃ u,RelV v u/\zy X.env s.heap m x u
 cell:∀ x c,X.env.cells.lookup x=some c->∃ v,s.heap.IsCell c v
 free:H X.env.locals=none
 freeC:∀ x c,X.env.cells.lookup x=some c->H c=none
 pin:∀ p∈X.pn++pins,s.heap.get? p.1=some p.2/\H p.1=none/\p.1≠X.env.locals/\p.1 ∉ X.fs/\∀ v,p.2.data≠.cell v
 hok:HOk X.prog X.w H s.heap
 len:σ.length=X.N.length
section
variable {X:Cx}{pins:List (Addr×Obj)}{σ:List (Option V)}{H H':Hp}{s:Shared}{h':Heap}
theorem Cx.Ok.nofr (ok:X.Ok){b:Addr}{o:Obj}(e:X.base.get? b=some o):b ∉ X.fs:=fun hb=>by
 have:=(ok.funs.mem hb).1;rw [e] at this;cases this
theorem Inv.bs (I:Inv X pins σ H s):∀ b o,X.base.get? b=some o->s.heap.get? b=some o/\H b=none:=fun b o e =>
 ⟨I.base.keep b o (I.ok.bs b o e).1 (I.ok.bs b o e).2 (I.ok.nofr e) (I.ok.noex b o e),I.base.free b o (I.ok.bs b o e).1 (I.ok.bs b o e).2 (I.ok.noex b o e)⟩
theorem Inv.bk (I:Inv X pins σ H s):∀ b o,X.base.get? b=some o->s.heap.get? b=some o:=fun b o e=>(I.bs b o e).1
theorem Inv.mod (I:Inv X pins σ H s):Mod X.K X.mg X.base:=I.ok.mod
theorem Inv.kIn (I:Inv X pins σ H s):X.K.In s.heap:=I.ok.mod.kin.keeps I.bk
theorem Inv.fr (I:Inv X pins σ H s):∃ m,Fr X.base X.env.locals s.heap m :=
 let ⟨m,hn,_⟩:=I.loc
 ⟨m,hn,I.bk,aas I.ok.bsz I.ok.above⟩
theorem Inv.lt (I:Inv X pins σ H s):X.env.locals < s.heap.objs.size:=let ⟨_,hn,_⟩:=I.loc;hn.lt
theorem Inv.sz (I:Inv X pins σ H s):X.s₀.heap.objs.size<=s.heap.objs.size:=aas I.ok.above (aan I.lt)
theorem Inv.nofs (I:Inv X pins σ H s){a:Addr}(h:s.heap.objs.size<=a):a ∉ X.fs:=fun hb=>by
 obtain⟨_,o,ho,_⟩:=I.ok.funs.mem hb;exact absurd (zX (zN ho) (aas I.sz h)) (abp _)
theorem Inv.cne (I:Inv X pins σ H s):∀ x c,X.env.cells.lookup x=some c->c≠X.env.locals:=fun x c e z=>by
 obtain⟨v,o,ho,hd⟩:=I.cell x c e;obtain⟨m,⟨o',es,ep,ho',hd',_⟩,_⟩:=I.loc;rw [z,ho'] at ho;cases ho;rw [hd'] at hd;cases hd
theorem Inv.funs (I:Inv X pins σ H s):s.heap.FunFrames X.base X.outer:=by
 have all:∀ (l:List Env),(∀ b∈frs l,b∈X.fs)->X.s₀.heap.FunFrames X.base l->s.heap.FunFrames X.base l:=by
  intro l
  induction l with
  | nil=>intro _ _;trivial
  | cons env r ih =>
   intro hs hl;obtain⟨hk,⟨L,o,hf,hn,ho,hd⟩,hr⟩:=hl;have hL:L∈X.fs:=hs L (by unfold frs;rw [adS,hf];exact z7);obtain⟨sl,e⟩:=I.base.slot L o ho (I.ok.frf L hL) hL fun z=>I.ok.exfs L z hL;exact⟨hk,⟨L,_,hf,hn,e,hd⟩,ih (fun b hb=>hs b (by unfold frs;rw [adS,hf];exact z8 _ hb)) hr⟩
 exact all X.outer (fun _ hb=>hb) I.ok.funs
theorem Inv.stack (I:Inv X pins σ H s):s.heap.FunFrames X.base X.stack:=by
 rcases I.ok.stk with e | ⟨e,hf⟩
 ·rw [e];exact I.funs
 ·rw [e];obtain⟨m,hn,_⟩:=I.loc;refine .cons (by rw [I.ok.kind];decide) hf hn ?_ I.funs;exact Heap.get?_none_of_le (aas I.ok.bsz I.ok.above)
theorem Inv.stkSub (I:Inv X pins σ H s):∀ b∈frs X.stack,b∈X.env.locals::X.fs:=fun b hb=>by
 rcases I.ok.stk with e | ⟨e,hf⟩
 ·rw [e] at hb;exact z8 _ hb
 ·rw [e] at hb;unfold frs at hb;rw [adS,hf] at hb;exact hb
theorem Inv.stkFree (I:Inv X pins σ H s):∀ b∈frs X.stack,H b=none:=fun b hb=>by
 rcases aab.mp (I.stkSub b hb) with e | hb
 ·rw [e];exact I.free
 ·obtain⟨_,o,ho,_⟩:=I.ok.funs.mem hb;exact I.base.free b o ho (I.ok.frf b hb) fun z=>I.ok.exfs b z hb
theorem Inv.step {g':Array GenState}{t':Nat}{d':Drawn}{ch:List Addr}(I:Inv X pins σ H s)
 (hch:∀ b∈ch,(b∈X.ex\/X.s₀.heap.objs.size<=b)/\b≠X.env.locals/\(∀ x c,X.env.cells.lookup x=some c->c≠b)/\∀ p∈X.pn++pins,p.1≠b)
 (keep:∀ b o,b≠X.env.locals->b ∉ X.fs->b ∉ ch->s.heap.get? b=some o->H b=none->h'.get? b=some o)
 (slot:∀ b o,b≠X.env.locals->b∈X.fs->b ∉ ch->s.heap.get? b=some o->H b=none->∃ sl,h'.get? b=some { o with slots:=sl })(free:∀ b o,b ∉ ch->s.heap.get? b=some o->H b=none->H' b=none)
 (there:∀ b o,b ∉ ch->s.heap.get? b=some o->∃ o',h'.get? b=some o')
 (tups:∀ b xs,H b=some (.tup xs)->H' b=some (.tup xs))(frzs:∀ b o u,H b=some (.frz o u)->H' b=some (.frz o u))(tbls:∀ b ps,H b=some (.tbl ps)->∃ more,H' b=some (.tbl (ps++more)))
 (ns:∀ m,s.heap.Ns X.env.locals m->h'.Ns X.env.locals m)(hok:HOk X.prog X.w H' h')(hg:AllBare g') :
 Inv X pins σ H' { s with heap:=h',gens:=g',drawn:=d',toks:=t' }:=by
 have neL:∀ b o,X.s₀.heap.get? b=some o->b≠X.env.locals:=fun b o e=>zY (zX (zN e) I.ok.above);have neC:∀ b o,X.s₀.heap.get? b=some o->b ∉ X.ex->b ∉ ch:=fun b o e hx hb=>by
  rcases (hch b hb).1 with z | z
  ·exact hx z
  ·exact absurd (zX (zN e) z) (abp _)
 have cellK:∀ x c,X.env.cells.lookup x=some c->∀ v,s.heap.IsCell c v->h'.IsCell c v:=fun x c e v ⟨o,ho,hd⟩=>by
  have nch:c ∉ ch:=fun z=>(hch c z).2.2.1 x c e rfl;by_cases hc:c∈X.fs
  ·obtain⟨sl,q⟩:=slot c o (I.cne x c e) hc nch ho (I.freeC x c e);exact⟨_,q,hd⟩
  ·exact⟨o,keep c o (I.cne x c e) hc nch ho (I.freeC x c e),hd⟩
 refine⟨I.ok,I.os,hg,⟨fun b o e n hb hx=>?_,fun b o e n hb hx=>?_,fun b o e n hx=>?_,fun b o e hx=>?_,fun b xs e=>tups b xs (I.base.tups b xs e),fun b o xs e=>frzs b o xs (I.base.frzs b o xs e),fun b ps e=>?_⟩,?_,fun x c e=>?_,?_,fun x c e=>?_,fun p hp=>?_,hok,I.len⟩
 ·exact keep b o (neL b o e) hb (neC b o e hx) (I.base.keep b o e n hb hx) (I.base.free b o e n hx)
 ·obtain⟨sl,e1⟩:=I.base.slot b o e n hb hx;obtain⟨sl',e2⟩:=slot b _ (neL b o e) hb (neC b o e hx) e1 (I.base.free b o e n hx);exact⟨sl',e2⟩
 ·obtain⟨o',e1⟩:=I.base.there b o e hx;exact free b o' (neC b o e hx) e1 (I.base.free b o e n hx)
 ·obtain⟨o',e1⟩:=I.base.there b o e hx;exact there b o' (neC b o e hx) e1
 ·obtain⟨m1,e1⟩:=I.base.tbls b ps e;obtain⟨m2,e2⟩:=tbls b _ e1;exact⟨m1++m2,by rw [e2,Array.append_assoc]⟩
 ·obtain⟨m,hn,hl⟩:=I.loc;refine⟨m,ns m hn,fun i x v e1 e2 e3=>?_⟩;obtain⟨u,r,l⟩:=hl i x v e1 e2 e3;refine⟨u,r,?_⟩;rcases l with l | ⟨k,c,e,z⟩
  ·exact .inl l
  ·exact .inr ⟨k,c,e,cellK x c e _ z⟩
 ·obtain⟨v,z⟩:=I.cell x c e;exact⟨v,cellK x c e v z⟩
 ·obtain⟨m,⟨o,_,_,ho,_⟩,_⟩:=I.loc;exact free _ o (fun z=>(hch _ z).2.1 rfl) ho I.free
 ·obtain⟨v,o,ho,hd⟩:=I.cell x c e;exact free c o (fun z=>(hch c z).2.2.1 x c e rfl) ho (I.freeC x c e)
 ·obtain⟨e,n,ne,nf,d⟩:=I.pin p hp;have nch:p.1 ∉ ch:=fun z=>(hch p.1 z).2.2.2 p hp rfl;exact⟨keep p.1 p.2 ne nf nch e n,free p.1 p.2 nch e n,ne,nf,d⟩
theorem Inv.un {t':Nat}(I:Inv X pins σ H s)(u:Un X.fs [] H H' s.heap h')(hok:HOk X.prog X.w H' h'):Inv X pins σ H' { s with heap:=h',toks:=t' }:=by
 obtain⟨m,⟨o,es,ep,ho,r⟩,_⟩:=id I.loc;obtain⟨sl,hL⟩:=u.any ho I.free (by simp);exact I.step (g':=s.gens) (d':=s.drawn) (ch:=[]) (fun _ z=>nomatch z) (fun b o _ hb _ e n=>u.keep b o e n hb (by simp)) (fun b o _ hb _ e n=>u.slot b o e n hb (by simp)) (fun b o _ e n=>u.free b o e n (by simp)) (fun b o _ e=>u.there b o e (by simp)) u.tups u.frzs u.tbls (fun m' hm=>by
  obtain⟨o',es',ep',ho',r'⟩:=hm;rw [ho] at ho';cases ho';exact⟨_,es',ep',hL,r'⟩) hok I.bare
theorem Inv.call {g':Array GenState}{t':Nat}{d':Drawn}{ch:List Addr}(I:Inv X pins σ H s)(u:Un (frs X.stack) ch H H' s.heap h')(hok:HOk X.prog X.w H' h')(hg:AllBare g')
 (hch:∀ b∈ch,(b∈X.ex\/X.s₀.heap.objs.size<=b)/\b≠X.env.locals/\(∀ x c,X.env.cells.lookup x=some c->c≠b)/\∀ p∈X.pn++pins,p.1≠b) :
 Inv X pins σ H' { s with heap:=h',gens:=g',drawn:=d',toks:=t' }:=by
 obtain⟨m,⟨o,es,ep,ho,r⟩,_⟩:=id I.loc;obtain⟨sl,hL⟩:=u.any ho I.free fun z=>(hch _ z).2.1 rfl;exact I.step (ch:=ch) hch (fun b o hL hb hc e n=>u.keep b o e n (fun z=>(aab.mp (I.stkSub b z)).elim hL hb) hc) (fun b o _ _ hc e n=>u.any e n hc) (fun b o hc e n=>u.free b o e n hc) (fun b o hc e=>u.there b o e hc) u.tups u.frzs u.tbls (fun m' hm=>by
  obtain⟨o',es',ep',ho',r'⟩:=hm;rw [ho] at ho';cases ho';exact⟨_,es',ep',hL,r'⟩) hok hg
theorem Inv.turned {t':Nat}{it:Addr}(I:Inv X pins σ H s)(k:∀ b o,b≠it->s.heap.get? b=some o->h'.get? b=some o)(hn:H it=none)(hL:it≠X.env.locals)
 (h1:it∈X.ex\/X.s₀.heap.objs.size<=it)(h2:∀ x c,X.env.cells.lookup x=some c->c≠it)(h3:∀ p∈X.pn++pins,p.1≠it):Inv X pins σ H { s with heap:=h',toks:=t' }:=by
 have nit:∀ b u,H b=some u->b≠it:=fun b u e z=>by rw [z,hn] at e;cases e
 refine I.step (g':=s.gens) (d':=s.drawn) (ch:=[it]) (fun b hb=>?_) (fun b o _ _ hc e _=>k b o (fun z=>hc (by simp [z])) e) (fun b o _ _ hc e _=>⟨o.slots,k b o (fun z=>hc (by simp [z])) e⟩) (fun _ _ _ _ n=>n)
  (fun b o hc e=>⟨o,k b o (fun z=>hc (by simp [z])) e⟩) (fun _ _ e=>e) (fun _ _ _ e=>e) (fun b ps e=>⟨#[],by rw [e];simp⟩) (fun m hm=>?_) (fun b u e=>?_) I.bare
 ·have e:b=it:=by simpa using hb
  subst e;exact⟨h1,hL,h2,h3⟩
 ·obtain⟨o,es,ep,ho,r⟩:=hm;exact⟨o,es,ep,k _ o (aaA hL) ho,r⟩
 ·refine (I.hok b u e).stay (fun c v hc q=>k c v ?_ q) (fun _ q=>q) fun _ _ q=>q;rcases hc with z | z
  ·rw [z];exact nit b u e
  ·exact nit c _ z
theorem Inv.tok (I:Inv X pins σ H s)(t:Nat):Inv X pins σ H { s with toks:=t }:=I.un (h':=s.heap) (t':=t) Un.refl I.hok
theorem Inv.kept {t':Nat}(I:Inv X pins σ H s)(k:∀ b u,s.heap.get? b=some u->h'.get? b=some u):Inv X pins σ H { s with heap:=h',toks:=t' }:=I.un (Un.kept k) (I.hok.kept k)
theorem Inv.laid {a:Addr}{o:HO}{t':Nat}(I:Inv X pins σ H s)(k:∀ b u,s.heap.get? b=some u->h'.get? b=some u)(hp:s.heap.objs.size<=a)(new:ObjOk X.prog X.w (upd H a o) h' a o) :
 Inv X pins σ (upd H a o) { s with heap:=h',toks:=t' }:=I.un (Un.laid k hp (I.hok.fresh hp)) (I.hok.laid k hp new)
theorem Inv.write {x e:Addr}{o:HO}{t':Nat}(I:Inv X pins σ H s)(mu:Mut (H x))(he:e=x\/H e=some (.own x))(k:∀ b u,b≠e->s.heap.get? b=some u->h'.get? b=some u)(heo:∃ u,h'.get? e=some u)
 (new:ObjOk X.prog X.w (upd H x o) h' x o):Inv X pins σ (upd H x o) { s with heap:=h',toks:=t' }:=I.un (Un.write mu he k heo) (I.hok.write mu he k heo new)
theorem Inv.weak {σ':List (Option V)}(I:Inv X pins σ H s)(hl:σ'.length=σ.length)(w:∀ (i:Nat) v,σ'[i]? = some (some v)->σ[i]? = some (some v)):Inv X pins σ' H s :=
 ⟨I.ok,I.os,I.bare,I.base,let ⟨m,hn,hl'⟩:=I.loc;⟨m,hn,fun i x v e1 e2 e3=>hl' i x v e1 (w i v e2) e3⟩,I.cell,I.free,I.freeC,I.pin,I.hok,hl.trans I.len⟩
theorem Inv.pins_of {pins':List (Addr×Obj)}(I:Inv X pins σ H s)(h:∀ p∈pins',s.heap.get? p.1=some p.2/\H p.1=none/\p.1≠X.env.locals/\p.1 ∉ X.fs/\∀ v,p.2.data≠.cell v):Inv X pins' σ H s :=
 ⟨I.ok,I.os,I.bare,I.base,I.loc,I.cell,I.free,I.freeC,fun p hp=>(zS.mp hp).elim (fun z=>I.pin p (aaW _ z)) (h p),I.hok,I.len⟩
theorem pW {N:List Str}(hN:N.Nodup){i j:Nat}{x:Str}(a:N[i]? = some x)(b:N[j]? = some x):i=j:=by
 obtain⟨h1,e1⟩:=zJ.mp a;obtain⟨h2,e2⟩:=zJ.mp b;exact (List.getElem_inj hN).mp (e1.trans e2.symm)
theorem tT {M:Model}{A:Around}{E:Value->Shared->Prop}{i:Nat}{x:Str}{v:V}{u:Value}{Q:Unit->Shared->Prop}(I:Inv X pins σ H s)(hN:X.N.Nodup)(hi:X.N[i]? = some x)(hx:Loc X.env.scope x)(r:RelV v u)
 (h:∀ s',Inv X pins (σ.set i (some v)) H s'->(∃ a,Heap.SameBut a s.heap s'.heap/\(a=X.env.locals\/X.env.cells.lookup x=some a))->Q () s')(hf:X.fn x=true\/X.env.scope.names.lookup x=some .local:=by first | exact .inl rfl | exact .inr rfl | assumption):wpAny M A (storeName X.env x u) Q E s:=by
 obtain⟨m,hn,hl⟩:=id I.loc;have hcls:(X.env.scope.kind == .class || (X.env.scope.kind == .module && X.env.locals != X.env.globals))=false:=by rw [I.ok.kind];rfl
 have hiσ:i < σ.length:=by rw [I.len];exact (zJ.mp hi).1
 have cne:=I.cne;have tracked:∀ {a:Addr} {h':Heap},(∃ o,s.heap.get? a=some o/\H a=none)->Heap.SameBut a s.heap h'->HOk X.prog X.w H h':=fun {a h'} ha hs b ob e=>by
  obtain⟨_,_,hfree⟩:=ha;refine (I.hok b ob e).stay (fun c w' hc q=>(hs.2 c ?_).trans q) (fun _ q=>q) fun _ _ q=>q;rintro rfl;rcases hc with rfl | hc
  ·rw [hfree] at e;cases e
  ·rw [hfree] at hc;cases hc
 rcases hx with hk | hk
 ·refine wpAny_storeName_local hk hn (fun h' hn' hs=>?_) hcls;obtain⟨oL,_,_,hoL,_⟩:=id hn;refine h _ ⟨I.ok,I.os,I.bare,⟨fun b o e n hb hx=>?_,fun b o e n hb hx=>?_,I.base.free,fun b o e hx=>?_,I.base.tups,I.base.frzs,I.base.tbls⟩,⟨_,hn',fun j y v' e1 e2 e3=>?_⟩,fun y c e=>?_,I.free,I.freeC,fun p hp=>?_,tracked ⟨oL,hoL,I.free⟩ hs,by simpa using I.len⟩ ⟨_,hs,.inl rfl⟩
  ·exact (hs.2 b (zY (zX (zN e) I.ok.above))).trans (I.base.keep b o e n hb hx)
  ·obtain⟨sl,e1⟩:=I.base.slot b o e n hb hx;exact⟨sl,(hs.2 b (zY (zX (zN e) I.ok.above))).trans e1⟩
  ·obtain⟨o',e1⟩:=I.base.there b o e hx;exact⟨o',(hs.2 b (zY (zX (zN e) I.ok.above))).trans e1⟩
  ·by_cases hj:j=i
   ·subst hj;rw [hi] at e1;cases e1;rw [acp hiσ] at e2;cases e2;exact⟨u,r,.inl ⟨hk,by simp⟩⟩
   ·rw [adN (aaA hj)] at e2;obtain⟨u',r',q⟩:=hl j y v' e1 e2 e3;refine⟨u',r',?_⟩;rcases q with ⟨k,e⟩ | ⟨k,c,e,z⟩
    ·refine .inl ⟨k,?_⟩;have:y≠x:=fun e=>hj (pW hN e1 (e▸hi));simp [this,e]
    ·exact .inr ⟨k,c,e,z.sameBut hs (cne y c e)⟩
  ·obtain⟨w',z⟩:=I.cell y c e;exact⟨w',z.sameBut hs (cne y c e)⟩
  ·obtain⟨e,n,ne,nf,d⟩:=I.pin p hp;exact⟨(hs.2 p.1 ne).trans e,n,ne,nf,d⟩
 ·have hfn:X.fn x=true:=by
   rcases hf with z | z
   ·exact z
   ·rw [z] at hk;cases hk
  obtain⟨c,hc⟩:=I.ok.has x (.inl hk);obtain⟨w',z⟩:=I.cell x c hc;refine wpAny_storeName_cell I.ok.kind hk hc z (fun h' hc' hs=>?_);obtain⟨oc,hoc,hocd⟩:=id z;refine h { s with heap:=h' } ⟨I.ok,I.os,I.bare,⟨fun b o e n hb hx=>?_,fun b o e n hb hx=>?_,I.base.free,fun b o e hx=>?_,I.base.tups,I.base.frzs,I.base.tbls⟩,⟨m,hn.sameBut hs (aaA (cne x c hc)),fun j y v' e1 e2 e3=>?_⟩,fun y c' e=>?_,I.free,I.freeC,fun p hp=>?_,tracked ⟨oc,hoc,I.freeC x c hc⟩ hs,by simpa using I.len⟩ ⟨c,hs,.inr hc⟩
  ·exact (hs.2 b (zY (zX (zN e) (I.ok.cab x c hfn hc)))).trans (I.base.keep b o e n hb hx)
  ·obtain⟨sl,e1⟩:=I.base.slot b o e n hb hx;exact⟨sl,(hs.2 b (zY (zX (zN e) (I.ok.cab x c hfn hc)))).trans e1⟩
  ·obtain⟨o',e1⟩:=I.base.there b o e hx;exact⟨o',(hs.2 b (zY (zX (zN e) (I.ok.cab x c hfn hc)))).trans e1⟩
  ·by_cases hj:j=i
   ·subst hj;rw [hi] at e1;cases e1;rw [acp hiσ] at e2;cases e2;exact⟨u,r,.inr ⟨.inl hk,c,hc,hc'⟩⟩
   ·rw [adN (aaA hj)] at e2;obtain⟨u',r',q⟩:=hl j y v' e1 e2 e3;refine⟨u',r',?_⟩;rcases q with q | ⟨k,c',e,z'⟩
    ·exact .inl q
    ·refine .inr ⟨k,c',e,z'.sameBut hs ?_⟩;rintro rfl;exact hj (pW hN e1 (I.ok.inj _ _ _ e hc▸hi))
  ·by_cases hcc:c'=c
   ·subst hcc;exact⟨_,hc'⟩
   ·obtain⟨w2,z2⟩:=I.cell y c' e;exact⟨w2,z2.sameBut hs hcc⟩
  ·obtain⟨e,n,ne,nf,d⟩:=I.pin p hp;refine⟨(hs.2 p.1 ?_).trans e,n,ne,nf,d⟩;intro q;rw [q,hoc] at e;have q':oc=p.2:=aai e;exact d w' (by rw [← q'];exact hocd)
theorem oX {M:Model}{A:Around}{E:Value->Shared->Prop}{i:Nat}{x:Str}{v:V}{u:Value}{Q:Unit->Shared->Prop}(I:Inv X pins σ H s)(hN:X.N.Nodup)(hi:X.N[i]? = some x)(hx:Loc X.env.scope x)(r:RelV v u)
 (h:∀ s',Inv X pins (σ.set i (some v)) H s'->Q () s')(hf:X.fn x=true\/X.env.scope.names.lookup x=some .local:=by first | exact .inl rfl | exact .inr rfl | assumption):wpAny M A (storeName X.env x u) Q E s :=
 tT I hN hi hx r (fun s' I' _=>h s' I') hf
theorem Inv.call' {s':Shared}{ch:List Addr}(I:Inv X pins σ H s)(ho:s'.os=s.os)(u:Un (frs X.stack) ch H H' s.heap s'.heap)(hok:HOk X.prog X.w H' s'.heap)(hg:AllBare s'.gens)
 (hch:∀ b∈ch,(b∈X.ex\/X.s₀.heap.objs.size<=b)/\b≠X.env.locals/\(∀ x c,X.env.cells.lookup x=some c->c≠b)/\∀ p∈X.pn++pins,p.1≠b):Inv X pins σ H' s':=by
 obtain⟨h',g',d',t',o'⟩:=s';have e:o'=s.os:=ho;subst e;exact I.call (g':=g') (t':=t') (d':=d') u hok hg hch
end
abbrev XK:=Value->Option Addr->Hp->Prop
abbrev St:=List (Option V)
abbrev VK:=V->Hp->Prop
abbrev TE:=St->Hp->VK->Prop
abbrev TT:=St->Hp->(Bool->Hp->Prop)->Prop
abbrev TA:=St->Hp->(List V->Hp->Prop)->Prop
structure tY where
 nx:St->Hp->Prop
 rt:VK
 bk:St->Hp->Prop:=fun _ _=>False
 ct:St->Hp->Prop:=fun _ _=>False
abbrev TS:=tY->St->Hp->Prop
def EP (X:Cx)(pins:List (Addr×Obj))(σ:St)(Q:VK)(u:Value)(s':Shared):Prop:=∃ v H',Inv X pins σ H' s'/\RelV v u/\Q v H'
def TP (X:Cx)(pins:List (Addr×Obj))(σ:St)(Q:Bool->Hp->Prop)(b:Bool)(s':Shared):Prop:=∃ H',Inv X pins σ H' s'/\Q b H'
def AP (X:Cx)(pins:List (Addr×Obj))(σ:St)(Q:List V->Hp->Prop)(us:List Value)(s':Shared):Prop:=∃ vs H',Inv X pins σ H' s'/\Vals vs us/\Q vs H'
def SP (X:Cx)(pins:List (Addr×Obj))(D:tY)(f:Flow)(s':Shared):Prop :=
 match f with
 | .next=>∃ σ' H',Inv X pins σ' H' s'/\D.nx σ' H'
 | .brk=>∃ σ' H',Inv X pins σ' H' s'/\D.bk σ' H'
 | .cont=>∃ σ' H',Inv X pins σ' H' s'/\D.ct σ' H'
 | .ret u=>∃ v σ' H',Inv X pins σ' H' s'/\RelV v u/\D.rt v H'
def PE (X:Cx)(e:Expr)(t:TE):Prop :=
 ∀ (pins:List (Addr×Obj)) (s:Shared) (σ:St) (H:Hp) (Q:VK),Inv X pins σ H s->t σ H Q->wpAny (model X.prog X.w) X.A (eval e X.env) (EP X pins σ Q) X.xe s
def PT (X:Cx)(e:Expr)(t:TT):Prop :=
 ∀ (pins:List (Addr×Obj)) (s:Shared) (σ:St) (H:Hp) (Q:Bool->Hp->Prop),Inv X pins σ H s->t σ H Q->wpAny (model X.prog X.w) X.A (isTrue e X.env (eval e X.env)) (TP X pins σ Q) X.xe s
def PW (X:Cx)(e:Expr)(t:TT):Prop :=
 ∀ (whole:Sem Value) (pins:List (Addr×Obj)) (s:Shared) (σ:St) (H:Hp) (Q:Bool->Hp->Prop),Inv X pins σ H s->t σ H Q->wpAny (model X.prog X.w) X.A (isTrue e X.env whole) (TP X pins σ Q) X.xe s
theorem PW.pt {X:Cx}{e:Expr}{t:TT}(h:PW X e t):PT X e t:=h _
def PA (X:Cx)(es:List Expr)(t:TA):Prop :=
 ∀ (pos:Pos) (pins:List (Addr×Obj)) (s:Shared) (σ:St) (H:Hp) (Q:List V->Hp->Prop),Inv X pins σ H s->t σ H Q->wpAny (model X.prog X.w) X.A (spliced (backTo pos (starEach es X.env))) (AP X pins σ Q) X.xe s
def PS (X:Cx)(st:Stmt)(t:TS):Prop :=
 ∀ (pins:List (Addr×Obj)) (s:Shared) (σ:St) (H:Hp) (D:tY),Inv X pins σ H s->t D σ H->wpAny (model X.prog X.w) X.A (exec st X.env) (SP X pins D) X.xe s
def PSs (X:Cx)(st:List Stmt)(t:TS):Prop :=
 ∀ (pins:List (Addr×Obj)) (s:Shared) (σ:St) (H:Hp) (D:tY),Inv X pins σ H s->t D σ H->wpAny (model X.prog X.w) X.A (execs st X.env) (SP X pins D) X.xe s
theorem thn {α:Type}{t:Sem α}{Q Q':α->Shared->Prop}{M:Model}{A:Around}{E:Value->Shared->Prop}{s:Shared}(h:wpAny M A t Q E s)(hQ:∀ a s,Q a s->Q' a s):wpAny M A t Q' E s:=aaV h hQ fun _ _ x=>x
section
variable {X:Cx}
theorem bin {a b:Expr}{ta tb:TE}(ha:PE X a ta)(hb:PE X b tb){pins:List (Addr×Obj)}{s:Shared}{σ:St}{H:Hp}{R:V->V->Hp->Prop}(I:Inv X pins σ H s)(h:ta σ H fun x H1=>tb σ H1 fun y H2=>R x y H2)
 {α:Type}{Q:α->Shared->Prop}{f:Value->Value->Sem α}
 (hf:∀ v u s2 x y H2,Inv X pins σ H2 s2->RelV x v->RelV y u->R x y H2->wpAny (model X.prog X.w) X.A (f v u) Q X.xe s2) :
 wpAny (model X.prog X.w) X.A (eval a X.env) (fun v s₁=>wpAny (model X.prog X.w) X.A (eval b X.env) (fun u s₂=>wpAny (model X.prog X.w) X.A (f v u) Q X.xe s₂) X.xe s₁) X.xe s:=by
 refine thn (ha pins s σ H _ I h) fun v s1 ⟨x,H1,I1,r1,q1⟩=>?_;refine thn (hb pins s1 σ H1 _ I1 q1) fun u s2 ⟨y,H2,I2,r2,q2⟩=>?_;exact hf v u s2 x y H2 I2 r1 r2 q2
def ik (i:Nat):TE:=fun σ H Q=>∃ v,σ[i]? = some (some v)/\Q v H
def tC (v:V):TE:=fun _ H Q=>Q v H
theorem xB {i:Nat}{x:Str}{pos:Pos}(hN:X.N[i]? = some x)(hv:Vis X.env.scope x)(hd:(x == ("__debug__" : Str))=false:=by decide)(hcd:(x == ("__classdict__" : Str))=false:=by decide):PE X (.Name x pos) (ik i):=by
 intro pins s σ H Q I h;obtain⟨v,e,h⟩:=h;obtain⟨m,hn,hl⟩:=I.loc;obtain⟨u,r,l⟩:=hl i x v hN e hv;have fin:EP X pins σ Q u s:=⟨v,H,I,r,h⟩;rcases l with ⟨hk,hm⟩ | ⟨hk,c,hc,hcell⟩
 ·exact wpAny_Name (wpAny_loadName_local I.ok.kind hk hn hm fin) hd
 ·rcases hk with hk | hk
  ·exact wpAny_Name (wpAny_loadName_cell I.ok.kind hk hc hcell fin) hd
  ·exact wpAny_Name (wpAny_loadName_free I.ok.kind hk hc hcell fin hcd) hd
theorem aq {i j pos}:PE X (.Constant (.int i) j pos) (tC (.int i)):=fun _ _ _ H _ I h=>wpAny_Constant_int ⟨.int i,H,I.tok _,⟨_,rfl⟩,h⟩
theorem jP {b j pos}:PE X (.Constant (.bool b) j pos) (tC (.bl b)):=fun _ _ _ H _ I h=>Constant_bool ⟨.bl b,H,I,rfl,h⟩
theorem vM {j pos}:PE X (.Constant .none j pos) (tC .non):=fun _ _ _ H _ I h=>Constant_none ⟨.non,H,I,rfl,h⟩
theorem lW {x j pos}:PE X (.Constant (.str x) j pos) (tC (.str x)):=fun _ _ _ H _ I h=>Calls.Constant_str ⟨.str x,H,I.tok _,⟨_,rfl⟩,h⟩
def Gl (X:Cx)(x:Str):Prop:=X.env.kindOf x=some .globalImplicit
theorem rW {E:Value->Shared->Prop}{pins:List (Addr×Obj)}{s:Shared}{σ:St}{H:Hp}{x:Str}{u:Value}{pos:Pos}{Q:Value->Shared->Prop}(I:Inv X pins σ H s)(hg:Gl X x)(hm:X.mg x=some u)(h:Q u s)
 (hd:(x == ("__debug__" : Str))=false:=by decide):wpAny (model X.prog X.w) X.A (eval (.Name x pos) X.env) Q E s :=
 Calls.Name_function_global I.ok.kind hg (Calls.loadGlobal_global (by rw [I.ok.glob];exact I.mod.glob.keeps I.bk) hm h) hd
theorem gx {E:Value->Shared->Prop}{pins:List (Addr×Obj)}{s:Shared}{σ:St}{H:Hp}{x:Str}{u:Value}{pos:Pos}{Q:Value->Shared->Prop}(I:Inv X pins σ H s)(hg:Gl X x)(hm:X.mg x=none)(hv:bootBuiltins x=some u)(h:Q u s)
 (hn:x ≠ "__name__" := by decide)(hd:(x == ("__debug__" : Str))=false:=by decide):wpAny (model X.prog X.w) X.A (eval (.Name x pos) X.env) Q E s:=by
 obtain⟨mb,h1,h2⟩:=I.mod.blt;exact Calls.Name_function_global I.ok.kind hg (Calls.loadGlobal_builtin (by rw [I.ok.glob];exact I.mod.glob.keeps I.bk) hm (by rw [I.ok.blt];exact h1.keeps I.bk) ((h2 x hn).trans hv) h) hd
theorem nC {x:Str}{v:V}{u:Value}{pos:Pos}(hg:Gl X x)(hm:X.mg x=some u)(r:RelV v u)(hd:(x == ("__debug__" : Str))=false:=by decide):PE X (.Name x pos) (tC v) :=
 fun _ _ _ H _ I h=>rW I hg hm ⟨v,H,I,r,h⟩ hd
theorem g0 {x:Str}{v:V}{u:Value}{pos:Pos}(hg:Gl X x)(hm:X.mg x=none)(hv:bootBuiltins x=some u)(r:RelV v u)(hn:x ≠ "__name__" := by decide)(hd:(x == ("__debug__" : Str))=false:=by decide):PE X (.Name x pos) (tC v) :=
 fun _ _ _ H _ I h=>gx I hg hm hv ⟨v,H,I,r,h⟩ hn hd
variable {a b:Expr}{ta tb:TE}{pos:Pos}
def PC (X:Cx)(op:CmpOp)(a b:Expr)(t:TE):Prop :=
 ∀ (pins:List (Addr×Obj)) (s:Shared) (σ:St) (H:Hp) (Q:VK),Inv X pins σ H s->t σ H Q →
  wpAny (model X.prog X.w) X.A (eval a X.env) (fun v s₁=>wpAny (model X.prog X.w) X.A (eval b X.env) (fun u s₂=>wpAny (model X.prog X.w) X.A (compareOp op v u) (EP X pins σ Q) X.xe s₂) X.xe s₁) X.xe s
def tB (t:TE):TT:=fun σ H Q=>t σ H fun x H1=>∃ c,x=.bl c/\Q c H1
theorem yV {op:CmpOp}{t:TE}(h:PC X op a b t)(h1:behindInMarks op b=false:=by first | exact nobehind _ (by decide) (by decide) | rfl):PT X (.Compare a [op] [b] pos) (tB t):=by
 intro pins s σ H Q I hw;refine wpAny_isTrue_Compare1 (thn (h pins s σ H _ I hw) fun v s1 h1=>thn h1 fun u s2 h2=>thn h2 fun c s3 ⟨x,H1,I1,r1,q1⟩=>?_) h1;obtain⟨d,rfl,q⟩:=q1;cases r1;exact abd ⟨H1,I1,q⟩
theorem iw {e:Expr}{t:TE}(h:PE X e t)(he:∀ whole,isTrue e X.env whole=(do let v ← whole;standAt e.pos;holding [v] (truthy v)):=by intro _;rfl):PT X e (tB t):=by
 intro pins s σ H Q I hw;refine isTrue_plain (thn (h pins s σ H _ I hw) fun v s1 ⟨x,H1,I1,r1,q1⟩=>?_) (he _);obtain⟨d,rfl,q⟩:=q1;cases r1;exact abd ⟨H1,I1,q⟩
variable {tA tB':TT}{rest:List Expr}
def zD (t u:TT):TT:=fun σ H Q=>t σ H fun c H1=>if c=true then u σ H1 Q else Q false H1
def tOr (t u:TT):TT:=fun σ H Q=>t σ H fun c H1=>if c=true then Q true H1 else u σ H1 Q
def zm (t:TT):TT:=fun σ H Q=>t σ H fun c H1=>Q (!c) H1
theorem hZ (ha:PT X a tA):PW X (.BoolOp .And [a] pos) tA:=by
 intro wh pins s σ H Q I h;refine isTrue_and (thn (ha pins s σ H Q I h) fun c s1 e=>?_);cases c with
 | true=>exact isTrue_and_nil e
 | false=>exact e
theorem j7 (ha:PT X a tA):PW X (.BoolOp .Or [a] pos) tA:=by
 intro wh pins s σ H Q I h;refine isTrue_or (thn (ha pins s σ H Q I h) fun c s1 e=>?_);cases c with
 | false=>exact isTrue_or_nil e
 | true=>exact e
theorem jq (ha:PT X a tA)(hb:PW X (.BoolOp .And (b::rest) pos) tB'):PW X (.BoolOp .And (a::b::rest) pos) (zD tA tB'):=by
 intro wh pins s σ H Q I h;refine isTrue_and (thn (ha pins s σ H _ I h) fun c s1 ⟨H1,I1,q1⟩=>?_);cases c with
 | true=>exact hb wh pins s1 σ H1 Q I1 q1
 | false=>exact⟨H1,I1,q1⟩
theorem qy (ha:PT X a tA)(hb:PW X (.BoolOp .Or (b::rest) pos) tB'):PW X (.BoolOp .Or (a::b::rest) pos) (tOr tA tB'):=by
 intro wh pins s σ H Q I h;refine isTrue_or (thn (ha pins s σ H _ I h) fun c s1 ⟨H1,I1,q1⟩=>?_);cases c with
 | true=>exact⟨H1,I1,q1⟩
 | false=>exact hb wh pins s1 σ H1 Q I1 q1
theorem kE (ha:PT X a tA):PT X (.UnaryOp .Not a pos) (zm tA):=by
 intro pins s σ H Q I h;exact isTrue_not (ha pins s σ H (fun c H1=>Q (!c) H1) I h)
def xF (ta tb:TE):TE:=fun σ H Q=>ta σ H fun x H1=>∃ c,x=.bl c/\if c=true then tb σ H1 Q else Q (.bl false) H1
theorem mJ {op}{t:TE}(h:PE X a t):PE X (.BoolOp op [a] pos) t:=fun pins s σ H Q I hw=>BoolOp_one (h pins s σ H Q I hw)
theorem gR (ha:PE X a ta)(hb:PE X (.BoolOp .And (b::rest) pos) tb):PE X (.BoolOp .And (a::b::rest) pos) (xF ta tb):=by
 intro pins s σ H Q I h;refine BoolOp_and (thn (ha pins s σ H _ I h) fun v s1 ⟨x,H1,I1,r1,q1⟩=>?_);obtain⟨c,rfl,q1⟩:=q1;cases r1;refine abd ?_;cases c with
 | true=>exact hb pins s1 σ H1 Q I1 q1
 | false=>exact⟨.bl false,H1,I1,rfl,q1⟩
end
def SqL (K:PySem.W.Frag)(H:Hp)(a:Addr)(xs:List V):Prop :=
 Rd H a (.lst xs) ∨
  ∃ (o:Obj) (its:Array Value) (n:Nat),K.lookup a=some o/\o.cls=.type "list" ∧ o.dict=none/\o.data=.seq its n/\its.size<=sizeLine/\Vals xs its.toList
def SqT (K:PySem.W.Frag)(H:Hp)(a:Addr)(xs:List V):Prop :=
 Rd H a (.tup xs) ∨
  ∃ (o:Obj) (its:Array Value) (n:Nat),K.lookup a=some o/\o.cls=.type "tuple" ∧ o.data=.seq its n/\its.size<=sizeLine/\Vals xs its.toList
def zx:Value->Option V
 | .none=>some .non
 | .bool b=>some (.bl b)
 | .int i _=>some (.int i)
 | .str x _=>some (.str x)
 | .bytes b _=>some (.byt b)
 | .float b _=>some (.flt b)
 | .ref a=>some (.ref a)
 | .type n=>some (.ty n)
 | _=>none
theorem RelV.abs {x:V}{u:Value}(r:RelV x u):zx u=some x:=by
 cases x with
 | non=>cases r;rfl
 | bl _=>cases r;rfl
 | int _=>obtain⟨t,rfl⟩:=r;rfl
 | str _=>obtain⟨t,rfl⟩:=r;rfl
 | byt _=>obtain⟨t,rfl⟩:=r;rfl
 | flt _=>obtain⟨t,rfl⟩:=r;rfl
 | ref _=>cases r;rfl
 | ty _=>cases r;rfl
theorem RelV.inj {x y:V}{u:Value}(r:RelV x u)(q:RelV y u):x=y:=aai (r.abs.symm.trans q.abs)
theorem Vals.inj:∀ {xs ys:List V} {us:List Value},Vals xs us->Vals ys us->xs=ys
 | _,_,_,.nil,.nil=>rfl
 | _,_,_,.cons r t,.cons r' t'=>by rw [r.inj r',Vals.inj t t']
section
variable {X:Cx}{pins:List (Addr×Obj)}{σ:St}{H:Hp}{s:Shared}{a:Addr}{xs ys:List V}
theorem SqL.of {K:PySem.W.Frag}(h:H a=some (.lst xs)):SqL K H a xs:=.inl (.inl h)
def aAA:=@SqL.of
theorem SqT.of {K:PySem.W.Frag}(h:H a=some (.tup xs)):SqT K H a xs:=.inl (.inl h)
def aAB:=@SqT.of
theorem Inv.list (I:Inv X pins σ H s)(h:SqL X.K H a xs):∃ its:List Value,Vals xs its/\PlainL s.heap a its.toArray/\xs.length<=sizeLine:=by
 rcases h with h | ⟨o,its,n,hk,hc,hd,hs,hz,r⟩
 ·obtain⟨z,its,n,r,e⟩:=h.ok I.hok;exact⟨its,r,⟨_,n,e,rfl,rfl,rfl⟩,z⟩
 ·refine⟨its.toList,r,⟨o,n,I.kIn a o hk,hc,hd,by simpa using hs⟩,?_⟩;have e:=r.length;simp only [zR] at e;lia
theorem Inv.tuple (I:Inv X pins σ H s)(h:SqT X.K H a xs):∃ its:List Value,Vals xs its/\IsTup s.heap a its.toArray/\xs.length<=sizeLine:=by
 rcases h with h | ⟨o,its,n,hk,hc,hs,hz,r⟩
 ·obtain⟨z,its,r,p⟩:=h.ok I.hok;exact⟨its,r,p,z⟩
 ·refine⟨its.toList,r,⟨o,I.kIn a o hk,hc,n,by simpa using hs⟩,?_⟩;have e:=r.length;simp only [zR] at e;lia
theorem Inv.list_inj (I:Inv X pins σ H s)(h:SqL X.K H a xs)(h':SqL X.K H a ys):xs=ys:=by
 obtain⟨its,r,⟨o,n,e,_,_,d⟩,_⟩:=I.list h;obtain⟨its',r',⟨o',n',e',_,_,d'⟩,_⟩:=I.list h';rw [e] at e';cases e';rw [d] at d';injection d' with d1 _
 have:its=its':=by simpa using aaG Array.toList d1
 subst this;exact r.inj r'
end
abbrev Cx.wish (X:Cx)(E:Value->Shared->Prop):Cx:={ X with xe:=E }
abbrev Cx.nox (X:Cx):Cx:=X.wish fun _ _=>False
theorem Cx.Ok.wish {X:Cx}(ok:X.Ok)(E:Value->Shared->Prop):(X.wish E).Ok :=
 ⟨ok.mod,ok.kind,ok.glob,ok.blt,ok.above,ok.inj,ok.has,ok.cab,ok.hd,ok.frames,ok.stk,ok.exf,ok.bs,ok.bsz,ok.noex,ok.exfs,ok.funs,ok.frf⟩
theorem Cx.Ok.unwish {X:Cx}{E:Value->Shared->Prop}(ok:(X.wish E).Ok):X.Ok :=
 ⟨ok.mod,ok.kind,ok.glob,ok.blt,ok.above,ok.inj,ok.has,ok.cab,ok.hd,ok.frames,ok.stk,ok.exf,ok.bs,ok.bsz,ok.noex,ok.exfs,ok.funs,ok.frf⟩
section
variable {X:Cx}{pins:List (Addr×Obj)}{σ:St}{H:Hp}{s:Shared}{E:Value->Shared->Prop}
theorem Inv.wish (I:Inv X pins σ H s)(E:Value->Shared->Prop):Inv (X.wish E) pins σ H s:=⟨I.ok.wish E,I.os,I.bare,I.base,I.loc,I.cell,I.free,I.freeC,I.pin,I.hok,I.len⟩
theorem Inv.unwish (I:Inv (X.wish E) pins σ H s):Inv X pins σ H s:=⟨I.ok.unwish,I.os,I.bare,I.base,I.loc,I.cell,I.free,I.freeC,I.pin,I.hok,I.len⟩
theorem SP.unwish {D:tY}{f:Flow}{s':Shared}(h:SP (X.wish E) pins D f s'):SP X pins D f s':=by
 cases f with
 | next=>obtain⟨σ',H',I,q⟩:=h;exact⟨σ',H',I.unwish,q⟩
 | brk=>obtain⟨σ',H',I,q⟩:=h;exact⟨σ',H',I.unwish,q⟩
 | cont=>obtain⟨σ',H',I,q⟩:=h;exact⟨σ',H',I.unwish,q⟩
 | ret u=>obtain⟨v,σ',H',I,r,q⟩:=h;exact⟨v,σ',H',I.unwish,r,q⟩
theorem PSs.nox {st:List Stmt}{t:TS}(h:PSs X.nox st t):PSs X st t:=fun pins s σ H D I hw =>
 aaV (h pins s σ H D (I.wish _) hw) (fun _ _ q=>q.unwish) fun _ _ z=>False.elim z
end
section
variable {X:Cx}{st:Stmt}{rest:List Stmt}{t u:TS}{e:Expr}{te:TE}{pos:Pos}
def qj:TS:=fun D σ H=>D.nx σ H
def wZ (t u:TS):TS:=fun D σ H=>t { D with nx:=u D } σ H
theorem bw:PSs X [] qj:=fun _ _ σ H _ I h=>adT ⟨σ,H,I,h⟩
theorem aj (h1:PS X st t)(h2:PSs X rest u):PSs X (st::rest) (wZ t u):=by
 intro pins s σ H D I h;refine wpAny_execs_cons (thn (h1 pins s σ H { D with nx:=u D } I h) fun f s1 q=>?_);cases f with
 | next =>
  obtain⟨σ',H',I',q⟩:=q;exact h2 pins s1 σ' H' D I' q
 | ret v=>exact q
 | brk=>exact q
 | cont=>exact q
theorem av (h1:PS X st t):PSs X [st] t:=by
 intro pins s σ H D I h;refine wpAny_execs_cons (thn (h1 pins s σ H D I h) fun f s1 q=>?_);cases f with
 | next=>exact adT q
 | ret v=>exact q
 | brk=>exact q
 | cont=>exact q
theorem Inv.quiet {pins:List (Addr×Obj)}{σ:St}{H:Hp}{s:Shared}(I:Inv X pins σ H s):interactive X.env=false:=by simp [interactive,I.ok.kind]
def wd (te:TE):TS:=fun D σ H=>te σ H fun _ H1=>D.nx σ H1
theorem cW (he:PE X e te)(hs:swapsWith e none pos.line X.env=pure false:=by rfl):PS X (.Expr e pos) (wd te):=by
 intro pins s σ H D I h;exact wpAny_Expr_any (thn (he pins s σ H _ I h) fun v s1 ⟨x,H1,I1,r1,q1⟩=>⟨σ,H1,I1,q1⟩) I.quiet hs
def we (te:TE):TS:=fun D σ H=>te σ H D.rt
theorem bt (he:PE X e te):PS X (.Return (some e) pos) (we te):=by
 intro pins s σ H D I h;exact wpAny_Return_some (thn (he pins s σ H _ I h) fun v s1 ⟨x,H1,I1,r1,q1⟩=>⟨x,σ,H1,I1,r1,q1⟩)
def yf (c:TT)(t u:TS):TS:=fun D σ H=>c σ H fun b H1=>if b=true then t D σ H1 else u D σ H1
theorem dk {c:Expr}{a b:List Stmt}{tc:TT}(hc:PT X c tc)(ha:PSs X a t)(hb:PSs X b u):PS X (.If c a b pos) (yf tc t u):=by
 intro pins s σ H D I h;refine wpAny_If (thn (hc pins s σ H _ I h) fun d s1 ⟨H1,I1,q1⟩=>?_);cases d with
 | true=>exact ha pins s1 σ H1 D I1 q1
 | false=>exact hb pins s1 σ H1 D I1 q1
def xZ:TS:=fun _ _ _=>False
theorem tQ {sts:List Stmt}:PSs X sts xZ:=fun _ _ _ _ _ _ h=>h.elim
end
abbrev TG:=V->St->Hp->(St->Hp->Prop)->Prop
abbrev TGs:=List V->St->Hp->(St->Hp->Prop)->Prop
def PG (X:Cx)(target:Expr)(t:TG):Prop :=
 ∀ (pins:List (Addr×Obj)) (s:Shared) (σ:St) (H:Hp) (v:V) (u:Value) (Q:St->Hp->Prop),Inv X pins σ H s->RelV v u->t v σ H Q →
  wpAny (model X.prog X.w) X.A (assign target X.env u) (fun _ s'=>∃ σ' H',Inv X pins σ' H' s'/\Q σ' H') X.xe s
def PGs (X:Cx)(ts:List Expr)(t:TGs):Prop :=
 ∀ (pins:List (Addr×Obj)) (s:Shared) (σ:St) (H:Hp) (vs:List V) (us:List Value) (Q:St->Hp->Prop),Inv X pins σ H s->Vals vs us->t vs σ H Q →
  wpAny (model X.prog X.w) X.A (assignInOrder ((assignEach ts X.env).map (·.2)) us) (fun _ s'=>∃ σ' H',Inv X pins σ' H' s'/\Q σ' H') X.xe s
abbrev yq:=V->V->V->Hp->(Hp->Prop)->Prop
def y3 (X:Cx)(t:yq):Prop :=
 ∀ (pins:List (Addr×Obj)) (s:Shared) (σ:St) (H:Hp) (o i v:V) (ov iv u:Value) (Q:Hp->Prop),Inv X pins σ H s->RelV o ov->RelV i iv->RelV v u->t o i v H Q →
  wpAny (model X.prog X.w) X.A (setItem ov iv u) (fun _ s'=>∃ H',Inv X pins σ H' s'/\Q H') X.xe s
section
variable {X:Cx}{pos:Pos}
def dG (i:Nat):TG:=fun v σ H Q=>Q (σ.set i (some v)) H
theorem ay {i:Nat}{x:Str}(hN:X.N.Nodup)(hi:X.N[i]? = some x)(hx:Loc X.env.scope x)(hf:X.fn x=true\/X.env.scope.names.lookup x=some .local:=by first | exact .inl rfl | exact .inr rfl | assumption):PG X (.Name x pos) (dG i):=by
 intro pins s σ H v u Q I r h;exact wpAny_assign_Name (oX I hN hi hx r (fun s' I'=>⟨_,H,I',h⟩) hf)
def rq:TGs:=fun vs σ H Q=>vs=[]/\Q σ H
def fc (t:TG)(u:TGs):TGs:=fun vs σ H Q=>∃ v r,vs=v::r/\t v σ H fun σ' H'=>u r σ' H' Q
theorem bQ:PGs X [] rq:=by
 intro pins s σ H vs us Q I r h;obtain⟨e,h⟩:=h;subst e;cases r;exact assignInOrder_nil ⟨σ,H,I,h⟩
theorem az {e:Expr}{es:List Expr}{t:TG}{u:TGs}(h1:PG X e t)(h2:PGs X es u)
 (hs:(assignEach (e::es) X.env).map (·.2)=assign e X.env::(assignEach es X.env).map (·.2):=by rfl):PGs X (e::es) (fc t u):=by
 intro pins s σ H vs us Q I r h;obtain⟨v,vr,e1,h⟩:=h;subst e1;cases r with
 | cons r rr =>
  rw [hs];refine assignInOrder_cons (thn (h1 pins s σ H _ _ _ I r h) fun _ s1 ⟨σ1,H1,I1,q1⟩=>?_);exact h2 pins s1 σ1 H1 _ _ Q I1 rr q1
def qN (K:PySem.W.Frag)(n:Nat)(t:TGs):TG:=fun v σ H Q=>∃ a xs,v=.ref a/\SqT K H a xs/\xs.length=n/\t xs σ H Q
theorem fi {es:List Expr}{k:Nat}{t:TGs}{n:Nat}(hc:X.calm=true)(h:PGs X es t)
 (hn:(assignEach es X.env).length=n:=by rfl)(hst:(assignEach es X.env).findIdx? (·.1)=none:=by rfl):PG X (.Tuple es k pos) (qN X.K n t):=by
 intro pins s σ H v u Q I r hw;obtain⟨a,xs,e1,hq,hl,hw⟩:=hw;subst e1;cases r;obtain⟨its,rv,ht,hz⟩:=I.tuple hq;refine assign_Tuple_tuple (I.ok.hd hc) ht (by simp [hn,← hl,rv.length]) hst fun h' hx=>?_;have I1:Inv X pins σ H { s with heap:=h' }:=I.kept (t':=s.toks) fun b o e=>hx b o (zY (zN e)) e;exact h pins _ σ H xs _ Q I1 (by simpa using rv) hw
def zk (to ti:TE)(t:yq):TG:=fun v σ H Q=>to σ H fun o H1=>ti σ H1 fun i H2=>t o i v H2 fun H3=>Q σ H3
theorem kg {o i:Expr}{to ti:TE}{t:yq}(ho:PE X o to)(hi:PE X i ti)(hs:y3 X t)
 (ha:∀ v,assign (.Subscript o i pos) X.env v=(do
  let ov ← holding [v] (eval o X.env)
  let iv ← holding [v,ov] (eval i X.env)
  standAt pos
  holding [v,ov,iv] (setItem ov iv v)
  release [v,ov,iv] []):=by intro _;rfl):PG X (.Subscript o i pos) (zk to ti t):=by
 intro pins s σ H v u Q I r h;rw [ha];refine zF (aal (thn (ho pins s σ H _ I h) fun ov s1 ⟨x,H1,I1,r1,q1⟩=>?_));refine zF (aal (thn (hi pins s1 σ H1 _ I1 q1) fun iv s2 ⟨y,H2,I2,r2,q2⟩=>?_));refine zF (aet (zF (aal (thn (hs pins s2 σ H2 x y v ov iv u _ I2 r1 r2 r q2) fun _ s3 ⟨H3,I3,q3⟩=>?_))));exact wpAny_release ⟨σ,H3,I3,q3⟩
def wI (te:TE)(g:TG):TS:=fun D σ H=>te σ H fun x H1=>g x σ H1 D.nx
theorem gc {tg e:Expr}{te:TE}{g:TG}(he:PE X e te)(hg:PG X tg g)(hs:swapsWithSole [tg] e pos.line X.env=pure false:=by rfl)(hw:swappedStores [tg] e X.env=pure none:=by rfl)
 (h1:(assignEach [tg] X.env).map (·.2)=[assign tg X.env]:=by rfl):PS X (.Assign [tg] e pos) (wI te g):=by
 intro pins s σ H D I h;refine wpAny_Assign_stores (thn (he pins s σ H _ I h) fun v s1 ⟨x,H1,I1,r1,q1⟩=>?_) hs hw;rw [h1];exact thn (hg pins s1 σ H1 x v _ I1 r1 q1) fun _ s2 q=>q
theorem aF {i:Nat}{x:Str}{e:Expr}{te:TE}{pos':Pos}(hN:X.N.Nodup)(hi:X.N[i]? = some x)(hx:Loc X.env.scope x)(he:PE X e te)(hs:swapsWith e (some (.Name x pos')) pos.line X.env=pure false:=by rfl)(hf:X.fn x=true\/X.env.scope.names.lookup x=some .local:=by first | exact .inl rfl | exact .inr rfl | assumption) :
 PS X (.Assign [.Name x pos'] e pos) (wI te (dG i)):=by
 intro pins s σ H D I h;refine wpAny_Assign_Name (thn (he pins s σ H _ I h) fun v s1 ⟨y,H1,I1,r1,q1⟩=>?_) hs;exact oX I1 hN hi hx r1 (fun s2 I2=>⟨_,H1,I2,q1⟩) hf
end
section
variable {X:Cx}{pos:Pos}
def xi (c:TT)(tb:TS):TS:=fun D σ H=>∃ W:Nat->St->Hp->Prop,(∃ m,W m σ H)/\∀ m σ H,W m σ H →
 c σ H fun b H1=>if b=true then ∃ N:St->Hp->Prop,(∀ σ' H',N σ' H'->∃ m',m' < m/\W m' σ' H')/\tb { D with nx:=N,ct:=N,bk:=D.nx } σ H1 else D.nx σ H1
theorem oO {c:Expr}{body:List Stmt}{tc:TT}{tb:TS}(hp:PassesOwn (model X.prog X.w) X.A X.env X.xe)(hc:PT X c tc)(hb:PSs X body tb):PS X (.While c body [] pos) (xi tc tb):=by
 intro pins s σ H D I h;obtain⟨W,⟨m0,w0⟩,turn⟩:=h;refine wpAny_While (codeAny_whileLoop (fun n s'=>∃ σ' H',Inv X pins σ' H' s'/\W n σ' H') ?_ m0 ⟨σ,H,I,w0⟩);rintro n s1 ⟨σ1,H1,I1,w1⟩;refine abT hp (thn (hc pins s1 σ1 H1 _ I1 (turn n σ1 H1 w1)) fun b s2 ⟨H2,I2,q2⟩=>?_);cases b with
 | true =>
  obtain⟨N,hN,q2⟩:=q2;rw [if_pos rfl];refine abT hp (thn (hb pins s2 σ1 H2 _ I2 q2) fun f s3 q3=>?_);cases f with
  | next =>
   obtain⟨σ3,H3,I3,n3⟩:=q3;obtain⟨m',hm,w3⟩:=hN σ3 H3 n3;exact⟨m',hm,σ3,H3,I3,w3⟩
  | cont =>
   obtain⟨σ3,H3,I3,n3⟩:=q3;obtain⟨m',hm,w3⟩:=hN σ3 H3 n3;exact⟨m',hm,σ3,H3,I3,w3⟩
  | brk=>exact q3
  | ret v=>exact q3
 | false =>
  rw [if_neg zO];exact adT ⟨σ1,H2,I2,q2⟩
end
structure It where
 go:Nat->Hp->Prop
 yld:Nat->Hp->V->Hp->Prop
 stop:Nat->Hp->Prop
def mj (X:Cx)(pins:List (Addr×Obj))(H:Hp)(b:Addr):Prop :=
 H b=none/\b≠X.env.locals/\b ∉ X.fs/\(b∈X.ex\/X.s₀.heap.objs.size<=b)/\(∀ x c,X.env.cells.lookup x=some c->c≠b)/\∀ p∈X.pn++pins,p.1≠b
theorem Inv.fpOk {X:Cx}{pins:List (Addr×Obj)}{σ:St}{H H':Hp}{s:Shared}{b:Addr}(I:Inv X pins σ H s)(hb:s.heap.objs.size<=b)(hn:H' b=none):mj X pins H' b:=by
 refine⟨hn,aaz (zX I.lt hb),I.nofs hb,.inr (aas I.sz hb),fun x c e z=>?_,fun p hp z=>?_⟩
 ·obtain⟨v,q⟩:=I.cell x c e;exact absurd (zX q.lt (by rw [z];exact hb)) (abp _)
 ·exact absurd (zX (zN (I.pin p hp).1) (by rw [z];exact hb)) (abp _)
structure wz (P:Program)(w:World)(K:PySem.W.Frag)(tg:Expr)(J:It)(fp:List Addr)(it:Addr)(tn:Nat->Heap->Prop):Prop where
 mem:it∈fp
 obj:∀ i h,tn i h->∀ b∈fp,∃ o,h.get? b=some o/\∀ v,o.data≠.cell v
 keep:∀ i h h',tn i h->(∀ b∈fp,∀ o,h.get? b=some o->h'.get? b=some o)->tn i h'
 item:∀ (X:Cx),X.prog=P->X.w=w->X.K=K->X.calm=true->∀ (i:Nat) (pins:List (Addr×Obj)) (s:Shared) (σ:St) (H:Hp) (E:Value->Shared->Prop),Inv X pins σ H s->(∀ b∈fp,mj X pins H b)->tn i s.heap->J.go i H →
  wpAny (model P w) X.A (pyNext (.ref it)) (fun r s1=>∃ u,r=some u ∧
   wpAny (model P w) X.A (letOwnedTupleGo tg (.ref it) u) (fun _ s2=>∃ x H',Inv X pins σ H' s2/\RelV x u/\J.yld i H x H'/\tn (i+1) s2.heap/\∀ b∈fp,H' b=none) E s1) E s
 done:∀ (X:Cx),X.prog=P->X.w=w->X.K=K->X.calm=true->∀ (i:Nat) (pins:List (Addr×Obj)) (s:Shared) (σ:St) (H:Hp) (E:Value->Shared->Prop),Inv X pins σ H s->(∀ b∈fp,mj X pins H b)->tn i s.heap->J.stop i H →
  wpAny (model P w) X.A (pyNext (.ref it)) (fun r s1=>r=none/\Inv X pins σ H s1) E s
 self:∀ (A:Around) (i:Nat) (s:Shared) (Q:Value->Shared->Prop) (E:Value->Shared->Prop),tn i s.heap->Q (.ref it) s->wpAny (model P w) A (pyIter (.ref it)) Q E s
abbrev TI:=St->Hp->(It->Hp->Prop)->Prop
def PIE (X:Cx)(pins:List (Addr×Obj))(σ:St)(tg:Expr)(R:It->Hp->Prop)(itv:Value)(s2:Shared):Prop :=
 ∃ (it:Addr) (fp:List Addr) (tn:Nat->Heap->Prop) (J:It) (H':Hp),itv=.ref it/\Inv X pins σ H' s2/\wz X.prog X.w X.K tg J fp it tn/\tn 0 s2.heap/\(∀ b∈fp,mj X pins H' b)/\R J H'
def PI (X:Cx)(tg iter:Expr)(wi:TI):Prop :=
 ∀ (pins:List (Addr×Obj)) (s:Shared) (σ:St) (H:Hp) (R:It->Hp->Prop),Inv X pins σ H s->wi σ H R →
  wpAny (model X.prog X.w) X.A (eval iter X.env) (fun v s1=>wpAny (model X.prog X.w) X.A (pyIter v) (PIE X pins σ tg R) X.xe s1) X.xe s
theorem xR {M:Model}{A:Around}{E:Value->Shared->Prop}{s:Shared}{tg:Expr}{it:Addr}{u:Value}{o:Obj}{n:String}{vs:Array Value}{Q:Unit->Shared->Prop}(ho:s.heap.get? it=some o)(hc:o.cls=.type n)(hd:o.data=.fields vs)
 (hn:["enumerate","zip","dict_itemiterator","dict_reverseitemiterator","odict_iterator","itertools.zip_longest","itertools.pairwise"].contains n=false)(hQ:Q () s):wpAny M A (letOwnedTupleGo tg (.ref it) u) Q E s:=by
 unfold letOwnedTupleGo;cases tg<;>first
  | exact zM hQ
  | (cases u<;>first
   | exact zM hQ
   | (refine zF (adm ho ?_);rw [hc,hd];show wpAny M A (if (["enumerate","zip","dict_itemiterator","dict_reverseitemiterator","odict_iterator","itertools.zip_longest","itertools.pairwise"].contains n && vs[0]? == some (rawInt _))=true then _ else _) Q E s;rw [if_neg (by intro h;rw [hn,Bool.false_and] at h;cases h)];exact zM hQ))
def Itl (K:PySem.W.Frag)(a:Addr):It :=
 ⟨fun i H=>∃ xs x,SqL K H a xs/\xs[i]? = some x,fun i H x H'=>H'=H/\∀ xs,SqL K H a xs->xs[i]? = some x,fun i H=>∃ xs,SqL K H a xs/\xs.length<=i⟩
def Itr (lo:Int)(n:Nat):It:=⟨fun i _=>i < n,fun i H x H'=>H'=H/\x=.int (lo+i),fun i _=>n<=i⟩
theorem qX {P:Program}{w:World}{K:PySem.W.Frag}{tg:Expr}(a it:Addr):wz P w K tg (Itl K a) [it] it (fun i h=>h.IsListIter it a i) where
 mem:=by simp
 obj:=fun i h st b hb=>by
  have e:b=it:=by simpa using hb
  subst e;obtain⟨o,e,c,d⟩:=st;exact⟨o,e,fun v z=>by rw [d] at z;cases z⟩
 keep:=fun i h h' st k=>st.at fun o e=>k it (by simp) o e
 item:=by
  intro X hP hw hK hc i pins s σ H E I hf st hg;subst hP hw hK;obtain⟨xs,x,hq,hx⟩:=hg;obtain⟨its,rv,p,hz⟩:=I.list hq;obtain⟨u,hu,ru⟩:=rv.get hx;obtain⟨f0,f1,f2,f3,f4,f5⟩:=hf it (by simp);refine wpAny_pyNext_list_item st p.isList (x:=u) (by simpa using hu) fun h' st' sb=>?_;have I1:Inv X pins σ H { s with heap:=h' }:=I.turned (t':=s.toks) (fun b o hb e=>(sb.2 b hb).trans e) f0 f1 f3 f4 f5;obtain⟨o,e,c,d⟩:=id st';exact⟨u,rfl,xR (s:={ s with heap:=h' }) e c d (by decide) ⟨x,H,I1,ru,⟨rfl,fun ys hy=>by rw [I.list_inj hy hq];exact hx⟩,st',fun b hb=>(hf b hb).1⟩⟩
 done:=by
  intro X hP hw hK hc i pins s σ H E I hf st hg;subst hP hw hK;obtain⟨xs,hq,hx⟩:=hg;obtain⟨its,rv,p,hz⟩:=I.list hq;obtain⟨f0,f1,f2,f3,f4,f5⟩:=hf it (by simp);have hl:=rv.length;exact wpAny_pyNext_list_end (I.ok.hd hc) st p.isList (by simp;lia) fun h' eb=>⟨rfl,I.turned (t':=s.toks) (fun b o hb e=>eb b o hb e) f0 f1 f3 f4 f5⟩
 self:=fun _ _ _ _ _ st h=>wpAny_pyIter_listiter st h
theorem qh {P:Program}{w:World}{K:PySem.W.Frag}{tg:Expr}(it:Addr)(lo:Int)(n:Nat):wz P w K tg (Itr lo n) [it] it (fun i h=>IsRangeIter h it (lo+(i:Nat) * 1) ((n:Int) - (i:Nat)) 1) where
 mem:=by simp
 obj:=fun i h st b hb=>by
  have e:b=it:=by simpa using hb
  subst e;exact⟨_,st,fun v z=>by
   have z':Data.fields _=Data.cell v:=z;cases z'⟩
 keep:=fun i h h' st k=>k it (by simp) _ st
 item:=by
  intro X hP hw hK hc i pins s σ H E I hf st hg;subst hP hw hK;obtain⟨f0,f1,f2,f3,f4,f5⟩:=hf it (by simp);have W:=Walks.range (prog:=X.prog) (w:=X.w) (I.ok.hd hc) it lo 1 n;refine W.item i s _ _ hg st fun v h' tk hv st' kk=>?_;obtain⟨t,rfl⟩:=hv;have I1:Inv X pins σ H { s with heap:=h',toks:=tk }:=I.turned (fun b o hb e=>kk b o (by simpa using hb) e) f0 f1 f3 f4 f5;refine⟨_,rfl,xR (s:={ s with heap:=h',toks:=tk }) (n := "range_iterator") st' rfl rfl (by decide) ⟨.int (lo+i),H,I1,⟨t,?_⟩,⟨rfl,rfl⟩,st',fun b hb=>(hf b hb).1⟩⟩;rw [Int.mul_one]
 done:=by
  intro X hP hw hK hc i pins s σ H E I hf st hg;subst hP hw hK;obtain⟨f0,f1,f2,f3,f4,f5⟩:=hf it (by simp);exact wpAny_pyNext_range_end (I.ok.hd hc) st (by have:n<=i:=hg;lia) fun h' eb=>⟨rfl,I.turned (t':=s.toks) (fun b o hb e=>eb b o hb e) f0 f1 f3 f4 f5⟩
 self:=fun _ _ _ _ _ st h=>wpAny_pyIter_rangeiter st h
section
variable {X:Cx}{tg:Expr}
def xC (K:PySem.W.Frag)(tl:TE):TI:=fun σ H R=>tl σ H fun x H1=>∃ a,x=.ref a/\(∃ xs,SqL K H1 a xs)/\R (Itl K a) H1
theorem bN {l:Expr}{tl:TE}(hl:PE X l tl):PI X tg l (xC X.K tl):=by
 intro pins s σ H R I h;refine thn (hl pins s σ H _ I h) fun v s1 ⟨x,H1,I1,r1,q1⟩=>?_;obtain⟨a,e,⟨xs,hq⟩,q⟩:=q1;subst e;cases r1;obtain⟨its,rv,p,hz⟩:=I1.list hq;refine adn p.isList ?_;refine⟨s1.heap.objs.size,[s1.heap.objs.size],_,_,H1,rfl,I1.kept (t':=s1.toks) fun b o e=>zK _ e,qX a _,⟨_,zW _ rfl,rfl,rfl⟩,fun b hb=>?_,q⟩;have e:b=s1.heap.objs.size:=by simpa using hb
 subst e;exact I1.fpOk (zP _) (I1.hok.fresh (zP _))
theorem ug {pins:List (Addr×Obj)}{σ:St}{H:Hp}{s:Shared}{R:It->Hp->Prop}{E:Value->Shared->Prop}{lo hi:Int}{t u v:Tok}{tk:Nat}(I:Inv X pins σ H s)(h1:-(2 ^ 62)<=lo)(h2:lo < 2 ^ 62)(h3:-(2 ^ 62)<=hi)(h4:hi < 2 ^ 62)
 (q:R (Itr lo (hi - lo).toNat) H):wpAny (model X.prog X.w) X.A (pyIter (.ref s.heap.objs.size)) (PIE X pins σ tg R) E { s with heap:=s.heap.push { cls:=.type "range",data:=.fields #[.int lo t,.int hi u,.int 1 v] },toks:=tk }:=by
 refine wpAny_pyIter_range (IsRange.new ..) (small_one h1 h2 h3 h4) ?_;have I1:Inv X pins σ H { s with heap:=s.heap.push { cls:=.type "range",data:=.fields #[.int lo t,.int hi u,.int 1 v] },toks:=tk }:=I.kept fun b o e=>zK _ e;refine⟨(s.heap.push { cls:=.type "range",data:=.fields #[.int lo t,.int hi u,.int 1 v] }).objs.size,[(s.heap.push { cls:=.type "range",data:=.fields #[.int lo t,.int hi u,.int 1 v] }).objs.size],_,_,H,rfl,
  I1.kept (t':=tk) fun b o e=>zK _ e,qh _ lo (hi - lo).toNat,?_,fun b hb=>?_,q⟩
 ·have e1:lo+((0:Nat):Int) * 1=lo:=by simp
  have e2:(((hi - lo).toNat:Nat):Int) - ((0:Nat):Int)=Builtin.Range.rangeSize lo hi 1:=by rw [rangeSize_one];split<;>lia
  show IsRangeIter _ _ (lo+((0:Nat):Int) * 1) ((((hi - lo).toNat:Nat):Int) - ((0:Nat):Int)) 1;rw [e1,e2];exact zW _ rfl
 ·have e:b=(s.heap.push { cls:=.type "range",data:=.fields #[.int lo t,.int hi u,.int 1 v] }).objs.size:=by simpa using hb
  subst e;exact I1.fpOk (zP _) (I1.hok.fresh (zP _))
def yv (ta:TA):TI:=fun σ H R=>ta σ H fun vs H1=>∃ j:Int,vs=[.int j]/\-(2 ^ 62)<=j/\j < 2 ^ 62/\R (Itr 0 j.toNat) H1
theorem eC {a:Expr}{ta:TA}{p pos:Pos}(hg:Gl X "range")(hm:X.mg "range" = none)(ha:PA X [a] ta)(hs:starEach [a] X.env=[(false,eval a X.env)]:=by rfl):PI X tg (.Call (.Name "range" p) [a] [] pos) (yv ta):=by
 intro pins s σ H R I h;refine Call_ (gx I hg hm boot_range (abc (thn (ha pos pins s σ H _ I h) fun us s1 ⟨vs,H1,I1,r1,q1⟩=>?_) hs rfl));obtain⟨j,e,q1,q2,q⟩:=q1;subst e;cases r1 with
 | cons r rr =>
  cases rr;obtain⟨t,rfl⟩:=r;exact call_range_1 (ug I1 (by lia) (by lia) q1 q2 (by simpa using q))
def zC (wi:TI)(g:TG)(tb:TS):TS:=fun D σ H=>wi σ H fun J H1=>∃ W:Nat->Nat->St->Hp->Prop,(∃ m,W 0 m σ H1)/\∀ i m σ H,W i m σ H →
 (J.stop i H/\D.nx σ H)\/(J.go i H/\∃ N:St->Hp->Prop,(∀ σ' H',N σ' H'->∃ m',m' < m/\W (i+1) m' σ' H')/\∀ x H',J.yld i H x H'->g x σ H' fun σ2 H2=>tb { D with nx:=N,ct:=N,bk:=D.nx } σ2 H2)
def j6 (fp:List Addr)(h:Heap):List (Addr×Obj):=fp.filterMap fun b=>(h.get? b).map fun o=>(b,o)
theorem dq {fp:List Addr}{h:Heap}{b:Addr}{o:Obj}(hb:b∈fp)(e:h.get? b=some o):(b,o)∈j6 fp h:=List.mem_filterMap.mpr ⟨b,hb,by rw [e];rfl⟩
theorem rS {fp:List Addr}{h:Heap}{p:Addr×Obj}(hp:p∈j6 fp h):p.1∈fp/\h.get? p.1=some p.2:=by
 obtain⟨b,hb,e⟩:=List.mem_filterMap.mp hp;cases q:h.get? b with
 | none=>rw [q] at e;cases e
 | some o =>
  rw [q] at e;have e':(b,o)=p:=aai e;subst e';exact⟨hb,q⟩
theorem Inv.pinned {pins:List (Addr×Obj)}{σ:St}{H:Hp}{s:Shared}{fp:List Addr}(I:Inv X pins σ H s)(hf:∀ b∈fp,mj X pins H b)(ho:∀ b∈fp,∃ o,s.heap.get? b=some o/\∀ v,o.data≠.cell v):Inv X (pins++j6 fp s.heap) σ H s :=
 I.pins_of fun p hp=>(zS.mp hp).elim (fun z=>I.pin p (aaa _ z)) fun z=>by
  obtain⟨hb,e⟩:=rS z;obtain⟨f0,f1,f2,_⟩:=hf p.1 hb;obtain⟨o,e',d⟩:=ho p.1 hb;rw [e] at e';cases e';exact⟨e,f0,f1,f2,d⟩
theorem Inv.unpinned {pins pl:List (Addr×Obj)}{σ:St}{H:Hp}{s:Shared}(I:Inv X (pins++pl) σ H s):Inv X pins σ H s:=I.pins_of fun p hp=>I.pin p (aaa _ (aaW _ hp))
theorem dJ {iter:Expr}{body:List Stmt}{wi:TI}{g:TG}{tb:TS}{pos:Pos}(hp:PassesOwn (model X.prog X.w) X.A X.env X.xe)(hc:X.calm=true)(hi:PI X tg iter wi)(hg:PG X tg g)(hb:PSs X body tb)
 (hs:∀ x,foldedSetIterable iter X.env x=pure x:=by intro _;rfl):PS X (.For tg iter body [] pos) (zC wi g tb):=by
 intro pins s σ H D I h;refine wpAny_For (thn (hi pins s σ H _ I h) fun v s1 h1=>thn h1 fun itv s2 h2=>?_) hs;obtain⟨it,fp,tn,J,H2,e,I2,T,st2,f2,W,⟨m0,w0⟩,turn⟩:=h2;subst e;have stat:∀ {H':Hp},(∀ b∈fp,H' b=none)->∀ b∈fp,mj X pins H' b:=fun hn b hb=>⟨hn b hb,(f2 b hb).2⟩;refine codeAny_forLoop_any (fun n s'=>∃ i σ' H',Inv X pins σ' H' s'/\tn i s'.heap/\(∀ b∈fp,H' b=none)/\W i n σ' H') ?_ m0 ⟨0,σ,H2,I2,st2,fun b hb=>(f2 b hb).1,w0⟩;rintro n s3 ⟨i,σ3,H3,I3,st3,fr3,w3⟩;rcases turn i n σ3 H3 w3 with ⟨stop,qn⟩ | ⟨go,N,hN,step⟩
 ·refine abT hp (thn (T.done X rfl rfl rfl hc i pins s3 σ3 H3 X.xe I3 (stat fr3) st3 stop) fun r s4 ⟨hr,I4⟩=>?_);subst hr;exact adT ⟨σ3,H3,I4,qn⟩
 ·refine abT hp (thn (T.item X rfl rfl rfl hc i pins s3 σ3 H3 X.xe I3 (stat fr3) st3 go) fun r s4 ⟨u,hr,h4⟩=>?_);subst hr;refine abT hp (thn h4 fun _ s5 ⟨x,H5,I5,r5,y5,st5,fr5⟩=>?_);have I5':=I5.pinned (stat fr5) (T.obj _ _ st5);refine abT hp (thn (hg _ s5 σ3 H5 x u _ I5' r5 (step x H5 y5)) fun _ s6 ⟨σ6,H6,I6,q6⟩=>?_);refine abT hp (thn (hb _ s6 σ6 H6 _ I6 q6) fun f s7 q7=>?_);have again:∀ {σ7:St} {H7:Hp},Inv X (pins++j6 fp s5.heap) σ7 H7 s7->N σ7 H7->∃ m,m < n/\∃ i σ' H',Inv X pins σ' H' s7/\tn i s7.heap/\(∀ b∈fp,H' b=none)/\W i m σ' H':=fun {σ7 H7} I7 n7=>by
   obtain⟨m',hm,w7⟩:=hN σ7 H7 n7;refine⟨m',hm,i+1,σ7,H7,I7.unpinned,T.keep _ _ _ st5 fun b hb o e=>(I7.pin (b,o) (aaa _ (aaa _ (dq hb e)))).1,fun b hb=>?_,w7⟩;obtain⟨o,e,d⟩:=T.obj _ _ st5 b hb;exact (I7.pin (b,o) (aaa _ (aaa _ (dq hb e)))).2.1
  cases f with
  | next=>obtain⟨σ7,H7,I7,n7⟩:=q7;exact again I7 n7
  | cont=>obtain⟨σ7,H7,I7,n7⟩:=q7;exact again I7 n7
  | brk=>obtain⟨σ7,H7,I7,q7⟩:=q7;exact⟨σ7,H7,I7.unpinned,q7⟩
  | ret v=>obtain⟨x7,σ7,H7,I7,r7,q7⟩:=q7;exact⟨x7,σ7,H7,I7.unpinned,r7,q7⟩
end
theorem dN {K:PySem.W.Frag}{a:Addr}{xs:List V}{g:TG}{tb:TS}{D:tY}{σ:St}{H:Hp}(Pv:Nat->St->Hp->Prop)(h0:Pv 0 σ H)(hl:∀ i σ H,i<=xs.length->Pv i σ H->SqL K H a xs)
 (hs:∀ i x σ H,xs[i]? = some x->Pv i σ H->g x σ H fun σ2 H2=>tb { D with nx:=Pv (i+1),ct:=Pv (i+1),bk:=D.nx } σ2 H2)(hd:∀ σ H,Pv xs.length σ H->D.nx σ H) :
 ∃ W:Nat->Nat->St->Hp->Prop,(∃ m,W 0 m σ H)/\∀ i m σ H,W i m σ H →
  ((Itl K a).stop i H/\D.nx σ H)\/((Itl K a).go i H/\∃ N:St->Hp->Prop,(∀ σ' H',N σ' H'->∃ m',m' < m/\W (i+1) m' σ' H')/\∀ x H',(Itl K a).yld i H x H'->g x σ H' fun σ2 H2=>tb { D with nx:=N,ct:=N,bk:=D.nx } σ2 H2):=by
 refine⟨fun i m σ H=>m=xs.length - i/\i<=xs.length/\Pv i σ H,⟨xs.length,by simp,zZ _,h0⟩,?_⟩;rintro i m σ H ⟨rfl,hi,p⟩;have q:=hl i σ H hi p;by_cases hlt:i < xs.length
 ·refine .inr ⟨⟨xs,xs[i],q,by simp [hlt]⟩,Pv (i+1),fun σ' H' p'=>⟨xs.length - (i+1),by lia,rfl,hlt,p'⟩,fun x H' y=>?_⟩;obtain⟨e,y⟩:=y;subst e;exact hs i x σ _ (y xs q) p
 ·have e:i=xs.length:=by lia
  subst e;exact .inl ⟨⟨xs,q,zP _⟩,hd σ H p⟩
theorem gL {lo:Int}{n:Nat}{g:TG}{tb:TS}{D:tY}{σ:St}{H:Hp}(Pv:Nat->St->Hp->Prop)(h0:Pv 0 σ H)
 (hs:∀ i σ H,i < n->Pv i σ H->g (.int (lo+i)) σ H fun σ2 H2=>tb { D with nx:=Pv (i+1),ct:=Pv (i+1),bk:=D.nx } σ2 H2)(hd:∀ σ H,Pv n σ H->D.nx σ H) :
 ∃ W:Nat->Nat->St->Hp->Prop,(∃ m,W 0 m σ H)/\∀ i m σ H,W i m σ H →
  ((Itr lo n).stop i H/\D.nx σ H)\/((Itr lo n).go i H/\∃ N:St->Hp->Prop,(∀ σ' H',N σ' H'->∃ m',m' < m/\W (i+1) m' σ' H')/\∀ x H',(Itr lo n).yld i H x H'->g x σ H' fun σ2 H2=>tb { D with nx:=N,ct:=N,bk:=D.nx } σ2 H2):=by
 refine⟨fun i m σ H=>m=n - i/\i<=n/\Pv i σ H,⟨n,by simp,zZ _,h0⟩,?_⟩;rintro i m σ H ⟨rfl,hi,p⟩;by_cases hlt:i < n
 ·refine .inr ⟨hlt,Pv (i+1),fun σ' H' p'=>⟨n - (i+1),by lia,rfl,hlt,p'⟩,fun x H' y=>?_⟩;obtain⟨e,y⟩:=y;subst e y;exact hs i σ _ hlt p
 ·have e:i=n:=by lia
  subst e;exact .inl ⟨zP _,hd σ H p⟩
abbrev R2:=V->V->Hp->VK->Prop
def OpR (X:Cx)(f:Value->Value->Sem Value)(r:R2):Prop :=
 ∀ (pins:List (Addr×Obj)) (s:Shared) (σ:St) (H:Hp) (x y:V) (v u:Value) (Q:VK),Inv X pins σ H s->RelV x v->RelV y u->r x y H Q →
  wpAny (model X.prog X.w) X.A (f v u) (EP X pins σ Q) X.xe s
def UnR (X:Cx)(f:Value->Sem Value)(r:V->Hp->VK->Prop):Prop :=
 ∀ (pins:List (Addr×Obj)) (s:Shared) (σ:St) (H:Hp) (x:V) (v:Value) (Q:VK),Inv X pins σ H s->RelV x v->r x H Q →
  wpAny (model X.prog X.w) X.A (f v) (EP X pins σ Q) X.xe s
def d8 (X:Cx)(f:Value)(r:List V->Hp->VK->Prop):Prop :=
 ∀ (pins:List (Addr×Obj)) (s:Shared) (σ:St) (H:Hp) (xs:List V) (us:List Value) (Q:VK),Inv X pins σ H s->Vals xs us->r xs H Q →
  wpAny (model X.prog X.w) X.A (call f us) (EP X pins σ Q) X.xe s
def tOp (r:R2)(ta tb:TE):TE:=fun σ H Q=>ta σ H fun x H1=>tb σ H1 fun y H2=>r x y H2 Q
def tUn (r:V->Hp->VK->Prop)(ta:TE):TE:=fun σ H Q=>ta σ H fun x H1=>r x H1 Q
def rI (C:Int->Int->Prop)(g:Int->Int->V):R2:=fun x y H Q=>∃ i j,x=.int i/\y=.int j/\C i j/\Q (g i j) H
def rI0 (g:Int->Int->V):R2:=fun x y H Q=>∃ i j,x=.int i/\y=.int j/\Q (g i j) H
def rU (g:Int->V):V->Hp->VK->Prop:=fun x H Q=>∃ i,x=.int i/\Q (g i) H
section
variable {X:Cx}{a b c:Expr}{ta tb tc:TE}{pos:Pos}
theorem yt (ha:PE X a ta)(hb:PE X b tb){pins:List (Addr×Obj)}{s:Shared}{σ:St}{H:Hp}{R:V->V->Hp->Prop}(I:Inv X pins σ H s)
 (h:ta σ H fun x H1=>tb σ H1 fun y H2=>R x y H2){Q:Value->Shared->Prop}{f:Value->Value->Sem Value}
 (hf:∀ v u s2 x y H2,Inv X pins σ H2 s2->RelV x v->RelV y u->R x y H2->wpAny (model X.prog X.w) X.A (f v u) Q X.xe s2) :
 wpAny (model X.prog X.w) X.A (eval a X.env) (fun v s₁=>wpAny (model X.prog X.w) X.A (eval b X.env) (fun u s₂=>wpAny (model X.prog X.w) X.A (f v u) Q X.xe s₂) X.xe s₁) X.xe s:=by
 refine thn (ha pins s σ H _ I h) fun v s1 ⟨x,H1,I1,r1,q1⟩=>?_;refine thn (hb pins s1 σ H1 _ I1 q1) fun u s2 ⟨y,H2,I2,r2,q2⟩=>?_;exact hf v u s2 x y H2 I2 r1 r2 q2
theorem aY {op:Operator}{r:R2}(ho:OpR X (binaryOp op) r)(ha:PE X a ta)(hb:PE X b tb):PE X (.BinOp a op b pos) (tOp r ta tb):=by
 intro pins s σ H Q I h;exact wpAny_BinOp (yt ha hb I h fun v u s2 x y H2 I2 rx ry q=>ho pins s2 σ H2 x y v u Q I2 rx ry q)
theorem vm {op:UnaryOp}{r:V->Hp->VK->Prop}(ho:UnR X (unaryOp op) r)(ha:PE X a ta):PE X (.UnaryOp op a pos) (tUn r ta):=by
 intro pins s σ H Q I h;exact UnaryOp_ (thn (ha pins s σ H _ I h) fun v s1 ⟨x,H1,I1,r1,q1⟩=>ho pins s1 σ H1 x v Q I1 r1 q1)
theorem opI {f:Value->Value->Sem Value}{C:Int->Int->Prop}{g:Int->Int->Int}
 (rule:∀ (i j:Int) (t u:Tok) (s:Shared) (Q:Value->Shared->Prop) (E:Value->Shared->Prop),C i j->Q (.int (g i j) s.toks) { s with toks:=s.toks+1 }->wpAny (model X.prog X.w) X.A (f (.int i t) (.int j u)) Q E s) :
 OpR X f (rI C fun i j=>.int (g i j)):=by
 intro pins s σ H x y v u Q I rx ry h;obtain⟨i,j,rfl,rfl,hc,q⟩:=h;obtain⟨t,rfl⟩:=rx;obtain⟨t',rfl⟩:=ry;exact rule i j t t' s _ _ hc ⟨.int (g i j),H,I.tok _,⟨_,rfl⟩,q⟩
theorem yW {f:Value->Value->Sem Value}{g:Int->Int->Int}
 (rule:∀ (i j:Int) (t u:Tok) (s:Shared) (Q:Value->Shared->Prop) (E:Value->Shared->Prop),Q (.int (g i j) s.toks) { s with toks:=s.toks+1 }->wpAny (model X.prog X.w) X.A (f (.int i t) (.int j u)) Q E s) :
 OpR X f (rI0 fun i j=>.int (g i j)):=by
 intro pins s σ H x y v u Q I rx ry h;obtain⟨i,j,rfl,rfl,q⟩:=h;obtain⟨t,rfl⟩:=rx;obtain⟨t',rfl⟩:=ry;exact rule i j t t' s _ _ ⟨.int (g i j),H,I.tok _,⟨_,rfl⟩,q⟩
theorem yI {f:Value->Value->Sem Value}{g:Int->Int->Bool}
 (rule:∀ (i j:Int) (t u:Tok) (s:Shared) (Q:Value->Shared->Prop) (E:Value->Shared->Prop),Q (.bool (g i j)) s->wpAny (model X.prog X.w) X.A (f (.int i t) (.int j u)) Q E s) :
 OpR X f (rI0 fun i j=>.bl (g i j)):=by
 intro pins s σ H x y v u Q I rx ry h;obtain⟨i,j,rfl,rfl,q⟩:=h;obtain⟨t,rfl⟩:=rx;obtain⟨t',rfl⟩:=ry;exact rule i j t t' s _ _ ⟨.bl (g i j),H,I,rfl,q⟩
def zt (i j:Int):Prop:=0 < j/\j < 1073741824
def zj (i j:Int):Prop:=0<=j/\j<=1000000/\i.natAbs < 2 ^ 64
def CMul (i j:Int):Prop:=(-(2 ^ 64) < i/\i < 2 ^ 64)\/(-(2 ^ 64) < j/\j < 2 ^ 64)
theorem CMul.ok {i j:Int}(h:CMul i j):IntMulOk i j:=by
 rcases h with ⟨h1,h2⟩ | ⟨h1,h2⟩
 ·exact .of_left (intBits_le_64 h1 h2)
 ·exact .of_right (intBits_le_64 h1 h2)
theorem dh:OpR X (binaryOp .Add) (rI0 fun i j=>.int (i+j)):=yW fun _ _ _ _ _ _ _ q=>add_int q
theorem pD:OpR X (binaryOp .Sub) (rI0 fun i j=>.int (i - j)):=yW fun _ _ _ _ _ _ _ q=>sub_int q
theorem gH:OpR X (binaryOp .Mult) (rI CMul fun i j=>.int (i * j)):=opI fun _ _ _ _ _ _ _ hc q=>mul_int q hc.ok
theorem nJ:OpR X (binaryOp .FloorDiv) (rI zt fun i j=>.int (i / j)):=opI fun i j _ _ _ _ _ hc q=>by
 have h1:(0:Int) < j:=hc.1;have h2:j < 1073741824:=hc.2;exact floordiv_int (by lia) (by rw [Int.fdiv_eq_ediv_of_nonneg i (by lia)];exact q) (.inl (PyProof.noPylong_small (by lia)))
theorem kj:OpR X (binaryOp .Mod) (rI (fun _ j=>0 < j) fun i j=>.int (i % j)):=opI fun i j _ _ _ _ _ hc q=>by
 have h1:(0:Int) < j:=hc;exact mod_int' (by lia) (by rw [Int.fmod_eq_emod_of_nonneg i (by lia)];exact q)
theorem vq:OpR X (binaryOp .Pow) (rI zj fun i j=>.int (i ^ j.toNat)):=opI fun _ _ _ _ _ _ _ hc q=>pow_int_small hc.1 hc.2.1 hc.2.2 q
theorem unI {f:Value->Sem Value}{g:Int->Int}
 (rule:∀ (i:Int) (t:Tok) (s:Shared) (Q:Value->Shared->Prop) (E:Value->Shared->Prop),Q (.int (g i) s.toks) { s with toks:=s.toks+1 }->wpAny (model X.prog X.w) X.A (f (.int i t)) Q E s) :
 UnR X f (rU fun i=>.int (g i)):=by
 intro pins s σ H x v Q I rx h;obtain⟨i,rfl,q⟩:=h;obtain⟨t,rfl⟩:=rx;exact rule i t s _ _ ⟨.int (g i),H,I.tok _,⟨_,rfl⟩,q⟩
theorem oH:UnR X (unaryOp .USub) (rU fun i=>.int (-i)):=unI fun _ _ _ _ _ q=>neg_int q
end
def zc:V->V->Bool
 | .non,.non=>true | .non,.int _=>true | .int _,.non=>true | .non,.bl _=>true | .bl _,.non=>true | .non,.str _=>true | .str _,.non=>true
 | .int _,.int _=>true | .bl _,.bl _=>true | .str _,.str _=>true | .byt _,.byt _=>true
 | .int _,.str _=>true | .str _,.int _=>true | .bl _,.str _=>true | .str _,.bl _=>true
 | _,_=>false
def rEq:R2:=fun x y H Q=>zc x y=true/\Q (.bl (decide (x=y))) H
def rNe:R2:=fun x y H Q=>zc x y=true/\Q (.bl (!decide (x=y))) H
theorem tM {i j:Int}:decide (V.int i=V.int j)=(i == j):=by
 rw [acW];simp
theorem vD {i j:Bool}:decide (V.bl i=V.bl j)=(i == j):=by
 rw [acW];simp
theorem sZ {i j:Str}:decide (V.str i=V.str j)=(i == j):=by
 rw [acW];simp
theorem qW {i j:Array UInt8}:decide (V.byt i=V.byt j)=(i.toList == j.toList):=by
 rw [acW];cases i;cases j;simp
section
variable {X:Cx}{a b c:Expr}{ta tb tc:TE}{pos:Pos}
theorem bz {pins:List (Addr×Obj)}{σ:St}{H:Hp}{s:Shared}{Q:VK}{k k':Bool}(I:Inv X pins σ H s)(q:Q (.bl k) H)(e:k=k'):EP X pins σ Q (.bool k') s:=by
 subst e;exact⟨.bl k,H,I,rfl,q⟩
theorem ic:OpR X (compareOp .Eq) rEq:=by
 intro pins s σ H x y v u Q I rx ry h;obtain⟨hs,q⟩:=h;cases x with
 | non =>
  cases rx;cases y with
  | non=>cases ry;exact PySem.EqNone.eq_none_none (bz I q (by simp))
  | bl j=>cases ry;exact PySem.EqNone.eq_none_bool (bz I q (by simp))
  | int j=>obtain⟨t',rfl⟩:=ry;exact PySem.EqNone.eq_none_int (bz I q (by simp))
  | str j=>obtain⟨t',rfl⟩:=ry;exact PySem.EqNone.eq_none_str (bz I q (by simp))
  | _=>exact absurd (show false=true from hs) zO
 | bl i =>
  cases rx;cases y with
  | non=>cases ry;exact PySem.EqNone.eq_bool_none (bz I q (by simp))
  | bl j=>cases ry;exact eq_bool (bz I q vD)
  | str j=>obtain⟨t',rfl⟩:=ry;exact PySem.EqMixed.eq_bool_str (bz I q (by simp))
  | _=>exact absurd (show false=true from hs) zO
 | int i =>
  obtain⟨t,rfl⟩:=rx;cases y with
  | non=>cases ry;exact PySem.EqNone.eq_int_none (bz I q (by simp))
  | int j=>obtain⟨t',rfl⟩:=ry;exact eq_int (bz I q tM)
  | str j=>obtain⟨t',rfl⟩:=ry;exact PySem.EqMixed.eq_int_str (bz I q (by simp))
  | _=>exact absurd (show false=true from hs) zO
 | str i =>
  obtain⟨t,rfl⟩:=rx;cases y with
  | non=>cases ry;exact PySem.EqNone.eq_str_none (bz I q (by simp))
  | bl j=>cases ry;exact PySem.EqMixed.eq_str_bool (bz I q (by simp))
  | int j=>obtain⟨t',rfl⟩:=ry;exact PySem.EqMixed.eq_str_int (bz I q (by simp))
  | str j=>obtain⟨t',rfl⟩:=ry;exact eq_str (bz I q sZ)
  | _=>exact absurd (show false=true from hs) zO
 | byt i =>
  obtain⟨t,rfl⟩:=rx;cases y with
  | byt j=>obtain⟨t',rfl⟩:=ry;exact PySem.W.eq_bytes (bz I q qW)
  | _=>exact absurd (show false=true from hs) zO
 | _=>cases y<;>exact absurd (show false=true from hs) zO
theorem xE:OpR X (compareOp .NotEq) rNe:=by
 intro pins s σ H x y v u Q I rx ry h;obtain⟨hs,q⟩:=h;cases x with
 | non =>
  cases rx;cases y with
  | non=>cases ry;exact PySem.EqNone.ne_none_none (bz I q (by simp))
  | bl j=>cases ry;exact PySem.EqNone.ne_none_bool (bz I q (by simp))
  | int j=>obtain⟨t',rfl⟩:=ry;exact PySem.EqNone.ne_none_int (bz I q (by simp))
  | str j=>obtain⟨t',rfl⟩:=ry;exact PySem.EqNone.ne_none_str (bz I q (by simp))
  | _=>exact absurd (show false=true from hs) zO
 | bl i =>
  cases rx;cases y with
  | non=>cases ry;exact PySem.EqNone.ne_bool_none (bz I q (by simp))
  | bl j=>cases ry;exact ne_bool (bz I q (aaG not vD))
  | str j=>obtain⟨t',rfl⟩:=ry;exact PySem.EqMixed.ne_bool_str (bz I q (by simp))
  | _=>exact absurd (show false=true from hs) zO
 | int i =>
  obtain⟨t,rfl⟩:=rx;cases y with
  | non=>cases ry;exact PySem.EqNone.ne_int_none (bz I q (by simp))
  | int j=>obtain⟨t',rfl⟩:=ry;exact ne_int (bz I q (aaG not tM))
  | str j=>obtain⟨t',rfl⟩:=ry;exact PySem.EqMixed.ne_int_str (bz I q (by simp))
  | _=>exact absurd (show false=true from hs) zO
 | str i =>
  obtain⟨t,rfl⟩:=rx;cases y with
  | non=>cases ry;exact PySem.EqNone.ne_str_none (bz I q (by simp))
  | bl j=>cases ry;exact PySem.EqMixed.ne_str_bool (bz I q (by simp))
  | int j=>obtain⟨t',rfl⟩:=ry;exact PySem.EqMixed.ne_str_int (bz I q (by simp))
  | str j=>obtain⟨t',rfl⟩:=ry;exact ne_str (bz I q (aaG not sZ))
  | _=>exact absurd (show false=true from hs) zO
 | byt i =>
  obtain⟨t,rfl⟩:=rx;cases y with
  | byt j=>obtain⟨t',rfl⟩:=ry;exact PySem.W.ne_bytes (bz I q (aaG not qW))
  | _=>exact absurd (show false=true from hs) zO
 | _=>cases y<;>exact absurd (show false=true from hs) zO
theorem xG:OpR X (compareOp .Lt) (rI0 fun i j=>.bl (decide (i < j))):=yI fun _ _ _ _ _ _ _ q=>lt_int q
theorem uL:OpR X (compareOp .LtE) (rI0 fun i j=>.bl (decide (i<=j))):=yI fun _ _ _ _ _ _ _ q=>le_int q
theorem yL:OpR X (compareOp .GtE) (rI0 fun i j=>.bl (decide (j<=i))):=yI fun _ _ _ _ _ _ _ q=>ge_int q
theorem rP:OpR X (compareOp .In) (fun x y H Q=>∃ i j,x=.str i/\y=.str j/\Q (.bl (!(Builtin.Str.occurrences j i 0 j.length 1).isEmpty)) H):=by
 intro pins s σ H x y v u Q I rx ry h;obtain⟨i,j,rfl,rfl,q⟩:=h;obtain⟨t,rfl⟩:=rx;obtain⟨t',rfl⟩:=ry;exact in_str (bz I q rfl)
theorem wj:OpR X (compareOp .IsNot) (fun x y H Q=>y=.non/\Q (.bl (!decide (x=.non))) H):=by
 intro pins s σ H x y v u Q I rx ry h;obtain⟨rfl,q⟩:=h;cases ry;refine isnot_none_gen (bz I q ?_);cases x<;>first
  | (cases rx;rfl)
  | (obtain⟨t,rfl⟩:=rx;rfl)
theorem aZ (b:Expr){op:CmpOp}(h:op≠.In:=by decide)(h2:op≠.NotIn:=by decide):behindInMarks op b=false:=by
 have e1:(op == CmpOp.In)=false:=by cases op<;>first | rfl | exact absurd rfl h
 have e2:(op == CmpOp.NotIn)=false:=by cases op<;>first | rfl | exact absurd rfl h2
 cases b<;>simp [behindInMarks,e1,e2]
theorem gk {op:CmpOp}{r:R2}(ho:OpR X (compareOp op) r)(ha:PE X a ta)(hb:PE X b tb)(hm:behindInMarks op b=false):PE X (.Compare a [op] [b] pos) (tOp r ta tb):=by
 intro pins s σ H Q I h;exact wpAny_Compare1 (yt ha hb I h fun v u s2 x y H2 I2 rx ry q=>ho pins s2 σ H2 x y v u Q I2 rx ry q) hm
def qb (t:TE):TT:=fun σ H Q=>t σ H fun x H'=>∃ k,x=.bl k/\Q k H'
theorem aT {op:CmpOp}{r:R2}(ho:OpR X (compareOp op) r)(ha:PE X a ta)(hb:PE X b tb)(hm:behindInMarks op b=false):PT X (.Compare a [op] [b] pos) (qb (tOp r ta tb)):=by
 intro pins s σ H Q I h;refine wpAny_isTrue_Compare1 (thn (ha pins s σ H _ I h) fun v s1 ⟨x,H1,I1,r1,q1⟩=>thn (hb pins s1 σ H1 _ I1 q1) fun u s2 ⟨y,H2,I2,r2,q2⟩ =>
  thn (ho pins s2 σ H2 x y v u _ I2 r1 r2 q2) fun c s3 ⟨z,H3,I3,r3,k,e,q3⟩=>?_) hm
 subst e;cases r3;exact abd ⟨H3,I3,q3⟩
def vI (r r':R2)(ta tb tc:TE):TE:=fun σ H Q=>ta σ H fun x H1=>tb σ H1 fun y H2=>r x y H2 fun z H3=>∃ k,z=.bl k ∧
 (if k=true then tc σ H3 fun w' H4=>r' y w' H4 Q else Q (.bl false) H3)
theorem vi {op op':CmpOp}{r r':R2}(ho:OpR X (compareOp op) r)(ho':OpR X (compareOp op') r')(ha:PE X a ta)(hb:PE X b tb)(hc:PE X c tc)
 (hm:lastMarks [op,op'] [b,c]=false:=by with_unfolding_all rfl):PE X (.Compare a [op,op'] [b,c] pos) (vI r r' ta tb tc):=by
 intro pins s σ H Q I h;refine Compare_chain (thn (ha pins s σ H _ I h) fun v s1 ⟨x,H1,I1,r1,q1⟩=>chain_link (thn (hb pins s1 σ H1 _ I1 q1) fun u s2 ⟨y,H2,I2,r2,q2⟩ =>
  thn (ho pins s2 σ H2 x y v u _ I2 r1 r2 q2) fun d s3 ⟨z,H3,I3,r3,k,e,q3⟩=>?_)) hm
 subst e;cases r3;refine abd ?_;cases k with
 | false=>exact ite_ff ⟨.bl false,H3,I3,rfl,q3⟩
 | true=>exact ite_tt (chain_last (thn (hc pins s3 σ H3 _ I3 q3) fun w' s4 ⟨z',H4,I4,r4,q4⟩=>ho' pins s4 σ H4 y z' u w' Q I4 r2 r4 q4))
theorem uv {op op':CmpOp}{r r':R2}(ho:OpR X (compareOp op) r)(ho':OpR X (compareOp op') r')(ha:PE X a ta)(hb:PE X b tb)(hc:PE X c tc)
 (hm:lastMarks [op,op'] [b,c]=false:=by with_unfolding_all rfl):PT X (.Compare a [op,op'] [b,c] pos) (qb (vI r r' ta tb tc)):=by
 intro pins s σ H Q I h;refine isTrue_chain (thn (ha pins s σ H _ I h) fun v s1 ⟨x,H1,I1,r1,q1⟩=>test_link (thn (hb pins s1 σ H1 _ I1 q1) fun u s2 ⟨y,H2,I2,r2,q2⟩ =>
  thn (ho pins s2 σ H2 x y v u _ I2 r1 r2 q2) fun d s3 ⟨z,H3,I3,r3,k,e,q3⟩=>?_)) hm
 subst e;cases r3;refine abd ?_;cases k with
 | false =>
  obtain⟨k',e',q'⟩:=q3;cases e';exact ite_ff ⟨H3,I3,q'⟩
 | true =>
  refine ite_tt (test_last (thn (hc pins s3 σ H3 _ I3 q3) fun w' s4 ⟨z',H4,I4,r4,q4⟩=>thn (ho' pins s4 σ H4 y z' u w' _ I4 r2 r4 q4) fun d' s5 ⟨z2,H5,I5,r5,k2,e2,q5⟩=>?_));subst e2;cases r5;exact abd ⟨H5,I5,q5⟩
theorem ku:(sizeLine:Nat) < 2 ^ 63:=by rw [adU];decide
theorem en:OpR X (binaryOp .Add) (fun x y H Q=>∃ i j,x=.str i/\y=.str j/\i.length+j.length<=sizeLine/\Q (.str (i++j)) H):=by
 intro pins s σ H x y v u Q I rx ry h;obtain⟨i,j,rfl,rfl,hz,q⟩:=h;obtain⟨t,rfl⟩:=rx;obtain⟨t',rfl⟩:=ry;exact add_str (fun t' tk=>⟨.str (i++j),H,I.tok _,⟨_,rfl⟩,q⟩) hz
theorem gT {x:V}{us:List Value}(r:Vals [x] us):∃ u,us=[u]/\RelV x u:=by
 cases r with
 | cons r1 r2=>cases r2;exact⟨_,rfl,r1⟩
theorem vals2 {x y:V}{us:List Value}(r:Vals [x,y] us):∃ u w',us=[u,w']/\RelV x u/\RelV y w':=by
 cases r with
 | cons r1 r2 =>
  cases r2 with
  | cons r3 r4=>cases r4;exact⟨_,_,rfl,r1,r3⟩
theorem tu (hc:X.calm=true):d8 X (.builtin "max") (fun xs H Q=>∃ i j,xs=[.int i,.int j]/\Q (.int (if j > i then j else i)) H):=by
 intro pins s σ H xs us Q I r h;obtain⟨i,j,rfl,q⟩:=h;obtain⟨u,w',rfl,⟨t,rfl⟩,⟨t',rfl⟩⟩:=vals2 r;refine max_two_ints (I.ok.hd hc) fun h' tk k=>⟨_,H,I.kept k,?_,q⟩;by_cases hj:j > i
 ·rw [if_pos hj,if_pos hj];exact⟨_,rfl⟩
 ·rw [if_neg hj,if_neg hj];exact⟨_,rfl⟩
theorem gX (hc:X.calm=true):d8 X (.builtin "min") (fun xs H Q=>∃ i j,xs=[.int i,.int j]/\Q (.int (if j < i then j else i)) H):=by
 intro pins s σ H xs us Q I r h;obtain⟨i,j,rfl,q⟩:=h;obtain⟨u,w',rfl,⟨t,rfl⟩,⟨t',rfl⟩⟩:=vals2 r;refine min_two_ints (I.ok.hd hc) fun h' tk k=>⟨_,H,I.kept k,?_,q⟩;by_cases hj:j < i
 ·rw [if_pos hj,if_pos hj];exact⟨_,rfl⟩
 ·rw [if_neg hj,if_neg hj];exact⟨_,rfl⟩
end
structure ObjM (h:Heap)(x dx C:Addr)(mA:Str->Option Value):Prop where
 obj:h.get? x=some (instObj C dx)
 ns:h.Ns1 dx mA
 ne:dx≠x
theorem qT {h:Heap}{dx:Addr}{mA:Str->Option Value}(n:h.Ns1 dx mA):∃ od,h.get? dx=some od/\∀ name,lookIn name od=some (mA name):=by
 obtain⟨o,es,ep,ho,hd,hk,_,hm⟩:=n;refine⟨o,ho,fun name=>?_⟩;have e:=hm name;unfold nsFind findBy at e;rw [← Array.find?_toList] at e;unfold lookIn;rw [hd];dsimp only;split
 ·rename_i y q;rw [q] at e;exact aaG some e
 ·rename_i q;rw [q] at e;have a:es.toList.any (·.refKey)=false:=by
   rw [List.any_eq_false];intro y hy;obtain⟨z,t,hkey⟩:=hk y (Array.mem_toList_iff.mp hy);simp [DictEntry.refKey,hkey]
  have a':¬ es.toList.any (·.refKey)=true:=by rw [a];exact zO
  rw [if_neg a'];exact aaG some e
theorem ObjM.look {h:Heap}{x dx C:Addr}{mA:Str->Option Value}(I:ObjM h x dx C mA):∃ od,PySem.W.InstAt h x (instObj C dx) C (some od)/\∀ name,lookIn name od=some (mA name) :=
 let ⟨od,ho,hl⟩:=qT I.ns
 ⟨od,⟨I.obj,rfl,rfl,ho⟩,hl⟩
section
variable {prog:Program}{w:World}{A:Around}{E:Value->Shared->Prop}{s:Shared}{K:PySem.W.Frag}{x dx C f:Addr}{mA:Str->Option Value}{name:Str}{v:Value}
end
theorem RelO.some_of {v:V}{o:Option Value}(r:RelO (some v) o):∃ u,o=some u/\RelV v u:=by
 cases o with
 | none=>exact (show False from r).elim
 | some u=>exact⟨u,rfl,r⟩
section
variable {P:Program}{w:World}{H H':Hp}{h h':Heap}{a C dx:Addr}{fs fs':List (Str×V)}
theorem wO (hok:HOk P w H h)(e:H a=some (.ins C dx fs)):∃ mA,ObjM h a dx C mA/\(∀ f,RelO (fs.lookup f) (mA f))/\PySem.Within mA (fs.map (·.1))/\fs.length<=1000/\H dx=some (.own a):=by
 obtain⟨d,z,ne,ob,mA,n,r,q⟩:=(show ObjOk P w H h a (.ins C dx fs) from hok a _ e);exact⟨mA,⟨ob,n,ne⟩,r,q,z,d⟩
end
structure Cls (K:PySem.W.Frag)(C:Addr):Prop where
 pg:plainGet K C Str.empty=true
 hd:PySem.W.hasDictIn K C=true
 po:PySem.W.plainOver K C=true
 sa:findIn K (.ref C) "__setattr__" = some (some (.builtin "object.__setattr__"))
theorem Cls.get {K:PySem.W.Frag}{C:Addr}(c:Cls K C)(f:Str):plainGet K C f=true:=c.pg
section
variable {X:Cx}{pins:List (Addr×Obj)}{σ:St}{H:Hp}{s:Shared}{a C dx:Addr}{fs:List (Str×V)}{f:Str}{v:V}{A:Around}{E:Value->Shared->Prop}
end
section
variable {X:Cx}{o e value:Expr}{f:Str}{pos pos' tpos:Pos}{ta tv:TE}
end
section
variable {X:Cx}{pins:List (Addr×Obj)}{σ:St}{H:Hp}{s:Shared}{A:Around}{E:Value->Shared->Prop}{Q:Value->Shared->Prop}{c:Value}{b:Bool}
inductive qz (K:PySem.W.Frag)(H:Hp):V->Value->Prop where
 | non:qz K H .non (.type "NoneType")
 | bl (x:Bool):qz K H (.bl x) (.type "bool")
 | int (i:Int):qz K H (.int i) (.type "int")
 | str (x:Str):qz K H (.str x) (.type "str")
 | flt (x:UInt64):qz K H (.flt x) (.type "float")
 | lst {a:Addr} {xs:List V} (e:H a=some (.lst xs)):qz K H (.ref a) (.type "list")
 | frz {a:Addr} {o:Obj} {xs:List V} (e:H a=some (.frz o (.lst xs))):qz K H (.ref a) (.type "list")
 | tup {a:Addr} {xs:List V} (e:H a=some (.tup xs)):qz K H (.ref a) (.type "tuple")
 | dK {a:Addr} {kvs:List (Key×V)} (e:H a=some (.dK kvs)):qz K H (.ref a) (.type "dict")
 | dT {a:Addr} {kvs:List (List Key×V)} (e:H a=some (.dT kvs)):qz K H (.ref a) (.type "dict")
 | ins {a C dx:Addr} {fs:List (Str×V)} (e:H a=some (.ins C dx fs)) (cl:Cls K C) (ha:findIn K (.ref C) "__class__" = some (some (.builtin "object.__class__")))
  (hn:PySem.W.specialIn K (.builtin "object.__class__") "__get__" = some (some (.builtin "getset_descriptor.__get__"))) (htk:PySem.W.takesIn K (.builtin "object.__class__")=some true)
  (hm:PySem.W.mroIn K C (.type "object")=some true):qz K H (.ref a) (.ref C)
theorem tw {x:V}{u t:Value}(I:Inv X pins σ H s)(rx:RelV x u)(ty:qz X.K H x t)(e:kitOne X.K t c=some b)(h:∀ tk,Q (.bool b) { s with toks:=tk }) :
 wpAny (model X.prog X.w) A (call (.builtin "isinstance") [u,c]) Q E s:=by
 cases ty with
 | non=>cases (show u=Value.none from rx);exact abi PySem.W.kitx_none I.kIn True.intro e (fun z=>nomatch z) h
 | bl y=>cases (show u=Value.bool y from rx);exact abi PySem.W.kitx_bool I.kIn True.intro e (fun z=>nomatch z) h
 | int i=>obtain⟨t,q⟩:=(show ∃ t,u=Value.int i t from rx);cases q;exact abi PySem.W.kitx_int I.kIn True.intro e (fun z=>nomatch z) h
 | str y=>obtain⟨t,q⟩:=(show ∃ t,u=Value.str y t from rx);cases q;exact abi PySem.W.kitx_str I.kIn True.intro e (fun z=>nomatch z) h
 | flt y=>obtain⟨t,q⟩:=(show ∃ t,u=Value.float y t from rx);cases q;exact abi PySem.W.kitx_float I.kIn True.intro e (fun z=>nomatch z) h
 | @lst a xs ea =>
  cases (show u=Value.ref a from rx);obtain⟨_,_,n,_,h1⟩:=(show ObjOk X.prog X.w H s.heap a (.lst xs) from I.hok a _ ea);exact abi kitx_list I.kIn ⟨_,h1,rfl⟩ e (fun z=>nomatch z) h
 | @frz a ob xs ea =>
  cases (show u=Value.ref a from rx);obtain⟨_,_,_,n,_,h1⟩:=(show ObjOk X.prog X.w H s.heap a (.frz ob (.lst xs)) from I.hok a _ ea);exact abi kitx_list I.kIn ⟨_,h1,rfl⟩ e (fun z=>nomatch z) h
 | @tup a xs ea =>
  cases (show u=Value.ref a from rx);obtain⟨_,_,_,p⟩:=(show ObjOk X.prog X.w H s.heap a (.tup xs) from I.hok a _ ea);obtain⟨o,h1,h2,_⟩:=p;exact abi PySem.W.kitx_tuple I.kIn ⟨o,h1,h2⟩ e (fun z=>nomatch z) h
 | @dK a kvs ea =>
  cases (show u=Value.ref a from rx);obtain⟨_,_,vs,_,p⟩:=(show ObjOk X.prog X.w H s.heap a (.dK kvs) from I.hok a _ ea);obtain⟨o,es,ep,h1,h2,_⟩:=p;exact abi kitx_dict I.kIn ⟨o,h1,h2.1⟩ e (fun z=>nomatch z) h
 | @dT a kvs ea =>
  cases (show u=Value.ref a from rx);obtain⟨_,_,xs,_,o,es,ep,h1,h2,_⟩:=(show ObjOk X.prog X.w H s.heap a (.dT kvs) from I.hok a _ ea);exact abi kitx_dict I.kIn ⟨o,h1,h2.1⟩ e (fun z=>nomatch z) h
 | @ins a C dx fs ea cl ha hn htk hm =>
  cases (show u=Value.ref a from rx);obtain⟨mA,O,_⟩:=wO I.hok ea;obtain⟨od,J,_⟩:=O.look;exact abi (PySem.W.kitx_own (cl.get _) cl.hd ha hn htk hm) I.kIn J e (fun z=>nomatch z) h
end
structure Room (k:Nat)(A:Around):Prop where
 hd:A.handled=none
 dp:A.depth+3 * k+5 < recursionLimit
 un:A.units+16 * k+200 < cLine
theorem Room.mono {j k:Nat}{A:Around}(r:Room k A)(h:j<=k):Room j A:=⟨r.hd,by have:=r.dp;lia,by have:=r.un;lia⟩
theorem Room.deeper {k:Nat}{A:Around}(r:Room (k+1) A)(env:Env):Room k (A.deeper env) :=
 ⟨r.hd,by have:=r.dp;show A.depth+1+3 * k+5 < _;lia,by have:=r.un;show A.units+3+16 * k+200 < _;lia⟩
theorem Room.depth {k:Nat}{A:Around}(r:Room k A):A.depth < recursionLimit:=by have:=r.dp;lia
theorem Room.units {k:Nat}{A:Around}(r:Room k A):A.units+64 < cLine:=by have:=r.un;lia
def gh:TA:=fun _ H Q=>Q [] H
def cf (ta:TE)(tr:TA):TA:=fun σ H Q=>ta σ H fun x H1=>tr σ H1 fun xs H2=>Q (x::xs) H2
section
variable {X:Cx}{e:Expr}{es:List Expr}{te:TE}{t:TA}{pos:Pos}
theorem ah:PA X [] gh:=fun _ _ _ _ H Q I h=>aej ⟨[],H,I,.nil,h⟩
theorem ae (ha:PE X e te)(hr:PA X es t)(hs:starEach (e::es) X.env=(false,eval e X.env)::starEach es X.env:=by rfl):PA X (e::es) (cf te t):=by
 intro pos pins s σ H Q I h;rw [hs];show wpAny _ _ (spliced ((false,eval e X.env)::backTo pos (starEach es X.env))) _ _ s;refine ad7 (thn (ha pins s σ H _ I h) fun u s1 ⟨x,H1,I1,r1,q1⟩=>?_);exact thn (hr pos pins s1 σ H1 _ I1 q1) fun us s2 ⟨xs,H2,I2,r2,q2⟩=>⟨x::xs,H2,I2,.cons r1 r2,q2⟩
def wY (t:TA):TE:=fun σ H Q=>t σ H fun xs H1=>xs.length<=sizeLine/\∀ p,H1 p=none->Q (.ref p) (upd H1 p (.tup xs))
def t7 (t:TA):TE:=fun σ H Q=>t σ H fun xs H1=>xs.length<=sizeLine/\∀ p,H1 p=none->Q (.ref p) (upd H1 p (.lst xs))
theorem dO {x1}(h:PA X es t):PE X (.Tuple es x1 pos) (wY t):=by
 intro pins s σ H Q I hq;refine wpAny_Tuple_spliced (thn (h pos pins s σ H _ I hq) fun us s1 ⟨xs,H1,I1,r,z,q⟩=>⟨by rw [← r.length];exact z,?_⟩);have hf:H1 s1.heap.objs.size=none:=I1.hok.fresh (zP _);refine⟨.ref s1.heap.objs.size,upd H1 s1.heap.objs.size (.tup xs),I1.laid (t':=s1.toks) (fun b u e=>zK _ e) (zP _) ?_,rfl,q _ hf⟩;exact⟨z,us,r,⟨_,zW _ rfl,rfl,_,rfl⟩⟩
theorem bU (h:PA X es t):PE X (.List es pos) (t7 t):=by
 intro pins s σ H Q I hq;refine wpAny_List_spliced (thn (h pos pins s σ H _ I hq) fun us s1 ⟨xs,H1,I1,r,z,q⟩=>⟨by rw [← r.length];exact z,?_⟩);have hf:H1 s1.heap.objs.size=none:=I1.hok.fresh (zP _);refine⟨.ref s1.heap.objs.size,upd H1 s1.heap.objs.size (.lst xs),I1.laid (t':=s1.toks) (fun b u e=>zK _ e) (zP _) ?_,rfl,q _ hf⟩;exact⟨z,us,0,r,zW _ rfl⟩
end
abbrev Sp:=List V->Hp->VK->XK->Prop
abbrev CXT:=List Env->Hp->Shared->XK->Value->Shared->Prop
structure yj (P:Program)(w:World)(K:PySem.W.Frag)(mg:Str->Option Value)(base:Heap)(A:Around)(outer:List Env)(s:Shared)(H:Hp):Prop where
 frames:A.frames=some outer
 mod:Mod K mg base
 bs:∀ b o,base.get? b=some o->s.heap.get? b=some o/\H b=none
 bsz:base.objs.size<=s.heap.objs.size
 funs:s.heap.FunFrames base outer
 frf:∀ b∈frs outer,H b=none
 hok:HOk P w H s.heap
 bare:AllBare s.gens
def CE (outer:List Env)(P:Program)(w:World)(H:Hp)(s:Shared)(Q:VK)(u:Value)(s':Shared):Prop :=
 ∃ v H',s'.os=s.os/\AllBare s'.gens/\Un (frs outer) [] H H' s.heap s'.heap/\HOk P w H' s'.heap/\RelV v u/\Q v H'
def CR (CX:CXT)(outer:List Env)(P:Program)(w:World)(H:Hp)(s:Shared)(Q:VK)(E:XK)(r:Result)(s':Shared):Prop :=
 match r with
 | .ok (.ret u)=>CE outer P w H s Q u s'
 | .ok _=>False
 | .error e=>CX outer H s E e s'
structure bO (P:Program)(w:World)(K:PySem.W.Frag)(mg:Str->Option Value)(base:Heap)(CX:CXT)(k:Nat)(f:Addr)(fd:FuncData)(ps:List Str)(sp:Sp):Prop where
 len:∀ vs H Q E,sp vs H Q E->vs.length=ps.length
 run:∀ (A:Around) (outer:List Env) (s:Shared) (H:Hp) (args:Args) (us:List Value) (vs:List V) (Q:VK) (E:XK),Room k A->yj P w K mg base A outer s H->BindsTo s fd args (ps.zip us)->Vals vs us->sp vs H Q E →
  codeAny (model P w) A (.call (.ref f) args) (CR CX outer P w H s Q E) s
section
variable {X:Cx}{pins:List (Addr×Obj)}{σ:St}{H:Hp}{s s':Shared}
theorem Inv.env0 (I:Inv X pins σ H s):yj X.prog X.w X.K X.mg X.base X.A X.stack s H :=
 ⟨I.ok.frames,I.ok.mod,I.bs,aas I.ok.bsz I.sz,I.stack,I.stkFree,I.hok,I.bare⟩
theorem Inv.after {Q:VK}{u:Value}(I:Inv X pins σ H s)(h:CE X.stack X.prog X.w H s Q u s'):EP X pins σ Q u s':=by
 obtain⟨v,H',os,bare,un,hok,r,q⟩:=h;obtain⟨hh,g,d,t,os'⟩:=s';obtain rfl:os'=s.os:=os;exact⟨v,H',I.call (h':=hh) (g':=g) (d':=d) (t':=t) (ch:=[]) un hok bare (fun b z=>absurd z (by simp)),r,q⟩
end
def qw (sp:Sp)(dvs:List V)(E:XK)(t:TA):TE:=fun σ H Q=>t σ H fun vs H1=>sp (vs++dvs) H1 Q E
def Binds (K:PySem.W.Frag)(fd:FuncData)(ps:List Str)(ds:List Value):Prop :=
 ∀ (s:Shared) (us:List Value),K.In s.heap->(us++ds).length=ps.length->BindsTo s fd ⟨us,[]⟩ (ps.zip (us++ds))
theorem Binds.all {K:PySem.W.Frag}{fd:FuncData}{ps:List Str}(h:∀ us:List Value,us.length=ps.length->bindArgs fd ⟨us,[]⟩=pure (ps.zip us)):Binds K fd ps []:=fun s us _ hl=>by
 rw [aaK] at hl ⊢;exact .of_eq (h us hl)
def rB (CX:CXT)(X:Cx)(E:XK):Prop:=∀ (pins:List (Addr×Obj)) (σ:St) (H:Hp) (s:Shared) (e:Value) (s':Shared),Inv X pins σ H s->CX X.stack H s E e s'->X.xe e s'
section
variable {X:Cx}{CX:CXT}{k:Nat}{f C:Addr}{fd:FuncData}{ps:List Str}{sp:Sp}{dvs:List V}{ds:List Value}{E:XK}{x m:Str}{p pos apos:Pos}{e o:Expr}{es:List Expr}{ta:TE}{t:TA}
theorem xb {pins:List (Addr×Obj)}{σ:St}{H:Hp}{s:Shared}{Q:VK}{us:List Value}{vs:List V}(F:bO X.prog X.w X.K X.mg X.base CX k f fd ps sp)(hr:Room k X.A)(hb:Binds X.K fd ps ds)(hd:Vals dvs ds)(hx:rB CX X E)
 (I:Inv X pins σ H s)(r:Vals vs us)(h:sp (vs++dvs) H Q E):wpAny (model X.prog X.w) X.A (call (.ref f) us) (EP X pins σ Q) X.xe s:=by
 have r2:Vals (vs++dvs) (us++ds):=r.append hd;have hl:(us++ds).length=ps.length:=by rw [← r2.length];exact F.len _ _ _ _ h
 refine wpAny_call (acv (F.run X.A X.stack s H ⟨us,[]⟩ (us++ds) (vs++dvs) Q E hr I.env0 (hb s us I.kIn hl) r2 h) fun r s' hq=>?_);cases r with
 | error e=>exact hx pins σ H s e s' I hq
 | ok fl =>
  cases fl with
  | ret u=>exact I.after hq
  | next=>exact False.elim hq
  | brk=>exact False.elim hq
  | cont=>exact False.elim hq
theorem cG (F:bO X.prog X.w X.K X.mg X.base CX k f fd ps sp)(hr:Room k X.A)(hg:Gl X x)(hm:X.mg x=some (.ref f))(hk:keepIn X.K (.ref f)=true)(hb:Binds X.K fd ps ds)(hd:Vals dvs ds)(hx:rB CX X E)
 (ha:PA X (e::es) t)(hdb:(x == ("__debug__" : Str))=false:=by decide)(he:starEach (e::es) X.env=(false,eval e X.env)::starEach es X.env:=by rfl)(hpl:(backTo pos (starEach es X.env)).any (·.1)=false:=by rfl) :
 PE X (.Call (.Name x p) (e::es) [] pos) (qw sp dvs E t):=by
 intro pins s σ H Q I h;refine ad8 (rW I hg hm ?_ hdb);refine PySem.W.callWith_K (h₀:=X.base) I.ok.mod.kin hk (thn (ha pos pins s σ H _ I h) fun us s1 ⟨vs,H1,I1,r,q⟩=>⟨I1.kIn,?_⟩) he hpl;exact xb F hr hb hd hx I1 r q
end
section
variable {X:Cx}{CX:CXT}{k:Nat}{f C:Addr}{fd:FuncData}{ps ks:List Str}{sp:Sp}{E:XK}{x m:Str}{p pos apos kpos:Pos}{e o:Expr}{es:List Expr}{kws:List Keyword}{te ta:TE}{t tk:TA}{nm:Option Str}
variable {g:List Value->List Value->List Value}{gV:List V->List V->List V}
end
structure br (N P:List Str)(sc:Scope):Prop where
 kind:sc.kind=.function
 co:sc.isCoroutine=false
 gen:sc.isGenerator=false
 nd:N.Nodup
 pre:N.take P.length=P
 par:∀ x∈P,sc.names.lookup x=some .local\/sc.names.lookup x=some .cell
 nofree:∀ y∈sc.names,y.2≠.free
theorem scM {N P:List Str}{sc:Scope}(a:sc.kind=.function)(b:sc.isCoroutine=false)(c:sc.isGenerator=false)(e:N.take P.length=P)(d:N.Nodup/\(∀ x∈P,sc.names.lookup x=some .local\/sc.names.lookup x=some .cell)/\∀ y∈sc.names,y.2≠.free):br N P sc:=⟨a,b,c,d.1,e,d.2.1,d.2.2⟩
theorem mz {kindOf:Str->Option NameKind}{x:Str}:∀ {binds:List (Str×Value)} {m:Str->Option Value},(∀ v,(x,v) ∉ binds)->bindL kindOf binds m x=m x
 | [],_,_=>rfl
 | (n,v)::r,m,h=>by
  unfold bindL;rw [mz fun w hw=>h w (z8 _ hw)];split
  ·have:x≠n:=by rintro rfl;exact h v z7
   simp [this]
  ·rfl
theorem lS {kindOf:Str->Option NameKind}{x:Str}:∀ {binds:List (Str×Value)} {m:Str->Option Value},(∀ v,(x,v) ∉ binds)->bindC kindOf binds m x=m x
 | [],_,_=>rfl
 | (n,v)::r,m,h=>by
  unfold bindC;rw [lS fun w hw=>h w (z8 _ hw)];split
  ·rfl
  ·have:x≠n:=by rintro rfl;exact h v z7
   simp [this]
theorem lQ {kindOf:Str->Option NameKind}{x:Str}{v:Value}:∀ {P:List Str} {vs:List Value} {i:Nat} {m:Str->Option Value},P.Nodup->P[i]? = some x->vs[i]? = some v->kindOf x=some .local →
 bindL kindOf (P.zip vs) m x=some v
 | [],_,_,_,_,h,_,_=>by simp at h
 | _::_,[],_,_,_,_,h,_=>by simp at h
 | p::P,w::vs,0,m,nd,h1,h2,hk=>by
  simp at h1 h2;subst h1;subst h2;show bindL kindOf ((p,w)::P.zip vs) m p=_;unfold bindL;rw [mz fun v hv=>(abU.mp nd).1 (abV hv).1,if_pos hk];simp
 | p::P,w::vs,i+1,m,nd,h1,h2,hk=>by
  show bindL kindOf ((p,w)::P.zip vs) m x=_;unfold bindL;exact lQ (i:=i) (abU.mp nd).2 (by simpa using h1) (by simpa using h2) hk
theorem lX {kindOf:Str->Option NameKind}{x:Str}{v:Value}:∀ {P:List Str} {vs:List Value} {i:Nat} {m:Str->Option Value},P.Nodup->P[i]? = some x->vs[i]? = some v->kindOf x≠some .local →
 bindC kindOf (P.zip vs) m x=some v
 | [],_,_,_,_,h,_,_=>by simp at h
 | _::_,[],_,_,_,_,h,_=>by simp at h
 | p::P,w::vs,0,m,nd,h1,h2,hk=>by
  simp at h1 h2;subst h1;subst h2;show bindC kindOf ((p,w)::P.zip vs) m p=_;unfold bindC;rw [lS fun v hv=>(abU.mp nd).1 (abV hv).1,if_neg hk];simp
 | p::P,w::vs,i+1,m,nd,h1,h2,hk=>by
  show bindC kindOf ((p,w)::P.zip vs) m x=_;unfold bindC;exact lX (i:=i) (abU.mp nd).2 (by simpa using h1) (by simpa using h2) hk
def jS (N:List Str)(vs:List V):St:=vs.map some++List.replicate (N.length - vs.length) none
def qu (CX:CXT)(P:Program)(w:World)(K:PySem.W.Frag)(mg:Str->Option Value)(base:Heap)(N:List Str)(qual:Str)(scope:Scope)(f:Addr)(cd:Value)(A:Around)(outer:List Env)(s:Shared)(H:Hp)(E:XK):Cx where
 prog:=P
 w:=w
 K:=K
 mg:=mg
 base:=base
 A:=A.deeper (envOfC qual scope s.heap.objs.size f cd)
 N:=N
 s₀:=s
 H₀:=H
 env:=envOfC qual scope s.heap.objs.size f cd
 outer:=outer
 stack:=envOfC qual scope s.heap.objs.size f cd::outer
 ex:=[]
 calm:=true
 fn:=fun _=>true
 pn:=[]
 xe:=fun e s'=>wpAny (model P w) (A.deeper (envOfC qual scope s.heap.objs.size f cd)) (leaving (envOfC qual scope s.heap.objs.size f cd) e) (fun _ s''=>CX outer H s E e s'') (fun e' s''=>CX outer H s E e' s'') s'
theorem pk {sc:Scope}{n:Nat}{x:Str}(h:sc.names.lookup x=some .cell):∃ c,(cellsFrom n sc.names []).lookup x=some c:=by
 have q:=aeL sc.names n [] (.inl h);exact aek.mp q
theorem sj {CX:CXT}{P:Program}{w:World}{K:PySem.W.Frag}{mg:Str->Option Value}{base:Heap}{N ps:List Str}{qual:Str}{scope:Scope}{f:Addr}{cd:Value}{A:Around}{outer:List Env}{s s1:Shared}{H:Hp}{E:XK}{us:List Value}{vs:List V}
 (S:br N ps scope)(hd:A.handled=none)(e0:yj P w K mg base A outer s H)(hl:vs.length=ps.length)(r:Vals vs us)
 (x:InCallC s s.heap.objs.size (bindL (envOfC qual scope s.heap.objs.size f cd).kindOf (ps.zip us) fun _=>none) (cellsFrom (s.heap.objs.size+1) scope.names []) (bindC (envOfC qual scope s.heap.objs.size f cd).kindOf (ps.zip us) fun _=>none) s1) :
 Inv (qu CX P w K mg base N qual scope f cd A outer s H E) [] (jS N vs) H s1:=by
 have hpl:ps.length<=N.length:=by have:=aaG List.length S.pre;rw [aad] at this;lia
 obtain⟨h1,tk,rfl,hk⟩:=x.done;have noA:∀ b:Addr,b ∉ (qu CX P w K mg base N qual scope f cd A outer s H E).ex:=fun b z=>absurd (show b∈([]:List Addr) from z) (by simp);refine⟨⟨e0.mod,S.kind,rfl,rfl,zP _,fun y z c h1 h2=>?_,fun y hy=>?_,fun y c _ h=>?_,fun _=>hd,Around.frames_deeper e0.frames,.inr ⟨rfl,rfl⟩,fun b z=>absurd z (noA b),e0.bs,e0.bsz,fun b _ _=>noA b,fun b z=>absurd z (noA b),e0.funs,e0.frf⟩,
  rfl,e0.bare,Un.kept hk,⟨_,x.toInCall.ns,fun i y v h1 h2 h3=>?_⟩,fun y c h=>⟨_,x.cell y c h⟩,e0.hok.fresh (zP _),fun y c h=>?_,fun p hp=>absurd (show p∈([]:List (Addr×Obj)) from hp) (by simp),e0.hok.kept hk,?_⟩
 ·exact name_of_addr x.apart (ab5 h1) (ab5 h2)
 ·have hy:scope.names.lookup y=some .cell\/scope.names.lookup y=some .free:=hy;rcases hy with hy | hy
  ·exact pk hy
  ·exact absurd rfl (S.nofree _ (ab5 hy))
 ·exact aan (x.above y c (ab5 h))
 ·have hi:i < vs.length:=by
   unfold jS at h2;by_cases hi:i < vs.length
   ·exact hi
   ·rw [aae (by simpa using hi)] at h2;rw [acX] at h2;split at h2<;>cases h2
  have ha:vs[i]? = some v:=by
   unfold jS at h2;rw [aav (by simpa using hi),zT] at h2;cases e:vs[i]? with
   | none=>rw [e] at h2;cases h2
   | some a=>rw [e] at h2;cases h2;rfl
  obtain⟨u,hu,rv⟩:=r.get ha;have hp:ps[i]? = some y:=by
   rw [← S.pre,abW (by lia)];exact h1
  have ndP:ps.Nodup:=by rw [← S.pre];exact S.nd.sublist (List.take_sublist _ _)
  refine⟨u,rv,?_⟩;rcases S.par y (aac hp) with k | k
  ·exact .inl ⟨k,lQ ndP hp hu k⟩
  ·obtain⟨c,e⟩:=pk (n:=s.heap.objs.size+1) k;refine .inr ⟨.inl k,c,e,?_⟩;have q:=x.cell y c e;rw [lX ndP hp hu (by show scope.names.lookup y≠_;rw [k];decide)] at q;exact q
 ·exact e0.hok.fresh (aan (x.above y c (ab5 h)))
 ·unfold jS;show _=N.length;rw [zH,zL,aaH];lia
theorem yC {CX:CXT}{P:Program}{w:World}{K:PySem.W.Frag}{mg:Str->Option Value}{base:Heap}{k:Nat}{f:Addr}{name qual:Str}{params:Arguments}{body:List Stmt}{scope:Scope}{dV kV doc pm cdv ct oc:Value}{an od:Option Addr}
 {osl:Array (Option Value)}{N ps:List Str}{sp:Sp}(lk:K.lookup f=some ⟨oc,od,.func (fnOf name qual params body scope dV kV doc pm an cdv ct),osl⟩)(hcd:codeIn K cdv qual=true)(S:br N ps scope)
 (len:∀ vs H Q E,sp vs H Q E->vs.length=ps.length)
 (hbody:∀ (A:Around) (outer:List Env) (s:Shared) (H:Hp) (vs:List V) (Q:VK) (E:XK),Room k (A.deeper (envOfC qual scope s.heap.objs.size f cdv))->sp vs H Q E →
  ∃ t,PSs (qu CX P w K mg base N qual scope f cdv A outer s H E) body t/\t { nx:=fun _ H'=>Q .non H',rt:=Q } (jS N vs) H) :
 bO P w K mg base CX (k+1) f (fnOf name qual params body scope dV kV doc pm an cdv ct) ps sp:=by
 refine⟨len,fun A outer s H args us vs Q E hr e0 hb r hsp=>?_⟩;have hl:=len _ _ _ _ hsp;have KX:K.In s.heap:=e0.mod.kin.keeps fun b o e=>(e0.bs b o e).1;have lim:s.heap.NoLimit:=e0.mod.nolimit.keeps fun b o e=>(e0.bs b o e).1;have hkind:∀ y∈ps.zip us,scope.names.lookup y.1=some .local\/(scope.names.lookup y.1=some .cell/\((cellsFrom (s.heap.objs.size+1) scope.names []).lookup y.1).isSome=true):=fun ⟨n,v⟩ hy=>by
  rcases S.par n (abV hy).1 with q | q
  ·exact .inl q
  ·exact .inr ⟨q,aeL _ _ _ (.inl q)⟩
 refine codeAny_call_function hr.depth (KX _ _ lk) rfl S.co S.gen rfl (PySem.W.codeRec_of KX hcd) (hb _ _ _ _ ?_);refine wpAny_newFunctionEnv_cells S.kind hkind fun env he s1 x=>?_;subst he;refine⟨lim.keeps x.toInCall.keep,codeAny_func ?_⟩;obtain⟨t,ht,hq⟩:=hbody A outer s H vs Q E (hr.deeper _) hsp;have I:Inv (qu CX P w K mg base N qual scope f cdv A outer s H E) [] (jS N vs) H s1:=sj S hr.hd e0 hl r x;refine aaV (ht [] s1 (jS N vs) H _ I hq) (fun fl s' hs=>?_) fun e s' hs=>hs;have fin:∀ {σ':St} {H':Hp} {v:V} {u:Value},Inv (qu CX P w K mg base N qual scope f cdv A outer s H E) [] σ' H' s'->RelV v u->Q v H'->CE outer P w H s Q u s' :=
  fun {σ' H' v u} J rv q=>⟨v,H',J.os,J.bare,J.base,J.hok,rv,q⟩
 cases fl with
 | ret u =>
  obtain⟨v,σ',H',J,rv,q⟩:=hs;exact fin J rv q
 | next =>
  obtain⟨σ',H',J,q⟩:=hs;exact fin (v:=V.non) (u:=Value.none) J rfl q
 | brk =>
  obtain⟨_,_,_,q⟩:=hs;exact False.elim q
 | cont =>
  obtain⟨_,_,_,q⟩:=hs;exact False.elim q
section
variable {X:Cx}{x:Str}{p pos:Pos}{e:Expr}{es:List Expr}{t:TA}{id T:String}{r:List V->Hp->VK->Prop}
def tCB (r:List V->Hp->VK->Prop)(t:TA):TE:=fun σ H Q=>t σ H fun vs H1=>r vs H1 Q
theorem aw (hc:d8 X (.builtin id) r)(hg:Gl X x)(hm:X.mg x=none)(hv:bootBuiltins x=some (.builtin id))(ha:PA X (e::es) t)(hn:x ≠ "__name__" := by decide)(hdb:(x == ("__debug__" : Str))=false:=by decide)
 (he:starEach (e::es) X.env=(false,eval e X.env)::starEach es X.env:=by rfl)(hpl:(backTo pos (starEach es X.env)).any (·.1)=false:=by rfl):PE X (.Call (.Name x p) (e::es) [] pos) (tCB r t):=by
 intro pins s σ H Q I h;refine ad8 (gx I hg hm hv ?_ hn hdb);exact adA (thn (ha pos pins s σ H _ I h) fun us s1 ⟨vs,H1,I1,r1,q1⟩=>hc pins s1 σ H1 vs us Q I1 r1 q1) he hpl
theorem dz (hc:d8 X (.type T) r)(hg:Gl X x)(hm:X.mg x=none)(hv:bootBuiltins x=some (.type T))(ha:PA X (e::es) t)(hn:x ≠ "__name__" := by decide)(hdb:(x == ("__debug__" : Str))=false:=by decide)
 (he:starEach (e::es) X.env=(false,eval e X.env)::starEach es X.env:=by rfl)(hpl:(backTo pos (starEach es X.env)).any (·.1)=false:=by rfl):PE X (.Call (.Name x p) (e::es) [] pos) (tCB r t):=by
 intro pins s σ H Q I h;refine ad8 (gx I hg hm hv ?_ hn hdb);exact abc (thn (ha pos pins s σ H _ I h) fun us s1 ⟨vs,H1,I1,r1,q1⟩=>hc pins s1 σ H1 vs us Q I1 r1 q1) he hpl
end
end L2
namespace HT
open PySem PyProof.Rows
section
open PySem.SeqAt
open PySem.AutoSeq1 (wpAny_loadPart')
open PySem.MeetsSeq PySem.MeetsSeq2 PySem.MeetsSeq3
end
section
variable {prog:Program}{w:World}{A:Around}{E:Value->Shared->Prop}{s:Shared}
def sIx (n d:Nat):Option Int->Nat
 | none=>d
 | some v=>if v < 0 then (v+(n:Int)).toNat else min v.toNat n
theorem sIx_none (n d:Nat):sIx n d none=d:=rfl
theorem sIx_nat (n d k:Nat):sIx n d (some (k:Int))=min k n:=by
 show (if (k:Int) < 0 then ((k:Int)+(n:Int)).toNat else min (k:Int).toNat n)=min k n;rw [if_neg (by lia),aaY]
end
end HT
namespace L2
open PySem PySem.Spec PyProof.Rows
abbrev TO:=St->Hp->(Option Int->Hp->Prop)->Prop
def PO (X:Cx)(e:Option Expr)(t:TO):Prop :=
 ∀ (pins:List (Addr×Obj)) (s:Shared) (σ:St) (H:Hp) (Q:Option Int->Hp->Prop),Inv X pins σ H s->t σ H Q →
  wpAny (model X.prog X.w) X.A (evalPart e X.env) (fun u s'=>∃ o H',Inv X pins σ H' s'/\IsPart u o/\Q o H') X.xe s
def nH:TO:=fun _ H Q=>Q none H
def wL (t:TE):TO:=fun σ H Q=>t σ H fun x H1=>∃ i,x=.int i/\Q (some i) H1
section
variable {X:Cx}{e:Expr}{te:TE}{lo hi:Option Expr}{tl th:TO}{pos p2:Pos}
theorem ie:PO X none nH:=by
 intro pins s σ H Q I h;rw [evalPart_none];exact zM ⟨none,H,I,.none,h⟩
theorem h7 (h:PE X e te):PO X (some e) (wL te):=by
 intro pins s σ H Q I hw;rw [evalPart_some];refine thn (h pins s σ H _ I hw) fun u s1 ⟨x,H1,I1,r1,q1⟩=>?_;obtain⟨i,rfl,q⟩:=q1;obtain⟨t,rfl⟩:=r1;exact⟨some i,H1,I1,.int i t,q⟩
def SlR (X:Cx)(r:V->Option Int->Option Int->Hp->VK->Prop):Prop :=
 ∀ (pins:List (Addr×Obj)) (s:Shared) (σ:St) (H:Hp) (x:V) (v vl vu:Value) (lo hi:Option Int) (sl:Addr) (Q:VK),Inv X pins σ H s->RelV x v->s.heap.IsSliceOf sl vl vu .none->IsPart vl lo->IsPart vu hi->r x lo hi H Q →
  ∃ T id,typeLookup (.type T) "__getitem__" = pure (some (.builtin id))/\s.TypeIs v T/\wpAny (model X.prog X.w) X.A (getItem v (.ref sl)) (EP X pins σ Q) X.xe s
def tSl (r:V->Option Int->Option Int->Hp->VK->Prop)(te:TE)(tl th:TO):TE:=fun σ H Q=>te σ H fun x H1=>tl σ H1 fun l H2=>th σ H2 fun u H3=>r x l u H3 Q
theorem fE {r:V->Option Int->Option Int->Hp->VK->Prop}(hr:SlR X r)(he:PE X e te)(hl:PO X lo tl)(hu:PO X hi th):PE X (.Subscript e (.Slice lo hi none p2) pos) (tSl r te tl th):=by
 intro pins s σ H Q I h;refine Subscript_ (thn (he pins s σ H _ I h) fun v s1 ⟨x,H1,I1,r1,q1⟩=>?_);refine wpAny_Slice (thn (hl pins s1 σ H1 _ I1 q1) fun vl s2 ⟨l,H2,I2,pl,q2⟩=>thn (hu pins s2 σ H2 _ I2 q2) fun vu s3 ⟨u,H3,I3,pu,q3⟩=>?_);rw [evalPart_none];refine zM ?_;have I4:Inv X pins σ H3 { s3 with heap:=s3.heap.push { cls:=.type "slice",data:=.fields #[vl,vu,.none] } }:=I3.kept (t':=s3.toks) fun b ob q=>zK _ q;obtain⟨T,id,hT,ht,hg⟩:=hr pins { s3 with heap:=s3.heap.push { cls:=.type "slice",data:=.fields #[vl,vu,.none] } } σ H3 x v vl vu l u s3.heap.objs.size Q I4 r1 (Heap.IsSliceOf.new ..) pl pu q3;show wpAny (model X.prog X.w) X.A (subscriptTail e (.Slice lo hi none p2) v (.ref s3.heap.objs.size)) (EP X pins σ Q) X.xe { s3 with heap:=s3.heap.push { cls:=.type "slice",data:=.fields #[vl,vu,.none] } };exact tail_any (ops:=[.ref s3.heap.objs.size,v]) ht hT hg (by with_unfolding_all rfl)
def qM (xs:List V)(lo hi:Option Int):List V:=(xs.drop (HT.sIx xs.length 0 lo)).take (HT.sIx xs.length xs.length hi - HT.sIx xs.length 0 lo)
theorem nZ (xs:List V)(lo hi:Option Int):(qM xs lo hi).length<=xs.length:=by
 unfold qM;rw [aad,aaR];lia
end
def ixN (n:Nat)(i:Int):Option Nat:=if 0<=i then (if i < n then some i.toNat else none) else if -(n:Int)<=i then some (i+n).toNat else none
def atI {α:Type}(xs:List α)(i:Int):Option α:=(ixN xs.length i).bind fun j=>xs[j]?
theorem tE {n:Nat}{i:Int}{j:Nat}(h:ixN n i=some j):seqIndex? i n=some j/\j < n/\-(n:Int)<=i/\i < n:=by
 unfold ixN at h;by_cases h0:0<=i
 ·rw [if_pos h0] at h;by_cases h1:i < n
  ·rw [if_pos h1] at h;have e:i.toNat=j:=aai h;exact⟨by rw [seqIndex_of h0 h1,e],by lia,by lia,h1⟩
  ·rw [if_neg h1] at h;cases h
 ·rw [if_neg h0] at h;by_cases h1:-(n:Int)<=i
  ·rw [if_pos h1] at h;have e:(i+n).toNat=j:=aai h;exact⟨by rw [seqIndex_neg (by lia) h1,e],by lia,h1,by lia⟩
  ·rw [if_neg h1] at h;cases h
theorem og {α:Type}{xs:List α}{i:Int}{v:α}(h:atI xs i=some v):∃ j,seqIndex? i xs.length=some j/\xs[j]? = some v/\j < xs.length/\-(xs.length:Int)<=i/\i < xs.length:=by
 unfold atI at h;cases e:ixN xs.length i with
 | none=>rw [e] at h;cases h
 | some j =>
  rw [e] at h;obtain⟨h1,h2,h3,h4⟩:=tE e;exact⟨j,h1,h,h2,h3,h4⟩
theorem dj {α:Type}{xs:List α}{j:Nat}{v:α}(h:xs[j]? = some v):atI xs (j:Int)=some v:=by
 have hj:j < xs.length:=(zJ.mp h).1;have e:ixN xs.length (j:Int)=some j:=by
  unfold ixN;rw [if_pos (by lia),if_pos (by lia)];simp
 unfold atI;rw [e];exact h
theorem uh {α:Type}(xs:List α)(v:α):atI (xs++[v]) (-1)=some v:=by
 have hl:(xs++[v]).length=xs.length+1:=by simp
 have e:ixN (xs++[v]).length (-1)=some xs.length:=by
  unfold ixN;rw [hl,if_neg (by decide),if_pos (by lia)];congr 1;lia
 unfold atI;rw [e];show (xs++[v])[xs.length]? = some v;simp
def vT (b:Expr):Prop:=∀ o i,subscripted b false o i=operate [o,i] (getItem o i)
def IxR (X:Cx)(r:R2):Prop :=
 ∀ (value slice:Expr) (pins:List (Addr×Obj)) (s:Shared) (σ:St) (H:Hp) (x y:V) (v u:Value) (Q:VK),Inv X pins σ H s->RelV x v->RelV y u->r x y H Q →
  subscripted slice false v u=operate [v,u] (getItem v u)->wpAny (model X.prog X.w) X.A (subscriptTail value slice v u) (EP X pins σ Q) X.xe s
def MtR (X:Cx)(id:String)(r:V->List V->Hp->VK->Prop):Prop :=
 ∀ (pins:List (Addr×Obj)) (s:Shared) (σ:St) (H:Hp) (x:V) (xs:List V) (v:Value) (us:List Value) (Q:VK),Inv X pins σ H s->RelV x v->Vals xs us->r x xs H Q →
  wpAny (model X.prog X.w) X.A (call (.builtin id) (v::us)) (EP X pins σ Q) X.xe s
section
variable {X:Cx}{a b:Expr}{ta tb:TE}{pos:Pos}
theorem bj {r:R2}(hr:IxR X r)(ha:PE X a ta)(hb:PE X b tb)(hs:vT b):PE X (.Subscript a b pos) (tOp r ta tb):=by
 intro pins s σ H Q I h;exact Subscript_ (yt ha hb I h fun v u s2 x y H2 I2 rx ry q=>hr a b pins s2 σ H2 x y v u Q I2 rx ry q (hs _ _))
def ym (K:PySem.W.Frag):R2:=fun x y H Q=>∃ p xs i v,x=.ref p/\y=.int i/\SqL K H p xs/\atI xs i=some v/\Q v H
def yJ (K:PySem.W.Frag):R2:=fun x y H Q=>∃ p xs i v,x=.ref p/\y=.int i/\SqT K H p xs/\atI xs i=some v/\Q v H
def zw:R2:=fun x y H Q=>∃ z i c,x=.str z/\y=.int i/\z.length<=sizeLine/\atI z.cps.toList i=some c/\Q (.str ⟨#[c]⟩) H
theorem bg:IxR X (ym X.K):=by
 intro value slice pins s σ H x y v u Q I rx ry h hs;obtain⟨p,xs,i,z,rfl,rfl,hq,he,q⟩:=h;cases rx;obtain⟨t,rfl⟩:=ry;obtain⟨its,r,pl,hz⟩:=I.list hq;obtain⟨j,h1,h2,h3,h4,h5⟩:=og he;obtain⟨w,ew,rw'⟩:=r.get h2;have hl:=r.length;have hn:=ku;have fin:EP X pins σ Q w s:=⟨z,H,I,rw',q⟩;by_cases h0:0<=i
 ·have hj:i.toNat=j:=by
   rw [seqIndex_of h0 h5] at h1;exact aai h1
  exact item_listR pl.isList h0 (by lia) (by rw [hj];simpa using ew) fin hs
 ·have hj:(i+(its.toArray.size:Int)).toNat=j:=by
   rw [seqIndex_neg (by lia) h4] at h1;rw [z5,← hl];exact aai h1
  exact subscriptTail_builtinR (x:=w) pl.isList.typeIs slot_list_getitem.lookup
   (wpAny_getItem_list_neg (Q:=fun r s'=>r=w/\EP X pins σ Q r s') pl.isList (by lia) (by rw [z5]<;>lia) (by lia) (by rw [hj];simpa using ew) ⟨rfl,fin⟩) hs
theorem cx:IxR X (yJ X.K):=by
 intro value slice pins s σ H x y v u Q I rx ry h hs;obtain⟨p,xs,i,z,rfl,rfl,hq,he,q⟩:=h;cases rx;obtain⟨t,rfl⟩:=ry;obtain⟨its,r,pl,hz⟩:=I.tuple hq;obtain⟨j,h1,h2,h3,h4,h5⟩:=og he;obtain⟨w,ew,rw'⟩:=r.get h2;have hl:=r.length;have hn:=ku;have fin:EP X pins σ Q w s:=⟨z,H,I,rw',q⟩;exact subscriptTail_builtinR (x:=w) pl.typeIs slot_tuple_getitem.lookup
  (getItem_tuple (j:=j) (Q:=fun r s'=>r=w/\EP X pins σ Q r s') pl (by lia) (by lia) (by rw [z5,← hl];exact h1) (by simpa using ew) ⟨rfl,fin⟩) hs
theorem mQ:IxR X zw:=by
 intro value slice pins s σ H x y v u Q I rx ry h hs;obtain⟨z,i,c,rfl,rfl,hz,he,q⟩:=h;obtain⟨t,rfl⟩:=rx;obtain⟨t',rfl⟩:=ry;obtain⟨j,h1,h2,h3,h4,h5⟩:=og he;have hl:z.cps.toList.length=z.length:=by simp [Str.length]
 rw [hl] at h1 h4 h5;have hn:=ku;exact tail_any (typeIs_str s z t) slot_str_getitem.lookup (getItem_str (c:=c) (by
  have e1:decide (i < -(2 ^ 63:Int))=false:=aah (by lia);have e2:decide (i ≥ 2 ^ 63)=false:=aah (by lia);rw [e1,e2,Bool.or_false]) (by rw [h1];simpa using h2) ⟨.str ⟨#[c]⟩,H,I.tok _,⟨_,rfl⟩,q⟩) hs
theorem qm (its:List Value)(n j:Nat)(u:Value):Obj.mapSeq (·.setIfInBounds j u) { cls:=.type "list",data:=.seq its.toArray n }={ cls:=.type "list",data:=.seq (its.set j u).toArray n }:=by
 simp [Obj.mapSeq]
theorem Inv.lst {pins:List (Addr×Obj)}{σ:St}{H:Hp}{s:Shared}{p:Addr}{xs:List V}(I:Inv X pins σ H s)(h:H p=some (.lst xs)) :
 ∃ (its:List Value) (n:Nat),Vals xs its/\s.heap.get? p=some { cls:=.type "list",data:=.seq its.toArray n }/\xs.length<=sizeLine:=by
 obtain⟨z,its,n,r,e⟩:=I.hok p _ h;exact⟨its,n,r,e,z⟩
theorem Inv.lstUpd {pins:List (Addr×Obj)}{σ:St}{H:Hp}{s:Shared}{p:Addr}{xs ys:List V}{its its':List Value}{n n':Nat}{f:Obj->Obj}(I:Inv X pins σ H s)(h:H p=some (.lst xs))
 (ho:s.heap.get? p=some { cls:=.type "list",data:=.seq its.toArray n })(hf:f { cls:=.type "list",data:=.seq its.toArray n }={ cls:=.type "list",data:=.seq its'.toArray n' })(r:Vals ys its')(hz:ys.length<=sizeLine)(t:Nat) :
 Inv X pins σ (upd H p (.lst ys)) { s with heap:=s.heap.update p f,toks:=t }:=by
 have e:(s.heap.update p f).get? p=some { cls:=.type "list",data:=.seq its'.toArray n' }:=by
  rw [abC f ho (by rw [hf]<;>rfl),hf]
 refine I.write (x:=p) (e:=p) (by rw [h];trivial) (.inl rfl) (fun b u hb q=>(abw _ _ (aaA hb)).trans q) ⟨_,e⟩ ?_;exact⟨hz,its',n',r,e⟩
def yE:V->V->V->Hp->(Hp->Prop)->Prop:=fun o i v H Q=>∃ p xs k j,o=.ref p/\i=.int k/\H p=some (.lst xs)/\ixN xs.length k=some j/\Q (upd H p (.lst (xs.set j v)))
theorem fF:y3 X yE:=by
 intro pins s σ H o i v ov iv u Q I ro ri rv h;obtain⟨p,xs,k,j,rfl,rfl,hp,hj,q⟩:=h;cases ro;obtain⟨t,rfl⟩:=ri;obtain⟨its,n,r,ho,hz⟩:=I.lst hp;obtain⟨h1,h2,h3,h4⟩:=tE hj;have hl:=r.length;have hn:=ku;have I':Inv X pins σ (upd H p (.lst (xs.set j v))) { s with heap:=s.heap.update p (Obj.mapSeq (·.setIfInBounds j u)) } :=
  I.lstUpd hp ho (qm its n j u) (r.set rv j) (by rw [abX];exact hz) s.toks
 by_cases h0:0<=k
 ·have hk:k.toNat=j:=by
   rw [seqIndex_of h0 h4] at h1;exact aai h1
  exact PySem.W.ki_setAt ho h0 (by lia) (by rw [z5,← hl];exact h4) (by rw [hk];exact⟨_,I',q⟩)
 ·have hk:(k+(its.toArray.size:Int)).toNat=j:=by
   rw [seqIndex_neg (by lia) h3] at h1;rw [z5,← hl];exact aai h1
  exact PySem.W.ki_setBack ho (by lia) (by rw [z5,← hl];exact h3) (by lia) (by rw [hk];exact⟨_,I',q⟩)
theorem lR (lo hi:Option Int)(n:Nat):(sliceBounds lo hi none n).1=((HT.sIx n 0 lo:Nat):Int)/\(sliceBounds lo hi none n).2.1=((HT.sIx n n hi:Nat):Int)/\(sliceBounds lo hi none n).2.2=1:=by
 refine⟨?_,?_,rfl⟩
 ·cases lo with
  | none=>simp [sliceBounds,HT.sIx]
  | some i =>
   simp only [sliceBounds,HT.sIx,Option.getD_none,show (1:Int) > 0 by decide,acK];by_cases h:i < 0
   ·simp only [h,acK]<;>lia
   ·simp only [h,abq]<;>lia
 ·cases hi with
  | none=>simp [sliceBounds,HT.sIx]
  | some i =>
   simp only [sliceBounds,HT.sIx,Option.getD_none,show (1:Int) > 0 by decide,acK];by_cases h:i < 0
   ·simp only [h,acK]<;>lia
   ·simp only [h,abq]<;>lia
theorem lj (its:List Value)(lo hi:Option Int):slicePick its.toArray lo hi none=((its.drop (HT.sIx its.length 0 lo)).take (HT.sIx its.length its.length hi - HT.sIx its.length 0 lo)).toArray:=by
 obtain⟨h1,h2,h3⟩:=lR lo hi its.toArray.size;unfold slicePick;rw [h1,h2,h3];simp only [sliceRange_one,pick_run,z5]<;>rfl
def yM (K:PySem.W.Frag):V->Option Int->Option Int->Hp->VK->Prop:=fun x lo hi H Q=>∃ a xs,x=.ref a/\SqL K H a xs/\∀ p,H p=none->Q (.ref p) (upd H p (.lst (qM xs lo hi)))
theorem nX:SlR X (yM X.K):=by
 intro pins s σ H x v vl vu lo hi sl Q I rx hs pl pu h;obtain⟨a,xs,rfl,hx,q⟩:=h;cases rx;obtain⟨its,r,ht,hz⟩:=I.list hx;have hlen:=r.length;refine⟨"list",_,slot_list_getitem.lookup,ht.isList.typeIs,?_⟩;refine wpAny_getItem_list_slice ht.isList hs pl pu .none (by simp) ?_ (by rw [z5]<;>lia);rw [lj,← hlen];refine⟨.ref s.heap.objs.size,_,I.laid (t':=s.toks) (o:=.lst (qM xs lo hi)) (fun b ob q=>zK _ q) (zP _) ?_,rfl,q _ (I.hok.fresh (zP _))⟩;exact⟨aas (nZ xs lo hi) hz,_,0,(r.drop (HT.sIx xs.length 0 lo)).take (HT.sIx xs.length xs.length hi - HT.sIx xs.length 0 lo),zW _ rfl⟩
def kQ:V->Bool
 | .non=>true
 | .bl _=>true
 | .int _=>true
 | .str _=>true
 | _=>false
def eqV:V->V->Bool
 | .non,.non=>true
 | .bl a,.bl b=>a == b
 | .bl a,.int b=>(if a then 1 else 0) == b
 | .int a,.bl b=>a == (if b then 1 else 0)
 | .int a,.int b=>a == b
 | .str a,.str b=>a == b
 | _,_=>false
theorem xy {A:Around}{s:Shared}{y x:V}{u v:Value}(ry:RelV y u)(rx:RelV x v)(fy:kQ y=true)(fx:kQ x=true):SeqAt.EqAt A s u v (eqV y x):=by
 cases y with
 | non =>
  cases ry;cases x with
  | non=>cases rx;exact SeqAt.EqAt.same _
  | bl b=>cases rx;exact SeqAt.EqAt.none_bool b
  | int b=>obtain⟨t,rfl⟩:=rx;exact SeqAt.EqAt.none_int b t
  | str b=>obtain⟨t,rfl⟩:=rx;exact SeqAt.EqAt.none_str b t
  | _=>exact absurd (show false=true from fx) zO
 | bl a =>
  cases ry;cases x with
  | non=>cases rx;exact SeqAt.EqAt.bool_none a
  | bl b=>cases rx;exact SeqAt.EqAt.bool_bool a b
  | int b=>obtain⟨t,rfl⟩:=rx;exact SeqAt.EqAt.bool_int a b t
  | str b=>obtain⟨t,rfl⟩:=rx;exact SeqAt.EqAt.bool_str a b t
  | _=>exact absurd (show false=true from fx) zO
 | int a =>
  obtain⟨t',rfl⟩:=ry;cases x with
  | non=>cases rx;exact SeqAt.EqAt.int_none a t'
  | bl b=>cases rx;exact SeqAt.EqAt.int_bool a t' b
  | int b=>obtain⟨t,rfl⟩:=rx;exact SeqAt.EqAt.int_int a t' b t
  | str b=>obtain⟨t,rfl⟩:=rx;exact SeqAt.EqAt.int_str a t' b t
  | _=>exact absurd (show false=true from fx) zO
 | str a =>
  obtain⟨t',rfl⟩:=ry;cases x with
  | non=>cases rx;exact SeqAt.EqAt.str_none a t'
  | bl b=>cases rx;exact SeqAt.EqAt.str_bool a t' b
  | int b=>obtain⟨t,rfl⟩:=rx;exact SeqAt.EqAt.str_int a t' b t
  | str b=>obtain⟨t,rfl⟩:=rx;exact SeqAt.EqAt.str_str a t' b t
  | _=>exact absurd (show false=true from fx) zO
 | _=>exact absurd (show false=true from fy) zO
def eqU (x:V)(u:Value):Bool:=match u with
 | .none=>eqV .non x
 | .bool b=>eqV (.bl b) x
 | .int i _=>eqV (.int i) x
 | .str z _=>eqV (.str z) x
 | _=>false
theorem vo {x y:V}{u:Value}(r:RelV y u)(f:kQ y=true):eqU x u=eqV y x:=by
 cases y with
 | non=>cases r;rfl
 | bl b=>cases r;rfl
 | int i=>obtain⟨t,rfl⟩:=r;rfl
 | str z=>obtain⟨t,rfl⟩:=r;rfl
 | _=>exact absurd (show false=true from f) zO
theorem nP {x:V}:∀ {xs:List V} {us:List Value},Vals xs us->xs.all kQ=true->us.any (eqU x)=xs.any fun y=>eqV y x
 | _,_,.nil,_=>rfl
 | y::xs,u::us,.cons r t,f=>by
  rw [aeu,aa8] at f;rw [acY,acY,vo r f.1,nP t f.2]
theorem kK {A:Around}{s:Shared}{x:V}{v:Value}(rx:RelV x v)(fx:kQ x=true):∀ {xs:List V} {us:List Value},Vals xs us->xs.all kQ=true->∀ u∈us,SeqAt.EqAt A s u v (eqU x u)
 | _,_,.nil,_=>fun u hu=>by cases hu
 | y::xs,u::us,.cons r t,f=>fun u' hu=>by
  rw [aeu,aa8] at f;rcases aab.mp hu with rfl | hu
  ·rw [vo r f.1];exact xy r rx f.1 fx
  ·exact kK rx fx t f.2 u' hu
def inV (x:V)(xs:List V):Bool:=xs.any fun y=>eqV y x
def rIn (K:PySem.W.Frag)(neg:Bool):R2:=fun x y H Q=>∃ p xs,y=.ref p/\(SqL K H p xs\/SqT K H p xs)/\kQ x=true/\xs.all kQ=true/\Q (.bl (if neg then !inV x xs else inV x xs)) H
theorem rT:OpR X (compareOp .In) (rIn X.K false):=by
 intro pins s σ H x y v u Q I rx ry h;obtain⟨p,xs,rfl,hq,fx,fs,q⟩:=h;cases ry;rcases hq with hq | hq
 ·obtain⟨its,r,pl,hz⟩:=I.list hq;refine SeqAt.in_listAt (eqU x) pl.isList (fun w hw=>kK rx fx r fs w (by simpa using hw)) ⟨.bl _,H,I,rfl,?_⟩;rw [show its.toArray.any (eqU x)=its.any (eqU x) by simp,nP r fs];exact q
 ·obtain⟨its,r,pl,hz⟩:=I.tuple hq;refine SeqAt.in_tupleAt (eqU x) pl (fun w hw=>kK rx fx r fs w (by simpa using hw)) ⟨.bl _,H,I,rfl,?_⟩;rw [show its.toArray.any (eqU x)=its.any (eqU x) by simp,nP r fs];exact q
theorem aS:d8 X (.builtin "len") (fun xs H Q=>∃ p ys,xs=[.ref p]/\(SqL X.K H p ys\/SqT X.K H p ys)/\Q (.int ys.length) H):=by
 intro pins s σ H xs us Q I r h;obtain⟨p,ys,rfl,hq,q⟩:=h;obtain⟨u,rfl,rx⟩:=gT r;cases rx;have hn:=ku;rcases hq with hq | hq
 ·obtain⟨its,r',pl,hz⟩:=I.list hq;have hlen:=r'.length;exact Calls.call_len_list pl.isList (by simp only [z5]<;>lia) ⟨.int ys.length,H,I.tok _,⟨s.toks+1,by rw [z5,hlen]⟩,q⟩
 ·obtain⟨its,r',pl,hz⟩:=I.tuple hq;have hlen:=r'.length;exact len_tuple pl (by simp only [z5]<;>lia) ⟨.int ys.length,H,I.tok _,⟨s.toks+1,by rw [z5,hlen]⟩,q⟩
theorem iq:d8 X (.builtin "len") (fun xs H Q=>∃ z,xs=[.str z]/\z.length<=sizeLine/\Q (.int z.length) H):=by
 intro pins s σ H xs us Q I r h;obtain⟨z,rfl,hz,q⟩:=h;obtain⟨u,rfl,t,rfl⟩:=gT r;have hn:=ku;exact len_str (by lia) ⟨.int z.length,H,I.tok _,⟨_,rfl⟩,q⟩
theorem dM:d8 X (.type "list") (fun xs H Q=>∃ p ys,xs=[.ref p]/\(SqL X.K H p ys\/SqT X.K H p ys)/\∀ l,H l=none->Q (.ref l) (upd H l (.lst ys))):=by
 intro pins s σ H xs us Q I r h;obtain⟨p,ys,rfl,hq,q⟩:=h;obtain⟨u,rfl,rx⟩:=gT r;cases rx;have fin:∀ (its:List Value),Vals ys its->ys.length<=sizeLine->∀ (h':Heap) (c':Nat),(∀ b o',s.heap.get? b=some o'->h'.get? b=some o') →
  h'.get? s.heap.objs.size=some { cls:=.type "list",dict:=none,data:=.seq its.toArray c',slots:=#[] }->EP X pins σ Q (.ref s.heap.objs.size) { s with heap:=h' }:=fun its r' hz h' c' kp e =>
  ⟨.ref s.heap.objs.size,_,I.laid (t':=s.toks) kp (zP _) (show ObjOk X.prog X.w _ h' _ (.lst ys) from ⟨hz,its,c',r',e⟩),rfl,q _ (I.hok.fresh (zP _))⟩
 rcases hq with hq | hq
 ·obtain⟨its,r',pl,hz⟩:=I.list hq;have hlen:=r'.length;obtain⟨o,ho,hc,n,hd⟩:=pl.isList;exact call_list_seq p (.inl rfl) ho hc hd (fun h' c' kp e=>fin its r' hz h' c' kp e) (by simp only [z5]<;>lia)
 ·obtain⟨its,r',pl,hz⟩:=I.tuple hq;have hlen:=r'.length;obtain⟨o,ho,hc,n,hd⟩:=pl;exact call_list_seq p (.inr rfl) ho hc hd (fun h' c' kp e=>fin its r' hz h' c' kp e) (by simp only [z5]<;>lia)
def tyV (K:PySem.W.Frag)(T:String)(x:V)(H:Hp):Prop:=match x with
 | .str _=>T = "str"
 | .int _=>T = "int"
 | .ref p=>(T = "list" ∧ ∃ xs,SqL K H p xs)\/(T = "tuple" ∧ ∃ o,K.lookup p=some o/\o.cls=.type "tuple" ∧ o.dict=none) ∨
  (T = "dict" ∧ ((∃ kvs,H p=some (.dK kvs))\/∃ kvs,H p=some (.dT kvs)))\/(T = "set" ∧ ∃ S n,H p=some (.set S n))
 | _=>False
theorem pK {pins:List (Addr×Obj)}{σ:St}{H:Hp}{s:Shared}{T:String}{x:V}{v:Value}(I:Inv X pins σ H s)(r:RelV x v)(ty:tyV X.K T x H) :
 s.TypeIs v T/\∀ a,v=.ref a->∃ ob,s.heap.get? a=some ob/\ob.dict=none:=by
 cases x with
 | str z =>
  obtain⟨t,rfl⟩:=r;cases (show T = "str" from ty);exact⟨typeIs_str s z t,fun _ e=>nomatch e⟩
 | int i =>
  obtain⟨t,rfl⟩:=r;cases (show T = "int" from ty);exact⟨typeIs_int s i t,fun _ e=>nomatch e⟩
 | ref p =>
  cases r;rcases ty with ⟨rfl,xs,hq⟩ | ⟨rfl,o,hk,hc,hd⟩ | ⟨rfl,hk⟩ | ⟨rfl,S,n,hk⟩
  ·obtain⟨its,_,pl,_⟩:=I.list hq;refine⟨pl.isList.typeIs,fun a e=>?_⟩;cases e;obtain⟨o,n,e,c,hd,_⟩:=pl;exact⟨o,e,hd⟩
  ·refine⟨⟨o,I.kIn p o hk,hc⟩,fun a e=>?_⟩;cases e;exact⟨o,I.kIn _ o hk,hd⟩
  ·have z:∃ o,s.heap.get? p=some o/\o.ExactDict:=by
    rcases hk with ⟨kvs,hk⟩ | ⟨kvs,hk⟩
    ·obtain⟨_,_,_,_,o,_,_,e,ex,_⟩:=I.hok p _ hk;exact⟨o,e,ex⟩
    ·obtain⟨_,_,_,_,o,_,_,e,ex,_⟩:=I.hok p _ hk;exact⟨o,e,ex⟩
   obtain⟨o,e,ex⟩:=z;refine⟨⟨o,e,ex.1⟩,fun a e2=>?_⟩;cases e2;exact⟨o,e,ex.2.1⟩
  ·obtain⟨o,_,_,_,e,ex,_⟩:=I.hok p _ hk;refine⟨⟨o,e,ex.1⟩,fun a e2=>?_⟩;cases e2;exact⟨o,e,ex.2.1⟩
 | _=>exact False.elim ty
def zr (K:PySem.W.Frag)(T:String)(r:V->List V->Hp->VK->Prop)(to:TE):TE:=fun σ H Q=>to σ H fun x H1=>tyV K T x H1/\r x [] H1 Q
def tBM (K:PySem.W.Frag)(T:String)(r:V->List V->Hp->VK->Prop)(to:TE)(t:TA):TE:=fun σ H Q=>to σ H fun x H1=>tyV K T x H1/\t σ H1 fun xs H2=>r x xs H2 Q
variable {o e:Expr}{es:List Expr}{to:TE}{t:TA}{name:Str}{apos cpos:Pos}{T id:String}{r:V->List V->Hp->VK->Prop}
theorem xV (pa:PlainAttrs T)(slot:Slot T name id)(hty:typeOf (.builtin id)=pure (.type "method_descriptor"))(hm:MtR X id r)(ho:PE X o to)
 (hbase:attributeBase o name X.env (eval o X.env)=eval o X.env:=by rfl)(hline:(apos.endLine == cpos.line)=true:=by rfl):PE X (.Call (.Attribute o name apos) [] [] cpos) (zr X.K T r to):=by
 intro pins s σ H Q I h;refine acZ hbase hline (thn (ho pins s σ H _ I h) fun v s1 ⟨x,H1,I1,r1,ty,q1⟩=>?_);obtain⟨h1,h2⟩:=pK I1 r1 ty;exact⟨T,id,pa,slot,hty,h1,h2,acq rfl (adV (hm pins s1 σ H1 x [] v [] Q I1 r1 .nil q1))⟩
theorem fb (pa:PlainAttrs T)(slot:Slot T name id)(hty:typeOf (.builtin id)=pure (.type "method_descriptor"))(hm:MtR X id r)(ho:PE X o to)(ha:PA X (e::es) t)
 (hbase:attributeBase o name X.env (eval o X.env)=eval o X.env:=by rfl)
 (hfew:((backTo cpos (starEach (e::es) X.env)).all (fun x=>!x.1) && (backToKw cpos (keywordEach [] X.env)).all (fun x=>x.1.isSome)
  && decide ((e::es).length+([]:List Keyword).length+(if ([]:List Keyword).isEmpty then 0 else 1) < 30))=true:=by rfl)
 (hline:(apos.endLine == cpos.line)=true:=by rfl)(hs:starEach (e::es) X.env=(false,eval e X.env)::starEach es X.env:=by rfl)(hplain:(backTo cpos (starEach es X.env)).any (·.1)=false:=by rfl) :
 PE X (.Call (.Attribute o name apos) (e::es) [] cpos) (tBM X.K T r to t):=by
 intro pins s σ H Q I h;refine wpAny_Call_method_late hbase hfew hline rfl (thn (ho pins s σ H _ I h) fun v s1 ⟨x,H1,I1,r1,ty,q1⟩=>?_);obtain⟨h1,h2⟩:=pK I1 r1 ty;refine⟨T,id,pa,slot,hty,h1,h2,?_⟩;have hA:=ha cpos pins s1 σ H1 _ I1 q1;rw [hs] at hA ⊢;refine acq (by show (false || (backTo cpos (starEach es X.env)).any (·.1))=false;rw [hplain]<;>rfl) (Calls.evalArgs_plain ?_);exact thn hA fun us s2 ⟨vs,H2,I2,r2,q2⟩=>hm pins s2 σ H2 x vs v us Q I2 r1 r2 q2
end
def MtM (X:Cx)(id:String)(r:V->List V->Hp->VK->Prop):Prop :=
 ∀ (pins:List (Addr×Obj)) (s:Shared) (σ:St) (H:Hp) (x:V) (xs:List V) (v:Value) (us:List Value) (Q:VK),Inv X pins σ H s->RelV x v->Vals xs us->r x xs H Q →
  wpAny (model X.prog X.w) X.A (call (.builtin id) (v::us)) (EP X pins σ Q) X.xe s
theorem Vals.one:∀ {x:V} {us:List Value},Vals [x] us->∃ u,us=[u]/\RelV x u
 | _,_,.cons r .nil=>⟨_,rfl,r⟩
theorem Vals.two:∀ {x y:V} {us:List Value},Vals [x,y] us->∃ u v,us=[u,v]/\RelV x u/\RelV y v
 | _,_,_,.cons r (.cons q .nil)=>⟨_,_,rfl,r,q⟩
theorem Vals.zero:∀ {us:List Value},Vals [] us->us=[]
 | _,.nil=>rfl
theorem Vals.eraseIdx:∀ {xs:List V} {us:List Value} (i:Nat),Vals xs us->Vals (xs.eraseIdx i) (us.eraseIdx i)
 | _,_,_,.nil=>.nil
 | _,_,0,.cons _ t=>t
 | _,_,i+1,.cons r t=>.cons r (Vals.eraseIdx i t)
theorem mf {α:Type}:∀ (l:List α) (i:Nat),(l.eraseIdx i).length<=l.length
 | [],_=>zP _
 | _::_,0=>aa6 _
 | _::r,i+1=>Nat.succ_le_succ (mf r i)
section
variable {X:Cx}{pins:List (Addr×Obj)}{σ:St}{H:Hp}{s:Shared}{l b:Addr}{xs ys zs:List V}
theorem Inv.lset {its its':List Value}{n:Nat}{f:Array Value->Array Value}{t':Nat}(I:Inv X pins σ H s)(hH:H l=some (.lst xs))
 (e:s.heap.get? l=some { cls:=.type "list",data:=.seq its.toArray n })(hf:f its.toArray=its'.toArray)(hv:Vals ys its')(hz:ys.length<=sizeLine) :
 Inv X pins σ (upd H l (.lst ys)) { s with heap:=s.heap.update l (Obj.mapSeq f),toks:=t' }:=by
 have q:=PySem.IsL.update e f;rw [hf] at q;refine I.write (x:=l) (e:=l) (by rw [hH];exact trivial) (.inl rfl) (fun b' u hb hu=>(abw s.heap (Obj.mapSeq f) (aaA hb)).trans hu) ⟨_,q⟩ ?_;exact⟨hz,its',_,hv,q⟩
theorem Inv.lnew {its:List Value}{t':Nat}(I:Inv X pins σ H s)(hv:Vals ys its)(hz:ys.length<=sizeLine) :
 Inv X pins σ (upd H s.heap.objs.size (.lst ys)) { s with heap:=s.heap.push { cls:=.type "list",data:=.seq its.toArray },toks:=t' } :=
 I.laid (fun _ _ q=>zK _ q) (zP _) ⟨hz,its,0,hv,zW _ rfl⟩
theorem Inv.fresh (I:Inv X pins σ H s):H s.heap.objs.size=none:=I.hok.fresh (zP _)
theorem Inv.lstM (I:Inv X pins σ H s)(hH:H l=some (.lst xs)):xs.length<=sizeLine/\∃ (its:List Value) (n:Nat),Vals xs its/\xs.length=its.length/\s.heap.get? l=some { cls:=.type "list",data:=.seq its.toArray n }:=by
 obtain⟨z,its,n,r,e⟩:=I.hok l _ hH;exact⟨z,its,n,r,r.length,e⟩
theorem u9 {n:Nat}(h:n<=sizeLine):Builtin.List.listTooLong n=false:=by
 unfold Builtin.List.listTooLong;exact aah (by lia)
end
section
variable {X:Cx}
def qR:V->List V->Hp->VK->Prop:=fun x vs H Q=>∃ l xs y,x=.ref l/\vs=[y]/\H l=some (.lst xs)/\xs.length < sizeLine/\Q .non (upd H l (.lst (xs++[y])))
theorem cO:MtM X "list.append" qR:=by
 intro pins s σ H x vs v us Q I rx rv h;obtain⟨l,xs,y,rfl,rfl,hH,hz,q⟩:=h;cases rx;obtain⟨u,rfl,ru⟩:=rv.one;obtain⟨z,its,n,r,hl,e⟩:=I.lstM hH;refine ae9 F.slot_list_append ⟨_,e,rfl⟩ F.entry_list_append (F.args_list_append_2 _ _) (PySem.list_append l its.toArray n u (by rw [z5];lia)) ⟨e,?_⟩;refine⟨.non,_,I.lset (its':=its++[u]) hH e (by simp) (r.append (.cons ru .nil)) ?_,rfl,q⟩;rw [zH,aa2];lia
def wG:V->List V->Hp->VK->Prop:=fun x vs H Q=>∃ l b xs zs,x=.ref l/\vs=[.ref b]/\H l=some (.lst xs)/\H b=some (.lst zs)/\xs.length+zs.length<=sizeLine/\Q .non (upd H l (.lst (xs++zs)))
theorem tO:MtM X "list.extend" wG:=by
 intro pins s σ H x vs v us Q I rx rv h;obtain⟨l,b,xs,zs,rfl,rfl,hH,hB,hz,q⟩:=h;cases rx;obtain⟨u,rfl,ru⟩:=rv.one;cases ru;obtain⟨z,its,n,r,hl,e⟩:=I.lstM hH;obtain⟨z2,its2,n2,r2,hl2,e2⟩:=I.lstM hB;have hsz:its.toArray.size+its2.toArray.size<=sizeLine:=by rw [z5,z5];lia
 have hlong:¬ (!its.toArray.isEmpty && Builtin.List.listTooLong (its.toArray.size+its2.toArray.size))=true:=by
  rw [u9 hsz,Bool.and_false];exact zO
 refine ae9 F.slot_list_extend ⟨_,e,rfl⟩ F.entry_list_extend (F.args_list_extend_2 _ _)
  (AutoSeq1.list_extend_list_list_0 l its.toArray n b its2.toArray n2 hlong (by rw [z5];lia) (by lia)) ⟨e,e2,?_⟩
 refine⟨.non,_,I.lset (its':=its++its2) hH e (by simp) (r.append r2) ?_,rfl,q⟩;rw [zH];lia
def yb:V->List V->Hp->VK->Prop:=fun x vs H Q=>∃ l xs i k y,x=.ref l/\vs=[.int i]/\H l=some (.lst xs)/\-(2 ^ 63)<=i/\i < 2 ^ 63/\seqIndex? i xs.length=some k/\xs[k]? = some y/\Q y (upd H l (.lst (xs.eraseIdx k)))
theorem oI:MtM X "list.pop" yb:=by
 intro pins s σ H x vs v us Q I rx rv h;obtain⟨l,xs,i,k,y,rfl,rfl,hH,h1,h2,hk,hy,q⟩:=h;cases rx;obtain⟨u,rfl,ru⟩:=rv.one;obtain⟨t,rfl⟩:=ru;obtain⟨z,its,n,r,hl,e⟩:=I.lstM hH;obtain⟨w,hw,rw'⟩:=r.get hy;refine ae9 F.slot_list_pop ⟨_,e,rfl⟩ F.entry_list_pop (F.args_list_pop_2 _ _)
  (MeetsSeq.list_pop_at l its.toArray n i t k w (fitsIndex_both h1 h2) (by rw [z5,← hl];exact hk) (by rw [← aao];exact hw) (by rw [z5];lia)) ⟨e,?_⟩
 refine⟨y,_,I.lset (its':=its.eraseIdx k) hH e ?_ (r.eraseIdx k) ?_,rw',q⟩
 ·show its.toArray.eraseIdxIfInBounds k=(its.eraseIdx k).toArray;rw [List.eraseIdxIfInBounds_toArray]
 ·have:=mf xs k;lia
def yK:R2:=fun x y H Q=>∃ l b xs zs,x=.ref l/\y=.ref b/\H l=some (.lst xs)/\H b=some (.lst zs)/\xs.length+zs.length<=sizeLine/\∀ p,H p=none->Q (.ref p) (upd H p (.lst (xs++zs)))
theorem i6:OpR X (binaryOp .Add) yK:=by
 intro pins s σ H x y v u Q I rx ry h;obtain⟨l,b,xs,zs,rfl,rfl,hH,hB,hz,q⟩:=h;cases rx;cases ry;obtain⟨z,its,n,r,hl,e⟩:=I.lstM hH;obtain⟨z2,its2,n2,r2,hl2,e2⟩:=I.lstM hB;refine PySem.P.add_list e e2 ?_ (by rw [z5,z5];lia);have ea:its.toArray++its2.toArray=(its++its2).toArray:=by simp
 rw [ea];exact⟨.ref _,_,I.lnew (t':=s.toks) (r.append r2) (by rw [zH];lia),rfl,q _ I.fresh⟩
end
section
variable {prog:Program}{w:World}{A:Around}{E:Value->Shared->Prop}{s:Shared}
end
section
variable {X:Cx}
end
end L2
namespace Att
open PySem PySem.W PySem.Calls PyProof.Rows
theorem iZ {P:Params}{h:Heap}:∀ (ns:List Int) (vs:List Value),WellAll P h vs (ns.map WData.int)->IntsAre vs ns:=by
 intro ns
 induction ns with
 | nil =>
  intro vs w;rw [adB] at w;cases w;exact .nil
 | cons n ns ih =>
  intro vs w;rw [z4] at w;cases w with
  | cons a b =>
   cases a;exact .cons _ _ (ih _ b)
theorem rQ {l:OpenLaw}{n:Nat}(hn:l.most=some n){P:Params}{h:Heap}{args:List WData}{vals:List Value}
 (hpre:l.row.toRowW.claim.pre args=true)(hwl:WellAll P h vals args) :
 ∃ a vs ns,vals=[Value.ref a]/\args=[WData.list (ns.map WData.int)]/\h.get? a=some { cls:=.type "list",data:=.seq vs.toArray }/\IntsAre vs ns/\ns.length<=n:=by
 have hsh:WShape.hasAll [] args [.list .int]=true:=(pre_splitW hpre).1;have hc:l.pre.holds [] { args:=args }=true:=(pre_splitW hpre).2;obtain⟨d,r,rfl,h1,h2⟩:=hasAllW_cons hsh;obtain rfl:=hasAllW_nil h2;obtain⟨xs,rfl,h3⟩:=hasW_list h1;obtain⟨ns,rfl⟩:=items_int h3;have hlen:ns.length<=n:=by
  unfold OpenLaw.pre at hc;have h4:(WTm.not (.lt (.lit (.int (n:Int))) (.len (.arg 0)))).holds [] { args:=[.list (ns.map .int)] }=true:=by
   have h4:=(holds_andW hc).1;rw [hn] at h4;exact h4
  have h5:=condW_of h4 (w_not (w_lt w_lit (w_len_list (w_arg rfl))));rw [zL] at h5;refine Nat.le_of_not_lt fun q=>?_;have q':(n:Int) < ((ns.length:Nat):Int):=by lia
  first
   | (rw [aaw q'] at h5;exact absurd h5 (by decide))
   | (simp at h5;lia)
 cases hwl with
 | cons w1 w2 =>
  cases w2;cases w1 with
  | list ho hall=>exact⟨_,_,ns,rfl,rfl,ho,iZ ns _ hall,hlen⟩
theorem tJ (l:OpenLaw)(args:List WData):l.row.toRowW.claim.post args (.bool true) args=true :=
 postW_of (r:=l.row.toRowW) (X:=(true == true))
  (show WShape.has [] (.bool true) .bool=true by first | rfl | decide | simp [WShape.has,WShape.arms,WShape.armsAll])
  (show (WTm.eq .res (.lit (.bool true))).value [] { args:=args,res:=some (.bool true),after:=args }=some (.bool (true == true)) from w_eq_bool (w_res rfl) w_lit) rfl
theorem attach_call {l:OpenLaw}{n:Nat}{q:Program}{loose:List Str}{XP:(Str->Option Value)->Heap->Prop}{YP:World->Heap->Prop}{d:DefRec}
 (hn:l.most=some n)(hdf:d.params.defaults=[])
 (call:∀ (w:World) (s₀ s₁:Shared) (mg mb:Str->Option Value) (fa:Addr) (o:Obj) (pm cd doc:Value) (a:Addr) (vs:List Value) (ns:List Int),
  Ground q loose [] XP w s₀ mg mb s₁.heap->YP w s₁.heap →
  s₁.heap.get? fa=some o->o.data=.func (docDef d.name d.params d.body d.scope pm cd doc)->s₁.heap.CodeRec cd d.name->mg d.name=some (.ref fa) →
  s₁.heap.get? a=some { cls:=.type "list",data:=.seq vs.toArray }->IntsAre vs ns->ns.length<=n->s₁.gens=#[] →
  codeAny (model l.prog w) callerA (.call (.ref fa) ⟨[.ref a],[]⟩) (fun r s'=>r=.ok (.ret (.bool true))/\OldK s₁.heap s'.heap/\s'.os=s₁.os/\AllBare s'.gens) s₁) :
 WalkO q loose XP YP l.row.toRowW d [] (fun f vs=>PySem.call f vs):=by
 intro w s₀ s₁ mg mb G Y fa o pm cd doc dV kV ho hd hcd hD hmg hg args vals as hpre hlay hrd hwl hlo;obtain rfl:dV=.none:=Dflts.none hD hdf;obtain rfl:kV=.none:=Dflts.noKw hD;obtain⟨a,vs,ns,rfl,rfl,hobj,hints,hlen⟩:=rQ hn hpre hwl;refine enter_call (acv (call w s₀ s₁ mg mb fa o pm cd doc a vs ns G Y ho (fd_plain hd) hcd hmg hobj hints hlen hg) fun r s' hq=>?_);obtain⟨rfl,h2,h3,h4⟩:=hq;exact⟨.inl ⟨.bool true,.bool true,[],rfl,fun _=>rfl,.bool true,tJ l _,fun _=>⟨List.Pairwise.nil,fun _ hm=>(nomatch hm)⟩⟩,h2,h3,h4⟩
section
variable {prog:Program}{w:World}{A:Around}{E:Value->Shared->Prop}{s:Shared}{K:Frag}
end
end Att
namespace L2
open PySem PySem.Spec PyProof.Rows
theorem mr:∀ {vs:List Value} {ns:List Int},IntsAre vs ns->Vals (ns.map V.int) vs
 | _,_,.nil=>.nil
 | _,_,.cons n t h=>.cons ⟨t,rfl⟩ (mr h)
def yO (H:Hp):Prop:=∀ b,H b=none\/∃ o xs,H b=some (.frz o (.lst xs))
theorem vc {P:Program}{w:World}{K:PySem.W.Frag}{mg mb:Str->Option Value}{CX:CXT}{k:Nat}{fa a:Addr}{fd:FuncData}{x:Str}{sp:Sp}{s₁:Shared}{vs:List Value}{ns:List Int}
 (KX:K.In s₁.heap)(hns:s₁.heap.Ns mainGlobals mg)(hb:s₁.heap.Ns builtinsNs mb)(hbb:∀ x:Str,x ≠ "__name__" → mb x=bootBuiltins x)(hlim:s₁.heap.NoLimit)(hg:s₁.gens=#[])
 (ha:s₁.heap.get? a=some { cls:=.type "list",data:=.seq vs.toArray })(hi:IntsAre vs ns)(hl:ns.length<=sizeLine)(hr:Room k callerA)
 (F:∀ base:Heap,K.In base->base.Ns mainGlobals mg->bO P w K mg base CX k fa fd [x] sp)(hbind:∀ (s:Shared) (u:Value),BindsTo s fd ⟨[u],[]⟩ [(x,u)])
 (hsp:∀ H:Hp,yO H->SqL K H a (ns.map V.int)->sp [.ref a] H (fun v _=>v=.bl true) fun _ _ _=>False)
 (hCX:∀ H e s',CX [] H s₁ (fun _ _ _=>False) e s'->False) :
 codeAny (model P w) callerA (.call (.ref fa) ⟨[.ref a],[]⟩) (fun r s'=>r=.ok (.ret (.bool true))/\OldK s₁.heap s'.heap/\s'.os=s₁.os/\AllBare s'.gens) s₁:=by
 have rv:=mr hi;have lenV:=hi.length;have core:∀ H:Hp,yO H->SqL K H a (ns.map V.int)->HOk P w H s₁.heap->(∀ b,H b≠none->b=a)->(H a≠none->K.lookup a=none) →
  codeAny (model P w) callerA (.call (.ref fa) ⟨[.ref a],[]⟩) (fun r s'=>r=.ok (.ret (.bool true))/\OldK s₁.heap s'.heap/\s'.os=s₁.os/\AllBare s'.gens) s₁:=by
  intro H hO hS hok hA hK;have base_of:∀ {b:Addr} {o:Obj},s₁.heap.get? b=some o->H b=none->(uO s₁.heap H).get? b=some o:=fun e n=>uB e n;have noA:∀ {b:Addr} {o:Obj} {es:Array DictEntry} {ep:Nat},s₁.heap.get? b=some o->o.data=.dict es ep->H b=none:=fun {b o es ep} e d=>by
   cases q:H b with
   | none=>rfl
   | some u =>
    have e':b=a:=hA b (by rw [q];simp);subst e';rw [ha] at e;cases e;have d':Data.seq vs.toArray _=Data.dict es ep:=d;cases d'
  have nsK:∀ {b:Addr} {m:Str->Option Value},s₁.heap.Ns b m->(uO s₁.heap H).Ns b m:=fun {b m} ⟨o,es,ep,e,d,r⟩=>⟨o,es,ep,base_of e (noA e d),d,r⟩;have hKb:K.In (uO s₁.heap H):=fun b o e=>base_of (KX b o e) (by
   cases q:H b with
   | none=>rfl
   | some u =>
    have e':b=a:=hA b (by rw [q];simp);subst e';rw [hK (by rw [q];simp)] at e;cases e)
  have hM:Mod K mg (uO s₁.heap H):=⟨hKb,nsK hns,⟨mb,nsK hb,hbb⟩,let ⟨mc,h1,h2⟩:=hlim;⟨mc,nsK h1,h2⟩⟩;have e0:yj P w K mg (uO s₁.heap H) callerA [] s₁ H:=⟨rfl,hM,fun b o e=>wW e,Nat.le_of_eq (qS _ _),trivial,fun b hb=>absurd (show b∈([]:List Addr) from hb) (by simp),hok,.of_eq hg⟩;refine acv ((F _ hKb (nsK hns)).run callerA [] s₁ H ⟨[.ref a],[]⟩ [.ref a] [.ref a] _ _ hr e0 (hbind s₁ (.ref a)) (.cons rfl .nil) (hsp H hO hS)) fun r s' h=>?_;cases r with
  | error e=>exact (hCX H e s' h).elim
  | ok fl =>
   cases fl with
   | next=>exact False.elim h
   | brk=>exact False.elim h
   | cont=>exact False.elim h
   | ret u =>
    obtain⟨v,H',os,bare,un,hok',r',q⟩:=h;have q':v=.bl true:=q;subst q';obtain rfl:u=Value.bool true:=r';refine⟨rfl,OldK.of_keep fun b o e=>?_,os,bare⟩;cases q:H b with
    | none=>exact un.keep b o e q (by intro z;exact absurd (show b∈([]:List Addr) from z) (by simp)) (by simp)
    | some u =>
     rcases hO b with z | ⟨ob,xs,z⟩
     ·rw [q] at z;cases z
     ·have z2:=un.frzs b ob _ z;obtain⟨e1,_⟩:=hok b _ z;obtain⟨e2,_⟩:=hok' b _ z2;rw [e] at e1;cases e1;exact e2
 cases hk:K.lookup a with
 | some o =>
  have e:=KX a o hk;rw [ha] at e;cases e;refine core (fun _=>none) (fun _=>.inl rfl) (.inr ⟨_,vs.toArray,_,hk,rfl,rfl,rfl,by rw [z5,lenV];exact hl,by simpa using rv⟩) (fun b u z=>by have z':(none:Option HO)=some u:=z;cases z') (fun b z=>absurd rfl z) fun z=>absurd rfl z
 | none =>
  refine core (fun b=>if b=a then some (.frz { cls:=.type "list",data:=.seq vs.toArray } (.lst (ns.map V.int))) else none) (fun b=>?_) (.inl (.inr ⟨{ cls:=.type "list",data:=.seq vs.toArray },if_pos rfl⟩)) (fun b u z=>?_) (fun b z=>?_) fun _=>hk
  ·by_cases hb:b=a
   ·exact .inr ⟨_,_,if_pos hb⟩
   ·exact .inl (if_neg hb)
  ·by_cases hb:b=a
   ·have z':=(if_pos hb).symm.trans z;cases z';subst hb;exact⟨ha,by rw [zL];exact hl,vs,_,rv,ha⟩
   ·have z':=(if_neg hb).symm.trans z;cases z'
  ·by_cases hb:b=a
   ·exact hb
   ·exact absurd (if_neg hb) z
theorem walk_of {l:PySem.W.OpenLaw}{n k:Nat}{q:Program}{loose:List Str}{XP:(Str->Option Value)->Heap->Prop}{YP:World->Heap->Prop}{d:DefRec}{K:Params->PySem.W.Frag}{CX:World->CXT}{sp:World->Sp}{x:Str}
 (hn:l.most=some n)(hn2:n<=sizeLine)(hdf:d.params.defaults=[])(hr:Room k callerA)
 (hY:∀ (w:World) (h:Heap),YP w h->(K w.params).In h)
 (F:∀ (w:World) (mg:Str->Option Value) (fa:Addr) (h:Heap),(K w.params).In h->h.Ns mainGlobals mg->mg d.name=some (.ref fa) →
  ∃ fd:FuncData,(∀ (s:Shared) (u:Value),BindsTo s fd ⟨[u],[]⟩ [(x,u)]) ∧
   ∀ base:Heap,(K w.params).In base->base.Ns mainGlobals mg->bO l.prog w (K w.params) mg base (CX w) k fa fd [x] (sp w))
 (hsp:∀ (w:World) (H:Hp) (a:Addr) (ns:List Int),ns.length<=n->yO H->SqL (K w.params) H a (ns.map V.int)->sp w [.ref a] H (fun v _=>v=.bl true) fun _ _ _=>False)
 (hCX:∀ (w:World) (H:Hp) (s:Shared) (e:Value) (s':Shared),CX w [] H s (fun _ _ _=>False) e s'->False) :
 PySem.W.WalkO q loose XP YP l.row.toRowW d [] (fun f vs=>PySem.call f vs):=by
 refine Att.attach_call hn hdf fun w s₀ s₁ mg mb fa o pm cd doc a vs ns G Y ho hd hcd hmg hobj hints hlen hg=>?_;have KX:=hY w _ Y;obtain⟨fd,hb,hF⟩:=F w mg fa _ KX G.T.g hmg;exact vc KX G.T.g G.T.b G.T.builtins G.T.nolimit hg hobj hints (aas hlen hn2) hr hF hb (fun H hO hS=>hsp w H a ns hlen hO hS) fun H e s'=>hCX w H s₁ e s'
def bh (s:Stmt):Arguments:=match s with
 | .FunctionDef _ a _ _ _ _ _ _ _ _=>a
 | _=>{ posonlyargs:=[],args:=[],vararg:=none,kwonlyargs:=[],kw_defaults:=[],kwarg:=none,defaults:=[] }
def aR (s:Stmt):List Stmt:=match s with
 | .FunctionDef _ _ b _ _ _ _ _ _ _=>b
 | _=>[]
def ao (s:Stmt):Scope:=match s with
 | .FunctionDef _ _ _ _ _ _ sc _ _ _=>sc
 | _=>{ kind:=.function,names:=[],isGenerator:=false,isCoroutine:=false }
abbrev CX0:CXT:=fun _ _ _ _ _ _=>False
abbrev E0:XK:=fun _ _ _=>False
theorem gf {X:Cx}:rB CX0 X E0:=fun _ _ _ _ _ _ _ h=>h.elim
structure Fun (K:PySem.W.Frag)(x qual:Str)(st:Stmt)(f:Addr)(fd:FuncData):Prop where
 ex:∃ (oc:Value) (od:Option Addr) (kV doc pm:Value) (an:Option Addr) (cdv ct:Value) (osl:Array (Option Value)),
  fd=fnOf x qual (bh st) (aR st) (ao st) .none kV doc pm an cdv ct/\K.lookup f=some ⟨oc,od,.func fd,osl⟩/\codeIn K cdv qual=true
 kp:keepIn K (.ref f)=true
section
variable {P:Program}{w:World}{K:PySem.W.Frag}{mg:Str->Option Value}{base:Heap}
theorem Fun.ok {x qual:Str}{st:Stmt}{f:Addr}{fd:FuncData}{N ps:List Str}{k:Nat}{sp:Sp}(F:Fun K x qual st f fd)(S:br N ps (ao st))(len:∀ vs H Q E,sp vs H Q E->vs.length=ps.length)
 (hbody:∀ (cdv:Value) (A:Around) (outer:List Env) (s:Shared) (H:Hp) (vs:List V) (Q:VK) (E:XK),Room k (A.deeper (envOfC qual (ao st) s.heap.objs.size f cdv))->sp vs H Q E →
  ∃ t,PSs (qu CX0 P w K mg base N qual (ao st) f cdv A outer s H E).nox (aR st) t/\t { nx:=fun _ H'=>Q .non H',rt:=Q } (jS N vs) H):bO P w K mg base CX0 (k+1) f fd ps sp:=by
 obtain⟨oc,od,kV,doc,pm,an,cdv,ct,osl,rfl,lk,hcd⟩:=F.ex;refine yC lk hcd S len fun A outer s H vs Q E hr hsp=>?_;obtain⟨t,h,q⟩:=hbody cdv A outer s H vs Q E hr hsp;exact⟨t,h.nox,q⟩
theorem Fun.binds {x qual:Str}{st:Stmt}{f:Addr}{fd:FuncData}{ps:List Str}(F:Fun K x qual st f fd)
 (h:∀ (kV doc pm:Value) (an:Option Addr) (cdv ct:Value) (us:List Value),us.length=ps.length->bindArgs (fnOf x qual (bh st) (aR st) (ao st) .none kV doc pm an cdv ct) ⟨us,[]⟩=pure (ps.zip us)):Binds K fd ps []:=by
 obtain⟨oc,od,kV,doc,pm,an,cdv,ct,osl,rfl,lk,hcd⟩:=F.ex;exact .all (h kV doc pm an cdv ct)
theorem cw {x qual:Str}{st:Stmt}{f:Addr}{oc:Value}{od an:Option Addr}{osl:Array (Option Value)}{kV doc pm cdv ct:Value}(l:K.lookup f=some ⟨oc,od,.func (fnOf x qual (bh st) (aR st) (ao st) .none kV doc pm an cdv ct),osl⟩)
 (c:codeIn K cdv qual=true)(k:keepIn K (.ref f)=true):Fun K x qual st f (fnOf x qual (bh st) (aR st) (ao st) .none kV doc pm an cdv ct):=⟨⟨oc,od,kV,doc,pm,an,cdv,ct,osl,rfl,l,c⟩,k⟩
end
theorem iH {A:Around}{k:Nat}(hr:Room k A):A.units+1 < cLine:=aaj (aaE (by decide:1<=64) _) hr.units
theorem bu {n:Nat}(h:n<=1000):n < sizeLine:=aaj h (by decide)
section
variable {X:Cx}
theorem pv (i:Nat){x:Str}{pos:Pos}(hN:X.N[i]? = some x:=by rfl)(hv:Vis X.env.scope x:=by first | exact Or.inl rfl | exact Or.inr (.inl rfl) | exact Or.inr (.inr rfl))(hd:(x == ("__debug__" : Str))=false:=by decide)
 (hcd:(x == ("__classdict__" : Str))=false:=by decide):PE X (.Name x pos) (ik i):=xB hN hv hd hcd
end
theorem dR {A B:Prop}(h:B):if false=true then A else B:=by
 rw [if_neg zO];exact h
theorem hV {A B:Prop}(h:A):if true=true then A else B:=by
 rw [if_pos rfl];exact h
theorem tZ {c A B:Prop}[Decidable c](h1:c->A)(h2:¬ c->B):if c then A else B:=by
 by_cases h:c
 ·rw [if_pos h];exact h1 h
 ·rw [if_neg h];exact h2 h
def Same (H H':Hp):Prop:=∀ b o,H b=some o->H' b=some o
theorem Same.refl (H:Hp):Same H H:=fun _ _ h=>h
theorem Same.trans {H H1 H2:Hp}(a:Same H H1)(b:Same H1 H2):Same H H2:=fun c o h=>b c o (a c o h)
theorem Same.free {H H':Hp}(e:Same H H'){l:Addr}(h:H' l=Option.none):H l=Option.none:=by
 cases q:H l with
 | none=>rfl
 | some o =>
  rw [e l o q] at h;cases h
theorem Same.seq {K:PySem.W.Frag}{H H':Hp}{a:Addr}{xs:List V}(e:Same H H')(h:SqL K H a xs):SqL K H' a xs:=by
 rcases h with (h | ⟨o,h⟩) | h
 ·exact .inl (.inl (e _ _ h))
 ·exact .inl (.inr ⟨o,e _ _ h⟩)
 ·exact .inr h
section
variable {κ:Type}[DecidableEq κ]
def dw (kvs:List (κ×V))(k:κ):Option V:=(kvs.find? fun kv=>decide (kv.1=k)).map (·.2)
def mM (kvs:List (κ×V))(k:κ)(v:V):List (κ×V) :=
 if (kvs.any fun kv=>decide (kv.1=k))=true then kvs.map (fun kv=>if kv.1=k then (kv.1,v) else kv) else kvs++[(k,v)]
theorem ck {p:κ×V}{r:List (κ×V)}{k:κ}(e:p.1=k):dw (p::r) k=some p.2:=by simp [dw,acw,e]
theorem cm {p:κ×V}{r:List (κ×V)}{k:κ}(e:¬ p.1=k):dw (p::r) k=dw r k:=by simp [dw,acw,e]
theorem iN (k:κ):∀ kvs:List (κ×V),(kvs.any fun kv=>decide (kv.1=k))=(dw kvs k).isSome
 | []=>rfl
 | p::r=>by
  rw [acY];by_cases e:p.1=k
  ·simp only [ck e,aaw e,Bool.true_or,Option.isSome_some]
  ·rw [cm e,aah e,Bool.false_or];exact iN k r
theorem oN (k j:κ)(y:V):∀ kvs:List (κ×V),dw (kvs.map fun kv=>if kv.1=k then (kv.1,y) else kv) j=(dw kvs j).map fun x=>if j=k then y else x
 | []=>rfl
 | p::r=>by
  have ih:=oN k j y r;rw [z4];by_cases h:p.1=k
  ·rw [if_pos h];by_cases e:p.1=j
   ·rw [ck (p:=(p.1,y)) e,ck e,ac0,if_pos (e.symm.trans h)]
   ·rw [cm (p:=(p.1,y)) e,cm e,ih]
  ·rw [if_neg h];by_cases e:p.1=j
   ·rw [ck (p:=p) e,ck e,ac0,if_neg (fun z=>h (e.trans z))]
   ·rw [cm (p:=p) e,cm e,ih]
theorem lZ (k j:κ)(y:V):∀ kvs:List (κ×V),dw kvs k=none->dw (kvs++[(k,y)]) j=if j=k then some y else dw kvs j
 | [],_=>by
  by_cases e:k=j
  ·rw [if_pos e.symm];exact ck (p:=(k,y)) e
  ·rw [if_neg (fun z=>e z.symm)];exact cm (p:=(k,y)) e
 | p::r,hn=>by
  rw [aeF];have hk:¬ p.1=k:=fun z=>by rw [ck z] at hn;cases hn
  rw [cm hk] at hn;have ih:=lZ k j y r hn;by_cases e:p.1=j
  ·rw [ck e,ck e,if_neg (fun z=>hk (e.trans z))]
  ·rw [cm e,cm e,ih]
theorem lu (kvs:List (κ×V))(k j:κ)(y:V):dw (mM kvs k y) j=if j=k then some y else dw kvs j:=by
 unfold mM;by_cases a:(kvs.any fun kv=>decide (kv.1=k))=true
 ·rw [if_pos a,oN];rw [iN] at a;by_cases e:j=k
  ·obtain⟨x,hx⟩:=aek.mp a;rw [if_pos e,e,hx,ac0,if_pos rfl]
  ·rw [if_neg e];cases dw kvs j with
   | none=>rfl
   | some x=>rw [ac0,if_neg e]
 ·rw [if_neg a];refine lZ k j y kvs ?_;rw [iN] at a;cases q:dw kvs k with
  | none=>rfl
  | some x=>rw [q] at a;exact (a rfl).elim
theorem jd (kvs:List (κ×V))(k:κ)(v:V):(mM kvs k v).length<=kvs.length+1:=by
 unfold mM;split
 ·rw [zL];lia
 ·rw [zH,aaq,aeO];lia
theorem pd {kvs:List (κ×V)}{k:κ}(v:V)(h:dw kvs k=none):mM kvs k v=kvs++[(k,v)]:=by
 unfold mM;rw [iN,h];exact if_neg (by decide)
theorem KV.val {kvs:List (κ×V)}{vs:List (κ×Value)}(r:KV kvs vs)(k:κ):RelO (dw kvs k) (valueAt vs k):=by
 unfold KV at r
 induction r with
 | nil=>exact True.intro
 | @cons p q ps qs h t ih =>
  obtain⟨h1,h2⟩:=h;by_cases e:p.1=k
  ·have e':q.1=k:=h1.symm.trans e;have b:valueAt (q::qs) k=some q.2:=by simp [valueAt,acw,e']
   rw [ck e,b];exact h2
  ·have e':¬ q.1=k:=fun z=>e (h1.trans z);have b:valueAt (q::qs) k=valueAt qs k:=by simp [valueAt,acw,e']
   rw [cm e,b];exact ih
theorem KV.any {kvs:List (κ×V)}{vs:List (κ×Value)}(r:KV kvs vs)(k:κ):(kvs.any fun kv=>decide (kv.1=k))=vs.any fun kv=>decide (kv.1=k):=by
 unfold KV at r
 induction r with
 | nil=>rfl
 | cons h t ih=>rw [acY,acY,ih,h.1]
theorem KV.repl {kvs:List (κ×V)}{vs:List (κ×Value)}(r:KV kvs vs)(k:κ){y:V}{u:Value}(ry:RelV y u) :
 KV (kvs.map fun kv=>if kv.1=k then (kv.1,y) else kv) (vs.map fun kv=>if kv.1=k then (kv.1,u) else kv):=by
 unfold KV at r ⊢
 induction r with
 | nil=>exact .nil
 | @cons p q ps qs h t ih =>
  rw [z4,z4];refine .cons ?_ ih;obtain⟨h1,h2⟩:=h;by_cases e:p.1=k
  ·rw [if_pos e,if_pos (h1.symm.trans e)];exact⟨h1,ry⟩
  ·rw [if_neg e,if_neg (fun z=>e (h1.trans z))];exact⟨h1,h2⟩
theorem KV.put {kvs:List (κ×V)}{vs:List (κ×Value)}(r:KV kvs vs)(k:κ){y:V}{u:Value}(ry:RelV y u):KV (mM kvs k y) (stored vs k u):=by
 unfold mM stored;rw [r.any k];by_cases e:(vs.any fun kv=>decide (kv.1=k))=true
 ·rw [if_pos e,if_pos e];exact r.repl k ry
 ·rw [if_neg e,if_neg e];exact Paired.snoc r ⟨rfl,ry⟩
theorem KV.keys {kvs:List (κ×V)}{vs:List (κ×Value)}(r:KV kvs vs):kvs.map (·.1)=vs.map (·.1):=by
 unfold KV at r
 induction r with
 | nil=>rfl
 | cons h t ih=>rw [z4,z4,ih,h.1]
theorem KV.length {kvs:List (κ×V)}{vs:List (κ×Value)}(r:KV kvs vs):kvs.length=vs.length:=Paired.length r
end
theorem ue {P:Program}{w:World}{k:Key}{u:Value}(r:RelV (kV k) u):(aO P w).is k u=true:=by
 cases k with
 | inl i=>obtain⟨t,e⟩:=(show ∃ t,u=Value.int i t from r);subst e;exact nA P w i t
 | inr x=>obtain⟨t,e⟩:=(show ∃ t,u=Value.str x t from r);subst e;exact ju P w x t
theorem mO {P:Program}{w:World}:∀ {ks:List Key} {us:List Value},Vals (ks.map kV) us->ItemsAre (aO P w) ks us
 | [],_,r=>by rw [adB] at r;cases r;exact .nil
 | k::ks,_,r=>by
  rw [z4] at r;cases r with
  | cons h t=>exact .cons (ue h) (mO t)
abbrev KT (H:Hp):List (List Key×V)->List (List Key×Addr×Value)->Prop:=Paired fun p q=>p.1=q.1/\H q.2.1=some (.tup (p.1.map kV))/\RelV p.2 q.2.2
theorem KT.val {H:Hp}{kvs:List (List Key×V)}{xs:List (List Key×Addr×Value)}(r:KT H kvs xs)(k:List Key):RelO (dw kvs k) ((atKey xs k).map (·.2)):=by
 induction r with
 | nil=>exact True.intro
 | @cons p q ps qs h t ih =>
  obtain⟨h1,_,h2⟩:=h;by_cases e:p.1=k
  ·have e':q.1=k:=h1.symm.trans e;have b:atKey (q::qs) k=some q.2:=by simp [atKey,acw,e']
   rw [ck e,b];exact h2
  ·have e':¬ q.1=k:=fun z=>e (h1.trans z);have b:atKey (q::qs) k=atKey qs k:=by simp [atKey,acw,e']
   rw [cm e,b];exact ih
section
variable {P:Program}{w:World}{H:Hp}{h:Heap}{a:Addr}
theorem xk {u:HO}(ok:HOk P w H h)(e:Rd H a u):ObjOk P w H h a u:=e.ok ok
theorem wk {kvs:List (Key×V)}(ok:HOk P w H h)(e:Rd H a (.dK kvs)):kvs.length<=sizeLine/\(a == sysModules)=false/\∃ vs,KV kvs vs/\h.DictOf (aO P w) a vs :=
 show ObjOk P w H h a (.dK kvs) from xk ok e
theorem i9 {kvs:List (Key×V)}(ok:HOk P w H h)(e:H a=some (.dK kvs)):kvs.length<=sizeLine/\(a == sysModules)=false/\∃ vs,KV kvs vs/\h.DictOf (aO P w) a vs:=wk ok (.inl e)
theorem vH {ks:List Key}(ok:HOk P w H h)(e:H a=some (.tup (ks.map kV))):(tupleKind (aO P w)).is h ks a:=by
 obtain⟨_,its,r,o,h1,h2,n,h3⟩:=(show ObjOk P w H h a (.tup (ks.map kV)) from ok a _ e);exact⟨o,its.toArray,n,h1,h2,h3,by simpa using mO r⟩
theorem xU {kvs:List (List Key×V)}(ok:HOk P w H h)(e:Rd H a (.dT kvs)):kvs.length<=sizeLine/\(a == sysModules)=false ∧
 ∃ xs,KT H kvs xs/\h.DictOfH (tupleKind (aO P w)) a xs:=by
 obtain⟨z,y,xs,r,o,es,ep,h1,h2,h3,h4,h5⟩:=(show ObjOk P w H h a (.dT kvs) from xk ok e);refine⟨z,y,xs,r,o,es,ep,h1,h2,h3,h4,fun x hx=>?_,h5⟩;have all:∀ {l:List (List Key×V)} {m:List (List Key×Addr×Value)},KT H l m->∀ x∈m,(tupleKind (aO P w)).is h x.1 x.2.1:=by
  intro l m q
  induction q with
  | nil=>intro x hx;exact nomatch hx
  | @cons p q ps qs hq t ih =>
   intro x hx;rcases aab.mp hx with e | hx
   ·subst e;exact vH ok (by rw [← hq.1];exact hq.2.1)
   ·exact ih x hx
 exact all r x hx
end
def DGet (H:Hp)(a:Addr)(y:V)(r:Option V):Prop :=
 (∃ kvs k,Rd H a (.dK kvs)/\y=kV k/\r=dw kvs k)\/∃ kvs k b,Rd H a (.dT kvs)/\y=.ref b/\H b=some (.tup (k.map kV))/\r=dw kvs k
theorem DGet.k {H:Hp}{a:Addr}{kvs:List (Key×V)}{k:Key}(e:H a=some (.dK kvs)):DGet H a (kV k) (dw kvs k):=.inl ⟨kvs,k,.inl e,rfl,rfl⟩
section
variable {X:Cx}{pins:List (Addr×Obj)}{σ:St}{H:Hp}{s:Shared}{a:Addr}{y v:V}{u r:Value}{o:Option V}{A:Around}{E:Value->Shared->Prop}
theorem Inv.big (I:Inv X pins σ H s):sysModules < s.heap.objs.size:=by
 have h:mainGlobals < s.heap.objs.size:=(I.mod.glob.keeps I.bk).lt;exact Nat.lt_trans (by decide) h
theorem qP {Q:Value->Shared->Prop}(hu:A.units+1 < cLine)(I:Inv X pins σ H s)(g:DGet H a y (some v))(ry:RelV y u)(h:∀ w' s',Inv X pins σ H s'->RelV v w'->Q w' s') :
 wpAny (model X.prog X.w) A (getItem (.ref a) u) Q E s:=by
 rcases g with ⟨kvs,k,e,ey,l⟩ | ⟨kvs,k,b,e,ey,eb,l⟩
 ·subst ey;obtain⟨z,hd,vs,rel,dd⟩:=wk I.hok e;obtain⟨w',hw,rw'⟩:=RelO.some_of (v:=v) (o:=valueAt vs k) (by rw [l];exact rel.val k);exact wpAny_getItem_of (ue ry) dd.mapOf hw (h w' _ (I.tok _) rw')
 ·subst ey;cases (show u=Value.ref b from ry);obtain⟨z,hd,xs,rel,dd⟩:=xU I.hok e;obtain⟨w',hw,rw'⟩:=RelO.some_of (v:=v) (o:=(atKey xs k).map (·.2)) (by rw [l];exact rel.val k);obtain⟨p,hp,hp2⟩:=acr.mp hw;refine wpAny_getItem_heap (tupleKind_room_in1 hu) (vH I.hok eb) dd hp ?_;rw [hp2];exact h w' _ (I.tok _) rw'
theorem nO {h':Heap}{t':Nat}{ob:HO}(I:Inv X pins σ H s)(mu:Mut (H a))(hs:Heap.SameBut a s.heap h')(he:∃ q,h'.get? a=some q)(new:ObjOk X.prog X.w (upd H a ob) h' a ob) :
 Inv X pins σ (upd H a ob) { s with heap:=h',toks:=t' } :=
 I.write (x:=a) (e:=a) mu (.inl rfl) (fun b q hb z=>(hs.2 b hb).trans z) he new
theorem mT {P:Program}{w:World}{H':Hp}{h':Heap}{kvs:List (Key×V)}{vs:List (Key×Value)}(z:kvs.length<=sizeLine)(hd:(a == sysModules)=false)(rel:KV kvs vs)(dd:h'.DictOf (aO P w) a vs) :
 ObjOk P w H' h' a (.dK kvs):=⟨z,hd,vs,rel,dd⟩
end
section
variable {X:Cx}{pins:List (Addr×Obj)}{σ:St}{H:Hp}{s:Shared}{a:Addr}{kvs:List (Key×V)}{k:Key}{u:Value}{A:Around}{E:Value->Shared->Prop}
theorem wa {Q:Value->Shared->Prop}(I:Inv X pins σ H s)(e:H a=some (.dK kvs))(h:∀ s',Inv X pins σ (upd H a (.dK [])) s'->Q .none s'):wpAny (model X.prog X.w) A (call (.builtin "dict.clear") [.ref a]) Q E s:=by
 obtain⟨z,hd,vs,rel,dd⟩:=i9 I.hok e;refine aeP aev dd.typeIs PySem.F.entry_dict_clear (PySem.F.args_dict_clear_1 _) (meets_dict_clear (aO X.prog X.w) a) ⟨vs,dd,by rw [← rel.length];exact z,fun h' dd' hs=>h _ ?_⟩;have he:∃ q,h'.get? a=some q:=let ⟨q,_,_,hq,_⟩:=dd';⟨q,hq⟩;exact nO (t':=s.toks) I (by rw [e];exact True.intro) hs he (mT (zZ _) hd .nil dd')
end
def zh (i:Expr):Prop:=∀ ov iv,subscripted i false ov iv=operate [ov,iv] (getItem ov iv)
theorem wD {prog:Program}{w:World}{A:Around}{E:Value->Shared->Prop}{s:Shared}{env:Env}{value slice:Expr}{pos:Pos}{T id:String}{Q:Value->Shared->Prop}
 (hl:typeLookup (.type T) "__getitem__" = pure (some (.builtin id)))(hs:zh slice)
 (h:wpAny (model prog w) A (eval value env) (fun o s₁=>wpAny (model prog w) A (eval slice env) (fun i s₂=>s₂.TypeIs o T/\wpAny (model prog w) A (getItem o i) Q E s₂) E s₁) E s) :
 wpAny (model prog w) A (eval (.Subscript value slice pos) env) Q E s:=by
 refine Subscript_ (aaV h (fun o s₁ h₁=>aaV h₁ (fun i s₂ h₂=>?_) fun _ _ x=>x) fun _ _ x=>x);obtain⟨hT,h₂⟩:=h₂;unfold subscriptTail;refine zF ?_;rw [getitemInPython_of_ne hT.not_modules];refine zF (wpAny_specialOf hT hl ?_);have fin:wpAny (model prog w) A (subscripted slice false o i) (fun r s₃=>wpAny (model prog w) A (letTemporaryGo value o r >>= fun _=>pure r) Q E s₃) E s₂:=by
  rw [hs o i];exact wpAny_operating (aaV h₂ (fun r s₃ h₃=>zF (wpAny_letTemporaryGo (zM h₃))) fun _ _ x=>x)
 first
  | exact zM (zF fin)
  | exact zF (zM (zF fin))
  | exact zF fin
theorem oC {X:Cx}{pins:List (Addr×Obj)}{σ:St}{H:Hp}{s:Shared}{a:Addr}{y:V}{o:Option V}(I:Inv X pins σ H s)(g:DGet H a y o):s.TypeIs (.ref a) "dict" := by
 rcases g with ⟨kvs,k,e,_,_⟩ | ⟨kvs,k,b,e,_,_,_⟩
 ·obtain⟨_,_,vs,_,dd⟩:=wk I.hok e;exact dd.typeIs
 ·obtain⟨_,_,xs,_,dd⟩:=xU I.hok e;exact dd.typeIs
def xh (td ty:TE):TE:=fun σ H Q=>td σ H fun x H1=>ty σ H1 fun y H2=>∃ a v,x=.ref a/\DGet H2 a y (some v)/\Q v H2
section
variable {X:Cx}{o i e value:Expr}{pos pos' tpos:Pos}{td ty tv:TE}
theorem hC (hu:X.A.units+1 < cLine)(ho:PE X o td)(hi:PE X i ty)(hs:zh i):PE X (.Subscript o i pos) (xh td ty):=by
 intro pins s σ H Q I h;refine wD PySem.F.slot_dict_getitem.lookup hs (thn (ho pins s σ H _ I h) fun u s1 ⟨x,H1,I1,rx,q1⟩=>thn (hi pins s1 σ H1 _ I1 q1) fun iv s2 ⟨y,H2,I2,ry,a,v,ex,g,q2⟩=>?_);subst ex;obtain rfl:u=Value.ref a:=rx;exact⟨oC I2 g,qP hu I2 g ry fun w' s3 I3 rw'=>⟨v,H2,I3,rw',q2⟩⟩
end
theorem oV {P:Program}{w:World}{H:Hp}(h:Heap)(hb:sysModules < h.objs.size):ObjOk P w H (h.push { cls:=.type "dict",data:=.dict #[] }) h.objs.size (.dK []) :=
 ⟨zZ _,ab4.mpr (aaA (zY hb)),[],.nil,Heap.DictOf.new h⟩
def xT:TE:=fun _ H Q=>∀ p,H p=none->Q (.ref p) (upd H p (.dK []))
section
variable {X:Cx}{pos:Pos}
theorem pX:PE X (.Dict [] [] pos) xT:=fun pins s σ H Q I h =>
 wpAny_Dict_empty ⟨.ref s.heap.objs.size,_,I.laid (a:=s.heap.objs.size) (o:=.dK []) (t':=s.toks) (fun _ _ q=>zK _ q) (zP _) (oV s.heap I.big),rfl,h _ (I.hok.fresh (zP _))⟩
end
structure M1 (X:Cx)(o:Expr)(m:Str)(apos:Pos)(e:Expr)(cpos:Pos):Prop where
 base:attributeBase o m X.env (eval o X.env)=eval o X.env
 few:((backTo cpos (starEach [e] X.env)).all (fun x=>!x.1) && (backToKw cpos (keywordEach [] X.env)).all (fun x=>x.1.isSome)
  && decide (([e]:List Expr).length+([]:List Keyword).length+(if ([]:List Keyword).isEmpty then 0 else 1) < 30))=true
 line:(apos.endLine == cpos.line)=true
 trees:backTo cpos (starEach [e] X.env)=[(false,eval e X.env)]
structure M2 (X:Cx)(o:Expr)(m:Str)(apos:Pos)(e f:Expr)(cpos:Pos):Prop where
 base:attributeBase o m X.env (eval o X.env)=eval o X.env
 few:((backTo cpos (starEach [e,f] X.env)).all (fun x=>!x.1) && (backToKw cpos (keywordEach [] X.env)).all (fun x=>x.1.isSome)
  && decide (([e,f]:List Expr).length+([]:List Keyword).length+(if ([]:List Keyword).isEmpty then 0 else 1) < 30))=true
 line:(apos.endLine == cpos.line)=true
 trees:backTo cpos (starEach [e,f] X.env)=[(false,eval e X.env),(false,eval f X.env)]
section
variable {X:Cx}{pins:List (Addr×Obj)}{σ:St}{H:Hp}{s:Shared}{a:Addr}{y d:V}{u r:Value}{o:Option V}{A:Around}{E:Value->Shared->Prop}
end
section
variable {X:Cx}{o e f:Expr}{apos cpos:Pos}{td ty tx:TE}
end
section
variable {X:Cx}{pins:List (Addr×Obj)}{σ:St}{H:Hp}{s:Shared}{a:Addr}{kvs:List (Key×V)}{A:Around}{E:Value->Shared->Prop}
end
section
variable {X:Cx}{pins:List (Addr×Obj)}{σ:St}{H:Hp}{s:Shared}{a:Addr}{y:V}{u:Value}{A:Around}{E:Value->Shared->Prop}
end
def nU (env:Env):List (Str×NameKind)->List (Str×Addr)->List (Str×Addr)
 | [],cs=>cs
 | (n,k)::r,cs=>nU env r (if k=.free then (n,(env.cells.lookup n).getD 0)::cs else cs)
theorem tX {env:Env}:∀ (ns:List (Str×NameKind)) (cs:List (Str×Addr)),(∀ x∈ns,x.2=.free->∃ c,env.cells.lookup x.1=some c) →
 (forIn (m:=Sem) ns cs fun (x:Str×NameKind) (r:List (Str×Addr))=>(if (x.2 == .free)=true then (do let a ← cellOf env x.1;pure (ForInStep.yield ((x.1,a)::r))) else pure (ForInStep.yield r)))=pure (nU env ns cs)
 | [],cs,_=>by simp [nU]
 | (n,k)::r,cs,h=>by
  have ih:=fun cs=>tX r cs fun x hx=>h x (z8 _ hx);rw [abY];by_cases hk:k=.free
  ·subst hk;obtain⟨c,hc⟩:=h (n,.free) z7 rfl;have e1:cellOf env n=pure c:=by unfold cellOf;rw [hc]
   have hb:(NameKind.free == NameKind.free)=true:=rfl;simp only [hb,acK,e1,pure_bind,nU,hc,aeG];exact ih _
  ·have hb:(k == NameKind.free)=false:=by simpa using hk
   simp only [hb,aaf,abq,pure_bind,nU,if_neg hk];exact ih _
theorem oY {env:Env}:∀ (ns:List (Str×NameKind)) (cs:List (Str×Addr)) (x:Str) (c:Addr),(∀ x∈ns,x.2=.free->∃ c,env.cells.lookup x.1=some c)->(nU env ns cs).lookup x=some c->cs.lookup x=some c\/env.cells.lookup x=some c
 | [],cs,x,c,_,e=>.inl e
 | (n,k)::r,cs,x,c,h,e=>by
  have ih:=oY r (if k=.free then (n,(env.cells.lookup n).getD 0)::cs else cs) x c (fun x hx=>h x (z8 _ hx)) e;rcases ih with ih | ih
  ·by_cases hk:k=.free
   ·subst hk;rw [if_pos rfl] at ih;obtain⟨d,hd⟩:=h (n,.free) z7 rfl;have hd':env.cells.lookup n=some d:=hd;rw [hd'] at ih;rw [adD] at ih;cases hx:x == n with
    | true =>
     rw [hx] at ih;have:x=n:=by simpa using hx
     subst this;right;rw [hd'];exact ih
    | false =>
     rw [hx] at ih;exact .inl ih
   ·rw [if_neg hk] at ih;exact .inl ih
  ·exact .inr ih
theorem nh {env:Env}:∀ (ns:List (Str×NameKind)) (cs:List (Str×Addr)) (x:Str),(∃ c,cs.lookup x=some c)->∃ c,(nU env ns cs).lookup x=some c
 | [],_,_,h=>h
 | (n,k)::r,cs,x,h=>by
  refine nh r _ x ?_;split
  ·rw [adD];split
   ·exact⟨_,rfl⟩
   ·exact h
  ·exact h
theorem lh {env:Env}:∀ (ns:List (Str×NameKind)) (cs:List (Str×Addr)) (x:Str),(x,NameKind.free)∈ns->∃ c,(nU env ns cs).lookup x=some c
 | [],_,_,h=>nomatch h
 | (n,k)::r,cs,x,h=>by
  rcases aab.mp h with e | h
  ·cases e;refine nh r _ _ ⟨(env.cells.lookup n).getD 0,?_⟩;rw [if_pos rfl,adD,abN]
  ·exact lh r _ x h
theorem jW {scope:Scope}{env:Env}(h:∀ x∈scope.names,x.2=.free->∃ c,env.cells.lookup x.1=some c):closureFor scope env=pure (nU env scope.names []):=by
 have e:=tX scope.names [] h;unfold closureFor;simp only [] at e ⊢;rw [e]
 rfl
theorem iX {scope:Scope}{env:Env}{x:Str}{k:NameKind}:(relabel scope env).names.lookup x=some k->∃ k',(x,k')∈scope.names/\(k=k'\/(k'=.free/\k=.cell)):=by
 intro h;have all:∀ (ns:List (Str×NameKind)),(ns.map fun (n,k)=>if (k == NameKind.free && env.scope.kind == .function && env.kindOf n == some .cell) then (n,NameKind.cell) else (n,k)).lookup x=some k->∃ k',(x,k')∈ns/\(k=k'\/(k'=.free/\k=.cell)):=by
  intro ns
  induction ns with
  | nil=>intro h;simp at h
  | cons y r ih =>
   obtain⟨n,k'⟩:=y;intro h;rw [z4,adD] at h;by_cases hc:(k' == NameKind.free && env.scope.kind == .function && env.kindOf n == some .cell)=true
   ·simp only [hc,acK] at h;cases hx:x == n with
    | true =>
     rw [hx] at h;have e:x=n:=by simpa using hx
     subst e;have hk:k'=.free:=by
      simp only [aa8] at hc;simpa using hc.1.1
     exact⟨k',z7,.inr ⟨hk,(aai h).symm⟩⟩
    | false =>
     rw [hx] at h;obtain⟨k2,h1,h2⟩:=ih h;exact⟨k2,z8 _ h1,h2⟩
   ·simp only [hc,aaf,abq] at h;cases hx:x == n with
    | true =>
     rw [hx] at h;have e:x=n:=by simpa using hx
     subst e;exact⟨k',z7,.inl (aai h).symm⟩
    | false =>
     rw [hx] at h;obtain⟨k2,h1,h2⟩:=ih h;exact⟨k2,z8 _ h1,h2⟩
 exact all scope.names h
def Cx.comp (X:Cx)(scope:Scope)(N':List Str)(C:Addr)(fp:List Addr)(s₀:Shared)(H₀:Hp):Cx :=
 { X with N:=N',s₀:=s₀,H₀:=H₀,env:=compEnvC scope (nU X.env scope.names []) C X.env,outer:=X.stack,stack:=X.stack,ex:=fp,fn:=fun _=>false,pn:=[],xe:=fun _ _=>False }
structure CompScope (X:Cx)(scope:Scope):Prop where
 kind:scope.kind=.function
 nocell:∀ x∈scope.names,x.2≠.cell
 loc:∀ x∈scope.names,x.2=.local->scope.names.lookup x.1=some .local
 free:∀ x∈scope.names,x.2=.free->X.env.kindOf x.1=some .cell
section
variable {X:Cx}{pins:List (Addr×Obj)}{σ:St}{H:Hp}{s:Shared}{scope:Scope}{N':List Str}{fp:List Addr}
theorem CompScope.cells (S:CompScope X scope)(ok:X.Ok):∀ x∈scope.names,x.2=.free->∃ c,X.env.cells.lookup x.1=some c:=fun x hx hk=>ok.has x.1 (.inl (S.free x hx hk))
theorem CompScope.sub (S:CompScope X scope)(ok:X.Ok){x:Str}{c:Addr}(e:(nU X.env scope.names []).lookup x=some c):X.env.cells.lookup x=some c:=by
 rcases oY scope.names [] x c (S.cells ok) e with h | h
 ·cases h
 ·exact h
theorem CompScope.ok (S:CompScope X scope)(I:Inv X pins σ H s)(hf:∀ b∈fp,mj X pins H b)(ho:∀ b∈fp,b < s.heap.objs.size):(X.comp scope N' s.heap.objs.size fp s H).Ok where
 mod:=I.ok.mod
 kind:=S.kind
 glob:=I.ok.glob
 blt:=I.ok.blt
 above:=zP _
 inj:=fun x y c e1 e2=>I.ok.inj x y c (S.sub I.ok e1) (S.sub I.ok e2)
 has:=fun x hx=>by
  have hx':(relabel scope X.env).names.lookup x=some .cell\/(relabel scope X.env).names.lookup x=some .free:=hx;have fr:(x,NameKind.free)∈scope.names:=by
   rcases hx' with h | h
   ·obtain⟨k',h1,h2⟩:=iX h;rcases h2 with h2 | ⟨h2,_⟩
    ·subst h2;exact absurd rfl (S.nocell _ h1)
    ·subst h2;exact h1
   ·obtain⟨k',h1,h2⟩:=iX h;rcases h2 with h2 | ⟨h2,h3⟩
    ·subst h2;exact h1
    ·cases h3
  exact lh scope.names [] x fr
 cab:=fun x c h _=>by cases h
 hd:=I.ok.hd
 frames:=I.ok.frames
 stk:=.inl rfl
 exf:=fun b hb=>⟨zY (ho b hb),fun x c e=>(hf b hb).2.2.2.2.1 x c (S.sub I.ok e)⟩
 bs:=I.bs
 bsz:=aas I.ok.bsz I.sz
 noex:=fun b o e hb=>by
  rcases (hf b hb).2.2.2.1 with h | h
  ·exact I.ok.noex b o e h
  ·exact absurd (zX (zN e) (aas I.ok.bsz h)) (abp _)
 exfs:=fun b hb hs=>by
  rcases aab.mp (I.stkSub b hs) with h | h
  ·exact (hf b hb).2.1 h
  ·exact (hf b hb).2.2.1 h
 funs:=I.stack
 frf:=I.stkFree
def fV (nl:Nat)(ix:List Nat)(σ:St):St:=List.replicate nl none++ix.map fun j=>(σ[j]?).join
structure yh (X:Cx)(scope:Scope)(N':List Str)(nl:Nat)(ix:List Nat):Prop where
 len:N'.length=nl+ix.length
 at':∀ (k j:Nat),ix[k]? = some j->∃ x,X.N[j]? = some x/\N'[nl+k]? = some x/\X.env.kindOf x=some .cell/\(relabel scope X.env).names.lookup x=some .cell/\(x,NameKind.free)∈scope.names
theorem pF {nl:Nat}{ix:List Nat}{h1:Heap}{tk:Nat}(S:CompScope X scope)(Cp:yh X scope N' nl ix)(I:Inv X pins σ H s)(hf:∀ b∈fp,mj X pins H b)(ho:∀ b∈fp,b < s.heap.objs.size)
 (hn:h1.Ns s.heap.objs.size (fun _=>none))(hk:∀ b o,s.heap.get? b=some o->h1.get? b=some o):Inv (X.comp scope N' s.heap.objs.size fp s H) [] (fV nl ix σ) H { s with heap:=h1,toks:=tk }:=by
 have ok:=S.ok (N':=N') I hf ho;refine⟨ok,rfl,I.bare,Un.kept hk,⟨_,hn,fun i x v e1 e2 e3=>?_⟩,fun x c e=>?_,I.hok.fresh (zP _),fun x c e=>I.freeC x c (S.sub I.ok e),fun p hp=>by simp [Cx.comp] at hp,I.hok.kept hk,?_⟩
 ·unfold fV at e2;rw [List.getElem?_append] at e2;split at e2
  ·rw [acX] at e2;split at e2<;>simp at e2
  ·rename_i hi;rw [aaH] at hi e2;rw [zT] at e2;cases ej:ix[i - nl]? with
   | none=>rw [ej] at e2;simp at e2
   | some j =>
    rw [ej] at e2;have e2':(σ[j]?).join=some v:=by simpa using e2
    have e2'':σ[j]? = some (some v):=by
     cases q:σ[j]? with
     | none=>rw [q] at e2';simp at e2'
     | some z=>rw [q] at e2';simp at e2';rw [e2']
    obtain⟨x',a1,a2,a3,a4,a5⟩:=Cp.at' _ _ ej;have hi2:nl+(i - nl)=i:=by lia
    rw [hi2] at a2;have e1':N'[i]? = some x:=e1;rw [a2] at e1';cases e1';obtain⟨m,hm,hl⟩:=I.loc;obtain⟨u,r,l⟩:=hl j x v a1 e2'' (.inr (.inl a3));refine⟨u,r,?_⟩;rcases l with ⟨k,_⟩ | ⟨_,c,ec,z⟩
    ·rw [k] at a3;cases a3
    ·obtain⟨c',hc'⟩:=lh (env:=X.env) scope.names [] x a5;have ec':=S.sub I.ok hc';rw [ec] at ec';cases ec';obtain⟨o,ho',hd⟩:=z;exact .inr ⟨.inl a4,c,hc',o,hk _ _ ho',hd⟩
 ·obtain⟨v,o,ho',hd⟩:=I.cell x c (S.sub I.ok e);exact⟨v,o,hk _ _ ho',hd⟩
 ·show (fV nl ix σ).length=N'.length;unfold fV;rw [zH,aaH,zL,Cp.len]
theorem m4 {H':Hp}{σ':St}{pins':List (Addr×Obj)}{s':Shared}{h':Heap}(I:Inv X pins σ H s)(hf:∀ b∈fp,mj X pins H b)
 (I':Inv (X.comp scope N' s.heap.objs.size fp s H) pins' σ' H' s')(hs:Heap.SameBut s.heap.objs.size s'.heap h'):Inv X pins σ H' { s' with heap:=h' }:=by
 have lo:∀ b o,s.heap.get? b=some o->b≠s.heap.objs.size:=fun b o e=>zY (zN e);have B:=I'.base;refine I.call' (ch:=fp) (show s'.os=s.os from I'.os) ⟨fun b o e n hb hx=>?_,fun b o e n hb hx=>?_,fun b o e n hx=>B.free b o e n hx,fun b o e hx=>?_,B.tups,B.frzs,B.tbls⟩ (fun b u e=>?_) I'.bare fun b hb=>⟨(hf b hb).2.2.2.1,(hf b hb).2.1,(hf b hb).2.2.2.2.1,(hf b hb).2.2.2.2.2⟩
 ·exact (hs.2 b (lo b o e)).trans (B.keep b o e n hb hx)
 ·obtain⟨sl,q⟩:=B.slot b o e n hb hx;exact⟨sl,(hs.2 b (lo b o e)).trans q⟩
 ·obtain⟨o',q⟩:=B.there b o e hx;exact⟨o',(hs.2 b (lo b o e)).trans q⟩
 ·have nl:H' s.heap.objs.size=none:=I'.free;refine (I'.hok b u e).stay (fun c v hc q=>(hs.2 c ?_).trans q) (fun _ q=>q) fun _ _ q=>q;rintro rfl;rcases hc with z | z
  ·rw [← z,nl] at e;cases e
  ·rw [nl] at z;cases z
end
def PIf (X:Cx)(ifs:List Expr)(t:TT):Prop :=
 ∀ (pins:List (Addr×Obj)) (s:Shared) (σ:St) (H:Hp) (Q:Bool->Hp->Prop),Inv X pins σ H s->t σ H Q →
  wpAny (model X.prog X.w) X.A (forIn ifs true fun c r=>if r=true then do let ok ← isTrue c X.env (eval c X.env);pure (ForInStep.yield ok) else pure (ForInStep.yield r)) (TP X pins σ Q) X.xe s
def qD:TT:=fun _ H Q=>Q true H
theorem bX {X:Cx}:PIf X [] qD:=fun _ _ _ H _ I h=>wpAny_tests_nil ⟨H,I,h⟩
section
variable {prog:Program}{w:World}{A:Around}{R:Result->Shared->Prop}{s:Shared}
theorem qa {elt target iter:Expr}{ifs:List Expr}{scope:Scope}{pos:Pos}{it acc:Value}{env:Env}(I:Nat->Shared->Prop)
 (turn:∀ n s,I n s->wpAny (model prog w) A (pyNext it) (fun r s₁=>match r with
  | none=>R (.ok .next) s₁
  | some v=>wpAny (model prog w) A (letOwnedTupleGo target it v) (fun _ s₁'=>wpAny (model prog w) A (assign target env v) (fun _ s₂ =>
   wpAny (model prog w) A (forIn ifs true fun c r=>if r=true then do let ok ← isTrue c env (eval c env);pure (ForInStep.yield ok) else pure (ForInStep.yield r)) (fun ok s₃ =>
    if ok=true then wpAny (model prog w) A (eval elt env) (fun x s₄ =>
     wpAny (model prog w) A (call (.builtin "list.append") [acc,x]) (fun _ s₅=>∃ m,m < n/\I m s₅) (fun _ _=>False) s₄) (fun _ _=>False) s₃
    else ∃ m,m < n/\I m s₃) (fun _ _=>False) s₂) (fun _ _=>False) s₁') (fun _ _=>False) s₁) (fun _ _=>False) s)
 (n:Nat)(h:I n s) :
 codeAny (model prog w) A (.compLoop (.ListComp elt [⟨target,iter,ifs,0⟩] scope pos) 0 it acc env) R s:=by
 have no:∀ {E:Value->Shared->Prop} (x:Value) (s:Shared),False->E x s:=fun _ _ z=>z.elim;refine codeAny_loop rfl I (fun n s hI=>?_) n h;show wpAny _ A ((compTurn (.ListComp elt [⟨target,iter,ifs,0⟩] scope pos) 0 it acc env).onRaise (fun x=>do noteFrame x env;theTreesLotGoes x)) _ _ s;refine wpAny_noted ?_;rw [compTurn_list];refine zF (aet (zF (aaV (turn n s hI) (fun r s₁ h₁=>?_) no)));cases r with
 | none=>exact zM h₁
 | some v =>
  refine zF (aaV h₁ (fun _ s₁' h₁'=>zF (aaV h₁' (fun _ s₂ h₂=>zF (aaV h₂ (fun ok s₃ h₃=>?_) no)) no)) no);cases ok with
  | false=>exact zM ⟨rfl,h₃⟩
  | true =>
   exact zF (zF (aaV h₃ (fun x s₄ h₄=>zF (aaV h₄ (fun _ s₅ h₅=>zM (zM ⟨rfl,h₅⟩)) no)) no))
end
def oK (nl:Nat)(ix:List Nat)(wi:TI)(g:TG)(tf:TT)(te:TE):TE:=fun σ H Q=>wi σ H fun J H1=>∀ D,H1 D=none->∃ W:Nat->Nat->List V->Hp->Prop,(∃ m,W 0 m [] (upd H1 D (.lst []))) ∧
 ∀ i m ys H2,W i m ys H2->H2 D=some (.lst ys)/\((J.stop i H2/\Q (.ref D) H2)\/(J.go i H2/\∀ x H3,J.yld i H2 x H3->g x (fV nl ix σ) H3 fun σ4 H4=>(σ4.length=(fV nl ix σ).length/\σ4.drop nl=ix.map fun j=>(σ[j]?).join)/\tf σ4 H4 fun b H5 =>
  if b=true then te σ4 H5 fun y H6=>H6 D=some (.lst ys)/\ys.length < sizeLine/\∃ m',m' < m/\W (i+1) m' (ys++[y]) (upd H6 D (.lst (ys++[y]))) else ∃ m',m' < m/\W (i+1) m' ys H5))
theorem mX {X:Cx}{pins:List (Addr×Obj)}{σ σ4:St}{H:Hp}{s:Shared}{nl:Nat}{ix:List Nat}(I:Inv X pins σ4 H s)(hl:σ4.length=(fV nl ix σ).length)(hd:σ4.drop nl=ix.map fun j=>(σ[j]?).join):Inv X pins (fV nl ix σ) H s:=by
 refine I.weak hl.symm fun i v e=>?_;unfold fV at e;rw [List.getElem?_append] at e;split at e
 ·rw [acX] at e;split at e<;>simp at e
 ·rename_i hi;rw [aaH] at hi e;rw [← hd,List.getElem?_drop] at e;have hi2:nl+(i - nl)=i:=by lia
  rw [hi2] at e;exact e
section
variable {X:Cx}
theorem eK {elt tg iter:Expr}{ifs:List Expr}{scope:Scope}{pos:Pos}{N':List Str}{nl:Nat}{ix:List Nat}{wi:TI}{g:TG}{tf:TT}{te:TE}(hc:X.calm=true)(S:CompScope X scope)(Cp:yh X scope N' nl ix)(hi:PI X tg iter wi)
 (hg:∀ C fp s₀ H₀,PG (X.comp scope N' C fp s₀ H₀) tg g)(hf:∀ C fp s₀ H₀,PIf (X.comp scope N' C fp s₀ H₀) ifs tf)(he:∀ C fp s₀ H₀,PE (X.comp scope N' C fp s₀ H₀) elt te)
 (hs:∀ x,foldedSetIterable iter X.env x=pure x:=by intro _;rfl):PE X (.ListComp elt [⟨tg,iter,ifs,0⟩] scope pos) (oK nl ix wi g tf te):=by
 intro pins s σ H Q I h;rw [eval_ListComp];refine wpAny_comprehension_free (use:=none) (cl:=nU X.env scope.names []) rfl hs (jW (S.cells I.ok)) S.kind S.loc ?_;refine thn (hi pins s σ H _ I h) fun v s1 h1=>thn h1 fun itv s2 h2=>?_;obtain⟨it,fp,tn,J,H2,rfl,I2,T,st2,f2,h2⟩:=h2;obtain⟨W,⟨m0,w0⟩,turn⟩:=h2 s2.heap.objs.size I2.fresh;refine abm (wpAny_newFunctionEnv S.nocell (by intro y hy;simp at hy) (fun h₁ hns₁ hsb₁=>?_) S.kind);dsimp only at hns₁ hsb₁ ⊢;have fpo:∀ b∈fp,b < s2.heap.objs.size:=fun b hb=>by
  obtain⟨o,e,_⟩:=T.obj 0 _ st2 b hb;exact zN e
 have I3:Inv X pins σ (upd H2 s2.heap.objs.size (.lst [])) { s2 with heap:=s2.heap.push { cls:=.type "list",data:=.seq ([]:List Value).toArray },toks:=s2.toks }:=I2.lnew .nil (zZ _);have hD:(upd H2 s2.heap.objs.size (.lst [])) s2.heap.objs.size=some (.lst []):=af;have f3:∀ b∈fp,mj X pins (upd H2 s2.heap.objs.size (.lst [])) b:=fun b hb=>by
  refine⟨?_,(f2 b hb).2⟩;rw [ai (zY (fpo b hb))];exact (f2 b hb).1
 generalize hS3:s2.heap.push { cls:=.type "list",dict:=none,data:=.seq ([]:List Value).toArray }=g3 at hns₁ hsb₁ I3 ⊢;have sz3:g3.objs.size=s2.heap.objs.size+1:=by rw [← hS3,abj]
 have fpo3:∀ b∈fp,b < ({ s2 with heap:=g3,toks:=s2.toks }:Shared).heap.objs.size:=fun b hb=>by
  show b < g3.objs.size;rw [sz3];exact aaM (fpo b hb)
 have old:∀ b o,g3.get? b=some o->h₁.get? b=some o:=fun b o e=>hsb₁.extBut b o (zY (zN e)) (zK _ e);have I4:=pF (tk:=s2.toks+([]:List (Str×Value)).length) S Cp I3 f3 fpo3 hns₁ old;generalize hX:X.comp scope N' g3.objs.size fp { s2 with heap:=g3,toks:=s2.toks } (upd H2 s2.heap.objs.size (.lst []))=X' at *;have hPr:X'.prog=X.prog:=by rw [← hX];rfl
 have hWr:X'.w=X.w:=by rw [← hX];rfl
 have hKr:X'.K=X.K:=by rw [← hX];rfl
 have hAr:X'.A=X.A:=by rw [← hX];rfl
 have hCa:X'.calm=true:=by rw [← hX];exact hc
 have hXe:X'.xe=fun _ _=>False:=by rw [← hX];rfl
 have hEx:X'.ex=fp:=by rw [← hX];rfl
 have hPn:X'.pn=[]:=by rw [← hX];rfl
 have hLo:X'.env.locals=g3.objs.size:=by rw [← hX];rfl
 have hEn:X'.env=compEnvC scope (nU X.env scope.names []) g3.objs.size X.env:=by rw [← hX];rfl
 have hg':=hg g3.objs.size fp { s2 with heap:=g3,toks:=s2.toks } (upd H2 s2.heap.objs.size (.lst []));have hf':=hf g3.objs.size fp { s2 with heap:=g3,toks:=s2.toks } (upd H2 s2.heap.objs.size (.lst []));have he':=he g3.objs.size fp { s2 with heap:=g3,toks:=s2.toks } (upd H2 s2.heap.objs.size (.lst []));rw [hX] at hg' hf' he';have I4':Inv X' [] (fV nl ix σ) (upd H2 s2.heap.objs.size (.lst [])) { s2 with heap:=h₁,toks:=s2.toks+([]:List (Str×Value)).length }:=I4;have back:∀ {H':Hp} {σ':St} {pins':List (Addr×Obj)} {s':Shared} {h':Heap},Inv X' pins' σ' H' s'->Heap.SameBut g3.objs.size s'.heap h'->Inv X pins σ H' { s' with heap:=h' }:=fun I' sb=>by
  subst hX;exact m4 I3 f3 I' sb
 have stat:∀ {H':Hp},(∀ b∈fp,H' b=none)->∀ b∈fp,mj X' [] H' b:=fun hn b hb=>by
  refine⟨hn b hb,?_,?_,.inl (by rw [hEx];exact hb),?_,fun p hp=>by rw [hPn] at hp;cases hp⟩
  ·rw [hLo];exact zY (fpo3 b hb)
  ·exact I4'.ok.exfs b (by rw [hEx];exact hb)
  ·exact (I4'.ok.exf b (by rw [hEx];exact hb)).2
 have loop:codeAny (model X.prog X.w) X.A (.compLoop (.ListComp elt [⟨tg,iter,ifs,0⟩] scope pos) 0 (.ref it) (.ref s2.heap.objs.size) X'.env)
  (compPost (model X.prog X.w) X.A X.xe none (EP X pins σ Q) (.ref s2.heap.objs.size) g3.objs.size) { s2 with heap:=h₁,toks:=s2.toks+([]:List (Str×Value)).length }:=by
  rw [← hPr,← hWr,← hAr];refine qa (fun n s'=>∃ i ys H',Inv X' [] (fV nl ix σ) H' s'/\tn i s'.heap/\(∀ b∈fp,H' b=none)/\W i n ys H') ?_ m0
   ⟨0,[],_,I4',T.keep _ _ _ st2 (fun b hb o e=>old b o (by rw [← hS3];exact zK _ e)),fun b hb=>(f3 b hb).1,w0⟩
  rintro n s5 ⟨i,ys,H5,I5,st5,fr5,w5⟩;obtain⟨hD5,alt⟩:=turn i n ys H5 w5;rcases alt with ⟨stop,qn⟩ | ⟨go,step⟩
  ·rw [hPr,hWr];refine thn (T.done X' hPr hWr hKr hCa i [] s5 _ H5 _ I5 (stat fr5) st5 stop) fun r s6 ⟨hr,I6⟩=>?_;subst hr;obtain⟨m,hn,_⟩:=I6.loc;rw [hLo] at hn;exact⟨m,hn,fun h' sb=>⟨.ref s2.heap.objs.size,H5,back I6 sb,rfl,qn⟩⟩
  ·have it5:=T.item X' hPr hWr hKr hCa i [] s5 _ H5 (fun _ _=>False) I5 (stat fr5) st5 go;rw [← hPr,← hWr] at it5;refine thn it5 fun r s6 ⟨u,hr,h6⟩=>?_;subst hr;refine thn h6 fun _ s7 ⟨x,H7,I7,r7,y7,st7,fr7⟩=>?_;have I7':=I7.pinned (stat fr7) (T.obj _ _ st7);have g7:=hg' _ s7 _ H7 x u _ I7' r7 (step x H7 y7);rw [hXe] at g7;refine thn g7 fun _ s8 ⟨σ8,H8,I8,⟨hl8,hd8⟩,q8⟩=>?_;have f8:=hf' _ s8 σ8 H8 _ I8 q8;rw [hXe] at f8;refine thn f8 fun ok s9 ⟨H9,I9,q9⟩=>?_;have again:∀ {H10:Hp} {s10:Shared} {ys':List V},Inv X' ([]++j6 fp s7.heap) σ8 H10 s10->(∃ m',m' < n/\W (i+1) m' ys' H10)->∃ m,m < n/\∃ i ys H',Inv X' [] (fV nl ix σ) H' s10/\tn i s10.heap/\(∀ b∈fp,H' b=none)/\W i m ys H':=fun {H10 s10 ys'} I10 ⟨m',hm,w'⟩=>by
    refine⟨m',hm,i+1,ys',H10,mX I10.unpinned hl8 hd8,T.keep _ _ _ st7 fun b hb o e=>(I10.pin (b,o) (aaa _ (aaa _ (dq hb e)))).1,fun b hb=>?_,w'⟩;obtain⟨o,e,d⟩:=T.obj _ _ st7 b hb;exact (I10.pin (b,o) (aaa _ (aaa _ (dq hb e)))).2.1
   cases ok with
   | false =>
    rw [if_neg zO] at q9 ⊢;exact again I9 q9
   | true =>
    rw [if_pos rfl] at q9 ⊢;have e9:=he' _ s9 σ8 H9 _ I9 q9;rw [hXe] at e9;refine thn e9 fun xv s10 ⟨y,H10,I10,r10,hD10,hz,mw⟩=>?_;have a10:=cO (X:=X') _ s10 σ8 H10 (.ref s2.heap.objs.size) [y] _ [xv] (fun _ H'=>H'=upd H10 s2.heap.objs.size (.lst (ys++[y]))) I10 rfl (.cons r10 .nil) ⟨_,ys,y,rfl,rfl,hD10,hz,rfl⟩;rw [hXe] at a10;refine thn a10 fun _ s11 ⟨_,H11,I11,_,e11⟩=>?_;subst e11;exact again I11 mw
 rw [hEn] at loop;exact codeAny_compStart_list loop (T.self _ 0 _ _ _ (T.keep _ _ _ st2 (fun b hb o e=>old b o (by rw [← hS3];exact zK _ e))) loop)
theorem cS:∀ {ss:List Str} {us:List Value},Vals (ss.map V.str) us->StrsAre us ss
 | [],_,.nil=>.nil
 | _::_,_,.cons r t=>by
  obtain⟨k,rfl⟩:=r;exact .cons _ k (cS t)
theorem dt:∀ {ss:List Str} {us:List Value},StrsAre us ss->Vals (ss.map V.str) us
 | _,_,.nil=>.nil
 | _,_,.cons y t h=>.cons ⟨t,rfl⟩ (dt h)
theorem oZ:∀ bs:List Bool,(List.range bs.length).all (fun i=>bs.getD i false)=bs.all id
 | []=>rfl
 | b::r=>by
  rw [aaq,List.range_succ_eq_map,aeu,af9,aeu,← oZ r]
  rfl
theorem lJ (hc:X.calm=true):d8 X (.builtin "all") (fun xs H Q=>∃ (p:Addr) (bs:List Bool),xs=[.ref p]/\SqL X.K H p (bs.map V.bl)/\Q (.bl (bs.all id)) H):=by
 intro pins s σ H xs us Q I r h;obtain⟨p,bs,rfl,hq,q⟩:=h;obtain⟨u,rfl,rx⟩:=gT r;cases rx;obtain⟨its,rv,pl,hz⟩:=I.list hq;have hh:X.A.in1.handled=none:=I.ok.hd hc;have hlt:p < s.heap.objs.size:=by obtain⟨o,e,_⟩:=pl.isList;exact zN e
 have hlen:=rv.length;rw [zL] at hlen;refine call_all_walk (adn pl.isList ?_);refine⟨s.heap.objs.size,_,_,_,_,_,fun i=>bs.getD i false,rfl,Walks.list hh s.heap.objs.size p (zY hlt) its.toArray,⟨⟨_,zW _ rfl,rfl,rfl⟩,pl.isList.push _⟩,fun i v s' Q' E' hv hq'=>?_,fun h' tk hk=>?_⟩
 ·have hv':its[i]? = some v:=by simpa using hv
  have hi:i < its.length:=(zJ.mp hv').1;have hb:bs[i]? = some (bs.getD i false):=by
   rw [aa5];rw [zG (by lia)]
   rfl
  obtain⟨u,hu,ru⟩:=rv.get (i:=i) (x:=.bl (bs.getD i false)) (by rw [zT,hb];rfl);rw [hv'] at hu;cases hu;cases ru;exact abd hq'
 ·have e:(List.range its.toArray.size).all (fun i=>bs.getD i false)=bs.all id:=by
   rw [z5,← hlen,oZ]
  rw [e];refine⟨.bl _,H,?_,rfl,q⟩;refine (I.kept (t':=s.toks) (h':=s.heap.push { cls:=.type "list_iterator",data:=.fields #[.ref p,.int 0 0] }) fun b o e=>zK _ e).turned (it:=s.heap.objs.size) (t':=tk) (h':=h') (fun b o hb e=>hk b o (by simpa using hb) e) I.fresh (aaz I.lt) (.inr I.sz) (fun x c e z=>?_) fun p' hp z=>?_
  ·obtain⟨v,q⟩:=I.cell x c e;exact absurd (z▸q.lt) (abp _)
  ·exact absurd (z▸zN (I.pin p' hp).1) (abp _)
theorem uT (hc:X.calm=true):d8 X (.builtin "sum") (fun xs H Q=>∃ (p:Addr) (ns:List Int),xs=[.ref p]/\SqL X.K H p (ns.map V.int)/\(∀ n∈ns,0<=n/\n<=1000000)/\ns.length<=1000000/\Q (.int ns.sum) H):=by
 intro pins s σ H xs us Q I r h;obtain⟨p,ns,rfl,hq,hb,hl,q⟩:=h;obtain⟨u,rfl,rx⟩:=gT r;cases rx;obtain⟨its,rv,pl,hz⟩:=I.list hq;have hh:X.A.in1.handled=none:=I.ok.hd hc;have hlt:p < s.heap.objs.size:=by obtain⟨o,e,_⟩:=pl.isList;exact zN e
 have hlen:=rv.length;rw [zL] at hlen;have hbd:∀ i,0<=ns.getD i 0/\ns.getD i 0<=1000000:=fun i=>by
  rw [aa5];cases e:ns[i]? with
  | none=>simp
  | some z=>exact hb z (aac e)
 have hpre:∀ j:Nat,0<=preSum (fun i=>ns.getD i 0) j/\preSum (fun i=>ns.getD i 0) j<=1000000 * (j:Int):=fun j=>by
  induction j with
  | zero=>simp [preSum]
  | succ j ih =>
   have:=hbd j;simp only [preSum];lia
 refine call_sum_walk (adn pl.isList ?_);refine⟨s.heap.objs.size,_,_,_,_,_,fun i=>ns.getD i 0,rfl,Walks.list hh s.heap.objs.size p (zY hlt) its.toArray,⟨⟨_,zW _ rfl,rfl,rfl⟩,pl.isList.push _⟩,fun b hb=>?_,fun i v hv=>?_,fun j hj=>?_,fun h' tk t' hk=>?_⟩
 ·show b < (s.heap.push _).objs.size;rw [abj];rcases aab.mp hb with rfl | hb
  ·exact acg _
  ·rw [zQ.mp hb];exact aaM hlt
 ·have hv':its[i]? = some v:=by simpa using hv
  have hi:i < its.length:=(zJ.mp hv').1;have hb:ns[i]? = some (ns.getD i 0):=by
   rw [aa5];rw [zG (by lia)]
   rfl
  obtain⟨u,hu,ru⟩:=rv.get (i:=i) (x:=.int (ns.getD i 0)) (by rw [zT,hb];rfl);rw [hv'] at hu;cases hu;exact ru
 ·have h1:=hbd j;have h2:=hpre (j+1);have h3:j < its.length:=by simpa using hj
  refine⟨⟨by show -(2 ^ 63)<=ns.getD j 0;lia,by show ns.getD j 0 < 2 ^ 63;lia⟩,by lia,?_⟩;have h4:((j+1:Nat):Int)<=1000000:=by lia
  lia
 ·have e:preSum (fun i=>ns.getD i 0) its.toArray.size=ns.sum:=by
   have all:∀ (k:Nat) (l:List Int),k<=l.length->preSum (fun i=>l.getD i 0) k=(l.take k).sum:=fun k=>by
    induction k with
    | zero=>intro l _;simp [preSum]
    | succ k ih =>
     intro l hk;rw [preSum,ih l (by lia),aaS,List.sum_append,aa5,zG (by lia)];simp
   rw [z5,← hlen,all _ ns (zP _),aa9]
  rw [e];refine⟨.int _,H,?_,⟨_,rfl⟩,q⟩;refine (I.kept (t':=s.toks) (h':=s.heap.push { cls:=.type "list_iterator",data:=.fields #[.ref p,.int 0 0] }) fun b o e=>zK _ e).turned (it:=s.heap.objs.size) (t':=tk) (h':=h') (fun b o hb e=>hk b o (by simpa using hb) e) I.fresh (aaz I.lt) (.inr I.sz) (fun x c e z=>?_) fun p' hp z=>?_
  ·obtain⟨v,q⟩:=I.cell x c e;exact absurd (z▸q.lt) (abp _)
  ·exact absurd (z▸zN (I.pin p' hp).1) (abp _)
theorem jr:d8 X (.builtin "sorted") (fun xs H Q=>∃ (p:Addr) (ss:List Str),xs=[.ref p]/\SqL X.K H p (ss.map V.str)/\ss.length < 64/\∀ (l:Addr) (ss':List Str),H l=none->ss'.Perm ss->sortedS ss'=true->Q (.ref l) (upd H l (.lst (ss'.map V.str)))):=by
 intro pins s σ H xs us Q I r h;obtain⟨p,ss,rfl,hq,hl,q⟩:=h;obtain⟨u,rfl,rx⟩:=gT r;cases rx;obtain⟨its,rv,pl,hz⟩:=I.list hq;have hlen:=rv.length;rw [zL] at hlen;refine sorted_strs pl.isList (cS rv) (by lia) fun out ss' a1 a2 a3=>?_;obtain⟨e,he⟩:=sortedAll_at s.heap its out;have hlen':ss'.length=ss.length:=a2.length_eq;refine⟨.ref (s.heap.objs.size+1),_,I.laid (t':=s.toks) (o:=.lst (ss'.map V.str)) (fun b o e=>sortedAll_old e) (aa6 _) ⟨?_,out.toList,e,dt a1,?_⟩,rfl,q _ ss' (I.hok.fresh (aa6 _)) a2 a3⟩
 ·rw [zL];exact aan (zX (by lia:ss'.length < 64) (by decide))
 ·simpa using he
def xP:V->List V->Hp->VK->Prop:=fun x vs H Q=>∃ (l:Addr) (ss:List Str) (k:Str),x=.ref l/\vs=[.str k]/\H l=some (.lst (ss.map V.str))/\Q (.int (ss.count k)) H
theorem oi (k:Str):∀ ss:List Str,countIn (.str k) (ss.map PyData.str)=((ss.count k:Nat):Int):=by
 intro ss
 induction ss with
 | nil=>rfl
 | cons y r ih =>
  rw [z4,countIn,ih,aeR];by_cases e:y=k
  ·subst e;have e1:same (.str y) (.str y)=true:=same_refl _;rw [if_pos e1,abN,if_pos rfl];lia
  ·have e1:¬ same (.str y) (.str k)=true:=by simpa [same] using e
   have e2:(y == k)=false:=by simpa using e
   rw [if_neg e1,e2];simp
theorem lC:MtM X "list.count" xP:=by
 intro pins s σ H x vs v us Q I rx rv h;obtain⟨l,ss,k,rfl,rfl,hH,q⟩:=h;cases rx;obtain⟨u,rfl,t,rfl⟩:=rv.one;obtain⟨its,r,pl,hz⟩:=I.list (aAA hH);refine count_list_strs pl.isList (cS r) ⟨.int (ss.count k),H,I.tok _,⟨s.toks,?_⟩,q⟩;rw [oi]
def yy:V->List V->Hp->VK->Prop:=fun x vs H Q=>∃ (z:Str) (l:Addr) (ss:List Str),x=.str z/\vs=[.ref l]/\SqL X.K H l (ss.map V.str)/\(ss.map (·.length)).sum+ss.length * z.length<=16777216/\Q (.str (Txt.join z ss)) H
theorem vW:MtM X "str.join" (yy (X:=X)):=by
 intro pins s σ H x vs v us Q I rx rv h;obtain⟨z,l,ss,rfl,rfl,hq,hz,q⟩:=h;obtain⟨t,rfl⟩:=rx;obtain⟨u,rfl,ru⟩:=rv.one;cases ru;obtain⟨its,r,pl,_⟩:=I.list hq;exact join_list pl.isList (by simpa using cS r) hz fun t' k=>⟨.str _,H,I.tok _,⟨t',rfl⟩,q⟩
end
mutual
inductive Sees (H:Hp):V->PyData->Prop
 | non:Sees H .non .none
 | bl (b:Bool):Sees H (.bl b) (.bool b)
 | int (i:Int):Sees H (.int i) (.int i)
 | str (x:Str):Sees H (.str x) (.str x)
 | lst {a:Addr} {vs:List V} {ds:List PyData}:H a=some (.lst vs)->SeesAll H vs ds->Sees H (.ref a) (.list ds)
 | tup {a:Addr} {vs:List V} {ds:List PyData}:H a=some (.tup vs)->SeesAll H vs ds->Sees H (.ref a) (.tuple ds)
inductive SeesAll (H:Hp):List V->List PyData->Prop
 | nil:SeesAll H [] []
 | cons {v:V} {vs:List V} {d:PyData} {ds:List PyData}:Sees H v d->SeesAll H vs ds->SeesAll H (v::vs) (d::ds)
end
mutual
theorem Sees.reads {P:Program}{w:World}{H:Hp}{h:Heap}(ok:HOk P w H h):∀ {d:PyData} {v:V} {u:Value},Sees H v d->RelV v u->∃ as,Reads h u d as
 | _,_,_,.non,r=>by cases r;exact⟨_,.none⟩
 | _,_,_,.bl b,r=>by cases r;exact⟨_,.bool b⟩
 | _,_,_,.int i,r=>by obtain⟨t,rfl⟩:=r;exact⟨_,.int i t⟩
 | _,_,_,.str x,r=>by obtain⟨t,rfl⟩:=r;exact⟨_,.str x t⟩
 | _,_,_,.lst e q,r=>by
  cases r;obtain⟨_,its,n,rv,g⟩:=ok _ _ e;obtain⟨as,ra⟩:=SeesAll.reads ok q rv;exact⟨_,.list g rfl rfl (by simpa using ra)⟩
 | _,_,_,.tup e q,r=>by
  cases r;obtain⟨_,its,rv,o,g,hc,n,hd⟩:=ok _ _ e;obtain⟨as,ra⟩:=SeesAll.reads ok q rv;exact⟨_,.tuple g hc hd (by simpa using ra)⟩
theorem SeesAll.reads {P:Program}{w:World}{H:Hp}{h:Heap}(ok:HOk P w H h):∀ {ds:List PyData} {vs:List V} {us:List Value},SeesAll H vs ds->Vals vs us->∃ as,ReadsAll h us ds as
 | _,_,_,.nil,r=>by cases r;exact⟨_,.nil⟩
 | _,_,_,.cons a b,r=>by
  cases r with
  | cons r1 r2 =>
   obtain⟨_,x⟩:=Sees.reads ok a r1;obtain⟨_,y⟩:=SeesAll.reads ok b r2;exact⟨_,.cons x y⟩
end
theorem SeesAll.strs {H:Hp}:∀ ss:List Str,SeesAll H (ss.map V.str) (ss.map PyData.str)
 | []=>.nil
 | s::r=>.cons (.str s) (SeesAll.strs r)
section
variable {X:Cx}
def vE (A:Around)(neg:Bool):R2:=fun x y H Q=>∃ da db,Sees H x da/\Sees H y db/\da.canLay0=true/\db.canLay0=true/\A.units+min da.depth db.depth < cLine/\Q (.bl (if neg then !PyData.eqv da db else PyData.eqv da db)) H
theorem rG:OpR X (compareOp .Eq) (vE X.A false):=by
 intro pins s σ H x y v u Q I rx ry h;obtain⟨da,db,sa,sb,la,lb,hu,q⟩:=h;obtain⟨_,ra⟩:=sa.reads I.hok rx;obtain⟨_,rb⟩:=sb.reads I.hok ry;exact SeqAt.rcAt_reads ra rb la lb hu _ _ _ _ ⟨.bl _,H,I,rfl,q⟩
theorem ft:OpR X (compareOp .NotEq) (vE X.A true):=by
 intro pins s σ H x y v u Q I rx ry h;obtain⟨da,db,sa,sb,la,lb,hu,q⟩:=h;obtain⟨_,ra⟩:=sa.reads I.hok rx;obtain⟨_,rb⟩:=sb.reads I.hok ry;exact SeqAt.compareNe_reads ra rb la lb hu ⟨.bl _,H,I,rfl,q⟩
def Itn (n:Nat)(val:Nat->V->Prop):It:=⟨fun i _=>i < n,fun i H x H'=>H'=H/\val i x,fun i _=>i=n⟩
theorem j8 {P:Program}{w:World}{K:PySem.W.Frag}{x:Str}{p:Pos}{I:Addr}{n:Nat}{Pv:Nat->Value->Prop}{St:Nat->Heap->Prop}{val:Nat->V->Prop}
 (W:∀ A':Around,A'.handled=none->Walks P w A' I [I] [I] n Pv St)(ho:∀ i h,St i h->∃ o,h.get? I=some o/\∀ v,o.data≠.cell v)(hv:∀ i u,Pv i u->∃ v,RelV v u/\val i v)
 (hself:∀ (A:Around) (i:Nat) (s:Shared) (Q:Value->Shared->Prop) (E:Value->Shared->Prop),St i s.heap->Q (.ref I) s->wpAny (model P w) A (pyIter (.ref I)) Q E s) :
 wz P w K (.Name x p) (Itn n val) [I] I St where
 mem:=by simp
 obj:=fun i h st b hb=>by
  have e:b=I:=by simpa using hb
  subst e;exact ho i h st
 keep:=fun i h h' st k=>(W { handled:=none,depth:=0,frames:=none,guards:=none,units:=0 } rfl).frame i h h' st k
 item:=by
  intro X hP hw hK hc i pins s σ H E J hf st hg;subst hP hw hK;obtain⟨f0,f1,f2,f3,f4,f5⟩:=hf I (by simp);refine (W X.A (J.ok.hd hc)).item i s _ _ hg st fun v h' tk hPv st' kk=>?_;obtain⟨y,ry,vy⟩:=hv i v hPv;have J1:Inv X pins σ H { s with heap:=h',toks:=tk }:=J.turned (fun b o hb e=>kk b o (by simpa using hb) e) f0 f1 f3 f4 f5;exact⟨v,rfl,zM ⟨y,H,J1,ry,⟨rfl,vy⟩,st',fun b hb=>(hf b hb).1⟩⟩
 done:=by
  intro X hP hw hK hc i pins s σ H E J hf st hg;subst hP hw hK;obtain⟨f0,f1,f2,f3,f4,f5⟩:=hf I (by simp);have e:i=n:=hg;subst e;exact (W X.A (J.ok.hd hc)).done s _ _ st fun h' tk kk=>⟨rfl,J.turned (fun b o hb e=>kk b o (by simpa using hb) e) f0 f1 f3 f4 f5⟩
 self:=hself
theorem jl {h:Heap}{I:Addr}{n:String}{x:Str}{t:Tok}{i:Nat}(st:h.IsStrIter I n x t i):∃ o,h.get? I=some o/\∀ v,o.data≠.cell v:=by
 obtain⟨o,e,_,d⟩:=st;exact⟨o,e,fun v z=>by rw [d] at z;cases z⟩
def ItS (z:Str):It:=Itn z.cps.size fun i v=>∃ c,z.cps[i]? = some c/\v=.str ⟨#[c]⟩
def zz (tl:TE):TI:=fun σ H R=>tl σ H fun x H1=>∃ z,x=.str z/\R (ItS z) H1
theorem oU {z:Str}(i:Nat)(u:Value)(h:SignAt z i u):∃ v,RelV v u/\∃ c,z.cps[i]? = some c/\v=.str ⟨#[c]⟩:=by
 obtain⟨c,t,e,rfl⟩:=h;exact⟨.str ⟨#[c]⟩,⟨t,rfl⟩,c,e,rfl⟩
theorem w9 {l:Expr}{tl:TE}{x:Str}{p:Pos}(hl:PE X l tl):PI X (.Name x p) l (zz tl):=by
 intro pins s σ H R I h;refine thn (hl pins s σ H _ I h) fun v s1 ⟨y,H1,I1,r1,q1⟩=>?_;obtain⟨z,rfl,q⟩:=q1;obtain⟨t,rfl⟩:=r1;have fin:∀ (o:Obj),Inv X pins σ H1 { s1 with heap:=s1.heap.push o }:=fun o=>I1.kept (t':=s1.toks) fun b o e=>zK _ e;have ff:∀ b∈[s1.heap.objs.size],mj X pins H1 b:=fun b hb=>by
  have e:b=s1.heap.objs.size:=by simpa using hb
  subst e;exact I1.fpOk (zP _) I1.fresh
 cases ha:z.cps.all (· < 128)
 ·refine wpAny_pyIter_wide ha ⟨s1.heap.objs.size,[s1.heap.objs.size],_,ItS z,H1,rfl,fin _,j8 (fun A' hA=>Walks.strWide hA _ z t) (fun i h st=>jl st) oU (fun A i s Q E st h=>wpAny_pyIter_striter_wide st h),⟨_,zW _ rfl,rfl,rfl⟩,ff,q⟩
 ·refine wpAny_pyIter_ascii ha ⟨s1.heap.objs.size,[s1.heap.objs.size],_,ItS z,H1,rfl,fin _,j8 (fun A' hA=>Walks.strAscii hA _ z t) (fun i h st=>jl st) oU (fun A i s Q E st h=>wpAny_pyIter_striter_ascii st h),⟨_,zW _ rfl,rfl,rfl⟩,ff,q⟩
def zo:V->Option Int->Option Int->Hp->VK->Prop:=fun x lo hi H Q=>∃ z:Str,x=.str z/\z.length<=sizeLine/\Q (.str (Txt.slice z lo hi)) H
theorem rp:SlR X zo:=by
 intro pins s σ H x v vl vu lo hi sl Q I rx hs pl pu h;obtain⟨z,rfl,hz,q⟩:=h;obtain⟨t,rfl⟩:=rx;refine⟨"str",_,PySem.F.slot_str_getitem.lookup,typeIs_str _ _ _,?_⟩;obtain⟨o,ho,hc,hd⟩:=hs;have fin:∀ t' k,EP X pins σ Q (.str (Txt.slice z lo hi) t') { s with toks:=k }:=fun t' k=>⟨.str _,H,I.tok _,⟨t',rfl⟩,q⟩;cases pl with
 | none =>
  cases pu with
  | none=>exact ab6 (l:=none) (u:=none) (st:=none) ⟨o,ho,hc,hd⟩ rfl (adW ⟨aas (aeS z _ _) hz,fun t' k=>fin t' k⟩)
  | int j tj=>exact ab6 (l:=none) (u:=some (j,tj)) (st:=none) ⟨o,ho,hc,hd⟩ rfl (adW ⟨aas (aeS z _ _) hz,fun t' k=>fin t' k⟩)
 | int i ti =>
  cases pu with
  | none=>exact ab6 (l:=some (i,ti)) (u:=none) (st:=none) ⟨o,ho,hc,hd⟩ rfl (adW ⟨aas (aeS z _ _) hz,fun t' k=>fin t' k⟩)
  | int j tj=>exact ab6 (l:=some (i,ti)) (u:=some (j,tj)) (st:=none) ⟨o,ho,hc,hd⟩ rfl (adW ⟨aas (aeS z _ _) hz,fun t' k=>fin t' k⟩)
end
open PySem.Builtin PySem.Builtin.Str in
theorem jx (z:Str)(a b:Nat)(hab:a<=b)(hb:b<=z.length):(Txt.slice z (some (a:Int)) (some (b:Int))).cps.toList=(z.cps.toList.drop a).take (b - a):=by
 unfold Txt.slice;have e:=StrLaws.sliced_plain z hab hb;split
 ·rename_i h;rw [StrLaws.strSliceIndices_plain hab hb] at h;simp only [zL,ado,aa8,aag] at h;have h2:b - a=z.length:=h.2;have ha:a=0:=by lia
  subst ha;have hz:z.cps.toList.length=z.length:=by simp [Str.length]
  rw [abo,aau (by lia)]
 ·rw [e]
def oP (scope outer:Scope):List (Str×NameKind) :=
 scope.names.map fun (n,k)=>if (k == .free && outer.kind == .function && outer.names.lookup n == some .cell) then (n,.cell) else (n,k)
def fQ (outer scope:Scope)(N N':List Str)(nl:Nat)(ix:List Nat):Bool :=
 (scope.kind == .function && scope.names.all fun x=>x.2 != .cell && (x.2 != .local || scope.names.lookup x.1 == some .local) && (x.2 != .free || outer.names.lookup x.1 == some .cell)) &&
 (N'.length == nl+ix.length && (List.range ix.length).all fun k=>match ix[k]? with
  | none=>false
  | some j=>match N[j]? with
   | none=>false
   | some x=>N'[nl+k]? == some x && outer.names.lookup x == some .cell && (oP scope outer).lookup x == some .cell && decide ((x,NameKind.free)∈scope.names))
theorem fe {X:Cx}{outer scope:Scope}{N N':List Str}{nl:Nat}{ix:List Nat}(h1:X.env.scope=outer)(h2:X.N=N)(h:fQ outer scope N N' nl ix=true):CompScope X scope/\yh X scope N' nl ix:=by
 unfold fQ at h;simp only [aa8,adE,aag,bne_iff_ne,Bool.or_eq_true,ne_eq,afh] at h;obtain⟨⟨hk,ha⟩,hl,hb⟩:=h;have kd:∀ x,X.env.kindOf x=outer.names.lookup x:=fun x=>by rw [← h1];rfl
 refine⟨⟨hk,fun x hx=>(ha x hx).1.1,fun x hx e=>?_,fun x hx e=>?_⟩,⟨hl,fun k j e=>?_⟩⟩
 ·rcases (ha x hx).1.2 with z | z
  ·exact absurd e z
  ·exact z
 ·rcases (ha x hx).2 with z | z
  ·exact absurd e z
  ·rw [kd];exact z
 ·have hk':k < ix.length:=(zJ.mp e).1;have q:=hb k hk';rw [e] at q;simp only at q;cases ex:N[j]? with
  | none=>rw [ex] at q;simp at q
  | some x =>
   rw [ex] at q;simp only [aa8,aag,decide_eq_true_eq] at q;obtain⟨⟨⟨q1,q2⟩,q3⟩,q4⟩:=q;refine⟨x,by rw [h2];exact ex,q1,by rw [kd];exact q2,?_,q4⟩;have er:(relabel scope X.env).names=oP scope outer:=by rw [← h1];rfl
   rw [er];exact q3
def Nx (n i:Nat)(p:Prop):Prop:=∃ m',m' < n - i/\m'=n - (i+1)/\i+1<=n/\p
theorem nx {n i:Nat}{p:Prop}(h:i < n)(q:p):Nx n i p:=⟨n - (i+1),by lia,rfl,h,q⟩
def cE (nl:Nat)(ix:List Nat)(g:TG)(tf:TT)(te:TE)(σ:St)(D:Addr)(ys:List V)(H:Hp)(x:V)(nxt:List V->Hp->Prop):Prop :=
 g x (fV nl ix σ) H fun σ4 H4=>(σ4.length=(fV nl ix σ).length/\σ4.drop nl=ix.map fun j=>(σ[j]?).join)/\tf σ4 H4 fun b H5 =>
  if b=true then te σ4 H5 fun y H6=>H6 D=some (.lst ys)/\ys.length < sizeLine/\nxt (ys++[y]) (upd H6 D (.lst (ys++[y]))) else nxt ys H5
def kL (nl:Nat)(ix:List Nat)(g:TG)(tf:TT)(te:TE)(σ:St)(J:It)(H1:Hp)(D:Addr)(Q:VK):Prop :=
 ∃ W:Nat->Nat->List V->Hp->Prop,(∃ m,W 0 m [] (upd H1 D (.lst []))) ∧
 ∀ i m ys H2,W i m ys H2->H2 D=some (.lst ys)/\((J.stop i H2/\Q (.ref D) H2)\/(J.go i H2/\∀ x H3,J.yld i H2 x H3->cE nl ix g tf te σ D ys H3 x fun ys' H'=>∃ m',m' < m/\W (i+1) m' ys' H'))
theorem bP (nl:Nat)(ix:List Nat)(wi:TI)(g:TG)(tf:TT)(te:TE)(σ:St)(H:Hp)(Q:VK)(h:wi σ H fun J H1=>∀ D,H1 D=none->kL nl ix g tf te σ J H1 D Q):oK nl ix wi g tf te σ H Q:=h
section
variable {nl:Nat}{ix:List Nat}{g:TG}{tf:TT}{te:TE}{σ:St}{H1:Hp}{D:Addr}{Q:VK}(Pv:Nat->List V->Hp->Prop)
theorem pz {J:It}{n:Nat}(h0:Pv 0 [] (upd H1 D (.lst [])))(hD:∀ i ys H,Pv i ys H->H D=some (.lst ys))(go:∀ i ys H,i < n->Pv i ys H->J.go i H)(stop:∀ ys H,Pv n ys H->J.stop n H)
 (hs:∀ i ys H x H',i < n->Pv i ys H->J.yld i H x H'->cE nl ix g tf te σ D ys H' x fun ys' H'=>Nx n i (Pv (i+1) ys' H'))
 (hd:∀ ys H,Pv n ys H->Q (.ref D) H):kL nl ix g tf te σ J H1 D Q:=by
 refine⟨fun i m ys H=>m=n - i/\i<=n/\Pv i ys H,⟨n,by simp,zZ _,h0⟩,?_⟩;rintro i m ys H ⟨rfl,hi,p⟩;refine⟨hD i ys H p,?_⟩;by_cases hlt:i < n
 ·exact .inr ⟨go i ys H hlt p,fun x H' y=>hs i ys H x H' hlt p y⟩
 ·have e:i=n:=by lia
  subst e;exact .inl ⟨stop ys H p,hd ys H p⟩
theorem kc {lo:Int}{n:Nat}(h0:Pv 0 [] (upd H1 D (.lst [])))(hD:∀ i ys H,Pv i ys H->H D=some (.lst ys))
 (hs:∀ i ys H,i < n->Pv i ys H->cE nl ix g tf te σ D ys H (.int (lo+i)) fun ys' H'=>Nx n i (Pv (i+1) ys' H'))(hd:∀ ys H,Pv n ys H->Q (.ref D) H):kL nl ix g tf te σ (Itr lo n) H1 D Q:=by
 refine pz (n:=n) Pv h0 hD (fun _ _ _ hi _=>hi) (fun _ _ _=>zP _) (fun i ys H x H' hi p y=>?_) hd;obtain⟨e,y⟩:=y;subst e y;exact hs i ys H' hi p
theorem eA {K:PySem.W.Frag}{a:Addr}{xs:List V}(h0:Pv 0 [] (upd H1 D (.lst [])))(hD:∀ i ys H,Pv i ys H->H D=some (.lst ys))(hl:∀ i ys H,Pv i ys H->SqL K H a xs)
 (hs:∀ i ys H x,xs[i]? = some x->Pv i ys H->cE nl ix g tf te σ D ys H x fun ys' H'=>Nx xs.length i (Pv (i+1) ys' H'))(hd:∀ ys H,Pv xs.length ys H->Q (.ref D) H):kL nl ix g tf te σ (Itl K a) H1 D Q:=by
 refine pz (n:=xs.length) Pv h0 hD (fun i ys H hi p=>⟨xs,xs[i],hl i ys H p,by simp [hi]⟩) (fun ys H p=>⟨xs,hl _ ys H p,zP _⟩) (fun i ys H x H' hi p y=>?_) hd;obtain⟨e,y⟩:=y;subst e;exact hs i ys H' x (y xs (hl i ys H' p)) p
theorem u0 {z:Str}(h0:Pv 0 [] (upd H1 D (.lst [])))(hD:∀ i ys H,Pv i ys H->H D=some (.lst ys))
 (hs:∀ i ys H c,z.cps[i]? = some c->Pv i ys H->cE nl ix g tf te σ D ys H (.str ⟨#[c]⟩) fun ys' H'=>Nx z.cps.size i (Pv (i+1) ys' H'))(hd:∀ ys H,Pv z.cps.size ys H->Q (.ref D) H):kL nl ix g tf te σ (ItS z) H1 D Q:=by
 refine pz (n:=z.cps.size) Pv h0 hD (fun _ _ _ hi _=>hi) (fun _ _ _=>rfl) (fun i ys H x H' hi p y=>?_) hd;obtain⟨e,c,ec,ex⟩:=y;subst e ex;exact hs i ys H' c ec p
end
section
variable {X:Cx}{K:PySem.W.Frag}
theorem vd (hK:X.K=K):IxR X (ym K):=by subst hK;exact bg
theorem mN (hK:X.K=K):d8 X (.builtin "len") (fun xs H Q=>∃ p ys,xs=[.ref p]/\(SqL K H p ys\/SqT K H p ys)/\Q (.int ys.length) H):=by subst hK;exact aS
theorem jU (hK:X.K=K):d8 X (.type "list") (fun xs H Q=>∃ p ys,xs=[.ref p]/\(SqL K H p ys\/SqT K H p ys)/\∀ l,H l=none->Q (.ref l) (upd H l (.lst ys))):=by subst hK;exact dM
theorem eW {pos:Pos}{es:List Expr}{k:Nat}{t:TGs}{n:Nat}(hK:X.K=K)(hc:X.calm=true)(h:PGs X es t)(hn:(assignEach es X.env).length=n:=by rfl)(hst:(assignEach es X.env).findIdx? (·.1)=none:=by rfl):PG X (.Tuple es k pos) (qN K n t):=by
 subst hK;exact fi hc h hn hst
end
theorem eE {nl:Nat}{ix:List Nat}{te:TE}{σ:St}{D:Addr}{ys:List V}{H:Hp}{x:V}{nxt:List V->Hp->Prop}{i:Nat}(h1:((fV nl ix σ).set i (some x)).drop nl=ix.map fun j=>(σ[j]?).join)
 (h:te ((fV nl ix σ).set i (some x)) H fun y H6=>H6 D=some (.lst ys)/\ys.length < sizeLine/\nxt (ys++[y]) (upd H6 D (.lst (ys++[y])))):cE nl ix (dG i) qD te σ D ys H x nxt:=by
 unfold cE dG qD;dsimp only;rw [if_pos rfl];exact⟨⟨by simp,h1⟩,h⟩
section
variable {X:Cx}
theorem cU:d8 X (.builtin "isinstance") (fun xs H Q=>∃ (x:V) (T:String) (t:Value) (b:Bool),xs=[x,.ty T]/\qz X.K H x t/\kitOne X.K t (.type T)=some b/\Q (.bl b) H):=by
 intro pins s σ H xs us Q I r h;obtain⟨x,T,t,b,rfl,ty,e,q⟩:=h;obtain⟨u,v,rfl,rx,ry⟩:=vals2 r;cases ry;exact tw I rx ty e fun tk=>⟨.bl b,H,I.tok _,rfl,q⟩
theorem fG (K:PySem.W.Frag)(n:String):kitOne K (.type n) (.type n)=some true:=by
 unfold kitOne;rw [if_pos (by simp)]
end
def leS (a b:Str):Prop:=ltCps b.cps.toList a.cps.toList=false
theorem leS_iff {a b:Str}:leS a b↔a.cps.toList<=b.cps.toList:=by
 unfold leS;rw [ltCps_eq];constructor
 ·intro h;exact aby.mp (ac3 h)
 ·intro h;exact aah (aby.mpr h)
theorem lP {a b:Str}(h1:leS a b)(h2:leS b a):a=b:=by
 have e:=ach (leS_iff.mp h1) (leS_iff.mp h2);cases a;cases b;simp only at e;rw [Str.mk.injEq];exact Array.toList_inj.mp e
theorem rd {a b c:Str}(h1:leS a b)(h2:leS b c):leS a c:=leS_iff.mpr (List.le_trans (leS_iff.mp h1) (leS_iff.mp h2))
theorem jC:∀ {l:List Str} {p:Str},risingS p l=true->(∀ x∈l,leS p x)/\l.Pairwise leS
 | [],p,_=>⟨(fun x hx=>nomatch hx),List.Pairwise.nil⟩
 | y::r,p,h=>by
  have h':(!ltCps y.cps.toList p.cps.toList && risingS y r)=true:=h;rw [aa8,Bool.not_eq_true'] at h';obtain⟨i1,i2⟩:=jC h'.2;have py:leS p y:=h'.1;refine⟨fun x hx=>?_,List.Pairwise.cons i1 i2⟩;rcases aab.mp hx with rfl | hx
  ·exact py
  ·exact rd py (i1 x hx)
theorem aL:∀ {l:List Str},sortedS l=true->l.Pairwise leS
 | [],_=>List.Pairwise.nil
 | _::_,h=>let ⟨a,b⟩:=jC h;List.Pairwise.cons a b
theorem du:∀ {l1 l2:List Str},l1.Pairwise leS->l2.Pairwise leS->l1.Perm l2->l1=l2
 | [],l2,_,_,p=>(List.nil_perm.mp p).symm▸rfl
 | a::r,[],_,_,p=>absurd p.length_eq (by simp)
 | a::r,b::t,h1,h2,p=>by
  have ab:leS a b:=by
   rcases aab.mp (p.mem_iff.mpr z7:b∈a::r) with e | hb
   ·subst e;exact leS_iff.mpr (List.le_refl _)
   ·exact (abF.mp h1).1 b hb
  have ba:leS b a:=by
   rcases aab.mp (p.mem_iff.mp z7:a∈b::t) with e | ha
   ·subst e;exact leS_iff.mpr (List.le_refl _)
   ·exact (abF.mp h2).1 a ha
  have e:=lP ab ba;subst e;rw [du (abF.mp h1).2 (abF.mp h2).2 p.cons_inv]
theorem pL {K:PySem.W.Frag}{nl:Nat}{ix:List Nat}{te:TE}{σ:St}{D:Addr}{ys:List V}{H:Hp}{x:V}{nxt:List V->Hp->Prop}{i j:Nat}(a:Addr)(v1 v2:V)(hx:x=.ref a)(hs:SqT K H a [v1,v2])
 (h1:(((fV nl ix σ).set i (some v1)).set j (some v2)).drop nl=ix.map fun j=>(σ[j]?).join)
 (h:te (((fV nl ix σ).set i (some v1)).set j (some v2)) H fun y H6=>H6 D=some (.lst ys)/\ys.length < sizeLine/\nxt (ys++[y]) (upd H6 D (.lst (ys++[y])))) :
 cE nl ix (qN K 2 (fc (dG i) (fc (dG j) rq))) qD te σ D ys H x nxt:=by
 subst hx;unfold cE qN fc dG rq qD;dsimp only;refine⟨a,[v1,v2],rfl,hs,rfl,v1,[v2],rfl,v2,[],rfl,rfl,⟨by simp,h1⟩,?_⟩;rw [if_pos rfl];exact h
open PySem.Builtin PySem.Builtin.Str in
theorem xx (j n:Nat):strSliceIndices none (some (j:Int)) 1 n=strSliceIndices (some ((0:Nat):Int)) (some ((min j n:Nat):Int)) 1 n:=by
 unfold strSliceIndices;have h1:¬ ((j:Int) < 0):=by lia
 have h2:¬ (((min j n:Nat):Int) < 0):=by lia
 have h3:¬ (((0:Nat):Int) < 0):=by lia
 simp only [h1,h2,h3,abq,show ((1:Int) > 0)=True from by simp,acK];congr 1<;>lia
open PySem.Builtin PySem.Builtin.Str in
theorem ud (i n:Nat):strSliceIndices (some (i:Int)) none 1 n=strSliceIndices (some ((min i n:Nat):Int)) (some ((n:Nat):Int)) 1 n:=by
 unfold strSliceIndices;have h1:¬ ((i:Int) < 0):=by lia
 have h2:¬ (((min i n:Nat):Int) < 0):=by lia
 have h3:¬ (((n:Nat):Int) < 0):=by lia
 simp only [h1,h2,h3,abq,show ((1:Int) > 0)=True from by simp,acK];congr 1<;>lia
theorem oW (z:Str)(j:Nat):(Txt.slice z none (some (j:Int))).cps.toList=z.cps.toList.take j:=by
 have e:Txt.slice z none (some (j:Int))=Txt.slice z (some ((0:Nat):Int)) (some ((min j z.length:Nat):Int)):=by
  unfold Txt.slice;rw [xx]
 rw [e,jx z 0 (min j z.length) (zZ _) (acJ _ _),abo,Nat.sub_zero];have hz:z.cps.toList.length=z.length:=by simp [Str.length]
 by_cases h:j<=z.length
 ·rw [abZ h]
 ·rw [Nat.min_eq_right (by lia),aau (by lia),aau (by lia)]
theorem p5 (z:Str)(i:Nat):(Txt.slice z (some (i:Int)) none).cps.toList=z.cps.toList.drop i:=by
 have e:Txt.slice z (some (i:Int)) none=Txt.slice z (some ((min i z.length:Nat):Int)) (some ((z.length:Nat):Int)):=by
  unfold Txt.slice;rw [ud]
 have hz:z.cps.toList.length=z.length:=by simp [Str.length]
 rw [e,jx z (min i z.length) z.length (acJ _ _) (zP _)];by_cases h:i<=z.length
 ·rw [abZ h,aau (by rw [aaR];lia)]
 ·rw [Nat.min_eq_right (by lia),abD,ack,abx (by lia)]
theorem vK {α:Type}[DecidableEq α]:∀ (n:Nat) (g:Nat->α) (l:List α),(∀ i j,i < n->j < n->g i=g j->i=j)->(∀ i,i < n->g i∈l)->n<=l.length
 | 0,_,_,_,_=>zZ _
 | n+1,g,l,inj,mem=>by
  have hm:=mem n (acg n);have ih:=vK n g (l.erase (g n)) (fun i j hi hj e=>inj i j (by lia) (by lia) e) fun i hi=>by
   have ne:g i≠g n:=fun e=>by have:=inj i n (by lia) (by lia) e;lia
   exact (List.mem_erase_of_ne ne).mpr (mem i (by lia))
  have hl:=aem hm;have hp:0 < l.length:=adk hm;lia
section
variable {M:Model}{A:Around}{E:Value->Shared->Prop}{s:Shared}
theorem lH {src:Source}{n:Nat}{Q:Nat->Shared->Prop}(hn:n≠0)(h:∀ i,i < n->Q i { s with drawn:=s.drawn.bump src }):wpAny M A (choose src n) Q E s:=fun _ _ _ =>
 ⟨hn,h _ (Nat.mod_lt _ (Nat.pos_of_ne_zero hn))⟩
theorem eI {α:Type}:∀ (xs:List α) (i:Nat) (x:α),xs[i]? = some x->(x::xs.eraseIdx i).Perm xs
 | [],_,_,h=>by simp at h
 | y::r,0,x,h=>by simp at h;subst h;exact .rfl
 | y::r,i+1,x,h=>by
  have h':r[i]? = some x:=by simpa using h
  rw [ab7];exact (List.Perm.swap y x _).trans ((eI r i x h').cons y)
theorem fk {α:Type}:∀ (n:Nat) (xs:List α) (s:Shared) (Q:List α->Shared->Prop),xs.length=n->(∀ ys d,ys.Perm xs->Q ys { s with drawn:=d })->wpAny M A (drawOrder n xs) Q E s
 | 0,xs,s,Q,hl,h=>by
  have e:xs=[]:=ab8.mp hl;subst e;unfold drawOrder;exact zM (h [] s.drawn .rfl)
 | n+1,[],s,Q,hl,h=>by simp at hl
 | n+1,y::r,s,Q,hl,h=>by
  unfold drawOrder;refine zF (lH (by simp) fun i hi=>?_);have hx:(y::r)[i]? = some (y::r)[i]:=zG hi;rw [hx];dsimp only;refine zF (fk n _ _ _ (by rw [acF hi];simpa using hl) fun ys d p=>?_);exact zM (h _ d ((p.cons _).trans (eI _ i _ hx)))
theorem iY {α:Type}(next:Nat->Nat):∀ (fuel k:Nat) (left:List α) (out:Array α),left.length=fuel->(pickOrder.go next fuel k left out).toList.Perm (out.toList++left)
 | 0,k,left,out,h=>by
  have e:left=[]:=ab8.mp h;subst e;unfold pickOrder.go;simp
 | fuel+1,k,left,out,h=>by
  unfold pickOrder.go;have hp:0 < left.length:=by lia
  have hi:next k % left.length < left.length:=Nat.mod_lt _ hp
  rw [zG hi];dsimp only;refine (iY next fuel (k+1) _ _ (by rw [acF hi];lia)).trans ?_;rw [adp,zU];exact (eI left _ _ (zG hi)).append_left _
theorem fZ {α:Type}(next:Nat->Nat)(xs:Array α):(pickOrder next xs).toList.Perm xs.toList:=by
 unfold pickOrder;simpa using iY next xs.size 0 xs.toList #[] (by simp)
end
theorem p9 (t:SetTable)(es:Array (Int×Value))(h:Int)(x:Value):(layNew t es h x).2.1.led=t.led:=by
 unfold layNew;split
 ·dsimp only;unfold SetTable.orStandIn;split<;>rfl
 ·rfl
theorem mK (t:SetTable)(es:Array (Int×Value))(n:Nat):(relayAll t es n).2.1.led=t.led:=by
 unfold relayAll;split
 ·rename_i t' order e;have e2:t'.led=t.led:=by
   unfold SetTable.relaid SetTable.laid at e;simp only [Option.bind_eq_bind,aex] at e;obtain⟨ow,_,e⟩:=e;simp only [Option.pure_def,Option.some.injEq,Prod.mk.injEq] at e;rw [← e.1]
  dsimp only;split
  ·exact e2
  ·rfl
 ·rfl
theorem jJ (t:SetTable)(es:Array (Int×Value))(n:Nat)(h:t.plain=false):(relayAll t es n).2.1.plain=false:=by
 unfold relayAll;split
 ·rename_i t' order e;have e2:t'.plain=t.plain:=by
   unfold SetTable.relaid SetTable.laid at e;simp only [Option.bind_eq_bind,aex] at e;obtain⟨ow,_,e⟩:=e;simp only [Option.pure_def,Option.some.injEq,Prod.mk.injEq] at e;rw [← e.1]
  dsimp only;split
  ·rw [e2];exact h
  ·rfl
 ·rfl
structure TxAt (prog:Program)(w:World)(h:Heap)(a:Addr)(es:Array (Int×Value))(ep:Nat)(t:SetTable):Prop where
 get:h.get? a=some { cls:=.type "set",dict:=none,data:=.set es ep t,slots:=#[] }
 el:ElemsOf (PySem.strKind prog w) es.toList
 bd:es.size < scanBound
 fit:t.fits es.size=true
 led:t.led=!w.params.followText "set-order"
 pl:t.plain=false\/es=#[]
def t4 (es:Array (Int×Value)):List Str:=es.toList.map fun e=>strOf e.2
def TxSet (prog:Program)(w:World)(h:Heap)(a:Addr)(ss:List Str):Prop:=∃ es ep t,TxAt prog w h a es ep t/\t4 es=ss/\ss.Nodup
section
variable {prog:Program}{w:World}{h h':Heap}{a:Addr}{es:Array (Int×Value)}{ep:Nat}{t:SetTable}{ss:List Str}
theorem TxAt.at' (x:TxAt prog w h a es ep t)(k:∀ o,h.get? a=some o->h'.get? a=some o):TxAt prog w h' a es ep t:=⟨k _ x.get,x.el,x.bd,x.fit,x.led,x.pl⟩
theorem TxSet.at' (x:TxSet prog w h a ss)(k:∀ o,h.get? a=some o->h'.get? a=some o):TxSet prog w h' a ss:=let ⟨es,ep,t,y,r⟩:=x;⟨es,ep,t,y.at' k,r⟩
theorem su {l:List (Int×Value)}(h:ElemsOf (PySem.strKind prog w) l){e:Int×Value}(he:e∈l):∃ tk,e=(hashStr w (strOf e.2),.str (strOf e.2) tk):=by
 obtain⟨⟨k,hk,hh⟩,_⟩:=h e he;obtain⟨tk,e2⟩:=adR hk;obtain⟨e1,v⟩:=e;simp only at e2 hh;subst e2;exact⟨tk,by rw [hh];rfl⟩
theorem pY {k:Str}{v:Value}{x:Str}{tk:Tok}(e:v=.str x tk):(PySem.strKind prog w).is k v=true↔k=x:=by
 subst e;constructor
 ·intro h;have h':Value.isStrOf k (.str x tk)=true:=h;obtain⟨u,e⟩:=adR h';injection e with e
  exact e.symm
 ·intro h;subst h;show Value.isStrOf k (.str k tk)=true;simp [Value.isStrOf]
theorem xn {l:List (Int×Value)}(h:ElemsOf (PySem.strKind prog w) l)(k:Str):k∈l.map (fun e=>strOf e.2)↔∃ e∈l,(PySem.strKind prog w).is k e.2=true:=by
 rw [aaJ];constructor
 ·rintro⟨e,he,rfl⟩;obtain⟨tk,e2⟩:=su h he;exact⟨e,he,(pY (by rw [e2];rfl)).mpr rfl⟩
 ·rintro⟨e,he,hk⟩;obtain⟨tk,e2⟩:=su h he;exact⟨e,he,((pY (x:=strOf e.2) (tk:=tk) (by rw [e2];rfl)).mp hk).symm⟩
section
variable {A:Around}{E:Value->Shared->Prop}{s:Shared}
theorem gb {g:Bool->Sem Unit}(hg:∀ (b:Bool) (s₁:Shared) (Q':Unit->Shared->Prop),Q' () s₁->wpAny (model prog w) A (g b) Q' E s₁)
 (ho:s.heap.get? a=some { cls:=.type "set",dict:=none,data:=.set es ep t,slots:=#[] })
 {es1:Array (Int×Value)}{t2:SetTable}(hel1:ElemsOf (PySem.strKind prog w) es1.toList)
 (hb1:es1.size < scanBound)(hf2:t2.fits es1.size=true)(hl2:t2.led=!w.params.followText "set-order")(hp2:t2.plain=false){wasDummy:Bool}{R:Option Bool->Shared->Prop}
 (h:∀ h' es' ep' t',Heap.SameBut a s.heap h'->TxAt prog w h' a es' ep' t'->es'.toList.Perm es1.toList->R (some true) { s with heap:=h' }) :
 wpAny (model prog w) A (do
  storeSet a es1 t2
  if (!wasDummy && t2.tooFull)=true then do
   g (relayAll t2 es1 (SetTable.grown es1.size)).2.2
   storeSet a (relayAll t2 es1 (SetTable.grown es1.size)).1 (relayAll t2 es1 (SetTable.grown es1.size)).2.1
   pure (some true)
   else pure (some true)) R E s:=by
 refine zF (wpAny_storeSet_of ho rfl ?_ (adq hb1));have up:∀ {h0:Heap} {es0:Array (Int×Value)} {ep0:Nat} {t0:SetTable} (es':Array (Int×Value)) (t':SetTable),h0.get? a=some { cls:=.type "set",dict:=none,data:=.set es0 ep0 t0,slots:=#[] }->(h0.update a (Obj.putSet es' t')).get? a=some { cls:=.type "set",dict:=none,data:=.set es' (ep0+1) t',slots:=#[] }:=fun es' t' q=>by
  have:=abC (Obj.putSet es' t') q (by rw [putSet_of es' t' rfl];rfl);rw [putSet_of es' t' rfl] at this;exact this
 have ho1:=up es1 t2 ho;have hsb1:=ab9 s.heap a (Obj.putSet es1 t2);split
 ·have hp:=relayAll_perm t2 es1 (SetTable.grown es1.size);have hfr:=relayAll_fits t2 es1 (SetTable.grown es1.size);have hlr:=mK t2 es1 (SetTable.grown es1.size);have hpr:=jJ t2 es1 (SetTable.grown es1.size) hp2;generalize hRl:relayAll t2 es1 (SetTable.grown es1.size)=Rl at hp hfr hlr hpr ⊢;obtain⟨es2,t3,gave2⟩:=Rl;dsimp only at hp hfr hlr hpr ⊢;have hsz:es2.size=es1.size:=by rw [← zR,hp.length_eq,zR]
  have hb2:es2.size < scanBound:=by rw [hsz];exact hb1
  refine zF (hg _ _ _ ?_);refine zF (wpAny_storeSet_of ho1 rfl ?_ (adq hb2));exact zM (h _ es2 _ t3 (hsb1.trans (ab9 _ a _)) ⟨up es2 t3 ho1,hel1.perm hp,hb2,hfr,hlr.trans hl2,.inl hpr⟩ hp)
 ·exact zM (h _ es1 _ t2 hsb1 ⟨ho1,hel1,hb1,hf2,hl2,.inl hp2⟩ .rfl)
theorem dE {α:Type}{l:List α}{x:α}{l':List α}(hn:l.Nodup)(hx:x ∉ l)(p:l'.Perm (l++[x])):l'.Nodup:=by
 refine p.nodup_iff.mpr ?_;rw [List.nodup_append];refine⟨hn,by simp,fun a ha b hb e=>?_⟩;rw [zQ.mp hb] at e;exact hx (e▸ha)
theorem jR {x:Str}{tk:Tok}{Q:Bool->Shared->Prop}(hS:TxSet prog w s.heap a ss)(hroom:ss.length+1 < scanBound)
 (h:∀ h' ss',Heap.SameBut a s.heap h'->TxSet prog w h' a ss'->((x∈ss/\ss'=ss)\/(x ∉ ss/\ss'.Perm (ss++[x])))->Q (!decide (x∈ss)) { s with heap:=h' }) :
 wpAny (model prog w) A (setAddHashed a (.str x tk) (hashStr w x)) Q E s:=by
 obtain⟨es,ep,t,T,e,nd⟩:=hS;subst e;have hkey:(PySem.strKind prog w).is x (.str x tk)=true:=(pY rfl).mpr rfl;have hsc:(Value.str x tk).scannable=true:=rfl;have hb1:es.size+1 < scanBound:=by simpa [t4] using hroom
 have hmem:=xn T.el x;unfold setAddHashed setAddHashedIn;refine aal (zF (ab0 T.get rfl T.fit ?_));dsimp only;rw [byScan_of hsc T.bd T.el];simp only [↓reduceIte];unfold setAddByScan;refine zF ?_;refine zF (abJ ?_);refine zF (wpAny_setScan_of (knd:=PySem.strKind prog w) hkey T.get rfl T.fit T.el ?_);cases hr:List.findIdx? (fun e=>(PySem.strKind prog w).is x e.2) es.toList with
 | some j =>
  dsimp only;obtain⟨hj,hpj,_⟩:=List.findIdx?_eq_some_iff_getElem.mp hr;have hx:x∈t4 es:=hmem.mpr ⟨es.toList[j],aak hj,hpj⟩;refine zM (zM ?_);have q:=h s.heap (t4 es) (Heap.SameBut.refl a s.heap) ⟨es,ep,t,T,rfl,nd⟩ (.inl ⟨hx,rfl⟩);rw [aaw hx] at q;exact q
 | none =>
  dsimp only;have hx:x ∉ t4 es:=fun hk=>by
   obtain⟨e,he,hp⟩:=hmem.mp hk;have:=List.findIdx?_eq_none_iff.mp hr e he;rw [hp] at this;exact Bool.noConfusion this
  have hgw:∀ (b:Bool) {s₁:Shared} {Q':Unit->Shared->Prop},Q' () s₁->wpAny (model prog w) A (match b with | true=>rule "set.scan.the-table-gave-way" | false=>pure ()) Q' E s₁ :=
   fun b s₁ Q' hq=>by cases b<;>first | exact zM hq | exact abJ hq
  have hperm:=layNew_perm t es (hashStr w x) (.str x tk);have hfits:=layNew_fits t es (hashStr w x) (.str x tk);have hled:=p9 t es (hashStr w x) (.str x tk);generalize hL:layNew t es ((PySem.strKind prog w).hash x) (.str x tk)=L;have hL':layNew t es (hashStr w x) (.str x tk)=L:=hL;rw [hL'] at hperm hfits hled ⊢;obtain⟨es1,t1,wasDummy,gave⟩:=L;dsimp only at hperm hfits hled ⊢;rw [adp] at hperm;have hel1:ElemsOf (PySem.strKind prog w) es1.toList:=(T.el.push hkey hsc).perm hperm;have hb1':es1.size < scanBound:=by rw [← zR,hperm.length_eq,zH,zR];simpa using hb1
  refine zF (hgw _ ?_);have hend:∀ h' es' ep' t',Heap.SameBut a s.heap h'->TxAt prog w h' a es' ep' t'->es'.toList.Perm es1.toList->Q true { s with heap:=h' }:=by
   intro h' es' ep' t' hsb T' p';have p2:(t4 es').Perm (t4 es++[x]):=by
    have:=(p'.trans hperm).map (fun e=>strOf e.2);simpa [t4,strOf] using this
   have q:=h h' (t4 es') hsb ⟨es',ep',t',T',rfl,dE nd hx p2⟩ (.inr ⟨hx,p2⟩);rw [aah hx] at q;exact q
  split
  ·refine zF ?_;rw [hashByValue_scannable 8 hsc];refine zM ?_;refine gb ?_ T.get hel1 hb1' ?_ ?_ ?_ ?_
   ·intro b s₁ Q' hq;cases b<;>first | exact zM hq | exact abJ hq
   ·exact SetTable.fits_plain_off hfits
   ·exact hled.trans T.led
   ·rfl
   ·intro h' es' ep' t' hsb T' p';dsimp only;exact zM (hend h' es' ep' t' hsb T' p')
  ·rename_i hpl;refine zF (zM ?_);simp only [↓reduceIte];refine gb ?_ T.get hel1 hb1' hfits (hled.trans T.led) (by simpa using hpl) ?_
   ·intro b s₁ Q' hq;cases b<;>first | exact zM hq | exact abJ hq
   ·intro h' es' ep' t' hsb T' p';dsimp only;exact zM (hend h' es' ep' t' hsb T' p')
end
end
theorem jQ:entryFor table "set.__iter__" = some Builtin.«frozenset.__iter__» :=
 aec (id' := "frozenset.__iter__") (by kernel_rfl) rfl (by decide +kernel) (by kernel_rfl)
theorem slot_si_next:Slot "set_iterator" "__next__" "set_iterator.__next__" :=
 .of (owner := "set_iterator") (n := "__next__") (by rw [adX,acx];kernel_rfl) (by decide +kernel) (by decide +kernel) (by decide +kernel)
  (by first | exact .inl (by decide +kernel) | exact .inr (by decide +kernel)) (by rw [isSubtype_type];kernel_rfl)
theorem kZ:entryFor table "set_iterator.__next__" = some Builtin.«set_iterator.__next__»:=entryFor_of_tree (by kernel_rfl)
theorem pS:Manifest.owners.lookup (String.ofList ['r','o','t','a','r','e','t','i','_','t','e','s'].reverse)=some Manifest.sig_set_iterator:=by kernel_rfl
theorem lK (a:Value):argsOk "set_iterator.__next__" ⟨[a],[]⟩:=by
 unfold argsOk;rw [signature?_of (id := "set_iterator.__next__") (n:=['_','_','t','x','e','n','_','_']) (o:=['r','o','t','a','r','e','t','i','_','t','e','s']) (by kernel_rfl) pS];kernel_rfl
theorem iC:Slot "set_iterator" "__iter__" "set_iterator.__iter__" :=
 .of (owner := "set_iterator") (n := "__iter__") (by rw [adX,acx];kernel_rfl) (by decide +kernel) (by decide +kernel) (by decide +kernel)
  (by first | exact .inl (by decide +kernel) | exact .inr (by decide +kernel)) (by rw [isSubtype_type];kernel_rfl)
theorem kP:entryFor table "set_iterator.__iter__" = some Builtin.«dict_keyiterator.__iter__» :=
 aec (id' := "dict_keyiterator.__iter__") (by kernel_rfl) rfl (by decide +kernel) (by kernel_rfl)
theorem mP (a:Value):argsOk "set_iterator.__iter__" ⟨[a],[]⟩:=by
 unfold argsOk;rw [signature?_of (id := "set_iterator.__iter__") (n:=['_','_','r','e','t','i','_','_']) (o:=['r','o','t','a','r','e','t','i','_','t','e','s']) (by kernel_rfl) pS];kernel_rfl
def SIter (h:Heap)(it a:Addr)(first:Value)(i n ep:Nat):Prop :=
 ∃ o,h.get? it=some o/\o.cls=.type "set_iterator" ∧ o.data=.fields #[first,.int i 0,.ref a,.int n 0,.int ep 0]
theorem SIter.typeIs {s:Shared}{it a:Addr}{first:Value}{i n ep:Nat}(x:SIter s.heap it a first i n ep):s.TypeIs (.ref it) "set_iterator" := let ⟨o,ho,hc,_⟩:=x;⟨o,ho,hc⟩
theorem SIter.at' {h h':Heap}{it a:Addr}{first:Value}{i n ep:Nat}(x:SIter h it a first i n ep)(k:∀ o,h.get? it=some o->h'.get? it=some o):SIter h' it a first i n ep:=let ⟨o,ho,r⟩:=x;⟨o,k _ ho,r⟩
section
variable {prog:Program}{w:World}{A:Around}{E:Value->Shared->Prop}{s:Shared}{a I:Addr}{es:Array (Int×Value)}{ep:Nat}{t:SetTable}
theorem hJ (es:Array (Int×Value)){ps:List Nat}(h:ps.Perm (List.range es.size)):(ps.filterMap fun p=>es[p]?).Perm es.toList:=by
 have:=h.filterMap fun p=>es[p]?
 rwa [filterMap_getElem?_range] at this
theorem iE (es:Array (Int×Value)):∀ (ps:List Nat),(∀ p∈ps,p < es.size)->∀ i:Nat,(ps.filterMap fun p=>es[p]?)[i]? = (ps[i]?).bind fun p=>es[p]?
 | [],_,i=>by simp
 | p::r,h,i=>by
  have hp:p < es.size:=h p z7;rw [List.filterMap_cons_some (b:=es[p]) (by simp [hp])];cases i with
  | zero=>simp [hp]
  | succ i =>
   rw [ac4,ac4];exact iE es r (fun q hq=>h q (z8 _ hq)) i
theorem uq {Q:Option Value->Shared->Prop}{s₁:Shared}(hh:A.handled=none)(hQ:∀ h',(∀ b o,s₁.heap.get? b=some o->h'.get? b=some o)->Q none { s₁ with heap:=h' }) :
 wpAny (model prog w) A.in1 (do raiseNew (← newExc (.type "StopIteration") [])) (fun fin s'=>∃ r,fin=Fin.done (.ret r)/\wpAny (model prog w) A (match Except.ok (ε:=Value) (some r) with | .ok (some v)=>pure (some v) | .ok none=>unsupported "x" | .error e=>throw e) Q E s')
  (fun e s'=>wpAny (model prog w) A (do if ← isInstance e (.type "StopIteration") then pure none else throw e) Q E s') s₁:=by
 refine zF ?_;simp only [newExc,newTuple];refine zF (abm ?_ (by size_fits));refine zF (m:=firstArgMember _ _) (wpAny_of_eq (a:=Value.none) (by first | rfl | (simp only [firstArgMember];rfl)) ?_);refine abm ?_ (by size_fits);simp only [raiseNew];refine zF (wpAny_handled ?_);rw [show A.in1.handled=none from hh];refine zF (zM (wpAny_throw ?_));refine zF (adF (T := "StopIteration") (b:=true) ⟨_,zW _ rfl,rfl⟩ isSubtype_stop ?_);exact zM (hQ _ fun b o e=>zK _ (zK _ e))
end
def h9 (es:Array (Int×Value))(t:SetTable)(slot:Nat):Option (Value×Nat) :=
 match es[SetTable.below t.place slot]?,t.place[SetTable.below t.place slot]? with
  | some (_,x),some j=>some (x,j+1)
  | _,_=>none
def vZ (b:Bool):Sem Unit:=do
 if b then unsupported "set:maker-not-led"
theorem oh (a:Addr):setDrawn a=(do
 let (es,_,t) ← setState a
 let byText ← setsByText
 return !byText && (!t.plain && decide (es.size > 1))):=rfl
theorem qc (a:Addr):setWalk a=(do
 let (es,epoch,t) ← setState a
 if ← setsByText then return pickOrder ((← ask).params.setOrder a epoch) es
 if (!t.plain && decide (es.size > 1)) then return (← drawOrder es.size es.toList).toArray
 vZ (!t.led && decide (es.size > 1)) >>= fun _=>pure es):=rfl
theorem kG (a:Addr)(slot given epochThen:Nat):setNext a slot given epochThen=(do
 let (es,epoch,t) ← setState a
 if ← setsByText then
  if epoch != epochThen then unsupported "set_iterator.__next__:elements-changed"
  return ((← setWalk a)[given]?).map fun e=>(e.2,slot)
 if (!t.plain && decide (es.size > 1)) then unsupported "set_iterator.__next__:the-table-is-plain-no-more"
 vZ (!t.led && !es.isEmpty) >>= fun _=>pure (h9 es t slot)):=rfl
section
variable {prog:Program}{w:World}{A:Around}{E:Value->Shared->Prop}{s:Shared}{a I T:Addr}{es:Array (Int×Value)}{ep:Nat}{t:SetTable}{ps:List Nat}
theorem cz {Q:Bool->Shared->Prop}(h:Q (w.params.followText "set-order") s):wpAny (model prog w) A setsByText Q E s:=by
 unfold setsByText;exact zF (aeH (zM h))
end
section
variable {prog:Program}{w:World}{A:Around}{E:Value->Shared->Prop}{s:Shared}{a I T:Addr}{es:Array (Int×Value)}{ep:Nat}{t:SetTable}{ps:List Nat}{i:Nat}
theorem nS {f x:Value}{n:Nat}{Q:Unit->Shared->Prop}(hit:SIter s.heap I a f i n ep)(h:∀ h',SIter h' I a x i n ep->Heap.SameBut I s.heap h'->Q () { s with heap:=h' }):wpAny (model prog w) A (setField (.ref I) 0 x) Q E s:=by
 obtain⟨o,ho,hc,hd⟩:=hit;refine wpAny_setField ho hd (by simp) (h _ ⟨_,abC _ ho (Obj.isFreed_of_fields (ac5 hd _)),(Obj.cls_mapFields ..).trans hc,by rw [ac5 hd];simp⟩ (ab9 ..))
theorem sy {f:Value}{n:Nat}{Q:Unit->Shared->Prop}(hit:SIter s.heap I a f i n ep)(h:∀ h',SIter h' I a f (i+1) n ep->Heap.SameBut I s.heap h'->Q () { s with heap:=h' }):wpAny (model prog w) A (setField (.ref I) 1 (rawInt ((i:Int)+1))) Q E s:=by
 obtain⟨o,ho,hc,hd⟩:=hit;refine wpAny_setField ho hd (by simp) (h _ ⟨_,abC _ ho (Obj.isFreed_of_fields (ac5 hd _)),(Obj.cls_mapFields ..).trans hc,by rw [ac5 hd];simp [rawInt]⟩ (ab9 ..))
theorem ou {f:Value}{n:Nat}{Q:Unit->Shared->Prop}(hit:SIter s.heap I a f i n ep)(h:∀ h',Heap.SameBut I s.heap h'->Q () { s with heap:=h' }):wpAny (model prog w) A (setField (.ref I) 2 .none) Q E s:=by
 obtain⟨o,ho,hc,hd⟩:=hit;exact wpAny_setField ho hd (by simp) (h _ (ab9 ..))
theorem jz {h h':Heap}(x:Heap.SameBut I h h'):∀ b o,b≠I->h.get? b=some o->h'.get? b=some o:=fun b o hb e=>(x.2 b hb).trans e
theorem wg {Q:Value->Shared->Prop}{f:Value}{n:Nat}(hit:SIter s.heap I a f i n ep)(h:Q (.ref I) s):wpAny (model prog w) A (pyIter (.ref I)) Q E s:=by
 refine aen hit.typeIs iC (aaX iC hit.typeIs kP ?_ (mP _));show wpAny _ _ (ret (.ref I)) _ _ s;exact zM ⟨_,rfl,"set_iterator",_,hit.typeIs,slot_si_next.lookup,h⟩
end
def UpP (xs:Array Nat):Prop:=∀ i j:Nat,i < j->j < xs.size->xs.getD i 0 < xs.getD j 0
theorem vh (xs:Array Nat)(j:Nat)(u:UpP xs):∀ (fuel lo hi:Nat),hi - lo<=fuel->lo<=hi->hi<=xs.size->(∀ k,k < lo->xs.getD k 0 < j)->(∀ k,hi<=k->k < xs.size->j<=xs.getD k 0) →
 SetTable.below.go xs j fuel lo hi<=xs.size/\(∀ k,k < SetTable.below.go xs j fuel lo hi->xs.getD k 0 < j)/\(∀ k,SetTable.below.go xs j fuel lo hi<=k->k < xs.size->j<=xs.getD k 0):=by
 intro fuel
 induction fuel with
 | zero =>
  intro lo hi h1 h2 h3 h4 h5;have:lo=hi:=by lia
  subst this;exact⟨h3,h4,h5⟩
 | succ fuel ih =>
  intro lo hi h1 h2 h3 h4 h5;unfold SetTable.below.go;by_cases hl:lo < hi
  ·rw [if_pos hl];dsimp only;rw [show xs.getD ((lo+hi) / 2) j=xs.getD ((lo+hi) / 2) 0 by simp only [adY];rw [aaL (by lia)];rfl];by_cases hm:xs.getD ((lo+hi) / 2) 0 < j
   ·rw [if_pos hm];refine ih _ _ (by lia) (by lia) h3 (fun k hk=>?_) h5;by_cases e:k=(lo+hi) / 2
    ·rw [e];exact hm
    ·exact Nat.lt_trans (u k _ (by lia) (by lia)) hm
   ·rw [if_neg hm];refine ih _ _ (by lia) (by lia) (by lia) h4 (fun k hk hs=>?_);by_cases e:k=(lo+hi) / 2
    ·rw [e];lia
    ·have:=u ((lo+hi) / 2) k (by lia) hs;lia
  ·rw [if_neg hl];have:lo=hi:=by lia
   subst this;exact⟨h3,h4,h5⟩
theorem pP {xs:Array Nat}(u:UpP xs)(j:Nat):SetTable.below xs j<=xs.size/\(∀ k,k < SetTable.below xs j->xs.getD k 0 < j)/\(∀ k,SetTable.below xs j<=k->k < xs.size->j<=xs.getD k 0) :=
 vh xs j u _ _ _ (by lia) (zZ _) (zP _) (fun k h=>absurd h (ac6 k)) (fun k h1 h2=>by lia)
theorem qe {xs:Array Nat}(u:UpP xs):SetTable.below xs 0=0:=by
 obtain⟨h1,h2,h3⟩:=pP u 0;by_cases e:SetTable.below xs 0=0
 ·exact e
 ·exact absurd (h2 0 (by lia)) (by lia)
theorem qq {xs:Array Nat}(u:UpP xs){i:Nat}(hi:i < xs.size):SetTable.below xs (xs.getD i 0+1)=i+1:=by
 obtain⟨h1,h2,h3⟩:=pP u (xs.getD i 0+1);by_cases a:i < SetTable.below xs (xs.getD i 0+1)
 ·by_cases b:SetTable.below xs (xs.getD i 0+1)<=i+1
  ·lia
  ·have q:=h2 (i+1) (by lia);have:=u i (i+1) (by lia) (by lia);lia
 ·have:=h3 i (by lia) hi;lia
end L2
namespace L2
open PySem PySem.Spec PyProof.Rows PySem.W
structure SbAt (w:World)(h:Heap)(a:Addr)(es:Array (Int×Value))(ep:Nat)(t:SetTable):Prop where
 get:h.get? a=some { cls:=.type "set",dict:=none,data:=.set es ep t,slots:=#[] }
 bd:es.size < scanBound
 fit:t.fits es.size=true
 led:t.led=!w.params.followText "set-order"
 up:¬ ((!t.plain && decide (es.size > 1))=true)->UpP t.place
theorem SbAt.at' {w:World}{h h':Heap}{a:Addr}{es:Array (Int×Value)}{ep:Nat}{t:SetTable}(x:SbAt w h a es ep t)(k:∀ o,h.get? a=some o->h'.get? a=some o):SbAt w h' a es ep t:=⟨k _ x.get,x.bd,x.fit,x.led,x.up⟩
theorem TxAt.sb {prog:Program}{w:World}{h:Heap}{a:Addr}{es:Array (Int×Value)}{ep:Nat}{t:SetTable}(x:TxAt prog w h a es ep t):SbAt w h a es ep t:=⟨x.get,x.bd,x.fit,x.led,fun n i j ij hj=>by
 have hp:t.place.size=es.size:=by
  have:=x.fit;simp only [SetTable.fits,aa8,aag] at this;exact this.1
 refine absurd ?_ n;rcases x.pl with q | q
 ·rw [q,aaw (show es.size > 1 by lia)];rfl
 ·subst q;rw [hp] at hj;exact absurd hj (ac6 j)⟩
def dP (t:SetTable)(i:Nat):Nat:=if i=0 then 0 else t.place.getD (i - 1) 0+1
section
variable {prog:Program}{w:World}{A:Around}{E:Value->Shared->Prop}{s:Shared}{a I:Addr}{es:Array (Int×Value)}{ep:Nat}{t:SetTable}
def bE (w:World)(es:Array (Int×Value))(t:SetTable)(T:Addr)(i:Nat):Value :=
 if w.params.followText "set-order" = true then .int 0 0 else if (!t.plain && decide (es.size > 1))=true then .ref T else .int ((dP t i:Nat):Int) 0
def cP (w:World)(a:Addr)(es:Array (Int×Value))(ep:Nat)(t:SetTable)(ps:List Nat):List (Int×Value) :=
 if w.params.followText "set-order" = true then (pickOrder (w.params.setOrder a ep) es).toList else if (!t.plain && decide (es.size > 1))=true then ps.filterMap fun p=>es[p]? else es.toList
theorem gq {ps:List Nat}(hps:ps.Perm (List.range es.size)):(cP w a es ep t ps).Perm es.toList:=by
 unfold cP;split
 ·exact fZ _ _
 ·split
  ·exact hJ es hps
  ·exact .rfl
structure SStY (prog:Program)(w:World)(a I T:Addr)(es:Array (Int×Value))(ep:Nat)(t:SetTable)(ps:List Nat)(i:Nat)(h:Heap):Prop where
 set:SbAt w h a es ep t
 it:SIter h I a (bE w es t T i) i es.size ep
 tup:w.params.followText "set-order" = false->(!t.plain && decide (es.size > 1))=true->IsTup h T (ps.map fun (p:Nat)=>Value.int p 0).toArray
end
section
variable {prog:Program}{w:World}{A:Around}{E:Value->Shared->Prop}{s:Shared}{a I T:Addr}{es:Array (Int×Value)}{ep:Nat}{t:SetTable}{ps:List Nat}
theorem lO {Q:Bool->Shared->Prop}(x:SbAt w s.heap a es ep t)(h:Q (!w.params.followText "set-order" && (!t.plain && decide (es.size > 1))) s):wpAny (model prog w) A (setDrawn a) Q E s:=by
 rw [oh];refine zF (ab0 x.get rfl x.fit ?_);dsimp only;refine zF (cz (zM ?_));exact h
theorem lB {Q:Array (Int×Value)->Shared->Prop}(x:SbAt w s.heap a es ep t)(ht:w.params.followText "set-order" = true)(h:Q (pickOrder (w.params.setOrder a ep) es) s):wpAny (model prog w) A (setWalk a) Q E s:=by
 rw [qc];refine zF (ab0 x.get rfl x.fit ?_);dsimp only;refine zF (cz ?_);rw [ht];simp only [acK];exact zF (aeH (zM h))
theorem gG {Q:Option (Value×Nat)->Shared->Prop}{given:Nat}(x:SbAt w s.heap a es ep t)(ht:w.params.followText "set-order" = true)(h:Q (((pickOrder (w.params.setOrder a ep) es)[given]?).map fun e=>(e.2,0)) s) :
 wpAny (model prog w) A (setNext a 0 given ep) Q E s:=by
 rw [kG];refine zF (ab0 x.get rfl x.fit ?_);dsimp only;refine zF (cz ?_);rw [ht];simp only [acK,abz,aaf,abq];refine zF (lB x ht (zM h))
theorem iz {Q:Option (Value×Nat)->Shared->Prop}{slot given:Nat}(x:SbAt w s.heap a es ep t)(ht:w.params.followText "set-order" = false)(hs:¬ ((!t.plain && decide (es.size > 1))=true))
 (h:Q (h9 es t slot) s) :
 wpAny (model prog w) A (setNext a slot given ep) Q E s:=by
 rw [kG];refine zF (ab0 x.get rfl x.fit ?_);dsimp only;refine zF (cz ?_);have hl:t.led=true:=by rw [x.led,ht];rfl
 rw [ht];simp only [aaf,abq,Bool.eq_false_iff.mpr hs,hl,Bool.not_true,Bool.false_and,vZ];exact zF (zM (zM h))
theorem sW (x:SbAt w s.heap a es ep t):t.place.size=es.size:=by
 have:=x.fit;simp only [SetTable.fits,aa8,aag] at this;exact this.1
theorem i8 (x:SbAt w s.heap a es ep t)(hs:¬ ((!t.plain && decide (es.size > 1))=true)){i:Nat}(hi:i<=es.size):SetTable.below t.place (dP t i)=i:=by
 unfold dP;have hp:=sW x;cases i with
 | zero=>rw [if_pos rfl];exact qe (x.up hs)
 | succ i=>rw [if_neg (Nat.succ_ne_zero i)];exact qq (x.up hs) (by lia)
theorem lx (x:SbAt w s.heap a es ep t)(hs:¬ ((!t.plain && decide (es.size > 1))=true)){i:Nat}(hi:i < es.size):h9 es t (dP t i)=some (es[i].2,dP t (i+1)):=by
 have hp:=sW x;unfold h9;rw [i8 x hs (aan hi),aaL hi,aaL (show i < t.place.size by lia)];show some (es[i].2,t.place[i]+1)=_;unfold dP;rw [if_neg (Nat.succ_ne_zero i),Nat.add_sub_cancel,adY,aaL (show i < t.place.size by lia)]
 rfl
theorem mx (x:SbAt w s.heap a es ep t)(hs:¬ ((!t.plain && decide (es.size > 1))=true)):h9 es t (dP t es.size)=none:=by
 unfold h9;rw [i8 x hs (zP _),adl (zP _)]
end
section
variable {prog:Program}{w:World}{A:Around}{E:Value->Shared->Prop}{s:Shared}{a I T:Addr}{es:Array (Int×Value)}{ep:Nat}{t:SetTable}{ps:List Nat}{i:Nat}
theorem SStY.next {s':Heap}(hit:SStY prog w a I T es ep t ps i s')(hI:a≠I)(hT:T≠I)(i':Nat){h':Heap}(he:SIter h' I a (bE w es t T i') i' es.size ep)(k:∀ b o,b≠I->s'.get? b=some o->h'.get? b=some o):SStY prog w a I T es ep t ps i' h' :=
 ⟨hit.set.at' fun o e=>k a o hI e,he,fun h1 h2=>by
  obtain⟨o,e,c⟩:=hit.tup h1 h2;exact⟨o,k T o hT e,c⟩⟩
theorem km {Q:Option Value->Shared->Prop}(hst:SStY prog w a I T es ep t ps i s.heap)
 (h:wpAny (model prog w) A.in1 (match bE w es t T i with
 | Value.int slot tok=>do
  match ← setNext a slot.toNat (i:Int).toNat (ep:Int).toNat with
   | some (x,next)=>do
    setField (Value.ref I) 0 (rawInt (next:Nat))
    setField (Value.ref I) 1 (rawInt ((i:Int)+1))
    ret x
   | none=>do
    setField (Value.ref I) 2 Value.none
    raiseNew (← newExc (Value.type "StopIteration") [])
 | _=>do
  let some places ← seqItems? (bE w es t T i) | unsupported "internal:set_iterator"
  match places[(i:Int).toNat]? with
   | some (Value.int place tok)=>do
    let x ← setNextDrawn a place.toNat (ep:Int).toNat
    setField (Value.ref I) 1 (rawInt ((i:Int)+1))
    ret x
   | some _=>unsupported "internal:set_iterator"
   | none=>do
    setField (Value.ref I) 0 (rawInt 0)
    setField (Value.ref I) 2 Value.none
    raiseNew (← newExc (Value.type "StopIteration") []))
 (fun fin s'=>∃ v,fin=Fin.done (Flow.ret v)/\wpAny (model prog w) A (pure (some v)) Q E s')
 (fun e s' =>
  wpAny (model prog w) A
   (do
    if ← isInstance e (Value.type "StopIteration") then pure none else throw e)
   Q E s')
 s):wpAny (model prog w) A (pyNext (.ref I)) Q E s:=by
 obtain⟨o,ho,hc,hd⟩:=id hst.it;obtain⟨oc,odict,odata,oslots⟩:=o;simp only at hc hd;subst hc hd;unfold pyNext;refine zF (aey (wpAny_callSpecial?_slot (name:=Str.ofString "__next__") hst.it.typeIs slot_si_next
  (aaX slot_si_next hst.it.typeIs kZ ?_ (lK _))))
 unfold Builtin.«set_iterator.__next__»;refine zF (zM ?_);refine zF (wpAny_fieldsOf ho rfl ?_);dsimp only;refine zF (wpAny_setEntries_of hst.set.get rfl hst.set.fit ?_);simp only [abz,aaf,abq];exact h
theorem iI {Q:Value->Shared->Prop}{p:Nat}{e:Int×Value}(x:SbAt w s.heap a es ep t)(hp:es[p]? = some e)(h:Q e.2 s):wpAny (model prog w) A (setNextDrawn a p ep) Q E s:=by
 unfold setNextDrawn;refine zF (ab0 x.get rfl x.fit ?_);simp only [abz,aaf,abq,hp];exact zM h
theorem jN {Q:Option Value->Shared->Prop}(hst:SStY prog w a I T es ep t ps i s.heap)(hps:ps.Perm (List.range es.size))(hI:a≠I)(hT:T≠I)(hi:i < es.size)
 (hQ:∀ v h' tk,(cP w a es ep t ps)[i]?.map (·.2)=some v->SStY prog w a I T es ep t ps (i+1) h'->(∀ b o,b≠I->s.heap.get? b=some o->h'.get? b=some o)->Q (some v) { s with heap:=h',toks:=tk }) :
 wpAny (model prog w) A (pyNext (.ref I)) Q E s:=by
 refine km hst ?_;have ol:(cP w a es ep t ps).length=es.size:=by rw [(gq (w:=w) (a:=a) (ep:=ep) (t:=t) hps).length_eq,zR]
 obtain⟨e,he⟩:∃ e,(cP w a es ep t ps)[i]? = some e:=⟨_,zG (by lia)⟩;have hit:=hst.it;rw [aaY,aaY];cases hb:w.params.followText "set-order" with
 | true =>
  have ef:∀ j,bE w es t T j=.int 0 0:=fun j=>by unfold bE;rw [if_pos hb]
  rw [ef i] at hit ⊢;dsimp only;rw [Int.toNat_zero];refine zF (gG hst.set hb ?_);have e2:(pickOrder (w.params.setOrder a ep) es)[i]? = some e:=by
   unfold cP at he;rw [if_pos hb,aao] at he;exact he
  rw [e2];dsimp only [Option.map];refine zF (nS (x:=.int 0 0) hit fun h1 it1 k1=>?_);refine zF (sy it1 fun h2 it2 k2=>?_);have k12:=(k1.trans k2);exact zM ⟨_,rfl,zM (hQ e.2 h2 s.toks (by rw [he];rfl) (hst.next hI hT (i+1) (by rw [ef];exact it2) (jz k12)) (jz k12))⟩
 | false =>
  by_cases hs:(!t.plain && decide (es.size > 1))=true
  ·have ef:∀ j,bE w es t T j=.ref T:=fun j=>by unfold bE;rw [if_neg (by rw [hb];exact zO),if_pos hs]
   rw [ef i] at hit ⊢;dsimp only;obtain⟨oT,hoT,hcT,nT,hdT⟩:=hst.tup hb hs;have hlt:i < ps.length:=by rw [hps.length_eq,ado];exact hi
   refine zF (adx hoT hdT ?_);dsimp only;have e1:(ps.map fun (p:Nat)=>Value.int p 0).toArray[i]? = some (.int ps[i] 0):=by simp [hlt]
   rw [e1];dsimp only;rw [aaY];have pl:∀ p∈ps,p < es.size:=fun p hp=>afh.mp (hps.mem_iff.mp hp);have e2:es[ps[i]]? = some e:=by
    unfold cP at he;rw [if_neg (by rw [hb];exact zO),if_pos hs,iE es ps pl i,zG hlt] at he;exact he
   refine zF (iI hst.set e2 ?_);refine zF (sy hit fun h2 it2 k2=>?_);exact zM ⟨_,rfl,zM (hQ e.2 h2 s.toks (by rw [he];rfl) (hst.next hI hT (i+1) (by rw [ef];exact it2) (jz k2)) (jz k2))⟩
  ·have ef:∀ j,bE w es t T j=.int ((dP t j:Nat):Int) 0:=fun j=>by unfold bE;rw [if_neg (by rw [hb];exact zO),if_neg hs]
   rw [ef] at hit ⊢;dsimp only;rw [aaY];refine zF (iz hst.set hb hs ?_);have e2:e=es[i]:=by
    unfold cP at he;rw [if_neg (by rw [hb];exact zO),if_neg hs,aao,aaL hi] at he;injection he with he
    exact he.symm
   rw [lx hst.set hs hi];dsimp only;refine zF (nS (x:=.int ((dP t (i+1):Nat):Int) 0) hit fun h1 it1 k1=>?_);refine zF (sy it1 fun h2 it2 k2=>?_);have k12:=(k1.trans k2);exact zM ⟨_,rfl,zM (hQ es[i].2 h2 s.toks (by rw [he,e2];rfl) (hst.next hI hT (i+1) (by rw [ef];exact it2) (jz k12)) (jz k12))⟩
theorem jH {Q:Option Value->Shared->Prop}(hh:A.handled=none)(hst:SStY prog w a I T es ep t ps es.size s.heap)(hps:ps.Perm (List.range es.size))
 (hQ:∀ h' tk,(∀ b o,b≠I->s.heap.get? b=some o->h'.get? b=some o)->Q none { s with heap:=h',toks:=tk }) :
 wpAny (model prog w) A (pyNext (.ref I)) Q E s:=by
 refine km hst ?_;have hit:=hst.it;have fin:∀ {h1:Heap},Heap.SameBut I s.heap h1->wpAny (model prog w) A.in1 (do raiseNew (← newExc (.type "StopIteration") [])) (fun fin s'=>∃ v,fin=Fin.done (Flow.ret v)/\wpAny (model prog w) A (pure (some v)) Q E s')
  (fun e s'=>wpAny (model prog w) A (do if ← isInstance e (Value.type "StopIteration") then pure none else throw e) Q E s') { s with heap:=h1 }:=fun {h1} k1 =>
  uq (s₁:={ s with heap:=h1 }) hh fun h' k=>hQ h' s.toks fun b o hb e=>k b o (jz k1 b o hb e)
 rw [aaY,aaY];cases hb:w.params.followText "set-order" with
 | true =>
  have ef:∀ j,bE w es t T j=.int 0 0:=fun j=>by unfold bE;rw [if_pos hb]
  rw [ef] at hit ⊢;dsimp only;rw [Int.toNat_zero];refine zF (gG hst.set hb ?_);have e2:(pickOrder (w.params.setOrder a ep) es)[es.size]? = none:=by
   have:=(fZ (w.params.setOrder a ep) es).length_eq;rw [zR,zR] at this;exact adl (by lia)
  rw [e2];dsimp only [Option.map];exact zF (ou hit fun h1 k1=>fin k1)
 | false =>
  by_cases hs:(!t.plain && decide (es.size > 1))=true
  ·have ef:∀ j,bE w es t T j=.ref T:=fun j=>by unfold bE;rw [if_neg (by rw [hb];exact zO),if_pos hs]
   rw [ef] at hit ⊢;dsimp only;obtain⟨oT,hoT,hcT,nT,hdT⟩:=hst.tup hb hs;refine zF (adx hoT hdT ?_);dsimp only;have e1:(ps.map fun (p:Nat)=>Value.int p 0).toArray[es.size]? = none:=by
    have:=hps.length_eq;rw [ado] at this;simp [this]
   rw [e1];dsimp only;refine zF (nS (x:=.int 0 0) hit fun h1 it1 k1=>?_);exact zF (ou it1 fun h2 k2=>fin (k1.trans k2))
  ·have ef:∀ j,bE w es t T j=.int ((dP t j:Nat):Int) 0:=fun j=>by unfold bE;rw [if_neg (by rw [hb];exact zO),if_neg hs]
   rw [ef] at hit ⊢;dsimp only;rw [aaY];refine zF (iz hst.set hb hs ?_);rw [mx hst.set hs];dsimp only;exact zF (ou hit fun h1 k1=>fin k1)
theorem Walks.setY (hh:A.handled=none)(hI:a≠I)(hT:T≠I)(hps:ps.Perm (List.range es.size)) :
 Walks prog w A I [I,a,T] [I] es.size (fun i v=>(cP w a es ep t ps)[i]?.map (·.2)=some v) (fun i h=>SStY prog w a I T es ep t ps i h) where
 sub:=fun b hb=>by simp at hb;simp [hb]
 frame:=fun i h h' st hk=>⟨st.set.at' fun o e=>hk a (by simp) o e,st.it.at' fun o e=>hk I (by simp) o e,fun h1 h2=>let ⟨o,e,c⟩:=st.tup h1 h2;⟨o,hk T (by simp) o e,c⟩⟩
 item:=fun i s Q E hi st hQ=>jN st hps hI hT hi fun v h' tk e st' k=>hQ v h' tk e st' fun b o hb q=>k b o (fun z=>hb (by simp [z])) q
 done:=fun s Q E st hQ=>jH hh st hps fun h' tk k=>hQ h' tk fun b o hb q=>k b o (fun z=>hb (by simp [z])) q
 self:=fun i s Q E st hQ=>wg st.it hQ
theorem nF {Q:Value->Shared->Prop}(x:SbAt w s.heap a es ep t)
 (h:∀ (I T:Addr) (ps:List Nat) (h':Heap) (d:Drawn),ps.Perm (List.range es.size)->a≠I->T≠I->s.heap.objs.size<=I->(T=a\/s.heap.objs.size<=T)->I < h'.objs.size->T < h'.objs.size->SStY prog w a I T es ep t ps 0 h'->(∀ b o,s.heap.get? b=some o->h'.get? b=some o)->Q (.ref I) { s with heap:=h',drawn:=d }) :
 wpAny (model prog w) A (pyIter (.ref a)) Q E s:=by
 have hT:s.TypeIs (.ref a) "set" := ⟨_,x.get,rfl⟩;have hlt:a < s.heap.objs.size:=zN x.get;refine aen hT F.slot_set_iter (aaX F.slot_set_iter hT jQ ?_ (F.args_set_iter_1 _));unfold Builtin.«frozenset.__iter__» Builtin.Frozenset.slot0 slotArgs;simp only [List.isEmpty_nil,Bool.not_true,aaf,↓reduceIte,bind_assoc,aeO,abz];unfold Builtin.Frozenset.addrOf Builtin.Frozenset.sizeOf;refine zF (zM ?_)
 try dsimp only
 refine zF (zM ?_);refine zF (zF (wpAny_setEntries_of x.get rfl x.fit (zM ?_)));refine zF (lO x ?_);have fin:∀ (T:Addr) (ps:List Nat) (h1:Heap) (d:Drawn),ps.Perm (List.range es.size)->(T=a\/s.heap.objs.size<=T)->T < h1.objs.size->(∀ b o,s.heap.get? b=some o->h1.get? b=some o)->s.heap.objs.size<=h1.objs.size →
  (w.params.followText "set-order" = false->(!t.plain && decide (es.size > 1))=true->IsTup h1 T (ps.map fun (p:Nat)=>Value.int p 0).toArray) →
  wpAny (model prog w) A.in1 (do
   let r ← newFields "set_iterator" [bE w es t T 0,rawInt 0,Value.ref a,rawInt (es.size:Nat),rawInt (ep:Nat)]
   ret r) (fun fin s'=>∃ v,fin=Fin.done (Flow.ret v)/\∃ T' r,s'.TypeIs v T'/\typeLookup (Value.type T') (Str.ofString "__next__")=pure (some r)/\Q v s') E { s with heap:=h1,drawn:=d }:=fun T ps h1 d hps hTa hTl k hz hp=>by
  refine zF (abm (zM ⟨_,rfl,"set_iterator",_,⟨_,zW _ rfl,rfl⟩,slot_si_next.lookup,?_⟩));have k2:∀ b o,h1.get? b=some o->(h1.push { cls:=.type "set_iterator",data:=.fields #[bE w es t T 0,rawInt 0,Value.ref a,rawInt (es.size:Nat),rawInt (ep:Nat)] }).get? b=some o:=fun b o e=>zK _ e;refine h h1.objs.size T ps (h1.push { cls:=.type "set_iterator",data:=.fields #[bE w es t T 0,rawInt 0,Value.ref a,rawInt (es.size:Nat),rawInt (ep:Nat)] }) d hps (zY (zX hlt hz)) (zY hTl) hz hTa (by rw [abj];exact acg _) (by rw [abj];exact aaM hTl) ⟨x.at' fun o e=>k2 _ _ (k _ _ e),⟨_,zW _ rfl,rfl,rfl⟩,fun h1 h2=>?_⟩ fun b o e=>k2 _ _ (k _ _ e);obtain⟨o,e,c⟩:=hp h1 h2;exact⟨o,k2 _ _ e,c⟩
 by_cases hd:w.params.followText "set-order" = false/\(!t.plain && decide (es.size > 1))=true
 ·have e1:(!w.params.followText "set-order" && (!t.plain && decide (es.size > 1)))=true:=by rw [hd.1,hd.2];rfl
  rw [e1];simp only [acK];refine zF (fk _ _ _ _ (by simp) fun ys d p=>?_);simp only [newTuple];have hys:ys.length<=sizeLine:=by rw [p.length_eq,ado];exact adq x.bd
  refine zF (abm ?_ (by show (List.map (fun (i:Nat)=>rawInt i) ys).toArray.size<=sizeLine;simpa using hys));refine zF (wpAny_setEpoch_of (zK _ x.get) rfl x.fit ?_);have ef:bE w es t s.heap.objs.size 0=.ref s.heap.objs.size:=by unfold bE;rw [if_neg (by rw [hd.1];exact zO),if_pos hd.2]
  have q:=fin s.heap.objs.size ys (s.heap.push { cls:=.type "tuple",data:=.seq (ys.map fun (p:Nat)=>Value.int p 0).toArray }) d p (.inr (zP _)) (by rw [abj];exact acg _) (fun b o e=>zK _ e) (by rw [abj];exact aa6 _) (fun _ _=>⟨_,zW _ rfl,rfl,_,rfl⟩);rw [ef] at q;exact q
 ·have e1:(!w.params.followText "set-order" && (!t.plain && decide (es.size > 1)))=false:=by
   rw [Bool.eq_false_iff];intro z;rw [aa8,Bool.not_eq_true'] at z;exact hd z
  rw [e1];simp only [aaf,abq];refine zF (zM ?_);refine zF (wpAny_setEpoch_of x.get rfl x.fit ?_);have ef:bE w es t a 0=rawInt 0:=by
   unfold bE;split
   ·rfl
   ·split
    ·rename_i q1 q2;exact absurd ⟨by simpa using q1,q2⟩ hd
    ·rfl
  have q:=fin a (List.range es.size) s.heap s.drawn .rfl (.inl rfl) hlt (fun _ _ e=>e) (zP _) (fun h1 h2=>absurd ⟨h1,h2⟩ hd);rw [ef] at q;exact q
end
section
variable {prog:Program}{w:World}{A:Around}{E:Value->Shared->Prop}{s:Shared}{a I T:Addr}{es:Array (Int×Value)}{ep:Nat}{t:SetTable}{ps:List Nat}{i:Nat}
theorem uK {Q:Bool->Shared->Prop}(hT:s.TypeIs (.ref a) "set")(h:Q false s):wpAny (model prog w) A (Builtin.List.listLengthHint (.ref a)) Q E s:=by
 unfold Builtin.List.listLengthHint;refine zF (wpAny_specialOf hT PySem.F.slot_set_len.lookup ?_);generalize hid:("set.__len__" : String)=id0
 wp_delta
 rw [show splitId id0=some ("set","__len__") from by subst hid;decide +kernel];subst hid;refine zF (adF (T := "set") (b:=true) hT (by rw [isSubtype_type];kernel_rfl) ?_);refine aeU (fun hab=>absurd hab (by decide)) (fun _=>?_);refine aeU (fun _=>?_) (fun hab=>absurd (by decide +kernel) hab);refine zF (aeV hT ?_);exact zM h
theorem oz {R:Result->Shared->Prop}(hh:A.handled=none)(x:SbAt w s.heap a es ep t)(S:Addr)(hSa:S≠a)(res:Value)(c₀:Nat)(hS:s.heap.get? S=some { cls:=.type "list",data:=.seq #[] c₀ })
 (hR:∀ h' d tk acc' c' ps,ps.Perm (List.range es.size)->(∀ b o,b≠S->s.heap.get? b=some o->h'.get? b=some o)->h'.get? S=some { cls:=.type "list",dict:=none,data:=.seq acc' c',slots:=#[] }->ItemsOf (fun i v=>(cP w a es ep t ps)[i]?.map (·.2)=some v) acc' es.size->R (.ok (.ret res)) { s with heap:=h',drawn:=d,toks:=tk }) :
 wpAny (model prog w) A.in1 (Builtin.List.listExtendWith (.ref S) (.ref a) res)
  (fun fin s'=>match fin with | .done f=>R (.ok f) s' | .again c'=>c'.quiet=true/\codeAny (model prog w) A c' R s') (fun e s'=>R (.error e) s') s:=by
 have hn:es.size<=sizeLine:=adq x.bd;have hSlt:S < s.heap.objs.size:=zN hS;unfold Builtin.List.listExtendWith;refine zF (aeV (T := "set") ⟨_,x.get,rfl⟩ ?_);have h1:Builtin.List.listSameRef (.ref S) (.ref a)=false:=by simp [Builtin.List.listSameRef,hSa]
 have h2:(Value.type "set" == Value.type "list")=false:=by decide
 have h3:(Value.type "set" == Value.type "tuple")=false:=by decide
 simp only [h1,h2,h3,Bool.or_false,aaf,abq];refine zF (nF x fun I T ps h1 d hps haI hTI hIs hTs hIl hTl st k1=>?_);have hSI:S≠I:=zY (zX hSlt hIs);have hST:S≠T:=by
  rcases hTs with z | z
  ·rw [z];exact hSa
  ·exact zY (zX hSlt z)
 have hSf:S ∉ [I,a,T]:=by simp only [aab,aaI,aca,not_or];exact⟨hSI,hSa,hST⟩
 have W:Walks prog w A.in1 I [I,a,T] [I] es.size (fun i v=>(cP w a es ep t ps)[i]?.map (·.2)=some v) (fun i h=>SStY prog w a I T es ep t ps i h):=Walks.setY hh haI hTI hps;have key:∀ (h:Heap) (c₁ tk:Nat),SStY prog w a I T es ep t ps 0 h->(∀ b o,b≠S->s.heap.get? b=some o->h.get? b=some o) →
  h.get? S=some { cls:=.type "list",data:=.seq #[] c₁ }->codeAny (model prog w) A (.builtin "list.extend.loop" ⟨[.ref S,.ref I,res],[]⟩) R { s with heap:=h,drawn:=d,toks:=tk }:=by
  intro h c₁ tk hst hk hS₁;refine codeAny_extend_loopS W.toS hn S hSf res es.size 0 _ #[] c₁ rfl (zZ _) hst hS₁ (ItemsOf.nil _) fun s' acc' c' hm hS' hacc=>?_;rw [Moved.eq_with hm];refine hR s'.heap _ s'.toks acc' c' ps hps (fun b o hb e=>hm.heap b o (fun hmem=>?_) (hk b o hb e)) hS' hacc;rcases aab.mp hmem with e' | hmem
  ·exact hb e'
  ·rw [zQ.mp hmem] at e;exact absurd (zX (zN e) hIs) (abp _)
 have hS₁:=k1 _ _ hS;refine zF (aal (uK ⟨_,k1 _ _ x.get,rfl⟩ ?_));refine aeU (fun _=>?_) (fun _=>zM ⟨abA aed _,key _ c₀ _ st (fun b o _ e=>k1 _ _ e) hS₁⟩);refine zF (abJ ?_);refine zF ?_;show wpAny _ _ (updateSeq S (·.push .none) >>= fun _=>updateSeq S (·.pop)) _ _ _;refine zF (wpAny_updateSeq hS₁ rfl ?_);have hS₂:=abC (Obj.mapSeq (·.push Value.none)) hS₁ rfl;refine wpAny_updateSeq (hz:=by seq_fits) hS₂ rfl ?_;have hS₃:=abC (Obj.mapSeq (·.pop)) hS₂ rfl;refine zM ⟨abA aed _,key _ _ _ ?_ (fun b o hb e=>?_) hS₃⟩
 ·refine W.frame 0 _ _ st fun b hb o e=>?_;have hbS:b≠S:=fun h=>hSf (h▸hb);exact (abw _ _ (aaA hbS)).trans ((abw _ _ (aaA hbS)).trans e)
 ·exact (abw _ _ (aaA hb)).trans ((abw _ _ (aaA hb)).trans (k1 _ _ e))
theorem lT {R:List Value->Shared->Prop}(hh:A.handled=none)(x:SbAt w s.heap a es ep t)
 (h:∀ (h':Heap) (d:Drawn) (tk:Nat) (acc:List Value),(∀ b o,s.heap.get? b=some o->h'.get? b=some o)->s.heap.objs.size<=h'.objs.size->acc.Perm (es.toList.map (·.2))->R acc { s with heap:=h',drawn:=d,toks:=tk }) :
 wpAny (model prog w) A (collect (.ref a)) R E s:=by
 have hlt:a < s.heap.objs.size:=zN x.get;have fin:∀ (acc:Array Value) (ps:List Nat),ps.Perm (List.range es.size)->ItemsOf (fun i v=>(cP w a es ep t ps)[i]?.map (·.2)=some v) acc es.size->acc.toList.Perm (es.toList.map (·.2)):=fun acc ps hps ha=>by
  have e:acc.toList=(cP w a es ep t ps).map (·.2):=by
   apply ab1;intro i;rw [zT];cases q:acc.toList[i]? with
   | some v=>exact (ha.2 i v (by rw [← aao];exact q)).symm
   | none =>
    have:=List.getElem?_eq_none_iff.mp q;rw [zR,ha.1] at this;have ol:(cP w a es ep t ps).length=es.size:=by rw [(gq (w:=w) (a:=a) (ep:=ep) (t:=t) hps).length_eq,zR]
    rw [abn (by lia)]
    rfl
  rw [e];exact (gq hps).map _
 unfold collect;refine zF (aee (aaZ adO ?_));rw [aaF acy _];show wpAny _ A.in1 (newList [] >>= fun l=>again (.builtin "list.__iadd__" ⟨[l,.ref a],[]⟩)) _ _ s;refine zF (abm ?_);refine zM ⟨abA abr _,aaZ entry_list_iadd' ?_⟩;rw [aaF abr _];have hS₁:(s.heap.push { cls:=.type "list",data:=.seq ([]:List Value).toArray }).get? s.heap.objs.size=some { cls:=.type "list",data:=.seq #[] }:=zW _ rfl;show wpAny _ A.in1 (Builtin.List.listExtendWith (.ref s.heap.objs.size) (.ref a) (.ref s.heap.objs.size)) _ _ _;have key:=oz (prog:=prog) (A:=A) (s:={ s with heap:=s.heap.push { cls:=.type "list",data:=.seq ([]:List Value).toArray } })
  (R:=fun (q:Result) (s':Shared)=>∃ (h':Heap) (d:Drawn) (tk:Nat) (acc':Array Value) (c':Nat),q=.ok (.ret (.ref s.heap.objs.size))/\s'={ s with heap:=h',drawn:=d,toks:=tk } ∧
   (∀ b o,s.heap.get? b=some o->h'.get? b=some o)/\h'.get? s.heap.objs.size=some { cls:=.type "list",dict:=none,data:=.seq acc' c',slots:=#[] }/\acc'.toList.Perm (es.toList.map (·.2)))
  hh (x.at' fun o e=>zK _ e) s.heap.objs.size (aaz hlt) (.ref s.heap.objs.size) 0 hS₁
  (fun h' d tk acc' c' ps hps hk hS' hacc=>⟨h',d,tk,acc',c',rfl,rfl,fun b o e=>hk b o (zY (zN e)) (zK _ e),hS',fin _ _ hps hacc⟩)
 refine aaV key (fun fin s' x=>?_) fun e s' x=>?_
 ·cases fin with
  | done f =>
   obtain⟨h',d,tk,acc',c',e,rfl,hk,hS',hacc⟩:=x;cases e;show wpAny _ A (load s.heap.objs.size >>= _) _ _ _;refine zF (adm hS' ?_);exact zM (h h' d tk acc'.toList hk (aan (zN hS')) hacc)
  | again c₁ =>
   refine⟨x.1,acv x.2 fun q s₂ y=>?_⟩;obtain⟨h',d,tk,acc',c',rfl,rfl,hk,hS',hacc⟩:=y;show wpAny _ A (load s.heap.objs.size >>= _) _ _ _;refine zF (adm hS' ?_);exact zM (h h' d tk acc'.toList hk (aan (zN hS')) hacc)
 ·obtain⟨_,_,_,_,_,e',_⟩:=x;cases e'
end
section
variable {prog:Program}{w:World}{A:Around}{E:Value->Shared->Prop}{s:Shared}{a I T:Addr}{es:Array (Int×Value)}{ep:Nat}{t:SetTable}{ps:List Nat}{i:Nat}
theorem vS {l:List (Int×Value)}(h:ElemsOf (PySem.strKind prog w) l):StrsAre (l.map (·.2)) (l.map fun e=>strOf e.2):=by
 have:=strsAre_map (l.map (·.2)) fun v hv=>by
  obtain⟨e,he,rfl⟩:=aaJ.mp hv;obtain⟨tk,e2⟩:=su h he;exact⟨strOf e.2,tk,by rw [e2];rfl⟩
 rw [aa3] at this;exact this
theorem qF {Q:Value->Shared->Prop}{ss:List Str}(hh:A.handled=none)(x:TxSet prog w s.heap a ss)(h64:ss.length < 64)
 (h:∀ (h':Heap) (d:Drawn) (tk:Nat) (l:Addr) (vs:List Value) (ss':List Str) (e:Nat),(∀ b o,s.heap.get? b=some o->h'.get? b=some o)->s.heap.objs.size<=l->h'.get? l=some (seqObj "list" vs.toArray e)->StrsAre vs ss'->ss'.Perm ss->sortedS ss'=true->Q (.ref l) { s with heap:=h',drawn:=d,toks:=tk }) :
 wpAny (model prog w) A (call (.builtin "sorted") [.ref a]) Q E s:=by
 obtain⟨es,ep,t,T,e,nd⟩:=x;subst e;refine aba ads acR acS (acT _) ?_;unfold Builtin.«sorted»;refine zF (m:=checkCount "sorted" 1 1 _) (zM ?_);refine zF (lT (prog:=prog) (A:=A.in1) hh T.sb fun h1 d tk acc k1 hsz hp=>?_);have hst:=vS T.el;have hS:StrsAre acc (acc.map strOf):=strsAre_map acc fun v hv=>hst.all v (hp.mem_iff.mp hv);have hpm:(acc.map strOf).Perm (t4 es):=by
  have:=hp.map strOf;rw [aa3] at this;exact this
 have hl:acc.length < 64:=by
  have:=hpm.length_eq;rw [zL] at this;lia
 refine zF (abB ?_ (aan (zX hl (by decide))));show wpAny _ _ _ _ _ { s with heap:=h1.push (seqObj "list" acc.toArray 0),drawn:=d,toks:=tk };have hoL:(h1.push (seqObj "list" acc.toArray 0)).get? h1.objs.size=some (seqObj "list" acc.toArray 0):=zW _ rfl;refine zF (aal (aaX acm ⟨_,hoL,rfl⟩ ab2 (list_sort_treeK strKind_oneLt hoL hS.keysOf (fun v₁ v₂ rest e=>keyKind_strs (by rw [← e];exact hS)) hl fun st' a1 a2=>⟨_,rfl,?_⟩) (acn _)));obtain⟨ss',b1,b2,b3⟩:=aef hS a1 a2;obtain⟨e,he⟩:=sortedHeap_at (vs:=acc) (out:=(arrOf st').map (·.2)) hoL;refine zM ⟨_,rfl,h _ d tk h1.objs.size ((arrOf st').map (·.2)).toList ss' e (fun b o q=>?_) hsz (by rw [abR];exact he) b1 (b2.trans hpm) b3⟩;have q1:=k1 _ _ q;rw [sortedHeap_old (zY (zN q1)) (by rw [acD];exact aaM (zN q1))];exact zK _ q1
end
end L2
namespace L2
open PySem PySem.Spec PyProof.Rows
def wo (ts ss:List Str):Prop:=ts.Nodup/\∀ x,x∈ts↔x∈ss
section
variable {prog:Program}{w:World}{A:Around}{R:Result->Shared->Prop}{I:Addr}{fp wr:List Addr}{G:Array GenState->Array GenState->Prop}{n:Nat}{P:Nat->Value->Prop}{St:Nat->Shared->Prop}
theorem TxSet.nd {h:Heap}{a:Addr}{ss:List Str}(x:TxSet prog w h a ss):ss.Nodup:=let ⟨_,_,_,_,_,n⟩:=x;n
theorem jv (W:WalksS prog w A.in1 I fp wr G n P St)(S:Addr)(hSf:S ∉ fp)(val:Nat->Str)(hval:∀ i v,P i v->∃ t,v=.str (val i) t)(hb:n+1 < scanBound) :
 ∀ (k i:Nat) (s:Shared) (ts:List Str),n - i=k->i<=n->St i s->TxSet prog w s.heap S ts->ts.length<=i->(∀ x,x∈ts↔∃ j,j < i/\val j=x) →
  (∀ s' ts',Moved (S::wr) G s s'->TxSet prog w s'.heap S ts'->(∀ x,x∈ts'↔∃ j,j < n/\val j=x)->R (.ok (.ret .none)) s') →
  codeAny (model prog w) A (.builtin "set.update.loop" ⟨[.ref S,.ref I],[]⟩) R s:=by
 have hSw:S ∉ wr:=fun h=>hSf (W.sub _ h);have hsub:∀ b∈wr,b∈S::wr:=fun b hb=>z8 _ hb;intro k
 induction k with
 | zero =>
  intro i s ts hk hi hst hS hl hm hR;have hin:i=n:=by lia
  subst hin;refine aaZ F.entry_set_update_loop ?_;rw [aaF ac7 _];show wpAny _ A.in1 (pyNext (.ref I) >>= _) _ _ s;refine zF (W.done s _ _ hst fun s' hmv=>?_);show wpAny _ A.in1 (ret Value.none) _ _ s';exact zM (hR s' ts (hmv.mono hsub) (hS.at' fun o e=>hmv.heap S _ hSw e) hm)
 | succ k ih =>
  intro i s ts hk hi hst hS hl hm hR;have hlt:i < n:=by lia
  refine aaZ F.entry_set_update_loop ?_;rw [aaF ac7 _];show wpAny _ A.in1 (pyNext (.ref I) >>= _) _ _ s;refine zF (W.item i s _ _ hlt hst fun v s' hP hst' hmv=>?_);obtain⟨t,rfl⟩:=hval i v hP;have hS':TxSet prog w s'.heap S ts:=hS.at' fun o e=>hmv.heap S _ hSw e;show wpAny _ A.in1 (holding [Value.str (val i) t] (setAdd S (.str (val i) t)) >>= _) _ _ s';refine zF (aal ?_);unfold setAdd;refine aal ?_;refine zF ((PySem.strKind prog w).pyHash (k:=val i) ((pY rfl).mpr rfl) ?_);refine jR (s:={ s' with toks:=s'.toks+1 }) hS' (by lia) fun h' ts' hsb hS2 alt=>?_;have hl':ts'.length<=i+1:=by
   rcases alt with ⟨_,e⟩ | ⟨_,p⟩
   ·rw [e];lia
   ·rw [p.length_eq,zH];simp;lia
  have hm':∀ x,x∈ts'↔∃ j,j < i+1/\val j=x:=fun x=>by
   constructor
   ·intro hx;have:x∈ts\/x=val i:=by
     rcases alt with ⟨_,e⟩ | ⟨_,p⟩
     ·rw [e] at hx;exact .inl hx
     ·rcases zS.mp (p.mem_iff.mp hx) with z | z
      ·exact .inl z
      ·exact .inr (zQ.mp z)
    rcases this with z | z
    ·obtain⟨j,hj,e⟩:=(hm x).mp z;exact⟨j,by lia,e⟩
    ·exact⟨i,by lia,z.symm⟩
   ·rintro⟨j,hj,rfl⟩;rcases alt with ⟨q,e⟩ | ⟨_,p⟩
    ·rw [e];by_cases hji:j=i
     ·subst hji;exact q
     ·exact (hm _).mpr ⟨j,by lia,rfl⟩
    ·refine p.mem_iff.mpr (zS.mpr ?_);by_cases hji:j=i
     ·subst hji;exact .inr (zQ.mpr rfl)
     ·exact .inl ((hm _).mpr ⟨j,by lia,rfl⟩)
  refine zM ⟨abA ac7 _,ih (i+1) _ ts' (by lia) hlt (W.frame _ s' _ _ hst' (aa6 _) fun b hb o e=>?_) hS2 hl' hm' fun s'' ts'' hm'' hS'' q=>?_⟩
  ·rw [hsb.2 b (fun h:b=S=>hSf (by rw [← h];exact hb))];exact e
  ·refine hR s'' ts'' (Moved.trans W.gtrans ((hmv.mono hsub).then_heap (aa6 _) fun b o hb e=>?_) hm'') hS'' q;rw [hsb.2 b (fun h:b=S=>hb (by rw [h];exact z7))];exact e
end
section
variable {prog:Program}{w:World}{A:Around}{E:Value->Shared->Prop}{s:Shared}
theorem jA (a:Value){Q₁:Value->Shared->Prop}
 (h:Q₁ (.ref s.heap.objs.size) { s with heap:=s.heap.push { cls:=.type "set",dict:=none,data:=.set #[] 0 (.fresh 0 0 (!w.params.followText "set-order")) } }) :
 codeAny (model prog w) A (.call (.builtin "set.__new__") ⟨[.type "set",a],[]⟩) (wants Q₁ E) s:=by
 refine codeAny_of_tree ?_;show wpAny _ A.in1 (do checkBuiltinCall "set.__new__" ⟨[.type "set",a],[]⟩;again (.builtin "set.__new__" ⟨[.type "set",a],[]⟩)) _ _ s;refine zF (wpAny_of_eq (F.newCall_set_1 a) (zM ⟨abA F.plain_set_new _,aaZ F.entry_set_new ?_⟩));rw [aaF F.plain_set_new _];unfold Builtin.«set.__new__» Builtin.Frozenset.newClass;have hsub:=sub_set_self;obtain⟨hp,g,d,tk,os⟩:=s;dsimp only
 wp_walk
 refine aeH (zM ?_);dsimp only;simp only [newObj];refine zF (wpAny_alloc (zM ?_));exact zM h
theorem t5 (prog:Program)(w:World)(h:Heap):TxSet prog w (h.push { cls:=.type "set",dict:=none,data:=.set #[] 0 (.fresh 0 0 (!w.params.followText "set-order")) }) h.objs.size [] :=
 ⟨#[],0,_,⟨zW _ rfl,fun e he=>by simp at he,by decide,rfl,rfl,.inr rfl⟩,rfl,ady⟩
theorem lD {l:Addr}{items:Array Value}{ss:List Str}{Q:Value->Shared->Prop}
 (hh:A.handled=none)(hl:s.heap.IsList l items)(hi:StrsAre items.toList ss)(hb:items.size+1 < scanBound)
 (h:∀ (h':Heap) (tk:Nat) (ts:List Str),TxSet prog w h' s.heap.objs.size ts->wo ts ss →
  (∀ b o,b < s.heap.objs.size->s.heap.get? b=some o->h'.get? b=some o)->Q (.ref s.heap.objs.size) { s with heap:=h',toks:=tk }) :
 wpAny (model prog w) A (call (.type "set") [.ref l]) Q E s:=by
 obtain⟨c,tl,hmro⟩:=acz.mro;have hmade:=acz.made;have hsub:=acz.sub;refine wpAny_call (codeAny_of_tree ?_);show wpAny _ _ (callAny (.type "set") _) _ _ _;refine zM ⟨Code.quiet_builtin _ (by decide +kernel),aaZ F.entry_type_call ?_⟩;rw [Around.under_plain (weight_type_call_type "set" [.ref l] []) rfl];have h1:=acz.notType;have h2:=acz.canCreate;have hct:=F.typeCall_set_1 (.ref l)
 repeat (any_goals (first | assumption | wp_step))
 refine acv (jA (.ref l) (E:=E) (Q₁:=fun obj s₁=>obj=.ref s.heap.objs.size/\s₁={ s with heap:=s.heap.push { cls:=.type "set",dict:=none,data:=.set #[] 0 (.fresh 0 0 (!w.params.followText "set-order")) } }) ⟨rfl,rfl⟩) fun r s₁ hr=>?_;cases r with
 | error e=>exact hr
 | ok fl =>
  cases fl with
  | ret obj =>
   obtain⟨rfl,rfl⟩:=hr;generalize hled:(!w.params.followText "set-order")=led at *;have hS0:TxSet prog w (s.heap.push { cls:=.type "set",dict:=none,data:=.set #[] 0 (.fresh 0 0 led) }) s.heap.objs.size []:=by rw [← hled];exact t5 prog w s.heap
   have hS:(s.heap.push { cls:=.type "set",dict:=none,data:=.set #[] 0 (.fresh 0 0 led) }).get? s.heap.objs.size=some { cls:=.type "set",dict:=none,data:=.set #[] 0 (.fresh 0 0 led) }:=zW _ rfl;have hT:Shared.TypeIs { s with heap:=s.heap.push { cls:=.type "set",dict:=none,data:=.set #[] 0 (.fresh 0 0 led) } } (.ref s.heap.objs.size) "set" := ⟨_,hS,rfl⟩;have hli:=acz.init.lookup;have hbi:=acz.init.bind (.ref s.heap.objs.size)
   repeat (any_goals (first | assumption | wp_step))
   refine acv (codeAny_call_builtin (R:=wants (fun r s₂=>r=.none/\∃ h' tk ts,s₂={ s with heap:=h',toks:=tk }/\TxSet prog w h' s.heap.objs.size ts/\wo ts ss ∧
    (∀ b o,b < s.heap.objs.size->s.heap.get? b=some o->h'.get? b=some o)) E) acz.init.plain F.entry_set_init (check_set_init_1 hT ?_)) fun r₂ s₂ hr₂=>?_
   ·obtain⟨ol,hol,hcl,nl,hdl⟩:=hl;obtain⟨ocls,odict,odata,oslots⟩:=ol;simp only at hcl hdl;subst hcl;subst hdl;have hol':(s.heap.push { cls:=.type "set",dict:=none,data:=.set #[] 0 (.fresh 0 0 led) }).get? l=some { cls:=.type "list",dict:=odict,data:=.seq items nl,slots:=oslots }:=zK _ hol;have hsls:=F.sub_list_set;have hslf:=F.sub_list_frozenset;have hne:(Value.type "list" == Value.type "dict")=false:=by decide
    have hl1:(s.heap.push { cls:=.type "set",dict:=none,data:=.set #[] 0 (.fresh 0 0 led) }).IsList l items:=⟨_,hol',rfl,nl,rfl⟩;unfold Builtin.«set.__init__» noKeywords Builtin.Frozenset.updateFrom;generalize hPI:pyIter=PI
    wp_walk
    subst hPI;refine adn hl1 ?_;refine zF (aee ?_);have hlS:l < s.heap.objs.size:=zN hol;have hh3:A.in1.in1.in1.handled=none:=by simp [hh]
    have hneI:l≠(s.heap.push { cls:=.type "set",dict:=none,data:=.set #[] 0 (.fresh 0 0 led) }).objs.size:=by
     rw [abj];exact zY (aaM hlS)
    have hSf:s.heap.objs.size ∉ [(s.heap.push { cls:=.type "set",dict:=none,data:=.set #[] 0 (.fresh 0 0 led) }).objs.size,l]:=by
     rw [abj];simp only [aab,zQ,aaI,aca,not_or];exact⟨zY (acg _),aaz hlS⟩
    have hln:items.toList.length=ss.length:=by
     have:=aaG List.length hi.strs
     rwa [zL] at this
    have hval:∀ (i:Nat) (v:Value),items[i]? = some v->∃ t,v=.str ((fun i=>ss.getD i ⟨#[]⟩) i) t:=fun i v hv=>by
     have hv':items.toList[i]? = some v:=by rw [aao];exact hv
     obtain⟨x,t,e⟩:=hi.all v (aac hv');refine⟨t,?_⟩;have e2:ss[i]? = some (strOf v):=by rw [← hi.strs,zT,hv'];rfl
     rw [e];simp only [aa5,e2,e]
     rfl
    refine jv ((Walks.list hh3 _ l hneI items).toS) s.heap.objs.size
     hSf (fun i=>ss.getD i ⟨#[]⟩) hval hb (items.size - 0) 0 _ [] (by lia) (zZ _)
     ⟨⟨_,zW _ rfl,rfl,rfl⟩,(hl1.push _)⟩ ?hS0 (zP _) (fun x=>?hM) ?hR
    case hS0=>exact hS0.at' fun o e=>zK _ e
    case hM=>exact⟨(fun h=>nomatch h),fun ⟨j,hj,_⟩=>absurd hj (ac6 j)⟩
    case hR =>
     intro s' ts hm hS' hq;obtain⟨h',g',d',tk',os'⟩:=s';have eg:g'=s.gens:=hm.gens;have ed:d'=s.drawn:=hm.drawn;have eo:os'=s.os:=hm.os;subst eg;subst ed;subst eo;show wpAny _ _ _ _ _ _;refine zM ?_;show wpAny _ _ (ret Value.none) _ _ _;refine zM ⟨rfl,h',tk',ts,rfl,hS',⟨hS'.nd,fun x=>(hq x).trans ?_⟩,fun b o hb e=>?_⟩
     ·have hz:items.size=ss.length:=by rw [← hln,zR]
      constructor
      ·rintro⟨j,hj,e⟩;rw [hz] at hj;rw [← e,aa5,zG hj];exact aak hj
      ·intro hx;obtain⟨j,hj,e⟩:=abS.mp hx;refine⟨j,by rw [hz];exact hj,?_⟩;rw [aa5,zG hj];exact e
     ·have hb1:b≠s.heap.objs.size:=zY hb;have hb2:b≠(s.heap.push { cls:=.type "set",dict:=none,data:=.set #[] 0 (.fresh 0 0 led) }).objs.size:=by
       rw [abj];exact zY (aaM hb)
      exact hm.heap b o (by simp only [aab,zQ,aaI,aca,not_or];exact⟨hb1,hb2⟩) (zK _ (zK _ e))
   ·cases r₂ with
    | error e=>exact hr₂
    | ok fl₂ =>
     cases fl₂ with
     | ret r =>
      obtain⟨rfl,h',tk,ts,rfl,hS',hi',hk'⟩:=hr₂
      repeat (any_goals (first | assumption | wp_step))
      exact h _ _ ts hS' hi' hk'
     | _=>exact hr₂.elim
  | _=>exact hr.elim
end
theorem Inv.drawn' {X:Cx}{pins:List (Addr×Obj)}{σ:St}{H:Hp}{s:Shared}(I:Inv X pins σ H s)(d:Drawn):Inv X pins σ H { s with drawn:=d }:=⟨I.ok,I.os,I.bare,I.base,I.loc,I.cell,I.free,I.freeC,I.pin,I.hok,I.len⟩
def ya (P:Program)(w:World)(a:Addr)(ss:List Str):HO:=.ext fun h=>TxSet P w h a ss
theorem xc {P:Program}{w:World}{H:Hp}{h:Heap}{a:Addr}{ss:List Str}(x:TxSet P w h a ss):ObjOk P w H h a (ya P w a ss) :=
 ⟨x,(let ⟨_,_,_,T,_⟩:=x;⟨_,T.get⟩),fun _ _ y k=>y.at' k⟩
theorem xa {P:Program}{w:World}{H:Hp}{h:Heap}{a:Addr}{ss:List Str}(ok:HOk P w H h)(e:H a=some (ya P w a ss)):TxSet P w h a ss:=(ok a _ e).1
section
variable {X:Cx}
theorem ja (hc:X.calm=true):d8 X (.builtin "sorted") (fun xs H Q=>∃ (a:Addr) (ss:List Str),xs=[.ref a]/\H a=some (ya X.prog X.w a ss)/\ss.length < 64/\∀ (l:Addr) (ss':List Str),H l=none->ss'.Perm ss->sortedS ss'=true->Q (.ref l) (upd H l (.lst (ss'.map V.str)))):=by
 intro pins s σ H xs us Q I r h;obtain⟨a,ss,rfl,e,hl,q⟩:=h;obtain⟨u,rfl,rx⟩:=gT r;cases rx;refine qF (I.ok.hd hc) (xa I.hok e) hl fun h' d tk l vs ss' ep k hz hg hS hp hs=>?_;refine⟨.ref l,_,((I.laid (t':=tk) (o:=.lst (ss'.map V.str)) k hz ⟨?_,vs,ep,dt hS,hg⟩).drawn' d),rfl,q l ss' (I.hok.fresh hz) hp hs⟩;rw [zL,hp.length_eq];exact aan (zX hl (by decide))
theorem nG (hc:X.calm=true):d8 X (.type "set") (fun xs H Q=>∃ (p:Addr) (ss:List Str),xs=[.ref p]/\SqL X.K H p (ss.map V.str)/\ss.length+1 < scanBound/\∀ (a:Addr) (ts:List Str),H a=none->wo ts ss->Q (.ref a) (upd H a (ya X.prog X.w a ts))):=by
 intro pins s σ H xs us Q I r h;obtain⟨p,ss,rfl,hq,hb,q⟩:=h;obtain⟨u,rfl,rx⟩:=gT r;cases rx;obtain⟨its,rv,pl,hz⟩:=I.list hq;have hlen:=rv.length;rw [zL] at hlen;refine lD (I.ok.hd hc) pl.isList (by simpa using cS rv) (by simpa [← hlen] using hb) fun h' tk ts hS hi k=>?_;exact⟨.ref s.heap.objs.size,_,I.laid (t':=tk) (o:=ya X.prog X.w s.heap.objs.size ts) (fun b o e=>k b o (zN e) e) (zP _) (xc hS),rfl,q _ ts I.fresh hi⟩
end
section
variable {prog:Program}{w:World}{A:Around}{R:Result->Shared->Prop}{s:Shared}
theorem qJ {kx vx target iter:Expr}{ifs:List Expr}{scope:Scope}{pos:Pos}{it:Value}{D:Addr}{env:Env}(I:Nat->Shared->Prop)
 (turn:∀ n s,I n s->wpAny (model prog w) A (pyNext it) (fun r s₁=>match r with
  | none=>R (.ok .next) s₁
  | some v=>wpAny (model prog w) A (letOwnedTupleGo target it v) (fun _ s₁'=>wpAny (model prog w) A (assign target env v) (fun _ s₂ =>
   wpAny (model prog w) A (forIn ifs true fun c r=>if r=true then do let ok ← isTrue c env (eval c env);pure (ForInStep.yield ok) else pure (ForInStep.yield r)) (fun ok s₃ =>
    if ok=true then wpAny (model prog w) A (eval kx env) (fun kv s₄=>wpAny (model prog w) A (eval vx env) (fun vv s₅ =>
     wpAny (model prog w) A (dictSet D kv vv) (fun _ s₆=>∃ m,m < n/\I m s₆) (fun _ _=>False) s₅) (fun _ _=>False) s₄) (fun _ _=>False) s₃
    else ∃ m,m < n/\I m s₃) (fun _ _=>False) s₂) (fun _ _=>False) s₁') (fun _ _=>False) s₁) (fun _ _=>False) s)
 (n:Nat)(h:I n s) :
 codeAny (model prog w) A (.compLoop (.DictComp kx vx [⟨target,iter,ifs,0⟩] scope pos) 0 it (.ref D) env) R s:=by
 have no:∀ {E:Value->Shared->Prop} (x:Value) (s:Shared),False->E x s:=fun _ _ z=>z.elim;refine codeAny_loop rfl I (fun n s hI=>?_) n h;show wpAny _ A ((compTurn (.DictComp kx vx [⟨target,iter,ifs,0⟩] scope pos) 0 it (.ref D) env).onRaise (fun x=>do noteFrame x env;theTreesLotGoes x)) _ _ s;refine wpAny_noted ?_;rw [compTurn_dict];refine zF (aet (zF (aaV (turn n s hI) (fun r s₁ h₁=>?_) no)));cases r with
 | none=>exact zM h₁
 | some v =>
  refine zF (aaV h₁ (fun _ s₁' h₁'=>zF (aaV h₁' (fun _ s₂ h₂=>zF (aaV h₂ (fun ok s₃ h₃=>?_) no)) no)) no);cases ok with
  | false=>exact zM ⟨rfl,h₃⟩
  | true =>
   exact zF (zF (aaV h₃ (fun kv s₄ h₄=>zF (aal (aaV h₄ (fun vv s₅ h₅=>zF (aet (aal (aaV h₅ (fun _ s₆ h₆=>zM ⟨rfl,h₆⟩) no)))) no))) no))
end
def tR (nl:Nat)(ix:List Nat)(wi:TI)(g:TG)(tf:TT)(tk tv:TE):TE:=fun σ H Q=>wi σ H fun J H1=>∀ D,H1 D=none->∃ W:Nat->Nat->List (Key×V)->Hp->Prop,(∃ m,W 0 m [] (upd H1 D (.dK []))) ∧
 ∀ i m ys H2,W i m ys H2->H2 D=some (.dK ys)/\((J.stop i H2/\Q (.ref D) H2)\/(J.go i H2/\∀ x H3,J.yld i H2 x H3->g x (fV nl ix σ) H3 fun σ4 H4=>(σ4.length=(fV nl ix σ).length/\σ4.drop nl=ix.map fun j=>(σ[j]?).join)/\tf σ4 H4 fun b H5 =>
  if b=true then tk σ4 H5 fun z H6=>tv σ4 H6 fun y H7=>∃ k:Key,z=kV k/\H7 D=some (.dK ys)/\ys.length < sizeLine/\∃ m',m' < m/\W (i+1) m' (mM ys k y) (upd H7 D (.dK (mM ys k y))) else ∃ m',m' < m/\W (i+1) m' ys H5))
section
variable {X:Cx}
theorem ve {kx vx tg iter:Expr}{ifs:List Expr}{scope:Scope}{pos:Pos}{N':List Str}{nl:Nat}{ix:List Nat}{wi:TI}{g:TG}{tf:TT}{tk tv:TE}(hc:X.calm=true)(S:CompScope X scope)(Cp:yh X scope N' nl ix)(hi:PI X tg iter wi)
 (hg:∀ C fp s₀ H₀,PG (X.comp scope N' C fp s₀ H₀) tg g)(hf:∀ C fp s₀ H₀,PIf (X.comp scope N' C fp s₀ H₀) ifs tf)(hk:∀ C fp s₀ H₀,PE (X.comp scope N' C fp s₀ H₀) kx tk)(hv:∀ C fp s₀ H₀,PE (X.comp scope N' C fp s₀ H₀) vx tv)
 (hs:∀ x,foldedSetIterable iter X.env x=pure x:=by intro _;rfl):PE X (.DictComp kx vx [⟨tg,iter,ifs,0⟩] scope pos) (tR nl ix wi g tf tk tv):=by
 intro pins s σ H Q I h;rw [arm_eval_DictComp];refine wpAny_comprehension_free (use:=none) (cl:=nU X.env scope.names []) rfl hs (jW (S.cells I.ok)) S.kind S.loc ?_;refine thn (hi pins s σ H _ I h) fun v s1 h1=>thn h1 fun itv s2 h2=>?_;obtain⟨it,fp,tn,J,H2,rfl,I2,T,st2,f2,h2⟩:=h2;obtain⟨W,⟨m0,w0⟩,turn⟩:=h2 s2.heap.objs.size I2.fresh;refine abm (wpAny_newFunctionEnv S.nocell (by intro y hy;simp at hy) (fun h₁ hns₁ hsb₁=>?_) S.kind);dsimp only at hns₁ hsb₁ ⊢;have fpo:∀ b∈fp,b < s2.heap.objs.size:=fun b hb=>by
  obtain⟨o,e,_⟩:=T.obj 0 _ st2 b hb;exact zN e
 have I3:Inv X pins σ (upd H2 s2.heap.objs.size (.dK [])) { s2 with heap:=s2.heap.push { cls:=.type "dict",data:=.dict #[] },toks:=s2.toks }:=I2.laid (a:=s2.heap.objs.size) (o:=.dK []) (t':=s2.toks) (fun _ _ q=>zK _ q) (zP _) (oV s2.heap I2.big);have hD:(upd H2 s2.heap.objs.size (.dK [])) s2.heap.objs.size=some (.dK []):=af;have f3:∀ b∈fp,mj X pins (upd H2 s2.heap.objs.size (.dK [])) b:=fun b hb=>by
  refine⟨?_,(f2 b hb).2⟩;rw [ai (zY (fpo b hb))];exact (f2 b hb).1
 generalize hS3:s2.heap.push { cls:=.type "dict",dict:=none,data:=.dict #[] }=g3 at hns₁ hsb₁ I3 ⊢;have sz3:g3.objs.size=s2.heap.objs.size+1:=by rw [← hS3,abj]
 have fpo3:∀ b∈fp,b < ({ s2 with heap:=g3,toks:=s2.toks }:Shared).heap.objs.size:=fun b hb=>by
  show b < g3.objs.size;rw [sz3];exact aaM (fpo b hb)
 have old:∀ b o,g3.get? b=some o->h₁.get? b=some o:=fun b o e=>hsb₁.extBut b o (zY (zN e)) (zK _ e);have I4:=pF (tk:=s2.toks+([]:List (Str×Value)).length) S Cp I3 f3 fpo3 hns₁ old;generalize hX:X.comp scope N' g3.objs.size fp { s2 with heap:=g3,toks:=s2.toks } (upd H2 s2.heap.objs.size (.dK []))=X' at *;have hPr:X'.prog=X.prog:=by rw [← hX];rfl
 have hWr:X'.w=X.w:=by rw [← hX];rfl
 have hKr:X'.K=X.K:=by rw [← hX];rfl
 have hAr:X'.A=X.A:=by rw [← hX];rfl
 have hCa:X'.calm=true:=by rw [← hX];exact hc
 have hXe:X'.xe=fun _ _=>False:=by rw [← hX];rfl
 have hEx:X'.ex=fp:=by rw [← hX];rfl
 have hPn:X'.pn=[]:=by rw [← hX];rfl
 have hLo:X'.env.locals=g3.objs.size:=by rw [← hX];rfl
 have hEn:X'.env=compEnvC scope (nU X.env scope.names []) g3.objs.size X.env:=by rw [← hX];rfl
 have hg':=hg g3.objs.size fp { s2 with heap:=g3,toks:=s2.toks } (upd H2 s2.heap.objs.size (.dK []));have hf':=hf g3.objs.size fp { s2 with heap:=g3,toks:=s2.toks } (upd H2 s2.heap.objs.size (.dK []));have hk':=hk g3.objs.size fp { s2 with heap:=g3,toks:=s2.toks } (upd H2 s2.heap.objs.size (.dK []));have hv':=hv g3.objs.size fp { s2 with heap:=g3,toks:=s2.toks } (upd H2 s2.heap.objs.size (.dK []));rw [hX] at hg' hf' hk' hv';have I4':Inv X' [] (fV nl ix σ) (upd H2 s2.heap.objs.size (.dK [])) { s2 with heap:=h₁,toks:=s2.toks+([]:List (Str×Value)).length }:=I4;have back:∀ {H':Hp} {σ':St} {pins':List (Addr×Obj)} {s':Shared} {h':Heap},Inv X' pins' σ' H' s'->Heap.SameBut g3.objs.size s'.heap h'->Inv X pins σ H' { s' with heap:=h' }:=fun I' sb=>by
  subst hX;exact m4 I3 f3 I' sb
 have stat:∀ {H':Hp},(∀ b∈fp,H' b=none)->∀ b∈fp,mj X' [] H' b:=fun hn b hb=>by
  refine⟨hn b hb,?_,?_,.inl (by rw [hEx];exact hb),?_,fun p hp=>by rw [hPn] at hp;cases hp⟩
  ·rw [hLo];exact zY (fpo3 b hb)
  ·exact I4'.ok.exfs b (by rw [hEx];exact hb)
  ·exact (I4'.ok.exf b (by rw [hEx];exact hb)).2
 have loop:codeAny (model X.prog X.w) X.A (.compLoop (.DictComp kx vx [⟨tg,iter,ifs,0⟩] scope pos) 0 (.ref it) (.ref s2.heap.objs.size) X'.env)
  (compPost (model X.prog X.w) X.A X.xe none (EP X pins σ Q) (.ref s2.heap.objs.size) g3.objs.size) { s2 with heap:=h₁,toks:=s2.toks+([]:List (Str×Value)).length }:=by
  rw [← hPr,← hWr,← hAr];refine qJ (fun n s'=>∃ i ys H',Inv X' [] (fV nl ix σ) H' s'/\tn i s'.heap/\(∀ b∈fp,H' b=none)/\W i n ys H') ?_ m0
   ⟨0,[],_,I4',T.keep _ _ _ st2 (fun b hb o e=>old b o (by rw [← hS3];exact zK _ e)),fun b hb=>(f3 b hb).1,w0⟩
  rintro n s5 ⟨i,ys,H5,I5,st5,fr5,w5⟩;obtain⟨hD5,alt⟩:=turn i n ys H5 w5;rcases alt with ⟨stop,qn⟩ | ⟨go,step⟩
  ·rw [hPr,hWr];refine thn (T.done X' hPr hWr hKr hCa i [] s5 _ H5 _ I5 (stat fr5) st5 stop) fun r s6 ⟨hr,I6⟩=>?_;subst hr;obtain⟨m,hn,_⟩:=I6.loc;rw [hLo] at hn;exact⟨m,hn,fun h' sb=>⟨.ref s2.heap.objs.size,H5,back I6 sb,rfl,qn⟩⟩
  ·have it5:=T.item X' hPr hWr hKr hCa i [] s5 _ H5 (fun _ _=>False) I5 (stat fr5) st5 go;rw [← hPr,← hWr] at it5;refine thn it5 fun r s6 ⟨u,hr,h6⟩=>?_;subst hr;refine thn h6 fun _ s7 ⟨x,H7,I7,r7,y7,st7,fr7⟩=>?_;have I7':=I7.pinned (stat fr7) (T.obj _ _ st7);have g7:=hg' _ s7 _ H7 x u _ I7' r7 (step x H7 y7);rw [hXe] at g7;refine thn g7 fun _ s8 ⟨σ8,H8,I8,⟨hl8,hd8⟩,q8⟩=>?_;have f8:=hf' _ s8 σ8 H8 _ I8 q8;rw [hXe] at f8;refine thn f8 fun ok s9 ⟨H9,I9,q9⟩=>?_;have again:∀ {H10:Hp} {s10:Shared} {ys':List (Key×V)},Inv X' ([]++j6 fp s7.heap) σ8 H10 s10->(∃ m',m' < n/\W (i+1) m' ys' H10)->∃ m,m < n/\∃ i ys H',Inv X' [] (fV nl ix σ) H' s10/\tn i s10.heap/\(∀ b∈fp,H' b=none)/\W i m ys H':=fun {H10 s10 ys'} I10 ⟨m',hm,w'⟩=>by
    refine⟨m',hm,i+1,ys',H10,mX I10.unpinned hl8 hd8,T.keep _ _ _ st7 fun b hb o e=>(I10.pin (b,o) (aaa _ (aaa _ (dq hb e)))).1,fun b hb=>?_,w'⟩;obtain⟨o,e,d⟩:=T.obj _ _ st7 b hb;exact (I10.pin (b,o) (aaa _ (aaa _ (dq hb e)))).2.1
   cases ok with
   | false =>
    rw [if_neg zO] at q9 ⊢;exact again I9 q9
   | true =>
    rw [if_pos rfl] at q9 ⊢;have e9:=hk' _ s9 σ8 H9 _ I9 q9;rw [hXe] at e9;refine thn e9 fun zv s10 ⟨z,H10,I10,r10,q10⟩=>?_;have e10:=hv' _ s10 σ8 H10 _ I10 q10;rw [hXe] at e10;refine thn e10 fun xv s11 ⟨y,H11,I11,r11,k,ez,hD11,hz,mw⟩=>?_;subst ez;obtain⟨z1,hd,vs,rel,dd⟩:=i9 I11.hok hD11;refine wpAny_dictSet_pairs (ue r10) dd (hsz:=by rw [← rel.length];exact z1) fun h' dd' hs=>?_;have heo:∃ q,h'.get? s2.heap.objs.size=some q:=let ⟨q,_,_,hq,_⟩:=dd';⟨q,hq⟩;have hl:(mM ys k y).length<=sizeLine:=by have:=jd ys k y;lia
    exact again (nO I11 (by rw [hD11];exact True.intro) hs heo (mT hl hd (rel.put k r11) dd')) mw
 rw [hEn] at loop;exact codeAny_compStart_dict loop (T.self _ 0 _ _ _ (T.keep _ _ _ st2 (fun b hb o e=>old b o (by rw [← hS3];exact zK _ e))) loop)
end
end L2
namespace L2
open PySem PySem.Spec PyProof.Rows PySem.W
section
variable {X:Cx}{pins:List (Addr×Obj)}{σ:St}{H:Hp}{s:Shared}{a:Addr}{o:Obj}{kvs:List (Key×V)}
theorem Inv.freeze (I:Inv X pins σ H s)(e:H a=some (.dK kvs))(ho:s.heap.get? a=some o):Inv X pins σ (upd H a (.frz o (.dK kvs))) s:=by
 have q:=I.hok a _ e;refine I.write (x:=a) (e:=a) (o:=.frz o (.dK kvs)) (h':=s.heap) (t':=s.toks) (by rw [e];exact True.intro) (.inl rfl) (fun b u _ z=>z) ⟨o,ho⟩ ⟨ho,?_⟩;exact q.stay (fun _ _ _ z=>z) (fun b z=>by rw [ai (kH z e (fun z=>nomatch z))];exact z) fun b xs z=>by rw [ai (kH z e (fun z=>nomatch z))];exact z
theorem Inv.notFrz (I:Inv X pins σ H s)(e:H a=some (.dK kvs)):∀ o u,X.H₀ a≠some (.frz o u):=fun o u z=>by
 have:=I.base.frzs a o u z;rw [e] at this;cases this
end
theorem oQ {P:Program}{w:World}{k:Key}{u:Value}(h:(aO P w).is k u=true):RelV (kV k) u:=by
 rcases bL h with ⟨i,t,rfl,rfl⟩ | ⟨x,t,rfl,rfl⟩
 ·exact⟨t,rfl⟩
 ·exact⟨t,rfl⟩
section
variable {X:Cx}{tg:Expr}
end
def xI (A:Around)(H:Hp)(ka kb:List (Key×V)):Prop:=ka.length=kb.length/\∀ k v,(k,v)∈ka->∃ y da db,dw kb k=some y/\Sees H v da/\Sees H y db/\da.canLay0=true/\db.canLay0=true/\A.units+1+min da.depth db.depth < cLine/\PyData.eqv da db=true
section
variable {X:Cx}
theorem jg {A:Around}{H:Hp}{s:Shared}{P:Program}{w:World}(ok:HOk P w H s.heap){kb:List (Key×V)}{vb:List (Key×Value)}(rb:KV kb vb):∀ {ka:List (Key×V)} {va:List (Key×Value)},KV ka va →
 (∀ k v,(k,v)∈ka->∃ y da db,dw kb k=some y/\Sees H v da/\Sees H y db/\da.canLay0=true/\db.canLay0=true/\A.units+min da.depth db.depth < cLine/\PyData.eqv da db=true)->KeqHits A s vb va true:=by
 intro ka va ra;unfold KV at ra
 induction ra with
 | nil=>intro _;exact .nil
 | @cons p q ps qs r t ih =>
  intro h;obtain⟨k,v⟩:=p;obtain⟨k',u⟩:=q;obtain⟨e,ru⟩:=r;have e':k=k':=e;subst e';obtain⟨y,da,db,hy,sa,sb,la,lb,hu,eq⟩:=h k v z7;have ro:=rb.val k;rw [hy] at ro;obtain⟨yu,hyu,ry⟩:=RelO.some_of ro;obtain⟨as,r1⟩:=sa.reads ok ru;obtain⟨bs,r2⟩:=sb.reads ok ry;have ea:=SeqAt.eqAt_reads da db A s u yu as bs r1 r2 la lb hu;rw [eq] at ea;exact KeqHits.hit (e:=true) (b:=true) hyu ea (ih fun k v hm=>h k v (z8 _ hm))
def vz (A:Around)(neg:Bool):R2:=fun x y H Q=>∃ a b ka kb,x=.ref a/\y=.ref b/\H a=some (.dK ka)/\H b=some (.dK kb)/\A.units < cLine/\xI A H ka kb/\Q (.bl (!neg)) H
theorem rY:OpR X (compareOp .NotEq) (vz X.A true):=by
 intro pins s σ H x y v u Q I rx ry h;obtain⟨a,b,ka,kb,rfl,rfl,ea,eb,hu,⟨hl,hs⟩,q⟩:=h;cases rx;cases ry;obtain⟨za,hda,va,ra,dda⟩:=i9 I.hok ea;obtain⟨zb,hdb,vb,rb,ddb⟩:=i9 I.hok eb;have l:va.length=vb.length:=by rw [← ra.length,← rb.length];exact hl
 refine keq_ne (r:=true) hda hdb dda ddb hu (fun _=>jg I.hok rb ra hs) ?_;rw [l,abN];exact⟨.bl false,H,I,rfl,q⟩
theorem sP:OpR X (compareOp .Eq) (vz X.A false):=by
 intro pins s σ H x y v u Q I rx ry h;obtain⟨a,b,ka,kb,rfl,rfl,ea,eb,hu,⟨hl,hs⟩,q⟩:=h;cases rx;cases ry;obtain⟨za,hda,va,ra,dda⟩:=i9 I.hok ea;obtain⟨zb,hdb,vb,rb,ddb⟩:=i9 I.hok eb;have l:va.length=vb.length:=by rw [← ra.length,← rb.length];exact hl
 refine keq_eq (r:=true) hda hdb dda ddb hu (fun _=>jg I.hok rb ra hs) ?_;rw [l,abN];exact⟨.bl true,H,I,rfl,q⟩
end
end L2
namespace LL
open PySem PySem.SeqAt PySem.W PyProof.Rows
open AutoSeq1 (wpAny_loadPart')
open MeetsSeq MeetsSeq2 MeetsSeq3
def qY (A:Around)(s:Shared)(y x:Value)(b:Bool):Prop :=
 ∀ (prog:Program) (w:World) (E:Value->Shared->Prop) (Q:Value->Shared->Prop),Q (.bool b) s->wpAny (model prog w) A (richCompare .Lt y x) Q E s
def qg (m n:Nat)(e f:Nat->Bool):Nat->Nat->Bool
 | 0,_=>decide (m < n)
 | k+1,i=>if e i=true then qg m n e f k (i+1) else f i
theorem se (l b:Addr)(items items2:Array Value)(n n2:Nat)(dd dd2:Option Addr)(sl sl2:Array (Option Value))(e f:Nat->Bool)(k:Nat) :
 ∀ i:Nat,min items.size items2.size - i=k->Meets (Builtin.«list.__eq__.loop» ⟨[.ref l,.ref b,rawInt i,rawInt 0],[]⟩)
  (fun A R s=>s.heap.get? l=some { cls:=.type "list",dict:=dd,data:=.seq items n,slots:=sl }/\s.heap.get? b=some { cls:=.type "list",dict:=dd2,data:=.seq items2 n2,slots:=sl2 } ∧
   (∀ j (h1:j < items.size) (h2:j < items2.size),EqAt A.in1 s items[j] items2[j] (e j))/\(∀ j (h1:j < items.size) (h2:j < items2.size),e j=false->qY A.in1 s items[j] items2[j] (f j)) ∧
   R (.ok (.ret (.bool (qg items.size items2.size e f k i)))) s):=by
 induction k with
 | zero =>
  intro i hk prog w A R s h;obtain⟨hp,g,d,tk,os⟩:=s;obtain⟨hl,hb,he,hf,h⟩:=h
  wp_walk using aaT hl,aaT hb
  have hz:items[((i:Nat):Int).toNat]? = none\/items2[((i:Nat):Int).toNat]? = none:=by
   rcases Nat.lt_or_ge i items.size with h1 | h1
   ·right;simp;lia
   ·left;simp;lia
  have go:R (.ok (.ret (.bool (decide (items.size < items2.size))))) ⟨hp,g,d,tk,os⟩:=h;cases e1:items[((i:Nat):Int).toNat]? with
  | none =>
   wp_walk using aaT hl,aaT hb
   exact go
  | some x =>
   cases e2:items2[((i:Nat):Int).toNat]? with
   | none =>
    wp_walk using aaT hl,aaT hb
    exact go
   | some y =>
    rcases hz with z | z
    ·rw [e1] at z;cases z
    ·rw [e2] at z;cases z
 | succ k ih =>
  intro i hk prog w A R s h;obtain⟨hp,g,d,tk,os⟩:=s;obtain⟨hl,hb,he,hf,h⟩:=h
  wp_walk using aaT hl,aaT hb
  have hlt:i < items.size:=by lia
  have hlt2:i < items2.size:=by lia
  have hi1:items[((i:Nat):Int).toNat]? = some items[i]:=by simp [hlt]
  have hi2:items2[((i:Nat):Int).toNat]? = some items2[i]:=by simp [hlt2]
  have hc:((i:Int)+1)=((i+1:Nat):Int):=by push_cast;rfl
  rw [hi1,hi2];refine zF (he i hlt hlt2 prog w _ _ ?_);unfold qg at h;cases hb':e i with
  | true =>
   rw [hb',if_pos rfl] at h
   wp_walk
   rw [hc];exact⟨abA plain_eq_loop _,aaZ entry_eq_loop (by
    rw [aaF plain_eq_loop _];exact ih (i+1) (by lia) prog w A R _ ⟨hl,hb,he,hf,h⟩)⟩
  | false =>
   rw [hb',if_neg zO] at h
   wp_walk using aaT hl,aaT hb
   rw [hi1,hi2];refine zF (hf i hlt hlt2 hb' prog w _ _ ?_)
   wp_walk
   exact h
theorem tL (l b:Addr)(items items2:Array Value)(n n2:Nat)(dd dd2:Option Addr)(sl sl2:Array (Option Value))(e f:Nat->Bool) :
 Meets (Builtin.«list.__lt__» ⟨[.ref l,.ref b],[]⟩)
  (fun A R s=>s.heap.get? l=some { cls:=.type "list",dict:=dd,data:=.seq items n,slots:=sl }/\s.heap.get? b=some { cls:=.type "list",dict:=dd2,data:=.seq items2 n2,slots:=sl2 } ∧
   (∀ j (h1:j < items.size) (h2:j < items2.size),EqAt A.in1 s items[j] items2[j] (e j))/\(∀ j (h1:j < items.size) (h2:j < items2.size),e j=false->qY A.in1 s items[j] items2[j] (f j)) ∧
   R (.ok (.ret (.bool (qg items.size items2.size e f (min items.size items2.size) 0)))) s):=by
 intro prog w A R s h;obtain⟨hp,g,d,tk,os⟩:=s;obtain⟨hl,hb,he,hf,h⟩:=h;have f3:=AutoSeq1.sub_list_list
 wp_walk using aaT hl,aaT hb
 exact⟨abA plain_eq_loop _,aaZ entry_eq_loop (by
  rw [aaF plain_eq_loop _];exact se l b items items2 n n2 dd dd2 sl sl2 e f _ 0 (by lia) prog w A R _ ⟨hl,hb,he,hf,h⟩)⟩
section
variable {prog:Program}{w:World}{A:Around}{E:Value->Shared->Prop}{s:Shared}
theorem ox {l b:Addr}{items items2:Array Value}{e f:Nat->Bool}{Q:Bool->Shared->Prop}(hl:s.heap.IsList l items)(hb:s.heap.IsList b items2)(hu:A.units < cLine)
 (he:∀ j (h1:j < items.size) (h2:j < items2.size),EqAt A.in1 s items[j] items2[j] (e j))(hf:∀ j (h1:j < items.size) (h2:j < items2.size),e j=false->qY A.in1 s items[j] items2[j] (f j))
 (h:Q (qg items.size items2.size e f (min items.size items2.size) 0) s):wpAny (model prog w) A (keyLt' oneType' (.ref l) (.ref b)) Q E s:=by
 obtain⟨⟨cls,dd,data,sl⟩,ho,hc,n,hd⟩:=id hl;obtain⟨⟨cls2,dd2,data2,sl2⟩,ho2,hc2,n2,hd2⟩:=id hb;simp only at hc hd hc2 hd2;subst hc hd hc2 hd2;rw [keyLt'_oneType,oneLt'_eq];simp only [acK];refine zF (wpAny_cRoomFor hu ?_);refine zF (wpAny_callSpecialIfBound?_slot ⟨_,ho,rfl⟩ F.slot_list_lt (ae9 F.slot_list_lt ⟨_,ho,rfl⟩ F.entry_list_lt (F.args_list_lt_2 _ _) (tL l b items items2 n n2 dd dd2 sl sl2 e f) ⟨ho,ho2,he,hf,?_⟩));exact abd h
end
end LL
namespace L2
open PySem PySem.Spec PyProof.Rows
def gM (nl:Nat)(ix:List Nat)(g:TG)(tf:TT)(tk tv:TE)(σ:St)(D:Addr)(ys:List (Key×V))(H:Hp)(x:V)(nxt:List (Key×V)->Hp->Prop):Prop :=
 g x (fV nl ix σ) H fun σ4 H4=>(σ4.length=(fV nl ix σ).length/\σ4.drop nl=ix.map fun j=>(σ[j]?).join)/\tf σ4 H4 fun b H5 =>
  if b=true then tk σ4 H5 fun z H6=>tv σ4 H6 fun y H7=>∃ k:Key,z=kV k/\H7 D=some (.dK ys)/\ys.length < sizeLine/\nxt (mM ys k y) (upd H7 D (.dK (mM ys k y))) else nxt ys H5
def pE (nl:Nat)(ix:List Nat)(g:TG)(tf:TT)(tk tv:TE)(σ:St)(J:It)(H1:Hp)(D:Addr)(Q:VK):Prop :=
 ∃ W:Nat->Nat->List (Key×V)->Hp->Prop,(∃ m,W 0 m [] (upd H1 D (.dK []))) ∧
 ∀ i m ys H2,W i m ys H2->H2 D=some (.dK ys)/\((J.stop i H2/\Q (.ref D) H2)\/(J.go i H2/\∀ x H3,J.yld i H2 x H3->gM nl ix g tf tk tv σ D ys H3 x fun ys' H'=>∃ m',m' < m/\W (i+1) m' ys' H'))
theorem uX (nl:Nat)(ix:List Nat)(wi:TI)(g:TG)(tf:TT)(tk tv:TE)(σ:St)(H:Hp)(Q:VK)(h:wi σ H fun J H1=>∀ D,H1 D=none->pE nl ix g tf tk tv σ J H1 D Q):tR nl ix wi g tf tk tv σ H Q:=h
section
variable {nl:Nat}{ix:List Nat}{g:TG}{tf:TT}{tk tv:TE}{σ:St}{H1:Hp}{D:Addr}{Q:VK}(Pv:Nat->List (Key×V)->Hp->Prop)
theorem wm {J:It}{n:Nat}(h0:Pv 0 [] (upd H1 D (.dK [])))(hD:∀ i ys H,Pv i ys H->H D=some (.dK ys))(go:∀ i ys H,i < n->Pv i ys H->J.go i H)(stop:∀ ys H,Pv n ys H->J.stop n H)
 (hs:∀ i ys H x H',i < n->Pv i ys H->J.yld i H x H'->gM nl ix g tf tk tv σ D ys H' x fun ys' H'=>Nx n i (Pv (i+1) ys' H'))
 (hd:∀ ys H,Pv n ys H->Q (.ref D) H):pE nl ix g tf tk tv σ J H1 D Q:=by
 refine⟨fun i m ys H=>m=n - i/\i<=n/\Pv i ys H,⟨n,by simp,zZ _,h0⟩,?_⟩;rintro i m ys H ⟨rfl,hi,p⟩;refine⟨hD i ys H p,?_⟩;by_cases hlt:i < n
 ·exact .inr ⟨go i ys H hlt p,fun x H' y=>hs i ys H x H' hlt p y⟩
 ·have e:i=n:=by lia
  subst e;exact .inl ⟨stop ys H p,hd ys H p⟩
end
theorem oR {kvs:List (Key×V)}{k:Key}{v:V}(h:dw kvs k=some v):(k,v)∈kvs:=by
 unfold dw at h;cases e:kvs.find? fun kv=>decide (kv.1=k) with
 | none=>rw [e] at h;cases h
 | some p =>
  rw [e] at h;have h':p.2=v:=by simpa using h
  have hp:=List.find?_some e;have hk:p.1=k:=by simpa using hp
  have:=List.mem_of_find?_eq_some e;obtain⟨p1,p2⟩:=p;simp only at h' hk;subst h' hk;exact this
theorem rj {kvs:List (Key×V)}{k:Key}(h:dw kvs k=none):k ∉ kvs.map (·.1):=by
 intro hm;obtain⟨p,hp,e⟩:=aaJ.mp hm;unfold dw at h;rw [Option.map_eq_none_iff] at h;have:=List.find?_eq_none.mp h p hp;simp [e] at this
def zE (t:TS):TS:=fun D σ H=>∃ N:St->Hp->Prop,(∀ σ' H',N σ' H'->D.nx σ' H')/\t { D with nx:=N } σ H
theorem bF {X:Cx}{st:Stmt}{t:TS}(h:PS X st t):PS X st (zE t):=by
 intro pins s σ H D I hw;obtain⟨N,hN,q⟩:=hw;refine thn (h pins s σ H _ I q) fun f s1 q1=>?_;cases f with
 | next=>obtain⟨σ',H',I',n⟩:=q1;exact⟨σ',H',I',hN _ _ n⟩
 | brk=>exact q1
 | cont=>exact q1
 | ret u=>exact q1
theorem dy (a b:Str):(a++b).cps.toList=a.cps.toList++b.cps.toList:=by
 show (a.cps++b.cps).toList=_;simp
theorem h8:∀ ss:List Str,(Txt.join (Str.ofString "") ss).cps.toList=(ss.map (·.cps.toList)).flatten:=by
 intro ss;show (Builtin.Str.glued (PySem.Str.ofString "") ss).cps.toList=_;rw [StrLaws.glued_eq_join];have e0:(Str.ofString "").cps.toList=[]:=by decide
 induction ss with
 | nil=>rfl
 | cons a r ih =>
  cases r with
  | nil=>simp [Str.join]
  | cons b r' =>
   have:Str.join (Str.ofString "") (a::b::r')=a++Str.ofString "" ++ Str.join (Str.ofString "") (b::r'):=rfl;rw [this,dy,dy,e0,aaK,ih];simp
section
variable {X:Cx}{outer scope:Scope}{N N':List Str}{nl:Nat}{ix:List Nat}{tg iter:Expr}{ifs:List Expr}{pos:Pos}{wi:TI}{g:TG}{tf:TT}
theorem jh {elt:Expr}{te:TE}(h1:X.env.scope=outer)(h2:X.N=N)(hc:X.calm=true)(hi:PI X tg iter wi)
 (hg:∀ C fp s₀ H₀,PG (X.comp scope N' C fp s₀ H₀) tg g)(hf:∀ C fp s₀ H₀,PIf (X.comp scope N' C fp s₀ H₀) ifs tf)(he:∀ C fp s₀ H₀,PE (X.comp scope N' C fp s₀ H₀) elt te)
 (hck:fQ outer scope N N' nl ix=true:=by decide +kernel)(hs:∀ x,foldedSetIterable iter X.env x=pure x:=by intro _;rfl):PE X (.ListComp elt [⟨tg,iter,ifs,0⟩] scope pos) (oK nl ix wi g tf te) :=
 let ⟨S,Cp⟩:=fe h1 h2 hck
 eK hc S Cp hi hg hf he hs
theorem yF {kx vx:Expr}{tk tv:TE}(h1:X.env.scope=outer)(h2:X.N=N)(hc:X.calm=true)(hi:PI X tg iter wi)
 (hg:∀ C fp s₀ H₀,PG (X.comp scope N' C fp s₀ H₀) tg g)(hf:∀ C fp s₀ H₀,PIf (X.comp scope N' C fp s₀ H₀) ifs tf)(hk:∀ C fp s₀ H₀,PE (X.comp scope N' C fp s₀ H₀) kx tk)(hv:∀ C fp s₀ H₀,PE (X.comp scope N' C fp s₀ H₀) vx tv)
 (hck:fQ outer scope N N' nl ix=true:=by decide +kernel)(hs:∀ x,foldedSetIterable iter X.env x=pure x:=by intro _;rfl):PE X (.DictComp kx vx [⟨tg,iter,ifs,0⟩] scope pos) (tR nl ix wi g tf tk tv) :=
 let ⟨S,Cp⟩:=fe h1 h2 hck
 ve hc S Cp hi hg hf hk hv hs
def vP:V->List V->Hp->VK->Prop:=fun x vs H Q=>∃ a kvs,x=.ref a/\vs=[]/\H a=some (.dK kvs)/\Q .non (upd H a (.dK []))
theorem rK:MtM X "dict.clear" vP:=by
 intro pins s σ H x vs v us Q I rx rv h;obtain⟨a,kvs,rfl,rfl,e,q⟩:=h;cases rx;cases rv.zero;exact wa I e fun s' I'=>⟨.non,_,I',rfl,q⟩
end
section
variable {X:Cx}{pins:List (Addr×Obj)}{σ:St}{H:Hp}{s:Shared}{h':Heap}
theorem Inv.turnedL {t':Nat}{fp:List Addr}(I:Inv X pins σ H s)(k:∀ b o,b ∉ fp->s.heap.get? b=some o->h'.get? b=some o)(hf:∀ b∈fp,mj X pins H b):Inv X pins σ H { s with heap:=h',toks:=t' }:=by
 have nit:∀ b u,H b=some u->b ∉ fp:=fun b u e z=>by have:=(hf b z).1;rw [e] at this;cases this
 refine I.step (g':=s.gens) (d':=s.drawn) (ch:=fp) (fun b hb=>?_) (fun b o _ _ hc e _=>k b o hc e) (fun b o _ _ hc e _=>⟨o.slots,k b o hc e⟩) (fun _ _ _ _ n=>n)
  (fun b o hc e=>⟨o,k b o hc e⟩) (fun _ _ e=>e) (fun _ _ _ e=>e) (fun b ps e=>⟨#[],by rw [e];simp⟩) (fun m hm=>?_) (fun b u e=>?_) I.bare
 ·obtain⟨f0,f1,f2,f3,f4,f5⟩:=hf b hb;exact⟨f3,f1,f4,f5⟩
 ·obtain⟨o,es,ep,ho,r⟩:=hm;exact⟨o,es,ep,k _ o (fun z=>(hf _ z).2.1 rfl) ho,r⟩
 ·refine (I.hok b u e).stay (fun c v hc q=>k c v ?_ q) (fun _ q=>q) fun _ _ q=>q;rcases hc with z | z
  ·rw [z];exact nit b u e
  ·exact nit c _ z
theorem Inv.turnedNew {t':Nat}{fp:List Addr}{a:Addr}{o:HO}(I:Inv X pins σ H s)(k:∀ b o,b ∉ fp->s.heap.get? b=some o->h'.get? b=some o)(hf:∀ b∈fp,mj X pins H b)(hp:s.heap.objs.size<=a)(new:ObjOk X.prog X.w (upd H a o) h' a o) :
 Inv X pins σ (upd H a o) { s with heap:=h',toks:=t' }:=by
 have ha:H a=none:=I.hok.fresh hp;have nit:∀ b u,H b=some u->b ∉ fp:=fun b u e z=>by have:=(hf b z).1;rw [e] at this;cases this
 have up:∀ {b u},H b=some u->upd H a o b=some u:=fun {b u} e=>by rw [ai (ag e ha)];exact e
 refine I.step (g':=s.gens) (d':=s.drawn) (ch:=fp) (fun b hb=>?_) (fun b o _ _ hc e _=>k b o hc e) (fun b o _ _ hc e _=>⟨o.slots,k b o hc e⟩) (fun b ob _ e n=>?_)
  (fun b o hc e=>⟨o,k b o hc e⟩) (fun _ _ e=>up e) (fun _ _ _ e=>up e) (fun b ps e=>⟨#[],by rw [up e];simp⟩) (fun m hm=>?_) (fun b u e=>?_) I.bare
 ·obtain⟨f0,f1,f2,f3,f4,f5⟩:=hf b hb;exact⟨f3,f1,f4,f5⟩
 ·rw [ai (zY (zX (zN e) hp))];exact n
 ·obtain⟨o,es,ep,ho,r⟩:=hm;exact⟨o,es,ep,k _ o (fun z=>(hf _ z).2.1 rfl) ho,r⟩
 ·by_cases hb:b=a
  ·subst hb;rw [af] at e;cases e;exact new
  ·rw [ai hb] at e;refine (I.hok b u e).stay (fun c v hc q=>k c v ?_ q) (fun _ q=>up q) fun _ _ q=>up q;rcases hc with z | z
   ·rw [z];exact nit b u e
   ·exact nit c _ z
end
def ItE (K:PySem.W.Frag)(a:Addr):It :=
 ⟨fun i H=>∃ xs x,SqL K H a xs/\xs[i]? = some x,fun i H x H'=>∃ T v,x=.ref T/\H T=none/\H'=upd H T (.tup [.int (i:Int),v])/\∀ xs,SqL K H a xs->xs[i]? = some v,fun i H=>∃ xs,SqL K H a xs/\xs.length<=i⟩
theorem sR {P:Program}{w:World}{K:PySem.W.Frag}{es:List Expr}{kk:Nat}{tp:Pos}(a e it:Addr)(hei:e≠it):wz P w K (.Tuple es kk tp) (ItE K a) [e,it] e (fun i h=>(∃ old,IsEnum h e it (i:Int) old)/\h.IsListIter it a i) where
 mem:=by simp
 obj:=fun i h st b hb=>by
  obtain⟨⟨old,he⟩,hi⟩:=st;rcases aab.mp hb with z | hb
  ·rw [z];exact⟨_,he,fun v z=>by cases z⟩
  ·rw [zQ.mp hb];obtain⟨o,e,c,d⟩:=hi;exact⟨o,e,fun v z=>by rw [d] at z;cases z⟩
 keep:=fun i h h' st k=>⟨let ⟨old,he⟩:=st.1;⟨old,k e (by simp) _ he⟩,st.2.at fun o e=>k it (by simp) o e⟩
 item:=by
  intro X hP hw hK hc i pins s σ H E I hf st hg;subst hP hw hK;obtain⟨xs,x,hq,hx⟩:=hg;obtain⟨its,rv,p,hz⟩:=I.list hq;obtain⟨u,hu,ru⟩:=rv.get hx;obtain⟨⟨old,he⟩,hit⟩:=st;refine wpAny_pyNext_enum_item he hit p.isList (x:=u) (by simpa using hu) hei fun h' ho hit' hT hsz k=>?_;have hh:∀ b o,b ∉ [e,it]->s.heap.get? b=some o->h'.get? b=some o:=fun b o hb q=>k b o (fun z=>hb (by simp [z])) (fun z=>hb (by simp [z])) q;refine⟨_,rfl,wpAny_letOwnedTupleGo_enum ho fun h2 he2 hs2=>?_⟩;have eT:s.heap.objs.size≠e:=aaz (zN he);have hT2:h2.get? s.heap.objs.size=some { cls:=.type "tuple",data:=.seq #[.int i s.toks,u] }:=(hs2.2 _ eT).trans hT;have hh2:∀ b o,b ∉ [e,it]->s.heap.get? b=some o->h2.get? b=some o:=fun b o hb q=>(hs2.2 b (fun z=>hb (by simp [z]))).trans (hh b o hb q);have I2:=I.turnedNew (t':=s.toks+1) (h':=h2) (o:=.tup [.int (i:Int),x]) hh2 hf (zP _) ⟨by show 2<=sizeLine;decide,[.int i s.toks,u],.cons ⟨_,rfl⟩ (.cons ru .nil),_,hT2,rfl,_,rfl⟩;have fr:H s.heap.objs.size=none:=I.fresh;refine⟨.ref s.heap.objs.size,_,I2,rfl,⟨_,x,rfl,fr,rfl,fun ys hy=>by rw [I.list_inj hy hq];exact hx⟩,⟨⟨_,by simpa using he2⟩,hit'.at fun o q=>(hs2.2 it (aaA hei)).trans q⟩,fun b hb=>?_⟩;have hlt:b < s.heap.objs.size:=by
   rcases aab.mp hb with z | hb
   ·rw [z];exact zN he
   ·rw [zQ.mp hb];obtain⟨o,q,_⟩:=hit;exact zN q
  rw [ai (zY hlt)];exact (hf b hb).1
 done:=by
  intro X hP hw hK hc i pins s σ H E I hf st hg;subst hP hw hK;obtain⟨xs,hq,hx⟩:=hg;obtain⟨its,rv,p,hz⟩:=I.list hq;obtain⟨⟨old,he⟩,hit⟩:=st;have hl:=rv.length;exact wpAny_pyNext_enum_end (I.ok.hd hc) he hit p.isList (by simp;lia) fun h' eb=>⟨rfl,I.turnedL (t':=s.toks) (fun b o hb q=>eb b o (fun z=>hb (by simp [z])) q) hf⟩
 self:=fun _ _ _ _ _ st h=>let ⟨⟨_,he⟩,_⟩:=st;wpAny_pyIter_enum he h
def yz (K:PySem.W.Frag)(ta:TA):TI:=fun σ H R=>ta σ H fun vs H1=>∃ a,vs=[.ref a]/\(∃ xs,SqL K H1 a xs)/\R (ItE K a) H1
section
variable {X:Cx}
theorem jI:bootBuiltins "enumerate" = some (.type "enumerate"):=by decide +kernel
theorem wN {a:Expr}{ta:TA}{p pos:Pos}{es:List Expr}{kk:Nat}{tp:Pos}(hg:Gl X "enumerate")(hm:X.mg "enumerate" = none)(ha:PA X [a] ta)(hs:starEach [a] X.env=[(false,eval a X.env)]:=by rfl):PI X (.Tuple es kk tp) (.Call (.Name "enumerate" p) [a] [] pos) (yz X.K ta):=by
 intro pins s σ H R I h;refine Call_ (gx I hg hm jI (abc (thn (ha pos pins s σ H _ I h) fun us s1 ⟨vs,H1,I1,r1,q1⟩=>?_) hs rfl));obtain⟨a,e,⟨xs,hq⟩,q⟩:=q1;subst e;obtain⟨u,rfl,ru⟩:=gT r1;cases ru;obtain⟨its,rv,p,hz⟩:=I1.list hq;refine call_enumerate_list p.isList fun h' he hi hsz k=>?_;have I2:Inv X pins σ H1 { s1 with heap:=h' }:=I1.kept (t':=s1.toks) k;refine wpAny_pyIter_enum he ⟨s1.heap.objs.size+1,[s1.heap.objs.size+1,s1.heap.objs.size],_,ItE X.K a,H1,rfl,I2,sR a _ _ (Nat.succ_ne_self _),⟨⟨_,he⟩,hi⟩,fun b hb=>?_,q⟩;rcases aab.mp hb with z | hb
 ·rw [z];exact I1.fpOk (aa6 _) (I1.hok.fresh (aa6 _))
 ·rw [zQ.mp hb];exact I1.fpOk (zP _) I1.fresh
end
theorem uV {K:PySem.W.Frag}{a:Addr}{xs:List V}{g:TG}{tb:TS}{D:tY}{σ:St}{H:Hp}(Pv:Nat->St->Hp->Prop)(h0:Pv 0 σ H)(hl:∀ i σ H,i<=xs.length->Pv i σ H->SqL K H a xs)
 (hs:∀ i x σ H T,xs[i]? = some x->Pv i σ H->H T=none->g (.ref T) σ (upd H T (.tup [.int (i:Int),x])) fun σ2 H2=>tb { D with nx:=Pv (i+1),ct:=Pv (i+1),bk:=D.nx } σ2 H2)(hd:∀ σ H,Pv xs.length σ H->D.nx σ H) :
 ∃ W:Nat->Nat->St->Hp->Prop,(∃ m,W 0 m σ H)/\∀ i m σ H,W i m σ H →
  ((ItE K a).stop i H/\D.nx σ H)\/((ItE K a).go i H/\∃ N:St->Hp->Prop,(∀ σ' H',N σ' H'->∃ m',m' < m/\W (i+1) m' σ' H')/\∀ x H',(ItE K a).yld i H x H'->g x σ H' fun σ2 H2=>tb { D with nx:=N,ct:=N,bk:=D.nx } σ2 H2):=by
 refine⟨fun i m σ H=>m=xs.length - i/\i<=xs.length/\Pv i σ H,⟨xs.length,by simp,zZ _,h0⟩,?_⟩;rintro i m σ H ⟨rfl,hi,p⟩;have q:=hl i σ H hi p;by_cases hlt:i < xs.length
 ·refine .inr ⟨⟨xs,xs[i],q,by simp [hlt]⟩,Pv (i+1),fun σ' H' p'=>⟨xs.length - (i+1),by lia,rfl,hlt,p'⟩,fun x H' y=>?_⟩;obtain⟨T,v,ex,hT,eH,hv⟩:=y;subst ex eH;exact hs i v σ H T (hv xs q) p hT
 ·have e:i=xs.length:=by lia
  subst e;exact .inl ⟨⟨xs,q,zP _⟩,hd σ H p⟩
end L2
namespace L2
open PySem PySem.Spec PyProof.Rows PySem.W
theorem KV.at' {kvs:List (Key×V)}{vs:List (Key×Value)}(r:KV kvs vs):∀ {i:Nat} {k:Key} {u:Value},vs[i]? = some (k,u)->∃ v,kvs[i]? = some (k,v)/\RelV v u:=by
 induction r with
 | nil=>intro i k u e;simp at e
 | cons h t ih =>
  intro i k u e;cases i with
  | zero =>
   cases e;obtain⟨h1,h2⟩:=h;exact⟨_,aaG some (Prod.ext h1 rfl),h2⟩
  | succ i=>exact ih (by simpa using e)
theorem jM:entryFor table "dict_itemiterator.__iter__" = some Builtin.«dict_keyiterator.__iter__» :=
 aec (id' := "dict_keyiterator.__iter__") (by kernel_rfl) (by first | rfl | decide +kernel) (by decide +kernel) (by kernel_rfl)
theorem kN {prog:Program}{w:World}{A:Around}{E:Value->Shared->Prop}{s:Shared}{it d:Addr}{i n ep:Nat}{ok ov:Value}{Q:Value->Shared->Prop}(hit:IsItemIter s.heap it d i n ep ok ov)(h:Q (.ref it) s):wpAny (model prog w) A (pyIter (.ref it)) Q E s:=by
 have hT:s.TypeIs (.ref it) "dict_itemiterator" := ⟨_,hit,rfl⟩;refine aen hT acL (aaX acL hT jM ?_ (PySem.F.args_dict_itemiterator_iter_1 _));show wpAny _ _ (ret (.ref it)) _ _ s;exact zM ⟨_,rfl,"dict_itemiterator",_,hT,PySem.F.slot_dict_itemiterator_next.lookup,h⟩
def ItI (a:Addr)(o:Obj)(kvs:List (Key×V)):It :=
 ⟨fun i H=>i < kvs.length/\H a=some (.frz o (.dK kvs)),fun i H x H'=>∃ T k v,x=.ref T/\H T=none/\H'=upd H T (.tup [kV k,v])/\kvs[i]? = some (k,v),fun i H=>i=kvs.length/\H a=some (.frz o (.dK kvs))⟩
theorem qf {P:Program}{w:World}{K:PySem.W.Frag}{es:List Expr}{kk:Nat}{tp:Pos}(a it:Addr)(o:Obj)(kvs:List (Key×V))(ep:Nat)(hep:∃ es,o.data=.dict es ep):wz P w K (.Tuple es kk tp) (ItI a o kvs) [it] it (fun i h=>∃ ok ov,IsItemIter h it a i kvs.length ep ok ov) where
 mem:=by simp
 obj:=fun i h st b hb=>by
  have e:b=it:=by simpa using hb
  subst e;obtain⟨ok,ov,e⟩:=st;exact⟨_,e,fun v z=>by cases z⟩
 keep:=fun i h h' st k=>let ⟨ok,ov,e⟩:=st;⟨ok,ov,k it (by simp) _ e⟩
 item:=by
  intro X hP hw hK hc i pins s σ H E I hf st hg;subst hP hw hK;obtain⟨hi,hH⟩:=hg;obtain⟨ho,_,_,vs,rel,dd⟩:=I.hok a _ hH;obtain⟨ep',da⟩:=dd.dictAt;have ee:ep'=ep:=by
   obtain⟨es,h1⟩:=hep;obtain⟨o',es',h2,_,h3,_⟩:=id da;rw [ho] at h2;cases h2;rw [h1] at h3;injection h3 with _ z
   exact z.symm
  subst ee;have hl:=rel.length;obtain⟨⟨k,u⟩,hx⟩:∃ p,vs[i]? = some p:=⟨vs[i],by simp [← hl,hi]⟩;obtain⟨v,hv,rv⟩:=rel.at' hx;obtain⟨ok,ov,hit⟩:=st;rw [hl] at hit;refine wpAny_pyNext_items_item (knd:=aO X.prog X.w) hit da hx fun key h' hkey hout hT hsz kp=>?_;refine⟨_,rfl,wpAny_letOwnedTupleGo_items hout fun h2 hit2 hs2=>?_⟩;have lt:it < s.heap.objs.size:=zN hit;have hT2:h2.get? s.heap.objs.size=some { cls:=.type "tuple",data:=.seq #[key,u] }:=(hs2.2 _ (aaz lt)).trans hT;have hh2:∀ b o,b ∉ [it]->s.heap.get? b=some o->h2.get? b=some o:=fun b o hb q=>(hs2.2 b (fun z=>hb (by simp [z]))).trans (kp b o (fun z=>hb (by simp [z])) q);have I2:=I.turnedNew (t':=s.toks) (h':=h2) (o:=.tup [kV k,v]) hh2 hf (zP _) ⟨by show 2<=sizeLine;decide,[key,u],.cons (oQ hkey) (.cons rv .nil),_,hT2,rfl,_,rfl⟩;refine⟨.ref s.heap.objs.size,_,I2,rfl,⟨_,k,v,rfl,I.fresh,rfl,hv⟩,⟨key,u,by rw [hl];exact hit2⟩,fun b hb=>?_⟩;have e:b=it:=by simpa using hb
  subst e;rw [ai (zY lt)];exact (hf b hb).1
 done:=by
  intro X hP hw hK hc i pins s σ H E I hf st hg;subst hP hw hK;obtain⟨hi,hH⟩:=hg;obtain⟨ho,_,_,vs,rel,dd⟩:=I.hok a _ hH;obtain⟨ep',da⟩:=dd.dictAt;have ee:ep'=ep:=by
   obtain⟨es,h1⟩:=hep;obtain⟨o',es',h2,_,h3,_⟩:=id da;rw [ho] at h2;cases h2;rw [h1] at h3;injection h3 with _ z
   exact z.symm
  subst ee;have hl:=rel.length;obtain⟨ok,ov,hit⟩:=st;rw [hl] at hit;obtain⟨f0,f1,f2,f3,f4,f5⟩:=hf it (by simp);exact wpAny_pyNext_items_end (knd:=aO X.prog X.w) (I.ok.hd hc) hit da (by rw [hi,hl];simp) fun h' eb=>⟨rfl,I.turned (t':=s.toks) (fun b o hb e=>eb b o hb e) f0 f1 f3 f4 f5⟩
 self:=fun _ s _ _ _ st h=>let ⟨_,_,hit⟩:=st;kN hit h
def xA (H₀:Hp)(td:TE):TI:=fun σ H R=>td σ H fun x H1=>∃ a kvs,x=.ref a/\H1 a=some (.dK kvs)/\∀ o,(∀ o' u,H₀ a≠some (.frz o' u))->R (ItI a o kvs) (upd H1 a (.frz o (.dK kvs)))
section
variable {X:Cx}
theorem pH {l:Expr}{tl:TE}{H₀:Hp}{apos cpos tp:Pos}{es:List Expr}{kk:Nat}(hH:X.H₀=H₀)(hl:PE X l tl)(hbase:attributeBase l "items" X.env (eval l X.env)=eval l X.env:=by rfl)(hline:(apos.endLine == cpos.line)=true:=by rfl):PI X (.Tuple es kk tp) (.Call (.Attribute l "items" apos) [] [] cpos) (xA H₀ tl):=by
 subst hH;intro pins s σ H R I h;refine acZ hbase hline (thn (hl pins s σ H _ I h) fun v s1 ⟨y,H1,I1,r1,q1⟩=>?_);obtain⟨a,kvs,rfl,e,q⟩:=q1;cases r1;obtain⟨z,hd,vs,rel,dd⟩:=i9 I1.hok e;obtain⟨ep,da⟩:=dd.dictAt;obtain⟨o,es',ho,hc,hes,_⟩:=id da;obtain⟨h1,h2⟩:=pK (T := "dict") I1 (show RelV (.ref a) (.ref a) from rfl) (.inr (.inr (.inl ⟨rfl,.inl ⟨kvs,e⟩⟩)));refine⟨"dict","dict.items",abt,aeB,PySem.F.type_dict_items,h1,h2,acq rfl (adV ?_)⟩;refine aeP aeB h1 PySem.F.entry_dict_items (PySem.F.args_dict_items_1 _) (meets_dict_items (aO X.prog X.w) a hd) ⟨⟨vs,dd⟩,?_⟩;have da':(s1.heap.push { cls:=.type "dict_items",data:=.fields #[.ref a] }).DictAt (aO X.prog X.w) a vs ep:=da.at' fun o e=>zK _ e;refine wpAny_pyIter_items (s:={ s1 with heap:=s1.heap.push { cls:=.type "dict_items",data:=.fields #[.ref a] } }) (knd:=aO X.prog X.w) ⟨_,zW _ rfl,rfl,rfl⟩ da' ?_;have sz:(s1.heap.push { cls:=.type "dict_items",data:=.fields #[.ref a] }).objs.size=s1.heap.objs.size+1:=abj ..;have I2:=(I1.freeze e ho).kept (t':=s1.toks) (h':=(s1.heap.push { cls:=.type "dict_items",data:=.fields #[.ref a] }).push { cls:=.type "dict_itemiterator",data:=.fields #[.none,.bool false,.ref a,.int 0 0,.int vs.length 0,.int ep 0,.none,.none] }) fun b o e=>zK _ (zK _ e);have ge:s1.heap.objs.size<=(s1.heap.push { cls:=.type "dict_items",data:=.fields #[.ref a] }).objs.size:=by rw [sz];exact aa6 _
 have hn:(upd H1 a (.frz o (.dK kvs))) (s1.heap.push { cls:=.type "dict_items",data:=.fields #[.ref a] }).objs.size=none:=by
  have:=I1.hok.fresh ge;rw [ai (fun z=>by rw [z,e] at this;cases this)];exact this
 refine⟨_,[(s1.heap.push { cls:=.type "dict_items",data:=.fields #[.ref a] }).objs.size],_,ItI a o kvs,upd H1 a (.frz o (.dK kvs)),rfl,I2,qf a _ o kvs ep ⟨es',hes⟩,⟨.none,.none,by rw [rel.length];exact zW _ rfl⟩,fun b hb=>?_,q o (I1.notFrz e)⟩;have eb:b=(s1.heap.push { cls:=.type "dict_items",data:=.fields #[.ref a] }).objs.size:=by simpa using hb
 subst eb;exact I1.fpOk ge hn
end
theorem qx {nl:Nat}{ix:List Nat}{g:TG}{tf:TT}{te:TE}{σ:St}{H1:Hp}{D:Addr}{Q:VK}(Pv:Nat->List V->Hp->Prop){a:Addr}{o:Obj}{kvs:List (Key×V)}(h0:Pv 0 [] (upd H1 D (.lst [])))(hD:∀ i ys H,Pv i ys H->H D=some (.lst ys))(hl:∀ i ys H,Pv i ys H->H a=some (.frz o (.dK kvs)))
 (hs:∀ i ys H T k v,kvs[i]? = some (k,v)->Pv i ys H->H T=none->cE nl ix g tf te σ D ys (upd H T (.tup [kV k,v])) (.ref T) fun ys' H'=>Nx kvs.length i (Pv (i+1) ys' H'))(hd:∀ ys H,Pv kvs.length ys H->Q (.ref D) H):kL nl ix g tf te σ (ItI a o kvs) H1 D Q:=by
 refine pz (n:=kvs.length) Pv h0 hD (fun i ys H hi p=>⟨hi,hl i ys H p⟩) (fun ys H p=>⟨rfl,hl _ ys H p⟩) (fun i ys H x H' hi p y=>?_) hd;obtain⟨T,k,v,ex,hT,eH,hu⟩:=y;subst ex eH;exact hs i ys H T k v hu p hT
end L2
namespace LL
open PySem PySem.SeqAt PySem.W PyProof.Rows
open AutoSeq1 (wpAny_loadPart')
open MeetsSeq MeetsSeq2 MeetsSeq3
section
variable {prog:Program}{w:World}{A:Around}{E:Value->Shared->Prop}{s:Shared}
theorem uJ {a:Addr}{vs:List Value}{n:Nat}{R:PySem.Fin->Shared->Prop}(ho:s.heap.get? a=some (seqObj "list" vs.toArray n))(h2:vs.length < 2)
 (h:R (.done (.ret .none)) { s with heap:=sortedHeap s.heap a vs vs.toArray }):wpAny (model prog w) A (Builtin.«list.sort» ⟨[.ref a],[]⟩) R E s:=by
 have la:a < s.heap.objs.size:=zN ho;have sv:vs.toArray.size=vs.length:=z5 ..;obtain⟨e1,he1⟩:∃ e,(s.heap.update a (Obj.mapSeq fun _=>#[])).get? a=some (seqObj "list" #[] e):=⟨_,get?_update_seq ho (fun _=>#[])⟩;have he2:(((s.heap.update a (Obj.mapSeq fun _=>#[])).push (seqObj "tuple" vs.toArray 0)).push (seqObj "list" #[] 0)).get? a=some (seqObj "list" #[] e1):=zK _ (zK _ he1);rw [adZ];refine zF (acU ho rfl (zF (acb ho rfl ?_ (by rw [sv,adU];lia) (zZ _))));refine zF (acM he1 rfl (zF (acH (zF (abB (aal ?_) (zZ _))) (by show vs.length<=_;rw [adU];lia))));have nb:vs.toArray.size < 2:=by rw [sv];lia
 show wpAny (model prog w) A _ R E { s with heap:=((s.heap.update a (Obj.mapSeq fun _=>#[])).push (seqObj "tuple" vs.toArray 0)).push (seqObj "list" #[] 0) };dsimp only;rw [if_pos nb,if_pos nb];refine zF (zM ?_);rw [StateT.run_pure];refine zF (zM ?_);have hout:(arrOf (SortSt.mk' general' (vs.toArray.zip vs.toArray) #[] 7 none)).map (·.2)=vs.toArray:=by
  show (vs.toArray.zip vs.toArray).map (·.2)=vs.toArray;apply Array.ext_getElem?;intro i;by_cases hi:i < vs.length
  ·simp [hi]
  ·simp [Nat.le_of_not_lt hi]
 dsimp only;rw [hout];refine zF (acM he2 rfl (zF (acb he2 rfl ?_ (zZ _) (by rw [sv,adU];lia))));show wpAny (model prog w) A _ R E _;simp only [abz,aaf,abq];exact zM h
theorem kf {l:Addr}{vs:List Value}{Q:Value->Shared->Prop}(hl:s.heap.IsList l vs.toArray)(h2:vs.length < 2)
 (h:Q (.ref (s.heap.objs.size+1)) { s with heap:=sortedAll s.heap vs vs.toArray }):wpAny (model prog w) A (call (.builtin "sorted") [.ref l]) Q E s:=by
 refine aba ads acR acS (acT _) ?_;have s1:((s.heap.push (seqObj "list" #[] 0)).update s.heap.objs.size (Obj.mapSeq (·++vs.toArray))).objs.size=s.heap.objs.size+1:=by
  rw [abl,acD]
 have g1:(((s.heap.push (seqObj "list" #[] 0)).update s.heap.objs.size (Obj.mapSeq (·++vs.toArray))).push (seqObj "list" vs.toArray 0)).get? (s.heap.objs.size+1)=some (seqObj "list" vs.toArray 0):=by
  rw [← s1];exact zW _ rfl
 unfold Builtin.«sorted»;refine zF (m:=checkCount "sorted" 1 1 _) (zM (zF (collect_list hl (zF (abB ?_ (by rw [adU];lia))) (by rw [adU];lia))));show wpAny _ _ _ _ _ { s with heap:=((s.heap.push (seqObj "list" #[] 0)).update s.heap.objs.size (Obj.mapSeq (·++vs.toArray))).push (seqObj "list" vs.toArray 0) };rw [s1];exact zF (aal (aaX acm ⟨_,g1,rfl⟩ ab2 (uJ g1 h2 ⟨_,rfl,zM ⟨_,rfl,h⟩⟩) (acn _)))
end
end LL
namespace L2
open PySem PySem.Spec PyProof.Rows
section
variable {X:Cx}
theorem jK:d8 X (.type "dict") (fun xs H Q=>∃ (a:Addr) (kvs:List (Key×V)),xs=[.ref a]/\H a=some (.dK kvs)/\∀ d,H d=none->Q (.ref d) (upd H d (.dK kvs))):=by
 intro pins s σ H xs us Q I r h;obtain⟨a,kvs,rfl,e,q⟩:=h;obtain⟨u,rfl,rx⟩:=gT r;cases rx;obtain⟨z,hd,vs,rel,dd⟩:=i9 I.hok e;refine kt_call_dict hd dd (by rw [← rel.length];exact z) fun h' dd' sb=>?_;refine⟨.ref s.heap.objs.size,_,I.laid (t':=s.toks) (o:=.dK kvs) (fun b o e=>?_) (zP _) (mT z (ab4.mpr (aaz I.big)) rel dd'),rfl,q _ (I.hok.fresh (zP _))⟩;have hlt:b < s.heap.objs.size:=zN e;rw [sb.2 b (zY hlt)];exact zK _ e
end
end L2
namespace TS
open PySem PyProof.Rows
def sS:Bool->Keyed->Array Keyed->Nat->Nat->Nat->StateT SortSt Sem (Option Nat):=sortPriv% PySem.Builtin.gallop
def kk (κ:KeyKind)(p:Keyed):κ.α:=(κ.keyOf p.1).getD κ.dflt
def Va (κ:KeyKind)(p:Keyed):Prop:=∃ a,κ.keyOf p.1=some a
theorem jw {κ:KeyKind}{xs:Array Keyed}{i:Nat}{p:Keyed}(h:xs[i]? = some p):KK κ xs i=kk κ p:=by
 unfold KK kk;rw [h]
def LtAt (prog:Program)(w:World)(A:Around)(s:Shared)(κ:KeyKind)(kd:SortKind):Prop:=∀ (E:Value->Shared->Prop) (x y:Value) (a b:κ.α) {Q:Bool->Shared->Prop},κ.keyOf x=some a->κ.keyOf y=some b->Q (κ.blt a b) s->wpAny (model prog w) A (keyLt' kd x y) Q E s
theorem LtAt.of {prog:Program}{w:World}{A:Around}{s:Shared}{κ:KeyKind}(h:κ.OneLt):LtAt prog w A s κ oneType':=fun E x y a b Q hx hy q=>h prog w A E s x y a b hx hy q
section
variable {prog:Program}{w:World}{A:Around}{E:Value->Shared->Prop}{s:Shared}{κ:KeyKind}{kd:SortKind}
theorem xr (hO:LtAt prog w A s κ kd){st:SortSt}{x y:Keyed}{Q:Option Bool->SortSt->Prop}(hk:kindOf st=kd)(hx:Va κ x)(hy:Va κ y)(h:Q (some (κ.blt (kk κ x) (kk κ y))) st):wpS (model prog w) A E s (lt' x y) Q st:=by
 obtain⟨a,ha⟩:=hx;obtain⟨b,hb⟩:=hy;have ea:kk κ x=a:=by unfold kk;rw [ha];rfl
 have eb:kk κ y=b:=by unfold kk;rw [hb];rfl
 rw [ea,eb] at h;rw [lt'_eq];refine zV (adG ?_);rw [hk];exact zV (wpS_lift (aey (hO _ x.1 y.1 a b ha hb ⟨rfl,z6 h⟩)))
theorem cc {arr:Array Keyed}{i:Nat}{p:Keyed}{st:SortSt}{Q:Keyed->SortSt->Prop}(h:arr[i]? = some p)(q:Q p st):wpS (model prog w) A E s (elem' arr i) Q st:=by
 rw [elem'_eq,h];exact z6 q
def bey (κ:KeyKind)(left:Bool)(key:Keyed)(arr:Array Keyed)(base i:Nat):Bool:=if left=true then κ.blt (KK κ arr (base+i)) (kk κ key) else !κ.blt (kk κ key) (KK κ arr (base+i))
theorem uY (hO:LtAt prog w A s κ kd){left:Bool}{key:Keyed}{arr:Array Keyed}{base i:Nat}{st:SortSt}{Q:Option Bool->SortSt->Prop}(hk:kindOf st=kd)(hkey:Va κ key)(hv:∃ p,arr[base+i]? = some p/\Va κ p)(h:Q (some (bey κ left key arr base i)) st) :
 wpS (model prog w) A E s (elem' arr (base+i) >>= fun x=>if left=true then lt' x key else lt' key x >>= fun l=>pure (l.map fun b=>!b)) Q st:=by
 obtain⟨p,hp,vp⟩:=hv;unfold bey at h;rw [jw hp] at h;refine zV (cc hp ?_);cases left with
 | true =>
  rw [if_pos rfl] at h ⊢;exact xr hO hk vp hkey h
 | false =>
  rw [if_neg zO] at h ⊢;exact zV (xr hO hk hkey vp (z6 h))
theorem p8 (hO:LtAt prog w A s κ kd){left:Bool}{key:Keyed}{arr:Array Keyed}{base n hint:Nat}{st:SortSt}{Q:Option Nat->SortSt->Prop}(hk:kindOf st=kd)(hkey:Va κ key)(hv:∀ i,i < n->∃ p,arr[base+i]? = some p/\Va κ p)(hn:hint < n)
 (mono:∀ i j,i<=j->j < n->bey κ left key arr base j=true->bey κ left key arr base i=true)
 (h:∀ k,k<=n->(∀ i,i < k->bey κ left key arr base i=true)->(∀ i,k<=i->i < n->bey κ left key arr base i=false)->Q (some k) st) :
 wpS (model prog w) A E s (sS left key arr base n hint) Q st:=by
 have down:∀ i j,i<=j->j < n->bey κ left key arr base i=false->bey κ left key arr base j=false:=fun i j hij hj e=>by
  cases q:bey κ left key arr base j with
  | false=>rfl
  | true=>rw [mono i j hij hj q] at e;cases e
 refine zV (uY hO hk hkey (hv hint hn) ?_);dsimp -zeta -zetaHave only
 lift_lets
 extract_lets jp
 have hjp:∀ lastofs ofs lo hi,lo<=hi->hi<=n->(∀ i,i < lo->bey κ left key arr base i=true)->(∀ i,hi<=i->i < n->bey κ left key arr base i=false)->wpS (model prog w) A E s (jp () lastofs ofs lo hi) Q st:=by
  intro lastofs ofs lo hi h1 h2 h3 h4;refine zV (abO (aa4 (I:=fun x c st'=>st'=st/\∃ l r,c=(none,l,r)/\l<=r/\r<=n/\r - l<=n - x/\(∀ i,i < l->bey κ left key arr base i=true)/\(∀ i,r<=i->i < n->bey κ left key arr base i=false))
   (Q:=fun c st'=>st'=st/\∃ l r,c=(none,l,r)/\r<=n/\(∀ i,i < r->bey κ left key arr base i=true)/\(∀ i,r<=i->i < n->bey κ left key arr base i=false)) ?_ ?_ ⟨rfl,lo,hi,rfl,h1,h2,by lia,h3,h4⟩) ?_)
  ·rintro x c st' _ hx ⟨rfl,l,r,rfl,g1,g2,g3,g4,g5⟩;dsimp only;by_cases hge:l ≥ r
   ·rw [if_pos hge];have e:l=r:=by lia
    subst e;exact z6 ⟨rfl,l,l,rfl,g2,g4,g5⟩
   ·rw [if_neg hge];refine zV (uY hO hk hkey (hv _ (by lia)) ?_);dsimp only;cases q:bey κ left key arr base (l+(r - l) / 2) with
    | true =>
     rw [if_pos rfl];exact z6 ⟨rfl,_,r,rfl,by lia,g2,by lia,fun i hi=>mono i _ (by lia) (by lia) q,g5⟩
    | false =>
     rw [if_neg zO];exact z6 ⟨rfl,l,_,rfl,by lia,by lia,by lia,g4,fun i hi hin=>down _ i hi hin q⟩
  ·rintro c st' ⟨rfl,l,r,rfl,g1,g2,g3,g4,g5⟩;have e:l=r:=by lia
   subst e;exact⟨rfl,l,l,rfl,g2,g4,g5⟩
  ·rintro c st' ⟨rfl,l,r,rfl,g2,g4,g5⟩;exact z6 (h r g2 g4 g5)
 clear_value jp
 cases q0:bey κ left key arr base hint with
 | true =>
  rw [if_pos rfl];refine zV (abO (aa4 (I:=fun x c st'=>st'=st/\∃ lf of,c=(none,lf,of)/\x+1<=of/\lf < of/\hint+lf < n/\bey κ left key arr base (hint+lf)=true)
   (Q:=fun c st'=>st'=st/\∃ lf of,c=(none,lf,of)/\lf < of/\hint+lf < n/\bey κ left key arr base (hint+lf)=true/\(n - hint<=of\/bey κ left key arr base (hint+of)=false)) ?_ ?_ ⟨rfl,0,1,rfl,by lia,by lia,by lia,q0⟩) ?_)
  ·rintro x c st' _ hx ⟨rfl,lf,of,rfl,g1,g2,g3,g4⟩;dsimp only;by_cases hge:of ≥ n - hint
   ·rw [if_pos hge];exact z6 ⟨rfl,lf,of,rfl,g2,g3,g4,.inl hge⟩
   ·rw [if_neg hge];refine zV (uY hO hk hkey (hv _ (by lia)) ?_);dsimp only;cases q:bey κ left key arr base (hint+of) with
    | true =>
     rw [if_neg (by simp)];exact z6 ⟨rfl,of,_,rfl,by lia,by lia,by lia,q⟩
    | false =>
     rw [if_pos (show (!false)=true from rfl)];exact z6 ⟨rfl,lf,of,rfl,g2,g3,g4,.inr q⟩
  ·rintro c st' ⟨rfl,lf,of,rfl,g1,g2,g3,g4⟩;exact⟨rfl,lf,of,rfl,g2,g3,g4,.inl (by lia)⟩
  ·rintro c st' ⟨rfl,lf,of,rfl,g2,g3,g4,g5⟩;dsimp only;refine hjp _ _ _ _ (by lia) (by lia) (fun i hi=>mono i (hint+lf) (by lia) g3 g4) (fun i hi hin=>?_);rcases g5 with g5 | g5
   ·lia
   ·exact down (hint+of) i (by lia) hin g5
 | false =>
  rw [if_neg zO];refine zV (abO (aa4 (I:=fun x c st'=>st'=st/\∃ lf of,c=(none,lf,of)/\x+1<=of/\lf < of/\lf<=hint/\bey κ left key arr base (hint - lf)=false)
   (Q:=fun c st'=>st'=st/\∃ lf of,c=(none,lf,of)/\lf < of/\lf<=hint/\bey κ left key arr base (hint - lf)=false/\(hint+1<=of\/bey κ left key arr base (hint - of)=true)) ?_ ?_ ⟨rfl,0,1,rfl,by lia,by lia,by lia,q0⟩) ?_)
  ·rintro x c st' _ hx ⟨rfl,lf,of,rfl,g1,g2,g3,g4⟩;dsimp only;by_cases hge:of ≥ hint+1
   ·rw [if_pos hge];exact z6 ⟨rfl,lf,of,rfl,g2,g3,g4,.inl hge⟩
   ·rw [if_neg hge];refine zV (uY hO hk hkey (hv _ (by lia)) ?_);dsimp only;cases q:bey κ left key arr base (hint - of) with
    | true =>
     rw [if_pos rfl];exact z6 ⟨rfl,lf,of,rfl,g2,g3,g4,.inr q⟩
    | false =>
     rw [if_neg zO];exact z6 ⟨rfl,of,_,rfl,by lia,by lia,by lia,q⟩
  ·rintro c st' ⟨rfl,lf,of,rfl,g1,g2,g3,g4⟩;exact⟨rfl,lf,of,rfl,g2,g3,g4,.inl (by lia)⟩
  ·rintro c st' ⟨rfl,lf,of,rfl,g2,g3,g4,g5⟩;dsimp only;refine hjp _ _ _ _ (by lia) (by lia) (fun i hi=>?_) (fun i hi hin=>down (hint - lf) i (by lia) hin g4);rcases g5 with g5 | g5
   ·lia
   ·exact mono i (hint - of) (by lia) (by lia) g5
end
def uM:Array Keyed->Array Keyed->StateT SortSt Sem (Array Keyed):=sortPriv% PySem.Builtin.mergeLo
def uj:Array Keyed->Array Keyed->StateT SortSt Sem (Array Keyed):=sortPriv% PySem.Builtin.mergeHi
def le (κ:KeyKind)(x y:Keyed):Prop:=κ.kle (kk κ x) (kk κ y)
def lt (κ:KeyKind)(x y:Keyed):Prop:=κ.klt (kk κ x) (kk κ y)
def SL (κ:KeyKind)(l:List Keyed):Prop:=l.Pairwise (le κ)
section
variable {κ:KeyKind}
theorem le_trans {x y z:Keyed}(a:le κ x y)(b:le κ y z):le κ x z:=aci a b
theorem le_of_lt {x y:Keyed}(a:lt κ x y):le κ x y:=acE a
theorem le_refl (x:Keyed):le κ x x:=ab3 _
structure Mg (κ:KeyKind)(LL o A B:List Keyed):Prop where
 perm:(o++(A++B)).Perm LL
 sa:SL κ (o++A)
 sb:SL κ (o++B)
def jF (κ:KeyKind)(LL m:List Keyed):Prop:=m.Perm LL/\SL κ m
theorem Mg.a {LL o c A B:List Keyed}(h:Mg κ LL o (c++A) B)(hc:∀ x∈c,∀ y∈B,le κ x y):Mg κ LL (o++c) A B:=by
 refine⟨?_,?_,?_⟩
 ·have:=h.perm;rw [zU] at this;rw [zU];exact this
 ·rw [zU];exact h.sa
 ·have s1:=h.sa;have s2:=h.sb;unfold SL at *;rw [← zU] at s1;rw [aaO] at s1 s2 ⊢;refine⟨s1.1,s2.2.1,fun x hx y hy=>?_⟩;rcases zS.mp hx with hx | hx
  ·exact s2.2.2 x hx y hy
  ·exact hc x hx y hy
theorem Mg.b {LL o c A B:List Keyed}(h:Mg κ LL o A (c++B))(hc:∀ y∈c,∀ x∈A,le κ y x):Mg κ LL (o++c) A B:=by
 refine⟨?_,?_,?_⟩
 ·refine List.Perm.trans ?_ h.perm;rw [zU];refine abE o ?_;rw [← zU,← zU];exact abL B acA
 ·have s1:=h.sa;have s2:=h.sb;unfold SL at *;rw [← zU] at s2;rw [aaO] at s1 s2 ⊢;refine⟨s2.1,s1.2.1,fun x hx y hy=>?_⟩;rcases zS.mp hx with hx | hx
  ·exact s1.2.2 x hx y hy
  ·exact hc x hx y hy
 ·rw [zU];exact h.sb
theorem Mg.endA {LL o A:List Keyed}(h:Mg κ LL o A []):jF κ LL (o++A):=⟨by have:=h.perm;rwa [aaK] at this,h.sa⟩
theorem Mg.endB {LL o B:List Keyed}(h:Mg κ LL o [] B):jF κ LL (o++B):=⟨h.perm,h.sb⟩
theorem Mg.last {LL o B:List Keyed}{z:Keyed}(h:Mg κ LL o [z] B)(hz:∀ y∈B,le κ y z):jF κ LL (o++B++[z]):=by
 refine⟨?_,?_⟩
 ·refine List.Perm.trans ?_ h.perm;rw [zU];exact abE o acA
 ·have s1:=h.sa;have s2:=h.sb;unfold SL at *;rw [aaO] at s1 ⊢;refine⟨s2,s1.2.1,fun x hx y hy=>?_⟩;rcases zS.mp hx with hx | hx
  ·exact s1.2.2 x hx y hy
  ·rw [zQ.mp hy];exact hz x hx
theorem SL.at {l:List Keyed}(h:SL κ l){i j:Nat}{x y:Keyed}(hij:i<=j)(hx:l[i]? = some x)(hy:l[j]? = some y):le κ x y:=by
 obtain⟨hi,ex⟩:=zJ.mp hx;obtain⟨hj,ey⟩:=zJ.mp hy;rcases Nat.lt_or_eq_of_le hij with q | q
 ·rw [← ex,← ey];exact aaU.mp h i j hi hj q
 ·subst q;rw [← ex,← ey];exact le_refl _
theorem SL.head {l:List Keyed}{x:Keyed}(h:SL κ (x::l)):∀ y∈x::l,le κ x y:=fun y hy=>by
 rcases aab.mp hy with e | e
 ·rw [e];exact le_refl _
 ·exact (abF.mp h).1 y e
theorem SL.drop {l:List Keyed}(h:SL κ l)(n:Nat):SL κ (l.drop n):=aeZ (List.drop_sublist _ _) h
theorem SL.take {l:List Keyed}(h:SL κ l)(n:Nat):SL κ (l.take n):=aeZ (List.take_sublist _ _) h
end
section
variable {prog:Program}{w:World}{A:Around}{E:Value->Shared->Prop}{s:Shared}{κ:KeyKind}{kd:SortKind}
theorem dr (hO:LtAt prog w A s κ kd){left:Bool}{key:Keyed}{arr:Array Keyed}{base n hint:Nat}{st:SortSt}{Q:Option Nat->SortSt->Prop}(hk:kindOf st=kd)(hkey:Va κ key)(hb:base+n<=arr.size)(va:∀ p∈(arr.toList.drop base).take n,Va κ p)(so:SL κ ((arr.toList.drop base).take n))(hn:hint < n)
 (h:∀ k,k<=n->(∀ x∈((arr.toList.drop base).take n).take k,if left=true then lt κ x key else le κ x key)->(∀ x∈((arr.toList.drop base).take n).drop k,if left=true then le κ key x else lt κ key x)->Q (some k) st) :
 wpS (model prog w) A E s (sS left key arr base n hint) Q st:=by
 have at_:∀ i,i < n->∃ p,arr[base+i]? = some p/\((arr.toList.drop base).take n)[i]? = some p:=fun i hi=>by
  refine⟨arr[base+i],getElem?_pos _ _ (by lia),?_⟩;rw [abW hi,List.getElem?_drop];simp
 have len:((arr.toList.drop base).take n).length=n:=by
  rw [aad,aaR,zR];lia
 generalize (arr.toList.drop base).take n=S at va so h at_ len;refine p8 hO hk hkey (fun i hi=>?_) hn (fun i j hij hj e=>?_) fun k hkn h1 h2=>h k hkn (fun x hx=>?_) (fun x hx=>?_)
 ·obtain⟨p,e1,e2⟩:=at_ i hi;exact⟨p,e1,va p (aac e2)⟩
 ·obtain⟨p,e1,e2⟩:=at_ i (by lia);obtain⟨q,e3,e4⟩:=at_ j hj;have hle:=so.at hij e2 e4;unfold bey at e ⊢;rw [jw e1];rw [jw e3] at e;cases left with
  | true =>
   rw [if_pos rfl] at e ⊢;exact KeyOrd.klt_of_kle_of_klt hle e
  | false =>
   rw [if_neg zO] at e ⊢;have e':κ.blt (kk κ key) (kk κ q)=false:=by simpa using e
   have this:κ.blt (kk κ key) (kk κ p)=false:=aci hle e';rw [this]
   rfl
 ·obtain⟨i,hi,ex⟩:=abS.mp hx;rw [aad] at hi;rw [adt] at ex;obtain⟨p,e1,e2⟩:=at_ i (by lia);have q:=h1 i (by lia);rw [zG (by lia)] at e2;rw [ex] at e2;cases e2;unfold bey at q;rw [jw e1] at q;cases left with
  | true=>exact q
  | false =>
   rw [if_neg zO] at q ⊢;show κ.blt (kk κ key) (kk κ x)=false;simpa using q
 ·obtain⟨i,hi,ex⟩:=abS.mp hx;rw [aaR] at hi;rw [aeo] at ex;obtain⟨p,e1,e2⟩:=at_ (k+i) (by lia);have q:=h2 (k+i) (by lia) (by lia);rw [zG (by lia)] at e2;rw [ex] at e2;cases e2;unfold bey at q;rw [jw e1] at q;cases left with
  | true=>exact q
  | false =>
   rw [if_neg zO] at q ⊢;show κ.blt (kk κ key) (kk κ x)=true;simpa using q
end
def Eqv (st st':SortSt):Prop:=kindOf st'=kindOf st/\arrOf st'=arrOf st/\pendingOf st'=pendingOf st/\failedOf st'=failedOf st
theorem Eqv.refl (st:SortSt):Eqv st st:=⟨rfl,rfl,rfl,rfl⟩
def yH:Nat->StateT SortSt Sem Unit:=sortPriv% PySem.Builtin.setMinGallop
theorem pN {prog:Program}{w:World}{A:Around}{E:Value->Shared->Prop}{s:Shared}{g:Nat}{st0 st:SortSt}{Q:Unit->SortSt->Prop}(e:Eqv st0 st)(h:∀ st',Eqv st0 st'->Q () st'):wpS (model prog w) A E s (yH g) Q st :=
 aco (h _ e)
theorem bD {a:Array Keyed}{i:Nat}{x:Keyed}(h:a[i]? = some x):a.toList.drop i=[x]++a.toList.drop (i+1):=by
 obtain⟨hi,e⟩:=ad5.mp h;rw [abP (by simpa using hi)];simp [e]
theorem gF (o:Array Keyed)(x:Keyed):(o.push x).toList=o.toList++[x]:=by simp
theorem pU (o a:Array Keyed)(i k:Nat):(o++a.extract i (i+k)).toList=o.toList++(a.toList.drop i).take k:=by
 simp [abG,abk]
theorem fP (o a:Array Keyed)(i:Nat):(o++a.extract i a.size).toList=o.toList++a.toList.drop i:=by
 simp only [Array.toList_append,abG,abk];rw [aau (by simp)]
section
variable {κ:KeyKind}{LL:List Keyed}{a b out:Array Keyed}{ia ib:Nat}
theorem uG (M:Mg κ LL out.toList (a.toList.drop ia) (b.toList.drop ib))(c:ib=b.size):jF κ LL (out++a.extract ia a.size++b.extract ib b.size).toList:=by
 rw [fP,fP];have e:b.toList.drop ib=[]:=abx (by rw [zR];lia);rw [e] at M ⊢;rw [aaK];exact M.endA
theorem yP (M:Mg κ LL out.toList (a.toList.drop ia) (b.toList.drop ib))(c:ia=a.size):jF κ LL (out++a.extract ia a.size++b.extract ib b.size).toList:=by
 rw [fP,fP];have e:a.toList.drop ia=[]:=abx (by rw [zR];lia);rw [e] at M ⊢;rw [aaK];exact M.endB
theorem ur (M:Mg κ LL out.toList (a.toList.drop ia) (b.toList.drop ib))(c:ia+1=a.size)(P2:∀ y∈b.toList,∀ z∈a.toList.drop (a.size - 1),le κ y z):jF κ LL (out++b.extract ib b.size++a.extract ia a.size).toList:=by
 rw [fP,fP];have hp:a[ia]? = some a[ia]:=getElem?_pos _ _ (by lia);have e:a.toList.drop ia=[a[ia]]:=by
  rw [bD hp,abx (by rw [zR];lia),aaK]
 rw [e] at M ⊢;refine M.last fun y hy=>P2 y (aaP hy) _ ?_;rw [show a.size - 1=ia by lia,e];exact zQ.mpr rfl
theorem fJ (x:Array Keyed)(i:Nat):(x.toList.drop i).take (x.size - i)=x.toList.drop i:=aau (by rw [aaR,zR];lia)
theorem mh (x:Array Keyed)(i k:Nat):x.toList.drop i=(x.toList.drop i).take k++x.toList.drop (i+k):=by
 have:=(aat k (x.toList.drop i)).symm
 rwa [acI] at this
theorem cZ {x:Array Keyed}{i:Nat}(h:i < x.size):∃ p,x[i]? = some p/\p∈x.toList:=⟨x[i],getElem?_pos x i h,by simp⟩
end
section
variable {prog:Program}{w:World}{A:Around}{E:Value->Shared->Prop}{s:Shared}{κ:KeyKind}{kd:SortKind}
theorem ifp {M:Model}{σ α:Type}{c:Prop}[Decidable c]{m1 m2:StateT σ Sem α}{Q:α->σ->Prop}{st:σ}(hc:c)(h:wpS M A E s m1 Q st):wpS M A E s (if c then m1 else m2) Q st:=by
 rw [if_pos hc];exact h
theorem ifn {M:Model}{σ α:Type}{c:Prop}[Decidable c]{m1 m2:StateT σ Sem α}{Q:α->σ->Prop}{st:σ}(hc:¬ c)(h:wpS M A E s m2 Q st):wpS M A E s (if c then m1 else m2) Q st:=by
 rw [if_neg hc];exact h
theorem ifs {M:Model}{σ α:Type}{c:Prop}[Decidable c]{m1 m2:StateT σ Sem α}{Q:α->σ->Prop}{st:σ}(h1:c->wpS M A E s m1 Q st)(h2:¬ c->wpS M A E s m2 Q st):wpS M A E s (if c then m1 else m2) Q st:=by
 by_cases hc:c
 ·exact ifp hc (h1 hc)
 ·exact ifn hc (h2 hc)
theorem uo {M:Model}{σ α β γ:Type}{jp:Unit->β->γ->StateT σ Sem α}{m:StateT σ Sem α}{Q:α->σ->Prop}{st:σ}(R:β->γ->Prop)(h1:∀ x y,R x y->wpS M A E s (jp () x y) Q st)(h2:(∀ x y,R x y->wpS M A E s (jp () x y) Q st)->wpS M A E s m Q st):wpS M A E s m Q st:=h2 h1
theorem ifj {M:Model}{σ α β:Type}{c:Prop}[Decidable c]{jp:Unit->β->StateT σ Sem α}{x y:β}{Q:α->σ->Prop}{st:σ}(h:∀ g,wpS M A E s (jp () g) Q st):wpS M A E s (if c then jp () x else jp () y) Q st:=ifs (fun _=>h x) (fun _=>h y)
theorem nL (hO:LtAt prog w A s κ kd){a b:Array Keyed}{st:SortSt}{Q:Array Keyed->SortSt->Prop}(hk:kindOf st=kd)(va:∀ p∈a.toList,Va κ p)(vb:∀ p∈b.toList,Va κ p)(ha:1<=a.size)(hb:1<=b.size)(sa:SL κ a.toList)(sb:SL κ b.toList)
 (P1:∀ y∈b.toList.take 1,∀ x∈a.toList,le κ y x)(P2:∀ y∈b.toList,∀ z∈a.toList.drop (a.size - 1),le κ y z)
 (h:∀ m st',Eqv st st'->jF κ (a.toList++b.toList) m.toList->Q m st'):wpS (model prog w) A E s (uM a b) Q st:=by
 have hL:∃ LL,LL=a.toList++b.toList:=⟨_,rfl⟩;obtain⟨LL,eL⟩:=hL;rw [← eL] at h;obtain⟨b0,hb0,mb0⟩:=cZ (x:=b) (i:=0) (by lia);have M0:Mg κ LL [] a.toList b.toList:=⟨by rw [eL];exact List.Perm.refl _,sa,sb⟩;have M1:Mg κ LL (#[b0]:Array Keyed).toList (a.toList.drop 0) (b.toList.drop 1):=by
  have e:b.toList=[b0]++b.toList.drop 1:=by
   have:=bD hb0
   rwa [abo] at this
  have M0':=M0;rw [e] at M0';rw [abo];refine Mg.b M0' fun y hy x hx=>P1 y ?_ x hx;rw [e];rw [zQ.mp hy];simp
 refine zV (wpS_lift (abJ ⟨rfl,?_⟩));refine zV (cc hb0 ?_);by_cases c1:1=b.size
 ·rw [if_pos (by simpa using c1)];exact z6 (h _ _ (Eqv.refl _) (uG M1 c1))
 rw [if_neg (by simpa using c1)];by_cases c2:0+1=a.size
 ·rw [if_pos (by simpa using c2)];exact z6 (h _ _ (Eqv.refl _) (ur M1 c2 P2))
 rw [if_neg (by simpa using c2)];refine zV (adG ?_);refine zV (abO (aa4 (I:=fun x c st'=>Eqv st st'/\∃ out ia ib mg,c=(none,out,ia,ib,mg)/\Mg κ LL out.toList (a.toList.drop ia) (b.toList.drop ib)/\ia+1 < a.size/\ib < b.size/\x+1<=ia+ib)
  (Q:=fun c st'=>Eqv st st'/\∃ m r,c=(some m,r)/\jF κ LL m.toList) ?_ ?_ ⟨Eqv.refl _,_,_,_,_,rfl,M1,by lia,by lia,by lia⟩) ?_)
 rotate_left
 ·rintro c st' ⟨ev,out,ia,ib,mg,rfl,M,hia,hib,hpr⟩;lia
 ·rintro c st' ⟨ev,m,r,rfl,g⟩;exact z6 (h _ _ ev g)
 rintro x c st1 _ hx ⟨ev1,out,ia,ib,mg,rfl,M,hia,hib,hpr⟩;refine zV (abO (aa4 (I:=fun y c st2=>Eqv st st2/\∃ out' ia' ib' ac bc,c=(none,out',ia',ib',ac,bc)/\Mg κ LL out'.toList (a.toList.drop ia') (b.toList.drop ib')/\ia'+1 < a.size/\ib' < b.size/\ia+ib+y<=ia'+ib')
  (Q:=fun c st2=>Eqv st st2/\((∃ m r,c=(some m,r)/\jF κ LL m.toList)\/∃ out' ia' ib' ac bc,c=(none,out',ia',ib',ac,bc)/\Mg κ LL out'.toList (a.toList.drop ia') (b.toList.drop ib')/\ia'+1 < a.size/\ib' < b.size/\ia+ib+1<=ia'+ib')) ?_ ?_ ⟨ev1,out,ia,ib,_,_,rfl,M,hia,hib,zP _⟩) ?_)
 ·rintro y c st2 _ hy ⟨ev2,out',ia',ib',ac,bc,rfl,M',hia',hib',hpr'⟩;obtain⟨q,hq,mq⟩:=cZ hib';obtain⟨p,hp,mp⟩:=cZ (x:=a) (i:=ia') (by lia);have sB:=sb.drop ib';have sA:=sa.drop ia';rw [bD hq] at sB;rw [bD hp] at sA;refine zV (cc hq (zV (cc hp (zV (xr hO (ev2.1.trans hk) (vb q mq) (va p mp) ?_)))));cases hw:κ.blt (kk κ q) (kk κ p) with
  | true =>
   refine ifp rfl ?_;refine zV (cc hq ?_);have M2:Mg κ LL (out'.push q).toList (a.toList.drop ia') (b.toList.drop (ib'+1)):=by
    rw [gF];refine Mg.b (by rw [← bD hq];exact M') fun y hy x hx=>?_;rw [zQ.mp hy];rw [bD hp] at hx;exact le_trans (le_of_lt hw) (sA.head x hx)
   by_cases c:ib'+1=b.size
   ·refine ifp (aag.mpr c) ?_;exact z6 ⟨ev2,.inl ⟨_,_,rfl,uG M2 c⟩⟩
   refine ifn (fun z=>c (aag.mp z)) ?_;refine ifs (fun _=>?_) (fun _=>?_)
   ·exact z6 ⟨ev2,.inr ⟨_,ia',ib'+1,_,_,rfl,M2,hia',by lia,by lia⟩⟩
   ·exact z6 ⟨ev2,_,ia',ib'+1,_,_,rfl,M2,hia',by lia,by lia⟩
  | false =>
   refine ifn zO ?_;refine zV (cc hp ?_);have M2:Mg κ LL (out'.push p).toList (a.toList.drop (ia'+1)) (b.toList.drop ib'):=by
    rw [gF];refine Mg.a (by rw [← bD hp];exact M') fun y hy x hx=>?_;rw [zQ.mp hy];rw [bD hq] at hx;exact le_trans (show le κ p q from hw) (sB.head x hx)
   by_cases c:ia'+1+1=a.size
   ·refine ifp (aag.mpr c) ?_;exact z6 ⟨ev2,.inl ⟨_,_,rfl,ur M2 c P2⟩⟩
   refine ifn (fun z=>c (aag.mp z)) ?_;refine ifs (fun _=>?_) (fun _=>?_)
   ·exact z6 ⟨ev2,.inr ⟨_,ia'+1,ib',_,_,rfl,M2,by lia,by lia,by lia⟩⟩
   ·exact z6 ⟨ev2,_,ia'+1,ib',_,_,rfl,M2,by lia,by lia,by lia⟩
 ·rintro c st2 ⟨ev2,out',ia',ib',ac,bc,rfl,M',hia',hib',hpr'⟩;exact⟨ev2,.inr ⟨_,_,_,_,_,rfl,M',hia',hib',by lia⟩⟩
 rintro c st2 ⟨ev2,hc⟩;rcases hc with ⟨m,r,rfl,g⟩ | ⟨out1,ia1,ib1,ac1,bc1,rfl,N1,hia1,hib1,hpr1⟩
 ·exact z6 ⟨ev2,m,_,rfl,g⟩
 refine zV (wpS_lift (abJ ⟨rfl,?_⟩));refine zV (abO (aa4 (I:=fun y c st3=>Eqv st st3/\∃ out' ia' ib' mg' ac bc,c=(none,out',ia',ib',mg',ac,bc)/\Mg κ LL out'.toList (a.toList.drop ia') (b.toList.drop ib')/\ia'+1 < a.size/\ib' < b.size/\ia1+ib1<=ia'+ib')
  (Q:=fun c st3=>Eqv st st3/\((∃ m r,c=(some m,r)/\jF κ LL m.toList)\/∃ out' ia' ib' mg' ac bc,c=(none,out',ia',ib',mg',ac,bc)/\Mg κ LL out'.toList (a.toList.drop ia') (b.toList.drop ib')/\ia'+1 < a.size/\ib' < b.size/\ia1+ib1<=ia'+ib')) ?_ ?_ ⟨ev2,out1,ia1,ib1,_,ac1,bc1,rfl,N1,hia1,hib1,zP _⟩) ?_)
 rotate_left
 ·rintro c st3 ⟨ev3,out',ia',ib',mg',ac,bc,rfl,M',hia',hib',hpr'⟩;exact⟨ev3,.inr ⟨_,_,_,_,_,_,rfl,M',hia',hib',by lia⟩⟩
 ·rintro c st3 ⟨ev3,hc⟩;rcases hc with ⟨m,r,rfl,g⟩ | ⟨out2,ia2,ib2,mg2,ac2,bc2,rfl,N2,hia2,hib2,hpr2⟩
  ·exact z6 ⟨ev3,m,_,rfl,g⟩
  refine zV (pN ev3 fun st4 ev4=>?_);exact z6 ⟨ev4,_,ia2,ib2,_,rfl,N2,hia2,hib2,by lia⟩
 rintro y c st3 _ hy ⟨ev3,out2,ia2,ib2,mg2,ac2,bc2,rfl,M',hia',hib',hpr'⟩;obtain⟨q,hq,mq⟩:=cZ hib';have sB:=sb.drop ib2;rw [bD hq] at sB;dsimp -zeta -zetaHave only
 lift_lets
 extract_lets s1 v1 s2 v2 s3 v3 s4 v4 s5 v5 v6 v7 jp
 refine ifj (jp:=jp) (fun g=>?_)
 ·refine zV (pN ev3 fun st4 ev4=>?_);refine zV (cc hq (zV (dr (left:=false) (key:=q) (arr:=a) (base:=ia2) (n:=a.size - ia2) (hint:=0) hO (ev4.1.trans hk) (vb q mq) (by lia) (by rw [fJ];exact fun p hp=>va p (aaP hp)) (by rw [fJ];exact sa.drop _) (by lia) fun k hkn g1 g2=>?_)));rw [fJ] at g1 g2;rw [acI] at g2;simp only [aaf,abq] at g1 g2;dsimp -zeta -zetaHave only
  lift_lets
  extract_lets w1 jp2
  refine uo (jp:=jp2) (fun (out3:Array Keyed) (ia3:Nat)=>Mg κ LL out3.toList (a.toList.drop ia3) (b.toList.drop ib2)/\ia3+1 < a.size/\ia2<=ia3/\∀ x∈a.toList.drop ia3,le κ q x) (fun out3 ia3 hR=>?_) (fun hj=>?_)
  ·obtain⟨M3,hA1,hA2,hA⟩:=hR;refine zV (cc hq ?_);have M4:Mg κ LL (out3.push q).toList (a.toList.drop ia3) (b.toList.drop (ib2+1)):=by
    rw [gF];refine Mg.b (by rw [← bD hq];exact M3) fun y hy x hx=>?_;rw [zQ.mp hy];exact hA x hx
   by_cases c4:ib2+1=b.size
   ·refine ifp (aag.mpr c4) ?_;exact z6 ⟨ev4,.inl ⟨_,_,rfl,uG M4 c4⟩⟩
   refine ifn (fun z=>c4 (aag.mp z)) ?_;obtain⟨p,hp,mp⟩:=cZ (x:=a) (i:=ia3) (by lia);refine zV (cc hp (zV (dr (left:=true) (key:=p) (arr:=b) (base:=ib2+1) (n:=b.size - (ib2+1)) (hint:=0) hO (ev4.1.trans hk) (va p mp) (by lia) (by rw [fJ];exact fun p hp=>vb p (aaP hp)) (by rw [fJ];exact sb.drop _) (by lia) fun k2 hkn2 g3 g4=>?_)));rw [fJ] at g3 g4;rw [acI] at g4;simp only [acK] at g3 g4;dsimp -zeta -zetaHave only
   lift_lets
   extract_lets w3 jp3
   refine uo (jp:=jp3) (fun (out5:Array Keyed) (ib3:Nat)=>Mg κ LL out5.toList (a.toList.drop ia3) (b.toList.drop ib3)/\ib3 < b.size/\ib2+1<=ib3/\∀ y∈b.toList.drop ib3,le κ p y) (fun out5 ib3 hR=>?_) (fun hj3=>?_)
   ·obtain⟨M5,hB1,hB2,hB⟩:=hR;refine zV (cc hp ?_);have M6:Mg κ LL (out5.push p).toList (a.toList.drop (ia3+1)) (b.toList.drop ib3):=by
     rw [gF];refine Mg.a (by rw [← bD hp];exact M5) fun y hy x hx=>?_;rw [zQ.mp hy];exact hB x hx
    by_cases c7:ia3+1+1=a.size
    ·refine ifp (aag.mpr c7) ?_;exact z6 ⟨ev4,.inl ⟨_,_,rfl,ur M6 c7 P2⟩⟩
    refine ifn (fun z=>c7 (aag.mp z)) ?_;refine ifs (fun _=>?_) (fun _=>?_)
    ·exact z6 ⟨ev4,.inr ⟨_,ia3+1,ib3,_,_,_,rfl,M6,by lia,by lia,by lia⟩⟩
    ·exact z6 ⟨ev4,_,ia3+1,ib3,_,_,_,rfl,M6,by lia,by lia,by lia⟩
   by_cases hk2:k2=0
   ·subst hk2;rw [adC] at g4;exact ifn (show ¬ (0 > 0) by lia) (hj3 _ (ib2+1) ⟨M4,by lia,zP _,g4⟩)
   ·refine ifp (show k2 > 0 by lia) ?_;have M5:Mg κ LL ((out3.push q)++b.extract (ib2+1) (ib2+1+k2)).toList (a.toList.drop ia3) (b.toList.drop (ib2+1+k2)):=by
     rw [pU];refine Mg.b (by rw [← mh];exact M4) fun y hy x hx=>?_;have sA:=sa.drop ia3;rw [bD hp] at sA;rw [bD hp] at hx;exact le_trans (le_of_lt (g3 y hy)) (sA.head x hx)
    by_cases c5:ib2+1+k2=b.size
    ·refine ifp (aag.mpr c5) ?_;exact z6 ⟨ev4,.inl ⟨_,_,rfl,uG M5 c5⟩⟩
    exact ifn (fun z=>c5 (aag.mp z)) (hj3 _ (ib2+1+k2) ⟨M5,by lia,by lia,g4⟩)
  by_cases hk0:k=0
  ·subst hk0;rw [adC] at g2;exact ifn (show ¬ (0 > 0) by lia) (hj _ ia2 ⟨M',hia',zP _,fun x hx=>le_of_lt (g2 x hx)⟩)
  ·refine ifp (show k > 0 by lia) ?_;have M3:Mg κ LL (out2++a.extract ia2 (ia2+k)).toList (a.toList.drop (ia2+k)) (b.toList.drop ib2):=by
    rw [pU];refine Mg.a (by rw [← mh];exact M') fun y hy x hx=>?_;rw [bD hq] at hx;exact le_trans (g1 y hy) (sB.head x hx)
   by_cases c2':ia2+k+1=a.size
   ·refine ifp (aag.mpr c2') ?_;exact z6 ⟨ev4,.inl ⟨_,_,rfl,ur M3 c2' P2⟩⟩
   refine ifn (fun z=>c2' (aag.mp z)) ?_;by_cases c3:ia2+k=a.size
   ·refine ifp (aag.mpr c3) ?_;exact z6 ⟨ev4,.inl ⟨_,_,rfl,yP M3 c3⟩⟩
   exact ifn (fun z=>c3 (aag.mp z)) (hj _ (ia2+k) ⟨M3,by lia,by lia,fun x hx=>le_of_lt (g2 x hx)⟩)
end
section
variable {κ:KeyKind}
structure MgH (κ:KeyKind)(LL o A B:List Keyed):Prop where
 perm:(A++(B++o)).Perm LL
 sa:SL κ (A++o)
 sb:SL κ (B++o)
theorem MgH.a {LL o c A B:List Keyed}(h:MgH κ LL o (A++c) B)(hc:∀ x∈c,∀ y∈B,le κ y x):MgH κ LL (c++o) A B:=by
 refine⟨?_,?_,?_⟩
 ·refine List.Perm.trans ?_ h.perm;rw [zU];refine abE A ?_;rw [← zU,← zU];exact abL o acA
 ·rw [← zU];exact h.sa
 ·have s1:=h.sa;have s2:=h.sb;unfold SL at *;rw [zU,aaO] at s1;rw [aaO] at s2 ⊢;refine⟨s2.1,s1.2.1,fun x hx y hy=>?_⟩;rcases zS.mp hy with hy | hy
  ·exact hc y hy x hx
  ·exact s2.2.2 x hx y hy
theorem MgH.b {LL o c A B:List Keyed}(h:MgH κ LL o A (B++c))(hc:∀ y∈c,∀ x∈A,le κ x y):MgH κ LL (c++o) A B:=by
 refine⟨?_,?_,?_⟩
 ·have:=h.perm;rw [zU] at this;exact this
 ·have s1:=h.sa;have s2:=h.sb;unfold SL at *;rw [zU,aaO] at s2;rw [aaO] at s1 ⊢;refine⟨s1.1,s2.2.1,fun x hx y hy=>?_⟩;rcases zS.mp hy with hy | hy
  ·exact hc y hy x hx
  ·exact s1.2.2 x hx y hy
 ·rw [← zU];exact h.sb
theorem MgH.endA {LL o A:List Keyed}(h:MgH κ LL o A []):jF κ LL (A++o):=⟨h.perm,h.sa⟩
theorem MgH.endB {LL o B:List Keyed}(h:MgH κ LL o [] B):jF κ LL (B++o):=⟨h.perm,h.sb⟩
theorem MgH.first {LL o A:List Keyed}{z:Keyed}(h:MgH κ LL o A [z])(hz:∀ x∈A,le κ z x):jF κ LL ([z]++A++o):=by
 refine⟨?_,?_⟩
 ·refine List.Perm.trans ?_ h.perm;rw [← zU];exact abL o acA
 ·have s1:=h.sa;have s2:=h.sb;unfold SL at *;rw [zU,ae0,abF];rw [ae0,abF] at s2;refine⟨fun y hy=>?_,s1⟩;rcases zS.mp hy with hy | hy
  ·exact hz y hy
  ·exact s2.1 y hy
theorem eh {a:Array Keyed}{n:Nat}{x:Keyed}(h:a[n]? = some x):a.toList.take (n+1)=a.toList.take n++[x]:=by
 rw [aaS];have:a.toList[n]? = some x:=by simpa using h
 rw [this]
 rfl
theorem iM (o:Array Keyed)(x:Keyed):(o.push x).toList.reverse=[x]++o.toList.reverse:=by simp
theorem tF (o a:Array Keyed)(i n:Nat):(o++(a.extract i n).reverse).toList.reverse=(a.toList.take n).drop i++o.toList.reverse:=by
 simp [abG,abk,List.drop_take]
theorem pI (a:Array Keyed){i n:Nat}(h:i<=n):a.toList.take n=a.toList.take i++(a.toList.take n).drop i:=by
 have:=(aat i (a.toList.take n)).symm
 rwa [aeg,abZ h] at this
theorem kI (o a b:Array Keyed)(na nb:Nat):(a.extract 0 na++b.extract 0 nb++o.reverse).toList=a.toList.take na++b.toList.take nb++o.toList.reverse:=by
 simp [abG,abk]
theorem SL.lastOf {l:List Keyed}{x:Keyed}(h:SL κ (l++[x])):∀ y∈l++[x],le κ y x:=fun y hy=>by
 rcases zS.mp hy with e | e
 ·exact (aaO.mp h).2.2 y e x (zQ.mpr rfl)
 ·rw [zQ.mp e];exact le_refl _
end
section
variable {κ:KeyKind}{LL:List Keyed}{a b out:Array Keyed}{na nb:Nat}
theorem yi (M:MgH κ LL out.toList.reverse (a.toList.take na) (b.toList.take nb))(c:na=0):jF κ LL (a.extract 0 na++b.extract 0 nb++out.reverse).toList:=by
 subst c;rw [kI,ack,ae1];rw [ack] at M;exact M.endB
theorem zp (M:MgH κ LL out.toList.reverse (a.toList.take na) (b.toList.take nb))(c:nb=0):jF κ LL (a.extract 0 na++b.extract 0 nb++out.reverse).toList:=by
 subst c;rw [kI,ack,aaK];rw [ack] at M;exact M.endA
theorem yg (M:MgH κ LL out.toList.reverse (a.toList.take na) (b.toList.take nb))(c:nb=1)(hb:1<=b.size)(P1:∀ y∈b.toList.take 1,∀ x∈a.toList,le κ y x):jF κ LL (b.extract 0 nb++a.extract 0 na++out.reverse).toList:=by
 subst c;rw [kI];have hp:b[0]? = some b[0]:=getElem?_pos _ _ (by lia);have e:b.toList.take 1=[b[0]]:=by rw [eh hp,ack,ae1]
 rw [e] at M P1 ⊢;exact M.first fun x hx=>P1 _ (zQ.mpr rfl) x (abh hx)
end
section
variable {prog:Program}{w:World}{A:Around}{E:Value->Shared->Prop}{s:Shared}{κ:KeyKind}{kd:SortKind}
theorem om (hO:LtAt prog w A s κ kd){a b:Array Keyed}{st:SortSt}{Q:Array Keyed->SortSt->Prop}(hk:kindOf st=kd)(va:∀ p∈a.toList,Va κ p)(vb:∀ p∈b.toList,Va κ p)(ha:1<=a.size)(hb:1<=b.size)(sa:SL κ a.toList)(sb:SL κ b.toList)
 (P1:∀ y∈b.toList.take 1,∀ x∈a.toList,le κ y x)(P2:∀ y∈b.toList,∀ z∈a.toList.drop (a.size - 1),le κ y z)
 (h:∀ m st',Eqv st st'->jF κ (a.toList++b.toList) m.toList->Q m st'):wpS (model prog w) A E s (uj a b) Q st:=by
 have hL:∃ LL,LL=a.toList++b.toList:=⟨_,rfl⟩;obtain⟨LL,eL⟩:=hL;rw [← eL] at h;obtain⟨a0,ha0,ma0⟩:=cZ (x:=a) (i:=a.size - 1) (by lia);have M1:MgH κ LL (#[a0]:Array Keyed).toList.reverse (a.toList.take (a.size - 1)) (b.toList.take b.size):=by
  have e:a.toList=a.toList.take (a.size - 1)++[a0]:=by
   have:=eh ha0
   rwa [show a.size - 1+1=a.size by lia,aau (by rw [zR];exact zP _)] at this
  have M0:MgH κ LL [] (a.toList.take (a.size - 1)++[a0]) b.toList:=by
   refine⟨?_,?_,?_⟩
   ·rw [← e,aaK,eL]
   ·rw [← e,aaK];exact sa
   ·rw [aaK];exact sb
  rw [aau (l:=b.toList) (by rw [zR];exact zP _)];refine MgH.a M0 fun x hx y hy=>P2 y hy x ?_;rw [bD ha0,zQ.mp hx];simp
 refine zV (wpS_lift (abJ ⟨rfl,?_⟩));refine zV (cc ha0 ?_);by_cases c1:a.size - 1=0
 ·refine ifp (aag.mpr c1) ?_;exact z6 (h _ _ (Eqv.refl _) (yi M1 c1))
 refine ifn (fun z=>c1 (aag.mp z)) ?_;by_cases c2:b.size=1
 ·refine ifp (aag.mpr c2) ?_;exact z6 (h _ _ (Eqv.refl _) (yg M1 c2 hb P1))
 refine ifn (fun z=>c2 (aag.mp z)) ?_;refine zV (adG ?_);refine zV (abO (aa4 (I:=fun x c st'=>Eqv st st'/\∃ na nb out mg,c=(none,na,nb,out,mg)/\MgH κ LL out.toList.reverse (a.toList.take na) (b.toList.take nb)/\1<=na/\na<=a.size/\2<=nb/\nb<=b.size/\na+nb+x+1<=a.size+b.size)
  (Q:=fun c st'=>Eqv st st'/\∃ m r,c=(some m,r)/\jF κ LL m.toList) ?_ ?_ ⟨Eqv.refl _,a.size - 1,b.size,_,_,rfl,M1,by lia,by lia,by lia,by lia,by lia⟩) ?_)
 rotate_left
 ·rintro c st' ⟨ev,na,nb,out,mg,rfl,M,_,_,_,_,hpr⟩;lia
 ·rintro c st' ⟨ev,m,r,rfl,g⟩;exact z6 (h _ _ ev g)
 rintro x c st1 _ hx ⟨ev1,na,nb,out,mg,rfl,M,hna,hna2,hnb,hnb2,hpr⟩;refine zV (abO (aa4 (I:=fun y c st2=>Eqv st st2/\∃ na' nb' out' ac bc,c=(none,na',nb',out',ac,bc)/\MgH κ LL out'.toList.reverse (a.toList.take na') (b.toList.take nb')/\1<=na'/\na'<=a.size/\2<=nb'/\nb'<=b.size/\na'+nb'+y<=na+nb)
  (Q:=fun c st2=>Eqv st st2/\((∃ m r,c=(some m,r)/\jF κ LL m.toList)\/∃ na' nb' out' ac bc,c=(none,na',nb',out',ac,bc)/\MgH κ LL out'.toList.reverse (a.toList.take na') (b.toList.take nb')/\1<=na'/\na'<=a.size/\2<=nb'/\nb'<=b.size/\na'+nb'+1<=na+nb)) ?_ ?_ ⟨ev1,na,nb,out,_,_,rfl,M,hna,hna2,hnb,hnb2,zP _⟩) ?_)
 ·rintro y c st2 _ hy ⟨ev2,na',nb',out',ac,bc,rfl,M',hna',hna2',hnb',hnb2',hpr'⟩;obtain⟨q,hq,mq⟩:=cZ (x:=b) (i:=nb' - 1) (by lia);obtain⟨p,hp,mp⟩:=cZ (x:=a) (i:=na' - 1) (by lia);have tq:=eh hq;have tp:=eh hp;rw [show nb' - 1+1=nb' by lia] at tq;rw [show na' - 1+1=na' by lia] at tp;have sB:=sb.take nb';have sA:=sa.take na';rw [tq] at sB;rw [tp] at sA;refine zV (cc hq (zV (cc hp (zV (xr hO (ev2.1.trans hk) (vb q mq) (va p mp) ?_)))));cases hw:κ.blt (kk κ q) (kk κ p) with
  | true =>
   refine ifp rfl ?_;refine zV (cc hp ?_);have M2:MgH κ LL (out'.push p).toList.reverse (a.toList.take (na' - 1)) (b.toList.take nb'):=by
    rw [iM];refine MgH.a (by rw [← tp];exact M') fun x hx y hy=>?_;rw [zQ.mp hx];rw [tq] at hy;exact le_trans (sB.lastOf y hy) (le_of_lt hw)
   by_cases c:na' - 1=0
   ·refine ifp (aag.mpr c) ?_;exact z6 ⟨ev2,.inl ⟨_,_,rfl,yi M2 c⟩⟩
   refine ifn (fun z=>c (aag.mp z)) ?_;refine ifs (fun _=>?_) (fun _=>?_)
   ·exact z6 ⟨ev2,.inr ⟨na' - 1,nb',_,_,_,rfl,M2,by lia,by lia,by lia,by lia,by lia⟩⟩
   ·exact z6 ⟨ev2,na' - 1,nb',_,_,_,rfl,M2,by lia,by lia,by lia,by lia,by lia⟩
  | false =>
   refine ifn zO ?_;refine zV (cc hq ?_);have M2:MgH κ LL (out'.push q).toList.reverse (a.toList.take na') (b.toList.take (nb' - 1)):=by
    rw [iM];refine MgH.b (by rw [← tq];exact M') fun y hy x hx=>?_;rw [zQ.mp hy];rw [tp] at hx;exact le_trans (sA.lastOf x hx) (show le κ p q from hw)
   by_cases c:nb' - 1=1
   ·refine ifp (aag.mpr c) ?_;exact z6 ⟨ev2,.inl ⟨_,_,rfl,yg M2 c hb P1⟩⟩
   refine ifn (fun z=>c (aag.mp z)) ?_;refine ifs (fun _=>?_) (fun _=>?_)
   ·exact z6 ⟨ev2,.inr ⟨na',nb' - 1,_,_,_,rfl,M2,by lia,by lia,by lia,by lia,by lia⟩⟩
   ·exact z6 ⟨ev2,na',nb' - 1,_,_,_,rfl,M2,by lia,by lia,by lia,by lia,by lia⟩
 ·rintro c st2 ⟨ev2,na',nb',out',ac,bc,rfl,M',g1,g2,g3,g4,hpr'⟩;exact⟨ev2,.inr ⟨_,_,_,_,_,rfl,M',g1,g2,g3,g4,by lia⟩⟩
 rintro c st2 ⟨ev2,hc⟩;rcases hc with ⟨m,r,rfl,g⟩ | ⟨na1,nb1,out1,ac1,bc1,rfl,N1,i1,i2,i3,i4,hpr1⟩
 ·exact z6 ⟨ev2,m,_,rfl,g⟩
 refine zV (wpS_lift (abJ ⟨rfl,?_⟩));refine zV (abO (aa4 (I:=fun y c st3=>Eqv st st3/\∃ na' nb' out' mg' ac bc,c=(none,na',nb',out',mg',ac,bc)/\MgH κ LL out'.toList.reverse (a.toList.take na') (b.toList.take nb')/\1<=na'/\na'<=a.size/\2<=nb'/\nb'<=b.size/\na'+nb'<=na1+nb1)
  (Q:=fun c st3=>Eqv st st3/\((∃ m r,c=(some m,r)/\jF κ LL m.toList)\/∃ na' nb' out' mg' ac bc,c=(none,na',nb',out',mg',ac,bc)/\MgH κ LL out'.toList.reverse (a.toList.take na') (b.toList.take nb')/\1<=na'/\na'<=a.size/\2<=nb'/\nb'<=b.size/\na'+nb'<=na1+nb1)) ?_ ?_ ⟨ev2,na1,nb1,out1,_,ac1,bc1,rfl,N1,i1,i2,i3,i4,zP _⟩) ?_)
 rotate_left
 ·rintro c st3 ⟨ev3,na',nb',out',mg',ac,bc,rfl,M',g⟩;exact⟨ev3,.inr ⟨_,_,_,_,_,_,rfl,M',g⟩⟩
 ·rintro c st3 ⟨ev3,hc⟩;rcases hc with ⟨m,r,rfl,g⟩ | ⟨na2,nb2,out2,mg2,ac2,bc2,rfl,N2,j1,j2,j3,j4,hpr2⟩
  ·exact z6 ⟨ev3,m,_,rfl,g⟩
  refine zV (pN ev3 fun st4 ev4=>?_);exact z6 ⟨ev4,na2,nb2,_,_,rfl,N2,j1,j2,j3,j4,by lia⟩
 rintro y c st3 _ hy ⟨ev3,na2,nb2,out2,mg2,ac2,bc2,rfl,M',j1,j2,j3,j4,hpr'⟩;obtain⟨q,hq,mq⟩:=cZ (x:=b) (i:=nb2 - 1) (by lia);have tq:=eh hq;rw [show nb2 - 1+1=nb2 by lia] at tq;have sB:=sb.take nb2;rw [tq] at sB;dsimp -zeta -zetaHave only
 lift_lets
 extract_lets s1 v1 s2 v2 s3 v3 s4 v4 s5 v5 v6 v7 jp
 refine ifj (jp:=jp) (fun g=>?_)
 ·refine zV (pN ev3 fun st4 ev4=>?_);refine zV (cc hq (zV (dr (left:=false) (key:=q) (arr:=a) (base:=0) (n:=na2) (hint:=na2 - 1) hO (ev4.1.trans hk) (vb q mq) (by lia) (by rw [abo];exact fun p hp=>va p (abh hp)) (by rw [abo];exact sa.take _) (by lia) fun k hkn g1 g2=>?_)));rw [abo] at g1 g2;rw [aeg,abZ hkn] at g1;simp only [aaf,abq] at g1 g2;dsimp -zeta -zetaHave only
  lift_lets
  extract_lets w1 w2 jp2
  refine uo (jp:=jp2) (fun (na3:Nat) (out3:Array Keyed)=>MgH κ LL out3.toList.reverse (a.toList.take na3) (b.toList.take nb2)/\1<=na3/\na3<=na2/\∀ x∈a.toList.take na3,le κ x q) (fun na3 out3 hR=>?_) (fun hj=>?_)
  ·obtain⟨M3,hA1,hA2,hA⟩:=hR;refine zV (cc hq ?_);have M4:MgH κ LL (out3.push q).toList.reverse (a.toList.take na3) (b.toList.take (nb2 - 1)):=by
    rw [iM];refine MgH.b (by rw [← tq];exact M3) fun y hy x hx=>?_;rw [zQ.mp hy];exact hA x hx
   by_cases c4:nb2 - 1=1
   ·refine ifp (aag.mpr c4) ?_;exact z6 ⟨ev4,.inl ⟨_,_,rfl,yg M4 c4 hb P1⟩⟩
   refine ifn (fun z=>c4 (aag.mp z)) ?_;obtain⟨p,hp,mp⟩:=cZ (x:=a) (i:=na3 - 1) (by lia);have tp:=eh hp;rw [show na3 - 1+1=na3 by lia] at tp;refine zV (cc hp (zV (dr (left:=true) (key:=p) (arr:=b) (base:=0) (n:=nb2 - 1) (hint:=nb2 - 1 - 1) hO (ev4.1.trans hk) (va p mp) (by lia) (by rw [abo];exact fun p hp=>vb p (abh hp)) (by rw [abo];exact sb.take _) (by lia) fun k2 hkn2 g3 g4=>?_)));rw [abo] at g3 g4;rw [aeg,abZ hkn2] at g3;simp only [acK] at g3 g4;dsimp -zeta -zetaHave only
   lift_lets
   extract_lets w3 w4 jp3
   refine uo (jp:=jp3) (fun (nb3:Nat) (out5:Array Keyed)=>MgH κ LL out5.toList.reverse (a.toList.take na3) (b.toList.take nb3)/\2<=nb3/\nb3<=nb2 - 1/\∀ y∈b.toList.take nb3,le κ y p) (fun nb3 out5 hR=>?_) (fun hj3=>?_)
   ·obtain⟨M5,hB1,hB2,hB⟩:=hR;refine zV (cc hp ?_);have M6:MgH κ LL (out5.push p).toList.reverse (a.toList.take (na3 - 1)) (b.toList.take nb3):=by
     rw [iM];refine MgH.a (by rw [← tp];exact M5) fun x hx y hy=>?_;rw [zQ.mp hx];exact hB y hy
    by_cases c7:na3 - 1=0
    ·refine ifp (aag.mpr c7) ?_;exact z6 ⟨ev4,.inl ⟨_,_,rfl,yi M6 c7⟩⟩
    refine ifn (fun z=>c7 (aag.mp z)) ?_;refine ifs (fun _=>?_) (fun _=>?_)
    ·exact z6 ⟨ev4,.inr ⟨na3 - 1,nb3,_,_,_,_,rfl,M6,by lia,by lia,by lia,by lia,by lia⟩⟩
    ·exact z6 ⟨ev4,na3 - 1,nb3,_,_,_,_,rfl,M6,by lia,by lia,by lia,by lia,by lia⟩
   by_cases hk2:k2=nb2 - 1
   ·subst hk2;refine ifn (show ¬ (nb2 - 1 - (nb2 - 1) > 0) by lia) (hj3 (nb2 - 1) _ ⟨M4,by lia,zP _,fun y hy=>le_of_lt (g3 y hy)⟩)
   ·refine ifp (show nb2 - 1 - k2 > 0 by lia) ?_;have M5:MgH κ LL ((out3.push q)++(b.extract k2 (nb2 - 1)).reverse).toList.reverse (a.toList.take na3) (b.toList.take k2):=by
     rw [tF];refine MgH.b (by rw [← pI b hkn2];exact M4) fun y hy x hx=>?_;have sA:=sa.take na3;rw [tp] at sA;rw [tp] at hx;exact le_trans (sA.lastOf x hx) (g4 y hy)
    by_cases c5:k2=1
    ·refine ifp (aag.mpr c5) ?_;exact z6 ⟨ev4,.inl ⟨_,_,rfl,yg M5 c5 hb P1⟩⟩
    refine ifn (fun z=>c5 (aag.mp z)) ?_;by_cases c6:k2=0
    ·refine ifp (aag.mpr c6) ?_;exact z6 ⟨ev4,.inl ⟨_,_,rfl,zp M5 c6⟩⟩
    exact ifn (fun z=>c6 (aag.mp z)) (hj3 k2 _ ⟨M5,by lia,by lia,fun y hy=>le_of_lt (g3 y hy)⟩)
  by_cases hk0:k=na2
  ·subst hk0;exact ifn (show ¬ (k - k > 0) by lia) (hj k _ ⟨M',j1,zP _,fun x hx=>g1 x hx⟩)
  ·refine ifp (show na2 - k > 0 by lia) ?_;have M3:MgH κ LL (out2++(a.extract k na2).reverse).toList.reverse (a.toList.take k) (b.toList.take nb2):=by
    rw [tF];refine MgH.a (by rw [← pI a hkn];exact M') fun x hx y hy=>?_;rw [tq] at hy;exact le_trans (sB.lastOf y hy) (le_of_lt (g2 x hx))
   by_cases c3:k=0
   ·refine ifp (aag.mpr c3) ?_;exact z6 ⟨ev4,.inl ⟨_,_,rfl,yi M3 c3⟩⟩
   exact ifn (fun z=>c3 (aag.mp z)) (hj k _ ⟨M3,by lia,hkn,fun x hx=>g1 x hx⟩)
end
theorem oM (s:Nat):∀ (m:List Keyed) (off:Nat) (arr:Array Keyed),s+off+m.length<=arr.size →
 ((m.zipIdx off).foldl (fun a x=>a.setIfInBounds (s+x.2) x.1) arr).toList=arr.toList.take (s+off)++(m++arr.toList.drop (s+off+m.length))
 | [],off,arr,h=>by simp
 | x::m,off,arr,h=>by
  rw [List.zipIdx_cons,List.foldl_cons];rw [aaq] at h;rw [oM s m (off+1) _ (by rw [Array.size_setIfInBounds];lia)];have e:(arr.setIfInBounds (s+off) x).toList=arr.toList.set (s+off) x:=by simp
  show (arr.setIfInBounds (s+off) x).toList.take _++(m++(arr.setIfInBounds (s+off) x).toList.drop _)=_;rw [e];have hl:s+off < arr.toList.length:=by rw [zR];lia
  have t1:(arr.toList.set (s+off) x).take (s+(off+1))=arr.toList.take (s+off)++[x]:=by
   rw [show s+(off+1)=s+off+1 by lia,aaS,List.take_set_of_le (zP _),acp hl]
   rfl
  have t2:(arr.toList.set (s+off) x).drop (s+(off+1)+m.length)=arr.toList.drop (s+off+(m.length+1)):=by
   rw [List.drop_set_of_lt (by lia)];congr 1;lia
  rw [t1,t2,aaq,zU]
  rfl
section
variable {prog:Program}{w:World}{A:Around}{E:Value->Shared->Prop}{s:Shared}{κ:KeyKind}{kd:SortKind}
theorem lz {X Y:List Keyed}(hX:SL κ X)(hY:SL κ Y)(h:∀ x∈X,∀ y∈Y,le κ x y):SL κ (X++Y):=aaO.mpr ⟨hX,hY,h⟩
theorem oF (hO:LtAt prog w A s κ kd){i:Nat}{st:SortSt}{P X Y R:List Keyed}{pw pw2:Nat}{Q:Bool->SortSt->Prop}(hk:kindOf st=kd)(hf:failedOf st=none)
 (hp1:(pendingOf st)[i]? = some (P.length,X.length,pw))(hp2:(pendingOf st)[i+1]? = some (P.length+X.length,Y.length,pw2))(ea:(arrOf st).toList=P++(X++(Y++R)))
 (vX:∀ p∈X,Va κ p)(vY:∀ p∈Y,Va κ p)(sX:SL κ X)(sY:SL κ Y)(hX:1<=X.length)(hY:1<=Y.length)
 (h:∀ M st',M.Perm (X++Y)->SL κ M->kindOf st'=kd->failedOf st'=none->(arrOf st').toList=P++(M++R)->pendingOf st'=((pendingOf st).setIfInBounds i (P.length,X.length+Y.length,pw)).eraseIdxIfInBounds (i+1)->Q true st') :
 wpS (model prog w) A E s (mergeAt' i) Q st:=by
 have asz:(arrOf st).size=P.length+(X.length+(Y.length+R.length)):=by
  have:=aaG List.length ea;simpa using this
 have dX:((arrOf st).toList.drop P.length).take X.length=X:=by rw [ea];simp
 have dY:((arrOf st).toList.drop (P.length+X.length)).take Y.length=Y:=by
  rw [ea,← zU];rw [← zH];simp
 obtain⟨y0,Y',eY⟩:∃ y0 Y',Y=y0::Y':=by
  cases Y with
  | nil=>simp at hY
  | cons y r=>exact⟨y,r,rfl⟩
 have my0:y0∈Y:=by rw [eY];exact z7
 have hy0:(arrOf st)[P.length+X.length]? = some y0:=by
  have:(arrOf st).toList[P.length+X.length]? = some y0:=by
   rw [ea,eY,← zU,aae (by simp)];simp
  simpa using this
 have y0le:∀ y∈Y,le κ y0 y:=by
  rw [eY] at sY ⊢;exact sY.head
 refine zV (adG ?_);have hmatch:((pendingOf st)[i]?,(pendingOf st)[i+1]?)=(some (P.length,X.length,pw),some (P.length+X.length,Y.length,pw2)):=by rw [hp1,hp2]
 rw [hmatch];refine zV (aco ?_);have k1:kindOf (SortSt.mk' (kindOf st) (arrOf st) (((pendingOf st).setIfInBounds i (P.length,X.length+Y.length,pw)).eraseIdxIfInBounds (i+1)) (gallopOf st) (failedOf st))=kd:=hk;have f1:failedOf (SortSt.mk' (kindOf st) (arrOf st) (((pendingOf st).setIfInBounds i (P.length,X.length+Y.length,pw)).eraseIdxIfInBounds (i+1)) (gallopOf st) (failedOf st))=none:=hf;have a1:arrOf (SortSt.mk' (kindOf st) (arrOf st) (((pendingOf st).setIfInBounds i (P.length,X.length+Y.length,pw)).eraseIdxIfInBounds (i+1)) (gallopOf st) (failedOf st))=arrOf st:=rfl;have p1:pendingOf (SortSt.mk' (kindOf st) (arrOf st) (((pendingOf st).setIfInBounds i (P.length,X.length+Y.length,pw)).eraseIdxIfInBounds (i+1)) (gallopOf st) (failedOf st))=((pendingOf st).setIfInBounds i (P.length,X.length+Y.length,pw)).eraseIdxIfInBounds (i+1):=rfl;show wpS _ _ _ _ _ _ (SortSt.mk' (kindOf st) (arrOf st) (((pendingOf st).setIfInBounds i (P.length,X.length+Y.length,pw)).eraseIdxIfInBounds (i+1)) (gallopOf st) (failedOf st));generalize SortSt.mk' (kindOf st) (arrOf st) (((pendingOf st).setIfInBounds i (P.length,X.length+Y.length,pw)).eraseIdxIfInBounds (i+1)) (gallopOf st) (failedOf st)=st1 at k1 f1 a1 p1 ⊢;have same:SL κ (X++Y)->Q true st1:=fun so=>h (X++Y) st1 (List.Perm.refl _) so k1 f1 (by rw [a1,ea,zU]) p1;refine zV (cc hy0 (zV (dr (left:=false) (key:=y0) (arr:=arrOf st) (base:=P.length) (n:=X.length) (hint:=0) hO k1 (vY y0 my0) (by lia) (by rw [dX];exact vX) (by rw [dX];exact sX) (by lia) fun k hkn g1 g2=>?_)));rw [dX] at g1 g2;simp only [aaf,abq] at g1 g2;have sp:=aat k X;have l2:(X.drop k).length=X.length - k:=aaR;have l1:(X.take k).length=k:=by rw [aad];lia
 have g1Y:∀ x∈X.take k,∀ y∈Y,le κ x y:=fun x hx y hy=>le_trans (g1 x hx) (y0le y hy);by_cases c1:X.length - k=0
 ·refine ifp (aag.mpr c1) ?_;refine z6 (same (lz sX sY fun x hx y hy=>g1Y x ?_ y hy));rw [aau (by lia)];exact hx
 refine ifn (fun z=>c1 (aag.mp z)) ?_;obtain⟨xl,hxl⟩:∃ xl,X[X.length - 1]? = some xl:=⟨_,zG (by lia)⟩;have mxl:xl∈X:=aac hxl;have hxa:(arrOf st)[P.length+k+(X.length - k) - 1]? = some xl:=by
  have:(arrOf st).toList[P.length+k+(X.length - k) - 1]? = some xl:=by
   rw [ea,show P.length+k+(X.length - k) - 1=P.length+(X.length - 1) by lia,aae (by lia),Nat.add_sub_cancel_left,aav (by lia)];exact hxl
  simpa using this
 have lex:∀ x∈X,le κ x xl:=fun x hx=>by
  obtain⟨j,hj,ej⟩:=abS.mp hx;exact sX.at (i:=j) (j:=X.length - 1) (by lia) (by rw [zG hj,ej]) hxl
 refine zV (cc hxa (zV (dr (left:=true) (key:=xl) (arr:=arrOf st) (base:=P.length+X.length) (n:=Y.length) (hint:=Y.length - 1) hO k1 (vX xl mxl) (by lia) (by rw [dY];exact vY) (by rw [dY];exact sY) (by lia) fun k2 hkn2 g3 g4=>?_)));rw [dY] at g3 g4;simp only [acK] at g3 g4;by_cases c2:k2=0
 ·refine ifp (aag.mpr c2) ?_;refine z6 (same (lz sX sY fun x hx y hy=>le_trans (lex x hx) (g4 y ?_)));rw [c2,abo];exact hy
 refine ifn (fun z=>c2 (aag.mp z)) ?_;have l3:(Y.take k2).length=k2:=by rw [aad];lia
 have ex:((arrOf st).extract (P.length+k) (P.length+X.length)).toList=X.drop k:=by
  rw [abG,abk,ea,← acI,afm,adH hkn,show P.length+X.length - (P.length+k)=(X.drop k).length by rw [l2];lia,List.take_left]
 have ey:((arrOf st).extract (P.length+X.length) (P.length+X.length+k2)).toList=Y.take k2:=by
  rw [abG,abk,ea,← acI,afm,afm,show P.length+X.length+k2 - (P.length+X.length)=k2 by lia,adI hkn2]
 have fin:∀ (m:Array Keyed) (st2:SortSt),Eqv st1 st2->jF κ (X.drop k++Y.take k2) m.toList->Q true (SortSt.mk' (kindOf st2) ((m.toList.zipIdx).foldl (fun a x=>a.setIfInBounds (P.length+k+x.2) x.1) (arrOf st2)) (pendingOf st2) (gallopOf st2) (failedOf st2)):=by
  intro m st2 ev g;have ml:m.toList.length=X.length - k+k2:=by rw [g.1.length_eq,zH,l2,l3]
  have msz:m.size=X.length - k+k2:=by rw [← zR];exact ml
  refine h (X.take k++(m.toList++Y.drop k2)) _ ?_ ?_ (ev.1.trans k1) (ev.2.2.2.trans f1) ?_ (ev.2.2.1.trans p1)
  ·refine List.Perm.trans (abE _ (abL _ g.1)) ?_;rw [zU,aat,← zU,aat]
  ·have inM:∀ z∈m.toList,z∈X.drop k\/z∈Y.take k2:=fun z hz=>zS.mp (g.1.mem_iff.mp hz);have sX':=sX;rw [← sp] at sX';have cX:=(aaO.mp sX').2.2;have sY':=sY;rw [← aat k2 Y] at sY';have cY:=(aaO.mp sY').2.2;refine lz (sX.take k) (lz g.2 (sY.drop k2) fun z hz y hy=>?_) fun x hx z hz=>?_
   ·rcases inM z hz with q | q
    ·exact le_trans (lex z (aaP q)) (g4 y hy)
    ·exact cY z q y hy
   ·rcases zS.mp hz with hz | hz
    ·rcases inM z hz with q | q
     ·exact cX x hx z q
     ·exact g1Y x hx z (abh q)
    ·exact g1Y x hx z (aaP hz)
  ·show ((m.toList.zipIdx).foldl (fun a x=>a.setIfInBounds (P.length+k+x.2) x.1) (arrOf st2)).toList=_;have asz2:(arrOf st2).size=(arrOf st).size:=by rw [ev.2.1,a1]
   rw [oM (P.length+k) m.toList 0 (arrOf st2) (by lia),ev.2.1,a1,ea];have t1:(P++(X++(Y++R))).take (P.length+k+0)=P++X.take k:=by
    rw [adC,List.take_length_add_append,adI hkn]
   have t2:(P++(X++(Y++R))).drop (P.length+k+0+m.toList.length)=Y.drop k2++R:=by
    rw [show P.length+k+0+m.toList.length=P.length+(X.length+k2) by lia,ad0,ad0,adH hkn2]
   rw [t1,t2];simp only [zU]
 have P1':∀ y∈(Y.take k2).take 1,∀ x∈X.drop k,le κ y x:=fun y hy x hx=>by
  rw [aeg,abZ (by lia),eY] at hy;have:y=y0:=by simpa using hy
  rw [this];exact le_of_lt (g2 x hx)
 have P2':∀ y∈Y.take k2,∀ z∈(X.drop k).drop (X.length - k - 1),le κ y z:=fun y hy z hz=>by
  rw [acI,show k+(X.length - k - 1)=X.length - 1 by lia] at hz;have ez:X.drop (X.length - 1)=[xl]:=by
   obtain⟨hl,e⟩:=zJ.mp hxl;rw [abP hl,e,abx (by lia)]
  rw [ez] at hz;rw [zQ.mp hz];exact le_of_lt (g3 y hy)
 have xsz:((arrOf st).extract (P.length+k) (P.length+X.length)).size=X.length - k:=by rw [← zR,ex,l2]
 have ysz:((arrOf st).extract (P.length+X.length) (P.length+X.length+k2)).size=k2:=by rw [← zR,ey,l3]
 refine ifs (fun _=>?_) (fun _=>?_)
 ·refine zV (nL hO k1 (by rw [ex];exact fun p hp=>vX p (aaP hp)) (by rw [ey];exact fun p hp=>vY p (abh hp)) (by rw [xsz];lia) (by rw [ysz];lia) (by rw [ex];exact sX.drop k) (by rw [ey];exact sY.take k2) (by rw [ex,ey];exact P1') (by rw [ex,ey,xsz];exact P2') fun m st2 ev g=>?_);rw [ex,ey] at g;refine zV (aco (zV (adG ?_)));have:=fin m st2 ev g;have e:(failedOf st2).isNone=true:=by rw [ev.2.2.2,f1];rfl
  refine z6 ?_;show Q (failedOf st2).isNone _;rw [e];exact this
 ·refine zV (om hO k1 (by rw [ex];exact fun p hp=>vX p (aaP hp)) (by rw [ey];exact fun p hp=>vY p (abh hp)) (by rw [xsz];lia) (by rw [ysz];lia) (by rw [ex];exact sX.drop k) (by rw [ey];exact sY.take k2) (by rw [ex,ey];exact P1') (by rw [ex,ey,xsz];exact P2') fun m st2 ev g=>?_);rw [ex,ey] at g;refine zV (aco (zV (adG ?_)));have:=fin m st2 ev g;have e:(failedOf st2).isNone=true:=by rw [ev.2.2.2,f1];rfl
  refine z6 ?_;show Q (failedOf st2).isNone _;rw [e];exact this
end
structure Rl (kd:SortKind)(lo:Nat)(st0 st:SortSt):Prop where
 kind:kindOf st=kd
 failed:failedOf st=none
 pend:pendingOf st=pendingOf st0
 perm:(arrOf st).Perm (arrOf st0)
 pre:∀ i,i < lo->(arrOf st)[i]? = (arrOf st0)[i]?
theorem Rl.size {kd:SortKind}{lo:Nat}{st0 st:SortSt}(R:Rl kd lo st0 st):(arrOf st).size=(arrOf st0).size:=R.perm.size_eq
theorem Rl.mir {kd:SortKind}{lo i j:Nat}{st0 st:SortSt}(R:Rl kd lo st0 st)(hi:lo<=i)(hj:j<=(arrOf st0).size):Rl kd lo st0 (setArr st (mirror (arrOf st) i j ((j - i) / 2))) :=
 ⟨R.kind,R.failed,R.pend,(mirror_perm _ _ _ _).trans R.perm,fun k hk=>by
  show (mirror (arrOf st) i j ((j - i) / 2))[k]? = _;rw [getElem?_mirror_all (by rw [R.size];exact hj),if_neg (by lia)];exact R.pre k hk⟩
theorem Rl.bub {lo src d:Nat}{st0 st:SortSt}(R:Rl kd lo st0 st)(hi:lo<=src - d)(hd:d<=src)(hs:src < (arrOf st0).size):Rl kd lo st0 (setArr st (bubble (arrOf st) src d)) :=
 ⟨R.kind,R.failed,R.pend,(bubble_perm _ _ _).trans R.perm,fun k hk=>by
  show (bubble (arrOf st) src d)[k]? = _;rw [getElem?_bubble (by rw [R.size];exact hs) d hd,if_neg (by lia),if_neg (by lia)];exact R.pre k hk⟩
def UpK (κ:KeyKind)(xs:Array Keyed)(lo n:Nat):Prop:=∀ i j,i<=j->j < n->κ.kle (KK κ xs (lo+i)) (KK κ xs (lo+j))
def DnK (κ:KeyKind)(xs:Array Keyed)(lo n:Nat):Prop:=∀ i j,i<=j->j < n->κ.kle (KK κ xs (lo+j)) (KK κ xs (lo+i))
section
variable {κ:KeyKind}
theorem UpK.one (xs:Array Keyed)(lo n:Nat)(hn:n<=1):UpK κ xs lo n:=fun i j hij hj=>by
 have e:i=j:=by lia
 subst e;exact ab3 _
theorem UpK.more {xs:Array Keyed}{lo x:Nat}(h:UpK κ xs lo x)(hx:1<=x)(q:κ.kle (KK κ xs (lo+(x - 1))) (KK κ xs (lo+x))):UpK κ xs lo (x+1):=fun i j hij hj=>by
 by_cases hjx:j < x
 ·exact h i j hij hjx
 ·have e:j=x:=by lia
  subst e;by_cases e2:i=j
  ·subst e2;exact ab3 _
  ·exact aci (h i (j - 1) (by lia) (by lia)) q
theorem DnK.more {xs:Array Keyed}{lo x:Nat}(h:DnK κ xs lo x)(hx:1<=x)(q:κ.kle (KK κ xs (lo+x)) (KK κ xs (lo+(x - 1)))):DnK κ xs lo (x+1):=fun i j hij hj=>by
 by_cases hjx:j < x
 ·exact h i j hij hjx
 ·have e:j=x:=by lia
  subst e;by_cases e2:i=j
  ·subst e2;exact ab3 _
  ·exact aci q (h i (j - 1) (by lia) (by lia))
theorem DnK.congr {xs ys:Array Keyed}{lo n:Nat}(h:DnK κ xs lo n)(e:∀ k,KK κ ys k=KK κ xs k):DnK κ ys lo n:=fun i j hij hj=>by
 rw [e,e];exact h i j hij hj
end
section
variable {prog:Program}{w:World}{A:Around}{E:Value->Shared->Prop}{s:Shared}{κ:KeyKind}{kd:SortKind}
theorem kF (hO:LtAt prog w A s κ kd){lo i j:Nat}{st0 st:SortSt}{Q:Option Bool->SortSt->Prop}(R:Rl kd lo st0 st)(va:∀ p∈(arrOf st0).toList,Va κ p)(hi:i < (arrOf st0).size)(hj:j < (arrOf st0).size)
 (h:Q (some (κ.blt (KK κ (arrOf st) i) (KK κ (arrOf st) j))) st):wpS (model prog w) A E s (ltAt' i j) Q st:=by
 have get:∀ k,k < (arrOf st0).size->∃ p,(arrOf st)[k]? = some p/\Va κ p:=fun k hk=>by
  obtain⟨p,e,m⟩:=cZ (x:=arrOf st) (i:=k) (by rw [R.size];exact hk);exact⟨p,e,va p ((abf.mp R.perm).mem_iff.mp m)⟩
 obtain⟨p,e1,a,ha⟩:=get i hi;obtain⟨q,e2,b,hb⟩:=get j hj;have ka:KK κ (arrOf st) i=a:=by rw [jw e1];unfold kk;rw [ha];rfl
 have kb:KK κ (arrOf st) j=b:=by rw [jw e2];unfold kk;rw [hb];rfl
 rw [ka,kb] at h;rw [ltAt'_eq];refine zV (adG (zV (cc e1 (zV (cc e2 (xr hO R.kind ⟨a,ha⟩ ⟨b,hb⟩ ?_))))));have kp:kk κ p=a:=by unfold kk;rw [ha];rfl
 have kq:kk κ q=b:=by unfold kk;rw [hb];rfl
 rw [kp,kq];exact h
theorem p7 (hO:LtAt prog w A s κ kd){lo n ok:Nat}{st0 st:SortSt}{Q:Bool->SortSt->Prop}(R:Rl kd lo st0 st)(va:∀ p∈(arrOf st0).toList,Va κ p)(hn:lo+n<=(arrOf st0).size)(h1:1<=ok)(hok:ok<=n)(hs:UpK κ (arrOf st) lo ok)
 (h:∀ st',Rl kd lo st0 st'->UpK κ (arrOf st') lo n->Q true st'):wpS (model prog w) A E s (binarySort' lo n ok) Q st:=by
 rw [binarySort'_eq];refine zV (abO (aa4 (I:=fun k c st'=>c=(none,())/\Rl kd lo st0 st'/\UpK κ (arrOf st') lo k) (Q:=fun c st'=>c=(none,())/\Rl kd lo st0 st'/\UpK κ (arrOf st') lo n) ?_ ?_ ⟨rfl,R,by rw [Nat.max_eq_left h1];exact hs⟩) ?_);rotate_left
 ·rintro c st' ⟨rfl,R',hs'⟩;rw [show max (max ok 1) n=n by lia] at hs';exact⟨rfl,R',hs'⟩
 ·rintro c st' ⟨rfl,R',hs'⟩;exact z6 (h st' R' hs')
 rintro k c st1 hak hkn ⟨rfl,R1,s1⟩;have hk1:1<=k:=by lia
 refine zV (abO (aa4 (I:=fun x c st2=>st2=st1/\∃ l r,c=(none,l,r)/\l<=r/\r<=k/\r - l<=k - x/\(∀ i,i < l->κ.kle (KK κ (arrOf st1) (lo+i)) (KK κ (arrOf st1) (lo+k)))/\∀ i,r<=i->i < k->κ.klt (KK κ (arrOf st1) (lo+k)) (KK κ (arrOf st1) (lo+i)))
  (Q:=fun c st2=>st2=st1/\∃ l r,c=(none,l,r)/\l<=k/\(∀ i,i < l->κ.kle (KK κ (arrOf st1) (lo+i)) (KK κ (arrOf st1) (lo+k)))/\∀ i,l<=i->i < k->κ.klt (KK κ (arrOf st1) (lo+k)) (KK κ (arrOf st1) (lo+i))) ?_ ?_ ⟨rfl,0,k,rfl,zZ _,zP _,by lia,fun i hi=>absurd hi (by lia),fun i a b=>absurd b (by lia)⟩) ?_)
 ·rintro x c st2 _ hx ⟨rfl,l,r,rfl,g1,g2,g3,g4,g5⟩;by_cases hge:l ≥ r
  ·refine ifp hge ?_;have e:l=r:=by lia
   subst e;exact z6 ⟨rfl,l,l,rfl,g2,g4,g5⟩
  ·refine ifn hge ?_;refine zV (kF hO R1 va (by show lo+k < _;lia) (by show lo+(l+r) / 2 < _;lia) ?_);show wpS _ _ _ _ (if κ.blt (KK κ (arrOf st2) (lo+k)) (KK κ (arrOf st2) (lo+(l+r) / 2))=true then _ else _) _ _;cases q:κ.blt (KK κ (arrOf st2) (lo+k)) (KK κ (arrOf st2) (lo+(l+r) / 2)) with
   | true =>
    refine ifp rfl ?_;exact z6 ⟨rfl,l,(l+r) / 2,rfl,by lia,by lia,by lia,g4,fun i a b=>KeyOrd.klt_of_klt_of_kle q (s1 _ _ a b)⟩
   | false =>
    refine ifn zO ?_;exact z6 ⟨rfl,(l+r) / 2+1,r,rfl,by lia,by lia,by lia,fun i a=>aci (s1 i ((l+r) / 2) (by lia) (by lia)) (show κ.kle _ _ from q),g5⟩
 ·rintro c st2 ⟨rfl,l,r,rfl,g1,g2,g3,g4,g5⟩;have e:l=r:=by lia
  subst e;exact⟨rfl,l,l,rfl,g2,g4,g5⟩
 ·rintro c st2 ⟨rfl,l,r,rfl,g2,g4,g5⟩;show wpS _ _ _ _ (moveDown' (lo+k) (lo+l) >>= fun _=>pure (ForInStep.yield (none,()))) _ _;rw [moveDown'_eq];have hks:lo+k < (arrOf st2).size:=by rw [R1.size];lia
  refine zV (aco (z6 ⟨rfl,R1.bub (by lia) (by lia) (by lia),?_⟩));intro i j hij hj;show κ.kle (KK κ (bubble (arrOf st2) (lo+k) (lo+k - (lo+l))) (lo+i)) (KK κ (bubble (arrOf st2) (lo+k) (lo+k - (lo+l))) (lo+j));rw [KK_bubble hks (by lia),KK_bubble hks (by lia)];have e1:∀ {z:Nat},l < z->z<=k->lo+z - 1=lo+(z - 1):=fun {z} a b=>by lia
  by_cases hj1:j=l
  ·subst hj1;rw [if_pos (show lo+j=lo+k - (lo+k - (lo+j)) by lia)];by_cases hi1:i=j
   ·rw [hi1,if_pos (show lo+j=lo+k - (lo+k - (lo+j)) by lia)];exact ab3 _
   ·rw [if_neg (by lia),if_neg (by lia)];exact g4 i (by lia)
  ·by_cases hj2:l < j
   ·rw [if_neg (show ¬ (lo+j=lo+k - (lo+k - (lo+l))) by lia),if_pos (show lo+k - (lo+k - (lo+l)) < lo+j/\lo+j<=lo+k by lia),e1 hj2 (by lia)];by_cases hi1:i=l
    ·rw [hi1,if_pos (show lo+l=lo+k - (lo+k - (lo+l)) by lia)];exact acE (g5 (j - 1) (by lia) (by lia))
    ·by_cases hi2:l < i
     ·rw [if_neg (show ¬ (lo+i=lo+k - (lo+k - (lo+l))) by lia),if_pos (show lo+k - (lo+k - (lo+l)) < lo+i/\lo+i<=lo+k by lia),e1 hi2 (by lia)];exact s1 _ _ (by lia) (by lia)
     ·rw [if_neg (by lia),if_neg (by lia)];exact s1 _ _ (by lia) (by lia)
   ·rw [if_neg (show ¬ (lo+j=lo+k - (lo+k - (lo+l))) by lia),if_neg (show ¬ (lo+k - (lo+k - (lo+l)) < lo+j/\lo+j<=lo+k) by lia),if_neg (by lia),if_neg (by lia)];exact s1 _ _ hij (by lia)
end
section
variable {prog:Program}{w:World}{A:Around}{E:Value->Shared->Prop}{s:Shared}{κ:KeyKind}{kd:SortKind}
theorem rg (hO:LtAt prog w A s κ kd){lo nrem:Nat}{st0:SortSt}{Q:Option Nat->SortSt->Prop}(hk:kindOf st0=kd)(hf:failedOf st0=none)(va:∀ p∈(arrOf st0).toList,Va κ p)(hn:lo+nrem<=(arrOf st0).size)(h1:1<=nrem)
 (h:∀ m st',Rl kd lo st0 st'->1<=m->m<=nrem->UpK κ (arrOf st') lo m->Q (some m) st'):wpS (model prog w) A E s (countRun' lo nrem) Q st0:=by
 rw [countRun'_eq];have R0:Rl kd lo st0 st0:=⟨hk,hf,rfl,ad1 _,fun _ _=>rfl⟩;refine zV (abO (aa4 (I:=fun x c st'=>st'=st0/\c=(none,x)/\UpK κ (arrOf st0) lo x) (Q:=fun c st'=>st'=st0/\∃ n,c=(none,n)/\1<=n/\n<=nrem/\UpK κ (arrOf st0) lo n/\(n=nrem\/κ.klt (KK κ (arrOf st0) (lo+n)) (KK κ (arrOf st0) (lo+(n - 1))))) ?_ ?_ ⟨rfl,rfl,UpK.one _ _ _ (zP _)⟩) ?_)
 ·rintro x c st' hx1 hx ⟨rfl,rfl,s1⟩;refine zV (kF hO R0 va (by show lo+x < _;lia) (by show lo+x - 1 < _;lia) ?_);show wpS _ _ _ _ (if κ.blt (KK κ (arrOf st') (lo+x)) (KK κ (arrOf st') (lo+x - 1))=true then _ else _) _ _;rw [show lo+x - 1=lo+(x - 1) by lia];cases q:κ.blt (KK κ (arrOf st') (lo+x)) (KK κ (arrOf st') (lo+(x - 1))) with
  | true =>
   refine ifp rfl ?_;exact z6 ⟨rfl,x,rfl,hx1,by lia,s1,.inr q⟩
  | false =>
   refine ifn zO ?_;exact z6 ⟨rfl,rfl,s1.more hx1 q⟩
 ·rintro c st' ⟨rfl,rfl,s1⟩;rw [show max 1 nrem=nrem by lia] at s1 ⊢;exact⟨rfl,nrem,rfl,h1,zP _,s1,.inl rfl⟩
 rintro c st' ⟨rfl,n,rfl,g1,g2,s1,alt⟩;by_cases hnn:n=nrem
 ·refine ifp (aag.mpr hnn) ?_;exact z6 (h n st' R0 g1 g2 s1)
 refine ifn (fun z=>hnn (aag.mp z)) ?_;have hlt:=alt.resolve_left hnn
 lift_lets
 extract_lets n0 q0 jp
 have hjp:∀ st1,Rl kd lo st' st1->DnK κ (arrOf st1) lo (n+1)->wpS (model prog w) A E s (jp ()) Q st1:=by
  intro st1 R1 d1;refine zV (wpS_lift (abJ ⟨rfl,?_⟩));refine zV (abO (aa4 (a:=n+1) (b:=nrem) (I:=fun x c st2=>Rl kd lo st' st2/\∃ neq,c=(none,x,neq)/\DnK κ (arrOf st2) lo x/\neq+1<=x/\∀ i,x - (neq+1)<=i->i < x->KK κ (arrOf st2) (lo+i)=KK κ (arrOf st2) (lo+(x - 1)))
   (Q:=fun c st2=>Rl kd lo st' st2/\∃ x neq,c=(none,x,neq)/\1<=x/\x<=nrem/\DnK κ (arrOf st2) lo x/\neq+1<=x/\∀ i,x - (neq+1)<=i->i < x->KK κ (arrOf st2) (lo+i)=KK κ (arrOf st2) (lo+(x - 1))) ?_ ?_ ⟨R1,0,rfl,d1,by lia,fun i a b=>by congr 1;lia⟩) ?_)
  ·rintro x c st2 hx1 hx ⟨R2,neq,rfl,d2,q1,q2⟩;have hsz:lo+x<=(arrOf st2).size:=by rw [R2.size];lia
   refine zV (kF hO R2 va (by show lo+x < _;lia) (by show lo+x - 1 < _;lia) ?_);show wpS _ _ _ _ (if κ.blt (KK κ (arrOf st2) (lo+x)) (KK κ (arrOf st2) (lo+x - 1))=true then _ else _) _ _;rw [show lo+x - 1=lo+(x - 1) by lia];cases q:κ.blt (KK κ (arrOf st2) (lo+x)) (KK κ (arrOf st2) (lo+(x - 1))) with
   | true =>
    refine ifp rfl ?_;have d3:=d2.more (by lia) (acE q);refine ifs (fun hq=>?_) (fun hq=>?_)
    ·refine zV (wpS_reverse (i:=lo+x - (neq+1)) (j:=lo+x) (z6 ⟨R2.mir (by lia) (by lia),0,rfl,?_,by lia,fun i a b=>by congr 1;lia⟩));refine d3.congr fun k=>KK_mirror_equal hsz (fun k a b=>?_) k;have e:=q2 (k - lo) (by lia) (by lia);rw [show lo+(k - lo)=k by lia] at e;rw [e];congr 1;lia
    ·exact z6 ⟨R2,0,rfl,d3,by lia,fun i a b=>by congr 1;lia⟩
   | false =>
    refine ifn zO ?_;refine zV (kF hO R2 va (by show lo+(x - 1) < _;lia) (by show lo+x < _;lia) ?_);show wpS _ _ _ _ (if κ.blt (KK κ (arrOf st2) (lo+(x - 1))) (KK κ (arrOf st2) (lo+x))=true then _ else _) _ _;cases p:κ.blt (KK κ (arrOf st2) (lo+(x - 1))) (KK κ (arrOf st2) (lo+x)) with
    | true =>
     refine ifp rfl ?_;exact z6 ⟨R2,x,neq,rfl,by lia,by lia,d2,q1,q2⟩
    | false =>
     refine ifn zO ?_;have e:KK κ (arrOf st2) (lo+x)=KK κ (arrOf st2) (lo+(x - 1)):=KeyOrd.kle_antisymm p q;refine z6 ⟨R2,neq+1,rfl,d2.more (by lia) (show κ.kle _ _ from p),by lia,fun i a b=>?_⟩;rw [show x+1 - 1=x by lia];by_cases hix:i=x
     ·rw [hix]
     ·rw [e];exact q2 i (by lia) (by lia)
  ·rintro c st2 ⟨R2,neq,rfl,d2,q1,q2⟩;rw [show max (n+1) nrem=nrem by lia] at d2 q1 q2 ⊢;exact⟨R2,nrem,neq,rfl,h1,zP _,d2,q1,q2⟩
  rintro c st2 ⟨R2,x,neq,rfl,x1,x2,d2,q1,q2⟩
  lift_lets
  extract_lets r5 s5 n5 q5 jp2
  have hjp2:∀ st3,Rl kd lo st' st3->DnK κ (arrOf st3) lo x->wpS (model prog w) A E s (jp2 ()) Q st3:=by
   intro st3 R3 d3;have hsz:lo+x<=(arrOf st3).size:=by rw [R3.size];lia
   refine zV (wpS_reverse (i:=lo) (j:=lo+x) ?_);have R4:=R3.mir (i:=lo) (j:=lo+x) (zP _) (by lia);have u4:UpK κ (arrOf (setArr st3 (mirror (arrOf st3) lo (lo+x) ((lo+x - lo) / 2)))) lo x:=fun i j hij hj=>by
    show κ.kle (KK κ (mirror (arrOf st3) lo (lo+x) ((lo+x - lo) / 2)) (lo+i)) (KK κ (mirror (arrOf st3) lo (lo+x) ((lo+x - lo) / 2)) (lo+j));rw [KK_mirror hsz,KK_mirror hsz,if_pos (by lia),if_pos (by lia),show lo+(lo+x) - 1 - (lo+i)=lo+(x - 1 - i) by lia,show lo+(lo+x) - 1 - (lo+j)=lo+(x - 1 - j) by lia];exact d3 _ _ (by lia) (by lia)
   generalize setArr st3 (mirror (arrOf st3) lo (lo+x) ((lo+x - lo) / 2))=st4 at R4 u4 ⊢;refine zV (abO (aa4 (a:=x) (b:=nrem) (I:=fun y c st5=>st5=st4/\c=(none,y)/\UpK κ (arrOf st4) lo y) (Q:=fun c st5=>st5=st4/\∃ m,c=(none,m)/\1<=m/\m<=nrem/\UpK κ (arrOf st4) lo m) ?_ ?_ ⟨rfl,rfl,u4⟩) ?_)
   ·rintro y c st5 hy1 hy ⟨rfl,rfl,s5⟩;refine zV (kF hO R4 va (by show lo+y < _;lia) (by show lo+y - 1 < _;lia) ?_);show wpS _ _ _ _ (if κ.blt (KK κ (arrOf st5) (lo+y)) (KK κ (arrOf st5) (lo+y - 1))=true then _ else _) _ _;rw [show lo+y - 1=lo+(y - 1) by lia];cases q:κ.blt (KK κ (arrOf st5) (lo+y)) (KK κ (arrOf st5) (lo+(y - 1))) with
    | true =>
     refine ifp rfl ?_;exact z6 ⟨rfl,y,rfl,by lia,by lia,s5⟩
    | false =>
     refine ifn zO ?_;exact z6 ⟨rfl,rfl,s5.more (by lia) q⟩
   ·rintro c st5 ⟨rfl,rfl,s5⟩;rw [show max x nrem=nrem by lia] at s5 ⊢;exact⟨rfl,nrem,rfl,h1,zP _,s5⟩
   ·rintro c st5 ⟨rfl,m,rfl,m1,m2,s5⟩;exact z6 (h m st5 R4 m1 m2 s5)
  clear_value jp2
  refine ifs (fun hq=>?_) (fun hq=>hjp2 st2 R2 d2);have hsz:lo+x<=(arrOf st2).size:=by rw [R2.size];lia
  refine zV (wpS_reverse (i:=lo+x - (neq+1)) (j:=lo+x) (hjp2 _ (R2.mir (by lia) (by lia)) ?_));refine d2.congr fun k=>KK_mirror_equal hsz (fun k a b=>?_) k;have e:=q2 (k - lo) (by lia) (by lia);rw [show lo+(k - lo)=k by lia] at e;rw [e];congr 1;lia
 clear_value jp
 have hsz:lo+n<=(arrOf st').size:=by lia
 refine ifs (fun hgt=>?_) (fun hgt=>?_)
 ·refine zV (kF hO R0 va (by show lo < _;lia) (by show lo+n - 1 < _;lia) ?_);show wpS _ _ _ _ (if κ.blt (KK κ (arrOf st') lo) (KK κ (arrOf st') (lo+n - 1))=true then _ else _) _ _;cases q:κ.blt (KK κ (arrOf st') lo) (KK κ (arrOf st') (lo+n - 1)) with
  | true =>
   refine ifp rfl ?_;exact z6 (h n st' R0 g1 g2 s1)
  | false =>
   refine ifn zO ?_;have all:∀ k,k < n->KK κ (arrOf st') (lo+k)=KK κ (arrOf st') (lo+(n - 1)):=fun k hk=>by
    have a1:=s1 0 k (by lia) hk;have a2:=s1 k (n - 1) (by lia) (by lia);rw [adC] at a1;rw [show lo+n - 1=lo+(n - 1) by lia] at q;exact KeyOrd.kle_antisymm a2 (aci q a1)
   refine zV (wpS_reverse (i:=lo) (j:=lo+n) (hjp _ (R0.mir (zP _) (by lia)) ?_));have d0:DnK κ (arrOf st') lo n:=fun i j hij hj=>by rw [all i (by lia),all j hj];exact ab3 _
   refine (d0.more g1 (acE hlt)).congr fun k=>KK_mirror_equal hsz (fun k a b=>?_) k;have e:=all (k - lo) (by lia);rw [show lo+(k - lo)=k by lia] at e;rw [e,show lo+n - 1=lo+(n - 1) by lia]
 ·have e1:n=1:=by lia
  subst e1;have d0:DnK κ (arrOf st') lo 1:=fun i j hij hj=>by
   have e:i=j:=by lia
   subst e;exact ab3 _
  exact hjp st' R0 (d0.more (zP _) (acE hlt))
end
def gz:Nat->List (List Keyed)->List (Nat×Nat)
 | _,[]=>[]
 | s,g::gs=>(s,g.length)::gz (s+g.length) gs
theorem dg:∀ (A B:List (List Keyed)) (s:Nat),gz s (A++B)=gz s A++gz (s+A.flatten.length) B
 | [],B,s=>by simp [gz]
 | g::A,B,s=>by
  rw [aeF];simp only [gz,adu,zH,aeF];rw [dg A B,aeC]
theorem fh:∀ (A:List (List Keyed)) (s:Nat),(gz s A).length=A.length
 | [],s=>rfl
 | g::A,s=>by simp only [gz,aaq,fh A]
def two (p:Nat×Nat×Nat):Nat×Nat:=(p.1,p.2.1)
structure Runs (κ:KeyKind)(kd:SortKind)(a₀:Array Keyed)(segs:List (List Keyed))(rest:List Keyed)(st:SortSt):Prop where
 kind:kindOf st=kd
 failed:failedOf st=none
 perm:(arrOf st).Perm a₀
 arr:(arrOf st).toList=segs.flatten++rest
 pend:(pendingOf st).toList.map two=gz 0 segs
 sl:∀ g∈segs,SL κ g/\1<=g.length
theorem Runs.psize {κ:KeyKind}{a₀:Array Keyed}{segs:List (List Keyed)}{rest:List Keyed}{st:SortSt}(r:Runs κ kd a₀ segs rest st):(pendingOf st).size=segs.length:=by
 have:=aaG List.length r.pend;rw [zL,fh,zR] at this;exact this
theorem Runs.total {κ:KeyKind}{a₀:Array Keyed}{segs:List (List Keyed)}{rest:List Keyed}{st:SortSt}(r:Runs κ kd a₀ segs rest st):segs.flatten.length+rest.length=a₀.size:=by
 have:=aaG List.length r.arr;rw [zH,zR,r.perm.size_eq] at this;exact this.symm
theorem rf:∀ {segs:List (List Keyed)},(∀ g∈segs,1<=g.length)->segs.length<=segs.flatten.length
 | [],_=>zP _
 | g::gs,h=>by
  have a:=h g z7;have b:=rf (segs:=gs) fun q hq=>h q (z8 _ hq);rw [adu,zH,aaq];lia
theorem mE:∀ {segs:List (List Keyed)} {i:Nat},i+1 < segs.length->∃ S1 X Y S2,segs=S1++(X::Y::S2)/\S1.length=i
 | [],i,h=>absurd h (by simp)
 | [g],i,h=>absurd h (by simp)
 | g::g'::gs,0,h=>⟨[],g,g',gs,rfl,rfl⟩
 | g::g'::gs,i+1,h=>by
  obtain⟨S1,X,Y,S2,e,l⟩:=mE (segs:=g'::gs) (i:=i) (by simpa using h);exact⟨g::S1,X,Y,S2,by rw [e];rfl,by simp [l]⟩
theorem lY {α β:Type}(f:α->β):∀ (l:List α) (n:Nat),(l.eraseIdx n).map f=(l.map f).eraseIdx n
 | [],n=>by simp
 | x::l,0=>by simp
 | x::l,n+1=>by
  rw [ab7,z4,z4,ab7,lY f l n]
theorem Runs.after {κ:KeyKind}{a₀:Array Keyed}{segs:List (List Keyed)}{rest:List Keyed}{st st':SortSt}(r:Runs κ kd a₀ segs rest st)(R:Rl kd segs.flatten.length st st'):Runs κ kd a₀ segs ((arrOf st').toList.drop segs.flatten.length) st':=by
 refine⟨R.kind,R.failed,R.perm.trans r.perm,?_,by rw [R.pend];exact r.pend,r.sl⟩;have e:(arrOf st').toList.take segs.flatten.length=segs.flatten:=by
  have e1:(arrOf st).toList.take segs.flatten.length=segs.flatten:=by rw [r.arr,List.take_left]
  rw [← e1];refine ab1 fun i=>?_;have hlen:(List.take segs.flatten.length (arrOf st).toList).length=segs.flatten.length:=by
   rw [e1]
  rw [hlen];by_cases hi:i < segs.flatten.length
  ·rw [abW hi,abW hi,aao,aao];exact R.pre i hi
  ·rw [ad6 (by lia),ad6 (by lia)]
 have:=(aat segs.flatten.length (arrOf st').toList).symm
 rwa [e] at this
theorem UpK.sl {κ:KeyKind}{xs:Array Keyed}{lo n:Nat}(h:UpK κ xs lo n):SL κ ((xs.toList.drop lo).take n):=by
 refine aaU.mpr fun i j hi hj hij=>?_;have hj':j < n/\j < xs.size - lo:=by
  rw [aad,aaR,zR] at hj;lia
 have q:=h i j (aan hij) hj'.1;rw [jw (p:=xs[lo+i]) (getElem?_pos xs (lo+i) (by lia)),jw (p:=xs[lo+j]) (getElem?_pos xs (lo+j) (by lia))] at q;rw [adt,aeo,adt,aeo];exact q
theorem xK {c:Prop}[Decidable c]{a b n:Nat}(h1:a+1 < n)(h2:b+1 < n):(if c then a else b)+1 < n:=by
 split<;>assumption
theorem tI (f:Nat×Nat×Nat->Nat×Nat×Nat)(hf:∀ x,two (f x)=two x)(p:Array (Nat×Nat×Nat))(i:Nat):(p.modify i f).toList.map two=p.toList.map two:=by
 refine ab1 fun j=>?_;rw [zT,zT,aao,aao,Array.getElem?_modify];cases p[j]? with
 | none=>split<;>rfl
 | some v =>
  split
  ·show some (two (f v))=some (two v);rw [hf]
  ·rfl
section
variable {prog:Program}{w:World}{A:Around}{E:Value->Shared->Prop}{s:Shared}{κ:KeyKind}{kd:SortKind}
theorem eR (hO:LtAt prog w A s κ kd){a₀:Array Keyed}{segs:List (List Keyed)}{rest:List Keyed}{i:Nat}{st:SortSt}{Q:Bool->SortSt->Prop}(va:∀ p∈a₀.toList,Va κ p)(r:Runs κ kd a₀ segs rest st)(hi:i+1 < segs.length)
 (h:∀ segs' st',Runs κ kd a₀ segs' rest st'->segs'.length+1=segs.length->segs'.flatten.length=segs.flatten.length->Q true st'):wpS (model prog w) A E s (mergeAt' i) Q st:=by
 obtain⟨S1,X,Y,S2,rfl,l1⟩:=mE hi;have pe:=r.pend;rw [dg] at pe;simp only [gz,acV] at pe;have l1':(gz 0 S1).length=i:=by rw [fh];exact l1
 have at1:((pendingOf st).toList.map two)[i]? = some (S1.flatten.length,X.length):=by
  rw [pe,aae (by lia),l1',abD]
  rfl
 have at2:((pendingOf st).toList.map two)[i+1]? = some (S1.flatten.length+X.length,Y.length):=by
  rw [pe,aae (by lia),l1',show i+1 - i=1 by lia]
  rfl
 have get:∀ {k a b:Nat},((pendingOf st).toList.map two)[k]? = some (a,b)->∃ c,(pendingOf st)[k]? = some (a,b,c):=fun {k a b} e=>by
  rw [zT,aao] at e;cases q:(pendingOf st)[k]? with
  | none=>rw [q] at e;cases e
  | some v =>
   rw [q] at e;obtain⟨x,y,z⟩:=v;have e':(x,y)=(a,b):=aai e;cases e';exact⟨z,rfl⟩
 obtain⟨pw,hp1⟩:=get at1;obtain⟨pw2,hp2⟩:=get at2;have ea:(arrOf st).toList=S1.flatten++(X++(Y++(S2.flatten++rest))):=by
  rw [r.arr];simp [zU]
 have vall:∀ p∈(arrOf st).toList,Va κ p:=fun p hp=>va p ((abf.mp r.perm).mem_iff.mp hp);have sX:=r.sl X (by simp);have sY:=r.sl Y (by simp);refine oF hO r.kind r.failed hp1 hp2 ea (fun p hp=>vall p (by rw [ea];simp [hp])) (fun p hp=>vall p (by rw [ea];simp [hp])) sX.1 sY.1 sX.2 sY.2 fun M st' pM sM k' f' a' p'=>?_;have lM:M.length=X.length+Y.length:=by rw [pM.length_eq,zH]
 refine h (S1++M::S2) st' ⟨k',f',?_,?_,?_,fun g hg=>?_⟩ (by simp only [zH,aaq];lia) (by simp only [acd,adu,zH];lia)
 ·refine Array.Perm.trans (abf.mpr ?_) r.perm;rw [a',ea];refine abE _ ?_;rw [← zU X];exact abL _ pM
 ·rw [a'];simp [zU]
 ·rw [p',Array.toList_eraseIdxIfInBounds,Array.toList_setIfInBounds,dg];simp only [gz,acV];rw [lY,List.map_set,pe];rw [show two (S1.flatten.length,X.length+Y.length,pw)=(S1.flatten.length,X.length+Y.length) from rfl];rw [List.set_append_right _ _ (by lia),l1',abD,List.set_cons_zero,List.eraseIdx_append_of_length_le (by lia),l1',show i+1 - i=1 by lia];simp only [ab7,List.eraseIdx_cons_zero];rw [lM,aeC]
 ·rcases zS.mp hg with hg | hg
  ·exact r.sl g (by simp [hg])
  ·rcases aab.mp hg with hg | hg
   ·rw [hg];exact⟨sM,by lia⟩
   ·exact r.sl g (by simp [hg])
theorem wpS_sortAll (hO:LtAt prog w A s κ kd){a₀:Array Keyed}{st:SortSt}{Q:Unit->SortSt->Prop}(va:∀ p∈a₀.toList,Va κ p)(hk:kindOf st=kd)(hf:failedOf st=none)(hp:(arrOf st).Perm a₀)(hpe:pendingOf st=#[])
 (h:∀ st',(arrOf st').Perm a₀->failedOf st'=none->SL κ (arrOf st').toList->Q () st'):wpS (model prog w) A E s sortRuns' Q st:=by
 have hN:(arrOf st).size=a₀.size:=hp.size_eq;have none_left:∀ {segs:List (List Keyed)} {rest:List Keyed} {st':SortSt},Runs κ kd a₀ segs rest st'->(arrOf st).size<=segs.flatten.length->Runs κ kd a₀ segs [] st':=fun {segs rest st'} r hl=>by
  have t:=r.total;have e:rest=[]:=ab8.mp (by lia);rw [← e];exact r
 refine zV (adG ?_);refine zV (abO (aa4 (a:=0) (b:=(arrOf st).size) (I:=fun x c st'=>∃ segs rest,c=(none,segs.flatten.length)/\Runs κ kd a₀ segs rest st'/\x<=segs.flatten.length)
  (Q:=fun c st'=>∃ segs lo,c=(none,lo)/\Runs κ kd a₀ segs [] st') ?_ ?_ ⟨[],(arrOf st).toList,rfl,⟨hk,hf,hp,rfl,by rw [hpe];rfl,fun g hg=>nomatch hg⟩,zP _⟩) ?_)
 ·rintro x c st1 _ hx ⟨segs,rest,rfl,r,hxl⟩;by_cases hge:segs.flatten.length ≥ (arrOf st).size
  ·refine ifp hge ?_;exact z6 ⟨segs,_,rfl,none_left r hge⟩
  refine ifn hge ?_;have hN1:(arrOf st1).size=a₀.size:=r.perm.size_eq;have vall:∀ p∈(arrOf st1).toList,Va κ p:=fun p hp=>va p ((abf.mp r.perm).mem_iff.mp hp);refine zV (rg (lo:=segs.flatten.length) (nrem:=(arrOf st).size - segs.flatten.length) hO r.kind r.failed vall (by lia) (by lia) fun m st2 R2 m1 m2 u2=>?_);have r2:=r.after R2;have t2:=r2.total;refine ifs (fun hlt=>?_) (fun hlt=>?_)
  ·refine zV (wpS_lift (abJ ⟨rfl,?_⟩));have fo1:m<=min ((arrOf st).size - segs.flatten.length) (minRun' (arrOf st).size (arrOf st).size 0):=by
    have hlt':m < minRun' (arrOf st).size (arrOf st).size 0:=hlt;lia
   have fo2:min ((arrOf st).size - segs.flatten.length) (minRun' (arrOf st).size (arrOf st).size 0)<=(arrOf st).size - segs.flatten.length:=ac8 _ _;refine zV (p7 (lo:=segs.flatten.length) (n:=min ((arrOf st).size - segs.flatten.length) (minRun' (arrOf st).size (arrOf st).size 0)) (ok:=m) hO R2 vall (by lia) m1 fo1 u2 fun st3 R3 u3=>?_);refine ifn (by simp) ?_;have r3:=r.after R3;have t3:=r3.total;have sN:=u3.sl;generalize (arrOf st3).toList.drop segs.flatten.length=rest3 at r3 sN t3;have push:∀ (segs':List (List Keyed)) (st4:SortSt),Runs κ kd a₀ segs' rest3 st4->segs'.flatten.length=segs.flatten.length->∃ segs5 rest5,((none,segs.flatten.length+min ((arrOf st).size - segs.flatten.length) (minRun' (arrOf st).size (arrOf st).size 0)):Option Unit×Nat)=(none,segs5.flatten.length)/\Runs κ kd a₀ segs5 rest5 (setPending st4 ((pendingOf st4).push (segs.flatten.length,min ((arrOf st).size - segs.flatten.length) (minRun' (arrOf st).size (arrOf st).size 0),0)))/\x+1<=segs5.flatten.length:=fun segs' st4 r4 e4=>by
    have lN:(rest3.take (min ((arrOf st).size - segs.flatten.length) (minRun' (arrOf st).size (arrOf st).size 0))).length=min ((arrOf st).size - segs.flatten.length) (minRun' (arrOf st).size (arrOf st).size 0):=by rw [aad];lia
    have lf:(segs'++[rest3.take (min ((arrOf st).size - segs.flatten.length) (minRun' (arrOf st).size (arrOf st).size 0))]).flatten.length=segs.flatten.length+min ((arrOf st).size - segs.flatten.length) (minRun' (arrOf st).size (arrOf st).size 0):=by
     rw [acd,zH,abM,lN,e4]
    refine⟨segs'++[rest3.take (min ((arrOf st).size - segs.flatten.length) (minRun' (arrOf st).size (arrOf st).size 0))],rest3.drop (min ((arrOf st).size - segs.flatten.length) (minRun' (arrOf st).size (arrOf st).size 0)),by rw [lf],⟨r4.kind,r4.failed,r4.perm,?_,?_,fun g hg=>?_⟩,by rw [lf];lia⟩
    ·show (arrOf st4).toList=_;rw [r4.arr,acd,abM,zU,aat]
    ·show ((pendingOf st4).push (segs.flatten.length,min ((arrOf st).size - segs.flatten.length) (minRun' (arrOf st).size (arrOf st).size 0),0)).toList.map two=_;rw [adp,aax,r4.pend,dg,e4];simp only [gz,acV,lN]
     rfl
    ·rcases zS.mp hg with hg | hg
     ·exact r4.sl g hg
     ·rw [zQ.mp hg];exact⟨sN,by lia⟩
   refine zV (adG ?_);cases hb:(pendingOf st3).back? with
   | none=>exact zV (aco (z6 (push segs st3 r3 rfl)))
   | some v =>
    obtain⟨s1,n1,p0⟩:=v;refine zV (abO (aa4 (a:=0) (b:=(arrOf st).size) (I:=fun y c st4=>c=(none,())/\∃ segs',Runs κ kd a₀ segs' rest3 st4/\segs'.flatten.length=segs.flatten.length) (Q:=fun c st4=>c=(none,())/\∃ segs',Runs κ kd a₀ segs' rest3 st4/\segs'.flatten.length=segs.flatten.length) ?_ (fun _ _ h=>h) ⟨rfl,segs,r3,rfl⟩) ?_)
    ·rintro y c st4 _ hy ⟨rfl,segs',r4,e4⟩;refine zV (adG ?_);have ps:=r4.psize;by_cases hsz:(pendingOf st4).size > 1
     ·obtain⟨v,hv⟩:∃ v,(pendingOf st4)[(pendingOf st4).size - 2]? = some v:=⟨_,getElem?_pos _ _ (by lia)⟩;obtain⟨q1,q2,q3⟩:=v;have em:(if (pendingOf st4).size > 1 then (pendingOf st4)[(pendingOf st4).size - 2]? else none)=some (q1,q2,q3):=by rw [if_pos hsz,hv]
      dsimp only;rw [em];refine ifs (fun ho=>z6 ⟨rfl,segs',r4,e4⟩) (fun ho=>?_);refine zV (eR (i:=(pendingOf st4).size - 2) hO va r4 (by lia) fun segs5 st5 r5 l5 e5=>?_);exact ifn (by simp) (z6 ⟨rfl,segs5,r5,by lia⟩)
     ·have em:(if (pendingOf st4).size > 1 then (pendingOf st4)[(pendingOf st4).size - 2]? else none)=none:=if_neg hsz;dsimp only;rw [em];exact z6 ⟨rfl,segs',r4,e4⟩
    ·rintro c st4 ⟨rfl,segs',r4,e4⟩;refine zV (aco (zV (aco (z6 (push segs' _ ⟨r4.kind,r4.failed,r4.perm,r4.arr,?_,r4.sl⟩ e4)))));refine (tI _ ?_ _ _).trans r4.pend;intro z
     rfl
  ·have sN:=u2.sl;have r3:=r2;have t3:=t2;generalize (arrOf st2).toList.drop segs.flatten.length=rest3 at r3 sN t3;have push:∀ (segs':List (List Keyed)) (st4:SortSt),Runs κ kd a₀ segs' rest3 st4->segs'.flatten.length=segs.flatten.length->∃ segs5 rest5,((none,segs.flatten.length+m):Option Unit×Nat)=(none,segs5.flatten.length)/\Runs κ kd a₀ segs5 rest5 (setPending st4 ((pendingOf st4).push (segs.flatten.length,m,0)))/\x+1<=segs5.flatten.length:=fun segs' st4 r4 e4=>by
    have lN:(rest3.take (m)).length=m:=by rw [aad];lia
    have lf:(segs'++[rest3.take (m)]).flatten.length=segs.flatten.length+m:=by
     rw [acd,zH,abM,lN,e4]
    refine⟨segs'++[rest3.take (m)],rest3.drop (m),by rw [lf],⟨r4.kind,r4.failed,r4.perm,?_,?_,fun g hg=>?_⟩,by rw [lf];lia⟩
    ·show (arrOf st4).toList=_;rw [r4.arr,acd,abM,zU,aat]
    ·show ((pendingOf st4).push (segs.flatten.length,m,0)).toList.map two=_;rw [adp,aax,r4.pend,dg,e4];simp only [gz,acV,lN]
     rfl
    ·rcases zS.mp hg with hg | hg
     ·exact r4.sl g hg
     ·rw [zQ.mp hg];exact⟨sN,by lia⟩
   refine zV (adG ?_);cases hb:(pendingOf st2).back? with
   | none=>exact zV (aco (z6 (push segs st2 r3 rfl)))
   | some v =>
    obtain⟨s1,n1,p0⟩:=v;refine zV (abO (aa4 (a:=0) (b:=(arrOf st).size) (I:=fun y c st4=>c=(none,())/\∃ segs',Runs κ kd a₀ segs' rest3 st4/\segs'.flatten.length=segs.flatten.length) (Q:=fun c st4=>c=(none,())/\∃ segs',Runs κ kd a₀ segs' rest3 st4/\segs'.flatten.length=segs.flatten.length) ?_ (fun _ _ h=>h) ⟨rfl,segs,r3,rfl⟩) ?_)
    ·rintro y c st4 _ hy ⟨rfl,segs',r4,e4⟩;refine zV (adG ?_);have ps:=r4.psize;by_cases hsz:(pendingOf st4).size > 1
     ·obtain⟨v,hv⟩:∃ v,(pendingOf st4)[(pendingOf st4).size - 2]? = some v:=⟨_,getElem?_pos _ _ (by lia)⟩;obtain⟨q1,q2,q3⟩:=v;have em:(if (pendingOf st4).size > 1 then (pendingOf st4)[(pendingOf st4).size - 2]? else none)=some (q1,q2,q3):=by rw [if_pos hsz,hv]
      dsimp only;rw [em];refine ifs (fun ho=>z6 ⟨rfl,segs',r4,e4⟩) (fun ho=>?_);refine zV (eR (i:=(pendingOf st4).size - 2) hO va r4 (by lia) fun segs5 st5 r5 l5 e5=>?_);exact ifn (by simp) (z6 ⟨rfl,segs5,r5,by lia⟩)
     ·have em:(if (pendingOf st4).size > 1 then (pendingOf st4)[(pendingOf st4).size - 2]? else none)=none:=if_neg hsz;dsimp only;rw [em];exact z6 ⟨rfl,segs',r4,e4⟩
    ·rintro c st4 ⟨rfl,segs',r4,e4⟩;refine zV (aco (zV (aco (z6 (push segs' _ ⟨r4.kind,r4.failed,r4.perm,r4.arr,?_,r4.sl⟩ e4)))));refine (tI _ ?_ _ _).trans r4.pend;intro z
     rfl
 ·rintro c st1 ⟨segs,rest,rfl,r,hxl⟩;rw [Nat.max_eq_right (zZ _)] at hxl;exact⟨segs,_,rfl,none_left r hxl⟩
 ·rintro c st1 ⟨segs,lo,rfl,r⟩;have tt:=r.total;rw [aeO,adC] at tt;have fg:=rf fun g hg=>(r.sl g hg).2;refine zV (abO (aa4 (a:=0) (b:=(arrOf st).size) (I:=fun y c st2=>c=(none,())/\∃ segs',Runs κ kd a₀ segs' [] st2/\(segs'.length+y<=a₀.size\/segs'.length<=1)) (Q:=fun c st2=>c=(none,())/\∃ segs',Runs κ kd a₀ segs' [] st2/\segs'.length<=1) ?_ ?_ ⟨rfl,segs,r,.inl (by lia)⟩) ?_)
  ·rintro y c st2 _ hy ⟨rfl,segs',r2,alt⟩;refine zV (adG ?_);have ps:=r2.psize;by_cases hsz:(pendingOf st2).size<=1
   ·refine ifp hsz ?_;exact z6 ⟨rfl,segs',r2,by lia⟩
   refine ifn hsz ?_;refine zV (eR hO va r2 ?_ fun segs5 st5 r5 l5 e5=>?_)
   ·exact xK (show (pendingOf st2).size - 2 - 1+1 < _ by lia) (show (pendingOf st2).size - 2+1 < _ by lia)
   ·exact ifn (by simp) (z6 ⟨rfl,segs5,r5,.inl (by lia)⟩)
  ·rintro c st2 ⟨rfl,segs',r2,alt⟩;refine⟨rfl,segs',r2,?_⟩;rw [Nat.max_eq_right (zZ _)] at alt;lia
  ·rintro c st2 ⟨rfl,segs',r2,l2⟩;refine z6 (h st2 r2.perm r2.failed ?_);rw [r2.arr,aaK]
   match segs',l2,r2 with
   | [],_,_=>exact List.Pairwise.nil
   | [g],_,r2=>rw [abM];exact (r2.sl g z7).1
end
theorem SL.toK {κ:KeyKind}{xs:Array Keyed}(h:SL κ xs.toList)(n:Nat)(hn:n<=xs.size):SortedToK κ xs n:=fun i j hij hj=>by
 obtain⟨p,hp,_⟩:=cZ (x:=xs) (i:=i) (by lia);obtain⟨q,hq,_⟩:=cZ (x:=xs) (i:=j) (by lia);rw [jw hp,jw hq];exact h.at hij (by rw [aao];exact hp) (by rw [aao];exact hq)
section
variable {prog:Program}{w:World}{A:Around}{E:Value->Shared->Prop}{s:Shared}
theorem uE {a:Addr}{vs:List Value}{ss:List Str}{n:Nat}{R:Fin->Shared->Prop}(ho:s.heap.get? a=some (seqObj "list" vs.toArray n))(hS:StrsAre vs ss)(h2:2<=vs.length)(hz:vs.length<=sizeLine)
 (h:∀ (out:Array Value) (ss':List Str),StrsAre out.toList ss'->ss'.Perm ss->sortedS ss'=true->R (.done (.ret .none)) { s with heap:=sortedHeap s.heap a vs out }) :
 wpAny (model prog w) A (Builtin.«list.sort» ⟨[.ref a],[]⟩) R E s:=by
 have la:a < s.heap.objs.size:=zN ho;have sv:vs.toArray.size=vs.length:=z5 ..;obtain⟨e1,he1⟩:∃ e,(s.heap.update a (Obj.mapSeq fun _=>#[])).get? a=some (seqObj "list" #[] e):=⟨_,get?_update_seq ho (fun _=>#[])⟩;have he2:(((s.heap.update a (Obj.mapSeq fun _=>#[])).push (seqObj "tuple" vs.toArray 0)).push (seqObj "list" #[] 0)).get? a=some (seqObj "list" #[] e1):=by
  rw [abe _ _ _ (by rw [acD,abl];exact zY (zX la (aa6 _))),abe _ _ _ (by rw [abl];exact zY la)];exact he1
 obtain⟨v1,v2,vr,rfl⟩:∃ x y r,vs=x::y::r:=by
  rcases vs with _ | ⟨x,_ | ⟨y,r⟩⟩
  ·simp at h2
  ·simp at h2
  ·exact⟨x,y,r,rfl⟩
 rw [adZ];refine zF (acU ho rfl (zF (acb ho rfl ?_ (by rw [sv];exact hz) (zZ _))));refine zF (acM he1 rfl (zF (acH (zF (abB (aal ?_))))));have nb:¬ (v1::v2::vr).toArray.size < 2:=by rw [sv];lia
 have go:wpAny (model prog w) A (sortRuns'.run (SortSt.mk' oneType' ((v1::v2::vr).toArray.zip (v1::v2::vr).toArray) #[] 7 none))
  (fun r s'=>s'={ s with heap:=((s.heap.update a (Obj.mapSeq fun _=>#[])).push (seqObj "tuple" (v1::v2::vr).toArray 0)).push (seqObj "list" #[] 0) }/\(arrOf r.2).Perm (pairsOf (v1::v2::vr))/\failedOf r.2=none/\SL strKind (arrOf r.2).toList) E
  { s with heap:=((s.heap.update a (Obj.mapSeq fun _=>#[])).push (seqObj "tuple" (v1::v2::vr).toArray 0)).push (seqObj "list" #[] 0) } :=
  wpS_sortAll (κ:=strKind) (.of strKind_oneLt) (a₀:=pairsOf (v1::v2::vr)) (Q:=fun _ st'=>(arrOf st').Perm (pairsOf (v1::v2::vr))/\failedOf st'=none/\SL strKind (arrOf st').toList) (fun p hp=>hS.keysOf p hp) rfl rfl (ad1 _) rfl fun st' b1 b2 b3=>⟨b1,b2,b3⟩
 rw [if_neg nb,keyKind_strs hS];refine zF (zM ?_);rw [if_neg nb];refine zF (aaV go ?_ fun _ _ e=>e);rintro⟨⟨⟩,st'⟩ s' ⟨rfl,b1,b2,b3⟩;have sz:(arrOf st').size=(v1::v2::vr).length:=b1.size_eq.trans (pairsOf_size _);obtain⟨ss',d1,d2,d3⟩:=aef hS b1 (b3.toK _ (Nat.le_of_eq b1.size_eq.symm));refine zF (acM he2 rfl (zF (acb he2 rfl ?_ (zZ _) (by rw [afn,sz];lia))));dsimp only;rw [b2];simp only [abz,aaf,abq];exact zM (h _ ss' d1 d2 d3)
theorem sorted_any {l:Addr}{vs:List Value}{ss:List Str}{Q:Value->Shared->Prop}(hl:s.heap.IsList l vs.toArray)(hS:StrsAre vs ss)(hz:vs.length<=sizeLine)
 (h:∀ (out:Array Value) (ss':List Str),StrsAre out.toList ss'->ss'.Perm ss->sortedS ss'=true->Q (.ref (s.heap.objs.size+1)) { s with heap:=sortedAll s.heap vs out }) :
 wpAny (model prog w) A (call (.builtin "sorted") [.ref l]) Q E s:=by
 by_cases h64:vs.length < 64
 ·exact sorted_strs hl hS h64 h
 refine aba ads acR acS (acT _) ?_;have s1:((s.heap.push (seqObj "list" #[] 0)).update s.heap.objs.size (Obj.mapSeq (·++vs.toArray))).objs.size=s.heap.objs.size+1:=by
  rw [abl,acD]
 have g1:(((s.heap.push (seqObj "list" #[] 0)).update s.heap.objs.size (Obj.mapSeq (·++vs.toArray))).push (seqObj "list" vs.toArray 0)).get? (s.heap.objs.size+1)=some (seqObj "list" vs.toArray 0):=by
  rw [← s1];exact zW _ rfl
 unfold Builtin.«sorted»;refine zF (m:=checkCount "sorted" 1 1 _) (zM (zF (collect_list hl (zF (abB ?_)) hz)));show wpAny _ _ _ _ _ { s with heap:=((s.heap.push (seqObj "list" #[] 0)).update s.heap.objs.size (Obj.mapSeq (·++vs.toArray))).push (seqObj "list" vs.toArray 0) };rw [s1];exact zF (aal (aaX acm ⟨_,g1,rfl⟩ ab2 (uE g1 hS (by lia) hz fun out ss' b1 b2 b3=>⟨_,rfl,zM ⟨_,rfl,h out ss' b1 b2 b3⟩⟩) (acn _)))
end
end TS
namespace LL
open PySem PySem.SeqAt PySem.W PyProof.Rows
theorem rX {m n:Nat}{e f:Nat->Bool}:∀ (l l':List Int) (i:Nat),(∀ (j:Nat) (x y:Int),l[j]? = some x->l'[j]? = some y->e (i+j)=decide (x=y))->(∀ (j:Nat) (x y:Int),l[j]? = some x->l'[j]? = some y->f (i+j)=decide (x < y))->(m < n↔l.length < l'.length)->qg m n e f (min l.length l'.length) i=decide (l < l')
 | [],[],i,_,_,h=>by
  show qg m n e f 0 i=_;unfold qg;exact acj.mpr ⟨fun z=>absurd (h.mp z) (abp _),fun z=>absurd z (List.not_lt_nil _)⟩
 | [],y::ys,i,_,_,h=>by
  show qg m n e f (min 0 _) i=_;rw [Nat.zero_min];unfold qg;exact acj.mpr ⟨fun _=>List.nil_lt_cons _ _,fun _=>h.mpr (Nat.succ_pos _)⟩
 | x::xs,[],i,_,_,h=>by
  show qg m n e f (min _ 0) i=_;rw [Nat.min_zero];unfold qg;exact acj.mpr ⟨fun z=>absurd (h.mp z) (ac6 _),fun z=>absurd z (List.not_lt_nil _)⟩
 | x::xs,y::ys,i,he,hf,h=>by
  rw [show min (x::xs).length (y::ys).length=min xs.length ys.length+1 by simp only [aaq];lia];unfold qg;have e0:e i=decide (x=y):=he 0 x y rfl rfl;have f0:f i=decide (x < y):=hf 0 x y rfl rfl;by_cases q:x=y
  ·subst q;rw [e0,aaw rfl,if_pos rfl,rX xs ys (i+1) (fun j a b g1 g2=>by rw [Nat.add_right_comm,aeC];exact he (j+1) a b g1 g2) (fun j a b g1 g2=>by rw [Nat.add_right_comm,aeC];exact hf (j+1) a b g1 g2) (by rw [h];simp only [aaq];lia)];exact acj.mpr (by rw [ae3];exact⟨fun z=>.inr ⟨rfl,z⟩,fun z=>z.elim (fun z=>absurd z (Int.lt_irrefl _)) (·.2)⟩)
  ·rw [e0,aah q,if_neg zO,f0];exact acj.mpr (by rw [ae3];exact⟨fun z=>.inl z,fun z=>z.elim id (fun z=>absurd z.1 q)⟩)
def NumsAt (h:Heap)(v:Value)(l:List Int):Prop:=∃ (b:Addr) (os:List Value),v=.ref b/\h.IsList b os.toArray/\os.length=l.length/\∀ (j:Nat) z,l[j]? = some z->∃ tk,os[j]? = some (.int z tk)
theorem NumsAt.one {h:Heap}{v:Value}{l l':List Int}(a:NumsAt h v l)(b:NumsAt h v l'):l=l':=by
 obtain⟨a1,os,rfl,⟨o,ho,hc,n,hd⟩,hl,hx⟩:=a;obtain⟨b1,os',e,⟨o',ho',hc',n',hd'⟩,hl',hx'⟩:=b;cases e;rw [ho] at ho';cases ho';rw [hd] at hd';have eo:os=os':=by
  injection hd' with e1 e2
  exact aaG Array.toList e1
 subst eo;apply ab1 ;intro j;by_cases hj:j < l.length
 ·obtain⟨tk,e1⟩:=hx j _ (zG hj);obtain⟨tk',e2⟩:=hx' j _ (zG (show j < l'.length by lia));rw [e1] at e2;rw [zG hj,zG (show j < l'.length by lia)];injection e2 with e2
  injection e2 with e2
  rw [e2]
 ·rw [abn (by lia),abn (by lia)]
theorem uF (a b c:List Int)(x:decide (a < c)=true):decide (a < b)=true\/decide (b < c)=true:=by
 by_cases q:a < b
 ·exact .inl (aaw q)
 ·exact .inr (aaw (List.lt_of_le_of_lt (aby.mp q) (adv x)))
noncomputable abbrev eQ (h:Heap):KeyKind:={ α:=List Int,blt:=fun a b=>decide (a < b),irrefl:=fun a=>aah (aeh a),trans:=fun a b c x y=>aaw (aeD (adv x) (adv y)),negTrans:=uF,total:=fun a b x y=>ach (aby.mp (ac3 y)) (aby.mp (ac3 x)),keyOf:=fun v=>@dite _ (∃ l,NumsAt h v l) (Classical.propDecidable _) (fun q=>some (Classical.choose q)) fun _=>none,dflt:=[] }
theorem dc {h:Heap}{v:Value}{l:List Int}(a:NumsAt h v l):(eQ h).keyOf v=some l:=by
 have q:∃ l,NumsAt h v l:=⟨l,a⟩;show @dite _ _ (Classical.propDecidable _) _ _=_;rw [dif_pos q,(acB q).one a]
theorem ji {h:Heap}{v:Value}{l:List Int}(e:(eQ h).keyOf v=some l):NumsAt h v l:=by
 by_cases q:∃ l,NumsAt h v l
 ·obtain⟨l',a⟩:=q;rw [dc a] at e;cases e;exact a
 ·have e:@dite _ (∃ l,NumsAt h v l) (Classical.propDecidable _) (fun q=>some (Classical.choose q)) (fun _=>none)=some l:=e;rw [dif_neg q] at e;cases e
theorem jn {prog:Program}{w:World}{A:Around}{s:Shared}(hu:A.units < cLine):TS.LtAt prog w A s (eQ s.heap) oneType':=by
 intro E x y a b Q hx hy q;obtain⟨p,os,rfl,hl,nl,hz⟩:=ji hx;obtain⟨p',os',rfl,hl',nl',hz'⟩:=ji hy;have num:∀ {l:List Int} {os:List Value},os.length=l.length->(∀ (j:Nat) z,l[j]? = some z->∃ tk,os[j]? = some (.int z tk))->∀ j (hj:j < os.toArray.size),∃ (z:Int) (tk:Tok),l[j]? = some z/\os.toArray[j]=.int z tk:=fun {l os} nl hz j hj=>by
  have hj':j < os.length:=by simpa using hj
  obtain⟨tk,e⟩:=hz j l[j] (zG _);refine⟨l[j],tk,zG _,?_⟩;rw [zG hj'] at e;simpa using e
 have sz:os.toArray.size=a.length:=by simp;lia
 have sz':os'.toArray.size=b.length:=by simp;lia
 refine ox (e:=fun j=>decide (a[j]? = b[j]?)) (f:=fun j=>decide ((a[j]?).getD 0 < (b[j]?).getD 0)) hl hl' hu (fun j h1 h2=>?_) (fun j h1 h2 _=>?_) ?_
 ·obtain⟨z,tk,q1,q2⟩:=num nl hz j h1;obtain⟨z',tk',q1',q2'⟩:=num nl' hz' j h2;rw [q2,q2'];have:=SeqAt.EqAt.int_int (A:=A.in1) (s:=s) z tk z' tk';simp only [q1,q1'];rw [show decide (some z=some z')=(z == z') by
   by_cases y:z=z'<;>simp [y]]
  exact this
 ·obtain⟨z,tk,q1,q2⟩:=num nl hz j h1;obtain⟨z',tk',q1',q2'⟩:=num nl' hz' j h2;rw [q2,q2'];intro prog w E Q hq;simp only [q1,q1',aeG] at hq;exact lt_int hq
 ·rw [sz,sz',rX a b 0 (fun j x y e1 e2=>by
   rw [acV];simp only [e1,e2];exact acj.mpr ⟨fun z=>by cases z;rfl,fun z=>by rw [z]⟩) (fun j x y e1 e2=>by rw [acV];simp only [e1,e2,aeG]) Iff.rfl]
  exact q
section
variable {prog:Program}{w:World}{A:Around}{E:Value->Shared->Prop}{s:Shared}
theorem qQ {a:Addr}{vs:List Value}{n:Nat}{R:PySem.Fin->Shared->Prop}(ho:s.heap.get? a=some (seqObj "list" vs.toArray n))(h2:2<=vs.length)(hz:vs.length<=sizeLine)(hu:A.units < cLine)
 (hT:∀ v∈vs,(∃ b,v=.ref b/\b≠a)/\∃ l,NumsAt s.heap v l)
 (h:∀ (h':Heap) (vs':List Value),(∀ v∈vs,∀ l,NumsAt s.heap v l->NumsAt h' v l)->vs'.Perm vs->vs'.Pairwise (fun x y=>∀ l l',NumsAt s.heap x l->NumsAt s.heap y l'->¬ l' < l)->R (.done (.ret .none)) { s with heap:=sortedHeap s.heap a vs vs'.toArray }):wpAny (model prog w) A (Builtin.«list.sort» ⟨[.ref a],[]⟩) R E s:=by
 have la:a < s.heap.objs.size:=zN ho;have sv:vs.toArray.size=vs.length:=z5 ..;obtain⟨e1,he1⟩:∃ e,(s.heap.update a (Obj.mapSeq fun _=>#[])).get? a=some (seqObj "list" #[] e):=⟨_,get?_update_seq ho (fun _=>#[])⟩;have he2:(((s.heap.update a (Obj.mapSeq fun _=>#[])).push (seqObj "tuple" vs.toArray 0)).push (seqObj "list" #[] 0)).get? a=some (seqObj "list" #[] e1):=by
  rw [abe _ _ _ (by rw [acD,abl];exact zY (zX la (aa6 _))),abe _ _ _ (by rw [abl];exact zY la)];exact he1
 have keep:∀ b o,b≠a->s.heap.get? b=some o->(((s.heap.update a (Obj.mapSeq fun _=>#[])).push (seqObj "tuple" vs.toArray 0)).push (seqObj "list" #[] 0)).get? b=some o:=fun b o nb e=>by
  refine zK _ (zK _ ?_);rw [acN _ _ _ _ nb];exact e
 have kn:∀ v∈vs,∀ l,NumsAt s.heap v l->NumsAt (((s.heap.update a (Obj.mapSeq fun _=>#[])).push (seqObj "tuple" vs.toArray 0)).push (seqObj "list" #[] 0)) v l:=fun v hv l q=>by
  obtain⟨⟨b,rfl,nb⟩,_⟩:=hT v hv;obtain⟨b',os,e,⟨o,ho,hc,n,hd⟩,x1,x2⟩:=q;cases e;exact⟨b,os,rfl,⟨o,keep _ _ nb ho,hc,n,hd⟩,x1,x2⟩
 rw [adZ];refine zF (acU ho rfl (zF (acb ho rfl ?_ (by rw [sv];exact hz) (zZ _))));refine zF (acM he1 rfl (zF (acH (zF (abB (aal ?_) (zZ _))) (by show vs.length<=_;exact hz))));have nb:¬ vs.toArray.size < 2:=by rw [sv];lia
 show wpAny (model prog w) A _ R E { s with heap:=((s.heap.update a (Obj.mapSeq fun _=>#[])).push (seqObj "tuple" vs.toArray 0)).push (seqObj "list" #[] 0) };dsimp only;rw [if_neg nb,if_neg nb];refine zF (kas_kind h2 (T:=.type "list") (fun v hv=>?_) (by decide +kernel) (by decide +kernel) ?_)
 ·obtain⟨⟨b,rfl,nb⟩,l,b',os,e,⟨o,ho,hc,_⟩,_⟩:=hT v hv;cases e;exact kitAt_ty _ _ ⟨o,keep _ _ nb ho,hc⟩
 generalize hs1:(((s.heap.update a (Obj.mapSeq fun _=>#[])).push (seqObj "tuple" vs.toArray 0)).push (seqObj "list" #[] 0))=h1 at *;have vaof:∀ p∈(pairsOf vs).toList,p.1=p.2/\p.2∈vs:=fun p hp=>by
  unfold pairsOf at hp;rw [adJ] at hp;have e:p.1=p.2:=by
   obtain⟨i,hi,rfl⟩:=ace hp;rw [List.getElem_zip]
  exact⟨e,(abV (a:=p.1) (b:=p.2) hp).2⟩
 have go:wpAny (model prog w) A (sortRuns'.run (SortSt.mk' oneType' (vs.toArray.zip vs.toArray) #[] 7 none))
  (fun r s'=>s'={ s with heap:=h1 }/\(arrOf r.2).Perm (pairsOf vs)/\failedOf r.2=none/\TS.SL (eQ h1) (arrOf r.2).toList) E { s with heap:=h1 } :=
  TS.wpS_sortAll (κ:=eQ h1) (jn (s:={ s with heap:=h1 }) hu) (a₀:=pairsOf vs) (Q:=fun _ st'=>(arrOf st').Perm (pairsOf vs)/\failedOf st'=none/\TS.SL (eQ h1) (arrOf st').toList) (fun p hp=>by
   obtain⟨e,m⟩:=vaof p hp;obtain⟨_,l,q⟩:=hT _ m;exact⟨l,by rw [e];exact dc (kn _ m l q)⟩) rfl rfl (ad1 _) rfl fun st' b1 b2 b3=>⟨b1,b2,b3⟩
 refine zF (aaV go ?_ fun _ _ e=>e);rintro⟨⟨⟩,st'⟩ s' ⟨rfl,b1,b2,b3⟩;have sz:(arrOf st').size=vs.length:=b1.size_eq.trans (pairsOf_size _);refine zF (acM he2 rfl (zF (acb he2 rfl ?_ (zZ _) (by rw [afn,sz];lia))));dsimp only;rw [b2];simp only [abz,aaf,abq];have pm:=abf.mp b1;have e2:((pairsOf vs).toList.map (·.2))=vs:=by
  unfold pairsOf;rw [adJ];exact List.map_snd_zip (by simp)
 have:=h h1 (((arrOf st').map (·.2)).toList) kn (by
  rw [adK];exact e2▸pm.map (·.2)) (by
  rw [adK,aep];refine aeq (fun {p q} hp hq z l l' n1 n2=>?_) b3;obtain⟨x1,y1⟩:=vaof p (pm.mem_iff.mp hp);obtain⟨x2,y2⟩:=vaof q (pm.mem_iff.mp hq);have z:(eQ h1).blt (TS.kk _ q) (TS.kk _ p)=false:=z;unfold TS.kk at z;rw [x1,x2,dc (kn _ y1 _ n1),dc (kn _ y2 _ n2)] at z;exact ac3 z)
 rw [abR] at this;subst hs1;exact zM this
theorem sorted_nums {l:Addr}{vs:List Value}{Q:Value->Shared->Prop}(hl:s.heap.IsList l vs.toArray)(hz:vs.length<=sizeLine)(hu:A.units+2 < cLine)
 (hT:∀ v∈vs,∃ l,NumsAt s.heap v l)
 (h:∀ vs':List Value,vs'.Perm vs->vs'.Pairwise (fun x y=>∀ l l',NumsAt s.heap x l->NumsAt s.heap y l'->¬ l' < l)->Q (.ref (s.heap.objs.size+1)) { s with heap:=sortedAll s.heap vs vs'.toArray }):wpAny (model prog w) A (call (.builtin "sorted") [.ref l]) Q E s:=by
 by_cases h2:2<=vs.length
 ·refine aba ads acR acS (acT _) ?_;have s1:((s.heap.push (seqObj "list" #[] 0)).update s.heap.objs.size (Obj.mapSeq (·++vs.toArray))).objs.size=s.heap.objs.size+1:=by
   rw [abl,acD]
  have g1:(((s.heap.push (seqObj "list" #[] 0)).update s.heap.objs.size (Obj.mapSeq (·++vs.toArray))).push (seqObj "list" vs.toArray 0)).get? (s.heap.objs.size+1)=some (seqObj "list" vs.toArray 0):=by
   rw [← s1];exact zW _ rfl
  have keep:∀ b o,s.heap.get? b=some o->(((s.heap.push (seqObj "list" #[] 0)).update s.heap.objs.size (Obj.mapSeq (·++vs.toArray))).push (seqObj "list" vs.toArray 0)).get? b=some o:=fun b o q=>by
   have hlt:b < s.heap.objs.size:=zN q;rw [abe _ _ _ (by rw [s1];exact zY (aaM hlt)),acN _ _ _ _ (zY hlt),abe _ _ _ (zY hlt)];exact q
  have kn:∀ v l,NumsAt s.heap v l->NumsAt (((s.heap.push (seqObj "list" #[] 0)).update s.heap.objs.size (Obj.mapSeq (·++vs.toArray))).push (seqObj "list" vs.toArray 0)) v l:=fun v l ⟨b,os,e,⟨o,ho,x⟩,y⟩=>⟨b,os,e,⟨o,keep _ _ ho,x⟩,y⟩;unfold Builtin.«sorted»;refine zF (m:=checkCount "sorted" 1 1 _) (zM (zF (collect_list hl (zF (abB ?_ hz)) hz)));show wpAny _ _ _ _ _ { s with heap:=((s.heap.push (seqObj "list" #[] 0)).update s.heap.objs.size (Obj.mapSeq (·++vs.toArray))).push (seqObj "list" vs.toArray 0) };rw [s1];refine zF (aal (aaX acm ⟨_,g1,rfl⟩ ab2 (qQ g1 h2 hz (by show A.units+2 < cLine;exact hu) (fun v hv=>?_) (fun _ vs' _ p1 p2=>⟨_,rfl,zM ⟨_,rfl,h vs' p1 (p2.imp fun {x y} z l l' a b=>z l l' (kn _ _ a) (kn _ _ b))⟩⟩)) (acn _)));obtain⟨l',q⟩:=hT v hv;have q0:=q;obtain⟨b,os,e,⟨o,ho,_⟩,_⟩:=q;exact⟨⟨b,e,zY (aaM (zN ho))⟩,l',kn _ _ q0⟩
 ·refine kf hl (by lia) (h vs (.refl _) ?_)
  match vs,h2 with
  | [],_=>exact .nil
  | [v],_=>exact aeE _ _
  | _::_::_,h2=>exact absurd (Nat.le_add_left 2 _) h2
end
end LL
namespace L2
open PySem PySem.Spec PyProof.Rows
def iu (H:Hp):V->List Int
 | .ref a=>match H a with
  | some (.lst xs)=>xs.map fun x=>match x with | .int z=>z | _=>0
  | _=>[]
 | _=>[]
theorem gW {H:Hp}{a:Addr}{ns:List Int}(e:H a=some (.lst (ns.map V.int))):iu H (.ref a)=ns:=by
 unfold iu;dsimp only;rw [e];show (ns.map V.int).map _=ns;rw [aa3];exact afv _
theorem Vals.perm':∀ {us us':List Value} {vs:List V},us.Perm us'->Vals vs us->∃ vs',vs'.Perm vs/\Vals vs' us':=by
 intro us us' vs p
 induction p generalizing vs with
 | nil=>exact fun r=>⟨vs,.refl _,r⟩
 | cons x _ ih =>
  rintro (_ | ⟨r,t⟩);obtain⟨vs',a,b⟩:=ih t;exact⟨_,a.cons _,.cons r b⟩
 | swap x y l =>
  rintro (_ | ⟨r,_ | ⟨q,t⟩⟩);exact⟨_,.swap _ _ _,.cons q (.cons r t)⟩
 | trans _ _ i1 i2 =>
  intro r;obtain⟨v1,a1,b1⟩:=i1 r;obtain⟨v2,a2,b2⟩:=i2 b1;exact⟨v2,a2.trans a1,b2⟩
section
variable {X:Cx}
theorem ly:d8 X (.builtin "sorted") (fun xs H Q=>∃ (p:Addr) (vs:List V),xs=[.ref p]/\SqL X.K H p vs/\vs.length<=sizeLine/\X.A.units+4 < cLine/\(∀ v∈vs,∃ (a:Addr) (ns:List Int),v=.ref a/\H a=some (.lst (ns.map V.int)))/\∀ (l:Addr) (vs':List V),H l=none->vs'.Perm vs->(vs'.map (iu H)).Pairwise (fun a b=>¬ b < a)->Q (.ref l) (upd H l (.lst vs'))):=by
 intro pins s σ H xs us Q I r h;obtain⟨p,vs,rfl,hq,hz',hu,hat,q⟩:=h;obtain⟨u,rfl,rx⟩:=gT r;cases rx;obtain⟨its,rv,pl,hz⟩:=I.list hq;have nl:=rv.length;have item:∀ {v u},RelV v u->v∈vs->LL.NumsAt s.heap u (iu H v):=fun {v u} rv hv=>by
  obtain⟨a,ns,rfl,ha⟩:=hat v hv;cases rv;rw [gW ha];obtain⟨os,ro,po,_⟩:=I.list (aAA ha);have nl2:=ro.length;rw [zL] at nl2;refine⟨a,os,rfl,po.isList,nl2.symm,fun j z e=>?_⟩;obtain⟨u,hu,tk,rfl⟩:=ro.get (i:=j) (x:=.int z) (by rw [zT,e];rfl);exact⟨tk,hu⟩
 refine LL.sorted_nums pl.isList (by lia) (by show X.A.units+2 < _;lia) (fun v hv=>?_) fun vs' p1 p2=>?_
 ·obtain⟨i,hi,ei⟩:=ace hv;obtain⟨u,hu,ru⟩:=rv.get (zG (show i < vs.length by lia));rw [zG hi,ei] at hu;cases hu;exact⟨_,item ru (aak _)⟩
 obtain⟨e,he⟩:=sortedAll_at s.heap its vs'.toArray;obtain⟨ws,w1,w2⟩:=Vals.perm' p1.symm rv;have wl:=w1.length_eq;refine⟨.ref (s.heap.objs.size+1),_,I.laid (t':=s.toks) (o:=.lst ws) (fun b o e=>sortedAll_old e) (aa6 _) ⟨by lia,vs',e,w2,by simpa using he⟩,rfl,q _ ws (I.hok.fresh (aa6 _)) w1 ?_⟩;rw [aaU];intro i j hi hj hij;rw [zL] at hi hj;obtain⟨u1,g1,r1⟩:=w2.get (zG hi);obtain⟨u2,g2,r2⟩:=w2.get (zG hj);obtain⟨k1,g1⟩:=zJ.mp g1;obtain⟨k2,g2⟩:=zJ.mp g2;rw [adL,adL];have:=aaU.mp p2 i j k1 k2 hij;rw [g1,g2] at this;exact this _ _ (item r1 (w1.mem_iff.mp (aak _))) (item r2 (w1.mem_iff.mp (aak _)))
end
end L2
namespace LL
open PySem PySem.SeqAt PySem.W PyProof.Rows
theorem gY {h:Heap}:∀ (os:List Value) (l:List Int),os.length=l.length->(∀ (j:Nat) z,l[j]? = some z->∃ tk,os[j]? = some (.int z tk))->ReadsAll h os (l.map PyData.int) []
 | [],[],_,_=>.nil
 | [],_::_,e,_=>absurd e (by simp)
 | _::_,[],e,_=>absurd e (by simp)
 | o::os,z::l,e,hx=>by
  obtain⟨tk,e0⟩:=hx 0 z rfl;cases e0;exact .cons (as:=[]) (bs:=[]) (.int z tk) (gY os l (by simpa using e) fun j y q=>hx (j+1) y q)
theorem NumsAt.reads {h:Heap}{v:Value}{l:List Int}(a:NumsAt h v l):∃ as,Reads h v (.list (l.map PyData.int)) as:=by
 obtain⟨b,os,rfl,⟨o,ho,hc,n,hd⟩,nl,hx⟩:=a;exact⟨_,.list ho hc hd (gY os l nl hx)⟩
def lexP (a b:List Int×Str):Bool:=if a.1=b.1 then decide (a.2.cps.toList < b.2.cps.toList) else decide (a.1 < b.1)
def PairAt (h:Heap)(v:Value)(p:List Int×Str):Prop:=∃ (b:Addr) (x:Value) (tk:Tok),v=.ref b/\h.IsTuple b #[x,.str p.2 tk]/\NumsAt h x p.1
theorem PairAt.one {h:Heap}{v:Value}{p q:List Int×Str}(a:PairAt h v p)(b:PairAt h v q):p=q:=by
 obtain⟨b1,x,tk,rfl,⟨o,ho,hc,n,hd⟩,hx⟩:=a;obtain⟨b2,x',tk',e,⟨o',ho',hc',n',hd'⟩,hx'⟩:=b;cases e;rw [ho] at ho';cases ho';rw [hd] at hd';injection hd' with e1 e2
 have e3:=aaG Array.toList e1;simp only [acC,and_true] at e3;obtain⟨e4,e5⟩:=e3;injection e5 with e5 _
 subst e4;exact Prod.ext (hx.one hx') e5
theorem ui (a:List Int×Str):lexP a a=false:=by
 unfold lexP;rw [if_pos rfl];exact aah (aeh _)
theorem lexP_lt {a b:List Int×Str}:lexP a b=true↔a.1 < b.1\/a.1=b.1/\a.2.cps.toList < b.2.cps.toList:=by
 unfold lexP;split
 ·rename_i e;rw [ac9,e];exact⟨fun h=>.inr ⟨rfl,h⟩,fun h=>h.elim (fun z=>absurd z (aeh _)) (·.2)⟩
 ·rename_i e;rw [ac9];exact⟨.inl,fun h=>h.elim id fun z=>absurd z.1 e⟩
theorem qk (a b c:List Int×Str)(x:lexP a b=true)(y:lexP b c=true):lexP a c=true:=by
 rw [lexP_lt] at x y ⊢;rcases x with x | ⟨x,x'⟩<;>rcases y with y | ⟨y,y'⟩
 ·exact .inl (aeD x y)
 ·exact .inl (y▸x)
 ·exact .inl (x▸y)
 ·exact .inr ⟨x.trans y,aeD x' y'⟩
theorem ua (a b c:List Int×Str)(x:lexP a c=true):lexP a b=true\/lexP b c=true:=by
 rw [lexP_lt,lexP_lt];rw [lexP_lt] at x;by_cases h1:a.1 < b.1
 ·exact .inl (.inl h1)
 by_cases h2:b.1 < a.1
 ·refine .inr (.inl ?_);rcases x with x | ⟨x,_⟩
  ·exact aeD h2 x
  ·exact x▸h2
 have e:a.1=b.1:=ach (aby.mp h2) (aby.mp h1);rcases x with x | ⟨x,x'⟩
 ·exact .inr (.inl (e▸x))
 ·by_cases q:a.2.cps.toList < b.2.cps.toList
  ·exact .inl (.inr ⟨e,q⟩)
  ·exact .inr (.inr ⟨e▸x,List.lt_of_le_of_lt (aby.mp q) x'⟩)
theorem lexP_tot (a b:List Int×Str)(x:lexP a b=false)(y:lexP b a=false):a=b:=by
 have x:¬ lexP a b=true:=by rw [x];exact zO
 have y:¬ lexP b a=true:=by rw [y];exact zO
 rw [lexP_lt] at x y;have e:a.1=b.1:=ach (aby.mp fun h=>y (.inl h)) (aby.mp fun h=>x (.inl h));have e2:a.2.cps.toList=b.2.cps.toList:=ach (aby.mp fun h=>y (.inr ⟨e.symm,h⟩)) (aby.mp fun h=>x (.inr ⟨e,h⟩));refine Prod.ext e ?_;cases ha:a.2 with
 | mk p =>
  cases hb:b.2 with
  | mk q =>
   rw [ha,hb] at e2;exact aaG Str.mk (Array.toList_inj.mp e2)
noncomputable abbrev eU (h:Heap):KeyKind:={ α:=List Int×Str,blt:=lexP,irrefl:=ui,trans:=qk,negTrans:=ua,total:=lexP_tot,keyOf:=fun v=>@dite _ (∃ l,PairAt h v l) (Classical.propDecidable _) (fun q=>some (Classical.choose q)) fun _=>none,dflt:=([],"") }
theorem eN {h:Heap}{v:Value}{l:List Int×Str}(a:PairAt h v l):(eU h).keyOf v=some l:=by
 have q:∃ l,PairAt h v l:=⟨l,a⟩;show @dite _ _ (Classical.propDecidable _) _ _=_;rw [dif_pos q,(acB q).one a]
theorem jk {h:Heap}{v:Value}{l:List Int×Str}(e:(eU h).keyOf v=some l):PairAt h v l:=by
 by_cases q:∃ l,PairAt h v l
 ·obtain⟨l',a⟩:=q;rw [eN a] at e;cases e;exact a
 ·have e:@dite _ (∃ l,PairAt h v l) (Classical.propDecidable _) (fun q=>some (Classical.choose q)) (fun _=>none)=some l:=e;rw [dif_neg q] at e;cases e
theorem lF (b:Bool)(x y:Value):keyLt' (tuples' b) x y=(do
 let xs ← Builtin.List.listItems x;let ys ← Builtin.List.listItems y
 for ((p,q),i) in (xs.toList.zip ys.toList).zipIdx do
  if !(← eqBool p q) then return ← oneLt' (b && i == 0) p q
 return xs.size < ys.size):=rfl
theorem nI {prog:Program}{w:World}{A:Around}{s:Shared}(hu:A.units+1 < cLine):TS.LtAt prog w A s (eU s.heap) (tuples' true):=by
 intro E x y a b Q hx hy q;obtain⟨p,u,tk,rfl,⟨o,ho,hc,n,hd⟩,nu⟩:=jk hx;obtain⟨p',u',tk',rfl,⟨o',ho',hc',n',hd'⟩,nu'⟩:=jk hy;rw [lF];refine zF (acU ho hd (zF (acU ho' hd' ?_)));have ez:((#[u,Value.str a.2 tk].toList.zip #[u',Value.str b.2 tk'].toList).zipIdx)=[((u,u'),0),((Value.str a.2 tk,Value.str b.2 tk'),1)]:=rfl;rw [ez];obtain⟨as,ra⟩:=nu.reads;obtain⟨bs,rb⟩:=nu'.reads;have lay:∀ l:List Int,PyData.canLayAll0 (l.map PyData.int)=true:=fun l=>by
  induction l with
  | nil=>rfl
  | cons z l ih=>rw [z4];simp only [PyData.canLayAll0,PyData.canLay0,ada];exact ih
 have dep:∀ l:List Int,PyData.depthAll (l.map PyData.int)=0:=fun l=>by
  induction l with
  | nil=>rfl
  | cons z l ih=>rw [z4];simp only [PyData.depthAll,PyData.depth,ih];rfl
 have eqv:∀ l m:List Int,PyData.eqvAll (l.map PyData.int) (m.map PyData.int)=decide (l=m):=fun l=>by
  induction l with
  | nil=>intro m;cases m<;>simp [PyData.eqvAll]
  | cons z l ih=>intro m;cases m with
   | nil=>simp [PyData.eqvAll]
   | cons y m =>
    simp only [z4,PyData.eqvAll,PyData.eqv,ih,acC];by_cases e:z=y<;>simp [e]
 rw [abY];refine zF (zF (zF (eqAt_reads _ _ A s u u' as bs ra rb (by simp only [PyData.canLay0,lay]) (by simp only [PyData.canLay0,lay]) ?_ prog w _ _ ?_)))
 ·have d:(PyData.list (a.1.map PyData.int)).depth<=1:=by simp only [PyData.depth,dep];decide
  exact aaj (aaE (aas (ac8 _ _) d) _) hu
 simp only [PyData.eqv,eqv];by_cases e:a.1=b.1
 ·have q:Q (decide (a.2.cps.toList < b.2.cps.toList)) s:=by
   have q:Q (lexP a b) s:=q;unfold lexP at q
   rwa [if_pos e] at q
  rw [aaw e];refine zM ?_;show wpAny _ _ (forIn [((Value.str a.2 tk,Value.str b.2 tk'),1)] _ _) _ _ _;rw [abY];refine zF (zF (SeqAt.EqAt.str_str a.2 tk b.2 tk' prog w _ _ ?_));by_cases e2:a.2=b.2
  ·rw [show (a.2 == b.2)=true by rw [e2];exact abN _];refine zM ?_;show wpAny _ _ (forIn [] _ _) _ _ _;rw [adz];refine zM (zM ?_);rw [e2,aah (aeh _)] at q;exact q
  ·rw [show (a.2 == b.2)=false by rw [ab4];exact e2];show wpAny _ _ (do
    let r ← oneLt' false (Value.str a.2 tk) (Value.str b.2 tk')
    pure (ForInStep.done (some r,()))) _ _ _
   rw [oneLt'_eq];refine zF ?_;simp only [aaf,abq];refine zF (lt_str ?_);refine abd ?_;exact zM (zM (zM q))
 ·have q:Q (decide (a.1 < b.1)) s:=by
   have q:Q (lexP a b) s:=q;unfold lexP at q
   rwa [if_neg e] at q
  rw [aah e];show wpAny _ _ (do
   let r ← oneLt' true u u'
   pure (ForInStep.done (some r,()))) _ _ _
  refine zF ?_;rw [← keyLt'_oneType];exact jn (Nat.lt_of_succ_lt hu) _ u u' a.1 b.1 (dc nu) (dc nu') (zM (zM (zM q)))
def wB (a:Addr)(h:Heap)(v:Value)(l:List Int×Str):Prop:=∃ (b:Addr) (x:Value) (tk:Tok) (c:Addr),v=.ref b/\b≠a/\x=.ref c/\c≠a/\h.IsTuple b #[x,.str l.2 tk]/\NumsAt h x l.1
section
variable {prog:Program}{w:World}{A:Around}{E:Value->Shared->Prop}{s:Shared}
theorem oj {M:Model}{α β:Type}{f:α->Sem β}{g:α->β}:∀ (l:List α) {Q:List β->Shared->Prop},(∀ v∈l,∀ (Q':β->Shared->Prop),Q' (g v) s->wpAny M A (f v) Q' E s)->Q (l.map g) s->wpAny M A (l.mapM f) Q E s
 | [],_,_,h=>by rw [List.mapM_nil];exact zM h
 | x::l,Q,hf,h=>by
  rw [List.mapM_cons];exact zF (hf x (.head _) _ (zF (oj l (Q:=fun bs s'=>wpAny M A (pure (g x::bs)) Q E s') (fun v hv=>hf v (.tail _ hv)) (zM h))))
def kW (h:Heap):Value->Value
 | .ref b=>match h.get? b with
  | some o=>match o.data with
   | .seq xs _=>xs[0]?.getD .none
   | _=>.none
  | none=>.none
 | _=>.none
theorem sx {M:Model}{vs:List Value}{Q:SortKind->Shared->Prop}(h2:2<=vs.length)(hT:∀ v∈vs,∃ l,PairAt s.heap v l)(h:Q (tuples' true) s):wpAny M A (keyKind' vs.toArray) Q E s:=by
 rw [keyKind'_eq,List.mapM_toArray,map_eq_pure_bind];refine zF (zF (oj (g:=fun v=>some (kW s.heap v)) _ (fun v hv Q' hq=>?_) (zM ?_)))
 ·obtain⟨l,b,x,tk,rfl,⟨o,ho,hc,n,hd⟩,_⟩:=hT v hv;rw [kas_first_eq];refine zF ((kitAt_ty (T := "tuple") M s.heap ⟨o,ho,hc⟩).here ?_);rw [if_neg (by decide)];refine zF (acU ho hd (zM ?_));have:kW s.heap (.ref b)=x:=by
   unfold kW;simp only [ho,hd]
   rfl
  rw [this] at hq;exact hq
 ·rw [if_pos (by simp)];refine zF (abJ ?_);rw [oneTypeOnly'_eq];have e1:Array.filterMap id (List.map (fun v=>some (kW s.heap v)) vs).toArray=(vs.map (kW s.heap)).toArray:=by simp
  rw [e1,List.mapM_toArray,map_eq_pure_bind];refine zF (zF (zF (oj (g:=fun _=>Value.type "list") _ (fun v hv Q' hq=>?_) (zM ?_))))
  ·obtain⟨v',hv',rfl⟩:=aaJ.mp hv;obtain⟨l,b,x,tk,rfl,⟨o,ho,hc,n,hd⟩,⟨c,os,e2,⟨o2,ho2,hc2,_⟩,_⟩⟩:=hT v' hv';have:kW s.heap (.ref b)=x:=by
    unfold kW;simp only [ho,hd]
    rfl
   rw [this,e2];exact (kitAt_ty (T := "list") M s.heap ⟨o2,ho2,hc2⟩).here hq
  ·obtain⟨v0,rest,rfl⟩:∃ v0 rest,vs=v0::rest:=by
    cases vs with
    | nil=>exact absurd h2 (by simp)
    | cons a r=>exact⟨a,r,rfl⟩
   have hall:((List.map (fun _=>Value.type "list") (List.map (kW s.heap) (v0::rest))).toArray.all fun x=>x == Value.type "list")=true:=by
    simp only [List.all_toArray,af9,adE];intro _ _
    rfl
   have h0:(List.map (fun _=>Value.type "list") (List.map (kW s.heap) (v0::rest))).toArray[0]? = some (Value.type "list"):=by simp
   rw [h0];simp only [hall,acK];refine zM (zM ?_);exact h
theorem qi {a:Addr}{vs:List Value}{n:Nat}{R:PySem.Fin->Shared->Prop}(ho:s.heap.get? a=some (seqObj "list" vs.toArray n))(h2:2<=vs.length)(hz:vs.length<=sizeLine)(hu:A.units+1 < cLine)
 (hT:∀ v∈vs,(∃ l,PairAt s.heap v l)/\∀ l,PairAt s.heap v l->wB a s.heap v l)
 (h:∀ (h':Heap) (vs':List Value),(∀ v∈vs,∀ l,PairAt s.heap v l->PairAt h' v l)->vs'.Perm vs->vs'.Pairwise (fun x y=>∀ l l',PairAt s.heap x l->PairAt s.heap y l'->lexP l' l=false)->R (.done (.ret .none)) { s with heap:=sortedHeap s.heap a vs vs'.toArray }):wpAny (model prog w) A (Builtin.«list.sort» ⟨[.ref a],[]⟩) R E s:=by
 have la:a < s.heap.objs.size:=zN ho;have sv:vs.toArray.size=vs.length:=z5 ..;obtain⟨e1,he1⟩:∃ e,(s.heap.update a (Obj.mapSeq fun _=>#[])).get? a=some (seqObj "list" #[] e):=⟨_,get?_update_seq ho (fun _=>#[])⟩;have he2:(((s.heap.update a (Obj.mapSeq fun _=>#[])).push (seqObj "tuple" vs.toArray 0)).push (seqObj "list" #[] 0)).get? a=some (seqObj "list" #[] e1):=by
  rw [abe _ _ _ (by rw [acD,abl];exact zY (zX la (aa6 _))),abe _ _ _ (by rw [abl];exact zY la)];exact he1
 have keep:∀ b o,b≠a->s.heap.get? b=some o->(((s.heap.update a (Obj.mapSeq fun _=>#[])).push (seqObj "tuple" vs.toArray 0)).push (seqObj "list" #[] 0)).get? b=some o:=fun b o nb e=>by
  refine zK _ (zK _ ?_);rw [acN _ _ _ _ nb];exact e
 have kn:∀ v∈vs,∀ l,PairAt s.heap v l->PairAt (((s.heap.update a (Obj.mapSeq fun _=>#[])).push (seqObj "tuple" vs.toArray 0)).push (seqObj "list" #[] 0)) v l:=fun v hv l q=>by
  obtain⟨b,x,tk,c,rfl,nb,rfl,nc,⟨o,ho,hc,n,hd⟩,⟨c',os,e,⟨o2,ho2,x1⟩,x2⟩⟩:=(hT v hv).2 l q;cases e;exact⟨b,.ref c,tk,rfl,⟨o,keep _ _ nb ho,hc,n,hd⟩,⟨c,os,rfl,⟨o2,keep _ _ nc ho2,x1⟩,x2⟩⟩
 rw [adZ];refine zF (acU ho rfl (zF (acb ho rfl ?_ (by rw [sv];exact hz) (zZ _))));refine zF (acM he1 rfl (zF (acH (zF (abB (aal ?_) (zZ _))) (by show vs.length<=_;exact hz))));have nb:¬ vs.toArray.size < 2:=by rw [sv];lia
 show wpAny (model prog w) A _ R E { s with heap:=((s.heap.update a (Obj.mapSeq fun _=>#[])).push (seqObj "tuple" vs.toArray 0)).push (seqObj "list" #[] 0) };dsimp only;rw [if_neg nb,if_neg nb];refine zF (sx h2 (fun v hv=>?_) ?_)
 ·obtain⟨l,q⟩:=(hT v hv).1;exact⟨l,kn v hv l q⟩
 generalize hs1:(((s.heap.update a (Obj.mapSeq fun _=>#[])).push (seqObj "tuple" vs.toArray 0)).push (seqObj "list" #[] 0))=h1 at *;have vaof:∀ p∈(pairsOf vs).toList,p.1=p.2/\p.2∈vs:=fun p hp=>by
  unfold pairsOf at hp;rw [adJ] at hp;have e:p.1=p.2:=by
   obtain⟨i,hi,rfl⟩:=ace hp;rw [List.getElem_zip]
  exact⟨e,(abV (a:=p.1) (b:=p.2) hp).2⟩
 have go:wpAny (model prog w) A (sortRuns'.run (SortSt.mk' (tuples' true) (vs.toArray.zip vs.toArray) #[] 7 none))
  (fun r s'=>s'={ s with heap:=h1 }/\(arrOf r.2).Perm (pairsOf vs)/\failedOf r.2=none/\TS.SL (eU h1) (arrOf r.2).toList) E { s with heap:=h1 } :=
  TS.wpS_sortAll (κ:=eU h1) (nI (s:={ s with heap:=h1 }) hu) (a₀:=pairsOf vs) (Q:=fun _ st'=>(arrOf st').Perm (pairsOf vs)/\failedOf st'=none/\TS.SL (eU h1) (arrOf st').toList) (fun p hp=>by
   obtain⟨e,m⟩:=vaof p hp;obtain⟨l,q⟩:=(hT _ m).1;exact⟨l,by rw [e];exact eN (kn _ m l q)⟩) rfl rfl (ad1 _) rfl fun st' b1 b2 b3=>⟨b1,b2,b3⟩
 refine zF (aaV go ?_ fun _ _ e=>e);rintro⟨⟨⟩,st'⟩ s' ⟨rfl,b1,b2,b3⟩;have sz:(arrOf st').size=vs.length:=b1.size_eq.trans (pairsOf_size _);refine zF (acM he2 rfl (zF (acb he2 rfl ?_ (zZ _) (by rw [afn,sz];lia))));dsimp only;rw [b2];simp only [abz,aaf,abq];have pm:=abf.mp b1;have e2:((pairsOf vs).toList.map (·.2))=vs:=by
  unfold pairsOf;rw [adJ];exact List.map_snd_zip (by simp)
 have:=h h1 (((arrOf st').map (·.2)).toList) kn (by
  rw [adK];exact e2▸pm.map (·.2)) (by
  rw [adK,aep];refine aeq (fun {p q} hp hq z l l' n1 n2=>?_) b3;obtain⟨x1,y1⟩:=vaof p (pm.mem_iff.mp hp);obtain⟨x2,y2⟩:=vaof q (pm.mem_iff.mp hq);have z:(eU h1).blt (TS.kk _ q) (TS.kk _ p)=false:=z;unfold TS.kk at z;rw [x1,x2,eN (kn _ y1 _ n1),eN (kn _ y2 _ n2)] at z;exact z)
 rw [abR] at this;subst hs1;exact zM this
theorem sorted_pairs {l:Addr}{vs:List Value}{Q:Value->Shared->Prop}(hl:s.heap.IsList l vs.toArray)(hz:vs.length<=sizeLine)(hu:A.units+3 < cLine)
 (hT:∀ v∈vs,∃ l,PairAt s.heap v l)
 (h:∀ vs':List Value,vs'.Perm vs->vs'.Pairwise (fun x y=>∀ l l',PairAt s.heap x l->PairAt s.heap y l'->lexP l' l=false)->Q (.ref (s.heap.objs.size+1)) { s with heap:=sortedAll s.heap vs vs'.toArray }):wpAny (model prog w) A (call (.builtin "sorted") [.ref l]) Q E s:=by
 by_cases h2:2<=vs.length
 ·refine aba ads acR acS (acT _) ?_;have s1:((s.heap.push (seqObj "list" #[] 0)).update s.heap.objs.size (Obj.mapSeq (·++vs.toArray))).objs.size=s.heap.objs.size+1:=by
   rw [abl,acD]
  have g1:(((s.heap.push (seqObj "list" #[] 0)).update s.heap.objs.size (Obj.mapSeq (·++vs.toArray))).push (seqObj "list" vs.toArray 0)).get? (s.heap.objs.size+1)=some (seqObj "list" vs.toArray 0):=by
   rw [← s1];exact zW _ rfl
  have keep:∀ b o,s.heap.get? b=some o->(((s.heap.push (seqObj "list" #[] 0)).update s.heap.objs.size (Obj.mapSeq (·++vs.toArray))).push (seqObj "list" vs.toArray 0)).get? b=some o:=fun b o q=>by
   have hlt:b < s.heap.objs.size:=zN q;rw [abe _ _ _ (by rw [s1];exact zY (aaM hlt)),acN _ _ _ _ (zY hlt),abe _ _ _ (zY hlt)];exact q
  have kn:∀ v l,PairAt s.heap v l->PairAt (((s.heap.push (seqObj "list" #[] 0)).update s.heap.objs.size (Obj.mapSeq (·++vs.toArray))).push (seqObj "list" vs.toArray 0)) v l:=fun v l ⟨b,x,tk,e,⟨o,ho,y⟩,⟨c,os,e2,⟨o2,ho2,y2⟩,z⟩⟩=>⟨b,x,tk,e,⟨o,keep _ _ ho,y⟩,⟨c,os,e2,⟨o2,keep _ _ ho2,y2⟩,z⟩⟩;unfold Builtin.«sorted»;refine zF (m:=checkCount "sorted" 1 1 _) (zM (zF (collect_list hl (zF (abB ?_ hz)) hz)));show wpAny _ _ _ _ _ { s with heap:=((s.heap.push (seqObj "list" #[] 0)).update s.heap.objs.size (Obj.mapSeq (·++vs.toArray))).push (seqObj "list" vs.toArray 0) };rw [s1];refine zF (aal (aaX acm ⟨_,g1,rfl⟩ ab2 (qi g1 h2 hz (by show A.units+3 < cLine;exact hu) (fun v hv=>?_) (fun _ vs' _ p1 p2=>⟨_,rfl,zM ⟨_,rfl,h vs' p1 (p2.imp fun {x y} z l l' a b=>z l l' (kn _ _ a) (kn _ _ b))⟩⟩)) (acn _)));obtain⟨l',q⟩:=hT v hv;refine⟨⟨l',kn _ _ q⟩,fun l2 q2=>?_⟩;have e:=(kn _ _ q).one q2;subst e;obtain⟨b,x,tk,e,⟨o,ho,y⟩,⟨c,os,e2,⟨o2,ho2,y2⟩,z⟩⟩:=q;exact⟨b,x,tk,c,e,zY (aaM (zN ho)),e2,zY (aaM (zN ho2)),⟨o,keep _ _ ho,y⟩,⟨c,os,e2,⟨o2,keep _ _ ho2,y2⟩,z⟩⟩
 ·refine kf hl (by lia) (h vs (.refl _) ?_)
  match vs,h2 with
  | [],_=>exact .nil
  | [v],_=>exact aeE _ _
  | _::_::_,h2=>exact absurd (Nat.le_add_left 2 _) h2
end
end LL
namespace L2
open PySem PySem.Spec PyProof.Rows
def dZ (H:Hp):V->List Int×Str
 | .ref T=>match H T with
  | some (.tup [a,.str k])=>(iu H a,k)
  | _=>([],"")
 | _=>([],"")
theorem je {H:Hp}{T a:Addr}{ns:List Int}{k:Str}(e:H T=some (.tup [.ref a,.str k]))(ea:H a=some (.lst (ns.map V.int))):dZ H (.ref T)=(ns,k):=by
 unfold dZ;simp only [e];rw [gW ea]
section
variable {X:Cx}
theorem gN:d8 X (.builtin "sorted") (fun xs H Q=>∃ (p:Addr) (vs:List V),xs=[.ref p]/\SqL X.K H p vs/\vs.length<=sizeLine/\X.A.units+5 < cLine/\(∀ v∈vs,∃ (T a:Addr) (ns:List Int) (k:Str),v=.ref T/\H T=some (.tup [.ref a,.str k])/\H a=some (.lst (ns.map V.int)))/\∀ (l:Addr) (vs':List V),H l=none->vs'.Perm vs->(vs'.map (dZ H)).Pairwise (fun a b=>LL.lexP b a=false)->Q (.ref l) (upd H l (.lst vs'))):=by
 intro pins s σ H xs us Q I r h;obtain⟨p,vs,rfl,hq,hz',hu,hat,q⟩:=h;obtain⟨u,rfl,rx⟩:=gT r;cases rx;obtain⟨its,rv,pl,hz⟩:=I.list hq;have nl:=rv.length;have item:∀ {v u},RelV v u->v∈vs->LL.PairAt s.heap u (dZ H v):=fun {v u} rv hv=>by
  obtain⟨T,a,ns,k,rfl,hT,ha⟩:=hat v hv;cases rv;rw [je hT ha];obtain⟨os,ro,po,_⟩:=I.list (aAA ha);have nl2:=ro.length;rw [zL] at nl2;obtain⟨ts,rt,pt,_⟩:=I.tuple (aAB hT);cases rt with
  | cons r1 r2 =>
  cases r2 with
  | cons r3 r4 =>
  cases r4;cases r1;obtain⟨tk,rfl⟩:=r3;exact⟨T,.ref a,tk,rfl,pt,a,os,rfl,po.isList,nl2.symm,fun j z e=>by
   obtain⟨u,hu,tk,rfl⟩:=ro.get (i:=j) (x:=.int z) (by rw [zT,e];rfl);exact⟨tk,hu⟩⟩
 refine LL.sorted_pairs pl.isList (by lia) (by show X.A.units+3 < _;lia) (fun v hv=>?_) fun vs' p1 p2=>?_
 ·obtain⟨i,hi,ei⟩:=ace hv;obtain⟨u,hu,ru⟩:=rv.get (zG (show i < vs.length by lia));rw [zG hi,ei] at hu;cases hu;exact⟨_,item ru (aak _)⟩
 obtain⟨e,he⟩:=sortedAll_at s.heap its vs'.toArray;obtain⟨ws,w1,w2⟩:=Vals.perm' p1.symm rv;have wl:=w1.length_eq;refine⟨.ref (s.heap.objs.size+1),_,I.laid (t':=s.toks) (o:=.lst ws) (fun b o e=>sortedAll_old e) (aa6 _) ⟨by lia,vs',e,w2,by simpa using he⟩,rfl,q _ ws (I.hok.fresh (aa6 _)) w1 ?_⟩;rw [aaU];intro i j hi hj hij;rw [zL] at hi hj;obtain⟨u1,g1,r1⟩:=w2.get (zG hi);obtain⟨u2,g2,r2⟩:=w2.get (zG hj);obtain⟨k1,g1⟩:=zJ.mp g1;obtain⟨k2,g2⟩:=zJ.mp g2;rw [adL,adL];have:=aaU.mp p2 i j k1 k2 hij;rw [g1,g2] at this;exact this _ _ (item r1 (w1.mem_iff.mp (aak _))) (item r2 (w1.mem_iff.mp (aak _)))
end
end L2
namespace L2
open PySem PySem.Spec PySem.Calls PyProof.Rows PySem.W
theorem ki {P:Program}{w:World}:∀ {acc:List Value} {kvs:List (Key×Value)} {ss:List Str},kvs.map (·.1)=ss.map Sum.inr->acc.length=kvs.length->(∀ (j:Nat) v,acc[j]? = some v->∃ k x,kvs[j]? = some (k,x)/\(aO P w).is k v=true)->StrsAre acc ss
 | [],[],[],_,_,_=>.nil
 | [],[],_::_,h,_,_=>by simp at h
 | _::_,[],_,_,h,_=>by simp at h
 | [],_::_,_,_,h,_=>by simp at h
 | _::_,_::_,[],h,_,_=>by simp at h
 | v::acc,(k,x)::kvs,s::ss,h,hl,hp=>by
  rw [z4,z4] at h;injection h with h1 h2
  obtain⟨k',x',e,hk⟩:=hp 0 v rfl;cases e;have hk1:k=Sum.inr s:=h1;subst hk1;have:=ki (P:=P) (w:=w) h2 (by simpa using hl) fun j u e=>hp (j+1) u e;obtain⟨t,rfl⟩:∃ t,v=.str s t:=oQ hk;exact .cons _ t this
section
variable {prog:Program}{w:World}{A:Around}{E:Value->Shared->Prop}{s:Shared}{a:Addr}
theorem m9 {R:List Value->Shared->Prop}{kvs:List (Key×Value)}{ep:Nat}(hh:A.handled=none)(lo:(a == sysModules)=false)(x:s.heap.DictAt (aO prog w) a kvs ep)(hn:kvs.length<=sizeLine)
 (h:∀ (h':Heap) (tk:Nat) (acc:Array Value),(∀ b o,s.heap.get? b=some o->h'.get? b=some o)->s.heap.objs.size<=h'.objs.size->ItemsOf (fun i v=>∃ k x,kvs[i]? = some (k,x)/\(aO prog w).is k v=true) acc kvs.length->R acc.toList { s with heap:=h',toks:=tk }) :
 wpAny (model prog w) A (collect (.ref a)) R E s:=by
 have hlt:=x.lt_size;unfold collect;refine zF (aee (aaZ adO ?_));rw [aaF acy _];show wpAny _ A.in1 (newList [] >>= fun l=>again (.builtin "list.__iadd__" ⟨[l,.ref a],[]⟩)) _ _ s;refine zF (abm ?_);refine zM ⟨abA abr _,aaZ entry_list_iadd' ?_⟩;rw [aaF abr _];have hS₁:(s.heap.push { cls:=.type "list",data:=.seq ([]:List Value).toArray }).get? s.heap.objs.size=some { cls:=.type "list",data:=.seq #[] }:=zW _ rfl;show wpAny _ A.in1 (Builtin.List.listExtendWith (.ref s.heap.objs.size) (.ref a) (.ref s.heap.objs.size)) _ _ _;have key:=kdl_extend (A:=A) (s:={ s with heap:=s.heap.push { cls:=.type "list",data:=.seq ([]:List Value).toArray } })
  (R:=fun (q:Result) (s':Shared)=>∃ (h':Heap) (tk:Nat) (acc':Array Value) (c':Nat),q=.ok (.ret (.ref s.heap.objs.size))/\s'={ s with heap:=h',toks:=tk } ∧
   (∀ b o,s.heap.get? b=some o->h'.get? b=some o)/\h'.get? s.heap.objs.size=some { cls:=.type "list",dict:=none,data:=.seq acc' c',slots:=#[] }/\ItemsOf (fun i v=>∃ k x,kvs[i]? = some (k,x)/\(aO prog w).is k v=true) acc' kvs.length)
  (kdl_dict (knd:=aO prog w) (kvs:=kvs) (ep:=ep) lo) hh (x.at' fun o e=>zK _ e) s.heap.objs.size (aaz hlt) (aaz hlt) (.ref s.heap.objs.size) 0 hS₁
  (fun h' tk acc' c' hk hS' hacc=>⟨h',tk,acc',c',rfl,rfl,fun b o e=>hk b o (zY (zN e)) (zK _ e),hS',hacc⟩) hn
 refine aaV key (fun fin s' x=>?_) fun e s' x=>?_
 ·cases fin with
  | done f =>
   obtain⟨h',tk,acc',c',e,rfl,hk,hS',hacc⟩:=x;cases e;show wpAny _ A (load s.heap.objs.size >>= _) _ _ _;refine zF (adm hS' ?_);exact zM (h h' tk acc' hk (aan (zN hS')) hacc)
  | again c₁ =>
   refine⟨x.1,acv x.2 fun q s₂ y=>?_⟩;obtain⟨h',tk,acc',c',rfl,rfl,hk,hS',hacc⟩:=y;show wpAny _ A (load s.heap.objs.size >>= _) _ _ _;refine zF (adm hS' ?_);exact zM (h h' tk acc' hk (aan (zN hS')) hacc)
 ·obtain⟨_,_,_,_,e',_⟩:=x;cases e'
theorem n9 {Q:Value->Shared->Prop}{kvs:List (Key×Value)}{ep:Nat}{ss:List Str}(hh:A.handled=none)(lo:(a == sysModules)=false)(x:s.heap.DictAt (aO prog w) a kvs ep)(hs:kvs.map (·.1)=ss.map Sum.inr)(h64:ss.length < 64)
 (h:∀ (h':Heap) (tk:Nat) (l:Addr) (vs:List Value) (ss':List Str) (e:Nat),(∀ b o,s.heap.get? b=some o->h'.get? b=some o)->s.heap.objs.size<=l->h'.get? l=some (seqObj "list" vs.toArray e)->StrsAre vs ss'->ss'.Perm ss->sortedS ss'=true->Q (.ref l) { s with heap:=h',toks:=tk }) :
 wpAny (model prog w) A (call (.builtin "sorted") [.ref a]) Q E s:=by
 refine aba ads acR acS (acT _) ?_;unfold Builtin.«sorted»;refine zF (m:=checkCount "sorted" 1 1 _) (zM ?_);have kl:kvs.length=ss.length:=by simpa using aaG List.length hs
 refine zF (m9 (A:=A.in1) hh lo x (aan (zX (by lia:kvs.length < 64) (by decide))) fun h1 tk acc k1 hsz hacc=>?_);have hl0:acc.toList.length=kvs.length:=by rw [zR];exact hacc.1
 have hS:StrsAre acc.toList ss:=ki hs hl0 fun j v e=>hacc.2 j v (by rw [← aao];exact e);have hl:acc.toList.length < 64:=by lia
 refine zF (abB ?_ (aan (zX hl (by decide))));show wpAny _ _ _ _ _ { s with heap:=h1.push (seqObj "list" acc.toList.toArray 0),toks:=tk };have hoL:(h1.push (seqObj "list" acc.toList.toArray 0)).get? h1.objs.size=some (seqObj "list" acc.toList.toArray 0):=zW _ rfl;refine zF (aal (aaX acm ⟨_,hoL,rfl⟩ ab2 (list_sort_treeK strKind_oneLt hoL hS.keysOf (fun v₁ v₂ rest e=>keyKind_strs (by rw [← e];exact hS)) hl fun st' a1 a2=>⟨_,rfl,?_⟩) (acn _)));obtain⟨ss',b1,b2,b3⟩:=aef hS a1 a2;obtain⟨e,he⟩:=sortedHeap_at (vs:=acc.toList) (out:=(arrOf st').map (·.2)) hoL;refine zM ⟨_,rfl,h _ tk h1.objs.size ((arrOf st').map (·.2)).toList ss' e (fun b o q=>?_) hsz (by rw [abR];exact he) b1 b2 b3⟩;have q1:=k1 _ _ q;rw [sortedHeap_old (zY (zN q1)) (by rw [acD];exact aaM (zN q1))];exact zK _ q1
end
section
variable {X:Cx}
theorem iF (hc:X.calm=true):d8 X (.builtin "sorted") (fun xs H Q=>∃ (a:Addr) (kvs:List (Key×V)) (ss:List Str),xs=[.ref a]/\H a=some (.dK kvs)/\kvs.map (·.1)=ss.map Sum.inr/\ss.length < 64/\∀ (l:Addr) (ss':List Str),H l=none->ss'.Perm ss->sortedS ss'=true->Q (.ref l) (upd H l (.lst (ss'.map V.str)))):=by
 intro pins s σ H xs us Q I r h;obtain⟨a,kvs,ss,rfl,e,hs,hl,q⟩:=h;obtain⟨u,rfl,rx⟩:=gT r;cases rx;obtain⟨z,hd,vs,rel,dd⟩:=i9 I.hok e;obtain⟨ep,da⟩:=dd.dictAt;have hs':vs.map (·.1)=ss.map Sum.inr:=by rw [← rel.keys];exact hs
 refine n9 (I.ok.hd hc) hd da hs' hl fun h' tk l vs ss' ep k hz hg hS hp hso=>?_;refine⟨.ref l,_,I.laid (t':=tk) (o:=.lst (ss'.map V.str)) k hz ⟨?_,vs,ep,dt hS,hg⟩,rfl,q l ss' (I.hok.fresh hz) hp hso⟩;rw [zL,hp.length_eq];exact aan (zX hl (by decide))
end
end L2
namespace LL
open PySem PySem.SeqAt PySem.W PyProof.Rows
section
variable {prog:Program}{w:World}{A:Around}{I:Addr}{fp wr:List Addr}{n:Nat}{P:Nat->Value->Prop}{St:Nat->Heap->Prop}
end
section
variable {prog:Program}{w:World}{A:Around}{E:Value->Shared->Prop}{s:Shared}{x:Value}{Q:Value->Shared->Prop}
end
section
variable {prog:Program}{w:World}{A:Around}{E:Value->Shared->Prop}{s:Shared}
end
end LL
namespace L2
open PySem PySem.Spec PyProof.Rows PySem.W
section
variable {X:Cx}
end
end L2
namespace L2
open PySem PySem.Spec PyProof.Rows
section
variable {prog:Program}{w:World}{A:Around}{E:Value->Shared->Prop}{s:Shared}
end
section
variable {X:Cx}
variable {o e:Expr}{es:List Expr}{to:TE}{t:TA}{name:Str}{apos cpos:Pos}{T id:String}{r:V->List V->Hp->VK->Prop}{ty:V->Hp->Prop}
def qV:V->List V->Hp->VK->Prop:=fun x vs H Q=>∃ a kvs k y,x=.ref a/\vs=[kV k,y]/\H a=some (.dK kvs)/\kvs.length < sizeLine/\(∀ v,dw kvs k=some v->Q v H)/\(dw kvs k=none->Q y (upd H a (.dK (mM kvs k y))))
theorem eP:MtM X "dict.setdefault" qV:=by
 intro pins s σ H x vs v us Q I rx rv h;obtain⟨a,kvs,k,y,rfl,rfl,e,hl,q1,q2⟩:=h;cases rx;obtain⟨u,r,rfl,ru,rr⟩:=rv.two;obtain⟨z,hd,ws,rel,dd⟩:=i9 I.hok e;refine aeP abI dd.typeIs PySem.F.entry_dict_setdefault (PySem.F.args_dict_setdefault_3 _ _ _) (kt_meets_setdefault (aO X.prog X.w) a (ue ru) hd r) ⟨ws,dd,by rw [← rel.length];exact z,fun v' hv'=>?_,fun hn h' dd' hs=>?_⟩
 ·have ro:=rel.val k;rw [hv'] at ro;cases q:dw kvs k with
  | none=>rw [q] at ro;exact ro.elim
  | some v0 =>
   rw [q] at ro;exact⟨v0,H,I.tok _,ro,q1 v0 q⟩
 ·have ro:=rel.val k;rw [hn] at ro;cases q:dw kvs k with
  | some v0=>rw [q] at ro;exact ro.elim
  | none =>
   have he:∃ q,h'.get? a=some q:=let ⟨q,_,_,hq,_⟩:=dd';⟨q,hq⟩;have hl':(mM kvs k y).length<=sizeLine:=by have:=jd kvs k y;lia
   exact⟨y,_,nO I (by rw [e];exact True.intro) hs he (mT hl' hd (rel.put k rr) dd'),rr,q2 q⟩
end
section
variable {X:Cx}{K:PySem.W.Frag}{P:Program}{w:World}
end
section
variable {X:Cx}
end
section
variable {X:Cx}{K:PySem.W.Frag}{P:Program}{w:World}
end
section
variable {X:Cx}
end
end L2
namespace L2
open PySem PySem.Spec PySem.Calls PyProof.Rows PySem.W
section
variable {prog:Program}{w:World}{A:Around}{E:Value->Shared->Prop}{s:Shared}{a r:Addr}
theorem mH {R:List Value->Shared->Prop}{kvs:List (Key×Value)}{ep:Nat}(hh:A.handled=none)(y:s.heap.IsValuesView r a)(x:s.heap.DictAt (aO prog w) a kvs ep)(hn:kvs.length<=sizeLine)
 (h:∀ (h':Heap) (tk:Nat) (acc:Array Value),(∀ b o,s.heap.get? b=some o->h'.get? b=some o)->s.heap.objs.size<=h'.objs.size->ItemsOf (fun i v=>∃ k,kvs[i]? = some (k,v)) acc kvs.length->R acc.toList { s with heap:=h',toks:=tk }) :
 wpAny (model prog w) A (collect (.ref r)) R E s:=by
 have hlt:=x.lt_size;unfold collect;refine zF (aee (aaZ adO ?_));rw [aaF acy _];show wpAny _ A.in1 (newList [] >>= fun l=>again (.builtin "list.__iadd__" ⟨[l,.ref r],[]⟩)) _ _ s;refine zF (abm ?_);refine zM ⟨abA abr _,aaZ entry_list_iadd' ?_⟩;rw [aaF abr _];have hS₁:(s.heap.push { cls:=.type "list",data:=.seq ([]:List Value).toArray }).get? s.heap.objs.size=some { cls:=.type "list",data:=.seq #[] }:=zW _ rfl;show wpAny _ A.in1 (Builtin.List.listExtendWith (.ref s.heap.objs.size) (.ref r) (.ref s.heap.objs.size)) _ _ _;have key:=kdl_extend (A:=A) (s:={ s with heap:=s.heap.push { cls:=.type "list",data:=.seq ([]:List Value).toArray } })
  (R:=fun (q:Result) (s':Shared)=>∃ (h':Heap) (tk:Nat) (acc':Array Value) (c':Nat),q=.ok (.ret (.ref s.heap.objs.size))/\s'={ s with heap:=h',toks:=tk } ∧
   (∀ b o,s.heap.get? b=some o->h'.get? b=some o)/\h'.get? s.heap.objs.size=some { cls:=.type "list",dict:=none,data:=.seq acc' c',slots:=#[] }/\ItemsOf (fun i v=>∃ k,kvs[i]? = some (k,v)) acc' kvs.length)
  (kdl_values (r:=r) (d:=a) (knd:=aO prog w) (kvs:=kvs) (ep:=ep)) hh ⟨let ⟨o,ho,z⟩:=y;⟨o,zK _ ho,z⟩,x.at' fun o e=>zK _ e⟩ s.heap.objs.size (let ⟨_,ho,_⟩:=y;aaz (zN ho)) (aaz hlt) (.ref s.heap.objs.size) 0 hS₁
  (fun h' tk acc' c' hk hS' hacc=>⟨h',tk,acc',c',rfl,rfl,fun b o e=>hk b o (zY (zN e)) (zK _ e),hS',hacc⟩) hn
 refine aaV key (fun fin s' x=>?_) fun e s' x=>?_
 ·cases fin with
  | done f =>
   obtain⟨h',tk,acc',c',e,rfl,hk,hS',hacc⟩:=x;cases e;show wpAny _ A (load s.heap.objs.size >>= _) _ _ _;refine zF (adm hS' ?_);exact zM (h h' tk acc' hk (aan (zN hS')) hacc)
  | again c₁ =>
   refine⟨x.1,acv x.2 fun q s₂ y=>?_⟩;obtain⟨h',tk,acc',c',rfl,rfl,hk,hS',hacc⟩:=y;show wpAny _ A (load s.heap.objs.size >>= _) _ _ _;refine zF (adm hS' ?_);exact zM (h h' tk acc' hk (aan (zN hS')) hacc)
 ·obtain⟨_,_,_,_,e',_⟩:=x;cases e'
theorem oe {Q:Value->Shared->Prop}{kvs:List (Key×Value)}{ep:Nat}{ss:List Str}(hh:A.handled=none)(y:s.heap.IsValuesView r a)(x:s.heap.DictAt (aO prog w) a kvs ep)(hs:StrsAre (kvs.map (·.2)) ss)(h64:ss.length < 64)
 (h:∀ (h':Heap) (tk:Nat) (l:Addr) (vs:List Value) (ss':List Str) (e:Nat),(∀ b o,s.heap.get? b=some o->h'.get? b=some o)->s.heap.objs.size<=l->h'.get? l=some (seqObj "list" vs.toArray e)->StrsAre vs ss'->ss'.Perm ss->sortedS ss'=true->Q (.ref l) { s with heap:=h',toks:=tk }) :
 wpAny (model prog w) A (call (.builtin "sorted") [.ref r]) Q E s:=by
 refine aba ads acR acS (acT _) ?_;unfold Builtin.«sorted»;refine zF (m:=checkCount "sorted" 1 1 _) (zM ?_);have kl:kvs.length=ss.length:=by have:=hs.length;simpa using this
 refine zF (mH (A:=A.in1) hh y x (aan (zX (by lia:kvs.length < 64) (by decide))) fun h1 tk acc k1 hsz hacc=>?_);have hl0:acc.toList.length=kvs.length:=by rw [zR];exact hacc.1
 have hS:StrsAre acc.toList ss:=by
  rw [kdl_vals_eq acc.toList hl0 fun j v e=>hacc.2 j v (by rw [← aao];exact e)];exact hs
 have hl:acc.toList.length < 64:=by lia
 refine zF (abB ?_ (aan (zX hl (by decide))));show wpAny _ _ _ _ _ { s with heap:=h1.push (seqObj "list" acc.toList.toArray 0),toks:=tk };have hoL:(h1.push (seqObj "list" acc.toList.toArray 0)).get? h1.objs.size=some (seqObj "list" acc.toList.toArray 0):=zW _ rfl;refine zF (aal (aaX acm ⟨_,hoL,rfl⟩ ab2 (list_sort_treeK strKind_oneLt hoL hS.keysOf (fun v₁ v₂ rest e=>keyKind_strs (by rw [← e];exact hS)) hl fun st' a1 a2=>⟨_,rfl,?_⟩) (acn _)));obtain⟨ss',b1,b2,b3⟩:=aef hS a1 a2;obtain⟨e,he⟩:=sortedHeap_at (vs:=acc.toList) (out:=(arrOf st').map (·.2)) hoL;refine zM ⟨_,rfl,h _ tk h1.objs.size ((arrOf st').map (·.2)).toList ss' e (fun b o q=>?_) hsz (by rw [abR];exact he) b1 b2 b3⟩;have q1:=k1 _ _ q;rw [sortedHeap_old (zY (zN q1)) (by rw [acD];exact aaM (zN q1))];exact zK _ q1
end
theorem KV.vals2:∀ {kvs:List (Key×V)} {vs:List (Key×Value)},KV kvs vs->Vals (kvs.map (·.2)) (vs.map (·.2))
 | _,_,.nil=>.nil
 | _,_,.cons h r=>.cons h.2 (KV.vals2 r)
section
variable {X:Cx}
def tG (td:TE):TE:=fun σ H Q=>td σ H fun x H1=>∃ (a:Addr) (kvs:List (Key×V)) (ss:List Str),x=.ref a/\H1 a=some (.dK kvs)/\kvs.map (·.2)=ss.map V.str/\ss.length < 64/\∀ (l:Addr) (ss':List Str),H1 l=none->ss'.Perm ss->sortedS ss'=true->Q (.ref l) (upd H1 l (.lst (ss'.map V.str)))
theorem lI {l:Expr}{tl:TE}{p apos cpos pos:Pos}(hg:Gl X "sorted")(hm:X.mg "sorted" = none)(hc:X.calm=true)(hl:PE X l tl)(hbase:attributeBase l "values" X.env (eval l X.env)=eval l X.env:=by rfl)(hline:(apos.endLine == cpos.line)=true:=by rfl)
 (hs:starEach [.Call (.Attribute l "values" apos) [] [] cpos] X.env=[(false,eval (.Call (.Attribute l "values" apos) [] [] cpos) X.env)]:=by rfl):PE X (.Call (.Name "sorted" p) [.Call (.Attribute l "values" apos) [] [] cpos] [] pos) (tG tl):=by
 intro pins s σ H Q I h;refine Call_ (gx I hg hm abu (adA ?_ hs rfl));rw [hs];show wpAny _ _ (spliced [(false,eval _ X.env)]) _ _ s;refine ad7 ?_;refine acZ hbase hline (thn (hl pins s σ H _ I h) fun v s1 ⟨y,H1,I1,r1,q1⟩=>?_);obtain⟨a,kvs,ss,rfl,e,hv,h64,q⟩:=q1;cases r1;obtain⟨z,hd,vs,rel,dd⟩:=i9 I1.hok e;obtain⟨ep,da⟩:=dd.dictAt;obtain⟨h1,h2⟩:=pK (T := "dict") I1 (show RelV (.ref a) (.ref a) from rfl) (.inr (.inr (.inl ⟨rfl,.inl ⟨kvs,e⟩⟩)));refine⟨"dict","dict.values",abt,aer,PySem.F.type_dict_values,h1,h2,acq rfl (adV ?_)⟩;refine aeP aer h1 PySem.F.entry_dict_values (PySem.F.args_dict_values_1 _) (meets_dict_values (aO X.prog X.w) a hd) ⟨⟨vs,dd⟩,?_⟩;have alt:a < s1.heap.objs.size:=da.lt_size;have da':(s1.heap.push { cls:=.type "dict_values",data:=.fields #[.ref a] }).DictAt (aO X.prog X.w) a vs ep:=da.at' fun o e=>zK _ e;have sz:(s1.heap.push { cls:=.type "dict_values",data:=.fields #[.ref a] }).objs.size=s1.heap.objs.size+1:=abj ..;refine aej ?_;have kp:∀ b o,s1.heap.get? b=some o->(s1.heap.push { cls:=.type "dict_values",data:=.fields #[.ref a] }).get? b=some o:=fun b o e=>zK _ e;have hS:StrsAre (vs.map (·.2)) ss:=by
  refine cS ?_;have:=KV.vals2 rel;rw [hv] at this;exact this
 refine oe (s:={ s1 with heap:=s1.heap.push { cls:=.type "dict_values",data:=.fields #[.ref a] } }) (r:=s1.heap.objs.size) (a:=a) (kvs:=vs) (ep:=ep) (ss:=ss) (I1.ok.hd hc) ⟨_,zW _ rfl,rfl,rfl⟩ da' hS h64 fun h' tk l ws ss' e k hz hg hS2 hp hso=>?_;have hz':s1.heap.objs.size<=l:=by
  have hz:(s1.heap.push _).objs.size<=l:=hz;rw [sz] at hz;lia
 refine⟨.ref l,_,I1.laid (t':=tk) (o:=.lst (ss'.map V.str)) (fun b o e=>k b o (kp b o e)) hz' ⟨?_,ws,e,dt hS2,hg⟩,rfl,q l ss' (I1.hok.fresh hz') hp hso⟩;rw [zL,hp.length_eq];exact aan (zX h64 (by decide))
end
end L2
namespace L2
open PySem PySem.Spec PyProof.Rows
section
variable {prog:Program}{w:World}{A:Around}{E:Value->Shared->Prop}
end
section
variable {X:Cx}
end
section
variable {P:Program}{w:World}{K:PySem.W.Frag}{mg:Str->Option Value}{base:Heap}
end
section
variable {X:Cx}
theorem jL {pos:Pos}:PE X (.List [] pos) (t7 gh):=bU ah
theorem xJ {k:Nat}{p1 p2 p3:Pos}:PE X (.Tuple [.List [] p1,.List [] p2] k p3) (wY (cf (t7 gh) (cf (t7 gh) gh))):=dO (ae jL (ae jL ah))
end
section
variable {prog:Program}{w:World}{A:Around}{E:Value->Shared->Prop}{s:Shared}
theorem oJ {a:Addr}{o:Obj}{Q:Option Obj->Shared->Prop}(h:s.heap.get? a=some o)(q:Q (some o) s):wpAny (model prog w) A (loadIfAlive a) Q E s:=by
 intro Γ p _;unfold loadIfAlive;rw [Sem.wp_loadIfAlive,h];exact q
def pr:Nat->List Value->List (Key×Value)
 | _,[]=>[]
 | k,v::r=>(.inl (k:Int),v)::pr (k+1) r
end
theorem gU:plainId "dict.update.loop" = true:=by decide +kernel
theorem mS:entryFor table "dict.update.loop" = some Builtin.«dict.update.loop»:=entryFor_of_tree (by kernel_rfl)
section
variable {prog:Program}{w:World}{A:Around}{R:Result->Shared->Prop}
end
section
variable {prog:Program}{w:World}{A:Around}{E:Value->Shared->Prop}{s:Shared}
end
section
variable {X:Cx}
theorem p6:bootBuiltins "dict" = some (.type "dict"):=by decide +kernel
end
def xN (h:Heap)(z TI TO i1 i2:Addr):Prop:=∃ (T:Addr) (b:Bool) (oT:Obj),h.get? z=some { cls:=.type "zip",dict:=none,data:=.fields #[rawInt T,.bool b,.bool false,.ref TI,.ref TO],slots:=#[] }/\h.get? T=some oT/\T≠z/\T≠TO/\T≠i1/\T≠i2
section
variable {prog:Program}{w:World}{A:Around}{E:Value->Shared->Prop}{s:Shared}
theorem nE {z TI TO i1 i2 l1 l2:Addr}{k1 k2:Nat}{xs ys:Array Value}{x y:Value}{Q:Option Value->Shared->Prop}(D:ZipApart z TI TO i1 i2 l1 l2)
 (hz:xN s.heap z TI TO i1 i2)(hTI:IsPair s.heap TI (.ref i1) (.ref i2))
 (h1:s.heap.IsListIter i1 l1 k1)(h2:s.heap.IsListIter i2 l2 k2)(hl1:s.heap.IsList l1 xs)(hl2:s.heap.IsList l2 ys)(hx:xs[k1]? = some x)(hy:ys[k2]? = some y)
 (hQ:∀ h',xN h' z TI TO i1 i2->h'.IsListIter i1 l1 (k1+1)->h'.IsListIter i2 l2 (k2+1)->IsPair h' s.heap.objs.size x y →
  (∀ c o,c≠z->c≠TO->c≠i1->c≠i2->s.heap.get? c=some o->h'.get? c=some o)->Q (some (.ref s.heap.objs.size)) { s with heap:=h' }) :
 wpAny (model prog w) A (pyNext (.ref z)) Q E s:=by
 obtain⟨T,b,oT,hz,hT0,hTz,hTO,hT1,hT2⟩:=hz;have hT:s.TypeIs (.ref z) "zip" := ⟨_,hz,rfl⟩;unfold pyNext;refine zF (aey (wpAny_callSpecial?_slot (name:=Str.ofString "__next__") hT ad2 (aaX ad2 hT F.entry_zip_next ?_ (F.args_zip_next_1 _))));show wpAny _ _ (field (.ref z) 2 >>= _) _ _ _;refine zF (acO hz rfl (x:=.bool false) rfl ?_);show wpAny _ _ (field (.ref z) 3 >>= _) _ _ _;refine zF (acO hz rfl (x:=.ref TI) rfl (zF (adx hTI rfl ?_)));show wpAny _ _ (Builtin.SmallTypes.ownedTupleIsFree (.ref z) >>= _) _ _ _;refine zF ?_;unfold Builtin.SmallTypes.ownedTupleIsFree;refine zF (acO hz rfl (x:=rawInt T) rfl ?_);show wpAny _ _ (loadIfAlive T >>= _) _ _ s;refine zF (oJ hT0 ?_);show wpAny _ _ (field (.ref z) 1 >>= _) _ _ s;refine zF (acO hz rfl (x:=.bool b) rfl ?_);cases b
 ·show wpAny _ _ (setField (.ref z) 1 (.bool true) >>= _) _ _ s;refine zF (ad9 hz (by simp) fun h₁ hz₁ hs₁=>?_);refine zM ?_;simp only [aaf,abq,adb,abY,adz];refine zF (zF (zF (aal ?_)));show wpAny _ _ (Builtin.SmallTypes.nextOf (.ref i1) >>= _) _ _ _;refine zF (acs (h1.extBut hs₁.extBut D.i1z) (hl1.extBut hs₁.extBut D.l1z) hx fun h₂ h1₂ hs₂=>zM (zM (zF (zF (aal ?_)))));show wpAny _ _ (Builtin.SmallTypes.nextOf (.ref i2) >>= _) _ _ _;refine zF (acs ((h2.extBut hs₁.extBut D.i2z).extBut hs₂.extBut D.i12.symm) ((hl2.extBut hs₁.extBut D.l2z).extBut hs₂.extBut D.l2i1) hy fun h₃ h2₃ hs₃=>zM (zM (zM ?_)));show wpAny _ _ (newTuple [x,y] >>= _) _ _ _;refine zF (acH (zM ⟨_,rfl,zM ?_⟩));have sz:h₃.objs.size=s.heap.objs.size:=by rw [hs₃.1,hs₂.1,hs₁.1]
  have kp:∀ c o,c≠z->c≠i1->c≠i2->s.heap.get? c=some o->h₃.get? c=some o:=fun c o a1 a2 a3 e=>hs₃.extBut _ _ a3 (hs₂.extBut _ _ a2 (hs₁.extBut _ _ a1 e));have fin:=hQ (h₃.push { cls:=.type "tuple",data:=.seq #[x,y] }) ⟨T,true,oT,zK _ (hs₃.extBut _ _ D.i2z.symm (hs₂.extBut _ _ D.i1z.symm hz₁)),zK _ (kp T oT hTz hT1 hT2 hT0),hTz,hTO,hT1,hT2⟩
   (by obtain⟨o,ho,r⟩:=h1₂.extBut hs₃.extBut D.i12;exact⟨o,zK _ ho,r⟩) (by obtain⟨o,ho,r⟩:=h2₃;exact⟨o,zK _ ho,r⟩)
   (by show (h₃.push { cls:=.type "tuple",data:=.seq #[x,y] }).get? s.heap.objs.size=_;rw [← sz];exact zW _ rfl) fun c o a1 _ a3 a4 e=>zK _ (kp c o a1 a3 a4 e)
  rw [← sz] at fin;exact fin
 ·have hs₁:Heap.SameBut z s.heap s.heap:=⟨rfl,fun _ _=>rfl⟩;have hz₁:=hz;refine zM ?_;simp only [aaf,abq,adb,abY,adz];refine zF (zF (zF (aal ?_)));show wpAny _ _ (Builtin.SmallTypes.nextOf (.ref i1) >>= _) _ _ _;refine zF (acs (h1.extBut hs₁.extBut D.i1z) (hl1.extBut hs₁.extBut D.l1z) hx fun h₂ h1₂ hs₂=>zM (zM (zF (zF (aal ?_)))));show wpAny _ _ (Builtin.SmallTypes.nextOf (.ref i2) >>= _) _ _ _;refine zF (acs ((h2.extBut hs₁.extBut D.i2z).extBut hs₂.extBut D.i12.symm) ((hl2.extBut hs₁.extBut D.l2z).extBut hs₂.extBut D.l2i1) hy fun h₃ h2₃ hs₃=>zM (zM (zM ?_)));show wpAny _ _ (newTuple [x,y] >>= _) _ _ _;refine zF (acH (zM ⟨_,rfl,zM ?_⟩));have sz:h₃.objs.size=s.heap.objs.size:=by rw [hs₃.1,hs₂.1,hs₁.1]
  have kp:∀ c o,c≠z->c≠i1->c≠i2->s.heap.get? c=some o->h₃.get? c=some o:=fun c o a1 a2 a3 e=>hs₃.extBut _ _ a3 (hs₂.extBut _ _ a2 (hs₁.extBut _ _ a1 e));have fin:=hQ (h₃.push { cls:=.type "tuple",data:=.seq #[x,y] }) ⟨T,true,oT,zK _ (hs₃.extBut _ _ D.i2z.symm (hs₂.extBut _ _ D.i1z.symm hz₁)),zK _ (kp T oT hTz hT1 hT2 hT0),hTz,hTO,hT1,hT2⟩
   (by obtain⟨o,ho,r⟩:=h1₂.extBut hs₃.extBut D.i12;exact⟨o,zK _ ho,r⟩) (by obtain⟨o,ho,r⟩:=h2₃;exact⟨o,zK _ ho,r⟩)
   (by show (h₃.push { cls:=.type "tuple",data:=.seq #[x,y] }).get? s.heap.objs.size=_;rw [← sz];exact zW _ rfl) fun c o a1 _ a3 a4 e=>zK _ (kp c o a1 a3 a4 e)
  rw [← sz] at fin;exact fin
theorem qo {z TI TO i1 i2 l1 l2:Addr}{k1 k2:Nat}{xs ys:Array Value}{Q:Option Value->Shared->Prop}(hh:A.handled=none)(D:ZipApart z TI TO i1 i2 l1 l2)
 (hz:xN s.heap z TI TO i1 i2)(hTI:IsPair s.heap TI (.ref i1) (.ref i2))(h1:s.heap.IsListIter i1 l1 k1)(hl1:s.heap.IsList l1 xs)(hend:xs[k1]? = none)
 (hQ:∀ h',(∀ c o,c≠z->c≠TO->c≠i1->c≠i2->s.heap.get? c=some o->h'.get? c=some o)->Q none { s with heap:=h' }):wpAny (model prog w) A (pyNext (.ref z)) Q E s:=by
 obtain⟨T,b,oT,hz,hT0,hTz,hTO,hT1,hT2⟩:=hz;have hT:s.TypeIs (.ref z) "zip" := ⟨_,hz,rfl⟩;unfold pyNext;refine zF (aey (wpAny_callSpecial?_slot (name:=Str.ofString "__next__") hT ad2 (aaX ad2 hT F.entry_zip_next ?_ (F.args_zip_next_1 _))));show wpAny _ _ (field (.ref z) 2 >>= _) _ _ _;refine zF (acO hz rfl (x:=.bool false) rfl ?_);show wpAny _ _ (field (.ref z) 3 >>= _) _ _ _;refine zF (acO hz rfl (x:=.ref TI) rfl (zF (adx hTI rfl ?_)));show wpAny _ _ (Builtin.SmallTypes.ownedTupleIsFree (.ref z) >>= _) _ _ _;refine zF ?_;unfold Builtin.SmallTypes.ownedTupleIsFree;refine zF (acO hz rfl (x:=rawInt T) rfl ?_);show wpAny _ _ (loadIfAlive T >>= _) _ _ s;refine zF (oJ hT0 ?_);show wpAny _ _ (field (.ref z) 1 >>= _) _ _ s;refine zF (acO hz rfl (x:=.bool b) rfl ?_);cases b
 ·show wpAny _ _ (setField (.ref z) 1 (.bool true) >>= _) _ _ s;refine zF (ad9 hz (by simp) fun h₁ hz₁ hs₁=>?_);refine zM ?_;simp only [aaf,abq,adb,abY,adz];refine zF (zF (zF (aal ?_)));show wpAny _ _ (Builtin.SmallTypes.nextOf (.ref i1) >>= _) _ _ _;refine zF (wpAny_nextOf_list_end (by simp [hh]) (h1.extBut hs₁.extBut D.i1z) (hl1.extBut hs₁.extBut D.l1z) hend fun h₂ e hs₂ he=>?_);obtain⟨o,ho,hc⟩:=he;exact zF (adF (T := "StopIteration") (b:=true) ⟨o,ho,hc⟩ isSubtype_stop (zM (hQ _ fun c o a1 _ a3 _ x=>hs₂ _ _ a3 (hs₁.extBut _ _ a1 x))))
 ·refine zM ?_;simp only [aaf,abq,adb,abY,adz];refine zF (zF (zF (aal ?_)));show wpAny _ _ (Builtin.SmallTypes.nextOf (.ref i1) >>= _) _ _ _;refine zF (wpAny_nextOf_list_end (by simp [hh]) h1 hl1 hend fun h₂ e hs₂ he=>?_);obtain⟨o,ho,hc⟩:=he;exact zF (adF (T := "StopIteration") (b:=true) ⟨o,ho,hc⟩ isSubtype_stop (zM (hQ _ fun c o a1 _ a3 _ x=>hs₂ _ _ a3 x)))
theorem uC:typeLookup (.type "zip") "__getattr__" = pure none:=by rw [adX,acx];kernel_rfl
theorem sg:typeLookup (.type "zip") "keys" = pure none:=by rw [adX,acx];kernel_rfl
theorem xX:entryFor table "zip.__getattribute__" = some Builtin.«object.__getattribute__»:=aec (id' := "object.__getattribute__") (by kernel_rfl) (by decide +kernel) (by decide +kernel) (by kernel_rfl)
theorem wK (a:Addr)(fs:Array Value)(u:Tok) :
 Meets (Builtin.«object.__getattribute__» ⟨[.ref a,.str "keys" u],[]⟩) (fun A R s=>s.heap.get? a=some { cls:=.type "zip",dict:=none,data:=.fields fs,slots:=#[] }/\raisesAttr (.ref a) "keys" A R s) :=
 Meets.of_wp fun prog w A R s hs=>by
  obtain⟨hp,g,d,tk,os⟩:=s;obtain⟨hx,hs⟩:=hs;have hT:(⟨hp,g,d,tk,os⟩:Shared).TypeIs (.ref a) "zip" := ⟨_,hx,rfl⟩;have hmiss:=sg;unfold Builtin.«object.__getattribute__»
  repeat (any_goals (first | done | assumption | wp_step))
  exact wpAny_raiseAttrError hs.1 hs.2 (attrMsg_fits (by decide +kernel) (by decide +kernel))
theorem qH {P:Program}{w:World}{A:Around}{E:Value->Shared->Prop}{s:Shared}{a:Addr}{fs:Array Value}{Q:Option Value->Shared->Prop}
 (hx:s.heap.get? a=some { cls:=.type "zip",dict:=none,data:=.fields fs,slots:=#[] })(hA:A.handled=none)
 (h:∀ h' tk,(∀ b o,s.heap.get? b=some o->h'.get? b=some o)->Q none { s with heap:=h',toks:=tk }):wpAny (model P w) A (getAttr? (.ref a) "keys") Q E s:=by
 obtain⟨hp,g,d,tk,os⟩:=s;have hT:∀ tk',(⟨hp,g,d,tk',os⟩:Shared).TypeIs (.ref a) "zip" := fun _=>⟨_,hx,rfl⟩;have f1:=sub_AttributeError;have f3:=ade.lookup;have f4:=ade.bind (.ref a);have f5:=uC;unfold getAttr? getAttrBy? getAttrBy
 repeat (any_goals (first | assumption | exact hT _ | ((with_reducible show wpAny _ _ (call (Value.builtin "zip.__getattribute__") _ _) _ _ _);refine ae9 ade (hT _) xX (F.args_zip_getattribute_2 _ _) (wK a fs _) ⟨hx,hA,fun h' tk' e hx'=>?_⟩) | wp_step))
 obtain⟨t',u',he⟩:=hx'.there;show wpAny _ _ (getattributeRaised _ _ _ _ _ _ _) _ _ _;unfold getattributeRaised
 repeat (any_goals (first | done | assumption | wp_step))
 exact h _ _ hx'.of.keeps
def prz (ks:List Str)(us:List Value):List (Key×Value):=(ks.zip us).map fun p=>(.inr p.1,p.2)
theorem wU (ks:List Str)(us:List Value):(prz ks us).length<=ks.length:=by
 unfold prz;rw [zL,ae5];lia
theorem vn {ks:List Str}{us:List Value}{i:Nat}{x:Str}{v:Value}(nd:ks.Nodup)(hx:ks[i]? = some x)(hv:us[i]? = some v):stored (prz (ks.take i) (us.take i)) (Sum.inr x) v=prz (ks.take (i+1)) (us.take (i+1)):=by
 have hi:i < ks.length:=(zJ.mp hx).1;have hj:i < us.length:=(zJ.mp hv).1;have hn:x ∉ ks.take i:=fun q=>by
  obtain⟨j,hj1,e⟩:=List.mem_take_iff_getElem.mp q;have hx2:=(zJ.mp hx).2;have:=(List.getElem_inj nd).mp (e.trans hx2.symm);lia
 have h:(prz (ks.take i) (us.take i)).any (fun kv=>decide (kv.1=(Sum.inr x:Key)))=false:=by
  rw [List.any_eq_false];intro p hp;unfold prz at hp;obtain⟨q,hq,rfl⟩:=aaJ.mp hp;simp only [decide_eq_true_eq];intro z;have z2:=Sum.inr.inj z;exact hn (z2▸(abV hq).1)
 unfold stored;rw [if_neg (by rw [h];exact zO)];unfold prz;rw [List.take_succ,List.take_succ,hx,hv,List.zip_append (by rw [aad,aad];lia),aax]
 rfl
def yn (h:Heap)(z TI TO i1 i2:Addr):Prop:=(IsZip h z TI TO .none/\∃ a b,IsPair h TO a b)\/xN h z TI TO i1 i2
theorem wt {z TI TO i1 i2 l1 l2:Addr}{k1 k2:Nat}{xs ys:Array Value}{x y:Value}{Q:Option Value->Shared->Prop}(D:ZipApart z TI TO i1 i2 l1 l2)
 (hz:yn s.heap z TI TO i1 i2)(hTI:IsPair s.heap TI (.ref i1) (.ref i2))
 (h1:s.heap.IsListIter i1 l1 k1)(h2:s.heap.IsListIter i2 l2 k2)(hl1:s.heap.IsList l1 xs)(hl2:s.heap.IsList l2 ys)(hx:xs[k1]? = some x)(hy:ys[k2]? = some y)
 (hQ:∀ h',xN h' z TI TO i1 i2->h'.IsListIter i1 l1 (k1+1)->h'.IsListIter i2 l2 (k2+1)->IsPair h' s.heap.objs.size x y →
  (∀ c o,c≠z->c≠TO->c≠i1->c≠i2->s.heap.get? c=some o->h'.get? c=some o)->Q (some (.ref s.heap.objs.size)) { s with heap:=h' }) :
 wpAny (model prog w) A (pyNext (.ref z)) Q E s:=by
 rcases hz with ⟨hz,a,b,hTO⟩ | hz
 ·have e1:z < s.heap.objs.size:=zN hz;have e2:TO < s.heap.objs.size:=zN hTO;have e3:i1 < s.heap.objs.size:=by obtain⟨_,q,_⟩:=h1;exact zN q
  have e4:i2 < s.heap.objs.size:=by obtain⟨_,q,_⟩:=h2;exact zN q
  exact wpAny_pyNext_zip_item D hz hTI hTO h1 h2 hl1 hl2 hx hy fun h' a1 _ a3 a4 a5 _ a7=>hQ h' ⟨s.heap.objs.size,false,_,a1,a5,aaz e1,aaz e2,aaz e3,aaz e4⟩ a3 a4 a5 a7
 ·exact nE D hz hTI h1 h2 hl1 hl2 hx hy hQ
theorem yc {z TI TO i1 i2 l1 l2:Addr}{k1 k2:Nat}{xs ys:Array Value}{Q:Option Value->Shared->Prop}(hh:A.handled=none)(D:ZipApart z TI TO i1 i2 l1 l2)
 (hz:yn s.heap z TI TO i1 i2)(hTI:IsPair s.heap TI (.ref i1) (.ref i2))(h1:s.heap.IsListIter i1 l1 k1)(h2:s.heap.IsListIter i2 l2 k2)(hl1:s.heap.IsList l1 xs)(hl2:s.heap.IsList l2 ys)(hend:xs[k1]? = none)
 (hQ:∀ h',(∀ c o,c≠z->c≠TO->c≠i1->c≠i2->s.heap.get? c=some o->h'.get? c=some o)->Q none { s with heap:=h' }):wpAny (model prog w) A (pyNext (.ref z)) Q E s:=by
 rcases hz with ⟨hz,a,b,hTO⟩ | hz
 ·exact wpAny_pyNext_zip_end hh D hz hTI hTO h1 h2 hl1 hl2 (.inl hend) hQ
 ·exact qo (k2:=k2) (ys:=ys) hh D hz hTI h1 hl1 hend hQ
end
section
variable {prog:Program}{w:World}{A:Around}{R:Result->Shared->Prop}
theorem uI {D z TI TO i1 i2 l1 l2:Addr}{xs ys:Array Value}{ks:List Str}(hh:A.handled=none)(Z:ZipApart z TI TO i1 i2 l1 l2)(hD:D≠z/\D≠TO/\D≠i1/\D≠i2/\D≠TI/\D≠l1/\D≠l2)(hsz:xs.size=ys.size)(hxs:∀ (i:Nat) (v:Value),xs[i]? = some v->∃ (x:Str) (t:Tok),v=Value.str x t/\ks[i]? = some x)(hkl:ks.length=xs.size)(nd:ks.Nodup)(hz:xs.size<=sizeLine) :
 ∀ (k i:Nat) (s:Shared) (tk:Tok),xs.size - i=k->i<=xs.size->yn s.heap z TI TO i1 i2->IsPair s.heap TI (.ref i1) (.ref i2)->s.heap.IsListIter i1 l1 i->s.heap.IsListIter i2 l2 i->s.heap.IsList l1 xs->s.heap.IsList l2 ys->s.heap.DictOf (aO prog w) D (prz (ks.take i) (ys.toList.take i)) →
  (∀ h' tk,h'.DictOf (aO prog w) D (prz ks ys.toList)->(∀ b o,b≠D->b≠z->b≠TO->b≠i1->b≠i2->s.heap.get? b=some o->h'.get? b=some o)->R (.ok (.ret .none)) { s with heap:=h',toks:=tk }) →
  codeAny (model prog w) A (.builtin "dict.update.loop" ⟨[.ref D,.ref z,.int i tk,.none],[]⟩) R s:=by
 obtain⟨d1,d2,d3,d4,d5,d6,d7⟩:=hD;intro k
 induction k with
 | zero =>
  intro i s tk hk hi he hTI h1 h2 hl1 hl2 hd hR;refine aaZ mS ?_;rw [aaF gU _];show wpAny _ A.in1 (pyNext (.ref z) >>= _) _ _ s;refine zF (yc (by simp [hh]) Z he hTI h1 h2 hl1 hl2 (adl (by lia)) fun h' x=>?_);show wpAny _ A.in1 (Builtin.Dict.addKeywords D [] >>= _) _ _ _;refine zF (zM (zM (hR h' s.toks ?_ fun b o _ b1 b2 b3 b4 q=>x b o b1 b2 b3 b4 q)));rw [aau (by lia),aau (by rw [zR];lia)] at hd;obtain⟨o,es,ep,ho,r⟩:=hd;exact⟨o,es,ep,x _ _ d1 d2 d3 d4 ho,r⟩
 | succ k ih =>
  intro i s tk hk hi he hTI h1 h2 hl1 hl2 hd hR;have hlt:i < xs.size:=by lia
  have hlt2:i < ys.size:=by lia
  obtain⟨kx,kt,ek,hkx⟩:=hxs i xs[i] (aaL hlt);refine aaZ mS ?_;rw [aaF gU _];show wpAny _ A.in1 (pyNext (.ref z) >>= _) _ _ s;refine zF (wt Z he hTI h1 h2 hl1 hl2 (aaL hlt) (aaL hlt2) fun h1' a1 b1 b2 c1 k1=>?_);have hd1:h1'.DictOf (aO prog w) D (prz (ks.take i) (ys.toList.take i)):=by
   obtain⟨o,es,ep,ho,r⟩:=hd;exact⟨o,es,ep,k1 _ _ d1 d2 d3 d4 ho,r⟩
  have hl1':h1'.IsList l1 xs:=by
   obtain⟨o,ho,r⟩:=hl1;exact⟨o,k1 _ _ Z.l1z Z.l1TO Z.l1i1 Z.l1i2 ho,r⟩
  have hl2':h1'.IsList l2 ys:=by
   obtain⟨o,ho,r⟩:=hl2;exact⟨o,k1 _ _ Z.l2z Z.l2TO Z.l2i1 Z.l2i2 ho,r⟩
  have hTI':IsPair h1' TI (.ref i1) (.ref i2):=k1 _ _ Z.TIz Z.TITO Z.TIi1 Z.TIi2 hTI;refine zF (aal (zF (wpAny_tryCatch ?_)));unfold Builtin.Dict.pairItems;refine zF (aeV (T := "tuple") ⟨_,c1,rfl⟩ ?_);rw [if_pos (by decide)];refine zF (adx c1 rfl (zM ?_));rw [ek];show wpAny _ _ (holding [.str kx kt,ys[i]] (dictSet D (.str kx kt) ys[i])) _ _ _;refine aal (wpAny_dictSet_pairs (k:=Sum.inr kx) (ju prog w _ _) hd1 (fun h2' dd2 s2=>?_) (aas (wU _ _) (by rw [aad];lia)));have e2:=vn (us:=ys.toList) (v:=ys[i]) nd hkx (by rw [aao];exact aaL hlt2);have kk:∀ b o,b≠D->h1'.get? b=some o->h2'.get? b=some o:=fun b o nb q=>(s2.2 b nb).trans q;have a2:yn h2' z TI TO i1 i2:=by
   obtain⟨T,b,oT,q,r,z1⟩:=a1;by_cases hTD:T=D
   ·obtain⟨o,es,ep,ho,_⟩:=dd2;exact .inr ⟨T,b,o,kk _ _ (aaA d1) q,by rw [hTD];exact ho,z1⟩
   ·exact .inr ⟨T,b,oT,kk _ _ (aaA d1) q,kk _ _ hTD r,z1⟩
  refine zM ⟨abA gU _,ih (i+1) _ _ (by lia) hlt a2 (kk _ _ (aaA d5) hTI') ?_ ?_ ?_ ?_ (by rw [← e2];exact dd2) fun h' tk' d' k'=>?_⟩
  ·obtain⟨o,ho,r⟩:=b1;exact⟨o,kk _ _ (aaA d3) ho,r⟩
  ·obtain⟨o,ho,r⟩:=b2;exact⟨o,kk _ _ (aaA d4) ho,r⟩
  ·obtain⟨o,ho,r⟩:=hl1';exact⟨o,kk _ _ (aaA d6) ho,r⟩
  ·obtain⟨o,ho,r⟩:=hl2';exact⟨o,kk _ _ (aaA d7) ho,r⟩
  ·exact hR h' tk' d' fun b o n1 n2 n3 n4 n5 q=>k' b o n1 n2 n3 n4 n5 (kk b o n1 (k1 b o n2 n3 n4 n5 q))
end
section
variable {prog:Program}{w:World}{A:Around}{E:Value->Shared->Prop}{s:Shared}
theorem kM {z TI TO i1 i2 l1 l2:Addr}{xs ys:Array Value}{ks:List Str}{Q:Value->Shared->Prop}(hh:A.handled=none)(Z:ZipApart z TI TO i1 i2 l1 l2)(hz:IsZip s.heap z TI TO .none)(hTI:IsPair s.heap TI (.ref i1) (.ref i2))(hTO:∃ a b,IsPair s.heap TO a b)
 (h1:s.heap.IsListIter i1 l1 0)(h2:s.heap.IsListIter i2 l2 0)(hl1:s.heap.IsList l1 xs)(hl2:s.heap.IsList l2 ys)(hsz:xs.size=ys.size)(hxs:∀ (i:Nat) (v:Value),xs[i]? = some v->∃ (x:Str) (t:Tok),v=Value.str x t/\ks[i]? = some x)(hkl:ks.length=xs.size)(nd:ks.Nodup)(hle:xs.size<=sizeLine)
 (h:∀ h' tk,h'.DictOf (aO prog w) s.heap.objs.size (prz ks ys.toList)->(∀ b o,b≠z->b≠TO->b≠i1->b≠i2->s.heap.get? b=some o->h'.get? b=some o)->Q (.ref s.heap.objs.size) { s with heap:=h',toks:=tk }) :
 wpAny (model prog w) A (call (.type "dict") [.ref z]) Q E s:=by
 refine callType_codes (Q₁:=fun obj s₁=>obj=.ref s.heap.objs.size/\s₁={ s with heap:=s.heap.push { cls:=.type "dict",data:=.dict #[] } }) F.kt_called_dict (F.kt_typeCall_dict_1 _) F.entry_dict_init (kt_code_dict_new _ ⟨rfl,rfl⟩) ?_;rintro obj s₁ ⟨rfl,rfl⟩;have dn:(s.heap.push { cls:=.type "dict",data:=.dict #[] }).DictOf (aO prog w) s.heap.objs.size []:=Heap.DictOf.new s.heap;have e1:z < s.heap.objs.size:=zN hz;have e2:TO < s.heap.objs.size:=by obtain⟨_,_,q⟩:=hTO;exact zN q
 have e3:i1 < s.heap.objs.size:=by obtain⟨_,q,_⟩:=h1;exact zN q
 have e4:i2 < s.heap.objs.size:=by obtain⟨_,q,_⟩:=h2;exact zN q
 have e5:TI < s.heap.objs.size:=zN hTI;have e6:l1 < s.heap.objs.size:=by obtain⟨_,q,_⟩:=hl1;exact zN q
 have e7:l2 < s.heap.objs.size:=by obtain⟨_,q,_⟩:=hl2;exact zN q
 have hz':(s.heap.push { cls:=.type "dict",data:=.dict #[] }).get? z=_:=zK _ hz;refine⟨dn.typeIs,F.args_dict_init_2 _ _,?_⟩;unfold Builtin.«dict.__init__»;refine zF ?_;unfold Builtin.Dict.selfAndRest;refine zF (wpAny_notOrdered_dict dn.typeIs ?_);show wpAny _ _ (pure (s.heap.objs.size,[Value.ref z])) _ _ _;refine zM ?_;show wpAny _ _ (Builtin.Dict.updateFrom "dict.__init__" s.heap.objs.size (.ref z) [] .none) _ _ _;unfold Builtin.Dict.updateFrom;refine zF (aeV (T := "zip") ⟨_,hz',rfl⟩ ?_);rw [if_pos (by decide)];refine zF (qH hz' (by simp [hh]) fun g1 tk k1=>?_);have kp:∀ b o,s.heap.get? b=some o->g1.get? b=some o:=fun b o q=>k1 b o (zK _ q);have hz1:IsZip g1 z TI TO .none:=kp _ _ hz;refine zF (abJ ?_);refine zF (aeJ hz1 ?_);refine zF (zM ?_);refine zM ⟨abA gU _,uI (by simp [hh]) Z ⟨aaz e1,aaz e2,aaz e3,aaz e4,aaz e5,aaz e6,aaz e7⟩ hsz hxs hkl nd hle (xs.size - 0) 0 _ _ rfl (zZ _) (.inl ⟨hz1,let ⟨a,b,q⟩:=hTO;⟨a,b,kp _ _ q⟩⟩) (kp _ _ hTI) ?_ ?_ ?_ ?_ ?_ fun h' tk' d' k'=>?_⟩
 ·obtain⟨o,ho,r⟩:=h1;exact⟨o,kp _ _ ho,r⟩
 ·obtain⟨o,ho,r⟩:=h2;exact⟨o,kp _ _ ho,r⟩
 ·obtain⟨o,ho,r⟩:=hl1;exact⟨o,kp _ _ ho,r⟩
 ·obtain⟨o,ho,r⟩:=hl2;exact⟨o,kp _ _ ho,r⟩
 ·obtain⟨o,es,ep,ho,r⟩:=dn;exact⟨o,es,ep,k1 _ _ ho,r⟩
 ·exact⟨rfl,h h' tk' d' fun b o n2 n3 n4 n5 q=>k' b o (zY (zN q)) n2 n3 n4 n5 (kp b o q)⟩
end
theorem vJ:∀ {ks vs:List Str} {us:List Value},Vals (vs.map V.str) us->KV ((ks.zip vs).map fun p=>((Sum.inr p.1:Key),V.str p.2)) (prz ks us)
 | [],_,_,_=>.nil
 | _::_,[],_,r=>by cases r;exact .nil
 | k::ks,v::vs,_,r=>by
  cases r with
  | cons a b=>exact .cons ⟨rfl,a⟩ (vJ b)
theorem oo {n a b:Nat}(la:a < n)(lb:b < n):ZipApart (n+4) (n+2) (n+3) n (n+1) a b:=by
 constructor<;>first | exact zY (by lia) | exact aaz (by lia)
def t6 (K:PySem.W.Frag)(ta:TA):TE:=fun σ H Q=>ta σ H fun xs H1=>∃ (a b:Addr) (ks vs:List Str),xs=[.ref a,.ref b]/\SqL K H1 a (ks.map V.str)/\SqL K H1 b (vs.map V.str)/\ks.Nodup/\ks.length=vs.length ∧
 ∀ d,H1 d=none->Q (.ref d) (upd H1 d (.dK ((ks.zip vs).map fun p=>((Sum.inr p.1:Key),V.str p.2))))
section
variable {X:Cx}
theorem pZ:bootBuiltins "zip" = some (.type "zip"):=by decide +kernel
theorem ql {a b:Expr}{ta:TA}{p p2 pos pos2:Pos}(hg:Gl X "dict")(hm:X.mg "dict" = none)(hg2:Gl X "zip")(hm2:X.mg "zip" = none)(hc:X.calm=true)(ha:PA X [a,b] ta)(hs2:starEach [a,b] X.env=[(false,eval a X.env),(false,eval b X.env)]:=by rfl)(hs3:starEach [b] X.env=[(false,eval b X.env)]:=by rfl)
 (hs:starEach [.Call (.Name "zip" p2) [a,b] [] pos2] X.env=[(false,eval (.Call (.Name "zip" p2) [a,b] [] pos2) X.env)]:=by rfl):PE X (.Call (.Name "dict" p) [.Call (.Name "zip" p2) [a,b] [] pos2] [] pos) (t6 X.K ta):=by
 intro pins s σ H Q I h;refine Call_ (gx I hg hm p6 (abc ?_ hs rfl));rw [hs];show wpAny _ _ (spliced [(false,eval _ X.env)]) _ _ s;refine ad7 ?_;refine Call_ (gx I hg2 hm2 pZ (abc (thn (ha pos2 pins s σ H _ I h) fun us s1 ⟨vs,H1,I1,r1,q1⟩=>?_) (by rw [hs2,hs3]) (by rw [hs3];rfl)));obtain⟨a,b,ks,vs',e,hqa,hqb,nd,hl,q⟩:=q1;subst e;obtain⟨u,v,rfl,ru,rv⟩:=vals2 r1;cases ru;cases rv;obtain⟨its,rv,pl,hz⟩:=I1.list hqa;obtain⟨its2,rv2,pl2,hz2⟩:=I1.list hqb;have la:a < s1.heap.objs.size:=by obtain⟨_,q,_⟩:=pl.isList;exact zN q
 have lb:b < s1.heap.objs.size:=by obtain⟨_,q,_⟩:=pl2.isList;exact zN q
 refine call_zip_2 pl.isList pl2.isList fun h' a1 a2 a3 a4 a5 a6 k=>?_;have I2:Inv X pins σ H1 { s1 with heap:=h' }:=I1.kept (t':=s1.toks) k;refine aej ?_;have hl1:h'.IsList a its.toArray:=by
  obtain⟨o,ho,r⟩:=pl.isList;exact⟨o,k _ _ ho,r⟩
 have hl2:h'.IsList b its2.toArray:=by
  obtain⟨o,ho,r⟩:=pl2.isList;exact⟨o,k _ _ ho,r⟩
 have n1:=rv.length;have n2:=rv2.length;rw [zL] at n1 n2 hz;have ZA:ZipApart (s1.heap.objs.size+4) (s1.heap.objs.size+2) (s1.heap.objs.size+3) s1.heap.objs.size (s1.heap.objs.size+1) a b:=oo la lb;refine kM (s:={ s1 with heap:=h' }) (ks:=ks) (I1.ok.hd hc) ZA a1 a2 ⟨_,_,a3⟩ a4 a5 hl1 hl2 (by rw [z5,z5];lia) (fun i v e=>?_) (by rw [z5];lia) nd (by rw [z5];lia) fun h2 tk d2 k2=>?_
 ·have e':its[i]? = some v:=by simpa using e
  have hi:i < ks.length:=by rw [n1];exact (zJ.mp e').1
  obtain⟨u,hu,ru⟩:=rv.get (i:=i) (x:=V.str ks[i]) (by rw [zT,zG hi];rfl);obtain⟨t,rfl⟩:=ru;rw [e'] at hu;exact⟨ks[i],t,aai hu,zG hi⟩
 have fp:∀ c∈[s1.heap.objs.size+4,s1.heap.objs.size+3,s1.heap.objs.size,s1.heap.objs.size+1],mj X pins H1 c:=fun c hc=>by
  simp only [aab,aaI,aca] at hc;rcases hc with z | z | z | z<;>rw [z]<;>exact I1.fpOk (by lia) (I1.hok.fresh (by lia))
 refine⟨.ref h'.objs.size,_,I2.turnedNew (t':=tk) (fp:=[s1.heap.objs.size+4,s1.heap.objs.size+3,s1.heap.objs.size,s1.heap.objs.size+1]) (o:=.dK ((ks.zip vs').map fun p=>((Sum.inr p.1:Key),V.str p.2))) (fun c o hc z=>k2 c o (fun y=>hc (by simp [y])) (fun y=>hc (by simp [y])) (fun y=>hc (by simp [y])) (fun y=>hc (by simp [y])) z) fp (zP _) ?_,rfl,q _ (I2.hok.fresh (zP _))⟩;refine mT ?_ ?_ (vJ rv2) (by simpa using d2)
 ·rw [zL,ae5];lia
 ·exact ab4.mpr (aaz I2.big)
def bM (ks vs:List Str)(x:Str):Str:=(vs[ks.idxOf x]?).getD x
theorem dW {ks vs:List Str}{x:Str}(hx:x∈ks)(hl:ks.length=vs.length):vs[ks.idxOf x]? = some (bM ks vs x):=by
 unfold bM;have h:ks.idxOf x < vs.length:=by rw [← hl];exact abv hx
 rw [zG h]
 rfl
theorem qt {ks vs:List Str}(hl:ks.length=vs.length)(nv:vs.Nodup):∀ x∈ks,∀ y∈ks,bM ks vs x=bM ks vs y->x=y:=by
 intro x hx y hy e;have e1:=dW hx hl;have e2:=dW hy hl;have h:ks.idxOf x < vs.length:=by rw [← hl];exact abv hx
 have ei:ks.idxOf x=ks.idxOf y:=(List.getElem?_inj h nv).mp (by rw [e1,e2,e]);have g1:=aea (abv hx);have g2:=aea (abv hy);rw [← g1,← g2];exact getElem_congr rfl ei _
theorem jT {ks vs:List Str}(hl:ks.length=vs.length){x:Str}(hx:x∈ks):bM ks vs x∈vs:=aac (dW hx hl)
abbrev cu (ks vs:List Str):List (Key×V):=(ks.zip vs).map fun p=>((Sum.inr p.1:Key),V.str p.2)
theorem nQ:∀ {ks vs:List Str} {x:Str},x∈ks->ks.length=vs.length->dw (cu ks vs) (.inr x)=some (.str (bM ks vs x))
 | [],_,_,h,_=>by cases h
 | _::_,[],_,_,h=>by cases h
 | k::ks,v::vs,x,hx,hl=>by
  show dw ((Sum.inr k,V.str v)::cu ks vs) (.inr x)=_;by_cases e:k=x
  ·subst e;rw [ck rfl];simp [bM]
  ·have hx':x∈ks:=by
    rcases aab.mp hx with z | z
    ·exact absurd z.symm e
    ·exact z
   rw [cm (by simpa using e),nQ hx' (by simpa using hl)];have hb:(k == x)=false:=by simpa using e
   simp [bM,List.idxOf_cons,hb]
theorem cb:d8 X (.builtin "sorted") (fun xs H Q=>∃ (p:Addr) (ss:List Str),xs=[.ref p]/\SqL X.K H p (ss.map V.str)/\ss.length<=sizeLine/\∀ (l:Addr) (ss':List Str),H l=none->ss'.Perm ss->sortedS ss'=true->Q (.ref l) (upd H l (.lst (ss'.map V.str)))):=by
 intro pins s σ H xs us Q I r h;obtain⟨p,ss,rfl,hq,hl,q⟩:=h;obtain⟨u,rfl,rx⟩:=gT r;cases rx;obtain⟨its,rv,pl,hz⟩:=I.list hq;have hlen:=rv.length;rw [zL] at hlen;refine TS.sorted_any pl.isList (cS rv) (by lia) fun out ss' a1 a2 a3=>?_;obtain⟨e,he⟩:=sortedAll_at s.heap its out;have hlen':ss'.length=ss.length:=a2.length_eq;refine⟨.ref (s.heap.objs.size+1),_,I.laid (t':=s.toks) (o:=.lst (ss'.map V.str)) (fun b o e=>sortedAll_old e) (aa6 _) ⟨?_,out.toList,e,dt a1,?_⟩,rfl,q _ ss' (I.hok.fresh (aa6 _)) a2 a3⟩
 ·rw [zL,hlen'];exact hl
 ·simpa using he
end
section
variable {X:Cx}{K:PySem.W.Frag}
end
end L2
namespace L2
open PySem PySem.Spec PyProof.Rows PySem.W
section
variable {X:Cx}
end
end L2
namespace L2
open PySem PySem.Spec PyProof.Rows
section
variable {X:Cx}
theorem si {prog:Program}{w:World}{A:Around}{E:Value->Shared->Prop}{s:Shared}{elts:List Expr}{x1:Nat}{pos:Pos}{z TI TO T:Addr}{Q:Unit->Shared->Prop}(hz:IsZip s.heap z TI TO (rawInt T))
 (hQ:∀ h',IsZip h' z TI TO .none->Heap.SameBut z s.heap h'->Q () { s with heap:=h' }):wpAny (model prog w) A (letOwnedTupleGo (.Tuple elts x1 pos) (.ref z) (.ref T)) Q E s:=by
 unfold letOwnedTupleGo;refine zF (adm hz ?_);dsimp only;rw [if_pos (by simp)];refine zF (abJ ?_);show wpAny _ A (setField (.ref z) 0 .none) Q E s;exact ad9 hz (by simp) fun h' a b=>hQ h' a b
def ItZ (K:PySem.W.Frag)(a b:Addr):It :=
 ⟨fun i H=>∃ xs ys x y,SqL K H a xs/\SqL K H b ys/\xs[i]? = some x/\ys[i]? = some y,fun i H x H'=>∃ T u v,x=.ref T/\H T=none/\H'=upd H T (.tup [u,v])/\(∀ xs,SqL K H a xs->xs[i]? = some u)/\∀ ys,SqL K H b ys->ys[i]? = some v,fun i H=>∃ xs ys,SqL K H a xs/\SqL K H b ys/\(xs.length<=i\/ys.length<=i)⟩
theorem uc {P:Program}{w:World}{K:PySem.W.Frag}{es:List Expr}{kk:Nat}{tp:Pos}{z TI TO i1 i2 a b:Addr}(D:ZipApart z TI TO i1 i2 a b):wz P w K (.Tuple es kk tp) (ItZ K a b) [z,TO,i1,i2,TI] z (fun i h=>IsZip h z TI TO .none/\IsPair h TI (.ref i1) (.ref i2)/\(∃ u v,IsPair h TO u v)/\h.IsListIter i1 a i/\h.IsListIter i2 b i) where
 mem:=by simp
 obj:=fun i h st c hb=>by
  obtain⟨hz,hTI,⟨u,v,hTO⟩,h1,h2⟩:=st;simp only [aab,aaI,aca] at hb;rcases hb with rfl | rfl | rfl | rfl | rfl
  ·exact⟨_,hz,fun v z=>by cases z⟩
  ·exact⟨_,hTO,fun v z=>by cases z⟩
  ·obtain⟨o,e,_,d⟩:=h1;exact⟨o,e,fun v z=>by rw [d] at z;cases z⟩
  ·obtain⟨o,e,_,d⟩:=h2;exact⟨o,e,fun v z=>by rw [d] at z;cases z⟩
  ·exact⟨_,hTI,fun v z=>by cases z⟩
 keep:=fun i h h' st k=>by
  obtain⟨hz,hTI,⟨u,v,hTO⟩,h1,h2⟩:=st;exact⟨k _ (by simp) _ hz,k _ (by simp) _ hTI,⟨u,v,k _ (by simp) _ hTO⟩,h1.at fun o e=>k _ (by simp) o e,h2.at fun o e=>k _ (by simp) o e⟩
 item:=by
  intro X hP hw hK hc i pins s σ H E I hf st hg;subst hP hw hK;obtain⟨xs,ys,x,y,hq1,hq2,hx,hy⟩:=hg;obtain⟨its1,rv1,p1,_⟩:=I.list hq1;obtain⟨its2,rv2,p2,_⟩:=I.list hq2;obtain⟨u1,hu1,ru1⟩:=rv1.get hx;obtain⟨u2,hu2,ru2⟩:=rv2.get hy;obtain⟨hz,hTI,⟨u,v,hTO⟩,h1,h2⟩:=st;have lt:∀ c∈[z,TO,i1,i2,TI],c < s.heap.objs.size:=fun c hb=>by
   simp only [aab,aaI,aca] at hb;rcases hb with rfl | rfl | rfl | rfl | rfl
   ·exact zN hz
   ·exact zN hTO
   ·obtain⟨o,e,_⟩:=h1;exact zN e
   ·obtain⟨o,e,_⟩:=h2;exact zN e
   ·exact zN hTI
  refine wpAny_pyNext_zip_item D hz hTI hTO h1 h2 p1.isList p2.isList (x:=u1) (y:=u2) (by simpa using hu1) (by simpa using hu2) fun h' z1 to1 l1 l2 pr sz k=>?_;refine⟨_,rfl,si z1 fun h3 z3 s3=>?_⟩;have ne:∀ c∈[z,TO,i1,i2,TI],s.heap.objs.size≠c:=fun c hc=>aaz (lt c hc);have pr3:IsPair h3 s.heap.objs.size u1 u2:=(s3.2 _ (ne _ (by simp))).trans pr;have old:∀ c o,c ∉ [z,TO,i1,i2,TI]->s.heap.get? c=some o->h3.get? c=some o:=fun c o hb q=>(s3.2 c (fun e=>hb (by simp [e]))).trans (k c o (fun e=>hb (by simp [e])) (fun e=>hb (by simp [e])) (fun e=>hb (by simp [e])) (fun e=>hb (by simp [e])) q);have I2:=I.turnedNew (t':=s.toks) (h':=h3) (o:=.tup [x,y]) old hf (zP _) ⟨by show 2<=sizeLine;decide,[u1,u2],.cons ru1 (.cons ru2 .nil),_,pr3,rfl,_,rfl⟩;have fr:H s.heap.objs.size=none:=I.fresh;refine⟨.ref s.heap.objs.size,_,I2,rfl,⟨_,x,y,rfl,fr,rfl,fun zs hz=>by rw [I.list_inj hz hq1];exact hx,fun zs hz=>by rw [I.list_inj hz hq2];exact hy⟩,⟨z3,(s3.2 _ D.TIz).trans (k _ _ D.TIz D.TITO D.TIi1 D.TIi2 hTI),⟨_,_,(s3.2 _ D.TOz).trans to1⟩,l1.at fun o q=>(s3.2 _ D.i1z).trans q,l2.at fun o q=>(s3.2 _ D.i2z).trans q⟩,fun c hb=>?_⟩;rw [ai (zY (lt c hb))];exact (hf c hb).1
 done:=by
  intro X hP hw hK hc i pins s σ H E I hf st hg;subst hP hw hK;obtain⟨xs,ys,hq1,hq2,hx⟩:=hg;obtain⟨its1,rv1,p1,_⟩:=I.list hq1;obtain⟨its2,rv2,p2,_⟩:=I.list hq2;obtain⟨hz,hTI,⟨u,v,hTO⟩,h1,h2⟩:=st;have hl:=rv1.length;have hl2:=rv2.length;exact wpAny_pyNext_zip_end (I.ok.hd hc) D hz hTI hTO h1 h2 p1.isList p2.isList (hx.elim (fun hx=>.inl (by simp;lia)) fun hx=>.inr (by simp;lia)) fun h' eb=>⟨rfl,I.turnedL (t':=s.toks) (fun c o hb q=>eb c o (fun e=>hb (by simp [e])) (fun e=>hb (by simp [e])) (fun e=>hb (by simp [e])) (fun e=>hb (by simp [e])) q) hf⟩
 self:=fun _ _ _ _ _ st h=>aeJ st.1 h
theorem qU {n a b:Nat}(la:a < n)(lb:b < n):ZipApart (n+4) (n+2) (n+3) n (n+1) a b:=by
 refine⟨?_,?_,?_,?_,?_,?_,?_,?_,?_,?_,?_,?_,?_,?_,?_,?_,?_,?_⟩<;>exact fun h=>by revert h;exact (fun (h:@Eq Nat _ _)=>by lia)
def zu (K:PySem.W.Frag)(ta:TA):TI:=fun σ H R=>ta σ H fun vs H1=>∃ a b,vs=[.ref a,.ref b]/\(∃ xs,SqL K H1 a xs)/\(∃ ys,SqL K H1 b ys)/\R (ItZ K a b) H1
theorem vL {e1 e2:Expr}{ta:TA}{p pos:Pos}{es:List Expr}{kk:Nat}{tp:Pos}(hg:Gl X "zip")(hm:X.mg "zip" = none)(ha:PA X [e1,e2] ta)(hs:starEach [e1,e2] X.env=(false,eval e1 X.env)::starEach [e2] X.env:=by rfl)(hpl:(backTo pos (starEach [e2] X.env)).any (·.1)=false:=by rfl):PI X (.Tuple es kk tp) (.Call (.Name "zip" p) [e1,e2] [] pos) (zu X.K ta):=by
 intro pins s σ H R I h;refine Call_ (gx I hg hm pZ (abc (thn (ha pos pins s σ H _ I h) fun us s1 ⟨vs,H1,I1,r1,q1⟩=>?_) hs hpl));obtain⟨a,b,e,⟨xs,hq1⟩,⟨ys,hq2⟩,q⟩:=q1;subst e;cases r1 with
 | cons ru rr =>
  cases rr with
  | cons rw rn =>
   cases rn;cases ru;cases rw;obtain⟨its1,rv1,p1,_⟩:=I1.list hq1;obtain⟨its2,rv2,p2,_⟩:=I1.list hq2;have la:a < s1.heap.objs.size:=by obtain⟨o,e,_⟩:=p1.isList;exact zN e
   have lb:b < s1.heap.objs.size:=by obtain⟨o,e,_⟩:=p2.isList;exact zN e
   refine call_zip_2 p1.isList p2.isList fun h' hz hTI hTO h1 h2 sz k=>?_;have I2:Inv X pins σ H1 { s1 with heap:=h' }:=I1.kept (t':=s1.toks) k;have D:ZipApart (s1.heap.objs.size+4) (s1.heap.objs.size+2) (s1.heap.objs.size+3) s1.heap.objs.size (s1.heap.objs.size+1) a b:=qU la lb;refine aeJ hz ⟨_,[s1.heap.objs.size+4,s1.heap.objs.size+3,s1.heap.objs.size,s1.heap.objs.size+1,s1.heap.objs.size+2],_,ItZ X.K a b,H1,rfl,I2,uc D,⟨hz,hTI,⟨_,_,hTO⟩,h1,h2⟩,fun c hb=>?_,q⟩;have hc:s1.heap.objs.size<=c:=by
    simp only [aab,aaI,aca] at hb;rcases hb with h | h | h | h | h<;>rw [h]<;>first | exact aeK _ _ | exact zP _
   exact I1.fpOk hc (I1.hok.fresh hc)
end
theorem wC {K:PySem.W.Frag}{a b:Addr}{xs ys:List V}{g:TG}{tb:TS}{D:tY}{σ:St}{H:Hp}(hlen:xs.length=ys.length)(Pv:Nat->St->Hp->Prop)(h0:Pv 0 σ H)(hl:∀ i σ H,i<=xs.length->Pv i σ H->SqL K H a xs/\SqL K H b ys)
 (hs:∀ i x y σ H T,xs[i]? = some x->ys[i]? = some y->Pv i σ H->H T=none->g (.ref T) σ (upd H T (.tup [x,y])) fun σ2 H2=>tb { D with nx:=Pv (i+1),ct:=Pv (i+1),bk:=D.nx } σ2 H2)(hd:∀ σ H,Pv xs.length σ H->D.nx σ H) :
 ∃ W:Nat->Nat->St->Hp->Prop,(∃ m,W 0 m σ H)/\∀ i m σ H,W i m σ H →
  ((ItZ K a b).stop i H/\D.nx σ H)\/((ItZ K a b).go i H/\∃ N:St->Hp->Prop,(∀ σ' H',N σ' H'->∃ m',m' < m/\W (i+1) m' σ' H')/\∀ x H',(ItZ K a b).yld i H x H'->g x σ H' fun σ2 H2=>tb { D with nx:=N,ct:=N,bk:=D.nx } σ2 H2):=by
 refine⟨fun i m σ H=>m=xs.length - i/\i<=xs.length/\Pv i σ H,⟨xs.length,by simp,zZ _,h0⟩,?_⟩;rintro i m σ H ⟨rfl,hi,p⟩;obtain⟨q1,q2⟩:=hl i σ H hi p;by_cases hlt:i < xs.length
 ·have hlt2:i < ys.length:=by lia
  refine .inr ⟨⟨xs,ys,xs[i],ys[i],q1,q2,by simp [hlt],by simp [hlt2]⟩,Pv (i+1),fun σ' H' p'=>⟨xs.length - (i+1),by lia,rfl,hlt,p'⟩,fun x H' y=>?_⟩;obtain⟨T,u,v,ex,hT,eH,hu,hv⟩:=y;subst ex eH;exact hs i u v σ H T (hu xs q1) (hv ys q2) p hT
 ·have e:i=xs.length:=by lia
  subst e;exact .inl ⟨⟨xs,ys,q1,q2,.inl (zP _)⟩,hd σ H p⟩
end L2
namespace L2
open PySem PySem.Spec PyProof.Rows PySem.W
section
variable {X:Cx}
end
end L2
namespace L2
open PySem PySem.Spec PyProof.Rows
end L2
namespace L2
open PySem PySem.Spec PyProof.Rows PySem.W
section
variable {X:Cx}
end
end L2
namespace L2
open PySem PySem.Spec PyProof.Rows
theorem gZ {K:PySem.W.Frag}{nl:Nat}{ix:List Nat}{te:TE}{σ:St}{H1:Hp}{D a:Addr}{Q:VK}{xs:List V}{F:V->V}(ha:H1 a=some (.lst xs))(nD:H1 D=none)(hl:xs.length<=1000000)
 (hc:∀ x,((fV nl ix σ).set 0 (some x)).drop nl=ix.map fun j=>(σ[j]?).join)
 (ht:∀ (H:Hp) (x:V) (R:VK),x∈xs->Same H1 H->(∀ H',Same H H'->R (F x) H')->te ((fV nl ix σ).set 0 (some x)) H R)
 (hd:∀ H,Same H1 H->H D=some (.lst (xs.map F))->Q (.ref D) H):kL nl ix (dG 0) qD te σ (Itl K a) H1 D Q:=by
 have lim:1000000 < sizeLine:=by decide
 refine eA (xs:=xs) (fun i ys H=>ys=(xs.take i).map F/\H D=some (.lst ys)/\Same H1 H) ⟨rfl,af,fun b u e=>by rw [ai (ag e nD)];exact e⟩ (fun i ys H ⟨_,h,_⟩=>h) (fun i ys H ⟨_,_,s⟩=>aAA (s a _ ha)) ?_ ?_
 ·rintro i ys H x hx ⟨rfl,hD,s⟩;have hi:i < xs.length:=(zJ.mp hx).1;refine eE (hc x) (ht H x _ (aac hx) s fun H' s'=>⟨s' _ _ hD,by rw [zL,aad];lia,nx hi ⟨?_,af,fun b u e=>?_⟩⟩)
  ·rw [aaS,hx,aax]
   rfl
  ·rw [ai (ag e nD)];exact s' _ _ (s b u e)
 ·rintro ys H ⟨rfl,hD,s⟩;rw [aa9] at hD;exact hd H s hD
section
variable {X:Cx}
end
section
variable {P:Program}{w:World}{K:PySem.W.Frag}{mg:Str->Option Value}{base:Heap}{N:List Str}{qual:Str}{scope:Scope}{f:Addr}{cd:Value}{A:Around}{outer:List Env}{s:Shared}{H:Hp}{E0:XK}
end
section
variable {P:Program}{w:World}{K:PySem.W.Frag}{mg:Str->Option Value}{base:Heap}{N:List Str}{qual:Str}{scope:Scope}{f:Addr}{cd:Value}{A:Around}{outer:List Env}{s:Shared}{H:Hp}{E0:XK}
end
section
variable {X:Cx}{pins pins':List (Addr×Obj)}{σ:St}{H:Hp}{s:Shared}{xe:Value->Shared->Prop}{a:Addr}
end
section
variable {X:Cx}
end
section
variable {P:Program}{w:World}{K:PySem.W.Frag}{mg:Str->Option Value}{base:Heap}
end
section
variable {X:Cx}
end
end L2
namespace L2
theorem tvE {i:Nat}{σ:St}{H:Hp}{Q:VK}{v:V}(h:σ[i]? = some (some v))(k:Q v H):ik i σ H Q:=⟨v,h,k⟩
end L2
namespace K7
open PySem L2 PyProof.Rows
def top (i:Nat):Stmt:=PySem.Challenge.pw_keyrooms_k47_kinds_named_anew.main.body.getD i (.Pass ⟨0,0,0,0⟩)
abbrev jE:Stmt:=top 7
abbrev gd:Stmt:=top 8
abbrev ke:Stmt:=top 9
abbrev qK:Stmt:=top 10
abbrev fW:Stmt:=top 11
abbrev wX:Stmt:=top 12
abbrev qC:Stmt:=top 17
abbrev oq:Stmt:=top 18
abbrev iJ:Stmt:=top 19
abbrev jG:Stmt:=top 20
abbrev jV:Stmt:=top 21
abbrev jO:Stmt:=top 22
abbrev uy:Stmt:=top 29
abbrev bp:Stmt:=top 14
abbrev aQ:Stmt:=top 15
abbrev bI:Stmt:=top 23
abbrev bJ:Stmt:=top 24
abbrev bx:Stmt:=top 25
abbrev bH:Stmt:=top 26
abbrev bY:Stmt:=top 27
abbrev aX:Stmt:=top 28
def pQ (o:HO)(c:Int):Prop:=∃ a f:Int,o=.lst [.int a,.int f,.int c]
def fU:Sp:=fun vs H Q _=>∃ (p:Addr) (n c:Int) (o:HO),vs=[.ref p,.int n]/\H p=some o/\pQ o c/\0 < n/\n<=1000000/\0<=c/\c < 1000000 ∧
 ∀ (r c':Int) (o':HO),0<=r->r < n->c<=c'->c'<=c+1->pQ o' c'->Q (.int r) (upd H p o')
section
variable {P:Program}{w:World}{K:PySem.W.Frag}{mg:Str->Option Value}{base:Heap}
theorem scTake:br ["pool","many","found","step","mark"] ["pool","many"] (ao oq):=scM rfl rfl rfl rfl (by decide +kernel)
theorem rF {f:Addr}{fd:FuncData}(F:Fun K "_law_take" "_law_take" oq f fd):bO P w K mg base CX0 1 f fd ["pool","many"] fU:=by
 refine F.ok scTake (fun vs H Q E h=>?_) (fun cdv A outer s H vs Q E hr h=>?_)
 ·obtain⟨p,n,c,o,rfl,_⟩:=h
  rfl
 ·obtain⟨p,n,c,o,rfl,hp,⟨a,f',rfl⟩,hn,hn2,hc,hc2,k⟩:=h;refine⟨_,aj (dk (aT ic (bj bg (pv 0) aq (fun _ _=>rfl)) aq (aZ _))
   (aj (aF (i:=2) scTake.nd rfl (.inl rfl) (aY kj (bj bg (pv 0) aq (fun _ _=>rfl)) (pv 1)))
   (aj (gc (aY nJ (bj bg (pv 0) aq (fun _ _=>rfl)) (pv 1)) (kg (pv 0) aq fF))
   (av (bt (pv 2))))) bw)
   (aj (gc (aY dh (bj bg (pv 0) aq (fun _ _=>rfl)) aq) (kg (pv 0) aq fF))
   (aj (aF (i:=3) scTake.nd rfl (.inl rfl) (bj bg (pv 0) aq (fun _ _=>rfl)))
   (aj (aF (i:=4) scTake.nd rfl (.inl rfl) (aY gH (aY dh (aY kj (bj bg (pv 0) aq (fun _ _=>rfl)) aq) aq) (aY dh (aY gH aq (pv 3)) aq)))
   (aj (aF (i:=4) scTake.nd rfl (.inl rfl) (aY dh (pv 4) (aY gH (aY gH aq (pv 3)) (pv 3))))
   (aj (aF (i:=4) scTake.nd rfl (.inl rfl) (aY kj (aY gH (pv 4) (pv 4)) aq))
   (av (bt (aY kj (aY nJ (aY kj (aY gH (pv 4) (aY dh (pv 4) aq)) aq) aq) (pv 1))))))))),?_⟩
  refine⟨_,rfl,p,_,1,.int f',rfl,rfl,aAA hp,rfl,rfl,_,rfl,?_⟩;refine tZ (fun _=>?_) (fun _=>?_)
  ·refine⟨_,rfl,p,_,0,.int a,rfl,rfl,aAA hp,rfl,_,rfl,a,n,rfl,rfl,hn,?_⟩;refine⟨_,rfl,p,_,0,.int a,rfl,rfl,aAA hp,rfl,_,rfl,a,n,rfl,rfl,⟨hn,by lia⟩,?_⟩;refine⟨_,rfl,p,_,0,0,rfl,rfl,hp,rfl,?_⟩;refine⟨_,rfl,?_⟩;exact k (a % n) c _ (ad3 _ (by lia)) (adf _ hn) (acP _) (by lia) ⟨a / n,f',rfl⟩
  ·refine⟨_,rfl,p,_,2,.int c,rfl,rfl,aAA hp,rfl,c,1,rfl,rfl,?_⟩;refine⟨_,rfl,p,_,2,2,rfl,rfl,hp,rfl,?_⟩;have hp1:(upd H p (.lst [V.int a,V.int f',V.int (c+1)])) p=some (.lst [V.int a,V.int f',V.int (c+1)]):=af;refine⟨_,rfl,p,_,2,.int (c+1),rfl,rfl,aAA hp1,rfl,?_⟩;have b0:0<=a % 9999999551:=ad3 _ (by decide);have b1:a % 9999999551 < 9999999551:=adf _ (by decide);refine⟨_,rfl,p,_,0,.int a,rfl,rfl,aAA hp1,rfl,a,9999999551,rfl,rfl,(by show (0:Int) < 9999999551;decide),_,_,rfl,rfl,?_⟩;refine⟨_,rfl,43,c+1,rfl,rfl,.inl ⟨by decide,by decide⟩,_,73,rfl,rfl,_,_,rfl,rfl,.inl ⟨by lia,by lia⟩,?_⟩;refine⟨_,rfl,_,rfl,3581,c+1,rfl,rfl,.inl ⟨by decide,by decide⟩,_,rfl,_,c+1,rfl,rfl,.inl ⟨by lia,by lia⟩,_,_,rfl,rfl,?_⟩;generalize hx:a % 9999999551+1019=x at *;generalize hy:43 * (c+1)+73=y at *;have x0:0<=x:=by lia
   have x1:x<=9999999551+1019:=by lia
   have y0:0<=y:=by lia
   have y1:y<=43000100:=by lia
   have m0:0<=x * y:=Int.mul_nonneg x0 y0;have m1:x * y<=(9999999551+1019) * 43000100:=Int.mul_le_mul x1 y1 y0 (by decide);have z0:0<=3581 * (c+1) * (c+1):=Int.mul_nonneg (by lia) (by lia);have z1:3581 * (c+1) * (c+1)<=3581000000 * 1000000:=Int.mul_le_mul (by lia) (by lia) (by lia) (by decide);generalize hm:x * y+3581 * (c+1) * (c+1)=m at *;refine⟨_,rfl,_,rfl,m,m,aaG V.int hm,aaG V.int hm,.inl ⟨by lia,by lia⟩,_,_,rfl,rfl,(by show (0:Int) < 99999999581;decide),?_⟩;have c0:0<=m * m % 99999999581:=ad3 _ (by decide);have c1:m * m % 99999999581 < 99999999581:=adf _ (by decide);generalize hq:m * m % 99999999581=q at *;refine⟨_,rfl,_,rfl,q,59,aaG V.int hq,rfl,q,_,aaG V.int hq,rfl,.inl ⟨by lia,by lia⟩,_,_,rfl,rfl,(by show (0:Int) < 99999999877;decide),_,_,rfl,rfl,⟨by decide,by decide⟩,_,rfl,_,n,rfl,rfl,hn,?_⟩;exact k _ (c+1) _ (ad3 _ (by lia)) (adf _ hn) (by lia) (acP _) ⟨a,f',rfl⟩
structure Cal (K:PySem.W.Frag)(mg:Str->Option Value)(x:Str)(ps:List Str)(f:Addr)(fd:FuncData):Prop where
 mg:mg x=some (.ref f)
 kp:keepIn K (.ref f)=true
 b:Binds K fd ps []
theorem pcl {X:Cx}{k:Nat}{f:Addr}{fd:FuncData}{ps:List Str}{sp:Sp}{x:Str}{e:Expr}{es:List Expr}{t:TA}{p pos:Pos}(F:bO X.prog X.w X.K X.mg X.base CX0 k f fd ps sp)(c:Cal X.K X.mg x ps f fd)(hr:Room k X.A)(hg:Gl X x)(ha:PA X (e::es) t)(hdb:(x == ("__debug__" : Str))=false:=by decide)(he:starEach (e::es) X.env=(false,eval e X.env)::starEach es X.env:=by rfl)(hpl:(backTo pos (starEach es X.env)).any (·.1)=false:=by rfl):PE X (.Call (.Name x p) (e::es) [] pos) (qw sp [] E0 t):=cG F hr hg c.mg c.kp c.b .nil gf ha hdb he hpl
def But (p:Addr)(H H':Hp):Prop:=∀ b u,b≠p->H b=some u->H' b=some u
theorem But.refl (p:Addr)(H:Hp):But p H H:=fun _ _ _ e=>e
theorem But.trans {p:Addr}{H H1 H2:Hp}(a:But p H H1)(b:But p H1 H2):But p H H2:=fun c u n e=>b c u n (a c u n e)
theorem But.upd {p:Addr}{H:Hp}{o:HO}:But p H (upd H p o):=fun b u n e=>by rw [ai n];exact e
theorem But.new {p q:Addr}{H H1:Hp}{o:HO}(a:But p H H1)(n:H q=none):But p H (L2.upd H1 q o):=fun b u hb e=>by rw [ai (ag e n)];exact a b u hb e
theorem But.free {p q:Addr}{H H':Hp}(a:But p H H')(n:q≠p)(e:H' q=none):H q=none:=by
 cases h:H q with
 | none=>rfl
 | some u=>rw [a q u n h] at e;cases e
def aK (H:Hp)(p:Addr)(c:Int):Prop:=∃ o,H p=some o/\pQ o c
def qO:Sp:=fun vs H Q _=>∃ (p q:Addr) (n:Nat) (c:Int) (ks:List Str),vs=[.ref p,.ref q,.int n]/\aK H p c/\H q=some (.lst (ks.map V.str))/\ks≠[]/\ks.length<=1000/\n<=1000/\0<=c/\c+n < 1000000 ∧
 ∀ (l:Addr) (ss:List Str) (c':Int) (H':Hp),H l=none->ss.length=n->(∀ x∈ss,x∈ks)->H' l=some (.lst (ss.map V.str))->aK H' p c'->c<=c'->c'<=c+n->But p H H'->Q (.ref l) H'
theorem xD:br ["pool","kinds","many"] ["pool","kinds","many"] (ao jG):=scM rfl rfl rfl rfl (by decide +kernel)
def dU (e:Expr):Scope:=match e with
 | .ListComp _ _ s _=>s
 | .DictComp _ _ _ s _=>s
 | _=>{ kind:=.function,names:=[],isGenerator:=false,isCoroutine:=false }
def js (s:Stmt):Expr:=match s with
 | .Return (some e) _=>e
 | _=>.Name "" ⟨0,0,0,0⟩
abbrev u7:Expr:=js ((aR jG).getD 0 (.Pass ⟨0,0,0,0⟩))
theorem xo:fQ (ao jG) (dU u7) ["pool","kinds","many"] ["k","kinds","pool"] 1 [1,0]=true:=by decide +kernel
theorem nd1:((["k","kinds","pool"]:List Str)).Nodup:=by decide +kernel
theorem wx {f fT:Addr}{fd fdT:FuncData}(F:Fun K "_law_some" "_law_some" jG f fd)(FT:Fun K "_law_take" "_law_take" oq fT fdT)(cT:Cal K mg "_law_take" ["pool","many"] fT fdT)(mR:mg "range" = none)(mL:mg "len" = none) :
 bO P w K mg base CX0 2 f fd ["pool","kinds","many"] qO:=by
 have GT:bO P w K mg base CX0 1 fT fdT ["pool","many"] fU:=rF FT;refine F.ok xD (fun vs H Q E h=>?_) (fun cdv A outer s H vs Q E hr h=>?_)
 ·obtain⟨p,q,n,c,ks,rfl,_⟩:=h
  rfl
 ·obtain⟨p,q,n,c,ks,rfl,⟨o,hp,hpo⟩,hq,hk,hkl,hn,hc,hcn,k⟩:=h;obtain⟨S,Cp⟩:=fe (X:=(qu CX0 P w K mg base ["pool","kinds","many"] "_law_some" (ao jG) f cdv A outer s H E).nox) (outer:=ao jG) (N:=["pool","kinds","many"]) rfl rfl xo;refine⟨_,av (bt (eK (tg:=.Name "k" _) rfl S Cp (eC rfl mR (ae (pv 2) ah))
   (fun _ _ _ _=>ay (i:=0) nd1 rfl (.inl rfl) (.inr rfl)) (fun _ _ _ _=>bX)
   (fun _ _ _ _=>bj (vd (K:=K) rfl) (pv 1) (cG GT hr rfl cT.mg cT.kp cT.b .nil gf (ae (pv 2) (ae (aw (mN (K:=K) rfl) rfl mL aaQ (ae (pv 1) ah)) ah))) (fun _ _=>rfl)))),?_⟩
  refine bP _ _ _ _ _ _ _ _ _ ?_;refine⟨_,rfl,(n:Int),rfl,by lia,by lia,?_⟩;intro D hD;have npD:p≠D:=ag hp hD;have nqD:q≠D:=ag hq hD;have npq:p≠q:=by
   obtain⟨a,f',rfl⟩:=hpo;refine kH hp hq fun e=>?_;injection e with e
   cases ks with
   | nil=>exact hk rfl
   | cons z r=>rw [z4] at e;injection e with e1;cases e1
  rw [aaY];refine kc (fun i ys H2=>∃ (ss:List Str) (c':Int),ys=ss.map V.str/\ss.length=i/\(∀ x∈ss,x∈ks)/\H2 D=some (.lst ys)/\aK H2 p c'/\c<=c'/\c'<=c+i/\But p H H2) ?_ (fun i ys H2 ⟨_,_,_,_,_,z,_⟩=>z) ?_ ?_
  ·refine⟨[],c,rfl,rfl,(fun x hx=>nomatch hx),af,⟨o,by rw [ai npD];exact hp,hpo⟩,acP _,by lia,(But.refl p H).new hD⟩
  ·rintro i ys H2 hi ⟨ss,c',rfl,hl,hm,hD2,⟨o2,hp2,hpo2⟩,h1,h2,hb⟩;have hq2:=hb q _ (aaA npq) hq;refine eE rfl ?_;refine⟨_,rfl,_,rfl,_,rfl,q,_,rfl,.inl (aAA hq2),p,_,c',o2,rfl,hp2,hpo2,?_,?_,by lia,by lia,fun r c2 o3 r0 r1 h3 h4 hpo3=>?_⟩
   ·rw [zL];cases ks with
    | nil=>exact absurd rfl hk
    | cons z r=>rw [aaq];lia
   ·rw [zL];lia
   ·rw [zL] at r1;obtain⟨j,rfl⟩:∃ j:Nat,r=(j:Int):=⟨r.toNat,by lia⟩;have hj:j < ks.length:=by lia
    refine⟨q,_,_,.str ks[j],rfl,rfl,aAA (by rw [ai (aaA npq)];exact hq2),dj (by rw [zT,zG hj];rfl),?_⟩;refine⟨by rw [ai (aaA npD)];exact hD2,by rw [zL];exact bu (by lia),nx hi ?_⟩;refine⟨ss++[ks[j]],c2,by simp,by simp [hl],fun x hx=>?_,af,⟨o3,by rw [ai npD,af],hpo3⟩,by lia,by lia,?_⟩
    ·rcases zS.mp hx with hx | hx
     ·exact hm x hx
     ·rw [zQ.mp hx];exact aak hj
    ·exact (hb.trans But.upd).new hD
  ·rintro ys H2 ⟨ss,c',rfl,hl,hm,hD2,hp2,h1,h2,hb⟩;exact k D ss c' H2 hD hl hm hD2 hp2 h1 h2 hb
def tU (K:PySem.W.Frag):Sp:=fun vs H Q _=>∃ (a:Addr) (k:Nat) (ns:List Int),vs=[.ref a,.int k]/\SqL K H a (ns.map V.int)/\k<=100/\ns.length<=63 ∧
 ∀ (l:Addr) (c:Int) (o:HO),H l=none->pQ o c->0<=c->c<=5300->Q (.ref l) (upd H l o)
theorem scPool:br ["script","k","cell"] ["script","k"] (ao qC):=scM rfl rfl rfl rfl (by decide +kernel)
theorem wH {f:Addr}{fd:FuncData}(F:Fun K "_law_pool" "_law_pool" qC f fd)(mL:mg "len" = none):bO P w K mg base CX0 1 f fd ["script","k"] (tU K):=by
 refine F.ok scPool (fun vs H Q E h=>?_) (fun cdv A outer s H vs Q E hr h=>?_)
 ·obtain⟨a,k,ns,rfl,_⟩:=h
  rfl
 ·obtain⟨a,k,ns,rfl,hS,hk,hn,q⟩:=h;refine⟨_,aj (aF (i:=2) scPool.nd rfl (.inl rfl) aq)
   (aj (dk (aT xG (pv 1) (aw aS rfl mL aaQ (ae (pv 0) ah)) (aZ _))
    (av (aF (i:=2) scPool.nd rfl (.inl rfl) (bj bg (pv 0) (pv 1) (fun _ _=>rfl)))) bw)
   (aj (dk (aT yL (pv 2) (aY vq aq aq) (aZ _))
    (av (bt (bU (ae (aY pD (pv 2) (aY vq aq aq)) (ae aq (ae aq ah)))))) bw)
   (av (bt (bU (ae (pv 2) (ae aq (ae (aY gH aq (pv 1)) ah)))))))),?_⟩
  refine⟨_,rfl,_,rfl,a,_,rfl,.inl hS,_,_,rfl,rfl,_,rfl,?_⟩;refine tZ (fun hlt=>?_) (fun _=>?_)
  ·have hlt':k < ns.length:=by
    have z:=adv hlt;rw [zL] at z;lia
   refine⟨_,rfl,_,rfl,a,_,_,.int ns[k],rfl,rfl,hS,dj (by rw [zT,zG hlt'];rfl),?_⟩;refine⟨_,rfl,10,18,rfl,rfl,⟨by decide,by decide,by decide⟩,_,_,rfl,rfl,_,rfl,tZ (fun _=>?_) (fun _=>?_)⟩
   ·refine⟨_,rfl,10,18,rfl,rfl,⟨by decide,by decide,by decide⟩,_,_,rfl,rfl,(by show 3<=sizeLine;decide),fun l hl=>?_⟩;exact q l 0 _ hl ⟨_,1,rfl⟩ (by decide) (by decide)
   ·refine⟨_,rfl,_,rfl,53,k,rfl,rfl,.inl ⟨by decide,by decide⟩,(by show 3<=sizeLine;decide),fun l hl=>?_⟩;exact q l (53 * k) _ hl ⟨_,0,rfl⟩ (by lia) (by lia)
  ·refine⟨_,rfl,10,18,rfl,rfl,⟨by decide,by decide,by decide⟩,_,_,rfl,rfl,_,rfl,tZ (fun _=>?_) (fun _=>?_)⟩
   ·refine⟨_,rfl,10,18,rfl,rfl,⟨by decide,by decide,by decide⟩,_,_,rfl,rfl,(by show 3<=sizeLine;decide),fun l hl=>?_⟩;exact q l 0 _ hl ⟨_,1,rfl⟩ (by decide) (by decide)
   ·refine⟨_,rfl,_,rfl,53,k,rfl,rfl,.inl ⟨by decide,by decide⟩,(by show 3<=sizeLine;decide),fun l hl=>?_⟩;exact q l (53 * k) _ hl ⟨_,0,rfl⟩ (by lia) (by lia)
def bo (z:Str):Prop:=1<=z.length/\z.length<=4/\∀ c∈z.cps.toList,97<=c/\c<=122
def vG:Sp:=fun vs H Q _=>∃ z:Str,vs=[.str z]/\bo z/\∀ H',Same H H'->Q (.bl true) H'
abbrev lettersS:Str := "abcdefghijklmnopqrstuvwxyz"
theorem qv (c:Nat)(h1:97<=c)(h2:c<=122):(!(Builtin.Str.occurrences lettersS ⟨#[c]⟩ 0 lettersS.length 1).isEmpty)=true:=by
 have all:∀ k:_root_.Fin 26,(!(Builtin.Str.occurrences lettersS ⟨#[97+k.val]⟩ 0 lettersS.length 1).isEmpty)=true:=by decide +kernel
 have e:=all ⟨c - 97,by lia⟩;have e2:97+(c - 97)=c:=by lia
 simp only [e2] at e;exact e
structure Glb (mg:Str->Option Value):Prop where
 isi:mg "isinstance" = none
 str:mg "str" = none
 len:mg "len" = none
 all:mg "all" = none
 letters:∃ t,mg "LETTERS" = some (.str lettersS t)
 most:∃ t,mg "MOST_LETTERS" = some (.int 4 t)
theorem xY:br ["thing"] ["thing"] (ao jE):=scM rfl rfl rfl rfl (by decide +kernel)
def iP (e:Expr):Expr:=match e with
 | .Call _ (a::_) _ _=>a
 | e=>e
abbrev uN:Expr:=iP (js ((aR jE).getD 1 (.Pass ⟨0,0,0,0⟩)))
theorem xW:fQ (ao jE) (dU uN) ["thing"] ["sign"] 1 []=true:=by decide +kernel
theorem nd2:(["sign"]:List Str).Nodup:=by decide +kernel
theorem wu {f:Addr}{fd:FuncData}(F:Fun K "is_kind" "is_kind" jE f fd)(G:Glb mg):bO P w K mg base CX0 1 f fd ["thing"] vG:=by
 obtain⟨tl,hL⟩:=G.letters;obtain⟨tm,hM⟩:=G.most;refine F.ok xY (fun vs H Q E h=>?_) (fun cdv A outer s H vs Q E hr h=>?_)
 ·obtain⟨z,rfl,_⟩:=h
  rfl
 ·obtain⟨z,rfl,⟨z1,z2,z3⟩,k⟩:=h;obtain⟨S,Cp⟩:=fe (X:=(qu CX0 P w K mg base ["thing"] "is_kind" (ao jE) f cdv A outer s H E).nox) (outer:=ao jE) (N:=["thing"]) rfl rfl xW;refine⟨_,aj (dk (PW.pt (qy (kE (iw (aw cU rfl G.isi (by decide +kernel) (ae (pv 0) (ae (g0 (v:=.ty "str") (u:=.type "str") rfl G.str (by decide +kernel) rfl) ah)))))
   (j7 (kE (uv uL uL aq (aw iq rfl G.len aaQ (ae (pv 0) ah)) (nC (v:=.int 4) rfl hM ⟨tm,rfl⟩))))))
   (av (bt jP)) bw)
   (av (bt (aw (lJ rfl) rfl G.all (by decide +kernel) (ae (eK (tg:=.Name "sign" _) rfl S Cp (w9 (pv 0))
    (fun _ _ _ _=>ay (i:=0) nd2 rfl (.inl rfl) (.inr rfl)) (fun _ _ _ _=>bX)
    (fun _ _ _ _=>gk rP (pv 0) (nC (v:=.str lettersS) rfl hL ⟨tl,rfl⟩) (by with_unfolding_all rfl))) ah)))),?_⟩
  have zs:z.length<=sizeLine:=aan (bu (by lia));refine⟨_,rfl,_,_,_,true,rfl,.str z,fG K _,true,rfl,?_⟩;refine dR ?_;refine⟨_,rfl,z,rfl,zs,1,_,rfl,rfl,true,aaG V.bl (aaw (by lia)),?_⟩;refine hV ?_;refine⟨_,4,rfl,rfl,true,aaG V.bl (aaw (by lia)),?_⟩;refine dR ?_;dsimp only [qj,we,tCB,cf,gh];refine bP _ _ _ _ _ _ _ _ _ ?_;refine⟨_,rfl,z,rfl,?_⟩;intro D hD;refine u0 (fun i ys H2=>ys=(List.replicate i true).map V.bl/\H2 D=some (.lst ys)/\Same H H2) ⟨rfl,af,fun b u e=>by rw [ai (ag e hD)];exact e⟩ (fun i ys H2 ⟨_,h,_⟩=>h) ?_ ?_
  ·rintro i ys H2 c hc ⟨rfl,hD2,sm⟩;have hi:i < z.cps.size:=(ad5.mp hc).1;have hz:z.length=z.cps.size:=rfl;have hm:c∈z.cps.toList:=by
    have:=Array.mem_of_getElem? hc;simpa using this
   refine eE rfl ?_;refine⟨_,rfl,_,_,rfl,rfl,hD2,by rw [zL,aaH];exact bu (by lia),nx hi ⟨?_,af,fun b u e=>?_⟩⟩
   ·rw [qv c (z3 c hm).1 (z3 c hm).2,adP,aax]
    rfl
   ·rw [ai (ag e hD)];exact sm b u e
  ·rintro ys H2 ⟨rfl,hD2,sm⟩;refine⟨D,List.replicate z.cps.size true,rfl,aAA hD2,?_⟩;have e:(List.replicate z.cps.size true).all id=true:=by simp
   rw [e];exact k H2 sm
def iV:Sp:=fun vs H Q _=>∃ (a:Addr) (ks:List Str),vs=[.ref a]/\H a=some (.lst (ks.map V.str))/\(∀ k∈ks,bo k)/\ks.length<=1000/\∀ H',Same H H'->Q (.bl true) H'
def pV (e:Expr):Expr:=match e with
 | .BoolOp _ es _=>es.getLastD e
 | e=>e
theorem wJ:br ["thing"] ["thing"] (ao gd):=scM rfl rfl rfl rfl (by decide +kernel)
abbrev tH:Expr:=iP (pV (js ((aR gd).getD 0 (.Pass ⟨0,0,0,0⟩))))
theorem wF:fQ (ao gd) (dU tH) ["thing"] ["kind"] 1 []=true:=by decide +kernel
theorem nd3:(["kind"]:List Str).Nodup:=by decide +kernel
theorem uz {f fK:Addr}{fd fdK:FuncData}(F:Fun K "are_kinds" "are_kinds" gd f fd)(FK:Fun K "is_kind" "is_kind" jE fK fdK)(cK:Cal K mg "is_kind" ["thing"] fK fdK)(G:Glb mg)(mLi:mg "list" = none):bO P w K mg base CX0 2 f fd ["thing"] iV:=by
 have GK:bO P w K mg base CX0 1 fK fdK ["thing"] vG:=wu FK G;refine F.ok wJ (fun vs H Q E h=>?_) (fun cdv A outer s H vs Q E hr h=>?_)
 ·obtain⟨a,ks,rfl,_⟩:=h
  rfl
 ·obtain⟨a,ks,rfl,ha,hk,hl,k⟩:=h;obtain⟨S,Cp⟩:=fe (X:=(qu CX0 P w K mg base ["thing"] "are_kinds" (ao gd) f cdv A outer s H E).nox) (outer:=ao gd) (N:=["thing"]) rfl rfl wF;refine⟨_,av (bt (gR (aw cU rfl G.isi (by decide +kernel) (ae (pv 0) (ae (g0 (v:=.ty "list") (u:=.type "list") rfl mLi (by decide +kernel) rfl) ah)))
   (mJ (aw (lJ rfl) rfl G.all (by decide +kernel) (ae (eK (tg:=.Name "kind" _) rfl S Cp (bN (pv 0))
    (fun _ _ _ _=>ay (i:=0) nd3 rfl (.inl rfl) (.inr rfl)) (fun _ _ _ _=>bX)
    (fun _ _ _ _=>cG GK hr rfl cK.mg cK.kp cK.b .nil gf (ae (pv 0) ah))) ah))))),?_⟩
  refine⟨_,rfl,_,_,_,true,rfl,.lst ha,fG K _,true,rfl,?_⟩;refine hV ?_;dsimp only [qj,we,tCB,cf,gh];refine bP _ _ _ _ _ _ _ _ _ ?_;refine⟨_,rfl,a,rfl,⟨_,aAA ha⟩,?_⟩;intro D hD;refine eA (xs:=ks.map V.str) (fun i ys H2=>ys=(List.replicate i true).map V.bl/\i<=1000/\H2 D=some (.lst ys)/\Same H H2) ⟨rfl,by decide,af,fun b u e=>by rw [ai (ag e hD)];exact e⟩ (fun i ys H2 ⟨_,_,h,_⟩=>h) (fun i ys H2 ⟨_,_,_,sm⟩=>aAA (sm a _ ha)) ?_ ?_
  ·rintro i ys H2 x hx ⟨rfl,hi0,hD2,sm⟩;have hi:i < (ks.map V.str).length:=(zJ.mp hx).1;have hi':=hi;rw [zL] at hi';rw [zT,zG hi'] at hx;cases hx;refine eE rfl ?_;refine⟨_,rfl,ks[i],rfl,hk _ (aak hi'),fun H3 sm3=>?_⟩;refine⟨sm3 D _ hD2,by rw [zL,aaH];exact bu (by lia),nx hi ⟨?_,by lia,af,fun b u e=>?_⟩⟩
   ·rw [adP,aax]
    rfl
   ·rw [ai (ag e hD)];exact sm3 b u (sm b u e)
  ·rintro ys H2 ⟨rfl,_,hD2,sm⟩;refine⟨D,List.replicate (ks.map V.str).length true,rfl,aAA hD2,?_⟩;have e:(List.replicate (ks.map V.str).length true).all id=true:=by simp
   rw [e];exact k H2 sm
def oD:Sp:=fun vs H Q _=>∃ (a:Addr) (ks:List Str),vs=[.ref a]/\H a=some (.lst (ks.map V.str))/\(∀ k∈ks,bo k)/\1<=ks.length/\ks.length<=4/\ks.Pairwise leS/\∀ H',Same H H'->Q (.bl true) H'
theorem de {ks:List Str}(h:∀ k∈ks,bo k):PyData.canLayAll0 (ks.map PyData.str)=true:=by
 induction ks with
 | nil=>rfl
 | cons z r ih =>
  have hz:=h z z7;have hs:PyData.strOk z=true:=by
   unfold PyData.strOk;rw [← Array.all_toList,adE];intro c hc;exact aaw (by have:=hz.2.2 c hc;lia)
  rw [z4];simp only [PyData.canLayAll0,PyData.canLay0,hs,ada];exact ih fun k hk=>h k (z8 _ hk)
theorem gy:∀ ks:List Str,PyData.eqvAll (ks.map PyData.str) (ks.map PyData.str)=true
 | []=>rfl
 | z::r=>by
  rw [z4];simp only [PyData.eqvAll,PyData.eqv,abN,ada];exact gy r
theorem dv:∀ ks:List Str,PyData.depthAll (ks.map PyData.str)=0
 | []=>rfl
 | z::r=>by
  rw [z4];simp only [PyData.depthAll,PyData.depth,dv r]
  rfl
theorem vU:br ["thing"] ["thing"] (ao ke):=scM rfl rfl rfl rfl (by decide +kernel)
theorem ux {f fK:Addr}{fd fdK:FuncData}(F:Fun K "are_locks" "are_locks" ke f fd)(GK:bO P w K mg base CX0 2 fK fdK ["thing"] iV)(cK:Cal K mg "are_kinds" ["thing"] fK fdK)(mLe:mg "len" = none)(mSo:mg "sorted" = none)(hM:∃ t,mg "MOST_LOCKS" = some (.int 4 t)) :
 bO P w K mg base CX0 3 f fd ["thing"] oD:=by
 obtain⟨tm,hM⟩:=hM;refine F.ok vU (fun vs H Q E h=>?_) (fun cdv A outer s H vs Q E hr h=>?_)
 ·obtain⟨a,ks,rfl,_⟩:=h
  rfl
 ·obtain⟨a,ks,rfl,ha,hk,h1,h4,hs,k⟩:=h;have hu:=iH hr;refine⟨_,av (bt (gR (cG GK hr rfl cK.mg cK.kp cK.b .nil gf (ae (pv 0) ah))
   (gR (vi uL uL aq (aw aS rfl mLe aaQ (ae (pv 0) ah)) (nC (v:=.int 4) rfl hM ⟨tm,rfl⟩))
   (mJ (gk rG (pv 0) (aw jr rfl mSo abu (ae (pv 0) ah)) (aZ _)))))),?_⟩
  refine⟨_,rfl,a,ks,rfl,ha,hk,by lia,fun H1 s1=>⟨true,rfl,?_⟩⟩;refine hV ?_;have ha1:=s1 a _ ha;refine⟨_,rfl,a,_,rfl,.inl (aAA ha1),1,_,rfl,rfl,true,aaG V.bl (aaw (by rw [zL];lia)),?_⟩;refine hV ?_;refine⟨_,4,rfl,rfl,true,aaG V.bl (aaw (by rw [zL];lia)),?_⟩;refine hV ?_;refine⟨_,rfl,_,rfl,a,ks,rfl,aAA ha1,by lia,fun l ss hl hp hs'=>?_⟩;have e:ss=ks:=du (aL hs') hs hp;subst e;have ne:a≠l:=ag ha1 hl;refine⟨.list (ss.map PyData.str),.list (ss.map PyData.str),.lst (by rw [ai ne];exact ha1) (SeesAll.strs ss),.lst af (SeesAll.strs ss),de hk,de hk,?_,?_⟩
  ·show _+min (PyData.depthAll (ss.map PyData.str)+1) (PyData.depthAll (ss.map PyData.str)+1) < cLine;rw [dv];exact hu
  ·have ee:PyData.eqv (.list (ss.map PyData.str)) (.list (ss.map PyData.str))=true:=gy ss;rw [ee];exact k _ fun b u e=>by rw [ai (ag (s1 b u e) hl)];exact s1 b u e
abbrev Rm:=List Str×List Str
structure iR (r:Rm):Prop where
 lk:∀ k∈r.1,bo k
 l1:1<=r.1.length
 l4:r.1.length<=4
 so:r.1.Pairwise leS
 kk:∀ k∈r.2,bo k
 kl:r.2.length<=1000
def RoomAt (H:Hp)(v:V)(r:Rm):Prop:=∃ t a b:Addr,v=.ref t/\H t=some (.tup [.ref a,.ref b])/\H a=some (.lst (r.1.map V.str))/\H b=some (.lst (r.2.map V.str))
theorem RoomAt.same {H H':Hp}{v:V}{r:Rm}(s:Same H H')(h:RoomAt H v r):RoomAt H' v r:=by
 obtain⟨t,a,b,e,h1,h2,h3⟩:=h;exact⟨t,a,b,e,s _ _ h1,s _ _ h2,s _ _ h3⟩
def rN:Sp:=fun vs H Q _=>∃ (v:V) (r:Rm),vs=[v]/\RoomAt H v r/\iR r/\∀ H',Same H H'->Q (.bl true) H'
theorem xO:br ["thing"] ["thing"] (ao qK):=scM rfl rfl rfl rfl (by decide +kernel)
theorem wc {f fL fK:Addr}{fd fdL fdK:FuncData}(F:Fun K "is_room" "is_room" qK f fd)(GL:bO P w K mg base CX0 3 fL fdL ["thing"] oD)(cL:Cal K mg "are_locks" ["thing"] fL fdL)
 (GK:bO P w K mg base CX0 2 fK fdK ["thing"] iV)(cK:Cal K mg "are_kinds" ["thing"] fK fdK)(mI:mg "isinstance" = none)(mLe:mg "len" = none)(mTu:mg "tuple" = none):bO P w K mg base CX0 4 f fd ["thing"] rN:=by
 refine F.ok xO (fun vs H Q E h=>?_) (fun cdv A outer s H vs Q E hr h=>?_)
 ·obtain⟨v,r,rfl,_⟩:=h
  rfl
 ·obtain⟨v,r,rfl,⟨t,a,b,rfl,ht,ha,hb⟩,ok,k⟩:=h;refine⟨_,av (bt (gR (aw cU rfl mI (by decide +kernel) (ae (pv 0) (ae (g0 (v:=.ty "tuple") (u:=.type "tuple") rfl mTu (by decide +kernel) rfl) ah)))
   (gR (gk ic (aw aS rfl mLe aaQ (ae (pv 0) ah)) aq (aZ _))
   (gR (cG GL hr rfl cL.mg cL.kp cL.b .nil gf (ae (bj cx (pv 0) aq (fun _ _=>rfl)) ah))
   (mJ (cG GK (hr.mono (by decide)) rfl cK.mg cK.kp cK.b .nil gf (ae (bj cx (pv 0) aq (fun _ _=>rfl)) ah))))))),?_⟩
  refine⟨_,rfl,_,_,_,true,rfl,.tup ht,fG K _,true,rfl,?_⟩;refine hV ?_;refine⟨_,rfl,t,_,rfl,.inr (aAB ht),rfl,true,rfl,?_⟩;refine hV ?_;refine⟨_,rfl,t,_,0,.ref a,rfl,rfl,aAB ht,rfl,a,r.1,rfl,ha,ok.lk,ok.l1,ok.l4,ok.so,fun H1 s1=>⟨true,rfl,?_⟩⟩;refine hV ?_;refine⟨_,rfl,t,_,1,.ref b,rfl,rfl,aAB (s1 _ _ ht),rfl,b,r.2,rfl,s1 _ _ hb,ok.kk,ok.kl,fun H2 s2=>?_⟩;exact k H2 (s1.trans s2)
abbrev Hs:=List Str×List Rm
def RoomsAt (H:Hp)(vs:List V)(rs:List Rm):Prop:=vs.length=rs.length/\∀ (i:Nat) (v:V) (r:Rm),vs[i]? = some v->rs[i]? = some r->RoomAt H v r
theorem RoomsAt.same {H H':Hp}{vs:List V}{rs:List Rm}(s:Same H H')(h:RoomsAt H vs rs):RoomsAt H' vs rs:=⟨h.1,fun i v r a b=>(h.2 i v r a b).same s⟩
def HouseAt (H:Hp)(v:V)(h:Hs):Prop:=∃ (t a r:Addr) (vs:List V),v=.ref t/\H t=some (.tup [.ref a,.ref r])/\H a=some (.lst (h.1.map V.str))/\H r=some (.lst vs)/\RoomsAt H vs h.2
theorem HouseAt.same {H H':Hp}{v:V}{h:Hs}(s:Same H H')(x:HouseAt H v h):HouseAt H' v h:=by
 obtain⟨t,a,r,vs,e,h1,h2,h3,h4⟩:=x;exact⟨t,a,r,vs,e,s _ _ h1,s _ _ h2,s _ _ h3,h4.same s⟩
structure aM (h:Hs):Prop where
 kk:∀ k∈h.1,bo k
 kl:h.1.length<=1000
 rs:∀ r∈h.2,iR r
 rl:h.2.length<=1000
def nN:Sp:=fun vs H Q _=>∃ (v:V) (h:Hs),vs=[v]/\HouseAt H v h/\aM h/\∀ H',Same H H'->Q (.bl true) H'
def wq:Sp:=fun vs H Q _=>∃ (v:V) (h:Hs),vs=[v]/\HouseAt H v h/\aM h/\∀ H',Same H H'->Q .non H'
theorem scHouse:br ["thing","keys","rooms"] ["thing"] (ao fW):=scM rfl rfl rfl rfl (by decide +kernel)
abbrev rH:Expr:=iP (pV (js ((aR fW).getD 2 (.Pass ⟨0,0,0,0⟩))))
theorem wM:fQ (ao fW) (dU rH) ["thing","keys","rooms"] ["room"] 1 []=true:=by decide +kernel
theorem nd4:(["room"]:List Str).Nodup:=by decide +kernel
theorem uR {f fR fK:Addr}{fd fdR fdK:FuncData}(F:Fun K "is_house" "is_house" fW f fd)(GR:bO P w K mg base CX0 4 fR fdR ["thing"] rN)(cR:Cal K mg "is_room" ["thing"] fR fdR)
 (GK:bO P w K mg base CX0 2 fK fdK ["thing"] iV)(cK:Cal K mg "are_kinds" ["thing"] fK fdK)(mI:mg "isinstance" = none)(mLe:mg "len" = none)(mTu:mg "tuple" = none)(mLi:mg "list" = none)(mAl:mg "all" = none):bO P w K mg base CX0 5 f fd ["thing"] nN:=by
 refine F.ok scHouse (fun vs H Q E h=>?_) (fun cdv A outer s H vs Q E hr h=>?_)
 ·obtain⟨v,r,rfl,_⟩:=h
  rfl
 ·obtain⟨v,hs,rfl,⟨t,a,r,vs,rfl,ht,ha,hr',hR⟩,ok,k⟩:=h;obtain⟨S,Cp⟩:=fe (X:=(qu CX0 P w K mg base ["thing","keys","rooms"] "is_house" (ao fW) f cdv A outer s H E).nox) (outer:=ao fW) (N:=["thing","keys","rooms"]) rfl rfl wM;refine⟨_,aj (dk (PW.pt (qy (kE (iw (aw cU rfl mI (by decide +kernel) (ae (pv 0) (ae (g0 (v:=.ty "tuple") (u:=.type "tuple") rfl mTu (by decide +kernel) rfl) ah)))))
   (j7 (aT xE (aw aS rfl mLe aaQ (ae (pv 0) ah)) aq (aZ _)))))
   (av (bt jP)) bw)
   (aj (gc (pv 0) (fi rfl (az (ay (i:=1) scHouse.nd rfl (.inl rfl)) (az (ay (i:=2) scHouse.nd rfl (.inl rfl)) bQ))))
   (av (bt (gR (cG GK (hr.mono (by decide)) rfl cK.mg cK.kp cK.b .nil gf (ae (pv 1) ah))
    (gR (aw cU rfl mI (by decide +kernel) (ae (pv 2) (ae (g0 (v:=.ty "list") (u:=.type "list") rfl mLi (by decide +kernel) rfl) ah)))
    (mJ (aw (lJ rfl) rfl mAl (by decide +kernel) (ae (eK (tg:=.Name "room" _) rfl S Cp (bN (pv 2))
     (fun _ _ _ _=>ay (i:=0) nd4 rfl (.inl rfl) (.inr rfl)) (fun _ _ _ _=>bX)
     (fun _ _ _ _=>cG GR hr rfl cR.mg cR.kp cR.b .nil gf (ae (pv 0) ah))) ah)))))))),?_⟩
  refine⟨_,rfl,_,_,_,true,rfl,.tup ht,fG K _,true,rfl,?_⟩;refine dR ?_;refine⟨_,rfl,t,_,rfl,.inr (aAB ht),rfl,false,rfl,?_⟩;refine dR ?_;refine⟨_,rfl,t,_,rfl,aAB ht,rfl,_,_,rfl,_,_,rfl,rfl,?_⟩;refine⟨_,rfl,a,hs.1,rfl,ha,ok.kk,ok.kl,fun H1 s1=>⟨true,rfl,?_⟩⟩;refine hV ?_;refine⟨_,rfl,_,_,_,true,rfl,.lst (s1 _ _ hr'),fG K _,true,rfl,?_⟩;refine hV ?_;dsimp only [qj,we,tCB,cf,gh];refine bP _ _ _ _ _ _ _ _ _ ?_;refine⟨_,rfl,r,rfl,⟨_,aAA (s1 _ _ hr')⟩,?_⟩;intro D hD;have hl:vs.length<=1000:=by rw [hR.1];exact ok.rl
  refine eA (xs:=vs) (fun i ys H2=>ys=(List.replicate i true).map V.bl/\i<=1000/\H2 D=some (.lst ys)/\Same H1 H2) ⟨rfl,by decide,af,fun b u e=>by rw [ai (ag e hD)];exact e⟩ (fun i ys H2 ⟨_,_,h,_⟩=>h) (fun i ys H2 ⟨_,_,_,sm⟩=>aAA (sm r _ (s1 _ _ hr'))) ?_ ?_
  ·rintro i ys H2 x hx ⟨rfl,hi0,hD2,sm⟩;have hi:i < vs.length:=(zJ.mp hx).1;have hi':i < hs.2.length:=by rw [← hR.1];exact hi
   refine eE rfl ?_;refine⟨_,rfl,x,hs.2[i],rfl,((hR.2 i x _ hx (zG hi')).same s1).same sm,ok.rs _ (aak hi'),fun H3 sm3=>?_⟩;refine⟨sm3 D _ hD2,by rw [zL,aaH];exact bu (by lia),nx hi ⟨?_,by lia,af,fun b u e=>?_⟩⟩
   ·rw [adP,aax]
    rfl
   ·rw [ai (ag e hD)];exact sm3 b u (sm b u e)
  ·rintro ys H2 ⟨rfl,_,hD2,sm⟩;refine⟨D,List.replicate vs.length true,rfl,aAA hD2,?_⟩;have e:(List.replicate vs.length true).all id=true:=by simp
   rw [e];exact k H2 (s1.trans sm)
theorem yx:br ["thing"] ["thing"] (ao wX):=scM rfl rfl rfl rfl (by decide +kernel)
theorem yd {f fH:Addr}{fd fdH:FuncData}(F:Fun K "require_house" "require_house" wX f fd)(GH:bO P w K mg base CX0 5 fH fdH ["thing"] nN)(cH:Cal K mg "is_house" ["thing"] fH fdH):bO P w K mg base CX0 6 f fd ["thing"] wq:=by
 refine F.ok yx (fun vs H Q E h=>?_) (fun cdv A outer s H vs Q E hr h=>?_)
 ·obtain⟨v,r,rfl,_⟩:=h
  rfl
 ·obtain⟨v,hs,rfl,hh,ok,k⟩:=h;refine⟨_,av (dk (kE (iw (cG GH hr rfl cH.mg cH.kp cH.b .nil gf (ae (pv 0) ah)))) tQ bw),?_⟩;refine⟨_,rfl,v,hs,rfl,hh,ok,fun H1 s1=>⟨true,rfl,?_⟩⟩;refine dR ?_;exact k H1 s1
def uu (e:Expr):Expr:=match e with
 | .Tuple es _ _=>es.getLastD e
 | e=>e
def RoomOff (D:Addr)(H:Hp)(v:V)(r:Rm):Prop:=∃ t a b:Addr,v=.ref t/\H t=some (.tup [.ref a,.ref b])/\H a=some (.lst (r.1.map V.str))/\H b=some (.lst (r.2.map V.str))/\t≠D/\a≠D/\b≠D
theorem RoomOff.at {D:Addr}{H:Hp}{v:V}{r:Rm}(h:RoomOff D H v r):RoomAt H v r:=let ⟨t,a,b,e,h1,h2,h3,_⟩:=h;⟨t,a,b,e,h1,h2,h3⟩
theorem RoomOff.on {D:Addr}{H H':Hp}{v:V}{r:Rm}(h:RoomOff D H v r)(s:∀ b u,b≠D->H b=some u->H' b=some u):RoomOff D H' v r:=by
 obtain⟨t,a,b,e,h1,h2,h3,n1,n2,n3⟩:=h;exact⟨t,a,b,e,s _ _ n1 h1,s _ _ n2 h2,s _ _ n3 h3,n1,n2,n3⟩
def pf:Sp:=fun vs H Q _=>∃ (v:V) (h:Hs),vs=[v]/\HouseAt H v h/\aM h/\∀ (t a D:Addr) (ys:List V) (H':Hp),Same H H'->H D=none->t≠D->a≠D->H' t=some (.tup [.ref a,.ref D])->H' a=some (.lst (h.1.map V.str))->H' D=some (.lst ys)->ys.length=h.2.length->(∀ (j:Nat) v r,ys[j]? = some v->h.2[j]? = some r->RoomOff D H' v r)->Q (.ref t) H'
theorem xw:br ["house"] ["house"] (ao jO):=scM rfl rfl rfl rfl (by decide +kernel)
abbrev um:Expr:=uu (js ((aR jO).getD 0 (.Pass ⟨0,0,0,0⟩)))
theorem xm:fQ (ao jO) (dU um) ["house"] ["locks","keys"] 2 []=true:=by decide +kernel
theorem nd5:(["locks","keys"]:List Str).Nodup:=by decide +kernel
theorem vR {f:Addr}{fd:FuncData}(F:Fun K "_law_copy" "_law_copy" jO f fd)(mLi:mg "list" = none):bO P w K mg base CX0 1 f fd ["house"] pf:=by
 refine F.ok xw (fun vs H Q E h=>?_) (fun cdv A outer s H vs Q E hr h=>?_)
 ·obtain⟨v,h,rfl,_⟩:=h
  rfl
 ·obtain⟨v,hs,rfl,⟨t,a,r,vs,rfl,ht,ha,hr',hR⟩,ok,k⟩:=h;obtain⟨S,Cp⟩:=fe (X:=(qu CX0 P w K mg base ["house"] "_law_copy" (ao jO) f cdv A outer s H E).nox) (outer:=ao jO) (N:=["house"]) rfl rfl xm;refine⟨_,av (bt (dO (ae (dz dM rfl mLi (by decide +kernel) (ae (bj cx (pv 0) aq (fun _ _=>rfl)) ah))
   (ae (eK rfl S Cp (bN (bj cx (pv 0) aq (fun _ _=>rfl)))
    (fun _ _ _ _=>eW (K:=K) (n:=2) rfl rfl (az (ay (i:=0) nd5 rfl (.inl rfl) (.inr rfl)) (az (ay (i:=1) nd5 rfl (.inl rfl) (.inr rfl)) bQ))) (fun _ _ _ _=>bX)
    (fun _ _ _ _=>dO (ae (dz (jU (K:=K) rfl) rfl mLi (by decide +kernel) (ae (pv 0) ah)) (ae (dz (jU (K:=K) rfl) rfl mLi (by decide +kernel) (ae (pv 1) ah)) ah)))) ah)))),?_⟩
  refine⟨_,rfl,t,_,0,.ref a,rfl,rfl,aAB ht,rfl,a,_,rfl,.inl (aAA ha),fun a1 ha1=>?_⟩;have sm0:Same H (upd H a1 (.lst (hs.1.map V.str))):=fun b u e=>by rw [ai (ag e ha1)];exact e
  dsimp only [cf,gh];refine bP _ _ _ _ _ _ _ _ _ ?_;refine⟨_,rfl,t,_,1,.ref r,rfl,rfl,aAB (sm0 _ _ ht),rfl,r,rfl,⟨_,aAA (sm0 _ _ hr')⟩,?_⟩;intro D hD;have hl:vs.length<=1000:=by rw [hR.1];exact ok.rl
  have naD:a1≠D:=ag (show (upd H a1 (.lst (hs.1.map V.str))) a1=some _ from af) hD;refine eA (xs:=vs) (fun i ys H2=>i<=1000/\ys.length=i/\(∀ (j:Nat) (v:V) (rm:Rm),ys[j]? = some v->hs.2[j]? = some rm->RoomOff D H2 v rm)/\H2 D=some (.lst ys)/\Same (upd H a1 (.lst (hs.1.map V.str))) H2)
   ⟨by decide,rfl,(fun j v rm e=>by simp at e),af,fun b u e=>by rw [ai (ag e hD)];exact e⟩ (fun i ys H2 ⟨_,_,_,h,_⟩=>h) (fun i ys H2 ⟨_,_,_,_,sm⟩=>aAA (sm r _ (sm0 _ _ hr'))) ?_ ?_
  ·rintro i ys H2 x hx ⟨hi0,hyl,hrm,hD2,sm⟩;have hi:i < vs.length:=(zJ.mp hx).1;have hi':i < hs.2.length:=by rw [← hR.1];exact hi
   obtain⟨tt,aa,bb,rfl,g1,g2,g3⟩:=((hR.2 i x _ hx (zG hi')).same sm0).same sm;refine pL tt (.ref aa) (.ref bb) rfl (aAB g1) rfl ?_;refine⟨_,rfl,aa,_,rfl,.inl (aAA g2),fun l1 n1=>?_⟩;have m1:Same H2 (upd H2 l1 (.lst ((hs.2[i]).1.map V.str))):=fun b u e=>by rw [ai (ag e n1)];exact e
   refine⟨_,rfl,bb,_,rfl,.inl (aAA (m1 _ _ g3)),fun l2 n2=>?_⟩;have m2:Same (upd H2 l1 (.lst ((hs.2[i]).1.map V.str))) (upd (upd H2 l1 (.lst ((hs.2[i]).1.map V.str))) l2 (.lst ((hs.2[i]).2.map V.str))):=fun b u e=>by rw [ai (ag e n2)];exact e
   refine⟨by show 2<=sizeLine;decide,fun tn n3=>?_⟩;generalize hH3:upd (upd H2 l1 (.lst ((hs.2[i]).1.map V.str))) l2 (.lst ((hs.2[i]).2.map V.str))=H3 at *;have e1:H3 l1=some (.lst ((hs.2[i]).1.map V.str)):=m2 _ _ af;have e2:H3 l2=some (.lst ((hs.2[i]).2.map V.str)):=by rw [← hH3];exact af
   have m3:Same H3 (upd H3 tn (.tup [.ref l1,.ref l2])):=fun b u e=>by rw [ai (ag e n3)];exact e
   have m03:Same H2 (upd H3 tn (.tup [.ref l1,.ref l2])):=(m1.trans m2).trans m3;have d1:D≠l1:=ag hD2 n1;have d2:D≠l2:=ag (m1 _ _ hD2) n2;have d3:D≠tn:=ag ((m1.trans m2) _ _ hD2) n3;have rmNew:RoomOff D (upd H3 tn (.tup [.ref l1,.ref l2])) (.ref tn) hs.2[i]:=⟨tn,l1,l2,rfl,af,m3 _ _ e1,m3 _ _ e2,d3.symm,d1.symm,d2.symm⟩;have hDn:=m03 D _ hD2;have mD:∀ o,(∀ b u,b≠D->(upd H3 tn (.tup [.ref l1,.ref l2])) b=some u->(upd (upd H3 tn (.tup [.ref l1,.ref l2])) D o) b=some u):=fun o b u nb e=>by rw [ai nb];exact e
   refine⟨hDn,by rw [hyl];exact bu (by lia),nx hi ⟨by lia,by rw [zH,hyl];rfl,fun j v rm q1 q2=>?_,af,fun b u e=>?_⟩⟩
   ·by_cases hj:j < i
    ·rw [aav (by lia)] at q1;exact ((hrm j v rm q1 q2).on fun b u _ e=>m03 b u e).on (mD _)
    ·have hjl:j < (ys++[V.ref tn]).length:=(zJ.mp q1).1;rw [zH,aa2] at hjl;have ej:j=i:=by lia
     subst ej;rw [aae (by lia),hyl,abD] at q1;cases q1;rw [zG hi'] at q2;cases q2;exact rmNew.on (mD _)
   ·rw [ai (ag e hD)];exact m03 b u (sm b u e)
  ·rintro ys H2 ⟨_,hyl,hrm,hD2,sm⟩;refine⟨by show 2<=sizeLine;decide,fun tn n3=>?_⟩;have m3:Same H2 (upd H2 tn (.tup [.ref a1,.ref D])):=fun b u e=>by rw [ai (ag e n3)];exact e
   have tD:tn≠D:=fun z=>by rw [z,hD2] at n3;cases n3
   exact k tn a1 D ys _ ((sm0.trans sm).trans m3) (sm0.free hD) tD naD af (m3 _ _ (sm _ _ af)) (m3 _ _ hD2) (by rw [hyl,hR.1]) fun j v rm e1 e2=>(hrm j v rm e1 e2).on fun b u _ e=>m3 b u e
end
end K7
namespace L2
open PySem PySem.Spec PyProof.Rows
section
variable {X:Cx}{o e:Expr}{es:List Expr}{to:TE}{t:TA}{name:Str}{apos cpos:Pos}{T id:String}{r:V->List V->Hp->VK->Prop}{K:PySem.W.Frag}
end
end L2
namespace K7
open PySem L2 PyProof.Rows
def aE (h:Hs):List Str:=h.1++h.2.flatMap (·.2)
def aU (h:Hs):List Str:=h.2.flatMap (·.1)
structure pC (h:Hs):Prop where
 few:∃ U:List Str,U.length < 61/\∀ x,(x∈aE h\/x∈aU h)->x∈U
 nk:(aE h).length<=1000
 nl:(aU h).length<=1000
theorem aV {α:Type}[DecidableEq α]:∀ {l U:List α},l.Nodup->(∀ x∈l,x∈U)->l.length<=U.length
 | [],U,_,_=>zZ _
 | a::r,U,hn,h=>by
  rw [abU] at hn;have ha:=h a z7;have ih:=aV (U:=U.erase a) hn.2 fun x hx=>by
   have ne:x≠a:=fun z=>hn.1 (z▸hx);exact (List.mem_erase_of_ne ne).mpr (h x (z8 _ hx))
  have hl:=aem ha;have hp:0 < U.length:=adk ha;rw [aaq];lia
end K7
namespace L2
open PySem PySem.Spec PyProof.Rows
end L2
namespace K7
open PySem L2 PyProof.Rows
def vO (s:Stmt):List Stmt:=match s with
 | .For _ _ b _ _=>b
 | _=>[]
theorem lG:lettersS.cps.toList=List.range' 97 26:=by decide +kernel
theorem eu (r:Nat)(h:r < 26):atI lettersS.cps.toList (r:Int)=some (97+r):=dj (by rw [lG,List.getElem?_range' h];simp)
theorem dB:lettersS.length<=sizeLine:=by decide
def r9 (l:List Nat):Prop:=1<=l.length/\l.length<=4/\∀ c∈l,97<=c/\c<=122
theorem nY {z:Str}(h:r9 z.cps.toList):bo z:=by
 obtain⟨h1,h2,h3⟩:=h;have e:z.cps.toList.length=z.length:=zR;exact⟨by (first | lia | lia),by (first | lia | lia),h3⟩
theorem rV {z:Str}(h:bo z):r9 z.cps.toList:=by
 obtain⟨h1,h2,h3⟩:=h;have e:z.cps.toList.length=z.length:=zR;exact⟨by (first | lia | lia),by (first | lia | lia),h3⟩
def fX (t:Nat):Str:=⟨#[97+t / 26,97+t % 26,122,122]⟩
theorem uW {s t:Nat}(h:fX s=fX t):s=t:=by
 unfold fX at h;injection h with h
 have h':=aaG Array.toList h;simp only [acC] at h'
 (first | lia | lia)
theorem v9 {t:Nat}(h:t < 676):bo (fX t):=by
 refine⟨by show 1<=4;decide,by show 4<=4;decide,fun c hc=>?_⟩;have hc':c∈[97+t / 26,97+t % 26,122,122]:=hc;simp only [aab,aaI,aca] at hc'
 (first | lia | lia)
def pj:Sp:=fun vs H Q _=>∃ (p:Addr) (n:Nat) (c:Int),vs=[.ref p,.int n]/\aK H p c/\n<=60/\0<=c/\c+540 < 1000000 ∧
 ∀ (l:Addr) (ks:List Str) (c':Int) (H':Hp),H l=none->ks.length=n->(∀ k∈ks,bo k)->ks.Nodup->H' l=some (.lst (ks.map V.str))->aK H' p c'->c<=c'->c'<=c+540->But p H H'->Q (.ref l) H'
theorem jY:∀ {ss:List Str},(∀ x∈ss,∃ c,x=⟨#[c]⟩/\97<=c/\c<=122)->((ss.map (·.cps.toList)).flatten).length=ss.length/\∀ c∈(ss.map (·.cps.toList)).flatten,97<=c/\c<=122
 | [],_=>⟨rfl,(fun c h=>by simp at h)⟩
 | a::r,h=>by
  obtain⟨c,rfl,h1,h2⟩:=h a z7;obtain⟨i1,i2⟩:=jY (ss:=r) fun x hx=>h x (z8 _ hx);rw [z4,adu];refine⟨?_,fun d hd=>?_⟩
  ·rw [zH,i1,aaq];show 1+r.length=r.length+1
   (first | lia | lia)
  ·rcases zS.mp hd with hd | hd
   ·have:d=c:=by simpa using hd
    (first | lia | lia)
   ·exact i2 d hd
theorem oS:∀ {ss:List Str},(∀ x∈ss,∃ c,x=⟨#[c]⟩/\97<=c/\c<=122)->(ss.map (·.length)).sum=ss.length
 | [],_=>rfl
 | a::r,h=>by
  obtain⟨c,rfl,h1,h2⟩:=h a z7;rw [z4,adQ,oS fun x hx=>h x (z8 _ hx),aaq];show 1+r.length=r.length+1
  (first | lia | lia)
theorem sf (z:Str)(ks:List Str):inV (.str z) (ks.map V.str)=decide (z∈ks):=by
 unfold inV
 induction ks with
 | nil=>rfl
 | cons a r ih =>
  rw [z4,acY,ih];show (a == z || decide (z∈r))=_;by_cases e:a=z
  ·subst e;simp
  ·have e':(a == z)=false:=by simpa using e
   rw [e',Bool.false_or];by_cases hz:z∈r
   ·simp [hz]
   ·simp [hz,aaA e]
theorem me (ks:List Str):(ks.map V.str).all kQ=true:=by
 rw [af9,adE];intro _ _
 rfl
theorem iQ {z:Str}(h:bo z):z.length<=sizeLine:=aan (bu (by have:=h.2.1;(first | lia | lia)))
theorem rJ {ks:List Str}(h:ks≠[]):∃ y,y∈ks/\atI (ks.map V.str) (-1)=some (.str y):=by
 rcases List.eq_nil_or_concat ks with e | ⟨r,y,e⟩
 ·exact absurd e h
 ·rw [List.concat_eq_append] at e;subst e;exact⟨y,by simp,by rw [aax];exact uh _ _⟩
theorem rZ (ks:List Str):PyData.eqv (.list (ks.map PyData.str)) (.list [])=ks.isEmpty:=by
 cases ks with
 | nil=>rfl
 | cons a r=>rfl
def xM (s:Stmt):Expr:=match s with
 | .Assign _ e _=>e
 | _=>.Name "" ⟨0,0,0,0⟩
section
variable {P:Program}{w:World}{K:PySem.W.Frag}{mg:Str->Option Value}{base:Heap}
theorem scMade:br ["pool","many","letters","found","k","kind","way","at","turn"] ["pool","many"] (ao iJ):=scM rfl rfl rfl rfl (by decide +kernel)
abbrev uA:Expr:=iP (xM ((vO ((aR iJ).getD 2 (.Pass ⟨0,0,0,0⟩))).getD 0 (.Pass ⟨0,0,0,0⟩)))
theorem xH:fQ (ao iJ) (dU uA) ["pool","many","letters","found","k","kind","way","at","turn"] ["j","letters","pool"] 1 [2,0]=true:=by decide +kernel
theorem nd8:(["j","letters","pool"]:List Str).Nodup:=by decide +kernel
inductive yT (p:Addr)(n:Nat)(l:Addr)(i:Nat)(c1:Int)(H2:Hp)(σ':L2.St)(H':Hp):Prop
 | mk (x6 x7 x8:Option V) (z:Str) (c':Int):(σ'=[some (.ref p),some (.int n),some (.str lettersS),some (.ref l),some (.int (0+i)),some (.str z),x6,x7,x8])->(bo z)->(aK H' p c')->(c1<=c')->(c'<=c1+5)->(But p H2 H')->yT p n l i c1 H2 σ' H'
inductive zf (p:Addr)(n:Nat)(l:Addr)(i:Nat)(wy:Int)(c1:Int)(H2:Hp)(σ':L2.St)(H':Hp):Prop
 | mk (x7 x8:Option V) (z:Str) (c':Int):(σ'=[some (.ref p),some (.int n),some (.str lettersS),some (.ref l),some (.int (0+i)),some (.str z),some (.int wy),x7,x8])->(bo z)->(aK H' p c')->(c1<=c')->(c'<=c1+7)->(But p H2 H')->zf p n l i wy c1 H2 σ' H'
inductive yR (p:Addr)(n:Nat)(l:Addr)(i:Nat)(wy:Int)(c1:Int)(H2:Hp)(σ':L2.St)(H':Hp):Prop
 | mk (x7 x8:Option V) (z:Str) (c':Int):(σ'=[some (.ref p),some (.int n),some (.str lettersS),some (.ref l),some (.int (0+i)),some (.str z),some (.int wy),x7,x8])->(bo z)->(aK H' p c')->(c1<=c')->(c'<=c1+9)->(But p H2 H')->yR p n l i wy c1 H2 σ' H'
inductive MdL (p l:Addr)(n:Nat)(c:Int)(H:Hp)(i:Nat)(σ:L2.St)(H2:Hp):Prop
 | mk (x4 x5 x6 x7 x8:Option V) (ks:List Str) (c':Int):σ=[some (.ref p),some (.int n),some (.str lettersS),some (.ref l),x4,x5,x6,x7,x8]->ks.length=i->(∀ k∈ks,bo k)->ks.Nodup->H2 l=some (.lst (ks.map V.str))->aK H2 p c'->c<=c'->c'<=c+9 * i->But p H H2->MdL p l n c H i σ H2
theorem wb {f fT:Addr}{fd fdT:FuncData}(F:Fun K "_law_kinds" "_law_kinds" iJ f fd)(GT:bO P w K mg base CX0 1 fT fdT ["pool","many"] fU)(cT:Cal K mg "_law_take" ["pool","many"] fT fdT)(mR:mg "range" = none)(mL:mg "len" = none) :
 bO P w K mg base CX0 2 f fd ["pool","many"] pj:=by
 refine F.ok scMade (fun vs H Q E h=>?_) (fun cdv A outer s H vs Q E hr h=>?_)
 ·obtain⟨p,n,c,rfl,_⟩:=h
  rfl
 ·obtain⟨p,n,c,rfl,⟨o,hp,hpo⟩,hn,hc,hcn,k⟩:=h;have hu:=iH hr;obtain⟨S,Cp⟩:=fe (X:=(qu CX0 P w K mg base ["pool","many","letters","found","k","kind","way","at","turn"] "_law_kinds" (ao iJ) f cdv A outer s H E).nox) (outer:=ao iJ) (N:=["pool","many","letters","found","k","kind","way","at","turn"]) rfl rfl xH;have tk:∀ {b:Expr} {t:TE},PE (qu CX0 P w K mg base ["pool","many","letters","found","k","kind","way","at","turn"] "_law_kinds" (ao iJ) f cdv A outer s H E).nox b t->True:=fun _=>trivial;refine⟨_,aj (aF (i:=2) scMade.nd rfl (.inr rfl) lW)
   (aj (aF (i:=3) scMade.nd rfl (.inl rfl) (bU ah))
   (aj (dJ aaN rfl (eC rfl mR (ae (pv 1) ah)) (ay (i:=4) scMade.nd rfl (.inl rfl))
    (aj (bF (aF (i:=5) scMade.nd rfl (.inl rfl) (fb PySem.F.plainAttrs_str PySem.F.slot_str_join PySem.F.type_str_join vW lW (ae (eK (tg:=.Name "j" _) rfl S Cp
     (eC rfl mR (ae (aY dh aq (cG GT hr rfl cT.mg cT.kp cT.b .nil gf (ae (pv 0) (ae aq ah)))) ah))
     (fun _ _ _ _=>ay (i:=0) nd8 rfl (.inl rfl) (.inr rfl)) (fun _ _ _ _=>bX)
     (fun _ _ _ _=>bj mQ (pv 1) (cG GT hr rfl cT.mg cT.kp cT.b .nil gf (ae (pv 2) (ae aq ah))) (fun _ _=>rfl))) ah))))
    (aj (aF (i:=6) scMade.nd rfl (.inl rfl) (cG GT hr rfl cT.mg cT.kp cT.b .nil gf (ae (pv 0) (ae aq ah))))
    (aj (bF (dk (PW.pt (jq (aT ic (pv 6) aq (aZ _)) (hZ (aT ft (pv 3) (bU ah) (aZ _)))))
     (av (aF (i:=5) scMade.nd rfl (.inl rfl) (fE rp (aY en (bj bg (pv 3) (vm oH aq) (fun _ _=>rfl)) (bj mQ (pv 2) (cG GT hr rfl cT.mg cT.kp cT.b .nil gf (ae (pv 0) (ae aq ah))) (fun _ _=>rfl))) ie (h7 aq)))) bw))
    (aj (bF (dk (PW.pt (jq (aT ic (pv 6) aq (aZ _)) (hZ (aT ft (pv 3) (bU ah) (aZ _)))))
     (aj (aF (i:=7) scMade.nd rfl (.inl rfl) (cG GT hr rfl cT.mg cT.kp cT.b .nil gf (ae (pv 0) (ae (aw iq rfl mL aaQ (ae (bj bg (pv 3) (vm oH aq) (fun _ _=>rfl)) ah)) ah))))
     (av (aF (i:=5) scMade.nd rfl (.inl rfl) (aY en (aY en (fE rp (bj bg (pv 3) (vm oH aq) (fun _ _=>rfl)) ie (h7 (pv 7)))
      (bj mQ (pv 2) (cG GT hr rfl cT.mg cT.kp cT.b .nil gf (ae (pv 0) (ae aq ah))) (fun _ _=>rfl)))
      (fE rp (bj bg (pv 3) (vm oH aq) (fun _ _=>rfl)) (h7 (aY dh (pv 7) aq)) ie))))) bw))
    (aj (aF (i:=8) scMade.nd rfl (.inl rfl) aq)
    (aj (oO aaN (aT rT (pv 5) (pv 3) rfl)
     (aj (aF (i:=5) scMade.nd rfl (.inl rfl) (aY en (aY en (bj mQ (pv 2) (aY nJ (pv 8) aq) (fun _ _=>rfl)) (bj mQ (pv 2) (aY kj (pv 8) aq) (fun _ _=>rfl))) lW))
     (av (aF (i:=8) scMade.nd rfl (.inl rfl) (aY dh (pv 8) aq)))))
    (av (cW (fb aam aa0 aa1 cO (pv 3) (ae (pv 5) ah)))))))))))
   (av (bt (pv 3))))),?_⟩
  refine⟨zZ _,fun l hl=>?_⟩;have npl:p≠l:=ag hp hl
  first | refine tvE rfl ?_ | refine⟨_,rfl,?_⟩
  refine⟨(n:Int),rfl,by (first | lia | lia),by (first | lia | lia),?_⟩;refine gL (n:=n) (MdL p l n c H) ?_ ?_ ?_
  ·exact⟨none,none,none,none,none,[],c,rfl,rfl,(fun k h=>nomatch h),ady,af,⟨o,by rw [ai npl];exact hp,hpo⟩,acP _,by (first | lia | lia),(But.refl p H).new hl⟩
  ·rintro i σ H2 hi ⟨x4,x5,x6,x7,x8,ks,c1,rfl,hkl,hko,hkn,hl2,⟨o2,hp2,hpo2⟩,hc1,hc1',hb⟩;have sk:ks.length<=60:=by (first | lia | lia)
   have keepL:∀ {H3:Hp},But p H2 H3->H3 l=some (.lst (ks.map V.str)):=fun b=>b l _ (aaA npl) hl2;refine⟨yT p n l i c1 H2,?_,?_⟩
   ·rintro σ H3 ⟨x6,x7,x8,z,c2,rfl,hz,⟨o3,hp3,hpo3⟩,g1,g2,b3⟩
    first | refine tvE rfl ?_ | refine⟨_,rfl,?_⟩
    refine⟨p,4,c2,o3,rfl,hp3,hpo3,by decide,by decide,by (first | lia | lia),by (first | lia | lia),fun wy c3 o4 w0 w1 g3 g4 hpo4=>?_⟩;have b4:But p H2 (upd H3 p o4):=b3.trans But.upd;generalize hH4:upd H3 p o4=H4 at b4;have hp4:H4 p=some o4:=by rw [← hH4];exact af
    have hl4:=keepL b4;have seesL:∀ {H':Hp},H' l=some (.lst (ks.map V.str))->Sees H' (.ref l) (.list (ks.map PyData.str)):=fun e=>.lst e (SeesAll.strs ks);have unit:(A.deeper (envOfC "_law_kinds" (ao iJ) s.heap.objs.size f cdv)).units+min (PyData.depth (.list (ks.map PyData.str))) (PyData.depth (.list [])) < cLine:=by
     show _+min (PyData.depthAll (ks.map PyData.str)+1) 1 < cLine;rw [dv];exact hu
    refine⟨zf p n l i wy c1 H2,?_,?_⟩
    ·rintro σ H5 ⟨x7,x8,z,c4,rfl,hz,⟨o5,hp5,hpo5⟩,g5,g6,b5⟩;have hl5:=keepL b5;refine⟨yR p n l i wy c1 H2,?_,?_⟩
     ·rintro σ H6 ⟨x7,x8,z,c5,rfl,hz,hp6,g7,g8,b6⟩;have hl6:=keepL b6;refine⟨fun m σ' H'=>H'=H6/\∃ (z:Str) (t:Nat),σ'=[some (.ref p),some (.int n),some (.str lettersS),some (.ref l),some (.int (0+i)),some (.str z),some (.int wy),x7,some (.int t)]/\m=100 - t/\t<=61/\bo z/\(∀ t',t=t'+1->z=fX t')/\∀ j,j+1 < t->fX j∈ks,⟨100,rfl,z,0,rfl,rfl,by decide,hz,(fun t' e=>by (first | lia | lia)),(fun j h=>by (first | lia | lia))⟩,?_⟩;rintro m σ' H' ⟨rfl,z,t,rfl,rfl,ht,hz,hzt,hw⟩;by_cases hin:z∈ks
      ·first | refine tvE rfl ?_ | refine⟨_,rfl,?_⟩
       first | refine tvE rfl ?_ | refine⟨_,rfl,?_⟩
       refine⟨l,_,rfl,.inl (aAA hl6),rfl,me ks,true,aaG V.bl (by rw [if_neg zO,sf,aaw hin]),hV ?_⟩;have all:∀ j,j < t->fX j∈ks:=fun j hj=>by
        by_cases e:j+1=t
        ·have:=hzt j e.symm;rw [← this];exact hin
        ·exact hw j (by (first | lia | lia))
       have tl:t<=ks.length:=vK t fX ks (fun a b _ _ e=>uW e) all;refine⟨fun σ' H''=>H''=H'/\σ'=[some (.ref p),some (.int n),some (.str lettersS),some (.ref l),some (.int (0+i)),some (.str (fX t)),some (.int wy),x7,some (.int ((t+1:Nat):Int))],?_,?_⟩
       ·rintro σ' H'' ⟨rfl,rfl⟩;refine⟨100 - (t+1),by (first | lia | lia),rfl,fX t,t+1,rfl,rfl,by (first | lia | lia),v9 (by (first | lia | lia)),fun t' e=>?_,fun j hj=>all j (by (first | lia | lia))⟩;have:t=t':=by (first | lia | lia)
        rw [this]
       ·first | refine tvE rfl ?_ | refine⟨_,rfl,?_⟩
        first | refine tvE rfl ?_ | refine⟨_,rfl,?_⟩
        refine⟨_,26,rfl,rfl,⟨by decide,by decide⟩,lettersS,_,97+t / 26,rfl,rfl,dB,?_,?_⟩
        ·rw [show ((t:Int) / 26)=((t / 26:Nat):Int) from by (first | lia | lia)];exact eu _ (by (first | lia | lia))
        first | refine tvE rfl ?_ | refine⟨_,rfl,?_⟩
        first | refine tvE rfl ?_ | refine⟨_,rfl,?_⟩
        refine⟨_,26,rfl,rfl,(by show (0:Int) < 26;decide),lettersS,_,97+t % 26,rfl,rfl,dB,?_,?_⟩
        ·rw [show ((t:Int) % 26)=((t % 26:Nat):Int) from by (first | lia | lia)];exact eu _ (by (first | lia | lia))
        refine⟨_,_,rfl,rfl,by show 1+1<=sizeLine;decide,_,_,rfl,rfl,by show 2+2<=sizeLine;decide,?_⟩
        first | refine tvE rfl ?_ | refine⟨_,rfl,?_⟩
        refine⟨_,1,rfl,rfl,rfl,?_⟩
        rfl
      ·first | refine tvE rfl ?_ | refine⟨_,rfl,?_⟩
       first | refine tvE rfl ?_ | refine⟨_,rfl,?_⟩
       refine⟨l,_,rfl,.inl (aAA hl6),rfl,me ks,false,aaG V.bl (by rw [if_neg zO,sf,aah hin]),dR ?_⟩
       first | refine tvE rfl ?_ | refine⟨_,rfl,?_⟩
       refine⟨.inl ⟨rfl,_,aAA hl6⟩,_,rfl,l,_,_,rfl,rfl,hl6,by rw [zL];exact bu (by (first | lia | lia)),?_⟩;refine⟨_,_,_,_,_,ks++[z],c5,rfl,by rw [zH,hkl];rfl,fun k hk=>?_,?_,by rw [af,aax];rfl,?_,by (first | lia | lia),by (first | lia | lia),fun b u hb' e=>?_⟩
       ·rcases zS.mp hk with hk | hk
        ·exact hko k hk
        ·rw [zQ.mp hk];exact hz
       ·exact dE hkn hin (.refl _)
       ·obtain⟨o6,q1,q2⟩:=hp6;exact⟨o6,by rw [ai npl];exact q1,q2⟩
       ·rw [ai (ag e hl)];exact b6 b u hb' (hb b u hb' e)
     ·first | refine tvE rfl ?_ | refine⟨_,rfl,?_⟩
      refine⟨rfl,_,rfl,?_⟩;refine tZ (fun _=>?_) (fun _=>?_)
      ·first | refine tvE rfl ?_ | refine⟨_,rfl,?_⟩
       refine⟨zZ _,fun e ne=>?_⟩;have b6:But p H2 (upd H5 e (.lst [])):=fun b u hb' q=>by rw [ai (ag (b5 b u hb' q) ne)];exact b5 b u hb' q
       have npe:p≠e:=ag hp5 ne;have hp6:(upd H5 e (.lst [])) p=some o5:=by rw [ai npe];exact hp5
       generalize hH6:upd H5 e (.lst [])=H6 at b6 hp6;have hl6:=keepL b6;refine⟨_,_,seesL hl6,.lst (by rw [← hH6];exact af) .nil,de hko,rfl,unit,?_⟩;rw [rZ];cases hks:ks with
       | nil =>
        refine⟨false,rfl,?_⟩;refine dR ?_;exact⟨_,_,z,c4,rfl,hz,⟨o5,hp6,hpo5⟩,by (first | lia | lia),by (first | lia | lia),b6⟩
       | cons k0 kr =>
        refine⟨true,rfl,?_⟩;refine hV ?_;obtain⟨y,hy,ha⟩:=rJ (show ks≠[] by rw [hks];exact List.cons_ne_nil _ _);have yo:=rV (hko y hy);have yk:=hko y hy;have yl:y.cps.toList.length=y.length:=zR
        first | refine tvE rfl ?_ | refine⟨_,rfl,?_⟩
        first | refine tvE rfl ?_ | refine⟨_,rfl,?_⟩
        refine⟨1,rfl,l,_,_,_,rfl,rfl,aAA hl6,ha,y,rfl,iQ yk,?_⟩;refine⟨p,(y.length:Nat),c4,o5,rfl,hp6,hpo5,by have:=yk.1;(first | lia | lia),by have:=yk.2.1;(first | lia | lia),by (first | lia | lia),by (first | lia | lia),fun a c5 o6 a0 a1 g7 g8 hpo6=>?_⟩;obtain⟨an,rfl⟩:∃ an:Nat,a=(an:Int):=⟨a.toNat,by (first | lia | lia)⟩;have b7:But p H2 (upd H6 p o6):=b6.trans But.upd;have hl7:=keepL b7
        first | refine tvE rfl ?_ | refine⟨_,rfl,?_⟩
        refine⟨1,rfl,l,_,_,_,rfl,rfl,aAA hl7,ha,_,rfl,an,rfl,y,rfl,iQ yk,?_⟩
        first | refine tvE rfl ?_ | refine⟨_,rfl,?_⟩
        first | refine tvE rfl ?_ | refine⟨_,rfl,?_⟩
        refine⟨p,26,c5,o6,rfl,af,hpo6,by decide,by decide,by (first | lia | lia),by (first | lia | lia),fun q c6 o7 q0 q1 g9 g10 hpo7=>?_⟩;obtain⟨qn,rfl⟩:∃ qn:Nat,q=(qn:Int):=⟨q.toNat,by (first | lia | lia)⟩;refine⟨lettersS,_,97+qn,rfl,rfl,dB,eu qn (by (first | lia | lia)),?_⟩;have b8:But p H2 (upd (upd H6 p o6) p o7):=b7.trans But.upd;have hl8:=keepL b8;have s1:=oW y an;have s2:=p5 y (an+1);generalize Txt.slice y none (some (an:Int))=u1 at s1 ⊢;have l1:u1.length=min an y.length:=by
         have:u1.cps.toList.length=u1.length:=zR;rw [← this,s1,aad,yl]
        have y4:=yk.2.1;have le:(((⟨#[97+qn]⟩:Str)).cps.toList).length=1:=rfl;refine⟨u1,⟨#[97+qn]⟩,rfl,rfl,aan (bu (by show u1.length+1<=1000;(first | lia | lia))),?_⟩
        first | refine tvE rfl ?_ | refine⟨_,rfl,?_⟩
        refine⟨1,rfl,l,_,_,_,rfl,rfl,aAA hl8,ha,_,rfl,_,1,rfl,rfl,_,rfl,y,rfl,iQ yk,?_⟩;rw [show ((an:Int)+1)=((an+1:Nat):Int) from by (first | lia | lia)];generalize Txt.slice y (some ((an+1:Nat):Int)) none=u2 at s2 ⊢;have l2:u2.length=y.length - (an+1):=by
         have:u2.cps.toList.length=u2.length:=zR;rw [← this,s2,aaR,yl]
        have l3:(u1++(⟨#[97+qn]⟩:Str)).length=u1.length+1:=by
         have e1:(u1++(⟨#[97+qn]⟩:Str)).cps.toList.length=(u1++(⟨#[97+qn]⟩:Str)).length:=zR;have e2:u1.cps.toList.length=u1.length:=zR;rw [← e1,dy,zH,e2]
         rfl
        refine⟨_,u2,rfl,rfl,aan (bu (by rw [l3];(first | lia | lia))),?_⟩;refine⟨_,_,_,c6,rfl,nY ?_,⟨o7,af,hpo7⟩,by (first | lia | lia),by (first | lia | lia),b8⟩;rw [dy,dy,s1,s2];refine⟨?_,?_,fun c hc=>?_⟩
        ·rw [zH,zH,le];(first | lia | lia)
        ·rw [zH,zH,le,aad,aaR,yl];(first | lia | lia)
        ·rcases zS.mp hc with hc | hc
         ·rcases zS.mp hc with hc | hc
          ·exact yo.2.2 c (abh hc)
          ·have:c=97+qn:=by simpa using hc
           (first | lia | lia)
         ·exact yo.2.2 c (aaP hc)
      ·refine dR ?_;exact⟨_,_,z,c4,rfl,hz,⟨o5,hp5,hpo5⟩,by (first | lia | lia),by (first | lia | lia),b5⟩
    ·first | refine tvE rfl ?_ | refine⟨_,rfl,?_⟩
     refine⟨rfl,_,rfl,?_⟩;refine tZ (fun _=>?_) (fun _=>?_)
     ·first | refine tvE rfl ?_ | refine⟨_,rfl,?_⟩
      refine⟨zZ _,fun e ne=>?_⟩;have b5:But p H2 (upd H4 e (.lst [])):=fun b u hb' q=>by rw [ai (ag (b4 b u hb' q) ne)];exact b4 b u hb' q
      have npe:p≠e:=ag hp4 ne;have hp5:(upd H4 e (.lst [])) p=some o4:=by rw [ai npe];exact hp4
      generalize hH5:upd H4 e (.lst [])=H5 at b5 hp5;have hl5:=keepL b5;refine⟨_,_,seesL hl5,.lst (by rw [← hH5];exact af) .nil,de hko,rfl,unit,?_⟩;rw [rZ];cases hks:ks with
      | nil =>
       refine⟨false,rfl,?_⟩;refine dR ?_;exact⟨_,_,z,c3,rfl,hz,⟨o4,hp5,hpo4⟩,by (first | lia | lia),by (first | lia | lia),b5⟩
      | cons k0 kr =>
       refine⟨true,rfl,?_⟩;refine hV ?_;obtain⟨y,hy,ha⟩:=rJ (show ks≠[] by rw [hks];exact List.cons_ne_nil _ _);have yo:=rV (hko y hy)
       first | refine tvE rfl ?_ | refine⟨_,rfl,?_⟩
       refine⟨1,rfl,l,_,_,_,rfl,rfl,aAA hl5,ha,?_⟩
       first | refine tvE rfl ?_ | refine⟨_,rfl,?_⟩
       first | refine tvE rfl ?_ | refine⟨_,rfl,?_⟩
       refine⟨p,26,c3,o4,rfl,hp5,hpo4,by decide,by decide,by (first | lia | lia),by (first | lia | lia),fun q c4 o5 q0 q1 g5 g6 hpo5=>?_⟩;obtain⟨qn,rfl⟩:∃ qn:Nat,q=(qn:Int):=⟨q.toNat,by (first | lia | lia)⟩;refine⟨lettersS,_,97+qn,rfl,rfl,dB,eu qn (by (first | lia | lia)),?_⟩;have sz:(y++(⟨#[97+qn]⟩:Str)).length<=5:=by
        have e1:(y++(⟨#[97+qn]⟩:Str)).cps.toList.length=(y++(⟨#[97+qn]⟩:Str)).length:=zR;have e2:=aaG List.length (dy y ⟨#[97+qn]⟩);rw [zH] at e2;have e3:((⟨#[97+qn]⟩:Str).cps.toList).length=1:=rfl;have:=yo.2.1
        (first | lia | lia)
       refine⟨y,⟨#[97+qn]⟩,rfl,rfl,?_,?_⟩
       ·have:=(hko y hy).2.1;exact aan (bu (by show y.length+1<=1000;(first | lia | lia)))
       refine⟨4,rfl,_,rfl,aan (bu (by (first | lia | lia))),?_⟩;refine⟨_,_,_,c4,rfl,nY ?_,⟨o5,af,hpo5⟩,by (first | lia | lia),by (first | lia | lia),b5.trans But.upd⟩;have e4:=oW (y++(⟨#[97+qn]⟩:Str)) 4;rw [dy] at e4;rw [show ((4:Nat):Int)=4 from rfl] at e4;rw [e4];refine⟨?_,?_,fun c hc=>?_⟩
       ·rw [aad,zH];have:=yo.1
        (first | lia | lia)
       ·rw [aad];(first | lia | lia)
       ·rcases zS.mp (abh hc) with hc | hc
        ·exact yo.2.2 c hc
        ·have:c=97+qn:=by simpa using hc
         (first | lia | lia)
     ·refine dR ?_;exact⟨_,_,z,c3,rfl,hz,⟨o4,hp4,hpo4⟩,by (first | lia | lia),by (first | lia | lia),b4⟩
   ·refine⟨rfl,?_⟩;dsimp only [cf,gh];refine bP _ _ _ _ _ _ _ _ _ ?_
    first | refine tvE rfl ?_ | refine⟨_,rfl,?_⟩
    refine⟨p,4,c1,o2,rfl,hp2,hpo2,by decide,by decide,by (first | lia | lia),by (first | lia | lia),fun r c2 o3 r0 r1 h1 h2 hpo3=>?_⟩;refine⟨1,r,rfl,rfl,1+r,rfl,by (first | lia | lia),by (first | lia | lia),?_⟩;intro D hD;have npD:p≠D:=ag (show (upd H2 p o3) p=some o3 from af) hD;have nlD:l≠D:=ag (show (upd H2 p o3) l=some _ from (But.upd:But p H2 (upd H2 p o3)) l _ (aaA npl) hl2) hD;obtain⟨m,hm⟩:∃ m:Nat,(1+r).toNat=m/\m<=4/\1<=m:=⟨_,rfl,by (first | lia | lia),by (first | lia | lia)⟩;rw [hm.1];refine kc (fun j ys H3=>∃ (ss:List Str) (c3:Int),ys=ss.map V.str/\ss.length=j/\(∀ x∈ss,∃ c,x=⟨#[c]⟩/\97<=c/\c<=122)/\H3 D=some (.lst ys)/\aK H3 p c3/\c2<=c3/\c3<=c2+j/\But p H2 H3) ?_ (fun j ys H3 ⟨_,_,_,_,_,z,_⟩=>z) ?_ ?_
    ·exact⟨[],c2,rfl,rfl,(fun x h=>nomatch h),af,⟨o3,by rw [ai npD];exact af,hpo3⟩,acP _,by (first | lia | lia),fun b u hb' e=>by rw [ai (ag ((But.upd:But p H2 (upd H2 p o3)) b u hb' e) hD)];exact (But.upd:But p H2 (upd H2 p o3)) b u hb' e⟩
    ·rintro j ys H3 hj ⟨ss,c3,rfl,hsl,hss,hD3,⟨o4,hp4,hpo4⟩,g1,g2,hb3⟩;refine eE rfl ?_
     first | refine tvE rfl ?_ | refine⟨_,rfl,?_⟩
     first | refine tvE rfl ?_ | refine⟨_,rfl,?_⟩
     refine⟨p,26,c3,o4,rfl,hp4,hpo4,by decide,by decide,by (first | lia | lia),by (first | lia | lia),fun q c4 o5 q0 q1 g3 g4 hpo5=>?_⟩;obtain⟨qn,rfl⟩:∃ qn:Nat,q=(qn:Int):=⟨q.toNat,by (first | lia | lia)⟩;refine⟨lettersS,_,97+qn,rfl,rfl,dB,eu qn (by (first | lia | lia)),?_⟩;refine⟨by rw [ai (aaA npD)];exact hD3,by rw [zL];exact bu (by (first | lia | lia)),nx hj ?_⟩;refine⟨ss++[⟨#[97+qn]⟩],c4,by simp,by simp [hsl],fun x hx=>?_,af,⟨o5,by rw [ai npD,af],hpo5⟩,by (first | lia | lia),by (first | lia | lia),fun b u hb' e=>?_⟩
     ·rcases zS.mp hx with hx | hx
      ·exact hss x hx
      ·exact⟨97+qn,zQ.mp hx,by (first | lia | lia),by (first | lia | lia)⟩
     ·have e3:=hb3 b u hb' e;have nbD:b≠D:=ag ((But.upd:But p H2 (upd H2 p o3)) b u hb' e) hD;rw [ai nbD,ai hb'];exact e3
    ·rintro ys H3 ⟨ss,c3,rfl,hsl,hss,hD3,hp4,g1,g2,hb3⟩;obtain⟨q1,q2⟩:=jY hss;refine⟨Str.ofString "",D,ss,rfl,rfl,aAA hD3,?_,?_⟩
     ·rw [oS hss];have:(Str.ofString "").length=0:=by decide
      rw [this]
      (first | lia | lia)
     ·exact⟨_,_,_,_,c3,rfl,nY ⟨by rw [h8,q1];(first | lia | lia),by rw [h8,q1];(first | lia | lia),by rw [h8];exact q2⟩,hp4,by (first | lia | lia),by (first | lia | lia),hb3⟩
  ·rintro σ H2 ⟨x4,x5,x6,x7,x8,ks,c',rfl,hkl,hko,hkn,hl2,hp2,h1,h2,hb⟩
   first | refine tvE rfl ?_ | refine⟨_,rfl,?_⟩
   exact k l ks c' H2 hl hkl hko hkn hl2 hp2 h1 (by (first | lia | lia)) hb
def At (p:Addr)(H:Hp)(b:Addr)(o:HO):Prop:=H b=some o/\b≠p
theorem At.on {p b:Addr}{H H':Hp}{o:HO}(x:At p H b o)(h:But p H H'):At p H' b o:=⟨h b o x.2 x.1,x.2⟩
structure RoomsW (p:Addr)(H:Hp)(rA:Addr)(vs:List V)(rs:List Rm)(ws:List Addr):Prop where
 ls:At p H rA (.lst vs)
 l1:vs.length=rs.length
 l2:ws.length=rs.length
 nd:ws.Nodup
 off:rA ∉ ws
 item:∀ (i:Nat) (r:Rm) (w:Addr),rs[i]? = some r->ws[i]? = some w->∃ t d:Addr,vs[i]? = some (.ref t)/\At p H t (.tup [.ref d,.ref w])/\At p H d (.lst (r.1.map V.str))/\At p H w (.lst (r.2.map V.str))/\d ∉ ws/\d≠rA
theorem RoomsW.on {p rA:Addr}{H H':Hp}{vs:List V}{rs:List Rm}{ws:List Addr}(x:RoomsW p H rA vs rs ws)(h:But p H H'):RoomsW p H' rA vs rs ws :=
 ⟨x.ls.on h,x.l1,x.l2,x.nd,x.off,fun i r w e1 e2=>let ⟨t,d,a,b,c,d',e⟩:=x.item i r w e1 e2;⟨t,d,a,b.on h,c.on h,d'.on h,e⟩⟩
theorem RoomsW.more {p rA t d w:Addr}{H0 H:Hp}{vs:List V}{rs:List Rm}{ws:List Addr}{r:Rm}(x0:RoomsW p H0 rA vs rs ws)(hb:But p H0 H)(ht:At p H t (.tup [.ref d,.ref w]))(hd:At p H d (.lst (r.1.map V.str)))(hw:At p H w (.lst (r.2.map V.str)))
 (d0:H0 d=none)(w0:H0 w=none)(n3:d≠w) :
 RoomsW p (upd H rA (.lst (vs++[.ref t]))) rA (vs++[.ref t]) (rs++[r]) (ws++[w]):=by
 have x:=x0.on hb;have tn:t≠rA:=kH ht.1 x.ls.1 (fun z=>nomatch z);have up:∀ {b o},b≠rA->At p H b o->At p (upd H rA (.lst (vs++[.ref t]))) b o:=fun n h=>⟨by rw [ai n];exact h.1,h.2⟩;have n4:d≠rA:=fun z=>by have:=x0.ls.1;rw [← z,d0] at this;cases this
 have n5:w≠rA:=fun z=>by have:=x0.ls.1;rw [← z,w0] at this;cases this
 have mem:∀ a∈ws,∃ o,H0 a=some o:=fun a ha=>by
  obtain⟨i,hi,e⟩:=abS.mp ha;have hi':i < rs.length:=by rw [← x0.l2];exact hi
  obtain⟨_,_,_,_,_,h,_⟩:=x0.item i rs[i] a (zG hi') (by rw [zG hi,e]);exact⟨_,h.1⟩
 have n1:w ∉ ws:=fun z=>by obtain⟨o,e⟩:=mem w z;rw [w0] at e;cases e
 have n2:d ∉ ws:=fun z=>by obtain⟨o,e⟩:=mem d z;rw [d0] at e;cases e
 refine⟨⟨af,x.ls.2⟩,by simp [x.l1],by simp [x.l2],dE x.nd n1 (.refl _),fun z=>?_,fun i r' w' e1 e2=>?_⟩
 ·rcases zS.mp z with z | z
  ·exact x.off z
  ·exact n5 (zQ.mp z).symm
 ·by_cases hi:i < rs.length
  ·rw [aav hi] at e1;rw [aav (by rw [x.l2];exact hi)] at e2;obtain⟨t',d',a1,a2,a3,a4,a5,a6⟩:=x0.item i r' w' e1 e2;have hw':w'≠rA:=fun z=>x.off (z▸aac e2);refine⟨t',d',by rw [aav (by rw [x.l1];exact hi)];exact a1,up (kH (a2.on hb).1 x.ls.1 (fun z=>nomatch z)) (a2.on hb),up a6 (a3.on hb),up hw' (a4.on hb),fun z=>?_,a6⟩;rcases zS.mp z with z | z
   ·exact a5 z
   ·exact ag a3.1 w0 (zQ.mp z)
  ·have hl:i < (rs++[r]).length:=(zJ.mp e1).1;rw [zH,aa2] at hl;have ei:i=rs.length:=by lia
   subst ei;rw [aae (zP _),abD] at e1;rw [aae (by rw [x.l2];exact zP _),x.l2,abD] at e2;cases e1;cases e2;refine⟨t,d,by rw [aae (by rw [x.l1];exact zP _),x.l1,abD];rfl,up tn ht,up n4 hd,up n5 hw,fun z=>?_,n4⟩;rcases zS.mp z with z | z
   ·exact n2 z
   ·exact n3 (zQ.mp z)
theorem RoomsW.ext {p rA w:Addr}{H:Hp}{vs:List V}{rs:List Rm}{ws:List Addr}{r:Rm}{i:Nat}{ss:List Str}(x:RoomsW p H rA vs rs ws)(e1:rs[i]? = some r)(e2:ws[i]? = some w) :
 RoomsW p (upd H w (.lst (r.2.map V.str++ss.map V.str))) rA vs (rs.set i (r.1,r.2++ss)) ws:=by
 obtain⟨t,d,a1,a2,a3,a4,a5,a6⟩:=x.item i r w e1 e2;have hwr:rA≠w:=fun z=>x.off (by rw [z];exact aac e2);have up:∀ {b o},b≠w->At p H b o->At p (upd H w (.lst (r.2.map V.str++ss.map V.str))) b o:=fun n h=>⟨by rw [ai n];exact h.1,h.2⟩;refine⟨up hwr x.ls,by simp [x.l1],by simp [x.l2],x.nd,x.off,fun j r' w' f1 f2=>?_⟩;have hi:i < rs.length:=(zJ.mp e1).1;by_cases hj:j=i
 ·subst hj;rw [e2] at f2;cases f2;rw [acp hi] at f1;cases f1;refine⟨t,d,a1,up (kH a2.1 a4.1 (fun z=>nomatch z)) a2,up (fun z=>a5 (z▸aac e2)) a3,⟨by rw [af,aax],a4.2⟩,a5,a6⟩
 ·rw [adN (aaA hj)] at f1;obtain⟨t',d',b1,b2,b3,b4,b5,b6⟩:=x.item j r' w' f1 f2;have nw:w'≠w:=fun z=>by
   subst z;have h1:=(zJ.mp e2);have h2:=(zJ.mp f2);rcases Nat.lt_or_gt_of_ne hj with l | l
   ·exact (aaU.mp x.nd j i h2.1 h1.1 l) (h2.2.trans h1.2.symm)
   ·exact (aaU.mp x.nd i j h1.1 h2.1 l) (h1.2.trans h2.2.symm)
  exact⟨t',d',b1,up (kH b2.1 a4.1 (fun z=>nomatch z)) b2,up (fun z=>b5 (z▸aac e2)) b3,up nw b4,b5,b6⟩
theorem RoomsW.rooms {p rA:Addr}{H:Hp}{vs:List V}{rs:List Rm}{ws:List Addr}(x:RoomsW p H rA vs rs ws):RoomsAt H vs rs:=⟨x.l1,fun i v r e1 e2=>by
 have hi:i < rs.length:=(zJ.mp e2).1;have hi2:i < ws.length:=by rw [x.l2];exact hi
 obtain⟨t,d,a1,a2,a3,a4,_⟩:=x.item i r ws[i] e2 (zG hi2);rw [e1] at a1;cases a1;exact⟨t,d,_,rfl,a2.1,a3.1,a4.1⟩⟩
theorem xq {xs:List Int}{r:Int}(h0:0<=r)(h1:r < xs.length):∃ m∈xs,atI (xs.map V.int) r=some (.int m):=by
 obtain⟨j,rfl⟩:∃ j:Nat,r=(j:Int):=⟨r.toNat,by lia⟩;have hj:j < xs.length:=by lia
 exact⟨xs[j],aak hj,dj (by rw [zT,zG hj];rfl)⟩
def bS (r:Rm):PyData:=.tuple [.list (r.1.map PyData.str),.list (r.2.map PyData.str)]
theorem fN {H:Hp}:∀ {vs:List V} {rs:List Rm},RoomsAt H vs rs->SeesAll H vs (rs.map bS)
 | [],[],_=>.nil
 | [],_::_,h=>absurd h.1 (by simp)
 | _::_,[],h=>absurd h.1 (by simp)
 | v::vs,r::rs,h=>by
  obtain⟨t,a,b,rfl,h1,h2,h3⟩:=h.2 0 v r rfl rfl;refine .cons (.tup h1 (.cons (.lst h2 (SeesAll.strs _)) (.cons (.lst h3 (SeesAll.strs _)) .nil))) (fN ⟨by simpa using h.1,fun i v' r' e1 e2=>h.2 (i+1) v' r' (by simpa using e1) (by simpa using e2)⟩)
theorem gu:∀ {rs:List Rm},(∀ r∈rs,(∀ k∈r.1,bo k)/\∀ k∈r.2,bo k)->PyData.canLayAll0 (rs.map bS)=true
 | [],_=>rfl
 | r::rs,h=>by
  obtain⟨h1,h2⟩:=h r z7;have e1:=de h1;have e2:=de h2;have e3:=gu fun q hq=>h q (z8 _ hq);rw [z4];simp only [PyData.canLayAll0,PyData.canLay0,bS,e1,e2,e3,acf]
structure LockMap (B H:Hp)(kvs:List (Key×V))(D:Str->List Nat):Prop where
 non:∀ x,dw kvs (.inr x)=none->D x=[]
 som:∀ x v,dw kvs (.inr x)=some v->∃ a:Addr,v=.ref a/\B a=none/\H a=some (.lst ((D x).map fun i=>V.int (i:Nat)))
 inj:∀ x y a,dw kvs (.inr x)=some (.ref a)->dw kvs (.inr y)=some (.ref a)->x=y
theorem LockMap.congr {B H:Hp}{kvs:List (Key×V)}{D D':Str->List Nat}(h:LockMap B H kvs D)(e:∀ x,D x=D' x):LockMap B H kvs D':=by
 have:D=D':=funext e;rw [← this];exact h
theorem LockMap.keep {B H H':Hp}{kvs:List (Key×V)}{D:Str->List Nat}(h:LockMap B H kvs D)(s:∀ a xs,B a=none->H a=some (.lst xs)->H' a=some (.lst xs)):LockMap B H' kvs D :=
 ⟨h.non,fun x v e=>let ⟨a,e1,e2,e3⟩:=h.som x v e;⟨a,e1,e2,s _ _ e2 e3⟩,h.inj⟩
theorem LockMap.more {B H:Hp}{kvs:List (Key×V)}{D:Str->List Nat}(h:LockMap B H kvs D){z:Str}{a:Addr}{i:Nat}(e:dw kvs (.inr z)=some (.ref a)) :
 LockMap B (upd H a (.lst ((D z++[i]).map fun i=>V.int (i:Nat)))) kvs (fun x=>if x=z then D x++[i] else D x):=by
 refine⟨fun x hx=>?_,fun x v hx=>?_,h.inj⟩
 ·have:x≠z:=fun w=>by rw [w,e] at hx;cases hx
  rw [if_neg this];exact h.non x hx
 ·obtain⟨b,rfl,h1,h2⟩:=h.som x v hx;refine⟨b,rfl,h1,?_⟩;by_cases w:x=z
  ·subst w;rw [e] at hx;cases hx;rw [af,if_pos rfl]
  ·have:b≠a:=fun q=>by subst q;exact w (h.inj x z b hx e)
   rw [ai this,if_neg w];exact h2
theorem LockMap.fresh {B H:Hp}{kvs:List (Key×V)}{D:Str->List Nat}(h:LockMap B H kvs D){z:Str}{l:Addr}{i:Nat}(e:dw kvs (.inr z)=none)(hl:H l=none)(bl:B l=none) :
 LockMap B (upd H l (.lst ([i].map fun i=>V.int (i:Nat)))) (mM kvs (.inr z) (.ref l)) (fun x=>if x=z then D x++[i] else D x):=by
 refine⟨fun x hx=>?_,fun x v hx=>?_,fun x y a hx hy=>?_⟩
 ·rw [lu] at hx;by_cases w:x=z
  ·subst w;rw [if_pos rfl] at hx;cases hx
  ·rw [if_neg (fun q=>w (by cases q;rfl))] at hx;rw [if_neg w];exact h.non x hx
 ·rw [lu] at hx;by_cases w:x=z
  ·subst w;rw [if_pos rfl] at hx;cases hx;refine⟨l,rfl,bl,?_⟩;rw [af,if_pos rfl,h.non x e];rfl
  ·rw [if_neg (fun q=>w (by cases q;rfl))] at hx;obtain⟨b,rfl,h1,h2⟩:=h.som x v hx;refine⟨b,rfl,h1,?_⟩;rw [ai (ag h2 hl),if_neg w];exact h2
 ·rw [lu] at hx hy;by_cases w:x=z<;>by_cases w':y=z
  ·rw [w,w']
  ·subst w;rw [if_pos rfl] at hx;cases hx;rw [if_neg (fun q=>w' (by cases q;rfl))] at hy;obtain⟨b,q,_,h2⟩:=h.som y _ hy;cases q;rw [hl] at h2;cases h2
  ·subst w';rw [if_pos rfl] at hy;cases hy;rw [if_neg (fun q=>w (by cases q;rfl))] at hx;obtain⟨b,q,_,h2⟩:=h.som x _ hx;cases q;rw [hl] at h2;cases h2
  ·rw [if_neg (fun q=>w (by cases q;rfl))] at hx;rw [if_neg (fun q=>w' (by cases q;rfl))] at hy;exact h.inj x y a hx hy
abbrev gJ:Stmt:=jV
def nz:Sp:=fun vs H Q _=>∃ (p:Addr) (most:Nat) (c:Int),vs=[.ref p,.int most]/\aK H p c/\most<=60/\0<=c/\c+4000 < 1000000 ∧
 ∀ (v:V) (h:Hs) (c':Int) (H':Hp),HouseAt H' v h->aM h->pC h->h.2.length<=most->(aE h).length<=276->aK H' p c'->c<=c'->c'<=c+4000->But p H H'->Q v H'
theorem aJ:br ["pool","most","kinds","many","locks","keys","rooms","spare","room","doors","few","left","more"] ["pool","most"] (ao gJ):=scM rfl rfl rfl rfl (by decide +kernel)
theorem fu:(["doors","within"]:List Str).Nodup:=by decide +kernel
inductive zg (p:Addr)(most:Nat)(c:Int)(H:Hp)(σ':L2.St)(H':Hp):Prop
 | mk (kA:Addr) (ks:List Str) (c':Int):(σ'=[some (.ref p),some (.int most),some (.ref kA),none,none,none,none,none,none,none,none,none,none])->(At p H' kA (.lst (ks.map V.str)))->(ks≠[])->(ks.length<=60)->((∀ k∈ks,bo k))->(aK H' p c')->(c<=c')->(c'<=c+542)->(But p H H')->zg p most c H σ' H'
inductive yU (p:Addr)(most:Nat)(kA:Addr)(c1:Int)(H1:Hp)(σ':L2.St)(H':Hp):Prop
 | mk (mn:Nat) (c':Int):(σ'=[some (.ref p),some (.int most),some (.ref kA),some (.int mn),none,none,none,none,none,none,none,none,none])->(mn<=most)->(aK H' p c')->(c1<=c')->(c'<=c1+3)->(But p H1 H')->yU p most kA c1 H1 σ' H'
inductive yS (p:Addr)(most:Nat)(kA:Addr)(mn:Nat)(c1:Int)(H1:Hp)(σ':L2.St)(H':Hp):Prop
 | mk (lk c':Int):(σ'=[some (.ref p),some (.int most),some (.ref kA),some (.int mn),some (.int lk),none,none,none,none,none,none,none,none])->(1<=lk)->(lk<=4)->(aK H' p c')->(c1<=c')->(c'<=c1+4)->(But p H1 H')->yS p most kA mn c1 H1 σ' H'
inductive yX (p:Addr)(most:Nat)(kA:Addr)(mn:Nat)(lk:Int)(c1:Int)(H1:Hp)(σ':L2.St)(H':Hp):Prop
 | mk (ky c':Int):(σ'=[some (.ref p),some (.int most),some (.ref kA),some (.int mn),some (.int lk),some (.int ky),none,none,none,none,none,none,none])->(2<=ky)->(ky<=4)->(aK H' p c')->(c1<=c')->(c'<=c1+5)->(But p H1 H')->yX p most kA mn lk c1 H1 σ' H'
inductive yY (p:Addr)(most:Nat)(kA:Addr)(mn:Nat)(lk:Int)(ky:Int)(rA:Addr)(H4:Hp)(ks:List Str)(c4:Int)(σ':L2.St)(H':Hp):Prop
 | mk (x8 x9 x10:Option V) (sp c':Int) (vs:List V) (rs:List Rm) (ws:List Addr):(σ'=[some (.ref p),some (.int most),some (.ref kA),some (.int mn),some (.int lk),some (.int ky),some (.ref rA),some (.int sp),x8,x9,x10,none,none])->(RoomsW p H' rA vs rs ws)->((∀ w∈ws,H4 w=none))->(rs.length=mn)->((∀ r∈rs,(∀ k∈r.1,k∈ks)/\1<=r.1.length/\r.1.length<=4/\r.1.Pairwise leS/\(∀ k∈r.2,k∈ks)/\r.2.length<=12))->((rs.map (·.2.length)).sum<=266)->(aK H' p c')->(c4<=c')->(c'<=c4+20 * mn)->(But p H4 H')->yY p most kA mn lk ky rA H4 ks c4 σ' H'
inductive yZ (p:Addr)(most:Nat)(kA:Addr)(mn:Nat)(lk:Int)(ky:Int)(rA:Addr)(sp:Int)(x8:Option V)(x9:Option V)(x10:Option V)(vs:List V)(ws:List Addr)(ks:List Str)(c5:Int)(H4:Hp)(σ':L2.St)(H':Hp):Prop
 | mk (x12:Option V) (rs':List Rm) (lf c':Int):(σ'=[some (.ref p),some (.int most),some (.ref kA),some (.int mn),some (.int lk),some (.int ky),some (.ref rA),some (.int sp),x8,x9,x10,some (.int lf),x12])->(RoomsW p H' rA vs rs' ws)->(rs'.length=mn)->((∀ r∈rs',(∀ k∈r.1,k∈ks)/\1<=r.1.length/\r.1.length<=4/\r.1.Pairwise leS/\(∀ k∈r.2,k∈ks)/\r.2.length<=300))->(0<=lf)->((((rs'.map (·.2.length)).sum:Nat):Int)+lf=276)->(aK H' p c')->(c5<=c')->(c'<=c5+300)->(But p H4 H')->yZ p most kA mn lk ky rA sp x8 x9 x10 vs ws ks c5 H4 σ' H'
inductive yQ (p:Addr)(most:Nat)(kA:Addr)(mn:Nat)(lk:Int)(ky:Int)(rA:Addr)(H4:Hp)(ks:List Str)(c4:Int)(i:Nat)(σ':L2.St)(H':Hp):Prop
 | mk (x8 x9 x10:Option V) (sp c':Int) (vs:List V) (rs:List Rm) (ws:List Addr) (q:Nat):(σ'=[some (.ref p),some (.int most),some (.ref kA),some (.int mn),some (.int lk),some (.int ky),some (.ref rA),some (.int sp),x8,x9,x10,none,none])->(RoomsW p H' rA vs rs ws)->((∀ w∈ws,H4 w=none))->(rs.length=i)->((∀ r∈rs,(∀ k∈r.1,k∈ks)/\1<=r.1.length/\r.1.length<=4/\r.1.Pairwise leS/\(∀ k∈r.2,k∈ks)/\r.2.length<=12))->(0<=sp)->(sp<=40)->(40 - sp<=12 * q)->((((rs.map (·.2.length)).sum:Nat):Int)+4 * q<=4 * i+(40 - sp))->(aK H' p c')->(c4<=c')->(c'<=c4+20 * i)->(But p H4 H')->yQ p most kA mn lk ky rA H4 ks c4 i σ' H'
inductive zd (p:Addr)(most:Nat)(kA:Addr)(mn:Nat)(lk:Int)(ky:Int)(rA:Addr)(sp:Int)(i:Nat)(x10:Option V)(H5:Hp)(ks:List Str)(c5:Int)(σ':L2.St)(H':Hp):Prop
 | mk (dA:Addr) (ds:List Str) (c':Int):(σ'=[some (.ref p),some (.int most),some (.ref kA),some (.int mn),some (.int lk),some (.int ky),some (.ref rA),some (.int sp),some (.int (0+i)),some (.ref dA),x10,none,none])->(At p H' dA (.lst (ds.map V.str)))->(H5 dA=none)->((∀ k∈ds,k∈ks))->(1<=ds.length)->(ds.length<=4)->(ds.Pairwise leS)->(aK H' p c')->(c5<=c')->(c'<=c5+5)->(But p H5 H')->zd p most kA mn lk ky rA sp i x10 H5 ks c5 σ' H'
inductive ze (p:Addr)(most:Nat)(kA:Addr)(mn:Nat)(lk:Int)(ky:Int)(rA:Addr)(i:Nat)(dA:Addr)(sp:Int)(c5:Int)(H7:Hp)(σ':L2.St)(H':Hp):Prop
 | mk (fw':Nat) (sp' c':Int):(σ'=[some (.ref p),some (.int most),some (.ref kA),some (.int mn),some (.int lk),some (.int ky),some (.ref rA),some (.int sp'),some (.int (0+i)),some (.ref dA),some (.int fw'),none,none])->(((sp'=sp/\fw'<=4)\/(sp'=sp - fw'/\(fw':Int)<=sp/\fw'<=12)))->(aK H' p c')->(c5<=c')->(c'<=c5+8)->(But p H7 H')->ze p most kA mn lk ky rA i dA sp c5 H7 σ' H'
theorem uU {f fT fM fS:Addr}{fd fdT fdM fdS:FuncData}(F:Fun K "_law_house" "_law_house" jV f fd)(ax:bO P w K mg base CX0 1 fT fdT ["pool","many"] fU)(au:Cal K mg "_law_take" ["pool","many"] fT fdT)
 (fo:bO P w K mg base CX0 2 fM fdM ["pool","many"] pj)(cJ:Cal K mg "_law_kinds" ["pool","many"] fM fdM)(eS:bO P w K mg base CX0 2 fS fdS ["pool","kinds","many"] qO)(cV:Cal K mg "_law_some" ["pool","kinds","many"] fS fdS)
 (eG:mg "range" = none)(cQ:mg "len" = none)(mG:mg "min" = none)(aN:mg "sorted" = none)(wQ:mg "sum" = none) :
 bO P w K mg base CX0 3 f fd ["pool","most"] nz:=by
 refine F.ok aJ (fun vs H Q E h=>?_) (fun cdv A outer s H vs Q E hr h=>?_)
 ·obtain⟨p,n,c,rfl,_⟩:=h
  rfl
 ·obtain⟨p,most,c,rfl,⟨o,hp,hpo⟩,hmost,hc,hcn,k⟩:=h;have hu:=iH hr;refine⟨_,(aj (bF (aF (i:=2) aJ.nd rfl (.inl rfl) (pcl fo cJ hr rfl (ae (pv 0) (ae (aY dh aq (pcl ax au (hr.mono (by decide:1<=2)) rfl (ae (pv 0) (ae (bj bg (bU (ae aq (ae aq (ae aq (ae aq ah))))) (pcl ax au (hr.mono (by decide:1<=2)) rfl (ae (pv 0) (ae aq ah))) (fun _ _=>rfl)) ah)))) ah)))))
   (aj (bF (aF (i:=3) aJ.nd rfl (.inl rfl) (bj bg (bU (ae (pcl ax au (hr.mono (by decide:1<=2)) rfl (ae (pv 0) (ae (aY dh (aw (gX rfl) rfl mG (by decide +kernel) (ae (pv 1) (ae aq ah))) aq) ah))) (ae (pcl ax au (hr.mono (by decide:1<=2)) rfl (ae (pv 0) (ae (aY dh (pv 1) aq) ah))) ah))) (pcl ax au (hr.mono (by decide:1<=2)) rfl (ae (pv 0) (ae aq ah))) (fun _ _=>rfl))))
   (aj (bF (aF (i:=4) aJ.nd rfl (.inl rfl) (bj bg (bU (ae aq (ae aq (ae aq (ae aq ah))))) (pcl ax au (hr.mono (by decide:1<=2)) rfl (ae (pv 0) (ae aq ah))) (fun _ _=>rfl))))
   (aj (bF (aF (i:=5) aJ.nd rfl (.inl rfl) (bj bg (bU (ae aq (ae aq (ae aq ah)))) (pcl ax au (hr.mono (by decide:1<=2)) rfl (ae (pv 0) (ae aq ah))) (fun _ _=>rfl))))
   (aj (aF (i:=6) aJ.nd rfl (.inl rfl) (bU ah))
   (aj (aF (i:=7) aJ.nd rfl (.inl rfl) aq)
   (aj (bF (dJ aaN rfl (eC rfl eG (ae (pv 3) ah)) (ay (i:=8) aJ.nd rfl (.inl rfl))
    (aj (bF (aF (i:=9) aJ.nd rfl (.inl rfl) (aw jr rfl aN abu (ae (pcl eS cV hr rfl (ae (pv 0) (ae (pv 2) (ae (aY dh aq (pcl ax au (hr.mono (by decide:1<=2)) rfl (ae (pv 0) (ae (pv 4) ah)))) ah)))) ah))))
    (aj (aF (i:=10) aJ.nd rfl (.inl rfl) (pcl ax au (hr.mono (by decide:1<=2)) rfl (ae (pv 0) (ae (aY dh (pv 5) aq) ah))))
    (aj (bF (dk (aT ic (pcl ax au (hr.mono (by decide:1<=2)) rfl (ae (pv 0) (ae aq ah))) aq (aZ _))
     (aj (aF (i:=10) aJ.nd rfl (.inl rfl) (aw (gX rfl) rfl mG (by decide +kernel) (ae (pv 7) (ae (aY dh aq (pcl ax au (hr.mono (by decide:1<=2)) rfl (ae (pv 0) (ae aq ah)))) ah))))
     (av (aF (i:=7) aJ.nd rfl (.inl rfl) (aY pD (pv 7) (pv 10))))) bw))
    (av (cW (fb aam aa0 aa1 cO (pv 6) (ae (dO (ae (pv 9) (ae (pcl eS cV hr rfl (ae (pv 0) (ae (pv 2) (ae (pv 10) ah)))) ah))) ah)))))))))
   (aj (bF (aF (i:=11) aJ.nd rfl (.inl rfl) (aY pD aq (aw (uT rfl) rfl wQ (by decide +kernel) (ae (jh (outer:=ao (gJ)) (N:=["pool","most","kinds","many","locks","keys","rooms","spare","room","doors","few","left","more"]) (N':=["doors","within"]) (nl:=2) (ix:=[]) rfl rfl rfl (bN (pv 6))
    (fun _ _ _ _=>(eW (K:=K) (n:=2) rfl rfl (az (ay (i:=0) fu rfl (.inl rfl) (.inr rfl)) (az (ay (i:=1) fu rfl (.inl rfl) (.inr rfl)) bQ)))) (fun _ _ _ _=>bX)
    (fun _ _ _ _=>(aw (mN (K:=K) rfl) rfl cQ aaQ (ae (pv 1) ah)))) ah)))))
   (aj (bF (dk (PW.pt (jq (aT ft (pv 6) (bU ah) (aZ _)) (hZ (aT ic (pcl ax au (hr.mono (by decide:1<=2)) rfl (ae (pv 0) (ae aq ah))) aq (aZ _)))))
    (aj (aF (i:=12) aJ.nd rfl (.inl rfl) (pcl ax au (hr.mono (by decide:1<=2)) rfl (ae (pv 0) (ae (aY dh (pv 11) aq) ah))))
    (aj (cW (fb aam PySem.F.slot_list_extend PySem.F.type_list_extend tO (bj cx (bj bg (pv 6) (pcl ax au (hr.mono (by decide:1<=2)) rfl (ae (pv 0) (ae (aw aS rfl cQ aaQ (ae (pv 6) ah)) ah))) (fun _ _=>rfl)) aq (fun _ _=>rfl)) (ae (pcl eS cV hr rfl (ae (pv 0) (ae (pv 2) (ae (pv 12) ah)))) ah)))
    (av (aF (i:=11) aJ.nd rfl (.inl rfl) (aY pD (pv 11) (pv 12)))))) bw))
   (av (bt (dO (ae (pcl eS cV hr rfl (ae (pv 0) (ae (pv 2) (ae (aw (gX rfl) rfl mG (by decide +kernel) (ae (pv 11) (ae (pcl ax au (hr.mono (by decide:1<=2)) rfl (ae (pv 0) (ae (bj bg (bU (ae aq (ae aq (ae aq (ae aq ah))))) (pcl ax au (hr.mono (by decide:1<=2)) rfl (ae (pv 0) (ae aq ah))) (fun _ _=>rfl)) ah))) ah))) ah)))) (ae (pv 6) ah)))))))))))))),?_⟩
  refine⟨zg p most c H,?_,?_⟩
  ·rintro σ H1 ⟨kA,ks,c1,rfl,hk1,hkn,hkl,hko,⟨o1,hp1,hpo1⟩,g1,g2,b1⟩;refine⟨yU p most kA c1 H1,?_,?_⟩
   ·rintro σ H2 ⟨mn,c2,rfl,hmn,⟨o2,hp2,hpo2⟩,g3,g4,b2⟩;refine⟨yS p most kA mn c1 H1,?_,?_⟩
    ·rintro σ H3 ⟨lk,c3,rfl,hlk1,hlk2,⟨o3,hp3,hpo3⟩,g5,g6,b3⟩;refine⟨yX p most kA mn lk c1 H1,?_,?_⟩
     ·rintro σ H4 ⟨ky,c4,rfl,hky1,hky2,⟨o4,hp4,hpo4⟩,g7,g8,b4⟩;have hk4:=hk1.on b4;refine⟨zZ _,fun rA nR=>?_⟩;have npR:p≠rA:=ag hp4 nR;have bR:But p H4 (upd H4 rA (.lst [])):=fun b u hb e=>by rw [ai (ag e nR)];exact e
      refine⟨yY p most kA mn lk ky rA H4 ks c4,?_,?_⟩
      ·rintro σ H5 ⟨x8,x9,x10,sp,c5,vs,rs,ws,rfl,hW,hwf,hrl,hro,hsum,⟨o5,hp5,hpo5⟩,g9,g10,b5⟩;have hk5:=hk4.on b5;have mn60:mn<=60:=by (first | lia | lia)
       refine⟨fun σ' H'=>σ'=[some (.ref p),some (.int most),some (.ref kA),some (.int mn),some (.int lk),some (.int ky),some (.ref rA),some (.int sp),x8,x9,x10,some (.int (276 - (((rs.map (·.2.length)).sum:Nat):Int))),none]/\Same H5 H',?_,?_⟩
       ·rintro σ H6 ⟨rfl,sm6⟩;have b6:But p H5 H6:=fun b u _ e=>sm6 b u e;have hW6:=hW.on b6;have hk6:=hk5.on b6;have hp6:=sm6 _ _ hp5;refine⟨yZ p most kA mn lk ky rA sp x8 x9 x10 vs ws ks c5 H4,?_,?_⟩
        ·rintro σ H7 ⟨x12,rs',lf,c7,rfl,hW7,hrl7,hro7,hlf,hsum7,⟨o7,hp7,hpo7⟩,g11,g12,b7⟩;have hk7:=hk4.on b7
         first | refine tvE rfl ?_ | refine⟨_,rfl,?_⟩
         first | refine tvE rfl ?_ | refine⟨_,rfl,?_⟩
         first | refine tvE rfl ?_ | refine⟨_,rfl,?_⟩
         first | refine tvE rfl ?_ | refine⟨_,rfl,?_⟩
         refine⟨by show 4<=sizeLine;decide,fun l1 n1=>?_⟩;have np1:p≠l1:=ag hp7 n1
         first | refine tvE rfl ?_ | refine⟨_,rfl,?_⟩
         refine⟨p,4,c7,o7,rfl,by rw [ai np1];exact hp7,hpo7,by decide,by decide,by (first | lia | lia),by (first | lia | lia),fun r c8 o8 r0 r1 h1 h2 hpo8=>?_⟩;obtain⟨m,hm,ha⟩:=xq (xs:=[3,7,25,277]) r0 r1;have hm':3<=m/\m<=277:=by simp only [aab,aaI,aca] at hm;(first | lia | lia)
         refine⟨l1,_,r,.int m,rfl,rfl,aAA (by rw [ai (aaA np1),af];rfl),ha,?_⟩;refine⟨p,m,c8,o8,rfl,af,hpo8,by (first | lia | lia),by (first | lia | lia),by (first | lia | lia),by (first | lia | lia),fun q c9 o9 q0 q1 h3 h4 hpo9=>?_⟩;refine⟨_,_,rfl,?_⟩;have mi:(if q < lf then q else lf)<=lf/\0<=(if q < lf then q else lf)/\(if q < lf then q else lf)<=276:=by split<;>(first | lia | lia)
         generalize (if q < lf then q else lf)=mv at mi ⊢;obtain⟨mvn,rfl⟩:∃ n:Nat,mv=(n:Int):=⟨mv.toNat,by (first | lia | lia)⟩;have b8:But p H7 (upd (upd (upd H7 l1 (.lst [.int 3,.int 7,.int 25,.int 277])) p o8) p o9):=fun b u hb e=>by rw [ai hb,ai hb,ai (ag e n1)];exact e
         refine⟨p,kA,mvn,c9,ks,rfl,⟨o9,af,hpo9⟩,(hk7.on b8).1,hkn,by (first | lia | lia),by (first | lia | lia),by (first | lia | lia),by (first | lia | lia),fun l ss c10 H8 nl hsl hsm hl8 hp8 g13 g14 b9=>?_⟩
         first | refine tvE rfl ?_ | refine⟨_,rfl,?_⟩
         refine⟨by show 2<=sizeLine;decide,fun tA nT=>?_⟩;have b79:=b8.trans b9;have bT:But p H8 (upd H8 tA (.tup [.ref l,.ref rA])):=fun b u hb e=>by rw [ai (ag e nT)];exact e
         obtain⟨o10,hp10,hpo10⟩:=hp8;have hW10:=(hW7.on b79).on bT;have fl2:((rs'.flatMap (·.2)).length:Int)+lf=276:=by rw [List.length_flatMap];exact hsum7
         have fl1:(rs'.flatMap (·.1)).length<=1000:=by
          have:∀ l:List Rm,(∀ r∈l,r.1.length<=4)->(l.flatMap (·.1)).length<=4 * l.length:=fun l=>by
           induction l with
           | nil=>intro _;exact zZ _
           | cons a t ih =>
            intro h;have h1:=h a z7;have h2:=ih fun r hr=>h r (z8 _ hr);rw [abb,zH,aaq]
            (first | lia | lia)
          have:=this rs' fun r hr=>(hro7 r hr).2.2.1
          (first | lia | lia)
         have ak:(aE (ss,rs')).length<=276:=by
          unfold aE;rw [zH];show ss.length+(rs'.flatMap (·.2)).length<=276
          (first | lia | lia)
         have hin:∀ x,(x∈aE (ss,rs')\/x∈aU (ss,rs'))->x∈ks:=fun x h=>by
          rcases h with h | h
          ·rcases zS.mp h with h | h
           ·exact hsm x h
           ·obtain⟨r,hr,hx⟩:=aar.mp h;exact (hro7 r hr).2.2.2.2.1 x hx
          ·obtain⟨r,hr,hx⟩:=aar.mp h;exact (hro7 r hr).1 x hx
         refine k (.ref tA) (ss,rs') c10 _ ⟨tA,l,rA,vs,rfl,af,?_,hW10.ls.1,hW10.rooms⟩ ⟨fun k hk=>hko k (hsm k hk),by show ss.length<=1000;(first | lia | lia),fun r hr=>?_,by show rs'.length<=1000;(first | lia | lia)⟩ ⟨⟨ks,by (first | lia | lia),hin⟩,by (first | lia | lia),fl1⟩ (by show rs'.length<=most;(first | lia | lia)) ak ⟨o10,by rw [ai (ag hp10 nT)];exact hp10,hpo10⟩ (by (first | lia | lia)) (by (first | lia | lia)) ?_
         ·rw [ai (ag hl8 nT)];exact hl8
         ·obtain⟨r1,r2,r3,r4,r5,r6⟩:=hro7 r hr;exact⟨fun k hk=>hko k (r1 k hk),r2,r3,r4,fun k hk=>hko k (r5 k hk),by (first | lia | lia)⟩
         ·exact b1.trans (b4.trans (b7.trans (b79.trans bT)))
        ·have rk:∀ r∈rs,(∀ k∈r.1,bo k)/\∀ k∈r.2,bo k:=fun r hr=>⟨fun k hk=>hko k ((hro r hr).1 k hk),fun k hk=>hko k ((hro r hr).2.2.2.2.1 k hk)⟩;have ro300:∀ r∈rs,(∀ k∈r.1,k∈ks)/\1<=r.1.length/\r.1.length<=4/\r.1.Pairwise leS/\(∀ k∈r.2,k∈ks)/\r.2.length<=300:=fun r hr=>by
          obtain⟨r1,r2,r3,r4,r5,r6⟩:=hro r hr;exact⟨r1,r2,r3,r4,r5,by (first | lia | lia)⟩
         first | refine tvE rfl ?_ | refine⟨_,rfl,?_⟩
         refine⟨zZ _,fun e ne=>?_⟩;have sm7:Same H6 (upd H6 e (.lst [])):=fun b u q=>by rw [ai (ag q ne)];exact q
         have he:(upd H6 e (.lst [])) e=some (.lst []):=af;generalize upd H6 e (.lst [])=H7 at sm7 he;have b7:But p H6 H7:=fun b u _ q=>sm7 b u q;have hW7:=hW6.on b7;have hp7:=sm7 _ _ hp6;refine⟨.list (rs.map bS),.list [],.lst hW7.ls.1 (fN hW7.rooms),.lst he .nil,gu rk,rfl,?_,?_⟩
         ·refine aaj ?_ hu;exact aaE (acJ _ _) _
         by_cases hemp:rs=[]
         ·subst hemp;refine⟨false,rfl,dR (dR ?_)⟩;exact⟨none,[],_,c5,rfl,hW7,hrl,ro300,by (first | lia | lia),by (first | lia | lia),⟨o5,hp7,hpo5⟩,by (first | lia | lia),by (first | lia | lia),b5.trans (b6.trans b7)⟩
         ·have hne:(if true=true then !PyData.eqv (.list (rs.map bS)) (.list []) else PyData.eqv (.list (rs.map bS)) (.list []))=true:=by
           cases rs with
           | nil=>exact absurd rfl hemp
           | cons a t=>rfl
          refine⟨true,aaG V.bl hne,hV ?_⟩
          first | refine tvE rfl ?_ | refine⟨_,rfl,?_⟩
          refine⟨p,8,c5,o5,rfl,hp7,hpo5,by decide,by decide,by (first | lia | lia),by (first | lia | lia),fun z c8 o8 z0 z1 g15 g16 hpo8=>?_⟩;have b8:But p H7 (upd H7 p o8):=But.upd;refine⟨rfl,_,rfl,tZ (fun _=>?_) (fun _=>?_)⟩
          ·first | refine tvE rfl ?_ | refine⟨_,rfl,?_⟩
           first | refine tvE rfl ?_ | refine⟨_,rfl,?_⟩
           refine⟨_,1,rfl,rfl,p,_,c8,o8,rfl,af,hpo8,by (first | lia | lia),by (first | lia | lia),by (first | lia | lia),by (first | lia | lia),fun mo c9 o9 m0 m1 g17 g18 hpo9=>?_⟩;obtain⟨mon,rfl⟩:∃ n:Nat,mo=(n:Int):=⟨mo.toNat,by (first | lia | lia)⟩;have b9:But p H7 (upd (upd H7 p o8) p o9):=b8.trans But.upd;have hp9:(upd (upd H7 p o8) p o9) p=some o9:=af;generalize upd (upd H7 p o8) p o9=H9 at b9 hp9;have hW9:=hW7.on b9;have hrs:0 < rs.length:=List.length_pos_iff.mpr hemp
           first | refine tvE rfl ?_ | refine⟨_,rfl,?_⟩
           first | refine tvE rfl ?_ | refine⟨_,rfl,?_⟩
           first | refine tvE rfl ?_ | refine⟨_,rfl,?_⟩
           refine⟨rA,vs,rfl,.inl (aAA hW9.ls.1),p,_,c9,o9,rfl,hp9,hpo9,by rw [hW9.l1];(first | lia | lia),by rw [hW9.l1];(first | lia | lia),by (first | lia | lia),by (first | lia | lia),fun ii c10 o10 i0 i1 g19 g20 hpo10=>?_⟩;rw [hW9.l1] at i1;obtain⟨ix,rfl⟩:∃ n:Nat,ii=(n:Int):=⟨ii.toNat,by (first | lia | lia)⟩;have hix:ix < rs.length:=by (first | lia | lia)
           have hix2:ix < ws.length:=by rw [hW9.l2];exact hix
           have b10:But p H9 (upd H9 p o10):=But.upd;have hp10:(upd H9 p o10) p=some o10:=af;generalize upd H9 p o10=H10 at b10 hp10;have hW10:=hW9.on b10;obtain⟨t,d,a1,a2,a3,a4,a5,a6⟩:=hW10.item ix rs[ix] ws[ix] (zG hix) (zG hix2);refine⟨rA,vs,_,.ref t,rfl,rfl,aAA hW10.ls.1,dj a1,t,_,1,.ref ws[ix],rfl,rfl,aAB a2.1,rfl,.inl ⟨rfl,_,aAA a4.1⟩,?_⟩;have b410:But p H4 H10:=b5.trans (b6.trans (b7.trans (b9.trans b10)));have hk10:=hk4.on b410
           first | refine tvE rfl ?_ | refine⟨_,rfl,?_⟩
           first | refine tvE rfl ?_ | refine⟨_,rfl,?_⟩
           first | refine tvE rfl ?_ | refine⟨_,rfl,?_⟩
           refine⟨p,kA,mon,c10,ks,rfl,⟨o10,hp10,hpo10⟩,hk10.1,hkn,by (first | lia | lia),by (first | lia | lia),by (first | lia | lia),by (first | lia | lia),fun l ss c11 H11 nl hsl hsm hl11 hp11 g21 g22 b11=>?_⟩;have hW11:=hW10.on b11;have r12:=(hro rs[ix] (aak hix)).2.2.2.2.2;refine⟨ws[ix],l,_,_,rfl,rfl,(a4.on b11).1,hl11,by rw [zL,zL];exact aan (bu (by (first | lia | lia))),?_⟩;have hWe:=hW11.ext (ss:=ss) (zG hix) (zG hix2);obtain⟨o11,hp11',hpo11⟩:=hp11
           first | refine tvE rfl ?_ | refine⟨_,rfl,?_⟩
           first | refine tvE rfl ?_ | refine⟨_,rfl,?_⟩
           refine⟨_,_,rfl,rfl,?_⟩;have sset:(((rs.set ix (rs[ix].1,rs[ix].2++ss)).map (·.2.length)).sum:Nat)=(rs.map (·.2.length)).sum+mon:=by
            have:∀ (l:List Rm) (i:Nat) (h:i < l.length) (x:Rm),((l.set i x).map (·.2.length)).sum+(l[i]).2.length=(l.map (·.2.length)).sum+x.2.length:=fun l=>by
             induction l with
             | nil=>intro i h;exact absurd h (ac6 _)
             | cons a t ih =>
              intro i h x;cases i with
              | zero=>simp;(first | lia | lia)
              | succ i =>
               have:=ih i (by simpa using h) x;simp only [List.set_cons_succ,z4,adQ,List.getElem_cons_succ]
               (first | lia | lia)
            have:=this rs ix hix (rs[ix].1,rs[ix].2++ss);simp only [zH] at this
            (first | lia | lia)
           refine⟨_,_,_,c11,rfl,hWe,by simp [hrl],fun r hr'=>?_,?_,?_,⟨o11,by rw [ai (aaA a4.2)];exact hp11',hpo11⟩,by (first | lia | lia),by (first | lia | lia),fun b u hb e=>?_⟩
           ·rcases abQ hr' with hr' | hr'
            ·exact ro300 r hr'
            ·obtain⟨r1,r2,r3,r4,r5,r6⟩:=hro rs[ix] (aak hix);rw [hr'];refine⟨r1,r2,r3,r4,fun k hk=>?_,?_⟩
             ·rcases zS.mp hk with hk | hk
              ·exact r5 k hk
              ·exact hsm k hk
             ·show (rs[ix].2++ss).length<=300;rw [zH]
              (first | lia | lia)
           ·(first | lia | lia)
           ·rw [sset];(first | lia | lia)
           ·rw [ai (ag e (hwf _ (aak hix2)))];exact b11 b u hb (b410 b u hb e)
          ·exact⟨none,rs,_,c8,rfl,hW7.on b8,hrl,ro300,by (first | lia | lia),by (first | lia | lia),⟨o8,af,hpo8⟩,by (first | lia | lia),by (first | lia | lia),b5.trans (b6.trans (b7.trans b8))⟩
       ·dsimp only [wI,tOp,tC,tCB,cf,gh];refine bP _ _ _ _ _ _ _ _ _ ?_
        first | refine tvE rfl ?_ | refine⟨_,rfl,?_⟩
        refine⟨rA,rfl,⟨_,aAA hW.ls.1⟩,?_⟩;intro D hD;refine eA (xs:=vs) (fun j ys H'=>ys=((rs.take j).map fun r=>V.int ((r.2.length:Nat):Int))/\j<=60/\H' D=some (.lst ys)/\Same H5 H') ⟨rfl,by decide,af,fun b u e=>by rw [ai (ag e hD)];exact e⟩ (fun j ys H' ⟨_,_,h,_⟩=>h) (fun j ys H' ⟨_,_,_,sm⟩=>aAA (sm _ _ hW.ls.1)) ?_ ?_
        ·rintro j ys H6 x hx ⟨rfl,hj0,hD6,sm⟩;have hj:j < vs.length:=(zJ.mp hx).1;have hj1:j < rs.length:=by rw [← hW.l1];exact hj
         have hj2:j < ws.length:=by rw [hW.l2];exact hj1
         obtain⟨t,d,a1,a2,a3,a4,_⟩:=hW.item j rs[j] ws[j] (zG hj1) (zG hj2);rw [hx] at a1;cases a1;refine pL t (.ref d) (.ref ws[j]) rfl (aAB (sm _ _ a2.1)) rfl ?_
         first | refine tvE rfl ?_ | refine⟨_,rfl,?_⟩
         refine⟨ws[j],_,rfl,.inl (aAA (sm _ _ a4.1)),hD6,by rw [zL,aad];exact bu (by (first | lia | lia)),nx hj ⟨?_,by (first | lia | lia),af,fun b u e=>?_⟩⟩
         ·rw [aaS,zG hj1,aax,zL]
          rfl
         ·rw [ai (ag e hD)];exact sm b u e
        ·rintro ys H6 ⟨rfl,_,hD6,sm⟩;rw [hW.l1,aa9] at hD6;have sc:∀ l:List Rm,(l.map fun r=>((r.2.length:Nat):Int)).sum=(((l.map (·.2.length)).sum:Nat):Int):=fun l=>by
          induction l with
          | nil=>rfl
          | cons a t ih =>
           rw [z4,z4,adQ,adQ,ih]
           (first | lia | lia)
         refine⟨D,rs.map (fun r=>((r.2.length:Nat):Int)),rfl,aAA (by rw [hD6,aa3];rfl),fun n hn=>?_,by rw [zL];(first | lia | lia),276,_,rfl,rfl,?_⟩
         ·obtain⟨r,hr',rfl⟩:=aaJ.mp hn;have:=(hro r hr').2.2.2.2.2
          (first | lia | lia)
         ·exact⟨by rw [← sc rs];rfl,sm⟩
      ·first | refine tvE rfl ?_ | refine⟨_,rfl,?_⟩
       refine⟨(mn:Int),rfl,by (first | lia | lia),by (first | lia | lia),?_⟩;refine gL (n:=mn) (yQ p most kA mn lk ky rA H4 ks c4) ?_ ?_ ?_
       ·exact⟨none,none,none,40,c4,[],[],[],0,rfl,⟨⟨af,aaA npR⟩,rfl,rfl,ady,(fun z=>nomatch z),(fun i r w e=>by simp at e)⟩,(fun w h=>nomatch h),rfl,(fun r h=>nomatch h),by decide,by decide,by decide,by decide,⟨o4,by rw [ai npR];exact hp4,hpo4⟩,acP _,by (first | lia | lia),bR⟩
       ·rintro i σ H5 hi ⟨x8,x9,x10,sp,c5,vs,rs,ws,q,rfl,hW,hwf,hrl,hro,hs0,hs1,hs2,hs3,⟨o5,hp5,hpo5⟩,g9,g10,b5⟩;have hk5:=hk4.on b5;refine⟨zd p most kA mn lk ky rA sp i x10 H5 ks c5,?_,?_⟩
        ·rintro σ H6 ⟨dA,ds,c6,rfl,hd6,nd6,hdk,hd1,hd4,hdp,⟨o6,hp6,hpo6⟩,g11,g12,b6⟩
         first | refine tvE rfl ?_ | refine⟨_,rfl,?_⟩
         first | refine tvE rfl ?_ | refine⟨_,rfl,?_⟩
         refine⟨_,1,rfl,rfl,p,ky+1,c6,o6,rfl,hp6,hpo6,by (first | lia | lia),by (first | lia | lia),by (first | lia | lia),by (first | lia | lia),fun fw c7 o7 f0 f1 g13 g14 hpo7=>?_⟩;have b7:But p H5 (upd H6 p o7):=b6.trans But.upd;have hd7:At p (upd H6 p o7) dA (.lst (ds.map V.str)):=hd6.on But.upd;have hp7:(upd H6 p o7) p=some o7:=af;generalize upd H6 p o7=H7 at b7 hd7 hp7;refine⟨ze p most kA mn lk ky rA i dA sp c5 H7,?_,?_⟩
         ·rintro σ H8 ⟨fw,sp',c8,rfl,hfw,hp8,g15,g16,b8⟩;have b58:=b7.trans b8;have hk8:=hk5.on b58;have hd8:=hd7.on b8;have hW8:=hW.on b58
          first | refine tvE rfl ?_ | refine⟨_,rfl,?_⟩
          refine⟨.inl ⟨rfl,_,aAA hW8.ls.1⟩,_,rfl,_,rfl,_,rfl,_,rfl,p,kA,fw,c8,ks,rfl,hp8,hk8.1,hkn,by (first | lia | lia),by (first | lia | lia),by (first | lia | lia),by (first | lia | lia),fun wA ss c9 H9 nW hsl hsm hw9 hp9 g17 g18 b9=>?_⟩;obtain⟨o8,hp8',_⟩:=hp8;obtain⟨o9,hp9',hpo9⟩:=hp9;have npw:p≠wA:=ag hp8' nW;refine⟨by show 2<=sizeLine;decide,fun tA nT=>?_⟩;have npt:p≠tA:=ag hp9' nT;have bT:But p H9 (upd H9 tA (.tup [.ref dA,.ref wA])):=fun b u hb e=>by rw [ai (ag e nT)];exact e
          have b5T:=(b58.trans b9).trans bT;have hdw:dA≠wA:=ag hd8.1 nW;have hWn:=hW.more (r:=(ds,ss)) b5T (t:=tA) (d:=dA) (w:=wA) ⟨af,aaA npt⟩ ((hd8.on b9).on bT) ⟨by rw [ai (ag hw9 nT)];exact hw9,aaA npw⟩ nd6 (b58.free (aaA npw) nW) hdw;have hrA:=(hW.on b5T).ls;refine⟨rA,vs,.ref tA,rfl,rfl,hrA.1,by rw [hW.l1];exact bu (by (first | lia | lia)),?_⟩;have hst:∃ q':Nat,40 - sp'<=12 * q'/\((((rs++[(ds,ss)]).map (·.2.length)).sum:Nat):Int)+4 * q'<=4 * ((i+1:Nat):Int)+(40 - sp')/\0<=sp'/\sp'<=40:=by
           rw [aax,List.sum_append];simp only [z4,adB,adQ,List.sum_nil];rcases hfw with ⟨e1,e2⟩ | ⟨e1,e2,e3⟩
           ·exact⟨q,by (first | lia | lia),by (first | lia | lia),by (first | lia | lia),by (first | lia | lia)⟩
           ·exact⟨q+1,by (first | lia | lia),by (first | lia | lia),by (first | lia | lia),by (first | lia | lia)⟩
          obtain⟨q',q1,q2,q3,q4⟩:=hst;refine⟨_,_,_,sp',c9,vs++[.ref tA],rs++[(ds,ss)],ws++[wA],q',rfl,hWn,fun w' hw'=>?_,by simp [hrl],fun r hr'=>?_,q3,q4,q1,q2,⟨o9,by rw [ai (aaA hrA.2),ai npt];exact hp9',hpo9⟩,by (first | lia | lia),by (first | lia | lia),fun b u hb e=>?_⟩
          ·rcases zS.mp hw' with hw' | hw'
           ·exact hwf w' hw'
           ·rw [zQ.mp hw'];exact b5.free (aaA npw) (b58.free (aaA npw) nW)
          ·rcases zS.mp hr' with hr' | hr'
           ·exact hro r hr'
           ·rw [zQ.mp hr'];exact⟨hdk,hd1,hd4,hdp,hsm,by show ss.length<=12;(first | lia | lia)⟩
          ·rw [ai (ag e nR)];exact b5T b u hb (b5 b u hb e)
         ·first | refine tvE rfl ?_ | refine⟨_,rfl,?_⟩
          refine⟨p,8,c7,o7,rfl,hp7,hpo7,by decide,by decide,by (first | lia | lia),by (first | lia | lia),fun z c8 o8 z0 z1 g15 g16 hpo8=>?_⟩;refine⟨rfl,_,rfl,tZ (fun _=>?_) (fun _=>?_)⟩
          ·first | refine tvE rfl ?_ | refine⟨_,rfl,?_⟩
           first | refine tvE rfl ?_ | refine⟨_,rfl,?_⟩
           refine⟨p,9,c8,o8,rfl,af,hpo8,by decide,by decide,by (first | lia | lia),by (first | lia | lia),fun y c9 o9 y0 y1 g17 g18 hpo9=>?_⟩;refine⟨4,y,rfl,rfl,_,_,rfl,?_⟩;have mi:(if 4+y < sp then 4+y else sp)<=sp/\0<=(if 4+y < sp then 4+y else sp)/\(if 4+y < sp then 4+y else sp)<=12:=by split<;>(first | lia | lia)
           generalize (if 4+y < sp then 4+y else sp)=mv at mi ⊢;obtain⟨mvn,rfl⟩:∃ n:Nat,mv=(n:Int):=⟨mv.toNat,by (first | lia | lia)⟩
           first | refine tvE rfl ?_ | refine⟨_,rfl,?_⟩
           first | refine tvE rfl ?_ | refine⟨_,rfl,?_⟩
           refine⟨_,_,rfl,rfl,?_⟩;exact⟨mvn,_,c9,rfl,.inr ⟨rfl,mi.1,by (first | lia | lia)⟩,⟨o9,af,hpo9⟩,by (first | lia | lia),by (first | lia | lia),But.upd.trans But.upd⟩
          ·obtain⟨fwn,rfl⟩:∃ n:Nat,fw=(n:Int):=⟨fw.toNat,by (first | lia | lia)⟩;exact⟨fwn,sp,c8,rfl,.inl ⟨rfl,by (first | lia | lia)⟩,⟨o8,af,hpo8⟩,by (first | lia | lia),by (first | lia | lia),But.upd⟩
        ·first | refine tvE rfl ?_ | refine⟨_,rfl,?_⟩
         first | refine tvE rfl ?_ | refine⟨_,rfl,?_⟩
         first | refine tvE rfl ?_ | refine⟨_,rfl,?_⟩
         first | refine tvE rfl ?_ | refine⟨_,rfl,?_⟩
         refine⟨p,lk,c5,o5,rfl,hp5,hpo5,by (first | lia | lia),by (first | lia | lia),by (first | lia | lia),by (first | lia | lia),fun z c6 o6 z0 z1 g11 g12 hpo6=>?_⟩;obtain⟨zn,rfl⟩:∃ n:Nat,z=(n:Int):=⟨z.toNat,by (first | lia | lia)⟩;refine⟨1,_,rfl,rfl,?_⟩;have hk6:At p (upd H5 p o6) kA (.lst (ks.map V.str)):=hk5.on But.upd;refine⟨p,kA,1+zn,c6,ks,aaG (fun z=>[V.ref p,V.ref kA,V.int z]) (show (1+(zn:Int))=((1+zn:Nat):Int) by (first | lia | lia)),⟨o6,af,hpo6⟩,hk6.1,hkn,by (first | lia | lia),by (first | lia | lia),by (first | lia | lia),by (first | lia | lia),fun l ss c7 H7 nl hsl hsm hl7 hp7 g13 g14 b7=>?_⟩;refine⟨l,ss,rfl,aAA hl7,by (first | lia | lia),fun dA ds nd hpm hso=>?_⟩;have npl:p≠l:=ag (show (upd H5 p o6) p=some o6 from af) nl;obtain⟨o7,hp7',hpo7⟩:=hp7;have npd:p≠dA:=ag hp7' nd;have b57:But p H5 H7:=But.upd.trans b7;refine⟨dA,ds,c7,rfl,⟨af,aaA npd⟩,b57.free (aaA npd) nd,fun k hk=>hsm k (hpm.mem_iff.mp hk),by rw [hpm.length_eq];(first | lia | lia),by rw [hpm.length_eq];(first | lia | lia),aL hso,⟨o7,by rw [ai npd];exact hp7',hpo7⟩,by (first | lia | lia),by (first | lia | lia),fun b u hb e=>by rw [ai (ag (b57 b u hb e) nd)];exact b57 b u hb e⟩
       ·rintro σ H5 ⟨x8,x9,x10,sp,c5,vs,rs,ws,q,rfl,hW,hwf,hrl,hro,hs0,hs1,hs2,hs3,hp5,g9,g10,b5⟩;exact⟨x8,x9,x10,sp,c5,vs,rs,ws,rfl,hW,hwf,hrl,hro,by (first | lia | lia),hp5,g9,g10,b5⟩
     ·refine⟨by show 3<=sizeLine;decide,fun l1 n1=>?_⟩;have np1:p≠l1:=ag hp3 n1
      first | refine tvE rfl ?_ | refine⟨_,rfl,?_⟩
      refine⟨p,3,c3,o3,rfl,by rw [ai np1];exact hp3,hpo3,by decide,by decide,by (first | lia | lia),by (first | lia | lia),fun r c4 o4 r0 r1 h1 h2 hpo4=>?_⟩;obtain⟨m,hm,ha⟩:=xq (xs:=[2,3,4]) r0 r1;refine⟨l1,_,r,.int m,rfl,rfl,aAA (by rw [ai (aaA np1),af];rfl),ha,?_⟩;simp only [aab,aaI,aca] at hm;exact⟨m,c4,rfl,by (first | lia | lia),by (first | lia | lia),⟨o4,af,hpo4⟩,by (first | lia | lia),by (first | lia | lia),fun b u hb e=>by rw [ai hb,ai (ag (b3 b u hb e) n1)];exact b3 b u hb e⟩
    ·refine⟨by show 4<=sizeLine;decide,fun l1 n1=>?_⟩;have np1:p≠l1:=ag hp2 n1
     first | refine tvE rfl ?_ | refine⟨_,rfl,?_⟩
     refine⟨p,4,c2,o2,rfl,by rw [ai np1];exact hp2,hpo2,by decide,by decide,by (first | lia | lia),by (first | lia | lia),fun r c4 o4 r0 r1 h1 h2 hpo4=>?_⟩;obtain⟨m,hm,ha⟩:=xq (xs:=[1,1,2,4]) r0 r1;refine⟨l1,_,r,.int m,rfl,rfl,aAA (by rw [ai (aaA np1),af];rfl),ha,?_⟩;simp only [aab,aaI,aca] at hm;exact⟨m,c4,rfl,by (first | lia | lia),by (first | lia | lia),⟨o4,af,hpo4⟩,by (first | lia | lia),by (first | lia | lia),fun b u hb e=>by rw [ai hb,ai (ag (b2 b u hb e) n1)];exact b2 b u hb e⟩
   ·first | refine tvE rfl ?_ | refine⟨_,rfl,?_⟩
    first | refine tvE rfl ?_ | refine⟨_,rfl,?_⟩
    refine⟨_,_,rfl,_,1,rfl,rfl,?_⟩;have mi:0<=(if (8:Int) < (most:Int) then (8:Int) else (most:Int))/\(if (8:Int) < (most:Int) then (8:Int) else (most:Int))<=most:=by split<;>(first | lia | lia)
    refine⟨p,_,c1,o1,rfl,hp1,hpo1,by (first | lia | lia),by (first | lia | lia),by (first | lia | lia),by (first | lia | lia),fun a c2 o2 a0 a1 h1 h2 hpo2=>?_⟩
    first | refine tvE rfl ?_ | refine⟨_,rfl,?_⟩
    first | refine tvE rfl ?_ | refine⟨_,rfl,?_⟩
    refine⟨_,1,rfl,rfl,p,_,c2,o2,rfl,af,hpo2,by (first | lia | lia),by (first | lia | lia),by (first | lia | lia),by (first | lia | lia),fun b c3 o3 b0 b1' h3 h4 hpo3=>?_⟩;refine⟨by show 2<=sizeLine;decide,fun l1 n1=>?_⟩;have np1:p≠l1:=ag (show (upd (upd H1 p o2) p o3) p=some o3 from af) n1
    first | refine tvE rfl ?_ | refine⟨_,rfl,?_⟩
    refine⟨p,2,c3,o3,rfl,by rw [ai np1];exact af,hpo3,by decide,by decide,by (first | lia | lia),by (first | lia | lia),fun r c4 o4 r0 r1 h5 h6 hpo4=>?_⟩;obtain⟨m,hm,ha⟩:=xq (xs:=[a,b]) r0 r1;refine⟨l1,_,r,.int m,rfl,rfl,aAA (by rw [ai (aaA np1),af];rfl),ha,?_⟩;simp only [aab,aaI,aca] at hm;obtain⟨mn,rfl⟩:∃ mn:Nat,m=(mn:Int):=⟨m.toNat,by (first | lia | lia)⟩;have n1':H1 l1=none:=by
     rw [ai (aaA np1),ai (aaA np1)] at n1;exact n1
    exact⟨mn,c4,rfl,by (first | lia | lia),⟨o4,af,hpo4⟩,by (first | lia | lia),by (first | lia | lia),fun b u hb e=>by rw [ai hb,ai (ag e n1'),ai hb,ai hb];exact e⟩
  ·first | refine tvE rfl ?_ | refine⟨_,rfl,?_⟩
   first | refine tvE rfl ?_ | refine⟨_,rfl,?_⟩
   refine⟨by show 4<=sizeLine;decide,fun l1 n1=>?_⟩;have np1:p≠l1:=ag hp n1
   first | refine tvE rfl ?_ | refine⟨_,rfl,?_⟩
   refine⟨p,4,c,o,rfl,by rw [ai np1];exact hp,hpo,by decide,by decide,by (first | lia | lia),by (first | lia | lia),fun r c1 o1 r0 r1 h1 h2 hpo1=>?_⟩;obtain⟨m,hm,ha⟩:=xq (xs:=[6,6,24,60]) r0 r1;have hm':1<=m/\m<=60:=by simp only [aab,aaI,aca] at hm;(first | lia | lia)
   refine⟨l1,_,r,.int m,rfl,rfl,aAA (by rw [ai (aaA np1),af];rfl),ha,?_⟩;refine⟨p,m,c1,o1,rfl,af,hpo1,by (first | lia | lia),by (first | lia | lia),by (first | lia | lia),by (first | lia | lia),fun q c2 o2 q0 q1 h3 h4 hpo2=>?_⟩;obtain⟨qn,rfl⟩:∃ qn:Nat,q=(qn:Int):=⟨q.toNat,by (first | lia | lia)⟩;refine⟨1,_,rfl,rfl,?_⟩;have bb:But p H (upd (upd (upd H l1 (.lst [.int 6,.int 6,.int 24,.int 60])) p o1) p o2):=fun b u hb e=>by rw [ai hb,ai hb,ai (ag e n1)];exact e
   refine⟨p,1+qn,c2,aaG (fun z=>[V.ref p,V.int z]) (show (1+(qn:Int))=((1+qn:Nat):Int) by (first | lia | lia)),⟨o2,af,hpo2⟩,by (first | lia | lia),by (first | lia | lia),by (first | lia | lia),fun l ks c3 H' hl hkl hko hkn hl' hp' h5 h6 hb=>?_⟩;refine⟨l,ks,c3,rfl,⟨hl',fun z=>?_⟩,(fun z=>by rw [z] at hkl;simp at hkl;(first | lia | lia)),by (first | lia | lia),hko,hp',by (first | lia | lia),by (first | lia | lia),bb.trans hb⟩;subst z;rw [af] at hl;cases hl
end
end K7
namespace L2
open PySem PySem.Spec PyProof.Rows PySem.W
section
variable {prog:Program}{w:World}{h h':Heap}{a:Addr}{es:Array (Int×Value)}{ep:Nat}{t:SetTable}{ss:List Int}
section
variable {A:Around}{E:Value->Shared->Prop}{s:Shared}
end
end
section
variable {prog:Program}{w:World}{A:Around}{E:Value->Shared->Prop}{s:Shared}{a I T:Addr}{es:Array (Int×Value)}{ep:Nat}{t:SetTable}{ps:List Nat}{i:Nat}
end
section
variable {prog:Program}{w:World}{A:Around}{R:Result->Shared->Prop}{I:Addr}{fp wr:List Addr}{G:Array GenState->Array GenState->Prop}{n:Nat}{P:Nat->Value->Prop}{St:Nat->Shared->Prop}
end
section
variable {prog:Program}{w:World}{A:Around}{E:Value->Shared->Prop}{s:Shared}
end
section
variable {X:Cx}
end
section
variable {P:Program}{w:World}{K:PySem.W.Frag}{X:Cx}
end
end L2
namespace L2
open PySem PySem.Spec PyProof.Rows
section
variable {X:Cx}
end
section
variable {nl:Nat}{ix:List Nat}{tf:TT}{tk tv:TE}{σ:St}{H1:Hp}{D a:Addr}{Q:VK}{F:Key->V}{pb:Key->Bool}{ks:List Key}
end
section
variable {nl:Nat}{ix:List Nat}{tf:TT}{te:TE}{σ:St}{H1:Hp}{D a:Addr}{Q:VK}
end
section
variable {prog:Program}{w:World}{A:Around}{R:Result->Shared->Prop}{s:Shared}
end
section
variable {X:Cx}
end
section
variable {X:Cx}{tg:Expr}
end
end L2
namespace L2
open PySem PySem.Spec PyProof.Rows PySem.W
section
variable {X:Cx}{pins:List (Addr×Obj)}{σ:St}{H:Hp}{s:Shared}{scope:Scope}{N':List Str}{fp:List Addr}{x:Str}
end
section
variable {X:Cx}
end
section
variable {X:Cx}{outer scope:Scope}{N N':List Str}{nl:Nat}{ix:List Nat}{tg iter:Expr}{ifs:List Expr}{pos:Pos}{wi:TI}{g:TG}{tf:TT}
end
section
variable {X:Cx}
end
end L2
namespace L2
open PySem PySem.Spec PySem.Calls PyProof.Rows PySem.W
section
variable {prog:Program}{w:World}{A:Around}{E:Value->Shared->Prop}{s:Shared}{it d:Addr}{i ep:Nat}{es:Array DictEntry}
end
section
variable {prog:Program}{w:World}
end
section
variable {prog:Program}{w:World}{A:Around}{E:Value->Shared->Prop}
end
section
variable {prog:Program}{w:World}{A:Around}{E:Value->Shared->Prop}{s:Shared}
end
section
variable {X:Cx}{e:Expr}{te:TE}{p pos lp cp kp1 kp2:Pos}{j:Option Str}
end
section
variable {X:Cx}{k v:Expr}{tk tv:TE}{pos:Pos}
end
section
variable {prog:Program}{w:World}{A:Around}{E:Value->Shared->Prop}{s:Shared}
end
section
variable {X:Cx}{K:PySem.W.Frag}
end
end L2
namespace L2
open PySem PySem.Spec PyProof.Rows
section
variable {X:Cx}{k v:Expr}{tk tv:TE}{pos:Pos}
end
end L2
namespace L2
open PySem PySem.Spec PyProof.Rows PySem.W
section
variable {X:Cx}
end
end L2
namespace K7
open PySem L2 PyProof.Rows
def jZ (k:Str):Nat->List Rm->List Nat
 | _,[]=>[]
 | i,r::rs=>List.replicate (r.1.count k) (2 * i+1)++(List.replicate (r.2.count k) (2 * i+2)++jZ k (i+1) rs)
def plc (h:Hs)(k:Str):List Nat:=List.replicate (h.1.count k) 0++jZ k 0 h.2
def ko (k:Str):List Rm->List Int
 | []=>[]
 | r::rs=>((r.1.count k:Nat):Int)::((r.2.count k:Nat):Int)::ko k rs
def row (h:Hs)(k:Str):List Int:=((h.1.count k:Nat):Int)::ko k h.2
def plF:Nat->List Int->List Nat
 | i,a::b::rest=>List.replicate a.toNat (2 * i+1)++(List.replicate b.toNat (2 * i+2)++plF (i+1) rest)
 | _,_=>[]
def ye:List Int->List Nat
 | a::rest=>List.replicate a.toNat 0++plF 0 rest
 | []=>[]
theorem sh (k:Str):∀ (rs:List Rm) (i:Nat),plF i (ko k rs)=jZ k i rs
 | [],_=>rfl
 | r::rs,i=>by
  show List.replicate _ _++(List.replicate _ _++plF (i+1) (ko k rs))=_;rw [sh k rs (i+1),aaY,aaY]
  rfl
theorem uZ (h:Hs)(k:Str):ye (row h k)=plc h k:=by
 show List.replicate _ _++plF 0 (ko k h.2)=_;rw [sh,aaY]
 rfl
theorem jo (k:Str)(r:Rm):∀ (rs:List Rm) (i:Nat),jZ k i (rs++[r])=jZ k i rs++(List.replicate (r.1.count k) (2 * (i+rs.length)+1)++List.replicate (r.2.count k) (2 * (i+rs.length)+2))
 | [],i=>by
  show List.replicate _ _++(List.replicate _ _++[])=[]++_;rw [aaK,ae1]
  rfl
 | q::rs,i=>by
  show List.replicate _ _++(List.replicate _ _++jZ k (i+1) (rs++[r]))=(List.replicate _ _++(List.replicate _ _++jZ k (i+1) rs))++_;rw [jo k r rs (i+1),zU,zU,show i+1+rs.length=i+(q::rs).length by simp only [aaq];lia]
theorem kS {k:Str}{v:Nat}:∀ {rs:List Rm} {i:Nat},v∈jZ k i rs->2 * i+1<=v/\v<=2 * (i+rs.length)
 | [],_,h=>by cases h
 | r::rs,i,h=>by
  simp only [jZ,zS,List.mem_replicate] at h;simp only [aaq];rcases h with ⟨_,h⟩ | ⟨_,h⟩ | h
  ·lia
  ·lia
  ·have:=kS h;lia
theorem my (n a b:Nat):(List.replicate n a).count b=if a=b then n else 0:=by
 rw [List.count_replicate];by_cases e:a=b<;>simp [e]
theorem kD {k m:Str}:∀ {rs qs:List Rm} {i:Nat},rs.length=qs.length->jZ k i rs=jZ m i qs->ko k rs=ko m qs
 | [],[],_,_,_=>rfl
 | [],_::_,_,e,_=>absurd e (by simp)
 | _::_,[],_,e,_=>absurd e (by simp)
 | r::rs,q::qs,i,e,h=>by
  have far:∀ (x:Str) (ts:List Rm) (v:Nat),v<=2 * i+2->(jZ x (i+1) ts).count v=0:=fun x ts v hv=>adg.mpr fun z=>by
   have:=kS z;lia
  have c1:=aaG (·.count (2 * i+1)) h;have c2:=aaG (·.count (2 * i+2)) h;simp only [jZ,aes,my,far _ _ _ (show 2 * i+1<=2 * i+2 by lia),far _ _ _ (zP _)] at c1 c2;have e1:r.1.count k=q.1.count m:=by simpa using c1
  have e2:r.2.count k=q.2.count m:=by simpa using c2
  simp only [jZ,e1,e2] at h;have h3:=adh (adh h);show _::_::ko k rs=_::_::ko m qs;rw [e1,e2,kD (by simpa using e) h3]
theorem tK {h g:Hs}{k m:Str}(l:h.2.length=g.2.length)(e:plc h k=plc g m):row h k=row g m:=by
 have z:∀ (x:Str) (ts:List Rm),(jZ x 0 ts).count 0=0:=fun x ts=>adg.mpr fun w=>by
  have:=kS w;lia
 have c:=aaG (·.count 0) e;unfold plc at c e;simp only [aes,my,z] at c;have e1:h.1.count k=g.1.count m:=by simpa using c
 rw [e1] at e;unfold row;rw [e1,kD l (adh e)]
theorem xu {k:Str}:∀ {rs:List Rm} {r:Rm} {i:Nat},rs.getLast? = some r->k∈r.1->2 * (i+rs.length) - 1∈jZ k i rs:=by
 intro rs r i e hk;obtain⟨ys,rfl⟩:=List.getLast?_eq_some_iff.mp e;rw [jo,zH,aa2];refine aaa _ (aaW _ ?_);rw [List.mem_replicate];exact⟨fun z=>by have:=List.count_pos_iff.mpr hk;lia,by lia⟩
structure cN (h:Hs)(ks:List Str):Prop where
 nd:ks.Nodup
 mem:∀ x,x∈ks↔x∈aE h\/x∈aU h
theorem pJ {h g:Hs}(ok:aM g){k1 k2:List Str}(L2:cN g k2)(e:∀ m∈k2,∃ k∈k1,plc h k=plc g m):g.2.length<=h.2.length:=by
 cases hl:g.2.getLast? with
 | none=>rw [List.getLast?_eq_none_iff] at hl;rw [hl];exact zZ _
 | some r =>
  have hr:r∈g.2:=List.mem_of_getLast? hl;have l1:=(ok.rs r hr).l1;obtain⟨m,hm⟩:=List.exists_mem_of_length_pos l1;have t:=xu (i:=0) hl hm;have hm2:m∈k2:=(L2.mem m).mpr (.inr (aar.mpr ⟨r,hr,hm⟩));obtain⟨k,_,ek⟩:=e m hm2;have:2 * (0+g.2.length) - 1∈plc h k:=by rw [ek];exact aaa _ t
  rcases zS.mp this with z | z
  ·have:=List.eq_of_mem_replicate z;have:=adk hr;lia
  ·have:=kS z;lia
theorem rL {a b:List Nat}(e:(a.map fun i=>((i:Nat):Int))=b.map fun i=>((i:Nat):Int)):a=b:=List.map_inj_right (fun x y h=>by lia) |>.mp e
abbrev zI (o:List Nat):List Int:=o.map fun i=>((i:Nat):Int)
abbrev prs (h:Hs)(ks:List Str):List (List Int×Str):=ks.map fun k=>(zI (plc h k),k)
theorem vF {A:List (List Int×Str)}(s:A.Pairwise fun a b=>LL.lexP b a=false):(A.map (·.1)).Pairwise fun a b=>¬ b < a:=by
 rw [aep];refine s.imp fun {a b} z w=>?_;have:LL.lexP b a=true:=LL.lexP_lt.mpr (.inl w);rw [z] at this;cases this
theorem qZ {l l':List (List Int)}(a:l.Pairwise fun a b=>¬ b < a)(b:l'.Pairwise fun a b=>¬ b < a)(p:l.Perm l'):l=l' :=
 p.eq_of_pairwise (fun x y _ _ h1 h2=>ach (aby.mp h1) (aby.mp h2)) a b
theorem fI {h:Hs}{ks:List Str}{A:List (List Int×Str)}(p:A.Perm (prs h ks)):(A.map (·.1)).Perm (ks.map fun k=>zI (plc h k)):=by
 have:=p.map (·.1)
 rwa [aa3] at this
theorem j9 {h g:Hs}(ok1:aM h)(ok2:aM g){k1 k2:List Str}(L1:cN h k1)(L2:cN g k2)(p:(k1.map fun k=>zI (plc h k)).Perm (k2.map fun k=>zI (plc g k))):h.2.length=g.2.length:=by
 refine Nat.le_antisymm (pJ (h:=g) (k1:=k2) ok1 L1 fun m hm=>?_) (pJ (k1:=k1) ok2 L2 fun m hm=>?_)
 ·obtain⟨k,hk,e⟩:=aaJ.mp (p.mem_iff.mp (abK hm));exact⟨k,hk,rL e⟩
 ·obtain⟨k,hk,e⟩:=aaJ.mp (p.symm.mem_iff.mp (abK hm));exact⟨k,hk,rL e⟩
theorem rR {h g:Hs}(ok1:aM h)(ok2:aM g){k1 k2:List Str}(L1:cN h k1)(L2:cN g k2){A B:List (List Int×Str)}(pa:A.Perm (prs h k1))(pb:B.Perm (prs g k2))(sa:A.Pairwise fun a b=>LL.lexP b a=false)(sb:B.Pairwise fun a b=>LL.lexP b a=false)
 {R S:List (List Int)}(pr:R.Perm (k1.map (row h)))(ps:S.Perm (k2.map (row g)))(sr:R.Pairwise fun a b=>¬ b < a)(ss:S.Pairwise fun a b=>¬ b < a):A.map (·.1)=B.map (·.1)↔h.2.length=g.2.length/\R=S:=by
 constructor
 ·intro e;have p:(k1.map fun k=>zI (plc h k)).Perm (k2.map fun k=>zI (plc g k)):=(fI pa).symm.trans (e▸fI pb);have l:=j9 ok1 ok2 L1 L2 p;refine⟨l,qZ sr ss (pr.trans (.trans ?_ ps.symm))⟩;have q:(k1.map (plc h)).Perm (k2.map (plc g)):=by
   have e1:∀ (x:Hs) (ks:List Str),(ks.map fun k=>zI (plc x k)).map (fun o=>o.map Int.toNat)=ks.map (plc x):=fun x ks=>by
    rw [aa3];refine acQ fun k _=>?_;show (zI (plc x k)).map Int.toNat=_;rw [aa3];exact afv _
   have:=p.map fun o=>o.map Int.toNat
   rwa [e1,e1] at this
  obtain⟨G,hG⟩:∃ G:List Nat->List Int,(∀ k∈k1,G (plc h k)=row h k)/\∀ m∈k2,G (plc g m)=row g m:=by
   refine⟨fun o=>@dite _ (∃ k∈k1,plc h k=o) (Classical.propDecidable _) (fun z=>row h (Classical.choose z)) fun _=>[],fun k hk=>?_,fun m hm=>?_⟩
   ·have z:∃ k'∈k1,plc h k'=plc h k:=⟨k,hk,rfl⟩;dsimp only;rw [dif_pos z];exact tK rfl (acB z).2
   ·have z:∃ k'∈k1,plc h k'=plc g m:=by
     obtain⟨k,hk,e⟩:=aaJ.mp (q.symm.mem_iff.mp (abK hm));exact⟨k,hk,e⟩
    dsimp only;rw [dif_pos z];exact tK l (acB z).2
  have e1:k1.map (row h)=(k1.map (plc h)).map G:=by rw [aa3];exact acQ fun k hk=>(hG.1 k hk).symm
  have e2:k2.map (row g)=(k2.map (plc g)).map G:=by rw [aa3];exact acQ fun k hk=>(hG.2 k hk).symm
  rw [e1,e2];exact q.map G
 ·rintro⟨l,e⟩;have p:(k1.map (row h)).Perm (k2.map (row g)):=pr.symm.trans (e▸ps);have q:=(p.map ye).map zI;rw [aa3,aa3,aa3,aa3] at q;refine qZ (vF sa) (vF sb) ((fI pa).trans (.trans ?_ (fI pb).symm));have f:∀ (x:Hs) (ks:List Str),ks.map (zI ∘ ye ∘ row x)=ks.map fun k=>zI (plc x k):=fun x ks=>acQ fun k _=>by
   show zI (ye (row x k))=_;rw [uZ]
  rw [← f,← f];exact q
structure tV (φ:Str->Str)(h g:Hs):Prop where
 rooms:h.2.length=g.2.length
 beg:(h.1.map φ).Perm g.1
 lk:∀ (i:Nat) r r',h.2[i]? = some r->g.2[i]? = some r'->(r.1.map φ).Perm r'.1/\(r.2.map φ).Perm r'.2
theorem kO {φ:Str->Str}{k1 k2:List Str}(inj:∀ x∈k1,∀ y∈k1,φ x=φ y->x=y)(into:∀ x∈k1,φ x∈k2)(onto:∀ m∈k2,∃ x∈k1,φ x=m){l l':List Str}(sub:∀ x∈l,x∈k1)(sub':∀ x∈l',x∈k2)(c:∀ x∈k1,l.count x=l'.count (φ x)):(l.map φ).Perm l':=by
 rw [List.perm_iff_count];intro m;by_cases hm:m∈k2
 ·obtain⟨x,hx,rfl⟩:=onto m hm;rw [← c x hx];clear c
  induction l with
  | nil=>rfl
  | cons a l ih =>
   rw [z4,aeR,aeR,ih fun y hy=>sub y (z8 _ hy)];by_cases e:a=x
   ·subst e;simp
   ·have:φ a≠φ x:=fun z=>e (inj _ (sub a z7) _ hx z);simp [e,this]
 ·rw [adg.mpr fun z=>hm ?_,adg.mpr fun z=>hm (sub' m z)];obtain⟨x,hx,rfl⟩:=aaJ.mp z;exact into x (sub x hx)
theorem vt {h g:Hs}{k m:Str}:∀ {rs qs:List Rm},ko k rs=ko m qs->∀ (i:Nat) r q,rs[i]? = some r->qs[i]? = some q->r.1.count k=q.1.count m/\r.2.count k=q.2.count m
 | [],_,_,i,r,q,e,_=>by simp at e
 | _::_,[],_,i,r,q,_,e=>by simp at e
 | a::rs,b::qs,e,i,r,q,e1,e2=>by
  simp only [ko,acC] at e;obtain⟨c1,c2,c3⟩:=e;cases i with
  | zero=>cases e1;cases e2;exact⟨by lia,by lia⟩
  | succ i=>exact vt (h:=h) (g:=g) c3 i r q e1 e2
theorem uS {h g:Hs}(ok1:aM h)(ok2:aM g){k1 k2:List Str}(L1:cN h k1)(L2:cN g k2){A B:List (List Int×Str)}(pa:A.Perm (prs h k1))(pb:B.Perm (prs g k2))(e:A.map (·.1)=B.map (·.1)) :
 (A.map (·.2)).Perm k1/\(B.map (·.2)).Perm k2/\(A.map (·.2)).length=(B.map (·.2)).length/\tV (bM (A.map (·.2)) (B.map (·.2))) h g:=by
 have e1:∀ (x:Hs) (ks:List Str),(prs x ks).map (·.2)=ks:=fun x ks=>by rw [aa3];exact afv _
 have p1:(A.map (·.2)).Perm k1:=e1 h k1▸pa.map (·.2);have p2:(B.map (·.2)).Perm k2:=e1 g k2▸pb.map (·.2);have ll:A.length=B.length:=by have:=aaG List.length e;simpa using this
 have l2:(A.map (·.2)).length=(B.map (·.2)).length:=by rw [zL,zL,ll]
 refine⟨p1,p2,l2,?_⟩;have p:(k1.map fun k=>zI (plc h k)).Perm (k2.map fun k=>zI (plc g k)):=(fI pa).symm.trans (e▸fI pb);have l:=j9 ok1 ok2 L1 L2 p;have ndA:(A.map (·.2)).Nodup:=p1.nodup_iff.mpr L1.nd;have ndB:(B.map (·.2)).Nodup:=p2.nodup_iff.mpr L2.nd;have inA:∀ x∈k1,x∈A.map (·.2):=fun x hx=>p1.mem_iff.mpr hx;have rw_:∀ x∈k1,row h x=row g (bM (A.map (·.2)) (B.map (·.2)) x):=fun x hx=>by
  have g1:=dW (inA x hx) l2;rw [zT] at g1;obtain⟨b,eb,eb2⟩:=acr.mp g1;have hi:=(zJ.mp eb).1;obtain⟨a,ea⟩:∃ a,A[(A.map (·.2)).idxOf x]? = some a:=⟨_,zG (by lia)⟩;have ea2:a.2=x:=by
   have t:=aea (abv (inA x hx));have t2:(A.map (·.2))[(A.map (·.2)).idxOf x]? = some x:=zJ.mpr ⟨_,t⟩;rw [zT,ea] at t2;exact aai t2
  have ef:a.1=b.1:=by
   have:=aaG (·[(A.map (·.2)).idxOf x]?) e;simp only [zT,ea,eb,ac0] at this;exact aai this
  obtain⟨u,_,hu⟩:=aaJ.mp (pa.mem_iff.mp (aac ea));obtain⟨v,_,hv⟩:=aaJ.mp (pb.mem_iff.mp (aac eb));rw [← hu] at ef ea2;rw [← hv] at ef eb2;dsimp only at ef ea2 eb2;subst ea2;rw [← eb2];exact tK l (rL ef)
 have inj:∀ x∈k1,∀ y∈k1,bM (A.map (·.2)) (B.map (·.2)) x=bM (A.map (·.2)) (B.map (·.2)) y->x=y:=fun x hx y hy z=>qt l2 ndB x (inA x hx) y (inA y hy) z;have into:∀ x∈k1,bM (A.map (·.2)) (B.map (·.2)) x∈k2:=fun x hx=>p2.mem_iff.mp (jT l2 (inA x hx));have onto:∀ m∈k2,∃ x∈k1,bM (A.map (·.2)) (B.map (·.2)) x=m:=fun m hm=>by
  obtain⟨j,hj⟩:=acG (p2.mem_iff.mpr hm);have h1:=(zJ.mp hj).1;obtain⟨x,ex⟩:∃ x,(A.map (·.2))[j]? = some x:=⟨_,zG (by lia)⟩;have hx:=aac ex;refine⟨x,p1.mem_iff.mp hx,?_⟩;have g1:=dW hx l2;have ei:(A.map (·.2)).idxOf x=j:=by
   obtain⟨hj',ej'⟩:=zJ.mp ex;rw [← ej'];exact ndA.idxOf_getElem j hj'
  rw [ei,hj] at g1;exact (aai g1).symm
 refine⟨l,kO inj into onto (fun x hx=>(L1.mem x).mpr (.inl (aaW _ hx))) (fun x hx=>(L2.mem x).mpr (.inl (aaW _ hx))) fun x hx=>?_,fun i r r' er er'=>?_⟩
 ·have:=rw_ x hx;unfold row at this;injection this with t _
  lia
 ·have hr:=aac er;have hr':=aac er';have c:∀ x∈k1,r.1.count x=r'.1.count (bM (A.map (·.2)) (B.map (·.2)) x)/\r.2.count x=r'.2.count (bM (A.map (·.2)) (B.map (·.2)) x):=fun x hx=>by
   have:=rw_ x hx;unfold row at this;injection this with _ t
   exact vt (h:=h) (g:=g) t i r r' er er'
  exact⟨kO inj into onto (fun x hx=>(L1.mem x).mpr (.inr (aar.mpr ⟨r,hr,hx⟩))) (fun x hx=>(L2.mem x).mpr (.inr (aar.mpr ⟨r',hr',hx⟩))) fun x hx=>(c x hx).1,kO inj into onto (fun x hx=>(L1.mem x).mpr (.inl (aaa _ (aar.mpr ⟨r,hr,hx⟩)))) (fun x hx=>(L2.mem x).mpr (.inl (aaa _ (aar.mpr ⟨r',hr',hx⟩)))) fun x hx=>(c x hx).2⟩
def iO (h:Hs)(i:Nat):List Str:=h.1++(h.2.take i).flatMap fun r=>r.1++r.2
theorem lL (h:Hs):iO h 0=h.1:=by simp [iO]
theorem iT {h:Hs}{i:Nat}{r:Rm}(e:h.2[i]? = some r):iO h (i+1)=iO h i++r.1++r.2:=by
 unfold iO;rw [aaS,e,aa7];simp
theorem lA (rs:List Rm):(rs.flatMap fun r=>r.1++r.2).length=(rs.flatMap (·.2)).length+(rs.flatMap (·.1)).length:=by
 induction rs with
 | nil=>rfl
 | cons r rs ih=>simp only [abb,zH,ih];lia
theorem ph (h:Hs):(iO h h.2.length).length=(aE h).length+(aU h).length:=by
 unfold iO aE aU;rw [aa9,zH,zH,lA];lia
theorem sV {h:Hs}{i:Nat}:(iO h i).length<=(aE h).length+(aU h).length:=by
 rw [← ph];unfold iO;rw [zH,zH,aa9,lA,lA];have a:∀ (g:Rm->List Str),((h.2.take i).flatMap g).length<=(h.2.flatMap g).length:=fun g=>by
  rw [show h.2.flatMap g=(h.2.take i).flatMap g++(h.2.drop i).flatMap g by rw [← aa7,aat],zH];lia
 have:=a (·.1);have:=a (·.2);lia
theorem said_mem {h:Hs}{x:Str}:x∈iO h h.2.length↔x∈aE h\/x∈aU h:=by
 unfold iO aE aU;rw [aa9];simp only [zS,aar];constructor
 ·rintro (q | ⟨r,hr,q | q⟩)
  ·exact .inl (.inl q)
  ·exact .inr ⟨r,hr,q⟩
  ·exact .inl (.inr ⟨r,hr,q⟩)
 ·rintro ((q | ⟨r,hr,q⟩) | ⟨r,hr,q⟩)
  ·exact .inl q
  ·exact .inr ⟨r,hr,.inr q⟩
  ·exact .inr ⟨r,hr,.inl q⟩
theorem ar {H:Hp}{l:Addr}{o:HO}(n:H l=none):Same H (upd H l o):=fun b u e=>by rw [ai (ag e n)];exact e
theorem aI {H H':Hp}{p:Addr}{c:Int}(pl:aK H p c)(s:Same H H'):aK H' p c:=let ⟨o,e,i⟩:=pl;⟨o,s _ _ e,i⟩
theorem bq {H H':Hp}{p:Addr}(s:Same H H'):But p H H':=fun b u _ e=>s b u e
theorem cq {H:Hp}{p b:Addr}{c:Int}(pl:aK H p c)(n:H b=none):b≠p:=fun z=>by
 obtain⟨o,e,_⟩:=pl;rw [z,e] at n;cases n
def KeysAre (kvs:List (Key×V))(xs:List Str):Prop:=∃ ks:List Str,kvs.map (·.1)=ks.map Sum.inr/\ks.Nodup/\∀ x,x∈ks↔x∈xs
theorem KeysAre.len {kvs:List (Key×V)}{xs:List Str}(k:KeysAre kvs xs):kvs.length<=xs.length:=by
 obtain⟨ks,e,nd,m⟩:=k;have:=aaG List.length e;rw [zL,zL] at this;rw [this];exact aV nd fun x hx=>(m x).mp hx
theorem mem_inr {ks:List Str}{z:Str}:(Sum.inr z:Key)∈ks.map Sum.inr↔z∈ks:=by
 rw [aaJ];exact⟨fun ⟨x,hx,e⟩=>by cases e;exact hx,fun h=>⟨z,h,rfl⟩⟩
theorem KeysAre.old {kvs:List (Key×V)}{xs:List Str}(k:KeysAre kvs xs){z:Str}{v:V}(e:dw kvs (.inr z)=some v):KeysAre kvs (xs++[z]):=by
 obtain⟨ks,ek,nd,m⟩:=k;refine⟨ks,ek,nd,fun x=>?_⟩;have hz:z∈ks:=by
  have:=abK (f:=(·.1)) (oR e);rw [ek] at this;exact mem_inr.mp this
 rw [zS,zQ,← m x];exact⟨.inl,fun h=>h.elim id fun h=>h▸hz⟩
theorem KeysAre.new {kvs:List (Key×V)}{xs:List Str}(k:KeysAre kvs xs){z:Str}{v:V}(e:dw kvs (.inr z)=none):KeysAre (mM kvs (.inr z) v) (xs++[z]):=by
 obtain⟨ks,ek,nd,m⟩:=k;have hz:z ∉ ks:=fun h=>rj e (by rw [ek];exact mem_inr.mpr h);refine⟨ks++[z],by rw [pd v e,aax,aax,ek];rfl,List.nodup_append.mpr ⟨nd,by simp,fun a ha b hb w=>?_⟩,fun x=>?_⟩
 ·rw [zQ] at hb;subst hb;exact hz (w▸ha)
 ·rw [zS,zS,m x]
theorem hE {K:PySem.W.Frag}{t:TE}{σ:L2.St}{D:tY}{H G:Hp}{d:Addr}{kvs:List (Key×V)}{z:Str}{n:Nat}{Dm:Str->List Nat}{xs:List Str}(e3:σ[3]? = some (some (V.ref d)))(e4:σ[4]? = some (some (V.str z)))(ht:∀ (G':Hp) (R:VK),R (.int ((n:Nat):Int)) G'->t σ G' R)(hd:G d=some (.dK kvs))(nd:H d=none)(s:Same H G)(lm:LockMap H G kvs Dm)(ka:KeysAre kvs xs)(xl:xs.length<=1000)(dl:(Dm z).length<=1000)
 (k:∀ kvs' G',Same H G'->G' d=some (.dK kvs')->LockMap H G' kvs' (fun x=>if x=z then Dm x++[n] else Dm x)->KeysAre kvs' (xs++[z])->D.nx σ G'):wd (tBM K "list" qR (tBM K "dict" qV (ik 3) (cf (ik 4) (cf (t7 gh) gh))) (cf t gh)) D σ G:=by
 have lim:1001 < sizeLine:=by decide
 have kl:=ka.len;refine⟨_,e3,.inr (.inr (.inl ⟨rfl,.inl ⟨_,hd⟩⟩)),_,e4,zZ _,fun l nl=>?_⟩;have nlH:H l=none:=s.free nl;have ndl:d≠l:=ag hd nl;have sl:Same G (upd G l (.lst [])):=fun b u e=>by rw [ai (ag e nl)];exact e
 refine⟨d,kvs,Sum.inr z,.ref l,rfl,rfl,by rw [ai ndl];exact hd,by lia,fun v hv=>?_,fun hv=>?_⟩
 ·obtain⟨a,rfl,ha1,ha2⟩:=lm.som _ v hv;have ha2':=sl _ _ ha2;refine⟨.inl ⟨rfl,_,aAA ha2'⟩,ht _ _ ⟨a,_,_,rfl,rfl,ha2',by rw [zL];lia,?_⟩⟩;have e1:(List.map (fun i=>V.int ((i:Nat):Int)) (Dm z)++[V.int ((n:Nat):Int)])=List.map (fun i=>V.int ((i:Nat):Int)) (Dm z++[n]):=by rw [aax];rfl
  rw [e1];refine k kvs _ (fun b u e=>?_) ?_ ((lm.keep fun a xs _ e=>sl a _ e).more (i:=n) hv) (ka.old hv)
  ·rw [ai (ag e ha1)];exact sl _ _ (s _ _ e)
  ·rw [ai (kH hd ha2 (fun z=>nomatch z)),ai ndl];exact hd
 ·refine⟨.inl ⟨rfl,[],aAA ?_⟩,ht _ _ ⟨l,[],_,rfl,rfl,?_,zX (by decide:0 < 1) (by decide),?_⟩⟩
  ·rw [ai (aaA ndl),af]
  ·rw [ai (aaA ndl),af]
  refine k _ _ (fun b u e=>?_) ?_ ((lm.fresh (i:=n) hv nl nlH).keep fun b xs _ e=>?_) (ka.new (v:=.ref l) hv)
  ·rw [ai (ag e nlH),ai (ag e nd)];exact sl _ _ (s _ _ e)
  ·rw [ai ndl,af]
  ·by_cases w:b=l
   ·subst w;rw [af] at e ⊢;exact e
   ·rw [ai w] at e ⊢;rw [ai (kH e hd (fun z=>nomatch z)),ai w];exact e
def aW (h:Hs):PyData:=.tuple [.list (h.1.map PyData.str),.list (h.2.map bS)]
theorem fO {H:Hp}{v:V}{h:Hs}(x:HouseAt H v h):Sees H v (aW h):=by
 obtain⟨t,a,r,vs,rfl,h1,h2,h3,h4⟩:=x;exact .tup h1 (.cons (.lst h2 (SeesAll.strs _)) (.cons (.lst h3 (fN h4)) .nil))
theorem gP {h:Hs}(ok:aM h):(aW h).canLay0=true:=by
 have e1:=de ok.kk;have e2:=gu (rs:=h.2) fun r hr=>⟨(ok.rs r hr).lk,(ok.rs r hr).kk⟩;simp only [aW,PyData.canLay0,PyData.canLayAll0,e1,e2,acf]
theorem mW:∀ rs:List Rm,PyData.eqvAll (rs.map bS) (rs.map bS)=true
 | []=>rfl
 | r::rs=>by
  rw [z4];simp only [PyData.eqvAll,bS,PyData.eqv,gy,ada];exact mW rs
theorem rh (h:Hs):PyData.eqv (aW h) (aW h)=true:=by
 simp only [aW,PyData.eqv,PyData.eqvAll,gy,mW,acf]
theorem iU:∀ rs:List Rm,PyData.depthAll (rs.map bS)<=2
 | []=>zZ _
 | r::rs=>by
  rw [z4];simp only [PyData.depthAll,bS,PyData.depth,dv];exact Nat.max_le.mpr ⟨by decide,iU rs⟩
theorem jc (h:Hs):(aW h).depth<=4:=by
 have:=iU h.2;simp only [aW,PyData.depth,PyData.depthAll,dv];lia
theorem bK {ss:List Str}{a f c:Int}(h:HO.lst (ss.map V.str)=.lst [.int a,.int f,.int c]):False:=by
 cases ss with
 | nil=>cases h
 | cons x t=>simp at h
theorem HouseAt.but {H H':Hp}{v:V}{h:Hs}{p:Addr}{c:Int}(x:HouseAt H v h)(pl:aK H p c)(b:But p H H'):HouseAt H' v h:=by
 obtain⟨o,hp,a0,f0,rfl⟩:=pl;obtain⟨t,a,r,vs,rfl,h1,h2,h3,hl,h4⟩:=x;have ns:∀ {y:Addr} {ss:List Str},H y=some (.lst (ss.map V.str))->y≠p:=fun e z=>by
  rw [z,hp] at e;exact bK (aai e).symm
 have nt:∀ {y:Addr} {us:List V},H y=some (.tup us)->y≠p:=fun e z=>by
  rw [z,hp] at e;cases e
 have nr:r≠p:=fun z=>by
  rw [z,hp] at h3;cases h3;have hlt:0 < h.2.length:=by rw [← hl];exact Nat.succ_pos 2
  obtain⟨_,_,_,e,_⟩:=h4 0 _ h.2[0] rfl (zG hlt);cases e
 refine⟨t,a,r,vs,rfl,b _ _ (nt h1) h1,b _ _ (ns h2) h2,b _ _ nr h3,hl,fun i v q e1 e2=>?_⟩;obtain⟨t',a',b',e,g1,g2,g3⟩:=h4 i v q e1 e2;exact⟨t',a',b',e,b _ _ (nt g1) g1,b _ _ (ns g2) g2,b _ _ (ns g3) g3⟩
structure FewU (n:Nat)(h:Hs):Prop where
 few:∃ U:List Str,U.length<=n/\(∀ k∈U,bo k)/\∀ x,(x∈aE h\/x∈aU h)->x∈U
 nk:(aE h).length<=300
 rl:h.2.length<=60
theorem uf {h:Hs}(ok:aM h)(l:h.2.length<=60):(aU h).length<=240:=by
 have:∀ rs:List Rm,(∀ r∈rs,r.1.length<=4)->(rs.flatMap (·.1)).length<=4 * rs.length:=fun rs=>by
  induction rs with
  | nil=>intro _;exact zZ _
  | cons r rs ih =>
   intro q;rw [abb,zH,aaq];have a:=q r z7;have b:=ih fun x hx=>q x (z8 _ hx);lia
 have:=this h.2 fun r hr=>(ok.rs r hr).l4;unfold aU;lia
def qE:Sp:=fun vs H Q _=>∃ (v:V) (h:Hs),vs=[v]/\HouseAt H v h/\aM h/\FewU 63 h/\∀ (l:Addr) (ks:List Str) (H':Hp),Same H H'->H l=none->H' l=some (.lst (ks.map V.str))->cN h ks->sortedS ks=true->ks.length < 64->Q (.ref l) H'
inductive KnI (t:Addr)(h:Hs)(H:Hp)(i:Nat)(σ':L2.St)(H':Hp):Prop
 | mk (kA:Addr) (x3 x4:Option V):σ'=[some (.ref t),some (.ref kA),x3,x4]->H' kA=some (.lst ((iO h i).map V.str))->Same H H'->KnI t h H i σ' H'
section
variable {P:Program}{w:World}{K:PySem.W.Frag}{mg:Str->Option Value}{base:Heap}
theorem bV:br ["house","found","locks","keys"] ["house"] (ao bJ):=scM rfl rfl rfl rfl (by decide +kernel)
theorem w8 {f:Addr}{fd:FuncData}(F:Fun K "_law_kinds_in" "_law_kinds_in" bJ f fd)(gI:mg "list" = none)(aN:mg "sorted" = none)(vN:mg "set" = none):bO P w K mg base CX0 1 f fd ["house"] qE:=by
 refine F.ok bV (fun vs H Q E h=>?_) (fun cdv A outer s H vs Q E hr h=>?_)
 ·obtain⟨v,h,rfl,_⟩:=h
  rfl
 ·have hu:=iH hr;obtain⟨v,h,rfl,⟨t,a,r,us,rfl,ht,ha,hrr,hR⟩,ok,few,q⟩:=h;refine⟨_,(aj (aF (i:=1) bV.nd rfl (.inl rfl) (dz dM rfl gI (by decide +kernel) (ae (bj cx (pv 0) aq (fun _ _=>rfl)) ah)))
   (aj (bF (dJ aaN rfl (bN (bj cx (pv 0) aq (fun _ _=>rfl))) (fi rfl (az (ay (i:=2) bV.nd rfl (.inl rfl)) (az (ay (i:=3) bV.nd rfl (.inl rfl)) bQ)))
    (av (aF (i:=1) bV.nd rfl (.inl rfl) (aY i6 (aY i6 (pv 1) (pv 2)) (pv 3))))))
   (av (bt (aw (ja rfl) rfl aN abu (ae (dz (nG rfl) rfl vN (by decide +kernel) (ae (pv 1) ah)) ah)))))),?_⟩
  have ul:=hR.1;have nl:=uf ok few.rl;have nk:=few.nk;have sl:∀ i,(iO h i).length<=540:=fun i=>aas sV (by lia);have lim:1276<=sizeLine:=by decide
  refine⟨_,rfl,t,_,0,.ref a,rfl,rfl,aAB ht,rfl,a,_,rfl,.inl (aAA ha),fun kA nkA=>?_⟩;have s1:Same H (upd H kA (.lst (h.1.map V.str))):=ar nkA;have e1:(upd H kA (.lst (h.1.map V.str))) kA=some (.lst ((iO h 0).map V.str)):=by rw [af,lL]
  generalize upd H kA (.lst (h.1.map V.str))=H1 at *;refine⟨fun σ' H'=>KnI t h H h.2.length σ' H',?_,?_⟩;rotate_left
  ·refine⟨_,rfl,t,_,1,.ref r,rfl,rfl,aAB (s1 _ _ ht),rfl,r,rfl,⟨_,aAA (s1 _ _ hrr)⟩,?_⟩;refine dN (xs:=us) (fun i σ' H'=>KnI t h H i σ' H') ⟨kA,none,none,rfl,e1,s1⟩ (fun i σ H' _ ⟨_,_,_,_,_,sm⟩=>aAA (sm _ _ hrr)) ?_ (fun σ H' z=>by rw [← ul];exact z);rintro i x σ H3 hx ⟨kA,x3,x4,rfl,hk,sm⟩;have hi:i < us.length:=(zJ.mp hx).1;have er:h.2[i]? = some (h.2[i]'(by lia)):=zG (by lia);obtain⟨tt,aa,bb,rfl,g1,g2,g3⟩:=(hR.2 i x _ hx er).same sm;refine⟨tt,_,rfl,aAB g1,rfl,_,_,rfl,_,_,rfl,rfl,?_⟩;have l1:=sl i;have l2:=sl (i+1);rw [iT er,zH,zH] at l2;refine⟨_,rfl,_,rfl,kA,aa,_,_,rfl,rfl,hk,g2,by rw [zL,zL];lia,fun k1 n1=>?_⟩;have s4:Same H3 (upd H3 k1 (.lst ((iO h i).map V.str++(h.2[i]'(by lia)).1.map V.str))):=ar n1;have e4:(upd H3 k1 (.lst ((iO h i).map V.str++(h.2[i]'(by lia)).1.map V.str))) k1=_:=af;generalize upd H3 k1 (.lst ((iO h i).map V.str++(h.2[i]'(by lia)).1.map V.str))=H4 at *;refine⟨_,rfl,k1,bb,_,_,rfl,rfl,e4,s4 _ _ g3,by rw [zH,zL,zL,zL];lia,fun k2 n2=>?_⟩;refine⟨k2,_,_,rfl,?_,sm.trans (s4.trans (ar n2))⟩;rw [af,iT er,aax,aax]
  rintro σ H2 ⟨kA,x3,x4,rfl,hk,s2⟩;have sl0:=sl h.2.length;refine⟨_,rfl,kA,iO h h.2.length,rfl,aAA hk,aaj (show (iO h h.2.length).length+1<=1277 by lia) (by decide),fun sA ts nsA hset=>?_⟩;obtain⟨U,hU,_,hUm⟩:=few.few;have tsl:ts.length < 64:=aaj (aas (aV hset.1 fun x hx=>hUm x (said_mem.mp ((hset.2 x).mp hx))) hU) (by lia);refine⟨sA,ts,rfl,af,by lia,fun kB ks nkB pm so=>?_⟩;have nkB0:H kB=none:=(s2.trans (ar nsA)).free nkB;exact q kB ks _ ((s2.trans (ar nsA)).trans (ar nkB)) nkB0 af ⟨pm.nodup_iff.mpr hset.1,fun x=>by rw [pm.mem_iff,hset.2,said_mem]⟩ so (by rw [pm.length_eq];exact tsl)
end
end K7
namespace L2
open PySem PyProof.Rows
theorem md {K:PySem.W.Frag}{nl:Nat}{ix:List Nat}{tf:TT}{te:TE}{σ:St}{D:Addr}{ys:List V}{H:Hp}{x:V}{nxt:List V->Hp->Prop}{i j:Nat}(a:Addr)(v1 v2:V)(hx:x=.ref a)(hs:SqT K H a [v1,v2])
 (hl:(((fV nl ix σ).set i (some v1)).set j (some v2)).drop nl=ix.map fun j=>(σ[j]?).join)
 (h:tf (((fV nl ix σ).set i (some v1)).set j (some v2)) H fun b H5=>if b=true then te (((fV nl ix σ).set i (some v1)).set j (some v2)) H5 fun y H6=>H6 D=some (.lst ys)/\ys.length < sizeLine/\nxt (ys++[y]) (upd H6 D (.lst (ys++[y]))) else nxt ys H5) :
 cE nl ix (qN K 2 (fc (dG i) (fc (dG j) rq))) tf te σ D ys H x nxt:=by
 subst hx;unfold cE qN fc dG rq;exact⟨a,_,rfl,hs,rfl,v1,[v2],rfl,v2,[],rfl,rfl,⟨by simp,hl⟩,h⟩
end L2
namespace K7
open PySem L2 PyProof.Rows
def dd:List Str->List Str
 | []=>[]
 | a::r=>if a∈dd r then dd r else a::dd r
theorem mem_dd {x:Str}:∀ {l:List Str},x∈dd l↔x∈l
 | []=>Iff.rfl
 | a::r=>by
  unfold dd;split
  ·rename_i h;rw [mem_dd,aab];refine⟨.inr,fun z=>z.elim (fun e=>?_) id⟩;subst e;exact mem_dd.mp h
  ·rw [aab,aab,mem_dd]
theorem vV:∀ l:List Str,(dd l).Nodup
 | []=>ady
 | a::r=>by
  unfold dd;split
  ·exact vV r
  ·rename_i h;exact abU.mpr ⟨h,vV r⟩
def pend:List Nat->List Rm->Nat
 | m::ws,r::rs=>(if m=0 then 0 else r.2.length)+pend ws rs
 | _,_=>0
end K7
namespace L2
open PySem PySem.Spec PyProof.Rows
theorem rD {nl:Nat}{ix:List Nat}{g:TG}{tf:TT}{tk tv:TE}{σ:St}{H1:Hp}{D:Addr}{Q:VK}(Pv:Nat->List (Key×V)->Hp->Prop){K:PySem.W.Frag}{a b:Addr}{xs ys:List V}(hlen:xs.length=ys.length)(h0:Pv 0 [] (upd H1 D (.dK [])))(hD:∀ i zs H,Pv i zs H->H D=some (.dK zs))(hl:∀ i zs H,Pv i zs H->SqL K H a xs/\SqL K H b ys)
 (hs:∀ i zs H x y T,xs[i]? = some x->ys[i]? = some y->Pv i zs H->H T=none->gM nl ix g tf tk tv σ D zs (upd H T (.tup [x,y])) (.ref T) fun zs' H'=>Nx xs.length i (Pv (i+1) zs' H'))(hd:∀ zs H,Pv xs.length zs H->Q (.ref D) H):pE nl ix g tf tk tv σ (ItZ K a b) H1 D Q:=by
 refine wm (n:=xs.length) Pv h0 hD (fun i zs H hi p=>?_) (fun zs H p=>?_) (fun i zs H x H' hi p y=>?_) hd
 ·obtain⟨q1,q2⟩:=hl i zs H p;exact⟨xs,ys,xs[i],ys[i]'(by lia),q1,q2,zG _,zG _⟩
 ·obtain⟨q1,q2⟩:=hl _ zs H p;exact⟨xs,ys,q1,q2,.inl (zP _)⟩
 ·obtain⟨T,u,v,ex,hT,eH,hu,hv⟩:=y;subst ex eH;obtain⟨q1,q2⟩:=hl i zs H p;exact hs i zs H u v T (hu xs q1) (hv ys q2) p hT
end L2
namespace K7
open PySem L2 PyProof.Rows
def nj (D:Addr)(H:Hp):Hp:=fun b=>if b=D then none else H b
theorem pq {D:Addr}{H:Hp}:Same (nj D H) H:=fun b u e=>by
 unfold nj at e;split at e
 ·cases e
 ·exact e
theorem gn {D b:Addr}{H:Hp}(n:b≠D):nj D H b=H b:=if_neg n
def PairsAt (H:Hp)(ys:List V)(ps:List (List Int×Str)):Prop:=ys.length=ps.length/\∀ (j:Nat) y p,ys[j]? = some y->ps[j]? = some p->∃ T a:Addr,y=.ref T/\H T=some (.tup [.ref a,.str p.2])/\H a=some (.lst (p.1.map V.int))
theorem PairsAt.same {H H':Hp}{ys:List V}{ps:List (List Int×Str)}(a:PairsAt H ys ps)(s:Same H H'):PairsAt H' ys ps:=⟨a.1,fun j y p e1 e2=>let ⟨T,b,e,h1,h2⟩:=a.2 j y p e1 e2;⟨T,b,e,s _ _ h1,s _ _ h2⟩⟩
theorem PairsAt.of {H:Hp}{vs:List V}(h:∀ v∈vs,∃ (T a:Addr) (ns:List Int) (k:Str),v=.ref T/\H T=some (.tup [.ref a,.str k])/\H a=some (.lst (ns.map V.int))):PairsAt H vs (vs.map (dZ H)):=⟨(zL _).symm,fun j y p e1 e2=>by
 rw [zT,e1] at e2;cases e2;obtain⟨T,a,ns,k,rfl,h1,h2⟩:=h y (aac e1);rw [je h1 h2];exact⟨T,a,rfl,h1,h2⟩⟩
theorem PairsAt.get {H:Hp}{ys:List V}{ps:List (List Int×Str)}(a:PairsAt H ys ps){j:Nat}{y:V}(e:ys[j]? = some y):∃ (p:List Int×Str) (T b:Addr),ps[j]? = some p/\y=.ref T/\H T=some (.tup [.ref b,.str p.2])/\H b=some (.lst (p.1.map V.int)):=by
 have hj:=(zJ.mp e).1;have l:=a.1;have e2:=zG (show j < ps.length by lia);obtain⟨T,b,h⟩:=a.2 j y _ e e2;exact⟨_,T,b,e2,h⟩
theorem l0 {K:PySem.W.Frag}{σ:L2.St}{H1:Hp}{d D:Addr}{o:Obj}{kvs:List (Key×V)}{Q:VK}(hd:H1 d=some (.dK kvs))(nD:(upd H1 d (.frz o (.dK kvs))) D=none)(kl:kvs.length<=1000)
 (k:∀ ys G,G D=some (.lst ys)->Same (nj d H1) G->ys.length=kvs.length->(∀ (j:Nat) y,ys[j]? = some y->∃ (T:Addr) (k:Key) (v:V),y=.ref T/\kvs[j]? = some (k,v)/\G T=some (.tup [v,kV k]))->Q (.ref D) G):kL 2 [] (qN K 2 (fc (dG 0) (fc (dG 1) rq))) qD (wY (cf (ik 1) (cf (ik 0) gh))) σ (ItI d o kvs) (upd H1 d (.frz o (.dK kvs))) D Q:=by
 have dD:D≠d:=fun z=>by rw [z,af] at nD;cases nD
 have nD1:H1 D=none:=by rw [ai dD] at nD;exact nD
 have lim:1001 < sizeLine:=by decide
 refine qx (kvs:=kvs) (fun i ys G=>ys.length=i/\i<=kvs.length/\G D=some (.lst ys)/\G d=some (.frz o (.dK kvs))/\Same (nj d H1) G/\∀ (j:Nat) y,ys[j]? = some y->∃ (T:Addr) (k:Key) (v:V),y=.ref T/\kvs[j]? = some (k,v)/\G T=some (.tup [v,kV k]))
  ⟨rfl,zZ _,af,by rw [ai (aaA dD),af],fun b u e=>?_,fun j y e=>by simp at e⟩ (fun i ys G z=>z.2.2.1) (fun i ys G z=>z.2.2.2.1) ?_ fun ys G z=>k ys G z.2.2.1 z.2.2.2.2.1 z.1 z.2.2.2.2.2
 ·unfold nj at e;split at e
  ·cases e
  ·rename_i nb;rw [ai (ag e nD1),ai nb];exact e
 rintro i ys G T k u hx ⟨yl,il,hDG,hdG,sG,at_⟩ nT;have hi:=(zJ.mp hx).1;have sT:Same G (upd G T (.tup [kV k,u])):=ar nT;refine md T _ _ rfl (aAB af) rfl ?_;generalize upd G T (.tup [kV k,u])=G1 at *;unfold qD;dsimp only;rw [if_pos rfl];refine⟨_,rfl,_,rfl,by show 2<=sizeLine;decide,fun T2 nT2=>?_⟩;have s2:Same G1 (upd G1 T2 (.tup [u,kV k])):=ar nT2;have e2:(upd G1 T2 (.tup [u,kV k])) T2=some (.tup [u,kV k]):=af;generalize upd G1 T2 (.tup [u,kV k])=G2 at *;have s02:=sT.trans s2;have hD2:=s02 _ _ hDG;have neT:T2≠D:=fun z=>by rw [z] at e2;rw [hD2] at e2;cases e2
 refine⟨hD2,by lia,nx hi ⟨by rw [zH,yl];rfl,hi,af,?_,fun b v e=>?_,fun j y e=>?_⟩⟩
 ·rw [ai (aaA dD)];exact s02 _ _ hdG
 ·have nb:b≠D:=fun z=>by
   subst z;rw [pq _ _ e] at nD1;cases nD1
  rw [ai nb];exact s02 _ _ (sG _ _ e)
 ·by_cases hj:j < ys.length
  ·rw [aav hj] at e;obtain⟨T3,k3,v3,e1,e3,e4⟩:=at_ j y e;exact⟨T3,k3,v3,e1,e3,by rw [ai (fun z=>by rw [z,hDG] at e4;cases e4)];exact s02 _ _ e4⟩
  ·have hj2:=(zJ.mp e).1;rw [zH,aa2] at hj2;have ej:j=ys.length:=by lia
   subst ej;rw [aae (zP _),abD] at e;cases e;exact⟨T2,k,u,rfl,by rw [yl];exact hx,by rw [ai neT];exact e2⟩
theorem rM:∀ {kvs:List (Key×V)} {ks:List Str},kvs.map (·.1)=ks.map Sum.inr->ks.Nodup->∀ {j:Nat} {x:Str} {v:V},kvs[j]? = some (.inr x,v)->dw kvs (.inr x)=some v
 | [],_,_,_,j,x,v,e=>by simp at e
 | p::r,[],ek,_,_,_,_,_=>by cases ek
 | p::r,k::ks,ek,nd,j,x,v,e=>by
  rw [z4,z4] at ek;injection ek with ek1 ek2
  have hn:=abU.mp nd;cases j with
  | zero=>cases e;exact ck rfl
  | succ j =>
   rw [ac4] at e;have hm:(Sum.inr x:Key)∈r.map (·.1):=abK (f:=(·.1)) (aac e);rw [ek2] at hm;have hx:=mem_inr.mp hm;rw [cm fun z=>hn.1 ?_]
   ·exact rM ek2 hn.2 e
   ·rw [ek1] at z;injection z with z
    exact z▸hx
theorem j0 {B H G:Hp}{h:Hs}{kvs:List (Key×V)}{xs:List Str}{ys:List V}(lm:LockMap B H kvs (plc h))(ka:KeysAre kvs xs)(s:∀ a ls,H a=some (.lst ls)->G a=some (.lst ls))(yl:ys.length=kvs.length)(at_:∀ (j:Nat) y,ys[j]? = some y->∃ (T:Addr) (k:Key) (v:V),y=.ref T/\kvs[j]? = some (k,v)/\G T=some (.tup [v,kV k])) :
 ∃ ks:List Str,ks.Nodup/\(∀ x,x∈ks↔x∈xs)/\(∀ v∈ys,∃ (T a:Addr) (ns:List Int) (k:Str),v=.ref T/\G T=some (.tup [.ref a,.str k])/\G a=some (.lst (ns.map V.int)))/\ys.map (dZ G)=prs h ks:=by
 obtain⟨ks,ek,nd,m⟩:=ka;have each:∀ (j:Nat) y,ys[j]? = some y->∃ (T a:Addr) (k:Str),ks[j]? = some k/\y=.ref T/\G T=some (.tup [.ref a,.str k])/\G a=some (.lst ((zI (plc h k)).map V.int)):=fun j y e=>by
  obtain⟨T,k,v,rfl,e1,e2⟩:=at_ j y e;have e3:(kvs.map (·.1))[j]? = some k:=by rw [zT,e1];rfl
  rw [ek,zT] at e3;obtain⟨x,e4,e5⟩:=acr.mp e3;subst e5;have e6:dw kvs (.inr x)=some v:=rM ek nd e1;obtain⟨a,e7,_,e8⟩:=lm.som x v e6;subst e7;refine⟨T,a,x,e4,rfl,e2,?_⟩;rw [s _ _ e8,aa3]
  rfl
 have kl:ks.length=kvs.length:=by have:=aaG List.length ek;simpa using this.symm
 refine⟨ks,nd,m,fun v hv=>?_,?_⟩
 ·obtain⟨j,hj⟩:=acG hv;obtain⟨T,a,k,_,e,h1,h2⟩:=each j v hj;exact⟨T,a,_,k,e,h1,h2⟩
 ·refine ab1 fun j=>?_;rw [zT,zT];by_cases hj:j < ys.length
  ·obtain⟨T,a,k,e0,e,h1,h2⟩:=each j _ (zG hj);rw [zG hj,e0,e];show some (dZ G (.ref T))=some _;rw [je h1 h2]
  ·rw [abn (by lia),abn (by lia)]
   rfl
def xQ (x:V):Prop:=(∃ z,bo z/\x=.str z)\/∃ i:Int,x=.int i
theorem pO {H:Hp}:∀ {xs:List V},(∀ x∈xs,xQ x)->∃ ds,SeesAll H xs ds/\PyData.canLayAll0 ds=true/\ds.isEmpty=xs.isEmpty
 | [],_=>⟨[],.nil,rfl,rfl⟩
 | x::xs,h=>by
  obtain⟨ds,s,l,_⟩:=pO (H:=H) fun y hy=>h y (z8 _ hy);rcases h x z7 with ⟨z,hz,rfl⟩ | ⟨i,rfl⟩
  ·have:=de (ks:=[z]) fun k hk=>by rw [zQ.mp hk];exact hz
   simp only [z4,adB,PyData.canLayAll0,Bool.and_true] at this;exact⟨_,.cons (.str z) s,by simp only [PyData.canLayAll0,this,l,acf],rfl⟩
  ·exact⟨_,.cons (.int i) s,by simp only [PyData.canLayAll0,PyData.canLay0,l,acf],rfl⟩
theorem v8 {A:Around}{H:Hp}{x y:Addr}{xs:List V}{Q:VK}(hx:H x=some (.lst xs))(hy:H y=some (.lst []))(sc:∀ x∈xs,xQ x)(hu:A.units+1 < cLine)(q:Q (.bl (!xs.isEmpty)) H):vE A true (.ref x) (.ref y) H Q:=by
 obtain⟨ds,s,l,e⟩:=pO (H:=H) sc;refine⟨.list ds,.list [],.lst hx s,.lst hy .nil,by simp only [PyData.canLay0,l],rfl,aaj (aaE (acJ _ _) _) hu,?_⟩;rw [if_pos rfl,show PyData.eqv (.list ds) (.list [])=ds.isEmpty by cases ds<;>rfl,e];exact q
theorem uP {xs ys zs:List V}{k:Nat}{y:V}(h:(ys++zs).Perm xs)(e:zs[k]? = some y):((ys++[y])++zs.eraseIdx k).Perm xs:=by
 refine .trans ?_ h;rw [zU];refine abE _ ?_;obtain⟨hk,rfl⟩:=zJ.mp e;have ez:zs=zs.take k++zs[k]::zs.drop (k+1):=by rw [← abP hk,aat]
 rw [adw];exact .trans (List.perm_middle (l₁:=zs.take k)).symm (.of_eq ez.symm)
theorem fA {α β:Type}{f:α->β}:∀ {zs ys:List β},zs.Perm ys->∀ {xs:List α},xs.map f=zs->∃ ws:List α,ys=ws.map f/\ws.Perm xs:=by
 intro zs ys h
 induction h with
 | nil =>
  intro xs e;rw [List.map_eq_nil_iff.mp e];exact⟨[],rfl,.refl _⟩
 | cons x p ih =>
  intro xs e;cases xs with
  | nil=>cases e
  | cons a t =>
   rw [z4] at e;injection e with e1 e2
   obtain⟨ws,rfl,pw⟩:=ih e2;exact⟨a::ws,by rw [z4,e1],pw.cons _⟩
 | swap x y l =>
  intro xs e;cases xs with
  | nil=>cases e
  | cons a t =>
   cases t with
   | nil=>cases e
   | cons b t =>
    rw [z4,z4] at e;injection e with e1 e2
    injection e2 with e2 e3
    exact⟨b::a::t,by rw [z4,z4,e1,e2,e3],.swap _ _ _⟩
 | trans _ _ ih1 ih2 =>
  intro xs e;obtain⟨ws,rfl,pw⟩:=ih1 e;obtain⟨vs,rfl,pv⟩:=ih2 rfl;exact⟨vs,rfl,pv.trans pw⟩
def uQ (p:Addr)(H:Hp):Hp:=fun b=>if b=p then none else H b
theorem iK {p:Addr}{H H':Hp}(B:But p H H'):Same (uQ p H) H':=fun b u e=>by
 unfold uQ at e;split at e
 ·cases e
 ·rename_i n;exact B b u n e
theorem uw {p:Addr}{H:Hp}:But p H (uQ p H):=fun b u n e=>by
 unfold uQ;rw [if_neg n];exact e
theorem pR {D p:Addr}{H H':Hp}(s:But p H H'):But p (nj D H) (nj D H'):=fun b u n e=>by
 unfold nj at e ⊢;split at e
 ·cases e
 ·rename_i hb;rw [if_neg hb];exact s _ _ n e
theorem m5 {D p:Addr}{H:Hp}{c:Int}(d:aK H p c)(n:D≠p):aK (nj D H) p c:=let ⟨o,e,i⟩:=d;⟨o,by unfold nj;rw [if_neg (aaA n)];exact e,i⟩
theorem rE {D:Addr}{H:Hp}{o:HO}:nj D (upd H D o)=nj D H:=by
 funext b;unfold nj;split
 ·rfl
 ·rename_i hb;rw [ai hb]
theorem RoomAt.but {H H':Hp}{v:V}{r:Rm}{p:Addr}{c:Int}(x:RoomAt H v r)(pl:aK H p c)(b:But p H H'):RoomAt H' v r:=by
 obtain⟨t,la,lb,rfl,h1,h2,h3⟩:=x;obtain⟨o,hp,a0,f0,rfl⟩:=pl;refine⟨t,la,lb,rfl,b _ _ (fun z=>?_) h1,b _ _ (fun z=>?_) h2,b _ _ (fun z=>?_) h3⟩
 ·rw [z,hp] at h1;cases h1
 ·rw [z,hp] at h2;exact bK (aai h2).symm
 ·rw [z,hp] at h3;exact bK (aai h3).symm
theorem RoomsAt.but {H H':Hp}{vs:List V}{rs:List Rm}{p:Addr}{c:Int}(x:RoomsAt H vs rs)(pl:aK H p c)(b:But p H H'):RoomsAt H' vs rs:=⟨x.1,fun i v r e1 e2=>(x.2 i v r e1 e2).but pl b⟩
theorem RoomsAt.sameA {H H':Hp}{vs:List V}{rs:List Rm}(x:RoomsAt H vs rs)(s:Same H H'):RoomsAt H' vs rs:=⟨x.1,fun i v r e1 e2=>(x.2 i v r e1 e2).same s⟩
theorem RoomsAt.snocD {H:Hp}{vs:List V}{rs:List Rm}{v:V}{r:Rm}(x:RoomsAt H vs rs)(y:RoomAt H v r):RoomsAt H (vs++[v]) (rs++[r]):=by
 refine⟨by rw [zH,zH,x.1];rfl,fun i v' r' e1 e2=>?_⟩;have l:=x.1;by_cases hi:i < vs.length
 ·rw [aav hi] at e1;rw [aav (by lia)] at e2;exact x.2 i v' r' e1 e2
 ·have hj:=(zJ.mp e1).1;rw [zH,aa2] at hj;have ei:i=vs.length:=by lia
  subst ei;rw [aae (zP _),abD] at e1;rw [l,aae (zP _),abD] at e2;cases e1;cases e2;exact y
def nmV (f:Str->Str):V->V
 | .str x=>.str (f x)
 | v=>v
theorem kX (f:Str->Str)(l:List Str):(l.map V.str).map (nmV f)=(l.map f).map V.str:=by
 rw [aa3,aa3]
 rfl
theorem iW {l:List Str}(h:∀ k∈l,bo k):∀ x∈l.map V.str,xQ x:=fun x hx=>by
 obtain⟨k,hk,rfl⟩:=aaJ.mp hx;exact .inl ⟨k,h k hk,rfl⟩
def nK:Sp:=fun vs H Q _=>∃ (p t:Addr) (xs:List V) (c:Int),vs=[.ref p,.ref t]/\aK H p c/\t≠p/\H t=some (.lst xs)/\(∀ x∈xs,xQ x)/\xs.length<=1000/\0<=c/\c+1000 < 1000000 ∧
 ∀ (l:Addr) (ys:List V) (c':Int) (H':Hp),H l=none->ys.Perm xs->H' l=some (.lst ys)->aK H' p c'->c<=c'->c'<=c+xs.length->But p H H'->Q (.ref l) H'
inductive MxI (p t:Addr)(xs:List V)(c:Int)(H:Hp)(m:Nat)(σ':L2.St)(H':Hp):Prop
 | mk (l f:Addr) (ys zs:List V) (c':Int):σ'=[some (.ref p),some (.ref t),some (.ref l),some (.ref f)]->H l=none->H f=none->l≠f->H' l=some (.lst zs)->H' f=some (.lst ys)->(ys++zs).Perm xs->zs.length=m->aK H' p c'->c<=c'->c'<=c+ys.length->But p H H'->MxI p t xs c H m σ' H'
section
variable {P:Program}{w:World}{K:PySem.W.Frag}{mg:Str->Option Value}{base:Heap}
theorem di:br ["pool","things","left","found"] ["pool","things"] (ao bI):=scM rfl rfl rfl rfl (by decide +kernel)
theorem t8 {f fT:Addr}{fd fdT:FuncData}(F:Fun K "_law_mixed_up" "_law_mixed_up" bI f fd)(ax:bO P w K mg base CX0 1 fT fdT ["pool","many"] fU)(au:Cal K mg "_law_take" ["pool","many"] fT fdT)(cQ:mg "len" = none)(gI:mg "list" = none):bO P w K mg base CX0 2 f fd ["pool","things"] nK:=by
 refine F.ok di (fun vs H Q E h=>?_) (fun cdv A outer s H vs Q E hr h=>?_)
 ·obtain⟨p,t,xs,c,rfl,_⟩:=h
  rfl
 ·obtain⟨p,t,xs,c,rfl,pl,tp,ht,sc,hl,c0,c1,k⟩:=h;have hu:=iH hr;refine⟨_,(aj (aF (i:=2) di.nd rfl (.inl rfl) (dz dM rfl gI (by decide +kernel) (ae (pv 1) ah)))
   (aj (aF (i:=3) di.nd rfl (.inl rfl) jL)
   (aj (bF (oO aaN (aT ft (pv 2) jL (aZ _))
    (av (cW (fb aam aa0 aa1 cO (pv 3) (ae (fb aam ae7 ae8 oI (pv 2) (ae (pcl ax au hr rfl (ae (pv 0) (ae (aw aS rfl cQ aaQ (ae (pv 2) ah)) ah))) ah)) ah))))))
   (av (bt (pv 3)))))),?_⟩
  refine⟨_,rfl,t,_,rfl,.inl (aAA ht),fun l nl=>⟨zZ _,fun g ng=>?_⟩⟩;have s1:Same H (upd H l (.lst xs)):=ar nl;have e1:(upd H l (.lst xs)) l=some (.lst xs):=af;generalize upd H l (.lst xs)=H1 at *;have s2:Same H1 (upd H1 g (.lst [])):=ar ng;have e2:(upd H1 g (.lst [])) g=some (.lst []):=af;have ngH:H g=none:=s1.free ng;have lg:l≠g:=ag e1 ng;have el:=s2 _ _ e1;generalize upd H1 g (.lst [])=H2 at *;refine⟨fun σ' H'=>MxI p t xs c H 0 σ' H',?_,?_⟩
  ·rintro σ H3 ⟨l,f,ys,zs,c',rfl,nl,nf,lf,hz,hy,pm,hm,pl3,w1,w2,B⟩;have ez:zs=[]:=ab8.mp hm;subst ez;rw [aaK] at pm;exact⟨_,rfl,k f ys c' H3 nf pm hy pl3 w1 (by rw [← pm.length_eq];exact w2) B⟩
  refine⟨fun m σ' H'=>MxI p t xs c H m σ' H',⟨_,l,g,[],xs,c,rfl,nl,ngH,lg,el,e2,.refl _,rfl,aI (aI pl s1) s2,acP _,by simp,bq (s1.trans s2)⟩,?_⟩;rintro m σ H3 ⟨l,f,ys,zs,c',rfl,nl,nf,lf,hz,hy,pm,hm,pl3,w1,w2,B⟩;have np:∀ {b:Addr},H b=none->b≠p:=fun {b} n z=>by
   obtain⟨o,e,_⟩:=pl;rw [z,e] at n;cases n
  have Sc:∀ x∈zs,xQ x:=fun x hx=>sc x (pm.mem_iff.mp (zS.mpr (.inr hx)));have pml:=pm.length_eq;rw [zH] at pml;refine⟨_,rfl,zZ _,fun e ne=>?_⟩;have s4:Same H3 (upd H3 e (.lst [])):=ar ne;have e4:(upd H3 e (.lst [])) e=some (.lst []):=af;generalize upd H3 e (.lst [])=H4 at *;refine v8 (s4 _ _ hz) e4 Sc hu ?_;refine⟨_,rfl,?_⟩;cases zs with
  | nil=>exact⟨l,f,ys,[],c',rfl,nl,nf,lf,s4 _ _ hz,s4 _ _ hy,pm,rfl,aI pl3 s4,w1,w2,B.trans (bq s4)⟩
  | cons z0 zs0 =>
  show ∃ N,_/\_;refine⟨fun σ' H'=>MxI p t xs c H zs0.length σ' H',fun σ' H' h=>⟨_,by rw [← hm];exact acg _,h⟩,?_⟩;have hz4:=s4 _ _ hz;have hy4:=s4 _ _ hy;obtain⟨o4,hp4,io4⟩:=aI pl3 s4;have B4:=B.trans (bq s4);have zl:(z0::zs0).length<=1000:=by lia
  refine⟨_,rfl,.inl ⟨rfl,_,aAA hy4⟩,_,rfl,?_⟩;refine⟨.inl ⟨rfl,_,aAA hz4⟩,_,rfl,_,rfl,l,_,rfl,.inl (aAA hz4),p,((z0::zs0).length:Nat),c',o4,rfl,hp4,io4,by simp,by lia,by lia,by lia,fun q c5 o5 q0 q1 g1 g2 io5=>?_⟩;obtain⟨i,rfl⟩:∃ i:Nat,q=(i:Int):=⟨q.toNat,by lia⟩;have hi:i < (z0::zs0).length:=by lia
  have hz5:(upd H4 p o5) l=some (.lst (z0::zs0)):=by rw [ai (np nl)];exact hz4
  have hy5:(upd H4 p o5) f=some (.lst ys):=by rw [ai (np nf)];exact hy4
  have hp5:(upd H4 p o5) p=some o5:=af;have B5:But p H (upd H4 p o5):=B4.trans But.upd;generalize upd H4 p o5=H5 at *;have ei:(z0::zs0)[i]? = some (z0::zs0)[i]:=zG hi;refine⟨l,_,_,i,_,rfl,rfl,hz5,by lia,by lia,(adM (aeb i) (by lia)).trans (by simp),ei,?_⟩;have yl:ys.length < sizeLine:=aaj (show ys.length<=1000 by lia) (by decide);refine⟨f,ys,_,rfl,rfl,by rw [ai (aaA lf)];exact hy5,yl,?_⟩;refine⟨l,f,ys++[(z0::zs0)[i]],(z0::zs0).eraseIdx i,c5,rfl,nl,nf,lf,?_,af,uP pm ei,?_,?_,by lia,?_,?_⟩
  ·rw [ai lf,af]
  ·rw [acF hi];rfl
  ·refine⟨o5,?_,io5⟩;rw [ai (aaA (np nf)),ai (aaA (np nl))];exact hp5
  ·rw [zH,aa2];lia
  ·intro b u nb e;rw [ai (ag e nf),ai (ag e nl)];exact B5 b u nb e
theorem uH {H:Hp}{a:Addr}{kvs:List (Key×V)}{k:Key}{v:V}(e:H a=some (.dK kvs))(hv:dw kvs k=some v):DGet H a (kV k) (some v):=by
 rw [← hv];exact DGet.k e
def oG:Sp:=fun vs H Q _=>∃ (p:Addr) (v:V) (h:Hs) (c:Int),vs=[.ref p,v]/\aK H p c/\HouseAt H v h/\aM h/\FewU 60 h/\(aE h).length<=276/\0<=c/\c+20000 < 1000000/\∀ (u:V) (g:Hs) (c':Int) (H':Hp),HouseAt H' u g->aM g->FewU 60 g->(aE g).length<=276->aK H' p c'->c<=c'->c'<=c+2000->But p H H'->Q u H'
inductive NrI (p t kB d lr:Addr)(ks vs:List Str)(h:Hs)(c0:Int)(H:Hp)(i:Nat)(σ:L2.St)(H':Hp):Prop
 | mk (gv:List V) (rs:List Rm) (c':Int) (x5 x6:Option V):σ=[some (.ref p),some (.ref t),some (.ref kB),some (.ref d),some (.ref lr),x5,x6]->H' lr=some (.lst gv)->RoomsAt (nj lr H') gv rs->rs.length=i->(∀ r∈rs,iR r/\(∀ k∈r.1,k∈vs)/\∀ k∈r.2,k∈vs)->(rs.flatMap (·.2)).length=((h.2.take i).flatMap (·.2)).length->aK H' p c'->c0<=c'->c'<=c0+(((h.2.take i).flatMap (·.2)).length:Nat)->But p H H'->H' d=some (.dK (cu ks vs))->NrI p t kB d lr ks vs h c0 H i σ H'
theorem cj:br ["pool","house","kinds","names","rooms","locks","keys"] ["pool","house"] (ao bx):=scM rfl rfl rfl rfl (by decide +kernel)
theorem dF:(["kind","names"]:List Str).Nodup:=by decide +kernel
theorem vj {f:Addr}{fd:FuncData}(F:Fun K "_law_named" "_law_named" bx f fd){f__law_kinds_in:Addr}{fd__law_kinds_in:FuncData}(bf:bO P w K mg base CX0 1 f__law_kinds_in fd__law_kinds_in ["house"] qE)(aG:Cal K mg "_law_kinds_in" ["house"] f__law_kinds_in fd__law_kinds_in)
 {f__law_kinds:Addr}{fd__law_kinds:FuncData}(fo:bO P w K mg base CX0 2 f__law_kinds fd__law_kinds ["pool","many"] pj)(cJ:Cal K mg "_law_kinds" ["pool","many"] f__law_kinds fd__law_kinds)
 {f__law_mixed_up:Addr}{fd__law_mixed_up:FuncData}(dH:bO P w K mg base CX0 2 f__law_mixed_up fd__law_mixed_up ["pool","things"] nK)(cg:Cal K mg "_law_mixed_up" ["pool","things"] f__law_mixed_up fd__law_mixed_up)
 {f__law_take:Addr}{fd__law_take:FuncData}(ax:bO P w K mg base CX0 1 f__law_take fd__law_take ["pool","many"] fU)(au:Cal K mg "_law_take" ["pool","many"] f__law_take fd__law_take)(gw:mg "dict" = none)(kT:mg "zip" = none)(cQ:mg "len" = none)(aN:mg "sorted" = none):bO P w K mg base CX0 3 f fd ["pool","house"] oG:=by
 refine F.ok cj (fun vs H Q E h=>?_) (fun cdv A outer s H vs Q E hr h=>?_)
 ·obtain⟨p,v,h,c,rfl,_⟩:=h
  rfl
 ·have hu:=iH hr;obtain⟨p,v,h,c,rfl,pl,hh,ok,few,nk,c0,c1,q⟩:=h;refine⟨_,(aj (aF (i:=2) cj.nd rfl (.inl rfl) (pcl bf aG (hr.mono (by decide:1<=2)) rfl (ae (pv 1) ah)))
   (aj (aF (i:=3) cj.nd rfl (.inr rfl) (ql rfl gw rfl kT rfl (ae (pv 2) (ae (bj bg (bU (ae (pcl fo cJ hr rfl (ae (pv 0) (ae (aw aS rfl cQ aaQ (ae (pv 2) ah)) ah))) (ae (pcl dH cg hr rfl (ae (pv 0) (ae (pv 2) ah))) ah))) (pcl ax au (hr.mono (by decide:1<=2)) rfl (ae (pv 0) (ae aq ah))) (fun _ _=>rfl)) ah))))
   (aj (aF (i:=4) cj.nd rfl (.inl rfl) jL)
   (aj (bF (dJ aaN rfl (bN (bj cx (pv 1) aq (fun _ _=>rfl))) (fi rfl (az (ay (i:=5) cj.nd rfl (.inl rfl)) (az (ay (i:=6) cj.nd rfl (.inl rfl)) bQ)))
    (av (cW (fb aam aa0 aa1 cO (pv 4) (ae (dO (ae (aw cb rfl aN abu (ae (jh (tg:=.Name "kind" _) (outer:=ao (bx)) (N:=["pool","house","kinds","names","rooms","locks","keys"]) (N':=["kind","names"]) (nl:=1) (ix:=[3]) rfl rfl rfl (bN (pv 5))
    (fun _ _ _ _=>(ay (i:=0) dF rfl (.inl rfl) (.inr rfl))) (fun _ _ _ _=>bX)
    (fun _ _ _ _=>(hC hu (pv 1) (pv 0) (fun _ _=>rfl)))) ah)) (ae (pcl dH cg hr rfl (ae (pv 0) (ae (jh (tg:=.Name "kind" _) (outer:=ao (bx)) (N:=["pool","house","kinds","names","rooms","locks","keys"]) (N':=["kind","names"]) (nl:=1) (ix:=[3]) rfl rfl rfl (bN (pv 6))
    (fun _ _ _ _=>(ay (i:=0) dF rfl (.inl rfl) (.inr rfl))) (fun _ _ _ _=>bX)
    (fun _ _ _ _=>(hC hu (pv 1) (pv 0) (fun _ _=>rfl)))) ah))) ah))) ah))))))
   (av (bt (dO (ae (pcl dH cg hr rfl (ae (pv 0) (ae (jh (tg:=.Name "kind" _) (outer:=ao (bx)) (N:=["pool","house","kinds","names","rooms","locks","keys"]) (N':=["kind","names"]) (nl:=1) (ix:=[3]) rfl rfl rfl (bN (bj cx (pv 1) aq (fun _ _=>rfl)))
    (fun _ _ _ _=>(ay (i:=0) dF rfl (.inl rfl) (.inr rfl))) (fun _ _ _ _=>bX)
    (fun _ _ _ _=>(hC hu (pv 1) (pv 0) (fun _ _=>rfl)))) ah))) (ae (pv 4) ah))))))))),?_⟩
  have hh0:=hh;obtain⟨t,a,r,us,rfl,ht,ha,hrr,hR⟩:=hh.but pl uw;have ul:=hR.1;have lim:1276<=sizeLine:=by decide
  have rl:=few.rl;have l60:h.2.length<=60:=few.rl;have np:∀ {b:Addr} {y:HO},uQ p H b=some y->b≠p:=fun {b y} e z=>by
   unfold uQ at e;rw [if_pos z] at e;cases e
  obtain⟨U,hU,hUk,hUm⟩:=few.few;refine⟨_,rfl,.ref t,h,rfl,hh0,ok,⟨⟨U,by lia,hUk,hUm⟩,few.nk,few.rl⟩,fun kB ks H1 s1 nkB ekB L so kl=>?_⟩;have ksU:ks.length<=60:=aas (aV L.nd fun x hx=>hUm x ((L.mem x).mp hx)) hU;have ksk:∀ k∈ks,bo k:=fun k hk=>hUk k (hUm k ((L.mem k).mp hk));have kBp:kB≠p:=cq pl nkB;have pl1:=aI pl s1;refine⟨_,rfl,_,rfl,_,rfl,kB,_,rfl,.inl (aAA ekB),p,ks.length,c,by rw [zL];rfl,pl1,ksU,c0,by lia,fun vA va c2 H2 nvA val vak vand hvA pl2 g1 g2 B2=>?_⟩;have ekB2:=B2 _ _ kBp ekB;have vAp:vA≠p:=cq pl1 nvA;refine⟨_,rfl,_,rfl,p,kB,_,c2,rfl,pl2,kBp,ekB2,iW ksk,by rw [zL];lia,by lia,by lia,fun mA ms c3 H3 nmA pm hmA pl3 g3 g4 B3=>⟨by show 2<=sizeLine;decide,fun l2 n2=>?_⟩⟩;rw [zL] at g4;obtain⟨mw,rfl,pmw⟩:=fA pm.symm rfl;have mAp:mA≠p:=cq pl2 nmA;have s4:Same H3 (upd H3 l2 (.lst [.ref vA,.ref mA])):=ar n2;have e4:(upd H3 l2 (.lst [.ref vA,.ref mA])) l2=some (.lst [.ref vA,.ref mA]):=af;have l2p:l2≠p:=cq pl3 n2;have pl4:=aI pl3 s4;generalize upd H3 l2 (.lst [.ref vA,.ref mA])=H4 at *;obtain⟨o4,ho4,ip4⟩:=pl4;refine⟨_,rfl,p,2,c3,o4,rfl,ho4,ip4,by decide,by decide,by lia,by lia,fun r5 c5 o5 r50 r51 g5 g6 ip5=>?_⟩;have b5:But p H4 (upd H4 p o5):=fun b y n e=>by rw [ai n];exact e
  have pl5:aK (upd H4 p o5) p c5:=⟨o5,af,ip5⟩;have b35:But p H3 (upd H4 p o5):=(bq s4).trans b5;have e5:=b5 _ _ l2p e4;generalize upd H4 p o5=H5 at *;have b25:=B3.trans b35;have ekB5:=b25 _ _ kBp ekB2;obtain⟨y,vs,ey,hy,yp,vl,vk⟩:∃ (y:Addr) (vs:List Str),atI [V.ref vA,V.ref mA] r5=some (.ref y)/\H5 y=some (.lst (vs.map V.str))/\y≠p/\vs.length=ks.length/\∀ k∈vs,bo k:=by
   rcases (by lia:r5=0\/r5=1) with e | e
   ·subst e;exact⟨vA,va,dj (j:=0) rfl,b25 _ _ vAp hvA,vAp,val,vak⟩
   ·subst e;exact⟨mA,mw,dj (j:=1) rfl,b35 _ _ mAp hmA,mAp,pmw.length_eq,fun k hk=>ksk k (pmw.mem_iff.mp hk)⟩
  refine⟨l2,_,_,_,rfl,rfl,aAA e5,ey,?_⟩;refine⟨kB,y,ks,vs,rfl,aAA ekB5,aAA hy,L.nd,vl.symm,fun d nd=>?_⟩;have s6:Same H5 (upd H5 d (.dK (cu ks vs))):=ar nd;have e6:(upd H5 d (.dK (cu ks vs))) d=some (.dK (cu ks vs)):=af;have dp:d≠p:=cq pl5 nd;have pl6:=aI pl5 s6;generalize upd H5 d (.dK (cu ks vs))=H6 at *;refine⟨zZ _,fun lr nlr=>?_⟩;have s7:Same H6 (upd H6 lr (.lst [])):=ar nlr;have e7:(upd H6 lr (.lst [])) lr=some (.lst []):=af;have lrp:lr≠p:=cq pl6 nlr;have pl7:=aI pl6 s7;have dlr:d≠lr:=fun z=>by rw [z] at e6;rw [e6] at nlr;cases nlr
  have B07:But p H (upd H6 lr (.lst [])):=(bq s1).trans (B2.trans (b25.trans (bq (s6.trans s7))));have nlr0:H lr=none:=((bq s1).trans (B2.trans (b25.trans (bq s6)))).free lrp nlr;have e67:=s7 _ _ e6;generalize upd H6 lr (.lst [])=H7 at *;have vf:∀ {x},x∈ks->dw (cu ks vs) (.inr x)=some (.str (bM ks vs x)):=fun hx=>nQ hx vl.symm;have nv:∀ {x},x∈ks->bM ks vs x∈vs:=fun hx=>jT vl.symm hx;have inks:∀ {x},(x∈aE h\/x∈aU h)->x∈ks:=fun hx=>(L.mem _).mpr hx;clear nvA nmA n2 nd s4 s6 s7 e4 e5 ho4 B2 B3 b5 b35 b25 pm hvA hmA ekB ekB2 hy ip4 ip5;refine⟨fun σ H'=>NrI p t kB d lr ks vs h c5 H h.2.length σ H',?_,?_⟩
  ·rintro σ H8 ⟨gv,rs,c8,x5,x6,rfl,elr,hg,rsl,rok,rsum,pl8,g7,g8,B8,ed8⟩;rw [aa9] at rsum g8;have S8:Same (uQ p H) H8:=iK B8;have bl:h.1.length+(h.2.flatMap (·.2)).length<=276:=by
    unfold aE at nk
    rwa [zH] at nk
   dsimp only [we,wY,cf,gh];refine⟨_,rfl,?_⟩;refine bP _ _ _ _ _ _ _ _ _ ?_;refine⟨_,rfl,t,_,0,.ref a,rfl,rfl,aAB (S8 _ _ ht),rfl,a,rfl,⟨_,aAA (S8 _ _ ha)⟩,fun D nD=>?_⟩;have Dp:D≠p:=cq pl8 nD;refine gZ (F:=nmV (bM ks vs)) (S8 _ _ ha) nD (by rw [zL];lia) (fun x=>rfl) (fun G x R hx sG r0=>?_) fun H9 s9 hD9=>?_
   ·obtain⟨z,hz,rfl⟩:=aaJ.mp hx;exact⟨_,rfl,_,rfl,d,_,rfl,uH (k:=.inr z) (sG _ _ ed8) (vf (inks (.inl (aaW _ hz)))),r0 G (Same.refl G)⟩
   rw [kX] at hD9;have kk:∀ k∈h.1.map (bM ks vs),k∈vs:=fun k hk=>by
    obtain⟨z,hz,rfl⟩:=aaJ.mp hk;exact nv (inks (.inl (aaW _ hz)))
   have pl9:=aI pl8 s9;refine⟨p,D,_,c8,rfl,pl9,Dp,hD9,iW fun k hk=>vk k (kk k hk),by rw [zL,zL];lia,by lia,by lia,fun mA ms cA HA nmA pm hmA plA g9 gA BA=>⟨_,rfl,by show 2<=sizeLine;decide,fun T nT=>?_⟩⟩;rw [zL,zL] at gA;obtain⟨mw,rfl,pmw⟩:=fA pm.symm rfl;have sT:Same HA (upd HA T (.tup [.ref mA,.ref lr])):=ar nT;have B8A:But p H8 HA:=(bq s9).trans BA;have hgA:=(hg.but (m5 pl8 lrp) (pR B8A));have inv:∀ x,(x∈aE (mw,rs)\/x∈aU (mw,rs))->x∈vs:=fun x hx=>by
    rcases hx with hx | hx
    ·rcases zS.mp hx with hx | hx
     ·exact kk x (pmw.mem_iff.mp hx)
     ·obtain⟨r,hr,hx⟩:=aar.mp hx;exact (rok r hr).2.2 x hx
    ·obtain⟨r,hr,hx⟩:=aar.mp hx;exact (rok r hr).2.1 x hx
   have nk':(aE (mw,rs)).length<=276:=by
    unfold aE;rw [zH,rsum,pmw.length_eq,zL];exact bl
   refine q (.ref T) (mw,rs) cA _ ⟨T,mA,lr,gv,rfl,af,sT _ _ hmA,sT _ _ (B8A _ _ lrp elr),((hgA.sameA pq).sameA sT)⟩ ⟨fun k hk=>vk k (kk k (pmw.mem_iff.mp hk)),by have:=pmw.length_eq;rw [zL] at this;show mw.length<=1000;lia,fun r hr=>(rok r hr).1,by show rs.length<=1000;lia⟩ ⟨⟨vs,by lia,vk,inv⟩,by lia,by show rs.length<=60;lia⟩ nk' (aI plA sT) (by lia) (by lia) (B8.trans (B8A.trans (bq sT)))
  ·have S7:Same (uQ p H) H7:=iK B07;refine⟨_,rfl,t,_,1,.ref r,rfl,rfl,aAB (S7 _ _ ht),rfl,r,rfl,⟨_,aAA (S7 _ _ hrr)⟩,?_⟩;refine dN (xs:=us) (fun i σ' H'=>NrI p t kB d lr ks vs h c5 H i σ' H') (.mk [] [] c5 none none rfl e7 ⟨rfl,fun i v r e=>by simp at e⟩ rfl (fun _ h=>(nomatch h)) rfl pl7 (acP _) (by simp) B07 e67) (fun i σ H' _ ⟨_,_,_,_,_,_,_,_,_,_,_,_,_,_,B,_⟩=>aAA (iK B _ _ hrr)) ?_ (fun σ H' z=>by rw [← ul];exact z);rintro i x σ H8 hx ⟨gv,rs,c8,x5,x6,rfl,elr,hg,rsl,rok,rsum,pl8,g7,g8,B8,ed8⟩;have hi:i < h.2.length:=by rw [← ul];exact (zJ.mp hx).1
   have er:h.2[i]? = some h.2[i]:=zG hi;have S8:Same (uQ p H) H8:=iK B8;obtain⟨tt,aa,bb,rfl,q1,q2,q3⟩:=hR.2 i x _ hx er;have him:=aak hi;have ro:=ok.rs _ him;have r4:=ro.l4;have tk:(h.2.take (i+1)).flatMap (·.2)=(h.2.take i).flatMap (·.2)++h.2[i].2:=by
    rw [aaS,er,aa7];simp
   have tl:((h.2.take (i+1)).flatMap (·.2)).length<=276:=by
    have:h.2.flatMap (·.2)=(h.2.take (i+1)).flatMap (·.2)++(h.2.drop (i+1)).flatMap (·.2):=by rw [← aa7,aat]
    have l:=aaG List.length this;unfold aE at nk;rw [zH] at nk l;lia
   have tl2:=tl;rw [tk,zH] at tl2;have gl:=hg.1;refine⟨tt,_,rfl,aAB (S8 _ _ q1),rfl,?_⟩;refine⟨_,_,rfl,_,_,rfl,rfl,?_⟩;dsimp only [wd,tBM,wY,cf,gh,tCB];refine⟨_,rfl,.inl ⟨rfl,_,aAA elr⟩,?_⟩;refine bP _ _ _ _ _ _ _ _ _ ?_;refine⟨_,rfl,aa,rfl,⟨_,aAA (S8 _ _ q2)⟩,fun D1 nD1=>?_⟩;have lkin:∀ {z},z∈h.2[i].1->z∈ks:=fun {z} hz=>inks (.inr (aar.mpr ⟨_,him,hz⟩));have wiin:∀ {z},z∈h.2[i].2->z∈ks:=fun {z} hz=>inks (.inl (aaa _ (aar.mpr ⟨_,him,hz⟩)));refine gZ (F:=nmV (bM ks vs)) (S8 _ _ q2) nD1 (by rw [zL];lia) (fun x=>rfl) (fun G x R hx sG r0=>?_) fun G5 sG5 hG5=>?_
   ·obtain⟨z,hz,rfl⟩:=aaJ.mp hx;exact⟨_,rfl,_,rfl,d,_,rfl,uH (k:=.inr z) (sG _ _ ed8) (vf (lkin hz)),r0 G (Same.refl G)⟩
   rw [kX] at hG5;refine⟨D1,_,rfl,aAA hG5,by rw [zL];lia,fun ls ss nls perm so=>?_⟩;have s6:Same G5 (upd G5 ls (.lst (ss.map V.str))):=ar nls;have e6:(upd G5 ls (.lst (ss.map V.str))) ls=some (.lst (ss.map V.str)):=af;have lsp:ls≠p:=cq (aI pl8 sG5) nls;generalize upd G5 ls (.lst (ss.map V.str))=G6 at *;have s86:=sG5.trans s6;refine⟨_,rfl,?_⟩;refine bP _ _ _ _ _ _ _ _ _ ?_;refine⟨_,rfl,bb,rfl,⟨_,aAA (s86 _ _ (S8 _ _ q3))⟩,fun D2 nD2=>?_⟩;have pl6':=aI pl8 s86;have D2p:D2≠p:=cq pl6' nD2;refine gZ (F:=nmV (bM ks vs)) (s86 _ _ (S8 _ _ q3)) nD2 (by rw [zL];lia) (fun x=>rfl) (fun G x R hx sG r0=>?_) fun G7 sG7 hG7=>?_
   ·obtain⟨z,hz,rfl⟩:=aaJ.mp hx;exact⟨_,rfl,_,rfl,d,_,rfl,uH (k:=.inr z) (sG _ _ (s86 _ _ ed8)) (vf (wiin hz)),r0 G (Same.refl G)⟩
   rw [kX] at hG7;have kk:∀ k∈h.2[i].2.map (bM ks vs),k∈vs:=fun k hk=>by
    obtain⟨z,hz,rfl⟩:=aaJ.mp hk;exact nv (wiin hz)
   have s87:=s86.trans sG7;have pl7':=aI pl8 s87;refine⟨p,D2,_,c8,rfl,pl7',D2p,hG7,iW fun k hk=>vk k (kk k hk),by rw [zL,zL];lia,by lia,by lia,fun mA ms cA HA nmA pm hmA plA g9 gA BA=>⟨by show 2<=sizeLine;decide,fun T nT=>?_⟩⟩;rw [zL,zL] at gA;obtain⟨mw,rfl,pmw⟩:=fA pm.symm rfl;have mAp:mA≠p:=cq pl7' nmA;have sT:Same HA (upd HA T (.tup [.ref ls,.ref mA])):=ar nT;have eT:(upd HA T (.tup [.ref ls,.ref mA])) T=some (.tup [.ref ls,.ref mA]):=af;have Tp:T≠p:=cq plA nT;have plB:=aI plA sT;have B8B:But p H8 (upd HA T (.tup [.ref ls,.ref mA])):=(bq s87).trans (BA.trans (bq sT));have els:(upd HA T (.tup [.ref ls,.ref mA])) ls=some (.lst (ss.map V.str)):=sT _ _ (BA _ _ lsp (sG7 _ _ e6));have emA:=sT _ _ hmA;have elrB:=B8B _ _ lrp elr;generalize upd HA T (.tup [.ref ls,.ref mA])=HB at *;refine⟨lr,_,_,rfl,rfl,elrB,zX (show gv.length < 1000 by lia) (by decide),?_⟩;have lsn:ls≠lr:=fun z=>by rw [z,sG5 _ _ elr] at nls;cases nls
   have mAn:mA≠lr:=fun z=>by rw [z,s87 _ _ elr] at nmA;cases nmA
   have Tn:T≠lr:=fun z=>by rw [z,((bq (p:=p) s87).trans BA) _ _ lrp elr] at nT;cases nT
   have rmT:RoomAt (nj lr HB) (.ref T) (ss,mw):=⟨T,ls,mA,rfl,by rw [gn Tn];exact eT,by rw [gn lsn];exact els,by rw [gn mAn];exact emA⟩;have hgB:=hg.but (m5 pl8 lrp) (pR B8B);have ssl:=perm.length_eq;have mwl:=pmw.length_eq;rw [zL] at ssl mwl;have l1:=ro.l1;refine .mk (gv++[.ref T]) (rs++[(ss,mw)]) cA _ _ rfl af (by rw [rE];exact hgB.snocD rmT) (by rw [zH,rsl];rfl) (fun x hx=>?_) ?_ ?_ (by lia) ?_ ?_ ?_
   ·rcases zS.mp hx with hx | hx
    ·exact rok x hx
    ·rw [zQ] at hx;subst hx;have kl:∀ k∈ss,k∈vs:=fun k hk=>by
      obtain⟨z,hz,rfl⟩:=aaJ.mp (perm.mem_iff.mp hk);exact nv (lkin hz)
     have kw:∀ k∈mw,k∈vs:=fun k hk=>kk k (pmw.mem_iff.mp hk);exact⟨⟨fun k hk=>vk k (kl k hk),by show 1<=ss.length;lia,by show ss.length<=4;lia,aL so,fun k hk=>vk k (kw k hk),by show mw.length<=1000;lia⟩,kl,kw⟩
   ·rw [tk,aa7,zH,zH,rsum];show _+([(ss,mw)].flatMap (·.2)).length=_;simp [mwl]
   ·obtain⟨o,ho,ip⟩:=plB;exact⟨o,by rw [ai (aaA lrp)];exact ho,ip⟩
   ·rw [tk,zH];lia
   ·exact (B8.trans B8B).new nlr0
   ·rw [ai dlr];exact B8B _ _ dp ed8
theorem oE {n j:Nat}(h:j < n):ixN n (j:Int)=some j:=by
 unfold ixN;rw [if_pos (aeb j),if_pos (by lia)]
 rfl
theorem m8 (l:List Str)(k:Str):l.map V.str++[V.str k]=(l++[k]).map V.str:=by rw [aax];rfl
theorem sU {xs:List V}:qM xs (some 1) none=xs.drop 1:=by
 unfold qM;rw [HT.sIx_none,show (1:Int)=((1:Nat):Int) from rfl,HT.sIx_nat];cases xs with
 | nil=>rfl
 | cons a r =>
  rw [show min 1 (a::r).length=1 by simp];exact aau (by simp)
theorem lV {K:PySem.W.Frag}{i j:Nat}{σ:L2.St}{H:Hp}{Q:VK}{p a:Addr}{l:List Str}{k:Str}{c:Int}(e0:σ[0]? = some (some (V.ref p)))(ei:σ[i]? = some (some (V.ref a)))(ej:σ[j]? = some (some (V.str k)))(ha:H a=some (.lst (l.map V.str)))(ll:l.length<=1000)(pl:aK H p c)(c0:0<=c)(c1:c+10 < 1000000)
 (q:∀ (y:Addr) (l':List Str) (c':Int) (H':Hp),(l'=l++[k]\/l'=l.drop 1)->H y=none->H' y=some (.lst (l'.map V.str))->aK H' p c'->c<=c'->c'<=c+1->But p H H'->Q (.ref y) H'):tOp (ym K) (t7 (cf (tOp yK (ik i) (t7 (cf (ik j) gh))) (cf (tSl (yM K) (ik i) (wL (tC (V.int 1))) nH) gh))) (qw fU [] E0 (cf (ik 0) (cf (tC (V.int 2)) gh))) σ H Q:=by
 have lim:1276<=sizeLine:=by decide
 refine⟨_,ei,_,ej,by show 1<=sizeLine;lia,fun l1 n1=>?_⟩;have s1:Same H (upd H l1 (.lst [.str k])):=ar n1;have e1:(upd H l1 (.lst [.str k])) l1=some (.lst [.str k]):=af;generalize upd H l1 (.lst [.str k])=H1 at *;refine⟨a,l1,_,_,rfl,rfl,s1 _ _ ha,e1,by rw [zL];show _+1<=_;lia,fun x1 m1=>?_⟩;have s2:Same H1 (upd H1 x1 (.lst (l.map V.str++[.str k]))):=ar m1;have e2:(upd H1 x1 (.lst (l.map V.str++[.str k]))) x1=some (.lst ((l++[k]).map V.str)):=by rw [af,m8]
 have nx1:H x1=none:=s1.free m1;generalize upd H1 x1 (.lst (l.map V.str++[.str k]))=H2 at *;have s02:=s1.trans s2;refine⟨_,ei,1,rfl,a,_,rfl,aAA (s02 _ _ ha),fun x2 m2=>?_⟩;have s3:Same H2 (upd H2 x2 (.lst (qM (l.map V.str) (some 1) none))):=ar m2;have e3:(upd H2 x2 (.lst (qM (l.map V.str) (some 1) none))) x2=some (.lst ((l.drop 1).map V.str)):=by rw [af,sU,List.map_drop]
 have nx2:H x2=none:=s02.free m2;generalize upd H2 x2 (.lst (qM (l.map V.str) (some 1) none))=H3 at *;have s03:=s02.trans s3;refine⟨by show 2<=sizeLine;lia,fun l3 n3=>?_⟩;have s4:Same H3 (upd H3 l3 (.lst [.ref x1,.ref x2])):=ar n3;have e4:(upd H3 l3 (.lst [.ref x1,.ref x2])) l3=some (.lst [.ref x1,.ref x2]):=af;have l3p:l3≠p:=cq (aI pl s03) n3;generalize upd H3 l3 (.lst [.ref x1,.ref x2])=H4 at *;have s04:=s03.trans s4;obtain⟨o,ho,ip⟩:=aI pl s04;have x1p:x1≠p:=cq pl nx1;have x2p:x2≠p:=cq pl nx2;refine⟨_,e0,p,2,c,o,rfl,ho,ip,by decide,by decide,c0,by lia,fun r c' o' r0 r1 g1 g2 ip'=>?_⟩;have b5:But p H4 (upd H4 p o'):=fun b y n e=>by rw [ai n];exact e
 have pl5:aK (upd H4 p o') p c':=⟨o',af,ip'⟩;have b05:But p H (upd H4 p o'):=(bq s04).trans b5;rcases (by lia:r=0\/r=1) with e | e
 ·subst e;exact⟨l3,_,_,_,rfl,rfl,aAA (b5 _ _ l3p e4),dj (j:=0) rfl,q x1 _ c' _ (.inl rfl) nx1 (b5 _ _ x1p (s4 _ _ (s3 _ _ e2))) pl5 g1 g2 b05⟩
 ·subst e;exact⟨l3,_,_,_,rfl,rfl,aAA (b5 _ _ l3p e4),dj (j:=1) rfl,q x2 _ c' _ (.inr rfl) nx2 (b5 _ _ x2p (s4 _ _ e3)) pl5 g1 g2 b05⟩
def RoomsOff (D:Addr)(H:Hp)(ys:List V)(rs:List Rm):Prop:=ys.length=rs.length/\∀ (j:Nat) v r,ys[j]? = some v->rs[j]? = some r->RoomOff D H v r
theorem RoomsOff.on {D:Addr}{H H':Hp}{ys:List V}{rs:List Rm}(x:RoomsOff D H ys rs)(s:∀ b u,b≠D->H b=some u->H' b=some u):RoomsOff D H' ys rs:=⟨x.1,fun j v r e1 e2=>(x.2 j v r e1 e2).on s⟩
theorem RoomOff.but {D p:Addr}{H H':Hp}{v:V}{r:Rm}{c:Int}(x:RoomOff D H v r)(pl:aK H p c)(b:But p H H'):RoomOff D H' v r:=by
 obtain⟨t,la,lb,rfl,h1,h2,h3,n1,n2,n3⟩:=x;obtain⟨o,hp,a0,f0,rfl⟩:=pl;refine⟨t,la,lb,rfl,b _ _ (fun z=>?_) h1,b _ _ (fun z=>?_) h2,b _ _ (fun z=>?_) h3,n1,n2,n3⟩
 ·rw [z,hp] at h1;cases h1
 ·rw [z,hp] at h2;exact bK (aai h2).symm
 ·rw [z,hp] at h3;exact bK (aai h3).symm
theorem RoomsOff.but {D p:Addr}{H H':Hp}{ys:List V}{rs:List Rm}{c:Int}(x:RoomsOff D H ys rs)(pl:aK H p c)(b:But p H H'):RoomsOff D H' ys rs:=⟨x.1,fun j v r e1 e2=>(x.2 j v r e1 e2).but pl b⟩
theorem RoomsOff.set {D:Addr}{H:Hp}{ys:List V}{rs:List Rm}{i:Nat}{v:V}{r:Rm}(x:RoomsOff D H ys rs)(y:RoomOff D H v r):RoomsOff D H (ys.set i v) (rs.set i r):=⟨by rw [abX,abX,x.1],fun j u q e1 e2=>by
 rw [List.getElem?_set] at e1 e2;split at e1
 ·rename_i h;rw [if_pos h] at e2;split at e1
  ·split at e2
   ·cases e1;cases e2;exact y
   ·cases e2
  ·cases e1
 ·rename_i h;rw [if_neg h] at e2;exact x.2 j u q e1 e2⟩
theorem RoomsOff.erase {D:Addr}{H:Hp}{ys:List V}{rs:List Rm}{i:Nat}(x:RoomsOff D H ys rs):RoomsOff D H (ys.eraseIdx i) (rs.eraseIdx i):=⟨by rw [List.length_eraseIdx,List.length_eraseIdx,x.1],fun j u q e1 e2=>by
 rw [List.getElem?_eraseIdx] at e1 e2;split at e1
 ·rename_i h;rw [if_pos h] at e2;exact x.2 j u q e1 e2
 ·rename_i h;rw [if_neg h] at e2;exact x.2 _ u q e1 e2⟩
theorem iL {g:Rm->List Str}{r':Rm}:∀ {rs:List Rm} {i:Nat} {r:Rm},rs[i]? = some r->((rs.set i r').flatMap g).length+(g r).length=(rs.flatMap g).length+(g r').length
 | [],_,_,e=>by simp at e
 | a::rs,0,r,e=>by
  cases e;simp only [List.set_cons_zero,abb,zH];lia
 | a::rs,i+1,r,e=>by
  have:=iL (g:=g) (r':=r') (rs:=rs) (i:=i) e;simp only [List.set_cons_succ,abb,zH];lia
theorem p4 {g:Rm->List Str}{rs:List Rm}{i:Nat}:((rs.eraseIdx i).flatMap g).length<=(rs.flatMap g).length:=by
 rw [adw,aa7,zH];have e:rs.flatMap g=(rs.take i).flatMap g++(rs.drop i).flatMap g:=by rw [← aa7,aat]
 have l:=aaG List.length e;rw [zH] at l;have d:((rs.drop (i+1)).flatMap g).length<=((rs.drop i).flatMap g).length:=by
  by_cases h:i < rs.length
  ·rw [abP h,abb,zH];lia
  ·rw [abx (by lia)];exact zZ _
 lia
def InU (U:List Str)(h:Hs):Prop:=(∀ k∈h.1,k∈U)/\∀ r∈h.2,(∀ k∈r.1,k∈U)/\∀ k∈r.2,k∈U
theorem InU.all {U:List Str}{h:Hs}(i:InU U h):∀ x,(x∈aE h\/x∈aU h)->x∈U:=fun x hx=>by
 rcases hx with hx | hx
 ·rcases zS.mp hx with hx | hx
  ·exact i.1 x hx
  ·obtain⟨r,hr,hx⟩:=aar.mp hx;exact (i.2 r hr).2 x hx
 ·obtain⟨r,hr,hx⟩:=aar.mp hx;exact (i.2 r hr).1 x hx
theorem InU.of {U:List Str}{h:Hs}(i:∀ x,(x∈aE h\/x∈aU h)->x∈U):InU U h:=⟨fun k hk=>i k (.inl (aaW _ hk)),fun r hr=>⟨fun k hk=>i k (.inr (aar.mpr ⟨r,hr,hk⟩)),fun k hk=>i k (.inl (aaa _ (aar.mpr ⟨r,hr,hk⟩)))⟩⟩
structure KdU (U:List Str):Prop where
 ul:U.length<=62
 kk:∀ k∈U,bo k
 a:("a" : Str)∈U
 z:("zzzz" : Str)∈U
def jD:Sp:=fun vs H Q _=>∃ (p:Addr) (v:V) (h:Hs) (c:Int) (U:List Str),vs=[.ref p,v]/\aK H p c/\HouseAt H v h/\aM h/\KdU U/\InU U h/\(aE h).length<=290/\h.2.length<=60/\0<=c/\c+100 < 1000000/\∀ (u:V) (g:Hs) (c':Int) (H':Hp),HouseAt H' u g->aM g->InU U g->(aE g).length<=(aE h).length+1->g.2.length<=60->aK H' p c'->c<=c'->c'<=c+10->But p H H'->Q u H'
structure GoodR (U:List Str)(h:Hs)(rs:List Rm):Prop where
 ok:∀ r∈rs,iR r/\(∀ k∈r.1,k∈U)/\∀ k∈r.2,k∈U
 len:rs.length<=h.2.length
 sum:(rs.flatMap (·.2)).length<=(h.2.flatMap (·.2)).length+1
inductive CvI (p a D aa bb:Addr)(v:V)(U:List Str)(h:Hs)(kC:Addr)(k:Str)(way:Int)(i:Nat)(c:Int)(H:Hp)(off:Bool)(σ:L2.St)(H':Hp):Prop
 | mk (ys:List V) (rs:List Rm) (c':Int) (x10:Option V):σ=[some (.ref p),some v,some (.ref a),some (.ref D),some (.ref kC),some (.str k),some (.int way),some (.int ((i:Nat):Int)),some (.ref aa),some (.ref bb),x10]->H' D=some (.lst ys)->RoomsOff D H' ys rs->GoodR U h rs->(off=true->rs=h.2/\c'<=c+3)->aK H' p c'->c<=c'->c'<=c+5->But p H H'->H' a=some (.lst (h.1.map V.str))->(∃ r,h.2[i]? = some r/\H' aa=some (.lst (r.1.map V.str))/\H' bb=some (.lst (r.2.map V.str)))->CvI p a D aa bb v U h kC k way i c H off σ H'
theorem GoodR.set {U:List Str}{h:Hs}(g:GoodR U h h.2){i:Nat}{r r':Rm}(e:h.2[i]? = some r)(ok:iR r')(i1:∀ k∈r'.1,k∈U)(i2:∀ k∈r'.2,k∈U)(l:r'.2.length<=r.2.length+1):GoodR U h (h.2.set i r'):=by
 refine⟨fun x hx=>?_,by rw [abX];exact zP _,?_⟩
 ·rcases abQ hx with hx | hx
  ·exact g.ok x hx
  ·subst hx;exact⟨ok,i1,i2⟩
 ·have:=iL (g:=(·.2)) (r':=r') e;lia
abbrev azz:List Str:=["a","zzzz"]
theorem mV {A:Around}{neg:Bool}{H:Hp}{x y:Addr}{us:List V}{rs:List Rm}{Q:VK}(hx:H x=some (.lst us))(hy:H y=some (.lst []))(R:RoomsAt H us rs)(ok:∀ r∈rs,iR r)(hu:A.units+1 < cLine)(q:Q (.bl (if neg then !us.isEmpty else us.isEmpty)) H):vE A neg (.ref x) (.ref y) H Q:=by
 have sa:SeesAll H us (rs.map bS):=fN R;have l:=R.1;refine⟨.list (rs.map bS),.list [],.lst hx sa,.lst hy .nil,by simp only [PyData.canLay0];exact gu fun r hr=>⟨(ok r hr).lk,(ok r hr).kk⟩,rfl,aaj (aaE (acJ _ _) _) hu,?_⟩;have e:PyData.eqv (.list (rs.map bS)) (.list [])=us.isEmpty:=by
  cases rs with
  | nil =>
   cases us with
   | nil=>rfl
   | cons a r=>simp at l
  | cons b t =>
   cases us with
   | nil=>simp at l
   | cons a r=>rfl
 rw [e];exact q
theorem aP:br ["pool","house","keys","rooms","kinds","kind","way","at","locks","within","to"] ["pool","house"] (ao bH):=scM rfl rfl rfl rfl (by decide +kernel)
theorem qp {f:Addr}{fd:FuncData}(F:Fun K "_law_changed" "_law_changed" bH f fd){f__law_kinds_in:Addr}{fd__law_kinds_in:FuncData}(bf:bO P w K mg base CX0 1 f__law_kinds_in fd__law_kinds_in ["house"] qE)(aG:Cal K mg "_law_kinds_in" ["house"] f__law_kinds_in fd__law_kinds_in)
 {f__law_copy:Addr}{fd__law_copy:FuncData}(eJ:bO P w K mg base CX0 1 f__law_copy fd__law_copy ["house"] pf)(cF:Cal K mg "_law_copy" ["house"] f__law_copy fd__law_copy)
 {f__law_take:Addr}{fd__law_take:FuncData}(ax:bO P w K mg base CX0 1 f__law_take fd__law_take ["pool","many"] fU)(au:Cal K mg "_law_take" ["pool","many"] f__law_take fd__law_take)(cQ:mg "len" = none)(aN:mg "sorted" = none):bO P w K mg base CX0 3 f fd ["pool","house"] jD:=by
 refine F.ok aP (fun vs H Q E h=>?_) (fun cdv A outer s H vs Q E hr h=>?_)
 ·obtain⟨p,v,h,c,U,rfl,_⟩:=h
  rfl
 ·have hu:=iH hr;obtain⟨p,v,h,c,U,rfl,pl,hh,ok,KU,inU,nk,l60,c0,c1,q⟩:=h;have deep:(A.deeper (envOfC "_law_changed" (ao bH) s.heap.objs.size f cdv)).units+1 < cLine:=aaj (aaE (by decide:1<=64) _) hr.units;have lim:1276<=sizeLine:=by decide
  have kl:h.1.length+(h.2.flatMap (·.2)).length<=290:=by
   unfold aE at nk
   rwa [zH] at nk
  have good0:GoodR U h h.2:=⟨fun r hr=>⟨ok.rs r hr,inU.2 r hr⟩,zP _,aa6 _⟩;refine⟨_,(aj (gc (pcl eJ cF (hr.mono (by decide:1<=2)) rfl (ae (pv 1) ah)) (fi rfl (az (ay (i:=2) aP.nd rfl (.inl rfl)) (az (ay (i:=3) aP.nd rfl (.inl rfl)) bQ))))
   (aj (aF (i:=4) aP.nd rfl (.inl rfl) (aY i6 (pcl bf aG (hr.mono (by decide:1<=2)) rfl (ae (pv 1) ah)) (bU (ae lW (ae lW ah)))))
   (aj (aF (i:=5) aP.nd rfl (.inl rfl) (bj bg (pv 4) (pcl ax au (hr.mono (by decide:1<=2)) rfl (ae (pv 0) (ae (aw aS rfl cQ aaQ (ae (pv 4) ah)) ah))) (fun _ _=>rfl)))
   (aj (aF (i:=6) aP.nd rfl (.inl rfl) (pcl ax au (hr.mono (by decide:1<=2)) rfl (ae (pv 0) (ae aq ah))))
   (aj (bF (dk (PW.pt (qy (aT xG (pv 6) aq (aZ _)) (j7 (aT rG (pv 3) jL (aZ _)))))
    (aj (aF (i:=2) aP.nd rfl (.inl rfl) (bj bg (bU (ae (aY i6 (pv 2) (bU (ae (pv 5) ah))) (ae (fE nX (pv 2) (h7 aq) ie) ah))) (pcl ax au (hr.mono (by decide:1<=2)) rfl (ae (pv 0) (ae aq ah))) (fun _ _=>rfl)))
    (av (bt (dO (ae (pv 2) (ae (pv 3) ah)))))) bw))
   (aj (aF (i:=7) aP.nd rfl (.inl rfl) (pcl ax au (hr.mono (by decide:1<=2)) rfl (ae (pv 0) (ae (aw aS rfl cQ aaQ (ae (pv 3) ah)) ah))))
   (aj (gc (bj bg (pv 3) (pv 7) (fun _ _=>rfl)) (fi rfl (az (ay (i:=8) aP.nd rfl (.inl rfl)) (az (ay (i:=9) aP.nd rfl (.inl rfl)) bQ))))
   (aj (bF (dk (aT ic (pv 6) aq (aZ _))
    (av (gc (dO (ae (aw cb rfl aN abu (ae (aY i6 (fE nX (pv 8) (h7 aq) ie) (bU (ae (pv 5) ah))) ah)) (ae (pv 9) ah))) (kg (pv 3) (pv 7) fF))) bw))
   (aj (bF (dk (aT ic (pv 6) aq (aZ _))
    (av (gc (dO (ae (pv 8) (ae (bj bg (bU (ae (aY i6 (pv 9) (bU (ae (pv 5) ah))) (ae (fE nX (pv 9) (h7 aq) ie) ah))) (pcl ax au (hr.mono (by decide:1<=2)) rfl (ae (pv 0) (ae aq ah))) (fun _ _=>rfl)) ah))) (kg (pv 3) (pv 7) fF))) bw))
   (aj (bF (dk (aT ic (pv 6) aq (aZ _))
    (aj (aF (i:=10) aP.nd rfl (.inl rfl) (pcl ax au (hr.mono (by decide:1<=2)) rfl (ae (pv 0) (ae (aw aS rfl cQ aaQ (ae (pv 3) ah)) ah))))
    (aj (gc (bj bg (pv 3) (pv 10) (fun _ _=>rfl)) (kg (pv 3) (pv 7) fF))
    (av (gc (dO (ae (pv 8) (ae (pv 9) ah))) (kg (pv 3) (pv 10) fF))))) bw))
   (aj (bF (dk (aT ic (pv 6) aq (aZ _))
    (av (cW (fb aam ae7 ae8 oI (pv 3) (ae (pv 7) ah)))) bw))
   (av (bt (dO (ae (pv 2) (ae (pv 3) ah)))))))))))))))),?_⟩
  refine⟨_,rfl,v,h,rfl,hh,ok,fun t a D ys0 H1 s1 nD tD aD et ea eD yl off=>?_⟩;refine⟨t,_,rfl,aAB et,rfl,?_⟩;refine⟨_,_,rfl,_,_,rfl,rfl,?_⟩;have ro0:RoomsOff D H1 ys0 h.2:=⟨yl,off⟩;have Dp:D≠p:=cq pl nD;have ul:=KU.ul;refine⟨_,rfl,v,h,rfl,hh.same s1,ok,⟨⟨U,by lia,KU.kk,inU.all⟩,by lia,l60⟩,fun kB ks H2 s2 nkB ekB L so klen=>⟨by show 2<=sizeLine;lia,fun l2 n2=>?_⟩⟩;have s3:Same H2 (upd H2 l2 (.lst [.str "a",.str "zzzz"])):=ar n2;have e3:(upd H2 l2 (.lst [.str "a",.str "zzzz"])) l2=some (.lst [.str "a",.str "zzzz"]):=af;generalize upd H2 l2 (.lst [.str "a",.str "zzzz"])=H3 at *;refine⟨kB,l2,_,_,rfl,rfl,s3 _ _ ekB,e3,by rw [zL];show _+2<=_;lia,fun kC n4=>?_⟩;have s4:Same H3 (upd H3 kC (.lst (ks.map V.str++[.str "a",.str "zzzz"]))):=ar n4;have e4:(upd H3 kC (.lst (ks.map V.str++[.str "a",.str "zzzz"]))) kC=some (.lst ((ks++azz).map V.str)):=by rw [af,aax];rfl
  have s14:=(s2.trans s3).trans s4;have s04:=s1.trans s14;have kCp:kC≠p:=cq (aI pl (s1.trans (s2.trans s3))) n4;generalize upd H3 kC (.lst (ks.map V.str++[.str "a",.str "zzzz"]))=H4 at *;have ksU:∀ k∈ks++azz,k∈U:=fun k hk=>by
   rcases zS.mp hk with hk | hk
   ·exact inU.all k ((L.mem k).mp hk)
   ·simp only [aab,aaI,aca] at hk;rcases hk with e | e
    ·rw [e];exact KU.a
    ·rw [e];exact KU.z
  obtain⟨o4,ho4,ip4⟩:=aI pl s04;have kCl:(ks++azz).length<=66:=by rw [zH];show _+2<=_;lia
  have kCp0:0 < (ks++azz).length:=by rw [zH];show 0 < _+2;lia
  refine⟨_,rfl,_,rfl,_,rfl,kC,_,rfl,.inl (aAA e4),p,(((ks++azz).length:Nat):Int),c,o4,aaG (fun z:Nat=>[V.ref p,V.int (z:Int)]) (zL _),ho4,ip4,by lia,by lia,c0,by lia,fun r5 c5 o5 r50 r51 g5 g6 ip5=>?_⟩;have b5:But p H4 (upd H4 p o5):=fun b y n e=>by rw [ai n];exact e
  have pl5:aK (upd H4 p o5) p c5:=⟨o5,af,ip5⟩;have ho5:(upd H4 p o5) p=some o5:=af;have e5:=b5 _ _ kCp e4;generalize upd H4 p o5=H5 at *;obtain⟨j5,rfl⟩:∃ j:Nat,r5=(j:Int):=⟨r5.toNat,by lia⟩;have hj5:j5 < (ks++azz).length:=by lia
  obtain⟨k,hkU,ek⟩:∃ k,k∈U/\atI ((ks++azz).map V.str) (j5:Int)=some (.str k):=⟨_,ksU _ (aak hj5),dj (by rw [zT,zG hj5];rfl)⟩;have hkk:=KU.kk k hkU;refine⟨kC,_,_,_,rfl,rfl,aAA e5,ek,?_⟩;refine⟨_,rfl,p,6,c5,o5,rfl,ho5,ip5,by decide,by decide,by lia,by lia,fun way c6 o6 w0 w1 g7 g8 ip6=>?_⟩;have b6:But p H5 (upd H5 p o6):=fun b y n e=>by rw [ai n];exact e
  have pl6:aK (upd H5 p o6) p c6:=⟨o6,af,ip6⟩;have e6:=b6 _ _ kCp e5;generalize upd H5 p o6=H6 at *;have b16:But p H1 H6:=(bq s14).trans (b5.trans b6);have b06:But p H H6:=(bq s1).trans b16;have ap:a≠p:=fun z=>by
   obtain⟨o,ho,⟨x,y,rfl⟩⟩:=aI pl s1;rw [z,ho] at ea;exact bK (aai ea).symm
  have ea6:=b16 _ _ ap ea;have eD6:=b16 _ _ Dp eD;have ro6:=ro0.but (aI pl s1) b16;have ra6:RoomsAt H6 ys0 h.2:=⟨ro6.1,fun j v r e1 e2=>(ro6.2 j v r e1 e2).at⟩;have fin:∀ (x:Addr) (l:List Str) (ys:List V) (rs:List Rm) (c':Int) (G:Hp),G x=some (.lst (l.map V.str))->G D=some (.lst ys)->RoomsOff D G ys rs->(∀ k∈l,k∈U)->GoodR U h rs->l.length+(rs.flatMap (·.2)).length<=h.1.length+(h.2.flatMap (·.2)).length+1->aK G p c'->c<=c'->c'<=c+10->But p H G->2<=sizeLine/\∀ T,G T=none->Q (.ref T) (upd G T (.tup [.ref x,.ref D])):=fun x l ys rs c' G hx hD ro il gr sm plG h1 h2 bG=>⟨by lia,fun T nT=>by
   have sT:Same G (upd G T (.tup [.ref x,.ref D])):=ar nT;have rl:=gr.len;refine q (.ref T) (l,rs) c' _ ⟨T,x,D,ys,rfl,af,sT _ _ hx,sT _ _ hD,ro.1,fun j v r e1 e2=>(ro.2 j v r e1 e2).at.same sT⟩ ⟨fun k hk=>KU.kk k (il k hk),by show l.length<=1000;lia,fun r hr=>(gr.ok r hr).1,by show rs.length<=1000;lia⟩ ⟨il,fun r hr=>(gr.ok r hr).2⟩ ?_ (by show rs.length<=60;lia) (aI plG sT) h1 h2 (bG.trans (bq sT));unfold aE;rw [zH,zH];exact sm⟩
  clear e3 e4 e5 n2 n4 s2 s3 s4 ho4 ho5 ip4 ip5 pl5 b5 b6 s14 s04 ekB nkB klen so L ksU kCl kCp0 hj5 ek r50 r51 ea eD off et;refine⟨fun σ H'=>σ=[some (.ref p),some v,some (.ref a),some (.ref D),some (.ref kC),some (.str k),some (.int way),none,none,none,none]/\Same H6 H'/\2<=way/\ys0≠[],?_,?_⟩;rotate_left
  ·have brA:∀ G,Same H6 G->2<=sizeLine->wZ (wI (tOp (ym K) (t7 (cf (tOp yK (ik 2) (t7 (cf (ik 5) gh))) (cf (tSl (yM K) (ik 2) (wL (tC (V.int 1))) nH) gh))) (qw fU [] E0 (cf (ik 0) (cf (tC (V.int 2)) gh)))) (dG 2)) (we (wY (cf (ik 2) (cf (ik 3) gh)))) { nx:=fun σ H'=>σ=[some (.ref p),some v,some (.ref a),some (.ref D),some (.ref kC),some (.str k),some (.int way),none,none,none,none]/\Same H6 H'/\2<=way/\ys0≠[],rt:=Q } [some (.ref p),some v,some (.ref a),some (.ref D),some (.ref kC),some (.str k),some (.int way),none,none,none,none] G:=fun G sG _=>by
    dsimp only [wZ,wI];refine lV (i:=2) (j:=5) (p:=p) (a:=a) (l:=h.1) (k:=k) (c:=c6) rfl rfl rfl (sG _ _ ea6) (by lia) (aI pl6 sG) (by lia) (by lia) fun y l' c7 H7 el ny ey pl7 g9 gA b7=>?_;refine⟨_,rfl,_,rfl,?_⟩;have b67:But p H6 H7:=(bq sG).trans b7;refine fin y l' ys0 h.2 c7 H7 ey (b67 _ _ Dp eD6) (ro6.but pl6 b67) (fun z hz=>?_) good0 ?_ pl7 (by lia) (by lia) (b06.trans b67)
    ·rcases el with e | e
     ·rw [e] at hz;rcases zS.mp hz with hz | hz
      ·exact inU.1 z hz
      ·rw [zQ] at hz;rw [hz];exact hkU
     ·rw [e] at hz;exact inU.1 z (aaP hz)
    ·rcases el with e | e
     ·rw [e,zH];show _+1+_<=_;lia
     ·rw [e,aaR];lia
   refine⟨_,rfl,_,_,rfl,rfl,_,rfl,?_⟩;by_cases hw:way < 2
   ·rw [aaw hw];refine hV ?_;exact brA H6 (Same.refl _) (by lia)
   ·rw [aah hw];refine dR ⟨_,rfl,zZ _,fun e0 n0=>?_⟩;have s0:Same H6 (upd H6 e0 (.lst [])):=ar n0;refine mV (neg:=false) (s0 _ _ eD6) af (ra6.sameA s0) ok.rs deep ⟨_,rfl,?_⟩;rw [if_neg zO];cases hys:ys0 with
    | nil =>
     refine hV ?_;rw [hys] at brA;exact brA _ s0 (by lia)
    | cons y0 yr =>
     refine dR ⟨rfl,s0,by lia,fun z=>by cases z⟩
  rintro σ H7 ⟨rfl,s7,w2,ne⟩;have hn0:0 < ys0.length:=List.length_pos_iff.mpr ne;have eD7:=s7 _ _ eD6;obtain⟨o7,ho7,ip7⟩:=aI pl6 s7;refine⟨_,rfl,_,rfl,D,_,rfl,.inl (aAA eD7),p,((ys0.length:Nat):Int),c6,o7,rfl,ho7,ip7,by lia,by lia,by lia,by lia,fun r8 c8 o8 r80 r81 g9 gA ip8=>?_⟩;have b8:But p H7 (upd H7 p o8):=fun b y n e=>by rw [ai n];exact e
  have pl8:aK (upd H7 p o8) p c8:=⟨o8,af,ip8⟩;generalize upd H7 p o8=H8 at *;have b68:But p H6 H8:=(bq s7).trans b8;have b08:=b06.trans b68;have eD8:=b68 _ _ Dp eD6;have ea8:=b68 _ _ ap ea6;have ro8:=ro6.but pl6 b68;obtain⟨i,rfl⟩:∃ j:Nat,r8=(j:Int):=⟨r8.toNat,by lia⟩;have hi:i < ys0.length:=by lia
  have hi2:i < h.2.length:=by rw [← yl];exact hi
  have er:h.2[i]? = some h.2[i]:=zG hi2;have him:=aak hi2;obtain⟨tt,aa,bb,ey,q1,q2,q3,m1,m2,m3⟩:=ro8.2 i _ _ (zG hi) er;have rok:=ok.rs _ him;have riU:=inU.2 _ him;refine⟨_,rfl,_,rfl,D,ys0,(i:Int),.ref tt,rfl,rfl,aAA eD8,dj (by rw [zG hi,ey]),?_⟩;refine⟨tt,_,rfl,aAB q1,rfl,?_⟩;refine⟨_,_,rfl,_,_,rfl,rfl,?_⟩;have aap:aa≠p:=fun z=>by
   obtain⟨o,ho,⟨x,y,rfl⟩⟩:=pl8;rw [z,ho] at q2;exact bK (aai q2).symm
  have bbp:bb≠p:=fun z=>by
   obtain⟨o,ho,⟨x,y,rfl⟩⟩:=pl8;rw [z,ho] at q3;exact bK (aai q3).symm
  have r4:=rok.l4;have r1:=rok.l1;have wl:h.2[i].2.length<=290:=by
   have:h.2[i].2.length<=(h.2.flatMap (·.2)).length:=by
    obtain⟨l1,l2,e⟩:=List.append_of_mem him;generalize h.2[i]=rm at *;rw [e,aa7,abb,zH,zH];lia
   lia
  have jS:CvI p a D aa bb v U h kC k way i c H true [some (.ref p),some v,some (.ref a),some (.ref D),some (.ref kC),some (.str k),some (.int way),some (.int ((i:Nat):Int)),some (.ref aa),some (.ref bb),none] H8 :=
   .mk ys0 h.2 c8 none rfl eD8 ro8 good0 (fun _=>⟨rfl,by lia⟩) pl8 (by lia) (by lia) b08 ea8 ⟨_,er,q2,q3⟩
  have put:∀ (ys:List V) (c':Int) (x10:Option V) (G:Hp) (la lb:Addr) (r':Rm),G D=some (.lst ys)->RoomsOff D G ys h.2->aK G p c'->c<=c'->c'<=c+5->But p H G->G a=some (.lst (h.1.map V.str))->(∃ r,h.2[i]? = some r/\G aa=some (.lst (r.1.map V.str))/\G bb=some (.lst (r.2.map V.str)))->G la=some (.lst (r'.1.map V.str))->G lb=some (.lst (r'.2.map V.str))->la≠D->lb≠D->iR r'->(∀ k∈r'.1,k∈U)->(∀ k∈r'.2,k∈U)->r'.2.length<=h.2[i].2.length+1->∀ T,G T=none->∃ j,ixN ys.length ((i:Nat):Int)=some j/\CvI p a D aa bb v U h kC k way i c H false [some (.ref p),some v,some (.ref a),some (.ref D),some (.ref kC),some (.str k),some (.int way),some (.int ((i:Nat):Int)),some (.ref aa),some (.ref bb),x10] (upd (upd G T (.tup [.ref la,.ref lb])) D (.lst (ys.set j (.ref T)))):=fun ys c' x10 G la lb r' hD ro plG h1 h2 bG hA ⟨r,e1,e2,e3⟩ ela elb nla nlb okr u1 u2 ll T nT=>by
   have yl':=ro.1;refine⟨i,oE (by lia),?_⟩;have sT:Same G (upd G T (.tup [.ref la,.ref lb])):=ar nT;have eT:(upd G T (.tup [.ref la,.ref lb])) T=some (.tup [.ref la,.ref lb]):=af;have TD:T≠D:=fun z=>by rw [z,hD] at nT;cases nT
   have aD2:a≠D:=fun z=>by rw [z] at aD;exact aD rfl
   generalize upd G T (.tup [.ref la,.ref lb])=G1 at *;have on:∀ b u,b≠D->G1 b=some u->(upd G1 D (.lst (ys.set i (.ref T)))) b=some u:=fun b u n e=>by rw [ai n];exact e
   have ro1:RoomsOff D G1 ys h.2:=ro.on fun b u _ e=>sT _ _ e;have aaD:aa≠D:=m2;have bbD:bb≠D:=m3;refine .mk _ _ c' x10 rfl af ((ro1.set ⟨T,la,lb,rfl,eT,sT _ _ ela,sT _ _ elb,TD,nla,nlb⟩).on on) (good0.set er okr u1 u2 ll) (fun z=>by cases z) ?_ h1 h2 (fun b u nb e=>?_) (on _ _ aD2 (sT _ _ hA)) ⟨r,e1,on _ _ aaD (sT _ _ e2),on _ _ bbD (sT _ _ e3)⟩
   ·obtain⟨o,ho,ip⟩:=aI plG sT;exact⟨o,by rw [ai (aaA Dp)];exact ho,ip⟩
   ·have nb2:b≠D:=fun z=>by rw [z,nD] at e;cases e
    exact on _ _ nb2 (sT _ _ (bG _ _ nb e))
  have mo:∀ {b b':Bool} {σ:L2.St} {G:Hp},(b'=true->b=true)->CvI p a D aa bb v U h kC k way i c H b σ G->CvI p a D aa bb v U h kC k way i c H b' σ G:=fun le ⟨ys,rs,c',x10,e,hD,ro,gr,of_,plG,h1,h2,bG,hA,hr⟩=>.mk ys rs c' x10 e hD ro gr (fun z=>of_ (le z)) plG h1 h2 bG hA hr;have sub:∀ {ys:List V} {rs:List Rm},RoomsOff D H8 ys rs->True:=fun _=>trivial;clear sub s7 ho7 ip7 ip8 b8 w2 ne hn0 r80 r81;refine⟨CvI p a D aa bb v U h kC k way i c H (decide (way≠2)),?_,?_⟩;rotate_left
  ·refine⟨_,rfl,rfl,_,rfl,?_⟩;by_cases hw:way=2
   ·subst hw;rw [aaw rfl];refine hV ?_;refine⟨_,rfl,1,rfl,aa,_,rfl,aAA q2,fun x1 n1=>?_⟩;have s1':Same H8 (upd H8 x1 (.lst (qM (h.2[i].1.map V.str) (some 1) none))):=ar n1;have e1:(upd H8 x1 (.lst (qM (h.2[i].1.map V.str) (some 1) none))) x1=some (.lst ((h.2[i].1.drop 1).map V.str)):=by rw [af,sU,List.map_drop]
    generalize upd H8 x1 (.lst (qM (h.2[i].1.map V.str) (some 1) none))=H9 at *;refine⟨_,rfl,by show 1<=sizeLine;lia,fun x2 n2=>?_⟩;have s2':Same H9 (upd H9 x2 (.lst [.str k])):=ar n2;have e2:(upd H9 x2 (.lst [.str k])) x2=some (.lst [.str k]):=af;generalize upd H9 x2 (.lst [.str k])=HA at *;refine⟨x1,x2,_,_,rfl,rfl,s2' _ _ e1,e2,by rw [zL,aaR];show _+1<=_;lia,fun x3 n3=>?_⟩;have s3':Same HA (upd HA x3 (.lst ((h.2[i].1.drop 1).map V.str++[.str k]))):=ar n3;have e3:(upd HA x3 (.lst ((h.2[i].1.drop 1).map V.str++[.str k]))) x3=some (.lst ((h.2[i].1.drop 1++[k]).map V.str)):=by rw [af,m8]
    generalize upd HA x3 (.lst ((h.2[i].1.drop 1).map V.str++[.str k]))=HB at *;refine⟨x3,_,rfl,aAA e3,by rw [zH,aaR];show _+1<=_;lia,fun x4 ss n4 pm so=>?_⟩;have s4':Same HB (upd HB x4 (.lst (ss.map V.str))):=ar n4;have e4:(upd HB x4 (.lst (ss.map V.str))) x4=some (.lst (ss.map V.str)):=af;generalize upd HB x4 (.lst (ss.map V.str))=HC at *;have s8C:=((s1'.trans s2').trans s3').trans s4';refine⟨_,rfl,by show 2<=sizeLine;lia,fun T nT=>?_⟩;have x4D:x4≠D:=fun z=>by rw [z,((s1'.trans s2').trans s3') _ _ eD8] at n4;cases n4
    have ssl:=pm.length_eq;rw [zH,aaR] at ssl;have ssl:ss.length=h.2[i].1.length:=by
     have:[k].length=1:=rfl;lia
    have ssU:∀ z∈ss,z∈U:=fun z hz=>by
     rcases zS.mp (pm.mem_iff.mp hz) with hz | hz
     ·exact riU.1 z (aaP hz)
     ·rw [zQ] at hz;rw [hz];exact hkU
    obtain⟨j,ej,cv⟩:=put ys0 c8 none HC x4 bb (ss,h.2[i].2) (s8C _ _ eD8) (ro8.on fun b u _ e=>s8C _ _ e) (aI pl8 s8C) (by lia) (by lia) (b08.trans (bq s8C)) (s8C _ _ ea8) ⟨_,er,s8C _ _ q2,s8C _ _ q3⟩ e4 (s8C _ _ q3) x4D m3 ⟨fun z hz=>KU.kk z (ssU z hz),by show 1<=ss.length;lia,by show ss.length<=4;lia,aL so,rok.kk,rok.kl⟩ ssU riU.2 (aa6 _) T nT;have sT:Same HC (upd HC T (.tup [.ref x4,.ref bb])):=ar nT;exact⟨_,rfl,_,rfl,D,ys0,_,j,rfl,rfl,sT _ _ (s8C _ _ eD8),ej,mo (fun z=>by simp at z) cv⟩
   ·rw [show decide (V.int way=V.int 2)=false from aah fun z=>hw (by injection z)];exact dR (mo (fun _=>rfl) jS)
  rintro σ H9 cv;refine⟨CvI p a D aa bb v U h kC k way i c H (decide (way≠2/\way≠3)),?_,?_⟩;rotate_left
  ·obtain⟨ys,rs,c',x10,rfl,hD,ro,gr,of_,plG,h1,h2,bG,hA,hr'⟩:=id cv;refine⟨_,rfl,rfl,_,rfl,?_⟩;by_cases hw:way=3
   ·subst hw;rw [aaw rfl];obtain⟨ers,c3⟩:=of_ (by decide);subst ers;refine hV ⟨_,rfl,?_⟩;obtain⟨r,er',ea',eb'⟩:=hr';rw [er] at er';cases er';refine lV (i:=9) (j:=5) (p:=p) (a:=bb) (l:=h.2[i].2) (k:=k) (c:=c') rfl rfl rfl eb' (by lia) plG (by lia) (by lia) fun y l' c7 HA el ny ey pl7 g9 gA b7=>⟨by show 2<=sizeLine;lia,fun T nT=>?_⟩;have hDA:=b7 _ _ Dp hD;have yD:y≠D:=fun z=>by rw [z,hD] at ny;cases ny
    have lU:∀ z∈l',z∈U:=fun z hz=>by
     rcases el with e | e
     ·rw [e] at hz;rcases zS.mp hz with hz | hz
      ·exact riU.2 z hz
      ·rw [zQ] at hz;rw [hz];exact hkU
     ·rw [e] at hz;exact riU.2 z (aaP hz)
    have ll:l'.length<=h.2[i].2.length+1:=by
     rcases el with e | e
     ·rw [e,zH];exact zP _
     ·rw [e,aaR];lia
    obtain⟨j,ej,cv2⟩:=put ys c7 x10 HA aa y (h.2[i].1,l') hDA (ro.but plG b7) pl7 (by lia) (by lia) (bG.trans b7) (b7 _ _ ap hA) ⟨_,er,b7 _ _ aap ea',b7 _ _ bbp eb'⟩ (b7 _ _ aap ea') ey m2 yD ⟨rok.lk,rok.l1,rok.l4,rok.so,fun z hz=>KU.kk z (lU z hz),by show l'.length<=1000;lia⟩ riU.1 lU ll T nT;have sT:Same HA (upd HA T (.tup [.ref aa,.ref y])):=ar nT;exact⟨_,rfl,_,rfl,D,ys,_,j,rfl,rfl,sT _ _ hDA,ej,mo (fun z=>by simp at z) cv2⟩
   ·rw [show decide (V.int way=V.int 3)=false from aah fun z=>hw (by injection z)];exact dR (mo (fun z=>by simp at z ⊢;exact z.1) cv)
  clear cv;rintro σ HA cv;refine⟨CvI p a D aa bb v U h kC k way i c H (decide (way≠2/\way≠3/\way≠4)),?_,?_⟩;rotate_left
  ·obtain⟨ys,rs,c',x10,rfl,hD,ro,gr,of_,plG,h1,h2,bG,hA,hr'⟩:=id cv;refine⟨_,rfl,rfl,_,rfl,?_⟩;by_cases hw:way=4
   ·subst hw;rw [aaw rfl];obtain⟨ers,c3⟩:=of_ (by decide);subst ers;have yl':=ro.1;obtain⟨r,er',ea',eb'⟩:=hr';obtain⟨o,ho,ip⟩:=plG;refine hV ⟨_,rfl,_,rfl,D,_,rfl,.inl (aAA hD),p,((ys.length:Nat):Int),c',o,rfl,ho,ip,by lia,by lia,by lia,by lia,fun rt cB oB t0 t1 gB gC ipB=>?_⟩;have bB:But p HA (upd HA p oB):=fun b y n e=>by rw [ai n];exact e
    have plB:aK (upd HA p oB) p cB:=⟨oB,af,ipB⟩;generalize upd HA p oB=HB at *;have hDB:=bB _ _ Dp hD;obtain⟨to,rfl⟩:∃ j:Nat,rt=(j:Int):=⟨rt.toNat,by lia⟩;have hto:to < ys.length:=by lia
    have roB:RoomsOff D HB ys h.2:=ro.but ⟨o,ho,ip⟩ bB;obtain⟨T2,la,lb,ey2,w1',w2',w3',n1',n2',n3'⟩:=roB.2 to _ _ (zG hto) (zG (show to < h.2.length by lia));refine⟨_,rfl,_,rfl,D,ys,_,ys[to],rfl,rfl,aAA hDB,dj (zG hto),_,rfl,_,rfl,D,ys,_,i,rfl,rfl,hDB,oE (by lia),?_⟩;have onB:∀ b u,b≠D->HB b=some u->(upd HB D (.lst (ys.set i ys[to]))) b=some u:=fun b u n e=>by rw [ai n];exact e
    have hDC:(upd HB D (.lst (ys.set i ys[to]))) D=some (.lst (ys.set i ys[to])):=af;have roC:RoomsOff D (upd HB D (.lst (ys.set i ys[to]))) (ys.set i ys[to]) (h.2.set i (h.2[to]'(by lia))):=(roB.set (roB.2 to _ _ (zG hto) (zG (show to < h.2.length by lia)))).on onB;have plC:aK (upd HB D (.lst (ys.set i ys[to]))) p cB:=by
     obtain⟨o',ho',ip'⟩:=plB;exact⟨o',onB _ _ (aaA Dp) ho',ip'⟩
    have aC:=onB _ _ aD (bB _ _ ap hA);have aaC:=onB _ _ m2 (bB _ _ aap ea');have bbC:=onB _ _ m3 (bB _ _ bbp eb');have bC:But p H (upd HB D (.lst (ys.set i ys[to]))):=fun b u nb e=>onB _ _ (fun z=>by rw [z,nD] at e;cases e) (bB _ _ nb (bG _ _ nb e));generalize upd HB D (.lst (ys.set i ys[to]))=HC at *;refine⟨_,rfl,_,rfl,by show 2<=sizeLine;lia,fun T nT=>?_⟩;have sT:Same HC (upd HC T (.tup [.ref aa,.ref bb])):=ar nT;have eT:(upd HC T (.tup [.ref aa,.ref bb])) T=some (.tup [.ref aa,.ref bb]):=af;have TD:T≠D:=fun z=>by rw [z,hDC] at nT;cases nT
    refine⟨_,rfl,_,rfl,D,ys.set i ys[to],_,to,rfl,rfl,sT _ _ hDC,oE (by rw [abX];exact hto),?_⟩;generalize upd HC T (.tup [.ref aa,.ref bb])=HE at *;have on:∀ b u,b≠D->HE b=some u->(upd HE D (.lst ((ys.set i ys[to]).set to (.ref T)))) b=some u:=fun b u n e=>by rw [ai n];exact e
    rw [er] at er';cases er';have eto:(h.2.set i (h.2[to]'(by lia)))[to]? = some (h.2[to]'(by lia)):=by
     rw [List.getElem?_set];split
     ·rename_i e;subst e
      first | rfl | rw [if_pos (by lia)]
     ·exact zG _
    have roE:=((roC.on fun b u _ e=>sT _ _ e).set (i:=to) (v:=.ref T) (r:=h.2[i]) ⟨T,aa,bb,rfl,eT,sT _ _ aaC,sT _ _ bbC,TD,m2,m3⟩).on on;refine .mk _ _ cB _ rfl af roE ⟨fun x hx=>?_,by rw [abX,abX];exact zP _,?_⟩ (fun z=>by simp at z) ?_ (by lia) (by lia) (fun b u nb e=>on _ _ (fun z=>by rw [z,nD] at e;cases e) (sT _ _ (bC _ _ nb e))) (on _ _ aD (sT _ _ aC)) ⟨_,er,on _ _ m2 (sT _ _ aaC),on _ _ m3 (sT _ _ bbC)⟩
    ·rcases abQ hx with hx | hx
     ·rcases abQ hx with hx | hx
      ·exact good0.ok x hx
      ·rw [hx];exact good0.ok _ (aak _)
     ·rw [hx];exact good0.ok _ him
    ·have f1:=iL (g:=(·.2)) (r':=h.2[to]'(by lia)) er;have f2:=iL (g:=(·.2)) (r':=h.2[i]) eto;lia
    ·obtain⟨o',ho',ip'⟩:=aI plC sT;exact⟨o',on _ _ (aaA Dp) ho',ip'⟩
   ·rw [show decide (V.int way=V.int 4)=false from aah fun z=>hw (by injection z)];exact dR (mo (fun z=>by simp at z ⊢;exact⟨z.1,z.2.1⟩) cv)
  clear cv;rintro σ HB cv;refine⟨CvI p a D aa bb v U h kC k way i c H false,?_,?_⟩;rotate_left
  ·obtain⟨ys,rs,c',x10,rfl,hD,ro,gr,of_,plG,h1,h2,bG,hA,hr'⟩:=id cv;refine⟨_,rfl,rfl,_,rfl,?_⟩;by_cases hw:way=5
   ·subst hw;rw [aaw rfl];obtain⟨ers,c3⟩:=of_ (by decide);subst ers;have yl':=ro.1;have hii:i < ys.length:=by lia
    have p63:(2:Int) ^ 63=9223372036854775808:=by decide
    refine hV ⟨_,rfl,.inl ⟨rfl,_,aAA hD⟩,_,rfl,D,ys,(i:Int),i,ys[i],rfl,rfl,hD,by lia,by lia,(adM (aeb i) (by lia)).trans (by simp),zG hii,?_⟩;have on:∀ b u,b≠D->HB b=some u->(upd HB D (.lst (ys.eraseIdx i))) b=some u:=fun b u n e=>by rw [ai n];exact e
    obtain⟨r,er',ea',eb'⟩:=hr';refine .mk _ (h.2.eraseIdx i) c' x10 rfl af ((ro.erase).on on) ⟨fun x hx=>good0.ok x (List.mem_of_mem_eraseIdx hx),List.length_eraseIdx_le _ _,by have:=p4 (g:=(·.2)) (rs:=h.2) (i:=i);lia⟩ (fun z=>by cases z) ?_ h1 h2 (fun b u nb e=>on _ _ (fun z=>by rw [z,nD] at e;cases e) (bG _ _ nb e)) (on _ _ aD hA) ⟨r,er',on _ _ m2 ea',on _ _ m3 eb'⟩;obtain⟨o',ho',ip'⟩:=plG;exact⟨o',on _ _ (aaA Dp) ho',ip'⟩
   ·rw [show decide (V.int way=V.int 5)=false from aah fun z=>hw (by injection z)];exact dR (mo (fun z=>by cases z) cv)
  ·rintro σ HC ⟨ys,rs,c',x10,rfl,hD,ro,gr,of_,plG,h1,h2,bG,hA,hr'⟩;have sm:=gr.sum;exact⟨_,rfl,_,rfl,fin a h.1 ys rs c' HC hA hD ro inU.1 gr (by lia) plG h1 (by lia) bG⟩
def OrdsZ (H:Hp)(ys:List V)(ls:List (List Int)):Prop:=ys.length=ls.length/\∀ (j:Nat) y l,ys[j]? = some y->ls[j]? = some l->∃ b:Addr,y=.ref b/\H b=some (.lst (l.map V.int))
theorem OrdsZ.same {H H':Hp}{ys:List V}{ls:List (List Int)}(a:OrdsZ H ys ls)(s:Same H H'):OrdsZ H' ys ls:=⟨a.1,fun j y o e1 e2=>let ⟨b,e,h⟩:=a.2 j y o e1 e2;⟨b,e,s _ _ h⟩⟩
abbrev fz (ns:List Int):List PyData:=ns.map PyData.int
theorem mU:∀ ns:List Int,PyData.canLayAll0 (fz ns)=true
 | []=>rfl
 | n::ns=>by rw [fz,z4];simp only [PyData.canLayAll0,PyData.canLay0,ada];exact mU ns
theorem jm:∀ ns:List Int,PyData.depthAll (fz ns)=0
 | []=>rfl
 | n::ns=>by
  rw [fz,z4];have:=jm ns;unfold fz at this;simp only [PyData.depthAll,PyData.depth,this]
  rfl
theorem mY:∀ a b:List Int,PyData.eqvAll (fz a) (fz b)=true↔a=b
 | [],[]=>by simp [PyData.eqvAll]
 | [],y::b=>by simp [PyData.eqvAll]
 | x::a,[]=>by simp [PyData.eqvAll]
 | x::a,y::b=>by
  have:=mY a b;unfold fz at this ⊢;simp only [z4,PyData.eqvAll,PyData.eqv,aa8,this,acC,aag]
theorem jX {H:Hp}:∀ ns:List Int,SeesAll H (ns.map V.int) (fz ns)
 | []=>.nil
 | n::ns=>.cons (.int _) (jX ns)
theorem iA {H:Hp}{vs:List V}{ls:List (List Int)}(o:OrdsZ H vs ls):SeesAll H vs (ls.map fun l=>.list (fz l)):=by
 obtain⟨e,h⟩:=o
 revert e h
 induction vs generalizing ls with
 | nil=>intro e h;cases ls with
  | nil=>exact .nil
  | cons l ls=>cases e
 | cons v vs ih=>intro e h;cases ls with
  | nil=>cases e
  | cons l ls =>
   obtain⟨a,rfl,ha⟩:=h 0 v l rfl rfl;exact .cons (.lst ha (jX l)) (ih (by simpa using e) fun i v' l' p q=>h (i+1) v' l' p q)
theorem gm:∀ ls:List (List Int),PyData.canLayAll0 (ls.map fun l=>.list (fz l))=true
 | []=>rfl
 | l::ls=>by rw [z4];simp only [PyData.canLayAll0,PyData.canLay0,mU,ada];exact gm ls
theorem gK:∀ ls:List (List Int),PyData.depthAll (ls.map fun l=>.list (fz l))<=1
 | []=>by simp only [adB,PyData.depthAll];decide
 | l::ls=>by
  have:=gK ls;rw [z4];simp only [PyData.depthAll,PyData.depth,jm];lia
theorem jb:∀ ls us:List (List Int),PyData.eqvAll (ls.map fun l=>.list (fz l)) (us.map fun l=>.list (fz l))=true↔ls=us
 | [],[]=>by simp [PyData.eqvAll]
 | [],y::b=>by simp [PyData.eqvAll]
 | x::a,[]=>by simp [PyData.eqvAll]
 | x::a,y::b=>by
  have:=jb a b;simp only [z4,PyData.eqvAll,PyData.eqv,aa8,this,acC,mY]
theorem kz {A:Around}{neg:Bool}{H:Hp}{x y:Addr}{vs us:List V}{ls ms:List (List Int)}{Q:VK}(hx:H x=some (.lst vs))(hy:H y=some (.lst us))(a:OrdsZ H vs ls)(b:OrdsZ H us ms)(hu:A.units+2 < cLine)(q:Q (.bl (if neg then !decide (ls=ms) else decide (ls=ms))) H):vE A neg (.ref x) (.ref y) H Q:=by
 have d:(PyData.list (ls.map fun l=>.list (fz l))).depth<=2:=by have:=gK ls;simp only [PyData.depth];lia
 refine⟨_,_,.lst hx (iA a),.lst hy (iA b),by simp only [PyData.canLay0,gm],by simp only [PyData.canLay0,gm],aaj (aaE (aas (ac8 _ _) d) _) hu,?_⟩;have e:PyData.eqv (.list (ls.map fun l=>.list (fz l))) (.list (ms.map fun l=>.list (fz l)))=decide (ls=ms):=by
  simp only [PyData.eqv];rw [acW,ac9];exact jb ls ms
 rw [e];exact q
theorem pT {K:PySem.W.Frag}{σ:L2.St}{G:Hp}{M D:Addr}{vs:List V}{A:List (List Int×Str)}{Q:VK}(hM:G M=some (.lst vs))(pA:PairsAt G vs A)(nD:G D=none)(vl:vs.length<=1000)
 (k:∀ zs G',G' D=some (.lst zs)->Same G G'->OrdsZ G' zs (A.map (·.1))->Q (.ref D) G'):kL 2 [] (qN K 2 (fc (dG 0) (fc (dG 1) rq))) qD (ik 0) σ (Itl K M) G D Q:=by
 have lim:1001 < sizeLine:=by decide
 have al:=pA.1;refine eA (xs:=vs) (fun i ys H=>ys.length=i/\i<=vs.length/\H D=some (.lst ys)/\Same G H/\∀ (j:Nat) y,ys[j]? = some y->∃ (p:List Int×Str) (b:Addr),A[j]? = some p/\y=.ref b/\G b=some (.lst (p.1.map V.int)))
  ⟨rfl,zZ _,af,ar nD,fun j y e=>by simp at e⟩ (fun i ys H z=>z.2.2.1) (fun i ys H z=>aAA (z.2.2.2.1 _ _ hM)) ?_ ?_
 ·rintro i ys H x hx ⟨yl,il,eD,s,at_⟩;have hi:=(zJ.mp hx).1;obtain⟨p,T,b,ep,rfl,hT,hb⟩:=pA.get hx;refine md T _ _ rfl (aAB (s _ _ hT)) rfl ?_;unfold qD;dsimp only;rw [if_pos rfl];refine⟨_,rfl,eD,by lia,nx hi ⟨by rw [zH,yl];rfl,hi,af,fun c u e=>?_,fun j y e=>?_⟩⟩
  ·rw [ai (ag e nD)];exact s _ _ e
  ·by_cases hj:j < ys.length
   ·rw [aav hj] at e;exact at_ j y e
   ·have hj2:=(zJ.mp e).1;rw [zH,aa2] at hj2;have ej:j=ys.length:=by lia
    subst ej;rw [aae (zP _),abD] at e;cases e;exact⟨p,b,by rw [yl];exact ep,rfl,hb⟩
 ·rintro ys H ⟨yl,_,eD,s,at_⟩;refine k ys H eD s ⟨by rw [zL];lia,fun j y l e1 e2=>?_⟩;obtain⟨p,b,e3,rfl,hb⟩:=at_ j y e1;rw [zT,e3] at e2;cases e2;exact⟨b,rfl,s _ _ hb⟩
theorem qr {kvs:List (Key×V)}{k:Key}(h:k ∉ kvs.map (·.1)):dw kvs k=none:=by
 cases e:dw kvs k with
 | none=>rfl
 | some v=>exact absurd (abK (f:=(·.1)) (oR e)) h
theorem t9 {K:PySem.W.Frag}{σ:L2.St}{G:Hp}{M N D:Addr}{vs ws:List V}{A B:List (List Int×Str)}{Q:VK}(hM:G M=some (.lst vs))(hN:G N=some (.lst ws))(pA:PairsAt G vs A)(pB:PairsAt G ws B)(nD:G D=none)(vl:vs.length<=1000)(vw:vs.length=ws.length)(nd:(A.map (·.2)).Nodup)
 (k:∀ G',G' D=some (.dK (cu (A.map (·.2)) (B.map (·.2))))->Same G G'->Q (.ref D) G'):pE 4 [] (qN K 2 (fc (qN K 2 (fc (dG 0) (fc (dG 1) rq))) (fc (qN K 2 (fc (dG 2) (fc (dG 3) rq))) rq))) qD (ik 1) (ik 3) σ (ItZ K M N) G D Q:=by
 have lim:1001 < sizeLine:=by decide
 have al:=pA.1;have bl:=pB.1;have zl:(cu (A.map (·.2)) (B.map (·.2))).length=vs.length:=by
  unfold cu;rw [zL,ae5,zL,zL];lia
 refine rD (xs:=vs) (ys:=ws) (fun i kvs H=>kvs=(cu (A.map (·.2)) (B.map (·.2))).take i/\i<=vs.length/\H D=some (.dK kvs)/\Same G H) vw ⟨rfl,zZ _,af,ar nD⟩ (fun i ys H z=>z.2.2.1) (fun i ys H z=>⟨aAA (z.2.2.2 _ _ hM),aAA (z.2.2.2 _ _ hN)⟩) ?_ ?_
 ·rintro i kvs H x y T hx hy ⟨rfl,il,eD,s⟩ nT;have hi:=(zJ.mp hx).1;obtain⟨p,T1,b1,ep,rfl,hT1,_⟩:=pA.get hx;obtain⟨q,T2,b2,eq,rfl,hT2,_⟩:=pB.get hy;have sT:Same H (upd H T (.tup [.ref T1,.ref T2])):=ar nT;have eT:(upd H T (.tup [.ref T1,.ref T2])) T=some (.tup [.ref T1,.ref T2]):=af;generalize upd H T (.tup [.ref T1,.ref T2])=H1 at *;have s1:=s.trans sT;unfold gM qN fc dG rq qD;refine⟨T,_,rfl,aAB eT,rfl,.ref T1,[.ref T2],rfl,T1,_,rfl,aAB (s1 _ _ hT1),rfl,_,_,rfl,_,_,rfl,rfl,.ref T2,[],rfl,T2,_,rfl,aAB (s1 _ _ hT2),rfl,_,_,rfl,_,_,rfl,rfl,rfl,⟨rfl,rfl⟩,?_⟩;dsimp only;rw [if_pos rfl];have ez:(cu (A.map (·.2)) (B.map (·.2)))[i]? = some (Sum.inr p.2,V.str q.2):=by
   unfold cu;rw [zT,(aei (z:=(p.2,q.2))).mpr ⟨by rw [zT,ep];rfl,by rw [zT,eq];rfl⟩]
   rfl
  have nv:dw ((cu (A.map (·.2)) (B.map (·.2))).take i) (.inr p.2)=none:=by
   refine qr fun z=>?_;obtain⟨⟨k0,v0⟩,hm,e0⟩:=aaJ.mp z;obtain⟨j,hj,ej⟩:=ace hm;rw [aad] at hj;rw [adt] at ej;have e1:(cu (A.map (·.2)) (B.map (·.2)))[j]? = some (k0,v0):=by rw [zG (by lia),ej]
   unfold cu at e1;rw [zT] at e1;obtain⟨⟨a1,a2⟩,e2,e3⟩:=acr.mp e1;have e4:=(aei.mp e2).1;have e5:a1=p.2:=by
    injection e3 with e3 _
    rw [← e3] at e0;injection e0
   have e6:(A.map (·.2))[i]? = some p.2:=by rw [zT,ep];rfl
   have:=(List.getElem?_inj (by rw [zL];lia) nd).mp (e4.trans (e5▸e6.symm));lia
  refine⟨_,rfl,_,rfl,.inr p.2,rfl,sT _ _ eD,by rw [aad];lia,nx hi ⟨?_,hi,af,fun c u e=>?_⟩⟩
  ·rw [pd _ nv,aaS,ez]
   rfl
  ·rw [ai (ag e nD)];exact s1 _ _ e
 ·rintro kvs H ⟨rfl,_,eD,s⟩;rw [aau (by lia)] at eD;exact k H eD s
theorem gQ {A:Around}{H:Hp}{x y:Addr}{ss:List Str}{Q:VK}(hx:H x=some (.lst (ss.map V.str)))(hy:H y=some (.lst (ss.map V.str)))(kk:∀ k∈ss,bo k)(hu:A.units+1 < cLine)(q:Q (.bl false) H):vE A true (.ref x) (.ref y) H Q:=by
 have lay:=de kk;have d1:(PyData.list (ss.map PyData.str)).depth<=1:=by simp only [PyData.depth,dv];decide
 refine⟨.list (ss.map PyData.str),.list (ss.map PyData.str),.lst hx (SeesAll.strs _),.lst hy (SeesAll.strs _),by simp only [PyData.canLay0,lay],by simp only [PyData.canLay0,lay],aaj (aaE (aas (ac8 _ _) d1) _) hu,?_⟩;rw [show (if true=true then !PyData.eqv (.list (ss.map PyData.str)) (.list (ss.map PyData.str)) else PyData.eqv (.list (ss.map PyData.str)) (.list (ss.map PyData.str)))=false by simp only [PyData.eqv,gy];rfl];exact q
def kY (h:Hs)(k:Str)(i:Nat):List Int:=((h.1.count k:Nat):Int)::ko k (h.2.take i)
theorem mC (k:Str)(r:Rm):∀ rs:List Rm,ko k (rs++[r])=ko k rs++[((r.1.count k:Nat):Int),((r.2.count k:Nat):Int)]
 | []=>rfl
 | q::rs=>by
  show _::_::ko k (rs++[r])=_::_::(ko k rs++_);rw [mC k r rs]
theorem pG (k:Str):∀ rs:List Rm,(ko k rs).length=2 * rs.length
 | []=>rfl
 | q::rs=>by
  show (ko k rs).length+1+1=_;rw [pG k rs,aaq];lia
def mZ:Sp:=fun vs H Q _=>∃ (v:V) (h:Hs),vs=[v]/\HouseAt H v h/\aM h/\FewU 63 h/\∀ (l:Addr) (ys:List V) (R:List (List Int)) (ks:List Str) (H':Hp),Same H H'->H l=none->H' l=some (.lst ys)->OrdsZ H' ys R->cN h ks->R.Perm (ks.map (row h))->(R.Pairwise fun a b=>¬ b < a)->R.length<=63->Q (.ref l) H'
inductive RwI (t fd:Addr)(h:Hs)(ks:List Str)(H:Hp)(i:Nat)(σ:L2.St)(H':Hp):Prop
 | mk (ys:List V) (x2 x3 x4 x5:Option V):σ=[some (.ref t),some (.ref fd),x2,x3,x4,x5]->H' fd=some (.lst ys)->ys.length=i->(∀ (j:Nat) y k,ys[j]? = some y->ks[j]? = some k->∃ b:Addr,y=.ref b/\b≠fd/\H' b=some (.lst ((row h k).map V.int)))->Same H H'->RwI t fd h ks H i σ H'
inductive RxI (t fd:Addr)(h:Hs)(k:Str)(H:Hp)(i:Nat)(σ:L2.St)(H':Hp):Prop
 | mk (b:Addr) (x4 x5:Option V):σ=[some (.ref t),some (.ref fd),some (.str k),some (.ref b),x4,x5]->H' b=some (.lst ((kY h k i).map V.int))->b≠fd->Same H H'->RxI t fd h k H i σ H'
theorem bZ:br ["house","found","kind","row","locks","keys"] ["house"] (ao bY):=scM rfl rfl rfl rfl (by decide +kernel)
theorem vQ {f:Addr}{fd:FuncData}(F:Fun K "_law_rows" "_law_rows" bY f fd){f__law_kinds_in:Addr}{fd__law_kinds_in:FuncData}(bf:bO P w K mg base CX0 1 f__law_kinds_in fd__law_kinds_in ["house"] qE)(aG:Cal K mg "_law_kinds_in" ["house"] f__law_kinds_in fd__law_kinds_in)(aN:mg "sorted" = none):bO P w K mg base CX0 2 f fd ["house"] mZ:=by
 refine F.ok bZ (fun vs H Q E h=>?_) (fun cdv A outer s H vs Q E hr h=>?_)
 ·obtain⟨v,h,rfl,_⟩:=h
  rfl
 ·have hu:=iH hr;have deep:(A.deeper (envOfC "_law_rows" (ao bY) s.heap.objs.size f cdv)).units+4 < cLine:=aaj (aaE (by decide:4<=64) _) hr.units;obtain⟨v,h,rfl,hh,ok,few,q⟩:=h;have hh0:=hh;obtain⟨t,a,r,us,rfl,ht,ha,hrr,hR⟩:=hh;have ul:=hR.1;have rl:=few.rl;have lim:1276<=sizeLine:=by decide
  refine⟨_,(aj (aF (i:=1) bZ.nd rfl (.inl rfl) jL)
   (aj (bF (dJ aaN rfl (bN (pcl bf aG hr rfl (ae (pv 0) ah))) (ay (i:=2) bZ.nd rfl (.inl rfl))
    (aj (aF (i:=3) bZ.nd rfl (.inl rfl) (bU (ae (fb aam adi adj lC (bj cx (pv 0) aq (fun _ _=>rfl)) (ae (pv 2) ah)) ah)))
    (aj (bF (dJ aaN rfl (bN (bj cx (pv 0) aq (fun _ _=>rfl))) (fi rfl (az (ay (i:=4) bZ.nd rfl (.inl rfl)) (az (ay (i:=5) bZ.nd rfl (.inl rfl)) bQ)))
     (av (aF (i:=3) bZ.nd rfl (.inl rfl) (aY i6 (pv 3) (bU (ae (fb aam adi adj lC (pv 4) (ae (pv 2) ah)) (ae (fb aam adi adj lC (pv 5) (ae (pv 2) ah)) ah))))))))
    (av (cW (fb aam aa0 aa1 cO (pv 1) (ae (pv 3) ah))))))))
   (av (bt (aw ly rfl aN abu (ae (pv 1) ah)))))),?_⟩
  refine⟨zZ _,fun fd0 nf=>?_⟩;have s1:Same H (upd H fd0 (.lst [])):=ar nf;have e1:(upd H fd0 (.lst [])) fd0=some (.lst []):=af;generalize upd H fd0 (.lst [])=H1 at *;refine⟨fun σ H'=>∃ ks,cN h ks/\ks.length < 64/\RwI t fd0 h ks H ks.length σ H',?_,?_⟩
  ·rintro σ H2 ⟨ks,L,kl,⟨ys,x2,x3,x4,x5,rfl,eF,yl,at_,s2⟩⟩;have refs:∀ v∈ys,∃ (b:Addr) (ns:List Int),v=.ref b/\H2 b=some (.lst (ns.map V.int)):=fun v hv=>by
    obtain⟨j,hj⟩:=acG hv;have h1:=(zJ.mp hj).1;obtain⟨b,e,_,hb⟩:=at_ j v _ hj (zG (by lia));exact⟨b,_,e,hb⟩
   have em:ys.map (iu H2)=ks.map (row h):=by
    refine ab1 fun j=>?_;rw [zT,zT];by_cases hj:j < ys.length
    ·obtain⟨b,e,_,hb⟩:=at_ j _ _ (zG hj) (zG (show j < ks.length by lia));rw [zG hj,zG (show j < ks.length by lia),e];show some (iu H2 (.ref b))=some _;rw [gW hb]
    ·rw [abn (by lia),abn (by lia)]
     rfl
   refine⟨_,rfl,fd0,ys,rfl,aAA eF,by lia,deep,refs,fun l vs' nl pm so=>?_⟩;have sl:Same H2 (upd H2 l (.lst vs')):=ar nl;refine q l vs' (vs'.map (iu H2)) ks _ (s2.trans sl) (s2.free nl) af ⟨(zL _).symm,fun j y o e1 e2=>?_⟩ L (em▸pm.map _) so (by rw [zL,pm.length_eq];lia);rw [zT,e1] at e2;cases e2;obtain⟨b,ns,rfl,hb⟩:=refs y (pm.mem_iff.mp (aac e1));exact⟨b,rfl,by rw [gW hb];exact sl _ _ hb⟩
  ·refine⟨_,rfl,.ref t,h,rfl,hh0.same s1,ok,few,fun kB ks H2 s2 nkB ekB L so kl=>⟨kB,rfl,⟨_,aAA ekB⟩,?_⟩⟩;have s02:=s1.trans s2;refine dN (xs:=ks.map V.str) (fun i σ' H'=>RwI t fd0 h ks H i σ' H'/\H' kB=some (.lst (ks.map V.str))) ⟨.mk [] none none none none rfl (s2 _ _ e1) rfl (fun j y k e=>by simp at e) s02,ekB⟩ (fun i σ H' _ ⟨_,e⟩=>aAA e) ?_ (fun σ H' z=>⟨ks,L,kl,by rw [zL] at z;exact z.1⟩);rintro i x σ H3 hx ⟨⟨ys,x2,x3,x4,x5,rfl,eF,yl,at_,s3⟩,ek3⟩;have hi:=(zJ.mp hx).1;rw [zL] at hi;rw [zT,zG hi] at hx;cases hx;refine⟨_,rfl,t,_,0,.ref a,rfl,rfl,aAB (s3 _ _ ht),rfl,.inl ⟨rfl,_,aAA (s3 _ _ ha)⟩,_,rfl,a,h.1,_,rfl,rfl,s3 _ _ ha,by show 1<=sizeLine;lia,fun b0 nb=>?_⟩;have s4:Same H3 (upd H3 b0 (.lst [.int ((h.1.count ks[i]:Nat):Int)])):=ar nb;have e4:(upd H3 b0 (.lst [.int ((h.1.count ks[i]:Nat):Int)])) b0=some (.lst ((kY h ks[i] 0).map V.int)):=by rw [af];rfl
   have nbf:b0≠fd0:=fun z=>by rw [z,eF] at nb;cases nb
   generalize upd H3 b0 (.lst [.int ((h.1.count ks[i]:Nat):Int)])=H4 at *;refine⟨fun σ H'=>RxI t fd0 h ks[i] H h.2.length σ H'/\Same H4 H',?_,?_⟩
   ·rintro σ H5 ⟨⟨b,y4,y5,rfl,eb,nbf,s5⟩,s45⟩;have s35:=s4.trans s45;have eF5:=s35 _ _ eF;have ek5:=s35 _ _ ek3;have er:kY h ks[i] h.2.length=row h ks[i]:=by unfold kY row;rw [aa9]
    rw [er] at eb;refine⟨_,rfl,.inl ⟨rfl,_,aAA eF5⟩,_,rfl,fd0,ys,_,rfl,rfl,eF5,by lia,⟨.mk (ys++[.ref b]) _ _ _ _ rfl af (by rw [zH,yl];rfl) (fun j y k e1 e2=>?_) (fun c u e=>by rw [ai (ag e nf)];exact s5 _ _ e),?_⟩⟩
    ·by_cases hj:j < ys.length
     ·rw [aav hj] at e1;obtain⟨b',e,n',hb⟩:=at_ j y k e1 e2;exact⟨b',e,n',by rw [ai n'];exact s35 _ _ hb⟩
     ·have hj2:=(zJ.mp e1).1;rw [zH,aa2] at hj2;have ej:j=ys.length:=by lia
      subst ej;rw [aae (zP _),abD] at e1;cases e1;rw [yl,zG hi] at e2;cases e2;exact⟨b,rfl,nbf,by rw [ai nbf];exact eb⟩
    ·rw [ai (fun z=>by rw [z,e1] at nkB;cases nkB)];exact ek5
   ·refine⟨_,rfl,t,_,1,.ref r,rfl,rfl,aAB ((s3.trans s4) _ _ ht),rfl,r,rfl,⟨_,aAA ((s3.trans s4) _ _ hrr)⟩,?_⟩;refine dN (xs:=us) (fun j σ' H'=>RxI t fd0 h ks[i] H j σ' H'/\Same H4 H') ⟨.mk b0 x4 x5 rfl e4 nbf (s3.trans s4),Same.refl _⟩ (fun j σ H' _ ⟨⟨_,_,_,_,_,_,s⟩,_⟩=>aAA (s _ _ hrr)) ?_ (fun σ H' z=>by rw [← ul];exact z);rintro j x σ H5 hx ⟨⟨b,y4,y5,rfl,eb,nbf5,s5⟩,s45⟩;have hj:j < h.2.length:=by rw [← ul];exact (zJ.mp hx).1
    have er:h.2[j]? = some h.2[j]:=zG hj;obtain⟨tt,aa,bb,rfl,q1,q2,q3⟩:=hR.2 j x _ hx er;refine⟨tt,_,rfl,aAB (s5 _ _ q1),rfl,?_⟩;refine⟨_,_,rfl,_,_,rfl,rfl,?_⟩;refine⟨_,rfl,_,rfl,.inl ⟨rfl,_,aAA (s5 _ _ q2)⟩,_,rfl,aa,h.2[j].1,_,rfl,rfl,s5 _ _ q2,?_⟩;refine⟨_,rfl,.inl ⟨rfl,_,aAA (s5 _ _ q3)⟩,_,rfl,bb,h.2[j].2,_,rfl,rfl,s5 _ _ q3,by show 2<=sizeLine;lia,fun l2 n2=>?_⟩;have s6:Same H5 (upd H5 l2 (.lst [.int ((h.2[j].1.count ks[i]:Nat):Int),.int ((h.2[j].2.count ks[i]:Nat):Int)])):=ar n2;have e6:(upd H5 l2 (.lst [.int ((h.2[j].1.count ks[i]:Nat):Int),.int ((h.2[j].2.count ks[i]:Nat):Int)])) l2=some (.lst [.int ((h.2[j].1.count ks[i]:Nat):Int),.int ((h.2[j].2.count ks[i]:Nat):Int)]):=af;generalize upd H5 l2 (.lst [.int ((h.2[j].1.count ks[i]:Nat):Int),.int ((h.2[j].2.count ks[i]:Nat):Int)])=H6 at *;have rtl:(kY h ks[i] j).length<=121:=by
     show (ko _ _).length+1<=_;rw [pG,aad];lia
    refine⟨b,l2,_,_,rfl,rfl,s6 _ _ eb,e6,by rw [zL];show _+2<=_;lia,fun l3 n3=>?_⟩;have s7:Same H6 (upd H6 l3 (.lst ((kY h ks[i] j).map V.int++[.int ((h.2[j].1.count ks[i]:Nat):Int),.int ((h.2[j].2.count ks[i]:Nat):Int)]))):=ar n3;refine⟨.mk l3 _ _ rfl ?_ (fun z=>?_) ((s5.trans s6).trans s7),(s45.trans s6).trans s7⟩
    ·rw [af];have:kY h ks[i] (j+1)=kY h ks[i] j++[((h.2[j].1.count ks[i]:Nat):Int),((h.2[j].2.count ks[i]:Nat):Int)]:=by
      unfold kY;rw [aaS,er,Option.toList,mC]
      rfl
     rw [this,aax]
     rfl
    ·rw [z,(s4.trans (s45.trans s6)) _ _ eF] at n3;cases n3
theorem oA:∀ {ks vs:List Str},ks.length=vs.length->(cu ks vs).map (·.1)=ks.map Sum.inr
 | [],[],_=>rfl
 | [],_::_,e=>absurd e (by simp)
 | _::_,[],e=>absurd e (by simp)
 | k::ks,v::vs,e=>by
  show _::(cu ks vs).map (·.1)=_::ks.map Sum.inr;rw [oA (by simpa using e)]
theorem sQ:∀ {ks vs:List Str},ks.length=vs.length->(cu ks vs).map (·.2)=vs.map V.str
 | [],[],_=>rfl
 | [],_::_,e=>absurd e (by simp)
 | _::_,[],e=>absurd e (by simp)
 | k::ks,v::vs,e=>by
  show _::(cu ks vs).map (·.2)=_::vs.map V.str;rw [sQ (by simpa using e)]
def nV:Sp:=fun vs H Q _=>∃ (d:Addr) (v u:V) (h g:Hs) (ka kb:List Str),vs=[.ref d,v,u]/\H d=some (.dK (cu ka kb))/\HouseAt H v h/\HouseAt H u g/\aM h/\aM g/\FewU 63 h/\FewU 63 g/\cN h ka/\cN g kb/\ka.length=kb.length/\tV (bM ka kb) h g/\∀ H',Same H H'->Q (.bl true) H'
theorem fC {σ:L2.St}{H:Hp}{tl:TE}{Q:VK}{d a:Addr}{ka kb l:List Str}(e0:σ[0]? = some (some (V.ref d)))(hd:H d=some (.dK (cu ka kb)))(ha:H a=some (.lst (l.map V.str)))(sub:∀ x∈l,x∈ka)(kl:ka.length=kb.length)(ll:l.length<=1000)(hi:∀ R:VK,R (.ref a) H->tl σ H R)
 (q:∀ (m:Addr) (ss:List Str) (H':Hp),Same H H'->H' m=some (.lst (ss.map V.str))->ss.Perm (l.map (bM ka kb))->ss.Pairwise leS->Q (.ref m) H'):tCB (fun xs H_1 Q=>∃ p ss,xs=[V.ref p]/\SqL K H_1 p (List.map V.str ss)/\ss.length<=sizeLine/\∀ (l:Addr) (ss':List Str),H_1 l=none->ss'.Perm ss->sortedS ss'=true->Q (V.ref l) (upd H_1 l (HO.lst (List.map V.str ss')))) (cf (oK 1 [0] (xC K tl) (dG 0) qD (xh (ik 1) (ik 0))) gh) σ H Q:=by
 have lim:1276<=sizeLine:=by decide
 dsimp only [tCB,cf,gh];refine bP _ _ _ _ _ _ _ _ _ ?_;refine hi _ ⟨a,rfl,⟨_,aAA ha⟩,fun D nD=>?_⟩;refine gZ (F:=nmV (bM ka kb)) ha nD (by rw [zL];lia) (fun x=>rfl) (fun G x R hx sG r0=>?_) fun G5 sG5 hG5=>?_
 ·obtain⟨z,hz,rfl⟩:=aaJ.mp hx;have e1:((fV 1 [0] σ).set 0 (some (V.str z)))[1]? = some (some (V.ref d)):=by
   unfold fV;simp [e0]
  exact⟨_,e1,_,rfl,d,_,rfl,uH (k:=.inr z) (sG _ _ hd) (nQ (sub z hz) kl),r0 G (Same.refl G)⟩
 rw [kX] at hG5;refine⟨D,_,rfl,aAA hG5,by rw [zL];lia,fun m ss nm pm so=>?_⟩;exact q m ss _ (sG5.trans (ar nm)) af pm (aL so)
theorem eV:br ["names","one","other","room","there"] ["names","one","other"] (ao aX):=scM rfl rfl rfl rfl (by decide +kernel)
theorem dC:(["kind","names"]:List Str).Nodup:=by decide +kernel
theorem vg {f:Addr}{fd:FuncData}(F:Fun K "_law_makes" "_law_makes" aX f fd){f__law_kinds_in:Addr}{fd__law_kinds_in:FuncData}(bf:bO P w K mg base CX0 1 f__law_kinds_in fd__law_kinds_in ["house"] qE)(aG:Cal K mg "_law_kinds_in" ["house"] f__law_kinds_in fd__law_kinds_in)(cI:mg "isinstance" = none)(gw:mg "dict" = none)(aN:mg "sorted" = none)(kT:mg "zip" = none):bO P w K mg base CX0 2 f fd ["names","one","other"] nV:=by
 refine F.ok eV (fun vs H Q E h=>?_) (fun cdv A outer s H vs Q E hr h=>?_)
 ·obtain⟨d,v,u,h,g,ka,kb,rfl,_⟩:=h
  rfl
 ·have hu:=iH hr;have deep:(A.deeper (envOfC "_law_makes" (ao aX) s.heap.objs.size f cdv)).units+1 < cLine:=aaj (aaE (by decide:1<=64) _) hr.units;obtain⟨d,v,u,h,g,ka,kb,rfl,hd,hv,hw,ok1,ok2,few1,few2,L1,L2,kl,no,q⟩:=h;have lim:1276<=sizeLine:=by decide
  have kk1:∀ x∈ka,bo x:=fun x hx=>by obtain⟨U,_,k,m⟩:=few1.few;exact k x (m x ((L1.mem x).mp hx))
  have kk2:∀ x∈kb,bo x:=fun x hx=>by obtain⟨U,_,k,m⟩:=few2.few;exact k x (m x ((L2.mem x).mp hx))
  have l64:ka.length < 64:=by
   obtain⟨U,ul,_,m⟩:=few1.few;have:=aV L1.nd fun x hx=>m x ((L1.mem x).mp hx);lia
  have hv0:=hv;have hw0:=hw;obtain⟨t1,a1,r1,us1,rfl,ht1,ha1,hr1,hR1⟩:=hv;obtain⟨t2,a2,r2,us2,rfl,ht2,ha2,hr2,hR2⟩:=hw;have nk1:=few1.nk;have nk2:=few2.nk;have b1:h.1.length<=300:=by unfold aE at nk1;rw [zH] at nk1;lia
  have b2:g.1.length<=300:=by unfold aE at nk2;rw [zH] at nk2;lia
  have one:∀ {l:List Str} {x y:List Str},x.Pairwise leS->y.Pairwise leS->x.Perm l->y.Perm l->x=y:=fun hx hy px py=>du hx hy (px.trans py.symm);refine⟨_,(aj (dk (PW.pt (qy (kE (iw (aw cU rfl cI (by decide +kernel) (ae (pv 0) (ae (g0 (v:=.ty "dict") (u:=.type "dict") rfl gw (by decide +kernel) rfl) ah))))) (j7 (aT ft (aw (iF rfl) rfl aN abu (ae (pv 0) ah)) (pcl bf aG hr rfl (ae (pv 1) ah)) (aZ _)))))
   (av (bt jP)) bw)
   (aj (dk (PW.pt (qy (aT ft (lI rfl aN rfl (pv 0)) (pcl bf aG hr rfl (ae (pv 2) ah)) (aZ _)) (j7 (aT ft (aw cb rfl aN abu (ae (jh (tg:=.Name "kind" _) (outer:=ao (aX)) (N:=["names","one","other","room","there"]) (N':=["kind","names"]) (nl:=1) (ix:=[0]) rfl rfl rfl (bN (bj cx (pv 1) aq (fun _ _=>rfl)))
    (fun _ _ _ _=>(ay (i:=0) dC rfl (.inl rfl) (.inr rfl))) (fun _ _ _ _=>bX)
    (fun _ _ _ _=>(hC hu (pv 1) (pv 0) (fun _ _=>rfl)))) ah)) (aw cb rfl aN abu (ae (bj cx (pv 2) aq (fun _ _=>rfl)) ah)) (aZ _)))))
    (av (bt jP)) bw)
   (aj (bF (dJ aaN rfl (vL rfl kT (ae (bj cx (pv 1) aq (fun _ _=>rfl)) (ae (bj cx (pv 2) aq (fun _ _=>rfl)) ah))) (fi rfl (az (ay (i:=3) eV.nd rfl (.inl rfl)) (az (ay (i:=4) eV.nd rfl (.inl rfl)) bQ)))
    (aj (dk (aT ft (aw cb rfl aN abu (ae (jh (tg:=.Name "kind" _) (outer:=ao (aX)) (N:=["names","one","other","room","there"]) (N':=["kind","names"]) (nl:=1) (ix:=[0]) rfl rfl rfl (bN (bj cx (pv 3) aq (fun _ _=>rfl)))
    (fun _ _ _ _=>(ay (i:=0) dC rfl (.inl rfl) (.inr rfl))) (fun _ _ _ _=>bX)
    (fun _ _ _ _=>(hC hu (pv 1) (pv 0) (fun _ _=>rfl)))) ah)) (bj cx (pv 4) aq (fun _ _=>rfl)) (aZ _))
     (av (bt jP)) bw)
    (av (dk (aT ft (aw cb rfl aN abu (ae (jh (tg:=.Name "kind" _) (outer:=ao (aX)) (N:=["names","one","other","room","there"]) (N':=["kind","names"]) (nl:=1) (ix:=[0]) rfl rfl rfl (bN (bj cx (pv 3) aq (fun _ _=>rfl)))
    (fun _ _ _ _=>(ay (i:=0) dC rfl (.inl rfl) (.inr rfl))) (fun _ _ _ _=>bX)
    (fun _ _ _ _=>(hC hu (pv 1) (pv 0) (fun _ _=>rfl)))) ah)) (aw cb rfl aN abu (ae (bj cx (pv 4) aq (fun _ _=>rfl)) ah)) (aZ _))
     (av (bt jP)) bw)))))
   (av (bt jP))))),?_⟩
  refine⟨_,rfl,_,_,_,true,rfl,.dK hd,fG K _,true,rfl,dR ?_⟩;refine⟨_,rfl,d,_,ka,rfl,hd,oA kl,l64,fun l1 ss1 n1 p1 so1=>?_⟩;have s1:Same H (upd H l1 (.lst (ss1.map V.str))):=ar n1;have e1:(upd H l1 (.lst (ss1.map V.str))) l1=some (.lst (ss1.map V.str)):=af;generalize upd H l1 (.lst (ss1.map V.str))=H1 at *;refine⟨_,rfl,.ref t1,h,rfl,hv0.same s1,ok1,few1,fun kB ks H2 s2 nkB ekB L so klen=>?_⟩;have eq1:ks=ss1:=du (aL so) (aL so1) (((abg L.nd L1.nd).mpr fun x=>by rw [L.mem,L1.mem]).trans p1.symm);subst eq1;refine gQ (s2 _ _ e1) ekB (fun x hx=>kk1 x (p1.mem_iff.mp hx)) deep ⟨_,rfl,dR ?_⟩;have s02:=s1.trans s2;refine⟨_,rfl,d,_,kb,rfl,s02 _ _ hd,sQ kl,by lia,fun l3 ss3 n3 p3 so3=>?_⟩;have s3:Same H2 (upd H2 l3 (.lst (ss3.map V.str))):=ar n3;have e3:(upd H2 l3 (.lst (ss3.map V.str))) l3=some (.lst (ss3.map V.str)):=af;generalize upd H2 l3 (.lst (ss3.map V.str))=H3 at *;have s03:=s02.trans s3;refine⟨_,rfl,.ref t2,g,rfl,hw0.same s03,ok2,few2,fun kC ks2 H4 s4 nkC ekC Lc soc klc=>?_⟩;have eq2:ks2=ss3:=du (aL soc) (aL so3) (((abg Lc.nd L2.nd).mpr fun x=>by rw [Lc.mem,L2.mem]).trans p3.symm);subst eq2;refine gQ (s4 _ _ e3) ekC (fun x hx=>kk2 x (p3.mem_iff.mp hx)) deep ⟨_,rfl,dR ?_⟩;have s04:=s03.trans s4;dsimp only [qb,tOp];refine fC (d:=d) (a:=a1) (ka:=ka) (kb:=kb) (l:=h.1) rfl (s04 _ _ hd) (s04 _ _ ha1) (fun x hx=>(L1.mem x).mpr (.inl (aaW _ hx))) kl (by lia) (fun R r=>⟨_,rfl,t1,_,0,.ref a1,rfl,rfl,aAB (s04 _ _ ht1),rfl,r⟩) fun m ss5 H5 s5 em pm5 so5=>?_;have s05:=s04.trans s5;refine⟨_,rfl,t2,_,0,.ref a2,rfl,rfl,aAB (s05 _ _ ht2),rfl,a2,g.1,rfl,aAA (s05 _ _ ha2),by lia,fun m6 ss6 n6 pm6 so6=>?_⟩;have s6:Same H5 (upd H5 m6 (.lst (ss6.map V.str))):=ar n6;have e6:(upd H5 m6 (.lst (ss6.map V.str))) m6=some (.lst (ss6.map V.str)):=af;generalize upd H5 m6 (.lst (ss6.map V.str))=H6 at *;have eq3:ss5=ss6:=one so5 (aL so6) (pm5.trans no.beg) pm6;subst eq3;refine gQ (s6 _ _ em) e6 (fun x hx=>ok2.kk x (pm6.mem_iff.mp hx)) deep ⟨_,rfl,dR ?_⟩;have s06:=s05.trans s6;refine⟨fun σ H'=>∃ x3 x4,σ=[some (.ref d),some (.ref t1),some (.ref t2),x3,x4]/\Same H6 H',?_,?_⟩
  ·rintro σ H7 ⟨x3,x4,rfl,s7⟩;exact q H7 (s06.trans s7)
  have l12:us1.length=us2.length:=by rw [hR1.1,hR2.1,no.rooms]
  refine⟨_,rfl,t1,_,1,.ref r1,rfl,rfl,aAB (s06 _ _ ht1),rfl,_,rfl,t2,_,1,.ref r2,rfl,rfl,aAB (s06 _ _ ht2),rfl,r1,r2,rfl,⟨_,aAA (s06 _ _ hr1)⟩,⟨_,aAA (s06 _ _ hr2)⟩,?_⟩;refine wC (xs:=us1) (ys:=us2) l12 (fun i σ' H'=>∃ x3 x4,σ'=[some (.ref d),some (.ref t1),some (.ref t2),x3,x4]/\Same H6 H') ⟨none,none,rfl,Same.refl _⟩ (fun i σ H' _ ⟨_,_,_,s⟩=>⟨aAA (s _ _ (s06 _ _ hr1)),aAA (s _ _ (s06 _ _ hr2))⟩) ?_ (fun σ H' z=>z);rintro i x y σ H7 T hx hy ⟨x3,x4,rfl,s7⟩ nT;have hi1:i < h.2.length:=by rw [← hR1.1];exact (zJ.mp hx).1
  have hi2:i < g.2.length:=by rw [← hR2.1];exact (zJ.mp hy).1
  have er1:h.2[i]? = some h.2[i]:=zG hi1;have er2:g.2[i]? = some g.2[i]:=zG hi2;obtain⟨tA,aA,bA,rfl,u1,u2,u3⟩:=hR1.2 i x _ hx er1;obtain⟨tB,aB,bB,rfl,w1,w2,w3⟩:=hR2.2 i y _ hy er2;obtain⟨pl1,pl2⟩:=no.lk i _ _ er1 er2;have m1:=aak hi1;have m2:=aak hi2;have ro2:=ok2.rs _ m2;have ro1:=ok1.rs _ m1;have c1:=ro1.l4;have c2:=ro1.kl;have c3:=ro2.kl;have sT:Same H7 (upd H7 T (.tup [.ref tA,.ref tB])):=ar nT;refine⟨T,_,rfl,aAB af,rfl,?_⟩;generalize upd H7 T (.tup [.ref tA,.ref tB])=H8 at *;have s68:=s7.trans sT;have s08:=s06.trans s68;refine⟨_,_,rfl,_,_,rfl,rfl,?_⟩;dsimp only [wZ,yf,qb,tOp];refine fC (d:=d) (a:=aA) (ka:=ka) (kb:=kb) (l:=h.2[i].1) rfl (s08 _ _ hd) (s08 _ _ u2) (fun x hx=>(L1.mem x).mpr (.inr (aar.mpr ⟨_,m1,hx⟩))) kl (by lia) (fun R r=>⟨_,rfl,tA,_,0,.ref aA,rfl,rfl,aAB (s08 _ _ u1),rfl,r⟩) fun m ss9 H9 s9 em9 pm9 so9=>?_;have s09:=s08.trans s9;have eq4:ss9=g.2[i].1:=du so9 ro2.so (pm9.trans pl1);subst eq4;refine⟨_,rfl,tB,_,0,.ref aB,rfl,rfl,aAB (s09 _ _ w1),rfl,?_⟩;refine gQ em9 (s09 _ _ w2) ro2.lk deep ⟨_,rfl,dR ?_⟩;dsimp only [qj,yf,qb,tOp];refine fC (d:=d) (a:=bA) (ka:=ka) (kb:=kb) (l:=h.2[i].2) rfl (s09 _ _ hd) (s09 _ _ u3) (fun x hx=>(L1.mem x).mpr (.inl (aaa _ (aar.mpr ⟨_,m1,hx⟩)))) kl (by lia) (fun R r=>⟨_,rfl,tA,_,1,.ref bA,rfl,rfl,aAB (s09 _ _ u1),rfl,r⟩) fun mA ssA HA sA emA pmA soA=>?_;have s0A:=s09.trans sA;refine⟨_,rfl,tB,_,1,.ref bB,rfl,rfl,aAB (s0A _ _ w1),rfl,bB,g.2[i].2,rfl,aAA (s0A _ _ w3),by lia,fun mB ssB nB pmB soB=>?_⟩;have sB:Same HA (upd HA mB (.lst (ssB.map V.str))):=ar nB;have eB:(upd HA mB (.lst (ssB.map V.str))) mB=some (.lst (ssB.map V.str)):=af;generalize upd HA mB (.lst (ssB.map V.str))=HB at *;have eq5:ssA=ssB:=one soA (aL soB) (pmA.trans pl2) pmB;subst eq5;refine gQ (sB _ _ emA) eB (fun x hx=>ro2.kk x (pmB.mem_iff.mp hx)) deep ⟨_,rfl,dR ?_⟩;exact⟨_,_,rfl,((s68.trans s9).trans sA).trans sB⟩
def kR:Sp:=fun vs H Q _=>∃ (v:V) (h:Hs),vs=[v]/\HouseAt H v h/\aM h/\(aE h).length<=300/\h.2.length<=60/\∀ (d:Addr) (kvs:List (Key×V)) (H':Hp),H d=none->Same H H'->H' d=some (.dK kvs)->LockMap H H' kvs (plc h)->KeysAre kvs (iO h h.2.length)->Q (.ref d) H'
def iG (h:Hs)(i:Nat)(ls ws:List Str)(k:Str):List Nat:=List.replicate (h.1.count k) 0++(jZ k 0 (h.2.take i)++(List.replicate (ls.count k) (2 * i+1)++List.replicate (ws.count k) (2 * i+2)))
theorem rz (h:Hs)(k:Str):iG h h.2.length [] [] k=plc h k:=by
 unfold iG plc;rw [aa9];simp
theorem qd {h:Hs}{i:Nat}{r:Rm}(e:h.2[i]? = some r)(k:Str):iG h i r.1 r.2 k=iG h (i+1) [] [] k:=by
 have hi:=(zJ.mp e).1;unfold iG;rw [aaS,e,Option.toList,jo,aad,abZ (aan hi),acV];simp
theorem lE {l:List Str}{x k:Str}{a:Nat}:List.replicate ((l++[x]).count k) a=List.replicate (l.count k) a++if k=x then [a] else []:=by
 rw [aes];by_cases e:k=x
 ·subst e;rw [if_pos rfl,List.count_singleton_self,← List.replicate_append_replicate]
  rfl
 ·rw [if_neg e,List.count_singleton,if_neg (by simpa using fun z=>e z.symm),adC,aaK]
inductive PaI (t a r d:Addr)(h:Hs)(H:Hp)(j:Nat)(σ:L2.St)(H':Hp):Prop
 | mk (x4:Option V) (kvs:List (Key×V)):σ=[some (.ref t),some (.ref a),some (.ref r),some (.ref d),x4,none,none,none]->H' d=some (.dK kvs)->Same H H'->LockMap H H' kvs (fun x=>List.replicate ((h.1.take j).count x) 0)->KeysAre kvs (h.1.take j)->PaI t a r d h H j σ H'
inductive PbI (t a r d:Addr)(h:Hs)(H:Hp)(i:Nat)(σ:L2.St)(H':Hp):Prop
 | mk (x4 x5 x6 x7:Option V) (kvs:List (Key×V)):σ=[some (.ref t),some (.ref a),some (.ref r),some (.ref d),x4,x5,x6,x7]->H' d=some (.dK kvs)->Same H H'->LockMap H H' kvs (iG h i [] [])->KeysAre kvs (iO h i)->PbI t a r d h H i σ H'
inductive PcI (t a r d aa bb:Addr)(h:Hs)(H:Hp)(i:Nat)(ls ws:List Str)(σ:L2.St)(H':Hp):Prop
 | mk (x4:Option V) (kvs:List (Key×V)):σ=[some (.ref t),some (.ref a),some (.ref r),some (.ref d),x4,some (.int ((i:Nat):Int)),some (.ref aa),some (.ref bb)]->H' d=some (.dK kvs)->Same H H'->LockMap H H' kvs (iG h i ls ws)->KeysAre kvs (iO h i++ls++ws)->PcI t a r d aa bb h H i ls ws σ H'
theorem aH:br ["house","keys","rooms","places","kind","number","locks","within"] ["house"] (ao bp):=scM rfl rfl rfl rfl (by decide +kernel)
theorem tW {f:Addr}{fd:FuncData}(F:Fun K "places_of_kinds" "places_of_kinds" bp f fd)(gp:mg "enumerate" = none):bO P w K mg base CX0 1 f fd ["house"] kR:=by
 refine F.ok aH (fun vs H Q E h=>?_) (fun cdv A outer s H vs Q E hr h=>?_)
 ·obtain⟨v,h,rfl,_⟩:=h
  rfl
 ·have hu:=iH hr;obtain⟨v,h,rfl,⟨t,a,r,us,rfl,ht,ha,hr',hR⟩,ok,nk,l60,q⟩:=h;refine⟨_,(aj (gc (pv 0) (fi rfl (az (ay (i:=1) aH.nd rfl (.inl rfl)) (az (ay (i:=2) aH.nd rfl (.inl rfl)) bQ))))
   (aj (aF (i:=3) aH.nd rfl (.inl rfl) pX)
   (aj (bF (dJ aaN rfl (bN (pv 1)) (ay (i:=4) aH.nd rfl (.inl rfl))
    (av (cW (fb aam aa0 aa1 cO (fb abt abI acu eP (pv 3) (ae (pv 4) (ae jL ah))) (ae aq ah))))))
   (aj (bF (dJ aaN rfl (wN rfl gp (ae (pv 2) ah)) (fi rfl (az (ay (i:=5) aH.nd rfl (.inl rfl)) (az (fi rfl (az (ay (i:=6) aH.nd rfl (.inl rfl)) (az (ay (i:=7) aH.nd rfl (.inl rfl)) bQ))) bQ)))
    (aj (bF (dJ aaN rfl (bN (pv 6)) (ay (i:=4) aH.nd rfl (.inl rfl))
     (av (cW (fb aam aa0 aa1 cO (fb abt abI acu eP (pv 3) (ae (pv 4) (ae jL ah))) (ae (aY dh (aY gH aq (pv 5)) aq) ah))))))
    (av (bF (dJ aaN rfl (bN (pv 7)) (ay (i:=4) aH.nd rfl (.inl rfl))
     (av (cW (fb aam aa0 aa1 cO (fb abt abI acu eP (pv 3) (ae (pv 4) (ae jL ah))) (ae (aY dh (aY gH aq (pv 5)) aq) ah))))))))))
   (av (bt (pv 3))))))),?_⟩
  have ul:=hR.1;have al4:∀ r∈h.2,r.1.length<=4:=fun r hr=>(ok.rs r hr).l4;have nl:(aU h).length<=240:=by
   have:∀ rs:List Rm,(∀ r∈rs,r.1.length<=4)->(rs.flatMap (·.1)).length<=4 * rs.length:=fun rs=>by
    induction rs with
    | nil=>intro _;exact zZ _
    | cons r rs ih =>
     intro q;rw [abb,zH,aaq];have a:=q r z7;have b:=ih fun x hx=>q x (z8 _ hx);lia
   have:=this h.2 al4;unfold aU;lia
  have kl:h.1.length<=300:=by
   have:h.1.length<=(aE h).length:=by unfold aE;rw [zH];lia
   lia
  have sl:∀ i,(iO h i).length<=540:=fun i=>aas sV (by lia);have pl:∀ i ls ws k,i<=h.2.length->ls.length<=4->ws.length<=300->(iG h i ls ws k).length<=1000:=fun i ls ws k hi h1 h2=>by
   unfold iG;rw [zH,zH,zH,aaH,aaH,aaH];have c1:h.1.count k<=h.1.length:=abH;have c2:ls.count k<=ls.length:=abH;have c3:ws.count k<=ws.length:=abH;have c4:∀ (rs:List Rm) (j:Nat),(jZ k j rs).length<=(rs.flatMap (·.1)).length+(rs.flatMap (·.2)).length:=fun rs=>by
    induction rs with
    | nil=>exact fun _=>zZ _
    | cons r rs ih =>
     intro j;have:=ih (j+1);have d1:r.1.count k<=r.1.length:=abH;have d2:r.2.count k<=r.2.length:=abH;simp only [jZ,zH,aaH,abb];lia
   have c5:=c4 (h.2.take i) 0;have c6:∀ g:Rm->List Str,((h.2.take i).flatMap g).length<=(h.2.flatMap g).length:=fun g=>by
    rw [show h.2.flatMap g=(h.2.take i).flatMap g++(h.2.drop i).flatMap g by rw [← aa7,aat],zH];lia
   have c7:=c6 (·.1);have c8:=c6 (·.2);unfold aU at nl;unfold aE at nk;rw [zH] at nk;lia
  refine⟨_,rfl,t,_,rfl,aAB ht,rfl,?_⟩;refine⟨_,_,rfl,_,_,rfl,rfl,?_⟩;refine fun d nd=>?_;have s1:Same H (upd H d (.dK [])):=ar nd;have e1:(upd H d (.dK [])) d=some (.dK []):=af;generalize upd H d (.dK [])=H1 at *;refine⟨fun σ H'=>PaI t a r d h H h.1.length σ H',?_,?_⟩
  ·rintro σ H2 ⟨x4,kvs,rfl,hd,s2,lm,ka⟩;rw [aa9] at lm ka;refine⟨fun σ H'=>PbI t a r d h H h.2.length σ H',?_,?_⟩
   ·rintro σ H3 ⟨x4',x5,x6,x7,kvs,rfl,hd,s3,lm,ka⟩;exact⟨_,rfl,q d kvs H3 nd s3 hd (lm.congr (rz h)) ka⟩
   ·refine⟨_,rfl,r,rfl,⟨_,aAA (s2 _ _ hr')⟩,?_⟩;refine uV (xs:=us) (fun i σ' H'=>PbI t a r d h H i σ' H') (.mk x4 none none none kvs rfl hd s2 (lm.congr fun x=>by unfold iG;simp [jZ]) (by rw [lL];exact ka)) (fun i σ H' _ ⟨_,_,_,_,_,_,_,s,_,_⟩=>aAA (s _ _ hr')) ?_ (fun σ H' z=>by rw [ul] at z;exact z);rintro i x σ H3 T hx ⟨x4',x5,x6,x7,kvs,rfl,hd,s3,lm,ka⟩ nT;have hi:i < h.2.length:=by rw [← ul];exact (zJ.mp hx).1
    have er:h.2[i]? = some h.2[i]:=zG hi;obtain⟨tt,aa,bb,rfl,q1,q2,q3⟩:=hR.2 i x _ hx er;have him:=aak hi;have r4:=al4 _ him;have wl:h.2[i].2.length<=300:=by
     have:h.2[i].2.length<=(h.2.flatMap (·.2)).length:=by
      obtain⟨l1,l2,e⟩:=List.append_of_mem him;generalize h.2[i]=rm at *;rw [e,aa7,abb,zH,zH];lia
     unfold aE at nk;rw [zH] at nk;lia
    have sT:Same H3 (upd H3 T (.tup [.int (i:Int),.ref tt])):=ar nT;refine⟨T,_,rfl,aAB af,rfl,?_⟩;generalize upd H3 T (.tup [.int (i:Int),.ref tt])=H4 at *;have s4:=s3.trans sT;refine⟨_,_,rfl,_,_,rfl,tt,_,rfl,aAB (s4 _ _ q1),rfl,_,_,rfl,_,_,rfl,rfl,rfl,?_⟩;refine⟨fun σ H'=>PcI t a r d aa bb h H i h.2[i].1 [] σ H',?_,?_⟩
    ·rintro σ H5 ⟨x4,kvs,rfl,hd,s5,lm,ka⟩;refine⟨fun σ H'=>PcI t a r d aa bb h H i h.2[i].1 h.2[i].2 σ H',?_,?_⟩
     ·rintro σ H6 ⟨x4,kvs,rfl,hd,s6,lm,ka⟩;exact .mk _ _ _ _ kvs rfl hd s6 (lm.congr fun x=>qd er x) (by rw [iT er];exact ka)
     ·refine⟨_,rfl,bb,rfl,⟨_,aAA (s5 _ _ q3)⟩,?_⟩;refine dN (xs:=h.2[i].2.map V.str) (fun j σ' H'=>PcI t a r d aa bb h H i h.2[i].1 (h.2[i].2.take j) σ' H') (.mk x4 kvs rfl hd s5 lm ka) (fun j σ H' _ ⟨_,_,_,_,s,_,_⟩=>aAA (s _ _ q3)) ?_ (fun σ H' z=>by rw [zL,aa9] at z;exact z);rintro j x σ H6 hx ⟨x4,kvs,rfl,hd,s6,lm,ka⟩;have hj:=(zJ.mp hx).1;rw [zL] at hj;rw [zT,zG hj] at hx;cases hx;have tk:h.2[i].2.take (j+1)=h.2[i].2.take j++[h.2[i].2[j]]:=by rw [aaS,zG hj];rfl
      have tl:(h.2[i].2.take j).length<=300:=by rw [aad];lia
      refine hE (n:=2 * i+2) rfl rfl (fun G' R w=>⟨_,rfl,2,((i:Nat):Int),rfl,rfl,.inl ⟨by decide,by decide⟩,_,_,rfl,rfl,by show R (V.int (2 * ((i:Nat):Int)+2)) G';rw [show (2:Int) * ((i:Nat):Int)+2=((2 * i+2:Nat):Int) by lia];exact w⟩) hd nd s6 lm ka (by rw [zH,zH];have:=sl i;lia) (pl i _ _ _ (aan hi) r4 tl) fun kvs' G' s7 hd7 lm7 ka7=>?_;refine .mk _ kvs' rfl hd7 s7 (lm7.congr fun x=>?_) (by rw [tk,← zU];exact ka7);rw [tk];unfold iG;rw [lE];split<;>simp
    ·refine⟨_,rfl,aa,rfl,⟨_,aAA (s4 _ _ q2)⟩,?_⟩;refine dN (xs:=h.2[i].1.map V.str) (fun j σ' H'=>PcI t a r d aa bb h H i (h.2[i].1.take j) [] σ' H') (.mk x4' kvs rfl (sT _ _ hd) s4 (lm.keep fun a xs _ e=>sT a _ e) (by rw [ack,aaK,aaK];exact ka)) (fun j σ H' _ ⟨_,_,_,_,s,_,_⟩=>aAA (s _ _ q2)) ?_ (fun σ H' z=>by rw [zL,aa9] at z;exact z);rintro j x σ H6 hx ⟨x4,kvs,rfl,hd,s6,lm,ka⟩;have hj:=(zJ.mp hx).1;rw [zL] at hj;rw [zT,zG hj] at hx;cases hx;have tk:h.2[i].1.take (j+1)=h.2[i].1.take j++[h.2[i].1[j]]:=by rw [aaS,zG hj];rfl
     have tl:(h.2[i].1.take j).length<=4:=by rw [aad];lia
     refine hE (n:=2 * i+1) rfl rfl (fun G' R w=>⟨_,rfl,2,((i:Nat):Int),rfl,rfl,.inl ⟨by decide,by decide⟩,_,_,rfl,rfl,by show R (V.int (2 * ((i:Nat):Int)+1)) G';rw [show (2:Int) * ((i:Nat):Int)+1=((2 * i+1:Nat):Int) by lia];exact w⟩) hd nd s6 lm ka (by rw [zH,zH];have:=sl i;show _+_+0<=_;lia) (pl i _ _ _ (aan hi) tl (by show 0<=_;lia)) fun kvs' G' s7 hd7 lm7 ka7=>?_;refine .mk _ kvs' rfl hd7 s7 (lm7.congr fun x=>?_) (by rw [tk,← zU];rw [aaK] at ka7 ⊢;exact ka7);rw [tk];unfold iG;rw [lE];split<;>simp
  ·refine⟨_,rfl,a,rfl,⟨_,aAA (s1 _ _ ha)⟩,?_⟩;refine dN (xs:=h.1.map V.str) (fun j σ' H'=>PaI t a r d h H j σ' H') (.mk none [] rfl e1 s1 ⟨fun x _=>by simp,(fun x v h=>nomatch h),(fun x y a h=>nomatch h)⟩ ⟨[],rfl,ady,fun x=>by simp⟩) (fun j σ H' _ ⟨_,_,_,_,s,_,_⟩=>aAA (s _ _ ha)) ?_ (fun σ H' z=>by rw [zL] at z;exact z);rintro j x σ H2 hx ⟨x4,kvs,rfl,hd,s2,lm,ka⟩;have hj:=(zJ.mp hx).1;rw [zL] at hj;rw [zT,zG hj] at hx;cases hx;have tk:h.1.take (j+1)=h.1.take j++[h.1[j]]:=by rw [aaS,zG hj];rfl
   have tl:(h.1.take j).length<=300:=by rw [aad];lia
   refine hE (n:=0) rfl rfl (fun G' R w=>w) hd nd s2 lm ka (by lia) (by
    rw [aaH];have:(h.1.take j).count h.1[j]<=(h.1.take j).length:=abH;lia) fun kvs' G' s7 hd7 lm7 ka7=>.mk _ kvs' rfl hd7 s7 (lm7.congr fun x=>?_) (by rw [tk];exact ka7)
   rw [tk,lE];split<;>simp
structure NK (h g:Hs)(A B:List (List Int×Str)):Prop where
 ex:∃ k1 k2,cN h k1/\cN g k2/\A.Perm (prs h k1)/\B.Perm (prs g k2)
 sa:A.Pairwise fun a b=>LL.lexP b a=false
 sb:B.Pairwise fun a b=>LL.lexP b a=false
def kU:Sp:=fun vs H Q _=>∃ (v u:V) (h g:Hs),vs=[v,u]/\HouseAt H v h/\HouseAt H u g/\aM h/\aM g/\(aE h).length<=300/\(aE g).length<=300/\h.2.length<=60/\g.2.length<=60 ∧
 ∀ A B,NK h g A B->(A.map (·.1)=B.map (·.1)->∀ (d:Addr) (H':Hp),Same H H'->H d=none->H' d=some (.dK (cu (A.map (·.2)) (B.map (·.2))))->Q (.ref d) H')/\(A.map (·.1)≠B.map (·.1)->∀ H',Same H H'->Q .non H')
theorem dQ:br ["one","other","mine","others"] ["one","other"] (ao aQ):=scM rfl rfl rfl rfl (by decide +kernel)
theorem cD:(["kind","places"]:List Str).Nodup:=by decide +kernel
theorem cy:(["places","kind"]:List Str).Nodup:=by decide +kernel
theorem cC:(["places","kind","same","name"]:List Str).Nodup:=by decide +kernel
theorem sI {f:Addr}{fd:FuncData}(F:Fun K "named_kinds" "named_kinds" aQ f fd){f_require_house:Addr}{fd_require_house:FuncData}(fv:bO P w K mg base CX0 6 f_require_house fd_require_house ["thing"] wq)(cM:Cal K mg "require_house" ["thing"] f_require_house fd_require_house)
 {f_places_of_kinds:Addr}{fd_places_of_kinds:FuncData}(dS:bO P w K mg base CX0 1 f_places_of_kinds fd_places_of_kinds ["house"] kR)(cn:Cal K mg "places_of_kinds" ["house"] f_places_of_kinds fd_places_of_kinds)(aN:mg "sorted" = none)(kT:mg "zip" = none):bO P w K mg base CX0 7 f fd ["one","other"] kU:=by
 refine F.ok dQ (fun vs H Q E h=>?_) (fun cdv A outer s H vs Q E hr h=>?_)
 ·obtain⟨v,u,h,g,rfl,_⟩:=h
  rfl
 ·have hu:=iH hr;have deep:(A.deeper (envOfC "named_kinds" (ao aQ) s.heap.objs.size f cdv)).units+5 < cLine:=aaj (aaE (by decide:5<=64) _) hr.units;obtain⟨v,u,h,g,rfl,hv,hw,ok1,ok2,n1,n2,l1,l2,q⟩:=h;have lim:1001 < sizeLine:=by decide
  refine⟨_,(aj (cW (pcl fv cM hr rfl (ae (pv 0) ah)))
   (aj (cW (pcl fv cM hr rfl (ae (pv 1) ah)))
   (aj (aF (i:=2) dQ.nd rfl (.inl rfl) (aw gN rfl aN abu (ae (jh (outer:=ao (aQ)) (N:=["one","other","mine","others"]) (N':=["kind","places"]) (nl:=2) (ix:=[]) rfl rfl rfl (pH (H₀:=H) rfl (pcl dS cn (hr.mono (by decide:1<=6)) rfl (ae (pv 0) ah)))
    (fun _ _ _ _=>(eW (K:=K) (n:=2) rfl rfl (az (ay (i:=0) cD rfl (.inl rfl) (.inr rfl)) (az (ay (i:=1) cD rfl (.inl rfl) (.inr rfl)) bQ)))) (fun _ _ _ _=>bX)
    (fun _ _ _ _=>(dO (ae (pv 1) (ae (pv 0) ah))))) ah)))
   (aj (aF (i:=3) dQ.nd rfl (.inl rfl) (aw gN rfl aN abu (ae (jh (outer:=ao (aQ)) (N:=["one","other","mine","others"]) (N':=["kind","places"]) (nl:=2) (ix:=[]) rfl rfl rfl (pH (H₀:=H) rfl (pcl dS cn (hr.mono (by decide:1<=6)) rfl (ae (pv 1) ah)))
    (fun _ _ _ _=>(eW (K:=K) (n:=2) rfl rfl (az (ay (i:=0) cD rfl (.inl rfl) (.inr rfl)) (az (ay (i:=1) cD rfl (.inl rfl) (.inr rfl)) bQ)))) (fun _ _ _ _=>bX)
    (fun _ _ _ _=>(dO (ae (pv 1) (ae (pv 0) ah))))) ah)))
   (aj (dk (aT ft (jh (outer:=ao (aQ)) (N:=["one","other","mine","others"]) (N':=["places","kind"]) (nl:=2) (ix:=[]) rfl rfl rfl (bN (pv 2))
    (fun _ _ _ _=>(eW (K:=K) (n:=2) rfl rfl (az (ay (i:=0) cy rfl (.inl rfl) (.inr rfl)) (az (ay (i:=1) cy rfl (.inl rfl) (.inr rfl)) bQ)))) (fun _ _ _ _=>bX)
    (fun _ _ _ _=>(pv 0))) (jh (outer:=ao (aQ)) (N:=["one","other","mine","others"]) (N':=["places","kind"]) (nl:=2) (ix:=[]) rfl rfl rfl (bN (pv 3))
    (fun _ _ _ _=>(eW (K:=K) (n:=2) rfl rfl (az (ay (i:=0) cy rfl (.inl rfl) (.inr rfl)) (az (ay (i:=1) cy rfl (.inl rfl) (.inr rfl)) bQ)))) (fun _ _ _ _=>bX)
    (fun _ _ _ _=>(pv 0))) (aZ _))
    (av (bt vM)) bw)
   (av (bt (yF (outer:=ao (aQ)) (N:=["one","other","mine","others"]) (N':=["places","kind","same","name"]) (nl:=4) (ix:=[]) rfl rfl rfl (vL rfl kT (ae (pv 2) (ae (pv 3) ah)))
    (fun _ _ _ _=>(eW (K:=K) (n:=2) rfl rfl (az (eW (K:=K) (n:=2) rfl rfl (az (ay (i:=0) cC rfl (.inl rfl) (.inr rfl)) (az (ay (i:=1) cC rfl (.inl rfl) (.inr rfl)) bQ))) (az (eW (K:=K) (n:=2) rfl rfl (az (ay (i:=2) cC rfl (.inl rfl) (.inr rfl)) (az (ay (i:=3) cC rfl (.inl rfl) (.inr rfl)) bQ))) bQ)))) (fun _ _ _ _=>bX)
    (fun _ _ _ _=>(pv 1)) (fun _ _ _ _=>(pv 3)))))))))),?_⟩
  refine⟨_,rfl,v,h,rfl,hv,ok1,fun H1 s1=>⟨_,rfl,u,g,rfl,hw.same s1,ok2,fun H2 s2=>?_⟩⟩;have s02:=s1.trans s2;have sl:∀ {x:Hs},aM x->(aE x).length<=300->x.2.length<=60->(iO x x.2.length).length<=1000:=fun {x} ok n l=>by
   have:∀ rs:List Rm,(∀ r∈rs,r.1.length<=4)->(rs.flatMap (·.1)).length<=4 * rs.length:=fun rs=>by
    induction rs with
    | nil=>intro _;exact zZ _
    | cons r rs ih =>
     intro q;rw [abb,zH,aaq];have a:=q r z7;have b:=ih fun x hx=>q x (z8 _ hx);lia
   have:=this x.2 fun r hr=>(ok.rs r hr).l4;rw [ph];unfold aU;lia
  dsimp only [dG,wZ,wI,tCB,cf,gh];refine bP _ _ _ _ _ _ _ _ _ ?_;refine⟨_,rfl,v,h,rfl,hv.same s02,ok1,n1,l1,fun d kvs H3 nd s3 hd lm ka=>⟨d,kvs,rfl,hd,fun o nf D nD=>?_⟩⟩;have s03:=s02.trans s3;have kl:kvs.length<=1000:=aas ka.len (sl ok1 n1 l1);refine l0 hd nD kl fun ys G eD sG yl at_=>?_;have lift:∀ a ls,H3 a=some (.lst ls)->G a=some (.lst ls):=fun a ls e=>sG _ _ (by rw [gn (fun z=>by rw [z,hd] at e;cases e)];exact e);obtain⟨k1,nd1,m1,el1,pr1⟩:=j0 lm ka lift yl at_;have nd0:H d=none:=s02.free nd;have s0G:Same H G:=fun b y e=>sG _ _ (by rw [gn (fun z=>by rw [z,nd0] at e;cases e)];exact s03 _ _ e);refine⟨D,ys,rfl,aAA eD,by lia,deep,el1,fun M vs' nM pm so=>?_⟩;have sM:Same G (upd G M (.lst vs')):=ar nM;have eM:(upd G M (.lst vs')) M=some (.lst vs'):=af;have pA:PairsAt G vs' (vs'.map (dZ G)):=.of fun v hv=>el1 v (pm.mem_iff.mp hv);have pA':=pA.same sM;have permA:(vs'.map (dZ G)).Perm (prs h k1):=pr1▸pm.map _;generalize hA:vs'.map (dZ G)=A1 at *;generalize upd G M (.lst vs')=G1 at *;have s0G1:=s0G.trans sM;clear sG at_ eD el1 pr1 pm hA pA lm ka lift yl hd nD nd nd0 sM s03 s3;refine bP _ _ _ _ _ _ _ _ _ ?_;refine⟨_,rfl,u,g,rfl,hw.same s0G1,ok2,n2,l2,fun d2 kvs2 H4 nd4 s4 hd4 lm ka=>⟨d2,kvs2,rfl,hd4,fun o2 nf2 D2 nD2=>?_⟩⟩;have kl2:kvs2.length<=1000:=aas ka.len (sl ok2 n2 l2);refine l0 hd4 nD2 kl2 fun ys2 G2 eD2 sG2 yl2 at2=>?_;have lift:∀ a ls,H4 a=some (.lst ls)->G2 a=some (.lst ls):=fun a ls e=>sG2 _ _ (by rw [gn (fun z=>by rw [z,hd4] at e;cases e)];exact e);obtain⟨k2,nd2,m2,el2,pr2⟩:=j0 lm ka lift yl2 at2;have s1G2:Same G1 G2:=fun b y e=>sG2 _ _ (by rw [gn (fun z=>by rw [z,nd4] at e;cases e)];exact s4 _ _ e);refine⟨D2,ys2,rfl,aAA eD2,by lia,deep,el2,fun M2 ws nM2 pm2 so2=>?_⟩;have sM2:Same G2 (upd G2 M2 (.lst ws)):=ar nM2;have eM2:(upd G2 M2 (.lst ws)) M2=some (.lst ws):=af;have pB:PairsAt G2 ws (ws.map (dZ G2)):=.of fun v hv=>el2 v (pm2.mem_iff.mp hv);have pB':=pB.same sM2;have permB:(ws.map (dZ G2)).Perm (prs g k2):=pr2▸pm2.map _;generalize hB:ws.map (dZ G2)=B1 at *;have pA2:=(pA'.same s1G2).same sM2;have eM12:=sM2 _ _ (s1G2 _ _ eM);have s0G2:=(s0G1.trans s1G2).trans sM2;generalize upd G2 M2 (.lst ws)=G3 at *;clear sG2 at2 eD2 el2 pr2 pm2 hB pB lm ka lift yl2 hd4 nD2 nd4 sM2 s4 s1G2 pA' eM;have nk:NK h g A1 B1:=⟨⟨k1,k2,⟨nd1,fun x=>by rw [m1,said_mem]⟩,⟨nd2,fun x=>by rw [m2,said_mem]⟩,permA,permB⟩,so,so2⟩;have q:=q A1 B1 nk;have vl:=pA2.1;have wl:=pB'.1;have al:A1.length<=1000:=by
   rw [permA.length_eq,zL];exact aas (aV nd1 fun x hx=>(m1 x).mp hx) (sl ok1 n1 l1)
  have bl:B1.length<=1000:=by
   rw [permB.length_eq,zL];exact aas (aV nd2 fun x hx=>(m2 x).mp hx) (sl ok2 n2 l2)
  dsimp only [yf,qb,tOp];refine bP _ _ _ _ _ _ _ _ _ ?_;refine⟨_,rfl,M,rfl,⟨_,aAA eM12⟩,fun D3 nD3=>?_⟩;refine pT eM12 pA2 nD3 (by lia) fun za G4 eD3 s4 oa=>?_;refine bP _ _ _ _ _ _ _ _ _ ?_;refine⟨_,rfl,M2,rfl,⟨_,aAA (s4 _ _ eM2)⟩,fun D4 nD4=>?_⟩;refine pT (s4 _ _ eM2) (pB'.same s4) nD4 (by lia) fun zb G5 eD4 s5 ob=>?_;have s35:=s4.trans s5;have s05:=s0G2.trans s35;refine kz (neg:=true) (s5 _ _ eD3) eD4 (oa.same s5) ob (aaj (aaE (by decide:2<=5) _) deep) ⟨_,rfl,?_⟩;rw [if_pos rfl];by_cases e:A1.map (·.1)=B1.map (·.1)
  ·rw [aaw e];refine dR ?_;have ndA:(A1.map (·.2)).Nodup:=by
    have:=permA.map (·.2);rw [aa3] at this;have e1:List.map ((·.2) ∘ fun k=>(zI (plc h k),k)) k1=k1:=afv _;rw [e1] at this;exact this.nodup_iff.mpr nd1
   have ab:A1.length=B1.length:=by have:=aaG List.length e;simpa using this
   dsimp only [qj,we];refine uX _ _ _ _ _ _ _ _ _ _ ?_;refine⟨_,rfl,_,rfl,M,M2,rfl,⟨_,aAA (s35 _ _ eM12)⟩,⟨_,aAA (s35 _ _ eM2)⟩,fun D5 nD5=>?_⟩;exact t9 (s35 _ _ eM12) (s35 _ _ eM2) (pA2.same s35) (pB'.same s35) nD5 (by lia) (by lia) ndA fun G6 eD5 s6=>q.1 e D5 G6 (s05.trans s6) (s05.free nD5) eD5
  ·rw [aah e];exact hV (q.2 e G5 s05)
end
end K7
namespace L2
open PySem PySem.Spec PyProof.Rows PySem.W
section
variable {X:Cx}
end
end L2
namespace K7
open PySem L2 PyProof.Rows
abbrev vB:Stmt:=uy
def uk (K:PySem.W.Frag):Sp:=fun vs H Q _=>∃ (a:Addr) (ns:List Int),vs=[.ref a]/\SqL K H a (ns.map V.int)/\ns.length<=63/\∀ H',Q (.bl true) H'
theorem NK.one {h g:Hs}{A B A' B':List (List Int×Str)}(x:NK h g A B)(y:NK h g A' B'):A=A'/\B=B':=by
 obtain⟨⟨k1,k2,L1,L2,p1,p2⟩,sa,sb⟩:=x;obtain⟨⟨m1,m2,M1,M2,q1,q2⟩,ta,tb⟩:=y;have e1:k1.Perm m1:=(abg L1.nd M1.nd).mpr fun x=>by rw [L1.mem,M1.mem]
 have e2:k2.Perm m2:=(abg L2.nd M2.nd).mpr fun x=>by rw [L2.mem,M2.mem]
 exact⟨((p1.trans (e1.map _)).trans q1.symm).eq_of_pairwise (fun a b _ _ h1 h2=>LL.lexP_tot a b h2 h1) sa ta,((p2.trans (e2.map _)).trans q2.symm).eq_of_pairwise (fun a b _ _ h1 h2=>LL.lexP_tot a b h2 h1) sb tb⟩
theorem NK.lists {h g:Hs}{A B:List (List Int×Str)}(ok1:aM h)(ok2:aM g)(x:NK h g A B)(e:A.map (·.1)=B.map (·.1)):cN h (A.map (·.2))/\cN g (B.map (·.2))/\(A.map (·.2)).length=(B.map (·.2)).length/\tV (bM (A.map (·.2)) (B.map (·.2))) h g:=by
 obtain⟨⟨k1,k2,L1,L2,p1,p2⟩,sa,sb⟩:=x;obtain⟨q1,q2,l,no⟩:=uS ok1 ok2 L1 L2 p1 p2 e;exact⟨⟨q1.nodup_iff.mpr L1.nd,fun x=>by rw [q1.mem_iff,L1.mem]⟩,⟨q2.nodup_iff.mpr L2.nd,fun x=>by rw [q2.mem_iff,L2.mem]⟩,l,no⟩
theorem NK.iff {h g:Hs}{A B:List (List Int×Str)}(ok1:aM h)(ok2:aM g)(x:NK h g A B){R S:List (List Int)}{ks ms:List Str}(L:cN h ks)(M:cN g ms)(pr:R.Perm (ks.map (row h)))(ps:S.Perm (ms.map (row g)))(sr:R.Pairwise fun a b=>¬ b < a)(ss:S.Pairwise fun a b=>¬ b < a):A.map (·.1)=B.map (·.1)↔h.2.length=g.2.length/\R=S:=by
 obtain⟨⟨k1,k2,L1,L2,p1,p2⟩,sa,sb⟩:=x;have e1:ks.Perm k1:=(abg L.nd L1.nd).mpr fun x=>by rw [L1.mem,L.mem]
 have e2:ms.Perm k2:=(abg M.nd L2.nd).mpr fun x=>by rw [L2.mem,M.mem]
 exact rR ok1 ok2 L1 L2 p1 p2 sa sb (pr.trans (e1.map _)) (ps.trans (e2.map _)) sr ss
theorem NK.len {h g:Hs}{A B:List (List Int×Str)}(ok1:aM h)(ok2:aM g)(x:NK h g A B)(e:A.map (·.1)=B.map (·.1)):h.2.length=g.2.length:=(x.lists ok1 ok2 e).2.2.2.rooms
theorem sO {A:Around}{neg:Bool}{H:Hp}{x y:Addr}{u1 u2 v1 v2:V}{h g:Hs}{Q:VK}(hx:H x=some (.lst [u1,u2]))(hy:H y=some (.lst [v1,v2]))(a1:HouseAt H u1 h)(a2:HouseAt H u2 g)(b1:HouseAt H v1 h)(b2:HouseAt H v2 g)(ok:aM h)(ok2:aM g)(hu:A.units+5 < cLine)(q:Q (.bl (if neg then false else true)) H):vE A neg (.ref x) (.ref y) H Q:=by
 have d:(PyData.list [aW h,aW g]).depth<=5:=by
  have h1:=jc h;have h2:=jc g;simp only [PyData.depth,PyData.depthAll];lia
 refine⟨.list [aW h,aW g],.list [aW h,aW g],.lst hx (.cons (fO a1) (.cons (fO a2) .nil)),.lst hy (.cons (fO b1) (.cons (fO b2) .nil)),?_,?_,aaj (aaE (aas (ac8 _ _) d) _) hu,?_⟩
 ·simp only [PyData.canLay0,PyData.canLayAll0,gP ok,gP ok2,acf]
 ·simp only [PyData.canLay0,PyData.canLayAll0,gP ok,gP ok2,acf]
 ·have e:PyData.eqv (.list [aW h,aW g]) (.list [aW h,aW g])=true:=by
   simp only [PyData.eqv,PyData.eqvAll,rh,acf]
  rw [e];cases neg<;>exact q
theorem uD {A:Around}{H:Hp}{ka kb:List Str}(nd:ka.Nodup)(l:ka.length=kb.length)(kk:∀ k∈kb,bo k)(hu:A.units+2 < cLine):xI A H (cu ka kb) (cu ka kb):=by
 refine⟨rfl,fun k v hm=>?_⟩;obtain⟨j,hj⟩:=acG hm;unfold cu at hm;obtain⟨⟨x,y⟩,hp,e⟩:=aaJ.mp hm;cases e;have hy:=(abV hp).2;have lay:=de (ks:=[y]) fun k hk=>by rw [zQ.mp hk];exact kk y hy
 simp only [z4,adB,PyData.canLayAll0,Bool.and_true] at lay;exact⟨.str y,.str y,.str y,rM (oA l) nd hj,.str y,.str y,lay,lay,by
  have:(PyData.str y).depth=0:=rfl;rw [this];exact Nat.lt_of_succ_lt hu,by simp only [PyData.eqv,abN]⟩
theorem vC {h:Hs}(ok:aM h)(few:pC h)(nk:(aE h).length<=276)(l:h.2.length<=60):FewU 60 h:=by
 obtain⟨U,ul,m⟩:=few.few;refine⟨⟨dd (aE h++aU h),?_,fun k hk=>?_,fun x hx=>mem_dd.mpr (zS.mpr hx)⟩,by lia,l⟩
 ·have:=aV (vV (aE h++aU h)) (U:=U) fun x hx=>m x (zS.mp (mem_dd.mp hx));lia
 ·rcases zS.mp (mem_dd.mp hk) with hk | hk
  ·rcases zS.mp hk with hk | hk
   ·exact ok.kk k hk
   ·obtain⟨r,hr,hk⟩:=aar.mp hk;exact (ok.rs r hr).kk k hk
  ·obtain⟨r,hr,hk⟩:=aar.mp hk;exact (ok.rs r hr).lk k hk
theorem yN:∀ k∈azz,bo k:=fun k hk=>by
 simp only [aab,aaI,aca] at hk;rcases hk with e | e
 ·rw [e];exact⟨by decide,by decide,by decide +kernel⟩
 ·rw [e];exact⟨by decide,by decide,by decide +kernel⟩
theorem FewU.kd {h:Hs}(f:FewU 60 h):∃ U,KdU U/\InU U h:=by
 obtain⟨U,ul,kk,m⟩:=f.few;refine⟨U++azz,⟨by rw [zH];show _+2<=_;lia,fun k hk=>?_,by simp,by simp⟩,.of fun x hx=>aaW _ (m x hx)⟩;rcases zS.mp hk with hk | hk
 ·exact kk k hk
 ·exact yN k hk
theorem FewU.of {U:List Str}{h:Hs}(k:KdU U)(i:InU U h)(n:(aE h).length<=300)(l:h.2.length<=60):FewU 63 h:=⟨⟨U,by have:=k.ul;lia,k.kk,i.all⟩,n,l⟩
theorem FewU.up {h:Hs}(f:FewU 60 h):FewU 63 h:=let ⟨⟨U,l,k,m⟩,n,r⟩:=f;⟨⟨U,by lia,k,m⟩,n,r⟩
theorem ub {K:PySem.W.Frag}{A:Around}{σ:L2.St}{H:Hp}{Q:VK}{v y:V}{h g:Hs}(e3:σ[3]? = some (some v))(e6:σ[6]? = some (some y))(hv:HouseAt H v h)(hy:HouseAt H y g)(ok1:aM h)(ok2:aM g)(f1:FewU 63 h)(f2:FewU 63 g)(hu:A.units+2 < cLine)
 (q:∀ (due:Bool) (H':Hp),Same H H'->(∀ X Y,NK h g X Y->(due=true↔X.map (·.1)=Y.map (·.1)))->Q (.bl due) H'):xF (tOp rEq (tCB (fun xs H_1 Q=>∃ p ys,xs=[V.ref p]/\(SqL K H_1 p ys\/SqT K H_1 p ys)/\Q (V.int ((ys.length:Nat):Int)) H_1) (cf (tOp (yJ K) (ik 3) (tC (V.int 1))) gh)) (tCB (fun xs H_1 Q=>∃ p ys,xs=[V.ref p]/\(SqL K H_1 p ys\/SqT K H_1 p ys)/\Q (V.int ((ys.length:Nat):Int)) H_1) (cf (tOp (yJ K) (ik 6) (tC (V.int 1))) gh))) (tOp (vE A false) (qw mZ [] E0 (cf (ik 3) gh)) (qw mZ [] E0 (cf (ik 6) gh))) σ H Q:=by
 obtain⟨t1,a1,r1,us1,ev1,ht1,_,hr1,hR1⟩:=id hv;obtain⟨t2,a2,r2,us2,ev2,ht2,_,hr2,hR2⟩:=id hy;have l1:=hR1.1;have l2:=hR2.1;refine⟨_,e3,t1,_,1,.ref r1,ev1,rfl,aAB ht1,rfl,r1,us1,rfl,.inl (aAA hr1),_,e6,t2,_,1,.ref r2,ev2,rfl,aAB ht2,rfl,r2,us2,rfl,.inl (aAA hr2),rfl,_,rfl,?_⟩;by_cases e:us1.length=us2.length
 ·rw [e,aaw rfl];refine hV ⟨_,e3,v,h,rfl,hv,ok1,f1,fun la ys1 R ks1 Ha sa na ea oa La pa upa rla=>⟨_,e6,y,g,rfl,hy.same sa,ok2,f2,fun lb ys2 S ks2 Hb sb nb eb ob Lb pb upb rlb=>?_⟩⟩;refine kz (neg:=false) (sb _ _ ea) eb (oa.same sb) ob hu ?_;rw [if_neg zO];refine q _ Hb (sa.trans sb) fun X Y nk=>?_;rw [ac9];exact⟨fun z=>(nk.iff ok1 ok2 La Lb pa pb upa upb).mpr ⟨by lia,z⟩,fun z=>((nk.iff ok1 ok2 La Lb pa pb upa upb).mp z).2⟩
 ·rw [show decide (V.int ((us1.length:Nat):Int)=V.int ((us2.length:Nat):Int))=false from aah fun z=>e (by injection z with z;lia)];refine dR (q false H (Same.refl H) fun X Y nk=>⟨fun z=>(by cases z),fun z=>absurd (nk.len ok1 ok2 z) (by lia)⟩)
inductive LwI (a:Addr)(H:Hp)(σ:L2.St)(H':Hp):Prop
 | mk (x1 x2 x3 x4 x5 x6 x7 x8 x9 x10 x11:Option V):σ=[some (.ref a),x1,x2,x3,x4,x5,x6,x7,x8,x9,x10,x11]->Same H H'->LwI a H σ H'
inductive LoI (a:Addr)(x1:Option V)(p:Addr)(v u u3:V)(H:Hp)(σ:L2.St)(H':Hp):Prop
 | mk (x6 x7 x8 x9 x10 x11:Option V):σ=[some (.ref a),x1,some (.ref p),some v,some u,some u3,x6,x7,x8,x9,x10,x11]->Same H H'->LoI a x1 p v u u3 H σ H'
inductive LpI (a:Addr)(x1:Option V)(p:Addr)(v u u3 y:V)(due:Bool)(Hd:Addr)(h g:Hs)(H:Hp)(i:Nat)(σ:L2.St)(H':Hp):Prop
 | mk (x9 x10 x11:Option V):σ=[some (.ref a),x1,some (.ref p),some v,some u,some u3,some y,some (.bl due),some (.ref Hd),x9,x10,x11]->Same H H'->(due=true->1<=i->∃ (kp:Addr) (X Y:List (List Int×Str)),NK h g X Y/\x11=some (.ref kp)/\H' kp=some (.dK (cu (X.map (·.2)) (Y.map (·.2)))))->LpI a x1 p v u u3 y due Hd h g H i σ H'
section
variable {P:Program}{w:World}{K:PySem.W.Frag}{mg:Str->Option Value}{base:Heap}
theorem eZ:br ["script","k","pool","one","named","twice","other","due","handed","again","found","kept"] ["script"] (ao vB):=scM rfl rfl rfl rfl (by decide +kernel)
theorem xf {f:Addr}{fd:FuncData}(F:Fun K "law" "law" uy f fd)
 {f__law_pool:Addr}{fd__law_pool:FuncData}(n8:bO P w K mg base CX0 1 f__law_pool fd__law_pool ["script","k"] (tU K))(gi:Cal K mg "_law_pool" ["script","k"] f__law_pool fd__law_pool)
 {f__law_house:Addr}{fd__law_house:FuncData}(iB:bO P w K mg base CX0 3 f__law_house fd__law_house ["pool","most"] nz)(dI:Cal K mg "_law_house" ["pool","most"] f__law_house fd__law_house)
 {f__law_named:Addr}{fd__law_named:FuncData}(ni:bO P w K mg base CX0 3 f__law_named fd__law_named ["pool","house"] oG)(fD:Cal K mg "_law_named" ["pool","house"] f__law_named fd__law_named)
 {f__law_changed:Addr}{fd__law_changed:FuncData}(df:bO P w K mg base CX0 3 f__law_changed fd__law_changed ["pool","house"] jD)(bW:Cal K mg "_law_changed" ["pool","house"] f__law_changed fd__law_changed)
 {f__law_rows:Addr}{fd__law_rows:FuncData}(i7:bO P w K mg base CX0 2 f__law_rows fd__law_rows ["house"] mZ)(eO:Cal K mg "_law_rows" ["house"] f__law_rows fd__law_rows)
 {f__law_copy:Addr}{fd__law_copy:FuncData}(eJ:bO P w K mg base CX0 1 f__law_copy fd__law_copy ["house"] pf)(cF:Cal K mg "_law_copy" ["house"] f__law_copy fd__law_copy)
 {f_named_kinds:Addr}{fd_named_kinds:FuncData}(gO:bO P w K mg base CX0 7 f_named_kinds fd_named_kinds ["one","other"] kU)(dm:Cal K mg "named_kinds" ["one","other"] f_named_kinds fd_named_kinds)
 {f__law_makes:Addr}{fd__law_makes:FuncData}(mm:bO P w K mg base CX0 2 f__law_makes fd__law_makes ["names","one","other"] nV)(fq:Cal K mg "_law_makes" ["names","one","other"] f__law_makes fd__law_makes)(eG:mg "range" = none)(wV:mg "max" = none)(mG:mg "min" = none)(cQ:mg "len" = none)(gw:mg "dict" = none):bO P w K mg base CX0 9 f fd ["script"] (uk K):=by
 refine F.ok eZ (fun vs H Q E h=>?_) (fun cdv A outer s H vs Q E hr h=>?_)
 ·obtain⟨a,ns,rfl,_⟩:=h
  rfl
 ·obtain⟨a,ns,rfl,hS,nl,k⟩:=h;have hu:=iH hr;have lim:1276<=sizeLine:=by decide
  have deep:∀ {n:Nat},n<=12->(A.deeper (envOfC "law" (ao vB) s.heap.objs.size f cdv)).units+(n+1) < cLine:=fun {n} h=>aaj (aaE (aas (Nat.succ_le_succ h) (by decide:13<=64)) _) hr.units;refine⟨_,(aj (bF (dJ aaN rfl (eC rfl eG (ae (aw (tu rfl) rfl wV (by decide +kernel) (ae aq (ae (aw (gX rfl) rfl mG (by decide +kernel) (ae aq (ae (aw aS rfl cQ aaQ (ae (pv 0) ah)) ah))) ah))) ah)) (ay (i:=1) eZ.nd rfl (.inl rfl))
   (aj (aF (i:=2) eZ.nd rfl (.inl rfl) (pcl n8 gi (hr.mono (by decide:1<=8)) rfl (ae (pv 0) (ae (pv 1) ah))))
   (aj (aF (i:=3) eZ.nd rfl (.inl rfl) (pcl iB dI (hr.mono (by decide:3<=8)) rfl (ae (pv 2) (ae aq ah))))
   (aj (aF (i:=4) eZ.nd rfl (.inl rfl) (pcl ni fD (hr.mono (by decide:3<=8)) rfl (ae (pv 2) (ae (pv 3) ah))))
   (aj (aF (i:=5) eZ.nd rfl (.inl rfl) (pcl df bW (hr.mono (by decide:3<=8)) rfl (ae (pv 2) (ae (pcl df bW (hr.mono (by decide:3<=8)) rfl (ae (pv 2) (ae (pv 4) ah))) ah))))
   (av (bF (dJ aaN rfl (bN (bU (ae (pv 4) (ae (pcl df bW (hr.mono (by decide:3<=8)) rfl (ae (pv 2) (ae (pv 4) ah))) (ae (pv 5) (ae (pcl df bW (hr.mono (by decide:3<=8)) rfl (ae (pv 2) (ae (pv 3) ah))) (ae (pv 3) (ae (pcl iB dI (hr.mono (by decide:3<=8)) rfl (ae (pv 2) (ae aq ah))) ah)))))))) (ay (i:=6) eZ.nd rfl (.inl rfl))
    (aj (aF (i:=7) eZ.nd rfl (.inl rfl) (gR (gk ic (aw aS rfl cQ aaQ (ae (bj cx (pv 3) aq (fun _ _=>rfl)) ah)) (aw aS rfl cQ aaQ (ae (bj cx (pv 6) aq (fun _ _=>rfl)) ah)) (aZ _)) (mJ (gk rG (pcl i7 eO (hr.mono (by decide:2<=8)) rfl (ae (pv 3) ah)) (pcl i7 eO (hr.mono (by decide:2<=8)) rfl (ae (pv 6) ah)) (aZ _)))))
    (aj (aF (i:=8) eZ.nd rfl (.inl rfl) (bU (ae (pcl eJ cF (hr.mono (by decide:1<=8)) rfl (ae (pv 3) ah)) (ae (pcl eJ cF (hr.mono (by decide:1<=8)) rfl (ae (pv 6) ah)) ah))))
    (av (bF (dJ aaN rfl (eC rfl eG (ae aq ah)) (ay (i:=9) eZ.nd rfl (.inl rfl))
     (aj (aF (i:=10) eZ.nd rfl (.inl rfl) (pcl gO dm (hr.mono (by decide:7<=8)) rfl (ae (bj bg (pv 8) aq (fun _ _=>rfl)) (ae (bj bg (pv 8) aq (fun _ _=>rfl)) ah))))
     (aj (dk (PW.pt (qy (aT xE (gk wj (pv 10) vM (aZ _)) (pv 7) (aZ _)) (j7 (PW.pt (jq (iw (pv 7)) (hZ (kE (iw (pcl mm fq (hr.mono (by decide:2<=8)) rfl (ae (pv 10) (ae (pv 3) (ae (pv 6) ah))))))))))))
      (av (bt jP)) bw)
     (aj (dk (aT ft (pv 8) (bU (ae (pv 3) (ae (pv 6) ah))) (aZ _))
      (av (bt jP)) bw)
     (aj (bF (dk (PW.pt (jq (aT ic (pv 9) aq (aZ _)) (hZ (iw (pv 7)))))
      (aj (aF (i:=11) eZ.nd rfl (.inl rfl) (dz jK rfl gw (by decide +kernel) (ae (pv 10) ah)))
      (av (cW (xV abt aev PySem.F.type_dict_clear rK (pv 10))))) bw))
     (av (dk (PW.pt (jq (aT ic (pv 9) aq (aZ _)) (jq (iw (pv 7)) (hZ (aT rY (pv 10) (pv 11) (aZ _))))))
      (av (bt jP)) bw))))))))))))))))))))
   (av (bt (gk sP (pcl gO dm (hr.mono (by decide:7<=8)) rfl (ae xJ (ae xJ ah))) pX (aZ _))))),?_⟩
  refine⟨fun σ H'=>LwI a H σ H',?_,?_⟩
  ·rintro σ H' ⟨x1,x2,x3,x4,x5,x6,x7,x8,x9,x10,x11,rfl,_⟩;refine⟨zZ _,fun ka na=>⟨zZ _,fun kb nb=>⟨by show 2<=sizeLine;lia,fun kt nt=>⟨zZ _,fun ma oa=>⟨zZ _,fun mb ob=>⟨by show 2<=sizeLine;lia,fun mt ot=>?_⟩⟩⟩⟩⟩⟩;have w1:Same H' (upd H' ka (.lst [])):=ar na;have w2:=ar (o:=.lst []) nb;have w3:=ar (o:=.tup [.ref ka,.ref kb]) nt;have w4:=ar (o:=.lst []) oa;have w5:=ar (o:=.lst []) ob;have w6:=ar (o:=.tup [.ref ma,.ref mb]) ot;have h1:HouseAt (upd (upd (upd (upd (upd (upd H' ka (.lst [])) kb (.lst [])) kt (.tup [.ref ka,.ref kb])) ma (.lst [])) mb (.lst [])) mt (.tup [.ref ma,.ref mb])) (.ref kt) ([],[]):=⟨kt,ka,kb,[],rfl,w6 _ _ (w5 _ _ (w4 _ _ af)),w6 _ _ (w5 _ _ (w4 _ _ (w3 _ _ (w2 _ _ af)))),w6 _ _ (w5 _ _ (w4 _ _ (w3 _ _ af))),rfl,fun i v r e=>by simp at e⟩;have h2:HouseAt (upd (upd (upd (upd (upd (upd H' ka (.lst [])) kb (.lst [])) kt (.tup [.ref ka,.ref kb])) ma (.lst [])) mb (.lst [])) mt (.tup [.ref ma,.ref mb])) (.ref mt) ([],[]):=⟨mt,ma,mb,[],rfl,af,w6 _ _ (w5 _ _ af),w6 _ _ af,rfl,fun i v r e=>by simp at e⟩;have ok0:aM ([],[]):=⟨(fun _ z=>nomatch z),zZ _,(fun _ z=>nomatch z),zZ _⟩;have nil0:∀ (ks:List Str),cN ([],[]) ks->ks=[]:=fun ks L=>by
    cases ks with
    | nil=>rfl
    | cons x r=>exact absurd ((L.mem x).mp z7) (by simp [aE,aU])
   refine⟨.ref kt,.ref mt,([],[]),([],[]),rfl,h1,h2,ok0,ok0,zZ _,zZ _,zZ _,zZ _,fun X Y nk=>?_⟩;obtain⟨⟨k1,k2,L1,L2,p1,p2⟩,_,_⟩:=nk;have e1:=nil0 k1 L1;have e2:=nil0 k2 L2;subst e1;subst e2;have eX:X=[]:=List.perm_nil.mp p1;have eY:Y=[]:=List.perm_nil.mp p2;subst eX;subst eY;refine⟨fun _ d Hn sn nd ed=>?_,fun z=>absurd rfl z⟩;refine fun dn ndn=>?_;have sd:Same Hn (upd Hn dn (.dK [])):=ar ndn;exact⟨d,dn,_,_,rfl,rfl,sd _ _ ed,af,aaj (aeK _ 1) (deep (n:=0) (by decide)),⟨rfl,fun k v z=>nomatch z⟩,k _⟩
  refine⟨_,rfl,a,_,rfl,.inl hS,10,_,rfl,1,_,rfl,_,rfl,?_,?_,?_⟩
  ·split<;>split<;>lia
  ·split<;>split<;>lia
  refine gL (fun i σ H'=>LwI a H σ H') ⟨none,none,none,none,none,none,none,none,none,none,none,rfl,Same.refl H⟩ ?_ (fun σ H' z=>z);rintro i σ H1 hi ⟨x1,x2,x3,x4,x5,x6,x7,x8,x9,x10,x11,rfl,s1⟩;have i0:(0:Int)+((i:Nat):Int)=((i:Nat):Int):=Int.zero_add _;have i100:i<=100:=by
   split at hi<;>split at hi<;>lia
  refine⟨_,rfl,_,rfl,a,i,ns,aaG (fun z=>[V.ref a,V.int z]) i0,s1.seq hS,i100,nl,fun p c o np hpo c0 c1=>?_⟩;have s2:Same H1 (upd H1 p o):=ar np;have pl2:aK (upd H1 p o) p c:=⟨o,af,hpo⟩;generalize upd H1 p o=H2 at *;refine⟨_,rfl,p,60,c,rfl,pl2,by decide,c0,by lia,fun v h c3 H3 hh ok few len nk pl3 g1 g2 b3=>?_⟩;have F1:=vC ok few nk len;refine⟨_,rfl,_,rfl,p,v,h,c3,rfl,pl3,hh,ok,F1,nk,by lia,by lia,fun u g c4 H4 hg okg Fg nkg pl4 g3 g4 b4=>?_⟩;obtain⟨U1,KU1,iU1⟩:=F1.kd;obtain⟨U2,KU2,iU2⟩:=Fg.kd;have lg:=Fg.rl;refine⟨_,rfl,_,rfl,_,rfl,p,u,g,c4,U2,rfl,pl4,hg,okg,KU2,iU2,by lia,lg,by lia,by lia,fun u2 g2' c5 H5 h2 ok2 in2 n2 l2 pl5 g5 g6 b5=>⟨p,u2,g2',c5,U2,rfl,pl5,h2,ok2,KU2,in2,by lia,l2,by lia,by lia,fun u3 g3' c6 H6 h3 ok3 in3 n3 l3 pl6 g7 g8 b6=>?_⟩⟩;refine⟨fun σ H'=>LwI a H σ H',fun σ H' z=>z,?_⟩;refine⟨_,rfl,_,rfl,_,rfl,p,u,g,c6,U2,rfl,pl6,(hg.but pl4 b5).but pl5 b6,okg,KU2,iU2,by lia,lg,by lia,by lia,fun u4 g4' c7 H7 h4 ok4 in4 n4 l4 pl7 g9 gA b7=>?_⟩;have b47:=(b5.trans b6).trans b7;have b37:=b4.trans b47;refine⟨_,rfl,_,rfl,_,rfl,p,v,h,c7,U1,rfl,pl7,hh.but pl3 b37,ok,KU1,iU1,by lia,len,by lia,by lia,fun u5 g5' c8 H8 h5 ok5 in5 n5 l5 pl8 gB gC b8=>?_⟩;refine⟨_,rfl,_,rfl,p,4,c8,rfl,pl8,by decide,by lia,by lia,fun u6 g6' c9 H9 h6 ok6 few6 len6 nk6 pl9 gD gE b9=>⟨by show 6<=sizeLine;lia,fun Ls nLs=>⟨Ls,rfl,⟨_,aAA af⟩,?_⟩⟩⟩;have sL:Same H9 (upd H9 Ls (.lst [u,u4,u3,u5,v,u6])):=ar nLs;have eL:(upd H9 Ls (.lst [u,u4,u3,u5,v,u6])) Ls=some (.lst [u,u4,u3,u5,v,u6]):=af;have b49:=(b47.trans b8).trans b9;have hvG:HouseAt (upd H9 Ls (.lst [u,u4,u3,u5,v,u6])) v h:=(hh.but pl3 (b4.trans b49)).same sL;have all:∀ y∈([u,u4,u3,u5,v,u6]:List V),∃ g,HouseAt (upd H9 Ls (.lst [u,u4,u3,u5,v,u6])) y g/\aM g/\FewU 63 g:=fun y hy=>by
   simp only [aab,aaI,aca] at hy;rcases hy with e | e | e | e | e | e
   ·exact⟨g,by rw [e];exact (hg.but pl4 b49).same sL,okg,Fg.up⟩
   ·exact⟨g4',by rw [e];exact (h4.but pl7 (b8.trans b9)).same sL,ok4,.of KU2 in4 (by lia) l4⟩
   ·exact⟨g3',by rw [e];exact (h3.but pl6 ((b7.trans b8).trans b9)).same sL,ok3,.of KU2 in3 (by lia) l3⟩
   ·exact⟨g5',by rw [e];exact (h5.but pl8 b9).same sL,ok5,.of KU1 in5 (by lia) l5⟩
   ·exact⟨h,by rw [e];exact hvG,ok,F1.up⟩
   ·exact⟨g6',by rw [e];exact h6.same sL,ok6,(vC ok6 few6 nk6 (by lia)).up⟩
  have sG:Same H1 (upd H9 Ls (.lst [u,u4,u3,u5,v,u6])):=fun b w e=>sL _ _ (((b3.trans b4).trans b49) _ _ (ag e np) (s2 _ _ e));generalize ([u,u4,u3,u5,v,u6]:List V)=ls at *;generalize upd H9 Ls (.lst ls)=G at *;have F1u:=F1.up;clear pl2 pl3 pl4 pl5 pl6 pl7 pl8 pl9 b3 b4 b5 b6 b7 b8 b9 b47 b37 b49 sL nLs h2 h3 h4 h5 h6 hg hh s2 hpo;refine dN (xs:=ls) (fun j σ' H'=>LoI a (some (.int (0+((i:Nat):Int)))) p v u u3 G σ' H') (.mk x6 x7 x8 x9 x10 x11 rfl (Same.refl G)) (fun j σ H' _ ⟨_,_,_,_,_,_,_,s⟩=>aAA (s _ _ eL)) ?_ (fun σ H' ⟨_,_,_,_,_,_,e,s⟩=>.mk _ _ _ _ _ _ _ _ _ _ _ e (s1.trans (sG.trans s)));rintro j y σ HA hx ⟨y6,y7,y8,y9,yA,yB,rfl,sA⟩;obtain⟨g',hy,okg',Fg'⟩:=all y (aac hx);have hvA:=hvG.same sA;have hyA:=hy.same sA;dsimp only [wZ,wI];refine ub (v:=v) (y:=y) (h:=h) (g:=g') rfl rfl hvA hyA ok okg' F1u Fg' (deep (n:=1) (by decide)) fun due HB sB hdue=>?_;refine⟨_,rfl,v,h,rfl,hvA.same sB,ok,fun t1 a1 D1 ys1 HC sC nD1 tD1 aD1 et1 ea1 eD1 yl1 of1=>⟨_,rfl,y,g',rfl,(hyA.same sB).same sC,okg',fun t2 a2 D2 ys2 HD sD nD2 tD2 aD2 et2 ea2 eD2 yl2 of2=>⟨by show 2<=sizeLine;lia,fun Hd nHd=>?_⟩⟩⟩;have sE:Same HD (upd HD Hd (.lst [.ref t1,.ref t2])):=ar nHd;have eHd:(upd HD Hd (.lst [.ref t1,.ref t2])) Hd=some (.lst [.ref t1,.ref t2]):=af;have w1:HouseAt (upd HD Hd (.lst [.ref t1,.ref t2])) (.ref t1) h:=HouseAt.same (sD.trans sE) ⟨t1,a1,D1,ys1,rfl,et1,ea1,eD1,yl1,fun j v r e1 e2=>(of1 j v r e1 e2).at⟩;have w2:HouseAt (upd HD Hd (.lst [.ref t1,.ref t2])) (.ref t2) g':=HouseAt.same sE ⟨t2,a2,D2,ys2,rfl,et2,ea2,eD2,yl2,fun j v r e1 e2=>(of2 j v r e1 e2).at⟩;have sBE:=(sC.trans sD).trans sE;generalize upd HD Hd (.lst [.ref t1,.ref t2])=HE at *;have sAE:=sB.trans sBE;have hvE:=hvA.same sAE;have hyE:=hyA.same sAE;clear et1 ea1 eD1 of1 et2 ea2 eD2 of2 nD1 nD2 nHd sC sD sE sB sBE;refine⟨fun σ H'=>LpI a (some (.int (0+((i:Nat):Int)))) p v u u3 y due Hd h g' HE 2 σ H',?_,?_⟩
  ·rintro σ HF ⟨z9,zA,zB,rfl,sF,_⟩;exact .mk _ _ _ _ _ _ rfl ((sA.trans sAE).trans sF)
  refine⟨2,rfl,by decide,by decide,?_⟩;refine gL (fun i2 σ H'=>LpI a (some (.int (0+((i:Nat):Int)))) p v u u3 y due Hd h g' HE i2 σ H') (.mk _ _ _ rfl (Same.refl HE) fun _ z=>absurd z (by lia)) ?_ (fun σ H' z=>z);rintro i2 σ HF hi2 ⟨z9,zA,zB,rfl,sF,kept⟩;have hi2:i2 < 2:=hi2;have n300:=Fg'.nk;have n60:=Fg'.rl;refine⟨_,rfl,Hd,_,0,.ref t1,rfl,rfl,aAA (sF _ _ eHd),rfl,_,rfl,Hd,_,1,.ref t2,rfl,rfl,aAA (sF _ _ eHd),rfl,.ref t1,.ref t2,h,g',rfl,w1.same sF,w2.same sF,ok,okg',F1u.nk,n300,F1u.rl,n60,fun X Y nk2=>⟨fun e d HG sG2 nd ed=>?_,fun ne HG sG2=>?_⟩⟩
  ·have ed':due=true:=(hdue X Y nk2).mpr e;subst ed';obtain⟨LX,LY,lXY,no⟩:=nk2.lists ok okg' e;have sFG:=sF.trans sG2;have kbk:∀ x∈Y.map (·.2),bo x:=fun x hx=>by obtain⟨U,_,k,m⟩:=Fg'.few;exact k x (m x ((LY.mem x).mp hx))
   refine⟨_,rfl,rfl,_,rfl,rfl,_,rfl,?_⟩;rw [show (!decide (V.bl (!decide (V.ref d=V.non))=V.bl true))=false by rw [show decide (V.ref d=V.non)=false from aah fun z=>nomatch z];rfl];refine dR ⟨_,rfl,true,rfl,hV ⟨_,rfl,_,rfl,_,rfl,d,v,y,h,g',X.map (·.2),Y.map (·.2),rfl,ed,hvE.same sFG,hyE.same sFG,ok,okg',F1u,Fg',LX,LY,lXY,no,fun HH sH=>⟨true,rfl,dR ?_⟩⟩⟩;have sFH:=sFG.trans sH;refine⟨_,rfl,_,rfl,_,rfl,by show 2<=sizeLine;lia,fun lq nq=>?_⟩;have sq:Same HH (upd HH lq (.lst [v,y])):=ar nq;refine sO (neg:=true) (sq _ _ (sFH _ _ eHd)) af ((w1.same sFH).same sq) ((w2.same sFH).same sq) ((hvE.same sFH).same sq) ((hyE.same sFH).same sq) ok okg' (deep (n:=4) (by decide)) ⟨_,rfl,dR ?_⟩;have edI:=sq _ _ (sH _ _ ed);have sFI:=sFH.trans sq;have ndE:HE d=none:=sF.free nd;generalize upd HH lq (.lst [v,y])=HI at *;have zi:(0:Int)+((i2:Nat):Int)=((i2:Nat):Int):=Int.zero_add _;rcases (by lia:i2=0\/i2=1) with e0 | e0
   ·subst e0;refine⟨fun σ H'=>∃ (zA:Option V) (kp:Addr),σ=[some (.ref a),some (.int (0+((i:Nat):Int))),some (.ref p),some v,some u,some u3,some y,some (.bl true),some (.ref Hd),some (.int (0+((0:Nat):Int))),zA,some (.ref kp)]/\Same HE H'/\H' kp=some (.dK (cu (X.map (·.2)) (Y.map (·.2)))),?_,?_⟩
    ·rintro σ HJ ⟨zA',kp,rfl,sJ,ekp⟩;refine⟨_,rfl,rfl,_,rfl,dR (dR (.mk _ _ _ rfl sJ fun _ _=>⟨kp,X,Y,nk2,rfl,ekp⟩))⟩
    ·refine⟨_,rfl,rfl,_,rfl,hV ⟨_,rfl,true,rfl,hV ⟨_,rfl,d,_,rfl,edI,fun kp nkp=>?_⟩⟩⟩;have sk:Same HI (upd HI kp (.dK (cu (X.map (·.2)) (Y.map (·.2))))):=ar nkp;have ekp:(upd HI kp (.dK (cu (X.map (·.2)) (Y.map (·.2))))) kp=some (.dK (cu (X.map (·.2)) (Y.map (·.2)))):=af;have nkd:kp≠d:=fun z=>by rw [z,edI] at nkp;cases nkp
     have edK:=sk _ _ edI;generalize upd HI kp (.dK (cu (X.map (·.2)) (Y.map (·.2))))=HK at *;refine⟨_,rfl,.inr (.inr (.inl ⟨rfl,.inl ⟨_,edK⟩⟩)),d,_,rfl,rfl,edK,⟨_,kp,rfl,fun b w e=>?_,by rw [ai nkd];exact ekp⟩⟩;rw [ai (ag e ndE)];exact sk _ _ (sFI _ _ e)
   ·subst e0;obtain⟨kp,X',Y',nk3,ezB,ekp⟩:=kept rfl (zP 1);obtain⟨eX,eY⟩:=nk2.one nk3;subst eX;subst eY;subst ezB;refine⟨fun σ H'=>σ=[some (.ref a),some (.int (0+((i:Nat):Int))),some (.ref p),some v,some u,some u3,some y,some (.bl true),some (.ref Hd),some (.int (0+((1:Nat):Int))),some (.ref d),some (.ref kp)]/\H'=HI,?_,?_⟩
    ·rintro σ HJ ⟨rfl,rfl⟩;have ekI:=sq _ _ (sH _ _ (sG2 _ _ ekp));refine⟨_,rfl,rfl,_,rfl,hV ⟨_,rfl,true,rfl,hV ⟨_,rfl,_,rfl,d,kp,_,_,rfl,rfl,edI,ekI,aaj (aeK _ 1) (deep (n:=0) (by decide)),uD LX.nd lXY kbk (deep (n:=1) (by decide)),⟨_,rfl,dR ?_⟩⟩⟩⟩;exact .mk _ _ _ rfl sFI fun _ _=>⟨kp,X,Y,nk2,rfl,ekI⟩
    ·exact⟨_,rfl,rfl,_,rfl,dR (dR ⟨rfl,rfl⟩)⟩
  ·have ed':due=false:=by
    cases hd:due with
    | false=>rfl
    | true=>exact absurd ((hdue X Y nk2).mp hd) ne
   subst ed';have sFG:=sF.trans sG2;refine⟨_,rfl,rfl,_,rfl,rfl,_,rfl,dR ⟨_,rfl,false,rfl,dR (dR ?_)⟩⟩;refine⟨_,rfl,_,rfl,_,rfl,by show 2<=sizeLine;lia,fun lq nq=>?_⟩;have sq:Same HG (upd HG lq (.lst [v,y])):=ar nq;refine sO (neg:=true) (sq _ _ (sFG _ _ eHd)) af ((w1.same sFG).same sq) ((w2.same sFG).same sq) ((hvE.same sFG).same sq) ((hyE.same sFG).same sq) ok okg' (deep (n:=4) (by decide)) ⟨_,rfl,dR ?_⟩;have sFI:=sFG.trans sq;generalize upd HG lq (.lst [v,y])=HI at *;refine⟨fun σ H'=>∃ z9 zA zB,σ=[some (.ref a),some (.int (0+((i:Nat):Int))),some (.ref p),some v,some u,some u3,some y,some (.bl false),some (.ref Hd),some (.int z9),zA,zB]/\Same HE H',?_,?_⟩
   ·rintro σ HJ ⟨q9,qA,qB,rfl,sJ⟩;refine⟨_,rfl,rfl,_,rfl,?_⟩;have fin:LpI a (some (.int (0+((i:Nat):Int)))) p v u u3 y false Hd h g' HE (i2+1) [some (.ref a),some (.int (0+((i:Nat):Int))),some (.ref p),some v,some u,some u3,some y,some (.bl false),some (.ref Hd),some (.int q9),qA,qB] HJ:=.mk _ _ _ rfl sJ fun z=>by cases z
    exact tZ (fun _=>⟨_,rfl,false,rfl,dR (dR fin)⟩) fun _=>dR fin
   ·refine⟨_,rfl,rfl,_,rfl,?_⟩;exact tZ (fun _=>⟨_,rfl,false,rfl,dR ⟨_,_,_,rfl,sFI⟩⟩) fun _=>dR ⟨_,_,_,rfl,sFI⟩
end
set_option autoImplicit true in
theorem all_mk {l:PySem.W.OpenLaw}{w:World}{K:PySem.W.Frag}{h:Heap}{mg:Str->Option Value}{fa f1 f2 f3 f4 f5 f6 f7 f8 f9 f10 f11 f12 f13 f14 f15 f16 f17 f18 f19 f20 f21:Addr}(X:K.In h)(G:h.Ns mainGlobals mg)(hfa:mg "law" = some (.ref fa))
 (a1:nsIn K mainGlobals "is_kind" = some (some (.ref f1)))(l1:K.lookup f1=some ⟨oc1,od1,.func (fnOf "is_kind" "is_kind" (bh jE) (aR jE) (ao jE) .none kV1 dq1 pm1 an1 cd1 ct1),sl1⟩)(c1:codeIn K cd1 "is_kind" = true)(k1:keepIn K (.ref f1)=true)
 (a2:nsIn K mainGlobals "are_kinds" = some (some (.ref f2)))(l2:K.lookup f2=some ⟨oc2,od2,.func (fnOf "are_kinds" "are_kinds" (bh gd) (aR gd) (ao gd) .none kV2 dq2 pm2 an2 cd2 ct2),sl2⟩)(c2:codeIn K cd2 "are_kinds" = true)(k2:keepIn K (.ref f2)=true)
 (a3:nsIn K mainGlobals "are_locks" = some (some (.ref f3)))(l3:K.lookup f3=some ⟨oc3,od3,.func (fnOf "are_locks" "are_locks" (bh ke) (aR ke) (ao ke) .none kV3 dq3 pm3 an3 cd3 ct3),sl3⟩)(c3:codeIn K cd3 "are_locks" = true)(k3:keepIn K (.ref f3)=true)
 (a4:nsIn K mainGlobals "is_room" = some (some (.ref f4)))(l4:K.lookup f4=some ⟨oc4,od4,.func (fnOf "is_room" "is_room" (bh qK) (aR qK) (ao qK) .none kV4 dq4 pm4 an4 cd4 ct4),sl4⟩)(c4:codeIn K cd4 "is_room" = true)(k4:keepIn K (.ref f4)=true)
 (a5:nsIn K mainGlobals "is_house" = some (some (.ref f5)))(l5:K.lookup f5=some ⟨oc5,od5,.func (fnOf "is_house" "is_house" (bh fW) (aR fW) (ao fW) .none kV5 dq5 pm5 an5 cd5 ct5),sl5⟩)(c5:codeIn K cd5 "is_house" = true)(k5:keepIn K (.ref f5)=true)
 (a6:nsIn K mainGlobals "require_house" = some (some (.ref f6)))(l6:K.lookup f6=some ⟨oc6,od6,.func (fnOf "require_house" "require_house" (bh wX) (aR wX) (ao wX) .none kV6 dq6 pm6 an6 cd6 ct6),sl6⟩)(c6:codeIn K cd6 "require_house" = true)(k6:keepIn K (.ref f6)=true)
 (a7:nsIn K mainGlobals "places_of_kinds" = some (some (.ref f7)))(l7:K.lookup f7=some ⟨oc7,od7,.func (fnOf "places_of_kinds" "places_of_kinds" (bh bp) (aR bp) (ao bp) .none kV7 dq7 pm7 an7 cd7 ct7),sl7⟩)(c7:codeIn K cd7 "places_of_kinds" = true)(k7:keepIn K (.ref f7)=true)
 (a8:nsIn K mainGlobals "named_kinds" = some (some (.ref f8)))(l8:K.lookup f8=some ⟨oc8,od8,.func (fnOf "named_kinds" "named_kinds" (bh aQ) (aR aQ) (ao aQ) .none kV8 dq8 pm8 an8 cd8 ct8),sl8⟩)(c8:codeIn K cd8 "named_kinds" = true)(k8:keepIn K (.ref f8)=true)
 (a9:nsIn K mainGlobals "_law_pool" = some (some (.ref f9)))(l9:K.lookup f9=some ⟨oc9,od9,.func (fnOf "_law_pool" "_law_pool" (bh qC) (aR qC) (ao qC) .none kV9 dq9 pm9 an9 cd9 ct9),sl9⟩)(c9:codeIn K cd9 "_law_pool" = true)(k9:keepIn K (.ref f9)=true)
 (a10:nsIn K mainGlobals "_law_take" = some (some (.ref f10)))(l10:K.lookup f10=some ⟨oc10,od10,.func (fnOf "_law_take" "_law_take" (bh oq) (aR oq) (ao oq) .none kV10 dq10 pm10 an10 cd10 ct10),sl10⟩)(c10:codeIn K cd10 "_law_take" = true)(k10:keepIn K (.ref f10)=true)
 (a11:nsIn K mainGlobals "_law_kinds" = some (some (.ref f11)))(l11:K.lookup f11=some ⟨oc11,od11,.func (fnOf "_law_kinds" "_law_kinds" (bh iJ) (aR iJ) (ao iJ) .none kV11 dq11 pm11 an11 cd11 ct11),sl11⟩)(c11:codeIn K cd11 "_law_kinds" = true)(k11:keepIn K (.ref f11)=true)
 (a12:nsIn K mainGlobals "_law_some" = some (some (.ref f12)))(l12:K.lookup f12=some ⟨oc12,od12,.func (fnOf "_law_some" "_law_some" (bh jG) (aR jG) (ao jG) .none kV12 dq12 pm12 an12 cd12 ct12),sl12⟩)(c12:codeIn K cd12 "_law_some" = true)(k12:keepIn K (.ref f12)=true)
 (a13:nsIn K mainGlobals "_law_house" = some (some (.ref f13)))(l13:K.lookup f13=some ⟨oc13,od13,.func (fnOf "_law_house" "_law_house" (bh jV) (aR jV) (ao jV) .none kV13 dq13 pm13 an13 cd13 ct13),sl13⟩)(c13:codeIn K cd13 "_law_house" = true)(k13:keepIn K (.ref f13)=true)
 (a14:nsIn K mainGlobals "_law_copy" = some (some (.ref f14)))(l14:K.lookup f14=some ⟨oc14,od14,.func (fnOf "_law_copy" "_law_copy" (bh jO) (aR jO) (ao jO) .none kV14 dq14 pm14 an14 cd14 ct14),sl14⟩)(c14:codeIn K cd14 "_law_copy" = true)(k14:keepIn K (.ref f14)=true)
 (a15:nsIn K mainGlobals "_law_mixed_up" = some (some (.ref f15)))(l15:K.lookup f15=some ⟨oc15,od15,.func (fnOf "_law_mixed_up" "_law_mixed_up" (bh bI) (aR bI) (ao bI) .none kV15 dq15 pm15 an15 cd15 ct15),sl15⟩)(c15:codeIn K cd15 "_law_mixed_up" = true)(k15:keepIn K (.ref f15)=true)
 (a16:nsIn K mainGlobals "_law_kinds_in" = some (some (.ref f16)))(l16:K.lookup f16=some ⟨oc16,od16,.func (fnOf "_law_kinds_in" "_law_kinds_in" (bh bJ) (aR bJ) (ao bJ) .none kV16 dq16 pm16 an16 cd16 ct16),sl16⟩)(c16:codeIn K cd16 "_law_kinds_in" = true)(k16:keepIn K (.ref f16)=true)
 (a17:nsIn K mainGlobals "_law_named" = some (some (.ref f17)))(l17:K.lookup f17=some ⟨oc17,od17,.func (fnOf "_law_named" "_law_named" (bh bx) (aR bx) (ao bx) .none kV17 dq17 pm17 an17 cd17 ct17),sl17⟩)(c17:codeIn K cd17 "_law_named" = true)(k17:keepIn K (.ref f17)=true)
 (a18:nsIn K mainGlobals "_law_changed" = some (some (.ref f18)))(l18:K.lookup f18=some ⟨oc18,od18,.func (fnOf "_law_changed" "_law_changed" (bh bH) (aR bH) (ao bH) .none kV18 dq18 pm18 an18 cd18 ct18),sl18⟩)(c18:codeIn K cd18 "_law_changed" = true)(k18:keepIn K (.ref f18)=true)
 (a19:nsIn K mainGlobals "_law_rows" = some (some (.ref f19)))(l19:K.lookup f19=some ⟨oc19,od19,.func (fnOf "_law_rows" "_law_rows" (bh bY) (aR bY) (ao bY) .none kV19 dq19 pm19 an19 cd19 ct19),sl19⟩)(c19:codeIn K cd19 "_law_rows" = true)(k19:keepIn K (.ref f19)=true)
 (a20:nsIn K mainGlobals "_law_makes" = some (some (.ref f20)))(l20:K.lookup f20=some ⟨oc20,od20,.func (fnOf "_law_makes" "_law_makes" (bh aX) (aR aX) (ao aX) .none kV20 dq20 pm20 an20 cd20 ct20),sl20⟩)(c20:codeIn K cd20 "_law_makes" = true)(k20:keepIn K (.ref f20)=true)
 (a21:nsIn K mainGlobals "law" = some (some (.ref f21)))(l21:K.lookup f21=some ⟨oc21,od21,.func (fnOf "law" "law" (bh uy) (aR uy) (ao uy) .none kV21 dq21 pm21 an21 cd21 ct21),sl21⟩)(c21:codeIn K cd21 "law" = true)(k21:keepIn K (.ref f21)=true)
 (g_LETTERS:nsIn K mainGlobals "LETTERS" = some (some (.str lettersS t_LETTERS)))
 (g_MOST_LETTERS:nsIn K mainGlobals "MOST_LETTERS" = some (some (.int 4 t_MOST_LETTERS)))
 (g_MOST_LOCKS:nsIn K mainGlobals "MOST_LOCKS" = some (some (.int 4 t_MOST_LOCKS)))
 (z_isinstance:nsIn K mainGlobals "isinstance" = some none)
 (z_str:nsIn K mainGlobals "str" = some none)
 (z_len:nsIn K mainGlobals "len" = some none)
 (z_all:nsIn K mainGlobals "all" = some none)
 (z_list:nsIn K mainGlobals "list" = some none)
 (z_tuple:nsIn K mainGlobals "tuple" = some none)
 (z_sorted:nsIn K mainGlobals "sorted" = some none)
 (z_range:nsIn K mainGlobals "range" = some none)
 (z_min:nsIn K mainGlobals "min" = some none)
 (z_max:nsIn K mainGlobals "max" = some none)
 (z_sum:nsIn K mainGlobals "sum" = some none)
 (z_enumerate:nsIn K mainGlobals "enumerate" = some none)
 (z_set:nsIn K mainGlobals "set" = some none)
 (z_dict:nsIn K mainGlobals "dict" = some none)
 (z_zip:nsIn K mainGlobals "zip" = some none)
 : ∃ fd:FuncData,(∀ (s:Shared) (v:Value),BindsTo s fd ⟨[v],[]⟩ [("script",v)])/\∀ base:Heap,K.In base->base.Ns mainGlobals mg->bO l.prog w K mg base CX0 9 fa fd ["script"] (uk K):=by
 have e:=hfa.symm.trans (aay X G a21);cases e;have mF:=cw (st:=jE) l1 c1 k1;have tS:Cal K mg "is_kind" ["thing"] f1 _:=⟨aay X G a1,k1,mF.binds fun _ _ _ _ _ _ us hl=>match us,hl with | [_],_=>rfl⟩;have jy:=cw (st:=gd) l2 c2 k2;have gg:Cal K mg "are_kinds" ["thing"] f2 _:=⟨aay X G a2,k2,jy.binds fun _ _ _ _ _ _ us hl=>match us,hl with | [_],_=>rfl⟩;have jf:=cw (st:=ke) l3 c3 k3;have oy:Cal K mg "are_locks" ["thing"] f3 _:=⟨aay X G a3,k3,jf.binds fun _ _ _ _ _ _ us hl=>match us,hl with | [_],_=>rfl⟩;have m7:=cw (st:=qK) l4 c4 k4;have tN:Cal K mg "is_room" ["thing"] f4 _:=⟨aay X G a4,k4,m7.binds fun _ _ _ _ _ _ us hl=>match us,hl with | [_],_=>rfl⟩;have kh:=cw (st:=fW) l5 c5 k5;have qI:Cal K mg "is_house" ["thing"] f5 _:=⟨aay X G a5,k5,kh.binds fun _ _ _ _ _ _ us hl=>match us,hl with | [_],_=>rfl⟩;have fj:=cw (st:=wX) l6 c6 k6;have cM:Cal K mg "require_house" ["thing"] f6 _:=⟨aay X G a6,k6,fj.binds fun _ _ _ _ _ _ us hl=>match us,hl with | [_],_=>rfl⟩;have d9:=cw (st:=bp) l7 c7 k7;have cn:Cal K mg "places_of_kinds" ["house"] f7 _:=⟨aay X G a7,k7,d9.binds fun _ _ _ _ _ _ us hl=>match us,hl with | [_],_=>rfl⟩;have gS:=cw (st:=aQ) l8 c8 k8;have dm:Cal K mg "named_kinds" ["one","other"] f8 _:=⟨aay X G a8,k8,gS.binds fun _ _ _ _ _ _ us hl=>match us,hl with | [_,_],_=>rfl⟩;have iS:=cw (st:=qC) l9 c9 k9;have gi:Cal K mg "_law_pool" ["script","k"] f9 _:=⟨aay X G a9,k9,iS.binds fun _ _ _ _ _ _ us hl=>match us,hl with | [_,_],_=>rfl⟩;have gj:=cw (st:=oq) l10 c10 k10;have au:Cal K mg "_law_take" ["pool","many"] f10 _:=⟨aay X G a10,k10,gj.binds fun _ _ _ _ _ _ us hl=>match us,hl with | [_,_],_=>rfl⟩;have ir:=cw (st:=iJ) l11 c11 k11;have cJ:Cal K mg "_law_kinds" ["pool","many"] f11 _:=⟨aay X G a11,k11,ir.binds fun _ _ _ _ _ _ us hl=>match us,hl with | [_,_],_=>rfl⟩;have jt:=cw (st:=jG) l12 c12 k12;have cV:Cal K mg "_law_some" ["pool","kinds","many"] f12 _:=⟨aay X G a12,k12,jt.binds fun _ _ _ _ _ _ us hl=>match us,hl with | [_,_,_],_=>rfl⟩;have iy:=cw (st:=jV) l13 c13 k13;have dI:Cal K mg "_law_house" ["pool","most"] f13 _:=⟨aay X G a13,k13,iy.binds fun _ _ _ _ _ _ us hl=>match us,hl with | [_,_],_=>rfl⟩;have jB:=cw (st:=jO) l14 c14 k14;have cF:Cal K mg "_law_copy" ["house"] f14 _:=⟨aay X G a14,k14,jB.binds fun _ _ _ _ _ _ us hl=>match us,hl with | [_],_=>rfl⟩;have fm:=cw (st:=bI) l15 c15 k15;have cg:Cal K mg "_law_mixed_up" ["pool","things"] f15 _:=⟨aay X G a15,k15,fm.binds fun _ _ _ _ _ _ us hl=>match us,hl with | [_,_],_=>rfl⟩;have fB:=cw (st:=bJ) l16 c16 k16;have aG:Cal K mg "_law_kinds_in" ["house"] f16 _:=⟨aay X G a16,k16,fB.binds fun _ _ _ _ _ _ us hl=>match us,hl with | [_],_=>rfl⟩;have iD:=cw (st:=bx) l17 c17 k17;have fD:Cal K mg "_law_named" ["pool","house"] f17 _:=⟨aay X G a17,k17,iD.binds fun _ _ _ _ _ _ us hl=>match us,hl with | [_,_],_=>rfl⟩;have fY:=cw (st:=bH) l18 c18 k18;have bW:Cal K mg "_law_changed" ["pool","house"] f18 _:=⟨aay X G a18,k18,fY.binds fun _ _ _ _ _ _ us hl=>match us,hl with | [_,_],_=>rfl⟩;have i5:=cw (st:=bY) l19 c19 k19;have eO:Cal K mg "_law_rows" ["house"] f19 _:=⟨aay X G a19,k19,i5.binds fun _ _ _ _ _ _ us hl=>match us,hl with | [_],_=>rfl⟩;have ig:=cw (st:=aX) l20 c20 k20;have fq:Cal K mg "_law_makes" ["names","one","other"] f20 _:=⟨aay X G a20,k20,ig.binds fun _ _ _ _ _ _ us hl=>match us,hl with | [_,_,_],_=>rfl⟩;have yG:=cw (st:=uy) l21 c21 k21;have qL:=aay X G g_LETTERS;have jj:=aay X G g_MOST_LETTERS;have kJ:=aay X G g_MOST_LOCKS;have cI:=aaB X G z_isinstance;have yw:=aaB X G z_str;have cQ:=aaB X G z_len;have xj:=aaB X G z_all;have gI:=aaB X G z_list;have rO:=aaB X G z_tuple;have aN:=aaB X G z_sorted;have eG:=aaB X G z_range;have mG:=aaB X G z_min;have wV:=aaB X G z_max;have wQ:=aaB X G z_sum;have gp:=aaB X G z_enumerate;have vN:=aaB X G z_set;have gw:=aaB X G z_dict;have kT:=aaB X G z_zip;refine⟨fnOf "law" "law" (bh uy) (aR uy) (ao uy) .none kV21 dq21 pm21 an21 cd21 ct21,fun s v=>.of_eq rfl,fun base _ _=>?_⟩;have Gl:Glb mg:=⟨cI,yw,cQ,xj,⟨_,qL⟩,⟨_,jj⟩⟩;have GT:bO l.prog w K mg base CX0 1 _ _ ["pool","many"] fU:=rF gj;have GS:bO l.prog w K mg base CX0 2 _ _ ["pool","kinds","many"] qO:=wx jt gj au eG cQ;have GP:bO l.prog w K mg base CX0 1 _ _ ["script","k"] (tU K):=wH iS cQ;have GK:bO l.prog w K mg base CX0 2 _ _ ["thing"] iV:=uz jy mF tS Gl gI;have GL:bO l.prog w K mg base CX0 3 _ _ ["thing"] oD:=ux jf GK gg cQ aN ⟨_,kJ⟩;have GR:bO l.prog w K mg base CX0 4 _ _ ["thing"] rN:=wc m7 GL oy GK gg cI cQ rO;have GH:bO l.prog w K mg base CX0 5 _ _ ["thing"] nN:=uR kh GR tN GK gg cI cQ rO gI xj;have GQ:bO l.prog w K mg base CX0 6 _ _ ["thing"] wq:=yd fj GH qI;have GM:bO l.prog w K mg base CX0 2 _ _ ["pool","many"] pj:=wb ir GT au eG cQ;have GD:bO l.prog w K mg base CX0 3 _ _ ["pool","most"] nz:=uU iy GT au GM cJ GS cV eG cQ mG aN wQ;have GY:bO l.prog w K mg base CX0 1 _ _ ["house"] pf:=vR jB gI;have G1:bO l.prog w K mg base CX0 1 _ _ ["house"] kR:=tW d9 gp;have G2:bO l.prog w K mg base CX0 7 _ _ ["one","other"] kU:=sI gS GQ cM G1 cn aN kT;have G3:bO l.prog w K mg base CX0 2 _ _ ["pool","things"] nK:=t8 fm GT au cQ gI;have G4:bO l.prog w K mg base CX0 1 _ _ ["house"] qE:=w8 fB gI aN vN;have G5:bO l.prog w K mg base CX0 3 _ _ ["pool","house"] oG:=vj iD G4 aG GM cJ G3 cg GT au gw kT cQ aN;have G6:bO l.prog w K mg base CX0 3 _ _ ["pool","house"] jD:=qp fY G4 aG GY cF GT au cQ aN;have G7:bO l.prog w K mg base CX0 2 _ _ ["house"] mZ:=vQ i5 G4 aG aN;have G8:bO l.prog w K mg base CX0 2 _ _ ["names","one","other"] nV:=vg ig G4 aG cI gw aN kT;exact xf yG GP gi GD dI G5 fD G6 bW G7 eO GY cF G2 dm G8 fq eG wV mG cQ gw
theorem walk {l:PySem.W.OpenLaw}{q:Program}{loose:List Str}{XP:(Str->Option Value)->Heap->Prop}{YP:World->Heap->Prop}{d:DefRec}{K:Params->PySem.W.Frag}(hn:l.most=some 63)(hdf:d.params.defaults=[])
 (hY:∀ (w:World) (h:Heap),YP w h->(K w.params).In h)
 (F:∀ (w:World) (mg:Str->Option Value) (fa:Addr) (h:Heap),(K w.params).In h->h.Ns mainGlobals mg->mg d.name=some (.ref fa) →
  ∃ fd:FuncData,(∀ (s:Shared) (u:Value),BindsTo s fd ⟨[u],[]⟩ [("script",u)])/\∀ base:Heap,(K w.params).In base->base.Ns mainGlobals mg->bO l.prog w (K w.params) mg base CX0 9 fa fd ["script"] (uk (K w.params))) :
 PySem.W.WalkO q loose XP YP l.row.toRowW d [] (fun f vs=>PySem.call f vs) :=
 L2.walk_of (n:=63) (k:=9) (x := "script") (CX:=fun _=>CX0) (sp:=fun w=>uk (K w.params)) hn (by decide) hdf ⟨rfl,by decide,by decide⟩ hY F (fun _ _ a ns hl _ hS=>⟨a,ns,rfl,hS,hl,fun _=>rfl⟩) fun _ _ _ _ _ z=>z
end K7
namespace PySem.W.Fast
def tw10227498488663105068:=0
def tw10296046792909826192:=0
def tw1115465836861168934:=0
def tw12104204264663627889:=0
def tw1232805824661125168:=0
def tw12472134504979221996:=0
def tw13452906363605294196:=0
def tw13622531581681918299:=0
def tw13669550890939468434:=0
def tw13755803502878664271:=0
def tw13851261803973125893:=0
def tw14097982503802742246:=0
def tw14405540425743435784:=0
def tw14630021042853546534:=0
def tw14738461654924092970:=0
def tw14826086134603699805:=0
def tw15251571439216499027:=0
def tw15522138522142158444:=0
def tw16044701549010823488:=0
def tw16079929211150217481:=0
def tw16080006870636241644:=0
def tw16806548362533024211:=0
def tw16811644583104571192:=0
def tw16883040725303802518:=0
def tw16947636764176700146:=0
def tw17230964975384246140:=0
def tw17593777632016251914:=0
def tw18345984399016635555:=0
def tw2109918542241880802:=0
def tw2167946423997643797:=0
def tw2430827926736238062:=0
def tw3326528100507519348:=0
def tw3641796197748407761:=0
def tw4072178501505350855:=0
def tw455082128376731903:=0
def tw4781391042279839896:=0
def tw5675031837957963383:=0
def tw628891101005949921:=0
def tw6339814012896696815:=0
def tw6354638785434600735:=0
def tw6798016428946538834:=0
def tw7073761142031674347:=0
def tw7170461417900262071:=0
def tw7397199495060135954:=0
def tw7971389278470979550:=0
def tw8006464170455102711:=0
def tw8576104259309685948:=0
def tw8653286132377721519:=0
def tw9971888666058957033:=0
end PySem.W.Fast
open PySem PySem.W PyProof.Rows
set_option maxRecDepth 100000 in
set_option maxHeartbeats 0 in
theorem PySem.Challenge.cw_keyrooms_k47_kinds_named_anew_holds : PySem.Challenge.rw_keyrooms_k47_kinds_named_anew.Holds := by
  w_on; o_law; k_head; (case hw => w_witness2)
  k_fill
  refine K7.walk (l := PySem.Challenge.rw_keyrooms_k47_kinds_named_anew) rfl rfl (fun w h Y => PySem.W.kIn_of Y) ?F
  case F =>
    intro w mg fa h KX G hmg
    refine' K7.all_mk KX G hmg _ _ _ _ _ _ _ _ _ _ _ _ _ _ _ _ _ _ _ _ _ _ _ _ _ _ _ _ _ _ _ _ _ _ _ _ _ _ _ _ _ _ _ _ _ _ _ _ _ _ _ _ _ _ _ _ _ _ _ _ _ _ _ _ _ _ _ _ _ _ _ _ _ _ _ _ _ _ _ _ _ _ _ _ _ _ _ _ _ _ _ _ _ _ _ _ _ _ _ _ _ _
    any_goals k_is
